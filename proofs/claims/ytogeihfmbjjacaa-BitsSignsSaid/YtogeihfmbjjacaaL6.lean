/- BitsSigns out of the contracts. -/
import Derived.Test.YtogeihfmbjjacaaL5
namespace Go.Proofs.Ytogeihfmbjjacaa
open Go.RowKit
set_option maxHeartbeats 1000000 in
theorem signs_core (w m k P : Nat) (low many n' r1 r3 : Int) (_hw : w < 4294967296) (_hm1 : 1 ≤ m) (hk : k + m ≤ 32) (hr0 : 0 ≤ r1) (hr : 1 + r1 = (m : Int)) (h30 : 0 ≤ r3) (h31 : r3 < 1073741824)
    (m1 : ModIs many 32 r1) (m2 : ModIs low (33 - m) k) (m3 : ModIs n' 1073741824 r3) (hP : (2 : Int) ^ (m - 1) = P) (hP1 : 1 ≤ P) (hP2 : P ≤ 2147483648)
    (hend : Hid (∀ v : Int, -P ≤ v → v < P → -536870912 ≤ v → v < 536870912 → ∃ x p : Nat, GetIs (v % 4294967296) 0 m x 0 ∧ PutIs w k m x p 0 ∧ SignedIs p k m v 0)) (W : World) :
    Calls Try.prog 10 #[.int .u32 w, .int .i64 low, .int .i64 many, .int .i64 n'] W fun e w' => e = .returned (.bool true) ∧ Below W.heap.size W w' := by
  have t0 : r1 ≤ 31 := by omega
  go_enter Try.func10, Try.ntmps10
  go_wp2_with fail
  refine (shown_any _).mono ?_
  rintro e w1 ⟨rfl, hb1⟩
  go_wp2_with fail
  refine (m1 _).mono ?_
  rintro e w2 ⟨rfl, rfl⟩
  go_wp2_with fail
  refine (m2 _).mono ?_
  rintro e w2 ⟨rfl, rfl⟩
  go_wp2_with fail
  refine (m3 _).mono ?_
  rintro e w2 ⟨rfl, rfl⟩
  go_wp2_with fail
  go_loop [12] (fun v => ∃ q : Int, -536870912 ≤ q ∧ q < 536870912 ∧ v = .int .i64 q) (fun v => (intOf v).natAbs)
  case atStart => exact ⟨r3 - 536870912, by omega, by omega, rfl⟩
  case round =>
    obtain ⟨v, hv1, hv2, rfl⟩ := hrel
    by_cases ho : v < -P ∨ P ≤ v
    · rcases ho with ho | ho
      · have hq : v.tdiv 2 = -((-v) / 2) := by
          have h := Int.neg_tdiv (-v) 2
          rw [Int.neg_neg] at h
          rw [h, Int.tdiv_eq_ediv_of_nonneg (by omega)]
        obtain ⟨q, hq2⟩ : ∃ q, q = -((-v) / 2) := ⟨_, rfl⟩
        have q1 : q ≤ -1 := by omega
        have q2 : v < q := by omega
        rw [← hq2] at hq
        clear hq2
        by_cases hz : q = -1
        · subst hz
          obtain ⟨x, p, g1, g2, g3⟩ := hend.out 0 (by omega) (by omega) (by omega) (by omega)
          rw [show (0 : Int) % 4294967296 = 0 by rfl] at g1
          go_wp2_with fail
          refine (g1 _).mono ?_
          rintro e w2 ⟨rfl, hb2⟩
          go_wp2_with fail
          refine (g2 _).mono ?_
          rintro e w3 ⟨rfl, hb3⟩
          go_wp2_with fail
          refine (g3 _).mono ?_
          rintro e w4 ⟨rfl, hb4⟩
          go_wp2
          go_ret
          exact ⟨rfl, below2 hb1 (below3 hb2 hb3 hb4)⟩
        · have z1 : (q == -1) = false := by rw [beq_eq_false_iff_ne]; omega
          have z2 : (q == 0) = false := by rw [beq_eq_false_iff_ne]; omega
          clear hz
          go_wp2_with fail
          go_round
          case rel => exact ⟨q, by omega, by omega, rfl⟩
          case measure => simp [intOf]; omega
      · obtain ⟨q, hq⟩ : ∃ q, v / 2 = q := ⟨_, rfl⟩
        have q1 : 0 ≤ q := by omega
        have q2 : q < v := by omega
        have z1 : (q == -1) = false := by rw [beq_eq_false_iff_ne]; omega
        by_cases hz : q = 0
        · subst hz
          obtain ⟨x, p, g1, g2, g3⟩ := hend.out 0 (by omega) (by omega) (by omega) (by omega)
          rw [show (0 : Int) % 4294967296 = 0 by rfl] at g1
          go_wp2_with fail
          refine (g1 _).mono ?_
          rintro e w2 ⟨rfl, hb2⟩
          go_wp2_with fail
          refine (g2 _).mono ?_
          rintro e w3 ⟨rfl, hb3⟩
          go_wp2_with fail
          refine (g3 _).mono ?_
          rintro e w4 ⟨rfl, hb4⟩
          go_wp2
          go_ret
          exact ⟨rfl, below2 hb1 (below3 hb2 hb3 hb4)⟩
        · have z2 : (q == 0) = false := by rw [beq_eq_false_iff_ne]; omega
          clear hz
          go_wp2_with fail
          go_round
          case rel => exact ⟨q, by omega, by omega, by rw [hq]⟩
          case measure => simp [intOf]; omega
    · have ho1 : -(P : Int) ≤ v := by omega
      have ho2 : v < P := by omega
      obtain ⟨x, p, g1, g2, g3⟩ := hend.out v ho1 ho2 hv1 hv2
      clear ho
      go_wp2_with fail
      refine (g1 _).mono ?_
      rintro e w2 ⟨rfl, hb2⟩
      go_wp2_with fail
      refine (g2 _).mono ?_
      rintro e w3 ⟨rfl, hb3⟩
      go_wp2_with fail
      refine (g3 _).mono ?_
      rintro e w4 ⟨rfl, hb4⟩
      go_wp2
      go_ret
      exact ⟨rfl, below2 hb1 (below3 hb2 hb3 hb4)⟩
theorem signs_end (w m k : Nat) (hw : w < 4294967296) (hm1 : 1 ≤ m) (hk : k + m ≤ 32) (v : Int) (h1 : -((2 ^ (m - 1) : Nat) : Int) ≤ v) (h2 : v < (2 ^ (m - 1) : Nat)) :
    ∃ x p : Nat, GetIs (v % 4294967296) 0 m x 0 ∧ PutIs w k m x p 0 ∧ SignedIs p k m v 0 := by
  obtain ⟨u, hu⟩ : ∃ u : Nat, (u : Int) = v % 4294967296 := ⟨(v % 4294967296).toNat, by omega⟩
  have hu2 : u < 4294967296 := by omega
  have f1 : Fit 0 m := ⟨by omega, by omega, by omega⟩
  have f2 : Fit k m := ⟨by omega, by omega, by omega⟩
  have g1 := get_fit hu2 f1
  rw [Int.toNat_natCast, show (0 : Int).toNat = 0 from rfl, fld_low] at g1
  have hx : u % 2 ^ m < 2 ^ m := Nat.mod_lt _ (Nat.two_pow_pos m)
  have g2 := put_fit hw f2 (by rw [Int.toNat_natCast]; exact hx)
  rw [Int.toNat_natCast, Int.toNat_natCast] at g2
  have g3 := signed_fit (Bm.put_lt w k m _ hw hx (by omega)) f2
  rw [Int.toNat_natCast, Int.toNat_natCast, get_put w k m _ hw hx (by omega)] at g3
  have e : Bm.sgn (u % 2 ^ m) m = v := by
    have ep : 2 ^ m = 2 ^ (m - 1) * 2 := by rw [← Nat.pow_succ]; congr 1; omega
    have ew : 4294967296 = 2 ^ m * 2 ^ (32 - m) := by rw [← Nat.pow_add, show m + (32 - m) = 32 by omega]
    have hp := Nat.two_pow_pos (m - 1)
    have hv : ((u % 2 ^ m : Nat) : Int) = v % ((2 ^ m : Nat) : Int) := by
      rw [Int.natCast_emod, hu]
      have : ((2 ^ m : Nat) : Int) ∣ 4294967296 := ⟨((2 ^ (32 - m) : Nat) : Int), by rw [← Int.natCast_mul, ← ew]; rfl⟩
      exact Int.emod_emod_of_dvd _ this
    unfold Bm.sgn
    generalize u % 2 ^ m = x at *
    rw [ep] at hv hx ⊢
    generalize 2 ^ (m - 1) = P at *
    have hv2 : v % ((P * 2 : Nat) : Int) = if v < 0 then v + (P * 2 : Nat) else v := by
      split
      · rw [← Int.add_emod_right v]; exact Int.emod_eq_of_lt (by omega) (by omega)
      · exact Int.emod_eq_of_lt (by omega) (by omega)
    rw [hv2] at hv
    split at hv <;> split <;> omega
  rw [e] at g3
  rw [← hu]
  exact ⟨_, _, g1, g2, g3⟩
theorem signs_walk (w : Nat) (low many n' : Int) (hw : w < 4294967296) (W : World) :
    Calls Try.prog 10 #[.int .u32 w, .int .i64 low, .int .i64 many, .int .i64 n'] W fun e w' => e = .returned (.bool true) ∧ Below W.heap.size W w' := by
  have m1 := mod_is many 32 (by omega) (by omega)
  rw [show Int.natAbs 32 = 32 from rfl] at m1
  have l1 : many.natAbs % 32 < 32 := Nat.mod_lt _ (by omega)
  generalize many.natAbs % 32 = r1 at *
  obtain ⟨m, hm⟩ : ∃ m, m = 1 + r1 := ⟨_, rfl⟩
  have m2 := mod_is low (33 - m) (by omega) (by omega)
  have l2 : low.natAbs % (33 - (m : Int)).natAbs < (33 - (m : Int)).natAbs := Nat.mod_lt _ (by omega)
  generalize low.natAbs % (33 - (m : Int)).natAbs = k at *
  have m3 := mod_is n' 1073741824 (by omega) (by omega)
  have l3 : n'.natAbs % Int.natAbs 1073741824 < Int.natAbs 1073741824 := Nat.mod_lt _ (by decide)
  rw [show Int.natAbs 1073741824 = 1073741824 from rfl] at m3 l3
  have hp := Nat.two_pow_pos (m - 1)
  have hP2 : 2 ^ (m - 1) ≤ 2147483648 := by have := Nat.pow_le_pow_right (n := 2) (by omega) (show m - 1 ≤ 31 by omega); simpa using this
  exact signs_core w m k (2 ^ (m - 1)) low many n' r1 _ hw (by omega) (by omega) (by omega) (by omega) (by omega) (by omega) m1 m2 m3 (by simp) (by omega) hP2 (Lib.hid fun v a b _ _ => signs_end w m k hw (by omega) (by omega) v a b) W
end Go.Proofs.Ytogeihfmbjjacaa
