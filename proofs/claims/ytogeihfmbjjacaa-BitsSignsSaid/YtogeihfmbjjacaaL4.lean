/- BitsParts out of the contracts. -/
import Derived.Test.YtogeihfmbjjacaaL3
namespace Go.Proofs.Ytogeihfmbjjacaa
open Go.RowKit
set_option maxRecDepth 100000 in
set_option maxHeartbeats 1000000 in
theorem parts_low (w lo hi k cl ch P Q : Nat) (at' q all : Int) (hk1 : 1 ≤ k) (hk2 : k ≤ 31) (hq : at'.tmod 31 = q) (hqk : (0 ≤ q ∧ q + 1 = k) ∨ (q < 0 ∧ -q + 1 = k)) (hlo : lo < 4294967296) (hhi : hi < 4294967296) (hw : w < 4294967296)
    (h1 : GetIs w 0 k lo 0) (h2 : GetIs w k (32 - k) hi 0) (h3 : SignedIs w k (32 - k) (hi) 0) (h4 : SignedIs w 0 32 all 0) (hall : (all != wrap32 w) = false) (hP : (2 : Int) ^ (31 - k) = P) (_hQ : (2 : Int) ^ (32 - k) = Q) (hPl : P ≤ 1073741824) (_hQl : Q ≤ 2147483648) (hP2 : hi < P)
    (h5 : CountIs lo cl) (h6 : CountIs hi ch) (h7 : CountIs w ((cl : Int) + ch)) (hsum : IntKind.u64.wrap ((lo : Int) + IntKind.u64.wrap ((hi : Int) * 2 ^ k)) = w) (hc1 : cl ≤ 32) (hc2 : ch ≤ 32) (W : World) :
    Calls Try.prog 6 #[.int .u32 w, .int .i64 at'] W fun e w' => e = .returned (.bool true) ∧ Below W.heap.size W w' := by
  rcases hqk with ⟨hq1, hq2⟩ | ⟨hq1, hq2⟩
  · have hq3 : q ≤ 30 := by omega
    go_enter Try.func6, Try.ntmps6
    go_wp2_with fail
    refine (shown_any _).mono ?_
    rintro e w1 ⟨rfl, hb1⟩
    go_wp2_with fail
    refine (h1 _).mono ?_
    rintro e w2 ⟨rfl, hb2⟩
    go_wp2_with fail
    refine (h2 _).mono ?_
    rintro e w3 ⟨rfl, hb3⟩
    go_wp2_with fail
    refine (h3 _).mono ?_
    rintro e w4 ⟨rfl, hb4⟩
    go_wp2_with fail
    refine (h4 _).mono ?_
    rintro e w5 ⟨rfl, hb5⟩
    go_wp2_with fail
    refine (h5 _).mono ?_
    rintro e w6 ⟨rfl, rfl⟩
    go_wp2_with fail
    refine (h6 _).mono ?_
    rintro e w6 ⟨rfl, rfl⟩
    go_wp2_with fail
    refine (h7 _).mono ?_
    rintro e w6 ⟨rfl, rfl⟩
    go_wp2
    go_ret
    exact ⟨rfl, below2 (below3 hb1 hb2 hb3) (below2 hb4 hb5)⟩
  · have hq3 : -30 ≤ q := by omega
    go_enter Try.func6, Try.ntmps6
    go_wp2_with fail
    refine (shown_any _).mono ?_
    rintro e w1 ⟨rfl, hb1⟩
    go_wp2_with fail
    refine (h1 _).mono ?_
    rintro e w2 ⟨rfl, hb2⟩
    go_wp2_with fail
    refine (h2 _).mono ?_
    rintro e w3 ⟨rfl, hb3⟩
    go_wp2_with fail
    refine (h3 _).mono ?_
    rintro e w4 ⟨rfl, hb4⟩
    go_wp2_with fail
    refine (h4 _).mono ?_
    rintro e w5 ⟨rfl, hb5⟩
    go_wp2_with fail
    refine (h5 _).mono ?_
    rintro e w6 ⟨rfl, rfl⟩
    go_wp2_with fail
    refine (h6 _).mono ?_
    rintro e w6 ⟨rfl, rfl⟩
    go_wp2_with fail
    refine (h7 _).mono ?_
    rintro e w6 ⟨rfl, rfl⟩
    go_wp2
    go_ret
    exact ⟨rfl, below2 (below3 hb1 hb2 hb3) (below2 hb4 hb5)⟩
set_option maxRecDepth 100000 in
set_option maxHeartbeats 1000000 in
theorem parts_high (w lo hi k cl ch P Q : Nat) (at' q all : Int) (hk1 : 1 ≤ k) (hk2 : k ≤ 31) (hq : at'.tmod 31 = q) (hqk : (0 ≤ q ∧ q + 1 = k) ∨ (q < 0 ∧ -q + 1 = k)) (hlo : lo < 4294967296) (hhi : hi < 4294967296) (hw : w < 4294967296)
    (h1 : GetIs w 0 k lo 0) (h2 : GetIs w k (32 - k) hi 0) (h3 : SignedIs w k (32 - k) ((hi : Int) - Q) 0) (h4 : SignedIs w 0 32 all 0) (hall : (all != wrap32 w) = false) (hP : (2 : Int) ^ (31 - k) = P) (hQ : (2 : Int) ^ (32 - k) = Q) (hPl : P ≤ 1073741824) (hQl : Q ≤ 2147483648) (hP2 : P ≤ hi)
    (h5 : CountIs lo cl) (h6 : CountIs hi ch) (h7 : CountIs w ((cl : Int) + ch)) (hsum : IntKind.u64.wrap ((lo : Int) + IntKind.u64.wrap ((hi : Int) * 2 ^ k)) = w) (hc1 : cl ≤ 32) (hc2 : ch ≤ 32) (W : World) :
    Calls Try.prog 6 #[.int .u32 w, .int .i64 at'] W fun e w' => e = .returned (.bool true) ∧ Below W.heap.size W w' := by
  rcases hqk with ⟨hq1, hq2⟩ | ⟨hq1, hq2⟩
  · have hq3 : q ≤ 30 := by omega
    go_enter Try.func6, Try.ntmps6
    go_wp2_with fail
    refine (shown_any _).mono ?_
    rintro e w1 ⟨rfl, hb1⟩
    go_wp2_with fail
    refine (h1 _).mono ?_
    rintro e w2 ⟨rfl, hb2⟩
    go_wp2_with fail
    refine (h2 _).mono ?_
    rintro e w3 ⟨rfl, hb3⟩
    go_wp2_with fail
    refine (h3 _).mono ?_
    rintro e w4 ⟨rfl, hb4⟩
    go_wp2_with fail
    refine (h4 _).mono ?_
    rintro e w5 ⟨rfl, hb5⟩
    go_wp2_with fail
    refine (h5 _).mono ?_
    rintro e w6 ⟨rfl, rfl⟩
    go_wp2_with fail
    refine (h6 _).mono ?_
    rintro e w6 ⟨rfl, rfl⟩
    go_wp2_with fail
    refine (h7 _).mono ?_
    rintro e w6 ⟨rfl, rfl⟩
    go_wp2
    go_ret
    exact ⟨rfl, below2 (below3 hb1 hb2 hb3) (below2 hb4 hb5)⟩
  · have hq3 : -30 ≤ q := by omega
    go_enter Try.func6, Try.ntmps6
    go_wp2_with fail
    refine (shown_any _).mono ?_
    rintro e w1 ⟨rfl, hb1⟩
    go_wp2_with fail
    refine (h1 _).mono ?_
    rintro e w2 ⟨rfl, hb2⟩
    go_wp2_with fail
    refine (h2 _).mono ?_
    rintro e w3 ⟨rfl, hb3⟩
    go_wp2_with fail
    refine (h3 _).mono ?_
    rintro e w4 ⟨rfl, hb4⟩
    go_wp2_with fail
    refine (h4 _).mono ?_
    rintro e w5 ⟨rfl, hb5⟩
    go_wp2_with fail
    refine (h5 _).mono ?_
    rintro e w6 ⟨rfl, rfl⟩
    go_wp2_with fail
    refine (h6 _).mono ?_
    rintro e w6 ⟨rfl, rfl⟩
    go_wp2_with fail
    refine (h7 _).mono ?_
    rintro e w6 ⟨rfl, rfl⟩
    go_wp2
    go_ret
    exact ⟨rfl, below2 (below3 hb1 hb2 hb3) (below2 hb4 hb5)⟩
theorem pc_le (n w : Nat) (hw : w < 2 ^ n) (m : Nat) : Bm.pcN (n + m) w = Bm.pcN n w := by
  induction n generalizing w with
  | zero =>
    have : w = 0 := by simpa using hw
    subst this; rw [Bm.pcN_zero, Bm.pcN_zero]
  | succ n ih =>
    rw [show n + 1 + m = n + m + 1 by omega]
    simp only [Bm.pcN]
    rw [ih (w / 2) (by rw [Nat.pow_succ] at hw; omega)]
theorem pc_split (w k : Nat) (hw : w < 4294967296) (hk : k ≤ 32) : Bm.pcN 32 (w % 2 ^ k) + Bm.pcN 32 (w / 2 ^ k) = Bm.pcN 32 w := by
  have h1 := Bm.pcTo_add w k (32 - k)
  rw [show k + (32 - k) = 32 by omega, Bm.pcTo_pcN, Bm.pcTo_pcN (w / 2 ^ k)] at h1
  have h2 : Bm.pcTo w k = Bm.pcTo (w % 2 ^ k) k := Bm.pcTo_congr fun i hi => by rw [Nat.testBit_mod_two_pow]; simp [hi]
  have h3 := pc_le k (w % 2 ^ k) (Nat.mod_lt _ (Nat.two_pow_pos k)) (32 - k)
  have hd : w / 2 ^ k < 2 ^ (32 - k) := by
    rw [Nat.div_lt_iff_lt_mul (Nat.two_pow_pos k), ← Nat.pow_add, show 32 - k + k = 32 by omega]; exact hw
  have h4 := pc_le (32 - k) (w / 2 ^ k) hd k
  rw [show k + (32 - k) = 32 by omega] at h3
  rw [show 32 - k + k = 32 by omega] at h4
  rw [h3, h4, h1, h2, Bm.pcTo_pcN]
theorem tmod31 (a : Int) : (0 ≤ a.tmod 31 ∧ a.tmod 31 + 1 = (a.natAbs % 31 + 1 : Nat)) ∨ (a.tmod 31 < 0 ∧ -a.tmod 31 + 1 = (a.natAbs % 31 + 1 : Nat)) := by
  have h := Int.natAbs_tmod a 31
  rw [show Int.natAbs 31 = 31 from rfl] at h
  omega
theorem fld_high (w k : Nat) (hw : w < 4294967296) (hk : k ≤ 32) : Bm.fld w k (32 - k) = w / 2 ^ k := by
  unfold Bm.fld
  apply Nat.mod_eq_of_lt
  rw [Nat.div_lt_iff_lt_mul (Nat.two_pow_pos k), ← Nat.pow_add, show 32 - k + k = 32 by omega]; exact hw
theorem fld_low (w k : Nat) : Bm.fld w 0 k = w % 2 ^ k := by unfold Bm.fld; simp
theorem sgn32 (w : Nat) (hw : w < 4294967296) : Bm.sgn (Bm.fld w 0 32) 32 = wrap32 w := by
  rw [fld_low, Nat.mod_eq_of_lt (show w < 2 ^ 32 from hw)]
  unfold Bm.sgn wrap32
  rw [show (2 : Nat) ^ (32 - 1) = 2147483648 from rfl, show (2 : Nat) ^ 32 = 4294967296 from rfl]
  split <;> omega
theorem parts_walk (w : Nat) (at' : Int) (hw : w < 4294967296) (W : World) :
    Calls Try.prog 6 #[.int .u32 w, .int .i64 at'] W fun e w' => e = .returned (.bool true) ∧ Below W.heap.size W w' := by
  have hk := tmod31 at'
  have hk2 : at'.natAbs % 31 + 1 ≤ 31 := by omega
  have hk1 : 1 ≤ at'.natAbs % 31 + 1 := by omega
  generalize at'.natAbs % 31 + 1 = k at *
  have f1 : Fit 0 k := ⟨by omega, by omega, by omega⟩
  have f2 : Fit k (32 - k) := ⟨by omega, by omega, by omega⟩
  have f3 : Fit 0 32 := ⟨by omega, by omega, by omega⟩
  have g1 := get_fit hw f1
  have g2 := get_fit hw f2
  have g3 := signed_fit hw f2
  have g4 := signed_fit hw f3
  rw [show (0 : Int).toNat = 0 from rfl, Int.toNat_natCast, fld_low] at g1
  rw [show ((32 : Int) - k).toNat = 32 - k by omega, Int.toNat_natCast, fld_high w k hw (by omega)] at g2 g3
  rw [show (0 : Int).toNat = 0 from rfl, show (32 : Int).toNat = 32 from rfl, sgn32 w hw] at g4
  have hp := Nat.two_pow_pos k
  have hhi : w / 2 ^ k < 4294967296 := Nat.lt_of_le_of_lt (Nat.div_le_self _ _) hw
  have hlo : w % 2 ^ k < 4294967296 := Nat.lt_of_le_of_lt (Nat.mod_le _ _) hw
  have c1 := count_any (w % 2 ^ k) hlo
  have c2 := count_any (w / 2 ^ k) hhi
  have c3 := count_any w hw
  rw [← pc_split w k hw (by omega)] at c3
  have hdm := Nat.div_add_mod w (2 ^ k)
  have hsum : IntKind.u64.wrap (((w % 2 ^ k : Nat) : Int) + IntKind.u64.wrap (((w / 2 ^ k : Nat) : Int) * 2 ^ k)) = (w : Int) := by
    rw [show ((w / 2 ^ k : Nat) : Int) * 2 ^ k = ((2 ^ k * (w / 2 ^ k) : Nat) : Int) by rw [Nat.mul_comm]; simp]
    generalize 2 ^ k * (w / 2 ^ k) = X at *
    generalize w % 2 ^ k = Y at *
    rw [IntKind.wrap_u64, IntKind.wrap_u64]; omega
  have hP : (2 : Int) ^ (31 - k) = ((2 ^ (31 - k) : Nat) : Int) := by simp
  have hQ : (2 : Int) ^ (32 - k) = ((2 ^ (32 - k) : Nat) : Int) := by simp
  have hPl : 2 ^ (31 - k) ≤ 1073741824 := by have := Nat.pow_le_pow_right (n := 2) (by omega) (show 31 - k ≤ 30 by omega); simpa using this
  have hQl : 2 ^ (32 - k) ≤ 2147483648 := by have := Nat.pow_le_pow_right (n := 2) (by omega) (show 32 - k ≤ 31 by omega); simpa using this
  have l1 := Bm.pcN_le 32 (w % 2 ^ k)
  have l2 := Bm.pcN_le 32 (w / 2 ^ k)
  unfold Bm.sgn at g3
  rw [show 32 - k - 1 = 31 - k by omega] at g3
  have hall : (wrap32 (w : Int) != wrap32 (w : Int)) = false := by simp
  by_cases hlt : w / 2 ^ k < 2 ^ (31 - k)
  · rw [if_pos hlt] at g3
    exact parts_low w _ _ k _ _ _ _ at' _ _ hk1 hk2 rfl hk hlo hhi hw g1 g2 g3 g4 hall hP hQ hPl hQl hlt c1 c2 c3 hsum l1 l2 W
  · rw [if_neg hlt] at g3
    exact parts_high w _ _ k _ _ _ _ at' _ _ hk1 hk2 rfl hk hlo hhi hw g1 g2 g3 g4 hall hP hQ hPl hQl (by omega) c1 c2 c3 hsum l1 l2 W
end Go.Proofs.Ytogeihfmbjjacaa
