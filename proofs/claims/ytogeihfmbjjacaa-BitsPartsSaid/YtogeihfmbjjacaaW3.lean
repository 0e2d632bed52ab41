/- The contracts of the document's own answers, more: Put, Signed, and fields that are not right; the law's own example. -/
import Derived.Test.YtogeihfmbjjacaaW2
namespace Go.Proofs.Ytogeihfmbjjacaa
open Go.RowKit

theorem rright_no (low m : Int) (hb : Bad low m) (h1 : -9223372036854775808 ≤ low) (h2 : low ≤ 9223372036854775807) (h3 : -9223372036854775808 ≤ m) (h4 : m ≤ 9223372036854775807) (W : World) :
    Calls Try.prog 25 #[.int .i64 low, .int .i64 m] W fun e w' => e = .returned (.bool false) ∧ W = w' := by
  unfold Bad at hb
  by_cases a1 : m < 1
  · clear hb
    go_enter Try.func25, Try.ntmps25
    go_wp2
    go_ret
    exact ⟨rfl, rfl⟩
  · by_cases a2 : 32 < m
    · clear hb
      go_enter Try.func25, Try.ntmps25
      go_wp2
      go_ret
      exact ⟨rfl, rfl⟩
    · by_cases a3 : low < 0
      · clear hb
        go_enter Try.func25, Try.ntmps25
        go_wp2
        go_ret
        exact ⟨rfl, rfl⟩
      · have a4 : decide (low ≤ 32 - m) = false := by simp; omega
        clear hb
        go_enter Try.func25, Try.ntmps25
        go_wp2
        go_ret
        exact ⟨rfl, rfl⟩
theorem rget_no (w : Int) (low m : Int) (hb : Bad low m) (h1 : -9223372036854775808 ≤ low) (h2 : low ≤ 9223372036854775807) (h3 : -9223372036854775808 ≤ m) (h4 : m ≤ 9223372036854775807) (W : World) :
    Calls Try.prog 13 #[.int .u32 w, .int .i64 low, .int .i64 m] W fun e w' => e = .returned (.tuple #[.int .u32 0, .int .i64 3]) ∧ W = w' := by
  go_enter Try.func13, Try.ntmps13
  go_wp2_with (go_at_call 25; refine (rright_no low m hb h1 h2 h3 h4 _).mono ?_; rintro e w1 ⟨rfl, rfl⟩)
  go_ret2
  exact ⟨rfl, rfl⟩
theorem rput_no (w v : Int) (low m : Int) (hb : Bad low m) (h1 : -9223372036854775808 ≤ low) (h2 : low ≤ 9223372036854775807) (h3 : -9223372036854775808 ≤ m) (h4 : m ≤ 9223372036854775807) (W : World) :
    Calls Try.prog 15 #[.int .u32 w, .int .i64 low, .int .i64 m, .int .u32 v] W fun e w' => e = .returned (.tuple #[.int .u32 0, .int .i64 3]) ∧ W = w' := by
  go_enter Try.func15, Try.ntmps15
  go_wp2_with (go_at_call 25; refine (rright_no low m hb h1 h2 h3 h4 _).mono ?_; rintro e w1 ⟨rfl, rfl⟩)
  go_ret2
  exact ⟨rfl, rfl⟩
theorem rput_arg (w low m v : Nat) (hm1 : 1 ≤ m) (hm : low + m ≤ 32) (h32 : v < 4294967296) (hv : ¬ v < 2 ^ m) (W : World) :
    Calls Try.prog 15 #[.int .u32 w, .int .i64 low, .int .i64 m, .int .u32 v] W fun e w' => e = .returned (.tuple #[.int .u32 0, .int .i64 1]) ∧ W = w' := by
  have HN := Lib.hid hv; clear hv
  go_enter Try.func15, Try.ntmps15
  go_wp2_with (go_at_call 25; refine (rright_yes low m hm1 hm _).mono ?_; rintro e w1 ⟨rfl, rfl⟩)
  go_loop [10] (fun i => ∃ j : Nat, m ≤ j ∧ j ≤ 32 ∧ i = .int .i64 j ∧ Hid (∀ t, m ≤ t → t < j → v.testBit t = false)) (fun i => 32 - (intOf i).toNat)
  case atStart => exact ⟨m, Nat.le_refl _, by omega, rfl, Lib.hid (fun t _ _ => by omega)⟩
  case round =>
    obtain ⟨j, hj, hj2, rfl, HT⟩ := hrel
    by_cases h0 : j = 32
    · subst h0
      exact absurd (Bm.lt_of_tbm fun i hi => by
        by_cases h : i < 32
        · exact HT.out i hi h
        · exact Bm.tb_high h32 (by omega)) HN.out
    · cases hb : v.testBit j
      · have HB : Hid (v.testBit (j : Int).toNat = false) := by rw [Int.toNat_natCast]; exact hb
        have HT2 : Hid (∀ t, m ≤ t → t < j + 1 → v.testBit t = false) := fun t h1 h2 => by
          by_cases h : t = j
          · rw [h]; exact hb
          · exact HT.out t h1 (by omega)
        clear hb
        go_wp2_with (go_at_call 26; refine (bit_at v _ _ h32 (by omega) (by omega) HB.out _).mono ?_; rintro e w1 ⟨rfl, rfl⟩)
        go_round
        case rel => exact ⟨j + 1, by omega, by omega, by go_num, HT2⟩
        case measure => simp [intOf]; omega
      · have HB : Hid (v.testBit (j : Int).toNat = true) := by rw [Int.toNat_natCast]; exact hb
        clear hb
        go_wp2_with (go_at_call 26; refine (bit_at v _ _ h32 (by omega) (by omega) HB.out _).mono ?_; rintro e w1 ⟨rfl, rfl⟩)
        go_ret2
        exact ⟨rfl, rfl⟩
set_option maxHeartbeats 1000000 in
theorem rput_ok (w low m v : Nat) (hw : w < 4294967296) (hm1 : 1 ≤ m) (hm : low + m ≤ 32) (hv : v < 2 ^ m) (W : World) :
    Calls Try.prog 15 #[.int .u32 w, .int .i64 low, .int .i64 m, .int .u32 v] W fun e w' => e = .returned (.tuple #[.int .u32 (Bm.put w low m v), .int .i64 0]) ∧ W = w' := by
  have h32 : v < 4294967296 := Nat.lt_of_lt_of_le hv (by have := Nat.pow_le_pow_right (n := 2) (by omega) (show m ≤ 32 by omega); simpa using this)
  have HP := Lib.hid (fun i => Bm.tb_put w low m v i hw hv hm)
  have HL := Lib.hid (Bm.put_lt w low m v hw hv hm)
  have HV := Lib.hid hv; clear hv
  generalize Bm.put w low m v = P at *
  go_enter Try.func15, Try.ntmps15
  go_wp2_with (go_at_call 25; refine (rright_yes low m hm1 hm _).mono ?_; rintro e w1 ⟨rfl, rfl⟩)
  go_loop [10] (fun i => ∃ j : Nat, m ≤ j ∧ j ≤ 32 ∧ i = .int .i64 j) (fun i => 32 - (intOf i).toNat)
  case atStart => exact ⟨m, Nat.le_refl _, by omega, rfl⟩
  case round =>
    obtain ⟨j, hj, hj2, rfl⟩ := hrel
    by_cases h0 : j = 32
    · subst h0
      clear hj hj2
      go_wp2
      go_loop [11, 12] (fun n i => ∃ j : Nat, j ≤ 32 ∧ i = .int .i64 ((j : Int) - 1) ∧ n = .int .u32 ((P / 2 ^ j : Nat) : Int)) (fun _ i => (intOf i + 1).toNat)
      case atStart => exact ⟨32, by omega, rfl, by rw [Nat.div_eq_of_lt HL.out]; rfl⟩
      case round =>
        obtain ⟨j, hj, rfl, rfl⟩ := hrel
        by_cases h0 : j = 0
        · subst h0
          go_wp2
          go_ret2
          exact ⟨ret_ints (by simp), rfl⟩
        · have hs := Bm.half_step P (j - 1)
          rw [show j - 1 + 1 = j by omega, HP.out] at hs
          have hn : P / 2 ^ j < 2147483648 := by
            have h1 := HL.out
            rcases Nat.lt_or_ge (P / 2 ^ j) 2147483648 with h | h
            · exact h
            · exfalso
              have h2 : P / 2 ^ j ≤ P / 2 ^ 1 := Nat.div_le_div_left (Nat.pow_le_pow_right (by omega) (by omega)) (by omega)
              omega
          by_cases hA : low ≤ j - 1 ∧ j - 1 < low + m
          · rw [if_pos hA] at hs
            have ei : ((j : Int) - 1 - (low : Int)).toNat = j - 1 - low := by omega
            obtain ⟨hA1, hA2⟩ := hA
            cases hb : v.testBit (j - 1 - low)
            all_goals
              rw [hb] at hs
              rw [← ei] at hb
              have HB := Lib.hid hb; clear hb
              have HS := Lib.hid hs; clear hs
              clear ei
              generalize P / 2 ^ j = n at *
              go_wp2_with (go_at_call 26; refine (bit_at v _ _ h32 (by omega) (by omega) HB.out _).mono ?_; rintro e w1 ⟨rfl, rfl⟩)
              go_round
              case rel => exact ⟨j - 1, by omega, by rw [Int.natCast_sub (by omega)]; rfl, by rw [HS.out]; simp⟩
              case measure => simp [intOf]; omega
          · rw [if_neg hA] at hs
            have ei : ((j : Int) - 1).toNat = j - 1 := by omega
            by_cases hlow : j - 1 < low
            all_goals
              cases hb : w.testBit (j - 1)
              all_goals
                rw [hb] at hs
                rw [← ei] at hb
                have HB := Lib.hid hb; clear hb
                have HS := Lib.hid hs; clear hs
                have hge : low + m ≤ j - 1 ∨ j - 1 < low := by omega
                clear ei hA
                generalize P / 2 ^ j = n at *
                go_wp2_with (go_at_call 26; refine (bit_at w _ _ hw (by omega) (by omega) HB.out _).mono ?_; rintro e w1 ⟨rfl, rfl⟩)
                go_round
                case rel => exact ⟨j - 1, by omega, by rw [Int.natCast_sub (by omega)]; rfl, by rw [HS.out]; simp⟩
                case measure => simp [intOf]; omega
    · have HB : Hid (v.testBit (j : Int).toNat = false) := by rw [Int.toNat_natCast]; exact Bm.tb_lt HV.out hj
      go_wp2_with (go_at_call 26; refine (bit_at v _ _ h32 (by omega) (by omega) HB.out _).mono ?_; rintro e w1 ⟨rfl, rfl⟩)
      go_round
      case rel => exact ⟨j + 1, by omega, by omega, by go_num⟩
      case measure => simp [intOf]; omega
theorem sgn_tb (f m : Nat) (hf : f < 2 ^ m) (hm : 1 ≤ m) : f.testBit (m - 1) = decide (¬ f < 2 ^ (m - 1)) := by
  rw [Nat.testBit_eq_decide_div_mod_eq]
  have e : 2 ^ m = 2 ^ (m - 1) * 2 := by rw [← Nat.pow_succ]; congr 1; omega
  have hp := Nat.two_pow_pos (m - 1)
  by_cases h : f < 2 ^ (m - 1)
  · rw [Nat.div_eq_of_lt h]; simp [h]
  · have : f / 2 ^ (m - 1) = 1 := by
      apply Nat.div_eq_of_lt_le <;> omega
    rw [this]; simp; omega
theorem rsigned_ok (w low m : Nat) (hw : w < 4294967296) (hm1 : 1 ≤ m) (hm : low + m ≤ 32) (W : World) :
    Calls Try.prog 17 #[.int .u32 w, .int .i64 low, .int .i64 m] W fun e w' => e = .returned (.tuple #[.int .i32 (Bm.sgn (Bm.fld w low m) m), .int .i64 0]) ∧ W = w' := by
  have hf := Bm.fld_lt w low m
  have hf2 := Bm.fld_lt32 w low m (by omega)
  have hb := sgn_tb _ _ hf hm1
  have ei : ((m : Int) - 1).toNat = m - 1 := by omega
  have ep : 2 ^ m = 2 ^ (m - 1) * 2 := by rw [← Nat.pow_succ]; congr 1; omega
  have hp : 2 ^ (m - 1) ≤ 2147483648 := by have := Nat.pow_le_pow_right (n := 2) (by omega) (show m - 1 ≤ 31 by omega); simpa using this
  have hp2 : (2 : Int) ^ m = ((2 ^ m : Nat) : Int) := by simp
  rw [show m - 1 = ((m : Int) - 1).toNat by omega] at hb
  by_cases hlt : Bm.fld w low m < 2 ^ (m - 1)
  · have hs : Hid (Bm.sgn (Bm.fld w low m) m = (Bm.fld w low m : Int)) := by unfold Bm.sgn; rw [if_pos hlt]; rfl
    have HB := Lib.hid (show (Bm.fld w low m).testBit ((m : Int) - 1).toNat = false by rw [hb]; simp [hlt, ei])
    have hlt2 : Bm.fld w low m < 2147483648 := by omega
    clear hb ep hp hf hp2 hlt ei
    go_enter Try.func17, Try.ntmps17
    go_wp2_with (first | (go_at_call 13; refine (rget_ok w low m hw hm1 hm _).mono ?_; rintro e w1 ⟨rfl, rfl⟩) | (go_at_call 26; refine (bit_at _ _ _ hf2 (by omega) (by omega) HB.out _).mono ?_; rintro e w1 ⟨rfl, rfl⟩))
    go_ret2
    exact ⟨ret_ints (by rw [hs.out]; try (unfold wrap32; omega)), rfl⟩
  · have hs : Hid (Bm.sgn (Bm.fld w low m) m = (Bm.fld w low m : Int) - 2 ^ m) := by rw [hp2]; unfold Bm.sgn; rw [if_neg hlt]; rfl
    have HB := Lib.hid (show (Bm.fld w low m).testBit ((m : Int) - 1).toNat = true by rw [hb]; simp [hlt, ei])
    have q1 : (0 : Int) ≤ 2 ^ m := by rw [hp2]; omega
    have q2 : (2 : Int) ^ m ≤ 4294967296 := by rw [hp2]; omega
    have HW : Hid (wrap32 ((Bm.fld w low m : Int) - 2 ^ m) = (Bm.fld w low m : Int) - 2 ^ m) := by rw [hp2]; unfold wrap32; show _ = _; omega
    clear hb ep hp hf hp2 hlt ei
    go_enter Try.func17, Try.ntmps17
    go_wp2_with (first | (go_at_call 13; refine (rget_ok w low m hw hm1 hm _).mono ?_; rintro e w1 ⟨rfl, rfl⟩) | (go_at_call 26; refine (bit_at _ _ _ hf2 (by omega) (by omega) HB.out _).mono ?_; rintro e w1 ⟨rfl, rfl⟩))
    go_ret2
    exact ⟨ret_ints (by rw [hs.out]; exact HW.out), rfl⟩
theorem rsigned_no (w : Int) (low m : Int) (hb : Bad low m) (h1 : -9223372036854775808 ≤ low) (h2 : low ≤ 9223372036854775807) (h3 : -9223372036854775808 ≤ m) (h4 : m ≤ 9223372036854775807) (W : World) :
    Calls Try.prog 17 #[.int .u32 w, .int .i64 low, .int .i64 m] W fun e w' => e = .returned (.tuple #[.int .i32 0, .int .i64 3]) ∧ W = w' := by
  go_enter Try.func17, Try.ntmps17
  go_wp2_with (go_at_call 13; refine (rget_no w low m hb h1 h2 h3 h4 _).mono ?_; rintro e w1 ⟨rfl, rfl⟩)
  go_ret2
  exact ⟨rfl, rfl⟩
theorem shown_any (W : World) : Calls Try.prog 11 #[] W fun e w' => e = .returned (.bool true) ∧ Below W.heap.size W w' := by
  have h1 : Bm.fld 43981 4 8 = 188 := by decide
  have h := get_ok 43981 4 8 (by omega) (by omega) (by omega) W
  rw [h1] at h
  have H := Lib.hid h; clear h
  go_enter Try.func11, Try.ntmps11
  go_wp2_with (go_at_call 12; refine H.out.mono ?_; rintro e w1 ⟨rfl, hb⟩)
  go_ret
  exact ⟨rfl, hb⟩
theorem mod_any (a n : Int) (hn : 1 ≤ n) (h3 : n ≤ 9223372036854775807) (W : World) :
    Calls Try.prog 22 #[.int .i64 a, .int .i64 n] W fun e w' => e = .returned (.int .i64 (a.natAbs % n.natAbs : Nat)) ∧ W = w' := by
  have hk := Lib.hid (Int.natAbs_tmod a n)
  have hl : a.natAbs % n.natAbs < n.natAbs := Nat.mod_lt _ (by omega)
  generalize a.natAbs % n.natAbs = k at *
  by_cases hs : a.tmod n < 0
  all_goals
    go_enter Try.func22, Try.ntmps22
    go_wp2
    go_ret
    refine ⟨ret_int ?_, rfl⟩
    have := hk.out
    try unfold wrap64
    omega
end Go.Proofs.Ytogeihfmbjjacaa
