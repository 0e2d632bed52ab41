/- The contracts of the document's own answers (package catnapref1): each walked whole. -/
import Derived.Test.YtogeihfmbjjacaaW1
namespace Go.Proofs.Ytogeihfmbjjacaa
open Go.RowKit

theorem bit_val (w i : Nat) (hw : w < 4294967296) : (bits BinOp.and IntKind.u32 ((w : Int) / 2 ^ i) 1 == 1) = w.testBit i := by
  have h1 : w / 2 ^ i < 4294967296 := Nat.lt_of_le_of_lt (Nat.div_le_self _ _) hw
  rw [show (w : Int) / 2 ^ i = ((w / 2 ^ i : Nat) : Int) by simp, show (1 : Int) = ((1 : Nat) : Int) by rfl, u32_and_nat _ _ h1 (by decide), Nat.and_one_is_mod, Nat.testBit_eq_decide_div_mod_eq]
  rcases Nat.mod_two_eq_zero_or_one (w / 2 ^ i) with h | h <;> simp [h]
theorem ret_bool {a b : Bool} (h : a = b) : Ending.returned (.bool a) = .returned (.bool b) := by rw [h]
theorem bit_nat (w i : Nat) (hw : w < 4294967296) (hi : i < 32) (W : World) :
    Calls Try.prog 26 #[.int .u32 w, .int .i64 i] W fun e w' => e = .returned (.bool (w.testBit i)) ∧ W = w' := by
  have h := Lib.hid (bit_val w i hw)
  go_enter Try.func26, Try.ntmps26
  go_wp2
  go_ret
  exact ⟨ret_bool h.out, rfl⟩
theorem bit_at (w : Nat) (i : Int) (b : Bool) (hw : w < 4294967296) (h0 : 0 ≤ i) (hi : i < 32) (hb : w.testBit i.toNat = b) (W : World) :
    Calls Try.prog 26 #[.int .u32 w, .int .i64 i] W fun e w' => e = .returned (.bool b) ∧ W = w' := by
  obtain ⟨n, rfl⟩ := Int.eq_ofNat_of_zero_le h0
  rw [Int.toNat_natCast] at hb; subst hb
  exact bit_nat w n hw (by omega) W
theorem rright_yes (low m : Nat) (hm1 : 1 ≤ m) (hm : low + m ≤ 32) (W : World) :
    Calls Try.prog 25 #[.int .i64 low, .int .i64 m] W fun e w' => e = .returned (.bool true) ∧ W = w' := by
  have hd : decide ((low : Int) ≤ 32 - m) = true := by simp; omega
  go_enter Try.func25, Try.ntmps25
  go_wp2
  go_ret
  exact ⟨rfl, rfl⟩
theorem rget_ok (w low m : Nat) (hw : w < 4294967296) (hm1 : 1 ≤ m) (hm : low + m ≤ 32) (W : World) :
    Calls Try.prog 13 #[.int .u32 w, .int .i64 low, .int .i64 m] W fun e w' => e = .returned (.tuple #[.int .u32 (Bm.fld w low m), .int .i64 0]) ∧ W = w' := by
  go_enter Try.func13, Try.ntmps13
  go_wp2_with (go_at_call 25; refine (rright_yes low m hm1 hm _).mono ?_; rintro e w1 ⟨rfl, rfl⟩)
  go_loop [8, 9] (fun n i => ∃ j : Nat, j ≤ m ∧ i = .int .i64 ((j : Int) - 1) ∧ n = .int .u32 (Bm.fld w (low + j) (m - j))) (fun _ i => (intOf i + 1).toNat)
  case atStart => exact ⟨m, Nat.le_refl _, rfl, by rw [Nat.sub_self, Bm.fld_zero]; rfl⟩
  case round =>
    obtain ⟨j, hj, rfl, rfl⟩ := hrel
    by_cases h0 : j = 0
    · subst h0
      go_wp2
      go_ret2
      exact ⟨ret_ints (by simp), rfl⟩
    · have hs := Bm.fld_step w (low + j - 1) (m - j)
      rw [show low + j - 1 + 1 = low + j by omega, show m - j + 1 = m - (j - 1) by omega] at hs
      have hn : Bm.fld w (low + j) (m - j) < 2147483648 := Nat.lt_of_lt_of_le (Bm.fld_lt _ _ _) (by have := Nat.pow_le_pow_right (n := 2) (by omega) (show m - j ≤ 31 by omega); simpa using this)
      have ei : ((low : Int) + ((j : Int) - 1)).toNat = low + j - 1 := by omega
      cases hb : w.testBit (low + j - 1)
      all_goals
        rw [hb] at hs
        rw [← ei] at hb
        have HS := Lib.hid hs; clear hs
        have HB := Lib.hid hb; clear hb
        clear ei
        generalize Bm.fld w (low + j) (m - j) = n at *
        go_wp2_with (go_at_call 26; refine (bit_at w _ _ hw (by omega) (by omega) HB.out _).mono ?_; rintro e w1 ⟨rfl, rfl⟩)
        go_round
        case rel => exact ⟨j - 1, by omega, by rw [Int.natCast_sub (by omega)]; rfl, by rw [show low + (j - 1) = low + j - 1 by omega, HS.out]; simp⟩
        case measure => simp [intOf]; omega
theorem rcount (w : Nat) (hw : w < 4294967296) (W : World) :
    Calls Try.prog 19 #[.int .u32 w] W fun e w' => e = .returned (.int .i64 (Bm.pcN 32 w)) ∧ W = w' := by
  go_enter Try.func19, Try.ntmps19
  go_wp2
  go_loop [3, 4] (fun n i => ∃ j : Nat, j ≤ 32 ∧ i = .int .i64 j ∧ n = .int .i64 (Bm.pcTo w j)) (fun _ i => 32 - (intOf i).toNat)
  case atStart => exact ⟨0, by omega, rfl, rfl⟩
  case round =>
    obtain ⟨j, hj, rfl, rfl⟩ := hrel
    by_cases h0 : j = 32
    · subst h0
      go_wp2
      go_ret
      exact ⟨ret_int (by rw [Bm.pcTo_pcN]), rfl⟩
    · have hs : Bm.pcTo w (j + 1) = Bm.pcTo w j + Bm.bitn w j := rfl
      rw [Bm.bitn_tb] at hs
      have hn : Bm.pcTo w j ≤ 32 := by rw [Bm.pcTo_pcN]; exact Nat.le_trans (Bm.pcN_le _ _) hj
      cases hb : w.testBit j
      all_goals
        rw [hb] at hs
        rw [← Int.toNat_natCast j] at hb
        have HS := Lib.hid hs; clear hs
        have HB := Lib.hid hb; clear hb
        generalize Bm.pcTo w j = n at *
        go_wp2_with (go_at_call 26; refine (bit_at w _ _ hw (by omega) (by omega) HB.out _).mono ?_; rintro e w1 ⟨rfl, rfl⟩)
        go_round
        case rel => exact ⟨j + 1, by omega, by go_num, by rw [HS.out]; simp⟩
        case measure => simp [intOf]; omega
theorem rturn_at (w : Nat) (by' : Int) (u : Nat) (hu : u < 32) (hw : w < 4294967296) (hk : (0 ≤ by'.tmod 32 ∧ by'.tmod 32 = u) ∨ (by'.tmod 32 < 0 ∧ by'.tmod 32 + 32 = u)) (W : World) :
    Calls Try.prog 21 #[.int .u32 w, .int .i64 by'] W fun e w' => e = .returned (.int .u32 (Bm.rot w u)) ∧ W = w' := by
  rcases hk with ⟨h1, h2⟩ | ⟨h1, h2⟩
  all_goals
    go_enter Try.func21, Try.ntmps21
    go_wp2
    go_loop [0, 5] (fun x k => ∃ j v : Nat, j ≤ u ∧ v < 4294967296 ∧ Hid (v = Bm.rot w (u - j)) ∧ k = .int .i64 j ∧ x = .int .u32 v) (fun _ i => (intOf i).toNat)
    case atStart => exact ⟨u, w, by omega, hw, Lib.hid (by rw [Nat.sub_self, Bm.rot_zero _ hw]), by first | rfl | (rw [← h2]; congr 1; omega), rfl⟩
    case round =>
      clear h1 h2
      obtain ⟨j, v, hj, hv, HV, rfl, rfl⟩ := hrel
      by_cases h0 : j = 0
      · subst h0
        go_wp2
        go_ret
        exact ⟨ret_int (by rw [HV.out]; simp), rfl⟩
      · have HR : Hid (Bm.rot v 1 = Bm.rot w (u - (j - 1))) := by
          rw [HV.out, Bm.rot_rot w _ 1 hw (by omega) (by omega)]; exact congrArg _ (by omega)
        have hb := Bm.bit31 v hv
        have ho := Bm.rot_one v hv
        by_cases ht : 2147483648 ≤ v
        · rw [if_pos ht] at ho
          rw [decide_eq_true ht] at hb
          have HB : Hid (v.testBit (31 : Int).toNat = true) := hb
          clear hb
          have HO := Lib.hid ho; clear ho
          go_wp2_with (go_at_call 26; refine (bit_at v _ _ hv (by omega) (by omega) HB.out _).mono ?_; rintro e w1 ⟨rfl, rfl⟩)
          go_round
          case rel => exact ⟨j - 1, Bm.rot v 1, by omega, Bm.rot_lt _ _ hv (by omega), HR, by rw [Int.natCast_sub (by omega)]; rfl, by rw [HO.out]; exact congrArg (Value.int IntKind.u32) (by omega)⟩
          case measure => simp [intOf]; omega
        · rw [if_neg ht] at ho
          rw [decide_eq_false ht] at hb
          have HB : Hid (v.testBit (31 : Int).toNat = false) := hb
          clear hb
          have HO := Lib.hid ho; clear ho
          go_wp2_with (go_at_call 26; refine (bit_at v _ _ hv (by omega) (by omega) HB.out _).mono ?_; rintro e w1 ⟨rfl, rfl⟩)
          go_round
          case rel => exact ⟨j - 1, Bm.rot v 1, by omega, Bm.rot_lt _ _ hv (by omega), HR, by rw [Int.natCast_sub (by omega)]; rfl, by rw [HO.out]; exact congrArg (Value.int IntKind.u32) (by omega)⟩
          case measure => simp [intOf]; omega
theorem rturn_any (w : Nat) (by' : Int) (hw : w < 4294967296) (W : World) :
    Calls Try.prog 21 #[.int .u32 w, .int .i64 by'] W fun e w' => e = .returned (.int .u32 (Bm.rot w (by' % 32).toNat)) ∧ W = w' :=
  rturn_at w by' _ (by omega) hw (by
    by_cases h : 0 ≤ by'
    · left; rw [Int.tmod_eq_emod_of_nonneg h]; omega
    · obtain ⟨n, rfl⟩ : ∃ n : Int, by' = -n := ⟨-by', by omega⟩
      rw [Int.neg_tmod, Int.tmod_eq_emod_of_nonneg (show 0 ≤ n by omega)]; omega) W
