/- BitsTurns: its walk out of the contracts, and the plain facts that it wants. -/
import Derived.Test.YtogeihfmbjjacaaW3
import Derived.Laws.Unary
namespace Go.Proofs.Ytogeihfmbjjacaa
open Go.RowKit
theorem turn_to (w : Nat) (by' : Int) (r : Nat) (hw : w < 4294967296) (h : Hid (Bm.rot w (by' % 32).toNat = r)) (W : World) :
    Calls Try.prog 20 #[.int .u32 w, .int .i64 by'] W fun e w' => e = .returned (.int .u32 r) ∧ W = w' := by
  have := turn_any w by' hw W
  rw [h.out] at this
  exact this
theorem count_to (w : Nat) (r : Nat) (hw : w < 4294967296) (h : Hid (Bm.pcN 32 w = r)) (W : World) :
    Calls Try.prog 18 #[.int .u32 w] W fun e w' => e = .returned (.int .i64 r) ∧ W = w' := by
  have := count_any w hw W
  rw [h.out] at this
  exact this
theorem turns_core (w t r n k v : Nat) (a b x y : Int) (hw : w < 4294967296) (ht : t < 4294967296) (hv32 : v < 4294967296)
    (hx : a.tmod 32 = x) (hy : b.tmod 32 = y) (x1 : -31 ≤ x) (x2 : x ≤ 31) (y1 : -31 ≤ y) (y2 : y ≤ 31)
    (H1 : Hid (Bm.rot w (a % 32).toNat = t)) (H2 : Hid (Bm.rot t (-x % 32).toNat = w)) (H3 : Hid (Bm.rot w ((0 : Int) % 32).toNat = w)) (H9 : Hid (Bm.rot w ((32 : Int) % 32).toNat = w))
    (H4 : Hid (Bm.pcN 32 t = n)) (H5 : Hid (Bm.pcN 32 w = n)) (H6 : Hid (Bm.rot t (b % 32).toNat = r)) (H7 : Hid (Bm.rot w ((x + y) % 32).toNat = r))
    (H8 : Hid (Bm.pcN 32 v = k)) (hv : bits BinOp.xor IntKind.u32 (if IntKind.u32.signed = true then -1 else IntKind.u32.max) (w : Int) = (v : Int))
    (hk : (n : Int) + k = 32) (W : World) :
    Calls Try.prog 5 #[.int .u32 w, .int .i64 a, .int .i64 b] W fun e w' => e = .returned (.bool true) ∧ Below W.heap.size W w' := by
  go_enter Try.func5, Try.ntmps5
  go_wp2_with fail
  refine (shown_any _).mono ?_
  rintro e w1 ⟨rfl, hb⟩
  go_wp2_with fail
  refine (turn_to w a t hw H1 _).mono ?_
  rintro e w2 ⟨rfl, rfl⟩
  go_wp2_with fail
  refine (turn_to t _ w ht H2 _).mono ?_
  rintro e w2 ⟨rfl, rfl⟩
  go_wp2_with fail
  refine (turn_to w 0 w hw H3 _).mono ?_
  rintro e w2 ⟨rfl, rfl⟩
  go_wp2_with fail
  refine (turn_to w 32 w hw H9 _).mono ?_
  rintro e w2 ⟨rfl, rfl⟩
  go_wp2_with fail
  refine (count_to t n ht H4 _).mono ?_
  rintro e w2 ⟨rfl, rfl⟩
  go_wp2_with fail
  refine (count_to w n hw H5 _).mono ?_
  rintro e w2 ⟨rfl, rfl⟩
  go_wp2_with fail
  refine (turn_to t _ r ht H6 _).mono ?_
  rintro e w2 ⟨rfl, rfl⟩
  go_wp2_with fail
  refine (turn_to w _ r hw H7 _).mono ?_
  rintro e w2 ⟨rfl, rfl⟩
  go_wp2_with fail
  refine (count_to w n hw H5 _).mono ?_
  rintro e w2 ⟨rfl, rfl⟩
  go_wp2_with fail
  refine (count_to v k hv32 H8 _).mono ?_
  rintro e w2 ⟨rfl, rfl⟩
  go_wp2
  go_ret
  exact ⟨rfl, hb⟩
theorem not_val (w : Nat) (hw : w < 4294967296) : bits BinOp.xor IntKind.u32 (if IntKind.u32.signed = true then -1 else IntKind.u32.max) (w : Int) = ((4294967295 - w : Nat) : Int) := by
  rw [show (if IntKind.u32.signed = true then (-1 : Int) else IntKind.u32.max) = ((4294967295 : Nat) : Int) by rfl, u32_xor_nat _ _ (by decide) hw]
  congr 1
  apply Nat.eq_of_testBit_eq; intro i
  rw [Nat.testBit_xor, Bm.tb_not w i hw, show (4294967295 : Nat) = 2 ^ 32 - 1 by rfl, Nat.testBit_two_pow_sub_one]
  by_cases hi : i < 32
  · simp [hi]
  · simp [hi, Bm.tb_high hw (show 32 ≤ i by omega)]
theorem pc_not (w : Nat) (n : Nat) (hw : w < 2 ^ n) : Bm.pcN n w + Bm.pcN n (2 ^ n - 1 - w) = n := by
  induction n generalizing w with
  | zero => rfl
  | succ n ih =>
    simp only [Bm.pcN]
    rw [Nat.pow_succ] at hw ⊢
    have := ih (w / 2) (by omega)
    rw [show (2 ^ n * 2 - 1 - w) / 2 = 2 ^ n - 1 - w / 2 by omega]
    omega
theorem pc_not32 (w : Nat) (hw : w < 4294967296) : Bm.pcN 32 w + Bm.pcN 32 (4294967295 - w) = 32 := by
  have h := pc_not w 32 hw
  rw [show 2 ^ 32 - 1 = 4294967295 from rfl] at h
  exact h
theorem tmod32 (a : Int) : -31 ≤ a.tmod 32 ∧ a.tmod 32 ≤ 31 ∧ a.tmod 32 % 32 = a % 32 := by
  by_cases h : 0 ≤ a
  · rw [Int.tmod_eq_emod_of_nonneg h]; omega
  · obtain ⟨n, rfl⟩ : ∃ n : Int, a = -n := ⟨-a, by omega⟩
    rw [Int.neg_tmod, Int.tmod_eq_emod_of_nonneg (show 0 ≤ n by omega)]; omega
theorem turns_walk (w : Nat) (a b : Int) (hw : w < 4294967296) (W : World) :
    Calls Try.prog 5 #[.int .u32 w, .int .i64 a, .int .i64 b] W fun e w' => e = .returned (.bool true) ∧ Below W.heap.size W w' := by
  have hp := pc_not32 w hw
  obtain ⟨a1, a2, a3⟩ := tmod32 a
  obtain ⟨b1, b2, b3⟩ := tmod32 b
  refine turns_core w (Bm.rot w (a % 32).toNat) (Bm.rot w ((a + b) % 32).toNat) (Bm.pcN 32 w) (Bm.pcN 32 (4294967295 - w)) (4294967295 - w) a b (a.tmod 32) (b.tmod 32) hw (Bm.rot_lt _ _ hw (by omega)) (by omega) rfl rfl a1 a2 b1 b2 (Lib.hid rfl) (Lib.hid ?_) (Lib.hid ?_) (Lib.hid ?_) (Lib.hid ?_) (Lib.hid rfl) (Lib.hid ?_) (Lib.hid ?_) (Lib.hid rfl) (not_val w hw) (by omega) W
  · rw [Bm.rot_rot _ _ _ hw (by omega) (by omega), show ((a % 32).toNat + (-a.tmod 32 % 32).toNat) % 32 = 0 by omega, Bm.rot_zero _ hw]
  · exact Bm.rot_zero _ hw
  · exact Bm.rot_zero _ hw
  · exact Bm.pc_rot _ _ hw (by omega)
  · rw [Bm.rot_rot _ _ _ hw (by omega) (by omega)]; exact congrArg (Bm.rot w) (by omega)
  · exact congrArg (Bm.rot w) (by omega)
end Go.Proofs.Ytogeihfmbjjacaa
