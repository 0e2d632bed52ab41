/- The contracts of package bits (Get, Put, Signed, Count, Turn): each walked whole, for every word and field. -/
import Derived.Test.YtogeihfmbjjacaaChecked
import Derived.WalkKit
import Derived.ProofKit
import Derived.WalkLawsBesides
import Derived.Laws.ShiftsVarLaws
import Derived.Lib.Hide
import Derived.Test.YtogeihfmbjjacaaM
namespace Go.Proofs.Ytogeihfmbjjacaa
open Go.RowKit

theorem ret_int {k : IntKind} {a b : Int} (h : a = b) : Ending.returned (.int k a) = .returned (.int k b) := by rw [h]
theorem ret_ints {k j : IntKind} {a b c : Int} (h : a = b) : Ending.returned (.tuple #[.int k a, .int j c]) = .returned (.tuple #[.int k b, .int j c]) := by rw [h]

theorem mask_cast (m low : Nat) (hm : low + m ≤ 32) : ((2 : Int) ^ m - 1) % 4294967296 * 2 ^ low % 4294967296 = (((2 ^ m - 1) * 2 ^ low : Nat) : Int) := by
  have h1 := Bm.mask_lt low m hm
  have h2 := Bm.mask_lt 0 m (by omega)
  have h3 := Nat.two_pow_pos m
  have e : ((2 : Int) ^ m - 1) = ((2 ^ m - 1 : Nat) : Int) := by
    rw [Int.natCast_sub (by omega)]; simp
  rw [e, Int.emod_eq_of_lt (a := ((2 ^ m - 1 : Nat) : Int)) (by omega) (by rw [Nat.pow_zero, Nat.mul_one] at h2; omega)]
  rw [show ((2 ^ m - 1 : Nat) : Int) * 2 ^ low = (((2 ^ m - 1) * 2 ^ low : Nat) : Int) by simp]
  exact Int.emod_eq_of_lt (by omega) (by omega)
theorem get_val (w low m : Nat) (hw : w < 4294967296) (hm : low + m ≤ 32) :
    bits BinOp.and IntKind.u32 (w : Int) (((2 : Int) ^ m - 1) % 4294967296 * 2 ^ low % 4294967296) / 2 ^ low = ((Bm.fld w low m : Nat) : Int) := by
  rw [mask_cast m low hm, u32_and_nat _ _ hw (Bm.mask_lt low m hm), ← Bm.get_and]
  simp

theorem get_ok (w low m : Nat) (hw : w < 4294967296) (hm1 : 1 ≤ m) (hm : low + m ≤ 32) (W : World) :
    Calls Try.prog 12 #[.int .u32 w, .int .i64 low, .int .i64 m] W fun e w' => e = .returned (.tuple #[.int .u32 (Bm.fld w low m), .int .i64 0]) ∧ Below W.heap.size W w' := by
  have hmf : ∀ (fn : Fn) (first cap : Array Value) (w : World), (Instr.makeFunc fn first cap).run Try.prog w = .ok (.func fn first cap) w := fun _ _ _ _ => rfl
  have hd : decide ((low : Int) ≤ 32 - m) = true := by simp; omega
  have hv := Lib.hid (get_val w low m hw hm)
  go_enter Try.func12, Try.ntmps12
  go_wp2
  go_ret2
  exact ⟨ret_ints hv.out, (Below.refl _ _).alloc (Nat.le_refl _) _⟩

theorem room_val (v m : Nat) (hv : v < 4294967296) (hm : m ≤ 32) :
    bits BinOp.andNot IntKind.u32 (v : Int) (((2 : Int) ^ m - 1) % 4294967296) = ((v &&& (4294967295 - (2 ^ m - 1) * 2 ^ 0) : Nat) : Int) := by
  have h := mask_cast m 0 (by omega)
  have h2 := Bm.mask_lt 0 m (by omega)
  rw [Int.pow_zero, Int.mul_one, Int.emod_emod] at h
  rw [h, u32_andNot_nat _ _ hv h2]
theorem put_val (w low m v : Nat) (hw : w < 4294967296) (hm : low + m ≤ 32) (hv : v < 2 ^ m) :
    bits BinOp.or IntKind.u32 (bits BinOp.andNot IntKind.u32 (w : Int) (((2 : Int) ^ m - 1) % 4294967296 * 2 ^ low % 4294967296)) ((v : Int) * 2 ^ low % 4294967296) = ((Bm.put w low m v : Nat) : Int) := by
  have h1 := Bm.mask_lt low m hm
  have h3 : v * 2 ^ low < 4294967296 := Nat.lt_of_le_of_lt (Nat.mul_le_mul_right _ (by omega)) h1
  rw [mask_cast m low hm, u32_andNot_nat _ _ hw h1, show (v : Int) * 2 ^ low = ((v * 2 ^ low : Nat) : Int) by simp, Int.emod_eq_of_lt (by omega) (by omega), u32_or_nat _ _ (Nat.lt_of_le_of_lt Nat.and_le_left hw) h3]
  rfl

set_option maxHeartbeats 400000 in
theorem put_ok (w low m v : Nat) (hw : w < 4294967296) (hm1 : 1 ≤ m) (hm : low + m ≤ 32) (hv : v < 2 ^ m) (W : World) :
    Calls Try.prog 14 #[.int .u32 w, .int .i64 low, .int .i64 m, .int .u32 v] W fun e w' => e = .returned (.tuple #[.int .u32 (Bm.put w low m v), .int .i64 0]) ∧ Below W.heap.size W w' := by
  have hmf : ∀ (fn : Fn) (first cap : Array Value) (w : World), (Instr.makeFunc fn first cap).run Try.prog w = .ok (.func fn first cap) w := fun _ _ _ _ => rfl
  have hd : decide ((low : Int) ≤ 32 - m) = true := by simp; omega
  have h32 : v < 4294967296 := Nat.lt_of_lt_of_le hv (by have := Nat.pow_le_pow_right (n := 2) (by omega) (show m ≤ 32 by omega); simpa using this)
  have hb : (bits BinOp.andNot IntKind.u32 (v : Int) (((2 : Int) ^ m - 1) % 4294967296) != 0) = false := by
    rw [room_val v m h32 (by omega), (Bm.room v m h32 (by omega)).2 hv]; rfl
  have hv := Lib.hid (put_val w low m v hw hm hv)
  go_enter Try.func14, Try.ntmps14
  go_wp2
  go_ret2
  exact ⟨ret_ints hv.out, (Below.refl _ _).alloc (Nat.le_refl _) _⟩
theorem put_arg (w low m v : Nat) (hm1 : 1 ≤ m) (hm : low + m ≤ 32) (h32 : v < 4294967296) (hv : ¬ v < 2 ^ m) (W : World) :
    Calls Try.prog 14 #[.int .u32 w, .int .i64 low, .int .i64 m, .int .u32 v] W fun e w' => e = .returned (.tuple #[.int .u32 0, .int .i64 1]) ∧ Below W.heap.size W w' := by
  have hmf : ∀ (fn : Fn) (first cap : Array Value) (w : World), (Instr.makeFunc fn first cap).run Try.prog w = .ok (.func fn first cap) w := fun _ _ _ _ => rfl
  have hd : decide ((low : Int) ≤ 32 - m) = true := by simp; omega
  have hb : (bits BinOp.andNot IntKind.u32 (v : Int) (((2 : Int) ^ m - 1) % 4294967296) != 0) = true := by
    rw [room_val v m h32 (by omega), bne_iff_ne]; intro h; exact hv ((Bm.room v m h32 (by omega)).1 (by omega))
  clear hv
  go_enter Try.func14, Try.ntmps14
  go_wp2
  go_ret2
  exact ⟨rfl, (Below.refl _ _).alloc (Nat.le_refl _) _⟩
/-- a field that is not right -/
def Bad (low m : Int) : Prop := m < 1 ∨ 32 < m ∨ low < 0 ∨ 32 - m < low
theorem get_no (w : Int) (low m : Int) (hb : Bad low m) (h1 : -9223372036854775808 ≤ low) (h2 : low ≤ 9223372036854775807) (h3 : -9223372036854775808 ≤ m) (h4 : m ≤ 9223372036854775807) (W : World) :
    Calls Try.prog 12 #[.int .u32 w, .int .i64 low, .int .i64 m] W fun e w' => e = .returned (.tuple #[.int .u32 0, .int .i64 3]) ∧ Below W.heap.size W w' := by
  unfold Bad at hb
  by_cases a1 : m < 1
  · clear hb
    go_enter Try.func12, Try.ntmps12
    go_wp2
    go_ret2
    exact ⟨rfl, Below.refl _ _⟩
  · by_cases a2 : 32 < m
    · clear hb
      go_enter Try.func12, Try.ntmps12
      go_wp2
      go_ret2
      exact ⟨rfl, Below.refl _ _⟩
    · by_cases a3 : low < 0
      · clear hb
        go_enter Try.func12, Try.ntmps12
        go_wp2
        go_ret2
        exact ⟨rfl, Below.refl _ _⟩
      · have a4 : decide (low ≤ 32 - m) = false := by simp; omega
        clear hb
        go_enter Try.func12, Try.ntmps12
        go_wp2
        go_ret2
        exact ⟨rfl, Below.refl _ _⟩
theorem put_no (w v : Int) (low m : Int) (hb : Bad low m) (h1 : -9223372036854775808 ≤ low) (h2 : low ≤ 9223372036854775807) (h3 : -9223372036854775808 ≤ m) (h4 : m ≤ 9223372036854775807) (W : World) :
    Calls Try.prog 14 #[.int .u32 w, .int .i64 low, .int .i64 m, .int .u32 v] W fun e w' => e = .returned (.tuple #[.int .u32 0, .int .i64 3]) ∧ Below W.heap.size W w' := by
  unfold Bad at hb
  by_cases a1 : m < 1
  · clear hb
    go_enter Try.func14, Try.ntmps14
    go_wp2
    go_ret2
    exact ⟨rfl, Below.refl _ _⟩
  · by_cases a2 : 32 < m
    · clear hb
      go_enter Try.func14, Try.ntmps14
      go_wp2
      go_ret2
      exact ⟨rfl, Below.refl _ _⟩
    · by_cases a3 : low < 0
      · clear hb
        go_enter Try.func14, Try.ntmps14
        go_wp2
        go_ret2
        exact ⟨rfl, Below.refl _ _⟩
      · have a4 : decide (low ≤ 32 - m) = false := by simp; omega
        clear hb
        go_enter Try.func14, Try.ntmps14
        go_wp2
        go_ret2
        exact ⟨rfl, Below.refl _ _⟩
theorem sgn_val (f m : Nat) (hm1 : 1 ≤ m) (hm : m ≤ 32) (hf : f < 2 ^ m) :
    wrap32 ((f : Int) * 2 ^ (32 - m) % 4294967296) / 2 ^ (32 - m) = Bm.sgn f m := by
  have hp := Nat.two_pow_pos (32 - m)
  have e1 : 2 ^ m * 2 ^ (32 - m) = 4294967296 := by rw [← Nat.pow_add, show m + (32 - m) = 32 by omega]
  have e2 : 2 ^ (m - 1) * 2 ^ (32 - m) = 2147483648 := by rw [← Nat.pow_add, show m - 1 + (32 - m) = 31 by omega]
  have hlt : f * 2 ^ (32 - m) < 4294967296 := by rw [← e1]; exact Nat.mul_lt_mul_of_pos_right hf hp
  have ec : (f : Int) * 2 ^ (32 - m) = ((f * 2 ^ (32 - m) : Nat) : Int) := by simp
  rw [ec, Int.emod_eq_of_lt (by omega) (by omega)]
  unfold Bm.sgn
  by_cases h : f < 2 ^ (m - 1)
  · have h3 : f * 2 ^ (32 - m) < 2147483648 := by rw [← e2]; exact Nat.mul_lt_mul_of_pos_right h hp
    rw [if_pos h, show wrap32 ((f * 2 ^ (32 - m) : Nat) : Int) = ((f * 2 ^ (32 - m) : Nat) : Int) by unfold wrap32; omega, ← ec]
    exact Int.mul_ediv_cancel _ (by have := Int.pow_pos (n := 2) (m := 32 - m) (by decide); omega)
  · have h3 : 2147483648 ≤ f * 2 ^ (32 - m) := by rw [← e2]; exact Nat.mul_le_mul_right _ (by omega)
    rw [if_neg h, show wrap32 ((f * 2 ^ (32 - m) : Nat) : Int) = ((f * 2 ^ (32 - m) : Nat) : Int) - ((2 ^ m * 2 ^ (32 - m) : Nat) : Int) by rw [e1]; unfold wrap32; omega, ← ec]
    rw [show ((2 ^ m * 2 ^ (32 - m) : Nat) : Int) = ((2 ^ m : Nat) : Int) * 2 ^ (32 - m) by simp, ← Int.sub_mul]
    exact Int.mul_ediv_cancel _ (by have := Int.pow_pos (n := 2) (m := 32 - m) (by decide); omega)

theorem signed_ok (w low m : Nat) (hw : w < 4294967296) (hm1 : 1 ≤ m) (hm : low + m ≤ 32) (W : World) :
    Calls Try.prog 16 #[.int .u32 w, .int .i64 low, .int .i64 m] W fun e w' => e = .returned (.tuple #[.int .i32 (Bm.sgn (Bm.fld w low m) m), .int .i64 0]) ∧ Below W.heap.size W w' := by
  have hs := Lib.hid (sgn_val (Bm.fld w low m) m hm1 (by omega) (Bm.fld_lt _ _ _))
  go_enter Try.func16, Try.ntmps16
  go_wp2_with (go_at_call 12; refine (get_ok w low m hw hm1 hm _).mono ?_; rintro e w1 ⟨rfl, hb⟩)
  go_ret2
  exact ⟨ret_ints hs.out, hb⟩
theorem signed_no (w : Int) (low m : Int) (hb : Bad low m) (h1 : -9223372036854775808 ≤ low) (h2 : low ≤ 9223372036854775807) (h3 : -9223372036854775808 ≤ m) (h4 : m ≤ 9223372036854775807) (W : World) :
    Calls Try.prog 16 #[.int .u32 w, .int .i64 low, .int .i64 m] W fun e w' => e = .returned (.tuple #[.int .i32 0, .int .i64 3]) ∧ Below W.heap.size W w' := by
  go_enter Try.func16, Try.ntmps16
  go_wp2_with (go_at_call 12; refine (get_no w low m hb h1 h2 h3 h4 _).mono ?_; rintro e w1 ⟨rfl, hb⟩)
  go_ret2
  exact ⟨rfl, hb⟩
theorem count_any (w : Nat) (hw : w < 4294967296) (W : World) :
    Calls Try.prog 18 #[.int .u32 w] W fun e w' => e = .returned (.int .i64 (Bm.pcN 32 w)) ∧ W = w' := by
  have hle := Bm.pcN_le 32 w
  go_enter Try.func18, Try.ntmps18
  go_wp2
  go_loop [0, 3] (fun x n => ∃ v k : Nat, v < 4294967296 ∧ k + Bm.pcN 32 v ≤ Bm.pcN 32 w ∧ Bm.pcN 32 w ≤ k + Bm.pcN 32 v ∧ x = .int .u32 v ∧ n = .int .i64 k) (fun _ n => 33 - (intOf n).toNat)
  case atStart => exact ⟨w, 0, hw, by omega, by omega, rfl, rfl⟩
  case round =>
    obtain ⟨v, k, hv, h1, h2, rfl, rfl⟩ := hrel
    by_cases h0 : v = 0
    · subst h0
      have h3 := Bm.pcN_zero 32
      rw [h3] at h1 h2
      clear h3
      go_wp2
      go_ret
      exact ⟨ret_int (by omega), rfl⟩
    · have h4 := Bm.pcN_drop 32 v (by simpa using hv) h0
      have hb := Lib.hid (u32_and_nat v (v - 1) hv (by omega))
      have ht : ((v : Int) != 0) = true := by rw [bne_iff_ne]; omega
      go_wp2
      go_round
      case rel => exact ⟨v &&& (v - 1), k + 1, Nat.lt_of_le_of_lt Nat.and_le_left hv, by omega, by omega, by rw [← hb.out, Int.natCast_sub (by omega)]; rfl, by go_num⟩
      case measure => simp [intOf]; omega
theorem turn_val (w u : Nat) (hw : w < 4294967296) :
   bits BinOp.or IntKind.u32 ((w : Int) * 2 ^ u % 4294967296) ((w : Int) / 2 ^ (32 - u)) = ((Bm.rot w u : Nat) : Int) := by
  have h1 : w / 2 ^ (32 - u) < 4294967296 := Nat.lt_of_le_of_lt (Nat.div_le_self _ _) hw
  rw [show (w : Int) * 2 ^ u % 4294967296 = ((w * 2 ^ u % 4294967296 : Nat) : Int) by simp, show (w : Int) / 2 ^ (32 - u) = ((w / 2 ^ (32 - u) : Nat) : Int) by simp, u32_or_nat _ _ (Nat.mod_lt _ (by decide)) h1]
  rfl
theorem turn_at (w : Nat) (by' : Int) (u : Nat) (hw : w < 4294967296) (hu : u < 32) (he : (IntKind.u64.wrap by').tmod 32 = (u : Int)) (W : World) :
    Calls Try.prog 20 #[.int .u32 w, .int .i64 by'] W fun e w' => e = .returned (.int .u32 (Bm.rot w u)) ∧ W = w' := by
  have hv := Lib.hid (turn_val w u hw)
  go_enter Try.func20, Try.ntmps20
  go_wp2
  go_ret
  exact ⟨ret_int hv.out, rfl⟩
theorem turn_any (w : Nat) (by' : Int) (hw : w < 4294967296) (W : World) :
    Calls Try.prog 20 #[.int .u32 w, .int .i64 by'] W fun e w' => e = .returned (.int .u32 (Bm.rot w (by' % 32).toNat)) ∧ W = w' :=
  turn_at w by' _ hw (by omega) (by
    rw [IntKind.wrap_u64, Int.tmod_eq_emod_of_nonneg (by omega)]; omega) W

end Go.Proofs.Ytogeihfmbjjacaa
