/- Arithmetic of naturals, as operations on ints; pick. -/
import Derived.Test.YtnfbhhgdibkbdaaG3
import Derived.Test.YtnfbhhgdibkbdaaC
import Derived.Test.YtnfbhhgdibkbdaaO
import Derived.IntWalk
namespace Go.Proofs.Ytnfbhhgdibkbdaa
set_option linter.unusedSimpArgs false
set_option linter.unusedVariables false
open Go.RowKit

section
variable {T : Nat → Value} {w : World} {x y : Operand} {a b : Nat} {dst : Option Tmp} {ty : TypeId} {pos : String} {after : Array Edge}
theorem ar_add (hx : evT T x = .int .i64 (a : Nat)) (hy : evT T y = .int .i64 (b : Nat)) (h : a + b < 9000000000000000000) :
    (execOp (evT T) { dst := dst, op := .binOp .add 3 x y 3, type := ty, pos := pos, after := after, guard := none }).run Try.prog w = .ok (.value (.int .i64 ((a + b : Nat) : Int))) w := by
  have e : IntKind.i64.wrap ((a : Int) + (b : Int)) = ((a + b : Nat) : Int) := by rw [IntWalk.i64_in] <;> omega
  simp only [execOp, hx, hy]
  go_simp
theorem ar_mul (hx : evT T x = .int .i64 (a : Nat)) (hy : evT T y = .int .i64 (b : Nat)) (h : a * b < 9000000000000000000) :
    (execOp (evT T) { dst := dst, op := .binOp .mul 3 x y 3, type := ty, pos := pos, after := after, guard := none }).run Try.prog w = .ok (.value (.int .i64 ((a * b : Nat) : Int))) w := by
  have e : IntKind.i64.wrap ((a : Int) * (b : Int)) = ((a * b : Nat) : Int) := by
    rw [← Int.natCast_mul, IntWalk.i64_in] <;> omega
  simp only [execOp, hx, hy]
  go_simp
theorem ar_rem (hx : evT T x = .int .i64 (a : Nat)) (hy : evT T y = .int .i64 (b : Nat)) (h : a < 9000000000000000000) (hb : 0 < b) :
    (execOp (evT T) { dst := dst, op := .binOp .rem 3 x y 3, type := ty, pos := pos, after := after, guard := none }).run Try.prog w = .ok (.value (.int .i64 ((a % b : Nat) : Int))) w := by
  have hm := Nat.mod_le a b
  have e1 : ((a : Int)).tmod (b : Int) = ((a % b : Nat) : Int) := (Int.ofNat_tmod a b).symm
  have e2 : IntKind.i64.wrap (((a % b : Nat) : Int)) = ((a % b : Nat) : Int) := by rw [IntWalk.i64_in] <;> omega
  have hb0 : ((b : Int) == 0) = false := by simp; omega
  have hbn : ¬ ((b : Int) = 0) := by omega
  have hbn' : ¬ (b = 0) := by omega
  simp only [execOp, hx, hy]
  go_simp
theorem ar_quo (hx : evT T x = .int .i64 (a : Nat)) (hy : evT T y = .int .i64 (b : Nat)) (h : a < 9000000000000000000) (hb : 0 < b) :
    (execOp (evT T) { dst := dst, op := .binOp .quo 3 x y 3, type := ty, pos := pos, after := after, guard := none }).run Try.prog w = .ok (.value (.int .i64 ((a / b : Nat) : Int))) w := by
  have hm := Nat.div_le_self a b
  have e1 : ((a : Int)).tdiv (b : Int) = ((a / b : Nat) : Int) := (Int.ofNat_tdiv a b).symm
  have e2 : IntKind.i64.wrap (((a / b : Nat) : Int)) = ((a / b : Nat) : Int) := by
    generalize a / b = q at hm ⊢
    rw [IntWalk.i64_in]
    omega
  have e3 : IntKind.i64.wrap ((a : Int) / (b : Int)) = (a : Int) / (b : Int) := by rwa [Int.natCast_ediv] at e2
  have hb0 : ((b : Int) == 0) = false := by simp; omega
  have hbn : ¬ ((b : Int) = 0) := by omega
  have hbn' : ¬ (b = 0) := by omega
  simp only [execOp, hx, hy]
  go_simp
theorem ar_quoI {z : Int} (hx : evT T x = .int .i64 z) (hy : evT T y = .int .i64 (b : Nat)) (h : wfI z) (hb : 0 < b) :
    (execOp (evT T) { dst := dst, op := .binOp .quo 3 x y 3, type := ty, pos := pos, after := after, guard := none }).run Try.prog w = .ok (.value (.int .i64 (z.tdiv b))) w := by
  have hm : (z.tdiv b).natAbs ≤ z.natAbs := by rw [Int.natAbs_tdiv]; exact Nat.div_le_self _ _
  have hlo : -9223372036854775808 ≤ z.tdiv b ∧ z.tdiv b ≤ 9223372036854775807 := by
    unfold wfI at h
    rcases Int.lt_or_le z 0 with hz | hz
    · have : 0 ≤ (-z).tdiv b := Int.tdiv_nonneg (by omega) (by omega)
      rw [Int.neg_tdiv] at this
      omega
    · have : 0 ≤ z.tdiv b := Int.tdiv_nonneg hz (by omega)
      omega
  have e2 : IntKind.i64.wrap (z.tdiv b) = z.tdiv b := by rw [IntWalk.i64_in]; omega
  have hb0 : ((b : Int) == 0) = false := by simp; omega
  have hbn : ¬ ((b : Int) = 0) := by omega
  have hbn' : ¬ (b = 0) := by omega
  simp only [execOp, hx, hy]
  go_simp
theorem tdiv_wf {z : Int} {b : Nat} (h : wfI z) (hb : 0 < b) : wfI (z.tdiv b) := by
  have hm : (z.tdiv b).natAbs ≤ z.natAbs := by rw [Int.natAbs_tdiv]; exact Nat.div_le_self _ _
  unfold wfI at h ⊢
  rcases Int.lt_or_le z 0 with hz | hz
  · have : 0 ≤ (-z).tdiv b := Int.tdiv_nonneg (by omega) (by omega)
    rw [Int.neg_tdiv] at this
    omega
  · have : 0 ≤ z.tdiv b := Int.tdiv_nonneg hz (by omega)
    omega
theorem ar_move {v : Value} (hx : evT T x = v) :
    (execOp (evT T) { dst := dst, op := .move x, type := ty, pos := pos, after := after, guard := none }).run Try.prog w = .ok (.value v) w := by
  simp only [execOp, hx]
  go_simp
end

section
variable {P : Program} {T : Nat → Value} {o : Oper} {w : World} {row : Option Nat} {R : Value → World → Prop}
theorem gr_pure {v : Value} (h : (execOp (evT T) o).run P w = .ok (.value v) w) (hR : R v w) : GivesR P T o w true row R := .inl ⟨v, w, h, by rw [if_pos rfl], hR⟩
theorem gr_made {v : Value} {w' : World} (h : (execOp (evT T) o).run P w = .ok (.value v) w') (hg : w.grownBy w' row) (hR : R v w') : GivesR P T o w false row R := .inl ⟨v, w', h, by rw [if_neg (by decide)]; exact hg, hR⟩
theorem gr_same {f : FuncId} {args : Array Value} {v : Value} (h : (execOp (evT T) o).run P w = .ok (.enter f args) w) (hc : Calls P f args w fun e w' => e = .returned v ∧ w = w') (hR : R v w) : GivesR P T o w true row R :=
  .inr ⟨f, args, h, hc.mono fun e w' ⟨he, hw⟩ => ⟨v, he, by rw [if_pos rfl]; exact hw.symm, hw ▸ hR⟩⟩
end
theorem stbR_V (row : Option Nat) (v : Value) : StbR row (IsV v) := fun _ _ _ h _ => h

theorem pick_any (c n : Int) (w : World) (hc : wfI c) (h0 : 0 < n) (h1 : n ≤ 1000000) :
    Calls Try.prog 15 #[.int .i64 c, .int .i64 n] w fun e w' => e = .returned (.int .i64 (pickP c n)) ∧ w = w' := by
  unfold wfI at hc
  have hn0 : (n == 0) = false := by simp; omega
  by_cases hlt : c < 0
  · have hm : pickP c n = (-(c + 1)) % n := by unfold pickP; rw [if_pos hlt]
    have hp := pickP_lo (c := c) h0
    have hq := pickP_hi (c := c) h0
    have hk : -((c + 1).tmod n) = (-(c + 1)) % n := by rw [← Int.neg_tmod, Int.tmod_eq_emod_of_nonneg (by omega)]
    have HM := Lib.hid hm
    have HK := Lib.hid hk
    clear hm hk
    go_enter Try.func15, Try.ntmps15
    go_wp2
    go_ret
    exact ⟨by rw [HM.out, ← HK.out]; first | rfl | exact ret_int (by omega), rfl⟩
  · have hm : pickP c n = c % n := by unfold pickP; rw [if_neg hlt]
    have hp := pickP_lo (c := c) h0
    have hq := pickP_hi (c := c) h0
    have HM := Lib.hid hm
    clear hm
    go_enter Try.func15, Try.ntmps15
    go_wp2
    go_ret
    exact ⟨by rw [HM.out]; first | rfl | exact ret_int (by omega), rfl⟩

end Go.Proofs.Ytnfbhhgdibkbdaa
