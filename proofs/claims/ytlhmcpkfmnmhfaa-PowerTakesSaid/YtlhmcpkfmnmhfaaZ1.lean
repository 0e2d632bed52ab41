/- A power domain and how it stands, plainly: what the calls of a grid tell, and make of it. -/
import Derived.Test.YtlhmcpkfmnmhfaaS
namespace Go.Proofs.Ytlhmcpkfmnmhfaa
set_option linter.unusedSimpArgs false
set_option linter.unusedVariables false

/-- a domain, and how it stands -/
structure Pst where
  dom : Dom
  phase : Int
  left : Int
  keep : Bool
/-- as it is at first -/
def newP (d : Dom) : Pst := ⟨d, 48, 0, false⟩
/-- is i one of n? -/
def hasB (n : Nat) (i : Int) : Bool := decide (0 ≤ i ∧ i < (n : Int))
theorem hasB_at {α : Type} {xs : List α} {k : Nat} {x : α} (h : xs[k]? = some x) : hasB xs.length (k : Int) = true := by
  have := (List.getElem?_eq_some_iff.1 h).1
  unfold hasB
  simp
  omega
theorem hasB_ex {α : Type} {xs : List α} {i : Int} (h : hasB xs.length i = true) : ∃ (k : Nat) (x : α), i = (k : Int) ∧ xs[k]? = some x := by
  unfold hasB at h
  simp at h
  exact ⟨i.toNat, xs[i.toNat]'(by omega), by omega, List.getElem?_eq_getElem (by omega)⟩
def atP {α β : Type} (xs : List α) (i : Int) (f : α → β) (b : β) : β := if hasB xs.length i = true then (match xs[i.toNat]? with | some x => f x | none => b) else b
theorem atP_at {α β : Type} {xs : List α} {k : Nat} {x : α} (h : xs[k]? = some x) (f : α → β) (b : β) : atP xs (k : Int) f b = f x := by
  unfold atP
  rw [if_pos (hasB_at h)]
  simp [h]
theorem atP_no {α β : Type} {xs : List α} {i : Int} (h : hasB xs.length i = false) (f : α → β) (b : β) : atP xs i f b = b := by
  unfold atP
  simp [h]
def setT {α : Type} (xs : List α) (i : Int) (f : α → α) : List α := match xs[i.toNat]? with | some x => xs.set i.toNat (f x) | none => xs
theorem setT_at {α : Type} {xs : List α} {k : Nat} {x : α} (f : α → α) (h : xs[k]? = some x) : setT xs (k : Int) f = xs.set k (f x) := by unfold setT; simp [h]
theorem setT_len {α : Type} (xs : List α) (i : Int) (f : α → α) : (setT xs i f).length = xs.length := by unfold setT; split <;> simp

def restsB (p : Int) : Bool := decide (p = 48 ∨ p = 116)
def phaseP (sts : List Pst) (i : Int) : Int := atP sts i (fun x => x.phase) 0
def leftP (sts : List Pst) (i : Int) : Int := atP sts i (fun x => x.left) 0
def fedB (sts : List Pst) (a : Int) : Bool := decide (a = -1 ∨ phaseP sts a = 49)
def needB (sts : List Pst) (i : Int) : Bool := sts.any fun x => decide (x.dom.above = i) && !restsB x.phase
def upE (sts : List Pst) (i : Int) : Int := atP sts i (fun x => if restsB x.phase = true ∧ fedB sts x.dom.above = true then 0 else 6) 4
def upS (x : Pst) : Pst := { x with phase := 114, left := x.dom.delay }
def upT (sts : List Pst) (i : Int) : List Pst := if upE sts i = 0 then setT sts i upS else sts
def downE (sts : List Pst) (i : Int) (keep : Bool) : Int := atP sts i (fun x => if x.phase = 49 then (if keep = true ∧ x.dom.ret = false then 1 else if needB sts i = true then 7 else 0) else 6) 4
def downS (keep : Bool) (x : Pst) : Pst := { x with phase := 99, keep := keep }
def downT (sts : List Pst) (i : Int) (keep : Bool) : List Pst := if downE sts i keep = 0 then setT sts i (downS keep) else sts
/-- what a tick tells of a domain, or 0 -/
def passK (x : Pst) : Int := if x.phase = 114 then (if 0 < x.left then 0 else if x.keep = true then 114 else 110) else if x.phase = 104 then 111 else if x.phase = 99 then (if x.keep = true then 115 else 108) else 0
def passT (x : Pst) : Pst := if x.phase = 114 then (if 0 < x.left then { x with left := x.left - 1 } else { x with phase := 104 }) else if x.phase = 104 then { x with phase := 49 } else if x.phase = 99 then { x with phase := if x.keep = true then 116 else 48 } else x
theorem passT_dom (x : Pst) : (passT x).dom = x.dom := by
  unfold passT
  repeat' split
  all_goals rfl
def tickT (sts : List Pst) : List Pst := sts.map passT
structure Ev where
  kind : Int
  dom : Int
def evAt (sts : List Pst) (i : Nat) : Option Ev := match sts[i]? with | some x => if passK x = 0 then none else some ⟨passK x, (i : Int)⟩ | none => none
/-- what is told of the first k -/
def evsP (sts : List Pst) (k : Nat) : List Ev := (List.range k).filterMap (evAt sts)
def tickE (sts : List Pst) : List Ev := evsP sts sts.length
theorem evsP_zero (sts : List Pst) : evsP sts 0 = [] := rfl
theorem evsP_succ {sts : List Pst} {k : Nat} {x : Pst} (h : sts[k]? = some x) : evsP sts (k + 1) = evsP sts k ++ if passK x = 0 then [] else [⟨passK x, (k : Int)⟩] := by
  unfold evsP
  rw [List.range_succ, List.filterMap_append]
  congr 1
  simp only [List.filterMap_cons, List.filterMap_nil, evAt, h]
  by_cases e : passK x = 0
  · simp [e]
  · simp [e]
theorem evsP_len (sts : List Pst) (k : Nat) : (evsP sts k).length ≤ k := by
  unfold evsP
  have := List.length_filterMap_le (evAt sts) (List.range k)
  simpa using this
/-- the first k are behind the tick -/
def midT (sts : List Pst) (k : Nat) : List Pst := (sts.take k).map passT ++ sts.drop k
theorem midT_zero (sts : List Pst) : midT sts 0 = sts := by simp [midT]
theorem midT_end (sts : List Pst) : midT sts sts.length = tickT sts := by simp [midT, tickT]
theorem midT_len (sts : List Pst) (k : Nat) : (midT sts k).length = sts.length := by simp [midT]; omega
theorem midT_at {sts : List Pst} {k : Nat} {x : Pst} (h : sts[k]? = some x) : (midT sts k)[k]? = some x := by
  have hk := (List.getElem?_eq_some_iff.1 h).1
  unfold midT
  rw [List.getElem?_append_right (by simp; omega)]
  simp [h, Nat.min_eq_left (Nat.le_of_lt hk)]
theorem midT_succ {sts : List Pst} {k : Nat} {x : Pst} (h : sts[k]? = some x) : midT sts (k + 1) = (midT sts k).set k (passT x) := by
  have hk := (List.getElem?_eq_some_iff.1 h).1
  have e : sts.drop k = x :: sts.drop (k + 1) := by
    rw [List.drop_eq_getElem_cons hk]
    congr 1
    rw [List.getElem?_eq_getElem hk] at h
    injection h
  unfold midT
  rw [e, List.set_append_right _ _ (by simp; omega), List.take_add_one, h]
  simp [Nat.min_eq_left (Nat.le_of_lt hk)]
theorem upT_len (sts : List Pst) (i : Int) : (upT sts i).length = sts.length := by unfold upT; split <;> simp [setT_len]
theorem downT_len (sts : List Pst) (i : Int) (b : Bool) : (downT sts i b).length = sts.length := by unfold downT; split <;> simp [setT_len]
theorem tickT_len (sts : List Pst) : (tickT sts).length = sts.length := by simp [tickT]

end Go.Proofs.Ytlhmcpkfmnmhfaa
