/- A power domain and how it stands, plainly: what the calls of a grid tell, and make of it. -/
import Derived.Test.YtlhmcpkfmnmhfaaGreatS
import Derived.Test.YtlhmcpkfmnmhfaaGreatO2
import Derived.RegionTactic
import Derived.StillTailTactics
namespace Go.Proofs.YtlhmcpkfmnmhfaaGreat
section
set_option linter.unusedSimpArgs false
set_option linter.unusedVariables false

/-- a domain, and how it stands -/
structure Pst where
  dom : Dom
  phase : Int
  left : Int
  keep : Bool
/-- as it is at first -/
def newP (d : Dom) : Pst := ⟨d, 48, 0, false⟩
/-- is i one of n? -/
def hasB (n : Nat) (i : Int) : Bool := decide (0 ≤ i ∧ i < (n : Int))
theorem hasB_at {α : Type} {xs : List α} {k : Nat} {x : α} (h : xs[k]? = some x) : hasB xs.length (k : Int) = true := by
  have := (List.getElem?_eq_some_iff.1 h).1
  unfold hasB
  simp
  omega
theorem hasB_ex {α : Type} {xs : List α} {i : Int} (h : hasB xs.length i = true) : ∃ (k : Nat) (x : α), i = (k : Int) ∧ xs[k]? = some x := by
  unfold hasB at h
  simp at h
  exact ⟨i.toNat, xs[i.toNat]'(by omega), by omega, List.getElem?_eq_getElem (by omega)⟩
def atP {α β : Type} (xs : List α) (i : Int) (f : α → β) (b : β) : β := if hasB xs.length i = true then (match xs[i.toNat]? with | some x => f x | none => b) else b
theorem atP_at {α β : Type} {xs : List α} {k : Nat} {x : α} (h : xs[k]? = some x) (f : α → β) (b : β) : atP xs (k : Int) f b = f x := by
  unfold atP
  rw [if_pos (hasB_at h)]
  simp [h]
theorem atP_no {α β : Type} {xs : List α} {i : Int} (h : hasB xs.length i = false) (f : α → β) (b : β) : atP xs i f b = b := by
  unfold atP
  simp [h]
def setT {α : Type} (xs : List α) (i : Int) (f : α → α) : List α := match xs[i.toNat]? with | some x => xs.set i.toNat (f x) | none => xs
theorem setT_at {α : Type} {xs : List α} {k : Nat} {x : α} (f : α → α) (h : xs[k]? = some x) : setT xs (k : Int) f = xs.set k (f x) := by unfold setT; simp [h]
theorem setT_len {α : Type} (xs : List α) (i : Int) (f : α → α) : (setT xs i f).length = xs.length := by unfold setT; split <;> simp

def restsB (p : Int) : Bool := decide (p = 48 ∨ p = 116)
def phaseP (sts : List Pst) (i : Int) : Int := atP sts i (fun x => x.phase) 0
def leftP (sts : List Pst) (i : Int) : Int := atP sts i (fun x => x.left) 0
def fedB (sts : List Pst) (a : Int) : Bool := decide (a = -1 ∨ phaseP sts a = 49)
def needB (sts : List Pst) (i : Int) : Bool := sts.any fun x => decide (x.dom.above = i) && !restsB x.phase
def upE (sts : List Pst) (i : Int) : Int := atP sts i (fun x => if restsB x.phase = true ∧ fedB sts x.dom.above = true then 0 else 6) 4
def upS (x : Pst) : Pst := { x with phase := 114, left := x.dom.delay }
def upT (sts : List Pst) (i : Int) : List Pst := if upE sts i = 0 then setT sts i upS else sts
def downE (sts : List Pst) (i : Int) (keep : Bool) : Int := atP sts i (fun x => if x.phase = 49 then (if keep = true ∧ x.dom.ret = false then 1 else if needB sts i = true then 7 else 0) else 6) 4
def downS (keep : Bool) (x : Pst) : Pst := { x with phase := 99, keep := keep }
def downT (sts : List Pst) (i : Int) (keep : Bool) : List Pst := if downE sts i keep = 0 then setT sts i (downS keep) else sts
/-- what a tick tells of a domain, or 0 -/
def passK (x : Pst) : Int := if x.phase = 114 then (if 0 < x.left then 0 else if x.keep = true then 114 else 110) else if x.phase = 104 then 111 else if x.phase = 99 then (if x.keep = true then 115 else 108) else 0
def passT (x : Pst) : Pst := if x.phase = 114 then (if 0 < x.left then { x with left := x.left - 1 } else { x with phase := 104 }) else if x.phase = 104 then { x with phase := 49 } else if x.phase = 99 then { x with phase := if x.keep = true then 116 else 48 } else x
theorem passT_dom (x : Pst) : (passT x).dom = x.dom := by
  unfold passT
  repeat' split
  all_goals rfl
def tickT (sts : List Pst) : List Pst := sts.map passT
structure Ev where
  kind : Int
  dom : Int
def evAt (sts : List Pst) (i : Nat) : Option Ev := match sts[i]? with | some x => if passK x = 0 then none else some ⟨passK x, (i : Int)⟩ | none => none
/-- what is told of the first k -/
def evsP (sts : List Pst) (k : Nat) : List Ev := (List.range k).filterMap (evAt sts)
def tickE (sts : List Pst) : List Ev := evsP sts sts.length
theorem evsP_zero (sts : List Pst) : evsP sts 0 = [] := rfl
theorem evsP_succ {sts : List Pst} {k : Nat} {x : Pst} (h : sts[k]? = some x) : evsP sts (k + 1) = evsP sts k ++ if passK x = 0 then [] else [⟨passK x, (k : Int)⟩] := by
  unfold evsP
  rw [List.range_succ, List.filterMap_append]
  congr 1
  simp only [List.filterMap_cons, List.filterMap_nil, evAt, h]
  by_cases e : passK x = 0
  · simp [e]
  · simp [e]
theorem evsP_len (sts : List Pst) (k : Nat) : (evsP sts k).length ≤ k := by
  unfold evsP
  have := List.length_filterMap_le (evAt sts) (List.range k)
  simpa using this
/-- the first k are behind the tick -/
def midT (sts : List Pst) (k : Nat) : List Pst := (sts.take k).map passT ++ sts.drop k
theorem midT_zero (sts : List Pst) : midT sts 0 = sts := by simp [midT]
theorem midT_end (sts : List Pst) : midT sts sts.length = tickT sts := by simp [midT, tickT]
theorem midT_len (sts : List Pst) (k : Nat) : (midT sts k).length = sts.length := by simp [midT]; omega
theorem midT_at {sts : List Pst} {k : Nat} {x : Pst} (h : sts[k]? = some x) : (midT sts k)[k]? = some x := by
  have hk := (List.getElem?_eq_some_iff.1 h).1
  unfold midT
  rw [List.getElem?_append_right (by simp; omega)]
  simp [h, Nat.min_eq_left (Nat.le_of_lt hk)]
theorem midT_succ {sts : List Pst} {k : Nat} {x : Pst} (h : sts[k]? = some x) : midT sts (k + 1) = (midT sts k).set k (passT x) := by
  have hk := (List.getElem?_eq_some_iff.1 h).1
  have e : sts.drop k = x :: sts.drop (k + 1) := by
    rw [List.drop_eq_getElem_cons hk]
    congr 1
    rw [List.getElem?_eq_getElem hk] at h
    injection h
  unfold midT
  rw [e, List.set_append_right _ _ (by simp; omega), List.take_add_one, h]
  simp [Nat.min_eq_left (Nat.le_of_lt hk)]
theorem upT_len (sts : List Pst) (i : Int) : (upT sts i).length = sts.length := by unfold upT; split <;> simp [setT_len]
theorem downT_len (sts : List Pst) (i : Int) (b : Bool) : (downT sts i b).length = sts.length := by unfold downT; split <;> simp [setT_len]
theorem tickT_len (sts : List Pst) : (tickT sts).length = sts.length := by simp [tickT]
end

section
set_option linter.unusedSimpArgs false
set_option linter.unusedVariables false
open Go.RowKit Go.Maps

def pstL (x : Pst) : List Value := [.int .i64 x.dom.above, .int .i64 x.dom.delay, .bool x.dom.ret, .int .u8 x.phase, .int .i64 x.left, .bool x.keep]
def PstC : ReadsC Pst := fun _ _ x vs => vs = pstL x
def PstV : Reads Pst := fun _ _ x vs => vs = pstL x
instance : Steady PstV := ⟨fun h _ => h, fun h _ => h⟩
instance : SteadyC PstC PstV := ⟨fun h _ => h, fun h _ => h, fun h _ => h, fun h => h⟩

/-- a grid: its box, and its row of states -/
structure GridIs (w : World) (gt g c : Nat) (sts : List Pst) : Prop where
  ne : g ≠ gt
  box : BoxAt w gt [.slice (some ⟨g, 0, none⟩) sts.length c]
  row : RowC PstC 6 75 [gt, g] w 0 (.slice (some ⟨g, 0, none⟩) sts.length c) sts

section
variable {w w' : World} {gt g c : Nat} {sts : List Pst}
theorem GridIs.lt (h : GridIs w gt g c sts) : gt < w.heap.size ∧ g < w.heap.size := by
  obtain ⟨A, c', e, _, hb⟩ := h.row.shape
  exact ⟨h.box.lt, (hb g rfl).2⟩
theorem GridIs.move (h : GridIs w gt g c sts) (hm : Moved [] w w') : GridIs w' gt g c sts :=
  ⟨h.ne, h.box.move hm (by simp), h.row.move (hm.mono (by simp)) (fun b hb => by injection hb with hb; subst hb; exact hm.block _ h.lt.2 (by simp))⟩
theorem GridIs.set {k j : Nat} {x x' : Pst} {u : Value} (h : GridIs w gt g c sts) (hx : sts[k]? = some x) (hj : j < 6)
    (hc : (pstL x).set j u = pstL x') : GridIs (w.setCell ⟨g, k * 6 + j, none⟩ u) gt g c (sts.set k x') := by
  refine ⟨h.ne, ?_, ?_⟩
  · rw [List.length_set]
    exact h.box.move (Moved.setCell (hot := [g]) w (by simp) u) (by simpa using Ne.symm h.ne)
  · rw [List.length_set]
    exact h.row.set rfl hx hj (by simp) (fun vs hv _ => by
      have e : vs = pstL x := hv
      subst e
      exact hc)
theorem GridIs.at_ {k : Nat} {x : Pst} (h : GridIs w gt g c sts) (hx : sts[k]? = some x) :
    ∀ j v, (pstL x)[j]? = some v → w.cell? ⟨g, k * 6 + j, none⟩ = some v ∧ w.frozen? ⟨g, k * 6 + j, none⟩ = false := by
  obtain ⟨vs, _, hv, hc⟩ := h.row.cell rfl hx
  have e : vs = pstL x := hv
  subst e
  exact hc
end

theorem has_any (gt : Nat) (C : Option Addr) (n d : Nat) (i : Int) (w : World) (h : BoxAt w gt [.slice C n d]) :
    Calls Tryz.prog 26 #[.pointer (some ⟨gt, 0, none⟩), .int .i64 i] w fun e w' => e = .returned (.bool (hasB n i)) ∧ w = w' := by
  have h0 := (h 0 _ rfl).1
  have f0 := (h 0 _ rfl).2
  have HE : hasB n i = decide (0 ≤ i ∧ i < (n : Int)) := rfl
  by_cases hi : 0 ≤ i
  · by_cases hn : i < (n : Int)
    · have he : hasB n i = true := by simp [HE, hi, hn]
      rw [he]
      clear HE he h
      go_enter Tryz.func26, Tryz.ntmps26
      go_wp2
      go_ret
      exact ⟨rfl, rfl⟩
    · have he : hasB n i = false := by simp [HE, hi, hn]
      rw [he]
      clear HE he h
      go_enter Tryz.func26, Tryz.ntmps26
      go_wp2
      go_ret
      exact ⟨rfl, rfl⟩
  · have he : hasB n i = false := by simp [HE, hi]
    rw [he]
    clear HE he h
    go_enter Tryz.func26, Tryz.ntmps26
    go_wp2
    go_ret
    exact ⟨rfl, rfl⟩

theorem rests_any (g o : Nat) (p : Int) (w : World) (h : w.cell? ⟨g, o + 3, none⟩ = some (.int .u8 p)) :
    Calls Tryz.prog 27 #[.pointer (some ⟨g, o, none⟩)] w fun e w' => e = .returned (.bool (restsB p)) ∧ w = w' := by
  by_cases h0 : p = 48
  · subst h0
    have hr : restsB 48 = true := by decide
    rw [hr]
    clear hr
    go_enter Tryz.func27, Tryz.ntmps27
    go_wp2
    go_ret
    exact ⟨rfl, rfl⟩
  · by_cases h1 : p = 116
    · subst h1
      have hr : restsB 116 = true := by decide
      rw [hr]
      clear hr h0
      go_enter Tryz.func27, Tryz.ntmps27
      go_wp2
      go_ret
      exact ⟨rfl, rfl⟩
    · have hr : restsB p = false := by unfold restsB; simp [h0, h1]
      rw [hr]
      have e0 : (p == 48) = false := by simpa using h0
      have e1 : (p == 116) = false := by simpa using h1
      clear hr h0 h1
      go_enter Tryz.func27, Tryz.ntmps27
      go_wp2
      go_ret
      exact ⟨rfl, rfl⟩

theorem phase_any (gt g c : Nat) (sts : List Pst) (i : Int) (w : World) (hn : sts.length ≤ 1000) (h : GridIs w gt g c sts) :
    Calls Tryz.prog 17 #[.pointer (some ⟨gt, 0, none⟩), .int .i64 i] w fun e w' => e = .returned (.int .u8 (phaseP sts i)) ∧ w = w' := by
  have H := Lib.hid h
  have b0 := (h.box 0 _ rfl).1
  have g0 := (h.box 0 _ rfl).2
  clear h
  by_cases hb : hasB sts.length i = true
  · obtain ⟨k, x, rfl, hx⟩ := hasB_ex hb
    have hlt := (List.getElem?_eq_some_iff.1 hx).1
    have hl : phaseP sts (k : Int) = x.phase := atP_at hx _ _
    rw [hl]
    have v3 := (H.out.at_ hx 3 _ rfl).1
    have i0 : (0 : Int) ≤ (k : Int) := by omega
    have i1 : (k : Int) < (sts.length : Int) := by omega
    have HB := Lib.hid hb
    clear hb hx hl
    go_enter Tryz.func17, Tryz.ntmps17
    go_wp2_with fail
    refine (has_any gt _ _ _ (k : Int) w H.out.box).mono ?_
    rintro e w' ⟨rfl, rfl⟩
    rw [HB.out]
    go_wp2
    go_ret
    exact ⟨rfl, rfl⟩
  · have hb' : hasB sts.length i = false := by simpa using hb
    have hl : phaseP sts i = 0 := atP_no hb' _ _
    rw [hl]
    have HB := Lib.hid hb'
    clear hb hb' hl
    go_enter Tryz.func17, Tryz.ntmps17
    go_wp2_with fail
    refine (has_any gt _ _ _ i w H.out.box).mono ?_
    rintro e w' ⟨rfl, rfl⟩
    rw [HB.out]
    go_wp2
    go_ret
    exact ⟨rfl, rfl⟩

theorem left_any (gt g c : Nat) (sts : List Pst) (i : Int) (w : World) (hn : sts.length ≤ 1000) (h : GridIs w gt g c sts) :
    Calls Tryz.prog 19 #[.pointer (some ⟨gt, 0, none⟩), .int .i64 i] w fun e w' => e = .returned (.int .i64 (leftP sts i)) ∧ w = w' := by
  have H := Lib.hid h
  have b0 := (h.box 0 _ rfl).1
  have g0 := (h.box 0 _ rfl).2
  clear h
  by_cases hb : hasB sts.length i = true
  · obtain ⟨k, x, rfl, hx⟩ := hasB_ex hb
    have hlt := (List.getElem?_eq_some_iff.1 hx).1
    have hl : leftP sts (k : Int) = x.left := atP_at hx _ _
    rw [hl]
    have v3 := (H.out.at_ hx 4 _ rfl).1
    have i0 : (0 : Int) ≤ (k : Int) := by omega
    have i1 : (k : Int) < (sts.length : Int) := by omega
    have HB := Lib.hid hb
    clear hb hx hl
    go_enter Tryz.func19, Tryz.ntmps19
    go_wp2_with fail
    refine (has_any gt _ _ _ (k : Int) w H.out.box).mono ?_
    rintro e w' ⟨rfl, rfl⟩
    rw [HB.out]
    go_wp2
    go_ret
    exact ⟨rfl, rfl⟩
  · have hb' : hasB sts.length i = false := by simpa using hb
    have hl : leftP sts i = 0 := atP_no hb' _ _
    rw [hl]
    have HB := Lib.hid hb'
    clear hb hb' hl
    go_enter Tryz.func19, Tryz.ntmps19
    go_wp2_with fail
    refine (has_any gt _ _ _ i w H.out.box).mono ?_
    rintro e w' ⟨rfl, rfl⟩
    rw [HB.out]
    go_wp2
    go_ret
    exact ⟨rfl, rfl⟩

/-- the one above is there, if there is one -/
def aboveOk (n : Nat) (a : Int) : Prop := a = -1 ∨ (0 ≤ a ∧ a < (n : Int))
theorem fed_any (gt g c : Nat) (sts : List Pst) (k : Nat) (x : Pst) (w : World) (hn : sts.length ≤ 1000) (h : GridIs w gt g c sts) (hx : sts[k]? = some x) (ha : aboveOk sts.length x.dom.above) :
    Calls Tryz.prog 28 #[.pointer (some ⟨gt, 0, none⟩), .int .i64 k] w fun e w' => e = .returned (.bool (fedB sts x.dom.above)) ∧ w = w' := by
  have H := Lib.hid h
  have b0 := (h.box 0 _ rfl).1
  have g0 := (h.box 0 _ rfl).2
  have v0 : w.cell? ⟨g, k * 6, none⟩ = some (.int .i64 x.dom.above) := (h.at_ hx 0 _ rfl).1
  have hlt := (List.getElem?_eq_some_iff.1 hx).1
  have i0 : (0 : Int) ≤ (k : Int) := by omega
  have i1 : (k : Int) < (sts.length : Int) := by omega
  clear h
  generalize x.dom.above = a at *
  rcases ha with rfl | ⟨ha0, ha1⟩
  · have hf : fedB sts (-1) = true := by unfold fedB; simp
    rw [hf]
    clear hf hx
    go_enter Tryz.func28, Tryz.ntmps28
    go_wp2
    go_ret
    exact ⟨rfl, rfl⟩
  · obtain ⟨m, rfl⟩ : ∃ m : Nat, a = (m : Int) := ⟨a.toNat, by omega⟩
    have hml : m < sts.length := by omega
    have hy := List.getElem?_eq_getElem hml
    generalize sts[m] = y at hy
    have v3 := (H.out.at_ hy 3 _ rfl).1
    have e0 : ((m : Int) == -1) = false := by simp
    have hp : phaseP sts (m : Int) = y.phase := atP_at hy _ _
    by_cases hp1 : y.phase = 49
    · have hf : fedB sts (m : Int) = true := by unfold fedB; rw [hp]; simp [hp1]
      rw [hf]
      rw [hp1] at v3
      clear hf hx hy hp hp1
      go_enter Tryz.func28, Tryz.ntmps28
      go_wp2
      go_ret
      exact ⟨rfl, rfl⟩
    · have hf : fedB sts (m : Int) = false := by unfold fedB; rw [hp]; simp [hp1]
      rw [hf]
      have e1 : (y.phase == 49) = false := by simpa using hp1
      clear hf hx hy hp hp1
      go_enter Tryz.func28, Tryz.ntmps28
      go_wp2
      go_ret
      exact ⟨rfl, rfl⟩
end

section
set_option linter.unusedSimpArgs false
set_option linter.unusedVariables false
open Go.RowKit Go.Maps

/-- what a call does: it tells an error, and leaves a grid -/
def Does (w : World) (gt g c : Nat) (E : Int) (sts' : List Pst) (e : Ending) (w' : World) : Prop := e = .returned (.int .i64 E) ∧ GridIs w' gt g c sts' ∧ Moved [g] w w'
/-- what pass does -/
def Passes (w : World) (gt g c : Nat) (K : Int) (sts' : List Pst) (e : Ending) (w' : World) : Prop := e = .returned (.int .u8 K) ∧ GridIs w' gt g c sts' ∧ Moved [g] w w'

set_option maxHeartbeats 2000000 in
theorem pass_any (gt g c : Nat) (sts : List Pst) (k : Nat) (x : Pst) (w : World) (h : GridIs w gt g c sts) (hx : sts[k]? = some x) (hl : x.left ≤ 1000000) :
    Calls Tryz.prog 31 #[.pointer (some ⟨g, k * 6, none⟩)] w (Passes w gt g c (passK x) (sts.set k (passT x))) := by
  have H := Lib.hid h
  obtain ⟨v3, f3⟩ := h.at_ hx 3 _ rfl
  obtain ⟨v4, f4⟩ := h.at_ hx 4 _ rfl
  obtain ⟨v5, f5⟩ := h.at_ hx 5 _ rfl
  have HX := Lib.hid hx
  obtain ⟨d, p, l, kp⟩ := x
  simp only at v3 v4 v5 hl
  clear h hx
  by_cases p114 : p = 114
  · subst p114
    by_cases hl0 : 0 < l
    · have hk : passK ⟨d, 114, l, kp⟩ = 0 := by unfold passK; simp [hl0]
      have ht : passT ⟨d, 114, l, kp⟩ = ⟨d, 114, l - 1, kp⟩ := by unfold passT; simp [hl0]
      rw [hk, ht]
      have hG : Passes w gt g c 0 (sts.set k ⟨d, 114, l - 1, kp⟩) (.returned (.int .u8 0)) (w.setCell ⟨g, k * 6 + 4, none⟩ (.int .i64 (l - 1))) :=
        ⟨rfl, H.out.set (j := 4) HX.out (by omega) rfl, Moved.setCell _ (by simp) _⟩
      have HG := Lib.hid hG
      clear hk ht hG
      go_enter Tryz.func31, Tryz.ntmps31
      go_wp2
      go_ret
      exact HG.out
    · have ht : passT ⟨d, 114, l, kp⟩ = ⟨d, 104, l, kp⟩ := by unfold passT; simp [hl0]
      rw [ht]
      have hG : ∀ K, Passes w gt g c K (sts.set k ⟨d, 104, l, kp⟩) (.returned (.int .u8 K)) (w.setCell ⟨g, k * 6 + 3, none⟩ (.int .u8 104)) := fun K =>
        ⟨rfl, H.out.set (j := 3) HX.out (by omega) rfl, Moved.setCell _ (by simp) _⟩
      have HG := Lib.hid hG
      cases kp with
      | true =>
        have hk : passK ⟨d, 114, l, true⟩ = 114 := by unfold passK; simp [hl0]
        rw [hk]
        clear hk ht hG
        go_enter Tryz.func31, Tryz.ntmps31
        go_wp2
        go_ret
        exact HG.out 114
      | false =>
        have hk : passK ⟨d, 114, l, false⟩ = 110 := by unfold passK; simp [hl0]
        rw [hk]
        clear hk ht hG
        go_enter Tryz.func31, Tryz.ntmps31
        go_wp2
        go_ret
        exact HG.out 110
  by_cases p104 : p = 104
  · subst p104
    have hk : passK ⟨d, 104, l, kp⟩ = 111 := by unfold passK; simp
    have ht : passT ⟨d, 104, l, kp⟩ = ⟨d, 49, l, kp⟩ := by unfold passT; simp
    rw [hk, ht]
    have hG : Passes w gt g c 111 (sts.set k ⟨d, 49, l, kp⟩) (.returned (.int .u8 111)) (w.setCell ⟨g, k * 6 + 3, none⟩ (.int .u8 49)) :=
      ⟨rfl, H.out.set (j := 3) HX.out (by omega) rfl, Moved.setCell _ (by simp) _⟩
    have HG := Lib.hid hG
    clear hk ht hG p114
    go_enter Tryz.func31, Tryz.ntmps31
    go_wp2
    go_ret
    exact HG.out
  by_cases p99 : p = 99
  · subst p99
    cases kp with
    | true =>
      have hk : passK ⟨d, 99, l, true⟩ = 115 := by unfold passK; simp
      have ht : passT ⟨d, 99, l, true⟩ = ⟨d, 116, l, true⟩ := by unfold passT; simp
      rw [hk, ht]
      have hG : Passes w gt g c 115 (sts.set k ⟨d, 116, l, true⟩) (.returned (.int .u8 115)) (w.setCell ⟨g, k * 6 + 3, none⟩ (.int .u8 116)) :=
        ⟨rfl, H.out.set (j := 3) HX.out (by omega) rfl, Moved.setCell _ (by simp) _⟩
      have HG := Lib.hid hG
      clear hk ht hG p114 p104
      go_enter Tryz.func31, Tryz.ntmps31
      go_wp2
      go_ret
      exact HG.out
    | false =>
      have hk : passK ⟨d, 99, l, false⟩ = 108 := by unfold passK; simp
      have ht : passT ⟨d, 99, l, false⟩ = ⟨d, 48, l, false⟩ := by unfold passT; simp
      rw [hk, ht]
      have hG : Passes w gt g c 108 (sts.set k ⟨d, 48, l, false⟩) (.returned (.int .u8 108)) (w.setCell ⟨g, k * 6 + 3, none⟩ (.int .u8 48)) :=
        ⟨rfl, H.out.set (j := 3) HX.out (by omega) rfl, Moved.setCell _ (by simp) _⟩
      have HG := Lib.hid hG
      clear hk ht hG p114 p104
      go_enter Tryz.func31, Tryz.ntmps31
      go_wp2
      go_ret
      exact HG.out
  have hk : passK ⟨d, p, l, kp⟩ = 0 := by unfold passK; simp [p114, p104, p99]
  have ht : passT ⟨d, p, l, kp⟩ = ⟨d, p, l, kp⟩ := by unfold passT; simp [p114, p104, p99]
  have hs : sts.set k ⟨d, p, l, kp⟩ = sts := by
    obtain ⟨hlt, e⟩ := List.getElem?_eq_some_iff.1 HX.out
    rw [← e]
    exact List.set_getElem_self hlt
  rw [hk, ht, hs]
  have hG : Passes w gt g c 0 sts (.returned (.int .u8 0)) w := ⟨rfl, H.out, Moved.refl _ _⟩
  have HG := Lib.hid hG
  have e1 : (p == 114) = false := by simpa using p114
  have e2 : (p == 104) = false := by simpa using p104
  have e3 : (p == 99) = false := by simpa using p99
  clear hk ht hs hG p114 p104 p99
  go_enter Tryz.func31, Tryz.ntmps31
  go_wp2
  go_ret
  exact HG.out

set_option maxHeartbeats 2000000 in
theorem up_any (gt g c : Nat) (sts : List Pst) (i : Int) (w : World) (hn : sts.length ≤ 1000) (h : GridIs w gt g c sts) (ha : ∀ (k : Nat) (x : Pst), sts[k]? = some x → aboveOk sts.length x.dom.above) :
    Calls Tryz.prog 9 #[.pointer (some ⟨gt, 0, none⟩), .int .i64 i] w (Does w gt g c (upE sts i) (upT sts i)) := by
  have H := Lib.hid h
  have HA := Lib.hid ha
  have b0 := (h.box 0 _ rfl).1
  have g0 := (h.box 0 _ rfl).2
  clear h ha
  by_cases hb : hasB sts.length i = true
  · obtain ⟨k, x, rfl, hx⟩ := hasB_ex hb
    have hlt := (List.getElem?_eq_some_iff.1 hx).1
    have hE : upE sts (k : Int) = if restsB x.phase = true ∧ fedB sts x.dom.above = true then 0 else 6 := atP_at hx _ _
    obtain ⟨v1, -⟩ := H.out.at_ hx 1 _ rfl
    obtain ⟨v3, f3⟩ := H.out.at_ hx 3 _ rfl
    obtain ⟨v4, f4⟩ := H.out.at_ hx 4 _ rfl
    have i0 : (0 : Int) ≤ (k : Int) := by omega
    have i1 : (k : Int) < (sts.length : Int) := by omega
    have HB := Lib.hid hb
    have HX := Lib.hid hx
    obtain ⟨r, hr⟩ : ∃ r, restsB x.phase = r := ⟨_, rfl⟩
    obtain ⟨f, hf⟩ : ∃ f, fedB sts x.dom.above = f := ⟨_, rfl⟩
    rw [hr, hf] at hE
    have HR := Lib.hid hr
    have HF := Lib.hid hf
    have hT : upT sts (k : Int) = if r = true ∧ f = true then sts.set k (upS x) else sts := by
      unfold upT
      rw [hE]
      by_cases hrf : r = true ∧ f = true
      · rw [if_pos hrf, if_pos rfl, if_pos hrf, setT_at _ HX.out]
      · rw [if_neg hrf, if_neg (by omega), if_neg hrf]
    rw [hE, hT]
    clear hE hT hb hx hr hf
    cases r with
    | false =>
      have hG : Does w gt g c 6 sts (.returned (.int .i64 6)) w := ⟨rfl, H.out, Moved.refl _ _⟩
      have HG := Lib.hid hG
      rw [if_neg (by simp), if_neg (by simp)]
      clear hG
      go_enter Tryz.func9, Tryz.ntmps9
      go_wp2_with fail
      refine (has_any gt _ _ _ (k : Int) w H.out.box).mono ?_
      rintro e w' ⟨rfl, rfl⟩
      rw [HB.out]
      go_wp2_with fail
      refine (rests_any g (k * 6) x.phase _ v3).mono ?_
      rintro e w' ⟨rfl, rfl⟩
      rw [HR.out]
      go_wp2
      go_ret
      exact HG.out
    | true =>
      cases f with
      | false =>
        have hG : Does w gt g c 6 sts (.returned (.int .i64 6)) w := ⟨rfl, H.out, Moved.refl _ _⟩
        have HG := Lib.hid hG
        rw [if_neg (by simp), if_neg (by simp)]
        clear hG
        go_enter Tryz.func9, Tryz.ntmps9
        go_wp2_with fail
        refine (has_any gt _ _ _ (k : Int) w H.out.box).mono ?_
        rintro e w' ⟨rfl, rfl⟩
        rw [HB.out]
        go_wp2_with fail
        refine (rests_any g (k * 6) x.phase _ v3).mono ?_
        rintro e w' ⟨rfl, rfl⟩
        rw [HR.out]
        go_wp2_with fail
        refine (fed_any gt g c sts k x _ hn H.out HX.out (HA.out k x HX.out)).mono ?_
        rintro e w' ⟨rfl, rfl⟩
        rw [HF.out]
        go_wp2
        go_ret
        exact HG.out
      | true =>
        have hxl := (List.getElem?_eq_some_iff.1 HX.out).1
        have h1 := H.out.set (j := 3) (u := .int .u8 114) (x' := { x with phase := 114 }) HX.out (by omega) rfl
        have h2 := h1.set (k := k) (j := 4) (u := .int .i64 x.dom.delay) (x' := upS x) (List.getElem?_set_self hxl) (by omega) rfl
        rw [List.set_set] at h2
        have hG : Does w gt g c 0 (sts.set k (upS x)) (.returned (.int .i64 0)) ((w.setCell ⟨g, k * 6 + 3, none⟩ (.int .u8 114)).setCell ⟨g, k * 6 + 4, none⟩ (.int .i64 x.dom.delay)) :=
          ⟨rfl, h2, (Moved.setCell _ (by simp) _).trans (Moved.setCell _ (by simp) _)⟩
        have HG := Lib.hid hG
        rw [if_pos (by simp), if_pos (by simp)]
        clear hG h1 h2 hxl
        go_enter Tryz.func9, Tryz.ntmps9
        go_wp2_with fail
        refine (has_any gt _ _ _ (k : Int) w H.out.box).mono ?_
        rintro e w' ⟨rfl, rfl⟩
        rw [HB.out]
        go_wp2_with fail
        refine (rests_any g (k * 6) x.phase _ v3).mono ?_
        rintro e w' ⟨rfl, rfl⟩
        rw [HR.out]
        go_wp2_with fail
        refine (fed_any gt g c sts k x _ hn H.out HX.out (HA.out k x HX.out)).mono ?_
        rintro e w' ⟨rfl, rfl⟩
        rw [HF.out]
        go_wp2
        go_ret
        exact HG.out
  · have hb' : hasB sts.length i = false := by simpa using hb
    have hE : upE sts i = 4 := atP_no hb' _ _
    have hT : upT sts i = sts := by unfold upT; rw [hE, if_neg (by omega)]
    rw [hE, hT]
    have hG : Does w gt g c 4 sts (.returned (.int .i64 4)) w := ⟨rfl, H.out, Moved.refl _ _⟩
    have HG := Lib.hid hG
    have HB := Lib.hid hb'
    clear hb hb' hE hT hG
    go_enter Tryz.func9, Tryz.ntmps9
    go_wp2_with fail
    refine (has_any gt _ _ _ i w H.out.box).mono ?_
    rintro e w' ⟨rfl, rfl⟩
    rw [HB.out]
    go_wp2
    go_ret
    exact HG.out
end

section
set_option linter.unusedSimpArgs false
set_option linter.unusedVariables false
open Go.RowKit Go.Maps

def nbB (i : Int) (x : Pst) : Bool := decide (x.dom.above = i) && !restsB x.phase
theorem nb1_any (q : Nat) (i : Int) (x : Pst) (w : World) (hq : w.cell? ⟨q, 0, none⟩ = some (.int .i64 i)) :
    Calls Tryz.prog 57 #[.agg (pstL x).toArray, .pointer (some ⟨q, 0, none⟩)] w (TellsB (nbB i x) w) := by
  obtain ⟨⟨ab, dl, rt⟩, p, l, kp⟩ := x
  show Calls Tryz.prog 57 #[.agg #[.int .i64 ab, .int .i64 dl, .bool rt, .int .u8 p, .int .i64 l, .bool kp], .pointer (some ⟨q, 0, none⟩)] w _
  have hB : Below w.heap.size w (w.alloc (.cells #[.int .i64 ab, .int .i64 dl, .bool rt, .int .u8 p, .int .i64 l, .bool kp] 75)) := (Below.refl _ _).alloc (Nat.le_refl _) _
  have hbx := BoxAt.new w [.int .i64 ab, .int .i64 dl, .bool rt, .int .u8 p, .int .i64 l, .bool kp] 75
  have hq' := Lib.cell?_alloc_some (Obj.cells #[.int .i64 ab, .int .i64 dl, .bool rt, .int .u8 p, .int .i64 l, .bool kp] 75) hq
  have HB := Lib.hid hB
  have HX := Lib.hid hbx
  obtain ⟨r, hr⟩ : ∃ r, restsB p = r := ⟨_, rfl⟩
  have HR := Lib.hid hr
  by_cases ha : ab = i
  · subst ha
    have hn : nbB ab ⟨⟨ab, dl, rt⟩, p, l, kp⟩ = !r := by unfold nbB; simp [hr]
    rw [hn]
    clear hn hr hB hbx hq
    go_enter Tryz.func57, Tryz.ntmps57
    go_wp2_with fail
    refine (rests_any w.heap.size 0 p _ (HX.out 3 _ rfl).1).mono ?_
    rintro e w' ⟨rfl, rfl⟩
    rw [HR.out]
    cases r with
    | true =>
      go_wp2
      go_ret
      exact ⟨rfl, HB.out⟩
    | false =>
      go_wp2
      go_ret
      exact ⟨rfl, HB.out⟩
  · have hn : nbB i ⟨⟨ab, dl, rt⟩, p, l, kp⟩ = false := by unfold nbB; simp [ha]
    have e0 : (ab == i) = false := by simpa using ha
    rw [hn]
    clear hn hr hB hbx hq ha
    go_enter Tryz.func57, Tryz.ntmps57
    go_wp2
    go_ret
    exact ⟨rfl, HB.out⟩

set_option maxHeartbeats 1000000 in
theorem idxP_any (gt g c q : Nat) (sts : List Pst) (i : Int) (w : World) (hl : sts.length ≤ 1000) (h : GridIs w gt g c sts) (hq : w.cell? ⟨q, 0, none⟩ = some (.int .i64 i)) :
    Calls Tryz.prog 87 #[.slice (some ⟨g, 0, none⟩) sts.length c, .func (.func 57) #[] #[.pointer (some ⟨q, 0, none⟩)]] w (IdxOut (nbB i) sts w) := by
  have H := Lib.hid h
  have HQ0 := Lib.hid hq
  clear h hq
  go_enter Tryz.func87, Tryz.ntmps87
  go_wp2
  go_loopw [8] (fun i8 wr => ∃ k : Nat, k ≤ sts.length ∧ i8 = .int .i64 k ∧ Below w.heap.size w wr ∧ ∀ (j : Nat) y, j < k → sts[j]? = some y → nbB i y = false) (fun i8 _ => sts.length - (intOf i8).toNat)
  case atStart => exact ⟨0, Nat.zero_le _, rfl, Below.refl _ _, fun j y hj => absurd hj (by omega)⟩
  case round =>
    obtain ⟨k, hk, rfl, hB, hno⟩ := hrel
    have HN := Lib.hid hno
    clear hno
    by_cases hlt : k < sts.length
    · have hk? := List.getElem?_eq_getElem hlt
      generalize sts[k] = x at hk?
      have HK := Lib.hid hk?
      have hat := (H.out.move (Moved.of_below hB)).at_ hk?
      have c0 : wr.cell? ⟨g, k * 6, none⟩ = _ := (hat 0 _ rfl).1
      have c1 := (hat 1 _ rfl).1
      have c2 := (hat 2 _ rfl).1
      have c3 := (hat 3 _ rfl).1
      have c4 := (hat 4 _ rfl).1
      have c5 := (hat 5 _ rfl).1
      have hcall := nb1_any q i x wr (hB.cell (World.block_lt_of_cell? w _ HQ0.out) |>.trans HQ0.out)
      clear hat hk?
      cases hq : nbB i x with
      | true =>
        rw [hq] at hcall
        have HQ := Lib.hid hq
        go_wp2_with (go_at_call 57; refine hcall.mono ?_; rintro e w' ⟨rfl, hb'⟩)
        go_ret
        exact ⟨⟨k, .inl ⟨by omega, List.any_eq_true.2 ⟨x, List.mem_of_getElem? HK.out, HQ.out⟩⟩, rfl⟩, hB.trans (hb'.mono hB.size)⟩
      | false =>
        rw [hq] at hcall
        have HQ := Lib.hid hq
        go_wp2_with (go_at_call 57; refine hcall.mono ?_; rintro e w' ⟨rfl, hb'⟩)
        go_roundw
        case rel => exact ⟨k + 1, by omega, by go_num, hB.trans (hb'.mono hB.size), fun j y hj hy => by
          by_cases e : j = k
          · subst e; rw [HK.out] at hy; injection hy with hy; rw [← hy]; exact HQ.out
          · exact HN.out j y (by omega) hy⟩
        case measure => simp [intOf]; omega
    · have hm := any_no (p := nbB i) (xs := sts) fun j y hj => HN.out j y (by omega)
      have HM := Lib.hid hm
      clear hm
      go_wp2
      go_ret
      exact ⟨⟨-1, .inr ⟨by omega, HM.out⟩, rfl⟩, hB⟩

theorem contP_any (gt g c q : Nat) (sts : List Pst) (i : Int) (w : World) (hl : sts.length ≤ 1000) (h : GridIs w gt g c sts) (hq : w.cell? ⟨q, 0, none⟩ = some (.int .i64 i)) :
    Calls Tryz.prog 56 #[.slice (some ⟨g, 0, none⟩) sts.length c, .func (.func 57) #[] #[.pointer (some ⟨q, 0, none⟩)]] w (TellsB (sts.any (nbB i)) w) := by
  go_enter Tryz.func56, Tryz.ntmps56
  go_wp2_with fail
  refine (idxP_any gt g c q sts i w hl h hq).mono ?_
  rintro e w' ⟨⟨z, ⟨hz, hm⟩ | ⟨hz, hm⟩, rfl⟩, hb⟩
  · have hz' : decide (0 ≤ z) = true := by simpa using hz
    have HM := Lib.hid hm
    clear hm
    go_wp2
    go_ret
    exact ⟨by first | rfl | exact ret_bool HM.out.symm, hb⟩
  · have hz' : decide (0 ≤ z) = false := by simpa using hz
    have HM := Lib.hid hm
    clear hm
    go_wp2
    go_ret
    exact ⟨by first | rfl | exact ret_bool HM.out.symm, hb⟩

theorem needed_any (gt g c : Nat) (sts : List Pst) (i : Int) (w : World) (hl : sts.length ≤ 1000) (h : GridIs w gt g c sts) :
    Calls Tryz.prog 30 #[.pointer (some ⟨gt, 0, none⟩), .int .i64 i] w (TellsB (needB sts i) w) := by
  have hm : Moved [] w (w.alloc (.cells #[.int .i64 i] 3)) := Moved.alloc _ _
  have H1 := Lib.hid (h.move hm)
  have hbx := BoxAt.new w [.int .i64 i] 3
  have b0 := (H1.out.box 0 _ rfl).1
  have HX := Lib.hid hbx
  have hn : needB sts i = sts.any (nbB i) := rfl
  rw [hn]
  clear h hbx hn
  go_enter Tryz.func30, Tryz.ntmps30
  go_wp2_with fail
  refine (contP_any gt g c w.heap.size sts i _ hl H1.out (HX.out 0 _ rfl).1).mono ?_
  rintro e w' ⟨rfl, hb⟩
  go_wp2
  go_ret
  exact ⟨rfl, ((Below.refl w.heap.size w).alloc (Nat.le_refl _) _).trans (hb.mono (by simp))⟩

set_option maxHeartbeats 2000000 in
theorem down_any (gt g c : Nat) (sts : List Pst) (i : Int) (kp : Bool) (w : World) (hn : sts.length ≤ 1000) (h : GridIs w gt g c sts) :
    Calls Tryz.prog 11 #[.pointer (some ⟨gt, 0, none⟩), .int .i64 i, .bool kp] w (Does w gt g c (downE sts i kp) (downT sts i kp)) := by
  have H := Lib.hid h
  have b0 := (h.box 0 _ rfl).1
  have g0 := (h.box 0 _ rfl).2
  clear h
  by_cases hb : hasB sts.length i = true
  · obtain ⟨k, x, rfl, hx⟩ := hasB_ex hb
    have hlt := (List.getElem?_eq_some_iff.1 hx).1
    obtain ⟨E, hEE⟩ : ∃ E, downE sts (k : Int) kp = E := ⟨_, rfl⟩
    have hE : E = if x.phase = 49 then (if kp = true ∧ x.dom.ret = false then 1 else if needB sts (k : Int) = true then 7 else 0) else 6 := hEE ▸ atP_at hx _ _
    have hT : downT sts (k : Int) kp = if E = 0 then sts.set k (downS kp x) else sts := by unfold downT; rw [hEE, setT_at _ hx]
    rw [hEE, hT]
    obtain ⟨v2, -⟩ := H.out.at_ hx 2 _ rfl
    obtain ⟨v3, f3⟩ := H.out.at_ hx 3 _ rfl
    obtain ⟨v5, f5⟩ := H.out.at_ hx 5 _ rfl
    have i0 : (0 : Int) ≤ (k : Int) := by omega
    have i1 : (k : Int) < (sts.length : Int) := by omega
    have HB := Lib.hid hb
    have HX := Lib.hid hx
    obtain ⟨r, hr⟩ : ∃ r, x.dom.ret = r := ⟨_, rfl⟩
    obtain ⟨nb, hnb⟩ : ∃ nb, needB sts (k : Int) = nb := ⟨_, rfl⟩
    obtain ⟨p, hp⟩ : ∃ p, x.phase = p := ⟨_, rfl⟩
    rw [hr, hnb, hp] at hE
    rw [hr] at v2
    rw [hp] at v3
    have HR := Lib.hid hr
    have HNB := Lib.hid hnb
    have HP := Lib.hid hp
    have hG : ∀ E w', Moved [] w w' → Does w gt g c E sts (.returned (.int .i64 E)) w' := fun E w' hm => ⟨rfl, H.out.move hm, hm.mono (by simp)⟩
    have HG := Lib.hid hG
    clear hT hb hx hr hnb hp hEE hG
    by_cases p49 : p = 49
    · subst p49
      rw [if_pos rfl] at hE
      by_cases hka : kp = true ∧ r = false
      · rw [if_pos hka] at hE
        subst hE
        obtain ⟨rfl, rfl⟩ := hka
        rw [if_neg (by omega)]
        go_enter Tryz.func11, Tryz.ntmps11
        go_wp2_with fail
        refine (has_any gt _ _ _ (k : Int) w H.out.box).mono ?_
        rintro e w' ⟨rfl, rfl⟩
        rw [HB.out]
        go_wp2
        go_ret
        exact HG.out 1 _ (Moved.refl _ _)
      · rw [if_neg hka] at hE
        have hkr : kp = false ∨ (kp = true ∧ r = true) := by
          cases kp <;> cases r <;> simp_all
        have hxl := (List.getElem?_eq_some_iff.1 HX.out).1
        have hD : ∀ w', Moved [] w w' → Does w gt g c 0 (sts.set k (downS kp x)) (.returned (.int .i64 0)) ((w'.setCell ⟨g, k * 6 + 3, none⟩ (.int .u8 99)).setCell ⟨g, k * 6 + 5, none⟩ (.bool kp)) := fun w' hm => by
          have h1 := (H.out.move hm).set (j := 3) (u := .int .u8 99) (x' := { x with phase := 99 }) HX.out (by omega) rfl
          have h2 := h1.set (k := k) (j := 5) (u := .bool kp) (x' := downS kp x) (List.getElem?_set_self hxl) (by omega) rfl
          rw [List.set_set] at h2
          exact ⟨rfl, h2, (hm.mono (by simp)).trans ((Moved.setCell _ (by simp) _).trans (Moved.setCell _ (by simp) _))⟩
        have HD := Lib.hid hD
        have hw : ∀ w', Below w.heap.size w w' → w'.cell? ⟨gt, 0, none⟩ = some (.slice (some ⟨g, 0, none⟩) sts.length c) ∧ (∀ j v, (pstL x)[j]? = some v → w'.cell? ⟨g, k * 6 + j, none⟩ = some v ∧ w'.frozen? ⟨g, k * 6 + j, none⟩ = false) := fun w' hb => ⟨((H.out.move (Moved.of_below hb)).box 0 _ rfl).1, (H.out.move (Moved.of_below hb)).at_ HX.out⟩
        have HW := Lib.hid hw
        clear hka hD hw
        cases nb with
        | true =>
          rw [if_pos rfl] at hE
          subst hE
          rw [if_neg (by omega)]
          rcases hkr with rfl | ⟨rfl, rfl⟩
          all_goals
            go_enter Tryz.func11, Tryz.ntmps11
            go_wp2_with fail
            refine (has_any gt _ _ _ (k : Int) w H.out.box).mono ?_
            rintro e w' ⟨rfl, rfl⟩
            rw [HB.out]
            go_wp2_with fail
            refine (needed_any gt g c sts (k : Int) _ hn H.out).mono ?_
            rintro e w2 ⟨rfl, hb2⟩
            rw [HNB.out]
            have HB2 := Lib.hid hb2
            clear hb2
            go_wp2
            go_ret
            exact HG.out 7 _ (Moved.of_below HB2.out)
        | false =>
          rw [if_neg (by simp)] at hE
          subst hE
          rw [if_pos rfl]
          rcases hkr with rfl | ⟨rfl, rfl⟩
          all_goals
            go_enter Tryz.func11, Tryz.ntmps11
            go_wp2_with fail
            refine (has_any gt _ _ _ (k : Int) w H.out.box).mono ?_
            rintro e w' ⟨rfl, rfl⟩
            rw [HB.out]
            go_wp2_with fail
            refine (needed_any gt g c sts (k : Int) _ hn H.out).mono ?_
            rintro e w2 ⟨rfl, hb2⟩
            rw [HNB.out]
            obtain ⟨z0, hz⟩ := HW.out w2 hb2
            obtain ⟨z3, y3⟩ := hz 3 _ rfl
            obtain ⟨z5, y5⟩ := hz 5 _ rfl
            have HB2 := Lib.hid hb2
            clear hb2 hz
            go_wp2
            go_ret
            exact HD.out _ (Moved.of_below HB2.out)
    · have e0 : (p != 49) = true := by simpa using p49
      rw [if_neg p49] at hE
      subst hE
      rw [if_neg (by omega)]
      clear p49
      go_enter Tryz.func11, Tryz.ntmps11
      go_wp2_with fail
      refine (has_any gt _ _ _ (k : Int) w H.out.box).mono ?_
      rintro e w' ⟨rfl, rfl⟩
      rw [HB.out]
      go_wp2
      go_ret
      exact HG.out 6 _ (Moved.refl _ _)
  · have hb' : hasB sts.length i = false := by simpa using hb
    have hE : downE sts i kp = 4 := atP_no hb' _ _
    have hT : downT sts i kp = sts := by unfold downT; rw [hE, if_neg (by omega)]
    rw [hE, hT]
    have hG : Does w gt g c 4 sts (.returned (.int .i64 4)) w := ⟨rfl, H.out, Moved.refl _ _⟩
    have HG := Lib.hid hG
    have HB := Lib.hid hb'
    clear hb hb' hE hT hG
    go_enter Tryz.func11, Tryz.ntmps11
    go_wp2_with fail
    refine (has_any gt _ _ _ i w H.out.box).mono ?_
    rintro e w' ⟨rfl, rfl⟩
    rw [HB.out]
    go_wp2
    go_ret
    exact HG.out
end

section
set_option linter.unusedSimpArgs false
set_option linter.unusedVariables false
open Go.RowKit Go.Maps

theorem GridIs.far {w w' : World} {gt g c : Nat} {sts : List Pst} {H : List Nat} (h : GridIs w gt g c sts) (hm : Moved H w w') (h1 : gt ∉ H) (h2 : g ∉ H) : GridIs w' gt g c sts := by
  have hl := h.lt
  refine ⟨h.ne, h.box.move hm h1, ?_⟩
  obtain ⟨vss, a, b, ho⟩ := h.row
  exact ⟨vss, a, b, own_move ho fun b hb => by
    injection hb with hb
    subst hb
    exact hm.block _ hl.2 h2⟩

def evV (evs : List Ev) : List Value := evs.flatMap fun e => [.int .u8 e.kind, .int .i64 e.dom]
theorem evV_snoc (evs : List Ev) (a b : Int) : evV (evs ++ [⟨a, b⟩]) = evV evs ++ [.int .u8 a, .int .i64 b] := by simp [evV]
/-- a row of events that the call owns -/
def EvRow (w : World) (B : Nat) (v : Value) (evs : List Ev) : Prop := w.ownsRow B 58 2 v evs.length (evV evs)
theorem EvRow.nil (w : World) (B : Nat) : EvRow w B (.slice none 0 0) [] := World.ownsRow_nil _ _ _ _
theorem EvRow.move {w w' : World} {B : Nat} {v : Value} {evs : List Ev} (h : EvRow w B v evs) (hk : ∀ g, v.ownBlock = some g → w'.heap[g]? = w.heap[g]?) : EvRow w' B v evs := own_move h hk
theorem EvRow.moved {w w' : World} {B : Nat} {v : Value} {evs : List Ev} {H : List Nat} (h : EvRow w B v evs) (hm : Moved H w w') (hH : ∀ g, g ∈ H → g < B) : EvRow w' B v evs := h.move fun g hg => by
  have hlt := h.lt g hg
  exact hm.block g hlt.2 fun hh => by have := hH g hh; omega
theorem Tryz.info58 : (Tryz.prog.info? 58).map (fun i => (i.zero, i.size, i.bytes)) = some (some (.agg #[.int .u8 0, .int .i64 0]), 2, 16) := by kernel_rfl

/-- a tick under way -/
structure TickS (w wr : World) (gt g c : Nat) (sts : List Pst) (k : Nat) (v : Value) : Prop where
  grid : GridIs wr gt g c (midT sts k)
  evs : EvRow wr w.heap.size v (evsP sts k)
  mv : Moved [g] w wr
def Ticks (w : World) (gt g c : Nat) (sts : List Pst) (e : Ending) (w' : World) : Prop :=
  ∃ v, e = .returned v ∧ EvRow w' w.heap.size v (tickE sts) ∧ GridIs w' gt g c (tickT sts) ∧ Moved [g] w w'

set_option maxRecDepth 100000 in
set_option maxHeartbeats 2000000 in
theorem tick_any (gt g c : Nat) (sts : List Pst) (w : World) (hn : sts.length ≤ 1000) (h : GridIs w gt g c sts) (hl : ∀ (k : Nat) (x : Pst), sts[k]? = some x → x.left ≤ 1000000) :
    Calls Tryz.prog 15 #[.pointer (some ⟨gt, 0, none⟩)] w (Ticks w gt g c sts) := by
  have H := Lib.hid h
  have HL := Lib.hid hl
  have b0 := (h.box 0 _ rfl).1
  have hlt := h.lt
  obtain ⟨n, hN⟩ : ∃ n, n = sts.length := ⟨_, rfl⟩
  rw [← hN] at b0 hn
  have HN := Lib.hid hN
  clear h hl hN
  go_enter Tryz.func15, Tryz.ntmps15
  go_wp2
  go_loopw [3, 11] (fun v i wr => ∃ (k : Nat) (A : Option Addr) (m d : Nat), k ≤ n ∧ i = .int .i64 k ∧ v = .slice A m d ∧ RowKit.Hid (TickS w wr gt g c sts k (.slice A m d))) (fun _ i _ => n - (intOf i).toNat)
  case atStart => exact ⟨0, none, 0, 0, Nat.zero_le _, rfl, rfl, Lib.hid ⟨by rw [midT_zero]; exact H.out, EvRow.nil _ _, Moved.refl _ _⟩⟩
  case round =>
    obtain ⟨k, A, m, d, hk, rfl, rfl, HT⟩ := hrel
    by_cases hlt2 : k < n
    · have hx := List.getElem?_eq_getElem (l := sts) (i := k) (by rw [← HN.out]; exact hlt2)
      generalize sts[k] = x at hx
      have HX := Lib.hid hx
      have r0 := (HT.out.grid.box 0 _ rfl).1
      rw [midT_len, ← HN.out] at r0
      have i0 : (0 : Int) ≤ (k : Int) := by omega
      have i1 : (k : Int) < (n : Int) := by omega
      clear hx
      go_wp2_with fail
      refine (pass_any gt g c (midT sts k) k x wr HT.out.grid (midT_at HX.out) (HL.out k x HX.out)).mono ?_
      rintro e w2 ⟨rfl, hg2, hm2⟩
      have hm02 := HT.out.mv.trans hm2
      rw [← midT_succ HX.out] at hg2
      have hev2 := HT.out.evs.moved hm2 (fun b hb => by simp at hb; omega)
      have hes := evsP_succ HX.out
      obtain ⟨K, hK⟩ : ∃ K, passK x = K := ⟨_, rfl⟩
      rw [hK] at hes ⊢
      have HG2 := Lib.hid hg2
      have HM2 := Lib.hid hm02
      have HEV := Lib.hid hev2
      have hz2 := hm02.size
      clear hg2 hm02 hm2 hK
      by_cases h0 : K = 0
      · subst h0
        rw [if_pos rfl, List.append_nil] at hes
        have HES := Lib.hid hes
        clear hes hev2
        go_wp2
        go_roundw
        case rel => exact ⟨k + 1, A, m, d, hlt2, by go_num, rfl, Lib.hid ⟨HG2.out, by rw [HES.out]; exact HEV.out, HM2.out⟩⟩
        case measure => simp [intOf]; omega
      · rw [if_neg h0] at hes
        have HES := Lib.hid hes
        have h0' : (K != 0) = true := by simpa using h0
        have hml : (evsP sts k).length = m := by
          obtain ⟨A', c', e⟩ := own_shape' hev2
          injection e with _ e _
          exact e.symm
        have hmk := evsP_len sts k
        rw [hml] at hmk
        have hown : (w2.alloc (.cells #[.int .u8 K, .int .i64 (k : Int)] 58)).ownsRow w.heap.size 58 2 (.slice A m d) m (evV (evsP sts k)) := by
          have := hev2.moved (H := []) (Moved.alloc w2 (.cells #[.int .u8 K, .int .i64 (k : Int)] 58)) (fun b hb => by simp at hb)
          unfold EvRow at this
          rwa [hml] at this
        have HOWN := Lib.hid hown
        have HML := Lib.hid hml
        obtain ⟨i50, hi, hz0, hzs, hzb⟩ := info_parts Tryz.info58
        clear hes h0 hml hown hev2
        go_wp2_with (at_builtin; refine wpList_append_own_at _ rfl _ _ 47 rfl w.heap.size 58 i50 (.agg #[.int .u8 0, .int .i64 0]) 2 16 Tryz.underlying47 hi hz0 hzs hzb rfl (by decide) _ _ _ rfl HOWN.out ⟨w2.heap.size, 0, none⟩ 1 1 [.int .u8 K, .int .i64 (k : Int)] rfl rfl (cells_new w2 w2.heap.size rfl _ 58) (by intro u hu; simp at hu; rcases hu with rfl | rfl <;> rfl) (by unfold maxLen; omega) (by omega) (by simp; omega) ?_; intro v6 w6 hown6 hg6 _ hob6; obtain ⟨A6, c6, rfl⟩ := own_shape' hown6; have hmg : Moved (Value.slice A m d).ownBlock.toList w2 w6 := (Moved.alloc w2 _).trans (Moved.of_grown (hot := (Value.slice A m d).ownBlock.toList) (row := (Value.slice A m d).ownBlock) hg6 (by simp)); have HOWN6 := Lib.hid hown6; have HMG := Lib.hid hmg; clear hown6 hg6 hob6 hmg)
        have hbl : ∀ b, b ∈ (Value.slice A m d).ownBlock.toList → w.heap.size ≤ b := fun b hb => (HOWN.out.lt b (by simpa using hb)).1
        have HBL := Lib.hid hbl
        clear hbl
        go_roundw
        case rel =>
          refine ⟨k + 1, A6, m + 1, c6, hlt2, by go_num, rfl, Lib.hid ⟨HG2.out.far HMG.out ?_ ?_, ?_, HM2.out.trans' HMG.out fun b hb => .inr (HBL.out b hb)⟩⟩
          · intro hb; have := HBL.out _ hb; omega
          · intro hb; have := HBL.out _ hb; omega
          · unfold EvRow
            rw [HES.out, evV_snoc, List.length_append, HML.out]
            exact HOWN6.out
        case measure => simp [intOf]; omega
    · have hke : k = n := by omega
      subst hke
      have i1 : ¬ ((k : Int) < (k : Int)) := by omega
      go_wp2
      go_ret
      have hg := HT.out.grid
      have he := HT.out.evs
      rw [HN.out] at hg he
      rw [midT_end] at hg
      exact ⟨_, rfl, he, hg, HT.out.mv⟩
end

end Go.Proofs.YtlhmcpkfmnmhfaaGreat
