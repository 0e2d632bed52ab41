/- The contracts of a grid's small calls: has, rests, fed, pass, Phase, Left. -/
import Derived.Test.YtlhmcpkfmnmhfaaZ1
import Derived.Test.YtlhmcpkfmnmhfaaO2
import Derived.RegionTactic
import Derived.StillTailTactics
namespace Go.Proofs.Ytlhmcpkfmnmhfaa
set_option linter.unusedSimpArgs false
set_option linter.unusedVariables false
open Go.RowKit Go.Maps

def pstL (x : Pst) : List Value := [.int .i64 x.dom.above, .int .i64 x.dom.delay, .bool x.dom.ret, .int .u8 x.phase, .int .i64 x.left, .bool x.keep]
def PstC : ReadsC Pst := fun _ _ x vs => vs = pstL x
def PstV : Reads Pst := fun _ _ x vs => vs = pstL x
instance : Steady PstV := ⟨fun h _ => h, fun h _ => h⟩
instance : SteadyC PstC PstV := ⟨fun h _ => h, fun h _ => h, fun h _ => h, fun h => h⟩

/-- a grid: its box, and its row of states -/
structure GridIs (w : World) (gt g c : Nat) (sts : List Pst) : Prop where
  ne : g ≠ gt
  box : BoxAt w gt [.slice (some ⟨g, 0, none⟩) sts.length c]
  row : RowC PstC 6 75 [gt, g] w 0 (.slice (some ⟨g, 0, none⟩) sts.length c) sts

section
variable {w w' : World} {gt g c : Nat} {sts : List Pst}
theorem GridIs.lt (h : GridIs w gt g c sts) : gt < w.heap.size ∧ g < w.heap.size := by
  obtain ⟨A, c', e, _, hb⟩ := h.row.shape
  exact ⟨h.box.lt, (hb g rfl).2⟩
theorem GridIs.move (h : GridIs w gt g c sts) (hm : Moved [] w w') : GridIs w' gt g c sts :=
  ⟨h.ne, h.box.move hm (by simp), h.row.move (hm.mono (by simp)) (fun b hb => by injection hb with hb; subst hb; exact hm.block _ h.lt.2 (by simp))⟩
theorem GridIs.set {k j : Nat} {x x' : Pst} {u : Value} (h : GridIs w gt g c sts) (hx : sts[k]? = some x) (hj : j < 6)
    (hc : (pstL x).set j u = pstL x') : GridIs (w.setCell ⟨g, k * 6 + j, none⟩ u) gt g c (sts.set k x') := by
  refine ⟨h.ne, ?_, ?_⟩
  · rw [List.length_set]
    exact h.box.move (Moved.setCell (hot := [g]) w (by simp) u) (by simpa using Ne.symm h.ne)
  · rw [List.length_set]
    exact h.row.set rfl hx hj (by simp) (fun vs hv _ => by
      have e : vs = pstL x := hv
      subst e
      exact hc)
theorem GridIs.at_ {k : Nat} {x : Pst} (h : GridIs w gt g c sts) (hx : sts[k]? = some x) :
    ∀ j v, (pstL x)[j]? = some v → w.cell? ⟨g, k * 6 + j, none⟩ = some v ∧ w.frozen? ⟨g, k * 6 + j, none⟩ = false := by
  obtain ⟨vs, _, hv, hc⟩ := h.row.cell rfl hx
  have e : vs = pstL x := hv
  subst e
  exact hc
end

theorem has_any (gt : Nat) (C : Option Addr) (n d : Nat) (i : Int) (w : World) (h : BoxAt w gt [.slice C n d]) :
    Calls Try.prog 22 #[.pointer (some ⟨gt, 0, none⟩), .int .i64 i] w fun e w' => e = .returned (.bool (hasB n i)) ∧ w = w' := by
  have h0 := (h 0 _ rfl).1
  have f0 := (h 0 _ rfl).2
  have HE : hasB n i = decide (0 ≤ i ∧ i < (n : Int)) := rfl
  by_cases hi : 0 ≤ i
  · by_cases hn : i < (n : Int)
    · have he : hasB n i = true := by simp [HE, hi, hn]
      rw [he]
      clear HE he h
      go_enter Try.func22, Try.ntmps22
      go_wp2
      go_ret
      exact ⟨rfl, rfl⟩
    · have he : hasB n i = false := by simp [HE, hi, hn]
      rw [he]
      clear HE he h
      go_enter Try.func22, Try.ntmps22
      go_wp2
      go_ret
      exact ⟨rfl, rfl⟩
  · have he : hasB n i = false := by simp [HE, hi]
    rw [he]
    clear HE he h
    go_enter Try.func22, Try.ntmps22
    go_wp2
    go_ret
    exact ⟨rfl, rfl⟩

theorem rests_any (g o : Nat) (p : Int) (w : World) (h : w.cell? ⟨g, o + 3, none⟩ = some (.int .u8 p)) :
    Calls Try.prog 23 #[.pointer (some ⟨g, o, none⟩)] w fun e w' => e = .returned (.bool (restsB p)) ∧ w = w' := by
  by_cases h0 : p = 48
  · subst h0
    have hr : restsB 48 = true := by decide
    rw [hr]
    clear hr
    go_enter Try.func23, Try.ntmps23
    go_wp2
    go_ret
    exact ⟨rfl, rfl⟩
  · by_cases h1 : p = 116
    · subst h1
      have hr : restsB 116 = true := by decide
      rw [hr]
      clear hr h0
      go_enter Try.func23, Try.ntmps23
      go_wp2
      go_ret
      exact ⟨rfl, rfl⟩
    · have hr : restsB p = false := by unfold restsB; simp [h0, h1]
      rw [hr]
      have e0 : (p == 48) = false := by simpa using h0
      have e1 : (p == 116) = false := by simpa using h1
      clear hr h0 h1
      go_enter Try.func23, Try.ntmps23
      go_wp2
      go_ret
      exact ⟨rfl, rfl⟩

theorem phase_any (gt g c : Nat) (sts : List Pst) (i : Int) (w : World) (hn : sts.length ≤ 1000) (h : GridIs w gt g c sts) :
    Calls Try.prog 16 #[.pointer (some ⟨gt, 0, none⟩), .int .i64 i] w fun e w' => e = .returned (.int .u8 (phaseP sts i)) ∧ w = w' := by
  have H := Lib.hid h
  have b0 := (h.box 0 _ rfl).1
  have g0 := (h.box 0 _ rfl).2
  clear h
  by_cases hb : hasB sts.length i = true
  · obtain ⟨k, x, rfl, hx⟩ := hasB_ex hb
    have hlt := (List.getElem?_eq_some_iff.1 hx).1
    have hl : phaseP sts (k : Int) = x.phase := atP_at hx _ _
    rw [hl]
    have v3 := (H.out.at_ hx 3 _ rfl).1
    have i0 : (0 : Int) ≤ (k : Int) := by omega
    have i1 : (k : Int) < (sts.length : Int) := by omega
    have HB := Lib.hid hb
    clear hb hx hl
    go_enter Try.func16, Try.ntmps16
    go_wp2_with fail
    refine (has_any gt _ _ _ (k : Int) w H.out.box).mono ?_
    rintro e w' ⟨rfl, rfl⟩
    rw [HB.out]
    go_wp2
    go_ret
    exact ⟨rfl, rfl⟩
  · have hb' : hasB sts.length i = false := by simpa using hb
    have hl : phaseP sts i = 0 := atP_no hb' _ _
    rw [hl]
    have HB := Lib.hid hb'
    clear hb hb' hl
    go_enter Try.func16, Try.ntmps16
    go_wp2_with fail
    refine (has_any gt _ _ _ i w H.out.box).mono ?_
    rintro e w' ⟨rfl, rfl⟩
    rw [HB.out]
    go_wp2
    go_ret
    exact ⟨rfl, rfl⟩

theorem left_any (gt g c : Nat) (sts : List Pst) (i : Int) (w : World) (hn : sts.length ≤ 1000) (h : GridIs w gt g c sts) :
    Calls Try.prog 28 #[.pointer (some ⟨gt, 0, none⟩), .int .i64 i] w fun e w' => e = .returned (.int .i64 (leftP sts i)) ∧ w = w' := by
  have H := Lib.hid h
  have b0 := (h.box 0 _ rfl).1
  have g0 := (h.box 0 _ rfl).2
  clear h
  by_cases hb : hasB sts.length i = true
  · obtain ⟨k, x, rfl, hx⟩ := hasB_ex hb
    have hlt := (List.getElem?_eq_some_iff.1 hx).1
    have hl : leftP sts (k : Int) = x.left := atP_at hx _ _
    rw [hl]
    have v3 := (H.out.at_ hx 4 _ rfl).1
    have i0 : (0 : Int) ≤ (k : Int) := by omega
    have i1 : (k : Int) < (sts.length : Int) := by omega
    have HB := Lib.hid hb
    clear hb hx hl
    go_enter Try.func28, Try.ntmps28
    go_wp2_with fail
    refine (has_any gt _ _ _ (k : Int) w H.out.box).mono ?_
    rintro e w' ⟨rfl, rfl⟩
    rw [HB.out]
    go_wp2
    go_ret
    exact ⟨rfl, rfl⟩
  · have hb' : hasB sts.length i = false := by simpa using hb
    have hl : leftP sts i = 0 := atP_no hb' _ _
    rw [hl]
    have HB := Lib.hid hb'
    clear hb hb' hl
    go_enter Try.func28, Try.ntmps28
    go_wp2_with fail
    refine (has_any gt _ _ _ i w H.out.box).mono ?_
    rintro e w' ⟨rfl, rfl⟩
    rw [HB.out]
    go_wp2
    go_ret
    exact ⟨rfl, rfl⟩

/-- the one above is there, if there is one -/
def aboveOk (n : Nat) (a : Int) : Prop := a = -1 ∨ (0 ≤ a ∧ a < (n : Int))
theorem fed_any (gt g c : Nat) (sts : List Pst) (k : Nat) (x : Pst) (w : World) (hn : sts.length ≤ 1000) (h : GridIs w gt g c sts) (hx : sts[k]? = some x) (ha : aboveOk sts.length x.dom.above) :
    Calls Try.prog 24 #[.pointer (some ⟨gt, 0, none⟩), .int .i64 k] w fun e w' => e = .returned (.bool (fedB sts x.dom.above)) ∧ w = w' := by
  have H := Lib.hid h
  have b0 := (h.box 0 _ rfl).1
  have g0 := (h.box 0 _ rfl).2
  have v0 : w.cell? ⟨g, k * 6, none⟩ = some (.int .i64 x.dom.above) := (h.at_ hx 0 _ rfl).1
  have hlt := (List.getElem?_eq_some_iff.1 hx).1
  have i0 : (0 : Int) ≤ (k : Int) := by omega
  have i1 : (k : Int) < (sts.length : Int) := by omega
  clear h
  generalize x.dom.above = a at *
  rcases ha with rfl | ⟨ha0, ha1⟩
  · have hf : fedB sts (-1) = true := by unfold fedB; simp
    rw [hf]
    clear hf hx
    go_enter Try.func24, Try.ntmps24
    go_wp2
    go_ret
    exact ⟨rfl, rfl⟩
  · obtain ⟨m, rfl⟩ : ∃ m : Nat, a = (m : Int) := ⟨a.toNat, by omega⟩
    have hml : m < sts.length := by omega
    have hy := List.getElem?_eq_getElem hml
    generalize sts[m] = y at hy
    have v3 := (H.out.at_ hy 3 _ rfl).1
    have e0 : ((m : Int) == -1) = false := by simp
    have hp : phaseP sts (m : Int) = y.phase := atP_at hy _ _
    by_cases hp1 : y.phase = 49
    · have hf : fedB sts (m : Int) = true := by unfold fedB; rw [hp]; simp [hp1]
      rw [hf]
      rw [hp1] at v3
      clear hf hx hy hp hp1
      go_enter Try.func24, Try.ntmps24
      go_wp2
      go_ret
      exact ⟨rfl, rfl⟩
    · have hf : fedB sts (m : Int) = false := by unfold fedB; rw [hp]; simp [hp1]
      rw [hf]
      have e1 : (y.phase == 49) = false := by simpa using hp1
      clear hf hx hy hp hp1
      go_enter Try.func24, Try.ntmps24
      go_wp2
      go_ret
      exact ⟨rfl, rfl⟩

end Go.Proofs.Ytlhmcpkfmnmhfaa
