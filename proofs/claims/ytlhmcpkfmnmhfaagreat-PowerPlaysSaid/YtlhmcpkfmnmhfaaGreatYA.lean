/- The document's own grid: there, Phase, Left, Up. -/
import Derived.Test.YtlhmcpkfmnmhfaaGreatZX
namespace Go.Proofs.YtlhmcpkfmnmhfaaGreat
section
set_option linter.unusedSimpArgs false
set_option linter.unusedVariables false
open Go.RowKit Go.Maps

def domL (d : Dom) : List Value := [.int .i64 d.above, .int .i64 d.delay, .bool d.ret]
def rstL (x : Pst) : List Value := [.int .u8 x.phase, .int .i64 x.left, .bool x.keep]
def RstateC : ReadsC Pst := fun _ _ x vs => vs = rstL x
def RstateV : Reads Pst := fun _ _ x vs => vs = rstL x
instance : Steady RstateV := ⟨fun h _ => h, fun h _ => h⟩
instance : SteadyC RstateC RstateV := ⟨fun h _ => h, fun h _ => h, fun h _ => h, fun h => h⟩

/-- the document's grid: its box, the domains, and the states -/
structure RefIs (w : World) (gr gd gs cd cs : Nat) (sts : List Pst) : Prop where
  n1 : gd ≠ gr
  n2 : gs ≠ gr
  n3 : gd ≠ gs
  lt : gd < w.heap.size
  box : BoxAt w gr [.slice (some ⟨gd, 0, none⟩) sts.length cd, .slice (some ⟨gs, 0, none⟩) sts.length cs]
  dom : ∀ (k : Nat) (x : Pst), sts[k]? = some x → ∀ j v, (domL x.dom)[j]? = some v → w.cell? ⟨gd, k * 3 + j, none⟩ = some v
  row : RowC RstateC 3 80 [gr, gs] w 0 (.slice (some ⟨gs, 0, none⟩) sts.length cs) sts
section
variable {w w' : World} {gr gd gs cd cs : Nat} {sts : List Pst}
theorem RefIs.lts (h : RefIs w gr gd gs cd cs sts) : gr < w.heap.size ∧ gd < w.heap.size ∧ gs < w.heap.size := by
  obtain ⟨A, c', e, _, hb⟩ := h.row.shape
  exact ⟨h.box.lt, h.lt, (hb gs rfl).2⟩
theorem RefIs.far {H : List Nat} (h : RefIs w gr gd gs cd cs sts) (hm : Moved H w w') (h1 : gr ∉ H) (h2 : gd ∉ H) (h3 : gs ∉ H) : RefIs w' gr gd gs cd cs sts := by
  have hl := h.lts
  refine ⟨h.n1, h.n2, h.n3, Nat.lt_of_lt_of_le h.lt hm.size, h.box.move hm h1, fun k x hx j v hj => hm.cell (h.dom k x hx j v hj) h2, ?_⟩
  obtain ⟨vss, a, b, ho⟩ := h.row
  exact ⟨vss, a, b, own_move ho fun b hb => by
    injection hb with hb
    subst hb
    exact hm.block _ hl.2.2 h3⟩
theorem RefIs.move (h : RefIs w gr gd gs cd cs sts) (hm : Moved [] w w') : RefIs w' gr gd gs cd cs sts := h.far hm (by simp) (by simp) (by simp)
theorem RefIs.set {k j : Nat} {x x' : Pst} {u : Value} (h : RefIs w gr gd gs cd cs sts) (hx : sts[k]? = some x) (hj : j < 3) (hc : (rstL x).set j u = rstL x') (hd : x'.dom = x.dom) : RefIs (w.setCell ⟨gs, k * 3 + j, none⟩ u) gr gd gs cd cs (sts.set k x') := by
  have hm : Moved [gs] w (w.setCell ⟨gs, k * 3 + j, none⟩ u) := Moved.setCell w (by simp) u
  refine ⟨h.n1, h.n2, h.n3, by rw [size_setCell]; exact h.lt, ?_, fun m y hy i v hi => ?_, ?_⟩
  · rw [List.length_set]
    exact h.box.move hm (by simpa using Ne.symm h.n2)
  · rcases set_at' hy with ⟨rfl, rfl⟩ | ⟨hne, hy⟩
    · rw [hd] at hi
      exact hm.cell (h.dom m x hx i v hi) (by simpa using h.n3)
    · exact hm.cell (h.dom m y hy i v hi) (by simpa using h.n3)
  · rw [List.length_set]
    exact h.row.set rfl hx hj (by simp) (fun vs hv _ => by
      have e : vs = rstL x := hv
      subst e
      exact hc)
theorem RefIs.at_ {k : Nat} {x : Pst} (h : RefIs w gr gd gs cd cs sts) (hx : sts[k]? = some x) :
    ∀ j v, (rstL x)[j]? = some v → w.cell? ⟨gs, k * 3 + j, none⟩ = some v ∧ w.frozen? ⟨gs, k * 3 + j, none⟩ = false := by
  obtain ⟨vs, _, hv, hc⟩ := h.row.cell rfl hx
  have e : vs = rstL x := hv
  subst e
  exact hc
end

theorem there_any (gr : Nat) (C S : Option Addr) (n d m e : Nat) (i : Int) (w : World) (h : BoxAt w gr [.slice C n d, .slice S m e]) :
    Calls Tryz.prog 29 #[.pointer (some ⟨gr, 0, none⟩), .int .i64 i] w fun e w' => e = .returned (.bool (hasB n i)) ∧ w = w' := by
  have h0 := (h 0 _ rfl).1
  have f0 := (h 0 _ rfl).2
  have HE : hasB n i = decide (0 ≤ i ∧ i < (n : Int)) := rfl
  by_cases hi : 0 ≤ i
  · by_cases hn : i < (n : Int)
    · have he : hasB n i = true := by simp [HE, hi, hn]
      rw [he]
      clear HE he h
      go_enter Tryz.func29, Tryz.ntmps29
      go_wp2
      go_ret
      exact ⟨rfl, rfl⟩
    · have he : hasB n i = false := by simp [HE, hi, hn]
      rw [he]
      clear HE he h
      go_enter Tryz.func29, Tryz.ntmps29
      go_wp2
      go_ret
      exact ⟨rfl, rfl⟩
  · have he : hasB n i = false := by simp [HE, hi]
    rw [he]
    clear HE he h
    go_enter Tryz.func29, Tryz.ntmps29
    go_wp2
    go_ret
    exact ⟨rfl, rfl⟩

theorem rphase_any (gr gd gs cd cs : Nat) (sts : List Pst) (i : Int) (w : World) (hn : sts.length ≤ 1000) (h : RefIs w gr gd gs cd cs sts) :
    Calls Tryz.prog 18 #[.pointer (some ⟨gr, 0, none⟩), .int .i64 i] w fun e w' => e = .returned (.int .u8 (phaseP sts i)) ∧ w = w' := by
  have H := Lib.hid h
  have b1 := (h.box 1 _ rfl).1
  clear h
  by_cases hb : hasB sts.length i = true
  · obtain ⟨k, x, rfl, hx⟩ := hasB_ex hb
    have hlt := (List.getElem?_eq_some_iff.1 hx).1
    have hl : phaseP sts (k : Int) = x.phase := atP_at hx _ _
    rw [hl]
    have v0 : w.cell? ⟨gs, k * 3, none⟩ = some (.int .u8 x.phase) := (H.out.at_ hx 0 _ rfl).1
    have i0 : (0 : Int) ≤ (k : Int) := by omega
    have i1 : (k : Int) < (sts.length : Int) := by omega
    have HB := Lib.hid hb
    clear hb hx hl
    go_enter Tryz.func18, Tryz.ntmps18
    go_wp2_with fail
    refine (there_any gr _ _ _ _ _ _ (k : Int) w H.out.box).mono ?_
    rintro e w' ⟨rfl, rfl⟩
    rw [HB.out]
    go_wp2
    go_ret
    exact ⟨rfl, rfl⟩
  · have hb' : hasB sts.length i = false := by simpa using hb
    have hl : phaseP sts i = 0 := atP_no hb' _ _
    rw [hl]
    have HB := Lib.hid hb'
    clear hb hb' hl
    go_enter Tryz.func18, Tryz.ntmps18
    go_wp2_with fail
    refine (there_any gr _ _ _ _ _ _ i w H.out.box).mono ?_
    rintro e w' ⟨rfl, rfl⟩
    rw [HB.out]
    go_wp2
    go_ret
    exact ⟨rfl, rfl⟩

theorem rleft_any (gr gd gs cd cs : Nat) (sts : List Pst) (i : Int) (w : World) (hn : sts.length ≤ 1000) (h : RefIs w gr gd gs cd cs sts) :
    Calls Tryz.prog 20 #[.pointer (some ⟨gr, 0, none⟩), .int .i64 i] w fun e w' => e = .returned (.int .i64 (leftP sts i)) ∧ w = w' := by
  have H := Lib.hid h
  have b1 := (h.box 1 _ rfl).1
  clear h
  by_cases hb : hasB sts.length i = true
  · obtain ⟨k, x, rfl, hx⟩ := hasB_ex hb
    have hlt := (List.getElem?_eq_some_iff.1 hx).1
    have hl : leftP sts (k : Int) = x.left := atP_at hx _ _
    rw [hl]
    have v1 := (H.out.at_ hx 1 _ rfl).1
    have i0 : (0 : Int) ≤ (k : Int) := by omega
    have i1 : (k : Int) < (sts.length : Int) := by omega
    have HB := Lib.hid hb
    clear hb hx hl
    go_enter Tryz.func20, Tryz.ntmps20
    go_wp2_with fail
    refine (there_any gr _ _ _ _ _ _ (k : Int) w H.out.box).mono ?_
    rintro e w' ⟨rfl, rfl⟩
    rw [HB.out]
    go_wp2
    go_ret
    exact ⟨rfl, rfl⟩
  · have hb' : hasB sts.length i = false := by simpa using hb
    have hl : leftP sts i = 0 := atP_no hb' _ _
    rw [hl]
    have HB := Lib.hid hb'
    clear hb hb' hl
    go_enter Tryz.func20, Tryz.ntmps20
    go_wp2_with fail
    refine (there_any gr _ _ _ _ _ _ i w H.out.box).mono ?_
    rintro e w' ⟨rfl, rfl⟩
    rw [HB.out]
    go_wp2
    go_ret
    exact ⟨rfl, rfl⟩

/-- what rests is kept just if it is retained -/
def KeepIs (sts : List Pst) : Prop := ∀ (k : Nat) (x : Pst), sts[k]? = some x → restsB x.phase = true → x.keep = decide (x.phase = 116)
/-- what a call does: it tells an error, and leaves a grid -/
def RDoes (w : World) (gr gd gs cd cs : Nat) (E : Int) (sts' : List Pst) (e : Ending) (w' : World) : Prop := e = .returned (.int .i64 E) ∧ RefIs w' gr gd gs cd cs sts' ∧ Moved [gs] w w'
end

section
set_option linter.unusedSimpArgs false
set_option linter.unusedVariables false
open Go.RowKit Go.Maps

set_option maxRecDepth 100000 in
set_option maxHeartbeats 4000000 in
theorem rup_any (gr gd gs cd cs : Nat) (sts : List Pst) (i : Int) (w : World) (hn : sts.length ≤ 1000) (h : RefIs w gr gd gs cd cs sts) (hk : KeepIs sts) (ha : ∀ (k : Nat) (x : Pst), sts[k]? = some x → aboveOk sts.length x.dom.above) :
    Calls Tryz.prog 10 #[.pointer (some ⟨gr, 0, none⟩), .int .i64 i] w (RDoes w gr gd gs cd cs (upE sts i) (upT sts i)) := by
  have H := Lib.hid h
  have b0 := (h.box 0 _ rfl).1
  have b1 := (h.box 1 _ rfl).1
  have hne := h.n3
  have hne1 := h.n1
  have hne2 := h.n2
  clear h
  by_cases hb : hasB sts.length i = true
  · obtain ⟨k, x, rfl, hx⟩ := hasB_ex hb
    have hlt := (List.getElem?_eq_some_iff.1 hx).1
    have hE : upE sts (k : Int) = if restsB x.phase = true ∧ fedB sts x.dom.above = true then 0 else 6 := atP_at hx _ _
    have hT : upT sts (k : Int) = if restsB x.phase = true ∧ fedB sts x.dom.above = true then sts.set k (upS x) else sts := by
      unfold upT
      rw [hE]
      by_cases hrf : restsB x.phase = true ∧ fedB sts x.dom.above = true
      · rw [if_pos hrf, if_pos rfl, if_pos hrf, setT_at _ hx]
      · rw [if_neg hrf, if_neg (by omega), if_neg hrf]
    obtain ⟨v0, f0⟩ := H.out.at_ hx 0 _ rfl
    have v0' : w.cell? ⟨gs, k * 3, none⟩ = some (.int .u8 x.phase) := v0
    have f0' : w.frozen? ⟨gs, k * 3, none⟩ = false := f0
    obtain ⟨v1, f1⟩ := H.out.at_ hx 1 _ rfl
    obtain ⟨v2, f2⟩ := H.out.at_ hx 2 _ rfl
    have d0 : w.cell? ⟨gd, k * 3, none⟩ = some (.int .i64 x.dom.above) := H.out.dom k x hx 0 _ rfl
    have d1 := H.out.dom k x hx 1 _ rfl
    have i0 : (0 : Int) ≤ (k : Int) := by omega
    have i1 : (k : Int) < (sts.length : Int) := by omega
    have hax := ha k x hx
    have hkx := hk k x hx
    have hG6 : RDoes w gr gd gs cd cs 6 sts (.returned (.int .i64 6)) w := ⟨rfl, H.out, Moved.refl _ _⟩
    have HG6 := Lib.hid hG6
    have HB := Lib.hid hb
    have HX := Lib.hid hx
    rw [hE, hT]
    clear hE hT hb hx hG6 v0 f0 hk ha
    obtain ⟨⟨ab, dl, rt⟩, p, l, kp⟩ := x
    simp only at v0' v1 v2 d0 d1 hax hkx ⊢
    have d1' : w.cell? ⟨gd, k * 3 + 1, none⟩ = some (.int .i64 dl) := d1
    obtain hr | hr : restsB p = true ∨ restsB p = false := by cases restsB p <;> simp
    · have hp : p = 48 ∨ p = 116 := by unfold restsB at hr; simpa using hr
      have hkx' := hkx hr
      have hset : ∀ kp', kp' = kp → RefIs (((w.setCell ⟨gs, k * 3, none⟩ (.int .u8 114)).setCell ⟨gs, k * 3 + 1, none⟩ (.int .i64 dl)).setCell ⟨gs, k * 3 + 2, none⟩ (.bool kp')) gr gd gs cd cs (sts.set k ⟨⟨ab, dl, rt⟩, 114, dl, kp⟩) := fun kp' e => by
        subst e
        have s1 := H.out.set (j := 0) (u := .int .u8 114) (x' := ⟨⟨ab, dl, rt⟩, 114, l, kp'⟩) HX.out (by omega) rfl rfl
        have s2 := s1.set (k := k) (j := 1) (u := .int .i64 dl) (x' := ⟨⟨ab, dl, rt⟩, 114, dl, kp'⟩) (List.getElem?_set_self hlt) (by omega) rfl rfl
        have s3 := s2.set (k := k) (j := 2) (u := .bool kp') (x' := ⟨⟨ab, dl, rt⟩, 114, dl, kp'⟩) (by rw [List.set_set]; exact List.getElem?_set_self hlt) (by omega) rfl rfl
        rw [List.set_set, List.set_set] at s3
        exact s3
      have hmv : ∀ u1 u2 u3, Moved [gs] w (((w.setCell ⟨gs, k * 3, none⟩ u1).setCell ⟨gs, k * 3 + 1, none⟩ u2).setCell ⟨gs, k * 3 + 2, none⟩ u3) := fun u1 u2 u3 => ((Moved.setCell (hot := [gs]) w (p := ⟨gs, k * 3, none⟩) (by simp) u1).trans (Moved.setCell (hot := [gs]) _ (p := ⟨gs, k * 3 + 1, none⟩) (by simp) u2)).trans (Moved.setCell (hot := [gs]) _ (p := ⟨gs, k * 3 + 2, none⟩) (by simp) u3)
      have HSET := Lib.hid hset
      have HMV := Lib.hid hmv
      have HKX := Lib.hid hkx'
      clear hset hmv hkx hkx'
      rcases hax with hab | ⟨hab0, hab1⟩
      · have hf : fedB sts ab = true := GInv.mkfed (.inl hab)
        have han : ab < 0 := by omega
        rw [if_pos ⟨hr, hf⟩, if_pos ⟨hr, hf⟩]
        clear hf hab hr
        obtain rfl | rfl := hp
        all_goals
          go_enter Tryz.func10, Tryz.ntmps10
          go_wp2_with fail
          refine (there_any gr _ _ _ _ _ _ (k : Int) w H.out.box).mono ?_
          rintro e w' ⟨rfl, rfl⟩
          rw [HB.out]
          go_wp2
          go_region
          all_goals
            go_wp2
            go_ret
            exact ⟨rfl, (HSET.out _ HKX.out.symm).move ⟨rfl, rfl, rfl, Nat.le_refl _, fun _ _ _ => rfl⟩, (HMV.out _ _ _).trans ⟨rfl, rfl, rfl, Nat.le_refl _, fun _ _ _ => rfl⟩⟩
      · obtain ⟨m, rfl⟩ : ∃ m : Nat, ab = (m : Int) := ⟨ab.toNat, by omega⟩
        have hml : m < sts.length := by omega
        have hy := List.getElem?_eq_getElem hml
        generalize sts[m] = y at hy
        have z0 : w.cell? ⟨gs, m * 3, none⟩ = some (.int .u8 y.phase) := (H.out.at_ hy 0 _ rfl).1
        have hpy : phaseP sts (m : Int) = y.phase := atP_at hy _ _
        by_cases h49 : y.phase = 49
        · have hf : fedB sts (m : Int) = true := GInv.mkfed (.inr (hpy.trans h49))
          rw [if_pos ⟨hr, hf⟩, if_pos ⟨hr, hf⟩]
          rw [h49] at z0
          clear hf hr hy hpy h49
          obtain rfl | rfl := hp
          all_goals
            go_enter Tryz.func10, Tryz.ntmps10
            go_wp2_with fail
            refine (there_any gr _ _ _ _ _ _ (k : Int) w H.out.box).mono ?_
            rintro e w' ⟨rfl, rfl⟩
            rw [HB.out]
            go_wp2
            go_region
            all_goals
              go_wp2
              go_ret
              exact ⟨rfl, (HSET.out _ HKX.out.symm).move ⟨rfl, rfl, rfl, Nat.le_refl _, fun _ _ _ => rfl⟩, (HMV.out _ _ _).trans ⟨rfl, rfl, rfl, Nat.le_refl _, fun _ _ _ => rfl⟩⟩
        · have hf : fedB sts (m : Int) = false := by unfold fedB; rw [hpy]; simp [h49]
          rw [if_neg (by simp [hf]), if_neg (by simp [hf])]
          have h49' : (y.phase != 49) = true := by simpa using h49
          clear hf hr hy hpy h49
          obtain rfl | rfl := hp
          all_goals
            go_enter Tryz.func10, Tryz.ntmps10
            go_wp2_with fail
            refine (there_any gr _ _ _ _ _ _ (k : Int) w H.out.box).mono ?_
            rintro e w' ⟨rfl, rfl⟩
            rw [HB.out]
            go_wp2
            go_ret
            exact HG6.out
    · have hp := GInv.ret0 hr
      have e48 : (p != 48) = true := by simpa using hp.1
      have e116 : (p != 116) = true := by simpa using hp.2
      rw [if_neg (by simp [hr]), if_neg (by simp [hr])]
      clear hr hp hkx hax
      go_enter Tryz.func10, Tryz.ntmps10
      go_wp2_with fail
      refine (there_any gr _ _ _ _ _ _ (k : Int) w H.out.box).mono ?_
      rintro e w' ⟨rfl, rfl⟩
      rw [HB.out]
      go_wp2
      go_ret
      exact HG6.out
  · have hb' : hasB sts.length i = false := by simpa using hb
    have hE : upE sts i = 4 := atP_no hb' _ _
    have hT : upT sts i = sts := by unfold upT; rw [hE, if_neg (by omega)]
    rw [hE, hT]
    have hG : RDoes w gr gd gs cd cs 4 sts (.returned (.int .i64 4)) w := ⟨rfl, H.out, Moved.refl _ _⟩
    have HG := Lib.hid hG
    have HB := Lib.hid hb'
    clear hb hb' hE hT hG
    go_enter Tryz.func10, Tryz.ntmps10
    go_wp2_with fail
    refine (there_any gr _ _ _ _ _ _ i w H.out.box).mono ?_
    rintro e w' ⟨rfl, rfl⟩
    rw [HB.out]
    go_wp2
    go_ret
    exact HG.out
end

section
set_option linter.unusedSimpArgs false
set_option linter.unusedVariables false
open Go.RowKit Go.Maps

set_option maxRecDepth 100000 in
set_option maxHeartbeats 4000000 in
theorem rdown_any (gr gd gs cd cs : Nat) (sts : List Pst) (i : Int) (kp : Bool) (w : World) (hn : sts.length ≤ 1000) (h : RefIs w gr gd gs cd cs sts) :
    Calls Tryz.prog 12 #[.pointer (some ⟨gr, 0, none⟩), .int .i64 i, .bool kp] w (RDoes w gr gd gs cd cs (downE sts i kp) (downT sts i kp)) := by
  have H := Lib.hid h
  have b0 := (h.box 0 _ rfl).1
  have b1 := (h.box 1 _ rfl).1
  clear h
  by_cases hb : hasB sts.length i = true
  · obtain ⟨k, x, rfl, hx⟩ := hasB_ex hb
    have hlt := (List.getElem?_eq_some_iff.1 hx).1
    obtain ⟨E, hEE⟩ : ∃ E, downE sts (k : Int) kp = E := ⟨_, rfl⟩
    have hE : E = if x.phase = 49 then (if kp = true ∧ x.dom.ret = false then 1 else if needB sts (k : Int) = true then 7 else 0) else 6 := hEE ▸ atP_at hx _ _
    have hT : downT sts (k : Int) kp = if E = 0 then sts.set k (downS kp x) else sts := by unfold downT; rw [hEE, setT_at _ hx]
    rw [hEE, hT]
    obtain ⟨F, hF⟩ : ∃ F, (if E = 0 then sts.set k (downS kp x) else sts) = F := ⟨_, rfl⟩
    rw [hF]
    have HF := Lib.hid hF
    clear hF
    obtain ⟨v0, f0⟩ := H.out.at_ hx 0 _ rfl
    have v0' : w.cell? ⟨gs, k * 3, none⟩ = some (.int .u8 x.phase) := v0
    have f0' : w.frozen? ⟨gs, k * 3, none⟩ = false := f0
    obtain ⟨v2, f2⟩ := H.out.at_ hx 2 _ rfl
    have d2 := H.out.dom k x hx 2 _ rfl
    have i0 : (0 : Int) ≤ (k : Int) := by omega
    have i1 : (k : Int) < (sts.length : Int) := by omega
    obtain ⟨p, hp⟩ : ∃ p, x.phase = p := ⟨_, rfl⟩
    obtain ⟨rt, hrt⟩ : ∃ rt, x.dom.ret = rt := ⟨_, rfl⟩
    obtain ⟨nb, hnb⟩ : ∃ nb, needB sts (k : Int) = nb := ⟨_, rfl⟩
    have d2' : w.cell? ⟨gd, k * 3 + 2, none⟩ = some (.bool x.dom.ret) := d2
    rw [hp, hrt, hnb] at hE
    rw [hp] at v0'
    rw [hrt] at d2'
    have HNB := Lib.hid hnb
    have hG : ∀ E, RDoes w gr gd gs cd cs E sts (.returned (.int .i64 E)) w := fun E => ⟨rfl, H.out, Moved.refl _ _⟩
    have HG := Lib.hid hG
    have HB := Lib.hid hb
    have hset : ∀ W : World, RefIs W gr gd gs cd cs sts → RefIs ((W.setCell ⟨gs, k * 3, none⟩ (.int .u8 99)).setCell ⟨gs, k * 3 + 2, none⟩ (.bool kp)) gr gd gs cd cs (sts.set k (downS kp x)) := fun W h => by
      have s1 := h.set (j := 0) (u := .int .u8 99) (x' := { x with phase := 99 }) hx (by omega) rfl rfl
      have s3 := s1.set (k := k) (j := 2) (u := .bool kp) (x' := downS kp x) (List.getElem?_set_self hlt) (by omega) rfl rfl
      rw [List.set_set] at s3
      exact s3
    have hmv : ∀ (W : World) u1 u3, Moved [gs] W ((W.setCell ⟨gs, k * 3, none⟩ u1).setCell ⟨gs, k * 3 + 2, none⟩ u3) := fun W u1 u3 => (Moved.setCell (hot := [gs]) W (p := ⟨gs, k * 3, none⟩) (by simp) u1).trans (Moved.setCell (hot := [gs]) _ (p := ⟨gs, k * 3 + 2, none⟩) (by simp) u3)
    have hatw : ∀ W : World, RefIs W gr gd gs cd cs sts → ∀ j v, (rstL x)[j]? = some v → W.cell? ⟨gs, k * 3 + j, none⟩ = some v ∧ W.frozen? ⟨gs, k * 3 + j, none⟩ = false := fun W h => h.at_ hx
    have HSETW := Lib.hid hset
    have HMV := Lib.hid hmv
    have HATW := Lib.hid hatw
    clear hatw
    clear hT hb hx hG v0 f0 hp hrt hnb hEE hset hmv d2
    by_cases p49 : p = 49
    · subst p49
      rw [if_pos rfl] at hE
      by_cases hka : kp = true ∧ rt = false
      · rw [if_pos hka] at hE
        subst hE
        obtain ⟨rfl, rfl⟩ := hka
        obtain rfl : sts = F := by rw [← HF.out, if_neg (by omega)]
        go_enter Tryz.func12, Tryz.ntmps12
        go_wp2_with fail
        refine (there_any gr _ _ _ _ _ _ (k : Int) w H.out.box).mono ?_
        rintro e w' ⟨rfl, rfl⟩
        rw [HB.out]
        go_wp2
        go_ret
        exact HG.out 1
      · rw [if_neg hka] at hE
        have hkr : kp = false ∨ (kp = true ∧ rt = true) := by
          cases kp <;> cases rt <;> first | exact .inl rfl | exact .inr ⟨rfl, rfl⟩ | exact absurd ⟨rfl, rfl⟩ hka
        obtain ⟨n, hN⟩ : ∃ n, n = sts.length := ⟨_, rfl⟩
        have HN := Lib.hid hN
        rw [← hN] at b0 b1 hn i1 hlt
        have HE := Lib.hid hE
        clear hka hE hN
        obtain rfl | ⟨rfl, rfl⟩ := hkr
        all_goals
          go_enter Tryz.func12, Tryz.ntmps12
          go_wp2_with fail
          refine (there_any gr _ _ _ _ _ _ (k : Int) w H.out.box).mono ?_
          rintro e w' ⟨rfl, rfl⟩
          rw [HB.out]
          go_wp2
          go_loopw [7] (fun i8 wr => ∃ j : Nat, j ≤ n ∧ i8 = .int .i64 j ∧ RowKit.Hid ((sts.take j).any (fun x => decide (x.dom.above = (k : Int)) && !restsB x.phase) = false) ∧ RowKit.Hid (RefIs wr gr gd gs cd cs sts ∧ Moved [] w wr)) (fun i8 _ => n - (intOf i8).toNat)
          case atStart => exact ⟨0, Nat.zero_le _, rfl, Lib.hid rfl, Lib.hid ⟨H.out, Moved.refl _ _⟩⟩
          case round =>
            obtain ⟨j, hj, rfl, HNO, HW⟩ := hrel
            have q0 := (HW.out.1.box 0 _ rfl).1
            have q1 := (HW.out.1.box 1 _ rfl).1
            rw [← HN.out] at q0 q1
            by_cases hjt : j < n
            · have hjs : j < sts.length := by rw [← HN.out]; exact hjt
              have hy := List.getElem?_eq_getElem hjs
              generalize sts[j] = y at hy
              have j0 : (0 : Int) ≤ (j : Int) := by omega
              have j1 : (j : Int) < (n : Int) := by omega
              have y0 : wr.cell? ⟨gs, j * 3, none⟩ = some (.int .u8 y.phase) := (HW.out.1.at_ hy 0 _ rfl).1
              have a0 : wr.cell? ⟨gd, j * 3, none⟩ = some (.int .i64 y.dom.above) := HW.out.1.dom j y hy 0 _ rfl
              have hsucc := any_take_succ hy (fun x => decide (x.dom.above = (k : Int)) && !restsB x.phase)
              have hin : (decide (y.dom.above = (k : Int)) && !restsB y.phase) = true → needB sts (k : Int) = true := fun h => by
                unfold needB
                rw [List.any_eq_true]
                exact ⟨y, List.mem_of_getElem? hy, h⟩
              obtain ⟨py, hpy⟩ : ∃ py, y.phase = py := ⟨_, rfl⟩
              obtain ⟨ay, hay⟩ : ∃ ay, y.dom.above = ay := ⟨_, rfl⟩
              rw [hpy] at y0
              rw [hay] at a0
              simp only [hpy, hay] at hsucc hin
              have HS := Lib.hid hsucc
              have HI := Lib.hid hin
              clear hsucc hin hpy hay hy hjs
              by_cases hax : ay = (k : Int)
              · have hax' : (ay == (k : Int)) = true := by simpa using hax
                obtain rfl | rfl | hr : py = 48 ∨ py = 116 ∨ restsB py = false := by unfold restsB; simp; omega
                · clear hax
                  go_wp2
                  go_roundw
                  case rel => exact ⟨j + 1, hjt, by go_num, Lib.hid (by rw [HS.out, HNO.out]; simp [restsB]), HW⟩
                  case measure => simp [intOf]; omega
                · clear hax
                  go_wp2
                  go_roundw
                  case rel => exact ⟨j + 1, hjt, by go_num, Lib.hid (by rw [HS.out, HNO.out]; simp [restsB]), HW⟩
                  case measure => simp [intOf]; omega
                · have hp := GInv.ret0 hr
                  have e48 : (py != 48) = true := by simpa using hp.1
                  have e116 : (py != 116) = true := by simpa using hp.2
                  have hnb : nb = true := by rw [← HNB.out]; exact HI.out (by simp [hax, hr])
                  subst hnb
                  have hE7 := HE.out
                  rw [if_pos rfl] at hE7
                  subst hE7
                  obtain rfl : sts = F := by rw [← HF.out, if_neg (by omega)]
                  clear hax hr hp
                  go_wp2
                  go_ret
                  exact ⟨rfl, HW.out.1, HW.out.2.mono (by simp)⟩
              · have hax' : (ay == (k : Int)) = false := by simpa using hax
                have HAX := Lib.hid hax
                clear hax
                go_wp2
                go_roundw
                case rel => exact ⟨j + 1, hjt, by go_num, Lib.hid (by rw [HS.out, HNO.out]; simp [HAX.out]), HW⟩
                case measure => simp [intOf]; omega
            · obtain rfl : j = n := by omega
              have hjl : ¬ ((j : Int) < (j : Int)) := by omega
              have hnb : nb = false := by
                rw [← HNB.out]
                have := HNO.out
                rw [HN.out, List.take_length] at this
                exact this
              subst hnb
              have hE0 := HE.out
              rw [if_neg (by simp)] at hE0
              subst hE0
              obtain rfl : sts.set k (downS _ x) = F := by rw [← HF.out, if_pos rfl]
              have hset := HSETW.out wr HW.out.1
              have HSET' := Lib.hid hset
              obtain ⟨v0w, f0w⟩ := HATW.out wr HW.out.1 0 _ rfl
              obtain ⟨v2w, f2w⟩ := HATW.out wr HW.out.1 2 _ rfl
              have v0w' : wr.cell? ⟨gs, k * 3, none⟩ = _ := v0w
              have f0w' : wr.frozen? ⟨gs, k * 3, none⟩ = false := f0w
              clear hset v0w f0w
              go_wp2
              go_ret
              exact ⟨rfl, HSET'.out, (HW.out.2.mono (by simp)).trans (HMV.out wr _ _)⟩
    · have e0 : (p != 49) = true := by simpa using p49
      rw [if_neg p49] at hE
      subst hE
      obtain rfl : sts = F := by rw [← HF.out, if_neg (by omega)]
      clear p49
      go_enter Tryz.func12, Tryz.ntmps12
      go_wp2_with fail
      refine (there_any gr _ _ _ _ _ _ (k : Int) w H.out.box).mono ?_
      rintro e w' ⟨rfl, rfl⟩
      rw [HB.out]
      go_wp2
      go_ret
      exact HG.out 6
  · have hb' : hasB sts.length i = false := by simpa using hb
    have hE : downE sts i kp = 4 := atP_no hb' _ _
    have hT : downT sts i kp = sts := by unfold downT; rw [hE, if_neg (by omega)]
    rw [hE, hT]
    have hG : RDoes w gr gd gs cd cs 4 sts (.returned (.int .i64 4)) w := ⟨rfl, H.out, Moved.refl _ _⟩
    have HG := Lib.hid hG
    have HB := Lib.hid hb'
    clear hb hb' hE hT hG
    go_enter Tryz.func12, Tryz.ntmps12
    go_wp2_with fail
    refine (there_any gr _ _ _ _ _ _ i w H.out.box).mono ?_
    rintro e w' ⟨rfl, rfl⟩
    rw [HB.out]
    go_wp2
    go_ret
    exact HG.out
end

end Go.Proofs.YtlhmcpkfmnmhfaaGreat
