/- The contract of graph.Above. -/
import Derived.Test.YtlkgnafbipgpbaaW9
import Derived.StillTailTactics
namespace Go.Proofs.Ytlkgnafbipgpbaa
open Go.RowKit Go.Maps Go.Shelf

attribute [local go_sem] Oper.semAt_some

theorem cell_lt {w : World} {p : Addr} {v : Value} (h : w.cell? p = some v) : p.block < w.heap.size := by
  rcases Nat.lt_or_ge p.block w.heap.size with hlt | hge
  · exact hlt
  · simp [World.cell?, Array.getElem?_eq_none hge] at h
theorem own_below {w w' : World} {base n : Nat} {v : Value} {xs : List Value} (h : w.ownsRow base 3 1 v n xs) (hb : Below w.heap.size w w') : w'.ownsRow base 3 1 v n xs :=
  h.kept (grown_of_below hb none) (by cases hob : v.ownBlock <;> simp)
theorem IntsAt.putObj {w : World} {D : Nat} {A : Option Addr} {xs : List Int} {o : Obj} (h : IntsAt w w.heap.size A xs) (hK : w.heap[D]? = some (.deferred (some []))) : IntsAt (w.putObj D o) (w.putObj D o).heap.size A xs := by
  intro hl
  obtain ⟨ad, e, hb, hc⟩ := h hl
  exact ⟨ad, e, Nat.lt_of_lt_of_le hb (grownBy_putObj' w D o).size, fun j x hj => cell_kept (hc j x hj) (grownBy_putObj' w D o) (fun r e => by cases e; exact ⟨_, hK, rfl⟩)⟩
theorem keepMet_eq {met : List Int} {P : Nat → Bool} {o : List Nat} (h : ∀ u, u ∈ o → memB (u : Int) met = P u) : keepMet met (ci o) = ci (o.filter P) := by
  unfold keepMet
  induction o with
  | nil => rfl
  | cons x l ih =>
    have ih' := ih fun y hy => h y (List.mem_cons_of_mem _ hy)
    have hx := h x (by simp)
    show ((x : Int) :: ci l).filter _ = _
    cases hp : P x with
    | true => rw [List.filter_cons, if_pos (by rw [hx, hp]), List.filter_cons_of_pos hp, ih']; rfl
    | false => rw [List.filter_cons, if_neg (by rw [hx, hp]; simp), List.filter_cons_of_neg (by rw [hp]; simp), ih']
theorem closed_of {n : Nat} {g : Nat → List Int} (h : closedB n g = true) : Closed g n := fun i hi x hx => by
  obtain ⟨h1, h2⟩ := closedB_iff.1 h i hi x hx
  exact ⟨x.toNat, by omega, by omega⟩
theorem SetAt.drew {w : World} {b N : Nat} {met : List Int} (h : SetAt w b N met) : SetAt w.drew b N met := h
theorem IntsAt.drew {w : World} {B : Nat} {A : Option Addr} {xs : List Int} (h : IntsAt w B A xs) : IntsAt w.drew B A xs := h
theorem below_cell_of {W W1 : World} (h : Below W.heap.size W W1) {p : Addr} {v : Value} (hc : W.cell? p = some v) : W1.cell? p = some v := (grown_of_below h none).cell hc (by simp)

set_option maxRecDepth 100000 in
set_option maxHeartbeats 8000000 in
theorem above_any (A : Option Addr) (n c : Nat) (g : Nat → List Int) (v : Int) (w : World) (hn : n ≤ 1000) (hl : ∀ i, i < n → (g i).length ≤ 1000) (hwf : ∀ i, i < n → ∀ x, x ∈ g i → wfI x) (h : RowsAt w w.heap.size A n g) (hv : wfI v) :
    Calls Try.prog 14 #[.slice A n c, .int .i64 v] w (SideOut (SideSays n g v (aboOf g)) w) := by
  have hmm := @run_makeMap Try.prog
  have hl' : ∀ i, i < n → (g i).length ≤ 1000000 := fun i hi => by have := hl i hi; omega
  have HL := Lib.hid hl
  have HL' := Lib.hid hl'
  have HWF := Lib.hid hwf
  clear hl hl' hwf
  refine (callsIn_wide (n := 4)).1 ?_
  refine callsIn_of_wp_marks Try.func14 rfl trivial ?_ rfl
  simp only [Try.ntmps14, List.size_toArray, List.length_cons, List.length_nil, Nat.reduceAdd, Nat.reduceSub, Array.replicate_succ, Array.replicate_zero, List.push_toArray, List.append_toArray, List.nil_append, List.cons_append]
  refine wpIn_wide.2 ?_
  go_wp2_with fail
  have hb0 : Below w.heap.size w (w.alloc (.cells #[.slice A n c] 22)) := (Below.refl _ w).alloc (Nat.le_refl _) _
  refine (orderFor_any A n c g v _ hn HL'.out HWF.out ((h.below hb0 (Nat.le_refl _)).more (by simp))).mono ?_
  rintro e w1 ⟨E, v0, o, hs, rfl, hown, hb1⟩
  have HS := Lib.hid hs
  have HOwn := Lib.hid hown
  clear hs hown
  have HFS := Lib.hid HS.out
  by_cases hE : E = 0
  · subst hE
    obtain ⟨hh, hlen, hn100, hcl, hv0, hvn⟩ := HS.out.right
    obtain ⟨vn, rfl⟩ := Int.eq_ofNat_of_zero_le hv0
    have hvn' : vn < n := by omega
    obtain ⟨A1, c1, rfl⟩ := own_shape HOwn.out
    have HH := Lib.hid hh
    have HN := Lib.hid hlen
    have hole : o.length ≤ 100 := by omega
    have HLT := Lib.hid hh.1.nodup.2
    clear hh hlen hcl
    have hz1 := hb1.size
    rw [World.size_alloc] at hz1
    have hbw : Below w.heap.size w w1 := hb0.trans (hb1.mono (by simp))
    have hs3 := (SetAt.made w1).alloc (.cells #[.map (some w1.heap.size)] 42)
    have HS3 := Lib.hid hs3
    have hbg : w1.cell? ⟨w.heap.size, 0, none⟩ = some (.slice A n c) := (hb1.cell (p := ⟨w.heap.size, 0, none⟩) (by simp)).trans (by simp)
    have hbv3 : ((w1.alloc (.map #[] 0)).alloc (.cells #[.map (some w1.heap.size)] 42)).cell? ⟨w.heap.size, 0, none⟩ = some (.slice A n c) := Lib.cell?_alloc_some _ (Lib.cell?_alloc_some _ hbg)
    have hbm3 : ((w1.alloc (.map #[] 0)).alloc (.cells #[.map (some w1.heap.size)] 42)).cell? ⟨w1.heap.size + 1, 0, none⟩ = some (.map (some w1.heap.size)) := by simp
    have hg3 : RowsAt ((w1.alloc (.map #[] 0)).alloc (.cells #[.map (some w1.heap.size)] 42)) w.heap.size A n g := h.below ((hbw.alloc (by omega) _).alloc (by simp; omega) _) (Nat.le_refl _)
    have hown3 := (HOwn.out.alloc (.map #[] 0)).alloc (.cells #[.map (some w1.heap.size)] 42)
    have HG3 := Lib.hid hg3
    have HO3 := Lib.hid hown3
    have HO1 := Lib.hid HOwn.out
    have hb3 : Below w.heap.size w ((w1.alloc (.map #[] 0)).alloc (.cells #[.map (some w1.heap.size)] 42)) := (hbw.alloc (by omega) _).alloc (by simp; omega) _
    have hzz : ((w1.alloc (.map #[] 0)).alloc (.cells #[.map (some w1.heap.size)] 42)).heap.size = w1.heap.size + 2 := by simp
    obtain ⟨adg, Au, cu, hA, _, hcu, _, hIu⟩ := HG3.out.at_ hvn'
    have HIu := Lib.hid hIu
    subst hA
    have HBG := Lib.hid hbg
    have HR1 := Lib.hid (h.below hbw (Nat.le_refl _))
    clear hs3 hg3 hown3 hbg HOwn h hIu
    obtain ⟨w3, hw3⟩ : ∃ w3, w3 = (w1.alloc (.map #[] 0)).alloc (.cells #[.map (some w1.heap.size)] 42) := ⟨_, rfl⟩
    rw [← hw3] at HS3 hbv3 hbm3 HG3 HO3 hb3 hzz hcu HIu
    have HW3 := Lib.hid hw3
    clear hw3
    go_wp2_with fail
    rw [← HW3.out]
    go_still_tail 5, (by kernel_rfl)
    have hS3d : SetAt w3.drew w1.heap.size 0 [] := HS3.out
    have hI3d : IntsAt w3.drew w.heap.size Au (g vn) := HIu.out
    have hlv := HL.out vn hvn'
    go_wp2_with fail
    refine (markAdd w1.heap.size 0 cu w.heap.size Au [] (g vn) _ hS3d hI3d (HWF.out vn hvn') (by omega)).mono ?_
    rintro e w5 ⟨rfl, hS5, hg5⟩
    rw [Nat.zero_add, List.nil_append] at hS5
    have hg35 : w3.grownBy w5 (some w1.heap.size) := (grown_of_below ((Below.refl w3.heap.size w3).drew) _).trans hg5
    have hz5 := hg35.size
    rw [hzz] at hz5
    have hbv5 := hg35.cell hbv3 (by simp; omega)
    have hbm5 := hg35.cell hbm3 (by simp)
    have HS5 := Lib.hid hS5
    clear hS5 hS3d hI3d hg5
    go_wp2_with fail
    refine (back_any A1 o.length c1 _).mono ?_
    rintro e w6 ⟨rfl, hw6⟩
    have HW6 := Lib.hid hw6
    clear hw6
    go_wp2_with fail
    obtain ⟨L, hL⟩ := backs_ex (N := n) o HLT.out
    have hw6 := HW6.out
    have hbw3 : Below w1.heap.size w1 w3 := by
      rw [HW3.out]; exact ((Below.refl _ w1).alloc (Nat.le_refl _) _).alloc (by simp) _
    have hbw5 : Below w1.heap.size w1 w5 := hbw3.grown hg35 (by omega) (fun k hk => by injection hk with hk; omega)
    have hbw6 : Below w1.heap.size w1 w6 := by rw [← hw6]; exact hbw5.alloc (by omega) _
    have hz6 : w6.heap.size = w5.heap.size + 1 := by rw [← hw6]; simp
    have hS6 : SetAt w6 w1.heap.size (1000 * ((([] : List (Node n)).length) + 1)) (accA g (g vn) (nodesOf ([] : List (Node n)))) := by
      rw [← hw6]
      exact (HS5.out.mono (by simpa using hlv)).alloc _
    have hbm6 : w6.cell? ⟨w1.heap.size + 1, 0, none⟩ = some (.map (some w1.heap.size)) := by rw [← hw6]; exact Lib.cell?_alloc_some _ hbm5
    have hbs6 : w6.cell? ⟨w5.heap.size, 0, none⟩ = some (.slice A1 o.length c1) := by rw [← hw6]; simp
    have hord : IntsAt w6 w1.heap.size A1 (ci o) := (IntsAt.of_own (by have := HO3.out; rw [HW3.out] at this; exact HO1.out)).below hbw6 (Nat.le_refl _)
    refine wpIn_wide.1 (wpIn_rangeFunc_ownG (F := Fence.wide) (n := 4) rfl (by omega) (gf := 38) (lb := #[.pointer (some ⟨w5.heap.size, 0, none⟩)]) rfl trivial (enters_of Try.func38 (by kernel_rfl) rfl)
      (back_stops (N := n) Fence.wide 3 trivial rfl (by omega) w5.heap.size w1.heap.size c1 A1 o L hL (by omega) w6 (by omega) (by omega) hbs6 hord) (fun h k => h.trans k) (kpB_b (by omega) (by omega)) (Below.refl _ _) (fun _ => rfl)
      (fun (pre : List (Node n)) W => (SetAt W w1.heap.size (1000 * (pre.length + 1)) (accA g (g vn) (nodesOf pre)) ∧ W.cell? ⟨w1.heap.size + 1, 0, none⟩ = some (.map (some w1.heap.size)) ∧ W.cell? ⟨w5.heap.size, 0, none⟩ = some (.slice A1 o.length c1)) ∧ Below w1.heap.size w1 W)
      (fun _ _ _ => False)
      (OwnFrom.and (fun s A B row hs hg hr => ⟨hs.1.kept hg (fun e => by have := (hr _ e.symm).1; omega), cell_kept hs.2.1 hg (fun r e => (hr r e).2), cell_kept hs.2.2 hg (fun r e => (hr r e).2)⟩) (ownFrom_below (Nat.le_refl _) (by omega)))
      (fun _ _ _ _ _ hs _ _ => hs)
      ⟨⟨hS6, hbm6, hbs6⟩, hbw6⟩
      (fun x => { tmps := #[Value.slice (some adg) n c, Value.int IntKind.i64 ↑vn,
          Value.pointer (some { block := w.heap.size, off := 0 }), undef, Value.slice none 0 0, Value.int IntKind.i64 0,
          Value.slice A1 o.length c1, Value.int IntKind.i64 0,
          Value.pointer (some { block := w1.heap.size + 1, off := 0 }), undef, Value.int IntKind.i64 (x.1.2 : Nat),
          Value.tuple #[Value.slice A1 o.length c1, Value.int IntKind.i64 0], Value.slice (some adg) n c,
          Value.int IntKind.i64 ↑vn, Value.tuple #[Value.slice A1 o.length c1, Value.int IntKind.i64 0],
          Value.slice A1 o.length c1, Value.int IntKind.i64 0, Value.int IntKind.i64 0, Value.bool false, undef,
          Value.map (some w1.heap.size), Value.map (some w1.heap.size), Value.slice (some adg) n c,
          Value.int IntKind.i64 ↑vn, Value.pointer (some (adg.add vn)), Value.slice Au (g vn).length cu,
          Value.tuple #[], Value.slice A1 o.length c1,
          Value.func (Fn.func 38) #[] #[Value.pointer (some { block := w5.heap.size, off := 0 })], Value.int IntKind.i64 x.1.1, Value.int IntKind.i64 (x.1.2 : Nat), undef,
          undef, undef, undef, undef, undef, undef, undef, undef, undef, undef, undef], defers := [] }) ?assign ?body ?done ?stop)
    case assign =>
      intro l x W K hK
      unfold encN
      gi_wp2
      exact hK
    case body =>
      rintro l pre x W ⟨⟨hS, hbm, hbx⟩, hB⟩ hlt
      have hxl := cell_lt hbx
      have hmx : Try.prog.follows .mixedOrders = true := by kernel_rfl
      obtain ⟨⟨xi, u⟩, hu⟩ := x
      have hu : u < n := hu
      have hwu : wfI (u : Int) := by unfold wfI; omega
      have hbg := (hB.cell (p := ⟨w.heap.size, 0, none⟩) (by show w.heap.size < _; omega)).trans (show w1.cell? ⟨w.heap.size, 0, none⟩ = some (.slice (some adg) n c) from HBG.out)
      obtain ⟨adg', Au', cu', hA', _, hcu', _, hIu'⟩ := (HR1.out.below hB (by omega)).at_ hu
      injection hA' with hA'
      subst hA'
      have hSW := hB.size
      have hbs := hS.lt
      by_cases hm : (u : Int) ∈ accA g (g vn) (nodesOf pre)
      · have hmB := memB_yes hm
        have HM := Lib.hid hm
        have HIu' := Lib.hid hIu'
        clear hm hIu'
        gi_wp2_with (refine ⟨trivial, ?_⟩; gi_at_call 30; refine (CallsIn.inRound l (callsIn_wide.2 (markHas' w1.heap.size _ _ _ _ hS hwu))).mono ?_; rintro e W1 ⟨rfl, hb1⟩)
        have hz1' := hb1.size
        have hgl1 := adg.block
        have hS1 : SetAt W1 w1.heap.size (1000 * (pre.length + 1)) (accA g (g vn) (nodesOf pre)) := hS.below hb1 hbs
        have hB1 : Below w1.heap.size w1 W1 := hB.trans (hb1.mono (by omega))
        have hbm1 := below_cell_of hb1 hbm
        have hbg1 := below_cell_of hb1 hbg
        have hcu1 := below_cell_of hb1 hcu'
        have HI1 := Lib.hid (HIu'.out.below hb1 (by omega))
        have hlu := HL.out u hu
        have hplen : pre.length < o.length := hlt
        gi_region_with_o (refine ⟨trivial, ?_⟩; gi_at_call 28; refine (CallsIn.inRound l (callsIn_wide.2 (markAdd w1.heap.size (1000 * (pre.length + 1)) cu' w.heap.size Au' _ (g u) _ hS1.drew HI1.out.drew (HWF.out u hu) (by omega)))).mono ?_; rintro e W2 ⟨rfl, hS2, hg2⟩)
        all_goals gi_wp2
        all_goals
          have hg12 : W1.grownBy W2 (some w1.heap.size) := (grown_of_below ((Below.refl W1.heap.size W1).drew) _).trans hg2
          have hgW : W.grownBy W2 (some w1.heap.size) := (grown_of_below hb1 _).trans hg12
          refine ⟨KeepsFrom.of_grownBy hgW (fun j e => by injection e with e; omega), ⟨(Below.refl _ W).grown hgW (by omega) (fun k e => by injection e with e; omega), hgW.block _ hxl (by simp; omega)⟩, ⟨?_, hgW.cell hbm (by simp), hgW.cell hbx (by simp; omega)⟩, hB.grown hgW (by omega) (fun k e => by injection e with e; omega)⟩
          rw [nodesOf_snoc, accA_yes HM.out, List.length_append]
          exact hS2.mono (by simp only [List.length_cons, List.length_nil]; omega)
      · have hmB := memB_no hm
        have HM := Lib.hid hm
        clear hm
        gi_wp2_with (refine ⟨trivial, ?_⟩; gi_at_call 30; refine (CallsIn.inRound l (callsIn_wide.2 (markHas' w1.heap.size _ _ _ _ hS hwu))).mono ?_; rintro e W1 ⟨rfl, hb1⟩)
        have hS1 : SetAt W1 w1.heap.size (1000 * (pre.length + 1)) (accA g (g vn) (nodesOf pre)) := hS.below hb1 hbs
        have hB1 : Below w1.heap.size w1 W1 := hB.trans (hb1.mono (by omega))
        refine ⟨KeepsFrom.of_grownBy (grown_of_below hb1 none) (fun j e => by cases e), ⟨hb1.mono (by omega), hb1.block _ hxl⟩, ⟨?_, below_cell_of hb1 hbm, below_cell_of hb1 hbx⟩, hB1⟩
        rw [nodesOf_snoc, accA_no HM.out, List.length_append]
        exact hS1.mono (by omega)
    case done =>
      rintro D ys W hD rfl ⟨⟨hS, hbm, _⟩, hB⟩ hK
      have HSd := Lib.hid hS
      have HOr := Lib.hid (own_below HO1.out hB)
      have hSW := hB.size
      clear hS
      go_wp2_with fail
      refine (only_any w1.heap.size _ _ (ci o) (.slice A1 o.length c1) _ W (by rw [ci_length]; exact HOr.out) HSd.out (by rw [ci_length]; omega) (wf_ci hn HLT.out)).mono ?_
      rintro e w9 ⟨A9, c9, rfl, hI9, hg9, hA9⟩
      have HI9 := Lib.hid hI9
      clear hI9
      go_wp2
      have hlt9 : ∀ k, (Value.slice A1 o.length c1).ownBlock = some k → k < w1.heap.size := fun k hk => (HO1.out.lt k hk).2
      have hDW := (Array.getElem?_eq_some_iff.1 hK).1
      have hK9 : w9.heap[D]? = some (.deferred (some [])) := (hg9.block D hDW (fun e => by have := hlt9 D e.symm; omega)).trans hK
      have hbr : Below w.heap.size w W := hbw.trans (hB.mono (by omega))
      have hb9 : Below w.heap.size w w9 := hbr.grown hg9 (by omega) (fun q hq => by have := (HO1.out.lt q hq).1; rw [World.size_alloc] at this; omega)
      have hs9 := hg9.size
      have hb10 : Below w.heap.size w (w9.putObj D (.deferred none)) := hb9.grown (grownBy_putObj' w9 D (.deferred none)) (by omega) (fun k e => by injection e with e; omega)
      obtain ⟨hh, hlen, _, hcl, _, _⟩ := HS.out.right
      have hmet : keepMet (accA g (g vn) (nodesOf ys)) (ci o) = ci (aboOf g vn o) := by
        rw [backs_rev hL]
        refine keepMet_eq fun u hu => ?_
        rw [Bool.eq_iff_iff, memB_iff, abB_iff]
        exact accA_iff (hh.topo hlen) (closed_of hcl) hvn'
      refine ⟨by simp, .inl ⟨_, _, rfl, run_takeDeferred hK9, ?_⟩⟩
      refine ⟨_, results_tmp2 rfl _ _ _, 0, aboOf g vn o, A9, c9, ⟨o, HFS.out, .inr ⟨rfl, by rw [Int.toNat_natCast]⟩⟩, ?_, ?_, hb10, fun ad e => by have := (HO1.out.lt _ (hA9 ad e)).1; rw [World.size_alloc] at this; omega⟩
      · have e1 : (keepMet (accA g (g vn) (nodesOf ys)) (ci o)).length = (aboOf g vn o).length := by rw [hmet, ci_length]
        rw [← e1]
        rfl
      · have := HI9.out
        rw [hmet] at this
        exact this.putObj hK9
    case stop =>
      rintro D c pre W _ _ h _
      exact h.elim
  · have hE' : (E != 0) = true := by simpa using hE
    have HE := Lib.hid hE
    clear hE
    go_wp2
    exact ⟨_, results_tmp2 rfl _ _ _, E, [], none, 0, ⟨o, HFS.out, .inl ⟨HE.out, rfl⟩⟩, rfl, fun hl => absurd hl (by simp [ci]), hb0.trans (hb1.mono (by simp)), fun ad e => by cases e⟩

end Go.Proofs.Ytlkgnafbipgpbaa
