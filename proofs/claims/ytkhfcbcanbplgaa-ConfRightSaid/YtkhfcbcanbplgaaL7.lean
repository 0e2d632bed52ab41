/- The walk of catnaplaw4.ConfRight: the circle. -/
import Derived.Test.YtkhfcbcanbplgaaL6
import Derived.Test.YtkhfcbcanbplgaaO4
import Derived.Deep.RegionHeld3
import Derived.Deep.AppendLies
import Derived.Deep.RegionLaw
namespace Go.Proofs.Ytkhfcbcanbplgaa
set_option linter.unusedSimpArgs false
set_option linter.unusedVariables false
open Go.RowKit Go.Maps

theorem Plain.first {s : Chip} (h : Plain s) : ∃ c, s.devs[0]? = some c ∧ c.needs = [] := by
  have b := h.nv
  refine ⟨s.devs[0], List.getElem?_eq_getElem (by omega), ?_⟩
  cases hn : (s.devs[0]).needs with
  | nil => rfl
  | cons x l =>
    have := h.devN 0 s.devs[0] (List.getElem?_eq_getElem (by omega)) x (by rw [hn]; simp)
    omega
theorem circ_end {W W2 w7 W8 : World} {s : Chip} {c : Dev} {gc g4 n4 e4 g7 cap7 : Nat} {d1 d2 d3 : Value} {A : Option Addr} {o : Obj} (hW8 : W8 = w7.setCell ⟨g4, 5, none⟩ (.slice (some ⟨g7, 0, none⟩) 1 cap7)) (hc : s.devs[0]? = some c) (hcn : c.needs = [])
    (hown : Own5 gc W2 W.heap.size (moreC s) d1 d2 d3 (.slice (some ⟨g4, 0, none⟩) n4 e4)) (hn4 : n4 = (moreC s).devs.length) (hbx : BoxAt W2 gc [d1, d2, d3, .slice (some ⟨g4, 0, none⟩) n4 e4]) (hgc : W.heap.size ≤ gc) (hbl : Below W.heap.size W W2)
    (hr : W2.ownsRow W.heap.size 3 1 (.slice A 0 0) 0 []) (hf : ∀ g', (Value.slice A 0 0).ownBlock = some g' → g' ∉ gc :: hot4 d1 d2 d3 (.slice (some ⟨g4, 0, none⟩) n4 e4))
    (hr7 : w7.ownsRow W.heap.size 3 1 (.slice (some ⟨g7, 0, none⟩) 1 cap7) 1 [.int .i64 (s.devs.length : Nat)]) (hg7 : (W2.alloc o).grownBy w7 (Value.slice A 0 0).ownBlock) (hat : (Value.slice A 0 0).ownBlock = some g7 ∨ W2.heap.size ≤ g7) :
    Held W8.heap.size W8 gc (circC s c) d1 d2 d3 (.slice (some ⟨g4, 0, none⟩) n4 e4) ∧ Below W.heap.size W W8 := by
  subst hW8
  have hm : Moved (Value.slice A 0 0).ownBlock.toList W2 w7 := (Moved.alloc W2 o).trans (Moved.of_grown hg7 (fun k hk => by simp [hk]))
  have h7 := hown.grow hr (fun g' hg' hm' => hf g' hg' (List.mem_cons_of_mem _ hm')) hm
  have hbx7 := hbx.move hm (fun hm' => hf gc (by simpa using hm') List.mem_cons_self)
  have hfr := hown.fresh hgc hbx.lt
  have hg4 : g4 ∈ gc :: hot4 d1 d2 d3 (.slice (some ⟨g4, 0, none⟩) n4 e4) := by simp [hot4, Value.ownBlock]
  have hk : (moreC s).devs[0]? = some c := by
    have hl := (List.getElem?_eq_some_iff.1 hc).1
    show (s.devs ++ [allD s])[0]? = some c
    rw [List.getElem?_append_left hl]
    exact hc
  have h7n : ∀ hot : List Nat, g7 ∉ hot → IntsC hot w7 (some ⟨g7, 0, none⟩) [(s.devs.length : Int)] := fun hot hn => ints_own (L := [(s.devs.length : Int)]) hr7 hot (fun g hg => by
    have h77 : g7 = g := by simpa [Value.ownBlock] using hg
    rw [← h77]
    exact hn)
  have hg7n : g7 ∉ gc :: hot4 d1 d2 d3 (.slice (some ⟨g4, 0, none⟩) n4 e4) := by
    rcases hat with h | h
    · exact hf g7 h
    · intro hm'
      have := (hfr g7 hm').2
      omega
  have hcap : 1 ≤ cap7 := own_cap hr7
  have hset := h7.setDev (k := 0) (j := 5) (x' := { c with needs := c.needs ++ [(s.devs.length : Int)] }) (u := .slice (some ⟨g7, 0, none⟩) 1 cap7) hn4 hk (by omega) (fun vs hv _ => by
    obtain ⟨A', c', A'', c'', rfl, q1, q2, q3, q4⟩ := hv
    exact ⟨A', c', some ⟨g7, 0, none⟩, cap7, by simp [hcn], q1, by simp [hcn]; exact hcap, q3, by simp only [hcn, List.nil_append]; exact h7n _ hg7n⟩)
  have hbw : Below W.heap.size W w7 := (hbl.alloc hbl.size o).grown hg7 (by simp only [World.size_alloc]; have := hbl.size; omega) (fun q hq => (hr.lt q hq).1)
  have hne : gc ≠ g4 := fun e => hown.z4 (by simp [Value.ownBlock, e])
  refine ⟨⟨?_, Nat.le_refl _, ?_, ?_⟩, hbw.setCell (p := ⟨g4, 5, none⟩) (hfr g4 hg4).1 _⟩
  · rw [size_setCell]; exact hbx7.lt
  · exact hbx7.move (Moved.setCell w7 (p := ⟨g4, 5, none⟩) (hot := [g4]) (by simp) _) (by simpa using hne)
  · exact hset.chip

set_option maxRecDepth 1000000 in
set_option maxHeartbeats 8000000 in
theorem right_circ (w W : World) (gs gl gm Bs Bl Bm : Nat) (s : Chip) (a1 a2 a3 b1 b2 b3 b4 c1 c2 c3 c4 : Value) (A4 : Option Addr) (nV k4 : Nat) (hpl : Plain s) (hnV : nV = s.devs.length)
    (hA : Held Bs W gs s a1 a2 a3 (.slice A4 nV k4)) (hB : Held Bl W gl (lessC s) b1 b2 b3 b4) (hC : Held Bm W gm (moreC s) c1 c2 c3 c4) (hbl : Below w.heap.size w W)
    (a : Act) (ha : FrN 135 a) (h4 : slT a 4 = .pointer (some ⟨gs, 0, none⟩)) (h11 : slT a 11 = .pointer (some ⟨gl, 0, none⟩)) (h12 : slT a 12 = .pointer (some ⟨gm, 0, none⟩)) : Code.wp Try.prog rtCirc (bodyPost Try.prog Try.f4 (TellsB true w)) a W := by
  obtain ⟨c, hc, hcn⟩ := hpl.first
  have HPL := Lib.hid hpl
  have HNV := Lib.hid hnV
  have HC := Lib.hid hc
  have HCN := Lib.hid hcn
  have HA := Lib.hid hA
  have HB := Lib.hid hB
  have HM := Lib.hid hC
  have HBL := Lib.hid hbl
  obtain ⟨x0, y0⟩ := hC.bx 0 _ rfl
  obtain ⟨x1, y1⟩ := hC.bx 1 _ rfl
  obtain ⟨x2, y2⟩ := hC.bx 2 _ rfl
  obtain ⟨x3, y3⟩ := hC.bx 3 _ rfl
  have bnv := hpl.nv
  rw [← hnV] at bnv
  clear hpl hnV hc hcn hA hB hC hbl
  obtain ⟨F, rfl⟩ := ha.open_
  rw [slT_listT (by omega)] at h4 h11 h12
  rw [lit135, h4, h11, h12]
  clear ha h4 h11 h12
  conv => arg 2; whnf
  go_wp2_with fail
  refine (copy_needs (moreC s) [c1, c2, c3, c4] W HPL.out.okMore HM.out.chip).mono ?_
  rintro e w2 ⟨d1, d2, d3, d4, rfl, hown, hnd, hb2⟩
  obtain ⟨g1, e1, rfl, -, -⟩ := Own5.form hown.clks (by have := HPL.out.nc; simp only [moreC]; omega)
  obtain ⟨g2, e2, rfl, -, -⟩ := Own5.form hown.doms (by have := HPL.out.nd; simp only [moreC]; omega)
  obtain ⟨g3, e3, rfl, -, -⟩ := Own5.form hown.rsts (by have := HPL.out.nr; simp only [moreC]; omega)
  obtain ⟨g4, e4, rfl, -, -⟩ := Own5.form hown.devs (by simp [moreC])
  obtain ⟨n4, hn4⟩ : ∃ n, n = (moreC s).devs.length := ⟨_, rfl⟩
  have hn5 : n4 = nV + 1 := by rw [hn4, HNV.out]; simp [moreC]
  have hn6 : 1 ≤ n4 ∧ n4 ≤ 5 := by omega
  have HN5 := Lib.hid hn5
  clear hn5
  rw [← hn4] at hown hnd ⊢
  have HN4 := Lib.hid hn4
  have hk0 : (moreC s).devs[0]? = some c := by
    show (s.devs ++ [allD s])[0]? = some c
    rw [List.getElem?_append_left (List.getElem?_eq_some_iff.1 HC.out).1]
    exact HC.out
  obtain ⟨v, hv1, hv2, hv3, hv4, hv5⟩ := hnd 0 (by omega) c hk0 g4 rfl
  obtain ⟨A, rfl⟩ := hv5 HCN.out
  rw [HCN.out] at hv3
  have hz2 := hb2.size
  have hown5 := hown.box (.cells #[.slice (some ⟨g1, 0, none⟩) (moreC s).clks.length e1, .slice (some ⟨g2, 0, none⟩) (moreC s).doms.length e2, .slice (some ⟨g3, 0, none⟩) (moreC s).rsts.length e3, .slice (some ⟨g4, 0, none⟩) n4 e4] 27)
  have hbx := BoxAt.new w2 [.slice (some ⟨g1, 0, none⟩) (moreC s).clks.length e1, .slice (some ⟨g2, 0, none⟩) (moreC s).doms.length e2, .slice (some ⟨g3, 0, none⟩) (moreC s).rsts.length e3, .slice (some ⟨g4, 0, none⟩) n4 e4] 27
  have hm2 : Moved [] w2 (w2.alloc (.cells #[.slice (some ⟨g1, 0, none⟩) (moreC s).clks.length e1, .slice (some ⟨g2, 0, none⟩) (moreC s).doms.length e2, .slice (some ⟨g3, 0, none⟩) (moreC s).rsts.length e3, .slice (some ⟨g4, 0, none⟩) n4 e4] 27)) := Moved.alloc _ _
  have hbl2 : Below W.heap.size W (w2.alloc (.cells #[.slice (some ⟨g1, 0, none⟩) (moreC s).clks.length e1, .slice (some ⟨g2, 0, none⟩) (moreC s).doms.length e2, .slice (some ⟨g3, 0, none⟩) (moreC s).rsts.length e3, .slice (some ⟨g4, 0, none⟩) n4 e4] 27)) := hb2.alloc hz2 _
  have hg4l : g4 < w2.heap.size := World.block_lt_of_cell? w2 ⟨g4, 0 * 6 + 5, none⟩ hv1
  have hv1' : (w2.alloc (.cells #[.slice (some ⟨g1, 0, none⟩) (moreC s).clks.length e1, .slice (some ⟨g2, 0, none⟩) (moreC s).doms.length e2, .slice (some ⟨g3, 0, none⟩) (moreC s).rsts.length e3, .slice (some ⟨g4, 0, none⟩) n4 e4] 27)).cell? ⟨g4, 5, none⟩ = some (.slice A 0 0) := by simpa using hm2.cell hv1 (by simp)
  have hv2' : (w2.alloc (.cells #[.slice (some ⟨g1, 0, none⟩) (moreC s).clks.length e1, .slice (some ⟨g2, 0, none⟩) (moreC s).doms.length e2, .slice (some ⟨g3, 0, none⟩) (moreC s).rsts.length e3, .slice (some ⟨g4, 0, none⟩) n4 e4] 27)).frozen? ⟨g4, 5, none⟩ = false := by have := (hm2.frozen (p := ⟨g4, 0 * 6 + 5, none⟩) hg4l (by simp)).trans hv2; simpa using this
  have hv3' : (w2.alloc (.cells #[.slice (some ⟨g1, 0, none⟩) (moreC s).clks.length e1, .slice (some ⟨g2, 0, none⟩) (moreC s).doms.length e2, .slice (some ⟨g3, 0, none⟩) (moreC s).rsts.length e3, .slice (some ⟨g4, 0, none⟩) n4 e4] 27)).ownsRow W.heap.size 3 1 (.slice A 0 0) 0 [] := own_move hv3 (fun g hg => hm2.block g (hv3.lt g hg).2 (by simp))
  have hv4' : ∀ g', (Value.slice A 0 0).ownBlock = some g' → g' ∉ w2.heap.size :: hot4 (.slice (some ⟨g1, 0, none⟩) (moreC s).clks.length e1) (.slice (some ⟨g2, 0, none⟩) (moreC s).doms.length e2) (.slice (some ⟨g3, 0, none⟩) (moreC s).rsts.length e3) (.slice (some ⟨g4, 0, none⟩) n4 e4) := fun g' hg' hm' => by
    rcases List.mem_cons.1 hm' with e | hm'
    · have := (hv3.lt g' hg').2; omega
    · exact hv4 g' hg' hm'
  have hgcl : w2.heap.size < (w2.alloc (.cells #[.slice (some ⟨g1, 0, none⟩) (moreC s).clks.length e1, .slice (some ⟨g2, 0, none⟩) (moreC s).doms.length e2, .slice (some ⟨g3, 0, none⟩) (moreC s).rsts.length e3, .slice (some ⟨g4, 0, none⟩) n4 e4] 27)).heap.size := by simp
  have HOWN := Lib.hid hown5
  have HBX := Lib.hid hbx
  have HBL2 := Lib.hid hbl2
  have HV3 := Lib.hid hv3'
  have HV4 := Lib.hid hv4'
  have hng : g4 ∉ (Value.slice A 0 0).ownBlock.toList := fun hm' => hv4' g4 (by simpa using hm') (by simp [hot4, Value.ownBlock])
  have HNG := Lib.hid hng
  have hnc : w2.heap.size ∉ (Value.slice A 0 0).ownBlock.toList := fun hm' => hv4' _ (by simpa using hm') List.mem_cons_self
  have HNC := Lib.hid hnc
  have HZ2 := Lib.hid hz2
  clear hown5 hbx hm2 hg4l hbl2 hv3' hv4' hng hnc hv1 hv2 hv3 hv4 hv5 hown hnd hb2 hk0 hn4 x0 x1 x2 x3 y0 y1 y2 y3
  go_upto_region 20 with fail
  generalize hgc : w2.heap.size = gc at *
  generalize w2.alloc (.cells #[.slice (some ⟨g1, 0, none⟩) (moreC s).clks.length e1, .slice (some ⟨g2, 0, none⟩) (moreC s).doms.length e2, .slice (some ⟨g3, 0, none⟩) (moreC s).rsts.length e3, .slice (some ⟨g4, 0, none⟩) n4 e4] 27) = W2 at *
  have HA2 := Lib.hid (HA.out.below (HBL2.out.mono HA.out.le))
  obtain ⟨x3, -⟩ := HA2.out.bx 3 _ rfl
  obtain ⟨z3, -⟩ := HBX.out 3 _ rfl
  rename_i K hK
  have HK := Lib.hid hK
  clear hK
  obtain ⟨i0, hi, hz0, hz1, hz2'⟩ := info_parts Try.info3
  have i1 : (0 : Int) < (n4 : Int) := by omega
  have i2 : 0 < n4 := by omega
  have HV1 := Lib.hid hv1'
  have HV2 := Lib.hid hv2'
  have hcs2 := Lib.cell?_alloc_some (Obj.cells #[.int .i64 (nV : Nat)] 3) hv1'
  have x3' := Lib.cell?_alloc_some (Obj.cells #[.int .i64 (nV : Nat)] 3) x3
  have z3' := Lib.cell?_alloc_some (Obj.cells #[.int .i64 (nV : Nat)] 3) z3
  go_region_law (refine step_append_lies _ (by rfl) (.tmp 102) (.tmp 106) _ (by rfl) W.heap.size 3 i0 _ 1 8 Try.underlying37 hi hz0 hz1 hz2' rfl (by omega) (.slice A 0 0) 0 [] (by rfl) ((HV3.out.alloc _).drew) ⟨W2.heap.size, 0, none⟩ 1 1 [.int .i64 (nV : Nat)] (by rfl) (by rfl) (World.news_of_block (cs := #[.int .i64 (nV : Nat)]) (t := 3) (fr := (0, 0)) (heap_alloc_new W2 _)) (iv_one [(nV : Int)]) (by omega) (by unfold maxLen; omega) (by omega) (by simp; have := HBL2.out.size; omega) (W2.heap.size + 1) (by simp) ?_; intro g7 cap7 w7 hown7 hg7 hat7 hlt7; have hg8 : (W2.alloc (.cells #[.int .i64 (nV : Nat)] 3)).grownBy w7 (Value.slice A 0 0).ownBlock := (grown_of_below ((Below.refl (W2.alloc (.cells #[.int .i64 (nV : Nat)] 3)).heap.size (W2.alloc (.cells #[.int .i64 (nV : Nat)] 3))).drew) _).trans hg7; have hm7 : Moved (Value.slice A 0 0).ownBlock.toList W2 w7 := (Moved.alloc W2 _).trans (Moved.of_grown hg8 (fun k hk => by simp [hk])); have hc7 := hm7.cell HV1.out HNG.out; have hd7 := hm7.cell (HBX.out 3 _ rfl).1 HNC.out; have hf7 := (hm7.frozen (p := ⟨g4, 5, none⟩) (World.block_lt_of_cell? W2 ⟨g4, 5, none⟩ HV1.out) HNG.out).trans HV2.out)
  all_goals
    refine HK.out _ _ ?_
    rw [HNV.out] at hown7
    obtain ⟨h8, hb8⟩ := circ_end rfl HC.out HCN.out HOWN.out HN4.out HBX.out HZ2.out HBL2.out HV3.out HV4.out hown7 hg8 (by rcases hat7 with h | h; exact .inl h; exact .inr (by omega))
    exact right_last w _ gs gl gm gc Bs Bl Bm _ s (lessC s) (moreC s) (circC s c) _ _ _ _ _ _ _ _ _ _ _ _ _ _ _ _ HPL.out.ok HPL.out.okLess HPL.out.okMore (HPL.out.okCirc HC.out) HPL.out.lessE HPL.out.moreE (HPL.out.circE HC.out) (more_not s) (HA.out.below (hb8.mono HA.out.le)) (HB.out.below (hb8.mono HB.out.le)) (HM.out.below (hb8.mono HM.out.le)) h8 (HBL.out.trans (hb8.mono HBL.out.size)) _ ⟨rfl, rfl⟩ rfl rfl rfl rfl

end Go.Proofs.Ytkhfcbcanbplgaa
