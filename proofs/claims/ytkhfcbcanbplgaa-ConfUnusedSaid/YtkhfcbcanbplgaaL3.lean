/- The walk of catnaplaw4.ConfFirst. -/
import Derived.Test.YtkhfcbcanbplgaaL2
import Derived.Test.YtkhfcbcanbplgaaN3
namespace Go.Proofs.Ytkhfcbcanbplgaa
set_option linter.unusedSimpArgs false
set_option linter.unusedVariables false
open Go.RowKit Go.Maps

set_option maxRecDepth 100000 in
theorem lit98 (T : Nat → Value) : listT T 98 = List.toArray (T 0 :: T 1 :: T 2 :: T 3 :: T 4 :: T 5 :: T 6 :: T 7 :: T 8 :: T 9 :: T 10 :: T 11 :: T 12 :: T 13 :: T 14 :: T 15 :: T 16 :: T 17 :: T 18 :: T 19 :: T 20 :: T 21 :: T 22 :: T 23 :: T 24 :: T 25 :: T 26 :: T 27 :: T 28 :: T 29 :: T 30 :: T 31 :: T 32 :: T 33 :: T 34 :: T 35 :: T 36 :: T 37 :: T 38 :: T 39 :: T 40 :: T 41 :: T 42 :: T 43 :: T 44 :: T 45 :: T 46 :: T 47 :: T 48 :: T 49 :: T 50 :: T 51 :: T 52 :: T 53 :: T 54 :: T 55 :: T 56 :: T 57 :: T 58 :: T 59 :: T 60 :: T 61 :: T 62 :: T 63 :: T 64 :: T 65 :: T 66 :: T 67 :: T 68 :: T 69 :: T 70 :: T 71 :: T 72 :: T 73 :: T 74 :: T 75 :: T 76 :: T 77 :: T 78 :: T 79 :: T 80 :: T 81 :: T 82 :: T 83 :: T 84 :: T 85 :: T 86 :: T 87 :: T 88 :: T 89 :: T 90 :: T 91 :: T 92 :: T 93 :: T 94 :: T 95 :: T 96 :: T 97 :: []) := rfl
noncomputable def body8 : Code := Try.f8.body.getD .skip
noncomputable def for8 : Code := tlC (tlC (tlC (tlC (tlC (tlC (tlC body8))))))
noncomputable def loop8 : Code := blC (tlC (hdC for8))
noncomputable def tail8 : Code := tlC for8
noncomputable def in8 : Code := blC (hdC (tlC (lpC loop8)))
noncomputable def sw8 : Code := tlC (tlC in8)

/-- the chip as it stands in a world, in the box g0 -/
structure StF (w W : World) (g0 B : Nat) (s : Chip) (g1 c1 nC g2 c2 nD g3 c3 nR g4 c4 nV : Nat) : Prop where
  hC : nC = s.clks.length
  hD : nD = s.doms.length
  hR : nR = s.rsts.length
  hV : nV = s.devs.length
  own : Own5 g0 W B s (.slice (some ⟨g1, 0, none⟩) nC c1) (.slice (some ⟨g2, 0, none⟩) nD c2) (.slice (some ⟨g3, 0, none⟩) nR c3) (.slice (some ⟨g4, 0, none⟩) nV c4)
  bx : BoxAt W g0 [.slice (some ⟨g1, 0, none⟩) nC c1, .slice (some ⟨g2, 0, none⟩) nD c2, .slice (some ⟨g3, 0, none⟩) nR c3, .slice (some ⟨g4, 0, none⟩) nV c4]
  bl : Below w.heap.size w W
  wB : w.heap.size ≤ B
  lt : g0 < W.heap.size
  le : B ≤ g0

/-- a store into one of the rows -/
theorem StF.set {w W : World} {g0 B : Nat} {s s' : Chip} {g1 c1 nC g2 c2 nD g3 c3 nR g4 c4 nV : Nat} (h : StF w W g0 B s g1 c1 nC g2 c2 nD g3 c3 nR g4 c4 nV) {p : Addr} (u : Value) (ho : Own5 g0 (W.setCell p u) B s' (.slice (some ⟨g1, 0, none⟩) nC c1) (.slice (some ⟨g2, 0, none⟩) nD c2) (.slice (some ⟨g3, 0, none⟩) nR c3) (.slice (some ⟨g4, 0, none⟩) nV c4))
    (hl : s'.clks.length = s.clks.length ∧ s'.doms.length = s.doms.length ∧ s'.rsts.length = s.rsts.length ∧ s'.devs.length = s.devs.length) (hp : p.block ∈ hot4 (.slice (some ⟨g1, 0, none⟩) nC c1) (.slice (some ⟨g2, 0, none⟩) nD c2) (.slice (some ⟨g3, 0, none⟩) nR c3) (.slice (some ⟨g4, 0, none⟩) nV c4)) : StF w (W.setCell p u) g0 B s' g1 c1 nC g2 c2 nD g3 c3 nR g4 c4 nV := by
  have hf := h.own.fresh h.le h.lt p.block (List.mem_cons_of_mem _ hp)
  have hne : g0 ≠ p.block := fun e => by
    have hz1 := h.own.z1
    have hz2 := h.own.z2
    have hz3 := h.own.z3
    have hz4 := h.own.z4
    rw [← e] at hp
    simp [hot4, Value.ownBlock] at hp hz1 hz2 hz3 hz4
    rcases hp with hp | hp | hp | hp
    · exact hz1 hp.symm
    · exact hz2 hp.symm
    · exact hz3 hp.symm
    · exact hz4 hp.symm
  exact ⟨h.hC.trans hl.1.symm, h.hD.trans hl.2.1.symm, h.hR.trans hl.2.2.1.symm, h.hV.trans hl.2.2.2.symm, ho, h.bx.move (Moved.setCell (hot := [p.block]) _ (by simp) _) (by simpa using hne), h.bl.setCell (p := p) (by have := h.wB; omega) _, h.wB, by rw [size_setCell]; exact h.lt, h.le⟩
theorem StF.calm {w W W' : World} {g0 B : Nat} {s : Chip} {g1 c1 nC g2 c2 nD g3 c3 nR g4 c4 nV : Nat} (h : StF w W g0 B s g1 c1 nC g2 c2 nD g3 c3 nR g4 c4 nV) (hm : Moved [] W W') : StF w W' g0 B s g1 c1 nC g2 c2 nD g3 c3 nR g4 c4 nV :=
  ⟨h.hC, h.hD, h.hR, h.hV, h.own.calm hm, h.bx.move hm (by simp), h.bl.trans (hm.below (by simp) h.bl.size), h.wB, Nat.lt_of_lt_of_le h.lt hm.size, h.le⟩

set_option maxRecDepth 1000000 in
set_option maxHeartbeats 8000000 in
theorem first_sw (w W : World) (g0 B : Nat) (s : Chip) (g1 c1 nC g2 c2 nD g3 c3 nR g4 c4 nV x9 q : Nat) (p10 p12 : Value) (hs : StF w W g0 B s g1 c1 nC g2 c2 nD g3 c3 nR g4 c4 nV) (b1 : 1 ≤ nC ∧ nC ≤ 9) (b2 : 1 ≤ nD ∧ nD ≤ 4) (b3 : 1 ≤ nR ∧ nR ≤ 3) (b4 : 1 ≤ nV ∧ nV ≤ 4) (hx9 : x9 < 6) (hq : q < 6)
    (Q : Exit → Act → World → Prop) (a : Act) (ha : FrN 98 a) (h8 : slT a 8 = .pointer (some ⟨g0, 0, none⟩)) (h9 : slT a 9 = .int .i64 (x9 : Nat)) (h10 : slT a 10 = p10) (h12 : slT a 12 = p12) (h13 : slT a 13 = .int .i64 (q : Nat))
    (hQ : ∀ a' W' s', FrN 98 a' → slT a' 8 = .pointer (some ⟨g0, 0, none⟩) → slT a' 9 = .int .i64 (x9 : Nat) → slT a' 10 = p10 → slT a' 12 = p12 → slT a' 11 = .int .i64 (errF q) → StepF x9 q s s' → StF w W' g0 B s' g1 c1 nC g2 c2 nD g3 c3 nR g4 c4 nV → Q .normal a' W') :
    Code.wp Try.prog sw8 Q a W := by
  have HQ := Lib.hid hQ
  clear hQ
  obtain ⟨F, rfl⟩ := ha.open_
  rw [slT_listT (by omega)] at h8 h9 h10 h12 h13
  rw [lit98, h8, h9, h10, h12, h13]
  clear ha h8 h9 h10 h12 h13
  conv => arg 2; whnf
  have hq6 : q = 0 ∨ q = 1 ∨ q = 2 ∨ q = 3 ∨ q = 4 ∨ q = 5 := by omega
  clear hq
  rcases hq6 with rfl | rfl | rfl | rfl | rfl | rfl
  · have hr := List.getElem?_eq_getElem (l := s.devs) (i := 0) (by have := hs.hV; omega)
    generalize s.devs[0]'_ = x at hr
    obtain ⟨vs, hvl, hC, hcells⟩ := hs.own.devs.cell hs.hV hr
    obtain ⟨Ax, cx, Ay, cy, rfl, -, -, -, -⟩ := hC
    obtain ⟨e0, e1⟩ := hcells 4 _ rfl
    simp only [Nat.zero_mul, Nat.zero_add] at e0 e1
    clear hcells hvl
    have hnh : W.heap.size ∉ g0 :: hot4 (.slice (some ⟨g1, 0, none⟩) nC c1) (.slice (some ⟨g2, 0, none⟩) nD c2) (.slice (some ⟨g3, 0, none⟩) nR c3) (.slice (some ⟨g4, 0, none⟩) nV c4) := fun hm => by have := (hs.own.fresh hs.le hs.lt W.heap.size hm).2; omega
    have hs1 := hs.calm (Moved.alloc W (.cells (madeCells #[.int .u32 0, .bool false] 18) 56))
    have hset := hs1.own.setDev (j := 4) (u := .slice (some ⟨W.heap.size, 0, none⟩) 9 9) (x' := { x with regs := List.replicate 9 ⟨0, false⟩ }) hs1.hV hr (by omega) (fun vs hv _ => by obtain ⟨A, c, A', c', rfl, q1, q2, q3, q4⟩ := hv; exact ⟨some ⟨W.heap.size, 0, none⟩, 9, A', c', rfl, Nat.le_refl _, q2, regs9 (heap_alloc_new W _) (by simp) hnh, q4⟩)
    simp only [Nat.zero_mul, Nat.zero_add] at hset
    have ht0 := hs1.set (p := ⟨g4, 4, none⟩) (.slice (some ⟨W.heap.size, 0, none⟩) 9 9) hset ⟨rfl, rfl, rfl, by simp⟩ (by simp [hot4, Value.ownBlock])
    have ht := ht0.calm (drew_moved _)
    obtain ⟨x0, y0⟩ := hs.bx 0 _ rfl
    obtain ⟨x1, y1⟩ := hs.bx 1 _ rfl
    obtain ⟨x2, y2⟩ := hs.bx 2 _ rfl
    obtain ⟨x3, y3⟩ := hs.bx 3 _ rfl
    have hlt := hs.lt
    have hg4 := (hs.own.fresh hs.le hs.lt g4 (by simp [hot4, Value.ownBlock])).2
    rw [show (W.alloc (.cells (madeCells #[.int .u32 0, .bool false] 18) 56)).setCell ⟨g4, 4, none⟩ (.slice (some ⟨W.heap.size, 0, none⟩) 9 9) = (W.setCell ⟨g4, 4, none⟩ (.slice (some ⟨W.heap.size, 0, none⟩) 9 9)).alloc (.cells (madeCells #[.int .u32 0, .bool false] 18) 56) from World.setCell_alloc_past _ _ _ _ hg4] at ht
    have e2 : ∀ o : Obj, (W.alloc o).drew.frozen? ⟨g4, 4, none⟩ = false := fun o => fr_keep e1 hg4
    have e3 : ∀ o : Obj, (W.alloc o).cell? ⟨g4, 4, none⟩ = some (.slice Ax x.regs.length cx) := fun o => Lib.cell?_alloc_some _ e0
    have e4 : ∀ o : Obj, (W.alloc o).frozen? ⟨g4, 4, none⟩ = false := fun o => fr_keep e1 hg4
    have hmk9 := make_9
    have HR := Lib.hid hr
    have HT := Lib.hid ht
    clear hr hset ht ht0 hs hs1 hnh
    go_wp2
    go_region
    clear e0 e1 e2 e3 e4 hmk9
    go_wp2
    exact HQ.out _ _ _ ⟨rfl, rfl⟩ rfl rfl rfl rfl rfl (by unfold StepF; exact ⟨_, HR.out, rfl⟩) HT.out
  · have hr := List.getElem?_eq_getElem (l := s.clks) (i := 0) (by have := hs.hC; omega)
    generalize s.clks[0]'_ = x at hr
    obtain ⟨vs, hvl, hC, hcells⟩ := hs.own.clks.cell hs.hC hr
    obtain ⟨Ax, cx, rfl, -, -⟩ := hC
    obtain ⟨e0, e1⟩ := hcells 0 _ rfl
    simp only [Nat.zero_mul, Nat.zero_add] at e0 e1
    clear hcells hvl
    have hset := hs.own.setClk (j := 0) (u := .int .u8 113) (x' := { x with kind := 113 }) hs.hC hr (by omega) (fun vs hv _ => by obtain ⟨A, c, rfl, q1, q2⟩ := hv; exact ⟨A, c, rfl, q1, q2⟩)
    simp only [Nat.zero_mul, Nat.zero_add] at hset
    have ht := hs.set (p := ⟨g1, 0, none⟩) (.int .u8 113) hset ⟨by simp, rfl, rfl, rfl⟩ (by simp [hot4, Value.ownBlock])
    obtain ⟨x0, y0⟩ := hs.bx 0 _ rfl
    obtain ⟨x1, y1⟩ := hs.bx 1 _ rfl
    obtain ⟨x2, y2⟩ := hs.bx 2 _ rfl
    obtain ⟨x3, y3⟩ := hs.bx 3 _ rfl
    have hlt := hs.lt
    have HR := Lib.hid hr
    have HT := Lib.hid ht
    clear hr hset ht hs
    go_wp2
    exact HQ.out _ _ _ ⟨rfl, rfl⟩ rfl rfl rfl rfl rfl (by unfold StepF; exact ⟨_, HR.out, rfl⟩) HT.out
  · have hr := List.getElem?_eq_getElem (l := s.doms) (i := 0) (by have := hs.hD; omega)
    generalize s.doms[0]'_ = x at hr
    obtain ⟨vs, hvl, hC, hcells⟩ := hs.own.doms.cell hs.hD hr
    have hC' : vs = _ := hC
    subst hC'
    obtain ⟨e0, e1⟩ := hcells 0 _ rfl
    simp only [Nat.zero_mul, Nat.zero_add] at e0 e1
    clear hcells hvl
    have hset := hs.own.setDom (j := 0) (u := .int .i64 77) (x' := { x with above := 77 }) hs.hD hr (by omega) (fun vs hv _ => by have hv' : vs = _ := hv; subst hv'; rfl)
    simp only [Nat.zero_mul, Nat.zero_add] at hset
    have ht := hs.set (p := ⟨g2, 0, none⟩) (.int .i64 77) hset ⟨rfl, by simp, rfl, rfl⟩ (by simp [hot4, Value.ownBlock])
    obtain ⟨x0, y0⟩ := hs.bx 0 _ rfl
    obtain ⟨x1, y1⟩ := hs.bx 1 _ rfl
    obtain ⟨x2, y2⟩ := hs.bx 2 _ rfl
    obtain ⟨x3, y3⟩ := hs.bx 3 _ rfl
    have hlt := hs.lt
    have HR := Lib.hid hr
    have HT := Lib.hid ht
    clear hr hset ht hs
    go_wp2
    exact HQ.out _ _ _ ⟨rfl, rfl⟩ rfl rfl rfl rfl rfl (by unfold StepF; exact ⟨_, HR.out, rfl⟩) HT.out
  · obtain ⟨m, hm⟩ : ∃ m, nD = m + 1 := ⟨nD - 1, by omega⟩
    have hmI : (nD : Int) - 1 = (m : Int) := by omega
    have hml : s.doms.length - 1 = m := by have := hs.hD; omega
    have i0 : (0 : Int) ≤ (m : Int) := by omega
    have i1 : (m : Int) < (nD : Int) := by omega
    have HM := Lib.hid hm
    have HML := Lib.hid hml
    clear hm
    have hr := List.getElem?_eq_getElem (l := s.doms) (i := m) (by have := hs.hD; omega)
    generalize s.doms[m]'_ = x at hr
    obtain ⟨vs, hvl, hC, hcells⟩ := hs.own.doms.cell hs.hD hr
    have hC' : vs = _ := hC
    subst hC'
    obtain ⟨e0, e1⟩ := hcells 1 _ rfl
    clear hcells hvl
    by_cases h2 : x9 = 2 ∧ 1 < nD
    · obtain ⟨rfl, hn1⟩ := h2
      have hset := hs.own.setDom (j := 1) (u := .int .i64 21) (x' := { x with delay := 21 }) hs.hD hr (by omega) (fun vs hv _ => by have hv' : vs = _ := hv; subst hv'; rfl)
      have ht := hs.set (p := ⟨g2, m * 3 + 1, none⟩) (.int .i64 21) hset ⟨rfl, by simp, rfl, rfl⟩ (by simp [hot4, Value.ownBlock])
      have hr' : ({ s with doms := s.doms.set m { x with delay := 21 } } : Chip).doms[m]? = some { x with delay := 21 } := List.getElem?_set_self (List.getElem?_eq_some_iff.1 hr).1
      obtain ⟨vs2, -, hC2, hcells2⟩ := ht.own.doms.cell ht.hD hr'
      have hC2' : vs2 = _ := hC2
      subst hC2'
      obtain ⟨f0, f1⟩ := hcells2 0 _ rfl
      simp only [Nat.add_zero] at f0 f1
      have hset2 := ht.own.setDom (j := 0) (u := .int .i64 (-1)) (x' := { x with delay := 21, above := -1 }) ht.hD hr' (by omega) (fun vs hv _ => by have hv' : vs = _ := hv; subst hv'; rfl)
      simp only [Nat.add_zero, List.set_set] at hset2
      have hu := ht.set (p := ⟨g2, m * 3, none⟩) (.int .i64 (-1)) hset2 ⟨rfl, by simp, rfl, rfl⟩ (by simp [hot4, Value.ownBlock])
      obtain ⟨x0, y0⟩ := hs.bx 0 _ rfl
      obtain ⟨x1, y1⟩ := hs.bx 1 _ rfl
      obtain ⟨x2, y2⟩ := hs.bx 2 _ rfl
      obtain ⟨x3, y3⟩ := hs.bx 3 _ rfl
      have hlt := hs.lt
      obtain ⟨z1, -⟩ := ht.bx 1 _ rfl
      have hd3 : s.doms.length = nD := hs.hD.symm
      have HR := Lib.hid hr
      have HT := Lib.hid hu
      have HD3 := Lib.hid hd3
      clear hr hr' hset hset2 ht hu hs hcells2 hd3 hml
      go_wp2
      exact HQ.out _ _ _ ⟨rfl, rfl⟩ rfl rfl rfl rfl rfl (by unfold StepF; rw [HML.out, HD3.out]; exact ⟨x, HR.out, by simp [hn1]⟩) HT.out
    · have hd3 : s.doms.length = nD := hs.hD.symm
      have hset := hs.own.setDom (j := 1) (u := .int .i64 21) (x' := { x with delay := 21 }) hs.hD hr (by omega) (fun vs hv _ => by have hv' : vs = _ := hv; subst hv'; rfl)
      have ht := hs.set (p := ⟨g2, m * 3 + 1, none⟩) (.int .i64 21) hset ⟨rfl, by simp, rfl, rfl⟩ (by simp [hot4, Value.ownBlock])
      obtain ⟨x0, y0⟩ := hs.bx 0 _ rfl
      obtain ⟨x1, y1⟩ := hs.bx 1 _ rfl
      obtain ⟨x2, y2⟩ := hs.bx 2 _ rfl
      obtain ⟨x3, y3⟩ := hs.bx 3 _ rfl
      have hlt := hs.lt
      obtain ⟨z1, -⟩ := ht.bx 1 _ rfl
      have HR := Lib.hid hr
      have HT := Lib.hid ht
      have HD3 := Lib.hid hd3
      have H2 := Lib.hid h2
      by_cases h9 : x9 = 2
      · have hn1 : ¬ 1 < nD := fun h => h2 ⟨h9, h⟩
        subst h9
        clear hr hset ht hs hd3 h2 hml
        go_wp2
        exact HQ.out _ _ _ ⟨rfl, rfl⟩ rfl rfl rfl rfl rfl (by unfold StepF; rw [HML.out, HD3.out]; exact ⟨x, HR.out, by simp [hn1]⟩) HT.out
      · have h9b : ((x9 : Int) == 2) = false := by simp; omega
        clear hr hset ht hs hd3 h2 hml
        go_wp2
        exact HQ.out _ _ _ ⟨rfl, rfl⟩ rfl rfl rfl rfl rfl (by unfold StepF; rw [HML.out, HD3.out]; exact ⟨x, HR.out, by simp [h9]⟩) HT.out
  · have hr := List.getElem?_eq_getElem (l := s.rsts) (i := 0) (by have := hs.hR; omega)
    generalize s.rsts[0]'_ = x at hr
    obtain ⟨vs, hvl, hC, hcells⟩ := hs.own.rsts.cell hs.hR hr
    have hC' : vs = _ := hC
    subst hC'
    obtain ⟨e0, e1⟩ := hcells 0 _ rfl
    simp only [Nat.zero_mul, Nat.zero_add] at e0 e1
    clear hcells hvl
    have hset := hs.own.setRst (j := 0) (u := .int .i64 (-1)) (x' := ⟨-1⟩) hs.hR hr (by omega) (fun vs hv _ => by have hv' : vs = _ := hv; subst hv'; rfl)
    simp only [Nat.zero_mul, Nat.zero_add] at hset
    have ht := hs.set (p := ⟨g3, 0, none⟩) (.int .i64 (-1)) hset ⟨rfl, rfl, by simp, rfl⟩ (by simp [hot4, Value.ownBlock])
    obtain ⟨x0, y0⟩ := hs.bx 0 _ rfl
    obtain ⟨x1, y1⟩ := hs.bx 1 _ rfl
    obtain ⟨x2, y2⟩ := hs.bx 2 _ rfl
    obtain ⟨x3, y3⟩ := hs.bx 3 _ rfl
    have hlt := hs.lt
    have HT := Lib.hid ht
    clear hr hset ht hs
    go_wp2
    exact HQ.out _ _ _ ⟨rfl, rfl⟩ rfl rfl rfl rfl rfl (by unfold StepF; rfl) HT.out
  · have hr := List.getElem?_eq_getElem (l := s.devs) (i := 0) (by have := hs.hV; omega)
    generalize s.devs[0]'_ = x at hr
    obtain ⟨vs, hvl, hC, hcells⟩ := hs.own.devs.cell hs.hV hr
    obtain ⟨Ax, cx, Ay, cy, rfl, -, -, -, -⟩ := hC
    obtain ⟨e0, e1⟩ := hcells 5 _ rfl
    simp only [Nat.zero_mul, Nat.zero_add] at e0 e1
    clear hcells hvl
    have hnh : W.heap.size ∉ g0 :: hot4 (.slice (some ⟨g1, 0, none⟩) nC c1) (.slice (some ⟨g2, 0, none⟩) nD c2) (.slice (some ⟨g3, 0, none⟩) nR c3) (.slice (some ⟨g4, 0, none⟩) nV c4) := fun hm => by have := (hs.own.fresh hs.le hs.lt W.heap.size hm).2; omega
    have hs1 := hs.calm (Moved.alloc W (.cells #[.int .i64 0] 3))
    obtain ⟨vs, hvl, hC, hcells⟩ := hs1.own.devs.cell hs1.hV hr
    obtain ⟨Bx, dx, By, dy, rfl, -, -, -, -⟩ := hC
    obtain ⟨f0, f1⟩ := hcells 5 _ rfl
    simp only [Nat.zero_mul, Nat.zero_add] at f0 f1
    clear hcells hvl
    have hset := hs1.own.setDev (j := 5) (u := .slice (some ⟨W.heap.size, 0, none⟩) 1 1) (x' := { x with needs := [0] }) hs1.hV hr (by omega) (fun vs hv _ => by obtain ⟨A, c, A', c', rfl, q1, q2, q3, q4⟩ := hv; exact ⟨A, c, some ⟨W.heap.size, 0, none⟩, 1, rfl, q1, Nat.le_refl _, q3, ints_fresh0 W [0] _ hnh⟩)
    simp only [Nat.zero_mul, Nat.zero_add] at hset
    have ht := hs1.set (p := ⟨g4, 5, none⟩) (.slice (some ⟨W.heap.size, 0, none⟩) 1 1) hset ⟨rfl, rfl, rfl, by simp⟩ (by simp [hot4, Value.ownBlock])
    obtain ⟨x0, y0⟩ := hs.bx 0 _ rfl
    obtain ⟨x1, y1⟩ := hs.bx 1 _ rfl
    obtain ⟨x2, y2⟩ := hs.bx 2 _ rfl
    obtain ⟨x3, y3⟩ := hs.bx 3 _ rfl
    have hlt := hs.lt
    have HR := Lib.hid hr
    have HT := Lib.hid ht
    clear hr hset ht hs hs1 hnh
    go_wp2
    exact HQ.out _ _ _ ⟨rfl, rfl⟩ rfl rfl rfl rfl rfl (by unfold StepF; exact ⟨_, HR.out, rfl⟩) HT.out

set_option maxRecDepth 1000000 in
set_option maxHeartbeats 4000000 in
theorem first_round (w W : World) (g0 B : Nat) (s : Chip) (g1 c1 nC g2 c2 nD g3 c3 nR g4 c4 nV x y k : Nat) (hs : StF w W g0 B s g1 c1 nC g2 c2 nD g3 c3 nR g4 c4 nV) (b1 : 1 ≤ nC ∧ nC ≤ 9) (b2 : 1 ≤ nD ∧ nD ≤ 4) (b3 : 1 ≤ nR ∧ nR ≤ 3) (b4 : 1 ≤ nV ∧ nV ≤ 4) (hx : x < 6) (hy : y < 6) (hk : k ≤ 2)
    (a : Act) (ha : FrN 98 a) (h8 : slT a 8 = .pointer (some ⟨g0, 0, none⟩)) (h9 : slT a 9 = .int .i64 (x : Nat)) (h10 : slT a 10 = .int .i64 (y : Nat)) (h12 : slT a 12 = .int .i64 (k : Nat))
    (R : Act → World → Prop) (Q : Exit → Act → World → Prop)
    (hR : ∀ a' W' s', k < 2 → FrN 98 a' → slT a' 8 = .pointer (some ⟨g0, 0, none⟩) → slT a' 9 = .int .i64 (x : Nat) → slT a' 10 = .int .i64 (y : Nat) → slT a' 12 = .int .i64 ((k + 1 : Nat) : Int) → slT a' 11 = .int .i64 (errF (if k = 0 then y else x)) → StepF x (if k = 0 then y else x) s s' → StF w W' g0 B s' g1 c1 nC g2 c2 nD g3 c3 nR g4 c4 nV → R a' W')
    (hQ : ∀ a', FrN 98 a' → slT a' 8 = .pointer (some ⟨g0, 0, none⟩) → slT a' 11 = slT a 11 → k = 2 → Q (.exit 0) a' W) :
    Code.wp Try.prog (lpC loop8) (Exit.then R Q) a W := by
  have HQ := Lib.hid hQ
  have HR := Lib.hid hR
  have HS := Lib.hid hs
  clear hQ hR hs
  obtain ⟨F, rfl⟩ := ha.open_
  have e11 : slT ⟨listT F 98, []⟩ 11 = F 11 := slT_listT (by omega)
  rw [e11] at HQ
  rw [slT_listT (by omega)] at h8 h9 h10 h12
  rw [lit98, h8, h9, h10, h12]
  clear ha h8 h9 h10 h12 e11
  conv => arg 2; whnf
  by_cases hlt : k < 2
  · have hk1 : k = 0 ∨ k = 1 := by omega
    clear hlt
    rcases hk1 with rfl | rfl
    · go_upto_region 12 with fail
      rename_i Ka hKa Kb hKb
      have HKA := Lib.hid hKa
      clear hKa
      go_wp2
      refine HKA.out _ _ ?_
      refine first_sw w W g0 B s g1 c1 nC g2 c2 nD g3 c3 nR g4 c4 nV x y (.int .i64 (y : Nat)) (.int .i64 (0 : Nat)) HS.out b1 b2 b3 b4 hx hy _ _ ⟨rfl, rfl⟩ rfl rfl rfl rfl rfl ?_
      clear HKA HS
      intro a' W' s' hF q8 q9 q10 q12 q11 hst hs'
      have HST := Lib.hid hst
      have HS' := Lib.hid hs'
      clear hst hs'
      obtain ⟨G, rfl⟩ := hF.open_
      rw [slT_listT (by omega)] at q8 q9 q10 q12 q11
      rw [lit98, q8, q9, q10, q12, q11]
      clear hF q8 q9 q10 q12 q11
      go_wp2
      exact HR.out _ _ _ (by omega) ⟨rfl, rfl⟩ rfl rfl rfl rfl rfl HST.out HS'.out
    · go_upto_region 12 with fail
      rename_i Ka hKa Kb hKb
      have HKA := Lib.hid hKa
      clear hKa
      go_wp2
      refine HKA.out _ _ ?_
      refine first_sw w W g0 B s g1 c1 nC g2 c2 nD g3 c3 nR g4 c4 nV x x (.int .i64 (y : Nat)) (.int .i64 (1 : Nat)) HS.out b1 b2 b3 b4 hx hx _ _ ⟨rfl, rfl⟩ rfl rfl rfl rfl rfl ?_
      clear HKA HS
      intro a' W' s' hF q8 q9 q10 q12 q11 hst hs'
      have HST := Lib.hid hst
      have HS' := Lib.hid hs'
      clear hst hs'
      obtain ⟨G, rfl⟩ := hF.open_
      rw [slT_listT (by omega)] at q8 q9 q10 q12 q11
      rw [lit98, q8, q9, q10, q12, q11]
      clear hF q8 q9 q10 q12 q11
      go_wp2
      exact HR.out _ _ _ (by omega) ⟨rfl, rfl⟩ rfl rfl rfl rfl rfl HST.out HS'.out
  · obtain rfl : k = 2 := by omega
    go_wp2
    exact HQ.out _ ⟨rfl, rfl⟩ rfl rfl (by trivial)

def ReachF (x y k : Nat) (s s' : Chip) (v : Value) : Prop := (k = 0 ∧ s' = s) ∨ (k = 1 ∧ StepF x y s s') ∨ (k = 2 ∧ (∃ t, StepF x y s t ∧ StepF x x t s') ∧ v = .int .i64 (errF x))
def I8 (w : World) (g0 B : Nat) (s : Chip) (g1 c1 nC g2 c2 nD g3 c3 nR g4 c4 nV x y : Nat) (a : Act) (W : World) : Prop :=
  ∃ (k : Nat) (s' : Chip), k ≤ 2 ∧ FrN 98 a ∧ slT a 8 = .pointer (some ⟨g0, 0, none⟩) ∧ slT a 9 = .int .i64 (x : Nat) ∧ slT a 10 = .int .i64 (y : Nat) ∧ slT a 12 = .int .i64 (k : Nat) ∧ ReachF x y k s s' (slT a 11) ∧ StF w W g0 B s' g1 c1 nC g2 c2 nD g3 c3 nR g4 c4 nV
def M8 (a : Act) (_ : World) : Nat := 2 - (intOf (slT a 12)).toNat
theorem first_loop (w W : World) (g0 B : Nat) (s : Chip) (g1 c1 nC g2 c2 nD g3 c3 nR g4 c4 nV x y : Nat) (hs : StF w W g0 B s g1 c1 nC g2 c2 nD g3 c3 nR g4 c4 nV) (b1 : 1 ≤ nC ∧ nC ≤ 9) (b2 : 1 ≤ nD ∧ nD ≤ 4) (b3 : 1 ≤ nR ∧ nR ≤ 3) (b4 : 1 ≤ nV ∧ nV ≤ 4) (hx : x < 6) (hy : y < 6)
    (a : Act) (ha : FrN 98 a) (h8 : slT a 8 = .pointer (some ⟨g0, 0, none⟩)) (h9 : slT a 9 = .int .i64 (x : Nat)) (h10 : slT a 10 = .int .i64 (y : Nat)) (h12 : slT a 12 = .int .i64 0) (Q : Exit → Act → World → Prop)
    (hQ : ∀ a' W' s', FrN 98 a' → slT a' 8 = .pointer (some ⟨g0, 0, none⟩) → slT a' 11 = .int .i64 (errF x) → (∃ t, StepF x y s t ∧ StepF x x t s') → StF w W' g0 B s' g1 c1 nC g2 c2 nD g3 c3 nR g4 c4 nV → Q (.exit 0) a' W') :
    Code.wp Try.prog loop8 Q a W := by
  show Code.wp Try.prog (Code.loop (lpC loop8)) Q a W
  refine wp_loop (I8 w g0 B s g1 c1 nC g2 c2 nD g3 c3 nR g4 c4 nV x y) M8 ⟨0, s, by omega, ha, h8, h9, h10, h12, .inl ⟨rfl, rfl⟩, hs⟩ ?_
  rintro a1 W1 ⟨k, s1, hk, hf, q8, q9, q10, q12, hr, hs1⟩
  refine first_round w W1 g0 B s1 g1 c1 nC g2 c2 nD g3 c3 nR g4 c4 nV x y k hs1 b1 b2 b3 b4 hx hy hk a1 hf q8 q9 q10 q12 _ _ ?_ ?_
  · intro a' W' s' hlt hF e8 e9 e10 e12 e11 hst hs'
    refine ⟨⟨k + 1, s', hlt, hF, e8, e9, e10, e12, ?_, hs'⟩, ?_⟩
    · rcases hr with ⟨rfl, rfl⟩ | ⟨rfl, h1⟩ | ⟨rfl, _⟩
      · exact .inr (.inl ⟨rfl, hst⟩)
      · exact .inr (.inr ⟨rfl, ⟨_, h1, hst⟩, e11⟩)
      · omega
    · unfold M8
      rw [e12, q12]
      simp [intOf]
      omega
  · intro a' hF e8 e11 hk2
    subst hk2
    rcases hr with ⟨h, _⟩ | ⟨h, _⟩ | ⟨_, h1, h2⟩
    · omega
    · omega
    · exact hQ _ _ _ hF e8 (e11.trans h2) h1 hs1

set_option maxRecDepth 1000000 in
set_option maxHeartbeats 4000000 in
theorem first_end (w W : World) (g0 B : Nat) (s' : Chip) (g1 c1 nC g2 c2 nD g3 c3 nR g4 c4 nV : Nat) (E : Int) (hs : StF w W g0 B s' g1 c1 nC g2 c2 nD g3 c3 nR g4 c4 nV) (a : Act) (ha : FrN 98 a) (h8 : slT a 8 = .pointer (some ⟨g0, 0, none⟩)) (h11 : slT a 11 = .int .i64 E) (hok : ChipOk s') (hE : chipE s' = E) :
    Code.wp Try.prog tail8 (bodyPost Try.prog Try.f8 (TellsB true w)) a W := by
  subst hE
  obtain ⟨x0, y0⟩ := hs.bx 0 _ rfl
  obtain ⟨x1, y1⟩ := hs.bx 1 _ rfl
  obtain ⟨x2, y2⟩ := hs.bx 2 _ rfl
  obtain ⟨x3, y3⟩ := hs.bx 3 _ rfl
  have HV := Lib.hid hs.own.chip
  have HB := Lib.hid hs.bl
  clear hs
  obtain ⟨F, rfl⟩ := ha.open_
  rw [slT_listT (by omega)] at h8 h11
  rw [lit98, h8, h11]
  clear ha h8 h11
  conv => arg 2; whnf
  go_wp2_with fail
  refine (chip_check s' _ W hok HV.out).mono ?_
  rintro e w' ⟨rfl, hb'⟩
  have HB' := Lib.hid hb'
  clear hb'
  go_wp2
  go_ret
  exact ⟨rfl, HB.out.trans (HB'.out.mono HB.out.size)⟩

set_option maxRecDepth 1000000 in
set_option maxHeartbeats 8000000 in
theorem firsts_any (A : Option Addr) (c : Nat) (l : List Int) (a b : Int) (w : World) (hl : l.length ≤ maxLen) (hwf : ∀ x, x ∈ l → wfI x) (h : IntsAt w w.heap.size A l) (ha : wfI a) (hb : wfI b) :
    Calls Try.prog 8 #[.slice A l.length c, .int .i64 a, .int .i64 b] w (TellsB true w) := by
  have HL := Lib.hid hl
  have HWF := Lib.hid hwf
  have HI := Lib.hid h
  obtain ⟨pa, ha6, hpa⟩ := pick_ex (n := 6) ha (by omega) (by omega)
  obtain ⟨pb, hb6, hpb⟩ := pick_ex (n := 6) hb (by omega) (by omega)
  have HPA : RowKit.Hid (PickIs a 6 pa) := hpa
  have HPB : RowKit.Hid (PickIs b 6 pb) := hpb
  clear hl hwf h ha hb hpa hpb
  go_enter Try.func8, Try.ntmps8
  go_wp2_with fail
  refine (shown_any _).mono ?_
  rintro e w1 ⟨rfl, hb1⟩
  have HB1 := Lib.hid hb1
  have hz1 := hb1.size
  clear hb1
  go_wp2_with fail
  refine (chip_any A c l w1 HL.out HWF.out ((HI.out.below HB1.out (Nat.le_refl _)).more hz1)).mono ?_
  rintro e w2 ⟨v1, v2, v3, v4, rfl, hown, hb2⟩
  have hpl := plain_of l
  generalize chipP l = s at *
  obtain ⟨g1, c1, rfl, f1, t1⟩ := Own5.form hown.clks (by have := hpl.nc; omega)
  obtain ⟨g2, c2, rfl, f2, t2⟩ := Own5.form hown.doms (by have := hpl.nd; omega)
  obtain ⟨g3, c3, rfl, f3, t3⟩ := Own5.form hown.rsts (by have := hpl.nr; omega)
  obtain ⟨g4, c4, rfl, f4, t4⟩ := Own5.form hown.devs (by have := hpl.nv; omega)
  have hz2 := hb2.size
  have HPL := Lib.hid hpl
  have hst : StF w (w2.alloc (.cells #[.slice (some ⟨g1, 0, none⟩) s.clks.length c1, .slice (some ⟨g2, 0, none⟩) s.doms.length c2, .slice (some ⟨g3, 0, none⟩) s.rsts.length c3, .slice (some ⟨g4, 0, none⟩) s.devs.length c4] 27)) w2.heap.size w1.heap.size s g1 c1 s.clks.length g2 c2 s.doms.length g3 c3 s.rsts.length g4 c4 s.devs.length :=
    ⟨rfl, rfl, rfl, rfl, hown.box _, BoxAt.new w2 _ 27, HB1.out.trans ((hb2.mono hz1).alloc (by omega) _), hz1, by simp, hz2⟩
  have HST := Lib.hid hst
  clear hb2 hst hown hpl HI HWF HL HB1
  rcases Nat.lt_trichotomy pa pb with hab | rfl | hab
  · have hmin : min (pa : Int) (pb : Int) = (pa : Int) := by omega
    have hmax : max (pa : Int) (pb : Int) = (pb : Int) := by omega
    go_wp2_with fail
    refine (HPA.out _).mono ?_
    rintro e wq ⟨rfl, rfl⟩
    go_wp2_with fail
    refine (HPB.out _).mono ?_
    rintro e wq ⟨rfl, rfl⟩
    go_wp2_with fail
    refine (HPA.out _).mono ?_
    rintro e wq ⟨rfl, rfl⟩
    go_wp2_with fail
    refine (HPB.out _).mono ?_
    rintro e wq ⟨rfl, rfl⟩
    generalize w2.alloc (.cells #[.slice (some ⟨g1, 0, none⟩) s.clks.length c1, .slice (some ⟨g2, 0, none⟩) s.doms.length c2, .slice (some ⟨g3, 0, none⟩) s.rsts.length c3, .slice (some ⟨g4, 0, none⟩) s.devs.length c4] 27) = W at HST ⊢
    clear HPA HPB hmin hmax
    go_wp2
    refine first_loop w W w2.heap.size w1.heap.size s g1 c1 _ g2 c2 _ g3 c3 _ g4 c4 _ pa pb HST.out HPL.out.nc HPL.out.nd HPL.out.nr HPL.out.nv (by omega) (by omega) _ ⟨rfl, rfl⟩ rfl rfl rfl rfl _ ?_
    rintro a' W' s' hF q8 q11 ⟨t, hs1, hs2⟩ hs'
    simp only [Exit.then, Exit.inBlock, ↓reduceIte]
    go_step
    exact first_end w W' _ _ s' g1 c1 _ g2 c2 _ g3 c3 _ g4 c4 _ _ hs' a' hF q8 q11 (hs2.ok (hs1.ok HPL.out.ok)) (HPL.out.two (by omega) (by omega) hs1 hs2)
  · have hmin : min (pa : Int) (pa : Int) = (pa : Int) := by omega
    have hmax : max (pa : Int) (pa : Int) = (pa : Int) := by omega
    go_wp2_with fail
    refine (HPA.out _).mono ?_
    rintro e wq ⟨rfl, rfl⟩
    go_wp2_with fail
    refine (HPB.out _).mono ?_
    rintro e wq ⟨rfl, rfl⟩
    go_wp2_with fail
    refine (HPA.out _).mono ?_
    rintro e wq ⟨rfl, rfl⟩
    go_wp2_with fail
    refine (HPB.out _).mono ?_
    rintro e wq ⟨rfl, rfl⟩
    generalize w2.alloc (.cells #[.slice (some ⟨g1, 0, none⟩) s.clks.length c1, .slice (some ⟨g2, 0, none⟩) s.doms.length c2, .slice (some ⟨g3, 0, none⟩) s.rsts.length c3, .slice (some ⟨g4, 0, none⟩) s.devs.length c4] 27) = W at HST ⊢
    clear HPA HPB hmin hmax
    go_wp2
    refine first_loop w W w2.heap.size w1.heap.size s g1 c1 _ g2 c2 _ g3 c3 _ g4 c4 _ pa pa HST.out HPL.out.nc HPL.out.nd HPL.out.nr HPL.out.nv (by omega) (by omega) _ ⟨rfl, rfl⟩ rfl rfl rfl rfl _ ?_
    rintro a' W' s' hF q8 q11 ⟨t, hs1, hs2⟩ hs'
    simp only [Exit.then, Exit.inBlock, ↓reduceIte]
    go_step
    exact first_end w W' _ _ s' g1 c1 _ g2 c2 _ g3 c3 _ g4 c4 _ _ hs' a' hF q8 q11 (hs2.ok (hs1.ok HPL.out.ok)) (HPL.out.two (by omega) (by omega) hs1 hs2)
  · have hmin : min (pa : Int) (pb : Int) = (pb : Int) := by omega
    have hmax : max (pa : Int) (pb : Int) = (pa : Int) := by omega
    go_wp2_with fail
    refine (HPA.out _).mono ?_
    rintro e wq ⟨rfl, rfl⟩
    go_wp2_with fail
    refine (HPB.out _).mono ?_
    rintro e wq ⟨rfl, rfl⟩
    go_wp2_with fail
    refine (HPA.out _).mono ?_
    rintro e wq ⟨rfl, rfl⟩
    go_wp2_with fail
    refine (HPB.out _).mono ?_
    rintro e wq ⟨rfl, rfl⟩
    generalize w2.alloc (.cells #[.slice (some ⟨g1, 0, none⟩) s.clks.length c1, .slice (some ⟨g2, 0, none⟩) s.doms.length c2, .slice (some ⟨g3, 0, none⟩) s.rsts.length c3, .slice (some ⟨g4, 0, none⟩) s.devs.length c4] 27) = W at HST ⊢
    clear HPA HPB hmin hmax
    go_wp2
    refine first_loop w W w2.heap.size w1.heap.size s g1 c1 _ g2 c2 _ g3 c3 _ g4 c4 _ pb pa HST.out HPL.out.nc HPL.out.nd HPL.out.nr HPL.out.nv (by omega) (by omega) _ ⟨rfl, rfl⟩ rfl rfl rfl rfl _ ?_
    rintro a' W' s' hF q8 q11 ⟨t, hs1, hs2⟩ hs'
    simp only [Exit.then, Exit.inBlock, ↓reduceIte]
    go_step
    exact first_end w W' _ _ s' g1 c1 _ g2 c2 _ g3 c3 _ g4 c4 _ _ hs' a' hF q8 q11 (hs2.ok (hs1.ok HPL.out.ok)) (HPL.out.two (by omega) (by omega) hs1 hs2)

theorem first_arg (A : Option Addr) (c : Nat) (l : List Int) (a b : Int) (w : World) (hm : l.length ≤ 9223372036854775807) (h : IntsAt w w.heap.size A l) (hwf : ∀ x, x ∈ l → wfI x) (ha : wfI a) (hb : wfI b) :
    Calls Try.prog 8 #[.slice A l.length c, .int .i64 a, .int .i64 b] w fun e w' => e = .returned (.bool true) ∧ Below w.heap.size w w' :=
  firsts_any A c l a b w (by unfold maxLen; omega) hwf h ha hb

end Go.Proofs.Ytkhfcbcanbplgaa
