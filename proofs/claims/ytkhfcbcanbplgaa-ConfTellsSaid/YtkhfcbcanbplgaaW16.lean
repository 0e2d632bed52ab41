/- The contracts of slices.EqualFunc of clocks and devices, and of conf.Same. (Written by wip/tools/w16.py.) -/
import Derived.Test.YtkhfcbcanbplgaaW15
namespace Go.Proofs.Ytkhfcbcanbplgaa
set_option linter.unusedSimpArgs false
set_option linter.unusedVariables false
open Go.RowKit Go.Maps

set_option maxRecDepth 100000 in
set_option maxHeartbeats 4000000 in
theorem eqf_clk (A A' : Option Addr) (c c' : Nat) (xs ys : List Clk) (w : World) (hl : xs.length ≤ 1000000) (hl' : ys.length ≤ 1000000) (hg : ∀ x, x ∈ xs → x.frm.length ≤ 1000) (hg' : ∀ x, x ∈ ys → x.frm.length ≤ 1000) (h : StrsAt ClkV 6 w w.heap.size A xs) (h' : StrsAt ClkV 6 w w.heap.size A' ys) :
    Calls Try.prog 53 #[.slice A xs.length c, .slice A' ys.length c', .func (.func 54) #[] #[]] w (TellsB (eqP xs ys) w) := by
  have HG := Lib.hid hg
  have HG' := Lib.hid hg'
  clear hg hg'
  by_cases hne : xs.length = ys.length
  · have HL := Lib.hid hne
    have g1 : xs.length ≤ ys.length := by omega
    have g2 : ys.length ≤ xs.length := by omega
    have hn : ((xs.length : Int) != (ys.length : Int)) = false := by simp [hne]
    clear hne
    go_enter Try.func53, Try.ntmps53
    go_wp2
    go_loopw [17] (fun i wr => ∃ k : Nat, k ≤ xs.length ∧ i = .int .i64 k ∧ Below w.heap.size w wr ∧ ∀ j, j < k → xs[j]? = ys[j]?) (fun i _ => xs.length - (intOf i).toNat)
    case atStart => exact ⟨0, Nat.zero_le _, rfl, Below.refl _ _, fun j hj => absurd hj (by omega)⟩
    case round =>
      obtain ⟨k, hk, rfl, hB, hs⟩ := hrel
      have HS := Lib.hid hs
      clear hs
      have hz := hB.size
      by_cases hlt : k < xs.length
      · have hlt' : k < ys.length := by omega
        obtain ⟨x, hx⟩ : ∃ x, x = xs[k] := ⟨_, rfl⟩
        obtain ⟨y, hy⟩ : ∃ y, y = ys[k] := ⟨_, rfl⟩
        obtain ⟨ad, vs, hA, _, hV, hAg⟩ := (h.below hB (Nat.le_refl _)).at_ hlt
        obtain ⟨ad', us, hA', _, hV', hAg'⟩ := (h'.below hB (Nat.le_refl _)).at_ hlt'
        rw [← hx] at hV
        rw [← hy] at hV'
        have hgx := HG.out x (by rw [hx]; exact List.getElem_mem _)
        have hgy := HG'.out y (by rw [hy]; exact List.getElem_mem _)
        have HGX := Lib.hid hgx
        have HGY := Lib.hid hgy
        have HX := Lib.hid hx
        have HY := Lib.hid hy
        clear hx hy hgx hgy
        have HV := Lib.hid hV
        have HV' := Lib.hid hV'
        obtain ⟨Af, cf, rfl, hcf, hIf⟩ := hV
        obtain ⟨Af', cf', rfl, hcf', hIf'⟩ := hV'
        clear hIf hIf' hcf hcf'
        have c0 := hAg.zero
        have d0 := hAg'.zero
        have c1 := hAg.at_ 0 rfl
        have d1 := hAg'.at_ 0 rfl
        have c2 := hAg.at_ 1 rfl
        have d2 := hAg'.at_ 1 rfl
        have c3 := hAg.at_ 2 rfl
        have d3 := hAg'.at_ 2 rfl
        have c4 := hAg.at_ 3 rfl
        have d4 := hAg'.at_ 3 rfl
        have c5 := hAg.at_ 4 rfl
        have d5 := hAg'.at_ 4 rfl
        clear hAg hAg'
        subst hA hA'
        have d0 := Lib.cell?_alloc_some (.cells #[.int .u8 x.kind, .slice Af x.frm.length cf, .int .u64 x.rate, .int .i64 x.mul, .int .i64 x.div, .int .i64 x.lock] 49) d0
        have d1 := Lib.cell?_alloc_some (.cells #[.int .u8 x.kind, .slice Af x.frm.length cf, .int .u64 x.rate, .int .i64 x.mul, .int .i64 x.div, .int .i64 x.lock] 49) d1
        have d2 := Lib.cell?_alloc_some (.cells #[.int .u8 x.kind, .slice Af x.frm.length cf, .int .u64 x.rate, .int .i64 x.mul, .int .i64 x.div, .int .i64 x.lock] 49) d2
        have d3 := Lib.cell?_alloc_some (.cells #[.int .u8 x.kind, .slice Af x.frm.length cf, .int .u64 x.rate, .int .i64 x.mul, .int .i64 x.div, .int .i64 x.lock] 49) d3
        have d4 := Lib.cell?_alloc_some (.cells #[.int .u8 x.kind, .slice Af x.frm.length cf, .int .u64 x.rate, .int .i64 x.mul, .int .i64 x.div, .int .i64 x.lock] 49) d4
        have d5 := Lib.cell?_alloc_some (.cells #[.int .u8 x.kind, .slice Af x.frm.length cf, .int .u64 x.rate, .int .i64 x.mul, .int .i64 x.div, .int .i64 x.lock] 49) d5
        have HB2 := Lib.hid (((Below.refl wr.heap.size wr).alloc (Nat.le_refl _) (.cells #[.int .u8 x.kind, .slice Af x.frm.length cf, .int .u64 x.rate, .int .i64 x.mul, .int .i64 x.div, .int .i64 x.lock] 49)).alloc (by simp) (.cells #[.int .u8 y.kind, .slice Af' y.frm.length cf', .int .u64 y.rate, .int .i64 y.mul, .int .i64 y.div, .int .i64 y.lock] 49))
        have hcall := same_clk x y _ _ ((wr.alloc (.cells #[.int .u8 x.kind, .slice Af x.frm.length cf, .int .u64 x.rate, .int .i64 x.mul, .int .i64 x.div, .int .i64 x.lock] 49)).alloc (.cells #[.int .u8 y.kind, .slice Af' y.frm.length cf', .int .u64 y.rate, .int .i64 y.mul, .int .i64 y.div, .int .i64 y.lock] 49)) (Steady.more (V := ClkV) (Steady.below HV.out (HB2.out.mono hz) (Nat.le_refl _)) (by simp; omega)) (Steady.more (V := ClkV) (Steady.below HV'.out (HB2.out.mono hz) (Nat.le_refl _)) (by simp; omega)) HGX.out HGY.out
        by_cases he : x = y
        · have hq : eqP x y = true := eqP_iff.2 he
          rw [hq] at hcall
          have HE := Lib.hid he
          have HQ := Lib.hid hq
          clear he hq
          go_wp2_with (go_at_call 54; refine hcall.mono ?_; rintro e w2 ⟨rfl, hb2⟩)
          go_roundw
          case rel => exact ⟨k + 1, by omega, by go_num, hB.trans ((HB2.out.mono hz).trans (hb2.mono (by simp; omega))), fun j hj => by
            by_cases e : j = k
            · subst e; rw [List.getElem?_eq_getElem hlt, List.getElem?_eq_getElem hlt', ← HX.out, ← HY.out, HE.out]
            · exact HS.out j (by omega)⟩
          case measure => simp [intOf]; omega
        · have hq : eqP x y = false := eqP_no he
          have hm : eqP xs ys = false := eqP_no (by
            intro e
            apply he
            rw [HX.out, HY.out]
            simp [e])
          rw [hq] at hcall
          have HM := Lib.hid hm
          have HQ := Lib.hid hq
          clear hm he hq
          go_wp2_with (go_at_call 54; refine hcall.mono ?_; rintro e w2 ⟨rfl, hb2⟩)
          go_ret
          exact ⟨ret_bool HM.out.symm, hB.trans ((HB2.out.mono hz).trans (hb2.mono (by simp; omega)))⟩
      · have hm : eqP xs ys = true := by
          have e : xs = ys := List.ext_getElem? fun j => by
            by_cases hj : j < k
            · exact HS.out j hj
            · rw [List.getElem?_eq_none (by omega), List.getElem?_eq_none (by omega)]
          subst e; exact eqP_self _
        have HM := Lib.hid hm
        clear hm
        go_wp2
        go_ret
        exact ⟨ret_bool HM.out.symm, hB⟩
  · have hn : ((xs.length : Int) != (ys.length : Int)) = true := by simp; omega
    have HM := Lib.hid (eqP_len hne)
    clear hne
    go_enter Try.func53, Try.ntmps53
    go_wp2
    go_ret
    exact ⟨ret_bool HM.out.symm, Below.refl _ _⟩

set_option maxRecDepth 100000 in
set_option maxHeartbeats 4000000 in
theorem eqf_dev (A A' : Option Addr) (c c' : Nat) (xs ys : List Dev) (w : World) (hl : xs.length ≤ 1000000) (hl' : ys.length ≤ 1000000) (hg : ∀ x, x ∈ xs → x.regs.length ≤ 1000 ∧ x.needs.length ≤ 1000) (hg' : ∀ x, x ∈ ys → x.regs.length ≤ 1000 ∧ x.needs.length ≤ 1000) (h : StrsAt DevV 6 w w.heap.size A xs) (h' : StrsAt DevV 6 w w.heap.size A' ys) :
    Calls Try.prog 57 #[.slice A xs.length c, .slice A' ys.length c', .func (.func 58) #[] #[]] w (TellsB (eqP xs ys) w) := by
  have HG := Lib.hid hg
  have HG' := Lib.hid hg'
  clear hg hg'
  by_cases hne : xs.length = ys.length
  · have HL := Lib.hid hne
    have g1 : xs.length ≤ ys.length := by omega
    have g2 : ys.length ≤ xs.length := by omega
    have hn : ((xs.length : Int) != (ys.length : Int)) = false := by simp [hne]
    clear hne
    go_enter Try.func57, Try.ntmps57
    go_wp2
    go_loopw [17] (fun i wr => ∃ k : Nat, k ≤ xs.length ∧ i = .int .i64 k ∧ Below w.heap.size w wr ∧ ∀ j, j < k → xs[j]? = ys[j]?) (fun i _ => xs.length - (intOf i).toNat)
    case atStart => exact ⟨0, Nat.zero_le _, rfl, Below.refl _ _, fun j hj => absurd hj (by omega)⟩
    case round =>
      obtain ⟨k, hk, rfl, hB, hs⟩ := hrel
      have HS := Lib.hid hs
      clear hs
      have hz := hB.size
      by_cases hlt : k < xs.length
      · have hlt' : k < ys.length := by omega
        obtain ⟨x, hx⟩ : ∃ x, x = xs[k] := ⟨_, rfl⟩
        obtain ⟨y, hy⟩ : ∃ y, y = ys[k] := ⟨_, rfl⟩
        obtain ⟨ad, vs, hA, _, hV, hAg⟩ := (h.below hB (Nat.le_refl _)).at_ hlt
        obtain ⟨ad', us, hA', _, hV', hAg'⟩ := (h'.below hB (Nat.le_refl _)).at_ hlt'
        rw [← hx] at hV
        rw [← hy] at hV'
        have hgx := HG.out x (by rw [hx]; exact List.getElem_mem _)
        have hgy := HG'.out y (by rw [hy]; exact List.getElem_mem _)
        have HGX := Lib.hid hgx
        have HGY := Lib.hid hgy
        have HX := Lib.hid hx
        have HY := Lib.hid hy
        clear hx hy hgx hgy
        have HV := Lib.hid hV
        have HV' := Lib.hid hV'
        obtain ⟨Af, cf, Ag, cg, rfl, hcf, hcg, hIf, hIg⟩ := hV
        obtain ⟨Af', cf', Ag', cg', rfl, hcf', hcg', hIf', hIg'⟩ := hV'
        clear hIf hIg hIf' hIg' hcf hcg hcf' hcg'
        have c0 := hAg.zero
        have d0 := hAg'.zero
        have c1 := hAg.at_ 0 rfl
        have d1 := hAg'.at_ 0 rfl
        have c2 := hAg.at_ 1 rfl
        have d2 := hAg'.at_ 1 rfl
        have c3 := hAg.at_ 2 rfl
        have d3 := hAg'.at_ 2 rfl
        have c4 := hAg.at_ 3 rfl
        have d4 := hAg'.at_ 3 rfl
        have c5 := hAg.at_ 4 rfl
        have d5 := hAg'.at_ 4 rfl
        clear hAg hAg'
        subst hA hA'
        have d0 := Lib.cell?_alloc_some (.cells #[.int .i64 x.clock, .int .i64 x.domain, .int .i64 x.rst, .int .u32 x.clamp, .slice Af x.regs.length cf, .slice Ag x.needs.length cg] 44) d0
        have d1 := Lib.cell?_alloc_some (.cells #[.int .i64 x.clock, .int .i64 x.domain, .int .i64 x.rst, .int .u32 x.clamp, .slice Af x.regs.length cf, .slice Ag x.needs.length cg] 44) d1
        have d2 := Lib.cell?_alloc_some (.cells #[.int .i64 x.clock, .int .i64 x.domain, .int .i64 x.rst, .int .u32 x.clamp, .slice Af x.regs.length cf, .slice Ag x.needs.length cg] 44) d2
        have d3 := Lib.cell?_alloc_some (.cells #[.int .i64 x.clock, .int .i64 x.domain, .int .i64 x.rst, .int .u32 x.clamp, .slice Af x.regs.length cf, .slice Ag x.needs.length cg] 44) d3
        have d4 := Lib.cell?_alloc_some (.cells #[.int .i64 x.clock, .int .i64 x.domain, .int .i64 x.rst, .int .u32 x.clamp, .slice Af x.regs.length cf, .slice Ag x.needs.length cg] 44) d4
        have d5 := Lib.cell?_alloc_some (.cells #[.int .i64 x.clock, .int .i64 x.domain, .int .i64 x.rst, .int .u32 x.clamp, .slice Af x.regs.length cf, .slice Ag x.needs.length cg] 44) d5
        have HB2 := Lib.hid (((Below.refl wr.heap.size wr).alloc (Nat.le_refl _) (.cells #[.int .i64 x.clock, .int .i64 x.domain, .int .i64 x.rst, .int .u32 x.clamp, .slice Af x.regs.length cf, .slice Ag x.needs.length cg] 44)).alloc (by simp) (.cells #[.int .i64 y.clock, .int .i64 y.domain, .int .i64 y.rst, .int .u32 y.clamp, .slice Af' y.regs.length cf', .slice Ag' y.needs.length cg'] 44))
        have hcall := same_dev x y _ _ ((wr.alloc (.cells #[.int .i64 x.clock, .int .i64 x.domain, .int .i64 x.rst, .int .u32 x.clamp, .slice Af x.regs.length cf, .slice Ag x.needs.length cg] 44)).alloc (.cells #[.int .i64 y.clock, .int .i64 y.domain, .int .i64 y.rst, .int .u32 y.clamp, .slice Af' y.regs.length cf', .slice Ag' y.needs.length cg'] 44)) (Steady.more (V := DevV) (Steady.below HV.out (HB2.out.mono hz) (Nat.le_refl _)) (by simp; omega)) (Steady.more (V := DevV) (Steady.below HV'.out (HB2.out.mono hz) (Nat.le_refl _)) (by simp; omega)) HGX.out.1 HGY.out.1 HGX.out.2 HGY.out.2
        by_cases he : x = y
        · have hq : eqP x y = true := eqP_iff.2 he
          rw [hq] at hcall
          have HE := Lib.hid he
          have HQ := Lib.hid hq
          clear he hq
          go_wp2_with (go_at_call 58; refine hcall.mono ?_; rintro e w2 ⟨rfl, hb2⟩)
          go_roundw
          case rel => exact ⟨k + 1, by omega, by go_num, hB.trans ((HB2.out.mono hz).trans (hb2.mono (by simp; omega))), fun j hj => by
            by_cases e : j = k
            · subst e; rw [List.getElem?_eq_getElem hlt, List.getElem?_eq_getElem hlt', ← HX.out, ← HY.out, HE.out]
            · exact HS.out j (by omega)⟩
          case measure => simp [intOf]; omega
        · have hq : eqP x y = false := eqP_no he
          have hm : eqP xs ys = false := eqP_no (by
            intro e
            apply he
            rw [HX.out, HY.out]
            simp [e])
          rw [hq] at hcall
          have HM := Lib.hid hm
          have HQ := Lib.hid hq
          clear hm he hq
          go_wp2_with (go_at_call 58; refine hcall.mono ?_; rintro e w2 ⟨rfl, hb2⟩)
          go_ret
          exact ⟨ret_bool HM.out.symm, hB.trans ((HB2.out.mono hz).trans (hb2.mono (by simp; omega)))⟩
      · have hm : eqP xs ys = true := by
          have e : xs = ys := List.ext_getElem? fun j => by
            by_cases hj : j < k
            · exact HS.out j hj
            · rw [List.getElem?_eq_none (by omega), List.getElem?_eq_none (by omega)]
          subst e; exact eqP_self _
        have HM := Lib.hid hm
        clear hm
        go_wp2
        go_ret
        exact ⟨ret_bool HM.out.symm, hB⟩
  · have hn : ((xs.length : Int) != (ys.length : Int)) = true := by simp; omega
    have HM := Lib.hid (eqP_len hne)
    clear hne
    go_enter Try.func57, Try.ntmps57
    go_wp2
    go_ret
    exact ⟨ret_bool HM.out.symm, Below.refl _ _⟩

set_option maxRecDepth 100000 in
set_option maxHeartbeats 4000000 in
theorem chip_same (s t : Chip) (vs us : List Value) (w : World) (hok : ChipOk s) (hok' : ChipOk t) (h : ChipV w w.heap.size s vs) (h' : ChipV w w.heap.size t us) :
    Calls Try.prog 21 #[.agg vs.toArray, .agg us.toArray] w (TellsB (eqP s t) w) := by
  obtain ⟨clks, doms, rsts, devs⟩ := s
  obtain ⟨clks', doms', rsts', devs'⟩ := t
  obtain ⟨A1, c1, A2, c2, A3, c3, A4, c4, rfl, l1, l2, l3, l4, h1, h2, h3, h4⟩ := h
  obtain ⟨A1', c1', A2', c2', A3', c3', A4', c4', rfl, l1', l2', l3', l4', h1', h2', h3', h4'⟩ := h'
  simp only at h1 h2 h3 h4 h1' h2' h3' h4'
  have n1 : clks.length ≤ 1000 := hok.n1
  have n2 : doms.length ≤ 1000 := hok.n2
  have n3 : rsts.length ≤ 1000 := hok.n3
  have n4 : devs.length ≤ 1000 := hok.n4
  have n1' : clks'.length ≤ 1000 := hok'.n1
  have n2' : doms'.length ≤ 1000 := hok'.n2
  have n3' : rsts'.length ≤ 1000 := hok'.n3
  have n4' : devs'.length ≤ 1000 := hok'.n4
  have G1 : Hid (∀ x, x ∈ clks → x.frm.length ≤ 1000) := Lib.hid fun x hx => (hok.clks x hx).1
  have G1' : Hid (∀ x, x ∈ clks' → x.frm.length ≤ 1000) := Lib.hid fun x hx => (hok'.clks x hx).1
  have G4 : Hid (∀ x, x ∈ devs → x.regs.length ≤ 1000 ∧ x.needs.length ≤ 1000) := Lib.hid fun x hx => ⟨(hok.devs x hx).1, (hok.devs x hx).2.1⟩
  have G4' : Hid (∀ x, x ∈ devs' → x.regs.length ≤ 1000 ∧ x.needs.length ≤ 1000) := Lib.hid fun x hx => ⟨(hok'.devs x hx).1, (hok'.devs x hx).2.1⟩
  dsimp only
  have H1 := Lib.hid h1
  have H2 := Lib.hid h2
  have H3 := Lib.hid h3
  have H4 := Lib.hid h4
  have H1' := Lib.hid h1'
  have H2' := Lib.hid h2'
  have H3' := Lib.hid h3'
  have H4' := Lib.hid h4'
  clear h1 h2 h3 h4 h1' h2' h3' h4' l1 l2 l3 l4 l1' l2' l3' l4' hok hok'
  have HB := Lib.hid (((Below.refl w.heap.size w).alloc (Nat.le_refl _) (.cells #[.slice A1 clks.length c1, .slice A2 doms.length c2, .slice A3 rsts.length c3, .slice A4 devs.length c4] 27)).alloc (by simp) (.cells #[.slice A1' clks'.length c1', .slice A2' doms'.length c2', .slice A3' rsts'.length c3', .slice A4' devs'.length c4'] 27))
  have c1call := eqf_clk A1 A1' c1 c1' clks clks' ((w.alloc (.cells #[.slice A1 clks.length c1, .slice A2 doms.length c2, .slice A3 rsts.length c3, .slice A4 devs.length c4] 27)).alloc (.cells #[.slice A1' clks'.length c1', .slice A2' doms'.length c2', .slice A3' rsts'.length c3', .slice A4' devs'.length c4'] 27)) (by omega) (by omega) G1.out G1'.out ((H1.out.below HB.out (Nat.le_refl _)).more HB.out.size) ((H1'.out.below HB.out (Nat.le_refl _)).more HB.out.size)
  have C1 := Lib.hid c1call
  clear c1call
  by_cases h0 : clks = clks'
  · subst h0
    have q0 := eqP_self clks
    by_cases h1 : doms = doms'
    · subst h1
      have q1 := eqP_self doms
      by_cases h2 : rsts = rsts'
      · subst h2
        have q2 := eqP_self rsts
        by_cases h3 : devs = devs'
        · subst h3
          have q3 := eqP_self devs
          have HM := Lib.hid (eqP_self (⟨clks, doms, rsts, devs⟩ : Chip))
          go_enter Try.func21, Try.ntmps21
          go_wp2_with fail
          refine C1.out.mono ?_
          rintro e w1 ⟨rfl, hb1⟩
          have hB1 := HB.out.trans (hb1.mono (by simp only [World.size_alloc]; omega))
          obtain ⟨hc1, hf1⟩ := bcell hb1
          have HB1 := Lib.hid hB1
          clear hB1
          go_wp2_with fail
          refine (eq_dom A2 A2' c2 c2' _ _ w.heap.size _ (by omega) (by omega) (H2.out.below HB1.out (Nat.le_refl _)) (H2'.out.below HB1.out (Nat.le_refl _))).mono ?_
          rintro e w2 ⟨rfl, m2, rfl⟩
          go_wp2_with fail
          refine (eq_rst A3 A3' c3 c3' _ _ w.heap.size _ (by omega) (by omega) (H3.out.below (below_drewN HB1.out _) (Nat.le_refl _)) (H3'.out.below (below_drewN HB1.out _) (Nat.le_refl _))).mono ?_
          rintro e w3 ⟨rfl, m3, rfl⟩
          have hB3 := below_drewN HB1.out (m2 + m3)
          have HB3 := Lib.hid hB3
          clear hB3
          go_wp2_with fail
          refine (eqf_dev A4 A4' c4 c4' _ _ _ (by omega) (by omega) G4.out G4'.out ((H4.out.below HB3.out (Nat.le_refl _)).more HB3.out.size) ((H4'.out.below HB3.out (Nat.le_refl _)).more HB3.out.size)).mono ?_
          rintro e w4 ⟨rfl, hb4⟩
          go_wp2
          go_ret
          exact ⟨ret_bool HM.out.symm, HB3.out.trans (hb4.mono HB3.out.size)⟩
        · have q3 := eqP_no h3
          have HM := Lib.hid (eqP_no (x := (⟨clks, doms, rsts, devs⟩ : Chip)) (y := (⟨clks, doms, rsts, devs'⟩ : Chip)) (fun e => h3 (by injection e)))
          clear h3
          go_enter Try.func21, Try.ntmps21
          go_wp2_with fail
          refine C1.out.mono ?_
          rintro e w1 ⟨rfl, hb1⟩
          have hB1 := HB.out.trans (hb1.mono (by simp only [World.size_alloc]; omega))
          obtain ⟨hc1, hf1⟩ := bcell hb1
          have HB1 := Lib.hid hB1
          clear hB1
          go_wp2_with fail
          refine (eq_dom A2 A2' c2 c2' _ _ w.heap.size _ (by omega) (by omega) (H2.out.below HB1.out (Nat.le_refl _)) (H2'.out.below HB1.out (Nat.le_refl _))).mono ?_
          rintro e w2 ⟨rfl, m2, rfl⟩
          go_wp2_with fail
          refine (eq_rst A3 A3' c3 c3' _ _ w.heap.size _ (by omega) (by omega) (H3.out.below (below_drewN HB1.out _) (Nat.le_refl _)) (H3'.out.below (below_drewN HB1.out _) (Nat.le_refl _))).mono ?_
          rintro e w3 ⟨rfl, m3, rfl⟩
          have hB3 := below_drewN HB1.out (m2 + m3)
          have HB3 := Lib.hid hB3
          clear hB3
          go_wp2_with fail
          refine (eqf_dev A4 A4' c4 c4' _ _ _ (by omega) (by omega) G4.out G4'.out ((H4.out.below HB3.out (Nat.le_refl _)).more HB3.out.size) ((H4'.out.below HB3.out (Nat.le_refl _)).more HB3.out.size)).mono ?_
          rintro e w4 ⟨rfl, hb4⟩
          go_wp2
          go_ret
          exact ⟨ret_bool HM.out.symm, HB3.out.trans (hb4.mono HB3.out.size)⟩
      · have q2 := eqP_no h2
        have HM := Lib.hid (eqP_no (x := (⟨clks, doms, rsts, devs⟩ : Chip)) (y := (⟨clks, doms, rsts', devs'⟩ : Chip)) (fun e => h2 (by injection e)))
        clear h2
        go_enter Try.func21, Try.ntmps21
        go_wp2_with fail
        refine C1.out.mono ?_
        rintro e w1 ⟨rfl, hb1⟩
        have hB1 := HB.out.trans (hb1.mono (by simp only [World.size_alloc]; omega))
        obtain ⟨hc1, hf1⟩ := bcell hb1
        have HB1 := Lib.hid hB1
        clear hB1
        go_wp2_with fail
        refine (eq_dom A2 A2' c2 c2' _ _ w.heap.size _ (by omega) (by omega) (H2.out.below HB1.out (Nat.le_refl _)) (H2'.out.below HB1.out (Nat.le_refl _))).mono ?_
        rintro e w2 ⟨rfl, m2, rfl⟩
        go_wp2_with fail
        refine (eq_rst A3 A3' c3 c3' _ _ w.heap.size _ (by omega) (by omega) (H3.out.below (below_drewN HB1.out _) (Nat.le_refl _)) (H3'.out.below (below_drewN HB1.out _) (Nat.le_refl _))).mono ?_
        rintro e w3 ⟨rfl, m3, rfl⟩
        go_wp2
        go_ret
        exact ⟨ret_bool HM.out.symm, below_drewN HB1.out _⟩
    · have q1 := eqP_no h1
      have HM := Lib.hid (eqP_no (x := (⟨clks, doms, rsts, devs⟩ : Chip)) (y := (⟨clks, doms', rsts', devs'⟩ : Chip)) (fun e => h1 (by injection e)))
      clear h1
      go_enter Try.func21, Try.ntmps21
      go_wp2_with fail
      refine C1.out.mono ?_
      rintro e w1 ⟨rfl, hb1⟩
      have hB1 := HB.out.trans (hb1.mono (by simp only [World.size_alloc]; omega))
      obtain ⟨hc1, hf1⟩ := bcell hb1
      have HB1 := Lib.hid hB1
      clear hB1
      go_wp2_with fail
      refine (eq_dom A2 A2' c2 c2' _ _ w.heap.size _ (by omega) (by omega) (H2.out.below HB1.out (Nat.le_refl _)) (H2'.out.below HB1.out (Nat.le_refl _))).mono ?_
      rintro e w2 ⟨rfl, m2, rfl⟩
      go_wp2
      go_ret
      exact ⟨ret_bool HM.out.symm, below_drewN HB1.out _⟩
  · have q0 := eqP_no h0
    have HM := Lib.hid (eqP_no (x := (⟨clks, doms, rsts, devs⟩ : Chip)) (y := (⟨clks', doms', rsts', devs'⟩ : Chip)) (fun e => h0 (by injection e)))
    clear h0
    go_enter Try.func21, Try.ntmps21
    go_wp2_with fail
    refine C1.out.mono ?_
    rintro e w1 ⟨rfl, hb1⟩
    have hB1 := HB.out.trans (hb1.mono (by simp only [World.size_alloc]; omega))
    obtain ⟨hc1, hf1⟩ := bcell hb1
    have HB1 := Lib.hid hB1
    clear hB1
    go_wp2
    go_ret
    exact ⟨ret_bool HM.out.symm, HB1.out⟩


end Go.Proofs.Ytkhfcbcanbplgaa
