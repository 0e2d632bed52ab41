/- The contract of conf.Check. (Written by wip/tools/w13.py.) -/
import Derived.Test.YtnfbhhgdibkbdaaW11
import Derived.Test.YtnfbhhgdibkbdaaW12
namespace Go.Proofs.Ytnfbhhgdibkbdaa
set_option linter.unusedSimpArgs false
set_option linter.unusedVariables false
open Go.RowKit Go.Maps

set_option maxHeartbeats 1000000 in
theorem askClk_any (s : Chip) (vs : List Value) (q : Nat) (x : Clk) (us : List Value) (w : World) (hok : ChipOk s) (h : ChipV w w.heap.size s vs) (hq : AggAt w ⟨q, 0, none⟩ vs) (hql : q < w.heap.size) (hx : ClkV w w.heap.size x us) (hl : x.frm.length ≤ 1000) :
    Calls Try.prog 31 #[.agg us.toArray, .pointer (some ⟨q, 0, none⟩)] w (ErrIs (clkE s.clks.length x) w) := by
  have HX := Lib.hid hx
  have HS := Lib.hid h
  have HOK := Lib.hid hok
  obtain ⟨A1, c1, A2, c2, A3, c3, A4, c4, rfl, l1, l2, l3, l4, h1, h2, h3, h4⟩ := h
  obtain ⟨Af, cf, rfl, hcf, hIf⟩ := hx
  have hb := (Below.refl _ w).alloc (Nat.le_refl _) (.cells #[.int .u8 x.kind, .slice Af x.frm.length cf, .int .u64 x.rate, .int .i64 x.mul, .int .i64 x.div, .int .i64 x.lock] 46)
  have q0 := hq.zero
  have q1 := hq.at_ 0 rfl
  have q2 := hq.at_ 1 rfl
  have q3 := hq.at_ 2 rfl
  have HB := Lib.hid hb
  clear hq h1 h2 h3 h4 hok hb hIf
  go_enter Try.func31, Try.ntmps31
  go_wp2_with fail
  refine (checkClk_any s _ x _ _ HOK.out (Steady.later HS.out HB.out) (Steady.later HX.out HB.out) hl).mono ?_
  rintro e w2 ⟨rfl, hb2⟩
  go_wp2
  go_ret
  exact ⟨rfl, HB.out.trans (hb2.mono HB.out.size)⟩
theorem enters31 (args : Array Value) (w : World) : (callFunc 31 args).run Try.prog w = .ok (.enter 31 args) w := enters_of Try.func31 (by kernel_rfl) rfl args w

set_option maxHeartbeats 1000000 in
theorem askDom_any (s : Chip) (vs : List Value) (q : Nat) (x : Dom) (us : List Value) (w : World) (hok : ChipOk s) (h : ChipV w w.heap.size s vs) (hq : AggAt w ⟨q, 0, none⟩ vs) (hql : q < w.heap.size) (hx : DomV w w.heap.size x us) :
    Calls Try.prog 36 #[.agg us.toArray, .pointer (some ⟨q, 0, none⟩)] w (ErrIs (domE s.doms.length x) w) := by
  have HX := Lib.hid hx
  have HS := Lib.hid h
  have HOK := Lib.hid hok
  obtain ⟨A1, c1, A2, c2, A3, c3, A4, c4, rfl, l1, l2, l3, l4, h1, h2, h3, h4⟩ := h
  cases hx
  have hb := (Below.refl _ w).alloc (Nat.le_refl _) (.cells #[.int .i64 x.above, .int .i64 x.delay, .bool x.ret] 75)
  have q0 := hq.zero
  have q1 := hq.at_ 0 rfl
  have q2 := hq.at_ 1 rfl
  have q3 := hq.at_ 2 rfl
  have HB := Lib.hid hb
  clear hq h1 h2 h3 h4 hok hb 
  go_enter Try.func36, Try.ntmps36
  go_wp2_with fail
  refine (checkDom_any s _ x _ _ HOK.out (Steady.later HS.out HB.out) (Steady.later HX.out HB.out)).mono ?_
  rintro e w2 ⟨rfl, hb2⟩
  go_wp2
  go_ret
  exact ⟨rfl, HB.out.trans (hb2.mono HB.out.size)⟩
theorem enters35 (args : Array Value) (w : World) : (callFunc 36 args).run Try.prog w = .ok (.enter 36 args) w := enters_of Try.func36 (by kernel_rfl) rfl args w

set_option maxHeartbeats 1000000 in
theorem askDev_any (s : Chip) (vs : List Value) (q : Nat) (x : Dev) (us : List Value) (w : World) (hok : ChipOk s) (h : ChipV w w.heap.size s vs) (hq : AggAt w ⟨q, 0, none⟩ vs) (hql : q < w.heap.size) (hx : DevV w w.heap.size x us) (hl : x.needs.length ≤ 1000) :
    Calls Try.prog 42 #[.agg us.toArray, .pointer (some ⟨q, 0, none⟩)] w (ErrIs (devE s x) w) := by
  have HX := Lib.hid hx
  have HS := Lib.hid h
  have HOK := Lib.hid hok
  obtain ⟨A1, c1, A2, c2, A3, c3, A4, c4, rfl, l1, l2, l3, l4, h1, h2, h3, h4⟩ := h
  obtain ⟨Af, cf, Ag, cg, rfl, hcf, hcg, hIf, hIg⟩ := hx
  have hb := (Below.refl _ w).alloc (Nat.le_refl _) (.cells #[.int .i64 x.clock, .int .i64 x.domain, .int .i64 x.rst, .int .u32 x.clamp, .slice Af x.regs.length cf, .slice Ag x.needs.length cg] 86)
  have q0 := hq.zero
  have q1 := hq.at_ 0 rfl
  have q2 := hq.at_ 1 rfl
  have q3 := hq.at_ 2 rfl
  have HB := Lib.hid hb
  clear hq h1 h2 h3 h4 hok hb hIf hIg
  go_enter Try.func42, Try.ntmps42
  go_wp2_with fail
  refine (checkDev_any s _ x _ _ HOK.out (Steady.later HS.out HB.out) (Steady.later HX.out HB.out) hl).mono ?_
  rintro e w2 ⟨rfl, hb2⟩
  go_wp2
  go_ret
  exact ⟨rfl, HB.out.trans (hb2.mono HB.out.size)⟩
theorem enters40 (args : Array Value) (w : World) : (callFunc 42 args).run Try.prog w = .ok (.enter 42 args) w := enters_of Try.func42 (by kernel_rfl) rfl args w

theorem enters15 (args : Array Value) (w : World) : (callFunc 34 args).run Try.prog w = .ok (.enter 34 args) w := enters_of Try.func34 (by kernel_rfl) rfl args w
theorem enters17 (args : Array Value) (w : World) : (callFunc 38 args).run Try.prog w = .ok (.enter 38 args) w := enters_of Try.func38 (by kernel_rfl) rfl args w
theorem enters19 (args : Array Value) (w : World) : (callFunc 44 args).run Try.prog w = .ok (.enter 44 args) w := enters_of Try.func44 (by kernel_rfl) rfl args w
theorem enters38 (args : Array Value) (w : World) : (callFunc 40 args).run Try.prog w = .ok (.enter 40 args) w := enters_of Try.func40 (by kernel_rfl) rfl args w
theorem enters77 (args : Array Value) (w : World) : (callFunc 72 args).run Try.prog w = .ok (.enter 72 args) w := enters_of Try.func72 (by kernel_rfl) rfl args w

/-- rows that graph.Check can be asked -/
structure RowsOk (rows : List (List Int)) : Prop where
  n : rows.length ≤ 1000
  len : ∀ i, i < rows.length → (gOf rows i).length ≤ 1000000
  wf : ∀ i, i < rows.length → ∀ x, x ∈ gOf rows i → wfI x
theorem RowsOk.of {rows : List (List Int)} (hn : rows.length ≤ 1000) (h : ∀ l, l ∈ rows → l.length ≤ 1000 ∧ ∀ x, x ∈ l → wfI x) : RowsOk rows := by
  refine ⟨hn, fun i hi => ?_, fun i hi => ?_⟩ <;>
  · have e : gOf rows i = rows[i] := gOf_at (List.getElem?_eq_getElem hi)
    rw [e]
    have := h _ (List.getElem_mem hi)
    first | exact Nat.le_trans this.1 (by decide) | exact this.2
theorem clks_rows {s : Chip} (h : ChipOk s) : RowsOk (clksG s) := RowsOk.of (by unfold clksG; rw [List.length_map]; exact h.n1) fun l hl => by
  obtain ⟨c, hc, rfl⟩ := List.mem_map.1 hl
  exact h.clks c hc
theorem doms_rows {s : Chip} (h : ChipOk s) : RowsOk (domsG s) := RowsOk.of (by unfold domsG; rw [List.length_map]; exact h.n2) fun l hl => by
  obtain ⟨d, hd, rfl⟩ := List.mem_map.1 hl
  split
  · exact ⟨by simp, fun x hx => by simp at hx⟩
  · exact ⟨by simp, fun x hx => by rw [List.mem_singleton.1 hx]; exact h.doms d hd⟩
theorem devs_rows {s : Chip} (h : ChipOk s) : RowsOk (devsG s) := RowsOk.of (by unfold devsG; rw [List.length_map]; exact h.n4) fun l hl => by
  obtain ⟨d, hd, rfl⟩ := List.mem_map.1 hl
  exact (h.devs d hd).2

set_option maxHeartbeats 1000000 in
theorem circle1_any (g : Nat) (eg : ∀ args w, (callFunc g args).run Try.prog w = .ok (.enter g args) w) (s : Chip) (vs : List Value) (rows : List (List Int)) (p q : Nat) (w : World) (hr : RowsOk rows)
    (hg : ∀ W, ChipV W W.heap.size s vs → Calls Try.prog g #[.agg vs.toArray] W (RowsNew rows W)) (h : ChipV w w.heap.size s vs) (hp : w.cell? ⟨p, 0, none⟩ = some (.func (.func g) #[] #[])) (hq : AggAt w ⟨q, 0, none⟩ vs) :
    Calls Try.prog 72 #[.pointer (some ⟨p, 0, none⟩), .pointer (some ⟨q, 0, none⟩)] w (ErrIs (graphE rows) w) := by
  have hcall := hg w h
  have HR := Lib.hid hr
  obtain ⟨A1, c1, A2, c2, A3, c3, A4, c4, rfl, l1, l2, l3, l4, h1, h2, h3, h4⟩ := h
  have q0 := hq.zero
  have q1 := hq.at_ 0 rfl
  have q2 := hq.at_ 1 rfl
  have q3 := hq.at_ 2 rfl
  clear hq h1 h2 h3 h4 hr hg
  go_enter Try.func72, Try.ntmps72
  go_wp2_with (go_at_fn g; refine hcall.mono ?_; rintro e w1 ⟨A, c, rfl, hR, hb⟩)
  refine (check_any A rows.length c (gOf rows) w1 HR.out.n HR.out.len HR.out.wf hR).mono ?_
  rintro e w2 ⟨E, ⟨ord, hE⟩, rfl, hb2⟩
  have hE' := graphE_eq hE
  have HE := Lib.hid hE'
  clear hE hE' hcall
  go_wp2
  go_ret
  exact ⟨by rw [HE.out]; rfl, hb.trans (hb2.mono hb.size)⟩

theorem circle_any (g : Nat) (eg : ∀ args w, (callFunc g args).run Try.prog w = .ok (.enter g args) w) (s : Chip) (vs : List Value) (rows : List (List Int)) (w : World) (hr : RowsOk rows)
    (hg : ∀ W, ChipV W W.heap.size s vs → Calls Try.prog g #[.agg vs.toArray] W (RowsNew rows W)) (h : ChipV w w.heap.size s vs) :
    Calls Try.prog 33 #[.agg vs.toArray, .func (.func g) #[] #[]] w (LookOut (graphE rows) w) := by
  have HS := Lib.hid h
  have HG := Lib.hid hg
  have HR := Lib.hid hr
  obtain ⟨A1, c1, A2, c2, A3, c3, A4, c4, rfl, l1, l2, l3, l4, h1, h2, h3, h4⟩ := h
  clear h1 h2 h3 h4 hg hr
  go_enter Try.func33, Try.ntmps33
  go_wp2
  go_ret
  refine ⟨_, rfl, ⟨72, _, rfl, enters77, fun W hW => ?_⟩, ((Below.refl _ _).alloc (Nat.le_refl _) _).alloc (by simp) _⟩
  have hB : Below w.heap.size w W := (((Below.refl _ _).alloc (Nat.le_refl _) _).alloc (by simp) _).trans (hW.mono (by simp; omega))
  refine circle1_any g eg s _ rows _ _ W HR.out HG.out (Steady.later HS.out hB) ?_ ((agg_new w [.slice A1 s.clks.length c1, .slice A2 s.doms.length c2, .slice A3 s.rsts.length c3, .slice A4 s.devs.length c4] 27).keep (B := w.heap.size + 1) (by simp) fun p hp => (hW.cell (by simp; omega)).trans (((Below.refl (w.heap.size + 1) _).alloc (by simp) _).cell hp))
  rw [hW.cell (p := ⟨w.heap.size + 1, 0, none⟩) (by simp)]
  simp [go_sem]

set_option maxRecDepth 100000 in
set_option maxHeartbeats 8000000 in
theorem chip_check (s : Chip) (vs : List Value) (w : World) (hok : ChipOk s) (h : ChipV w w.heap.size s vs) :
    Calls Try.prog 13 #[.agg vs.toArray] w (ErrIs (chipE s) w) := by
  have HS := Lib.hid h
  have HOK := Lib.hid hok
  obtain ⟨A1, c1, A2, c2, A3, c3, A4, c4, rfl, l1, l2, l3, l4, h1, h2, h3, h4⟩ := h
  have n1 := hok.n1
  have n2 := hok.n2
  have n3 := hok.n3
  have n4 := hok.n4
  have H1 := Lib.hid h1
  have H2 := Lib.hid h2
  have H3 := Lib.hid h3
  have H4 := Lib.hid h4
  have hB := (Below.refl w.heap.size w).alloc (Nat.le_refl _) (.cells #[.slice A1 s.clks.length c1, .slice A2 s.doms.length c2, .slice A3 s.rsts.length c3, .slice A4 s.devs.length c4] 27)
  have HB := Lib.hid hB
  have hC : ∀ W, Below (w.heap.size + 1) (w.alloc (.cells #[.slice A1 s.clks.length c1, .slice A2 s.doms.length c2, .slice A3 s.rsts.length c3, .slice A4 s.devs.length c4] 27)) W → AggAt W ⟨w.heap.size, 0, none⟩ [.slice A1 s.clks.length c1, .slice A2 s.doms.length c2, .slice A3 s.rsts.length c3, .slice A4 s.devs.length c4] := fun W hW =>
    (agg_new w [.slice A1 s.clks.length c1, .slice A2 s.doms.length c2, .slice A3 s.rsts.length c3, .slice A4 s.devs.length c4] 27).keep (B := w.heap.size + 1) (by simp) fun p hp => hW.cell hp
  have HC := Lib.hid hC
  clear hok h1 h2 h3 h4 hB hC
  go_enter Try.func13, Try.ntmps13
  go_wp2
  refine region_good (GL [IsV (.agg #[.slice A1 s.clks.length c1, .slice A2 s.doms.length c2, .slice A3 s.rsts.length c3, .slice A4 s.devs.length c4]),
    IsV (.bool (fitsB s)),
    IsLook (orE (fitsB s) 8),
    IsV (.pointer (some ⟨w.heap.size, 0, none⟩)),
    IsV (.slice A1 s.clks.length c1),
    fun v w => Asks ClkV (fun x => x.frm.length ≤ 1000) v (clkE s.clks.length) w,
    IsLook (firstE (s.clks.map (clkE s.clks.length))),
    IsV (.agg #[.slice A1 s.clks.length c1, .slice A2 s.doms.length c2, .slice A3 s.rsts.length c3, .slice A4 s.devs.length c4]),
    IsLook (graphE (clksG s)),
    IsV (.pointer (some ⟨w.heap.size, 1, none⟩)),
    IsV (.slice A2 s.doms.length c2),
    fun v w => Asks DomV (fun _ => True) v (domE s.doms.length) w,
    IsLook (firstE (s.doms.map (domE s.doms.length))),
    IsV (.agg #[.slice A1 s.clks.length c1, .slice A2 s.doms.length c2, .slice A3 s.rsts.length c3, .slice A4 s.devs.length c4]),
    IsLook (graphE (domsG s)),
    IsV (.pointer (some ⟨w.heap.size, 2, none⟩)),
    IsV (.slice A3 s.rsts.length c3),
    IsLook (firstE (s.rsts.map (rstE))),
    IsV (.pointer (some ⟨w.heap.size, 3, none⟩)),
    IsV (.slice A4 s.devs.length c4),
    fun v w => Asks DevV (fun x => x.needs.length ≤ 1000) v (devE s) w,
    IsLook (firstE (s.devs.map (devE s))),
    IsV (.agg #[.slice A1 s.clks.length c1, .slice A2 s.doms.length c2, .slice A3 s.rsts.length c3, .slice A4 s.devs.length c4]),
    IsLook (graphE (devsG s)),
    IsLooks [orE (fitsB s) 8, firstE (s.clks.map (clkE s.clks.length)), graphE (clksG s), firstE (s.doms.map (domE s.doms.length)), graphE (domsG s), firstE (s.rsts.map (rstE)), firstE (s.devs.map (devE s)), graphE (devsG s)],
    IsV (.int .i64 (chipE s)),
    IsV (.int .i64 (chipE s))]) 29 (by kernel_rfl) rfl (by kernel_rfl) (GL.stb ⟨IsV.stb _, IsV.stb _, IsLook.stb _, IsV.stb _, IsV.stb _, (fun _ _ _ h hb => h.later hb), IsLook.stb _, IsV.stb _, IsLook.stb _, IsV.stb _, IsV.stb _, (fun _ _ _ h hb => h.later hb), IsLook.stb _, IsV.stb _, IsLook.stb _, IsV.stb _, IsV.stb _, IsLook.stb _, IsV.stb _, IsV.stb _, (fun _ _ _ h hb => h.later hb), IsLook.stb _, IsV.stb _, IsLook.stb _, IsLooks.stb _, IsV.stb _, IsV.stb _, trivial⟩) ⟨?s0, ?s1, ?s2, ?s3, ?s4, ?s5, ?s6, ?s7, ?s8, ?s9, ?s10, ?s11, ?s12, ?s13, ?s14, ?s15, ?s16, ?s17, ?s18, ?s19, ?s20, ?s21, ?s22, ?s23, ?s24, ?s25, ?s26, trivial⟩ ?fin
  case s0 =>
    refine step_plain rfl fun T w1 hT hb hd => ?_
    have ec := evT_const T
    have ef := evT_func T
    have d1 : evT T (.tmp 1) = .pointer (some ⟨w.heap.size, 0, none⟩) := hT 1 (by kernel_rfl)
    obtain ha0 := HC.out w1 (hb.mono (by simp only [World.size_alloc]; omega))
    have f0 := ha0.zero
    have f1 := ha0.at_ 0 rfl
    have f2 := ha0.at_ 1 rfl
    have f3 := ha0.at_ 2 rfl
    clear hT hd hb ha0
    refine gives_value (v := .agg #[.slice A1 s.clks.length c1, .slice A2 s.doms.length c2, .slice A3 s.rsts.length c3, .slice A4 s.devs.length c4]) ?_ rfl
    simp only [execOp]
    go_simp
  case s1 =>
    refine step_plain rfl fun T w1 hT hb hd => ?_
    have ec := evT_const T
    have ef := evT_func T
    have d3 : evT T (.tmp 3) = .agg #[.slice A1 s.clks.length c1, .slice A2 s.doms.length c2, .slice A3 s.rsts.length c3, .slice A4 s.devs.length c4] := (by first | exact hd.1 | exact hd.2.1 | exact hd.2.2.1 | exact hd.2.2.2.1 | exact hd.2.2.2.2.1 | exact hd.2.2.2.2.2.1 | exact hd.2.2.2.2.2.2.1 | exact hd.2.2.2.2.2.2.2.1)
    refine gives_call (f := 29) (args := #[.agg #[.slice A1 s.clks.length c1, .slice A2 s.doms.length c2, .slice A3 s.rsts.length c3, .slice A4 s.devs.length c4]]) ?_ ?_
    · clear hT hb hd
      simp only [execOp, resolve]
      go_simp
    · clear hT
      refine (fits_any s _ w1 HOK.out (Steady.later HS.out (HB.out.trans (hb.mono (by simp only [World.size_alloc]; omega))))).mono ?_
      rintro e w2 ⟨rfl, hb2⟩
      exact ⟨_, rfl, hb2, rfl⟩
  case s2 =>
    refine step_plain rfl fun T w1 hT hb hd => ?_
    have ec := evT_const T
    have ef := evT_func T
    have d4 : evT T (.tmp 4) = .bool (fitsB s) := (by first | exact hd.1 | exact hd.2.1 | exact hd.2.2.1 | exact hd.2.2.2.1 | exact hd.2.2.2.2.1 | exact hd.2.2.2.2.2.1 | exact hd.2.2.2.2.2.2.1 | exact hd.2.2.2.2.2.2.2.1)
    refine gives_call (f := 28) (args := #[.bool (fitsB s), .int .i64 8]) ?_ ?_
    · clear hT hb hd
      simp only [execOp, resolve]
      go_simp
    · clear hT
      refine (unless_any _ _ w1).mono ?_
      rintro e w2 ⟨v, rfl, hl, hb2⟩
      exact ⟨_, rfl, hb2, hl⟩
  case s3 =>
    refine step_plain rfl fun T w1 hT hb hd => ?_
    have ec := evT_const T
    have ef := evT_func T
    have d1 : evT T (.tmp 1) = .pointer (some ⟨w.heap.size, 0, none⟩) := hT 1 (by kernel_rfl)
    clear hT hd hb
    refine gives_value (v := .pointer (some ⟨w.heap.size, 0, none⟩)) ?_ rfl
    simp only [execOp]
    go_simp
  case s4 =>
    refine step_plain rfl fun T w1 hT hb hd => ?_
    have ec := evT_const T
    have ef := evT_func T
    have d6 : evT T (.tmp 6) = .pointer (some ⟨w.heap.size, 0, none⟩) := (by first | exact hd.1 | exact hd.2.1 | exact hd.2.2.1 | exact hd.2.2.2.1 | exact hd.2.2.2.2.1 | exact hd.2.2.2.2.2.1 | exact hd.2.2.2.2.2.2.1 | exact hd.2.2.2.2.2.2.2.1)
    obtain ha0 := HC.out w1 (hb.mono (by simp only [World.size_alloc]; omega))
    have f0 := ha0.zero
    have f1 := ha0.at_ 0 rfl
    have f2 := ha0.at_ 1 rfl
    have f3 := ha0.at_ 2 rfl
    clear hT hd hb ha0
    refine gives_value (v := .slice A1 s.clks.length c1) ?_ rfl
    simp only [execOp]
    go_simp
  case s5 =>
    refine step_plain rfl fun T w1 hT hb hd => ?_
    have ec := evT_const T
    have ef := evT_func T
    have d1 : evT T (.tmp 1) = .pointer (some ⟨w.heap.size, 0, none⟩) := hT 1 (by kernel_rfl)
    have hbw := HB.out.trans (hb.mono (by simp only [World.size_alloc]; omega))
    have hcw := HC.out w1 (hb.mono (by simp only [World.size_alloc]; omega))
    have hsz := hb.size
    simp only [World.size_alloc] at hsz
    clear hT hd
    refine gives_value (v := .func (.func 31) #[] #[.pointer (some ⟨w.heap.size, 0, none⟩)]) ?_ (⟨31, _, rfl, enters31, fun W hW x us hx hg => askClk_any s _ w.heap.size x us W HOK.out (Steady.later HS.out (hbw.trans (hW.mono hbw.size))) (hcw.keep (B := w1.heap.size) (by show w.heap.size < _; omega) fun p hp => hW.cell hp) (by have := hW.size; omega) hx hg⟩)
    clear hb
    simp only [execOp]
    go_simp
  case s6 =>
    refine step_plain rfl fun T w1 hT hb hd => ?_
    have ec := evT_const T
    have ef := evT_func T
    have d7 : evT T (.tmp 7) = .slice A1 s.clks.length c1 := (by first | exact hd.1 | exact hd.2.1 | exact hd.2.2.1 | exact hd.2.2.2.1 | exact hd.2.2.2.2.1 | exact hd.2.2.2.2.2.1 | exact hd.2.2.2.2.2.2.1 | exact hd.2.2.2.2.2.2.2.1)
    have ha : Asks ClkV (fun x => x.frm.length ≤ 1000) (evT T (.tmp 8)) (clkE s.clks.length) w1 := (by first | exact hd.1 | exact hd.2.1 | exact hd.2.2.1 | exact hd.2.2.2.1 | exact hd.2.2.2.2.1 | exact hd.2.2.2.2.2.1 | exact hd.2.2.2.2.2.2.1 | exact hd.2.2.2.2.2.2.2.1)
    obtain ⟨g, lb, ea, -⟩ := id ha
    have HA := Lib.hid ha
    clear ha
    refine gives_call (f := 30) (args := #[.slice A1 s.clks.length c1, .func (.func g) #[] lb]) ?_ ?_
    · clear hT hb hd
      simp only [execOp, resolve]
      go_simp
    · clear hT
      refine (clk_any _ _ _ (clkE s.clks.length) (fun x => x.frm.length ≤ 1000) s.clks w1 (by omega) (ea ▸ HA.out) (fun x hx => (HOK.out.clks x hx).1) ((H1.out.below (HB.out.trans (hb.mono (by simp only [World.size_alloc]; omega))) (Nat.le_refl _)).more (HB.out.trans (hb.mono (by simp only [World.size_alloc]; omega))).size)).mono ?_
      rintro e w2 ⟨v, rfl, hl, hb2⟩
      exact ⟨_, rfl, hb2, hl⟩
  case s7 =>
    refine step_plain rfl fun T w1 hT hb hd => ?_
    have ec := evT_const T
    have ef := evT_func T
    have d1 : evT T (.tmp 1) = .pointer (some ⟨w.heap.size, 0, none⟩) := hT 1 (by kernel_rfl)
    obtain ha0 := HC.out w1 (hb.mono (by simp only [World.size_alloc]; omega))
    have f0 := ha0.zero
    have f1 := ha0.at_ 0 rfl
    have f2 := ha0.at_ 1 rfl
    have f3 := ha0.at_ 2 rfl
    clear hT hd hb ha0
    refine gives_value (v := .agg #[.slice A1 s.clks.length c1, .slice A2 s.doms.length c2, .slice A3 s.rsts.length c3, .slice A4 s.devs.length c4]) ?_ rfl
    simp only [execOp]
    go_simp
  case s8 =>
    refine step_plain rfl fun T w1 hT hb hd => ?_
    have ec := evT_const T
    have ef := evT_func T
    have d10 : evT T (.tmp 10) = .agg #[.slice A1 s.clks.length c1, .slice A2 s.doms.length c2, .slice A3 s.rsts.length c3, .slice A4 s.devs.length c4] := (by first | exact hd.1 | exact hd.2.1 | exact hd.2.2.1 | exact hd.2.2.2.1 | exact hd.2.2.2.2.1 | exact hd.2.2.2.2.2.1 | exact hd.2.2.2.2.2.2.1 | exact hd.2.2.2.2.2.2.2.1)
    refine gives_call (f := 33) (args := #[.agg #[.slice A1 s.clks.length c1, .slice A2 s.doms.length c2, .slice A3 s.rsts.length c3, .slice A4 s.devs.length c4], .func (.func 34) #[] #[]]) ?_ ?_
    · clear hT hb hd
      simp only [execOp, resolve]
      go_simp
    · clear hT
      refine (circle_any 34 enters15 s _ (clksG s) w1 (clks_rows HOK.out) (fun W h => graph_clk s _ W HOK.out h) (Steady.later HS.out (HB.out.trans (hb.mono (by simp only [World.size_alloc]; omega))))).mono ?_
      rintro e w2 ⟨v, rfl, hl, hb2⟩
      exact ⟨_, rfl, hb2, hl⟩
  case s9 =>
    refine step_plain rfl fun T w1 hT hb hd => ?_
    have ec := evT_const T
    have ef := evT_func T
    have d1 : evT T (.tmp 1) = .pointer (some ⟨w.heap.size, 0, none⟩) := hT 1 (by kernel_rfl)
    clear hT hd hb
    refine gives_value (v := .pointer (some ⟨w.heap.size, 1, none⟩)) ?_ rfl
    simp only [execOp]
    go_simp
  case s10 =>
    refine step_plain rfl fun T w1 hT hb hd => ?_
    have ec := evT_const T
    have ef := evT_func T
    have d12 : evT T (.tmp 12) = .pointer (some ⟨w.heap.size, 1, none⟩) := (by first | exact hd.1 | exact hd.2.1 | exact hd.2.2.1 | exact hd.2.2.2.1 | exact hd.2.2.2.2.1 | exact hd.2.2.2.2.2.1 | exact hd.2.2.2.2.2.2.1 | exact hd.2.2.2.2.2.2.2.1)
    obtain ha0 := HC.out w1 (hb.mono (by simp only [World.size_alloc]; omega))
    have f0 := ha0.zero
    have f1 := ha0.at_ 0 rfl
    have f2 := ha0.at_ 1 rfl
    have f3 := ha0.at_ 2 rfl
    clear hT hd hb ha0
    refine gives_value (v := .slice A2 s.doms.length c2) ?_ rfl
    simp only [execOp]
    go_simp
  case s11 =>
    refine step_plain rfl fun T w1 hT hb hd => ?_
    have ec := evT_const T
    have ef := evT_func T
    have d1 : evT T (.tmp 1) = .pointer (some ⟨w.heap.size, 0, none⟩) := hT 1 (by kernel_rfl)
    have hbw := HB.out.trans (hb.mono (by simp only [World.size_alloc]; omega))
    have hcw := HC.out w1 (hb.mono (by simp only [World.size_alloc]; omega))
    have hsz := hb.size
    simp only [World.size_alloc] at hsz
    clear hT hd
    refine gives_value (v := .func (.func 36) #[] #[.pointer (some ⟨w.heap.size, 0, none⟩)]) ?_ (⟨36, _, rfl, enters35, fun W hW x us hx hg => askDom_any s _ w.heap.size x us W HOK.out (Steady.later HS.out (hbw.trans (hW.mono hbw.size))) (hcw.keep (B := w1.heap.size) (by show w.heap.size < _; omega) fun p hp => hW.cell hp) (by have := hW.size; omega) hx⟩)
    clear hb
    simp only [execOp]
    go_simp
  case s12 =>
    refine step_plain rfl fun T w1 hT hb hd => ?_
    have ec := evT_const T
    have ef := evT_func T
    have d13 : evT T (.tmp 13) = .slice A2 s.doms.length c2 := (by first | exact hd.1 | exact hd.2.1 | exact hd.2.2.1 | exact hd.2.2.2.1 | exact hd.2.2.2.2.1 | exact hd.2.2.2.2.2.1 | exact hd.2.2.2.2.2.2.1 | exact hd.2.2.2.2.2.2.2.1)
    have ha : Asks DomV (fun _ => True) (evT T (.tmp 14)) (domE s.doms.length) w1 := (by first | exact hd.1 | exact hd.2.1 | exact hd.2.2.1 | exact hd.2.2.2.1 | exact hd.2.2.2.2.1 | exact hd.2.2.2.2.2.1 | exact hd.2.2.2.2.2.2.1 | exact hd.2.2.2.2.2.2.2.1)
    obtain ⟨g, lb, ea, -⟩ := id ha
    have HA := Lib.hid ha
    clear ha
    refine gives_call (f := 35) (args := #[.slice A2 s.doms.length c2, .func (.func g) #[] lb]) ?_ ?_
    · clear hT hb hd
      simp only [execOp, resolve]
      go_simp
    · clear hT
      refine (dom_any _ _ _ (domE s.doms.length) (fun _ => True) s.doms w1 (by omega) (ea ▸ HA.out) (fun _ _ => trivial) ((H2.out.below (HB.out.trans (hb.mono (by simp only [World.size_alloc]; omega))) (Nat.le_refl _)).more (HB.out.trans (hb.mono (by simp only [World.size_alloc]; omega))).size)).mono ?_
      rintro e w2 ⟨v, rfl, hl, hb2⟩
      exact ⟨_, rfl, hb2, hl⟩
  case s13 =>
    refine step_plain rfl fun T w1 hT hb hd => ?_
    have ec := evT_const T
    have ef := evT_func T
    have d1 : evT T (.tmp 1) = .pointer (some ⟨w.heap.size, 0, none⟩) := hT 1 (by kernel_rfl)
    obtain ha0 := HC.out w1 (hb.mono (by simp only [World.size_alloc]; omega))
    have f0 := ha0.zero
    have f1 := ha0.at_ 0 rfl
    have f2 := ha0.at_ 1 rfl
    have f3 := ha0.at_ 2 rfl
    clear hT hd hb ha0
    refine gives_value (v := .agg #[.slice A1 s.clks.length c1, .slice A2 s.doms.length c2, .slice A3 s.rsts.length c3, .slice A4 s.devs.length c4]) ?_ rfl
    simp only [execOp]
    go_simp
  case s14 =>
    refine step_plain rfl fun T w1 hT hb hd => ?_
    have ec := evT_const T
    have ef := evT_func T
    have d16 : evT T (.tmp 16) = .agg #[.slice A1 s.clks.length c1, .slice A2 s.doms.length c2, .slice A3 s.rsts.length c3, .slice A4 s.devs.length c4] := (by first | exact hd.1 | exact hd.2.1 | exact hd.2.2.1 | exact hd.2.2.2.1 | exact hd.2.2.2.2.1 | exact hd.2.2.2.2.2.1 | exact hd.2.2.2.2.2.2.1 | exact hd.2.2.2.2.2.2.2.1)
    refine gives_call (f := 33) (args := #[.agg #[.slice A1 s.clks.length c1, .slice A2 s.doms.length c2, .slice A3 s.rsts.length c3, .slice A4 s.devs.length c4], .func (.func 38) #[] #[]]) ?_ ?_
    · clear hT hb hd
      simp only [execOp, resolve]
      go_simp
    · clear hT
      refine (circle_any 38 enters17 s _ (domsG s) w1 (doms_rows HOK.out) (fun W h => graph_dom s _ W HOK.out h) (Steady.later HS.out (HB.out.trans (hb.mono (by simp only [World.size_alloc]; omega))))).mono ?_
      rintro e w2 ⟨v, rfl, hl, hb2⟩
      exact ⟨_, rfl, hb2, hl⟩
  case s15 =>
    refine step_plain rfl fun T w1 hT hb hd => ?_
    have ec := evT_const T
    have ef := evT_func T
    have d1 : evT T (.tmp 1) = .pointer (some ⟨w.heap.size, 0, none⟩) := hT 1 (by kernel_rfl)
    clear hT hd hb
    refine gives_value (v := .pointer (some ⟨w.heap.size, 2, none⟩)) ?_ rfl
    simp only [execOp]
    go_simp
  case s16 =>
    refine step_plain rfl fun T w1 hT hb hd => ?_
    have ec := evT_const T
    have ef := evT_func T
    have d18 : evT T (.tmp 18) = .pointer (some ⟨w.heap.size, 2, none⟩) := (by first | exact hd.1 | exact hd.2.1 | exact hd.2.2.1 | exact hd.2.2.2.1 | exact hd.2.2.2.2.1 | exact hd.2.2.2.2.2.1 | exact hd.2.2.2.2.2.2.1 | exact hd.2.2.2.2.2.2.2.1)
    obtain ha0 := HC.out w1 (hb.mono (by simp only [World.size_alloc]; omega))
    have f0 := ha0.zero
    have f1 := ha0.at_ 0 rfl
    have f2 := ha0.at_ 1 rfl
    have f3 := ha0.at_ 2 rfl
    clear hT hd hb ha0
    refine gives_value (v := .slice A3 s.rsts.length c3) ?_ rfl
    simp only [execOp]
    go_simp
  case s17 =>
    refine step_plain rfl fun T w1 hT hb hd => ?_
    have ec := evT_const T
    have ef := evT_func T
    have d19 : evT T (.tmp 19) = .slice A3 s.rsts.length c3 := (by first | exact hd.1 | exact hd.2.1 | exact hd.2.2.1 | exact hd.2.2.2.1 | exact hd.2.2.2.2.1 | exact hd.2.2.2.2.2.1 | exact hd.2.2.2.2.2.2.1 | exact hd.2.2.2.2.2.2.2.1)
    refine gives_call (f := 39) (args := #[.slice A3 s.rsts.length c3, .func (.func 40) #[] #[]]) ?_ ?_
    · clear hT hb hd
      simp only [execOp, resolve]
      go_simp
    · clear hT
      refine (rst_any _ _ _ (rstE) (fun _ => True) s.rsts w1 (by omega) ⟨40, #[], rfl, enters38, fun W _ x us hx _ => checkRst_any x us W hx⟩ (fun _ _ => trivial) ((H3.out.below (HB.out.trans (hb.mono (by simp only [World.size_alloc]; omega))) (Nat.le_refl _)).more (HB.out.trans (hb.mono (by simp only [World.size_alloc]; omega))).size)).mono ?_
      rintro e w2 ⟨v, rfl, hl, hb2⟩
      exact ⟨_, rfl, hb2, hl⟩
  case s18 =>
    refine step_plain rfl fun T w1 hT hb hd => ?_
    have ec := evT_const T
    have ef := evT_func T
    have d1 : evT T (.tmp 1) = .pointer (some ⟨w.heap.size, 0, none⟩) := hT 1 (by kernel_rfl)
    clear hT hd hb
    refine gives_value (v := .pointer (some ⟨w.heap.size, 3, none⟩)) ?_ rfl
    simp only [execOp]
    go_simp
  case s19 =>
    refine step_plain rfl fun T w1 hT hb hd => ?_
    have ec := evT_const T
    have ef := evT_func T
    have d21 : evT T (.tmp 21) = .pointer (some ⟨w.heap.size, 3, none⟩) := (by first | exact hd.1 | exact hd.2.1 | exact hd.2.2.1 | exact hd.2.2.2.1 | exact hd.2.2.2.2.1 | exact hd.2.2.2.2.2.1 | exact hd.2.2.2.2.2.2.1 | exact hd.2.2.2.2.2.2.2.1)
    obtain ha0 := HC.out w1 (hb.mono (by simp only [World.size_alloc]; omega))
    have f0 := ha0.zero
    have f1 := ha0.at_ 0 rfl
    have f2 := ha0.at_ 1 rfl
    have f3 := ha0.at_ 2 rfl
    clear hT hd hb ha0
    refine gives_value (v := .slice A4 s.devs.length c4) ?_ rfl
    simp only [execOp]
    go_simp
  case s20 =>
    refine step_plain rfl fun T w1 hT hb hd => ?_
    have ec := evT_const T
    have ef := evT_func T
    have d1 : evT T (.tmp 1) = .pointer (some ⟨w.heap.size, 0, none⟩) := hT 1 (by kernel_rfl)
    have hbw := HB.out.trans (hb.mono (by simp only [World.size_alloc]; omega))
    have hcw := HC.out w1 (hb.mono (by simp only [World.size_alloc]; omega))
    have hsz := hb.size
    simp only [World.size_alloc] at hsz
    clear hT hd
    refine gives_value (v := .func (.func 42) #[] #[.pointer (some ⟨w.heap.size, 0, none⟩)]) ?_ (⟨42, _, rfl, enters40, fun W hW x us hx hg => askDev_any s _ w.heap.size x us W HOK.out (Steady.later HS.out (hbw.trans (hW.mono hbw.size))) (hcw.keep (B := w1.heap.size) (by show w.heap.size < _; omega) fun p hp => hW.cell hp) (by have := hW.size; omega) hx hg⟩)
    clear hb
    simp only [execOp]
    go_simp
  case s21 =>
    refine step_plain rfl fun T w1 hT hb hd => ?_
    have ec := evT_const T
    have ef := evT_func T
    have d22 : evT T (.tmp 22) = .slice A4 s.devs.length c4 := (by first | exact hd.1 | exact hd.2.1 | exact hd.2.2.1 | exact hd.2.2.2.1 | exact hd.2.2.2.2.1 | exact hd.2.2.2.2.2.1 | exact hd.2.2.2.2.2.2.1 | exact hd.2.2.2.2.2.2.2.1)
    have ha : Asks DevV (fun x => x.needs.length ≤ 1000) (evT T (.tmp 23)) (devE s) w1 := (by first | exact hd.1 | exact hd.2.1 | exact hd.2.2.1 | exact hd.2.2.2.1 | exact hd.2.2.2.2.1 | exact hd.2.2.2.2.2.1 | exact hd.2.2.2.2.2.2.1 | exact hd.2.2.2.2.2.2.2.1)
    obtain ⟨g, lb, ea, -⟩ := id ha
    have HA := Lib.hid ha
    clear ha
    refine gives_call (f := 41) (args := #[.slice A4 s.devs.length c4, .func (.func g) #[] lb]) ?_ ?_
    · clear hT hb hd
      simp only [execOp, resolve]
      go_simp
    · clear hT
      refine (dev_any _ _ _ (devE s) (fun x => x.needs.length ≤ 1000) s.devs w1 (by omega) (ea ▸ HA.out) (fun x hx => (HOK.out.devs x hx).2.1) ((H4.out.below (HB.out.trans (hb.mono (by simp only [World.size_alloc]; omega))) (Nat.le_refl _)).more (HB.out.trans (hb.mono (by simp only [World.size_alloc]; omega))).size)).mono ?_
      rintro e w2 ⟨v, rfl, hl, hb2⟩
      exact ⟨_, rfl, hb2, hl⟩
  case s22 =>
    refine step_plain rfl fun T w1 hT hb hd => ?_
    have ec := evT_const T
    have ef := evT_func T
    have d1 : evT T (.tmp 1) = .pointer (some ⟨w.heap.size, 0, none⟩) := hT 1 (by kernel_rfl)
    obtain ha0 := HC.out w1 (hb.mono (by simp only [World.size_alloc]; omega))
    have f0 := ha0.zero
    have f1 := ha0.at_ 0 rfl
    have f2 := ha0.at_ 1 rfl
    have f3 := ha0.at_ 2 rfl
    clear hT hd hb ha0
    refine gives_value (v := .agg #[.slice A1 s.clks.length c1, .slice A2 s.doms.length c2, .slice A3 s.rsts.length c3, .slice A4 s.devs.length c4]) ?_ rfl
    simp only [execOp]
    go_simp
  case s23 =>
    refine step_plain rfl fun T w1 hT hb hd => ?_
    have ec := evT_const T
    have ef := evT_func T
    have d25 : evT T (.tmp 25) = .agg #[.slice A1 s.clks.length c1, .slice A2 s.doms.length c2, .slice A3 s.rsts.length c3, .slice A4 s.devs.length c4] := (by first | exact hd.1 | exact hd.2.1 | exact hd.2.2.1 | exact hd.2.2.2.1 | exact hd.2.2.2.2.1 | exact hd.2.2.2.2.2.1 | exact hd.2.2.2.2.2.2.1 | exact hd.2.2.2.2.2.2.2.1)
    refine gives_call (f := 33) (args := #[.agg #[.slice A1 s.clks.length c1, .slice A2 s.doms.length c2, .slice A3 s.rsts.length c3, .slice A4 s.devs.length c4], .func (.func 44) #[] #[]]) ?_ ?_
    · clear hT hb hd
      simp only [execOp, resolve]
      go_simp
    · clear hT
      refine (circle_any 44 enters19 s _ (devsG s) w1 (devs_rows HOK.out) (fun W h => graph_dev s _ W HOK.out h) (Steady.later HS.out (HB.out.trans (hb.mono (by simp only [World.size_alloc]; omega))))).mono ?_
      rintro e w2 ⟨v, rfl, hl, hb2⟩
      exact ⟨_, rfl, hb2, hl⟩
  case s24 =>
    refine step_plain rfl fun T w1 hT hb hd => ?_
    have ec := evT_const T
    have ef := evT_func T
    have l0 : Look (evT T (.tmp 5)) (orE (fitsB s) 8) w1 := (by first | exact hd.1 | exact hd.2.1 | exact hd.2.2.1 | exact hd.2.2.2.1 | exact hd.2.2.2.2.1 | exact hd.2.2.2.2.2.1 | exact hd.2.2.2.2.2.2.1 | exact hd.2.2.2.2.2.2.2.1)
    obtain ⟨g0, lb0, q0, -⟩ := id l0
    have l1 : Look (evT T (.tmp 9)) (firstE (s.clks.map (clkE s.clks.length))) w1 := (by first | exact hd.1 | exact hd.2.1 | exact hd.2.2.1 | exact hd.2.2.2.1 | exact hd.2.2.2.2.1 | exact hd.2.2.2.2.2.1 | exact hd.2.2.2.2.2.2.1 | exact hd.2.2.2.2.2.2.2.1)
    obtain ⟨g1, lb1, q1, -⟩ := id l1
    have l2 : Look (evT T (.tmp 11)) (graphE (clksG s)) w1 := (by first | exact hd.1 | exact hd.2.1 | exact hd.2.2.1 | exact hd.2.2.2.1 | exact hd.2.2.2.2.1 | exact hd.2.2.2.2.2.1 | exact hd.2.2.2.2.2.2.1 | exact hd.2.2.2.2.2.2.2.1)
    obtain ⟨g2, lb2, q2, -⟩ := id l2
    have l3 : Look (evT T (.tmp 15)) (firstE (s.doms.map (domE s.doms.length))) w1 := (by first | exact hd.1 | exact hd.2.1 | exact hd.2.2.1 | exact hd.2.2.2.1 | exact hd.2.2.2.2.1 | exact hd.2.2.2.2.2.1 | exact hd.2.2.2.2.2.2.1 | exact hd.2.2.2.2.2.2.2.1)
    obtain ⟨g3, lb3, q3, -⟩ := id l3
    have l4 : Look (evT T (.tmp 17)) (graphE (domsG s)) w1 := (by first | exact hd.1 | exact hd.2.1 | exact hd.2.2.1 | exact hd.2.2.2.1 | exact hd.2.2.2.2.1 | exact hd.2.2.2.2.2.1 | exact hd.2.2.2.2.2.2.1 | exact hd.2.2.2.2.2.2.2.1)
    obtain ⟨g4, lb4, q4, -⟩ := id l4
    have l5 : Look (evT T (.tmp 20)) (firstE (s.rsts.map (rstE))) w1 := (by first | exact hd.1 | exact hd.2.1 | exact hd.2.2.1 | exact hd.2.2.2.1 | exact hd.2.2.2.2.1 | exact hd.2.2.2.2.2.1 | exact hd.2.2.2.2.2.2.1 | exact hd.2.2.2.2.2.2.2.1)
    obtain ⟨g5, lb5, q5, -⟩ := id l5
    have l6 : Look (evT T (.tmp 24)) (firstE (s.devs.map (devE s))) w1 := (by first | exact hd.1 | exact hd.2.1 | exact hd.2.2.1 | exact hd.2.2.2.1 | exact hd.2.2.2.2.1 | exact hd.2.2.2.2.2.1 | exact hd.2.2.2.2.2.2.1 | exact hd.2.2.2.2.2.2.2.1)
    obtain ⟨g6, lb6, q6, -⟩ := id l6
    have l7 : Look (evT T (.tmp 26)) (graphE (devsG s)) w1 := (by first | exact hd.1 | exact hd.2.1 | exact hd.2.2.1 | exact hd.2.2.2.1 | exact hd.2.2.2.2.1 | exact hd.2.2.2.2.2.1 | exact hd.2.2.2.2.2.2.1 | exact hd.2.2.2.2.2.2.2.1)
    obtain ⟨g7, lb7, q7, -⟩ := id l7
    clear hT hb hd
    rw [q0] at l0
    rw [q1] at l1
    rw [q2] at l2
    rw [q3] at l3
    rw [q4] at l4
    rw [q5] at l5
    rw [q6] at l6
    rw [q7] at l7
    refine gives_made (v := .slice (some ⟨w1.heap.size, 0, none⟩) 8 8) (w' := w1.alloc (.cells #[.func (.func g0) #[] lb0, .func (.func g1) #[] lb1, .func (.func g2) #[] lb2, .func (.func g3) #[] lb3, .func (.func g4) #[] lb4, .func (.func g5) #[] lb5, .func (.func g6) #[] lb6, .func (.func g7) #[] lb7] 66)) ?_ ((Below.refl _ _).alloc (Nat.le_refl _) _) ⟨_, _, rfl, looks_newL w1 [.func (.func g0) #[] lb0, .func (.func g1) #[] lb1, .func (.func g2) #[] lb2, .func (.func g3) #[] lb3, .func (.func g4) #[] lb4, .func (.func g5) #[] lb5, .func (.func g6) #[] lb6, .func (.func g7) #[] lb7] _ ⟨l0, l1, l2, l3, l4, l5, l6, l7, trivial⟩⟩
    clear l0 l1 l2 l3 l4 l5 l6 l7
    simp only [execOp]
    go_simp
  case s25 =>
    refine step_plain rfl fun T w1 hT hb hd => ?_
    have ec := evT_const T
    have ef := evT_func T
    obtain ⟨A, c, d27, hl⟩ : IsLooks [orE (fitsB s) 8, firstE (s.clks.map (clkE s.clks.length)), graphE (clksG s), firstE (s.doms.map (domE s.doms.length)), graphE (domsG s), firstE (s.rsts.map (rstE)), firstE (s.devs.map (devE s)), graphE (devsG s)] (evT T (.tmp 27)) w1 := (by first | exact hd.1 | exact hd.2.1 | exact hd.2.2.1 | exact hd.2.2.2.1 | exact hd.2.2.2.2.1 | exact hd.2.2.2.2.2.1 | exact hd.2.2.2.2.2.2.1 | exact hd.2.2.2.2.2.2.2.1)
    refine gives_call (f := 27) (args := #[.slice A 8 c]) ?_ ?_
    · clear hT hb hd hl
      simp only [execOp, resolve]
      go_simp
    · clear hT
      refine (first_any A c [orE (fitsB s) 8, firstE (s.clks.map (clkE s.clks.length)), graphE (clksG s), firstE (s.doms.map (domE s.doms.length)), graphE (domsG s), firstE (s.rsts.map (rstE)), firstE (s.devs.map (devE s)), graphE (devsG s)] w1 (by simp) hl).mono ?_
      rintro e w2 ⟨rfl, hb2⟩
      exact ⟨_, rfl, hb2, rfl⟩
  case s26 =>
    refine step_plain rfl fun T w1 hT hb hd => ?_
    have ec := evT_const T
    have ef := evT_func T
    have d28 : evT T (.tmp 28) = .int .i64 (chipE s) := (by first | exact hd.1 | exact hd.2.1 | exact hd.2.2.1 | exact hd.2.2.2.1 | exact hd.2.2.2.2.1 | exact hd.2.2.2.2.2.1 | exact hd.2.2.2.2.2.2.1 | exact hd.2.2.2.2.2.2.2.1)
    clear hT hd hb
    refine gives_value (v := .int .i64 (chipE s)) ?_ rfl
    simp only [execOp]
    go_simp
  case fin =>
    intro T w1 hT hb hd
    have e : T 2 = .int .i64 (chipE s) := hd.2.2.2.2.2.2.2.2.2.2.2.2.2.2.2.2.2.2.2.2.2.2.2.2.2.2.1
    have hl : listT T 29 = #[T 0, T 1, T 2, T 3, T 4, T 5, T 6, T 7, T 8, T 9, T 10, T 11, T 12, T 13, T 14, T 15, T 16, T 17, T 18, T 19, T 20, T 21, T 22, T 23, T 24, T 25, T 26, T 27, T 28] := rfl
    rw [hl, e]
    clear hT hd hl
    go_wp2
    go_ret
    exact ⟨rfl, HB.out.trans (hb.mono (by simp only [World.size_alloc]; omega))⟩

end Go.Proofs.Ytnfbhhgdibkbdaa
