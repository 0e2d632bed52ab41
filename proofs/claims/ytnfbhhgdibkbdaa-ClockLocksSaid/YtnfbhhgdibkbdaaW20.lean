/- The contract of conf.Copy, whole. -/
import Derived.Test.YtnfbhhgdibkbdaaW19
namespace Go.Proofs.Ytnfbhhgdibkbdaa
set_option linter.unusedSimpArgs false
set_option linter.unusedVariables false
open Go.RowKit Go.Maps

theorem StC.done {w W W' : World} {b2 b3 : Nat} {s : Chip} {v1 v2 v3 v4 : Value} (h : StC w W b2 b3 s v1 v2 v3 v4) (hm : Moved [b2] W W') : Own4 W' w.heap.size s v1 v2 v3 v4 ∧ Below w.heap.size w W' := by
  have ho := h.own.move hm
  have hs : ∀ k, k ∈ hot4 v1 v2 v3 v4 → k ∈ b2 :: hot4 v1 v2 v3 v4 := fun k hk => List.mem_cons_of_mem _ hk
  exact ⟨⟨ho.clks.less hs, ho.doms.less hs, ho.rsts.less hs, ho.devs.less hs, ho.n12, ho.n13, ho.n14, ho.n23, ho.n24, ho.n34⟩, h.bl.trans (hm.below (by intro k hk; rw [List.mem_singleton.1 hk]; exact h.h2) h.bl.size)⟩
theorem copy_start {w w1 w3 : World} {o : Obj} {s : Chip} {b3 : Nat} {v1 v2 v3 v4 : Value} (hb : ((w.alloc o).alloc (.cells #[.slice none 0 0, .slice none 0 0, .slice none 0 0, .slice none 0 0] 27)).grownBy w1 none) (hbh : w1.heap[b3]? = some (.cells [.slice none 0 0, .slice none 0 0, .slice none 0 0, .slice none 0 0].toArray 27 (0, 0))) (hb3 : w.heap.size + 2 ≤ b3)
    (h1 : Cloned ClkV 6 46 w s.clks v1 w1) (h2 : Cloned DomV 3 75 w s.doms v2 w1) (h3 : Cloned RstV 1 80 w s.rsts v3 w1) (h4 : Cloned DevV 6 86 w s.devs v4 w1) (hmv : Moved [b3] w1 w3) (hbox : BoxAt w3 b3 [v1, v2, v3, v4]) :
    StC w w3 (w.heap.size + 1) b3 s v1 v2 v3 v4 := by
  have hz := hb.size
  simp only [World.size_alloc] at hz
  have hz3 := hmv.size
  have hb1 : Below w.heap.size w w1 := (((Below.refl w.heap.size w).alloc (Nat.le_refl _) o).alloc (by simp) _).grown hb (by simp only [World.size_alloc]; omega) (by intro k hk; cases hk)
  have hbw : Below w.heap.size w w3 := hb1.trans (hmv.below (by intro k hk; rw [List.mem_singleton.1 hk]; omega) hb1.size)
  have k2 : w1.heap[w.heap.size + 1]? = some (.cells #[.slice none 0 0, .slice none 0 0, .slice none 0 0, .slice none 0 0] 27 (0, 0)) := by
    rw [hb.block (w.heap.size + 1) (by simp) (by simp)]
    have := heap_alloc_new (w.alloc o) (.cells #[.slice none 0 0, .slice none 0 0, .slice none 0 0, .slice none 0 0] 27)
    simpa using this
  have e3 : ∃ c fz, w1.heap[b3]? = some (.cells c 27 fz) := ⟨_, _, hbh⟩
  have e2 : ∃ c fz, w1.heap[w.heap.size + 1]? = some (.cells c 27 fz) := ⟨_, _, k2⟩
  have y1 : v1.ownBlock ≠ some b3 := fun e => absurd (kinds_ne (h1.kind b3 e).2.2 e3) (by decide)
  have y2 : v2.ownBlock ≠ some b3 := fun e => absurd (kinds_ne (h2.kind b3 e).2.2 e3) (by decide)
  have y3 : v3.ownBlock ≠ some b3 := fun e => absurd (kinds_ne (h3.kind b3 e).2.2 e3) (by decide)
  have y4 : v4.ownBlock ≠ some b3 := fun e => absurd (kinds_ne (h4.kind b3 e).2.2 e3) (by decide)
  have z1 : v1.ownBlock ≠ some (w.heap.size + 1) := fun e => absurd (kinds_ne (h1.kind _ e).2.2 e2) (by decide)
  have z2 : v2.ownBlock ≠ some (w.heap.size + 1) := fun e => absurd (kinds_ne (h2.kind _ e).2.2 e2) (by decide)
  have z3 : v3.ownBlock ≠ some (w.heap.size + 1) := fun e => absurd (kinds_ne (h3.kind _ e).2.2 e2) (by decide)
  have z4 : v4.ownBlock ≠ some (w.heap.size + 1) := fun e => absurd (kinds_ne (h4.kind _ e).2.2 e2) (by decide)
  have hh : ∀ b, b ∈ (w.heap.size + 1) :: hot4 v1 v2 v3 v4 → w.heap.size ≤ b := fun b hm => by
    rcases List.mem_cons.1 hm with rfl | hm
    · omega
    · unfold hot4 at hm
      simp at hm
      rcases hm with hm | hm | hm | hm
      · exact (h1.kind b hm).1
      · exact (h2.kind b hm).1
      · exact (h3.kind b hm).1
      · exact (h4.kind b hm).1
  have mv : ∀ {α : Type} {V : Reads α} {sz : Nat} {e : TypeId} {xs : List α} {v : Value}, Cloned V sz e w xs v w1 → v.ownBlock ≠ some b3 → Cloned V sz e w xs v w3 := fun hc hne => hc.move fun g hg => hmv.block g (hc.kind g hg).2.1 (by simp; rintro rfl; exact hne hg)
  refine ⟨⟨(mv h1 y1).row fun x vs hv => clk_old hh hbw hv, (mv h2 y2).row fun x vs hv => hv, (mv h3 y3).row fun x vs hv => hv, (mv h4 y4).row fun x vs hv => dev_old hh hbw hv, ?_, ?_, ?_, ?_, ?_, ?_, z1, z2, z3, z4⟩, hbox, ?_, hbw, by omega, by omega, by omega, y1, y2, y3, y4⟩
  · exact fun g hg e => absurd (kinds_ne (h1.kind g hg).2.2 (h2.kind g e).2.2) (by decide)
  · exact fun g hg e => absurd (kinds_ne (h1.kind g hg).2.2 (h3.kind g e).2.2) (by decide)
  · exact fun g hg e => absurd (kinds_ne (h1.kind g hg).2.2 (h4.kind g e).2.2) (by decide)
  · exact fun g hg e => absurd (kinds_ne (h2.kind g hg).2.2 (h3.kind g e).2.2) (by decide)
  · exact fun g hg e => absurd (kinds_ne (h2.kind g hg).2.2 (h4.kind g e).2.2) (by decide)
  · exact fun g hg e => absurd (kinds_ne (h3.kind g hg).2.2 (h4.kind g e).2.2) (by decide)
  · exact (BoxAt.of_blk (vs := [.slice none 0 0, .slice none 0 0, .slice none 0 0, .slice none 0 0]) (t := 27) k2).move hmv (by simp; omega)

set_option maxRecDepth 1000000 in
set_option maxHeartbeats 4000000 in
theorem copy_any (s : Chip) (vs : List Value) (w : World) (hok : ChipOk s) (h : ChipV w w.heap.size s vs) : Calls Try.prog 25 #[.agg vs.toArray] w (ChipPost w s) := by
  obtain ⟨A1, c1, A2, c2, A3, c3, A4, c4, rfl, l1, l2, l3, l4, k1, k2, k3, k4⟩ := h
  have HCV : RowKit.Hid (StrsAt ClkV 6 w w.heap.size A1 s.clks ∧ StrsAt DomV 3 w w.heap.size A2 s.doms ∧ StrsAt RstV 1 w w.heap.size A3 s.rsts ∧ StrsAt DevV 6 w w.heap.size A4 s.devs) := ⟨k1, k2, k3, k4⟩
  have HOK := Lib.hid hok
  have hC : ∀ W, ((w.alloc (.cells #[.slice A1 s.clks.length c1, .slice A2 s.doms.length c2, .slice A3 s.rsts.length c3, .slice A4 s.devs.length c4] 27)).alloc (.cells #[.slice none 0 0, .slice none 0 0, .slice none 0 0, .slice none 0 0] 27)).grownBy W none → BoxAt W w.heap.size [.slice A1 s.clks.length c1, .slice A2 s.doms.length c2, .slice A3 s.rsts.length c3, .slice A4 s.devs.length c4] ∧ Below w.heap.size w W := fun W hW => by
    have hb0 : BoxAt (w.alloc (.cells #[.slice A1 s.clks.length c1, .slice A2 s.doms.length c2, .slice A3 s.rsts.length c3, .slice A4 s.devs.length c4] 27)) w.heap.size [.slice A1 s.clks.length c1, .slice A2 s.doms.length c2, .slice A3 s.rsts.length c3, .slice A4 s.devs.length c4] := BoxAt.new w _ 27
    have hm : Moved [] (w.alloc (.cells #[.slice A1 s.clks.length c1, .slice A2 s.doms.length c2, .slice A3 s.rsts.length c3, .slice A4 s.devs.length c4] 27)) W := (Moved.alloc _ _).trans (Moved.of_grown hW (fun k h => by cases h))
    exact ⟨hb0.move hm (by simp), ((Below.refl w.heap.size w).alloc (Nat.le_refl _) _).trans (hm.below (by simp) (by simp))⟩
  have HC := Lib.hid hC
  clear hok k1 k2 k3 k4 hC
  go_enter Try.func25, Try.ntmps25
  go_wp2
  refine region_then [⟨IsV (.pointer (some ⟨w.heap.size, 0, none⟩)), true, false⟩,
    ⟨IsV (.slice A1 s.clks.length c1), true, false⟩,
    ⟨Cloned ClkV 6 46 w s.clks, false, false⟩,
    ⟨IsV (.pointer (some ⟨w.heap.size, 1, none⟩)), true, false⟩,
    ⟨IsV (.slice A2 s.doms.length c2), true, false⟩,
    ⟨Cloned DomV 3 75 w s.doms, false, false⟩,
    ⟨IsV (.pointer (some ⟨w.heap.size, 2, none⟩)), true, false⟩,
    ⟨IsV (.slice A3 s.rsts.length c3), true, false⟩,
    ⟨Cloned RstV 1 80 w s.rsts, false, false⟩,
    ⟨IsV (.pointer (some ⟨w.heap.size, 3, none⟩)), true, false⟩,
    ⟨IsV (.slice A4 s.devs.length c4), true, false⟩,
    ⟨Cloned DevV 6 86 w s.devs, false, false⟩,
    ⟨Four s w, true, false⟩,
    ⟨IsBlk (w.heap.size + 2) mkPtr [.slice none 0 0, .slice none 0 0, .slice none 0 0, .slice none 0 0] 27, false, false⟩] none 68 (by kernel_rfl) rfl (by kernel_rfl) ⟨fun _ => stbR_V _ _, fun _ => stbR_V _ _, fun _ => stbR_cloned, fun _ => stbR_V _ _, fun _ => stbR_V _ _, fun _ => stbR_cloned, fun _ => stbR_V _ _, fun _ => stbR_V _ _, fun _ => stbR_cloned, fun _ => stbR_V _ _, fun _ => stbR_V _ _, fun _ => stbR_cloned, fun _ => stbR_four, fun _ => stbR_blk (by simp), trivial⟩ ⟨?s0, ?s1, ?s2, ?s3, ?s4, ?s5, ?s6, ?s7, ?s8, ?s9, ?s10, ?s11, ?s12, ?s13, trivial⟩ ?fin
  case s0 =>
    refine ⟨rfl, fun T w1 hT hb ha0 hd => ?_⟩
    have ec := evT_const T
    have ef := evT_func T
    have d1 : evT T (.tmp 1) = .pointer (some ⟨w.heap.size, 0, none⟩) := hT 1 (by kernel_rfl)
    clear hT hd hb ha0
    refine gr_pure (v := .pointer (some ⟨w.heap.size, 0, none⟩)) ?_ rfl
    simp only [execOp]
    go_simp
  case s1 =>
    refine ⟨rfl, fun T w1 hT hb ha0 hd => ?_⟩
    have ec := evT_const T
    have ef := evT_func T
    have d8 : evT T (.tmp 8) = .pointer (some ⟨w.heap.size, 0, none⟩) := (by first | exact hd.1 | exact hd.2.1 | exact hd.2.2.1 | exact hd.2.2.2.1 | exact hd.2.2.2.2.1 | exact hd.2.2.2.2.2.1 | exact hd.2.2.2.2.2.2.1 | exact hd.2.2.2.2.2.2.2.1)
    have f0 := ((HC.out w1 hb).1 0 _ rfl).1
    clear hT hd hb ha0
    refine gr_pure (v := .slice A1 s.clks.length c1) ?_ rfl
    simp only [execOp]
    go_simp
  case s2 =>
    refine ⟨rfl, fun T w1 hT hb ha0 hd => ?_⟩
    have ec := evT_const T
    have ef := evT_func T
    have d9 : evT T (.tmp 9) = .slice A1 s.clks.length c1 := (by first | exact hd.1 | exact hd.2.1 | exact hd.2.2.1 | exact hd.2.2.2.1 | exact hd.2.2.2.2.1 | exact hd.2.2.2.2.2.1 | exact hd.2.2.2.2.2.2.1 | exact hd.2.2.2.2.2.2.2.1)
    refine gr_callB (f := 58) (args := #[.slice A1 s.clks.length c1]) ?_ ?_
    · clear hT hd hb ha0
      simp only [execOp, resolve]
      go_simp
    · refine (clone61_any _ _ s.clks w w1 (by have := HOK.out.n1; omega) (HC.out w1 hb).2 HCV.out.1).mono ?_
      rintro en w2 ⟨v, he, h1, h2⟩
      exact ⟨v, he, h1, h2⟩
  case s3 =>
    refine ⟨rfl, fun T w1 hT hb ha0 hd => ?_⟩
    have ec := evT_const T
    have ef := evT_func T
    have d1 : evT T (.tmp 1) = .pointer (some ⟨w.heap.size, 0, none⟩) := hT 1 (by kernel_rfl)
    clear hT hd hb ha0
    refine gr_pure (v := .pointer (some ⟨w.heap.size, 1, none⟩)) ?_ rfl
    simp only [execOp]
    go_simp
  case s4 =>
    refine ⟨rfl, fun T w1 hT hb ha0 hd => ?_⟩
    have ec := evT_const T
    have ef := evT_func T
    have d11 : evT T (.tmp 11) = .pointer (some ⟨w.heap.size, 1, none⟩) := (by first | exact hd.1 | exact hd.2.1 | exact hd.2.2.1 | exact hd.2.2.2.1 | exact hd.2.2.2.2.1 | exact hd.2.2.2.2.2.1 | exact hd.2.2.2.2.2.2.1 | exact hd.2.2.2.2.2.2.2.1)
    have f0 := ((HC.out w1 hb).1 1 _ rfl).1
    clear hT hd hb ha0
    refine gr_pure (v := .slice A2 s.doms.length c2) ?_ rfl
    simp only [execOp]
    go_simp
  case s5 =>
    refine ⟨rfl, fun T w1 hT hb ha0 hd => ?_⟩
    have ec := evT_const T
    have ef := evT_func T
    have d12 : evT T (.tmp 12) = .slice A2 s.doms.length c2 := (by first | exact hd.1 | exact hd.2.1 | exact hd.2.2.1 | exact hd.2.2.2.1 | exact hd.2.2.2.2.1 | exact hd.2.2.2.2.2.1 | exact hd.2.2.2.2.2.2.1 | exact hd.2.2.2.2.2.2.2.1)
    refine gr_callB (f := 59) (args := #[.slice A2 s.doms.length c2]) ?_ ?_
    · clear hT hd hb ha0
      simp only [execOp, resolve]
      go_simp
    · refine (clone62_any _ _ s.doms w w1 (by have := HOK.out.n2; omega) (HC.out w1 hb).2 HCV.out.2.1).mono ?_
      rintro en w2 ⟨v, he, h1, h2⟩
      exact ⟨v, he, h1, h2⟩
  case s6 =>
    refine ⟨rfl, fun T w1 hT hb ha0 hd => ?_⟩
    have ec := evT_const T
    have ef := evT_func T
    have d1 : evT T (.tmp 1) = .pointer (some ⟨w.heap.size, 0, none⟩) := hT 1 (by kernel_rfl)
    clear hT hd hb ha0
    refine gr_pure (v := .pointer (some ⟨w.heap.size, 2, none⟩)) ?_ rfl
    simp only [execOp]
    go_simp
  case s7 =>
    refine ⟨rfl, fun T w1 hT hb ha0 hd => ?_⟩
    have ec := evT_const T
    have ef := evT_func T
    have d14 : evT T (.tmp 14) = .pointer (some ⟨w.heap.size, 2, none⟩) := (by first | exact hd.1 | exact hd.2.1 | exact hd.2.2.1 | exact hd.2.2.2.1 | exact hd.2.2.2.2.1 | exact hd.2.2.2.2.2.1 | exact hd.2.2.2.2.2.2.1 | exact hd.2.2.2.2.2.2.2.1)
    have f0 := ((HC.out w1 hb).1 2 _ rfl).1
    clear hT hd hb ha0
    refine gr_pure (v := .slice A3 s.rsts.length c3) ?_ rfl
    simp only [execOp]
    go_simp
  case s8 =>
    refine ⟨rfl, fun T w1 hT hb ha0 hd => ?_⟩
    have ec := evT_const T
    have ef := evT_func T
    have d15 : evT T (.tmp 15) = .slice A3 s.rsts.length c3 := (by first | exact hd.1 | exact hd.2.1 | exact hd.2.2.1 | exact hd.2.2.2.1 | exact hd.2.2.2.2.1 | exact hd.2.2.2.2.2.1 | exact hd.2.2.2.2.2.2.1 | exact hd.2.2.2.2.2.2.2.1)
    refine gr_callB (f := 60) (args := #[.slice A3 s.rsts.length c3]) ?_ ?_
    · clear hT hd hb ha0
      simp only [execOp, resolve]
      go_simp
    · refine (clone63_any _ _ s.rsts w w1 (by have := HOK.out.n3; omega) (HC.out w1 hb).2 HCV.out.2.2.1).mono ?_
      rintro en w2 ⟨v, he, h1, h2⟩
      exact ⟨v, he, h1, h2⟩
  case s9 =>
    refine ⟨rfl, fun T w1 hT hb ha0 hd => ?_⟩
    have ec := evT_const T
    have ef := evT_func T
    have d1 : evT T (.tmp 1) = .pointer (some ⟨w.heap.size, 0, none⟩) := hT 1 (by kernel_rfl)
    clear hT hd hb ha0
    refine gr_pure (v := .pointer (some ⟨w.heap.size, 3, none⟩)) ?_ rfl
    simp only [execOp]
    go_simp
  case s10 =>
    refine ⟨rfl, fun T w1 hT hb ha0 hd => ?_⟩
    have ec := evT_const T
    have ef := evT_func T
    have d17 : evT T (.tmp 17) = .pointer (some ⟨w.heap.size, 3, none⟩) := (by first | exact hd.1 | exact hd.2.1 | exact hd.2.2.1 | exact hd.2.2.2.1 | exact hd.2.2.2.2.1 | exact hd.2.2.2.2.2.1 | exact hd.2.2.2.2.2.2.1 | exact hd.2.2.2.2.2.2.2.1)
    have f0 := ((HC.out w1 hb).1 3 _ rfl).1
    clear hT hd hb ha0
    refine gr_pure (v := .slice A4 s.devs.length c4) ?_ rfl
    simp only [execOp]
    go_simp
  case s11 =>
    refine ⟨rfl, fun T w1 hT hb ha0 hd => ?_⟩
    have ec := evT_const T
    have ef := evT_func T
    have d18 : evT T (.tmp 18) = .slice A4 s.devs.length c4 := (by first | exact hd.1 | exact hd.2.1 | exact hd.2.2.1 | exact hd.2.2.2.1 | exact hd.2.2.2.2.1 | exact hd.2.2.2.2.2.1 | exact hd.2.2.2.2.2.2.1 | exact hd.2.2.2.2.2.2.2.1)
    refine gr_callB (f := 61) (args := #[.slice A4 s.devs.length c4]) ?_ ?_
    · clear hT hd hb ha0
      simp only [execOp, resolve]
      go_simp
    · refine (clone64_any _ _ s.devs w w1 (by have := HOK.out.n4; omega) (HC.out w1 hb).2 HCV.out.2.2.2).mono ?_
      rintro en w2 ⟨v, he, h1, h2⟩
      exact ⟨v, he, h1, h2⟩
  case s12 =>
    refine ⟨rfl, fun T w1 hT hb ha0 hd => ?_⟩
    have ec := evT_const T
    have ef := evT_func T
    have h1 : Cloned ClkV 6 46 w s.clks (evT T (.tmp 10)) w1 := (by first | exact hd.1 | exact hd.2.1 | exact hd.2.2.1 | exact hd.2.2.2.1 | exact hd.2.2.2.2.1 | exact hd.2.2.2.2.2.1 | exact hd.2.2.2.2.2.2.1 | exact hd.2.2.2.2.2.2.2.1)
    have h2 : Cloned DomV 3 75 w s.doms (evT T (.tmp 13)) w1 := (by first | exact hd.1 | exact hd.2.1 | exact hd.2.2.1 | exact hd.2.2.2.1 | exact hd.2.2.2.2.1 | exact hd.2.2.2.2.2.1 | exact hd.2.2.2.2.2.2.1 | exact hd.2.2.2.2.2.2.2.1)
    have h3 : Cloned RstV 1 80 w s.rsts (evT T (.tmp 16)) w1 := (by first | exact hd.1 | exact hd.2.1 | exact hd.2.2.1 | exact hd.2.2.2.1 | exact hd.2.2.2.2.1 | exact hd.2.2.2.2.2.1 | exact hd.2.2.2.2.2.2.1 | exact hd.2.2.2.2.2.2.2.1)
    have h4 : Cloned DevV 6 86 w s.devs (evT T (.tmp 19)) w1 := (by first | exact hd.1 | exact hd.2.1 | exact hd.2.2.1 | exact hd.2.2.2.1 | exact hd.2.2.2.2.1 | exact hd.2.2.2.2.2.1 | exact hd.2.2.2.2.2.2.1 | exact hd.2.2.2.2.2.2.2.1)
    obtain ⟨u1, d10⟩ : ∃ u, evT T (.tmp 10) = u := ⟨_, rfl⟩
    obtain ⟨u2, d13⟩ : ∃ u, evT T (.tmp 13) = u := ⟨_, rfl⟩
    obtain ⟨u3, d16⟩ : ∃ u, evT T (.tmp 16) = u := ⟨_, rfl⟩
    obtain ⟨u4, d19⟩ : ∃ u, evT T (.tmp 19) = u := ⟨_, rfl⟩
    rw [d10] at h1
    rw [d13] at h2
    rw [d16] at h3
    rw [d19] at h4
    refine gr_pure (v := .agg #[u1, u2, u3, u4]) ?_ ⟨u1, u2, u3, u4, rfl, h1, h2, h3, h4⟩
    obtain ⟨_, _, _, ho1⟩ := h1
    obtain ⟨_, _, _, ho2⟩ := h2
    obtain ⟨_, _, _, ho3⟩ := h3
    obtain ⟨_, _, _, ho4⟩ := h4
    obtain ⟨B1, e1, rfl⟩ := own_shape' ho1
    obtain ⟨B2, e2, rfl⟩ := own_shape' ho2
    obtain ⟨B3, e3, rfl⟩ := own_shape' ho3
    obtain ⟨B4, e4, rfl⟩ := own_shape' ho4
    clear hT hd hb ha0 ho1 ho2 ho3 ho4
    simp only [execOp]
    go_simp
  case s13 =>
    refine ⟨rfl, fun T w1 hT hb ha0 hd => ?_⟩
    have ec := evT_const T
    have ef := evT_func T
    have hz := hb.size
    simp only [World.size_alloc] at hz
    refine gr_made (v := mkPtr w1.heap.size) (w' := w1.alloc (.cells [.slice none 0 0, .slice none 0 0, .slice none 0 0, .slice none 0 0].toArray 27)) ?_ (World.grownBy_alloc _ _ _) (show IsBlk (w.heap.size + 2) mkPtr [.slice none 0 0, .slice none 0 0, .slice none 0 0, .slice none 0 0] 27 (mkPtr w1.heap.size) _ from isBlk_new (by omega))
    clear hT hd hb ha0
    simp only [execOp, mkPtr]
    go_simp
  case fin =>
    intro T w1 o ho hT hb hd
    obtain rfl : _ = o := Option.some.inj ho
    clear ho
    have ec := evT_const T
    simp only [putL, Act.put, Option.getD_some, List.setIfInBounds_toArray, List.set_cons_zero, List.set_cons_succ]
    obtain ⟨b3, d3, hb3, hbh3⟩ : IsBlk (w.heap.size + 2) mkPtr [.slice none 0 0, .slice none 0 0, .slice none 0 0, .slice none 0 0] 27 (evT T (.tmp 3)) w1 := hd.2.2.2.2.2.2.2.2.2.2.2.2.2.1
    obtain ⟨u1, u2, u3, u4, d20, h1, h2, h3, h4⟩ : Four s w (evT T (.tmp 20)) w1 := hd.2.2.2.2.2.2.2.2.2.2.2.2.1
    obtain ⟨B1, e1, rfl⟩ : ∃ A c, u1 = .slice A s.clks.length c := by obtain ⟨_, _, _, ho⟩ := h1; exact own_shape' ho
    obtain ⟨B2, e2, rfl⟩ : ∃ A c, u2 = .slice A s.doms.length c := by obtain ⟨_, _, _, ho⟩ := h2; exact own_shape' ho
    obtain ⟨B3, e3, rfl⟩ : ∃ A c, u3 = .slice A s.rsts.length c := by obtain ⟨_, _, _, ho⟩ := h3; exact own_shape' ho
    obtain ⟨B4, e4, rfl⟩ : ∃ A c, u4 = .slice A s.devs.length c := by obtain ⟨_, _, _, ho⟩ := h4; exact own_shape' ho
    obtain ⟨w3, hrun, hbox, hmv⟩ := store27 d3 d20 (BoxAt.of_blk hbh3)
    refine ⟨undef, w3, .inr (hrun _ _ _), ?_⟩
    have e3' : T 3 = .pointer (some ⟨b3, 0, none⟩) := d3
    rw [e3']
    have hst := copy_start hb hbh3 hb3 h1 h2 h3 h4 hmv hbox
    have HST := Lib.hid hst
    have HBX := Lib.hid hst.bx
    clear hT hd hb d3 d20 hbh3 h1 h2 h3 h4 hbox hmv hrun e3' hst ec HC
    obtain ⟨x0, y0⟩ := HBX.out 0 _ rfl
    obtain ⟨x3, y3⟩ := HBX.out 3 _ rfl
    go_wp2
    refine copyA_any w w3 (w.heap.size + 1) b3 s _ _ _ _ HOK.out HST.out _ ⟨rfl, rfl⟩ rfl rfl rfl rfl _ ?_
    clear HST HBX x0 y0 x3 y3
    intro a1 w4 hF1 q2 q3 hs4
    have HS4 := Lib.hid hs4
    have HBX := Lib.hid hs4.bx
    clear hs4
    obtain ⟨x3, y3⟩ := HBX.out 3 _ rfl
    simp only [Exit.then, Exit.inBlock, ↓reduceIte]
    obtain ⟨F1, rfl⟩ := hF1.open_
    rw [slT_listT (by omega)] at q2 q3
    rw [lit68, q2, q3]
    clear hF1 q2 q3
    go_wp2
    refine copyB_any w w4 (w.heap.size + 1) b3 s _ _ _ _ HOK.out HS4.out _ ⟨rfl, rfl⟩ rfl rfl rfl rfl _ ?_
    clear HS4 HBX x3 y3
    intro a2 w5 hF2 q2 q3 hs5
    have HS5 := Lib.hid hs5
    obtain ⟨x0, y0⟩ := hs5.bx 0 _ rfl
    obtain ⟨x1, y1⟩ := hs5.bx 1 _ rfl
    obtain ⟨x2, y2⟩ := hs5.bx 2 _ rfl
    obtain ⟨x3, y3⟩ := hs5.bx 3 _ rfl
    obtain ⟨z0, t0⟩ := hs5.br 0 _ rfl
    obtain ⟨z1, t1⟩ := hs5.br 1 _ rfl
    obtain ⟨z2, t2⟩ := hs5.br 2 _ rfl
    obtain ⟨z3, t3⟩ := hs5.br 3 _ rfl
    clear hs5
    simp only [Exit.then, Exit.inBlock, ↓reduceIte]
    obtain ⟨F2, rfl⟩ := hF2.open_
    rw [slT_listT (by omega)] at q2 q3
    rw [lit68, q2, q3]
    clear hF2 q2 q3
    go_wp2
    have hm : ∀ (W : World) (j : Nat) (u : Value), Moved [w.heap.size + 1] W (W.setCell ⟨w.heap.size + 1, j, none⟩ u) := fun W j u => Moved.setCell W (by simp) u
    have hend := HS5.out.done ((((hm w5 0 (.slice B1 s.clks.length e1)).trans (hm _ 1 (.slice B2 s.doms.length e2))).trans (hm _ 2 (.slice B3 s.rsts.length e3))).trans (hm _ 3 (.slice B4 s.devs.length e4)))
    exact bodyPost_ret (v := .agg #[.slice B1 s.clks.length e1, .slice B2 s.doms.length e2, .slice B3 s.rsts.length e3, .slice B4 s.devs.length e4]) (by simp [results, Try.results25, go_sem, z0, z1, z2, z3, t0, t1, t2, t3]) rfl ⟨_, _, _, _, rfl, hend.1, hend.2⟩

end Go.Proofs.Ytnfbhhgdibkbdaa
