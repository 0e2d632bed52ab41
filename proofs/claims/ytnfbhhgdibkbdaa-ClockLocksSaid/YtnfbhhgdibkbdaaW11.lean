/- The contracts of checkClock. (Written by wip/tools/w11.py.) -/
import Derived.Test.YtnfbhhgdibkbdaaG2
namespace Go.Proofs.Ytnfbhhgdibkbdaa
set_option linter.unusedSimpArgs false
set_option linter.unusedVariables false
open Go.RowKit Go.Maps

set_option maxRecDepth 100000 in
set_option maxHeartbeats 4000000 in
theorem checkClk_any (s : Chip) (vs : List Value) (x : Clk) (us : List Value) (w : World) (hok : ChipOk s) (h : ChipV w w.heap.size s vs) (hx : ClkV w w.heap.size x us) (hl : x.frm.length ≤ 1000) :
    Calls Try.prog 32 #[.agg vs.toArray, .agg us.toArray] w (ErrIs (clkE s.clks.length x) w) := by
  obtain ⟨A1, c1, A2, c2, A3, c3, A4, c4, rfl, l1, l2, l3, l4, h1, h2, h3, h4⟩ := h
  have HX := Lib.hid hx
  obtain ⟨Af, cf, rfl, hcf, hIf⟩ := hx
  have HI := Lib.hid hIf
  have n1 := hok.n1
  have hB := ((Below.refl w.heap.size w).alloc (Nat.le_refl _) (.cells #[.slice A1 s.clks.length c1, .slice A2 s.doms.length c2, .slice A3 s.rsts.length c3, .slice A4 s.devs.length c4] 27)).alloc (by simp) (.cells #[.int .u8 x.kind, .slice Af x.frm.length cf, .int .u64 x.rate, .int .i64 x.mul, .int .i64 x.div, .int .i64 x.lock] 46)
  have HB := Lib.hid hB
  have hC : ∀ W, Below (w.heap.size + 2) ((w.alloc (.cells #[.slice A1 s.clks.length c1, .slice A2 s.doms.length c2, .slice A3 s.rsts.length c3, .slice A4 s.devs.length c4] 27)).alloc (.cells #[.int .u8 x.kind, .slice Af x.frm.length cf, .int .u64 x.rate, .int .i64 x.mul, .int .i64 x.div, .int .i64 x.lock] 46)) W → AggAt W ⟨w.heap.size, 0, none⟩ [.slice A1 s.clks.length c1, .slice A2 s.doms.length c2, .slice A3 s.rsts.length c3, .slice A4 s.devs.length c4] ∧ AggAt W ⟨w.heap.size + 1, 0, none⟩ [.int .u8 x.kind, .slice Af x.frm.length cf, .int .u64 x.rate, .int .i64 x.mul, .int .i64 x.div, .int .i64 x.lock] := by
    intro W hW
    constructor
    · exact (agg_new w [.slice A1 s.clks.length c1, .slice A2 s.doms.length c2, .slice A3 s.rsts.length c3, .slice A4 s.devs.length c4] 27).keep (B := w.heap.size + 1) (by simp) fun p hp => (hW.cell (by omega)).trans (((Below.refl (w.heap.size + 1) _).alloc (by simp) _).cell hp)
    · have := agg_new (w.alloc (.cells #[.slice A1 s.clks.length c1, .slice A2 s.doms.length c2, .slice A3 s.rsts.length c3, .slice A4 s.devs.length c4] 27)) [.int .u8 x.kind, .slice Af x.frm.length cf, .int .u64 x.rate, .int .i64 x.mul, .int .i64 x.div, .int .i64 x.lock] 46
      simp only [World.size_alloc] at this
      exact this.keep (B := w.heap.size + 2) (by simp) fun p hp => hW.cell hp
  have HC := Lib.hid hC
  clear hok h1 h2 h3 h4 hIf hB hC
  go_enter Try.func32, Try.ntmps32
  go_wp2
  refine region_good (GL [IsV (.agg #[.int .u8 x.kind, .slice Af x.frm.length cf, .int .u64 x.rate, .int .i64 x.mul, .int .i64 x.div, .int .i64 x.lock]),
    IsV (.bool (joinedB x)),
    IsLook (orE (joinedB x) 1),
    IsV (.pointer (some ⟨w.heap.size, 0, none⟩)),
    IsV (.slice A1 s.clks.length c1),
    IsV (.int .i64 (s.clks.length : Nat)),
    IsV (.pointer (some ⟨w.heap.size + 1, 1, none⟩)),
    IsV (.slice Af x.frm.length cf),
    IsV (.bool (nodesB s.clks.length x.frm)),
    IsLook (orE (nodesB s.clks.length x.frm) 4),
    IsV (.agg #[.int .u8 x.kind, .slice Af x.frm.length cf, .int .u64 x.rate, .int .i64 x.mul, .int .i64 x.div, .int .i64 x.lock]),
    IsV (.bool (rangeB x)),
    IsLook (orE (rangeB x) 3),
    IsLooks [orE (joinedB x) 1, orE (nodesB s.clks.length x.frm) 4, orE (rangeB x) 3],
    IsV (.int .i64 (clkE s.clks.length x)),
    IsV (.int .i64 (clkE s.clks.length x))]) 20 (by kernel_rfl) rfl (by kernel_rfl) (GL.stb ⟨IsV.stb _, IsV.stb _, IsLook.stb _, IsV.stb _, IsV.stb _, IsV.stb _, IsV.stb _, IsV.stb _, IsV.stb _, IsLook.stb _, IsV.stb _, IsV.stb _, IsLook.stb _, IsLooks.stb _, IsV.stb _, IsV.stb _, trivial⟩) ⟨?s0, ?s1, ?s2, ?s3, ?s4, ?s5, ?s6, ?s7, ?s8, ?s9, ?s10, ?s11, ?s12, ?s13, ?s14, ?s15, trivial⟩ ?fin
  case s0 =>
    refine step_plain rfl fun T w1 hT hb hd => ?_
    have ec := evT_const T
    have ef := evT_func T
    have d3 : evT T (.tmp 3) = .pointer (some ⟨w.heap.size + 1, 0, none⟩) := hT 3 (by kernel_rfl)
    obtain ⟨ha0, ha1⟩ := HC.out w1 (hb.mono (by simp only [World.size_alloc]; omega))
    have f0 := ha1.zero
    have f1 := ha1.at_ 0 rfl
    have f2 := ha1.at_ 1 rfl
    have f3 := ha1.at_ 2 rfl
    have f4 := ha1.at_ 3 rfl
    have f5 := ha1.at_ 4 rfl
    clear hT hd hb ha0 ha1
    refine gives_value (v := .agg #[.int .u8 x.kind, .slice Af x.frm.length cf, .int .u64 x.rate, .int .i64 x.mul, .int .i64 x.div, .int .i64 x.lock]) ?_ rfl
    simp only [execOp]
    go_simp
  case s1 =>
    refine step_plain rfl fun T w1 hT hb hd => ?_
    have ec := evT_const T
    have ef := evT_func T
    have d5 : evT T (.tmp 5) = .agg #[.int .u8 x.kind, .slice Af x.frm.length cf, .int .u64 x.rate, .int .i64 x.mul, .int .i64 x.div, .int .i64 x.lock] := (by first | exact hd.1 | exact hd.2.1 | exact hd.2.2.1 | exact hd.2.2.2.1 | exact hd.2.2.2.2.1 | exact hd.2.2.2.2.2.1 | exact hd.2.2.2.2.2.2.1 | exact hd.2.2.2.2.2.2.2.1)
    refine gives_call (f := 69) (args := #[.agg #[.int .u8 x.kind, .slice Af x.frm.length cf, .int .u64 x.rate, .int .i64 x.mul, .int .i64 x.div, .int .i64 x.lock]]) ?_ ?_
    · clear hT hb hd
      simp only [execOp, resolve]
      go_simp
    · clear hT
      refine (joined_any x _ _ w1 (Steady.later HX.out (HB.out.trans (hb.mono (by simp only [World.size_alloc]; omega)))) (by omega)).mono ?_
      rintro e w2 ⟨rfl, hb2⟩
      exact ⟨_, rfl, hb2, rfl⟩
  case s2 =>
    refine step_plain rfl fun T w1 hT hb hd => ?_
    have ec := evT_const T
    have ef := evT_func T
    have d6 : evT T (.tmp 6) = .bool (joinedB x) := (by first | exact hd.1 | exact hd.2.1 | exact hd.2.2.1 | exact hd.2.2.2.1 | exact hd.2.2.2.2.1 | exact hd.2.2.2.2.2.1 | exact hd.2.2.2.2.2.2.1 | exact hd.2.2.2.2.2.2.2.1)
    refine gives_call (f := 28) (args := #[.bool (joinedB x), .int .i64 1]) ?_ ?_
    · clear hT hb hd
      simp only [execOp, resolve]
      go_simp
    · clear hT
      refine (unless_any _ _ w1).mono ?_
      rintro e w2 ⟨v, rfl, hl, hb2⟩
      exact ⟨_, rfl, hb2, hl⟩
  case s3 =>
    refine step_plain rfl fun T w1 hT hb hd => ?_
    have ec := evT_const T
    have ef := evT_func T
    have d2 : evT T (.tmp 2) = .pointer (some ⟨w.heap.size, 0, none⟩) := hT 2 (by kernel_rfl)
    clear hT hd hb
    refine gives_value (v := .pointer (some ⟨w.heap.size, 0, none⟩)) ?_ rfl
    simp only [execOp]
    go_simp
  case s4 =>
    refine step_plain rfl fun T w1 hT hb hd => ?_
    have ec := evT_const T
    have ef := evT_func T
    have d8 : evT T (.tmp 8) = .pointer (some ⟨w.heap.size, 0, none⟩) := (by first | exact hd.1 | exact hd.2.1 | exact hd.2.2.1 | exact hd.2.2.2.1 | exact hd.2.2.2.2.1 | exact hd.2.2.2.2.2.1 | exact hd.2.2.2.2.2.2.1 | exact hd.2.2.2.2.2.2.2.1)
    obtain ⟨ha0, ha1⟩ := HC.out w1 (hb.mono (by simp only [World.size_alloc]; omega))
    have f0 := ha0.zero
    have f1 := ha0.at_ 0 rfl
    have f2 := ha0.at_ 1 rfl
    have f3 := ha0.at_ 2 rfl
    clear hT hd hb ha0 ha1
    refine gives_value (v := .slice A1 s.clks.length c1) ?_ rfl
    simp only [execOp]
    go_simp
  case s5 =>
    refine step_plain rfl fun T w1 hT hb hd => ?_
    have ec := evT_const T
    have ef := evT_func T
    have d9 : evT T (.tmp 9) = .slice A1 s.clks.length c1 := (by first | exact hd.1 | exact hd.2.1 | exact hd.2.2.1 | exact hd.2.2.2.1 | exact hd.2.2.2.2.1 | exact hd.2.2.2.2.2.1 | exact hd.2.2.2.2.2.2.1 | exact hd.2.2.2.2.2.2.2.1)
    clear hT hd hb
    refine gives_value (v := .int .i64 (s.clks.length : Nat)) ?_ rfl
    simp only [execOp]
    go_simp
  case s6 =>
    refine step_plain rfl fun T w1 hT hb hd => ?_
    have ec := evT_const T
    have ef := evT_func T
    have d3 : evT T (.tmp 3) = .pointer (some ⟨w.heap.size + 1, 0, none⟩) := hT 3 (by kernel_rfl)
    clear hT hd hb
    refine gives_value (v := .pointer (some ⟨w.heap.size + 1, 1, none⟩)) ?_ rfl
    simp only [execOp]
    go_simp
  case s7 =>
    refine step_plain rfl fun T w1 hT hb hd => ?_
    have ec := evT_const T
    have ef := evT_func T
    have d11 : evT T (.tmp 11) = .pointer (some ⟨w.heap.size + 1, 1, none⟩) := (by first | exact hd.1 | exact hd.2.1 | exact hd.2.2.1 | exact hd.2.2.2.1 | exact hd.2.2.2.2.1 | exact hd.2.2.2.2.2.1 | exact hd.2.2.2.2.2.2.1 | exact hd.2.2.2.2.2.2.2.1)
    obtain ⟨ha0, ha1⟩ := HC.out w1 (hb.mono (by simp only [World.size_alloc]; omega))
    have f0 := ha1.zero
    have f1 := ha1.at_ 0 rfl
    have f2 := ha1.at_ 1 rfl
    have f3 := ha1.at_ 2 rfl
    have f4 := ha1.at_ 3 rfl
    have f5 := ha1.at_ 4 rfl
    clear hT hd hb ha0 ha1
    refine gives_value (v := .slice Af x.frm.length cf) ?_ rfl
    simp only [execOp]
    go_simp
  case s8 =>
    refine step_plain rfl fun T w1 hT hb hd => ?_
    have ec := evT_const T
    have ef := evT_func T
    have d10 : evT T (.tmp 10) = .int .i64 (s.clks.length : Nat) := (by first | exact hd.1 | exact hd.2.1 | exact hd.2.2.1 | exact hd.2.2.2.1 | exact hd.2.2.2.2.1 | exact hd.2.2.2.2.2.1 | exact hd.2.2.2.2.2.2.1 | exact hd.2.2.2.2.2.2.2.1)
    have d12 : evT T (.tmp 12) = .slice Af x.frm.length cf := (by first | exact hd.1 | exact hd.2.1 | exact hd.2.2.1 | exact hd.2.2.2.1 | exact hd.2.2.2.2.1 | exact hd.2.2.2.2.2.1 | exact hd.2.2.2.2.2.2.1 | exact hd.2.2.2.2.2.2.2.1)
    refine gives_call (f := 70) (args := #[.int .i64 (s.clks.length : Nat), .slice Af x.frm.length cf]) ?_ ?_
    · clear hT hb hd
      simp only [execOp, resolve]
      go_simp
    · clear hT
      refine (nodes_any s.clks.length cf Af x.frm w1 (by omega) (by omega) ((HI.out.below (HB.out.trans (hb.mono (by simp only [World.size_alloc]; omega))) (Nat.le_refl _)).more (HB.out.trans (hb.mono (by simp only [World.size_alloc]; omega))).size)).mono ?_
      rintro e w2 ⟨rfl, hb2⟩
      exact ⟨_, rfl, hb2, rfl⟩
  case s9 =>
    refine step_plain rfl fun T w1 hT hb hd => ?_
    have ec := evT_const T
    have ef := evT_func T
    have d13 : evT T (.tmp 13) = .bool (nodesB s.clks.length x.frm) := (by first | exact hd.1 | exact hd.2.1 | exact hd.2.2.1 | exact hd.2.2.2.1 | exact hd.2.2.2.2.1 | exact hd.2.2.2.2.2.1 | exact hd.2.2.2.2.2.2.1 | exact hd.2.2.2.2.2.2.2.1)
    refine gives_call (f := 28) (args := #[.bool (nodesB s.clks.length x.frm), .int .i64 4]) ?_ ?_
    · clear hT hb hd
      simp only [execOp, resolve]
      go_simp
    · clear hT
      refine (unless_any _ _ w1).mono ?_
      rintro e w2 ⟨v, rfl, hl, hb2⟩
      exact ⟨_, rfl, hb2, hl⟩
  case s10 =>
    refine step_plain rfl fun T w1 hT hb hd => ?_
    have ec := evT_const T
    have ef := evT_func T
    have d3 : evT T (.tmp 3) = .pointer (some ⟨w.heap.size + 1, 0, none⟩) := hT 3 (by kernel_rfl)
    obtain ⟨ha0, ha1⟩ := HC.out w1 (hb.mono (by simp only [World.size_alloc]; omega))
    have f0 := ha1.zero
    have f1 := ha1.at_ 0 rfl
    have f2 := ha1.at_ 1 rfl
    have f3 := ha1.at_ 2 rfl
    have f4 := ha1.at_ 3 rfl
    have f5 := ha1.at_ 4 rfl
    clear hT hd hb ha0 ha1
    refine gives_value (v := .agg #[.int .u8 x.kind, .slice Af x.frm.length cf, .int .u64 x.rate, .int .i64 x.mul, .int .i64 x.div, .int .i64 x.lock]) ?_ rfl
    simp only [execOp]
    go_simp
  case s11 =>
    refine step_plain rfl fun T w1 hT hb hd => ?_
    have ec := evT_const T
    have ef := evT_func T
    have d15 : evT T (.tmp 15) = .agg #[.int .u8 x.kind, .slice Af x.frm.length cf, .int .u64 x.rate, .int .i64 x.mul, .int .i64 x.div, .int .i64 x.lock] := (by first | exact hd.1 | exact hd.2.1 | exact hd.2.2.1 | exact hd.2.2.2.1 | exact hd.2.2.2.2.1 | exact hd.2.2.2.2.2.1 | exact hd.2.2.2.2.2.2.1 | exact hd.2.2.2.2.2.2.2.1)
    refine gives_call (f := 71) (args := #[.agg #[.int .u8 x.kind, .slice Af x.frm.length cf, .int .u64 x.rate, .int .i64 x.mul, .int .i64 x.div, .int .i64 x.lock]]) ?_ ?_
    · clear hT hb hd
      simp only [execOp, resolve]
      go_simp
    · clear hT
      refine (range_any x _ _ w1 (Steady.later HX.out (HB.out.trans (hb.mono (by simp only [World.size_alloc]; omega))))).mono ?_
      rintro e w2 ⟨rfl, hb2⟩
      exact ⟨_, rfl, hb2, rfl⟩
  case s12 =>
    refine step_plain rfl fun T w1 hT hb hd => ?_
    have ec := evT_const T
    have ef := evT_func T
    have d16 : evT T (.tmp 16) = .bool (rangeB x) := (by first | exact hd.1 | exact hd.2.1 | exact hd.2.2.1 | exact hd.2.2.2.1 | exact hd.2.2.2.2.1 | exact hd.2.2.2.2.2.1 | exact hd.2.2.2.2.2.2.1 | exact hd.2.2.2.2.2.2.2.1)
    refine gives_call (f := 28) (args := #[.bool (rangeB x), .int .i64 3]) ?_ ?_
    · clear hT hb hd
      simp only [execOp, resolve]
      go_simp
    · clear hT
      refine (unless_any _ _ w1).mono ?_
      rintro e w2 ⟨v, rfl, hl, hb2⟩
      exact ⟨_, rfl, hb2, hl⟩
  case s13 =>
    refine step_plain rfl fun T w1 hT hb hd => ?_
    have ec := evT_const T
    have ef := evT_func T
    have l0 : Look (evT T (.tmp 7)) (orE (joinedB x) 1) w1 := (by first | exact hd.1 | exact hd.2.1 | exact hd.2.2.1 | exact hd.2.2.2.1 | exact hd.2.2.2.2.1 | exact hd.2.2.2.2.2.1 | exact hd.2.2.2.2.2.2.1 | exact hd.2.2.2.2.2.2.2.1)
    obtain ⟨g0, lb0, q0, -⟩ := id l0
    have l1 : Look (evT T (.tmp 14)) (orE (nodesB s.clks.length x.frm) 4) w1 := (by first | exact hd.1 | exact hd.2.1 | exact hd.2.2.1 | exact hd.2.2.2.1 | exact hd.2.2.2.2.1 | exact hd.2.2.2.2.2.1 | exact hd.2.2.2.2.2.2.1 | exact hd.2.2.2.2.2.2.2.1)
    obtain ⟨g1, lb1, q1, -⟩ := id l1
    have l2 : Look (evT T (.tmp 17)) (orE (rangeB x) 3) w1 := (by first | exact hd.1 | exact hd.2.1 | exact hd.2.2.1 | exact hd.2.2.2.1 | exact hd.2.2.2.2.1 | exact hd.2.2.2.2.2.1 | exact hd.2.2.2.2.2.2.1 | exact hd.2.2.2.2.2.2.2.1)
    obtain ⟨g2, lb2, q2, -⟩ := id l2
    clear hT hb hd
    rw [q0] at l0
    rw [q1] at l1
    rw [q2] at l2
    refine gives_made (v := .slice (some ⟨w1.heap.size, 0, none⟩) 3 3) (w' := w1.alloc (.cells #[.func (.func g0) #[] lb0, .func (.func g1) #[] lb1, .func (.func g2) #[] lb2] 66)) ?_ ((Below.refl _ _).alloc (Nat.le_refl _) _) ⟨_, _, rfl, looks_newL w1 [.func (.func g0) #[] lb0, .func (.func g1) #[] lb1, .func (.func g2) #[] lb2] _ ⟨l0, l1, l2, trivial⟩⟩
    clear l0 l1 l2
    simp only [execOp]
    go_simp
  case s14 =>
    refine step_plain rfl fun T w1 hT hb hd => ?_
    have ec := evT_const T
    have ef := evT_func T
    obtain ⟨A, c, d18, hl⟩ : IsLooks [orE (joinedB x) 1, orE (nodesB s.clks.length x.frm) 4, orE (rangeB x) 3] (evT T (.tmp 18)) w1 := hd.1
    refine gives_call (f := 27) (args := #[.slice A 3 c]) ?_ ?_
    · clear hT hb hd hl
      simp only [execOp, resolve]
      go_simp
    · clear hT
      refine (first_any A c [orE (joinedB x) 1, orE (nodesB s.clks.length x.frm) 4, orE (rangeB x) 3] w1 (by simp) hl).mono ?_
      rintro e w2 ⟨rfl, hb2⟩
      exact ⟨_, rfl, hb2, rfl⟩
  case s15 =>
    refine step_plain rfl fun T w1 hT hb hd => ?_
    have ec := evT_const T
    have ef := evT_func T
    have d19 : evT T (.tmp 19) = .int .i64 (clkE s.clks.length x) := (by first | exact hd.1 | exact hd.2.1 | exact hd.2.2.1 | exact hd.2.2.2.1 | exact hd.2.2.2.2.1 | exact hd.2.2.2.2.2.1 | exact hd.2.2.2.2.2.2.1 | exact hd.2.2.2.2.2.2.2.1)
    clear hT hd hb
    refine gives_value (v := .int .i64 (clkE s.clks.length x)) ?_ rfl
    simp only [execOp]
    go_simp
  case fin =>
    intro T w1 hT hb hd
    have e : T 4 = .int .i64 (clkE s.clks.length x) := hd.2.2.2.2.2.2.2.2.2.2.2.2.2.2.2.1
    have hl : listT T 20 = #[T 0, T 1, T 2, T 3, T 4, T 5, T 6, T 7, T 8, T 9, T 10, T 11, T 12, T 13, T 14, T 15, T 16, T 17, T 18, T 19] := rfl
    rw [hl, e]
    clear hT hd hl
    go_wp2
    go_ret
    exact ⟨rfl, HB.out.trans (hb.mono (by simp only [World.size_alloc]; omega))⟩

end Go.Proofs.Ytnfbhhgdibkbdaa
