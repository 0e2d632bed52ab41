/- The contracts of checkDomain, checkReset, checkDevice. (Written by wip/tools/w12.py.) -/
import Derived.Test.YtnfbhhgdibkbdaaG2
namespace Go.Proofs.Ytnfbhhgdibkbdaa
set_option linter.unusedSimpArgs false
set_option linter.unusedVariables false
open Go.RowKit Go.Maps

set_option maxRecDepth 100000 in
set_option maxHeartbeats 4000000 in
theorem checkDom_any (s : Chip) (vs : List Value) (x : Dom) (us : List Value) (w : World) (hok : ChipOk s) (h : ChipV w w.heap.size s vs) (hx : DomV w w.heap.size x us) :
    Calls Try.prog 37 #[.agg vs.toArray, .agg us.toArray] w (ErrIs (domE s.doms.length x) w) := by
  obtain ⟨A1, c1, A2, c2, A3, c3, A4, c4, rfl, l1, l2, l3, l4, h1, h2, h3, h4⟩ := h
  cases hx
  have n2 := hok.n2
  have hB := ((Below.refl w.heap.size w).alloc (Nat.le_refl _) (.cells #[.slice A1 s.clks.length c1, .slice A2 s.doms.length c2, .slice A3 s.rsts.length c3, .slice A4 s.devs.length c4] 27)).alloc (by simp) (.cells #[.int .i64 x.above, .int .i64 x.delay, .bool x.ret] 75)
  have HB := Lib.hid hB
  have hC : ∀ W, Below (w.heap.size + 2) ((w.alloc (.cells #[.slice A1 s.clks.length c1, .slice A2 s.doms.length c2, .slice A3 s.rsts.length c3, .slice A4 s.devs.length c4] 27)).alloc (.cells #[.int .i64 x.above, .int .i64 x.delay, .bool x.ret] 75)) W → AggAt W ⟨w.heap.size, 0, none⟩ [.slice A1 s.clks.length c1, .slice A2 s.doms.length c2, .slice A3 s.rsts.length c3, .slice A4 s.devs.length c4] ∧ AggAt W ⟨w.heap.size + 1, 0, none⟩ [.int .i64 x.above, .int .i64 x.delay, .bool x.ret] := by
    intro W hW
    constructor
    · exact (agg_new w [.slice A1 s.clks.length c1, .slice A2 s.doms.length c2, .slice A3 s.rsts.length c3, .slice A4 s.devs.length c4] 27).keep (B := w.heap.size + 1) (by simp) fun p hp => (hW.cell (by omega)).trans (((Below.refl (w.heap.size + 1) _).alloc (by simp) _).cell hp)
    · have := agg_new (w.alloc (.cells #[.slice A1 s.clks.length c1, .slice A2 s.doms.length c2, .slice A3 s.rsts.length c3, .slice A4 s.devs.length c4] 27)) [.int .i64 x.above, .int .i64 x.delay, .bool x.ret] 75
      simp only [World.size_alloc] at this
      exact this.keep (B := w.heap.size + 2) (by simp) fun p hp => hW.cell hp
  have HC := Lib.hid hC
  clear hok h1 h2 h3 h4 hB hC
  by_cases ha : x.above = -1
  · have e1 : (x.above == -1) = true := by simpa using ha
    have hm : domE s.doms.length x = firstE [orE (true) 4, orE (betw x.delay 0 20) 3] := by unfold domE; rw [e1]; rfl
    have HM := Lib.hid hm
    clear hm ha
    go_enter Try.func37, Try.ntmps37
    go_wp2
    refine region_good (GL [IsV (.pointer (some ⟨w.heap.size + 1, 0, none⟩)),
      IsV (.int .i64 x.above),
      IsV (.bool true),
      IsV (.bool true),
      IsV undef,
      IsV undef,
      IsV undef,
      IsV undef,
      IsV undef,
      IsV undef,
      IsV undef,
      IsV (.bool true),
      IsLook (orE (true) 4),
      IsV (.pointer (some ⟨w.heap.size + 1, 1, none⟩)),
      IsV (.int .i64 x.delay),
      IsV (.bool (betw x.delay 0 20)),
      IsLook (orE (betw x.delay 0 20) 3),
      IsLooks [orE (true) 4, orE (betw x.delay 0 20) 3],
      IsV (.int .i64 (firstE [orE (true) 4, orE (betw x.delay 0 20) 3])),
      IsV (.int .i64 (firstE [orE (true) 4, orE (betw x.delay 0 20) 3]))]) 24 (by kernel_rfl) rfl (by kernel_rfl) (GL.stb ⟨IsV.stb _, IsV.stb _, IsV.stb _, IsV.stb _, IsV.stb _, IsV.stb _, IsV.stb _, IsV.stb _, IsV.stb _, IsV.stb _, IsV.stb _, IsV.stb _, IsLook.stb _, IsV.stb _, IsV.stb _, IsV.stb _, IsLook.stb _, IsLooks.stb _, IsV.stb _, IsV.stb _, trivial⟩) ⟨?s0, ?s1, ?s2, ?s3, ?s4, ?s5, ?s6, ?s7, ?s8, ?s9, ?s10, ?s11, ?s12, ?s13, ?s14, ?s15, ?s16, ?s17, ?s18, ?s19, trivial⟩ ?fin
    case s0 =>
      refine step_plain rfl fun T w1 hT hb hd => ?_
      have ec := evT_const T
      have ef := evT_func T
      have d3 : evT T (.tmp 3) = .pointer (some ⟨w.heap.size + 1, 0, none⟩) := hT 3 (by kernel_rfl)
      clear hT hd hb
      refine gives_value (v := .pointer (some ⟨w.heap.size + 1, 0, none⟩)) ?_ rfl
      simp only [execOp]
      go_simp
    case s1 =>
      refine step_plain rfl fun T w1 hT hb hd => ?_
      have ec := evT_const T
      have ef := evT_func T
      have d5 : evT T (.tmp 5) = .pointer (some ⟨w.heap.size + 1, 0, none⟩) := (by first | exact hd.1 | exact hd.2.1 | exact hd.2.2.1 | exact hd.2.2.2.1 | exact hd.2.2.2.2.1 | exact hd.2.2.2.2.2.1 | exact hd.2.2.2.2.2.2.1 | exact hd.2.2.2.2.2.2.2.1)
      obtain ⟨ha0, ha1⟩ := HC.out w1 (hb.mono (by simp only [World.size_alloc]; omega))
      have f0 := ha1.zero
      have f1 := ha1.at_ 0 rfl
      have f2 := ha1.at_ 1 rfl
      clear hT hd hb ha0 ha1
      refine gives_value (v := .int .i64 x.above) ?_ rfl
      simp only [execOp]
      go_simp
    case s2 =>
      refine step_plain rfl fun T w1 hT hb hd => ?_
      have ec := evT_const T
      have ef := evT_func T
      have d6 : evT T (.tmp 6) = .int .i64 x.above := (by first | exact hd.1 | exact hd.2.1 | exact hd.2.2.1 | exact hd.2.2.2.1 | exact hd.2.2.2.2.1 | exact hd.2.2.2.2.2.1 | exact hd.2.2.2.2.2.2.1 | exact hd.2.2.2.2.2.2.2.1)
      clear hT hd hb
      refine gives_value (v := .bool true) ?_ rfl
      simp only [execOp]
      go_simp
    case s3 =>
      refine step_plain rfl fun T w1 hT hb hd => ?_
      have ec := evT_const T
      have ef := evT_func T
      have d7 : evT T (.tmp 7) = .bool true := (by first | exact hd.1 | exact hd.2.1 | exact hd.2.2.1 | exact hd.2.2.2.1 | exact hd.2.2.2.2.1 | exact hd.2.2.2.2.2.1 | exact hd.2.2.2.2.2.2.1 | exact hd.2.2.2.2.2.2.2.1)
      clear hT hd hb
      refine gives_value (v := .bool true) ?_ rfl
      simp only [execOp]
      go_simp
    case s4 =>
      exact step_off 3 8 false rfl rfl fun T w1 hT hb hd => ⟨(by first | exact hd.1 | exact hd.2.1 | exact hd.2.2.1 | exact hd.2.2.2.1 | exact hd.2.2.2.2.1 | exact hd.2.2.2.2.2.1 | exact hd.2.2.2.2.2.2.1 | exact hd.2.2.2.2.2.2.2.1), rfl⟩
    case s5 =>
      exact step_off 3 8 false rfl rfl fun T w1 hT hb hd => ⟨(by first | exact hd.1 | exact hd.2.1 | exact hd.2.2.1 | exact hd.2.2.2.1 | exact hd.2.2.2.2.1 | exact hd.2.2.2.2.2.1 | exact hd.2.2.2.2.2.2.1 | exact hd.2.2.2.2.2.2.2.1), rfl⟩
    case s6 =>
      exact step_off 3 8 false rfl rfl fun T w1 hT hb hd => ⟨(by first | exact hd.1 | exact hd.2.1 | exact hd.2.2.1 | exact hd.2.2.2.1 | exact hd.2.2.2.2.1 | exact hd.2.2.2.2.2.1 | exact hd.2.2.2.2.2.2.1 | exact hd.2.2.2.2.2.2.2.1), rfl⟩
    case s7 =>
      exact step_off 3 8 false rfl rfl fun T w1 hT hb hd => ⟨(by first | exact hd.1 | exact hd.2.1 | exact hd.2.2.1 | exact hd.2.2.2.1 | exact hd.2.2.2.2.1 | exact hd.2.2.2.2.2.1 | exact hd.2.2.2.2.2.2.1 | exact hd.2.2.2.2.2.2.2.1), rfl⟩
    case s8 =>
      exact step_off 3 8 false rfl rfl fun T w1 hT hb hd => ⟨(by first | exact hd.1 | exact hd.2.1 | exact hd.2.2.1 | exact hd.2.2.2.1 | exact hd.2.2.2.2.1 | exact hd.2.2.2.2.2.1 | exact hd.2.2.2.2.2.2.1 | exact hd.2.2.2.2.2.2.2.1), rfl⟩
    case s9 =>
      exact step_off 3 8 false rfl rfl fun T w1 hT hb hd => ⟨(by first | exact hd.1 | exact hd.2.1 | exact hd.2.2.1 | exact hd.2.2.2.1 | exact hd.2.2.2.2.1 | exact hd.2.2.2.2.2.1 | exact hd.2.2.2.2.2.2.1 | exact hd.2.2.2.2.2.2.2.1), rfl⟩
    case s10 =>
      exact step_off 3 8 false rfl rfl fun T w1 hT hb hd => ⟨(by first | exact hd.1 | exact hd.2.1 | exact hd.2.2.1 | exact hd.2.2.2.1 | exact hd.2.2.2.2.1 | exact hd.2.2.2.2.2.1 | exact hd.2.2.2.2.2.2.1 | exact hd.2.2.2.2.2.2.2.1), rfl⟩
    case s11 =>
      refine step_plain rfl fun T w1 hT hb hd => ?_
      have ec := evT_const T
      have ef := evT_func T
      have d8 : evT T (.tmp 8) = .bool true := (by first | exact hd.1 | exact hd.2.1 | exact hd.2.2.1 | exact hd.2.2.2.1 | exact hd.2.2.2.2.1 | exact hd.2.2.2.2.2.1 | exact hd.2.2.2.2.2.2.1 | exact hd.2.2.2.2.2.2.2.1)
      clear hT hd hb
      refine gives_value (v := .bool true) ?_ rfl
      simp only [execOp]
      go_simp
    case s12 =>
      refine step_plain rfl fun T w1 hT hb hd => ?_
      have ec := evT_const T
      have ef := evT_func T
      have d16 : evT T (.tmp 16) = .bool (true) := (by first | exact hd.1 | exact hd.2.1 | exact hd.2.2.1 | exact hd.2.2.2.1 | exact hd.2.2.2.2.1 | exact hd.2.2.2.2.2.1 | exact hd.2.2.2.2.2.2.1 | exact hd.2.2.2.2.2.2.2.1)
      refine gives_call (f := 28) (args := #[.bool (true), .int .i64 4]) ?_ ?_
      · clear hT hb hd
        simp only [execOp, resolve]
        go_simp
      · clear hT
        refine (unless_any _ _ w1).mono ?_
        rintro e w2 ⟨v, rfl, hl, hb2⟩
        exact ⟨_, rfl, hb2, hl⟩
    case s13 =>
      refine step_plain rfl fun T w1 hT hb hd => ?_
      have ec := evT_const T
      have ef := evT_func T
      have d3 : evT T (.tmp 3) = .pointer (some ⟨w.heap.size + 1, 0, none⟩) := hT 3 (by kernel_rfl)
      clear hT hd hb
      refine gives_value (v := .pointer (some ⟨w.heap.size + 1, 1, none⟩)) ?_ rfl
      simp only [execOp]
      go_simp
    case s14 =>
      refine step_plain rfl fun T w1 hT hb hd => ?_
      have ec := evT_const T
      have ef := evT_func T
      have d18 : evT T (.tmp 18) = .pointer (some ⟨w.heap.size + 1, 1, none⟩) := (by first | exact hd.1 | exact hd.2.1 | exact hd.2.2.1 | exact hd.2.2.2.1 | exact hd.2.2.2.2.1 | exact hd.2.2.2.2.2.1 | exact hd.2.2.2.2.2.2.1 | exact hd.2.2.2.2.2.2.2.1)
      obtain ⟨ha0, ha1⟩ := HC.out w1 (hb.mono (by simp only [World.size_alloc]; omega))
      have f0 := ha1.zero
      have f1 := ha1.at_ 0 rfl
      have f2 := ha1.at_ 1 rfl
      clear hT hd hb ha0 ha1
      refine gives_value (v := .int .i64 x.delay) ?_ rfl
      simp only [execOp]
      go_simp
    case s15 =>
      refine step_plain rfl fun T w1 hT hb hd => ?_
      have ec := evT_const T
      have ef := evT_func T
      have d19 : evT T (.tmp 19) = .int .i64 x.delay := (by first | exact hd.1 | exact hd.2.1 | exact hd.2.2.1 | exact hd.2.2.2.1 | exact hd.2.2.2.2.1 | exact hd.2.2.2.2.2.1 | exact hd.2.2.2.2.2.2.1 | exact hd.2.2.2.2.2.2.2.1)
      refine gives_call (f := 78) (args := #[.int .i64 x.delay]) ?_ ?_
      · clear hT hb hd
        simp only [execOp, resolve]
        go_simp
      · clear hT
        refine (ticks_any x.delay w1).mono ?_
        rintro e w' ⟨rfl, rfl⟩
        exact ⟨_, rfl, Below.refl _ _, rfl⟩
    case s16 =>
      refine step_plain rfl fun T w1 hT hb hd => ?_
      have ec := evT_const T
      have ef := evT_func T
      have d20 : evT T (.tmp 20) = .bool (betw x.delay 0 20) := (by first | exact hd.1 | exact hd.2.1 | exact hd.2.2.1 | exact hd.2.2.2.1 | exact hd.2.2.2.2.1 | exact hd.2.2.2.2.2.1 | exact hd.2.2.2.2.2.2.1 | exact hd.2.2.2.2.2.2.2.1)
      refine gives_call (f := 28) (args := #[.bool (betw x.delay 0 20), .int .i64 3]) ?_ ?_
      · clear hT hb hd
        simp only [execOp, resolve]
        go_simp
      · clear hT
        refine (unless_any _ _ w1).mono ?_
        rintro e w2 ⟨v, rfl, hl, hb2⟩
        exact ⟨_, rfl, hb2, hl⟩
    case s17 =>
      refine step_plain rfl fun T w1 hT hb hd => ?_
      have ec := evT_const T
      have ef := evT_func T
      have l0 : Look (evT T (.tmp 17)) (orE (true) 4) w1 := (by first | exact hd.1 | exact hd.2.1 | exact hd.2.2.1 | exact hd.2.2.2.1 | exact hd.2.2.2.2.1 | exact hd.2.2.2.2.2.1 | exact hd.2.2.2.2.2.2.1 | exact hd.2.2.2.2.2.2.2.1)
      obtain ⟨g0, lb0, q0, -⟩ := id l0
      have l1 : Look (evT T (.tmp 21)) (orE (betw x.delay 0 20) 3) w1 := (by first | exact hd.1 | exact hd.2.1 | exact hd.2.2.1 | exact hd.2.2.2.1 | exact hd.2.2.2.2.1 | exact hd.2.2.2.2.2.1 | exact hd.2.2.2.2.2.2.1 | exact hd.2.2.2.2.2.2.2.1)
      obtain ⟨g1, lb1, q1, -⟩ := id l1
      clear hT hb hd
      rw [q0] at l0
      rw [q1] at l1
      refine gives_made (v := .slice (some ⟨w1.heap.size, 0, none⟩) 2 2) (w' := w1.alloc (.cells #[.func (.func g0) #[] lb0, .func (.func g1) #[] lb1] 66)) ?_ ((Below.refl _ _).alloc (Nat.le_refl _) _) ⟨_, _, rfl, looks_newL w1 [.func (.func g0) #[] lb0, .func (.func g1) #[] lb1] _ ⟨l0, l1, trivial⟩⟩
      clear l0 l1
      simp only [execOp]
      go_simp
    case s18 =>
      refine step_plain rfl fun T w1 hT hb hd => ?_
      have ec := evT_const T
      have ef := evT_func T
      obtain ⟨A, c, d22, hl⟩ : IsLooks [orE (true) 4, orE (betw x.delay 0 20) 3] (evT T (.tmp 22)) w1 := (by first | exact hd.1 | exact hd.2.1 | exact hd.2.2.1 | exact hd.2.2.2.1 | exact hd.2.2.2.2.1 | exact hd.2.2.2.2.2.1 | exact hd.2.2.2.2.2.2.1 | exact hd.2.2.2.2.2.2.2.1)
      refine gives_call (f := 27) (args := #[.slice A 2 c]) ?_ ?_
      · clear hT hb hd hl
        simp only [execOp, resolve]
        go_simp
      · clear hT
        refine (first_any A c [orE (true) 4, orE (betw x.delay 0 20) 3] w1 (by simp) hl).mono ?_
        rintro e w2 ⟨rfl, hb2⟩
        exact ⟨_, rfl, hb2, rfl⟩
    case s19 =>
      refine step_plain rfl fun T w1 hT hb hd => ?_
      have ec := evT_const T
      have ef := evT_func T
      have d23 : evT T (.tmp 23) = .int .i64 (firstE [orE (true) 4, orE (betw x.delay 0 20) 3]) := (by first | exact hd.1 | exact hd.2.1 | exact hd.2.2.1 | exact hd.2.2.2.1 | exact hd.2.2.2.2.1 | exact hd.2.2.2.2.2.1 | exact hd.2.2.2.2.2.2.1 | exact hd.2.2.2.2.2.2.2.1)
      clear hT hd hb
      refine gives_value (v := .int .i64 (firstE [orE (true) 4, orE (betw x.delay 0 20) 3])) ?_ rfl
      simp only [execOp]
      go_simp
    case fin =>
      intro T w1 hT hb hd
      have e : T 4 = .int .i64 (firstE [orE (true) 4, orE (betw x.delay 0 20) 3]) := hd.2.2.2.2.2.2.2.2.2.2.2.2.2.2.2.2.2.2.2.1
      have hl : listT T 24 = #[T 0, T 1, T 2, T 3, T 4, T 5, T 6, T 7, T 8, T 9, T 10, T 11, T 12, T 13, T 14, T 15, T 16, T 17, T 18, T 19, T 20, T 21, T 22, T 23] := rfl
      rw [hl, e]
      clear hT hd hl
      go_wp2
      go_ret
      exact ⟨by rw [HM.out]; rfl, HB.out.trans (hb.mono (by simp only [World.size_alloc]; omega))⟩
  · have e1 : (x.above == -1) = false := by simpa using ha
    have hm : domE s.doms.length x = firstE [orE (nodesB s.doms.length [x.above]) 4, orE (betw x.delay 0 20) 3] := by unfold domE; rw [e1]; rfl
    have HM := Lib.hid hm
    clear hm ha
    go_enter Try.func37, Try.ntmps37
    go_wp2
    refine region_good (GL [IsV (.pointer (some ⟨w.heap.size + 1, 0, none⟩)),
      IsV (.int .i64 x.above),
      IsV (.bool false),
      IsV (.bool false),
      IsV (.pointer (some ⟨w.heap.size, 1, none⟩)),
      IsV (.slice A2 s.doms.length c2),
      IsV (.int .i64 (s.doms.length : Nat)),
      IsV (.pointer (some ⟨w.heap.size + 1, 0, none⟩)),
      IsV (.int .i64 x.above),
      IsInts [x.above],
      IsV (.bool (nodesB (s.doms.length) [x.above])),
      IsV (.bool (nodesB s.doms.length [x.above])),
      IsLook (orE (nodesB s.doms.length [x.above]) 4),
      IsV (.pointer (some ⟨w.heap.size + 1, 1, none⟩)),
      IsV (.int .i64 x.delay),
      IsV (.bool (betw x.delay 0 20)),
      IsLook (orE (betw x.delay 0 20) 3),
      IsLooks [orE (nodesB s.doms.length [x.above]) 4, orE (betw x.delay 0 20) 3],
      IsV (.int .i64 (firstE [orE (nodesB s.doms.length [x.above]) 4, orE (betw x.delay 0 20) 3])),
      IsV (.int .i64 (firstE [orE (nodesB s.doms.length [x.above]) 4, orE (betw x.delay 0 20) 3]))]) 24 (by kernel_rfl) rfl (by kernel_rfl) (GL.stb ⟨IsV.stb _, IsV.stb _, IsV.stb _, IsV.stb _, IsV.stb _, IsV.stb _, IsV.stb _, IsV.stb _, IsV.stb _, IsInts.stb _, IsV.stb _, IsV.stb _, IsLook.stb _, IsV.stb _, IsV.stb _, IsV.stb _, IsLook.stb _, IsLooks.stb _, IsV.stb _, IsV.stb _, trivial⟩) ⟨?s0, ?s1, ?s2, ?s3, ?s4, ?s5, ?s6, ?s7, ?s8, ?s9, ?s10, ?s11, ?s12, ?s13, ?s14, ?s15, ?s16, ?s17, ?s18, ?s19, trivial⟩ ?fin
    case s0 =>
      refine step_plain rfl fun T w1 hT hb hd => ?_
      have ec := evT_const T
      have ef := evT_func T
      have d3 : evT T (.tmp 3) = .pointer (some ⟨w.heap.size + 1, 0, none⟩) := hT 3 (by kernel_rfl)
      clear hT hd hb
      refine gives_value (v := .pointer (some ⟨w.heap.size + 1, 0, none⟩)) ?_ rfl
      simp only [execOp]
      go_simp
    case s1 =>
      refine step_plain rfl fun T w1 hT hb hd => ?_
      have ec := evT_const T
      have ef := evT_func T
      have d5 : evT T (.tmp 5) = .pointer (some ⟨w.heap.size + 1, 0, none⟩) := (by first | exact hd.1 | exact hd.2.1 | exact hd.2.2.1 | exact hd.2.2.2.1 | exact hd.2.2.2.2.1 | exact hd.2.2.2.2.2.1 | exact hd.2.2.2.2.2.2.1 | exact hd.2.2.2.2.2.2.2.1)
      obtain ⟨ha0, ha1⟩ := HC.out w1 (hb.mono (by simp only [World.size_alloc]; omega))
      have f0 := ha1.zero
      have f1 := ha1.at_ 0 rfl
      have f2 := ha1.at_ 1 rfl
      clear hT hd hb ha0 ha1
      refine gives_value (v := .int .i64 x.above) ?_ rfl
      simp only [execOp]
      go_simp
    case s2 =>
      refine step_plain rfl fun T w1 hT hb hd => ?_
      have ec := evT_const T
      have ef := evT_func T
      have d6 : evT T (.tmp 6) = .int .i64 x.above := (by first | exact hd.1 | exact hd.2.1 | exact hd.2.2.1 | exact hd.2.2.2.1 | exact hd.2.2.2.2.1 | exact hd.2.2.2.2.2.1 | exact hd.2.2.2.2.2.2.1 | exact hd.2.2.2.2.2.2.2.1)
      clear hT hd hb
      refine gives_value (v := .bool false) ?_ rfl
      simp only [execOp]
      go_simp
    case s3 =>
      refine step_plain rfl fun T w1 hT hb hd => ?_
      have ec := evT_const T
      have ef := evT_func T
      have d7 : evT T (.tmp 7) = .bool false := (by first | exact hd.1 | exact hd.2.1 | exact hd.2.2.1 | exact hd.2.2.2.1 | exact hd.2.2.2.2.1 | exact hd.2.2.2.2.2.1 | exact hd.2.2.2.2.2.2.1 | exact hd.2.2.2.2.2.2.2.1)
      clear hT hd hb
      refine gives_value (v := .bool false) ?_ rfl
      simp only [execOp]
      go_simp
    case s4 =>
      refine step_on 3 8 false rfl rfl fun T w1 hT hb hd => ⟨(by first | exact hd.1 | exact hd.2.1 | exact hd.2.2.1 | exact hd.2.2.2.1 | exact hd.2.2.2.2.1 | exact hd.2.2.2.2.2.1 | exact hd.2.2.2.2.2.2.1 | exact hd.2.2.2.2.2.2.2.1), ?_⟩
      have ec := evT_const T
      have ef := evT_func T
      have d2 : evT T (.tmp 2) = .pointer (some ⟨w.heap.size, 0, none⟩) := hT 2 (by kernel_rfl)
      clear hT hd hb
      refine gives_value (v := .pointer (some ⟨w.heap.size, 1, none⟩)) ?_ rfl
      simp only [execOp]
      go_simp
    case s5 =>
      refine step_on 3 8 false rfl rfl fun T w1 hT hb hd => ⟨(by first | exact hd.1 | exact hd.2.1 | exact hd.2.2.1 | exact hd.2.2.2.1 | exact hd.2.2.2.2.1 | exact hd.2.2.2.2.2.1 | exact hd.2.2.2.2.2.2.1 | exact hd.2.2.2.2.2.2.2.1), ?_⟩
      have ec := evT_const T
      have ef := evT_func T
      have d9 : evT T (.tmp 9) = .pointer (some ⟨w.heap.size, 1, none⟩) := (by first | exact hd.1 | exact hd.2.1 | exact hd.2.2.1 | exact hd.2.2.2.1 | exact hd.2.2.2.2.1 | exact hd.2.2.2.2.2.1 | exact hd.2.2.2.2.2.2.1 | exact hd.2.2.2.2.2.2.2.1)
      obtain ⟨ha0, ha1⟩ := HC.out w1 (hb.mono (by simp only [World.size_alloc]; omega))
      have f0 := ha0.zero
      have f1 := ha0.at_ 0 rfl
      have f2 := ha0.at_ 1 rfl
      have f3 := ha0.at_ 2 rfl
      clear hT hd hb ha0 ha1
      refine gives_value (v := .slice A2 s.doms.length c2) ?_ rfl
      simp only [execOp]
      go_simp
    case s6 =>
      refine step_on 3 8 false rfl rfl fun T w1 hT hb hd => ⟨(by first | exact hd.1 | exact hd.2.1 | exact hd.2.2.1 | exact hd.2.2.2.1 | exact hd.2.2.2.2.1 | exact hd.2.2.2.2.2.1 | exact hd.2.2.2.2.2.2.1 | exact hd.2.2.2.2.2.2.2.1), ?_⟩
      have ec := evT_const T
      have ef := evT_func T
      have d10 : evT T (.tmp 10) = .slice A2 s.doms.length c2 := (by first | exact hd.1 | exact hd.2.1 | exact hd.2.2.1 | exact hd.2.2.2.1 | exact hd.2.2.2.2.1 | exact hd.2.2.2.2.2.1 | exact hd.2.2.2.2.2.2.1 | exact hd.2.2.2.2.2.2.2.1)
      clear hT hd hb
      refine gives_value (v := .int .i64 (s.doms.length : Nat)) ?_ rfl
      simp only [execOp]
      go_simp
    case s7 =>
      refine step_on 3 8 false rfl rfl fun T w1 hT hb hd => ⟨(by first | exact hd.1 | exact hd.2.1 | exact hd.2.2.1 | exact hd.2.2.2.1 | exact hd.2.2.2.2.1 | exact hd.2.2.2.2.2.1 | exact hd.2.2.2.2.2.2.1 | exact hd.2.2.2.2.2.2.2.1), ?_⟩
      have ec := evT_const T
      have ef := evT_func T
      have d3 : evT T (.tmp 3) = .pointer (some ⟨w.heap.size + 1, 0, none⟩) := hT 3 (by kernel_rfl)
      clear hT hd hb
      refine gives_value (v := .pointer (some ⟨w.heap.size + 1, 0, none⟩)) ?_ rfl
      simp only [execOp]
      go_simp
    case s8 =>
      refine step_on 3 8 false rfl rfl fun T w1 hT hb hd => ⟨(by first | exact hd.1 | exact hd.2.1 | exact hd.2.2.1 | exact hd.2.2.2.1 | exact hd.2.2.2.2.1 | exact hd.2.2.2.2.2.1 | exact hd.2.2.2.2.2.2.1 | exact hd.2.2.2.2.2.2.2.1), ?_⟩
      have ec := evT_const T
      have ef := evT_func T
      have d12 : evT T (.tmp 12) = .pointer (some ⟨w.heap.size + 1, 0, none⟩) := (by first | exact hd.1 | exact hd.2.1 | exact hd.2.2.1 | exact hd.2.2.2.1 | exact hd.2.2.2.2.1 | exact hd.2.2.2.2.2.1 | exact hd.2.2.2.2.2.2.1 | exact hd.2.2.2.2.2.2.2.1)
      obtain ⟨ha0, ha1⟩ := HC.out w1 (hb.mono (by simp only [World.size_alloc]; omega))
      have f0 := ha1.zero
      have f1 := ha1.at_ 0 rfl
      have f2 := ha1.at_ 1 rfl
      clear hT hd hb ha0 ha1
      refine gives_value (v := .int .i64 x.above) ?_ rfl
      simp only [execOp]
      go_simp
    case s9 =>
      refine step_on 3 8 false rfl rfl fun T w1 hT hb hd => ⟨(by first | exact hd.1 | exact hd.2.1 | exact hd.2.2.1 | exact hd.2.2.2.1 | exact hd.2.2.2.2.1 | exact hd.2.2.2.2.2.1 | exact hd.2.2.2.2.2.2.1 | exact hd.2.2.2.2.2.2.2.1), ?_⟩
      have ec := evT_const T
      have ef := evT_func T
      have d13 : evT T (.tmp 13) = .int .i64 (x.above) := (by first | exact hd.1 | exact hd.2.1 | exact hd.2.2.1 | exact hd.2.2.2.1 | exact hd.2.2.2.2.1 | exact hd.2.2.2.2.2.1 | exact hd.2.2.2.2.2.2.1 | exact hd.2.2.2.2.2.2.2.1)
      clear hT hb hd
      refine gives_made (v := .slice (some ⟨w1.heap.size, 0, none⟩) 1 1) (w' := w1.alloc (.cells #[.int .i64 (x.above)] 3)) ?_ ((Below.refl _ _).alloc (Nat.le_refl _) _) ⟨_, _, rfl, (ints_new w1 (x.above)).more (by simp)⟩
      simp only [execOp]
      go_simp
    case s10 =>
      refine step_on 3 8 false rfl rfl fun T w1 hT hb hd => ⟨(by first | exact hd.1 | exact hd.2.1 | exact hd.2.2.1 | exact hd.2.2.2.1 | exact hd.2.2.2.2.1 | exact hd.2.2.2.2.2.1 | exact hd.2.2.2.2.2.2.1 | exact hd.2.2.2.2.2.2.2.1), ?_⟩
      have ec := evT_const T
      have ef := evT_func T
      have d11 : evT T (.tmp 11) = .int .i64 (s.doms.length : Nat) := (by first | exact hd.1 | exact hd.2.1 | exact hd.2.2.1 | exact hd.2.2.2.1 | exact hd.2.2.2.2.1 | exact hd.2.2.2.2.2.1 | exact hd.2.2.2.2.2.2.1 | exact hd.2.2.2.2.2.2.2.1)
      obtain ⟨A, c, d14, hI⟩ : IsInts [x.above] (evT T (.tmp 14)) w1 := (by first | exact hd.1 | exact hd.2.1 | exact hd.2.2.1 | exact hd.2.2.2.1 | exact hd.2.2.2.2.1 | exact hd.2.2.2.2.2.1 | exact hd.2.2.2.2.2.2.1 | exact hd.2.2.2.2.2.2.2.1)
      refine gives_call (f := 70) (args := #[.int .i64 (s.doms.length : Nat), .slice A 1 c]) ?_ ?_
      · clear hT hb hd hI
        simp only [execOp, resolve]
        go_simp
      · clear hT
        refine (nodes_any (s.doms.length) c A [x.above] w1 (by omega) (by simp) hI).mono ?_
        rintro e w2 ⟨rfl, hb2⟩
        exact ⟨_, rfl, hb2, rfl⟩
    case s11 =>
      refine step_plain rfl fun T w1 hT hb hd => ?_
      have ec := evT_const T
      have ef := evT_func T
      have d8 : evT T (.tmp 8) = .bool false := (by first | exact hd.1 | exact hd.2.1 | exact hd.2.2.1 | exact hd.2.2.2.1 | exact hd.2.2.2.2.1 | exact hd.2.2.2.2.2.1 | exact hd.2.2.2.2.2.2.1 | exact hd.2.2.2.2.2.2.2.1)
      have d15 : evT T (.tmp 15) = .bool (nodesB s.doms.length [x.above]) := (by first | exact hd.1 | exact hd.2.1 | exact hd.2.2.1 | exact hd.2.2.2.1 | exact hd.2.2.2.2.1 | exact hd.2.2.2.2.2.1 | exact hd.2.2.2.2.2.2.1 | exact hd.2.2.2.2.2.2.2.1)
      clear hT hd hb
      refine gives_value (v := .bool (nodesB s.doms.length [x.above])) ?_ rfl
      simp only [execOp]
      go_simp
    case s12 =>
      refine step_plain rfl fun T w1 hT hb hd => ?_
      have ec := evT_const T
      have ef := evT_func T
      have d16 : evT T (.tmp 16) = .bool (nodesB s.doms.length [x.above]) := (by first | exact hd.1 | exact hd.2.1 | exact hd.2.2.1 | exact hd.2.2.2.1 | exact hd.2.2.2.2.1 | exact hd.2.2.2.2.2.1 | exact hd.2.2.2.2.2.2.1 | exact hd.2.2.2.2.2.2.2.1)
      refine gives_call (f := 28) (args := #[.bool (nodesB s.doms.length [x.above]), .int .i64 4]) ?_ ?_
      · clear hT hb hd
        simp only [execOp, resolve]
        go_simp
      · clear hT
        refine (unless_any _ _ w1).mono ?_
        rintro e w2 ⟨v, rfl, hl, hb2⟩
        exact ⟨_, rfl, hb2, hl⟩
    case s13 =>
      refine step_plain rfl fun T w1 hT hb hd => ?_
      have ec := evT_const T
      have ef := evT_func T
      have d3 : evT T (.tmp 3) = .pointer (some ⟨w.heap.size + 1, 0, none⟩) := hT 3 (by kernel_rfl)
      clear hT hd hb
      refine gives_value (v := .pointer (some ⟨w.heap.size + 1, 1, none⟩)) ?_ rfl
      simp only [execOp]
      go_simp
    case s14 =>
      refine step_plain rfl fun T w1 hT hb hd => ?_
      have ec := evT_const T
      have ef := evT_func T
      have d18 : evT T (.tmp 18) = .pointer (some ⟨w.heap.size + 1, 1, none⟩) := (by first | exact hd.1 | exact hd.2.1 | exact hd.2.2.1 | exact hd.2.2.2.1 | exact hd.2.2.2.2.1 | exact hd.2.2.2.2.2.1 | exact hd.2.2.2.2.2.2.1 | exact hd.2.2.2.2.2.2.2.1)
      obtain ⟨ha0, ha1⟩ := HC.out w1 (hb.mono (by simp only [World.size_alloc]; omega))
      have f0 := ha1.zero
      have f1 := ha1.at_ 0 rfl
      have f2 := ha1.at_ 1 rfl
      clear hT hd hb ha0 ha1
      refine gives_value (v := .int .i64 x.delay) ?_ rfl
      simp only [execOp]
      go_simp
    case s15 =>
      refine step_plain rfl fun T w1 hT hb hd => ?_
      have ec := evT_const T
      have ef := evT_func T
      have d19 : evT T (.tmp 19) = .int .i64 x.delay := (by first | exact hd.1 | exact hd.2.1 | exact hd.2.2.1 | exact hd.2.2.2.1 | exact hd.2.2.2.2.1 | exact hd.2.2.2.2.2.1 | exact hd.2.2.2.2.2.2.1 | exact hd.2.2.2.2.2.2.2.1)
      refine gives_call (f := 78) (args := #[.int .i64 x.delay]) ?_ ?_
      · clear hT hb hd
        simp only [execOp, resolve]
        go_simp
      · clear hT
        refine (ticks_any x.delay w1).mono ?_
        rintro e w' ⟨rfl, rfl⟩
        exact ⟨_, rfl, Below.refl _ _, rfl⟩
    case s16 =>
      refine step_plain rfl fun T w1 hT hb hd => ?_
      have ec := evT_const T
      have ef := evT_func T
      have d20 : evT T (.tmp 20) = .bool (betw x.delay 0 20) := (by first | exact hd.1 | exact hd.2.1 | exact hd.2.2.1 | exact hd.2.2.2.1 | exact hd.2.2.2.2.1 | exact hd.2.2.2.2.2.1 | exact hd.2.2.2.2.2.2.1 | exact hd.2.2.2.2.2.2.2.1)
      refine gives_call (f := 28) (args := #[.bool (betw x.delay 0 20), .int .i64 3]) ?_ ?_
      · clear hT hb hd
        simp only [execOp, resolve]
        go_simp
      · clear hT
        refine (unless_any _ _ w1).mono ?_
        rintro e w2 ⟨v, rfl, hl, hb2⟩
        exact ⟨_, rfl, hb2, hl⟩
    case s17 =>
      refine step_plain rfl fun T w1 hT hb hd => ?_
      have ec := evT_const T
      have ef := evT_func T
      have l0 : Look (evT T (.tmp 17)) (orE (nodesB s.doms.length [x.above]) 4) w1 := (by first | exact hd.1 | exact hd.2.1 | exact hd.2.2.1 | exact hd.2.2.2.1 | exact hd.2.2.2.2.1 | exact hd.2.2.2.2.2.1 | exact hd.2.2.2.2.2.2.1 | exact hd.2.2.2.2.2.2.2.1)
      obtain ⟨g0, lb0, q0, -⟩ := id l0
      have l1 : Look (evT T (.tmp 21)) (orE (betw x.delay 0 20) 3) w1 := (by first | exact hd.1 | exact hd.2.1 | exact hd.2.2.1 | exact hd.2.2.2.1 | exact hd.2.2.2.2.1 | exact hd.2.2.2.2.2.1 | exact hd.2.2.2.2.2.2.1 | exact hd.2.2.2.2.2.2.2.1)
      obtain ⟨g1, lb1, q1, -⟩ := id l1
      clear hT hb hd
      rw [q0] at l0
      rw [q1] at l1
      refine gives_made (v := .slice (some ⟨w1.heap.size, 0, none⟩) 2 2) (w' := w1.alloc (.cells #[.func (.func g0) #[] lb0, .func (.func g1) #[] lb1] 66)) ?_ ((Below.refl _ _).alloc (Nat.le_refl _) _) ⟨_, _, rfl, looks_newL w1 [.func (.func g0) #[] lb0, .func (.func g1) #[] lb1] _ ⟨l0, l1, trivial⟩⟩
      clear l0 l1
      simp only [execOp]
      go_simp
    case s18 =>
      refine step_plain rfl fun T w1 hT hb hd => ?_
      have ec := evT_const T
      have ef := evT_func T
      obtain ⟨A, c, d22, hl⟩ : IsLooks [orE (nodesB s.doms.length [x.above]) 4, orE (betw x.delay 0 20) 3] (evT T (.tmp 22)) w1 := (by first | exact hd.1 | exact hd.2.1 | exact hd.2.2.1 | exact hd.2.2.2.1 | exact hd.2.2.2.2.1 | exact hd.2.2.2.2.2.1 | exact hd.2.2.2.2.2.2.1 | exact hd.2.2.2.2.2.2.2.1)
      refine gives_call (f := 27) (args := #[.slice A 2 c]) ?_ ?_
      · clear hT hb hd hl
        simp only [execOp, resolve]
        go_simp
      · clear hT
        refine (first_any A c [orE (nodesB s.doms.length [x.above]) 4, orE (betw x.delay 0 20) 3] w1 (by simp) hl).mono ?_
        rintro e w2 ⟨rfl, hb2⟩
        exact ⟨_, rfl, hb2, rfl⟩
    case s19 =>
      refine step_plain rfl fun T w1 hT hb hd => ?_
      have ec := evT_const T
      have ef := evT_func T
      have d23 : evT T (.tmp 23) = .int .i64 (firstE [orE (nodesB s.doms.length [x.above]) 4, orE (betw x.delay 0 20) 3]) := (by first | exact hd.1 | exact hd.2.1 | exact hd.2.2.1 | exact hd.2.2.2.1 | exact hd.2.2.2.2.1 | exact hd.2.2.2.2.2.1 | exact hd.2.2.2.2.2.2.1 | exact hd.2.2.2.2.2.2.2.1)
      clear hT hd hb
      refine gives_value (v := .int .i64 (firstE [orE (nodesB s.doms.length [x.above]) 4, orE (betw x.delay 0 20) 3])) ?_ rfl
      simp only [execOp]
      go_simp
    case fin =>
      intro T w1 hT hb hd
      have e : T 4 = .int .i64 (firstE [orE (nodesB s.doms.length [x.above]) 4, orE (betw x.delay 0 20) 3]) := hd.2.2.2.2.2.2.2.2.2.2.2.2.2.2.2.2.2.2.2.1
      have hl : listT T 24 = #[T 0, T 1, T 2, T 3, T 4, T 5, T 6, T 7, T 8, T 9, T 10, T 11, T 12, T 13, T 14, T 15, T 16, T 17, T 18, T 19, T 20, T 21, T 22, T 23] := rfl
      rw [hl, e]
      clear hT hd hl
      go_wp2
      go_ret
      exact ⟨by rw [HM.out]; rfl, HB.out.trans (hb.mono (by simp only [World.size_alloc]; omega))⟩


theorem checkRst_any (x : Rst) (us : List Value) (w : World) (hx : RstV w w.heap.size x us) :
    Calls Try.prog 40 #[.agg us.toArray] w (ErrIs (rstE x) w) := by
  cases hx
  go_enter Try.func40, Try.ntmps40
  go_wp2_with (go_at_call 78; refine (ticks_any _ _).mono ?_; rintro e w' ⟨rfl, rfl⟩)
  refine (unless_any _ _ _).mono ?_
  rintro e w2 ⟨v, rfl, hl, hb2⟩
  obtain ⟨g, lb, rfl, -⟩ := id hl
  have HL := Lib.hid hl
  clear hl
  go_wp2_with fail
  refine (first_any (some ⟨w2.heap.size, 0, none⟩) 1 [orE (betw x.least 0 20) 3] _ (by simp) (looks_newL w2 [.func (.func g) #[] lb] _ ⟨HL.out, trivial⟩)).mono ?_
  rintro e w3 ⟨rfl, hb3⟩
  go_wp2
  go_ret
  exact ⟨rfl, ((Below.refl w.heap.size w).alloc (Nat.le_refl _) (.cells #[.int .i64 x.least] 80)).trans ((hb2.mono (by simp)).trans (((Below.refl w.heap.size w2).alloc (by have := hb2.size; simp at this; omega) _).trans (hb3.mono (by have := hb2.size; simp at this ⊢; omega))))⟩

set_option maxRecDepth 100000 in
set_option maxHeartbeats 8000000 in
theorem checkDev_any (s : Chip) (vs : List Value) (x : Dev) (us : List Value) (w : World) (hok : ChipOk s) (h : ChipV w w.heap.size s vs) (hx : DevV w w.heap.size x us) (hl : x.needs.length ≤ 1000) :
    Calls Try.prog 43 #[.agg vs.toArray, .agg us.toArray] w (ErrIs (devE s x) w) := by
  obtain ⟨A1, c1, A2, c2, A3, c3, A4, c4, rfl, l1, l2, l3, l4, h1, h2, h3, h4⟩ := h
  obtain ⟨Af, cf, Ag, cg, rfl, hcf, hcg, hIf, hIg⟩ := hx
  have n1 := hok.n1
  have n2 := hok.n2
  have n3 := hok.n3
  have n4 := hok.n4
  have HI := Lib.hid hIg
  have hB := ((Below.refl w.heap.size w).alloc (Nat.le_refl _) (.cells #[.slice A1 s.clks.length c1, .slice A2 s.doms.length c2, .slice A3 s.rsts.length c3, .slice A4 s.devs.length c4] 27)).alloc (by simp) (.cells #[.int .i64 x.clock, .int .i64 x.domain, .int .i64 x.rst, .int .u32 x.clamp, .slice Af x.regs.length cf, .slice Ag x.needs.length cg] 86)
  have HB := Lib.hid hB
  have hC : ∀ W, Below (w.heap.size + 2) ((w.alloc (.cells #[.slice A1 s.clks.length c1, .slice A2 s.doms.length c2, .slice A3 s.rsts.length c3, .slice A4 s.devs.length c4] 27)).alloc (.cells #[.int .i64 x.clock, .int .i64 x.domain, .int .i64 x.rst, .int .u32 x.clamp, .slice Af x.regs.length cf, .slice Ag x.needs.length cg] 86)) W → AggAt W ⟨w.heap.size, 0, none⟩ [.slice A1 s.clks.length c1, .slice A2 s.doms.length c2, .slice A3 s.rsts.length c3, .slice A4 s.devs.length c4] ∧ AggAt W ⟨w.heap.size + 1, 0, none⟩ [.int .i64 x.clock, .int .i64 x.domain, .int .i64 x.rst, .int .u32 x.clamp, .slice Af x.regs.length cf, .slice Ag x.needs.length cg] := by
    intro W hW
    constructor
    · exact (agg_new w [.slice A1 s.clks.length c1, .slice A2 s.doms.length c2, .slice A3 s.rsts.length c3, .slice A4 s.devs.length c4] 27).keep (B := w.heap.size + 1) (by simp) fun p hp => (hW.cell (by omega)).trans (((Below.refl (w.heap.size + 1) _).alloc (by simp) _).cell hp)
    · have := agg_new (w.alloc (.cells #[.slice A1 s.clks.length c1, .slice A2 s.doms.length c2, .slice A3 s.rsts.length c3, .slice A4 s.devs.length c4] 27)) [.int .i64 x.clock, .int .i64 x.domain, .int .i64 x.rst, .int .u32 x.clamp, .slice Af x.regs.length cf, .slice Ag x.needs.length cg] 86
      simp only [World.size_alloc] at this
      exact this.keep (B := w.heap.size + 2) (by simp) fun p hp => hW.cell hp
  have HC := Lib.hid hC
  clear hok h1 h2 h3 h4 hB hC hIf hIg
  go_enter Try.func43, Try.ntmps43
  go_wp2
  refine region_good (GL [IsV (.pointer (some ⟨w.heap.size, 0, none⟩)),
    IsV (.slice A1 s.clks.length c1),
    IsV (.int .i64 (s.clks.length : Nat)),
    IsV (.pointer (some ⟨w.heap.size + 1, 0, none⟩)),
    IsV (.int .i64 x.clock),
    IsInts [x.clock],
    IsV (.bool (nodesB (s.clks.length) [x.clock])),
    IsLook (orE (nodesB (s.clks.length) [x.clock]) 4),
    IsV (.pointer (some ⟨w.heap.size, 1, none⟩)),
    IsV (.slice A2 s.doms.length c2),
    IsV (.int .i64 (s.doms.length : Nat)),
    IsV (.pointer (some ⟨w.heap.size + 1, 1, none⟩)),
    IsV (.int .i64 x.domain),
    IsInts [x.domain],
    IsV (.bool (nodesB (s.doms.length) [x.domain])),
    IsLook (orE (nodesB (s.doms.length) [x.domain]) 4),
    IsV (.pointer (some ⟨w.heap.size, 2, none⟩)),
    IsV (.slice A3 s.rsts.length c3),
    IsV (.int .i64 (s.rsts.length : Nat)),
    IsV (.pointer (some ⟨w.heap.size + 1, 2, none⟩)),
    IsV (.int .i64 x.rst),
    IsInts [x.rst],
    IsV (.bool (nodesB (s.rsts.length) [x.rst])),
    IsLook (orE (nodesB (s.rsts.length) [x.rst]) 4),
    IsV (.pointer (some ⟨w.heap.size, 3, none⟩)),
    IsV (.slice A4 s.devs.length c4),
    IsV (.int .i64 (s.devs.length : Nat)),
    IsV (.pointer (some ⟨w.heap.size + 1, 5, none⟩)),
    IsV (.slice Ag x.needs.length cg),
    IsV (.bool (nodesB (s.devs.length) x.needs)),
    IsLook (orE (nodesB (s.devs.length) x.needs) 4),
    IsLooks [orE (nodesB (s.clks.length) [x.clock]) 4, orE (nodesB (s.doms.length) [x.domain]) 4, orE (nodesB (s.rsts.length) [x.rst]) 4, orE (nodesB (s.devs.length) x.needs) 4],
    IsV (.int .i64 (firstE [orE (nodesB (s.clks.length) [x.clock]) 4, orE (nodesB (s.doms.length) [x.domain]) 4, orE (nodesB (s.rsts.length) [x.rst]) 4, orE (nodesB (s.devs.length) x.needs) 4])),
    IsV (.int .i64 (firstE [orE (nodesB (s.clks.length) [x.clock]) 4, orE (nodesB (s.doms.length) [x.domain]) 4, orE (nodesB (s.rsts.length) [x.rst]) 4, orE (nodesB (s.devs.length) x.needs) 4]))]) 38 (by kernel_rfl) rfl (by kernel_rfl) (GL.stb ⟨IsV.stb _, IsV.stb _, IsV.stb _, IsV.stb _, IsV.stb _, IsInts.stb _, IsV.stb _, IsLook.stb _, IsV.stb _, IsV.stb _, IsV.stb _, IsV.stb _, IsV.stb _, IsInts.stb _, IsV.stb _, IsLook.stb _, IsV.stb _, IsV.stb _, IsV.stb _, IsV.stb _, IsV.stb _, IsInts.stb _, IsV.stb _, IsLook.stb _, IsV.stb _, IsV.stb _, IsV.stb _, IsV.stb _, IsV.stb _, IsV.stb _, IsLook.stb _, IsLooks.stb _, IsV.stb _, IsV.stb _, trivial⟩) ⟨?s0, ?s1, ?s2, ?s3, ?s4, ?s5, ?s6, ?s7, ?s8, ?s9, ?s10, ?s11, ?s12, ?s13, ?s14, ?s15, ?s16, ?s17, ?s18, ?s19, ?s20, ?s21, ?s22, ?s23, ?s24, ?s25, ?s26, ?s27, ?s28, ?s29, ?s30, ?s31, ?s32, ?s33, trivial⟩ ?fin
  case s0 =>
    refine step_plain rfl fun T w1 hT hb hd => ?_
    have ec := evT_const T
    have ef := evT_func T
    have d2 : evT T (.tmp 2) = .pointer (some ⟨w.heap.size, 0, none⟩) := hT 2 (by kernel_rfl)
    clear hT hd hb
    refine gives_value (v := .pointer (some ⟨w.heap.size, 0, none⟩)) ?_ rfl
    simp only [execOp]
    go_simp
  case s1 =>
    refine step_plain rfl fun T w1 hT hb hd => ?_
    have ec := evT_const T
    have ef := evT_func T
    have d5 : evT T (.tmp 5) = .pointer (some ⟨w.heap.size, 0, none⟩) := (by first | exact hd.1 | exact hd.2.1 | exact hd.2.2.1 | exact hd.2.2.2.1 | exact hd.2.2.2.2.1 | exact hd.2.2.2.2.2.1 | exact hd.2.2.2.2.2.2.1 | exact hd.2.2.2.2.2.2.2.1)
    obtain ⟨ha0, ha1⟩ := HC.out w1 (hb.mono (by simp only [World.size_alloc]; omega))
    have f0 := ha0.zero
    have f1 := ha0.at_ 0 rfl
    have f2 := ha0.at_ 1 rfl
    have f3 := ha0.at_ 2 rfl
    clear hT hd hb ha0 ha1
    refine gives_value (v := .slice A1 s.clks.length c1) ?_ rfl
    simp only [execOp]
    go_simp
  case s2 =>
    refine step_plain rfl fun T w1 hT hb hd => ?_
    have ec := evT_const T
    have ef := evT_func T
    have d6 : evT T (.tmp 6) = .slice A1 s.clks.length c1 := (by first | exact hd.1 | exact hd.2.1 | exact hd.2.2.1 | exact hd.2.2.2.1 | exact hd.2.2.2.2.1 | exact hd.2.2.2.2.2.1 | exact hd.2.2.2.2.2.2.1 | exact hd.2.2.2.2.2.2.2.1)
    clear hT hd hb
    refine gives_value (v := .int .i64 (s.clks.length : Nat)) ?_ rfl
    simp only [execOp]
    go_simp
  case s3 =>
    refine step_plain rfl fun T w1 hT hb hd => ?_
    have ec := evT_const T
    have ef := evT_func T
    have d3 : evT T (.tmp 3) = .pointer (some ⟨w.heap.size + 1, 0, none⟩) := hT 3 (by kernel_rfl)
    clear hT hd hb
    refine gives_value (v := .pointer (some ⟨w.heap.size + 1, 0, none⟩)) ?_ rfl
    simp only [execOp]
    go_simp
  case s4 =>
    refine step_plain rfl fun T w1 hT hb hd => ?_
    have ec := evT_const T
    have ef := evT_func T
    have d8 : evT T (.tmp 8) = .pointer (some ⟨w.heap.size + 1, 0, none⟩) := (by first | exact hd.1 | exact hd.2.1 | exact hd.2.2.1 | exact hd.2.2.2.1 | exact hd.2.2.2.2.1 | exact hd.2.2.2.2.2.1 | exact hd.2.2.2.2.2.2.1 | exact hd.2.2.2.2.2.2.2.1)
    obtain ⟨ha0, ha1⟩ := HC.out w1 (hb.mono (by simp only [World.size_alloc]; omega))
    have f0 := ha1.zero
    have f1 := ha1.at_ 0 rfl
    have f2 := ha1.at_ 1 rfl
    have f3 := ha1.at_ 2 rfl
    have f4 := ha1.at_ 3 rfl
    have f5 := ha1.at_ 4 rfl
    clear hT hd hb ha0 ha1
    refine gives_value (v := .int .i64 x.clock) ?_ rfl
    simp only [execOp]
    go_simp
  case s5 =>
    refine step_plain rfl fun T w1 hT hb hd => ?_
    have ec := evT_const T
    have ef := evT_func T
    have d9 : evT T (.tmp 9) = .int .i64 (x.clock) := (by first | exact hd.1 | exact hd.2.1 | exact hd.2.2.1 | exact hd.2.2.2.1 | exact hd.2.2.2.2.1 | exact hd.2.2.2.2.2.1 | exact hd.2.2.2.2.2.2.1 | exact hd.2.2.2.2.2.2.2.1)
    clear hT hb hd
    refine gives_made (v := .slice (some ⟨w1.heap.size, 0, none⟩) 1 1) (w' := w1.alloc (.cells #[.int .i64 (x.clock)] 3)) ?_ ((Below.refl _ _).alloc (Nat.le_refl _) _) ⟨_, _, rfl, (ints_new w1 (x.clock)).more (by simp)⟩
    simp only [execOp]
    go_simp
  case s6 =>
    refine step_plain rfl fun T w1 hT hb hd => ?_
    have ec := evT_const T
    have ef := evT_func T
    have d7 : evT T (.tmp 7) = .int .i64 (s.clks.length : Nat) := (by first | exact hd.1 | exact hd.2.1 | exact hd.2.2.1 | exact hd.2.2.2.1 | exact hd.2.2.2.2.1 | exact hd.2.2.2.2.2.1 | exact hd.2.2.2.2.2.2.1 | exact hd.2.2.2.2.2.2.2.1)
    obtain ⟨A, c, d10, hI⟩ : IsInts [x.clock] (evT T (.tmp 10)) w1 := (by first | exact hd.1 | exact hd.2.1 | exact hd.2.2.1 | exact hd.2.2.2.1 | exact hd.2.2.2.2.1 | exact hd.2.2.2.2.2.1 | exact hd.2.2.2.2.2.2.1 | exact hd.2.2.2.2.2.2.2.1)
    refine gives_call (f := 70) (args := #[.int .i64 (s.clks.length : Nat), .slice A 1 c]) ?_ ?_
    · clear hT hb hd hI
      simp only [execOp, resolve]
      go_simp
    · clear hT
      refine (nodes_any (s.clks.length) c A [x.clock] w1 (by omega) (by simp) hI).mono ?_
      rintro e w2 ⟨rfl, hb2⟩
      exact ⟨_, rfl, hb2, rfl⟩
  case s7 =>
    refine step_plain rfl fun T w1 hT hb hd => ?_
    have ec := evT_const T
    have ef := evT_func T
    have d11 : evT T (.tmp 11) = .bool (nodesB (s.clks.length) [x.clock]) := (by first | exact hd.1 | exact hd.2.1 | exact hd.2.2.1 | exact hd.2.2.2.1 | exact hd.2.2.2.2.1 | exact hd.2.2.2.2.2.1 | exact hd.2.2.2.2.2.2.1 | exact hd.2.2.2.2.2.2.2.1)
    refine gives_call (f := 28) (args := #[.bool (nodesB (s.clks.length) [x.clock]), .int .i64 4]) ?_ ?_
    · clear hT hb hd
      simp only [execOp, resolve]
      go_simp
    · clear hT
      refine (unless_any _ _ w1).mono ?_
      rintro e w2 ⟨v, rfl, hl, hb2⟩
      exact ⟨_, rfl, hb2, hl⟩
  case s8 =>
    refine step_plain rfl fun T w1 hT hb hd => ?_
    have ec := evT_const T
    have ef := evT_func T
    have d2 : evT T (.tmp 2) = .pointer (some ⟨w.heap.size, 0, none⟩) := hT 2 (by kernel_rfl)
    clear hT hd hb
    refine gives_value (v := .pointer (some ⟨w.heap.size, 1, none⟩)) ?_ rfl
    simp only [execOp]
    go_simp
  case s9 =>
    refine step_plain rfl fun T w1 hT hb hd => ?_
    have ec := evT_const T
    have ef := evT_func T
    have d13 : evT T (.tmp 13) = .pointer (some ⟨w.heap.size, 1, none⟩) := (by first | exact hd.1 | exact hd.2.1 | exact hd.2.2.1 | exact hd.2.2.2.1 | exact hd.2.2.2.2.1 | exact hd.2.2.2.2.2.1 | exact hd.2.2.2.2.2.2.1 | exact hd.2.2.2.2.2.2.2.1)
    obtain ⟨ha0, ha1⟩ := HC.out w1 (hb.mono (by simp only [World.size_alloc]; omega))
    have f0 := ha0.zero
    have f1 := ha0.at_ 0 rfl
    have f2 := ha0.at_ 1 rfl
    have f3 := ha0.at_ 2 rfl
    clear hT hd hb ha0 ha1
    refine gives_value (v := .slice A2 s.doms.length c2) ?_ rfl
    simp only [execOp]
    go_simp
  case s10 =>
    refine step_plain rfl fun T w1 hT hb hd => ?_
    have ec := evT_const T
    have ef := evT_func T
    have d14 : evT T (.tmp 14) = .slice A2 s.doms.length c2 := (by first | exact hd.1 | exact hd.2.1 | exact hd.2.2.1 | exact hd.2.2.2.1 | exact hd.2.2.2.2.1 | exact hd.2.2.2.2.2.1 | exact hd.2.2.2.2.2.2.1 | exact hd.2.2.2.2.2.2.2.1)
    clear hT hd hb
    refine gives_value (v := .int .i64 (s.doms.length : Nat)) ?_ rfl
    simp only [execOp]
    go_simp
  case s11 =>
    refine step_plain rfl fun T w1 hT hb hd => ?_
    have ec := evT_const T
    have ef := evT_func T
    have d3 : evT T (.tmp 3) = .pointer (some ⟨w.heap.size + 1, 0, none⟩) := hT 3 (by kernel_rfl)
    clear hT hd hb
    refine gives_value (v := .pointer (some ⟨w.heap.size + 1, 1, none⟩)) ?_ rfl
    simp only [execOp]
    go_simp
  case s12 =>
    refine step_plain rfl fun T w1 hT hb hd => ?_
    have ec := evT_const T
    have ef := evT_func T
    have d16 : evT T (.tmp 16) = .pointer (some ⟨w.heap.size + 1, 1, none⟩) := (by first | exact hd.1 | exact hd.2.1 | exact hd.2.2.1 | exact hd.2.2.2.1 | exact hd.2.2.2.2.1 | exact hd.2.2.2.2.2.1 | exact hd.2.2.2.2.2.2.1 | exact hd.2.2.2.2.2.2.2.1)
    obtain ⟨ha0, ha1⟩ := HC.out w1 (hb.mono (by simp only [World.size_alloc]; omega))
    have f0 := ha1.zero
    have f1 := ha1.at_ 0 rfl
    have f2 := ha1.at_ 1 rfl
    have f3 := ha1.at_ 2 rfl
    have f4 := ha1.at_ 3 rfl
    have f5 := ha1.at_ 4 rfl
    clear hT hd hb ha0 ha1
    refine gives_value (v := .int .i64 x.domain) ?_ rfl
    simp only [execOp]
    go_simp
  case s13 =>
    refine step_plain rfl fun T w1 hT hb hd => ?_
    have ec := evT_const T
    have ef := evT_func T
    have d17 : evT T (.tmp 17) = .int .i64 (x.domain) := (by first | exact hd.1 | exact hd.2.1 | exact hd.2.2.1 | exact hd.2.2.2.1 | exact hd.2.2.2.2.1 | exact hd.2.2.2.2.2.1 | exact hd.2.2.2.2.2.2.1 | exact hd.2.2.2.2.2.2.2.1)
    clear hT hb hd
    refine gives_made (v := .slice (some ⟨w1.heap.size, 0, none⟩) 1 1) (w' := w1.alloc (.cells #[.int .i64 (x.domain)] 3)) ?_ ((Below.refl _ _).alloc (Nat.le_refl _) _) ⟨_, _, rfl, (ints_new w1 (x.domain)).more (by simp)⟩
    simp only [execOp]
    go_simp
  case s14 =>
    refine step_plain rfl fun T w1 hT hb hd => ?_
    have ec := evT_const T
    have ef := evT_func T
    have d15 : evT T (.tmp 15) = .int .i64 (s.doms.length : Nat) := (by first | exact hd.1 | exact hd.2.1 | exact hd.2.2.1 | exact hd.2.2.2.1 | exact hd.2.2.2.2.1 | exact hd.2.2.2.2.2.1 | exact hd.2.2.2.2.2.2.1 | exact hd.2.2.2.2.2.2.2.1)
    obtain ⟨A, c, d18, hI⟩ : IsInts [x.domain] (evT T (.tmp 18)) w1 := (by first | exact hd.1 | exact hd.2.1 | exact hd.2.2.1 | exact hd.2.2.2.1 | exact hd.2.2.2.2.1 | exact hd.2.2.2.2.2.1 | exact hd.2.2.2.2.2.2.1 | exact hd.2.2.2.2.2.2.2.1)
    refine gives_call (f := 70) (args := #[.int .i64 (s.doms.length : Nat), .slice A 1 c]) ?_ ?_
    · clear hT hb hd hI
      simp only [execOp, resolve]
      go_simp
    · clear hT
      refine (nodes_any (s.doms.length) c A [x.domain] w1 (by omega) (by simp) hI).mono ?_
      rintro e w2 ⟨rfl, hb2⟩
      exact ⟨_, rfl, hb2, rfl⟩
  case s15 =>
    refine step_plain rfl fun T w1 hT hb hd => ?_
    have ec := evT_const T
    have ef := evT_func T
    have d19 : evT T (.tmp 19) = .bool (nodesB (s.doms.length) [x.domain]) := (by first | exact hd.1 | exact hd.2.1 | exact hd.2.2.1 | exact hd.2.2.2.1 | exact hd.2.2.2.2.1 | exact hd.2.2.2.2.2.1 | exact hd.2.2.2.2.2.2.1 | exact hd.2.2.2.2.2.2.2.1)
    refine gives_call (f := 28) (args := #[.bool (nodesB (s.doms.length) [x.domain]), .int .i64 4]) ?_ ?_
    · clear hT hb hd
      simp only [execOp, resolve]
      go_simp
    · clear hT
      refine (unless_any _ _ w1).mono ?_
      rintro e w2 ⟨v, rfl, hl, hb2⟩
      exact ⟨_, rfl, hb2, hl⟩
  case s16 =>
    refine step_plain rfl fun T w1 hT hb hd => ?_
    have ec := evT_const T
    have ef := evT_func T
    have d2 : evT T (.tmp 2) = .pointer (some ⟨w.heap.size, 0, none⟩) := hT 2 (by kernel_rfl)
    clear hT hd hb
    refine gives_value (v := .pointer (some ⟨w.heap.size, 2, none⟩)) ?_ rfl
    simp only [execOp]
    go_simp
  case s17 =>
    refine step_plain rfl fun T w1 hT hb hd => ?_
    have ec := evT_const T
    have ef := evT_func T
    have d21 : evT T (.tmp 21) = .pointer (some ⟨w.heap.size, 2, none⟩) := (by first | exact hd.1 | exact hd.2.1 | exact hd.2.2.1 | exact hd.2.2.2.1 | exact hd.2.2.2.2.1 | exact hd.2.2.2.2.2.1 | exact hd.2.2.2.2.2.2.1 | exact hd.2.2.2.2.2.2.2.1)
    obtain ⟨ha0, ha1⟩ := HC.out w1 (hb.mono (by simp only [World.size_alloc]; omega))
    have f0 := ha0.zero
    have f1 := ha0.at_ 0 rfl
    have f2 := ha0.at_ 1 rfl
    have f3 := ha0.at_ 2 rfl
    clear hT hd hb ha0 ha1
    refine gives_value (v := .slice A3 s.rsts.length c3) ?_ rfl
    simp only [execOp]
    go_simp
  case s18 =>
    refine step_plain rfl fun T w1 hT hb hd => ?_
    have ec := evT_const T
    have ef := evT_func T
    have d22 : evT T (.tmp 22) = .slice A3 s.rsts.length c3 := (by first | exact hd.1 | exact hd.2.1 | exact hd.2.2.1 | exact hd.2.2.2.1 | exact hd.2.2.2.2.1 | exact hd.2.2.2.2.2.1 | exact hd.2.2.2.2.2.2.1 | exact hd.2.2.2.2.2.2.2.1)
    clear hT hd hb
    refine gives_value (v := .int .i64 (s.rsts.length : Nat)) ?_ rfl
    simp only [execOp]
    go_simp
  case s19 =>
    refine step_plain rfl fun T w1 hT hb hd => ?_
    have ec := evT_const T
    have ef := evT_func T
    have d3 : evT T (.tmp 3) = .pointer (some ⟨w.heap.size + 1, 0, none⟩) := hT 3 (by kernel_rfl)
    clear hT hd hb
    refine gives_value (v := .pointer (some ⟨w.heap.size + 1, 2, none⟩)) ?_ rfl
    simp only [execOp]
    go_simp
  case s20 =>
    refine step_plain rfl fun T w1 hT hb hd => ?_
    have ec := evT_const T
    have ef := evT_func T
    have d24 : evT T (.tmp 24) = .pointer (some ⟨w.heap.size + 1, 2, none⟩) := (by first | exact hd.1 | exact hd.2.1 | exact hd.2.2.1 | exact hd.2.2.2.1 | exact hd.2.2.2.2.1 | exact hd.2.2.2.2.2.1 | exact hd.2.2.2.2.2.2.1 | exact hd.2.2.2.2.2.2.2.1)
    obtain ⟨ha0, ha1⟩ := HC.out w1 (hb.mono (by simp only [World.size_alloc]; omega))
    have f0 := ha1.zero
    have f1 := ha1.at_ 0 rfl
    have f2 := ha1.at_ 1 rfl
    have f3 := ha1.at_ 2 rfl
    have f4 := ha1.at_ 3 rfl
    have f5 := ha1.at_ 4 rfl
    clear hT hd hb ha0 ha1
    refine gives_value (v := .int .i64 x.rst) ?_ rfl
    simp only [execOp]
    go_simp
  case s21 =>
    refine step_plain rfl fun T w1 hT hb hd => ?_
    have ec := evT_const T
    have ef := evT_func T
    have d25 : evT T (.tmp 25) = .int .i64 (x.rst) := (by first | exact hd.1 | exact hd.2.1 | exact hd.2.2.1 | exact hd.2.2.2.1 | exact hd.2.2.2.2.1 | exact hd.2.2.2.2.2.1 | exact hd.2.2.2.2.2.2.1 | exact hd.2.2.2.2.2.2.2.1)
    clear hT hb hd
    refine gives_made (v := .slice (some ⟨w1.heap.size, 0, none⟩) 1 1) (w' := w1.alloc (.cells #[.int .i64 (x.rst)] 3)) ?_ ((Below.refl _ _).alloc (Nat.le_refl _) _) ⟨_, _, rfl, (ints_new w1 (x.rst)).more (by simp)⟩
    simp only [execOp]
    go_simp
  case s22 =>
    refine step_plain rfl fun T w1 hT hb hd => ?_
    have ec := evT_const T
    have ef := evT_func T
    have d23 : evT T (.tmp 23) = .int .i64 (s.rsts.length : Nat) := (by first | exact hd.1 | exact hd.2.1 | exact hd.2.2.1 | exact hd.2.2.2.1 | exact hd.2.2.2.2.1 | exact hd.2.2.2.2.2.1 | exact hd.2.2.2.2.2.2.1 | exact hd.2.2.2.2.2.2.2.1)
    obtain ⟨A, c, d26, hI⟩ : IsInts [x.rst] (evT T (.tmp 26)) w1 := (by first | exact hd.1 | exact hd.2.1 | exact hd.2.2.1 | exact hd.2.2.2.1 | exact hd.2.2.2.2.1 | exact hd.2.2.2.2.2.1 | exact hd.2.2.2.2.2.2.1 | exact hd.2.2.2.2.2.2.2.1)
    refine gives_call (f := 70) (args := #[.int .i64 (s.rsts.length : Nat), .slice A 1 c]) ?_ ?_
    · clear hT hb hd hI
      simp only [execOp, resolve]
      go_simp
    · clear hT
      refine (nodes_any (s.rsts.length) c A [x.rst] w1 (by omega) (by simp) hI).mono ?_
      rintro e w2 ⟨rfl, hb2⟩
      exact ⟨_, rfl, hb2, rfl⟩
  case s23 =>
    refine step_plain rfl fun T w1 hT hb hd => ?_
    have ec := evT_const T
    have ef := evT_func T
    have d27 : evT T (.tmp 27) = .bool (nodesB (s.rsts.length) [x.rst]) := (by first | exact hd.1 | exact hd.2.1 | exact hd.2.2.1 | exact hd.2.2.2.1 | exact hd.2.2.2.2.1 | exact hd.2.2.2.2.2.1 | exact hd.2.2.2.2.2.2.1 | exact hd.2.2.2.2.2.2.2.1)
    refine gives_call (f := 28) (args := #[.bool (nodesB (s.rsts.length) [x.rst]), .int .i64 4]) ?_ ?_
    · clear hT hb hd
      simp only [execOp, resolve]
      go_simp
    · clear hT
      refine (unless_any _ _ w1).mono ?_
      rintro e w2 ⟨v, rfl, hl, hb2⟩
      exact ⟨_, rfl, hb2, hl⟩
  case s24 =>
    refine step_plain rfl fun T w1 hT hb hd => ?_
    have ec := evT_const T
    have ef := evT_func T
    have d2 : evT T (.tmp 2) = .pointer (some ⟨w.heap.size, 0, none⟩) := hT 2 (by kernel_rfl)
    clear hT hd hb
    refine gives_value (v := .pointer (some ⟨w.heap.size, 3, none⟩)) ?_ rfl
    simp only [execOp]
    go_simp
  case s25 =>
    refine step_plain rfl fun T w1 hT hb hd => ?_
    have ec := evT_const T
    have ef := evT_func T
    have d29 : evT T (.tmp 29) = .pointer (some ⟨w.heap.size, 3, none⟩) := (by first | exact hd.1 | exact hd.2.1 | exact hd.2.2.1 | exact hd.2.2.2.1 | exact hd.2.2.2.2.1 | exact hd.2.2.2.2.2.1 | exact hd.2.2.2.2.2.2.1 | exact hd.2.2.2.2.2.2.2.1)
    obtain ⟨ha0, ha1⟩ := HC.out w1 (hb.mono (by simp only [World.size_alloc]; omega))
    have f0 := ha0.zero
    have f1 := ha0.at_ 0 rfl
    have f2 := ha0.at_ 1 rfl
    have f3 := ha0.at_ 2 rfl
    clear hT hd hb ha0 ha1
    refine gives_value (v := .slice A4 s.devs.length c4) ?_ rfl
    simp only [execOp]
    go_simp
  case s26 =>
    refine step_plain rfl fun T w1 hT hb hd => ?_
    have ec := evT_const T
    have ef := evT_func T
    have d30 : evT T (.tmp 30) = .slice A4 s.devs.length c4 := (by first | exact hd.1 | exact hd.2.1 | exact hd.2.2.1 | exact hd.2.2.2.1 | exact hd.2.2.2.2.1 | exact hd.2.2.2.2.2.1 | exact hd.2.2.2.2.2.2.1 | exact hd.2.2.2.2.2.2.2.1)
    clear hT hd hb
    refine gives_value (v := .int .i64 (s.devs.length : Nat)) ?_ rfl
    simp only [execOp]
    go_simp
  case s27 =>
    refine step_plain rfl fun T w1 hT hb hd => ?_
    have ec := evT_const T
    have ef := evT_func T
    have d3 : evT T (.tmp 3) = .pointer (some ⟨w.heap.size + 1, 0, none⟩) := hT 3 (by kernel_rfl)
    clear hT hd hb
    refine gives_value (v := .pointer (some ⟨w.heap.size + 1, 5, none⟩)) ?_ rfl
    simp only [execOp]
    go_simp
  case s28 =>
    refine step_plain rfl fun T w1 hT hb hd => ?_
    have ec := evT_const T
    have ef := evT_func T
    have d32 : evT T (.tmp 32) = .pointer (some ⟨w.heap.size + 1, 5, none⟩) := (by first | exact hd.1 | exact hd.2.1 | exact hd.2.2.1 | exact hd.2.2.2.1 | exact hd.2.2.2.2.1 | exact hd.2.2.2.2.2.1 | exact hd.2.2.2.2.2.2.1 | exact hd.2.2.2.2.2.2.2.1)
    obtain ⟨ha0, ha1⟩ := HC.out w1 (hb.mono (by simp only [World.size_alloc]; omega))
    have f0 := ha1.zero
    have f1 := ha1.at_ 0 rfl
    have f2 := ha1.at_ 1 rfl
    have f3 := ha1.at_ 2 rfl
    have f4 := ha1.at_ 3 rfl
    have f5 := ha1.at_ 4 rfl
    clear hT hd hb ha0 ha1
    refine gives_value (v := .slice Ag x.needs.length cg) ?_ rfl
    simp only [execOp]
    go_simp
  case s29 =>
    refine step_plain rfl fun T w1 hT hb hd => ?_
    have ec := evT_const T
    have ef := evT_func T
    have d31 : evT T (.tmp 31) = .int .i64 (s.devs.length : Nat) := (by first | exact hd.1 | exact hd.2.1 | exact hd.2.2.1 | exact hd.2.2.2.1 | exact hd.2.2.2.2.1 | exact hd.2.2.2.2.2.1 | exact hd.2.2.2.2.2.2.1 | exact hd.2.2.2.2.2.2.2.1)
    have d33 : evT T (.tmp 33) = .slice Ag x.needs.length cg := (by first | exact hd.1 | exact hd.2.1 | exact hd.2.2.1 | exact hd.2.2.2.1 | exact hd.2.2.2.2.1 | exact hd.2.2.2.2.2.1 | exact hd.2.2.2.2.2.2.1 | exact hd.2.2.2.2.2.2.2.1)
    refine gives_call (f := 70) (args := #[.int .i64 (s.devs.length : Nat), .slice Ag x.needs.length cg]) ?_ ?_
    · clear hT hb hd
      simp only [execOp, resolve]
      go_simp
    · clear hT
      refine (nodes_any (s.devs.length) cg Ag x.needs w1 (by omega) (by omega) ((HI.out.below (HB.out.trans (hb.mono (by simp only [World.size_alloc]; omega))) (Nat.le_refl _)).more (HB.out.trans (hb.mono (by simp only [World.size_alloc]; omega))).size)).mono ?_
      rintro e w2 ⟨rfl, hb2⟩
      exact ⟨_, rfl, hb2, rfl⟩
  case s30 =>
    refine step_plain rfl fun T w1 hT hb hd => ?_
    have ec := evT_const T
    have ef := evT_func T
    have d34 : evT T (.tmp 34) = .bool (nodesB (s.devs.length) x.needs) := (by first | exact hd.1 | exact hd.2.1 | exact hd.2.2.1 | exact hd.2.2.2.1 | exact hd.2.2.2.2.1 | exact hd.2.2.2.2.2.1 | exact hd.2.2.2.2.2.2.1 | exact hd.2.2.2.2.2.2.2.1)
    refine gives_call (f := 28) (args := #[.bool (nodesB (s.devs.length) x.needs), .int .i64 4]) ?_ ?_
    · clear hT hb hd
      simp only [execOp, resolve]
      go_simp
    · clear hT
      refine (unless_any _ _ w1).mono ?_
      rintro e w2 ⟨v, rfl, hl, hb2⟩
      exact ⟨_, rfl, hb2, hl⟩
  case s31 =>
    refine step_plain rfl fun T w1 hT hb hd => ?_
    have ec := evT_const T
    have ef := evT_func T
    have l0 : Look (evT T (.tmp 12)) (orE (nodesB (s.clks.length) [x.clock]) 4) w1 := (by first | exact hd.1 | exact hd.2.1 | exact hd.2.2.1 | exact hd.2.2.2.1 | exact hd.2.2.2.2.1 | exact hd.2.2.2.2.2.1 | exact hd.2.2.2.2.2.2.1 | exact hd.2.2.2.2.2.2.2.1)
    obtain ⟨g0, lb0, q0, -⟩ := id l0
    have l1 : Look (evT T (.tmp 20)) (orE (nodesB (s.doms.length) [x.domain]) 4) w1 := (by first | exact hd.1 | exact hd.2.1 | exact hd.2.2.1 | exact hd.2.2.2.1 | exact hd.2.2.2.2.1 | exact hd.2.2.2.2.2.1 | exact hd.2.2.2.2.2.2.1 | exact hd.2.2.2.2.2.2.2.1)
    obtain ⟨g1, lb1, q1, -⟩ := id l1
    have l2 : Look (evT T (.tmp 28)) (orE (nodesB (s.rsts.length) [x.rst]) 4) w1 := (by first | exact hd.1 | exact hd.2.1 | exact hd.2.2.1 | exact hd.2.2.2.1 | exact hd.2.2.2.2.1 | exact hd.2.2.2.2.2.1 | exact hd.2.2.2.2.2.2.1 | exact hd.2.2.2.2.2.2.2.1)
    obtain ⟨g2, lb2, q2, -⟩ := id l2
    have l3 : Look (evT T (.tmp 35)) (orE (nodesB (s.devs.length) x.needs) 4) w1 := (by first | exact hd.1 | exact hd.2.1 | exact hd.2.2.1 | exact hd.2.2.2.1 | exact hd.2.2.2.2.1 | exact hd.2.2.2.2.2.1 | exact hd.2.2.2.2.2.2.1 | exact hd.2.2.2.2.2.2.2.1)
    obtain ⟨g3, lb3, q3, -⟩ := id l3
    clear hT hb hd
    rw [q0] at l0
    rw [q1] at l1
    rw [q2] at l2
    rw [q3] at l3
    refine gives_made (v := .slice (some ⟨w1.heap.size, 0, none⟩) 4 4) (w' := w1.alloc (.cells #[.func (.func g0) #[] lb0, .func (.func g1) #[] lb1, .func (.func g2) #[] lb2, .func (.func g3) #[] lb3] 66)) ?_ ((Below.refl _ _).alloc (Nat.le_refl _) _) ⟨_, _, rfl, looks_newL w1 [.func (.func g0) #[] lb0, .func (.func g1) #[] lb1, .func (.func g2) #[] lb2, .func (.func g3) #[] lb3] _ ⟨l0, l1, l2, l3, trivial⟩⟩
    clear l0 l1 l2 l3
    simp only [execOp]
    go_simp
  case s32 =>
    refine step_plain rfl fun T w1 hT hb hd => ?_
    have ec := evT_const T
    have ef := evT_func T
    obtain ⟨A, c, d36, hl⟩ : IsLooks [orE (nodesB (s.clks.length) [x.clock]) 4, orE (nodesB (s.doms.length) [x.domain]) 4, orE (nodesB (s.rsts.length) [x.rst]) 4, orE (nodesB (s.devs.length) x.needs) 4] (evT T (.tmp 36)) w1 := (by first | exact hd.1 | exact hd.2.1 | exact hd.2.2.1 | exact hd.2.2.2.1 | exact hd.2.2.2.2.1 | exact hd.2.2.2.2.2.1 | exact hd.2.2.2.2.2.2.1 | exact hd.2.2.2.2.2.2.2.1)
    refine gives_call (f := 27) (args := #[.slice A 4 c]) ?_ ?_
    · clear hT hb hd hl
      simp only [execOp, resolve]
      go_simp
    · clear hT
      refine (first_any A c [orE (nodesB (s.clks.length) [x.clock]) 4, orE (nodesB (s.doms.length) [x.domain]) 4, orE (nodesB (s.rsts.length) [x.rst]) 4, orE (nodesB (s.devs.length) x.needs) 4] w1 (by simp) hl).mono ?_
      rintro e w2 ⟨rfl, hb2⟩
      exact ⟨_, rfl, hb2, rfl⟩
  case s33 =>
    refine step_plain rfl fun T w1 hT hb hd => ?_
    have ec := evT_const T
    have ef := evT_func T
    have d37 : evT T (.tmp 37) = .int .i64 (firstE [orE (nodesB (s.clks.length) [x.clock]) 4, orE (nodesB (s.doms.length) [x.domain]) 4, orE (nodesB (s.rsts.length) [x.rst]) 4, orE (nodesB (s.devs.length) x.needs) 4]) := (by first | exact hd.1 | exact hd.2.1 | exact hd.2.2.1 | exact hd.2.2.2.1 | exact hd.2.2.2.2.1 | exact hd.2.2.2.2.2.1 | exact hd.2.2.2.2.2.2.1 | exact hd.2.2.2.2.2.2.2.1)
    clear hT hd hb
    refine gives_value (v := .int .i64 (firstE [orE (nodesB (s.clks.length) [x.clock]) 4, orE (nodesB (s.doms.length) [x.domain]) 4, orE (nodesB (s.rsts.length) [x.rst]) 4, orE (nodesB (s.devs.length) x.needs) 4])) ?_ rfl
    simp only [execOp]
    go_simp
  case fin =>
    intro T w1 hT hb hd
    have e : T 4 = .int .i64 (firstE [orE (nodesB (s.clks.length) [x.clock]) 4, orE (nodesB (s.doms.length) [x.domain]) 4, orE (nodesB (s.rsts.length) [x.rst]) 4, orE (nodesB (s.devs.length) x.needs) 4]) := hd.2.2.2.2.2.2.2.2.2.2.2.2.2.2.2.2.2.2.2.2.2.2.2.2.2.2.2.2.2.2.2.2.2.1
    have hl : listT T 38 = #[T 0, T 1, T 2, T 3, T 4, T 5, T 6, T 7, T 8, T 9, T 10, T 11, T 12, T 13, T 14, T 15, T 16, T 17, T 18, T 19, T 20, T 21, T 22, T 23, T 24, T 25, T 26, T 27, T 28, T 29, T 30, T 31, T 32, T 33, T 34, T 35, T 36, T 37] := rfl
    rw [hl, e]
    clear hT hd hl
    go_wp2
    go_ret
    exact ⟨rfl, HB.out.trans (hb.mono (by simp only [World.size_alloc]; omega))⟩

end Go.Proofs.Ytnfbhhgdibkbdaa
