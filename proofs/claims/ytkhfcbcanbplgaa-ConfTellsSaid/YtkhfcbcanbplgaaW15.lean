/- The contracts of sameClock and sameDevice, of slices.EqualFunc of both kinds, and of conf.Same. (Written by wip/tools/w15.py.) -/
import Derived.Test.YtkhfcbcanbplgaaW9
import Derived.Test.YtkhfcbcanbplgaaW7
import Derived.Test.YtkhfcbcanbplgaaW14
namespace Go.Proofs.Ytkhfcbcanbplgaa
set_option linter.unusedSimpArgs false
set_option linter.unusedVariables false
open Go.RowKit Go.Maps

set_option maxHeartbeats 4000000 in
theorem same_clk (x y : Clk) (vs us : List Value) (w : World) (h : ClkV w w.heap.size x vs) (h' : ClkV w w.heap.size y us) (hl : x.frm.length ≤ 1000) (hl' : y.frm.length ≤ 1000) :
    Calls Try.prog 54 #[.agg vs.toArray, .agg us.toArray] w (TellsB (eqP x y) w) := by
  obtain ⟨kind, frm, rate, mul, div, lock⟩ := x
  obtain ⟨kind', frm', rate', mul', div', lock'⟩ := y
  obtain ⟨Af, cf, rfl, hcf, hIf⟩ := h
  obtain ⟨Af', cf', rfl, hcf', hIf'⟩ := h'
  simp only at hl hl' hIf hIf'
  dsimp only
  have HI := Lib.hid hIf
  have HI' := Lib.hid hIf'
  clear hIf hIf' hcf hcf'
  have HB := Lib.hid (((Below.refl w.heap.size w).alloc (Nat.le_refl _) (.cells #[.int .u8 kind, .slice Af frm.length cf, .int .u64 rate, .int .i64 mul, .int .i64 div, .int .i64 lock] 49)).alloc (by simp) (.cells #[.int .u8 kind', .slice Af' frm'.length cf', .int .u64 rate', .int .i64 mul', .int .i64 div', .int .i64 lock'] 49))
  by_cases h0 : kind = kind'
  · subst h0
    by_cases h1 : frm = frm'
    · subst h1
      have q1 := eqP_self frm
      by_cases h2 : rate = rate'
      · subst h2
        by_cases h3 : mul = mul'
        · subst h3
          by_cases h4 : div = div'
          · subst h4
            by_cases h5 : lock = lock'
            · subst h5
              have HM := Lib.hid (eqP_self (⟨kind, frm, rate, mul, div, lock⟩ : Clk))
              go_enter Try.func54, Try.ntmps54
              go_wp2_with ((go_at_call 89; refine (eq_ints Af Af' cf cf' _ _ w.heap.size _ (by omega) (by omega) (HI.out.below HB.out (Nat.le_refl _)) (HI'.out.below HB.out (Nat.le_refl _))).mono ?_; rintro e w2 ⟨rfl, n2, rfl⟩))
              go_ret
              exact ⟨ret_bool HM.out.symm, by first | exact HB.out | exact below_drewN HB.out _ | exact below_drewN (below_drewN HB.out _) _⟩
            · have e5 : (lock == lock') = false := by simpa using h5
              have HM := Lib.hid (eqP_no (x := (⟨kind, frm, rate, mul, div, lock⟩ : Clk)) (y := (⟨kind, frm, rate, mul, div, lock'⟩ : Clk)) (fun e => h5 (by injection e)))
              clear h5
              go_enter Try.func54, Try.ntmps54
              go_wp2_with ((go_at_call 89; refine (eq_ints Af Af' cf cf' _ _ w.heap.size _ (by omega) (by omega) (HI.out.below HB.out (Nat.le_refl _)) (HI'.out.below HB.out (Nat.le_refl _))).mono ?_; rintro e w2 ⟨rfl, n2, rfl⟩))
              go_ret
              exact ⟨ret_bool HM.out.symm, by first | exact HB.out | exact below_drewN HB.out _ | exact below_drewN (below_drewN HB.out _) _⟩
          · have e4 : (div == div') = false := by simpa using h4
            have HM := Lib.hid (eqP_no (x := (⟨kind, frm, rate, mul, div, lock⟩ : Clk)) (y := (⟨kind, frm, rate, mul, div', lock'⟩ : Clk)) (fun e => h4 (by injection e)))
            clear h4
            go_enter Try.func54, Try.ntmps54
            go_wp2_with ((go_at_call 89; refine (eq_ints Af Af' cf cf' _ _ w.heap.size _ (by omega) (by omega) (HI.out.below HB.out (Nat.le_refl _)) (HI'.out.below HB.out (Nat.le_refl _))).mono ?_; rintro e w2 ⟨rfl, n2, rfl⟩))
            go_ret
            exact ⟨ret_bool HM.out.symm, by first | exact HB.out | exact below_drewN HB.out _ | exact below_drewN (below_drewN HB.out _) _⟩
        · have e3 : (mul == mul') = false := by simpa using h3
          have HM := Lib.hid (eqP_no (x := (⟨kind, frm, rate, mul, div, lock⟩ : Clk)) (y := (⟨kind, frm, rate, mul', div', lock'⟩ : Clk)) (fun e => h3 (by injection e)))
          clear h3
          go_enter Try.func54, Try.ntmps54
          go_wp2_with ((go_at_call 89; refine (eq_ints Af Af' cf cf' _ _ w.heap.size _ (by omega) (by omega) (HI.out.below HB.out (Nat.le_refl _)) (HI'.out.below HB.out (Nat.le_refl _))).mono ?_; rintro e w2 ⟨rfl, n2, rfl⟩))
          go_ret
          exact ⟨ret_bool HM.out.symm, by first | exact HB.out | exact below_drewN HB.out _ | exact below_drewN (below_drewN HB.out _) _⟩
      · have e2 : (rate == rate') = false := by simpa using h2
        have HM := Lib.hid (eqP_no (x := (⟨kind, frm, rate, mul, div, lock⟩ : Clk)) (y := (⟨kind, frm, rate', mul', div', lock'⟩ : Clk)) (fun e => h2 (by injection e)))
        clear h2
        go_enter Try.func54, Try.ntmps54
        go_wp2_with ((go_at_call 89; refine (eq_ints Af Af' cf cf' _ _ w.heap.size _ (by omega) (by omega) (HI.out.below HB.out (Nat.le_refl _)) (HI'.out.below HB.out (Nat.le_refl _))).mono ?_; rintro e w2 ⟨rfl, n2, rfl⟩))
        go_ret
        exact ⟨ret_bool HM.out.symm, by first | exact HB.out | exact below_drewN HB.out _ | exact below_drewN (below_drewN HB.out _) _⟩
    · have q1 := eqP_no h1
      have HM := Lib.hid (eqP_no (x := (⟨kind, frm, rate, mul, div, lock⟩ : Clk)) (y := (⟨kind, frm', rate', mul', div', lock'⟩ : Clk)) (fun e => h1 (by injection e)))
      clear h1
      go_enter Try.func54, Try.ntmps54
      go_wp2_with ((go_at_call 89; refine (eq_ints Af Af' cf cf' _ _ w.heap.size _ (by omega) (by omega) (HI.out.below HB.out (Nat.le_refl _)) (HI'.out.below HB.out (Nat.le_refl _))).mono ?_; rintro e w2 ⟨rfl, n2, rfl⟩))
      go_ret
      exact ⟨ret_bool HM.out.symm, by first | exact HB.out | exact below_drewN HB.out _ | exact below_drewN (below_drewN HB.out _) _⟩
  · have e0 : (kind == kind') = false := by simpa using h0
    have HM := Lib.hid (eqP_no (x := (⟨kind, frm, rate, mul, div, lock⟩ : Clk)) (y := (⟨kind', frm', rate', mul', div', lock'⟩ : Clk)) (fun e => h0 (by injection e)))
    clear h0
    go_enter Try.func54, Try.ntmps54
    go_wp2_with ((go_at_call 89; refine (eq_ints Af Af' cf cf' _ _ w.heap.size _ (by omega) (by omega) (HI.out.below HB.out (Nat.le_refl _)) (HI'.out.below HB.out (Nat.le_refl _))).mono ?_; rintro e w2 ⟨rfl, n2, rfl⟩))
    go_ret
    exact ⟨ret_bool HM.out.symm, by first | exact HB.out | exact below_drewN HB.out _ | exact below_drewN (below_drewN HB.out _) _⟩

set_option maxHeartbeats 4000000 in
theorem same_dev (x y : Dev) (vs us : List Value) (w : World) (h : DevV w w.heap.size x vs) (h' : DevV w w.heap.size y us) (hr : x.regs.length ≤ 1000) (hr' : y.regs.length ≤ 1000) (hl : x.needs.length ≤ 1000) (hl' : y.needs.length ≤ 1000) :
    Calls Try.prog 58 #[.agg vs.toArray, .agg us.toArray] w (TellsB (eqP x y) w) := by
  obtain ⟨clock, domain, rst, clamp, regs, needs⟩ := x
  obtain ⟨clock', domain', rst', clamp', regs', needs'⟩ := y
  obtain ⟨Af, cf, Ag, cg, rfl, hcf, hcg, hIf, hIg⟩ := h
  obtain ⟨Af', cf', Ag', cg', rfl, hcf', hcg', hIf', hIg'⟩ := h'
  simp only at hl hl' hr hr' hIf hIf' hIg hIg'
  dsimp only
  have HR := Lib.hid hIf
  have HR' := Lib.hid hIf'
  have HI := Lib.hid hIg
  have HI' := Lib.hid hIg'
  clear hIf hIf' hIg hIg' hcf hcf' hcg hcg'
  have HB := Lib.hid (((Below.refl w.heap.size w).alloc (Nat.le_refl _) (.cells #[.int .i64 clock, .int .i64 domain, .int .i64 rst, .int .u32 clamp, .slice Af regs.length cf, .slice Ag needs.length cg] 44)).alloc (by simp) (.cells #[.int .i64 clock', .int .i64 domain', .int .i64 rst', .int .u32 clamp', .slice Af' regs'.length cf', .slice Ag' needs'.length cg'] 44))
  by_cases h0 : clock = clock'
  · subst h0
    by_cases h1 : domain = domain'
    · subst h1
      by_cases h2 : rst = rst'
      · subst h2
        by_cases h3 : clamp = clamp'
        · subst h3
          by_cases h4 : regs = regs'
          · subst h4
            have q4 := eqP_self regs
            by_cases h5 : needs = needs'
            · subst h5
              have q5 := eqP_self needs
              have HM := Lib.hid (eqP_self (⟨clock, domain, rst, clamp, regs, needs⟩ : Dev))
              go_enter Try.func58, Try.ntmps58
              go_wp2_with (first | (go_at_call 90; refine (eq_rgs Af Af' cf cf' _ _ w.heap.size _ (by omega) (by omega) (HR.out.below HB.out (Nat.le_refl _)) (HR'.out.below HB.out (Nat.le_refl _))).mono ?_; rintro e w2 ⟨rfl, n2, rfl⟩) | (go_at_call 89; refine (eq_ints Ag Ag' cg cg' _ _ w.heap.size _ (by omega) (by omega) (HI.out.below (below_drewN HB.out _) (Nat.le_refl _)) (HI'.out.below (below_drewN HB.out _) (Nat.le_refl _))).mono ?_; rintro e w2 ⟨rfl, n3, rfl⟩))
              go_ret
              exact ⟨ret_bool HM.out.symm, by first | exact HB.out | exact below_drewN HB.out _ | exact below_drewN (below_drewN HB.out _) _⟩
            · have q5 := eqP_no h5
              have HM := Lib.hid (eqP_no (x := (⟨clock, domain, rst, clamp, regs, needs⟩ : Dev)) (y := (⟨clock, domain, rst, clamp, regs, needs'⟩ : Dev)) (fun e => h5 (by injection e)))
              clear h5
              go_enter Try.func58, Try.ntmps58
              go_wp2_with (first | (go_at_call 90; refine (eq_rgs Af Af' cf cf' _ _ w.heap.size _ (by omega) (by omega) (HR.out.below HB.out (Nat.le_refl _)) (HR'.out.below HB.out (Nat.le_refl _))).mono ?_; rintro e w2 ⟨rfl, n2, rfl⟩) | (go_at_call 89; refine (eq_ints Ag Ag' cg cg' _ _ w.heap.size _ (by omega) (by omega) (HI.out.below (below_drewN HB.out _) (Nat.le_refl _)) (HI'.out.below (below_drewN HB.out _) (Nat.le_refl _))).mono ?_; rintro e w2 ⟨rfl, n3, rfl⟩))
              go_ret
              exact ⟨ret_bool HM.out.symm, by first | exact HB.out | exact below_drewN HB.out _ | exact below_drewN (below_drewN HB.out _) _⟩
          · have q4 := eqP_no h4
            have HM := Lib.hid (eqP_no (x := (⟨clock, domain, rst, clamp, regs, needs⟩ : Dev)) (y := (⟨clock, domain, rst, clamp, regs', needs'⟩ : Dev)) (fun e => h4 (by injection e)))
            clear h4
            go_enter Try.func58, Try.ntmps58
            go_wp2_with (first | (go_at_call 90; refine (eq_rgs Af Af' cf cf' _ _ w.heap.size _ (by omega) (by omega) (HR.out.below HB.out (Nat.le_refl _)) (HR'.out.below HB.out (Nat.le_refl _))).mono ?_; rintro e w2 ⟨rfl, n2, rfl⟩) | (go_at_call 89; refine (eq_ints Ag Ag' cg cg' _ _ w.heap.size _ (by omega) (by omega) (HI.out.below (below_drewN HB.out _) (Nat.le_refl _)) (HI'.out.below (below_drewN HB.out _) (Nat.le_refl _))).mono ?_; rintro e w2 ⟨rfl, n3, rfl⟩))
            go_ret
            exact ⟨ret_bool HM.out.symm, by first | exact HB.out | exact below_drewN HB.out _ | exact below_drewN (below_drewN HB.out _) _⟩
        · have e3 : (clamp == clamp') = false := by simpa using h3
          have HM := Lib.hid (eqP_no (x := (⟨clock, domain, rst, clamp, regs, needs⟩ : Dev)) (y := (⟨clock, domain, rst, clamp', regs', needs'⟩ : Dev)) (fun e => h3 (by injection e)))
          clear h3
          go_enter Try.func58, Try.ntmps58
          go_wp2_with (first | (go_at_call 90; refine (eq_rgs Af Af' cf cf' _ _ w.heap.size _ (by omega) (by omega) (HR.out.below HB.out (Nat.le_refl _)) (HR'.out.below HB.out (Nat.le_refl _))).mono ?_; rintro e w2 ⟨rfl, n2, rfl⟩) | (go_at_call 89; refine (eq_ints Ag Ag' cg cg' _ _ w.heap.size _ (by omega) (by omega) (HI.out.below (below_drewN HB.out _) (Nat.le_refl _)) (HI'.out.below (below_drewN HB.out _) (Nat.le_refl _))).mono ?_; rintro e w2 ⟨rfl, n3, rfl⟩))
          go_ret
          exact ⟨ret_bool HM.out.symm, by first | exact HB.out | exact below_drewN HB.out _ | exact below_drewN (below_drewN HB.out _) _⟩
      · have e2 : (rst == rst') = false := by simpa using h2
        have HM := Lib.hid (eqP_no (x := (⟨clock, domain, rst, clamp, regs, needs⟩ : Dev)) (y := (⟨clock, domain, rst', clamp', regs', needs'⟩ : Dev)) (fun e => h2 (by injection e)))
        clear h2
        go_enter Try.func58, Try.ntmps58
        go_wp2_with (first | (go_at_call 90; refine (eq_rgs Af Af' cf cf' _ _ w.heap.size _ (by omega) (by omega) (HR.out.below HB.out (Nat.le_refl _)) (HR'.out.below HB.out (Nat.le_refl _))).mono ?_; rintro e w2 ⟨rfl, n2, rfl⟩) | (go_at_call 89; refine (eq_ints Ag Ag' cg cg' _ _ w.heap.size _ (by omega) (by omega) (HI.out.below (below_drewN HB.out _) (Nat.le_refl _)) (HI'.out.below (below_drewN HB.out _) (Nat.le_refl _))).mono ?_; rintro e w2 ⟨rfl, n3, rfl⟩))
        go_ret
        exact ⟨ret_bool HM.out.symm, by first | exact HB.out | exact below_drewN HB.out _ | exact below_drewN (below_drewN HB.out _) _⟩
    · have e1 : (domain == domain') = false := by simpa using h1
      have HM := Lib.hid (eqP_no (x := (⟨clock, domain, rst, clamp, regs, needs⟩ : Dev)) (y := (⟨clock, domain', rst', clamp', regs', needs'⟩ : Dev)) (fun e => h1 (by injection e)))
      clear h1
      go_enter Try.func58, Try.ntmps58
      go_wp2_with (first | (go_at_call 90; refine (eq_rgs Af Af' cf cf' _ _ w.heap.size _ (by omega) (by omega) (HR.out.below HB.out (Nat.le_refl _)) (HR'.out.below HB.out (Nat.le_refl _))).mono ?_; rintro e w2 ⟨rfl, n2, rfl⟩) | (go_at_call 89; refine (eq_ints Ag Ag' cg cg' _ _ w.heap.size _ (by omega) (by omega) (HI.out.below (below_drewN HB.out _) (Nat.le_refl _)) (HI'.out.below (below_drewN HB.out _) (Nat.le_refl _))).mono ?_; rintro e w2 ⟨rfl, n3, rfl⟩))
      go_ret
      exact ⟨ret_bool HM.out.symm, by first | exact HB.out | exact below_drewN HB.out _ | exact below_drewN (below_drewN HB.out _) _⟩
  · have e0 : (clock == clock') = false := by simpa using h0
    have HM := Lib.hid (eqP_no (x := (⟨clock, domain, rst, clamp, regs, needs⟩ : Dev)) (y := (⟨clock', domain', rst', clamp', regs', needs'⟩ : Dev)) (fun e => h0 (by injection e)))
    clear h0
    go_enter Try.func58, Try.ntmps58
    go_wp2_with (first | (go_at_call 90; refine (eq_rgs Af Af' cf cf' _ _ w.heap.size _ (by omega) (by omega) (HR.out.below HB.out (Nat.le_refl _)) (HR'.out.below HB.out (Nat.le_refl _))).mono ?_; rintro e w2 ⟨rfl, n2, rfl⟩) | (go_at_call 89; refine (eq_ints Ag Ag' cg cg' _ _ w.heap.size _ (by omega) (by omega) (HI.out.below (below_drewN HB.out _) (Nat.le_refl _)) (HI'.out.below (below_drewN HB.out _) (Nat.le_refl _))).mono ?_; rintro e w2 ⟨rfl, n3, rfl⟩))
    go_ret
    exact ⟨ret_bool HM.out.symm, by first | exact HB.out | exact below_drewN HB.out _ | exact below_drewN (below_drewN HB.out _) _⟩

end Go.Proofs.Ytkhfcbcanbplgaa
