/- The contracts of isJoined, isInRange, overfull, fits. -/
import Derived.Test.YtnfbhhgdibkbdaaW8
namespace Go.Proofs.Ytnfbhhgdibkbdaa
set_option linter.unusedSimpArgs false
set_option linter.unusedVariables false
open Go.RowKit Go.Maps

/-- a test's answer; all that was is as it was -/
def TellsB (b : Bool) (w : World) (e : Ending) (w' : World) : Prop := e = .returned (.bool b) ∧ Below w.heap.size w w'

theorem over_any (d : Dev) (vs : List Value) (B : Nat) (w : World) (h : DevV w B d vs) (h1 : d.regs.length ≤ 1000000) (h2 : d.needs.length ≤ 1000000) :
    Calls Try.prog 66 #[.agg vs.toArray] w (TellsB (overB d) w) := by
  obtain ⟨A, c, A', c', rfl, _⟩ := h
  have hm : (decide (8 < (d.regs.length : Int)) || decide (6 < (d.needs.length : Int))) = overB d := by unfold overB; rw [Bool.eq_iff_iff]; simp; omega
  have HM := Lib.hid hm
  clear hm
  go_enter Try.func66, Try.ntmps66
  go_wp2
  all_goals
    go_ret
    exact ⟨ret_bool (by first | exact HM.out | (rw [← HM.out]; simp_all)), (Below.refl _ _).alloc (Nat.le_refl _) _⟩

theorem joined_any (x : Clk) (vs : List Value) (B : Nat) (w : World) (h : ClkV w B x vs) (hl : x.frm.length ≤ 1000000) :
    Calls Try.prog 69 #[.agg vs.toArray] w (TellsB (joinedB x) w) := by
  obtain ⟨kind, frm, rate, mul, div, lock⟩ := x
  obtain ⟨A, c, rfl, _⟩ := h
  simp only at hl
  dsimp only
  by_cases k111 : kind = 111
  · subst k111
    go_enter Try.func69, Try.ntmps69
    go_wp2_with (go_at_call 95; refine (within_any _ _ _ _).mono ?_; rintro e w' ⟨rfl, rfl⟩)
    all_goals
      go_ret
      exact ⟨ret_bool (by unfold joinedB; first | rfl | (rw [Bool.eq_iff_iff]; simp; done) | (rw [Bool.eq_iff_iff]; simp; omega) | (simp_all; done)), (Below.refl _ _).alloc (Nat.le_refl _) _⟩
  by_cases k112 : kind = 112
  · subst k112
    go_enter Try.func69, Try.ntmps69
    go_wp2_with (go_at_call 95; refine (within_any _ _ _ _).mono ?_; rintro e w' ⟨rfl, rfl⟩)
    all_goals
      go_ret
      exact ⟨ret_bool (by unfold joinedB; first | rfl | (rw [Bool.eq_iff_iff]; simp; done) | (rw [Bool.eq_iff_iff]; simp; omega) | (simp_all; done)), (Below.refl _ _).alloc (Nat.le_refl _) _⟩
  by_cases k100 : kind = 100
  · subst k100
    go_enter Try.func69, Try.ntmps69
    go_wp2_with (go_at_call 95; refine (within_any _ _ _ _).mono ?_; rintro e w' ⟨rfl, rfl⟩)
    all_goals
      go_ret
      exact ⟨ret_bool (by unfold joinedB; first | rfl | (rw [Bool.eq_iff_iff]; simp; done) | (rw [Bool.eq_iff_iff]; simp; omega) | (simp_all; done)), (Below.refl _ _).alloc (Nat.le_refl _) _⟩
  by_cases k103 : kind = 103
  · subst k103
    go_enter Try.func69, Try.ntmps69
    go_wp2_with (go_at_call 95; refine (within_any _ _ _ _).mono ?_; rintro e w' ⟨rfl, rfl⟩)
    all_goals
      go_ret
      exact ⟨ret_bool (by unfold joinedB; first | rfl | (rw [Bool.eq_iff_iff]; simp; done) | (rw [Bool.eq_iff_iff]; simp; omega) | (simp_all; done)), (Below.refl _ _).alloc (Nat.le_refl _) _⟩
  by_cases k109 : kind = 109
  · subst k109
    go_enter Try.func69, Try.ntmps69
    go_wp2_with (go_at_call 95; refine (within_any _ _ _ _).mono ?_; rintro e w' ⟨rfl, rfl⟩)
    all_goals
      go_ret
      exact ⟨ret_bool (by unfold joinedB; first | rfl | (rw [Bool.eq_iff_iff]; simp; done) | (rw [Bool.eq_iff_iff]; simp; omega) | (simp_all; done)), (Below.refl _ _).alloc (Nat.le_refl _) _⟩
  have e1 : (kind == 111) = false := by simpa using k111
  have e2 : (kind == 112) = false := by simpa using k112
  have e3 : (kind == 100) = false := by simpa using k100
  have e4 : (kind == 103) = false := by simpa using k103
  have e5 : (kind == 109) = false := by simpa using k109
  have hm : joinedB ⟨kind, frm, rate, mul, div, lock⟩ = false := by unfold joinedB; simp [k111, k112, k100, k103, k109]
  have HM := Lib.hid hm
  clear hm k111 k112 k100 k103 k109
  go_enter Try.func69, Try.ntmps69
  go_wp2
  go_ret
  exact ⟨ret_bool HM.out.symm, (Below.refl _ _).alloc (Nat.le_refl _) _⟩

theorem range_any (x : Clk) (vs : List Value) (B : Nat) (w : World) (h : ClkV w B x vs) :
    Calls Try.prog 71 #[.agg vs.toArray] w (TellsB (rangeB x) w) := by
  obtain ⟨kind, frm, rate, mul, div, lock⟩ := x
  obtain ⟨A, c, rfl, _⟩ := h
  dsimp only
  by_cases k111 : kind = 111
  · subst k111
    go_enter Try.func71, Try.ntmps71
    go_wp2_with (go_at_call 98; refine (within64_any _ _ _ _).mono ?_; rintro e w' ⟨rfl, rfl⟩)
    go_ret
    exact ⟨rfl, (Below.refl _ _).alloc (Nat.le_refl _) _⟩
  by_cases k112 : kind = 112
  · subst k112
    cases h1 : betw mul 1 1000 with
    | false =>
      have hm : rangeB ⟨112, frm, rate, mul, div, lock⟩ = false := by unfold rangeB; simp [h1]
      have HM := Lib.hid hm
      clear hm
      go_enter Try.func71, Try.ntmps71
      go_wp2_with (go_at_call 99; refine (factor_any _ _).mono ?_; rintro e w' ⟨rfl, rfl⟩)
      go_ret
      exact ⟨ret_bool HM.out.symm, (Below.refl _ _).alloc (Nat.le_refl _) _⟩
    | true =>
      cases h2 : betw div 1 1000 with
      | false =>
        have hm : rangeB ⟨112, frm, rate, mul, div, lock⟩ = false := by unfold rangeB; simp [h1, h2]
        have HM := Lib.hid hm
        clear hm
        go_enter Try.func71, Try.ntmps71
        go_wp2_with (go_at_call 99; refine (factor_any _ _).mono ?_; rintro e w' ⟨rfl, rfl⟩)
        go_ret
        exact ⟨ret_bool HM.out.symm, (Below.refl _ _).alloc (Nat.le_refl _) _⟩
      | true =>
        have hm : rangeB ⟨112, frm, rate, mul, div, lock⟩ = betw lock 0 20 := by unfold rangeB; simp [h1, h2]
        have HM := Lib.hid hm
        clear hm
        go_enter Try.func71, Try.ntmps71
        go_wp2_with (first | (go_at_call 99; refine (factor_any _ _).mono ?_; rintro e w' ⟨rfl, rfl⟩) | (go_at_call 78; refine (ticks_any _ _).mono ?_; rintro e w' ⟨rfl, rfl⟩))
        go_ret
        exact ⟨ret_bool HM.out.symm, (Below.refl _ _).alloc (Nat.le_refl _) _⟩
  by_cases k100 : kind = 100
  · subst k100
    go_enter Try.func71, Try.ntmps71
    go_wp2_with (go_at_call 99; refine (factor_any _ _).mono ?_; rintro e w' ⟨rfl, rfl⟩)
    go_ret
    exact ⟨rfl, (Below.refl _ _).alloc (Nat.le_refl _) _⟩
  have e1 : (kind == 111) = false := by simpa using k111
  have e2 : (kind == 112) = false := by simpa using k112
  have e3 : (kind == 100) = false := by simpa using k100
  have hm : rangeB ⟨kind, frm, rate, mul, div, lock⟩ = true := by unfold rangeB; simp [k111, k112, k100]
  have HM := Lib.hid hm
  clear hm k111 k112 k100
  go_enter Try.func71, Try.ntmps71
  go_wp2
  go_ret
  exact ⟨ret_bool HM.out.symm, (Below.refl _ _).alloc (Nat.le_refl _) _⟩

set_option maxHeartbeats 1000000 in
theorem idxDev_any (A : Option Addr) (c : Nat) (xs : List Dev) (w : World)
    (hl : xs.length ≤ 1000000) (hg : ∀ d, d ∈ xs → d.regs.length ≤ 1000000 ∧ d.needs.length ≤ 1000000) (h : StrsAt DevV 6 w w.heap.size A xs) :
    Calls Try.prog 94 #[.slice A xs.length c, .func (.func 66) #[] #[]] w (IdxOut overB xs w) := by
  have HG := Lib.hid hg
  clear hg
  go_enter Try.func94, Try.ntmps94
  go_wp2
  go_loopw [8] (fun i wr => ∃ k : Nat, k ≤ xs.length ∧ i = .int .i64 k ∧ Below w.heap.size w wr ∧ ∀ (j : Nat) y, j < k → xs[j]? = some y → overB y = false) (fun i _ => xs.length - (intOf i).toNat)
  case atStart => exact ⟨0, Nat.zero_le _, rfl, Below.refl _ _, fun j y hj => absurd hj (by omega)⟩
  case round =>
    obtain ⟨k, hk, rfl, hB, hno⟩ := hrel
    have HN := Lib.hid hno
    clear hno
    by_cases hlt : k < xs.length
    · obtain ⟨ad, vs, hA, hab, hV, hAg⟩ := (h.below hB (Nat.le_refl _)).at_ hlt
      obtain ⟨x, hxk⟩ : ∃ x, x = xs[k] := ⟨_, rfl⟩
      rw [← hxk] at hV
      have hk? : xs[k]? = some x := by rw [List.getElem?_eq_getElem hlt, hxk]
      obtain ⟨h1, h2⟩ := HG.out x (by rw [hxk]; exact List.getElem_mem _)
      have HK := Lib.hid hk?
      clear hxk hk?
      have hcall := over_any x vs _ wr hV h1 h2
      obtain ⟨Af, cf, Ag, cg, rfl, hcf, hcg, hIf, hIg⟩ := hV
      have c0 := hAg.zero
      have c1 := hAg.at_ 0 rfl
      have c2 := hAg.at_ 1 rfl
      have c3 := hAg.at_ 2 rfl
      have c4 := hAg.at_ 3 rfl
      have c5 := hAg.at_ 4 rfl
      clear hAg
      subst hA
      cases hq : overB x with
      | true =>
        rw [hq] at hcall
        have HQ := Lib.hid hq
        go_wp2_with (go_at_call 66; refine hcall.mono ?_; rintro e w' ⟨rfl, hb'⟩)
        go_ret
        exact ⟨⟨k, .inl ⟨by omega, List.any_eq_true.2 ⟨x, List.mem_of_getElem? HK.out, HQ.out⟩⟩, rfl⟩, hB.trans (hb'.mono hB.size)⟩
      | false =>
        rw [hq] at hcall
        have HQ := Lib.hid hq
        go_wp2_with (go_at_call 66; refine hcall.mono ?_; rintro e w' ⟨rfl, hb'⟩)
        go_roundw
        case rel => exact ⟨k + 1, by omega, by go_num, hB.trans (hb'.mono hB.size), fun j y hj hy => by
          by_cases e : j = k
          · subst e; rw [HK.out] at hy; injection hy with hy; rw [← hy]; exact HQ.out
          · exact HN.out j y (by omega) hy⟩
        case measure => simp [intOf]; omega
    · have hm := any_no (p := overB) (xs := xs) fun j y hj => HN.out j y (by omega)
      have HM := Lib.hid hm
      clear hm
      go_wp2
      go_ret
      exact ⟨⟨-1, .inr ⟨by omega, HM.out⟩, rfl⟩, hB⟩

theorem contDev_any (A : Option Addr) (c : Nat) (xs : List Dev) (w : World)
    (hl : xs.length ≤ 1000000) (hg : ∀ d, d ∈ xs → d.regs.length ≤ 1000000 ∧ d.needs.length ≤ 1000000) (h : StrsAt DevV 6 w w.heap.size A xs) :
    Calls Try.prog 65 #[.slice A xs.length c, .func (.func 66) #[] #[]] w (TellsB (xs.any overB) w) := by
  have HG := Lib.hid hg
  clear hg
  go_enter Try.func65, Try.ntmps65
  go_wp2_with fail
  refine (idxDev_any A c xs w hl HG.out h).mono ?_
  rintro e w' ⟨⟨z, ⟨hz, hm⟩ | ⟨hz, hm⟩, rfl⟩, hb⟩
  · have hz' : decide (0 ≤ z) = true := by simpa using hz
    have HM := Lib.hid hm
    clear hm
    go_wp2
    go_ret
    exact ⟨by first | rfl | exact ret_bool HM.out.symm, hb⟩
  · have hz' : decide (0 ≤ z) = false := by simpa using hz
    have HM := Lib.hid hm
    clear hm
    go_wp2
    go_ret
    exact ⟨by first | rfl | exact ret_bool HM.out.symm, hb⟩

theorem fits_no {s : Chip} (h : 12 < s.clks.length ∨ 6 < s.doms.length ∨ 6 < s.rsts.length ∨ 6 < s.devs.length) : fitsB s = false := by
  unfold fitsB
  rw [Bool.eq_false_iff]
  simp
  omega
theorem fits_eq {s : Chip} (h1 : s.clks.length ≤ 12) (h2 : s.doms.length ≤ 6) (h3 : s.rsts.length ≤ 6) (h4 : s.devs.length ≤ 6) : fitsB s = !s.devs.any overB := by
  unfold fitsB
  simp [h1, h2, h3, h4]

set_option maxHeartbeats 1000000 in
theorem fits_any (s : Chip) (vs : List Value) (w : World) (hok : ChipOk s) (h : ChipV w w.heap.size s vs) : Calls Try.prog 29 #[.agg vs.toArray] w (TellsB (fitsB s) w) := by
  obtain ⟨A1, c1, A2, c2, A3, c3, A4, c4, rfl, l1, l2, l3, l4, h1, h2, h3, h4⟩ := h
  have n1 := hok.n1
  have n2 := hok.n2
  have n3 := hok.n3
  have n4 := hok.n4
  have HD := Lib.hid hok.devs
  have H4 := Lib.hid h4
  clear hok h1 h2 h3 h4
  by_cases g1 : s.clks.length ≤ 12
  · have d1 : decide ((s.clks.length : Int) ≤ 12) = true := by simp; omega
    by_cases g2 : s.doms.length ≤ 6
    · have d2 : decide ((s.doms.length : Int) ≤ 6) = true := by simp; omega
      by_cases g3 : s.rsts.length ≤ 6
      · have d3 : decide ((s.rsts.length : Int) ≤ 6) = true := by simp; omega
        by_cases g4 : s.devs.length ≤ 6
        · have d4 : decide ((s.devs.length : Int) ≤ 6) = true := by simp; omega
          have hm := fits_eq g1 g2 g3 g4
          have HM := Lib.hid hm
          clear hm
          go_enter Try.func29, Try.ntmps29
          go_wp2_with (go_at_call 65; refine (contDev_any A4 c4 s.devs _ (by omega) (fun d hd => ⟨Nat.le_trans (HD.out d hd).1 (by decide), Nat.le_trans (HD.out d hd).2.1 (by decide)⟩) ((H4.out.below ((Below.refl _ w).alloc (Nat.le_refl _) _) (Nat.le_refl _)).more (by simp))).mono ?_; rintro e w' ⟨rfl, hb⟩)
          go_ret
          exact ⟨ret_bool HM.out.symm, ((Below.refl _ w).alloc (Nat.le_refl _) _).trans (hb.mono (by simp))⟩
        · have d4 : decide ((s.devs.length : Int) ≤ 6) = false := by simp; omega
          have HM := Lib.hid (fits_no (s := s) (by omega))
          go_enter Try.func29, Try.ntmps29
          go_wp2
          go_ret
          exact ⟨ret_bool HM.out.symm, ((Below.refl _ w).alloc (Nat.le_refl _) _)⟩
      · have d3 : decide ((s.rsts.length : Int) ≤ 6) = false := by simp; omega
        have HM := Lib.hid (fits_no (s := s) (by omega))
        go_enter Try.func29, Try.ntmps29
        go_wp2
        go_ret
        exact ⟨ret_bool HM.out.symm, ((Below.refl _ w).alloc (Nat.le_refl _) _)⟩
    · have d2 : decide ((s.doms.length : Int) ≤ 6) = false := by simp; omega
      have HM := Lib.hid (fits_no (s := s) (by omega))
      go_enter Try.func29, Try.ntmps29
      go_wp2
      go_ret
      exact ⟨ret_bool HM.out.symm, ((Below.refl _ w).alloc (Nat.le_refl _) _)⟩
  · have d1 : decide ((s.clks.length : Int) ≤ 12) = false := by simp; omega
    have HM := Lib.hid (fits_no (s := s) (by omega))
    go_enter Try.func29, Try.ntmps29
    go_wp2
    go_ret
    exact ⟨ret_bool HM.out.symm, ((Below.refl _ w).alloc (Nat.le_refl _) _)⟩

end Go.Proofs.Ytnfbhhgdibkbdaa
