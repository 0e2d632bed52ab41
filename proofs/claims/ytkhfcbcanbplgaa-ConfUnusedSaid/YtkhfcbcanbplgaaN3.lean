/- Plain: chips with two things wrong. -/
import Derived.Test.YtkhfcbcanbplgaaN2
namespace Go.Proofs.Ytkhfcbcanbplgaa
set_option linter.unusedSimpArgs false
set_option linter.unusedVariables false

/-- what is told of the q-th thing -/
def errF (q : Nat) : Int := if q = 0 then 8 else if q = 1 then 1 else if q = 2 then 4 else if q = 3 then 3 else if q = 4 then 3 else 5
/-- the q-th thing is made wrong, x being the lesser one -/
def StepF (x q : Nat) (s t : Chip) : Prop :=
  if q = 0 then ∃ d, s.devs[0]? = some d ∧ t = { s with devs := s.devs.set 0 { d with regs := List.replicate 9 ⟨0, false⟩ } }
  else if q = 1 then ∃ c, s.clks[0]? = some c ∧ t = { s with clks := s.clks.set 0 { c with kind := 113 } }
  else if q = 2 then ∃ d, s.doms[0]? = some d ∧ t = { s with doms := s.doms.set 0 { d with above := 77 } }
  else if q = 3 then ∃ d, s.doms[s.doms.length - 1]? = some d ∧ t = { s with doms := s.doms.set (s.doms.length - 1) { d with delay := 21, above := if x = 2 ∧ 1 < s.doms.length then -1 else d.above } }
  else if q = 4 then t = { s with rsts := s.rsts.set 0 ⟨-1⟩ }
  else ∃ d, s.devs[0]? = some d ∧ t = { s with devs := s.devs.set 0 { d with needs := [0] } }

structure SameLen (s t : Chip) : Prop where
  c : t.clks.length = s.clks.length
  m : t.doms.length = s.doms.length
  r : t.rsts.length = s.rsts.length
  d : t.devs.length = s.devs.length
section
variable {x q : Nat} {s t : Chip} (h : StepF x q s t)
include h
theorem StepF.len : SameLen s t := by
  unfold StepF at h
  split at h
  · obtain ⟨_, _, rfl⟩ := h; exact ⟨rfl, rfl, rfl, by simp⟩
  split at h
  · obtain ⟨_, _, rfl⟩ := h; exact ⟨by simp, rfl, rfl, rfl⟩
  split at h
  · obtain ⟨_, _, rfl⟩ := h; exact ⟨rfl, by simp, rfl, rfl⟩
  split at h
  · obtain ⟨_, _, rfl⟩ := h; exact ⟨rfl, by simp, rfl, rfl⟩
  split at h
  · subst h; exact ⟨rfl, rfl, by simp, rfl⟩
  · obtain ⟨_, _, rfl⟩ := h; exact ⟨rfl, rfl, rfl, by simp⟩
theorem StepF.clks (hq : q ≠ 1) : t.clks = s.clks := by
  unfold StepF at h
  repeat' split at h
  all_goals first | contradiction | (obtain ⟨_, _, rfl⟩ := h; rfl) | (subst h; rfl)
theorem StepF.doms (hq : q ≠ 2) (hq' : q ≠ 3) : t.doms = s.doms := by
  unfold StepF at h
  repeat' split at h
  all_goals first | contradiction | (obtain ⟨_, _, rfl⟩ := h; rfl) | (subst h; rfl)
theorem StepF.fit (hq : q ≠ 0) (hs : ∀ d, d ∈ s.devs → d.regs.length ≤ 8 ∧ d.needs.length ≤ 6) : ∀ d, d ∈ t.devs → d.regs.length ≤ 8 ∧ d.needs.length ≤ 6 := by
  unfold StepF at h
  rw [if_neg hq] at h
  split at h
  · obtain ⟨_, _, rfl⟩ := h; exact hs
  split at h
  · obtain ⟨_, _, rfl⟩ := h; exact hs
  split at h
  · obtain ⟨_, _, rfl⟩ := h; exact hs
  split at h
  · subst h; exact hs
  · obtain ⟨d, hd, rfl⟩ := h
    intro e he
    rcases List.mem_or_eq_of_mem_set he with he | he
    · exact hs e he
    · have := hs d (List.mem_of_getElem? hd)
      rw [he]
      exact ⟨this.1, by simp⟩
theorem StepF.ok (hs : ChipOk s) : ChipOk t := by
  have wf : ∀ z : Int, -1 ≤ z → z < 1000 → wfI z := fun z h1 h2 => by unfold wfI; omega
  unfold StepF at h
  split at h
  · obtain ⟨d, hd, rfl⟩ := h
    have := hs.devs d (List.mem_of_getElem? hd)
    refine ⟨hs.n1, hs.n2, hs.n3, by simpa using hs.n4, hs.clks, hs.doms, fun e he => ?_⟩
    rcases List.mem_or_eq_of_mem_set he with he | he
    · exact hs.devs e he
    · rw [he]; exact ⟨by simp, this.2⟩
  split at h
  · obtain ⟨d, hd, rfl⟩ := h
    have := hs.clks d (List.mem_of_getElem? hd)
    refine ⟨by simpa using hs.n1, hs.n2, hs.n3, hs.n4, fun e he => ?_, hs.doms, hs.devs⟩
    rcases List.mem_or_eq_of_mem_set he with he | he
    · exact hs.clks e he
    · rw [he]; exact this
  split at h
  · obtain ⟨d, hd, rfl⟩ := h
    refine ⟨hs.n1, by simpa using hs.n2, hs.n3, hs.n4, hs.clks, fun e he => ?_, hs.devs⟩
    rcases List.mem_or_eq_of_mem_set he with he | he
    · exact hs.doms e he
    · rw [he]; exact wf _ (by simp only; omega) (by simp only; omega)
  split at h
  · obtain ⟨d, hd, rfl⟩ := h
    have := hs.doms d (List.mem_of_getElem? hd)
    refine ⟨hs.n1, by simpa using hs.n2, hs.n3, hs.n4, hs.clks, fun e he => ?_, hs.devs⟩
    rcases List.mem_or_eq_of_mem_set he with he | he
    · exact hs.doms e he
    · rw [he]
      simp only
      split
      · exact wf _ (by omega) (by omega)
      · exact this
  split at h
  · subst h
    exact ⟨hs.n1, hs.n2, by simpa using hs.n3, hs.n4, hs.clks, hs.doms, hs.devs⟩
  · obtain ⟨d, hd, rfl⟩ := h
    have := hs.devs d (List.mem_of_getElem? hd)
    refine ⟨hs.n1, hs.n2, hs.n3, by simpa using hs.n4, hs.clks, hs.doms, fun e he => ?_⟩
    rcases List.mem_or_eq_of_mem_set he with he | he
    · exact hs.devs e he
    · rw [he]; exact ⟨this.1, by simp, by intro z hz; simp at hz; subst hz; exact wf _ (by omega) (by omega)⟩
end
theorem firstE_head {α : Type} {f : α → Int} {l : List α} {x : α} (hl : 0 < l.length) (hx : f x ≠ 0) : firstE ((l.set 0 x).map f) = f x := by
  cases l with
  | nil => simp at hl
  | cons y l => rw [List.set_cons_zero, List.map_cons, firstE_cons, if_neg hx]

theorem Plain.two {s t u : Chip} {x y : Nat} (h : Plain s) (hxy : x ≤ y) (hy : y < 6) (h1 : StepF x y s t) (h2 : StepF x x t u) : chipE u = errF x := by
  have n1 := h.nc
  have n2 := h.nd
  have n3 := h.nr
  have n4 := h.nv
  have l1 := h1.len
  have l2 := h2.len
  have hfit : ∀ d, d ∈ s.devs → d.regs.length ≤ 8 ∧ d.needs.length ≤ 6 := fun d hd => by
    obtain ⟨i, hi⟩ := List.mem_iff_getElem?.1 hd
    have := h.devL i d hi
    omega
  have hfu : x ≠ 0 → fitsB u = true := fun hx => fits_yes (by rw [l2.c, l1.c]; omega) (by rw [l2.m, l1.m]; omega) (by rw [l2.r, l1.r]; omega) (by rw [l2.d, l1.d]; omega) (h2.fit hx (h1.fit (by omega) hfit))
  by_cases x0 : x = 0
  · subst x0
    unfold StepF at h2
    rw [if_pos rfl] at h2
    obtain ⟨d, hd, rfl⟩ := h2
    exact full_dev (s := t) (c := { d with regs := List.replicate 9 ⟨0, false⟩ }) (List.mem_of_getElem? (List.getElem?_set_self (List.getElem?_eq_some_iff.1 hd).1)) (by simp)
  have hf := hfu x0
  by_cases x1 : x = 1
  · subst x1
    unfold StepF at h2
    rw [if_neg (by omega), if_pos rfl] at h2
    obtain ⟨c, hc, rfl⟩ := h2
    have hj : joinedB { c with kind := 113 } = false := rfl
    have he : ∀ m, clkE m { c with kind := 113 } = 1 := fun m => by unfold clkE; rw [hj]; rfl
    rw [chipE_eq (s := { t with clks := t.clks.set 0 { c with kind := 113 } }) hf (firstE_head (by rw [l1.c]; omega) (by rw [he]; decide)) rfl rfl rfl rfl rfl rfl, he]
    rfl
  have hc : u.clks = s.clks := (h2.clks x1).trans (h1.clks (by omega))
  have eC : firstE (u.clks.map (clkE u.clks.length)) = 0 := by rw [hc]; exact h.eC (Nat.le_refl _)
  have gC : graphE (clksG u) = 0 := by unfold clksG; rw [hc]; exact h.gC
  by_cases x2 : x = 2
  · subst x2
    unfold StepF at h2
    rw [if_neg (by omega), if_neg (by omega), if_pos rfl] at h2
    obtain ⟨d, hd, rfl⟩ := h2
    have he : domE (t.doms.set 0 { d with above := 77 }).length { d with above := 77 } = 4 := by
      have hn : (t.doms.set 0 { d with above := 77 }).length ≤ 4 := by rw [List.length_set, l1.m]; omega
      have hb : ((77 : Int) == -1 || nodesB (t.doms.set 0 { d with above := 77 }).length [77]) = false := by
        have : nodesB (t.doms.set 0 { d with above := 77 }).length [77] = false := by unfold nodesB; simp; exact betw_no (by rw [List.length_set] at hn; omega)
        rw [this]; rfl
      unfold domE
      simp only
      rw [hb]
      rfl
    rw [chipE_eq (s := { t with doms := t.doms.set 0 { d with above := 77 } }) hf eC gC (firstE_head (by rw [l1.m]; omega) (by rw [he]; decide)) rfl rfl rfl rfl, he]
    rfl
  by_cases x3 : x = 3
  · subst x3
    have hdm : ∃ d, s.doms[s.doms.length - 1]? = some d ∧ u.doms = s.doms.set (s.doms.length - 1) { d with delay := 21 } := by
      unfold StepF at h2
      rw [if_neg (by omega), if_neg (by omega), if_neg (by omega), if_pos rfl] at h2
      obtain ⟨d, hd, rfl⟩ := h2
      rw [l1.m] at hd ⊢
      simp only [show ¬ ((3 : Nat) = 2 ∧ 1 < s.doms.length) from by omega, if_false]
      by_cases y3 : y = 3
      · subst y3
        unfold StepF at h1
        rw [if_neg (by omega), if_neg (by omega), if_neg (by omega), if_pos rfl] at h1
        obtain ⟨d', hd', rfl⟩ := h1
        simp only [show ¬ ((3 : Nat) = 2 ∧ 1 < s.doms.length) from by omega, if_false] at hd ⊢
        rw [List.getElem?_set_self (by omega)] at hd
        have hd := Option.some.inj hd
        subst hd
        exact ⟨d', hd', by simp only [List.set_set]⟩
      · rw [h1.doms (by omega) y3] at hd ⊢
        exact ⟨d, hd, rfl⟩
    obtain ⟨d, hd, hu⟩ := hdm
    have hE := h.fault4 hd
    have hed : firstE (u.doms.map (domE u.doms.length)) = 3 := by
      rw [hu, firstE_set (fun i y hi => ?_) (by omega)]
      · rw [List.length_set]
        have h1 : (d.above == -1 || nodesB s.doms.length [d.above]) = true := by
          rcases h.domA _ d hd with h | h
          · simp [h]
          · have : nodesB s.doms.length [d.above] = true := nodesB_yes fun x hx => by simp at hx; subst hx; omega
            simp [this]
        unfold domE
        rw [h1]
        rfl
      · rw [List.length_set]
        exact domE_right (h.domA i y hi) (Nat.le_of_lt (List.getElem?_eq_some_iff.1 hi).1) (h.domD i y hi)
    rw [chipE_eq (s := u) hf eC gC hed rfl rfl rfl rfl]
    rfl
  have hm : u.doms = s.doms := (h2.doms x2 x3).trans (h1.doms (by omega) (by omega))
  have eD : firstE (u.doms.map (domE u.doms.length)) = 0 := by rw [hm]; exact h.eD
  have gD : graphE (domsG u) = 0 := by unfold domsG; rw [hm]; exact h.gD
  by_cases x4 : x = 4
  · subst x4
    unfold StepF at h2
    rw [if_neg (by omega), if_neg (by omega), if_neg (by omega), if_neg (by omega), if_pos rfl] at h2
    subst h2
    rw [chipE_eq (s := { t with rsts := t.rsts.set 0 ⟨-1⟩ }) hf eC gC eD gD (firstE_head (f := rstE) (x := ⟨-1⟩) (by rw [l1.r]; omega) (by show (3 : Int) ≠ 0; decide)) rfl rfl]
    rfl
  · obtain rfl : x = 5 := by omega
    obtain rfl : y = 5 := by omega
    unfold StepF at h1 h2
    rw [if_neg (by omega), if_neg (by omega), if_neg (by omega), if_neg (by omega), if_neg (by omega)] at h1 h2
    obtain ⟨d, hd, rfl⟩ := h1
    obtain ⟨d', hd', rfl⟩ := h2
    simp only at hd'
    rw [List.getElem?_set_self (by omega)] at hd'
    have hd' := Option.some.inj hd'
    subst hd'
    have := h.fault9 hd
    simp only [List.set_set]
    exact this

end Go.Proofs.Ytkhfcbcanbplgaa
