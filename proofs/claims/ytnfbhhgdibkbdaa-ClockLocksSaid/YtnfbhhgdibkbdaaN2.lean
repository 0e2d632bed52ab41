/- Plain: the statements' chips with something wrong. -/
import Derived.Test.YtnfbhhgdibkbdaaN1
namespace Go.Proofs.Ytnfbhhgdibkbdaa
set_option linter.unusedSimpArgs false
set_option linter.unusedVariables false

theorem fits_yes {s : Chip} (h1 : s.clks.length ≤ 12) (h2 : s.doms.length ≤ 6) (h3 : s.rsts.length ≤ 6) (h4 : s.devs.length ≤ 6) (h : ∀ d, d ∈ s.devs → d.regs.length ≤ 8 ∧ d.needs.length ≤ 6) : fitsB s = true := by
  have ha : s.devs.any overB = false := by
    rw [List.any_eq_false]
    intro d hd
    have := h d hd
    unfold overB
    simp
    omega
  unfold fitsB
  rw [ha]
  simp
  omega
theorem fits_not {s : Chip} {d : Dev} (h : d ∈ s.devs) (hr : 8 < d.regs.length) : fitsB s = false := by
  have ha : s.devs.any overB = true := List.any_eq_true.2 ⟨d, h, by unfold overB; simp; omega⟩
  unfold fitsB
  rw [ha]
  simp
theorem firstE_all {α : Type} {f : α → Int} {l : List α} (h : ∀ (i : Nat) (y : α), l[i]? = some y → f y = 0) : firstE (l.map f) = 0 :=
  firstE_zero fun x hx => by
    obtain ⟨y, hy, rfl⟩ := List.mem_map.1 hx
    obtain ⟨i, hi⟩ := List.mem_iff_getElem?.1 hy
    exact h i y hi
theorem firstE_snoc {α : Type} {f : α → Int} {l : List α} {x : α} (h : ∀ (i : Nat) (y : α), l[i]? = some y → f y = 0) : firstE ((l ++ [x]).map f) = f x := by
  rw [List.map_append, firstE_append, firstE_all h, if_pos rfl]
  by_cases hx : f x = 0
  · simp [firstE, hx]
  · simp [firstE, hx]
theorem firstE_set {α : Type} {f : α → Int} {x : α} : ∀ {l : List α} {r : Nat}, (∀ (i : Nat) (y : α), l[i]? = some y → f y = 0) → r < l.length → firstE ((l.set r x).map f) = f x
  | [], r, _, hr => by simp at hr
  | z :: l, 0, h, _ => by
    rw [List.set_cons_zero, List.map_cons, firstE_cons]
    have : firstE (l.map f) = 0 := firstE_all fun i y hi => h (i + 1) y (by simpa using hi)
    rw [this]
    split
    · rename_i e; exact e.symm
    · rfl
  | z :: l, r + 1, h, hr => by
    rw [List.set_cons_succ, List.map_cons, firstE_cons, if_pos (h 0 z rfl)]
    exact firstE_set (fun i y hi => h (i + 1) y (by simpa using hi)) (by simpa using hr)
theorem set_at {α : Type} {l : List α} {r i : Nat} {x y : α} (h : (l.set r x)[i]? = some y) : (i = r ∧ y = x) ∨ (i ≠ r ∧ l[i]? = some y) := by
  by_cases e : r = i
  · subst e
    have hl : r < (l.set r x).length := (List.getElem?_eq_some_iff.1 h).1
    rw [List.getElem?_set_self (by simpa using hl)] at h
    exact .inl ⟨rfl, (Option.some.inj h).symm⟩
  · rw [List.getElem?_set_ne e] at h
    exact .inr ⟨fun h => e h.symm, h⟩
theorem snoc_at {α : Type} {l : List α} {i : Nat} {x y : α} (h : (l ++ [x])[i]? = some y) : l[i]? = some y ∨ (i = l.length ∧ y = x) := by
  rcases Nat.lt_or_ge i l.length with hl | hl
  · rw [List.getElem?_append_left hl] at h
    exact .inl h
  · rw [List.getElem?_append_right hl] at h
    have : i = l.length := by have := (List.getElem?_eq_some_iff.1 h).1; simp at this; omega
    subst this
    simp at h
    exact .inr ⟨rfl, h.symm⟩

theorem domE_right {n i : Nat} {c : Dom} (h : c.above = -1 ∨ (0 ≤ c.above ∧ c.above < (i : Int))) (hi : i ≤ n) (hd : 0 ≤ c.delay ∧ c.delay ≤ 20) : domE n c = 0 := by
  have h1 : (c.above == -1 || nodesB n [c.above]) = true := by
    rcases h with h | h
    · simp [h]
    · have : nodesB n [c.above] = true := nodesB_yes fun x hx => by simp at hx; subst hx; omega
      simp [this]
  unfold domE
  rw [h1, betw_yes hd.1 hd.2]
  rfl
theorem devE_right {s : Chip} {c : Dev} (h1 : 0 ≤ c.clock ∧ c.clock < s.clks.length) (h2 : 0 ≤ c.domain ∧ c.domain < s.doms.length) (h3 : 0 ≤ c.rst ∧ c.rst < s.rsts.length) (h4 : ∀ x, x ∈ c.needs → 0 ≤ x ∧ x < (s.devs.length : Int)) : devE s c = 0 := by
  unfold devE
  rw [nodesB_yes (n := s.clks.length) (xs := [c.clock]) (fun x hx => by simp at hx; subst hx; exact h1), nodesB_yes (n := s.doms.length) (xs := [c.domain]) (fun x hx => by simp at hx; subst hx; exact h2), nodesB_yes (n := s.rsts.length) (xs := [c.rst]) (fun x hx => by simp at hx; subst hx; exact h3), nodesB_yes h4]
  rfl
theorem rstE_right {c : Rst} (h : 0 ≤ c.least ∧ c.least ≤ 20) : rstE c = 0 := by
  unfold rstE
  rw [betw_yes h.1 h.2]
  rfl

theorem chipE_eq {s : Chip} {b : Bool} {eC gC eD gD eR eV gV : Int} (h0 : fitsB s = b) (h1 : firstE (s.clks.map (clkE s.clks.length)) = eC) (h2 : graphE (clksG s) = gC) (h3 : firstE (s.doms.map (domE s.doms.length)) = eD) (h4 : graphE (domsG s) = gD)
    (h5 : firstE (s.rsts.map rstE) = eR) (h6 : firstE (s.devs.map (devE s)) = eV) (h7 : graphE (devsG s) = gV) : chipE s = firstE [orE b 8, eC, gC, eD, gD, eR, eV, gV] := by
  unfold chipE
  rw [h0, h1, h2, h3, h4, h5, h6, h7]

/-- the graph of what each part hangs on -/
theorem down_map {α : Type} {l : List α} {f : α → List Int} (hn : l.length ≤ 100) (h : ∀ (i : Nat) (c : α), l[i]? = some c → ∀ x, x ∈ f c → 0 ≤ x ∧ x < (i : Int)) : graphE (l.map f) = 0 :=
  graphE_down (by simpa using hn) fun i r hr x hx => by
    rw [List.getElem?_map] at hr
    cases hc : l[i]? with
    | none => rw [hc] at hr; cases hr
    | some c =>
      rw [hc] at hr
      have hr := Option.some.inj hr
      subst hr
      exact h i c hc x hx
theorem self_map {α : Type} {l : List α} {f : α → List Int} {r : Nat} {c : α} (hn : l.length ≤ 100) (hc : ∀ (i : Nat) (c : α), l[i]? = some c → ∀ x, x ∈ f c → 0 ≤ x ∧ x < (l.length : Int)) (hr : l[r]? = some c) (hx : (r : Int) ∈ f c) : graphE (l.map f) = 5 := by
  have hl := (List.getElem?_eq_some_iff.1 hr).1
  have hg : ∀ (i : Nat) (c : α), l[i]? = some c → gOf (l.map f) i = f c := fun i c hi => gOf_row (by rw [List.getElem?_map, hi]; rfl)
  refine graphE_self (a := r) (by simpa using hn) (closedB_yes fun i hi x hx => ?_) (by simpa using hl) (by rw [hg r c hr]; exact hx)
  rw [List.length_map] at hi ⊢
  rw [hg i _ (List.getElem?_eq_getElem hi)] at hx
  exact hc i _ (List.getElem?_eq_getElem hi) x hx
def aboveR (d : Dom) : List Int := if d.above = -1 then [] else [d.above]

theorem full_dev {s : Chip} {c : Dev} {m : List Dev} (hm : c ∈ m) (hc : 8 < c.regs.length) : chipE { s with devs := m } = 8 := by
  have h0 : fitsB { s with devs := m } = false := fits_not hm hc
  rw [chipE_eq (s := { s with devs := m }) h0 rfl rfl rfl rfl rfl rfl rfl]
  rfl

namespace Plain
variable {s : Chip} (h : Plain s)
include h
theorem fits {c : List Clk} {m : List Dom} {r : List Rst} (h1 : c.length ≤ 12) (h2 : m.length ≤ 6) (h3 : r.length ≤ 6) : fitsB ⟨c, m, r, s.devs⟩ = true :=
  fits_yes h1 h2 h3 (by have := h.nv; simp only; omega) fun d hd => by
    obtain ⟨i, hi⟩ := List.mem_iff_getElem?.1 hd
    have := h.devL i d hi
    omega
theorem eC {m : Nat} (hm : s.clks.length ≤ m) : firstE (s.clks.map (clkE m)) = 0 := firstE_all fun i y hi => h.clkR m i y hi hm
theorem gC : graphE (clksG s) = 0 := down_map (by have := h.nc; omega) h.clkD
theorem eD : firstE (s.doms.map (domE s.doms.length)) = 0 := firstE_all fun i y hi => domE_right (h.domA i y hi) (Nat.le_of_lt (List.getElem?_eq_some_iff.1 hi).1) (h.domD i y hi)
theorem gD : graphE (domsG s) = 0 := down_map (f := aboveR) (by have := h.nd; omega) fun i c hi x hx => by
  unfold aboveR at hx
  have := h.domA i c hi
  split at hx
  · simp at hx
  · simp at hx; subst hx; omega
theorem eR : firstE (s.rsts.map rstE) = 0 := firstE_all fun i y hi => rstE_right (h.rstL i y hi)
theorem devR {i : Nat} {y : Dev} (hi : s.devs[i]? = some y) : devE s y = 0 :=
  devE_right (h.devC i y hi) (h.devM i y hi) (h.devS i y hi) fun x hx => by have := h.devN i y hi x hx; have := (List.getElem?_eq_some_iff.1 hi).1; omega
theorem eV : firstE (s.devs.map (devE s)) = 0 := firstE_all fun _ _ hi => h.devR hi
theorem gV : graphE (devsG s) = 0 := down_map (by have := h.nv; omega) h.devN
theorem right : chipE s = 0 := by
  have h0 : fitsB s = true := h.fits (by have := h.nc; omega) (by have := h.nd; omega) (by have := h.nr; omega)
  rw [chipE_eq h0 (h.eC (Nat.le_refl _)) h.gC h.eD h.gD h.eR h.eV h.gV]
  rfl
theorem ok : ChipOk s := by
  have wf : ∀ x : Int, -1 ≤ x → x < 1000 → wfI x := fun x h1 h2 => by unfold wfI; omega
  refine ⟨by have := h.nc; omega, by have := h.nd; omega, by have := h.nr; omega, by have := h.nv; omega, fun c hc => ?_, fun c hc => ?_, fun c hc => ?_⟩
  · obtain ⟨i, hi⟩ := List.mem_iff_getElem?.1 hc
    have hl := (List.getElem?_eq_some_iff.1 hi).1
    have hn := h.nc
    exact ⟨by have := h.clkL i c hi; omega, fun x hx => by have := h.clkD i c hi x hx; exact wf x (by omega) (by omega)⟩
  · obtain ⟨i, hi⟩ := List.mem_iff_getElem?.1 hc
    have hl := (List.getElem?_eq_some_iff.1 hi).1
    have hn := h.nd
    have := h.domA i c hi
    exact wf _ (by omega) (by omega)
  · obtain ⟨i, hi⟩ := List.mem_iff_getElem?.1 hc
    have hl := (List.getElem?_eq_some_iff.1 hi).1
    have hn := h.nv
    have := h.devL i c hi
    exact ⟨by omega, by omega, fun x hx => by have := h.devN i c hi x hx; exact wf x (by omega) (by omega)⟩

/-! one more clock -/
theorem clkMore (c : Clk) : chipE { s with clks := s.clks ++ [c] } = firstE [clkE (s.clks.length + 1) c, graphE (clksG { s with clks := s.clks ++ [c] })] ∨ (clkE (s.clks.length + 1) c = 0 ∧ graphE (clksG { s with clks := s.clks ++ [c] }) = 0) := by
  have hn := h.nc
  have h0 : fitsB { s with clks := s.clks ++ [c] } = true := h.fits (by simp; omega) (by have := h.nd; omega) (by have := h.nr; omega)
  have h1 : firstE ((s.clks ++ [c]).map (clkE (s.clks ++ [c]).length)) = clkE (s.clks.length + 1) c := by
    rw [List.length_append]
    exact firstE_snoc fun i y hi => h.clkR _ i y hi (by simp)
  by_cases hz : clkE (s.clks.length + 1) c = 0 ∧ graphE (clksG { s with clks := s.clks ++ [c] }) = 0
  · exact .inr hz
  · left
    unfold chipE
    rw [h0]
    show firstE [0, firstE ((s.clks ++ [c]).map (clkE (s.clks ++ [c]).length)), _, _, _, _, _, _] = _
    rw [h1]
    simp only [firstE_cons, firstE_nil, if_true]
    split
    · split
      · rename_i h1 h2; exact absurd ⟨h1, h2⟩ hz
      · rfl
    · rfl
theorem fault0 : chipE { s with clks := s.clks ++ [⟨120, [], 0, 0, 0, 0⟩] } = 1 := by
  rcases h.clkMore ⟨120, [], 0, 0, 0, 0⟩ with e | ⟨e, _⟩
  · rw [e]; rfl
  · cases e
theorem fault11 : chipE { s with clks := s.clks ++ [⟨109, [0, 0, 0, 0, 0], 0, 0, 0, 0⟩] } = 1 := by
  have hj : joinedB ⟨109, [0, 0, 0, 0, 0], 0, 0, 0, 0⟩ = false := by decide
  have hc : clkE (s.clks.length + 1) ⟨109, [0, 0, 0, 0, 0], 0, 0, 0, 0⟩ = 1 := by unfold clkE; rw [hj]; rfl
  rcases h.clkMore ⟨109, [0, 0, 0, 0, 0], 0, 0, 0, 0⟩ with e | ⟨e, _⟩
  · rw [e, hc]; rfl
  · rw [hc] at e; cases e
theorem fault2 : chipE { s with clks := s.clks ++ [⟨100, [0], 0, 0, 1001, 0⟩] } = 3 := by
  have hn : nodesB (s.clks.length + 1) [0] = true := nodesB_yes fun x hx => by simp at hx; subst hx; omega
  have hr : rangeB ⟨100, [0], 0, 0, 1001, 0⟩ = false := by decide
  have hc : clkE (s.clks.length + 1) ⟨100, [0], 0, 0, 1001, 0⟩ = 3 := by unfold clkE; rw [hr, hn]; rfl
  rcases h.clkMore ⟨100, [0], 0, 0, 1001, 0⟩ with e | ⟨e, _⟩
  · rw [e, hc]; rfl
  · rw [hc] at e; cases e
theorem fault1 : chipE { s with clks := s.clks ++ [⟨103, [(s.clks.length : Int)], 0, 0, 0, 0⟩] } = 5 := by
  have hn : nodesB (s.clks.length + 1) [(s.clks.length : Int)] = true := nodesB_yes fun x hx => by simp at hx; subst hx; omega
  have hc : clkE (s.clks.length + 1) ⟨103, [(s.clks.length : Int)], 0, 0, 0, 0⟩ = 0 := by unfold clkE; rw [hn]; rfl
  have hg : graphE (clksG { s with clks := s.clks ++ [⟨103, [(s.clks.length : Int)], 0, 0, 0, 0⟩] }) = 5 := by
    refine self_map (r := s.clks.length) (c := ⟨103, [(s.clks.length : Int)], 0, 0, 0, 0⟩) (by have := h.nc; simp; omega) (fun i c hi x hx => ?_) (by simp) (by simp)
    rcases snoc_at hi with hi | ⟨_, rfl⟩
    · have := h.clkD i c hi x hx
      have := (List.getElem?_eq_some_iff.1 hi).1
      simp
      omega
    · simp at hx; subst hx; simp; omega
  rcases h.clkMore ⟨103, [(s.clks.length : Int)], 0, 0, 0, 0⟩ with e | ⟨e, e'⟩
  · rw [e, hc, hg]; rfl
  · rw [hg] at e'; cases e'
/-! the first clock turned -/
theorem clkSet (c : Clk) (hc : clkE s.clks.length c ≠ 0) : chipE { s with clks := s.clks.set 0 c } = clkE s.clks.length c := by
  have hn := h.nc
  have h0 : fitsB { s with clks := s.clks.set 0 c } = true := h.fits (by simp; omega) (by have := h.nd; omega) (by have := h.nr; omega)
  have h1 : firstE ((s.clks.set 0 c).map (clkE (s.clks.set 0 c).length)) = clkE s.clks.length c := by
    rw [List.length_set]
    exact firstE_set (fun i y hi => h.clkR _ i y hi (Nat.le_refl _)) (by omega)
  unfold chipE
  rw [h0]
  show firstE [0, firstE ((s.clks.set 0 c).map (clkE (s.clks.set 0 c).length)), _, _, _, _, _, _] = _
  rw [h1]
  simp only [firstE_cons, if_true, if_neg hc]
theorem fault3 : chipE { s with clks := s.clks.set 0 ⟨111, [], 0, 0, 0, 0⟩ } = 3 := h.clkSet ⟨111, [], 0, 0, 0, 0⟩ (by show (3 : Int) ≠ 0; decide)
theorem faultQ (r : Int) : chipE { s with clks := s.clks.set 0 ⟨113, [], r, 0, 0, 0⟩ } = 1 := h.clkSet ⟨113, [], r, 0, 0, 0⟩ (by show (1 : Int) ≠ 0; decide)
/-! domains turned -/
theorem domAny {m : List Dom} {e : Int} (hl : m.length = s.doms.length) (he : firstE (m.map (domE m.length)) = e) (hz : e ≠ 0 ∨ (e = 0 ∧ graphE (m.map aboveR) ≠ 0)) : chipE { s with doms := m } = if e = 0 then graphE (m.map aboveR) else e := by
  have h0 : fitsB { s with doms := m } = true := h.fits (by have := h.nc; omega) (by have := h.nd; omega) (by have := h.nr; omega)
  have hc := h.eC (Nat.le_refl _)
  have hg : graphE (clksG { s with doms := m }) = 0 := h.gC
  have hd : domsG { s with doms := m } = m.map aboveR := rfl
  unfold chipE
  rw [h0, hg, hd]
  show firstE [0, firstE (s.clks.map (clkE s.clks.length)), 0, firstE (m.map (domE m.length)), _, _, _, _] = _
  rw [hc, he]
  rcases hz with hz | ⟨rfl, hz⟩
  · simp only [firstE_cons, if_true, if_neg hz]
  · simp only [firstE_cons, if_true, if_neg hz]
theorem fault4 {r : Nat} {c : Dom} (hr : s.doms[r]? = some c) : chipE { s with doms := s.doms.set r { c with delay := 21 } } = 3 := by
  have hl := (List.getElem?_eq_some_iff.1 hr).1
  have he : domE (s.doms.set r { c with delay := 21 }).length { c with delay := 21 } = 3 := by
    have h1 : (c.above == -1 || nodesB s.doms.length [c.above]) = true := by
      rcases h.domA r c hr with h | h
      · simp [h]
      · have : nodesB s.doms.length [c.above] = true := nodesB_yes fun x hx => by simp at hx; subst hx; omega
        simp [this]
    rw [List.length_set]
    unfold domE
    rw [h1]
    rfl
  rw [h.domAny (m := s.doms.set r { c with delay := 21 }) (e := 3) (by simp) (by
    rw [firstE_set (fun i y hi => ?_) hl, he]
    rw [List.length_set]
    exact domE_right (h.domA i y hi) (Nat.le_of_lt (List.getElem?_eq_some_iff.1 hi).1) (h.domD i y hi)) (.inl (by decide))]
  rfl
theorem fault6 {r : Nat} {c : Dom} {v : Int} (hr : s.doms[r]? = some c) (hv : (s.doms.length : Int) ≤ v) : chipE { s with doms := s.doms.set r { c with above := v } } = 4 := by
  have hl := (List.getElem?_eq_some_iff.1 hr).1
  have he : domE (s.doms.set r { c with above := v }).length { c with above := v } = 4 := by
    have h1 : (v == -1 || nodesB s.doms.length [v]) = false := by
      have : nodesB s.doms.length [v] = false := by unfold nodesB; simp; exact betw_no (by omega)
      rw [this]
      simp
      omega
    rw [List.length_set]
    unfold domE
    simp only
    rw [h1]
    rfl
  rw [h.domAny (m := s.doms.set r { c with above := v }) (e := 4) (by simp) (by
    rw [firstE_set (fun i y hi => ?_) hl, he]
    rw [List.length_set]
    exact domE_right (h.domA i y hi) (Nat.le_of_lt (List.getElem?_eq_some_iff.1 hi).1) (h.domD i y hi)) (.inl (by decide))]
  rfl
theorem fault5 {r : Nat} {c : Dom} (hr : s.doms[r]? = some c) : chipE { s with doms := s.doms.set r { c with above := (r : Int) } } = 5 := by
  have hl := (List.getElem?_eq_some_iff.1 hr).1
  have hg : graphE ((s.doms.set r { c with above := (r : Int) }).map aboveR) = 5 := by
    refine self_map (r := r) (c := { c with above := (r : Int) }) (by have := h.nd; simp; omega) (fun i y hi x hx => ?_) (by rw [List.getElem?_set_self hl]) (by unfold aboveR; rw [if_neg (by simp only; omega)]; simp)
    rw [List.length_set]
    rcases set_at hi with ⟨_, rfl⟩ | ⟨_, hi⟩
    · unfold aboveR at hx; rw [if_neg (by simp only; omega)] at hx; simp at hx; omega
    · have := h.domA i y hi
      have := (List.getElem?_eq_some_iff.1 hi).1
      unfold aboveR at hx
      split at hx
      · simp at hx
      · simp at hx; omega
  rw [h.domAny (m := s.doms.set r { c with above := (r : Int) }) (e := 0) (by simp) (firstE_all fun i y hi => by
    rw [List.length_set]
    rcases set_at hi with ⟨_, rfl⟩ | ⟨_, hi⟩
    · exact domE_right (i := s.doms.length) (.inr ⟨by simp only; omega, by simp only; omega⟩) (Nat.le_refl _) (h.domD r c hr)
    · exact domE_right (h.domA i y hi) (Nat.le_of_lt (List.getElem?_eq_some_iff.1 hi).1) (h.domD i y hi)) (.inr ⟨rfl, by rw [hg]; decide⟩), if_pos rfl, hg]
/-! the first reset line turned -/
theorem fault7 : chipE { s with rsts := s.rsts.set 0 ⟨-1⟩ } = 3 := by
  have hn := h.nr
  have h0 : fitsB { s with rsts := s.rsts.set 0 ⟨-1⟩ } = true := h.fits (by have := h.nc; omega) (by have := h.nd; omega) (by simp; omega)
  have hr : firstE ((s.rsts.set 0 ⟨-1⟩).map rstE) = 3 := firstE_set (fun i y hi => rstE_right (h.rstL i y hi)) (by omega)
  rw [chipE_eq (s := { s with rsts := s.rsts.set 0 ⟨-1⟩ }) h0 (h.eC (Nat.le_refl _)) h.gC h.eD h.gD hr rfl rfl]
  simp [firstE_cons, orE]
/-! a device turned -/
theorem devAny {m : List Dev} {e : Int} (hl : m.length = s.devs.length) (hf : ∀ d, d ∈ m → d.regs.length ≤ 8 ∧ d.needs.length ≤ 6) (he : firstE (m.map (devE s)) = e) (hz : e ≠ 0 ∨ (e = 0 ∧ graphE (m.map Dev.needs) ≠ 0)) : chipE { s with devs := m } = if e = 0 then graphE (m.map Dev.needs) else e := by
  have h0 : fitsB { s with devs := m } = true := fits_yes (by have := h.nc; simp only; omega) (by have := h.nd; simp only; omega) (by have := h.nr; simp only; omega) (by have := h.nv; simp only; omega) hf
  have hd : (fun c => devE { s with devs := m } c) = devE s := by
    funext c
    unfold devE
    simp only [hl]
  have he' : firstE (m.map (devE { s with devs := m })) = e := by
    have : devE { s with devs := m } = devE s := hd
    rw [this]; exact he
  rw [chipE_eq (s := { s with devs := m }) h0 (h.eC (Nat.le_refl _)) h.gC h.eD h.gD h.eR he' rfl]
  have hg : devsG { s with devs := m } = m.map Dev.needs := rfl
  rw [hg]
  rcases hz with hz | ⟨rfl, hz⟩
  · simp only [firstE_cons, orE, if_true, if_neg hz]
  · simp only [firstE_cons, orE, if_true, if_neg hz]
theorem devLen {r : Nat} {c : Dev} (hc : c.regs.length ≤ 8 ∧ c.needs.length ≤ 6) : ∀ d, d ∈ s.devs.set r c → d.regs.length ≤ 8 ∧ d.needs.length ≤ 6 := fun d hd => by
  obtain ⟨i, hi⟩ := List.mem_iff_getElem?.1 hd
  rcases set_at hi with ⟨_, rfl⟩ | ⟨_, hi⟩
  · exact hc
  · have := h.devL i d hi; omega
theorem fault8 {r : Nat} {c : Dev} (hr : s.devs[r]? = some c) : chipE { s with devs := s.devs.set r { c with rst := (s.rsts.length : Int) } } = 4 := by
  have hl := (List.getElem?_eq_some_iff.1 hr).1
  have hL := h.devL r c hr
  have he : devE s { c with rst := (s.rsts.length : Int) } = 4 := by
    have h1 := h.devC r c hr
    have h2 := h.devM r c hr
    have h3 : nodesB s.rsts.length [(s.rsts.length : Int)] = false := by unfold nodesB; simp; exact betw_no (by omega)
    unfold devE
    simp only
    rw [nodesB_yes (n := s.clks.length) (xs := [c.clock]) (fun x hx => by simp at hx; subst hx; exact h1), nodesB_yes (n := s.doms.length) (xs := [c.domain]) (fun x hx => by simp at hx; subst hx; exact h2), h3]
    rfl
  rw [h.devAny (m := s.devs.set r { c with rst := (s.rsts.length : Int) }) (e := 4) (by simp) (h.devLen ⟨by simp only; omega, by simp only; omega⟩) (by rw [firstE_set (fun i y hi => h.devR hi) hl, he]) (.inl (by decide))]
  rfl
theorem fault9 {r : Nat} {c : Dev} (hr : s.devs[r]? = some c) : chipE { s with devs := s.devs.set r { c with needs := [(r : Int)] } } = 5 := by
  have hl := (List.getElem?_eq_some_iff.1 hr).1
  have hL := h.devL r c hr
  have hg : graphE ((s.devs.set r { c with needs := [(r : Int)] }).map Dev.needs) = 5 := by
    refine self_map (r := r) (c := { c with needs := [(r : Int)] }) (by have := h.nv; simp; omega) (fun i y hi x hx => ?_) (by rw [List.getElem?_set_self hl]) (by simp)
    rw [List.length_set]
    rcases set_at hi with ⟨_, rfl⟩ | ⟨_, hi⟩
    · simp at hx; subst hx; omega
    · have := h.devN i y hi x hx
      have := (List.getElem?_eq_some_iff.1 hi).1
      omega
  rw [h.devAny (m := s.devs.set r { c with needs := [(r : Int)] }) (e := 0) (by simp) (h.devLen ⟨by simp only; omega, by simp⟩) (firstE_all fun i y hi => by
    rcases set_at hi with ⟨_, rfl⟩ | ⟨_, hi⟩
    · exact devE_right (h.devC r c hr) (h.devM r c hr) (h.devS r c hr) (fun x hx => by simp at hx; subst hx; omega)
    · exact h.devR hi) (.inr ⟨rfl, by rw [hg]; decide⟩), if_pos rfl, hg]
end Plain

end Go.Proofs.Ytnfbhhgdibkbdaa
