/- Plain: a right chip with one device less, with one more, and with a circle of needs. -/
import Derived.Test.YtkhfcbcanbplgaaN2
import Derived.Test.YtkhfcbcanbplgaaW14
namespace Go.Proofs.Ytkhfcbcanbplgaa
set_option linter.unusedSimpArgs false
set_option linter.unusedVariables false

/-- the device that needs all n -/
def allD (s : Chip) : Dev := ⟨(s.clks.length : Int) - 1, (s.doms.length : Int) - 1, 0, 0, [], (List.range s.devs.length).map fun (i : Nat) => (i : Int)⟩
def lessC (s : Chip) : Chip := { s with devs := s.devs.take (s.devs.length - 1) }
def moreC (s : Chip) : Chip := { s with devs := s.devs ++ [allD s] }
def circC (s : Chip) (c : Dev) : Chip := { s with devs := (s.devs ++ [allD s]).set 0 { c with needs := c.needs ++ [(s.devs.length : Int)] } }

theorem all_needs {s : Chip} {x : Int} (h : x ∈ (allD s).needs) : 0 ≤ x ∧ x < (s.devs.length : Int) := by
  obtain ⟨i, hi, rfl⟩ := List.mem_map.1 h
  have := List.mem_range.1 hi
  omega
theorem all_len' {s : Chip} : (allD s).needs.length = s.devs.length := by simp [allD]

namespace Plain
variable {s : Chip} (h : Plain s)
include h
theorem devsE {m : List Dev} (hl : m.length ≤ 6) (hf : ∀ d, d ∈ m → d.regs.length ≤ 8 ∧ d.needs.length ≤ 6) (hr : ∀ (i : Nat) (y : Dev), m[i]? = some y → devE { s with devs := m } y = 0) : chipE { s with devs := m } = graphE (m.map Dev.needs) := by
  have h0 : fitsB { s with devs := m } = true := fits_yes (by have := h.nc; simp only; omega) (by have := h.nd; simp only; omega) (by have := h.nr; simp only; omega) hl hf
  have hV : firstE (m.map (devE { s with devs := m })) = 0 := firstE_all hr
  rw [chipE_eq (s := { s with devs := m }) h0 (h.eC (Nat.le_refl _)) h.gC h.eD h.gD h.eR hV rfl]
  have hg : devsG { s with devs := m } = m.map Dev.needs := rfl
  rw [hg]
  by_cases hz : graphE (m.map Dev.needs) = 0
  · simp [firstE_cons, firstE_nil, orE, hz]
  · simp [firstE_cons, firstE_nil, orE, hz]
theorem more_at {i : Nat} {y : Dev} (hi : (s.devs ++ [allD s])[i]? = some y) : (0 ≤ y.clock ∧ y.clock < s.clks.length) ∧ (0 ≤ y.domain ∧ y.domain < s.doms.length) ∧ (0 ≤ y.rst ∧ y.rst < s.rsts.length) ∧ (∀ x, x ∈ y.needs → 0 ≤ x ∧ x < (i : Int)) ∧ y.needs.length ≤ 4 ∧ y.regs.length ≤ 4 ∧ i ≤ s.devs.length := by
  have b1 := h.nc
  have b2 := h.nd
  have b3 := h.nr
  have b4 := h.nv
  rcases snoc_at hi with hi | ⟨rfl, rfl⟩
  · have := h.devL i y hi
    exact ⟨h.devC i y hi, h.devM i y hi, h.devS i y hi, h.devN i y hi, by omega, by omega, Nat.le_of_lt (List.getElem?_eq_some_iff.1 hi).1⟩
  · exact ⟨by simp only [allD]; omega, by simp only [allD]; omega, by simp only [allD]; omega, fun x hx => all_needs hx, by rw [all_len']; omega, by simp [allD], Nat.le_refl _⟩
theorem lessE : chipE (lessC s) = 0 := by
  have b4 := h.nv
  have hat : ∀ {i : Nat} {y : Dev}, (s.devs.take (s.devs.length - 1))[i]? = some y → s.devs[i]? = some y ∧ i < s.devs.length - 1 := fun {i y} hi => by
    have hl := (List.getElem?_eq_some_iff.1 hi).1
    simp at hl
    rw [List.getElem?_take_of_lt (by omega)] at hi
    exact ⟨hi, by omega⟩
  have hm : (s.devs.take (s.devs.length - 1)).length = s.devs.length - 1 := by simp
  unfold lessC
  rw [h.devsE (by omega) (fun d hd => ?_) (fun i y hi => ?_)]
  · exact down_map (by omega) fun i c hi => h.devN i c (hat hi).1
  · obtain ⟨i, hi⟩ := List.mem_iff_getElem?.1 hd
    have := h.devL i d (hat hi).1
    omega
  · have h1 := (hat hi).1
    refine devE_right (h.devC i y h1) (h.devM i y h1) (h.devS i y h1) fun x hx => ?_
    have := h.devN i y h1 x hx
    have := (hat hi).2
    show 0 ≤ x ∧ x < ((s.devs.take (s.devs.length - 1)).length : Int)
    rw [hm]
    omega
theorem moreE : chipE (moreC s) = 0 := by
  have b4 := h.nv
  have hm : (s.devs ++ [allD s]).length = s.devs.length + 1 := by simp
  unfold moreC
  rw [h.devsE (by omega) (fun d hd => ?_) (fun i y hi => ?_)]
  · exact down_map (by omega) fun i c hi => (h.more_at hi).2.2.2.1
  · obtain ⟨i, hi⟩ := List.mem_iff_getElem?.1 hd
    have := h.more_at hi
    omega
  · obtain ⟨h1, h2, h3, h4, -, -, h5⟩ := h.more_at hi
    refine devE_right h1 h2 h3 fun x hx => ?_
    have := h4 x hx
    show 0 ≤ x ∧ x < ((s.devs ++ [allD s]).length : Int)
    rw [hm]
    omega
theorem circ_at {c : Dev} (hc : s.devs[0]? = some c) {i : Nat} {y : Dev} (hi : ((s.devs ++ [allD s]).set 0 { c with needs := c.needs ++ [(s.devs.length : Int)] })[i]? = some y) : (0 ≤ y.clock ∧ y.clock < s.clks.length) ∧ (0 ≤ y.domain ∧ y.domain < s.doms.length) ∧ (0 ≤ y.rst ∧ y.rst < s.rsts.length) ∧ (∀ x, x ∈ y.needs → 0 ≤ x ∧ x < (s.devs.length : Int) + 1) ∧ y.needs.length ≤ 5 ∧ y.regs.length ≤ 4 := by
  rcases set_at hi with ⟨rfl, rfl⟩ | ⟨hne, hi⟩
  · have := h.devL 0 c hc
    refine ⟨h.devC 0 c hc, h.devM 0 c hc, h.devS 0 c hc, fun x hx => ?_, by simp; omega, by simp only; omega⟩
    rcases List.mem_append.1 hx with hx | hx
    · have := h.devN 0 c hc x hx
      omega
    · simp at hx; omega
  · obtain ⟨h1, h2, h3, h4, h5, h6, h7⟩ := h.more_at hi
    exact ⟨h1, h2, h3, fun x hx => by have := h4 x hx; omega, by omega, h6⟩
theorem circE {c : Dev} (hc : s.devs[0]? = some c) : chipE (circC s c) = 5 := by
  have b4 := h.nv
  have hm : ((s.devs ++ [allD s]).set 0 { c with needs := c.needs ++ [(s.devs.length : Int)] }).length = s.devs.length + 1 := by simp
  unfold circC
  rw [h.devsE (by omega) (fun d hd => ?_) (fun i y hi => ?_)]
  · have hg : ∀ (i : Nat) (y : Dev), ((s.devs ++ [allD s]).set 0 { c with needs := c.needs ++ [(s.devs.length : Int)] })[i]? = some y → gOf (((s.devs ++ [allD s]).set 0 { c with needs := c.needs ++ [(s.devs.length : Int)] }).map Dev.needs) i = y.needs := fun i y hi => gOf_row (by rw [List.getElem?_map, hi]; rfl)
    have e0 := hg 0 { c with needs := c.needs ++ [(s.devs.length : Int)] } (by rw [List.getElem?_set_self (by simp)])
    have e1 := hg s.devs.length (allD s) (by rw [List.getElem?_set_ne (by omega)]; simp)
    refine graphE_cycle (a := 0) (by rw [List.length_map, hm]; omega) (closedB_yes fun i hi x hx => ?_) (by rw [List.length_map, hm]; omega) (.more (c := s.devs.length) (by rw [e0]; simp) (.one (by rw [e1]; exact List.mem_map.2 ⟨0, List.mem_range.2 (by omega), rfl⟩)))
    rw [List.length_map] at hi ⊢
    rw [hg i _ (List.getElem?_eq_getElem hi)] at hx
    have := (h.circ_at hc (List.getElem?_eq_getElem hi)).2.2.2.1 x hx
    rw [hm]
    omega
  · obtain ⟨i, hi⟩ := List.mem_iff_getElem?.1 hd
    have := h.circ_at hc hi
    omega
  · obtain ⟨h1, h2, h3, h4, -, -⟩ := h.circ_at hc hi
    refine devE_right h1 h2 h3 fun x hx => ?_
    have := h4 x hx
    show 0 ≤ x ∧ x < (((s.devs ++ [allD s]).set 0 { c with needs := c.needs ++ [(s.devs.length : Int)] }).length : Int)
    rw [hm]
    omega
theorem okDevs {m : List Dev} (hl : m.length ≤ 1000) (hd : ∀ (i : Nat) (y : Dev), m[i]? = some y → (∀ x, x ∈ y.needs → 0 ≤ x ∧ x < (s.devs.length : Int) + 1) ∧ y.needs.length ≤ 5 ∧ y.regs.length ≤ 4) : ChipOk { s with devs := m } := by
  have b4 := h.nv
  refine ⟨h.ok.n1, h.ok.n2, h.ok.n3, hl, h.ok.clks, h.ok.doms, fun d hd' => ?_⟩
  obtain ⟨i, hi⟩ := List.mem_iff_getElem?.1 hd'
  obtain ⟨h1, h2, h3⟩ := hd i d hi
  exact ⟨by omega, by omega, fun x hx => by have := h1 x hx; unfold wfI; omega⟩
theorem okLess : ChipOk (lessC s) := h.okDevs (by have := h.nv; simp; omega) fun i y hi => by
  have hl := (List.getElem?_eq_some_iff.1 hi).1
  simp at hl
  rw [List.getElem?_take_of_lt (by omega)] at hi
  have := h.devL i y hi
  exact ⟨fun x hx => by have := h.devN i y hi x hx; omega, by omega, by omega⟩
theorem okMore : ChipOk (moreC s) := h.okDevs (by have := h.nv; simp; omega) fun i y hi => by
  obtain ⟨-, -, -, h4, h5, h6, h7⟩ := h.more_at hi
  exact ⟨fun x hx => by have := h4 x hx; omega, by omega, by omega⟩
theorem okCirc {c : Dev} (hc : s.devs[0]? = some c) : ChipOk (circC s c) := h.okDevs (by have := h.nv; simp; omega) fun i y hi => by
  obtain ⟨-, -, -, h4, h5, h6⟩ := h.circ_at hc hi
  exact ⟨h4, h5, h6⟩
end Plain
theorem order0 {rows : List (List Int)} {n : Nat} {E : Int} {o : List Nat} (hn : rows.length = n) (hg : graphE rows = 0) (hs : OrderSays n (gOf rows) E o) : E = 0 := by
  subst hn
  rw [← graphE_eq hs, hg]
theorem more_not (s : Chip) : eqP s (moreC s) = false := eqP_no fun e => by
  have := congrArg (fun t : Chip => t.devs.length) e
  simp [moreC] at this

end Go.Proofs.Ytkhfcbcanbplgaa
