/- Plain: a chip whose fields of no use are turned. -/
import Derived.Test.YtkhfcbcanbplgaaN2
import Derived.Test.YtkhfcbcanbplgaaW14
namespace Go.Proofs.Ytkhfcbcanbplgaa
set_option linter.unusedSimpArgs false
set_option linter.unusedVariables false

/-- a clock with its fields of no use turned -/
def unC (a b c r : Int) (k : Clk) : Clk :=
  { k with rate := if k.kind = 111 then k.rate else r, mul := if k.kind = 112 then k.mul else a, lock := if k.kind = 112 then k.lock else c, div := if k.kind = 112 ∨ k.kind = 100 then k.div else b }
theorem unC_range (a b c r : Int) (k : Clk) : rangeB (unC a b c r k) = rangeB k := by
  unfold rangeB unC
  simp only
  by_cases h1 : k.kind = 111
  · simp [h1]
  by_cases h2 : k.kind = 112
  · simp [h2]
  by_cases h3 : k.kind = 100
  · simp [h3]
  · simp [h1, h2, h3]
theorem unC_clkE (a b c r : Int) (n : Nat) (k : Clk) : clkE n (unC a b c r k) = clkE n k := by
  have h : joinedB (unC a b c r k) = joinedB k := rfl
  unfold clkE
  rw [h, unC_range]
  rfl
/-- the first i clocks turned -/
def mapTo {α : Type} (f : α → α) (i : Nat) (l : List α) : List α := (l.take i).map f ++ l.drop i
theorem mapTo_zero {α : Type} (f : α → α) (l : List α) : mapTo f 0 l = l := by simp [mapTo]
theorem mapTo_all {α : Type} (f : α → α) (l : List α) : mapTo f l.length l = l.map f := by simp [mapTo]
theorem mapTo_at {α : Type} {f : α → α} {i : Nat} {l : List α} {x : α} (h : (mapTo f i l)[i]? = some x) : l[i]? = some x := by
  have hl : i < (mapTo f i l).length := (List.getElem?_eq_some_iff.1 h).1
  simp [mapTo] at hl
  unfold mapTo at h
  rw [List.getElem?_append_right (by simp; exact Nat.min_le_left _ _)] at h
  simp at h
  have : i - min i l.length = 0 := by omega
  rw [this] at h
  simpa using h
theorem mapTo_succ {α : Type} {f : α → α} {i : Nat} {l : List α} {x : α} (h : l[i]? = some x) : (mapTo f i l).set i (f x) = mapTo f (i + 1) l := by
  obtain ⟨hl, hx⟩ := List.getElem?_eq_some_iff.1 h
  unfold mapTo
  rw [List.set_append_right _ _ (by simp; exact Nat.min_le_left _ _)]
  have h0 : i - ((l.take i).map f).length = 0 := by simp; omega
  rw [h0, List.drop_eq_getElem_cons hl, List.set_cons_zero, List.take_succ_eq_append_getElem hl, List.map_append, hx]
  simp
theorem mapTo_len {α : Type} (f : α → α) (i : Nat) (l : List α) : (mapTo f i l).length = l.length := by simp [mapTo]; omega
theorem Plain.unused {s : Chip} (h : Plain s) (a b c r : Int) : chipE { s with clks := s.clks.map (unC a b c r) } = 0 := by
  have h0 : fitsB { s with clks := s.clks.map (unC a b c r) } = true := h.fits (by have := h.nc; simp; omega) (by have := h.nd; omega) (by have := h.nr; omega)
  have h1 : firstE ((s.clks.map (unC a b c r)).map (clkE (s.clks.map (unC a b c r)).length)) = 0 := by
    rw [List.length_map, List.map_map]
    have : clkE s.clks.length ∘ unC a b c r = clkE s.clks.length := funext fun k => unC_clkE a b c r _ k
    rw [this]
    exact h.eC (Nat.le_refl _)
  have h2 : clksG { s with clks := s.clks.map (unC a b c r) } = clksG s := by
    unfold clksG
    simp only [List.map_map]
    rfl
  have hg := h.gC
  rw [← h2] at hg
  have hv : devE { s with clks := s.clks.map (unC a b c r) } = devE s := by
    funext d
    unfold devE
    simp
  have hV : firstE (s.devs.map (devE { s with clks := s.clks.map (unC a b c r) })) = 0 := by rw [hv]; exact h.eV
  rw [chipE_eq (s := { s with clks := s.clks.map (unC a b c r) }) h0 h1 hg h.eD h.gD h.eR hV h.gV]
  rfl
theorem ok_unused {s : Chip} (h : ChipOk s) (a b c r : Int) : ChipOk { s with clks := s.clks.map (unC a b c r) } :=
  ⟨by simpa using h.n1, h.n2, h.n3, h.n4, fun k hk => by
    obtain ⟨k', hk', rfl⟩ := List.mem_map.1 hk
    exact h.clks k' hk', h.doms, h.devs⟩
theorem Plain.told {s : Chip} (h : Plain s) {a b c r : Int} (ho : a ≠ 0 ∨ b ≠ 0 ∨ c ≠ 0) : eqP { s with clks := s.clks.map (unC a b c r) } s = false := by
  refine eqP_no fun e => ?_
  obtain ⟨r0, h0⟩ := h.clk0
  have e1 : s.clks.map (unC a b c r) = s.clks := congrArg Chip.clks e
  have e2 : (s.clks.map (unC a b c r))[0]? = some (unC a b c r ⟨111, [], r0, 0, 0, 0⟩) := by rw [List.getElem?_map, h0]; rfl
  rw [e1, h0] at e2
  have e3 := Option.some.inj e2
  have em : (0 : Int) = a := congrArg Clk.mul e3
  have ed : (0 : Int) = b := congrArg Clk.div e3
  have el : (0 : Int) = c := congrArg Clk.lock e3
  omega

end Go.Proofs.Ytkhfcbcanbplgaa
