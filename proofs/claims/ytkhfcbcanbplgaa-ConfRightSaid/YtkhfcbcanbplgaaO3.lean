/- One more device behind a chip's row of devices. -/
import Derived.Test.YtkhfcbcanbplgaaO2
namespace Go.Proofs.Ytkhfcbcanbplgaa
set_option linter.unusedSimpArgs false
set_option linter.unusedVariables false
open Go.RowKit Go.Maps

namespace Own5
variable {g0 : Nat} {w w' : World} {B : Nat} {s : Chip} {v1 v2 v3 v4 : Value}
/-- one more device behind the row -/
theorem pushDev {W5 : World} {x : Dev} {lits : List Value} (h : Own5 g0 w B s v1 v2 v3 v4) (hM : Moved [] w W5) (hx : DevC (g0 :: hot4 v1 v2 v3 v4) W5 x lits) (hl : lits.length = 6) :
    ∃ vss : List (List Value), W5.ownsRow B 44 6 v4 s.devs.length vss.flatten ∧ ∀ (v6 : Value) (w6 : World), w6.ownsRow B 44 6 v6 (s.devs.length + 1) (vss.flatten ++ lits) → W5.grownBy w6 v4.ownBlock → (v6.ownBlock = v4.ownBlock ∨ v6.ownBlock = some W5.heap.size) → g0 < W5.heap.size →
      (∀ w7, Moved [g0] w6 w7 → ChipV w7 w7.heap.size { s with devs := s.devs ++ [x] } [v1, v2, v3, v6]) ∧ Moved v4.ownBlock.toList W5 w6 := by
  have h5 := h.calm hM
  obtain ⟨vss, hvl, hvc, ho⟩ := h5.devs
  refine ⟨vss, ho, fun v6 w6 ho6 hg6 hb6 hgl => ?_⟩
  have hmv : Moved v4.ownBlock.toList W5 w6 := Moved.of_grown hg6 (fun k hk => by simp [hk])
  have hsub : ∀ k, k ∈ v4.ownBlock.toList → k ∈ g0 :: hot4 v1 v2 v3 v4 := fun k hk => by unfold hot4; simp at hk ⊢; simp [hk]
  refine ⟨fun w7 h7 => ?_, hmv⟩
  have hz6 : v6.ownBlock ≠ some g0 := by
    rcases hb6 with e | e <;> rw [e]
    · exact h.z4
    · intro e; injection e with e; omega
  have r1 := (RowC.push hvl hvc hl hx (hmv.mono hsub) ho6).move (w' := w7) (h7.mono (by simp)) (fun g hg => h7.block g (ho6.lt g hg).2 (by simp; rintro rfl; exact hz6 hg))
  have lt : ∀ {α : Type} {C : ReadsC α} {V : Reads α} [sc : SteadyC C V] {sz : Nat} {e : TypeId} {v : Value} {xs : List α}, RowC C sz e (g0 :: hot4 v1 v2 v3 v4) W5 B v xs → v.ownBlock ≠ some g0 → (∀ g, v4.ownBlock = some g → v.ownBlock ≠ some g) → RowC C sz e (g0 :: hot4 v1 v2 v3 v4) w7 B v xs := fun hr hz hne => by
    obtain ⟨_, _, _, _, hb⟩ := hr.shape
    have hm : Moved (g0 :: v4.ownBlock.toList) W5 w7 := (hmv.mono (by intro k hk; exact List.mem_cons_of_mem _ hk)).trans (h7.mono (by simp))
    refine hr.move (hm.mono fun k hk => ?_) fun g hg => hm.block g (hb g hg).2 ?_
    · rcases List.mem_cons.1 hk with rfl | hk
      · exact List.mem_cons_self
      · exact hsub k hk
    · intro hk
      rcases List.mem_cons.1 hk with rfl | hk
      · exact hz hg
      · exact hne g (by simpa using hk) hg
  have r2 := lt h5.clks h.z1 (fun g hg e => h.n14 g e hg)
  have r3 := lt h5.doms h.z2 (fun g hg e => h.n24 g e hg)
  have r4 := lt h5.rsts h.z3 (fun g hg e => h.n34 g e hg)
  obtain ⟨A4, c4, rfl, l4, h4⟩ := r1.strs
  obtain ⟨A1, c1, rfl, l1, h1⟩ := r2.strs
  obtain ⟨A2, c2, rfl, l2, h2⟩ := r3.strs
  obtain ⟨A3, c3, rfl, l3, h3⟩ := r4.strs
  exact ⟨A1, c1, A2, c2, A3, c3, A4, c4, rfl, l1, l2, l3, l4, h1, h2, h3, h4⟩
end Own5

end Go.Proofs.Ytkhfcbcanbplgaa
