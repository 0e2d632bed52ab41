/- An append onto one device's empty needs leaves the chip as it is. -/
import Derived.Test.YtkhfcbcanbplgaaO3
import Derived.Test.YtkhfcbcanbplgaaL2
import Derived.Test.YtkhfcbcanbplgaaW21
namespace Go.Proofs.Ytkhfcbcanbplgaa
set_option linter.unusedSimpArgs false
set_option linter.unusedVariables false
open Go.RowKit Go.Maps

/-- nothing reads in block g -/
def Void (w : World) (g : Nat) : Prop := ∀ p : Addr, p.block = g → w.cell? p = none
theorem Void.of_own {w : World} {B : Nat} {A : Option Addr} (h : w.ownsRow B 3 1 (.slice A 0 0) 0 []) {g : Nat} (hg : (Value.slice A 0 0).ownBlock = some g) : Void w g := by
  rcases h.2 with ⟨h1, _⟩ | ⟨g', cap, cur, h1, _, h3, _, _, h5, _⟩
  · injection h1 with h1
    subst h1
    simp [Value.ownBlock] at hg
  · injection h1 with h1 _ h2
    subst h1
    subst h2
    have hg' : g' = g := by simpa [Value.ownBlock] using hg
    subst hg'
    have hc : cur = #[] := Array.eq_empty_of_size_eq_zero (by omega)
    subst hc
    intro p hp
    unfold World.cell?
    rw [hp, h3]
    simp
section
variable {w : World} {g : Nat} {hot : List Nat}
theorem Void.ints (h : Void w g) {A : Option Addr} {xs : List Int} (hi : IntsC hot w A xs) : IntsC (g :: hot) w A xs := fun hl => by
  obtain ⟨ad, e, h1, h2, h3⟩ := hi hl
  refine ⟨ad, e, h1, fun hm => ?_, h3⟩
  rcases List.mem_cons.1 hm with e' | hm
  · have h4 := h3 0 _ (List.getElem?_eq_getElem hl)
    rw [h (ad.add 0) (by rw [block_add]; exact e')] at h4
    cases h4
  · exact h2 hm
theorem Void.regs (h : Void w g) {A : Option Addr} {rs : List Rgs} (hi : RegsC hot w A rs) : RegsC (g :: hot) w A rs := fun hl => by
  obtain ⟨ad, e, h1, h2, h3⟩ := hi hl
  refine ⟨ad, e, h1, fun hm => ?_, h3⟩
  rcases List.mem_cons.1 hm with e' | hm
  · have h4 := h3 0 _ (List.getElem?_eq_getElem hl) 0 _ rfl
    rw [h _ (by rw [block_add, block_add]; exact e')] at h4
    cases h4
  · exact h2 hm
end
class VoidC {α : Type} (C : ReadsC α) : Prop where
  void : ∀ {hot : List Nat} {w : World} {g : Nat} {x : α} {vs : List Value}, Void w g → C hot w x vs → C (g :: hot) w x vs
instance : VoidC ClkC := ⟨fun hv ⟨A, c, e, h1, h2⟩ => ⟨A, c, e, h1, hv.ints h2⟩⟩
instance : VoidC DomC := ⟨fun _ h => h⟩
instance : VoidC RstC := ⟨fun _ h => h⟩
instance : VoidC DevC := ⟨fun hv ⟨A, c, A', c', e, h1, h2, h3, h4⟩ => ⟨A, c, A', c', e, h1, h2, hv.regs h3, hv.ints h4⟩⟩
theorem RowC.void {α : Type} {C : ReadsC α} {V : Reads α} [sc : SteadyC C V] [vc : VoidC C] {sz : Nat} {e : TypeId} {hot : List Nat} {w w' : World} {B g : Nat} {v : Value} {xs : List α} (h : RowC C sz e hot w B v xs) (hv : Void w g) (hm : Moved [g] w w') (hg : v.ownBlock ≠ some g) : RowC C sz e hot w' B v xs := by
  obtain ⟨vss, h1, h2, h3⟩ := h
  refine ⟨vss, h1, fun k x vs hx hu => ⟨(h2 k x vs hx hu).1, ?_⟩, own_move h3 fun k hk => hm.block k (h3.lt k hk).2 (by simp; rintro rfl; exact hg hk)⟩
  exact sc.less (sc.move (vc.void hv (h2 k x vs hx hu).2) (hm.mono (by simp))) (fun k hk => List.mem_cons_of_mem _ hk)
theorem Own5.void {g0 : Nat} {w w' : World} {B : Nat} {s : Chip} {v1 v2 v3 v4 : Value} {g : Nat} (h : Own5 g0 w B s v1 v2 v3 v4) (hv : Void w g) (hm : Moved [g] w w') (hg : g ∉ hot4 v1 v2 v3 v4) : Own5 g0 w' B s v1 v2 v3 v4 := by
  have f1 : v1.ownBlock ≠ some g := fun e => hg (by simp [hot4, e])
  have f2 : v2.ownBlock ≠ some g := fun e => hg (by simp [hot4, e])
  have f3 : v3.ownBlock ≠ some g := fun e => hg (by simp [hot4, e])
  have f4 : v4.ownBlock ≠ some g := fun e => hg (by simp [hot4, e])
  exact ⟨h.clks.void hv hm f1, h.doms.void hv hm f2, h.rsts.void hv hm f3, h.devs.void hv hm f4, h.n12, h.n13, h.n14, h.n23, h.n24, h.n34, h.z1, h.z2, h.z3, h.z4⟩
/-- an append onto a device's empty needs -/
theorem Own5.grow {g0 : Nat} {w w' : World} {B : Nat} {s : Chip} {v1 v2 v3 v4 : Value} {A : Option Addr} (h : Own5 g0 w B s v1 v2 v3 v4) (hr : w.ownsRow B 3 1 (.slice A 0 0) 0 []) (hf : ∀ g', (Value.slice A 0 0).ownBlock = some g' → g' ∉ hot4 v1 v2 v3 v4) (hm : Moved (Value.slice A 0 0).ownBlock.toList w w') : Own5 g0 w' B s v1 v2 v3 v4 := by
  cases hA : (Value.slice A 0 0).ownBlock with
  | none => rw [hA] at hm; exact h.calm hm
  | some g => rw [hA] at hm; exact h.void (Void.of_own hr hA) hm (hf g hA)

end Go.Proofs.Ytkhfcbcanbplgaa
