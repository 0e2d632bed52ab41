/- What it means that a slice of ints, and a slice of slices of ints, lies in memory below a block; how that is kept. -/
import Derived.Test.YtnfbhhgdibkbdaaChecked
import Derived.WalkKit
import Derived.ProofKit
import Derived.WalkLawsBesides
import Derived.Deep.QuietTactic
import Derived.BigQuiet
import Derived.Lib.Hide
import Derived.Below
namespace Go.Proofs.Ytnfbhhgdibkbdaa
set_option linter.unusedSimpArgs false
set_option linter.unusedVariables false
open Go.RowKit

/-- the slice address A leads to the ints xs, below block B -/
def IntsAt (w : World) (B : Nat) (A : Option Addr) (xs : List Int) : Prop :=
  0 < xs.length → ∃ ad, A = some ad ∧ ad.block < B ∧ ∀ j x, xs[j]? = some x → w.cell? (ad.add j) = some (.int .i64 x)

/-- the slice address A leads to n rows, row i holding g i, all below block B -/
def RowsAt (w : World) (B : Nat) (A : Option Addr) (n : Nat) (g : Nat → List Int) : Prop :=
  0 < n → ∃ ad, A = some ad ∧ ad.block < B ∧ ∀ i, i < n → ∃ Ai ci, w.cell? (ad.add i) = some (.slice Ai (g i).length ci) ∧ (g i).length ≤ ci ∧ IntsAt w B Ai (g i)

theorem block_add (a : Addr) (n : Nat) : (a.add n).block = a.block := by unfold Addr.add; split <;> rfl

theorem IntsAt.keep {w w' : World} {B : Nat} {A : Option Addr} {xs : List Int} (h : IntsAt w B A xs) (hk : ∀ p : Addr, p.block < B → w'.cell? p = w.cell? p) : IntsAt w' B A xs := by
  intro hl
  obtain ⟨ad, e, hb, hc⟩ := h hl
  exact ⟨ad, e, hb, fun j x hj => (hk _ (by rw [block_add]; exact hb)).trans (hc j x hj)⟩
theorem RowsAt.keep {w w' : World} {B n : Nat} {A : Option Addr} {g : Nat → List Int} (h : RowsAt w B A n g) (hk : ∀ p : Addr, p.block < B → w'.cell? p = w.cell? p) : RowsAt w' B A n g := by
  intro hl
  obtain ⟨ad, e, hb, hc⟩ := h hl
  refine ⟨ad, e, hb, fun i hi => ?_⟩
  obtain ⟨Ai, ci, h1, h2, h3⟩ := hc i hi
  exact ⟨Ai, ci, (hk _ (by rw [block_add]; exact hb)).trans h1, h2, h3.keep hk⟩
theorem IntsAt.below {w w' : World} {B C : Nat} {A : Option Addr} {xs : List Int} (h : IntsAt w B A xs) (hb : Below C w w') (hC : B ≤ C) : IntsAt w' B A xs :=
  h.keep fun _ hp => hb.cell (by omega)
theorem RowsAt.below {w w' : World} {B C n : Nat} {A : Option Addr} {g : Nat → List Int} (h : RowsAt w B A n g) (hb : Below C w w') (hC : B ≤ C) : RowsAt w' B A n g :=
  h.keep fun _ hp => hb.cell (by omega)
theorem IntsAt.more {w : World} {B C : Nat} {A : Option Addr} {xs : List Int} (h : IntsAt w B A xs) (hC : B ≤ C) : IntsAt w C A xs := by
  intro hl
  obtain ⟨ad, e, hb, hc⟩ := h hl
  exact ⟨ad, e, by omega, hc⟩
theorem RowsAt.more {w : World} {B C n : Nat} {A : Option Addr} {g : Nat → List Int} (h : RowsAt w B A n g) (hC : B ≤ C) : RowsAt w C A n g := by
  intro hl
  obtain ⟨ad, e, hb, hc⟩ := h hl
  refine ⟨ad, e, by omega, fun i hi => ?_⟩
  obtain ⟨Ai, ci, h1, h2, h3⟩ := hc i hi
  exact ⟨Ai, ci, h1, h2, h3.more hC⟩
theorem IntsAt.at_ {w : World} {B k : Nat} {A : Option Addr} {xs : List Int} (h : IntsAt w B A xs) (hk : k < xs.length) : ∃ ad, A = some ad ∧ ad.block < B ∧ w.cell? (ad.add k) = some (.int .i64 xs[k]) := by
  obtain ⟨ad, e, hb, hc⟩ := h (by omega)
  exact ⟨ad, e, hb, hc k _ (List.getElem?_eq_getElem hk)⟩
theorem RowsAt.at_ {w : World} {B n k : Nat} {A : Option Addr} {g : Nat → List Int} (h : RowsAt w B A n g) (hk : k < n) :
    ∃ ad Ai ci, A = some ad ∧ ad.block < B ∧ w.cell? (ad.add k) = some (.slice Ai (g k).length ci) ∧ (g k).length ≤ ci ∧ IntsAt w B Ai (g k) := by
  obtain ⟨ad, e, hb, hc⟩ := h (by omega)
  obtain ⟨Ai, ci, h1, h2, h3⟩ := hc k hk
  exact ⟨ad, Ai, ci, e, hb, h1, h2, h3⟩
theorem below_drewN {B : Nat} {a w : World} (h : Below B a w) (n : Nat) : Below B a (w.drewN n) := h.trans ⟨rfl, rfl, rfl, Nat.le_refl _, fun _ _ => rfl⟩

theorem ret_int {k : IntKind} {a b : Int} (h : a = b) : Ending.returned (.int k a) = .returned (.int k b) := by rw [h]
theorem ret_bool {a b : Bool} (h : a = b) : Ending.returned (.bool a) = .returned (.bool b) := by rw [h]

end Go.Proofs.Ytnfbhhgdibkbdaa
