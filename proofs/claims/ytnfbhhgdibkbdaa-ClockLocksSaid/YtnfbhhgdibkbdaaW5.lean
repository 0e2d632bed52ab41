/- The contracts of graph.Order, graph.Check, graph.orderFor. -/
import Derived.Test.YtnfbhhgdibkbdaaW4
namespace Go.Proofs.Ytnfbhhgdibkbdaa
set_option linter.unusedSimpArgs false
set_option linter.unusedVariables false
open Go.RowKit Go.Maps

/-- the error and the order that the chapter asks of a graph -/
def OrderSays (n : Nat) (g : Nat → List Int) (E : Int) (o : List Nat) : Prop :=
  (100 < n ∧ E = 1 ∧ o = []) ∨ (n ≤ 100 ∧ closedB n g = false ∧ E = 4 ∧ o = []) ∨ (n ≤ 100 ∧ closedB n g = true ∧ E = 5 ∧ o = [] ∧ ∃ p, Had g n p ∧ p.length < n) ∨
  (n ≤ 100 ∧ closedB n g = true ∧ E = 0 ∧ Had g n o ∧ o.length = n)

theorem OrderSays.unique {n : Nat} {g : Nat → List Int} {E E' : Int} {o o' : List Nat} (h : OrderSays n g E o) (h' : OrderSays n g E' o') : E = E' ∧ o = o' := by
  rcases h with ⟨h1, rfl, rfl⟩ | ⟨h1, h2, rfl, rfl⟩ | ⟨h1, h2, rfl, rfl, p, h3, h4⟩ | ⟨h1, h2, rfl, h3, h4⟩ <;>
  rcases h' with ⟨k1, rfl, rfl⟩ | ⟨k1, k2, rfl, rfl⟩ | ⟨k1, k2, rfl, rfl, q, k3, k4⟩ | ⟨k1, k2, rfl, k3, k4⟩ <;>
  first
  | exact ⟨rfl, rfl⟩
  | omega
  | exact absurd (h2.symm.trans k2) (by decide)
  | (have e := h3.unique k3; subst e; first | exact ⟨rfl, rfl⟩ | omega)

/-- a slice of the nodes o, made since w, and an error -/
def ListOut (P : Int → List Nat → Prop) (w : World) (e : Ending) (w' : World) : Prop :=
  ∃ E v o, P E o ∧ e = .returned (.tuple #[v, .int .i64 E]) ∧ w'.ownsRow w.heap.size 3 1 v o.length (iv (ci o)) ∧ Below w.heap.size w w'

set_option maxHeartbeats 1000000 in
theorem order_any (A : Option Addr) (n c : Nat) (g : Nat → List Int) (w : World) (hn : n ≤ 1000) (hl : ∀ i, i < n → (g i).length ≤ 1000000) (hwf : ∀ i, i < n → ∀ x, x ∈ g i → wfI x) (h : RowsAt w w.heap.size A n g) :
    Calls Try.prog 100 #[.slice A n c] w (ListOut (OrderSays n g) w) := by
  by_cases h1 : n ≤ 100
  · have HL := Lib.hid hl
    have HWF := Lib.hid hwf
    clear hl hwf
    cases hc : closedB n g with
    | false =>
      have HC := Lib.hid hc
      go_enter Try.func100, Try.ntmps100
      go_wp2_with (go_at_call 103; refine (closed_any A n c g _ w (by omega) HL.out h).mono ?_; rintro e w' ⟨rfl, rfl⟩)
      go_ret2
      exact ⟨4, _, [], .inr (.inl ⟨h1, HC.out, rfl, rfl⟩), rfl, World.ownsRow_nil _ _ _ _, Below.refl _ _⟩
    | true =>
      have HC := Lib.hid hc
      go_enter Try.func100, Try.ntmps100
      go_wp2_with (go_at_call 103; refine (closed_any A n c g _ w (by omega) HL.out h).mono ?_; rintro e w' ⟨rfl, rfl⟩)
      refine (had_any A n c g w hn HL.out HWF.out h).mono ?_
      rintro e w' ⟨o, v, hh, rfl, hown, hb⟩
      obtain ⟨Ao, co, rfl⟩ := own_shape hown
      have HH := Lib.hid hh
      have HOwn := Lib.hid hown
      have hle := hh.1.length_le
      clear hh hown
      by_cases hlt : o.length < n
      · go_wp2
        go_ret2
        exact ⟨5, _, [], .inr (.inr (.inl ⟨h1, HC.out, rfl, rfl, o, HH.out, hlt⟩)), rfl, World.ownsRow_nil _ _ _ _, hb⟩
      · go_wp2
        go_ret2
        exact ⟨0, _, o, .inr (.inr (.inr ⟨h1, HC.out, rfl, HH.out, by omega⟩)), rfl, HOwn.out, hb⟩
  · have h1' : 100 < n := by omega
    clear hl hwf h
    go_enter Try.func100, Try.ntmps100
    go_wp2
    go_ret2
    exact ⟨1, _, [], .inl ⟨h1', rfl, rfl⟩, rfl, World.ownsRow_nil _ _ _ _, Below.refl _ _⟩

def ErrOut (P : Int → Prop) (w : World) (e : Ending) (w' : World) : Prop := ∃ E, P E ∧ e = .returned (.int .i64 E) ∧ Below w.heap.size w w'

set_option maxHeartbeats 1000000 in
theorem check_any (A : Option Addr) (n c : Nat) (g : Nat → List Int) (w : World) (hn : n ≤ 1000) (hl : ∀ i, i < n → (g i).length ≤ 1000000) (hwf : ∀ i, i < n → ∀ x, x ∈ g i → wfI x) (h : RowsAt w w.heap.size A n g) :
    Calls Try.prog 73 #[.slice A n c] w (ErrOut (fun E => ∃ o, OrderSays n g E o) w) := by
  have HL := Lib.hid hl
  have HWF := Lib.hid hwf
  clear hl hwf
  go_enter Try.func73, Try.ntmps73
  go_wp2_with fail
  refine (order_any A n c g w hn HL.out HWF.out h).mono ?_
  rintro e w' ⟨E, v, o, hs, rfl, hown, hb⟩
  have HS := Lib.hid hs
  clear hs hown
  go_wp2
  go_ret
  exact ⟨E, ⟨o, HS.out⟩, rfl, hb⟩

end Go.Proofs.Ytnfbhhgdibkbdaa
