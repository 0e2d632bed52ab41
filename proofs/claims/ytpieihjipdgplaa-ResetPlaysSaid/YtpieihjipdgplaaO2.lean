/- A chip whose rows the call owns, (cut): stores and appends make of it. -/
import Derived.Test.YtpieihjipdgplaaD
import Derived.Laws.OwnMore
namespace Go.Proofs.Ytpieihjipdgplaa
set_option linter.unusedSimpArgs false
set_option linter.unusedVariables false
open Go.RowKit Go.Maps

theorem get_lt {α : Type} {xs : List α} {k : Nat} {x : α} (hx : xs[k]? = some x) : k < xs.length := (List.getElem?_eq_some_iff.1 hx).1
theorem set_at {α : Type} {xs : List α} {k i : Nat} {x y : α} (h : (xs.set k x)[i]? = some y) : (i = k ∧ y = x) ∨ (i ≠ k ∧ xs[i]? = some y) := by
  by_cases e : i = k
  · subst e
    have hl : i < xs.length := by have := get_lt h; simpa using this
    rw [List.getElem?_set_self hl] at h
    exact .inl ⟨rfl, (Option.some.inj h).symm⟩
  · rw [List.getElem?_set_ne (Ne.symm e)] at h
    exact .inr ⟨e, h⟩

theorem flat_set {vss : List (List Value)} {sz : Nat} (h : ∀ vs, vs ∈ vss → vs.length = sz) : ∀ {k j : Nat} {vs : List Value} {u : Value}, vss[k]? = some vs → j < sz → vss.flatten.set (k * sz + j) u = (vss.set k (vs.set j u)).flatten := by
  induction vss with
  | nil => intro k j vs u hk; simp at hk
  | cons x l ih =>
    intro k j vs u hk hj
    have hx : x.length = sz := h x (by simp)
    cases k with
    | zero =>
      simp at hk
      subst hk
      rw [List.flatten_cons, Nat.zero_mul, Nat.zero_add, List.set_append_left _ _ (by omega), List.set_cons_zero, List.flatten_cons]
    | succ k =>
      have := ih (fun vs hv => h vs (by simp [hv])) (k := k) (j := j) (vs := vs) (u := u) (by simpa using hk) hj
      rw [List.flatten_cons, List.set_append_right _ _ (by rw [hx, Nat.add_mul]; omega), List.set_cons_succ, List.flatten_cons, hx, show (k + 1) * sz + j - sz = k * sz + j by rw [Nat.add_mul]; omega, this]

section
variable {α : Type} {C : ReadsC α} {sz : Nat} {e : TypeId} {hot : List Nat} {w w' : World} {B g n cap k j : Nat} {x : α} {xs : List α}
theorem RowC.cell (h : RowC C sz e hot w B (.slice (some ⟨g, 0, none⟩) n cap) xs) (hn : n = xs.length) (hk : xs[k]? = some x) :
    ∃ vs, vs.length = sz ∧ C hot w x vs ∧ ∀ j v, vs[j]? = some v → w.cell? ⟨g, k * sz + j, none⟩ = some v ∧ w.frozen? ⟨g, k * sz + j, none⟩ = false := by
  subst hn
  obtain ⟨vss, hl, hc, ho⟩ := h
  have hkl : k < vss.length := by rw [hl]; exact (List.getElem?_eq_some_iff.1 hk).1
  have hvs : vss[k]? = some vss[k] := List.getElem?_eq_getElem hkl
  obtain ⟨h1, h2⟩ := hc k x _ hk hvs
  refine ⟨vss[k], h1, h2, fun j v hj => ?_⟩
  have hjl : j < sz := by rw [← h1]; exact (List.getElem?_eq_some_iff.1 hj).1
  have hkx : k < xs.length := (List.getElem?_eq_some_iff.1 hk).1
  have hlt : k * sz + j < xs.length * sz := Nat.lt_of_lt_of_le (by rw [Nat.succ_mul]; omega : k * sz + j < (k + 1) * sz) (Nat.mul_le_mul_right _ hkx)
  refine ⟨?_, ho.frozenAt _⟩
  rw [ho.cellAt _ hlt]
  exact flat_get (RowC.len (e := e) (B := B) (v := .slice (some ⟨g, 0, none⟩) xs.length cap) hl hc) hvs hj
theorem RowC.set {V : Reads α} [sc : SteadyC C V] {x' : α} {u : Value} (h : RowC C sz e hot w B (.slice (some ⟨g, 0, none⟩) n cap) xs) (hn : n = xs.length) (hk : xs[k]? = some x) (hj : j < sz) (hg : g ∈ hot)
    (hx : ∀ vs, C hot w x vs → vs.length = sz → C hot w x' (vs.set j u)) : RowC C sz e hot (w.setCell ⟨g, k * sz + j, none⟩ u) B (.slice (some ⟨g, 0, none⟩) n cap) (xs.set k x') := by
  subst hn
  obtain ⟨vss, hl, hc, ho⟩ := h
  have hkl : k < vss.length := by rw [hl]; exact (List.getElem?_eq_some_iff.1 hk).1
  have hvs : vss[k]? = some vss[k] := List.getElem?_eq_getElem hkl
  obtain ⟨h1, h2⟩ := hc k x _ hk hvs
  have hm : Moved hot w (w.setCell ⟨g, k * sz + j, none⟩ u) := Moved.setCell w hg u
  refine ⟨vss.set k (vss[k].set j u), by simp [hl], fun i y us hy hu => ?_, ?_⟩
  · rcases set_at hy with ⟨rfl, rfl⟩ | ⟨hne, hy⟩
    · rw [List.getElem?_set_self hkl] at hu
      have hu := Option.some.inj hu
      subst hu
      exact ⟨by simpa using h1, sc.move (hx _ h2 h1) hm⟩
    · rw [List.getElem?_set_ne (Ne.symm hne)] at hu
      obtain ⟨h3, h4⟩ := hc i y us hy hu
      exact ⟨h3, sc.move h4 hm⟩
  · have := (ho.stored (k * sz + j) u).1
    rw [flat_set (RowC.len (e := e) (B := B) (v := .slice (some ⟨g, 0, none⟩) xs.length cap) hl hc) hvs hj] at this
    rwa [List.length_set]
end

end Go.Proofs.Ytpieihjipdgplaa
