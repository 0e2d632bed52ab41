/- The two maps of the lines: how they read, and what a store and a delete make of them. -/
import Derived.Test.YtpieihjipdgplaaR1
import Derived.Test.YtpieihjipdgplaaO2
import Derived.Maps.OwnSet
import Derived.RegionTactic
import Derived.StillTailTactics
namespace Go.Proofs.Ytpieihjipdgplaa
set_option linter.unusedSimpArgs false
set_option linter.unusedVariables false
open Go.RowKit Go.Maps

def holdD (a : Int) (b : Bool) : DataW Unit := .agg [.lit (.int .i64 a), .lit (.bool b)]
/-- how an element of the second map reads -/
def holdR (v : Value) : Option (DataW Unit × List MemPlace) :=
  match v with
  | .agg cs => (match cs.toList with
    | [.int .i64 a, .bool b] => some (holdD a b, [])
    | _ => none)
  | _ => none
theorem holdR_mk (a : Int) (b : Bool) : holdR (.agg #[.int .i64 a, .bool b]) = some (holdD a b, []) := rfl
theorem holdR_inv {v : Value} {a : Int} {b : Bool} {ps : List MemPlace} (h : holdR v = some (holdD a b, ps)) : v = .agg #[.int .i64 a, .bool b] := by
  unfold holdR at h
  split at h
  · rename_i cs
    split at h
    · rename_i x y hl
      simp [holdD] at h
      obtain ⟨⟨rfl, rfl⟩, _⟩ := h
      have : cs = #[.int .i64 x, .bool y] := by
        apply Array.toList_inj.1
        rw [hl]
      rw [this]
    · cases h
  · cases h

/-- the first map: what is least of each -/
structure LeastD (D : DataW Unit) (L : List Int) : Prop where
  size : Maps.size D = L.length
  has : ∀ i : Int, Maps.has D (.int .i64 i) = hasB L.length i
  at_ : ∀ (k : Nat) (x : Int), L[k]? = some x → ∀ z, D.atKey (.int .i64 (k : Int)) z = .lit (.int .i64 x)
def heldIn (xs : List Ln) (i : Int) : Bool := atP xs i Ln.held false
/-- the second map: how those stand that are held -/
structure HeldD (D : DataW Unit) (xs : List Ln) : Prop where
  size : Maps.size D = xs.countP Ln.held
  has : ∀ i : Int, Maps.has D (.int .i64 i) = heldIn xs i
  at_ : ∀ (k : Nat) (x : Ln), xs[k]? = some x → x.held = true → ∀ z, D.atKey (.int .i64 (k : Int)) z = holdD x.left x.want

theorem key_ne {i : Int} {k : Int} (h : i ≠ k) : (Lit.int .i64 i) ≠ Lit.int .i64 k := fun e => h (by injection e)
theorem isKey (i : Int) : WideAt.IsKeyLit (Lit.int .i64 i) := trivial
theorem hasB_zero (i : Int) : hasB 0 i = false := by unfold hasB; simp
theorem hasB_lt {n k : Nat} (h : k < n) : hasB n (k : Int) = true := by unfold hasB; simp; omega
theorem hasB_self (n : Nat) : hasB n (n : Int) = false := by unfold hasB; simp
theorem hasB_succ {n : Nat} {i : Int} (h : i ≠ (n : Int)) : hasB (n + 1) i = hasB n i := by
  unfold hasB
  rw [decide_eq_decide]
  constructor
  · rintro ⟨a, b⟩; exact ⟨a, by omega⟩
  · rintro ⟨a, b⟩; exact ⟨a, by omega⟩
theorem LeastD.nil : LeastD (.map []) [] := ⟨rfl, fun i => (hasB_zero i).symm, fun k x h => by simp at h⟩
theorem LeastD.push {D : DataW Unit} {L : List Int} (h : LeastD D L) (ht : Tidy D) (x : Int) : LeastD (D.put (.int .i64 (L.length : Int)) (.lit (.int .i64 x))) (L ++ [x]) := by
  have hno : Maps.has D (.int .i64 (L.length : Int)) = false := by rw [h.has]; exact hasB_self _
  have hln : (L ++ [x]).length = L.length + 1 := by simp
  refine ⟨?_, fun i => ?_, fun k y hy z => ?_⟩
  · rw [size_put ht, hno, h.size]; simp
  · rw [hln]
    by_cases e : i = (L.length : Int)
    · subst e
      rw [has_put_same ht.isMap (isKey _)]
      exact (hasB_lt (Nat.lt_succ_self _)).symm
    · rw [has_put_other (key_ne e), h.has, hasB_succ e]
  · by_cases e : k = L.length
    · subst e
      rw [List.getElem?_append_right (Nat.le_refl _)] at hy
      simp at hy
      subst hy
      exact atKey_put_same ht.isMap (isKey _) _ _
    · have hk : k < L.length := by have := get_lt hy; simp at this; omega
      rw [List.getElem?_append_left hk] at hy
      rw [atKey_put_other (key_ne (by omega))]
      exact h.at_ k y hy z
theorem heldIn_at {xs : List Ln} {k : Nat} {x : Ln} (h : xs[k]? = some x) : heldIn xs (k : Int) = x.held := atP_at h _ _
theorem heldIn_no {xs : List Ln} {i : Int} (h : hasB xs.length i = false) : heldIn xs i = false := atP_no h _ _
theorem heldIn_set {xs : List Ln} {k : Nat} {x x' : Ln} (hx : xs[k]? = some x) (i : Int) : heldIn (xs.set k x') i = if i = (k : Int) then x'.held else heldIn xs i := by
  have hk := get_lt hx
  by_cases e : i = (k : Int)
  · rw [if_pos e, e, heldIn_at (List.getElem?_set_self hk)]
  · rw [if_neg e]
    cases hb : hasB xs.length i with
    | false => rw [heldIn_no hb, heldIn_no (by simpa using hb)]
    | true =>
      obtain ⟨m, y, rfl, hy⟩ := hasB_ex hb
      rw [heldIn_at hy, heldIn_at (by rw [List.getElem?_set_ne (by omega)]; exact hy)]
theorem count_set : ∀ {xs : List Ln} {k : Nat} {x : Ln} (x' : Ln), xs[k]? = some x → (xs.set k x').countP Ln.held + (if x.held = true then 1 else 0) = xs.countP Ln.held + (if x'.held = true then 1 else 0)
  | [], k, x, x', h => by simp at h
  | y :: l, 0, x, x', h => by
    simp at h
    subst h
    rw [List.set_cons_zero, List.countP_cons, List.countP_cons]
    omega
  | y :: l, k + 1, x, x', h => by
    have := count_set (xs := l) (k := k) x' (by simpa using h)
    rw [List.set_cons_succ, List.countP_cons, List.countP_cons]
    omega
theorem HeldD.nil : HeldD (.map []) [] := ⟨rfl, fun i => by rw [heldIn_no (xs := []) (by exact hasB_zero i)]; rfl, fun k x h => by simp at h⟩
theorem HeldD.put {D : DataW Unit} {xs : List Ln} {k : Nat} {x x' : Ln} (h : HeldD D xs) (ht : Tidy D) (hx : xs[k]? = some x) (hh : x'.held = true) : HeldD (D.put (.int .i64 (k : Int)) (holdD x'.left x'.want)) (xs.set k x') := by
  have hk := get_lt hx
  refine ⟨?_, fun i => ?_, fun m y hy hyh z => ?_⟩
  · rw [size_put ht, h.has, heldIn_at hx, h.size]
    have := count_set x' hx
    rw [hh] at this
    cases hxh : x.held <;> rw [hxh] at this <;> simp at this ⊢ <;> omega
  · rw [heldIn_set hx]
    by_cases e : i = (k : Int)
    · subst e
      rw [has_put_same ht.isMap (isKey _), if_pos rfl, hh]
    · rw [has_put_other (key_ne e), h.has, if_neg e]
  · rcases set_at hy with ⟨rfl, rfl⟩ | ⟨e, hy⟩
    · exact atKey_put_same ht.isMap (isKey _) _ _
    · rw [atKey_put_other (key_ne (by omega))]
      exact h.at_ m y hy hyh z
theorem HeldD.del {D : DataW Unit} {xs : List Ln} {k : Nat} {x x' : Ln} (h : HeldD D xs) (ht : Tidy D) (hx : xs[k]? = some x) (hh : x'.held = false) : HeldD (D.del (.int .i64 (k : Int))) (xs.set k x') := by
  have hk := get_lt hx
  refine ⟨?_, fun i => ?_, fun m y hy hyh z => ?_⟩
  · have h1 := size_del (k := .int .i64 (k : Int)) ht
    rw [h.has, heldIn_at hx, h.size] at h1
    have := count_set x' hx
    rw [hh] at this
    cases hxh : x.held <;> rw [hxh] at this h1 <;> simp at this h1 <;> omega
  · rw [heldIn_set hx]
    by_cases e : i = (k : Int)
    · subst e
      rw [has_del_same, if_pos rfl, hh]
    · rw [has_del_other (key_ne e), h.has, if_neg e]
  · rcases set_at hy with ⟨rfl, rfl⟩ | ⟨e, hy⟩
    · rw [hh] at hyh; cases hyh
    · rw [atKey_del_other (key_ne (by omega))]
      exact h.at_ m y hy hyh z
theorem HeldD.push {D : DataW Unit} {xs : List Ln} (h : HeldD D xs) (ht : Tidy D) (x : Ln) (hh : x.held = true) : HeldD (D.put (.int .i64 (xs.length : Int)) (holdD x.left x.want)) (xs ++ [x]) := by
  have hno : Maps.has D (.int .i64 (xs.length : Int)) = false := by rw [h.has, heldIn_no (hasB_self _)]
  refine ⟨?_, fun i => ?_, fun k y hy hyh z => ?_⟩
  · rw [size_put ht, hno, h.size, List.countP_append]; simp [hh]
  · by_cases e : i = (xs.length : Int)
    · subst e
      rw [has_put_same ht.isMap (isKey _), heldIn_at (x := x) (by simp), hh]
    · rw [has_put_other (key_ne e), h.has]
      cases hb : hasB xs.length i with
      | false => rw [heldIn_no hb, heldIn_no (by rw [List.length_append]; show hasB (xs.length + 1) i = false; rw [hasB_succ e]; exact hb)]
      | true =>
        obtain ⟨m, y, rfl, hy⟩ := hasB_ex hb
        rw [heldIn_at hy, heldIn_at (by rw [List.getElem?_append_left (get_lt hy)]; exact hy)]
  · by_cases e : k = xs.length
    · subst e
      rw [List.getElem?_append_right (Nat.le_refl _)] at hy
      simp at hy
      subst hy
      exact atKey_put_same ht.isMap (isKey _) _ _
    · have hk : k < xs.length := by have := get_lt hy; simp at this; omega
      rw [List.getElem?_append_left hk] at hy
      rw [atKey_put_other (key_ne (by omega))]
      exact h.at_ k y hy hyh z

theorem own_tight {P : Program} {k : TypeId} {R : Value → Option (DataW Unit × List MemPlace)} {w : World} {b n m : Nat} {D : DataW Unit} (h : w.ownsMap P k R b n D) (hm : Maps.size D ≤ m) : w.ownsMap P k R b m D := by
  obtain ⟨es, clock, hb, F, hs, rfl⟩ := h
  refine ⟨es, clock, hb, F, ?_, rfl⟩
  simpa [Maps.size, length_sorted] using hm
theorem own_blk {P : Program} {k : TypeId} {R : Value → Option (DataW Unit × List MemPlace)} {w w' : World} {b n : Nat} {D : DataW Unit} (h : w.ownsMap P k R b n D) (hb : w'.heap[b]? = w.heap[b]?) : w'.ownsMap P k R b n D := by
  obtain ⟨es, clock, h1, r⟩ := h
  exact ⟨es, clock, hb.trans h1, r⟩

noncomputable abbrev leastR : Value → Option (DataW Unit × List MemPlace) := plainElem Try.prog 3
/-- the lines in memory: a box of two maps -/
structure LinesIs (w : World) (b bl bh : Nat) (xs : List Ln) : Prop where
  ne1 : bl ≠ b
  ne2 : bh ≠ b
  ne3 : bh ≠ bl
  box : BoxAt w b [.map (some bl), .map (some bh)]
  least : ∃ D, w.ownsMap Try.prog 3 leastR bl xs.length D ∧ LeastD D (xs.map Ln.least)
  held : ∃ D, w.ownsMap Try.prog 3 holdR bh xs.length D ∧ HeldD D xs
namespace LinesIs
variable {w w' : World} {b bl bh : Nat} {xs : List Ln}
theorem lt (h : LinesIs w b bl bh xs) : b < w.heap.size ∧ bl < w.heap.size ∧ bh < w.heap.size := by
  obtain ⟨D, h1, -⟩ := h.least
  obtain ⟨E, h2, -⟩ := h.held
  exact ⟨h.box.lt, h1.lt, h2.lt⟩
theorem far {hot : List Nat} (h : LinesIs w b bl bh xs) (hm : Moved hot w w') (h1 : b ∉ hot) (h2 : bl ∉ hot) (h3 : bh ∉ hot) : LinesIs w' b bl bh xs := by
  have hl := h.lt
  obtain ⟨D, o1, d1⟩ := h.least
  obtain ⟨E, o2, d2⟩ := h.held
  exact ⟨h.ne1, h.ne2, h.ne3, h.box.move hm h1, ⟨D, own_blk o1 (hm.block _ hl.2.1 h2), d1⟩, ⟨E, own_blk o2 (hm.block _ hl.2.2 h3), d2⟩⟩
theorem move (h : LinesIs w b bl bh xs) (hm : Moved [] w w') : LinesIs w' b bl bh xs := h.far hm (by simp) (by simp) (by simp)
theorem drewN (h : LinesIs w b bl bh xs) (n : Nat) : LinesIs (w.drewN n) b bl bh xs := h.move ⟨rfl, rfl, rfl, Nat.le_refl _, fun _ _ _ => rfl⟩
end LinesIs
theorem count_le (xs : List Ln) : xs.countP Ln.held ≤ xs.length := List.countP_le_length

end Go.Proofs.Ytpieihjipdgplaa
