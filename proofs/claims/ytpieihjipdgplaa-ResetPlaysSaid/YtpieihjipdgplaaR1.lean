/- A reset line and how it stands, plainly: what the calls of the lines tell, and make of it. -/
import Derived.Test.YtpieihjipdgplaaO2
namespace Go.Proofs.Ytpieihjipdgplaa
set_option linter.unusedSimpArgs false
set_option linter.unusedVariables false

/-- a line, and how it stands -/
structure Ln where
  least : Int
  held : Bool
  left : Int
  want : Bool
instance : Inhabited Ln := ⟨⟨0, false, 0, false⟩⟩
/-- as it is at first -/
def newL (r : Rst) : Ln := ⟨r.least, true, 0, false⟩
/-- is i one of n? -/
def hasB (n : Nat) (i : Int) : Bool := decide (0 ≤ i ∧ i < (n : Int))
theorem hasB_at {α : Type} {xs : List α} {k : Nat} {x : α} (h : xs[k]? = some x) : hasB xs.length (k : Int) = true := by
  have := (List.getElem?_eq_some_iff.1 h).1
  unfold hasB
  simp
  omega
theorem hasB_ex {α : Type} {xs : List α} {i : Int} (h : hasB xs.length i = true) : ∃ (k : Nat) (x : α), i = (k : Int) ∧ xs[k]? = some x := by
  unfold hasB at h
  simp at h
  exact ⟨i.toNat, xs[i.toNat]'(by omega), by omega, List.getElem?_eq_getElem (by omega)⟩
def atP {α β : Type} (xs : List α) (i : Int) (f : α → β) (b : β) : β := if hasB xs.length i = true then (match xs[i.toNat]? with | some x => f x | none => b) else b
theorem atP_at {α β : Type} {xs : List α} {k : Nat} {x : α} (h : xs[k]? = some x) (f : α → β) (b : β) : atP xs (k : Int) f b = f x := by
  unfold atP
  rw [if_pos (hasB_at h)]
  simp [h]
theorem atP_no {α β : Type} {xs : List α} {i : Int} (h : hasB xs.length i = false) (f : α → β) (b : β) : atP xs i f b = b := by
  unfold atP
  simp [h]
def setT {α : Type} (xs : List α) (i : Int) (f : α → α) : List α := if hasB xs.length i = true then (match xs[i.toNat]? with | some x => xs.set i.toNat (f x) | none => xs) else xs
theorem setT_at {α : Type} {xs : List α} {k : Nat} {x : α} (f : α → α) (h : xs[k]? = some x) : setT xs (k : Int) f = xs.set k (f x) := by unfold setT; rw [if_pos (hasB_at h)]; simp [h]
theorem setT_no {α : Type} {xs : List α} {i : Int} (f : α → α) (h : hasB xs.length i = false) : setT xs i f = xs := by unfold setT; simp [h]
theorem setT_len {α : Type} (xs : List α) (i : Int) (f : α → α) : (setT xs i f).length = xs.length := by
  unfold setT
  split
  · split <;> simp
  · rfl
def assertL (x : Ln) : Ln := ⟨x.least, true, x.least, false⟩
def wantL (x : Ln) : Ln := if x.held = true then ⟨x.least, true, x.left, true⟩ else x
def passL (x : Ln) : Ln := if x.held = true then (if 0 < x.left then ⟨x.least, true, x.left - 1, x.want⟩ else if x.want = true then ⟨x.least, false, 0, false⟩ else x) else x
/-- is it let go by a tick? -/
def goB (x : Ln) : Bool := x.held && decide (¬ 0 < x.left) && x.want
def assertE (xs : List Ln) (i : Int) : Int := if hasB xs.length i = true then 0 else 4
def assertT (xs : List Ln) (i : Int) : List Ln := setT xs i assertL
def releaseE (xs : List Ln) (i : Int) : Int := atP xs i (fun x => if x.held = true then 0 else 6) 4
def releaseT (xs : List Ln) (i : Int) : List Ln := setT xs i wantL
def heldP (xs : List Ln) (i : Int) : Bool := atP xs i Ln.held true
def leftP (xs : List Ln) (i : Int) : Int := atP xs i Ln.left 0
def tickT (xs : List Ln) : List Ln := xs.map passL
def goAt (xs : List Ln) (i : Nat) : Option Int := match xs[i]? with | some x => if goB x = true then some (i : Int) else none | none => none
/-- those of the first k that are let go -/
def goesP (xs : List Ln) (k : Nat) : List Int := (List.range k).filterMap (goAt xs)
def tickE (xs : List Ln) : List Int := goesP xs xs.length
theorem goesP_zero (xs : List Ln) : goesP xs 0 = [] := rfl
theorem goesP_succ {xs : List Ln} {k : Nat} {x : Ln} (h : xs[k]? = some x) : goesP xs (k + 1) = goesP xs k ++ if goB x = true then [(k : Int)] else [] := by
  unfold goesP
  rw [List.range_succ, List.filterMap_append]
  congr 1
  simp only [List.filterMap_cons, List.filterMap_nil, goAt, h]
  cases goB x <;> rfl
theorem goesP_len (xs : List Ln) (k : Nat) : (goesP xs k).length ≤ k := by
  unfold goesP
  have := List.length_filterMap_le (goAt xs) (List.range k)
  simpa using this
theorem goesP_mem {xs : List Ln} {k : Nat} {i : Int} (h : i ∈ goesP xs k) : ∃ (m : Nat) (x : Ln), i = (m : Int) ∧ m < k ∧ xs[m]? = some x ∧ goB x = true := by
  unfold goesP at h
  rw [List.mem_filterMap] at h
  obtain ⟨m, hm, e⟩ := h
  rw [List.mem_range] at hm
  unfold goAt at e
  cases hx : xs[m]? with
  | none => rw [hx] at e; cases e
  | some x =>
    rw [hx] at e
    simp only at e
    split at e
    · exact ⟨m, x, (Option.some.inj e).symm, hm, hx, by assumption⟩
    · cases e
theorem goesP_pair (xs : List Ln) (k : Nat) : (goesP xs k).Pairwise (fun a b => a < b) := by
  induction k with
  | zero => exact List.Pairwise.nil
  | succ k ih =>
    cases hx : xs[k]? with
    | none =>
      have : goesP xs (k + 1) = goesP xs k := by
        unfold goesP
        rw [List.range_succ, List.filterMap_append]
        simp [goAt, hx]
      rw [this]
      exact ih
    | some x =>
      rw [goesP_succ hx]
      split
      · rw [List.pairwise_append]
        refine ⟨ih, List.pairwise_singleton _ _, fun a ha b hb => ?_⟩
        obtain ⟨m, y, rfl, hm, -⟩ := goesP_mem ha
        rw [List.mem_singleton.1 hb]
        omega
      · rw [List.append_nil]
        exact ih

/-- the first k had a tick, the others not yet -/
def partT (xs : List Ln) (k : Nat) : List Ln := (xs.take k).map passL ++ xs.drop k
theorem partT_zero (xs : List Ln) : partT xs 0 = xs := by simp [partT]
theorem partT_all (xs : List Ln) : partT xs xs.length = tickT xs := by simp [partT, tickT]
theorem partT_len (xs : List Ln) (k : Nat) : (partT xs k).length = xs.length := by simp [partT]; omega
theorem partT_at {xs : List Ln} {k : Nat} {x : Ln} (h : xs[k]? = some x) : (partT xs k)[k]? = some x := by
  have hk := get_lt h
  unfold partT
  rw [List.getElem?_append_right (by simp; omega)]
  simp
  rw [show k + (k - min k xs.length) = k by omega]
  exact h
theorem partT_succ {xs : List Ln} {k : Nat} {x : Ln} (h : xs[k]? = some x) : partT xs (k + 1) = (partT xs k).set k (passL x) := by
  have hk := get_lt h
  refine List.ext_getElem? fun i => ?_
  unfold partT
  rw [List.getElem?_set]
  by_cases e : k = i
  · subst e
    rw [if_pos rfl, if_pos (by simp; omega), List.getElem?_append_left (by simp; omega)]
    simp [List.getElem?_take, h]
  · rw [if_neg e]
    by_cases hl : i < k
    · rw [List.getElem?_append_left (by simp; omega), List.getElem?_append_left (by simp; omega)]
      simp [List.getElem?_take, hl, show i < k + 1 by omega]
    · rw [List.getElem?_append_right (by simp; omega), List.getElem?_append_right (by simp; omega)]
      simp
      congr 1
      omega
theorem tick_get {xs : List Ln} {k : Nat} {x : Ln} (h : xs[k]? = some x) : (tickT xs)[k]? = some (passL x) := by unfold tickT; rw [List.getElem?_map, h]; rfl
theorem tick_len (xs : List Ln) : (tickT xs).length = xs.length := by simp [tickT]

/-- what is kept of the lines by all acts: L is what is least of each -/
structure LInv (L : List Int) (xs : List Ln) : Prop where
  least : xs.map Ln.least = L
  ok : ∀ x, x ∈ L → 0 ≤ x ∧ x ≤ 20
  left : ∀ (k : Nat) (x : Ln), xs[k]? = some x → 0 ≤ x.left ∧ x.left ≤ 20
  idle : ∀ (k : Nat) (x : Ln), xs[k]? = some x → x.held = false → x.left = 0 ∧ x.want = false
namespace LInv
variable {L : List Int} {xs : List Ln}
theorem len (h : LInv L xs) : xs.length = L.length := by rw [← h.least]; simp
theorem at_ (h : LInv L xs) {k : Nat} {x : Ln} (hx : xs[k]? = some x) : L[k]? = some x.least := by rw [← h.least, List.getElem?_map, hx]; rfl
theorem least_ok (h : LInv L xs) {k : Nat} {x : Ln} (hx : xs[k]? = some x) : 0 ≤ x.least ∧ x.least ≤ 20 := h.ok _ (List.mem_of_getElem? (h.at_ hx))
theorem set (h : LInv L xs) {k : Nat} {x x' : Ln} (hx : xs[k]? = some x) (h1 : x'.least = x.least) (h2 : 0 ≤ x'.left ∧ x'.left ≤ 20) (h3 : x'.held = false → x'.left = 0 ∧ x'.want = false) : LInv L (xs.set k x') := by
  refine ⟨?_, h.ok, fun m y hy => ?_, fun m y hy => ?_⟩
  · rw [← h.least, List.map_set, h1]
    refine List.ext_getElem? fun m => ?_
    rw [List.getElem?_set]
    by_cases e : k = m
    · subst e
      rw [if_pos rfl, if_pos (by simpa using get_lt hx), List.getElem?_map, hx]
      rfl
    · rw [if_neg e]
  · rcases set_at hy with ⟨rfl, rfl⟩ | ⟨_, hy⟩
    · exact h2
    · exact h.left m y hy
  · rcases set_at hy with ⟨rfl, rfl⟩ | ⟨_, hy⟩
    · exact h3
    · exact h.idle m y hy
theorem assertI (h : LInv L xs) (i : Int) : LInv L (assertT xs i) := by
  unfold assertT
  cases hb : hasB xs.length i with
  | false => rw [setT_no _ hb]; exact h
  | true =>
    obtain ⟨k, x, rfl, hx⟩ := hasB_ex hb
    rw [setT_at _ hx]
    exact h.set hx rfl (h.least_ok hx) (by simp [assertL])
theorem releaseI (h : LInv L xs) (i : Int) : LInv L (releaseT xs i) := by
  unfold releaseT
  cases hb : hasB xs.length i with
  | false => rw [setT_no _ hb]; exact h
  | true =>
    obtain ⟨k, x, rfl, hx⟩ := hasB_ex hb
    rw [setT_at _ hx]
    have h1 := h.left k x hx
    have h2 := h.idle k x hx
    refine h.set hx ?_ ?_ ?_
    all_goals unfold wantL
    · split <;> rfl
    · split <;> exact h1
    · split
      · simp
      · exact h2
theorem passI {x : Ln} (h1 : 0 ≤ x.left ∧ x.left ≤ 20) (h2 : x.held = false → x.left = 0 ∧ x.want = false) : (passL x).least = x.least ∧ (0 ≤ (passL x).left ∧ (passL x).left ≤ 20) ∧ ((passL x).held = false → (passL x).left = 0 ∧ (passL x).want = false) := by
  unfold passL
  split
  · split
    · refine ⟨rfl, ⟨?_, ?_⟩, by simp⟩
      · show 0 ≤ x.left - 1; omega
      · show x.left - 1 ≤ 20; omega
    · split
      · exact ⟨rfl, ⟨Int.le_refl _, by show (0 : Int) ≤ 20; omega⟩, fun _ => ⟨rfl, rfl⟩⟩
      · exact ⟨rfl, h1, h2⟩
  · exact ⟨rfl, h1, h2⟩
theorem tickI (h : LInv L xs) : LInv L (tickT xs) := by
  refine ⟨?_, h.ok, fun m y hy => ?_, fun m y hy => ?_⟩
  · rw [← h.least]
    unfold tickT
    rw [List.map_map]
    refine List.map_congr_left fun x hx => ?_
    obtain ⟨k, hk, rfl⟩ := List.mem_iff_getElem.1 hx
    exact (passI (h.left k _ (List.getElem?_eq_getElem hk)) (h.idle k _ (List.getElem?_eq_getElem hk))).1
  all_goals
    unfold tickT at hy
    rw [List.getElem?_map] at hy
    cases hx : xs[m]? with
    | none => rw [hx] at hy; cases hy
    | some x =>
      rw [hx] at hy
      obtain rfl : passL x = y := Option.some.inj hy
      first | exact (passI (h.left m x hx) (h.idle m x hx)).2.1 | exact (passI (h.left m x hx) (h.idle m x hx)).2.2
theorem start {L : List Int} (h : ∀ x, x ∈ L → 0 ≤ x ∧ x ≤ 20) : LInv L (L.map fun l => newL ⟨l⟩) := by
  refine ⟨?_, h, fun m y hy => ?_, fun m y hy => ?_⟩
  · rw [List.map_map]
    have : (Ln.least ∘ fun l => newL ⟨l⟩) = id := rfl
    rw [this]; simp
  all_goals
    rw [List.getElem?_map] at hy
    cases hx : L[m]? with
    | none => rw [hx] at hy; cases hy
    | some x =>
      rw [hx] at hy
      obtain rfl : newL ⟨x⟩ = y := Option.some.inj hy
      simp [newL]
end LInv

end Go.Proofs.Ytpieihjipdgplaa
