/- Two lines of many, plainly. -/
import Derived.Test.YtpieihjipdgplaaRA
namespace Go.Proofs.Ytpieihjipdgplaa
set_option linter.unusedSimpArgs false
set_option linter.unusedVariables false
open Go.RowKit Go.Maps

theorem goesP_none {xs : List Ln} (h : ∀ (k : Nat) (x : Ln), xs[k]? = some x → goB x = false) : ∀ k, k ≤ xs.length → goesP xs k = []
  | 0, _ => rfl
  | k + 1, hk => by
    have hx := List.getElem?_eq_getElem (l := xs) (i := k) (by omega)
    rw [goesP_succ hx, goesP_none h k (by omega), h k _ hx]
    rfl
theorem told_none {xs : List Ln} (h : ∀ (k : Nat) (x : Ln), xs[k]? = some x → goB x = false) : tickE xs = [] := goesP_none h _ (Nat.le_refl _)
theorem goesP_one {xs : List Ln} {i : Nat} {a : Ln} (hi : xs[i]? = some a) (ha : goB a = true) (h : ∀ (k : Nat) (x : Ln), k ≠ i → xs[k]? = some x → goB x = false) : ∀ k, k ≤ xs.length → goesP xs k = if i < k then [(i : Int)] else []
  | 0, _ => by rw [if_neg (by omega)]; rfl
  | k + 1, hk => by
    have hx := List.getElem?_eq_getElem (l := xs) (i := k) (by omega)
    rw [goesP_succ hx, goesP_one hi ha h k (by omega)]
    by_cases e : k = i
    · subst e
      rw [hx] at hi
      rw [Option.some.inj hi, ha, if_neg (by omega), if_pos rfl, if_pos (by omega)]
      rfl
    · rw [h k _ e hx, if_neg Bool.false_ne_true, List.append_nil]
      by_cases hlt : i < k
      · rw [if_pos hlt, if_pos (by omega)]
      · rw [if_neg hlt, if_neg (by omega)]
theorem told_one {xs : List Ln} {i : Nat} {a : Ln} (hi : xs[i]? = some a) (ha : goB a = true) (h : ∀ (k : Nat) (x : Ln), k ≠ i → xs[k]? = some x → goB x = false) : tickE xs = [(i : Int)] := by
  unfold tickE
  rw [goesP_one hi ha h _ (Nat.le_refl _), if_pos (get_lt hi)]

def agS (L : List Int) (i j : Nat) (a b : Ln) : List Ln := (oneL L j b).set i a
def newOf (m : Int) : Ln := ⟨m, true, 0, false⟩
def goneOf (m : Int) : Ln := ⟨m, false, 0, false⟩
section
variable {L : List Int} {i j : Nat} {x y : Int} {a b : Ln}
theorem agS_i (hi : L[i]? = some x) (a b : Ln) : (agS L i j a b)[i]? = some a := by
  unfold agS
  exact List.getElem?_set_self (by rw [oneL_len]; exact get_lt hi)
theorem agS_j (hj : L[j]? = some y) (hne : i ≠ j) (a b : Ln) : (agS L i j a b)[j]? = some b := by
  unfold agS
  rw [List.getElem?_set_ne hne]
  exact oneL_self hj b
theorem agS_o {k : Nat} {m : Int} (hk : L[k]? = some m) (h1 : k ≠ i) (h2 : k ≠ j) (a b : Ln) : (agS L i j a b)[k]? = some (newOf m) := by
  unfold agS
  rw [List.getElem?_set_ne (Ne.symm h1)]
  exact oneL_other h2 hk b
theorem agS_len (L : List Int) (i j : Nat) (a b : Ln) : (agS L i j a b).length = L.length := by unfold agS; rw [List.length_set, oneL_len]
theorem agS_at {k : Nat} {z : Ln} (hi : L[i]? = some x) (hj : L[j]? = some y) (h : (agS L i j a b)[k]? = some z) : (k = i ∧ z = a) ∨ (i ≠ j ∧ k = j ∧ z = b) ∨ (k ≠ i ∧ k ≠ j ∧ ∃ m, z = newOf m) := by
  by_cases e1 : k = i
  · subst e1
    rw [agS_i hi] at h
    exact .inl ⟨rfl, (Option.some.inj h).symm⟩
  · by_cases e2 : k = j
    · subst e2
      rw [agS_j hj (Ne.symm e1)] at h
      exact .inr (.inl ⟨Ne.symm e1, rfl, (Option.some.inj h).symm⟩)
    · have hk := get_lt h
      rw [agS_len] at hk
      rw [agS_o (List.getElem?_eq_getElem hk) e1 e2] at h
      exact .inr (.inr ⟨e1, e2, _, (Option.some.inj h).symm⟩)
theorem agS_start (hi : L[i]? = some x) (hj : L[j]? = some y) : startL L = agS L i j (newOf x) (newOf y) := by
  unfold agS
  rw [show oneL L j (newOf y) = startL L from (oneL_start hj).symm]
  exact (set_self (startL_at hi)).symm
theorem agS_tick (hi : L[i]? = some x) (hj : L[j]? = some y) (a b : Ln) : tickT (agS L i j a b) = agS L i j (passL a) (passL b) := by
  refine List.ext_getElem? fun k => ?_
  unfold tickT
  rw [List.getElem?_map]
  by_cases e1 : k = i
  · subst e1
    rw [agS_i hi, agS_i hi]
    rfl
  · by_cases e2 : k = j
    · subst e2
      rw [agS_j hj (Ne.symm e1), agS_j hj (Ne.symm e1)]
      rfl
    · cases hk : L[k]? with
      | some m => rw [agS_o hk e1 e2, agS_o hk e1 e2]; rfl
      | none =>
        have hl : L.length ≤ k := List.getElem?_eq_none_iff.1 hk
        rw [List.getElem?_eq_none (by rw [agS_len]; exact hl), List.getElem?_eq_none (by rw [agS_len]; exact hl)]
        rfl
theorem agS_set (a a' b : Ln) : (agS L i j a b).set i a' = agS L i j a' b := by unfold agS; rw [List.set_set]
theorem agS_setj (hne : i ≠ j) (a b b' : Ln) : (agS L i j a b).set j b' = agS L i j a b' := by
  unfold agS oneL
  rw [List.set_comm _ _ hne, List.set_set]
theorem agS_assert (hi : L[i]? = some x) (a b : Ln) : assertT (agS L i j a b) (i : Int) = agS L i j (assertL a) b := by
  have : assertT (agS L i j a b) (i : Int) = (agS L i j a b).set i (assertL a) := setT_at _ (agS_i hi a b)
  rw [this, agS_set]
theorem agS_release (hi : L[i]? = some x) (a b : Ln) : releaseT (agS L i j a b) (i : Int) = agS L i j (wantL a) b ∧ releaseE (agS L i j a b) (i : Int) = if a.held = true then 0 else 6 := by
  have : releaseT (agS L i j a b) (i : Int) = (agS L i j a b).set i (wantL a) := setT_at _ (agS_i hi a b)
  exact ⟨by rw [this, agS_set], atP_at (agS_i hi a b) _ _⟩
theorem agS_releasej (hj : L[j]? = some y) (hne : i ≠ j) (a b : Ln) : releaseT (agS L i j a b) (j : Int) = agS L i j a (wantL b) := by
  have : releaseT (agS L i j a b) (j : Int) = (agS L i j a b).set j (wantL b) := setT_at _ (agS_j hj hne a b)
  rw [this, agS_setj hne]
theorem agS_held (hi : L[i]? = some x) (a b : Ln) : heldP (agS L i j a b) (i : Int) = a.held ∧ leftP (agS L i j a b) (i : Int) = a.left := ⟨atP_at (agS_i hi a b) _ _, atP_at (agS_i hi a b) _ _⟩
theorem agS_heldj (hj : L[j]? = some y) (hne : i ≠ j) (a b : Ln) : heldP (agS L i j a b) (j : Int) = b.held := atP_at (agS_j hj hne a b) _ _

/-- the other one, behind k ticks -/
def bK (i j : Nat) (y : Int) (k : Nat) : Ln := if i = j then newOf y else if k = 0 then waitL y 0 else goneOf y
theorem bK_pass (i j : Nat) (y : Int) (k : Nat) : passL (bK i j y k) = bK i j y (k + 1) := by
  unfold bK
  by_cases e : i = j
  · rw [if_pos e, if_pos e]; rfl
  · rw [if_neg e, if_neg e, if_neg (Nat.succ_ne_zero k)]
    by_cases h0 : k = 0
    · rw [if_pos h0]; exact (waitL_end y).1
    · rw [if_neg h0]; rfl
/-- what was done first leaves -/
theorem agS_begin (hi : L[i]? = some x) (hj : L[j]? = some y) (hx : 0 ≤ x) : assertT (releaseT (releaseT (assertT (startL L) (i : Int)) (i : Int)) (j : Int)) (i : Int) = agS L i j (lateL x 0) (bK i j y 0) := by
  rw [agS_start hi hj, agS_assert hi, (agS_release hi _ _).1]
  by_cases e : i = j
  · subst e
    have hxy : x = y := by rw [hi] at hj; exact Option.some.inj hj
    rw [(agS_release hi _ _).1, agS_assert hi]
    unfold bK
    rw [if_pos rfl]
    congr 1
    exact lateL_zero hx _ (by unfold wantL assertL newOf; simp)
  · rw [agS_releasej hj e, agS_assert hi]
    unfold bK
    rw [if_neg e, if_pos rfl]
    congr 1
    exact lateL_zero hx _ (by unfold wantL assertL newOf; simp)
theorem agS_told (hi : L[i]? = some x) (hj : L[j]? = some y) (k : Nat) : (tickE (agS L i j (lateL x k) (bK i j y k))).length = if i ≠ j ∧ k = 0 then 1 else 0 := by
  by_cases e : i ≠ j ∧ k = 0
  · rw [if_pos e]
    obtain ⟨e1, rfl⟩ := e
    have hb : bK i j y 0 = waitL y 0 := by unfold bK; rw [if_neg e1, if_pos rfl]
    rw [told_one (agS_j hj e1 _ _) (by rw [hb]; exact (waitL_end y).2) (fun m z hm hz => ?_)]
    · rfl
    · rcases agS_at hi hj hz with ⟨_, rfl⟩ | ⟨_, h, _⟩ | ⟨_, _, q, rfl⟩
      · exact lateL_go _ _
      · exact absurd h hm
      · rfl
  · rw [if_neg e, told_none (fun m z hz => ?_)]
    · rfl
    · rcases agS_at hi hj hz with ⟨_, rfl⟩ | ⟨h, _, rfl⟩ | ⟨_, _, q, rfl⟩
      · exact lateL_go _ _
      · have hk : k ≠ 0 := fun h0 => e ⟨h, h0⟩
        unfold bK
        rw [if_neg h, if_neg hk]
        rfl
      · rfl
theorem agS_end (hi : L[i]? = some x) (hj : L[j]? = some y) (k : Nat) : tickE (agS L i j (waitL x 0) (bK i j y (k + 1))) = [(i : Int)] ∧ tickE (agS L i j (goneOf x) (bK i j y (k + 1))) = [] := by
  have hb : i ≠ j → goB (bK i j y (k + 1)) = false := fun e => by unfold bK; rw [if_neg e, if_neg (Nat.succ_ne_zero k)]; rfl
  refine ⟨told_one (agS_i hi _ _) (waitL_end x).2 fun m z hm hz => ?_, told_none fun m z hz => ?_⟩
  · rcases agS_at hi hj hz with ⟨h, _⟩ | ⟨h, _, rfl⟩ | ⟨_, _, q, rfl⟩
    · exact absurd h hm
    · exact hb h
    · rfl
  · rcases agS_at hi hj hz with ⟨_, rfl⟩ | ⟨h, _, rfl⟩ | ⟨_, _, q, rfl⟩
    · rfl
    · exact hb h
    · rfl
end
theorem Lw.tickN {w3 wr : World} {b bl bh m : Nat} {L : List Int} {xs ys : List Ln} (h : Lw w3 wr b bl bh L xs) (h0 : (tickE xs).length = m) (hT : tickT xs = ys) : Calls Try.prog 19 #[.pointer (some ⟨b, 0, none⟩)] wr fun e w' => ∃ A c, e = .returned (.slice A m c) ∧ Lw w3 w' b bl bh L ys :=
  h.tick.mono fun e w' ⟨A, c, he, _, hl, _⟩ => by
    rw [h0] at he
    rw [hT] at hl
    exact ⟨A, c, he, hl⟩

end Go.Proofs.Ytpieihjipdgplaa
