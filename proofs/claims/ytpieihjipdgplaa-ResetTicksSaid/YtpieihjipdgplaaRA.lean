/- One line of many, plainly. -/
import Derived.Test.YtpieihjipdgplaaR9
import Derived.Test.YtpieihjipdgplaaRS
namespace Go.Proofs.Ytpieihjipdgplaa
set_option linter.unusedSimpArgs false
set_option linter.unusedVariables false

/-- all lines as they are at first, but the i-th -/
def oneL (L : List Int) (i : Nat) (x : Ln) : List Ln := (startL L).set i x
section
variable {L : List Int} {i : Nat} {l : Int} {x : Ln}
theorem oneL_start (h : L[i]? = some l) : startL L = oneL L i ⟨l, true, 0, false⟩ := (set_self (startL_at h)).symm
theorem oneL_len (L : List Int) (i : Nat) (x : Ln) : (oneL L i x).length = L.length := by simp [oneL, startL]
theorem oneL_self (h : L[i]? = some l) (x : Ln) : (oneL L i x)[i]? = some x := by
  unfold oneL
  exact List.getElem?_set_self (get_lt (startL_at h))
theorem oneL_other {j : Nat} {m : Int} (hj : j ≠ i) (h : L[j]? = some m) (x : Ln) : (oneL L i x)[j]? = some ⟨m, true, 0, false⟩ := by
  unfold oneL
  rw [List.getElem?_set_ne (Ne.symm hj)]
  exact startL_at h
theorem oneL_set (x y : Ln) : (oneL L i x).set i y = oneL L i y := by unfold oneL; rw [List.set_set]
theorem pass_new (m : Int) : passL ⟨m, true, 0, false⟩ = ⟨m, true, 0, false⟩ := rfl
theorem go_new (m : Int) : goB ⟨m, true, 0, false⟩ = false := rfl
theorem oneL_tick (h : L[i]? = some l) (x : Ln) : tickT (oneL L i x) = oneL L i (passL x) := by
  refine List.ext_getElem? fun j => ?_
  unfold tickT
  rw [List.getElem?_map]
  by_cases e : j = i
  · subst e
    rw [oneL_self h, oneL_self h]
    rfl
  · cases hj : L[j]? with
    | some m => rw [oneL_other e hj, oneL_other e hj]; rfl
    | none =>
      have hl : L.length ≤ j := List.getElem?_eq_none_iff.1 hj
      rw [List.getElem?_eq_none (by rw [oneL_len]; exact hl), List.getElem?_eq_none (by rw [oneL_len]; exact hl)]
      rfl
theorem oneL_goes (h : L[i]? = some l) (x : Ln) : ∀ k, k ≤ L.length → goesP (oneL L i x) k = if i < k ∧ goB x = true then [(i : Int)] else []
  | 0, _ => by simp [goesP_zero]
  | k + 1, hk => by
    have ih := oneL_goes h x k (by omega)
    have hk' : k < L.length := by omega
    by_cases e : k = i
    · subst e
      rw [goesP_succ (oneL_self h x), ih, if_neg (by omega)]
      cases goB x <;> simp
    · rw [goesP_succ (oneL_other e (List.getElem?_eq_getElem hk') x), ih, go_new, if_neg Bool.false_ne_true, List.append_nil]
      by_cases hg : goB x = true
      · by_cases hlt : i < k
        · rw [if_pos ⟨hlt, hg⟩, if_pos ⟨by omega, hg⟩]
        · rw [if_neg (by omega), if_neg (by omega)]
      · rw [if_neg (fun c => hg c.2), if_neg (fun c => hg c.2)]
theorem oneL_told (h : L[i]? = some l) (x : Ln) : tickE (oneL L i x) = if goB x = true then [(i : Int)] else [] := by
  unfold tickE
  rw [oneL_goes h x _ (by rw [oneL_len]; exact Nat.le_refl _), oneL_len]
  have := get_lt h
  by_cases hg : goB x = true
  · rw [if_pos ⟨this, hg⟩, if_pos hg]
  · rw [if_neg (fun c => hg c.2), if_neg hg]
theorem oneL_held (h : L[i]? = some l) (x : Ln) : heldP (oneL L i x) (i : Int) = x.held := atP_at (oneL_self h x) _ _
theorem oneL_left (h : L[i]? = some l) (x : Ln) : leftP (oneL L i x) (i : Int) = x.left := atP_at (oneL_self h x) _ _
theorem oneL_assert (h : L[i]? = some l) (x : Ln) : assertT (oneL L i x) (i : Int) = oneL L i (assertL x) ∧ assertE (oneL L i x) (i : Int) = 0 := by
  refine ⟨?_, ?_⟩
  · have : assertT (oneL L i x) (i : Int) = (oneL L i x).set i (assertL x) := setT_at _ (oneL_self h x)
    rw [this, oneL_set]
  · unfold assertE
    rw [hasB_at (oneL_self h x)]
    rfl
theorem oneL_release (h : L[i]? = some l) (x : Ln) : releaseT (oneL L i x) (i : Int) = oneL L i (wantL x) ∧ releaseE (oneL L i x) (i : Int) = if x.held = true then 0 else 6 := by
  refine ⟨?_, atP_at (oneL_self h x) _ _⟩
  have : releaseT (oneL L i x) (i : Int) = (oneL L i x).set i (wantL x) := setT_at _ (oneL_self h x)
  rw [this, oneL_set]
end
theorem startL_held {L : List Int} {j : Nat} (h : j < L.length) : heldP (startL L) (j : Int) = true ∧ leftP (startL L) (j : Int) = 0 := by
  have := startL_at (List.getElem?_eq_getElem h)
  exact ⟨atP_at this _ _, atP_at this _ _⟩

/-- a line that was asserted, behind k ticks, its release not wanted -/
def lateL (l : Int) (k : Nat) : Ln := ⟨l, true, if (k : Int) ≤ l then l - k else 0, false⟩
theorem lateL_zero {l : Int} (h : 0 ≤ l) (x : Ln) (hx : x.least = l) : assertL x = lateL l 0 := by
  unfold assertL lateL
  rw [hx, if_pos (by simpa using h)]
  simp
theorem lateL_pass (l : Int) (k : Nat) : passL (lateL l k) = lateL l (k + 1) := by
  unfold lateL passL
  by_cases h : (k : Int) ≤ l
  · rw [if_pos rfl, if_pos h]
    by_cases h2 : 0 < l - (k : Int)
    · rw [if_pos h2, if_pos (by omega)]
      congr 1
      push_cast
      omega
    · rw [if_neg h2, if_neg Bool.false_ne_true, if_neg (by omega)]
      congr 1
      omega
  · rw [if_pos rfl, if_neg h, if_neg (Int.lt_irrefl 0), if_neg Bool.false_ne_true, if_neg (by omega)]
theorem lateL_go (l : Int) (k : Nat) : goB (lateL l k) = false := by unfold lateL goB; simp
/-- a line whose release is wanted, and which has r ticks left -/
def waitL (l r : Int) : Ln := ⟨l, true, r, true⟩
theorem lateL_want (l : Int) (k : Nat) : wantL (lateL l k) = waitL l (lateL l k).left := rfl
theorem waitL_pass {l r : Int} (h : 0 < r) : passL (waitL l r) = waitL l (r - 1) ∧ goB (waitL l r) = false := by
  unfold waitL passL goB
  refine ⟨by rw [if_pos rfl, if_pos h], by simp [h]⟩
theorem waitL_end (l : Int) : passL (waitL l 0) = ⟨l, false, 0, false⟩ ∧ goB (waitL l 0) = true := ⟨rfl, rfl⟩

open Go.RowKit Go.Maps
theorem Lw.tick0 {w3 wr : World} {b bl bh : Nat} {L : List Int} {xs ys : List Ln} (h : Lw w3 wr b bl bh L xs) (h0 : tickE xs = []) (hT : tickT xs = ys) : Calls Try.prog 19 #[.pointer (some ⟨b, 0, none⟩)] wr fun e w' => ∃ A c, e = .returned (.slice A 0 c) ∧ Lw w3 w' b bl bh L ys :=
  h.tick.mono fun e w' ⟨A, c, he, _, hl, _⟩ => by
    rw [h0] at he
    rw [hT] at hl
    exact ⟨A, c, he, hl⟩
theorem Lw.tick1 {w3 wr : World} {b bl bh : Nat} {L : List Int} {xs ys : List Ln} {i : Int} (h : Lw w3 wr b bl bh L xs) (h0 : tickE xs = [i]) (hT : tickT xs = ys) : Calls Try.prog 19 #[.pointer (some ⟨b, 0, none⟩)] wr fun e w' => ∃ A c, e = .returned (.slice (some A) 1 c) ∧ w'.cell? A = some (.int .i64 i) ∧ IntsAt w' w'.heap.size (some A) [i] ∧ Lw w3 w' b bl bh L ys :=
  h.tick.mono fun e w' ⟨A, c, he, ho, hl, _⟩ => by
    rw [h0] at he ho
    rw [hT] at hl
    obtain ⟨_, hi⟩ := ho.ints
    obtain ⟨ad, rfl, _, hc⟩ := hi.at_ (k := 0) (by simp)
    refine ⟨ad, c, he, ?_, hi, hl⟩
    have e : ad.add 0 = ad := by simp [Addr.add]
    rwa [e] at hc

theorem ints_one (w : World) (x : Int) : IntsAt (w.alloc (.cells #[.int .i64 x] 3)) (w.heap.size + 1) (some ⟨w.heap.size, 0, none⟩) [x] := fun _ => ⟨_, rfl, Nat.lt_succ_self _, fun j y hj => by
  cases j with
  | zero => simp at hj; subst hj; exact (BoxAt.new w [.int .i64 x] 3 0 _ rfl).1
  | succ j => simp at hj⟩

def mxP (x : Int) (q : Nat) : Int := if x < (q : Int) then (q : Int) else x
/-- asserted, its release wanted from q on: behind k ticks -/
def hlS (x : Int) (q k : Nat) : Ln := if k ≤ q then lateL x k else if (k : Int) ≤ x then waitL x (x - k) else ⟨x, false, 0, false⟩
/-- .. ahead of the next one -/
def hlM (x : Int) (q k : Nat) : Ln := if k = q then wantL (hlS x q k) else hlS x q k
theorem hlS_zero (x : Int) (q : Nat) : hlS x q 0 = lateL x 0 := by unfold hlS; rw [if_pos (Nat.zero_le _)]
theorem hlS_held (x : Int) (q : Nat) : (hlS x q q).held = true := by unfold hlS; rw [if_pos (Nat.le_refl _)]; rfl
theorem gone_pass (x : Int) : passL ⟨x, false, 0, false⟩ = ⟨x, false, 0, false⟩ ∧ goB ⟨x, false, 0, false⟩ = false := ⟨rfl, rfl⟩
theorem hlM_tick {x : Int} (hx : 0 ≤ x) (q k : Nat) : passL (hlM x q k) = hlS x q (k + 1) ∧ goB (hlM x q k) = decide ((k : Int) = mxP x q) ∧ (hlS x q (k + 1)).held = decide ((k : Int) < mxP x q) := by
  have hm : (x < (q : Int) ∧ mxP x q = (q : Int)) ∨ (¬ x < (q : Int) ∧ mxP x q = x) := by
    unfold mxP
    by_cases h : x < (q : Int)
    · exact .inl ⟨h, if_pos h⟩
    · exact .inr ⟨h, if_neg h⟩
  rcases Nat.lt_trichotomy k q with hlt | heq | hgt
  · have e1 : hlM x q k = lateL x k := by unfold hlM hlS; rw [if_neg (by omega), if_pos (by omega)]
    have e2 : hlS x q (k + 1) = lateL x (k + 1) := by unfold hlS; rw [if_pos (by omega)]
    rw [e1, e2, lateL_pass, lateL_go]
    refine ⟨rfl, ?_, ?_⟩
    · symm; rw [decide_eq_false_iff_not]; omega
    · show true = _; symm; rw [decide_eq_true_iff]; omega
  · subst heq
    have e1 : hlM x k k = waitL x (lateL x k).left := by unfold hlM hlS; rw [if_pos rfl, if_pos (Nat.le_refl _)]; rfl
    rw [e1]
    by_cases h : (k : Int) < x
    · have e2 : (lateL x k).left = x - k := by unfold lateL; simp only; rw [if_pos (by omega)]
      have e3 : hlS x k (k + 1) = waitL x (x - k - 1) := by
        unfold hlS
        rw [if_neg (by omega), if_pos (by push_cast; omega)]
        congr 1
        push_cast
        omega
      obtain ⟨u1, u2⟩ := waitL_pass (l := x) (r := x - k) (by omega)
      rw [e2, e3, u1, u2]
      refine ⟨rfl, ?_, ?_⟩
      · symm; rw [decide_eq_false_iff_not]; omega
      · show true = _; symm; rw [decide_eq_true_iff]; omega
    · have e2 : (lateL x k).left = 0 := by unfold lateL; simp only; split <;> omega
      have e3 : hlS x k (k + 1) = ⟨x, false, 0, false⟩ := by
        unfold hlS
        rw [if_neg (by omega), if_neg (by push_cast; omega)]
      rw [e2, e3, (waitL_end x).1, (waitL_end x).2]
      refine ⟨rfl, ?_, ?_⟩
      · symm; rw [decide_eq_true_iff]; omega
      · show false = _; symm; rw [decide_eq_false_iff_not]; omega
  · have e1 : hlM x q k = hlS x q k := by unfold hlM; rw [if_neg (by omega)]
    rw [e1]
    by_cases h : (k : Int) ≤ x
    · have e2 : hlS x q k = waitL x (x - k) := by unfold hlS; rw [if_neg (by omega), if_pos h]
      by_cases h2 : (k : Int) < x
      · have e3 : hlS x q (k + 1) = waitL x (x - k - 1) := by
          unfold hlS
          rw [if_neg (by omega), if_pos (by push_cast; omega)]
          congr 1
          push_cast
          omega
        obtain ⟨u1, u2⟩ := waitL_pass (l := x) (r := x - k) (by omega)
        rw [e2, e3, u1, u2]
        refine ⟨rfl, ?_, ?_⟩
        · symm; rw [decide_eq_false_iff_not]; omega
        · show true = _; symm; rw [decide_eq_true_iff]; omega
      · have e3 : hlS x q (k + 1) = ⟨x, false, 0, false⟩ := by
          unfold hlS
          rw [if_neg (by omega), if_neg (by push_cast; omega)]
        have e4 : x - (k : Int) = 0 := by omega
        rw [e2, e3, e4, (waitL_end x).1, (waitL_end x).2]
        refine ⟨rfl, ?_, ?_⟩
        · symm; rw [decide_eq_true_iff]; omega
        · show false = _; symm; rw [decide_eq_false_iff_not]; omega
    · have e2 : hlS x q k = ⟨x, false, 0, false⟩ := by unfold hlS; rw [if_neg (by omega), if_neg h]
      have e3 : hlS x q (k + 1) = ⟨x, false, 0, false⟩ := by
        unfold hlS
        rw [if_neg (by omega), if_neg (by push_cast; omega)]
      rw [e2, e3, (gone_pass x).1, (gone_pass x).2]
      refine ⟨rfl, ?_, ?_⟩
      · symm; rw [decide_eq_false_iff_not]; omega
      · show false = _; symm; rw [decide_eq_false_iff_not]; omega

/-- the states of the lines, stage by stage -/
def stgLn : List (List Ln) → Nat → List Ln
  | [], _ => []
  | x :: _, 0 => x
  | _ :: l, i + 1 => stgLn l i

end Go.Proofs.Ytpieihjipdgplaa
