/- What is told of each domain, one behind the other. -/
import Derived.Test.YtlhmcpkfmnmhfaaZC
namespace Go.Proofs.Ytlhmcpkfmnmhfaa
set_option linter.unusedSimpArgs false
set_option linter.unusedVariables false
open Go.RowKit Go.Maps

/-- what was told last of a domain, by how it stands -/
def LastOk (x : Pst) (la : Int) : Prop :=
  (x.phase = 48 ∧ x.keep = false ∧ (la = 0 ∨ la = 108)) ∨ (x.phase = 116 ∧ x.keep = true ∧ la = 115) ∨ (x.phase = 114 ∧ x.keep = false ∧ (la = 0 ∨ la = 108)) ∨ (x.phase = 114 ∧ x.keep = true ∧ la = 115) ∨
  (x.phase = 104 ∧ (la = 110 ∨ la = 114)) ∨ (x.phase = 49 ∧ la = 111) ∨ (x.phase = 99 ∧ la = 111)
def LastAll (sts : List Pst) (f : Nat → Int) : Prop := ∀ (k : Nat) (x : Pst), sts[k]? = some x → LastOk x (f k)
theorem LastOk.cases {x : Pst} {la : Int} (h : LastOk x la) : (x.phase = 48 ∧ la = 0) ∨ (x.phase = 48 ∧ la = 108) ∨ (x.phase = 116 ∧ la = 115) ∨ (x.phase = 114 ∧ la = 0) ∨ (x.phase = 114 ∧ la = 108) ∨ (x.phase = 114 ∧ la = 115) ∨ (x.phase = 104 ∧ la = 110) ∨ (x.phase = 104 ∧ la = 114) ∨ (x.phase = 49 ∧ la = 111) ∨ (x.phase = 99 ∧ la = 111) := by
  obtain ⟨d, p, l, kp⟩ := x
  simp only [LastOk] at h
  rcases h with ⟨rfl, rfl, rfl | rfl⟩ | ⟨rfl, rfl, rfl⟩ | ⟨rfl, rfl, rfl | rfl⟩ | ⟨rfl, rfl, rfl⟩ | ⟨rfl, rfl | rfl⟩ | ⟨rfl, rfl⟩ | ⟨rfl, rfl⟩
  all_goals simp
theorem LastOk.ev {x : Pst} {la : Int} (h : LastOk x la) (hk : passK x ≠ 0) : (passK x = 110 ∧ la = 0) ∨ (passK x = 110 ∧ la = 108) ∨ (passK x = 114 ∧ la = 115) ∨ (passK x = 111 ∧ la = 110) ∨ (passK x = 111 ∧ la = 114) ∨ (passK x = 115 ∧ la = 111) ∨ (passK x = 108 ∧ la = 111) := by
  obtain ⟨d, p, l, kp⟩ := x
  simp only [LastOk] at h
  rcases h with ⟨rfl, rfl, rfl | rfl⟩ | ⟨rfl, rfl, rfl⟩ | ⟨rfl, rfl, rfl | rfl⟩ | ⟨rfl, rfl, rfl⟩ | ⟨rfl, rfl | rfl⟩ | ⟨rfl, rfl⟩ | ⟨rfl, rfl⟩
  all_goals by_cases hl : 0 < l
  all_goals first | (cases kp <;> simp [passK, hl] at hk ⊢; done) | (simp [passK, hl] at hk ⊢; done)
theorem LastOk.tick0 {x : Pst} {la : Int} (h : LastOk x la) (hk : passK x = 0) : LastOk (passT x) la := by
  obtain ⟨d, p, l, kp⟩ := x
  simp only [LastOk] at h
  rcases h with ⟨rfl, rfl, rfl | rfl⟩ | ⟨rfl, rfl, rfl⟩ | ⟨rfl, rfl, rfl | rfl⟩ | ⟨rfl, rfl, rfl⟩ | ⟨rfl, rfl | rfl⟩ | ⟨rfl, rfl⟩ | ⟨rfl, rfl⟩
  all_goals by_cases hl : 0 < l
  all_goals first | (cases kp <;> simp [passK, passT, LastOk, hl] at hk ⊢; done) | (simp [passK, passT, LastOk, hl] at hk ⊢; done)
theorem LastOk.tick1 {x : Pst} {la : Int} (h : LastOk x la) (hk : passK x ≠ 0) : LastOk (passT x) (passK x) := by
  obtain ⟨d, p, l, kp⟩ := x
  simp only [LastOk] at h
  rcases h with ⟨rfl, rfl, rfl | rfl⟩ | ⟨rfl, rfl, rfl⟩ | ⟨rfl, rfl, rfl | rfl⟩ | ⟨rfl, rfl, rfl⟩ | ⟨rfl, rfl | rfl⟩ | ⟨rfl, rfl⟩ | ⟨rfl, rfl⟩
  all_goals by_cases hl : 0 < l
  all_goals first | (cases kp <;> simp [passK, passT, LastOk, hl] at hk ⊢; done) | (simp [passK, passT, LastOk, hl] at hk ⊢; done)
theorem LastAll.start (doms : List Dom) (f : Nat → Int) (hf : ∀ k, f k = 0) : LastAll (doms.map newP) f := by
  intro k x hx
  rw [List.getElem?_map] at hx
  cases hd : doms[k]? with
  | none => rw [hd] at hx; cases hx
  | some d =>
    rw [hd] at hx
    obtain rfl := Option.some.inj hx
    exact .inl ⟨rfl, rfl, .inl (hf k)⟩
theorem LastAll.up {sts : List Pst} {f : Nat → Int} (h : LastAll sts f) (i : Int) : LastAll (upT sts i) f := by
  unfold upT
  split
  · rename_i hE
    cases hb : hasB sts.length i with
    | false => rw [show upE sts i = 4 from atP_no hb _ _] at hE; omega
    | true =>
      obtain ⟨k, x, rfl, hx⟩ := hasB_ex hb
      have hE' : (if restsB x.phase = true ∧ fedB sts x.dom.above = true then (0 : Int) else 6) = 0 := (atP_at hx _ _).symm.trans hE
      have hr : restsB x.phase = true := by
        apply Classical.byContradiction
        intro hn
        rw [if_neg (fun h => hn h.1)] at hE'
        omega
      rw [setT_at _ hx]
      intro m y hy
      rcases set_at' hy with ⟨rfl, rfl⟩ | ⟨hne, hy⟩
      · have h0 := h m x hx
        unfold restsB at hr
        simp at hr
        obtain ⟨d, p, l, q⟩ := x
        simp only [LastOk, upS] at h0 hr ⊢
        rcases h0 with h | h | h | h | h | h | h
        · exact .inr (.inr (.inl ⟨trivial, h.2.1, h.2.2⟩))
        · exact .inr (.inr (.inr (.inl ⟨trivial, h.2.1, h.2.2⟩)))
        all_goals (exfalso; omega)
      · exact h m y hy
  · exact h
theorem LastAll.down {sts : List Pst} {f : Nat → Int} (h : LastAll sts f) (i : Int) (kp : Bool) : LastAll (downT sts i kp) f := by
  unfold downT
  split
  · rename_i hE
    cases hb : hasB sts.length i with
    | false => rw [show downE sts i kp = 4 from atP_no hb _ _] at hE; omega
    | true =>
      obtain ⟨k, x, rfl, hx⟩ := hasB_ex hb
      have hE' : (if x.phase = 49 then (if kp = true ∧ x.dom.ret = false then (1 : Int) else if needB sts (k : Int) = true then 7 else 0) else 6) = 0 := (atP_at hx _ _).symm.trans hE
      have h49 : x.phase = 49 := by
        apply Classical.byContradiction
        intro hn
        rw [if_neg hn] at hE'
        omega
      rw [setT_at _ hx]
      intro m y hy
      rcases set_at' hy with ⟨rfl, rfl⟩ | ⟨hne, hy⟩
      · have h0 := h m x hx
        obtain ⟨d, p, l, q⟩ := x
        simp only [LastOk, downS] at h0 h49 ⊢
        rcases h0 with h | h | h | h | h | h | h
        all_goals first | (exfalso; omega) | exact .inr (.inr (.inr (.inr (.inr (.inr ⟨trivial, h.2⟩)))))
      · exact h m y hy
  · exact h

def putE (f : Nat → Int) (e : Ev) : Nat → Int := fun i => if (i : Int) = e.dom then e.kind else f i
def applyE (f : Nat → Int) (evs : List Ev) : Nat → Int := evs.foldl putE f
theorem applyE_snoc (f : Nat → Int) (evs : List Ev) (e : Ev) : applyE f (evs ++ [e]) = putE (applyE f evs) e := by simp [applyE]
theorem applyE_evs {sts : List Pst} (f : Nat → Int) : ∀ (n : Nat), n ≤ sts.length → ∀ (i : Nat) (x : Pst), sts[i]? = some x → applyE f (evsP sts n) i = if i < n ∧ passK x ≠ 0 then passK x else f i := by
  intro n
  induction n with
  | zero => intro _ i x _; rw [if_neg (by omega)]; rfl
  | succ n ih =>
    intro hn i x hx
    have hy := List.getElem?_eq_getElem (l := sts) (i := n) (by omega)
    rw [evsP_succ hy]
    have h0 := ih (by omega) i x hx
    by_cases hk : passK sts[n] = 0
    · rw [if_pos hk, List.append_nil, h0]
      by_cases hi : i < n ∧ passK x ≠ 0
      · rw [if_pos hi, if_pos ⟨by omega, hi.2⟩]
      · rw [if_neg hi, if_neg]
        intro ⟨h1, h2⟩
        by_cases e : i = n
        · subst e
          rw [hx] at hy
          injection hy with hy
          rw [hy] at h2
          exact h2 hk
        · exact hi ⟨by omega, h2⟩
    · rw [if_neg hk, applyE_snoc]
      unfold putE
      by_cases e : i = n
      · subst e
        rw [hx] at hy
        injection hy with hy
        rw [if_pos rfl, if_pos ⟨by omega, by rw [hy]; exact hk⟩, ← hy]
      · rw [if_neg (by simp; omega), h0]
        by_cases hi : i < n ∧ passK x ≠ 0
        · rw [if_pos hi, if_pos ⟨by omega, hi.2⟩]
        · rw [if_neg hi, if_neg (by intro ⟨h1, h2⟩; exact hi ⟨by omega, h2⟩)]
theorem LastAll.tick {sts : List Pst} {f : Nat → Int} (h : LastAll sts f) : LastAll (tickT sts) (applyE f (tickE sts)) := by
  intro k y hy
  obtain ⟨x, hx, rfl⟩ := tick_at hy
  have hk := get_lt' hx
  rw [show tickE sts = evsP sts sts.length from rfl, applyE_evs f _ (Nat.le_refl _) k x hx]
  by_cases h0 : passK x = 0
  · rw [if_neg (by simp [h0])]
    exact (h k x hx).tick0 h0
  · rw [if_pos ⟨hk, h0⟩]
    exact (h k x hx).tick1 h0
theorem evsP_at {sts : List Pst} : ∀ (n : Nat), n ≤ sts.length → ∀ (t : Nat), t < (evsP sts n).length → ∃ (k : Nat) (x : Pst), k < n ∧ sts[k]? = some x ∧ passK x ≠ 0 ∧ (evsP sts n)[t]? = some ⟨passK x, (k : Int)⟩ ∧ (evsP sts n).take t = evsP sts k := by
  intro n
  induction n with
  | zero => intro _ t ht; simp [evsP_zero] at ht
  | succ n ih =>
    intro hn t ht
    have hy := List.getElem?_eq_getElem (l := sts) (i := n) (by omega)
    rw [evsP_succ hy] at ht ⊢
    by_cases hlt : t < (evsP sts n).length
    · obtain ⟨k, x, h1, h2, h3, h4, h5⟩ := ih (by omega) t hlt
      exact ⟨k, x, by omega, h2, h3, by rw [List.getElem?_append_left hlt]; exact h4, by rw [List.take_append_of_le_length (by omega)]; exact h5⟩
    · by_cases hk : passK sts[n] = 0
      · rw [if_pos hk] at ht; simp at ht; omega
      · rw [if_neg hk] at ht ⊢
        simp at ht
        have e : t = (evsP sts n).length := by omega
        subst e
        exact ⟨n, _, by omega, hy, hk, by simp, by simp⟩
theorem evsP_mono {sts : List Pst} : ∀ {a b : Nat}, a ≤ b → b ≤ sts.length → (evsP sts a).length ≤ (evsP sts b).length := by
  intro a b
  induction b with
  | zero => intro h _; have : a = 0 := by omega
            subst this; exact Nat.le_refl _
  | succ b ih =>
    intro h hb
    by_cases e : a = b + 1
    · subst e; exact Nat.le_refl _
    · rw [evsP_succ (List.getElem?_eq_getElem (l := sts) (i := b) (by omega)), List.length_append]
      have := ih (by omega) (by omega)
      omega
theorem evV_get {evs : List Ev} {t : Nat} {e : Ev} (h : evs[t]? = some e) : (evV evs)[t * 2]? = some (.int .u8 e.kind) ∧ (evV evs)[t * 2 + 1]? = some (.int .i64 e.dom) := by
  have hf : evV evs = (evs.map fun e => [Value.int .u8 e.kind, Value.int .i64 e.dom]).flatten := by unfold evV; rw [List.flatMap_def]
  rw [hf]
  have hl : ∀ vs, vs ∈ evs.map (fun e => [Value.int .u8 e.kind, Value.int .i64 e.dom]) → vs.length = 2 := by
    intro vs hv
    obtain ⟨_, _, rfl⟩ := List.mem_map.1 hv
    rfl
  have hm : (evs.map fun e => [Value.int .u8 e.kind, Value.int .i64 e.dom])[t]? = some [.int .u8 e.kind, .int .i64 e.dom] := by rw [List.getElem?_map, h]; rfl
  exact ⟨flat_get hl hm (j := 0) rfl, flat_get hl hm (j := 1) rfl⟩

end Go.Proofs.Ytlhmcpkfmnmhfaa
