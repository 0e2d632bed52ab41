/- What the acts keep of a grid, plainly. -/
import Derived.Test.YtlhmcpkfmnmhfaaZ1
namespace Go.Proofs.Ytlhmcpkfmnmhfaa
set_option linter.unusedSimpArgs false
set_option linter.unusedVariables false

theorem get_lt' {α : Type} {xs : List α} {k : Nat} {x : α} (hx : xs[k]? = some x) : k < xs.length := (List.getElem?_eq_some_iff.1 hx).1
theorem atP_set {α β : Type} {xs : List α} {k : Nat} {x x' : α} (hx : xs[k]? = some x) (f : α → β) (b : β) (i : Int) : atP (xs.set k x') i f b = if i = (k : Int) then f x' else atP xs i f b := by
  have hk := get_lt' hx
  by_cases e : i = (k : Int)
  · rw [if_pos e, e, atP_at (List.getElem?_set_self hk)]
  · rw [if_neg e]
    cases hb : hasB xs.length i with
    | false => rw [atP_no hb, atP_no (by simpa using hb)]
    | true =>
      obtain ⟨m, y, rfl, hy⟩ := hasB_ex hb
      rw [atP_at hy, atP_at (by rw [List.getElem?_set_ne (by omega)]; exact hy)]
theorem phaseP_set {sts : List Pst} {k : Nat} {x x' : Pst} (hx : sts[k]? = some x) (i : Int) : phaseP (sts.set k x') i = if i = (k : Int) then x'.phase else phaseP sts i := atP_set hx _ _ i
theorem phaseP_at {sts : List Pst} {k : Nat} {x : Pst} (hx : sts[k]? = some x) : phaseP sts (k : Int) = x.phase := atP_at hx _ _
theorem phaseP_ex {sts : List Pst} {i : Int} (h : phaseP sts i ≠ 0) : ∃ (k : Nat) (x : Pst), i = (k : Int) ∧ sts[k]? = some x ∧ phaseP sts i = x.phase := by
  cases hb : hasB sts.length i with
  | false => exact absurd (atP_no hb _ _) h
  | true =>
    obtain ⟨k, x, rfl, hx⟩ := hasB_ex hb
    exact ⟨k, x, rfl, hx, phaseP_at hx⟩
theorem tick_at {sts : List Pst} {k : Nat} {y : Pst} (h : (tickT sts)[k]? = some y) : ∃ x, sts[k]? = some x ∧ y = passT x := by
  unfold tickT at h
  rw [List.getElem?_map] at h
  cases hx : sts[k]? with
  | none => rw [hx] at h; cases h
  | some x => rw [hx] at h; exact ⟨x, rfl, (Option.some.inj h).symm⟩
theorem tick_get {sts : List Pst} {k : Nat} {x : Pst} (h : sts[k]? = some x) : (tickT sts)[k]? = some (passT x) := by unfold tickT; rw [List.getElem?_map, h]; rfl
theorem phaseP_live {sts : List Pst} {i : Int} (h : phaseP sts i = 49) : phaseP (tickT sts) i = 49 := by
  obtain ⟨k, x, rfl, hx, e⟩ := phaseP_ex (sts := sts) (i := i) (by rw [h]; decide)
  rw [phaseP_at (tick_get hx)]
  rw [e] at h
  unfold passT
  simp [h]
theorem set_at' {α : Type} {xs : List α} {k i : Nat} {x y : α} (h : (xs.set k x)[i]? = some y) : (i = k ∧ y = x) ∨ (i ≠ k ∧ xs[i]? = some y) := by
  by_cases e : i = k
  · subst e
    have hl : i < xs.length := by have := get_lt' h; simpa using this
    rw [List.getElem?_set_self hl] at h
    exact .inl ⟨rfl, (Option.some.inj h).symm⟩
  · rw [List.getElem?_set_ne (Ne.symm e)] at h
    exact .inr ⟨e, h⟩

/-- the domains of the statements' chips, as far as a grid looks -/
structure DomsOk (doms : List Dom) : Prop where
  len : 1 ≤ doms.length ∧ doms.length ≤ 4
  above : ∀ (k : Nat) (d : Dom), doms[k]? = some d → d.above = -1 ∨ (0 ≤ d.above ∧ d.above < (k : Int))
  delay : ∀ (k : Nat) (d : Dom), doms[k]? = some d → 0 ≤ d.delay ∧ d.delay ≤ 20

/-- what is kept of a grid by all acts -/
structure GInv (doms : List Dom) (sts : List Pst) : Prop where
  dom : sts.map Pst.dom = doms
  fed : ∀ (k : Nat) (x : Pst), sts[k]? = some x → restsB x.phase = false → fedB sts x.dom.above = true
  keepR : ∀ (k : Nat) (x : Pst), sts[k]? = some x → x.keep = true → x.dom.ret = true
  retR : ∀ (k : Nat) (x : Pst), sts[k]? = some x → x.phase = 116 → x.dom.ret = true
  left : ∀ (k : Nat) (x : Pst), sts[k]? = some x → 0 ≤ x.left ∧ x.left ≤ 20
namespace GInv
variable {doms : List Dom} {sts : List Pst}
theorem at_ (h : GInv doms sts) {k : Nat} {x : Pst} (hx : sts[k]? = some x) : doms[k]? = some x.dom := by rw [← h.dom, List.getElem?_map, hx]; rfl
theorem get (h : GInv doms sts) {k : Nat} {d : Dom} (hd : doms[k]? = some d) : ∃ x, sts[k]? = some x ∧ x.dom = d := by
  rw [← h.dom, List.getElem?_map] at hd
  cases hx : sts[k]? with
  | none => rw [hx] at hd; cases hd
  | some x => rw [hx] at hd; exact ⟨x, rfl, Option.some.inj hd⟩
theorem len (h : GInv doms sts) : sts.length = doms.length := by rw [← h.dom]; simp
theorem lefts (h : GInv doms sts) : ∀ (k : Nat) (x : Pst), sts[k]? = some x → x.left ≤ 1000000 := fun k x hx => by have := h.left k x hx; omega
theorem desc (h : GInv doms sts) (hd : DomsOk doms) : ∀ (k : Nat) (x : Pst), sts[k]? = some x → x.dom.above = -1 ∨ (0 ≤ x.dom.above ∧ x.dom.above < (k : Int)) := fun k x hx => hd.above k _ (h.at_ hx)
theorem start (doms : List Dom) : GInv doms (doms.map newP) := by
  have hat : ∀ (k : Nat) (x : Pst), (doms.map newP)[k]? = some x → ∃ d, x = newP d := fun k x hx => by
    rw [List.getElem?_map] at hx
    cases hd : doms[k]? with
    | none => rw [hd] at hx; cases hx
    | some d => rw [hd] at hx; exact ⟨d, (Option.some.inj hx).symm⟩
  refine ⟨?_, fun k x hx => ?_, fun k x hx => ?_, fun k x hx => ?_, fun k x hx => ?_⟩
  · rw [List.map_map]
    have : (Pst.dom ∘ newP) = id := rfl
    rw [this]; simp
  all_goals
    obtain ⟨d, rfl⟩ := hat k x hx
    simp [newP, restsB]
theorem ret0 {p : Int} (h : restsB p = false) : p ≠ 48 ∧ p ≠ 116 := by unfold restsB at h; simp at h; exact h
theorem fed49 {a : Int} (h : fedB sts a = true) : a = -1 ∨ phaseP sts a = 49 := by unfold fedB at h; simpa using h
theorem mkfed {a : Int} (h : a = -1 ∨ phaseP sts a = 49) : fedB sts a = true := by unfold fedB; simpa using h
theorem up (h : GInv doms sts) (hd : DomsOk doms) (i : Int) : GInv doms (upT sts i) := by
  unfold upT
  by_cases hE : upE sts i = 0
  · rw [if_pos hE]
    cases hb : hasB sts.length i with
    | false => rw [show upE sts i = 4 from atP_no hb _ _] at hE; omega
    | true =>
      obtain ⟨k, x, rfl, hx⟩ := hasB_ex hb
      have hE' : (if restsB x.phase = true ∧ fedB sts x.dom.above = true then (0 : Int) else 6) = 0 := (atP_at hx _ _).symm.trans hE
      have hc : restsB x.phase = true ∧ fedB sts x.dom.above = true := by
        apply Classical.byContradiction
        intro hn
        rw [if_neg hn] at hE'
        omega
      obtain ⟨hr, hf⟩ := hc
      rw [setT_at _ hx]
      have hph : x.phase ≠ 49 := by unfold restsB at hr; simp at hr; omega
      have hkeep : ∀ a, fedB sts a = true → fedB (sts.set k (upS x)) a = true := fun a ha => mkfed (by
        rcases fed49 ha with h | h
        · exact .inl h
        · right
          rw [phaseP_set hx, if_neg, h]
          intro e
          rw [e, phaseP_at hx] at h
          exact hph h)
      refine ⟨?_, fun m y hy hry => ?_, fun m y hy hk => ?_, fun m y hy hp => ?_, fun m y hy => ?_⟩
      · rw [List.map_set, h.dom]
        refine List.ext_getElem? fun m => ?_
        by_cases e : m = k
        · subst e
          rw [List.getElem?_set_self (by rw [← h.len]; exact get_lt' hx), h.at_ hx]
          rfl
        · rw [List.getElem?_set_ne (Ne.symm e)]
      · rcases set_at' hy with ⟨rfl, rfl⟩ | ⟨hne, hy⟩
        · exact hkeep _ hf
        · exact hkeep _ (h.fed m y hy hry)
      · rcases set_at' hy with ⟨rfl, rfl⟩ | ⟨hne, hy⟩
        · exact h.keepR m x hx hk
        · exact h.keepR m y hy hk
      · rcases set_at' hy with ⟨rfl, rfl⟩ | ⟨hne, hy⟩
        · simp [upS] at hp
        · exact h.retR m y hy hp
      · rcases set_at' hy with ⟨rfl, rfl⟩ | ⟨hne, hy⟩
        · exact hd.delay m _ (h.at_ hx)
        · exact h.left m y hy
  · rw [if_neg hE]
    exact h
theorem needs_no {i : Int} (hn : needB sts i = false) {m : Nat} {y : Pst} (hy : sts[m]? = some y) (ha : y.dom.above = i) : restsB y.phase = true := by
  unfold needB at hn
  rw [List.any_eq_false] at hn
  have := hn y (List.mem_of_getElem? hy)
  simpa [ha] using this
theorem down (h : GInv doms sts) (hd : DomsOk doms) (i : Int) (kp : Bool) : GInv doms (downT sts i kp) := by
  unfold downT
  by_cases hE : downE sts i kp = 0
  · rw [if_pos hE]
    cases hb : hasB sts.length i with
    | false => rw [show downE sts i kp = 4 from atP_no hb _ _] at hE; omega
    | true =>
      obtain ⟨k, x, rfl, hx⟩ := hasB_ex hb
      have hE' : (if x.phase = 49 then (if kp = true ∧ x.dom.ret = false then (1 : Int) else if needB sts (k : Int) = true then 7 else 0) else 6) = 0 := (atP_at hx _ _).symm.trans hE
      have h49 : x.phase = 49 := by
        apply Classical.byContradiction
        intro hn
        rw [if_neg hn] at hE'
        omega
      rw [if_pos h49] at hE'
      have hkr : ¬ (kp = true ∧ x.dom.ret = false) := by
        intro hn
        rw [if_pos hn] at hE'
        omega
      rw [if_neg hkr] at hE'
      have hnb : needB sts (k : Int) = false := by
        cases hq : needB sts (k : Int) with
        | false => rfl
        | true => rw [hq, if_pos rfl] at hE'; omega
      rw [setT_at _ hx]
      have hkeep : ∀ (m : Nat) (y : Pst), sts[m]? = some y → restsB y.phase = false → fedB (sts.set k (downS kp x)) y.dom.above = true := fun m y hy hry => mkfed (by
        rcases fed49 (h.fed m y hy hry) with h1 | h1
        · exact .inl h1
        · right
          rw [phaseP_set hx, if_neg, h1]
          intro e
          have := needs_no hnb hy e
          rw [hry] at this
          cases this)
      have hrx : restsB x.phase = false := by rw [h49]; rfl
      refine ⟨?_, fun m y hy hry => ?_, fun m y hy hk => ?_, fun m y hy hp => ?_, fun m y hy => ?_⟩
      · rw [List.map_set, h.dom]
        refine List.ext_getElem? fun m => ?_
        by_cases e : m = k
        · subst e
          rw [List.getElem?_set_self (by rw [← h.len]; exact get_lt' hx), h.at_ hx]
          rfl
        · rw [List.getElem?_set_ne (Ne.symm e)]
      · rcases set_at' hy with ⟨rfl, rfl⟩ | ⟨hne, hy⟩
        · exact hkeep m x hx hrx
        · exact hkeep m y hy hry
      · rcases set_at' hy with ⟨rfl, rfl⟩ | ⟨hne, hy⟩
        · have hk' : kp = true := hk
          show x.dom.ret = true
          cases hq : x.dom.ret with
          | true => rfl
          | false => exact absurd ⟨hk', hq⟩ hkr
        · exact h.keepR m y hy hk
      · rcases set_at' hy with ⟨rfl, rfl⟩ | ⟨hne, hy⟩
        · simp [downS] at hp
        · exact h.retR m y hy hp
      · rcases set_at' hy with ⟨rfl, rfl⟩ | ⟨hne, hy⟩
        · exact h.left m x hx
        · exact h.left m y hy
  · rw [if_neg hE]
    exact h
theorem tick (h : GInv doms sts) : GInv doms (tickT sts) := by
  refine ⟨?_, fun m y hy hry => ?_, fun m y hy hk => ?_, fun m y hy hp => ?_, fun m y hy => ?_⟩
  · unfold tickT
    rw [List.map_map]
    have : (Pst.dom ∘ passT) = Pst.dom := funext passT_dom
    rw [this]
    exact h.dom
  all_goals obtain ⟨x, hx, rfl⟩ := tick_at hy
  · rw [passT_dom]
    have hr : restsB x.phase = false := by
      cases hq : restsB x.phase with
      | false => rfl
      | true =>
        have : passT x = x := by
          unfold restsB at hq
          simp at hq
          unfold passT
          rw [if_neg (by omega), if_neg (by omega), if_neg (by omega)]
        rw [this, hq] at hry
        cases hry
    exact mkfed ((fed49 (h.fed m x hx hr)).imp id phaseP_live)
  · rw [passT_dom]
    refine h.keepR m x hx ?_
    revert hk
    unfold passT
    repeat' split
    all_goals exact id
  · rw [passT_dom]
    revert hp
    unfold passT
    split
    · split
      · rename_i h1 _; simp [h1]
      · simp
    · split
      · simp
      · split
        · intro hp
          refine h.keepR m x hx ?_
          simp only at hp
          split at hp
          · assumption
          · omega
        · exact h.retR m x hx
  · have := h.left m x hx
    unfold passT
    repeat' split
    all_goals (try simp only)
    all_goals omega
end GInv

/-- what an act of the statements does: 0, 1 Up, 2 Down, 3 Down and keep, else Tick -/
def actT (sts : List Pst) (op d : Int) : List Pst := if op = 0 ∨ op = 1 then upT sts d else if op = 2 then downT sts d false else if op = 3 then downT sts d true else tickT sts
theorem GInv.act {doms : List Dom} {sts : List Pst} (h : GInv doms sts) (hd : DomsOk doms) (op d : Int) : GInv doms (actT sts op d) := by
  unfold actT
  repeat' split
  · exact h.up hd d
  · exact h.down hd d false
  · exact h.down hd d true
  · exact h.tick

end Go.Proofs.Ytlhmcpkfmnmhfaa
