/- What the acts keep of a grid, plainly. -/
import Derived.Test.YtlhmcpkfmnmhfaaGreatZP
import Derived.Test.YtlhmcpkfmnmhfaaGreatZQ
import Derived.Test.YtlhmcpkfmnmhfaaGreatF1
import Derived.Deep.QuietTactic
import Derived.BigQuiet
import Derived.Deep.CutBlock
import Derived.Deep.DeepCutAuto
namespace Go.Proofs.YtlhmcpkfmnmhfaaGreat
section
set_option linter.unusedSimpArgs false
set_option linter.unusedVariables false

theorem get_lt' {α : Type} {xs : List α} {k : Nat} {x : α} (hx : xs[k]? = some x) : k < xs.length := (List.getElem?_eq_some_iff.1 hx).1
theorem atP_set {α β : Type} {xs : List α} {k : Nat} {x x' : α} (hx : xs[k]? = some x) (f : α → β) (b : β) (i : Int) : atP (xs.set k x') i f b = if i = (k : Int) then f x' else atP xs i f b := by
  have hk := get_lt' hx
  by_cases e : i = (k : Int)
  · rw [if_pos e, e, atP_at (List.getElem?_set_self hk)]
  · rw [if_neg e]
    cases hb : hasB xs.length i with
    | false => rw [atP_no hb, atP_no (by simpa using hb)]
    | true =>
      obtain ⟨m, y, rfl, hy⟩ := hasB_ex hb
      rw [atP_at hy, atP_at (by rw [List.getElem?_set_ne (by omega)]; exact hy)]
theorem phaseP_set {sts : List Pst} {k : Nat} {x x' : Pst} (hx : sts[k]? = some x) (i : Int) : phaseP (sts.set k x') i = if i = (k : Int) then x'.phase else phaseP sts i := atP_set hx _ _ i
theorem phaseP_at {sts : List Pst} {k : Nat} {x : Pst} (hx : sts[k]? = some x) : phaseP sts (k : Int) = x.phase := atP_at hx _ _
theorem phaseP_ex {sts : List Pst} {i : Int} (h : phaseP sts i ≠ 0) : ∃ (k : Nat) (x : Pst), i = (k : Int) ∧ sts[k]? = some x ∧ phaseP sts i = x.phase := by
  cases hb : hasB sts.length i with
  | false => exact absurd (atP_no hb _ _) h
  | true =>
    obtain ⟨k, x, rfl, hx⟩ := hasB_ex hb
    exact ⟨k, x, rfl, hx, phaseP_at hx⟩
theorem tick_at {sts : List Pst} {k : Nat} {y : Pst} (h : (tickT sts)[k]? = some y) : ∃ x, sts[k]? = some x ∧ y = passT x := by
  unfold tickT at h
  rw [List.getElem?_map] at h
  cases hx : sts[k]? with
  | none => rw [hx] at h; cases h
  | some x => rw [hx] at h; exact ⟨x, rfl, (Option.some.inj h).symm⟩
theorem tick_get {sts : List Pst} {k : Nat} {x : Pst} (h : sts[k]? = some x) : (tickT sts)[k]? = some (passT x) := by unfold tickT; rw [List.getElem?_map, h]; rfl
theorem phaseP_live {sts : List Pst} {i : Int} (h : phaseP sts i = 49) : phaseP (tickT sts) i = 49 := by
  obtain ⟨k, x, rfl, hx, e⟩ := phaseP_ex (sts := sts) (i := i) (by rw [h]; decide)
  rw [phaseP_at (tick_get hx)]
  rw [e] at h
  unfold passT
  simp [h]
theorem set_at' {α : Type} {xs : List α} {k i : Nat} {x y : α} (h : (xs.set k x)[i]? = some y) : (i = k ∧ y = x) ∨ (i ≠ k ∧ xs[i]? = some y) := by
  by_cases e : i = k
  · subst e
    have hl : i < xs.length := by have := get_lt' h; simpa using this
    rw [List.getElem?_set_self hl] at h
    exact .inl ⟨rfl, (Option.some.inj h).symm⟩
  · rw [List.getElem?_set_ne (Ne.symm e)] at h
    exact .inr ⟨e, h⟩

/-- the domains of the statements' chips, as far as a grid looks -/
structure DomsOk (doms : List Dom) : Prop where
  len : 1 ≤ doms.length ∧ doms.length ≤ 4
  above : ∀ (k : Nat) (d : Dom), doms[k]? = some d → d.above = -1 ∨ (0 ≤ d.above ∧ d.above < (k : Int))
  delay : ∀ (k : Nat) (d : Dom), doms[k]? = some d → 0 ≤ d.delay ∧ d.delay ≤ 20

/-- what is kept of a grid by all acts -/
structure GInv (doms : List Dom) (sts : List Pst) : Prop where
  dom : sts.map Pst.dom = doms
  fed : ∀ (k : Nat) (x : Pst), sts[k]? = some x → restsB x.phase = false → fedB sts x.dom.above = true
  keepR : ∀ (k : Nat) (x : Pst), sts[k]? = some x → x.keep = true → x.dom.ret = true
  retR : ∀ (k : Nat) (x : Pst), sts[k]? = some x → x.phase = 116 → x.dom.ret = true
  left : ∀ (k : Nat) (x : Pst), sts[k]? = some x → 0 ≤ x.left ∧ x.left ≤ 20
namespace GInv
variable {doms : List Dom} {sts : List Pst}
theorem at_ (h : GInv doms sts) {k : Nat} {x : Pst} (hx : sts[k]? = some x) : doms[k]? = some x.dom := by rw [← h.dom, List.getElem?_map, hx]; rfl
theorem get (h : GInv doms sts) {k : Nat} {d : Dom} (hd : doms[k]? = some d) : ∃ x, sts[k]? = some x ∧ x.dom = d := by
  rw [← h.dom, List.getElem?_map] at hd
  cases hx : sts[k]? with
  | none => rw [hx] at hd; cases hd
  | some x => rw [hx] at hd; exact ⟨x, rfl, Option.some.inj hd⟩
theorem len (h : GInv doms sts) : sts.length = doms.length := by rw [← h.dom]; simp
theorem lefts (h : GInv doms sts) : ∀ (k : Nat) (x : Pst), sts[k]? = some x → x.left ≤ 1000000 := fun k x hx => by have := h.left k x hx; omega
theorem desc (h : GInv doms sts) (hd : DomsOk doms) : ∀ (k : Nat) (x : Pst), sts[k]? = some x → x.dom.above = -1 ∨ (0 ≤ x.dom.above ∧ x.dom.above < (k : Int)) := fun k x hx => hd.above k _ (h.at_ hx)
theorem start (doms : List Dom) : GInv doms (doms.map newP) := by
  have hat : ∀ (k : Nat) (x : Pst), (doms.map newP)[k]? = some x → ∃ d, x = newP d := fun k x hx => by
    rw [List.getElem?_map] at hx
    cases hd : doms[k]? with
    | none => rw [hd] at hx; cases hx
    | some d => rw [hd] at hx; exact ⟨d, (Option.some.inj hx).symm⟩
  refine ⟨?_, fun k x hx => ?_, fun k x hx => ?_, fun k x hx => ?_, fun k x hx => ?_⟩
  · rw [List.map_map]
    have : (Pst.dom ∘ newP) = id := rfl
    rw [this]; simp
  all_goals
    obtain ⟨d, rfl⟩ := hat k x hx
    simp [newP, restsB]
theorem ret0 {p : Int} (h : restsB p = false) : p ≠ 48 ∧ p ≠ 116 := by unfold restsB at h; simp at h; exact h
theorem fed49 {a : Int} (h : fedB sts a = true) : a = -1 ∨ phaseP sts a = 49 := by unfold fedB at h; simpa using h
theorem mkfed {a : Int} (h : a = -1 ∨ phaseP sts a = 49) : fedB sts a = true := by unfold fedB; simpa using h
theorem up (h : GInv doms sts) (hd : DomsOk doms) (i : Int) : GInv doms (upT sts i) := by
  unfold upT
  by_cases hE : upE sts i = 0
  · rw [if_pos hE]
    cases hb : hasB sts.length i with
    | false => rw [show upE sts i = 4 from atP_no hb _ _] at hE; omega
    | true =>
      obtain ⟨k, x, rfl, hx⟩ := hasB_ex hb
      have hE' : (if restsB x.phase = true ∧ fedB sts x.dom.above = true then (0 : Int) else 6) = 0 := (atP_at hx _ _).symm.trans hE
      have hc : restsB x.phase = true ∧ fedB sts x.dom.above = true := by
        apply Classical.byContradiction
        intro hn
        rw [if_neg hn] at hE'
        omega
      obtain ⟨hr, hf⟩ := hc
      rw [setT_at _ hx]
      have hph : x.phase ≠ 49 := by unfold restsB at hr; simp at hr; omega
      have hkeep : ∀ a, fedB sts a = true → fedB (sts.set k (upS x)) a = true := fun a ha => mkfed (by
        rcases fed49 ha with h | h
        · exact .inl h
        · right
          rw [phaseP_set hx, if_neg, h]
          intro e
          rw [e, phaseP_at hx] at h
          exact hph h)
      refine ⟨?_, fun m y hy hry => ?_, fun m y hy hk => ?_, fun m y hy hp => ?_, fun m y hy => ?_⟩
      · rw [List.map_set, h.dom]
        refine List.ext_getElem? fun m => ?_
        by_cases e : m = k
        · subst e
          rw [List.getElem?_set_self (by rw [← h.len]; exact get_lt' hx), h.at_ hx]
          rfl
        · rw [List.getElem?_set_ne (Ne.symm e)]
      · rcases set_at' hy with ⟨rfl, rfl⟩ | ⟨hne, hy⟩
        · exact hkeep _ hf
        · exact hkeep _ (h.fed m y hy hry)
      · rcases set_at' hy with ⟨rfl, rfl⟩ | ⟨hne, hy⟩
        · exact h.keepR m x hx hk
        · exact h.keepR m y hy hk
      · rcases set_at' hy with ⟨rfl, rfl⟩ | ⟨hne, hy⟩
        · simp [upS] at hp
        · exact h.retR m y hy hp
      · rcases set_at' hy with ⟨rfl, rfl⟩ | ⟨hne, hy⟩
        · exact hd.delay m _ (h.at_ hx)
        · exact h.left m y hy
  · rw [if_neg hE]
    exact h
theorem needs_no {i : Int} (hn : needB sts i = false) {m : Nat} {y : Pst} (hy : sts[m]? = some y) (ha : y.dom.above = i) : restsB y.phase = true := by
  unfold needB at hn
  rw [List.any_eq_false] at hn
  have := hn y (List.mem_of_getElem? hy)
  simpa [ha] using this
theorem down (h : GInv doms sts) (hd : DomsOk doms) (i : Int) (kp : Bool) : GInv doms (downT sts i kp) := by
  unfold downT
  by_cases hE : downE sts i kp = 0
  · rw [if_pos hE]
    cases hb : hasB sts.length i with
    | false => rw [show downE sts i kp = 4 from atP_no hb _ _] at hE; omega
    | true =>
      obtain ⟨k, x, rfl, hx⟩ := hasB_ex hb
      have hE' : (if x.phase = 49 then (if kp = true ∧ x.dom.ret = false then (1 : Int) else if needB sts (k : Int) = true then 7 else 0) else 6) = 0 := (atP_at hx _ _).symm.trans hE
      have h49 : x.phase = 49 := by
        apply Classical.byContradiction
        intro hn
        rw [if_neg hn] at hE'
        omega
      rw [if_pos h49] at hE'
      have hkr : ¬ (kp = true ∧ x.dom.ret = false) := by
        intro hn
        rw [if_pos hn] at hE'
        omega
      rw [if_neg hkr] at hE'
      have hnb : needB sts (k : Int) = false := by
        cases hq : needB sts (k : Int) with
        | false => rfl
        | true => rw [hq, if_pos rfl] at hE'; omega
      rw [setT_at _ hx]
      have hkeep : ∀ (m : Nat) (y : Pst), sts[m]? = some y → restsB y.phase = false → fedB (sts.set k (downS kp x)) y.dom.above = true := fun m y hy hry => mkfed (by
        rcases fed49 (h.fed m y hy hry) with h1 | h1
        · exact .inl h1
        · right
          rw [phaseP_set hx, if_neg, h1]
          intro e
          have := needs_no hnb hy e
          rw [hry] at this
          cases this)
      have hrx : restsB x.phase = false := by rw [h49]; rfl
      refine ⟨?_, fun m y hy hry => ?_, fun m y hy hk => ?_, fun m y hy hp => ?_, fun m y hy => ?_⟩
      · rw [List.map_set, h.dom]
        refine List.ext_getElem? fun m => ?_
        by_cases e : m = k
        · subst e
          rw [List.getElem?_set_self (by rw [← h.len]; exact get_lt' hx), h.at_ hx]
          rfl
        · rw [List.getElem?_set_ne (Ne.symm e)]
      · rcases set_at' hy with ⟨rfl, rfl⟩ | ⟨hne, hy⟩
        · exact hkeep m x hx hrx
        · exact hkeep m y hy hry
      · rcases set_at' hy with ⟨rfl, rfl⟩ | ⟨hne, hy⟩
        · have hk' : kp = true := hk
          show x.dom.ret = true
          cases hq : x.dom.ret with
          | true => rfl
          | false => exact absurd ⟨hk', hq⟩ hkr
        · exact h.keepR m y hy hk
      · rcases set_at' hy with ⟨rfl, rfl⟩ | ⟨hne, hy⟩
        · simp [downS] at hp
        · exact h.retR m y hy hp
      · rcases set_at' hy with ⟨rfl, rfl⟩ | ⟨hne, hy⟩
        · exact h.left m x hx
        · exact h.left m y hy
  · rw [if_neg hE]
    exact h
theorem tick (h : GInv doms sts) : GInv doms (tickT sts) := by
  refine ⟨?_, fun m y hy hry => ?_, fun m y hy hk => ?_, fun m y hy hp => ?_, fun m y hy => ?_⟩
  · unfold tickT
    rw [List.map_map]
    have : (Pst.dom ∘ passT) = Pst.dom := funext passT_dom
    rw [this]
    exact h.dom
  all_goals obtain ⟨x, hx, rfl⟩ := tick_at hy
  · rw [passT_dom]
    have hr : restsB x.phase = false := by
      cases hq : restsB x.phase with
      | false => rfl
      | true =>
        have : passT x = x := by
          unfold restsB at hq
          simp at hq
          unfold passT
          rw [if_neg (by omega), if_neg (by omega), if_neg (by omega)]
        rw [this, hq] at hry
        cases hry
    exact mkfed ((fed49 (h.fed m x hx hr)).imp id phaseP_live)
  · rw [passT_dom]
    refine h.keepR m x hx ?_
    revert hk
    unfold passT
    repeat' split
    all_goals exact id
  · rw [passT_dom]
    revert hp
    unfold passT
    split
    · split
      · rename_i h1 _; simp [h1]
      · simp
    · split
      · simp
      · split
        · intro hp
          refine h.keepR m x hx ?_
          simp only at hp
          split at hp
          · assumption
          · omega
        · exact h.retR m x hx
  · have := h.left m x hx
    unfold passT
    repeat' split
    all_goals (try simp only)
    all_goals omega
end GInv

/-- what an act of the statements does: 0, 1 Up, 2 Down, 3 Down and keep, else Tick -/
def actT (sts : List Pst) (op d : Int) : List Pst := if op = 0 ∨ op = 1 then upT sts d else if op = 2 then downT sts d false else if op = 3 then downT sts d true else tickT sts
theorem GInv.act {doms : List Dom} {sts : List Pst} (h : GInv doms sts) (hd : DomsOk doms) (op d : Int) : GInv doms (actT sts op d) := by
  unfold actT
  repeat' split
  · exact h.up hd d
  · exact h.down hd d false
  · exact h.down hd d true
  · exact h.tick
end

section
set_option linter.unusedSimpArgs false
set_option linter.unusedVariables false
open Go.ChangeShapes Go.WideShapes Go.ChangeAt Go.RowKit Go.Deep Go.Joins Go.Maps

theorem plain_doms {s : Chip} (h : Plain s) : DomsOk s.doms := ⟨h.nd, h.domA, h.domD⟩

/-- a grid in a statement: all that was ahead of it is as it was -/
structure Lw (w3 wr : World) (gt g c : Nat) (doms : List Dom) (sts : List Pst) : Prop where
  grid : GridIs wr gt g c sts
  inv : GInv doms sts
  ok : DomsOk doms
  bel : Below w3.heap.size w3 wr
  lo : w3.heap.size ≤ gt ∧ w3.heap.size ≤ g
namespace Lw
variable {w3 wr w' : World} {gt g c : Nat} {doms : List Dom} {sts sts' : List Pst}
theorem len (h : Lw w3 wr gt g c doms sts) : sts.length ≤ 4 := by have := h.ok.len; have := h.inv.len; omega
theorem size (h : Lw w3 wr gt g c doms sts) : w3.heap.size ≤ wr.heap.size := h.bel.size
theorem below (h : Lw w3 wr gt g c doms sts) (hm : Moved [g] wr w') : Below w3.heap.size w3 w' := h.bel.trans (hm.below (by simp; exact h.lo.2) h.bel.size)
theorem next (h : Lw w3 wr gt g c doms sts) (hg : GridIs w' gt g c sts') (hi : GInv doms sts') (hm : Moved [g] wr w') : Lw w3 w' gt g c doms sts' := ⟨hg, hi, h.ok, h.below hm, h.lo⟩
theorem calm (h : Lw w3 wr gt g c doms sts) (hm : Moved [] wr w') : Lw w3 w' gt g c doms sts := ⟨h.grid.move hm, h.inv, h.ok, h.bel.trans (hm.below (by simp) h.bel.size), h.lo⟩
theorem drewN (h : Lw w3 wr gt g c doms sts) (n : Nat) : Lw w3 (wr.drewN n) gt g c doms sts := h.calm ⟨rfl, rfl, rfl, Nat.le_refl _, fun _ _ _ => rfl⟩
theorem above (h : Lw w3 wr gt g c doms sts) : ∀ (k : Nat) (x : Pst), sts[k]? = some x → aboveOk sts.length x.dom.above := fun k x hx => by
  have h1 := h.inv.desc h.ok k x hx
  have h2 := get_lt' hx
  rcases h1 with h | h
  · exact .inl h
  · exact .inr (by omega)
theorem desc (h : Lw w3 wr gt g c doms sts) : Desc sts := h.inv.desc h.ok
theorem up (h : Lw w3 wr gt g c doms sts) (i : Int) : Calls Tryz.prog 9 #[.pointer (some ⟨gt, 0, none⟩), .int .i64 i] wr fun e w' => e = .returned (.int .i64 (upE sts i)) ∧ Lw w3 w' gt g c doms (upT sts i) ∧ Moved [g] wr w' :=
  (up_any gt g c sts i wr (by have := h.len; omega) h.grid h.above).mono fun e w' ⟨he, hg, hm⟩ => ⟨he, h.next hg (h.inv.up h.ok i) hm, hm⟩
theorem down (h : Lw w3 wr gt g c doms sts) (i : Int) (kp : Bool) : Calls Tryz.prog 11 #[.pointer (some ⟨gt, 0, none⟩), .int .i64 i, .bool kp] wr fun e w' => e = .returned (.int .i64 (downE sts i kp)) ∧ Lw w3 w' gt g c doms (downT sts i kp) ∧ Moved [g] wr w' :=
  (down_any gt g c sts i kp wr (by have := h.len; omega) h.grid).mono fun e w' ⟨he, hg, hm⟩ => ⟨he, h.next hg (h.inv.down h.ok i kp) hm, hm⟩
/-- what a tick leaves -/
def Told (w3 wr : World) (gt g c : Nat) (doms : List Dom) (sts : List Pst) (e : Ending) (w' : World) : Prop := ∃ v, e = .returned v ∧ EvRow w' wr.heap.size v (tickE sts) ∧ Lw w3 w' gt g c doms (tickT sts) ∧ Moved [g] wr w'
theorem tick (h : Lw w3 wr gt g c doms sts) : Calls Tryz.prog 15 #[.pointer (some ⟨gt, 0, none⟩)] wr (Told w3 wr gt g c doms sts) :=
  (tick_any gt g c sts wr (by have := h.len; omega) h.grid h.inv.lefts).mono fun e w' ⟨v, he, hv, hg, hm⟩ => ⟨v, he, hv, h.next hg h.inv.tick hm, hm⟩
theorem phase (h : Lw w3 wr gt g c doms sts) (i : Int) : Calls Tryz.prog 17 #[.pointer (some ⟨gt, 0, none⟩), .int .i64 i] wr fun e w' => e = .returned (.int .u8 (phaseP sts i)) ∧ wr = w' :=
  phase_any gt g c sts i wr (by have := h.len; omega) h.grid
theorem left (h : Lw w3 wr gt g c doms sts) (i : Int) : Calls Tryz.prog 19 #[.pointer (some ⟨gt, 0, none⟩), .int .i64 i] wr fun e w' => e = .returned (.int .i64 (leftP sts i)) ∧ wr = w' :=
  left_any gt g c sts i wr (by have := h.len; omega) h.grid
/-- what Chain leaves -/
def Chained (w3 wr : World) (gt g c : Nat) (doms : List Dom) (sts : List Pst) (l : List Int) (e : Ending) (w' : World) : Prop := ∃ A d, e = .returned (.slice A l.length d) ∧ IntsAt w' w'.heap.size A l ∧ Lw w3 w' gt g c doms sts ∧ Below wr.heap.size wr w'
theorem chain (h : Lw w3 wr gt g c doms sts) (i : Int) (hi : wfI i) : Calls Tryz.prog 22 #[.pointer (some ⟨gt, 0, none⟩), .int .i64 i] wr (Chained w3 wr gt g c doms sts (chainP sts i)) :=
  (chain_any gt g c sts i wr (by have := h.len; omega) hi h.grid h.desc).mono fun e w' ⟨A, d, he, ho, hb⟩ => ⟨A, d, he, IntsAt.of_own ho, h.calm (Moved.of_below hb), hb⟩
end Lw
theorem Lw.start {w3 w4 : World} {gt g c : Nat} {s : Chip} (h : Plain s) (hg : GridIs w4 gt g c (s.doms.map newP)) (h1 : w3.heap.size ≤ gt) (h2 : w3.heap.size ≤ g) (hb : Below w3.heap.size w3 w4) : Lw w3 w4 gt g c s.doms (s.doms.map newP) :=
  ⟨hg, GInv.start _, plain_doms h, hb, h1, h2⟩

structure Acts where
  op : Int
  d : Int
instance : Inhabited Acts := ⟨⟨0, 0⟩⟩
def ActV : Reads Acts := fun _ _ x vs => vs = [.int .i64 x.op, .int .i64 x.d]
instance : Steady ActV := ⟨fun h _ => h, fun h _ => h⟩
structure ActW (x : Acts) : Prop where
  op : wfI x.op
  d : wfI x.d
theorem Tryz.cells41 : Tryz.prog.cellsOf 41 = 2 := by kernel_rfl
section
variable {H : Type} {enc : TypeId × Value → H} {W : World}
set_option maxRecDepth 100000 in
theorem act_read (m : Nat) (cs : List Value) (z : DataW H × List MemPlace) (hl : cs.length = 2) (h : DataW.trod enc Tryz.prog W 0 (fun _ => true) true m 41 cs = some z) : ∃ x : Acts, ActW x ∧ ActV W W.heap.size x cs := by
  obtain ⟨ys, n, -, -, -, hyl, hf⟩ := DataW.trod_struct Tryz.underlying41 h
  match cs, hl with
  | [c0, c1], _ =>
    obtain ⟨y0, g0⟩ := fld_read (hf 0 _ rfl) Tryz.cellsN3 rfl (by rw [hyl]; decide)
    obtain ⟨y1, g1⟩ := fld_read (hf 1 _ rfl) Tryz.cellsN3 rfl (by rw [hyl]; decide)
    obtain ⟨a, rfl, w0⟩ := int_read Tryz.underlying3 g0
    obtain ⟨b, rfl, w1⟩ := int_read Tryz.underlying3 g1
    exact ⟨⟨a, b⟩, ⟨wf_bounds w0, wf_bounds w1⟩, rfl⟩
theorem acts_arg {a0 : Option Addr} {len cap : Nat} {d : DataW H} {p : List MemPlace} (h : DataW.Trod enc Tryz.prog W 0 (fun _ => true) true 23 (.slice a0 len cap) d p) :
    ∃ xs : List Acts, xs.length = len ∧ len ≤ maxLen ∧ StrsAt ActV 2 W W.heap.size a0 xs ∧ ∀ x, x ∈ xs → ActW x := by
  obtain ⟨n, hn⟩ := h
  have hn' : DataW.trod enc Tryz.prog W 0 (fun _ => true) true n 23 [.slice a0 len cap] = some (d, p) := by simpa [Value.cells] using hn
  obtain ⟨A, len', cap', xs, e, hl, hc, hm, hs, hw⟩ := strs_read (V := ActV) (Q := ActW) Tryz.underlying23 Tryz.cells41 (by omega) act_read hn'
  injection e with e1 e2 e3
  subst e1 e2 e3
  exact ⟨xs, hl, hm, hs, hw⟩
end
end

section
set_option linter.unusedSimpArgs false
set_option linter.unusedVariables false
open Go.RowKit Go.Maps

theorem Lw.box {w3 wr : World} {gt g c : Nat} {doms : List Dom} {sts : List Pst} {b : Nat} {v : Value} {vs : List Value} (h : Lw w3 wr gt g c doms sts) (hB : BoxAt w3 b (v :: vs)) : BoxAt wr b (v :: vs) := hB.move (Moved.of_below (hot := []) h.bel) (by simp)
theorem Lw.calm' {w3 wr w' : World} {gt g c : Nat} {doms : List Dom} {sts : List Pst} {H : List Nat} (h : Lw w3 wr gt g c doms sts) (hm : Moved H wr w') (h1 : gt ∉ H) (h2 : g ∉ H) (h3 : ∀ b, b ∈ H → w3.heap.size ≤ b) : Lw w3 w' gt g c doms sts := ⟨h.grid.far hm h1 h2, h.inv, h.ok, h.bel.trans (hm.below h3 h.bel.size), h.lo⟩
theorem Lw.phaseQ {w3 wr : World} {gt g c : Nat} {doms : List Dom} {sts : List Pst} (h : Lw w3 wr gt g c doms sts) (n : Nat) (i : Int) {p : Int} (hp : phaseP sts i = p) : Calls Tryz.prog 17 #[.pointer (some ⟨gt, 0, none⟩), .int .i64 i] (wr.drewN n) fun e w'' => e = .returned (.int .u8 p) ∧ ∃ m, w'' = wr.drewN m :=
  ((h.drewN n).phase i).mono fun e w' ⟨he, hw⟩ => ⟨by rw [he, hp], n, hw.symm⟩
theorem pickQ (c n : Int) (w : World) (m : Nat) (hc : wfI c) (h0 : 0 < n) (h1 : n ≤ 1000000) {q : Int} (hq : pickP c n = q) : Calls Tryz.prog 8 #[.int .i64 c, .int .i64 n] (w.drewN m) fun e w'' => e = .returned (.int .i64 q) ∧ ∃ m, w'' = w.drewN m :=
  (pick_any c n _ hc h0 h1).mono fun e w' ⟨he, hw⟩ => ⟨by rw [he, hq], m, hw.symm⟩

/-- an act leaves the phases of all others -/
theorem up_others {sts : List Pst} {x i : Int} (h : i ≠ x) : phaseP (upT sts x) i = phaseP sts i := by
  unfold upT
  split
  · cases hb : hasB sts.length x with
    | false => rename_i hE; rw [show upE sts x = 4 from atP_no hb _ _] at hE; omega
    | true =>
      obtain ⟨k, y, rfl, hy⟩ := hasB_ex hb
      rw [setT_at _ hy, phaseP_set hy, if_neg h]
  · rfl
theorem down_others {sts : List Pst} {x i : Int} {kp : Bool} (h : i ≠ x) : phaseP (downT sts x kp) i = phaseP sts i := by
  unfold downT
  split
  · cases hb : hasB sts.length x with
    | false => rename_i hE; rw [show downE sts x kp = 4 from atP_no hb _ _] at hE; omega
    | true =>
      obtain ⟨k, y, rfl, hy⟩ := hasB_ex hb
      rw [setT_at _ hy, phaseP_set hy, if_neg h]
  · rfl

def Alone (w3 wr : World) (gt g c : Nat) (doms : List Dom) (sts : List Pst) (x : Int) (e : Ending) (w' : World) : Prop := ∃ E sts', e = .returned (.int .i64 E) ∧ Lw w3 w' gt g c doms sts' ∧ Moved [g] wr w' ∧ ∀ i, i ≠ x → phaseP sts' i = phaseP sts i
theorem Lw.upA {w3 wr : World} {gt g c : Nat} {doms : List Dom} {sts : List Pst} (h : Lw w3 wr gt g c doms sts) (i : Int) : Calls Tryz.prog 9 #[.pointer (some ⟨gt, 0, none⟩), .int .i64 i] wr (Alone w3 wr gt g c doms sts i) :=
  (h.up i).mono fun e w' ⟨he, hl, hm⟩ => ⟨_, _, he, hl, hm, fun j hj => up_others hj⟩
theorem Lw.downA {w3 wr : World} {gt g c : Nat} {doms : List Dom} {sts : List Pst} (h : Lw w3 wr gt g c doms sts) (i : Int) (kp : Bool) : Calls Tryz.prog 11 #[.pointer (some ⟨gt, 0, none⟩), .int .i64 i, .bool kp] wr (Alone w3 wr gt g c doms sts i) :=
  (h.down i kp).mono fun e w' ⟨he, hl, hm⟩ => ⟨_, _, he, hl, hm, fun j hj => down_others hj⟩
end

section
set_option linter.unusedSimpArgs false
set_option linter.unusedVariables false
open Go.RowKit Go.Maps

section
variable {doms : List Dom} {sts : List Pst}
theorem GInv.dsc (h : GInv doms sts) (hd : DomsOk doms) : Desc sts := h.desc hd
theorem upsF_neg (sts : List Pst) : upsF sts (-1) = [] := upsF_no (by unfold hasB; simp)
theorem live_up (h : GInv doms sts) (hd : DomsOk doms) : ∀ (k : Nat), phaseP sts (k : Int) = 49 → ∀ a, a ∈ upsF sts (k : Int) → phaseP sts a = 49 := by
  intro k
  induction k using Nat.strongRecOn with
  | _ k ih =>
    intro hp a ha
    obtain ⟨m, x, e, hx, hpx⟩ := phaseP_ex (sts := sts) (i := (k : Int)) (by rw [hp]; decide)
    obtain rfl : k = m := by omega
    rw [upsF_yes (h.dsc hd) hx] at ha
    rcases List.mem_cons.1 ha with rfl | ha
    · exact hp
    · have hr : restsB x.phase = false := by rw [← hpx, hp]; rfl
      rcases GInv.fed49 (h.fed k x hx hr) with h1 | h1
      · rw [h1, upsF_neg] at ha
        simp at ha
      · rcases h.desc hd k x hx with h2 | ⟨h2, h3⟩
        · rw [h2, upsF_neg] at ha
          simp at ha
        · obtain ⟨q, hq⟩ : ∃ q : Nat, x.dom.above = (q : Int) := ⟨x.dom.above.toNat, by omega⟩
          rw [hq] at h1 ha
          exact ih q (by omega) h1 a ha
theorem live_above (h : GInv doms sts) (hd : DomsOk doms) {k : Nat} {x : Pst} (hx : sts[k]? = some x) (hr : restsB x.phase = false) : ∀ a, a ∈ upsF sts x.dom.above → phaseP sts a = 49 := by
  intro a ha
  rcases GInv.fed49 (h.fed k x hx hr) with h1 | h1
  · rw [h1, upsF_neg] at ha
    simp at ha
  · obtain ⟨m, y, e, hy, _⟩ := phaseP_ex (sts := sts) (i := x.dom.above) (by rw [h1]; decide)
    rw [e] at h1 ha
    exact live_up h hd m h1 a ha
theorem chainP_yes (h : GInv doms sts) (hd : DomsOk doms) {k : Nat} {x : Pst} (hx : sts[k]? = some x) : chainP sts (k : Int) = (upsF sts x.dom.above).reverse ++ [(k : Int)] := by
  unfold chainP
  rw [upsF_yes (h.dsc hd) hx, List.reverse_cons]
end

/-- what an act leaves: a grid -/
def Acted (w3 : World) (gt g c : Nat) (doms : List Dom) (w' : World) : Prop := ∃ sts', Lw w3 w' gt g c doms sts'
section
variable {w3 wr : World} {gt g c : Nat} {doms : List Dom} {sts : List Pst} (h : Lw w3 wr gt g c doms sts)
include h
theorem Lw.upX (i : Int) : Calls Tryz.prog 9 #[.pointer (some ⟨gt, 0, none⟩), .int .i64 i] wr (fun e w' => (∃ E, e = .returned (.int .i64 E)) ∧ Acted w3 gt g c doms w') := (h.up i).mono fun e w' ⟨he, hl, hm⟩ => ⟨⟨_, he⟩, _, hl⟩
theorem Lw.downX (i : Int) (kp : Bool) : Calls Tryz.prog 11 #[.pointer (some ⟨gt, 0, none⟩), .int .i64 i, .bool kp] wr (fun e w' => (∃ E, e = .returned (.int .i64 E)) ∧ Acted w3 gt g c doms w') := (h.down i kp).mono fun e w' ⟨he, hl, hm⟩ => ⟨⟨_, he⟩, _, hl⟩
theorem Lw.tickX : Calls Tryz.prog 15 #[.pointer (some ⟨gt, 0, none⟩)] wr (fun e w' => (∃ v, e = .returned v) ∧ Acted w3 gt g c doms w') := h.tick.mono fun e w' ⟨v, he, _, hl, _⟩ => ⟨⟨_, he⟩, _, hl⟩
end
/-- the acts read as they did -/
theorem acts_at {w w3 wr : World} {A : Option Addr} {xs : List Acts} (h : StrsAt ActV 2 w w.heap.size A xs) (h3 : Below w.heap.size w w3) (hb : Below w3.heap.size w3 wr) {k : Nat} (hk : k < xs.length) :
    ∃ ad, A = some ad ∧ wr.cell? (ad.add (k * 2)) = some (.int .i64 xs[k].op) ∧ wr.cell? ⟨(ad.add (k * 2)).block, (ad.add (k * 2)).off + (0 + 1), none⟩ = some (.int .i64 xs[k].d) := by
  obtain ⟨ad, us, hA, hab, hV, hAg⟩ := (h.below (h3.trans (hb.mono h3.size)) (Nat.le_refl _)).at_ hk
  have e : us = [.int .i64 xs[k].op, .int .i64 xs[k].d] := hV
  subst e
  exact ⟨ad, hA, hAg.zero, hAg.at_ 0 rfl⟩

/-- the domains of the description read as they did -/
theorem doms_cells {w3 wr : World} {A : Option Addr} {doms : List Dom} (h : StrsAt DomV 3 w3 w3.heap.size A doms) (hb : Below w3.heap.size w3 wr) {k : Nat} {d : Dom} (hd : doms[k]? = some d) :
    ∃ ad, A = some ad ∧ wr.cell? (ad.add (k * 3)) = some (.int .i64 d.above) ∧ wr.cell? ⟨(ad.add (k * 3)).block, (ad.add (k * 3)).off + (0 + 1), none⟩ = some (.int .i64 d.delay) ∧ wr.cell? ⟨(ad.add (k * 3)).block, (ad.add (k * 3)).off + (1 + 1), none⟩ = some (.bool d.ret) := by
  have hk := get_lt' hd
  obtain ⟨ad, us, hA, hab, hV, hAg⟩ := (h.below hb (Nat.le_refl _)).at_ hk
  have e : us = [.int .i64 doms[k].above, .int .i64 doms[k].delay, .bool doms[k].ret] := hV
  have e2 : doms[k] = d := by rw [List.getElem?_eq_getElem hk] at hd; injection hd
  rw [e2] at e
  subst e
  exact ⟨ad, hA, hAg.zero, hAg.at_ 0 rfl, hAg.at_ 1 rfl⟩
theorem any_take_succ {sts : List Pst} {k : Nat} {y : Pst} (h : sts[k]? = some y) (f : Pst → Bool) : (sts.take (k + 1)).any f = ((sts.take k).any f || f y) := by
  rw [List.take_add_one, h]
  simp
end

end Go.Proofs.YtlhmcpkfmnmhfaaGreat
