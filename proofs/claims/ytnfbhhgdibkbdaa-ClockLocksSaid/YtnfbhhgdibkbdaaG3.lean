/- A region that draws its order, appends at most once to a row of its own, and stores last. -/
import Derived.Test.YtnfbhhgdibkbdaaG2
namespace Go.Proofs.Ytnfbhhgdibkbdaa
set_option linter.unusedSimpArgs false
set_option linter.unusedVariables false
open Go.RowKit

/-- the operation gives a value for which R holds; a pure one leaves the world -/
def GivesR (P : Program) (T : Nat → Value) (o : Oper) (w : World) (pure : Bool) (row : Option Nat) (R : Value → World → Prop) : Prop :=
  (∃ v w', (execOp (evT T) o).run P w = .ok (.value v) w' ∧ (if pure then w' = w else w.grownBy w' row) ∧ R v w') ∨
  (∃ f args, (execOp (evT T) o).run P w = .ok (.enter f args) w ∧ Calls P f args w fun e w' => ∃ v, e = .returned v ∧ (if pure then w' = w else w.grownBy w' row) ∧ R v w')
def StepR (P : Program) (ops : Array Oper) (T0 : Nat → Value) (w0 : World) (row : Option Nat) (G : Nat → Value → World → Prop) (i : Nat) (pure app : Bool) (o : Oper) : Prop :=
  ∀ (T : Nat → Value) (w : World), (∀ t, freeT ops t = true → T t = T0 t) → w0.grownBy w row → (app = true → w0.grownBy w none) → AllOf G ops T w (needs o) → GivesR P T o w pure (if app then row else none) (G i)
/-- an operation: what it gives, is it pure, is it the append -/
structure Sp where
  G : Gv
  pure : Bool
  app : Bool
def spG (l : List Sp) (i : Nat) : Gv := GL (l.map (·.G)) i
def AllR (P : Program) (ops : Array Oper) (T0 : Nat → Value) (w0 : World) (row : Option Nat) (G : Nat → Value → World → Prop) : Nat → List Sp → List Oper → Prop
  | _, [], _ => True
  | i, s :: l, o :: os => (o.guard = none ∧ StepR P ops T0 w0 row G i s.pure s.app o) ∧ AllR P ops T0 w0 row G (i + 1) l os
  | _, _ :: _, [] => False
def StbR (row : Option Nat) (G : Gv) : Prop := ∀ v w w', G v w → w.grownBy w' row → G v w'
def AllStbR (row : Option Nat) : List Sp → Prop
  | [] => True
  | s :: l => (s.app = false → StbR row s.G) ∧ AllStbR row l
/-- each waits for earlier ones alone; each but the last has a slot of its own; the last waits for all; what is not pure comes ahead of the append -/
def thenOk (ops : Array Oper) (l : List Sp) (n : Nat) : Bool :=
  decide (ops.size = l.length + 1) && decide ((l.filter (·.app)).length ≤ 1) && (List.range ops.size).all fun i => match ops[i]? with
    | none => false
    | some o => o.after.all (fun e => !Region.binds .any e || decide (e.on < i)) &&
      (if i < l.length then (match o.dst with
       | none => false
       | some d => decide (d < n) && (List.range ops.size).all fun j => j == i || (ops[j]?).bind (·.dst) != some d) &&
        (match l[i]? with
         | none => false
         | some s => !s.app || (List.range l.length).all fun k => k == i || (match l[k]? with | some sk => sk.pure | none => true) || (needs o).contains k)
       else o.guard == none && o.dst == none && (List.range l.length).all fun k => (needs o).contains k)

theorem AllR.at_ {P : Program} {ops : Array Oper} {T0 : Nat → Value} {w0 : World} {row : Option Nat} {G : Nat → Value → World → Prop} : ∀ {l : List Sp} {os : List Oper} {k : Nat}, AllR P ops T0 w0 row G k l os → ∀ {i : Nat} {o : Oper} {s : Sp}, l[i]? = some s → os[i]? = some o → o.guard = none ∧ StepR P ops T0 w0 row G (k + i) s.pure s.app o
  | [], _, _, _, _, _, _, h, _ => by simp at h
  | _ :: _, [], _, h, _, _, _, _, _ => h.elim
  | x :: l, y :: os, k, h, 0, o, s, hi, ho => by simp at hi ho; subst hi; subst ho; exact h.1
  | x :: l, y :: os, k, h, i + 1, o, s, hi, ho => by
    have := AllR.at_ (l := l) (os := os) h.2 (i := i) (o := o) (s := s) (by simpa using hi) (by simpa using ho)
    rwa [show k + (i + 1) = k + 1 + i by omega]
theorem AllStbR.at_ {row : Option Nat} : ∀ {l : List Sp}, AllStbR row l → ∀ {i : Nat} {s : Sp}, l[i]? = some s → s.app = false → StbR row s.G
  | [], _, _, _, h, _ => by simp at h
  | x :: l, h, 0, s, hi, ha => by simp at hi; subst hi; exact h.1 ha
  | x :: l, h, i + 1, s, hi, ha => AllStbR.at_ (l := l) h.2 (i := i) (by simpa using hi) ha
theorem spG_at {l : List Sp} {i : Nat} {s : Sp} (h : l[i]? = some s) : spG l i = s.G := by
  unfold spG
  induction l generalizing i with
  | nil => simp at h
  | cons x l ih =>
    cases i with
    | zero => simp at h; subst h; rfl
    | succ i => exact ih (by simpa using h)

structure InvR (l : List Sp) (ops : Array Oper) (a0 : Act) (w0 : World) (row : Option Nat) (G : Nat → Value → World → Prop) (n m : Nat) (fuel : Nat) (listed : Array Bool) (a : Act) (w : World) : Prop where
  sz : a.tmps.size = n
  df : a.defers = a0.defers
  out : ∀ t, freeT ops t = true → slT a t = slT a0 t
  bl : w0.grownBy w row
  bl0 : (∀ i s, l[i]? = some s → s.app = true → listed.getD i false = false) → w0.grownBy w none
  ls : listed.size = ops.size
  cnt : ((List.range ops.size).filter fun i => !listed.getD i true).length ≤ fuel
  good : ∀ j, j < m → listed.getD j false = true → G j (slT a (dstN ops j)) w
  closed : ∀ j o e, ops[j]? = some o → listed.getD j false = true → e ∈ o.after → Region.binds .any e = true → listed.getD e.on false = true
  last : listed.getD m false = false

theorem then_at {ops : Array Oper} {l : List Sp} {n i : Nat} {o : Oper} (h : thenOk ops l n = true) (hi : ops[i]? = some o) :
    (∀ e, e ∈ o.after → Region.binds .any e = true → e.on < i) ∧
    (i < l.length → ∃ d s, o.dst = some d ∧ d < n ∧ (∀ j, j ≠ i → (ops[j]?).bind (·.dst) ≠ some d) ∧ l[i]? = some s ∧ (s.app = true → ∀ k sk, k ≠ i → l[k]? = some sk → sk.pure = false → k ∈ needs o)) ∧
    (¬ i < l.length → i = l.length ∧ o.guard = none ∧ o.dst = none ∧ ∀ k, k < l.length → k ∈ needs o) := by
  have hlt : i < ops.size := (Array.getElem?_eq_some_iff.1 hi).1
  unfold thenOk at h
  rw [Bool.and_eq_true, List.all_eq_true] at h
  rw [Bool.and_eq_true] at h
  have hsz : ops.size = l.length + 1 := by simpa using h.1.1
  have h := h.2 i (List.mem_range.2 hlt)
  rw [hi] at h
  simp only [Bool.and_eq_true] at h
  refine ⟨fun e he hb => ?_, fun hil => ?_, fun hil => ?_⟩
  · obtain ⟨k, hk, rfl⟩ := Array.mem_iff_getElem.1 he
    have := (Array.all_eq_true.1 h.1) k hk
    rw [hb] at this
    simpa using this
  · obtain ⟨_, h2⟩ := h
    rw [if_pos hil, Bool.and_eq_true] at h2
    obtain ⟨h2, h3⟩ := h2
    cases hd : o.dst with
    | none => rw [hd] at h2; simp at h2
    | some d =>
      cases hs : l[i]? with
      | none => rw [hs] at h3; simp at h3
      | some s =>
        rw [hd] at h2
        rw [hs] at h3
        simp only [Bool.and_eq_true, decide_eq_true_eq, List.all_eq_true, List.mem_range] at h2
        refine ⟨d, s, rfl, h2.1, fun j hj hjd => ?_, rfl, fun ha k sk hk hsk hp => ?_⟩
        · have hjl : j < ops.size := by
            cases hj' : ops[j]? with
            | none => rw [hj'] at hjd; simp at hjd
            | some x => exact (Array.getElem?_eq_some_iff.1 hj').1
          have := h2.2 j hjl
          simp [hj, hjd] at this
        · simp only [ha, Bool.not_true, Bool.false_or, List.all_eq_true, List.mem_range] at h3
          have := h3 k (List.getElem?_eq_some_iff.1 hsk).1
          rw [hsk] at this
          simp only [hp, Bool.or_false, Bool.or_eq_true, beq_iff_eq] at this
          rcases this with h | h
          · exact absurd h hk
          · simpa using h
  · obtain ⟨_, h2⟩ := h
    rw [if_neg hil] at h2
    simp only [Bool.and_eq_true, List.all_eq_true, List.mem_range, beq_iff_eq] at h2
    refine ⟨by omega, ?_, h2.1.2, fun k hk => by simpa using h2.2 k hk⟩
    have := h2.1.1
    cases hg : o.guard with
    | none => rfl
    | some g => rw [hg] at this; simp at this

/-- the frame with the operations' slots laid anew -/
def putL (a0 : Act) : List Oper → (Nat → Value) → Act
  | [], _ => a0
  | o :: os, T => putL (a0.put o.dst (T (o.dst.getD 0))) os T
theorem put_size (a : Act) (d : Option Tmp) (v : Value) : (a.put d v).tmps.size = a.tmps.size := by cases d <;> simp [Act.put]
theorem putL_size : ∀ (os : List Oper) (a0 : Act) (T : Nat → Value), (putL a0 os T).tmps.size = a0.tmps.size
  | [], _, _ => rfl
  | o :: os, a0, T => by rw [putL, putL_size os, put_size]
theorem putL_defers : ∀ (os : List Oper) (a0 : Act) (T : Nat → Value), (putL a0 os T).defers = a0.defers
  | [], _, _ => rfl
  | o :: os, a0, T => by rw [putL, putL_defers os]; cases o.dst <;> rfl
theorem putL_sl : ∀ (os : List Oper) (a0 : Act) (T : Nat → Value) (t : Nat), t < a0.tmps.size → slT (putL a0 os T) t = if os.any (fun o => o.dst == some t) then T t else slT a0 t
  | [], _, _, _, _ => by simp [putL]
  | o :: os, a0, T, t, h => by
    rw [putL, putL_sl os _ T t (by rw [put_size]; exact h), List.any_cons]
    cases hd : o.dst with
    | none => simp [Act.put]
    | some d =>
      by_cases e : d = t
      · subst e
        by_cases ha : os.any (fun o => o.dst == some d) = true
        · simp [ha]
        · simp only [ha]
          rw [slT_put_same h]
          simp
      · rw [slT_put_ne e]
        have : (some d == some t) = false := by simpa using e
        rw [this, Bool.false_or]
theorem act_ext {p q : Act} (h1 : p.tmps = q.tmps) (h2 : p.defers = q.defers) : p = q := by
  cases p
  cases q
  simp only at h1 h2
  subst h1
  subst h2
  rfl
theorem putL_eq {ops : Array Oper} {a a0 : Act} {n : Nat} (h : a.tmps.size = n) (h0 : a0.tmps.size = n) (hd : a.defers = a0.defers) (hout : ∀ t, freeT ops t = true → slT a t = slT a0 t) : a = putL a0 ops.toList (slT a) := by
  have hs : a.tmps = (putL a0 ops.toList (slT a)).tmps := by
    apply Array.ext
    · rw [putL_size]; omega
    · intro i h1 h2
      have e1 : a.tmps[i] = slT a i := by simp [slT, h1]
      have e2 : (putL a0 ops.toList (slT a)).tmps[i] = slT (putL a0 ops.toList (slT a)) i := by simp [slT, h2]
      rw [e1, e2, putL_sl _ _ _ _ (by omega)]
      by_cases hf : ops.toList.any (fun o => o.dst == some i) = true
      · rw [if_pos hf]
      · rw [if_neg hf]
        apply hout
        unfold freeT
        rw [Array.all_eq_true]
        intro k hk
        have : ¬ (ops[k].dst == some i) = true := fun hh => hf (List.any_eq_true.2 ⟨ops[k], by simp, hh⟩)
        simpa using this
  have hdf : a.defers = (putL a0 ops.toList (slT a)).defers := by rw [putL_defers]; exact hd
  exact act_ext hs hdf

theorem one_app {l : List Sp} (h : (l.filter (·.app)).length ≤ 1) {i j : Nat} {s t : Sp} (hi : l[i]? = some s) (hj : l[j]? = some t) (hs : s.app = true) (ht : t.app = true) : i = j := by
  induction l generalizing i j with
  | nil => simp at hi
  | cons x l ih =>
    have hno : x.app = true → ∀ (k : Nat) (u : Sp), l[k]? = some u → u.app = true → False := fun hx k u hk hu => by
      rw [List.filter_cons, if_pos hx] at h
      have hm : u ∈ l.filter (·.app) := List.mem_filter.2 ⟨List.mem_of_getElem? hk, hu⟩
      have := List.length_pos_of_mem hm
      rw [List.length_cons] at h
      omega
    have hle : (l.filter (·.app)).length ≤ 1 := by
      rw [List.filter_cons] at h
      split at h
      · rw [List.length_cons] at h; omega
      · exact h
    cases i with
    | zero =>
      simp at hi
      subst hi
      cases j with
      | zero => rfl
      | succ j => exact (hno hs j t (by simpa using hj) ht).elim
    | succ i =>
      cases j with
      | zero =>
        simp at hj
        subst hj
        exact (hno ht i s (by simpa using hi) hs).elim
      | succ j => exact congrArg (· + 1) (ih hle (by simpa using hi) (by simpa using hj))
theorem grown_any {w w' : World} {row : Option Nat} (h : w.grownBy w' none) : w.grownBy w' row := ⟨h.os, h.tape, h.output, h.size, fun i hi _ => h.block i hi (by simp)⟩

theorem then_any {P : Program} {ops : Array Oper} {Q : Exit → Act → World → Prop} {a0 : Act} {w0 : World} {row : Option Nat} {l : List Sp} {n : Nat} (hn : a0.tmps.size = n) (hok : thenOk ops l n = true) (hst : AllStbR row l)
    (hsteps : AllR P ops (slT a0) w0 row (spG l) 0 l ops.toList)
    (hlast : ∀ (T : Nat → Value) (w : World) (o : Oper), ops[l.length]? = some o → (∀ t, freeT ops t = true → T t = slT a0 t) → w0.grownBy w row → AllOf (spG l) ops T w (List.range l.length) →
      ∃ v w', ((execOp (evT T) o).run P w = .ok (.value v) w' ∨ (execOp (evT T) o).run P w = .ok .skip w') ∧ Q .normal (putL a0 ops.toList T) w') :
    ∀ (fuel : Nat) (listed : Array Bool) (a : Act) (w : World), InvR l ops a0 w0 row (spG l) n l.length fuel listed a w → wpAny P .any ops Q fuel listed a w := by
  have hsz : ops.size = l.length + 1 := by unfold thenOk at hok; rw [Bool.and_eq_true, Bool.and_eq_true] at hok; simpa using hok.1.1
  have hone : (l.filter (·.app)).length ≤ 1 := by unfold thenOk at hok; rw [Bool.and_eq_true, Bool.and_eq_true] at hok; simpa using hok.1.2
  have hol : ops[l.length]? = some ops[l.length] := Array.getElem?_eq_getElem (by omega)
  have hne : ∀ (fuel : Nat) (listed : Array Bool) (a : Act) (w : World), InvR l ops a0 w0 row (spG l) n l.length fuel listed a w → Region.ready .any ops listed ≠ [] := by
    intro fuel listed a w I hr
    have hall : ∀ i, i < ops.size → listed.getD i false = true := by
      intro i
      induction i using Nat.strongRecOn with
      | _ i ih =>
        intro hi
        rcases hb : listed.getD i false with _ | _
        · exfalso
          have ho : ops[i]? = some ops[i] := Array.getElem?_eq_getElem hi
          have hm : i ∈ Region.ready .any ops listed := mem_ready.2 ⟨by
            have hl : i < listed.size := by rw [I.ls]; exact hi
            simp [hl] at hb ⊢; exact hb, _, ho, fun e he hbd => ih e.on ((then_at hok ho).1 e he hbd) (by have := (then_at hok ho).1 e he hbd; omega)⟩
          rw [hr] at hm
          cases hm
        · rfl
    have := hall l.length (by omega)
    rw [I.last] at this
    cases this
  intro fuel
  induction fuel with
  | zero =>
    intro listed a w I
    exfalso
    have h0 : (List.range ops.size).filter (fun i => !listed.getD i true) = [] := List.eq_nil_of_length_eq_zero (Nat.le_zero.1 I.cnt)
    rw [List.filter_eq_nil_iff] at h0
    have h1 := h0 l.length (List.mem_range.2 (by omega))
    have h2 := I.last
    have hl : l.length < listed.size := by rw [I.ls]; omega
    simp [hl] at h1 h2
    rw [h2] at h1
    cases h1
  | succ fuel ih =>
    intro listed a w I
    refine ⟨fun hr => absurd hr (hne _ _ _ _ I), fun i hi => ?_⟩
    obtain ⟨hun, o, ho, hall⟩ := mem_ready.1 hi
    have hlt : i < ops.size := (Array.getElem?_eq_some_iff.1 ho).1
    obtain ⟨hbefore, hmid, hfin⟩ := then_at hok ho
    by_cases hil : i < l.length
    · obtain ⟨d, s, hd, hdn, hdis, hs, happ⟩ := hmid hil
      obtain ⟨hgd, hstep⟩ := hsteps.at_ hs (i := i) (o := o) (by rw [Array.getElem?_toList]; exact ho)
      rw [Nat.zero_add] at hstep
      have hul : listed.getD i false = false := by
        have hl : i < listed.size := by rw [I.ls]; exact hlt
        simp [hl] at hun ⊢
        exact hun
      have hgo := hstep (slT a) w I.out I.bl (fun ha => I.bl0 fun j t hj ht => by rw [← one_app hone hs hj ha ht]; exact hul) (allOf_mem fun j hj => by
        unfold needs at hj
        obtain ⟨e, he, rfl⟩ := List.mem_map.1 hj
        obtain ⟨he1, he2⟩ := List.mem_filter.1 he
        have := hbefore e (Array.mem_toList_iff.1 he1) he2
        exact I.good _ (by omega) (hall e (Array.mem_toList_iff.1 he1) he2))
      have hnext : ∀ (v : Value) (w' : World), (if s.pure then w' = w else w.grownBy w' (if s.app then row else none)) → spG l i v w' → wpAny P .any ops Q fuel (listed.setIfInBounds i true) (a.put o.dst v) w' := by
        intro v w' hb hg
        have hbr : w.grownBy w' row := by
          split at hb
          · rw [hb]; exact grown_of_below (Below.refl _ _) row
          · split at hb
            · exact hb
            · exact grown_any hb
        apply ih
        have hset : (listed.setIfInBounds i true).getD i true = true := by
          have hl : i < listed.size := by rw [I.ls]; exact hlt
          simp [hl]
        refine ⟨?_, ?_, ?_, I.bl.trans hbr, ?_, by simp [I.ls], ?_, ?_, ?_, ?_⟩
        · rw [hd]; simp [Act.put, I.sz]
        · rw [hd]; exact I.df
        · intro t ht
          have hne : d ≠ t := by
            rintro rfl
            unfold freeT at ht
            have := (Array.all_eq_true.1 ht) i hlt
            rw [Array.getElem?_eq_getElem hlt] at ho
            injection ho with ho
            rw [ho, hd] at this
            simp at this
          rw [hd, slT_put_ne hne]
          exact I.out t ht
        · intro hall0
          have hsa : s.app = false := by
            rcases hsa : s.app with _ | _
            · rfl
            · exfalso
              have := hall0 i s hs hsa
              have hl : i < listed.size := by rw [I.ls]; exact hlt
              simp [hl] at this
          have hold := I.bl0 fun j t hj ht => by
            have := hall0 j t hj ht
            by_cases e : j = i
            · subst e; exact hul
            · rwa [getD_set_ne false (Ne.symm e)] at this
          split at hb
          · rw [hb]; exact hold
          · rw [hsa] at hb; exact hold.trans hb
        · have := cnt_less (p := fun i => !listed.getD i true) (q := fun j => !(listed.setIfInBounds i true).getD j true) hlt (by simp only [Bool.not_eq_true']; exact hun) (by simp only [hset]; rfl) (fun j hj => by simp only [getD_set_ne true (Ne.symm hj)])
          have hc := I.cnt
          omega
        · intro j hjm hj
          by_cases e : j = i
          · subst e
            have : dstN ops j = d := by simp [dstN, ho, hd]
            rw [this, hd, slT_put_same (by rw [I.sz]; exact hdn)]
            exact hg
          · have hj' : listed.getD j false = true := by rw [getD_set_ne false (Ne.symm e)] at hj; exact hj
            have hoj : ops[j]? = some ops[j] := Array.getElem?_eq_getElem (by omega)
            obtain ⟨dj, sj, hdj, _, _, hsj, happj⟩ := (then_at hok hoj).2.1 hjm
            have hned : d ≠ dstN ops j := by
              intro hdj2
              apply hdis j e
              rw [hoj]
              simp [dstN, hoj, hdj] at hdj2
              simp [hdj, hdj2]
            rw [hd, slT_put_ne hned]
            have hG := I.good j hjm hj'
            by_cases hp : s.pure = true
            · rw [if_pos hp] at hb
              rw [hb]; exact hG
            · rw [if_neg hp] at hb
              rw [spG_at hsj] at hG ⊢
              refine hst.at_ hsj ?_ _ _ _ hG hbr
              rcases hap : sj.app with _ | _
              · rfl
              · exfalso
                have := happj hap i s (Ne.symm e) hs (by simpa using hp)
                unfold needs at this
                obtain ⟨e2, he2, he3⟩ := List.mem_map.1 this
                obtain ⟨he4, he5⟩ := List.mem_filter.1 he2
                have := I.closed j _ e2 hoj hj' (Array.mem_toList_iff.1 he4) he5
                rw [he3] at this
                have hl : i < listed.size := by rw [I.ls]; exact hlt
                simp [hl] at hun this
                rw [hun] at this
                cases this
        · intro j oj e hoj hj he hb'
          by_cases eq : j = i
          · subst eq
            rw [ho] at hoj
            injection hoj with hoj
            subst hoj
            exact getD_set_true (hall e he hb')
          · rw [getD_set_ne false (Ne.symm eq)] at hj
            exact getD_set_true (I.closed j oj e hoj hj he hb')
        · rw [getD_set_ne false (by omega : i ≠ l.length)]; exact I.last
      unfold wpOp
      rw [ho]
      have hw : Region.wanted o (yielded ops a.tmps) = true := by unfold Region.wanted; rw [hgd]
      show if Region.wanted o (yielded ops a.tmps) = true then _ else _
      rw [if_pos hw]
      refine .inl ?_
      unfold Oper.wp
      rw [evT_eval]
      rcases hgo with ⟨v, w', e, hb, hg⟩ | ⟨f, args, e, hc⟩
      · rw [e]; exact hnext v w' hb hg
      · rw [e]
        refine Calls.mono hc ?_
        rintro x w' ⟨v, rfl, hb, hg⟩
        exact hnext v w' hb hg
    · obtain ⟨rfl, hgd, hdst, hnd⟩ := hfin hil
      have hlisted : ∀ k, k < l.length → listed.getD k false = true := fun k hk => by
        have := hnd k hk
        unfold needs at this
        obtain ⟨e2, he2, he3⟩ := List.mem_map.1 this
        obtain ⟨he4, he5⟩ := List.mem_filter.1 he2
        have := hall e2 (Array.mem_toList_iff.1 he4) he5
        rwa [he3] at this
      obtain ⟨v, w', hrun, hq⟩ := hlast (slT a) w o ho I.out I.bl (allOf_mem fun j hj => I.good j (List.mem_range.1 hj) (hlisted j (List.mem_range.1 hj)))
      have hr : Region.ready .any ops (listed.setIfInBounds l.length true) = [] := by
        unfold Region.ready
        rw [List.filter_eq_nil_iff]
        intro k hk
        have hk := List.mem_range.1 hk
        have : (listed.setIfInBounds l.length true).getD k true = true := by
          have hls : k < listed.size := by rw [I.ls]; exact hk
          by_cases e : k = l.length
          · subst e; simp [hls]
          · rw [getD_set_ne true (Ne.symm e)]
            have := hlisted k (by omega)
            simp [hls] at this ⊢
            exact this
        rw [this]
        simp
      have ha : a = putL a0 ops.toList (slT a) := putL_eq I.sz hn I.df I.out
      have hend : ∀ fuel, wpAny P .any ops Q fuel (listed.setIfInBounds l.length true) a w' := fun fuel => by
        rw [← ha] at hq
        cases fuel with
        | zero => exact ⟨hr, hq⟩
        | succ f => exact ⟨fun _ => hq, by rw [hr]; intro i hi; cases hi⟩
      unfold wpOp
      rw [ho]
      have hw : Region.wanted o (yielded ops a.tmps) = true := by unfold Region.wanted; rw [hgd]
      show if Region.wanted o (yielded ops a.tmps) = true then _ else _
      rw [if_pos hw]
      refine .inl ?_
      unfold Oper.wp
      rw [evT_eval]
      rcases hrun with hrun | hrun
      · rw [hrun, Oper.upon_value, hdst]; exact hend fuel
      · rw [hrun, Oper.upon_skip, hdst]; exact hend fuel

theorem grownBy_drawn (w : World) (row : Option Nat) : w.grownBy { w with drawn := w.drawn + 1 } row :=
  have h : Below w.heap.size w { w with drawn := w.drawn + 1 } := ⟨rfl, rfl, rfl, Nat.le_refl _, fun _ _ => rfl⟩
  grown_of_below h row

/-- a region that draws its order and stores last, by what each of its operations gives -/
theorem region_then {P : Program} {ops : Array Oper} {Q : Exit → Act → World → Prop} {a0 : Act} {w0 : World} {id : Nat} (l : List Sp) (row : Option Nat) (n : Nat) (hm : P.follows .mixedOrders = true) (hn : a0.tmps.size = n)
    (hok : thenOk ops l n = true) (hst : AllStbR row l) (hsteps : AllR P ops (slT a0) w0 row (spG l) 0 l ops.toList)
    (hlast : ∀ (T : Nat → Value) (w : World) (o : Oper), ops[l.length]? = some o → (∀ t, freeT ops t = true → T t = slT a0 t) → w0.grownBy w row → AllOf (spG l) ops T w (List.range l.length) →
      ∃ v w', ((execOp (evT T) o).run P w = .ok (.value v) w' ∨ (execOp (evT T) o).run P w = .ok .skip w') ∧ Q .normal (putL a0 ops.toList T) w') :
    (Code.region id ops true).wp P Q a0 w0 :=
  wp_region_any hm (then_any hn hok hst hsteps hlast _ _ _ _ ⟨hn, rfl, fun _ _ => rfl, grownBy_drawn w0 row, fun _ => grownBy_drawn w0 none, by simp, by
    have := List.length_filter_le (fun i => !(Array.replicate ops.size false).getD i true) (List.range ops.size)
    simpa using this, fun j _ hj => by
    exfalso
    rcases Nat.lt_or_ge j ops.size with h | h
    · simp [h] at hj
    · simp [Array.getElem?_eq_none, h] at hj, fun j o e _ hj => by
    exfalso
    rcases Nat.lt_or_ge j ops.size with h | h
    · simp [h] at hj
    · simp [Array.getElem?_eq_none, h] at hj, by
    rcases Nat.lt_or_ge l.length ops.size with h | h
    · simp [h]
    · simp [Array.getElem?_eq_none, h]⟩)

end Go.Proofs.Ytnfbhhgdibkbdaa
