/- A region that draws its order, when each of its operations gives what it should whatever came between: one step a operation, no orders. -/
import Derived.Test.YtnfbhhgdibkbdaaP
import Derived.Orders
namespace Go.Proofs.Ytnfbhhgdibkbdaa
set_option linter.unusedSimpArgs false
set_option linter.unusedVariables false
open Go.RowKit

/-- what an operand stands for, the slots by a function -/
def evT (T : Nat → Value) : Operand → Value
  | .tmp t => T t
  | .const v => v
  | .global g => .pointer (some ⟨g, 0, none⟩)
  | .func f => .func (.func f) #[] #[]
def yldT (ops : Array Oper) (T : Nat → Value) (j : Nat) : Option Bool :=
  match ((ops[j]?).bind (·.dst)).map T with
  | some (.bool b) => some b
  | _ => none
/-- the operation gives a value for which R holds in the world behind it -/
def GivesTo (P : Program) (T : Nat → Value) (o : Oper) (w : World) (R : Value → World → Prop) : Prop :=
  (∃ v w', (execOp (evT T) o).run P w = .ok (.value v) w' ∧ Below w.heap.size w w' ∧ R v w') ∨
  (∃ f args, (execOp (evT T) o).run P w = .ok (.enter f args) w ∧ Calls P f args w fun e w' => ∃ v, e = .returned v ∧ Below w.heap.size w w' ∧ R v w')
def needs (o : Oper) : List Nat := (o.after.toList.filter (Region.binds .any)).map (·.on)
def dstN (ops : Array Oper) (j : Nat) : Nat := ((ops[j]?).bind (·.dst)).getD 0
def AllOf (G : Nat → Value → World → Prop) (ops : Array Oper) (T : Nat → Value) (w : World) : List Nat → Prop
  | [] => True
  | j :: l => G j (T (dstN ops j)) w ∧ AllOf G ops T w l
/-- no operation of the region writes the slot -/
def freeT (ops : Array Oper) (t : Nat) : Bool := ops.all fun o => o.dst != some t
def StepOk (P : Program) (ops : Array Oper) (T0 : Nat → Value) (w0 : World) (G : Nat → Value → World → Prop) (i : Nat) (o : Oper) : Prop :=
  ∀ (T : Nat → Value) (w : World), (∀ t, freeT ops t = true → T t = T0 t) → Below w0.heap.size w0 w → AllOf G ops T w (needs o) →
    if Region.wanted o (yldT ops T) then GivesTo P T o w (G i) else G i undef w
def AllSteps (P : Program) (ops : Array Oper) (T0 : Nat → Value) (w0 : World) (G : Nat → Value → World → Prop) : Nat → List Oper → Prop
  | _, [] => True
  | i, o :: l => StepOk P ops T0 w0 G i o ∧ AllSteps P ops T0 w0 G (i + 1) l
/-- each waits for earlier ones alone; each has a slot of its own -/
def regionOk (ops : Array Oper) (n : Nat) : Bool :=
  (List.range ops.size).all fun i => match ops[i]? with
    | none => true
    | some o => o.after.all (fun e => !Region.binds .any e || decide (e.on < i)) &&
      (match o.dst with
       | none => false
       | some d => decide (d < n) && (List.range ops.size).all fun j => j == i || (ops[j]?).bind (·.dst) != some d)

theorem AllSteps.at_ {P : Program} {ops : Array Oper} {T0 : Nat → Value} {w0 : World} {G : Nat → Value → World → Prop} : ∀ {l : List Oper} {k : Nat}, AllSteps P ops T0 w0 G k l → ∀ {i : Nat} {o : Oper}, l[i]? = some o → StepOk P ops T0 w0 G (k + i) o
  | [], _, _, _, _, h => by simp at h
  | x :: l, k, h, 0, o, hi => by simp at hi; subst hi; exact h.1
  | x :: l, k, h, i + 1, o, hi => by
    have := AllSteps.at_ (l := l) h.2 (i := i) (o := o) (by simpa using hi)
    rwa [show k + (i + 1) = k + 1 + i by omega]
theorem allOf_mem {G : Nat → Value → World → Prop} {ops : Array Oper} {T : Nat → Value} {w : World} : ∀ {l : List Nat}, (∀ j, j ∈ l → G j (T (dstN ops j)) w) → AllOf G ops T w l
  | [], _ => trivial
  | j :: l, h => ⟨h j (by simp), allOf_mem fun j hj => h j (by simp [hj])⟩

/-- the slots of a frame, as a function -/
def slT (a : Act) (t : Nat) : Value := a.tmps.getD t undef
theorem evT_eval (a : Act) : a.eval = evT (slT a) := funext fun x => by cases x <;> rfl
def listT (T : Nat → Value) (n : Nat) : Array Value := ((List.range n).map T).toArray
theorem listT_sl (a : Act) {n : Nat} (h : a.tmps.size = n) : listT (slT a) n = a.tmps := by
  subst h
  apply Array.ext
  · simp [listT]
  · intro i h1 h2
    simp [listT, slT, h2]

structure Inv (ops : Array Oper) (a0 : Act) (w0 : World) (G : Nat → Value → World → Prop) (n : Nat) (fuel : Nat) (listed : Array Bool) (a : Act) (w : World) : Prop where
  sz : a.tmps.size = n
  df : a.defers = a0.defers
  out : ∀ t, freeT ops t = true → slT a t = slT a0 t
  bl : Below w0.heap.size w0 w
  ls : listed.size = ops.size
  cnt : ((List.range ops.size).filter fun i => !listed.getD i true).length ≤ fuel
  good : ∀ j, listed.getD j false = true → G j (slT a (dstN ops j)) w

theorem ok_at {ops : Array Oper} {n i : Nat} {o : Oper} (h : regionOk ops n = true) (hi : ops[i]? = some o) :
    (∀ e, e ∈ o.after → Region.binds .any e = true → e.on < i) ∧ ∃ d, o.dst = some d ∧ d < n ∧ ∀ j, j ≠ i → (ops[j]?).bind (·.dst) ≠ some d := by
  have hlt : i < ops.size := (Array.getElem?_eq_some_iff.1 hi).1
  unfold regionOk at h
  rw [List.all_eq_true] at h
  have h := h i (List.mem_range.2 hlt)
  rw [hi] at h
  simp only [Bool.and_eq_true] at h
  refine ⟨fun e he hb => ?_, ?_⟩
  · obtain ⟨k, hk, rfl⟩ := Array.mem_iff_getElem.1 he
    have := (Array.all_eq_true.1 h.1) k hk
    rw [hb] at this
    simpa using this
  · obtain ⟨_, h2⟩ := h
    cases hd : o.dst with
    | none => rw [hd] at h2; simp at h2
    | some d =>
      rw [hd] at h2
      simp only [Bool.and_eq_true, decide_eq_true_eq, List.all_eq_true, List.mem_range] at h2
      refine ⟨d, rfl, h2.1, fun j hj hjd => ?_⟩
      have hjl : j < ops.size := by
        cases hj' : ops[j]? with
        | none => rw [hj'] at hjd; simp at hjd
        | some x => exact (Array.getElem?_eq_some_iff.1 hj').1
      have := h2.2 j hjl
      simp [hj, hjd] at this

theorem slT_put_same {a : Act} {d : Nat} {v : Value} (h : d < a.tmps.size) : slT (a.put (some d) v) d = v := by
  simp [slT, Act.put, h]
theorem slT_put_ne {a : Act} {d t : Nat} {v : Value} (h : d ≠ t) : slT (a.put (some d) v) t = slT a t := by
  simp [slT, Act.put, Array.getElem?_setIfInBounds_ne h]

theorem yld_eq {ops : Array Oper} {n : Nat} (hok : regionOk ops n = true) {a : Act} (h : a.tmps.size = n) : yielded ops a.tmps = yldT ops (slT a) := by
  funext j
  unfold yielded yldT
  cases hj : ops[j]? with
  | none => rfl
  | some o =>
    obtain ⟨_, d, hd, hdn, _⟩ := ok_at hok hj
    have hlt : d < a.tmps.size := by rw [h]; exact hdn
    have e : a.tmps[d]? = some (slT a d) := by simp [slT, hlt]
    simp only [Option.bind_some, hd, Option.map_some, e]
    rfl

theorem cnt_less {n i : Nat} {p q : Nat → Bool} (hi : i < n) (hp : p i = true) (hq : q i = false) (h : ∀ j, j ≠ i → q j = p j) :
    ((List.range n).filter q).length < ((List.range n).filter p).length := by
  induction n with
  | zero => omega
  | succ n ih =>
    rw [List.range_succ, List.filter_append, List.filter_append, List.length_append, List.length_append]
    by_cases e : i = n
    · subst e
      have : (List.range i).filter q = (List.range i).filter p := List.filter_congr fun j hj => h j (by have := List.mem_range.1 hj; omega)
      rw [this]
      simp [hp, hq]
    · have := ih (by omega)
      have e2 : [n].filter q = [n].filter p := by simp [List.filter_cons, h n (Ne.symm e)]
      rw [e2]
      omega

theorem any_of_inv {P : Program} {ops : Array Oper} {Q : Exit → Act → World → Prop} {a0 : Act} {w0 : World} {G : Nat → Value → World → Prop} {n : Nat}
    (hok : regionOk ops n = true) (hst : ∀ i v w w', G i v w → Below w.heap.size w w' → G i v w')
    (hsteps : AllSteps P ops (slT a0) w0 G 0 ops.toList)
    (hend : ∀ (T : Nat → Value) (w : World), (∀ t, freeT ops t = true → T t = slT a0 t) → Below w0.heap.size w0 w → AllOf G ops T w (List.range ops.size) → Q .normal ⟨listT T n, a0.defers⟩ w) :
    ∀ (fuel : Nat) (listed : Array Bool) (a : Act) (w : World), Inv ops a0 w0 G n fuel listed a w → wpAny P .any ops Q fuel listed a w := by
  have hdone : ∀ (fuel : Nat) (listed : Array Bool) (a : Act) (w : World), Inv ops a0 w0 G n fuel listed a w → Region.ready .any ops listed = [] → Q .normal a w := by
    intro fuel listed a w I hr
    have hall : ∀ i, i < ops.size → listed.getD i false = true := by
      intro i
      induction i using Nat.strongRecOn with
      | _ i ih =>
        intro hi
        rcases hb : listed.getD i false with _ | _
        · exfalso
          have ho : ops[i]? = some ops[i] := Array.getElem?_eq_getElem hi
          have hm : i ∈ Region.ready .any ops listed := mem_ready.2 ⟨by
            have hl : i < listed.size := by rw [I.ls]; exact hi
            simp [hl] at hb ⊢; exact hb, _, ho, fun e he hbd => ih e.on ((ok_at hok ho).1 e he hbd) (by have := (ok_at hok ho).1 e he hbd; omega)⟩
          rw [hr] at hm
          cases hm
        · rfl
    have ha : a = ⟨listT (slT a) n, a0.defers⟩ := by
      rw [listT_sl a I.sz, ← I.df]
    rw [ha]
    exact hend (slT a) w I.out I.bl (allOf_mem fun j hj => I.good j (hall j (List.mem_range.1 hj)))
  intro fuel
  induction fuel with
  | zero =>
    intro listed a w I
    have hr : Region.ready .any ops listed = [] := by
      have h0 : (List.range ops.size).filter (fun i => !listed.getD i true) = [] := List.eq_nil_of_length_eq_zero (Nat.le_zero.1 I.cnt)
      unfold Region.ready
      rw [List.filter_eq_nil_iff] at h0 ⊢
      intro i hi
      have := h0 i hi
      simp at this ⊢
      intro h; rw [this] at h; cases h
    exact ⟨hr, hdone _ _ _ _ I hr⟩
  | succ fuel ih =>
    intro listed a w I
    refine ⟨hdone _ _ _ _ I, fun i hi => ?_⟩
    obtain ⟨hun, o, ho, hall⟩ := mem_ready.1 hi
    have hlt : i < ops.size := (Array.getElem?_eq_some_iff.1 ho).1
    obtain ⟨hbefore, d, hd, hdn, hdis⟩ := ok_at hok ho
    have hstep : StepOk P ops (slT a0) w0 G i o := by
      have := hsteps.at_ (i := i) (o := o) (by rw [Array.getElem?_toList]; exact ho)
      rwa [Nat.zero_add] at this
    have hgo := hstep (slT a) w I.out I.bl (allOf_mem fun j hj => by
      unfold needs at hj
      obtain ⟨e, he, rfl⟩ := List.mem_map.1 hj
      obtain ⟨he1, he2⟩ := List.mem_filter.1 he
      exact I.good _ (hall e (Array.mem_toList_iff.1 he1) he2))
    -- what comes of it
    have hnext : ∀ (v : Value) (w' : World), Below w.heap.size w w' → G i v w' → wpAny P .any ops Q fuel (listed.setIfInBounds i true) (a.put o.dst v) w' := by
      intro v w' hb hg
      apply ih
      have hset : (listed.setIfInBounds i true).getD i true = true := by
        have hl : i < listed.size := by rw [I.ls]; exact hlt
        simp [hl]
      refine ⟨?_, ?_, ?_, I.bl.trans (hb.mono I.bl.size), by simp [I.ls], ?_, ?_⟩
      · rw [hd]; simp [Act.put, I.sz]
      · rw [hd]; exact I.df
      · intro t ht
        have hne : d ≠ t := by
          rintro rfl
          unfold freeT at ht
          have := (Array.all_eq_true.1 ht) i hlt
          rw [Array.getElem?_eq_getElem hlt] at ho
          injection ho with ho
          rw [ho, hd] at this
          simp at this
        rw [hd, slT_put_ne hne]
        exact I.out t ht
      · have := cnt_less (p := fun i => !listed.getD i true) (q := fun j => !(listed.setIfInBounds i true).getD j true) hlt (by simp only [Bool.not_eq_true']; exact hun) (by simp only [hset]; rfl) (fun j hj => by simp only [getD_set_ne true (Ne.symm hj)])
        have hc := I.cnt
        omega
      · intro j hj
        by_cases e : j = i
        · subst e
          have : dstN ops j = d := by simp [dstN, ho, hd]
          rw [this, hd, slT_put_same (by rw [I.sz]; exact hdn)]
          exact hg
        · have hj' : listed.getD j false = true := by rw [getD_set_ne false (Ne.symm e)] at hj; exact hj
          have hne : d ≠ dstN ops j := by
            intro hdj
            cases hoj : ops[j]? with
            | none =>
              have hl : j < listed.size := by
                rcases Nat.lt_or_ge j listed.size with h | h
                · exact h
                · simp [Array.getElem?_eq_none h] at hj'
              rw [I.ls] at hl
              rw [Array.getElem?_eq_getElem hl] at hoj
              cases hoj
            | some oj =>
              obtain ⟨_, dj, hdj', _, _⟩ := ok_at hok hoj
              apply hdis j e
              rw [hoj]
              simp [dstN, hoj, hdj'] at hdj
              simp [hdj', hdj]
          rw [hd, slT_put_ne hne]
          exact hst _ _ _ _ (I.good j hj') hb
    unfold wpOp
    rw [ho]
    rw [yld_eq hok I.sz]
    show if Region.wanted o (yldT ops (slT a)) = true then _ else _
    split at hgo
    · rename_i hw
      rw [if_pos hw]
      refine .inl ?_
      unfold Oper.wp
      rw [evT_eval]
      rcases hgo with ⟨v, w', e, hb, hg⟩ | ⟨f, args, e, hc⟩
      · rw [e]; exact hnext v w' hb hg
      · rw [e]
        refine Calls.mono hc ?_
        rintro x w' ⟨v, rfl, hb, hg⟩
        exact hnext v w' hb hg
    · rename_i hw
      rw [if_neg hw]
      exact hnext undef w (Below.refl _ _) hgo

/-- a region that draws its order, by what each of its operations gives -/
theorem region_good {P : Program} {ops : Array Oper} {Q : Exit → Act → World → Prop} {a0 : Act} {w0 : World} {id : Nat} (G : Nat → Value → World → Prop) (n : Nat) (hm : P.follows .mixedOrders = true) (hn : a0.tmps.size = n)
    (hok : regionOk ops n = true) (hst : ∀ i v w w', G i v w → Below w.heap.size w w' → G i v w')
    (hsteps : AllSteps P ops (slT a0) w0 G 0 ops.toList)
    (hend : ∀ (T : Nat → Value) (w : World), (∀ t, freeT ops t = true → T t = slT a0 t) → Below w0.heap.size w0 w → AllOf G ops T w (List.range ops.size) → Q .normal ⟨listT T n, a0.defers⟩ w) :
    (Code.region id ops true).wp P Q a0 w0 :=
  wp_region_any hm (any_of_inv hok hst hsteps hend _ _ _ _ ⟨hn, rfl, fun _ _ => rfl, ⟨rfl, rfl, rfl, Nat.le_refl _, fun _ _ => rfl⟩, by simp, by
    have := List.length_filter_le (fun i => !(Array.replicate ops.size false).getD i true) (List.range ops.size)
    simpa using this, fun j hj => by
    exfalso
    rcases Nat.lt_or_ge j ops.size with h | h
    · simp [h] at hj
    · simp [Array.getElem?_eq_none, h] at hj⟩)

end Go.Proofs.Ytnfbhhgdibkbdaa
