/- A region that draws its order, with calls that write, one behind the other: each call finds what the one ahead of it left. -/
import Derived.Test.YtnfbhhgdibkbdaaG2
import Derived.Test.YtnfbhhgdibkbdaaG3
namespace Go.Proofs.Ytnfbhhgdibkbdaa
section
set_option linter.unusedSimpArgs false
set_option linter.unusedVariables false
open Go.RowKit

def AllG (G : Nat → Value → Prop) (ops : Array Oper) (T : Nat → Value) : List Nat → Prop
  | [] => True
  | j :: l => G j (T (dstN ops j)) ∧ AllG G ops T l
theorem allG_mem {G : Nat → Value → Prop} {ops : Array Oper} {T : Nat → Value} : ∀ {l : List Nat}, (∀ j, j ∈ l → G j (T (dstN ops j))) → AllG G ops T l
  | [], _ => trivial
  | j :: l, h => ⟨h j (by simp), allG_mem fun j hj => h j (by simp [hj])⟩
/-- operation i waits for j, by these steps -/
def pathB (ops : Array Oper) : List Nat → Bool
  | [] => true
  | [_] => true
  | i :: j :: l => (match ops[i]? with | none => false | some o => o.after.any fun e => Region.binds .any e && e.on == j) && pathB ops (j :: l)
def ClosedL (ops : Array Oper) (listed : Array Bool) : Prop := ∀ i o, ops[i]? = some o → listed.getD i false = true → ∀ e, e ∈ o.after → Region.binds .any e = true → listed.getD e.on false = true
theorem path_step {ops : Array Oper} {i j : Nat} {l : List Nat} (h : pathB ops (i :: j :: l) = true) : ∃ o e, ops[i]? = some o ∧ e ∈ o.after ∧ Region.binds .any e = true ∧ e.on = j ∧ pathB ops (j :: l) = true := by
  unfold pathB at h
  rw [Bool.and_eq_true] at h
  obtain ⟨h1, h2⟩ := h
  cases ho : ops[i]? with
  | none => rw [ho] at h1; cases h1
  | some o =>
    rw [ho] at h1
    simp only [Array.any_eq_true] at h1
    obtain ⟨k, hk, hb⟩ := h1
    rw [Bool.and_eq_true] at hb
    exact ⟨o, o.after[k], rfl, Array.getElem_mem hk, hb.1, by simpa using hb.2, h2⟩
theorem path_listed {ops : Array Oper} {listed : Array Bool} (hc : ClosedL ops listed) : ∀ {l : List Nat} {i : Nat}, pathB ops (i :: l) = true → listed.getD i false = true → ∀ j, j ∈ i :: l → listed.getD j false = true
  | [], i, _, hi, j, hj => by simp at hj; subst hj; exact hi
  | k :: l, i, h, hi, j, hj => by
    obtain ⟨o, e, ho, he, hb, rfl, h2⟩ := path_step h
    rcases List.mem_cons.1 hj with rfl | hj
    · exact hi
    · exact path_listed hc h2 (hc i o ho hi e he hb) j hj

/-- the calls that write: how many, which, of an operation which call it is -/
structure Calls4 (ops : Array Oper) (m : Nat) (c : Nat → Nat) (cl : Nat → Option Nat) : Prop where
  a : ∀ i t, cl i = some t → t < m ∧ c t = i
  b : ∀ t, t < m → cl (c t) = some t
  p : ∀ t, t + 1 < m → ∃ l, pathB ops (c (t + 1) :: l) = true ∧ l ≠ [] ∧ (c (t + 1) :: l).getLast? = some (c t)
def StepS (P : Program) (ops : Array Oper) (T0 : Nat → Value) (m : Nat) (cl : Nat → Option Nat) (G : Nat → Value → Prop) (W : Nat → World → Prop) (i : Nat) (o : Oper) : Prop :=
  ∀ (T : Nat → Value) (w : World), (∀ t, freeT ops t = true → T t = T0 t) → AllG G ops T (needs o) →
    match cl i with
    | none => ∀ s, s ≤ m → W s w → if Region.wanted o (yldT ops T) then ∃ v, (execOp (evT T) o).run P w = .ok (.value v) w ∧ G i v else G i undef
    | some t => W t w → if Region.wanted o (yldT ops T) then ∃ f args, (execOp (evT T) o).run P w = .ok (.enter f args) w ∧ Calls P f args w (fun e w' => ∃ v, e = .returned v ∧ G i v ∧ W (t + 1) w') else G i undef ∧ W (t + 1) w
def AllStepsS (P : Program) (ops : Array Oper) (T0 : Nat → Value) (m : Nat) (cl : Nat → Option Nat) (G : Nat → Value → Prop) (W : Nat → World → Prop) : Nat → List Oper → Prop
  | _, [] => True
  | i, o :: l => StepS P ops T0 m cl G W i o ∧ AllStepsS P ops T0 m cl G W (i + 1) l
theorem AllStepsS.at_ {P : Program} {ops : Array Oper} {T0 : Nat → Value} {m : Nat} {cl : Nat → Option Nat} {G : Nat → Value → Prop} {W : Nat → World → Prop} : ∀ {l : List Oper} {k : Nat}, AllStepsS P ops T0 m cl G W k l → ∀ {i : Nat} {o : Oper}, l[i]? = some o → StepS P ops T0 m cl G W (k + i) o
  | [], _, _, _, _, h => by simp at h
  | x :: l, k, h, 0, o, hi => by simp at hi; subst hi; exact h.1
  | x :: l, k, h, i + 1, o, hi => by
    have := AllStepsS.at_ (l := l) h.2 (i := i) (o := o) (by simpa using hi)
    rwa [show k + (i + 1) = k + 1 + i by omega]

structure InvS (ops : Array Oper) (a0 : Act) (m : Nat) (c : Nat → Nat) (G : Nat → Value → Prop) (W : Nat → World → Prop) (n : Nat) (fuel : Nat) (listed : Array Bool) (a : Act) (w : World) : Prop where
  sz : a.tmps.size = n
  df : a.defers = a0.defers
  out : ∀ t, freeT ops t = true → slT a t = slT a0 t
  ls : listed.size = ops.size
  cnt : ((List.range ops.size).filter fun i => !listed.getD i true).length ≤ fuel
  good : ∀ j, listed.getD j false = true → G j (slT a (dstN ops j))
  clos : ClosedL ops listed
  st : ∃ s, s ≤ m ∧ W s w ∧ (∀ t, t < s → listed.getD (c t) false = true) ∧ ∀ t, s ≤ t → t < m → listed.getD (c t) false = false

theorem last_mem {l : List Nat} {x i : Nat} (h : (i :: l).getLast? = some x) (hn : l ≠ []) : x ∈ l := by
  cases l with
  | nil => exact absurd rfl hn
  | cons y l =>
    rw [List.getLast?_cons_cons] at h
    exact List.mem_of_getLast? h

theorem any_of_invS {P : Program} {ops : Array Oper} {Q : Exit → Act → World → Prop} {a0 : Act} {m : Nat} {c : Nat → Nat} {cl : Nat → Option Nat} {G : Nat → Value → Prop} {W : Nat → World → Prop} {n : Nat}
    (hn : a0.tmps.size = n) (hok : regionOk ops n = true) (hC : Calls4 ops m c cl) (hcs : ∀ t, t < m → c t < ops.size)
    (hsteps : AllStepsS P ops (slT a0) m cl G W 0 ops.toList)
    (hend : ∀ (T : Nat → Value) (w : World), (∀ t, freeT ops t = true → T t = slT a0 t) → W m w → AllG G ops T (List.range ops.size) → Q .normal (putL a0 ops.toList T) w) :
    ∀ (fuel : Nat) (listed : Array Bool) (a : Act) (w : World), InvS ops a0 m c G W n fuel listed a w → wpAny P .any ops Q fuel listed a w := by
  have hdone : ∀ (fuel : Nat) (listed : Array Bool) (a : Act) (w : World), InvS ops a0 m c G W n fuel listed a w → Region.ready .any ops listed = [] → Q .normal a w := by
    intro fuel listed a w I hr
    have hall : ∀ i, i < ops.size → listed.getD i false = true := by
      intro i
      induction i using Nat.strongRecOn with
      | _ i ih =>
        intro hi
        rcases hb : listed.getD i false with _ | _
        · exfalso
          have ho : ops[i]? = some ops[i] := Array.getElem?_eq_getElem hi
          have hm : i ∈ Region.ready .any ops listed := mem_ready.2 ⟨by
            have hl : i < listed.size := by rw [I.ls]; exact hi
            simp [hl] at hb ⊢; exact hb, _, ho, fun e he hbd => ih e.on ((ok_at hok ho).1 e he hbd) (by have := (ok_at hok ho).1 e he hbd; omega)⟩
          rw [hr] at hm
          cases hm
        · rfl
    have ha : a = putL a0 ops.toList (slT a) := putL_eq I.sz hn I.df I.out
    obtain ⟨s, h1, h2, h3, h4⟩ := I.st
    have hs : s = m := by
      rcases Nat.lt_or_ge s m with h | h
      · have := h4 s (Nat.le_refl _) h
        rw [hall (c s) (hcs s h)] at this
        cases this
      · omega
    subst hs
    rw [ha]
    exact hend (slT a) w I.out h2 (allG_mem fun j hj => I.good j (hall j (List.mem_range.1 hj)))
  intro fuel
  induction fuel with
  | zero =>
    intro listed a w I
    have hr : Region.ready .any ops listed = [] := by
      have h0 : (List.range ops.size).filter (fun i => !listed.getD i true) = [] := List.eq_nil_of_length_eq_zero (Nat.le_zero.1 I.cnt)
      unfold Region.ready
      rw [List.filter_eq_nil_iff] at h0 ⊢
      intro i hi
      have := h0 i hi
      simp at this ⊢
      intro h; rw [this] at h; cases h
    exact ⟨hr, hdone _ _ _ _ I hr⟩
  | succ fuel ih =>
    intro listed a w I
    refine ⟨hdone _ _ _ _ I, fun i hi => ?_⟩
    obtain ⟨hun, o, ho, hall⟩ := mem_ready.1 hi
    have hlt : i < ops.size := (Array.getElem?_eq_some_iff.1 ho).1
    obtain ⟨hbefore, d, hd, hdn, hdis⟩ := ok_at hok ho
    have hunf : listed.getD i false = false := by
      have hl : i < listed.size := by rw [I.ls]; exact hlt
      simp [hl] at hun ⊢
      exact hun
    have hstep : StepS P ops (slT a0) m cl G W i o := by
      have := hsteps.at_ (i := i) (o := o) (by rw [Array.getElem?_toList]; exact ho)
      rwa [Nat.zero_add] at this
    have hgo := hstep (slT a) w I.out (allG_mem fun j hj => by
      unfold needs at hj
      obtain ⟨e, he, rfl⟩ := List.mem_map.1 hj
      obtain ⟨he1, he2⟩ := List.mem_filter.1 he
      exact I.good _ (hall e (Array.mem_toList_iff.1 he1) he2))
    have hset : (listed.setIfInBounds i true).getD i true = true := by
      have hl : i < listed.size := by rw [I.ls]; exact hlt
      simp [hl]
    have hsetf : (listed.setIfInBounds i true).getD i false = true := by
      have hl : i < listed.size := by rw [I.ls]; exact hlt
      simp [hl]
    -- what comes of it
    have hnext : ∀ (v : Value) (w' : World), G i v → (∃ s, s ≤ m ∧ W s w' ∧ (∀ t, t < s → (listed.setIfInBounds i true).getD (c t) false = true) ∧ ∀ t, s ≤ t → t < m → (listed.setIfInBounds i true).getD (c t) false = false) → wpAny P .any ops Q fuel (listed.setIfInBounds i true) (a.put o.dst v) w' := by
      intro v w' hg hst'
      apply ih
      refine ⟨?_, ?_, ?_, by simp [I.ls], ?_, ?_, ?_, hst'⟩
      · rw [hd]; simp [Act.put, I.sz]
      · rw [hd]; exact I.df
      · intro t ht
        have hne : d ≠ t := by
          rintro rfl
          unfold freeT at ht
          have := (Array.all_eq_true.1 ht) i hlt
          rw [Array.getElem?_eq_getElem hlt] at ho
          injection ho with ho
          rw [ho, hd] at this
          simp at this
        rw [hd, slT_put_ne hne]
        exact I.out t ht
      · have := cnt_less (p := fun i => !listed.getD i true) (q := fun j => !(listed.setIfInBounds i true).getD j true) hlt (by simp only [Bool.not_eq_true']; exact hun) (by simp only [hset]; rfl) (fun j hj => by simp only [getD_set_ne true (Ne.symm hj)])
        have hc := I.cnt
        omega
      · intro j hj
        by_cases e : j = i
        · subst e
          have : dstN ops j = d := by simp [dstN, ho, hd]
          rw [this, hd, slT_put_same (by rw [I.sz]; exact hdn)]
          exact hg
        · have hj' : listed.getD j false = true := by rw [getD_set_ne false (Ne.symm e)] at hj; exact hj
          have hne : d ≠ dstN ops j := by
            intro hdj
            cases hoj : ops[j]? with
            | none =>
              have hl : j < listed.size := by
                rcases Nat.lt_or_ge j listed.size with h | h
                · exact h
                · simp [Array.getElem?_eq_none h] at hj'
              rw [I.ls] at hl
              rw [Array.getElem?_eq_getElem hl] at hoj
              cases hoj
            | some oj =>
              obtain ⟨_, dj, hdj', _, _⟩ := ok_at hok hoj
              apply hdis j e
              rw [hoj]
              simp [dstN, hoj, hdj'] at hdj
              simp [hdj', hdj]
          rw [hd, slT_put_ne hne]
          exact I.good j hj'
      · intro j oj hoj hj e he hb
        by_cases e1 : e.on = i
        · rw [e1]; exact hsetf
        · rw [getD_set_ne false (Ne.symm e1)]
          by_cases e2 : j = i
          · subst e2
            rw [ho] at hoj
            injection hoj with hoj
            subst hoj
            exact hall e he hb
          · rw [getD_set_ne false (Ne.symm e2)] at hj
            exact I.clos j oj hoj hj e he hb
    obtain ⟨s, hs1, hs2, hs3, hs4⟩ := I.st
    -- the stage is as it was, if it is no call; the next one, if it is
    have hsame : cl i = none → (∃ s, s ≤ m ∧ W s w ∧ (∀ t, t < s → (listed.setIfInBounds i true).getD (c t) false = true) ∧ ∀ t, s ≤ t → t < m → (listed.setIfInBounds i true).getD (c t) false = false) := by
      intro hn
      have hne : ∀ t, t < m → c t ≠ i := fun t ht e => by
        have := hC.b t ht
        rw [e, hn] at this
        cases this
      exact ⟨s, hs1, hs2, fun t ht => by rw [getD_set_ne false (Ne.symm (hne t (by omega)))]; exact hs3 t ht, fun t h1 h2 => by rw [getD_set_ne false (Ne.symm (hne t h2))]; exact hs4 t h1 h2⟩
    have hup : ∀ t, cl i = some t → t = s ∧ ∀ w', W (t + 1) w' → (∃ s, s ≤ m ∧ W s w' ∧ (∀ t, t < s → (listed.setIfInBounds i true).getD (c t) false = true) ∧ ∀ t, s ≤ t → t < m → (listed.setIfInBounds i true).getD (c t) false = false) := by
      intro t ht
      obtain ⟨htm, hci⟩ := hC.a i t ht
      have h1 : ¬ t < s := fun h => by
        have := hs3 t h
        rw [hci, hunf] at this
        cases this
      have hback : ∀ u, s ≤ u → u + 1 < m → listed.getD (c (u + 1)) false = true → False := by
        intro u hu1 hu2 hl
        obtain ⟨l, hp, hn, hla⟩ := hC.p u hu2
        have := path_listed I.clos hp hl (c u) (List.mem_cons_of_mem _ (last_mem hla hn))
        rw [hs4 u hu1 (by omega)] at this
        cases this
      have h2 : ¬ s < t := fun h => by
        obtain ⟨u, rfl⟩ : ∃ u, t = u + 1 := ⟨t - 1, by omega⟩
        obtain ⟨l, hp, hn, hla⟩ := hC.p u htm
        cases l with
        | nil => exact hn rfl
        | cons j l =>
          obtain ⟨o', e, ho', he, hb, rfl, hp2⟩ := path_step hp
          rw [hci, ho] at ho'
          injection ho' with ho'
          subst ho'
          have hl := hall e he hb
          have hm := last_mem hla hn
          have := path_listed I.clos hp2 hl (c u) hm
          rw [hs4 u (by omega) (by omega)] at this
          cases this
      have hts : t = s := by omega
      refine ⟨hts, fun w' hw' => ⟨t + 1, by omega, hw', fun u hu => ?_, fun u h1 h2 => ?_⟩⟩
      · by_cases e : c u = i
        · rw [e]; exact hsetf
        · rw [getD_set_ne false (Ne.symm e)]
          refine hs3 u ?_
          rcases Nat.lt_or_ge u s with h | h
          · exact h
          · have : u = t := by omega
            subst this
            exact absurd hci e
      · have e : c u ≠ i := fun e => by
          have := hC.b u h2
          rw [e, ht] at this
          injection this with this
          omega
        rw [getD_set_ne false (Ne.symm e)]
        exact hs4 u (by omega) h2
    unfold wpOp
    rw [ho]
    rw [yld_eq hok I.sz]
    show if Region.wanted o (yldT ops (slT a)) = true then _ else _
    cases hcl : cl i with
    | none =>
      rw [hcl] at hgo
      have hgo := hgo s hs1 hs2
      split at hgo
      · rename_i hw
        rw [if_pos hw]
        refine .inl ?_
        unfold Oper.wp
        rw [evT_eval]
        obtain ⟨v, e, hg⟩ := hgo
        rw [e]
        exact hnext v w hg (hsame hcl)
      · rename_i hw
        rw [if_neg hw]
        exact hnext undef w hgo (hsame hcl)
    | some t =>
      rw [hcl] at hgo
      obtain ⟨rfl, hw'⟩ := hup t hcl
      have hgo := hgo hs2
      split at hgo
      · rename_i hw
        rw [if_pos hw]
        refine .inl ?_
        unfold Oper.wp
        rw [evT_eval]
        obtain ⟨f, args, e, hc⟩ := hgo
        rw [e]
        refine Calls.mono hc ?_
        rintro x w' ⟨v, rfl, hg, hW⟩
        exact hnext v w' hg (hw' w' hW)
      · rename_i hw
        rw [if_neg hw]
        exact hnext undef w hgo.1 (hw' w hgo.2)

/-- a region that draws its order, its writing calls one behind the other -/
theorem region_stagedP {P : Program} {ops : Array Oper} {Q : Exit → Act → World → Prop} {a0 : Act} {w0 : World} {id : Nat} (m : Nat) (c : Nat → Nat) (cl : Nat → Option Nat) (G : Nat → Value → Prop) (W : Nat → World → Prop) (n : Nat) (hm : P.follows .mixedOrders = true) (hn : a0.tmps.size = n)
    (hok : regionOk ops n = true) (hC : Calls4 ops m c cl) (hcs : ∀ t, t < m → c t < ops.size) (h0 : W 0 w0.drew)
    (hsteps : AllStepsS P ops (slT a0) m cl G W 0 ops.toList)
    (hend : ∀ (T : Nat → Value) (w : World), (∀ t, freeT ops t = true → T t = slT a0 t) → W m w → AllG G ops T (List.range ops.size) → Q .normal (putL a0 ops.toList T) w) :
    (Code.region id ops true).wp P Q a0 w0 := by
  have hnot : ∀ j, (Array.replicate ops.size false).getD j false = false := fun j => by
    rcases Nat.lt_or_ge j ops.size with h | h
    · simp [h]
    · simp [Array.getElem?_eq_none, h]
  refine wp_region_any hm (any_of_invS hn hok hC hcs hsteps hend _ _ _ _ ⟨hn, rfl, fun _ _ => rfl, by simp, ?_, fun j hj => ?_, fun i o _ hi => ?_, 0, Nat.zero_le _, h0, fun t ht => absurd ht (Nat.not_lt_zero _), fun t _ _ => hnot _⟩)
  · have := List.length_filter_le (fun i => !(Array.replicate ops.size false).getD i true) (List.range ops.size)
    simpa using this
  · rw [hnot] at hj; cases hj
  · rw [hnot] at hi; cases hi
end
def GPL : List (Value → Prop) → Nat → Value → Prop
  | [], _ => fun _ => True
  | p :: _, 0 => p
  | _ :: l, i + 1 => GPL l i
def isV (x : Value) : Value → Prop := fun v => v = x
section
variable {P : Program} {ops : Array Oper} {T0 : Nat → Value} {m : Nat} {cl : Nat → Option Nat} {G : Nat → Value → Prop} {W : Nat → World → Prop} {i : Nat} {o : Oper}
theorem stepS_plain (hc : cl i = none) (hg : o.guard = none) (h : ∀ (T : Nat → Value) (w : World) (s : Nat), (∀ t, freeT ops t = true → T t = T0 t) → AllG G ops T (needs o) → s ≤ m → W s w → ∃ v, (execOp (evT T) o).run P w = .ok (.value v) w ∧ G i v) : StepS P ops T0 m cl G W i o := by
  intro T w hT hd
  rw [hc]
  intro s hs hW
  have : Region.wanted o (yldT ops T) = true := by unfold Region.wanted; rw [hg]
  rw [if_pos this]
  exact h T w s hT hd hs hW
theorem want_is {T : Nat → Value} (g d : Nat) (b r : Bool) (hg : o.guard = some (g, b)) (hgd : (ops[g]?).bind (·.dst) = some d) (h1 : T d = .bool r) : Region.wanted o (yldT ops T) = (r == b) := by
  unfold Region.wanted yldT
  rw [hg]
  simp only [hgd, Option.map_some, h1]
  cases b <;> cases r <;> rfl
theorem stepS_on (g d : Nat) (b : Bool) (hc : cl i = none) (hg : o.guard = some (g, b)) (hgd : (ops[g]?).bind (·.dst) = some d) (h : ∀ (T : Nat → Value) (w : World) (s : Nat), (∀ t, freeT ops t = true → T t = T0 t) → AllG G ops T (needs o) → s ≤ m → W s w → T d = .bool b ∧ ∃ v, (execOp (evT T) o).run P w = .ok (.value v) w ∧ G i v) : StepS P ops T0 m cl G W i o := by
  intro T w hT hd
  rw [hc]
  intro s hs hW
  obtain ⟨h1, h2⟩ := h T w s hT hd hs hW
  rw [if_pos (by rw [want_is g d b b hg hgd h1]; cases b <;> rfl)]
  exact h2
theorem stepS_off (g d : Nat) (b : Bool) (hc : cl i = none) (hg : o.guard = some (g, b)) (hgd : (ops[g]?).bind (·.dst) = some d) (h : ∀ (T : Nat → Value), (∀ t, freeT ops t = true → T t = T0 t) → AllG G ops T (needs o) → T d = .bool (!b) ∧ G i undef) : StepS P ops T0 m cl G W i o := by
  intro T w hT hd
  rw [hc]
  intro s hs hW
  obtain ⟨h1, h2⟩ := h T hT hd
  rw [if_neg (by rw [want_is g d b (!b) hg hgd h1]; cases b <;> decide)]
  exact h2
theorem stepC_on (t : Nat) (g d : Nat) (b : Bool) (hc : cl i = some t) (hg : o.guard = some (g, b)) (hgd : (ops[g]?).bind (·.dst) = some d) (h : ∀ (T : Nat → Value) (w : World), (∀ t, freeT ops t = true → T t = T0 t) → AllG G ops T (needs o) → W t w → T d = .bool b ∧ ∃ f args, (execOp (evT T) o).run P w = .ok (.enter f args) w ∧ Calls P f args w (fun e w' => ∃ v, e = .returned v ∧ G i v ∧ W (t + 1) w')) : StepS P ops T0 m cl G W i o := by
  intro T w hT hd
  rw [hc]
  intro hW
  obtain ⟨h1, h2⟩ := h T w hT hd hW
  rw [if_pos (by rw [want_is g d b b hg hgd h1]; cases b <;> rfl)]
  exact h2
theorem stepC_off (t : Nat) (g d : Nat) (b : Bool) (hc : cl i = some t) (hg : o.guard = some (g, b)) (hgd : (ops[g]?).bind (·.dst) = some d) (h : ∀ (T : Nat → Value), (∀ t, freeT ops t = true → T t = T0 t) → AllG G ops T (needs o) → T d = .bool (!b) ∧ G i undef) (hW' : ∀ w, W t w → W (t + 1) w) : StepS P ops T0 m cl G W i o := by
  intro T w hT hd
  rw [hc]
  intro hW
  obtain ⟨h1, h2⟩ := h T hT hd
  rw [if_neg (by rw [want_is g d b (!b) hg hgd h1]; cases b <;> decide)]
  exact ⟨h2, hW' w hW⟩
theorem stepC_plain (t : Nat) (hc : cl i = some t) (hg : o.guard = none) (h : ∀ (T : Nat → Value) (w : World), (∀ t, freeT ops t = true → T t = T0 t) → AllG G ops T (needs o) → W t w → ∃ f args, (execOp (evT T) o).run P w = .ok (.enter f args) w ∧ Calls P f args w (fun e w' => ∃ v, e = .returned v ∧ G i v ∧ W (t + 1) w')) : StepS P ops T0 m cl G W i o := by
  intro T w hT hd
  rw [hc]
  intro hW
  rw [if_pos (by unfold Region.wanted; rw [hg])]
  exact h T w hT hd hW
end

end Go.Proofs.Ytnfbhhgdibkbdaa
