/- A region that draws its order, with calls that write, one behind the other: each call finds what the one ahead of it left. -/
import Derived.Test.YtlhmcpkfmnmhfaaG2
import Derived.Test.YtlhmcpkfmnmhfaaZE
import Derived.Laws.StructEq
namespace Go.Proofs.Ytlhmcpkfmnmhfaa
section
set_option linter.unusedSimpArgs false
set_option linter.unusedVariables false
open Go.RowKit

def AllG (G : Nat → Value → Prop) (ops : Array Oper) (T : Nat → Value) : List Nat → Prop
  | [] => True
  | j :: l => G j (T (dstN ops j)) ∧ AllG G ops T l
theorem allG_mem {G : Nat → Value → Prop} {ops : Array Oper} {T : Nat → Value} : ∀ {l : List Nat}, (∀ j, j ∈ l → G j (T (dstN ops j))) → AllG G ops T l
  | [], _ => trivial
  | j :: l, h => ⟨h j (by simp), allG_mem fun j hj => h j (by simp [hj])⟩
/-- operation i waits for j, by these steps -/
def pathB (ops : Array Oper) : List Nat → Bool
  | [] => true
  | [_] => true
  | i :: j :: l => (match ops[i]? with | none => false | some o => o.after.any fun e => Region.binds .any e && e.on == j) && pathB ops (j :: l)
def ClosedL (ops : Array Oper) (listed : Array Bool) : Prop := ∀ i o, ops[i]? = some o → listed.getD i false = true → ∀ e, e ∈ o.after → Region.binds .any e = true → listed.getD e.on false = true
theorem path_step {ops : Array Oper} {i j : Nat} {l : List Nat} (h : pathB ops (i :: j :: l) = true) : ∃ o e, ops[i]? = some o ∧ e ∈ o.after ∧ Region.binds .any e = true ∧ e.on = j ∧ pathB ops (j :: l) = true := by
  unfold pathB at h
  rw [Bool.and_eq_true] at h
  obtain ⟨h1, h2⟩ := h
  cases ho : ops[i]? with
  | none => rw [ho] at h1; cases h1
  | some o =>
    rw [ho] at h1
    simp only [Array.any_eq_true] at h1
    obtain ⟨k, hk, hb⟩ := h1
    rw [Bool.and_eq_true] at hb
    exact ⟨o, o.after[k], rfl, Array.getElem_mem hk, hb.1, by simpa using hb.2, h2⟩
theorem path_listed {ops : Array Oper} {listed : Array Bool} (hc : ClosedL ops listed) : ∀ {l : List Nat} {i : Nat}, pathB ops (i :: l) = true → listed.getD i false = true → ∀ j, j ∈ i :: l → listed.getD j false = true
  | [], i, _, hi, j, hj => by simp at hj; subst hj; exact hi
  | k :: l, i, h, hi, j, hj => by
    obtain ⟨o, e, ho, he, hb, rfl, h2⟩ := path_step h
    rcases List.mem_cons.1 hj with rfl | hj
    · exact hi
    · exact path_listed hc h2 (hc i o ho hi e he hb) j hj

/-- the calls that write: how many, which, of an operation which call it is -/
structure Calls4 (ops : Array Oper) (m : Nat) (c : Nat → Nat) (cl : Nat → Option Nat) : Prop where
  a : ∀ i t, cl i = some t → t < m ∧ c t = i
  b : ∀ t, t < m → cl (c t) = some t
  p : ∀ t, t + 1 < m → ∃ l, pathB ops (c (t + 1) :: l) = true ∧ l ≠ [] ∧ (c (t + 1) :: l).getLast? = some (c t)
def StepS (P : Program) (ops : Array Oper) (T0 : Nat → Value) (m : Nat) (cl : Nat → Option Nat) (G : Nat → Value → Prop) (W : Nat → World → Prop) (i : Nat) (o : Oper) : Prop :=
  ∀ (T : Nat → Value) (w : World), (∀ t, freeT ops t = true → T t = T0 t) → AllG G ops T (needs o) →
    match cl i with
    | none => ∀ s, s ≤ m → W s w → if Region.wanted o (yldT ops T) then ∃ v, (execOp (evT T) o).run P w = .ok (.value v) w ∧ G i v else G i undef
    | some t => W t w → if Region.wanted o (yldT ops T) then ∃ f args, (execOp (evT T) o).run P w = .ok (.enter f args) w ∧ Calls P f args w (fun e w' => ∃ v, e = .returned v ∧ G i v ∧ W (t + 1) w') else G i undef ∧ W (t + 1) w
def AllStepsS (P : Program) (ops : Array Oper) (T0 : Nat → Value) (m : Nat) (cl : Nat → Option Nat) (G : Nat → Value → Prop) (W : Nat → World → Prop) : Nat → List Oper → Prop
  | _, [] => True
  | i, o :: l => StepS P ops T0 m cl G W i o ∧ AllStepsS P ops T0 m cl G W (i + 1) l
theorem AllStepsS.at_ {P : Program} {ops : Array Oper} {T0 : Nat → Value} {m : Nat} {cl : Nat → Option Nat} {G : Nat → Value → Prop} {W : Nat → World → Prop} : ∀ {l : List Oper} {k : Nat}, AllStepsS P ops T0 m cl G W k l → ∀ {i : Nat} {o : Oper}, l[i]? = some o → StepS P ops T0 m cl G W (k + i) o
  | [], _, _, _, _, h => by simp at h
  | x :: l, k, h, 0, o, hi => by simp at hi; subst hi; exact h.1
  | x :: l, k, h, i + 1, o, hi => by
    have := AllStepsS.at_ (l := l) h.2 (i := i) (o := o) (by simpa using hi)
    rwa [show k + (i + 1) = k + 1 + i by omega]

structure InvS (ops : Array Oper) (a0 : Act) (m : Nat) (c : Nat → Nat) (G : Nat → Value → Prop) (W : Nat → World → Prop) (n : Nat) (fuel : Nat) (listed : Array Bool) (a : Act) (w : World) : Prop where
  sz : a.tmps.size = n
  df : a.defers = a0.defers
  out : ∀ t, freeT ops t = true → slT a t = slT a0 t
  ls : listed.size = ops.size
  cnt : ((List.range ops.size).filter fun i => !listed.getD i true).length ≤ fuel
  good : ∀ j, listed.getD j false = true → G j (slT a (dstN ops j))
  clos : ClosedL ops listed
  st : ∃ s, s ≤ m ∧ W s w ∧ (∀ t, t < s → listed.getD (c t) false = true) ∧ ∀ t, s ≤ t → t < m → listed.getD (c t) false = false

theorem last_mem {l : List Nat} {x i : Nat} (h : (i :: l).getLast? = some x) (hn : l ≠ []) : x ∈ l := by
  cases l with
  | nil => exact absurd rfl hn
  | cons y l =>
    rw [List.getLast?_cons_cons] at h
    exact List.mem_of_getLast? h

theorem any_of_invS {P : Program} {ops : Array Oper} {Q : Exit → Act → World → Prop} {a0 : Act} {m : Nat} {c : Nat → Nat} {cl : Nat → Option Nat} {G : Nat → Value → Prop} {W : Nat → World → Prop} {n : Nat}
    (hok : regionOk ops n = true) (hC : Calls4 ops m c cl) (hcs : ∀ t, t < m → c t < ops.size)
    (hsteps : AllStepsS P ops (slT a0) m cl G W 0 ops.toList)
    (hend : ∀ (T : Nat → Value) (w : World), (∀ t, freeT ops t = true → T t = slT a0 t) → W m w → AllG G ops T (List.range ops.size) → Q .normal ⟨listT T n, a0.defers⟩ w) :
    ∀ (fuel : Nat) (listed : Array Bool) (a : Act) (w : World), InvS ops a0 m c G W n fuel listed a w → wpAny P .any ops Q fuel listed a w := by
  have hdone : ∀ (fuel : Nat) (listed : Array Bool) (a : Act) (w : World), InvS ops a0 m c G W n fuel listed a w → Region.ready .any ops listed = [] → Q .normal a w := by
    intro fuel listed a w I hr
    have hall : ∀ i, i < ops.size → listed.getD i false = true := by
      intro i
      induction i using Nat.strongRecOn with
      | _ i ih =>
        intro hi
        rcases hb : listed.getD i false with _ | _
        · exfalso
          have ho : ops[i]? = some ops[i] := Array.getElem?_eq_getElem hi
          have hm : i ∈ Region.ready .any ops listed := mem_ready.2 ⟨by
            have hl : i < listed.size := by rw [I.ls]; exact hi
            simp [hl] at hb ⊢; exact hb, _, ho, fun e he hbd => ih e.on ((ok_at hok ho).1 e he hbd) (by have := (ok_at hok ho).1 e he hbd; omega)⟩
          rw [hr] at hm
          cases hm
        · rfl
    have ha : a = ⟨listT (slT a) n, a0.defers⟩ := by
      rw [listT_sl a I.sz, ← I.df]
    obtain ⟨s, h1, h2, h3, h4⟩ := I.st
    have hs : s = m := by
      rcases Nat.lt_or_ge s m with h | h
      · have := h4 s (Nat.le_refl _) h
        rw [hall (c s) (hcs s h)] at this
        cases this
      · omega
    subst hs
    rw [ha]
    exact hend (slT a) w I.out h2 (allG_mem fun j hj => I.good j (hall j (List.mem_range.1 hj)))
  intro fuel
  induction fuel with
  | zero =>
    intro listed a w I
    have hr : Region.ready .any ops listed = [] := by
      have h0 : (List.range ops.size).filter (fun i => !listed.getD i true) = [] := List.eq_nil_of_length_eq_zero (Nat.le_zero.1 I.cnt)
      unfold Region.ready
      rw [List.filter_eq_nil_iff] at h0 ⊢
      intro i hi
      have := h0 i hi
      simp at this ⊢
      intro h; rw [this] at h; cases h
    exact ⟨hr, hdone _ _ _ _ I hr⟩
  | succ fuel ih =>
    intro listed a w I
    refine ⟨hdone _ _ _ _ I, fun i hi => ?_⟩
    obtain ⟨hun, o, ho, hall⟩ := mem_ready.1 hi
    have hlt : i < ops.size := (Array.getElem?_eq_some_iff.1 ho).1
    obtain ⟨hbefore, d, hd, hdn, hdis⟩ := ok_at hok ho
    have hunf : listed.getD i false = false := by
      have hl : i < listed.size := by rw [I.ls]; exact hlt
      simp [hl] at hun ⊢
      exact hun
    have hstep : StepS P ops (slT a0) m cl G W i o := by
      have := hsteps.at_ (i := i) (o := o) (by rw [Array.getElem?_toList]; exact ho)
      rwa [Nat.zero_add] at this
    have hgo := hstep (slT a) w I.out (allG_mem fun j hj => by
      unfold needs at hj
      obtain ⟨e, he, rfl⟩ := List.mem_map.1 hj
      obtain ⟨he1, he2⟩ := List.mem_filter.1 he
      exact I.good _ (hall e (Array.mem_toList_iff.1 he1) he2))
    have hset : (listed.setIfInBounds i true).getD i true = true := by
      have hl : i < listed.size := by rw [I.ls]; exact hlt
      simp [hl]
    have hsetf : (listed.setIfInBounds i true).getD i false = true := by
      have hl : i < listed.size := by rw [I.ls]; exact hlt
      simp [hl]
    -- what comes of it
    have hnext : ∀ (v : Value) (w' : World), G i v → (∃ s, s ≤ m ∧ W s w' ∧ (∀ t, t < s → (listed.setIfInBounds i true).getD (c t) false = true) ∧ ∀ t, s ≤ t → t < m → (listed.setIfInBounds i true).getD (c t) false = false) → wpAny P .any ops Q fuel (listed.setIfInBounds i true) (a.put o.dst v) w' := by
      intro v w' hg hst'
      apply ih
      refine ⟨?_, ?_, ?_, by simp [I.ls], ?_, ?_, ?_, hst'⟩
      · rw [hd]; simp [Act.put, I.sz]
      · rw [hd]; exact I.df
      · intro t ht
        have hne : d ≠ t := by
          rintro rfl
          unfold freeT at ht
          have := (Array.all_eq_true.1 ht) i hlt
          rw [Array.getElem?_eq_getElem hlt] at ho
          injection ho with ho
          rw [ho, hd] at this
          simp at this
        rw [hd, slT_put_ne hne]
        exact I.out t ht
      · have := cnt_less (p := fun i => !listed.getD i true) (q := fun j => !(listed.setIfInBounds i true).getD j true) hlt (by simp only [Bool.not_eq_true']; exact hun) (by simp only [hset]; rfl) (fun j hj => by simp only [getD_set_ne true (Ne.symm hj)])
        have hc := I.cnt
        omega
      · intro j hj
        by_cases e : j = i
        · subst e
          have : dstN ops j = d := by simp [dstN, ho, hd]
          rw [this, hd, slT_put_same (by rw [I.sz]; exact hdn)]
          exact hg
        · have hj' : listed.getD j false = true := by rw [getD_set_ne false (Ne.symm e)] at hj; exact hj
          have hne : d ≠ dstN ops j := by
            intro hdj
            cases hoj : ops[j]? with
            | none =>
              have hl : j < listed.size := by
                rcases Nat.lt_or_ge j listed.size with h | h
                · exact h
                · simp [Array.getElem?_eq_none h] at hj'
              rw [I.ls] at hl
              rw [Array.getElem?_eq_getElem hl] at hoj
              cases hoj
            | some oj =>
              obtain ⟨_, dj, hdj', _, _⟩ := ok_at hok hoj
              apply hdis j e
              rw [hoj]
              simp [dstN, hoj, hdj'] at hdj
              simp [hdj', hdj]
          rw [hd, slT_put_ne hne]
          exact I.good j hj'
      · intro j oj hoj hj e he hb
        by_cases e1 : e.on = i
        · rw [e1]; exact hsetf
        · rw [getD_set_ne false (Ne.symm e1)]
          by_cases e2 : j = i
          · subst e2
            rw [ho] at hoj
            injection hoj with hoj
            subst hoj
            exact hall e he hb
          · rw [getD_set_ne false (Ne.symm e2)] at hj
            exact I.clos j oj hoj hj e he hb
    obtain ⟨s, hs1, hs2, hs3, hs4⟩ := I.st
    -- the stage is as it was, if it is no call; the next one, if it is
    have hsame : cl i = none → (∃ s, s ≤ m ∧ W s w ∧ (∀ t, t < s → (listed.setIfInBounds i true).getD (c t) false = true) ∧ ∀ t, s ≤ t → t < m → (listed.setIfInBounds i true).getD (c t) false = false) := by
      intro hn
      have hne : ∀ t, t < m → c t ≠ i := fun t ht e => by
        have := hC.b t ht
        rw [e, hn] at this
        cases this
      exact ⟨s, hs1, hs2, fun t ht => by rw [getD_set_ne false (Ne.symm (hne t (by omega)))]; exact hs3 t ht, fun t h1 h2 => by rw [getD_set_ne false (Ne.symm (hne t h2))]; exact hs4 t h1 h2⟩
    have hup : ∀ t, cl i = some t → t = s ∧ ∀ w', W (t + 1) w' → (∃ s, s ≤ m ∧ W s w' ∧ (∀ t, t < s → (listed.setIfInBounds i true).getD (c t) false = true) ∧ ∀ t, s ≤ t → t < m → (listed.setIfInBounds i true).getD (c t) false = false) := by
      intro t ht
      obtain ⟨htm, hci⟩ := hC.a i t ht
      have h1 : ¬ t < s := fun h => by
        have := hs3 t h
        rw [hci, hunf] at this
        cases this
      have hback : ∀ u, s ≤ u → u + 1 < m → listed.getD (c (u + 1)) false = true → False := by
        intro u hu1 hu2 hl
        obtain ⟨l, hp, hn, hla⟩ := hC.p u hu2
        have := path_listed I.clos hp hl (c u) (List.mem_cons_of_mem _ (last_mem hla hn))
        rw [hs4 u hu1 (by omega)] at this
        cases this
      have h2 : ¬ s < t := fun h => by
        obtain ⟨u, rfl⟩ : ∃ u, t = u + 1 := ⟨t - 1, by omega⟩
        obtain ⟨l, hp, hn, hla⟩ := hC.p u htm
        cases l with
        | nil => exact hn rfl
        | cons j l =>
          obtain ⟨o', e, ho', he, hb, rfl, hp2⟩ := path_step hp
          rw [hci, ho] at ho'
          injection ho' with ho'
          subst ho'
          have hl := hall e he hb
          have hm := last_mem hla hn
          have := path_listed I.clos hp2 hl (c u) hm
          rw [hs4 u (by omega) (by omega)] at this
          cases this
      have hts : t = s := by omega
      refine ⟨hts, fun w' hw' => ⟨t + 1, by omega, hw', fun u hu => ?_, fun u h1 h2 => ?_⟩⟩
      · by_cases e : c u = i
        · rw [e]; exact hsetf
        · rw [getD_set_ne false (Ne.symm e)]
          refine hs3 u ?_
          rcases Nat.lt_or_ge u s with h | h
          · exact h
          · have : u = t := by omega
            subst this
            exact absurd hci e
      · have e : c u ≠ i := fun e => by
          have := hC.b u h2
          rw [e, ht] at this
          injection this with this
          omega
        rw [getD_set_ne false (Ne.symm e)]
        exact hs4 u (by omega) h2
    unfold wpOp
    rw [ho]
    rw [yld_eq hok I.sz]
    show if Region.wanted o (yldT ops (slT a)) = true then _ else _
    cases hcl : cl i with
    | none =>
      rw [hcl] at hgo
      have hgo := hgo s hs1 hs2
      split at hgo
      · rename_i hw
        rw [if_pos hw]
        refine .inl ?_
        unfold Oper.wp
        rw [evT_eval]
        obtain ⟨v, e, hg⟩ := hgo
        rw [e]
        exact hnext v w hg (hsame hcl)
      · rename_i hw
        rw [if_neg hw]
        exact hnext undef w hgo (hsame hcl)
    | some t =>
      rw [hcl] at hgo
      obtain ⟨rfl, hw'⟩ := hup t hcl
      have hgo := hgo hs2
      split at hgo
      · rename_i hw
        rw [if_pos hw]
        refine .inl ?_
        unfold Oper.wp
        rw [evT_eval]
        obtain ⟨f, args, e, hc⟩ := hgo
        rw [e]
        refine Calls.mono hc ?_
        rintro x w' ⟨v, rfl, hg, hW⟩
        exact hnext v w' hg (hw' w' hW)
      · rename_i hw
        rw [if_neg hw]
        exact hnext undef w hgo.1 (hw' w hgo.2)

/-- a region that draws its order, its writing calls one behind the other -/
theorem region_staged {P : Program} {ops : Array Oper} {Q : Exit → Act → World → Prop} {a0 : Act} {w0 : World} {id : Nat} (m : Nat) (c : Nat → Nat) (cl : Nat → Option Nat) (G : Nat → Value → Prop) (W : Nat → World → Prop) (n : Nat) (hm : P.follows .mixedOrders = true) (hn : a0.tmps.size = n)
    (hok : regionOk ops n = true) (hC : Calls4 ops m c cl) (hcs : ∀ t, t < m → c t < ops.size) (h0 : W 0 w0.drew)
    (hsteps : AllStepsS P ops (slT a0) m cl G W 0 ops.toList)
    (hend : ∀ (T : Nat → Value) (w : World), (∀ t, freeT ops t = true → T t = slT a0 t) → W m w → AllG G ops T (List.range ops.size) → Q .normal ⟨listT T n, a0.defers⟩ w) :
    (Code.region id ops true).wp P Q a0 w0 := by
  have hnot : ∀ j, (Array.replicate ops.size false).getD j false = false := fun j => by
    rcases Nat.lt_or_ge j ops.size with h | h
    · simp [h]
    · simp [Array.getElem?_eq_none, h]
  refine wp_region_any hm (any_of_invS hok hC hcs hsteps hend _ _ _ _ ⟨hn, rfl, fun _ _ => rfl, by simp, ?_, fun j hj => ?_, fun i o _ hi => ?_, 0, Nat.zero_le _, h0, fun t ht => absurd ht (Nat.not_lt_zero _), fun t _ _ => hnot _⟩)
  · have := List.length_filter_le (fun i => !(Array.replicate ops.size false).getD i true) (List.range ops.size)
    simpa using this
  · rw [hnot] at hj; cases hj
  · rw [hnot] at hi; cases hi
end

section
set_option linter.unusedSimpArgs false
set_option linter.unusedVariables false
open Go.RowKit Go.Maps

/-- all but d stay as they are in a tick -/
def StillBut (sts : List Pst) (d : Nat) : Prop := ∀ (m : Nat) (x : Pst), sts[m]? = some x → m ≠ d → x.phase = 49 ∨ restsB x.phase = true
theorem StillBut.set {sts : List Pst} {d : Nat} (h : StillBut sts d) (y : Pst) : StillBut (sts.set d y) d := by
  intro m x hx hm
  rcases set_at' hx with ⟨rfl, rfl⟩ | ⟨_, hx⟩
  · exact absurd rfl hm
  · exact h m x hx hm
theorem StillBut.tickT {sts : List Pst} {d : Nat} {x : Pst} (h : StillBut sts d) (hx : sts[d]? = some x) : tickT sts = sts.set d (passT x) := by
  refine List.ext_getElem? fun m => ?_
  by_cases e : m = d
  · subst e
    rw [tick_get hx, List.getElem?_set_self (get_lt' hx)]
  · rw [List.getElem?_set_ne (Ne.symm e)]
    unfold Go.Proofs.Ytlhmcpkfmnmhfaa.tickT
    rw [List.getElem?_map]
    cases hm : sts[m]? with
    | none => rfl
    | some y => simp only [Option.map_some]; rw [(pass_still (h m y hm e)).1]
theorem StillBut.evs {sts : List Pst} {d : Nat} {x : Pst} (h : StillBut sts d) (hx : sts[d]? = some x) : ∀ n, n ≤ sts.length → evsP sts n = if d < n ∧ passK x ≠ 0 then [⟨passK x, (d : Int)⟩] else [] := by
  intro n
  induction n with
  | zero => intro _; rw [if_neg (by omega)]; rfl
  | succ n ih =>
    intro hn
    have hy := List.getElem?_eq_getElem (l := sts) (i := n) (by omega)
    rw [evsP_succ hy, ih (by omega)]
    by_cases e : n = d
    · subst e
      rw [hx] at hy
      injection hy with hy
      rw [← hy, if_neg (by omega)]
      by_cases hk : passK x = 0
      · rw [if_pos hk, if_neg (by simp [hk])]; rfl
      · rw [if_neg hk, if_pos ⟨by omega, hk⟩]; rfl
    · rw [if_pos (pass_still (h n _ hy e)).2, List.append_nil]
      by_cases hc : d < n ∧ passK x ≠ 0
      · rw [if_pos hc, if_pos ⟨by omega, hc.2⟩]
      · rw [if_neg hc, if_neg (fun h' => hc ⟨by omega, h'.2⟩)]
theorem StillBut.tickE {sts : List Pst} {d : Nat} {x : Pst} (h : StillBut sts d) (hx : sts[d]? = some x) : tickE sts = if passK x = 0 then [] else [⟨passK x, (d : Int)⟩] := by
  have := h.evs hx sts.length (Nat.le_refl _)
  unfold Go.Proofs.Ytlhmcpkfmnmhfaa.tickE
  rw [this]
  by_cases hk : passK x = 0
  · rw [if_neg (by simp [hk]), if_pos hk]
  · rw [if_pos ⟨get_lt' hx, hk⟩, if_neg hk]

theorem eql_ev (a b c d : Int) (w : World) : (binOp .eql 50 (.agg #[.int .u8 a, .int .i64 b]) (.agg #[.int .u8 c, .int .i64 d])).run Try.prog w = .ok (.bool (a == c && b == d)) w := by
  have u5 := Try.underlying5
  have u3 := Try.underlying3
  have a5 := Try.isAgg5
  have a3 := Try.isAgg3
  have z5 := Try.sizeOf5
  have z3 := Try.sizeOf3
  have hS : Try.prog.underlying 50 = some (.struct (Try.prog.fieldsOf 50)) := by kernel_rfl
  have hp : Try.prog.stoodInHeld 50 = false := by kernel_rfl
  rw [run_eql_struct, show (10000 : Nat) = 9999 + 1 from rfl, run_equalIn_agg w 9999 50 _ _ hS hp]
  simp only [Program.fieldsOf, Try.underlying50]
  go_simp
  by_cases h1 : a = c <;> by_cases h2 : b = d <;> simp [h1, h2]
end

section
set_option linter.unusedSimpArgs false
set_option linter.unusedVariables false
open Go.RowKit Go.Maps

/-- what a tick leaves, as a slice of so many -/
theorem Lw.tickL {w3 wr : World} {gt g c : Nat} {doms : List Dom} {sts sts' : List Pst} {evs : List Ev} (h : Lw w3 wr gt g c doms sts) (hT : tickT sts = sts') (hE : tickE sts = evs) : Calls Try.prog 15 #[.pointer (some ⟨gt, 0, none⟩)] wr (fun e w' => ∃ v, e = .returned v ∧ EvRow w' wr.heap.size v evs ∧ Lw w3 w' gt g c doms sts' ∧ Moved [g] wr w') := by
  subst hT hE
  exact h.tick
theorem EvRow.zero {w : World} {B : Nat} {v : Value} (h : EvRow w B v []) : ∃ A c, v = .slice A 0 c := own_shape' h

set_option maxRecDepth 1000000 in
set_option maxHeartbeats 8000000 in
theorem risen_any (w3 wr0 : World) (gt g c : Nat) (doms : List Dom) (sts : List Pst) (d dl : Nat) (dm : Dom) (kp : Bool) (K : Int) (hK : passK ⟨dm, 114, 0, kp⟩ = K) (hd : d < sts.length) (hs : StillBut sts d) (hdl : dl ≤ 20) (h : Lw w3 wr0 gt g c doms (sts.set d ⟨dm, 114, (dl : Int), kp⟩)) :
    Calls Try.prog 18 #[.pointer (some ⟨gt, 0, none⟩), .int .i64 (d : Int), .int .i64 (dl : Int), .int .u8 K] wr0 (fun e w' => e = .returned (.bool true) ∧ Lw w3 w' gt g c doms (sts.set d ⟨dm, 49, 0, kp⟩) ∧ Moved [g] wr0 w') := by
  have hat : ∀ y : Pst, (sts.set d y)[d]? = some y := fun y => List.getElem?_set_self hd
  have hph : ∀ y : Pst, phaseP (sts.set d y) (d : Int) = y.phase := fun y => phaseP_at (hat y)
  have hlf : ∀ y : Pst, leftP (sts.set d y) (d : Int) = y.left := fun y => atP_at (hat y) _ _
  have hT : ∀ y : Pst, tickT (sts.set d y) = sts.set d (passT y) := fun y => by rw [(hs.set y).tickT (hat y), List.set_set]
  have hE : ∀ y : Pst, tickE (sts.set d y) = if passK y = 0 then [] else [⟨passK y, (d : Int)⟩] := fun y => (hs.set y).tickE (hat y)
  have hd4 : sts.length ≤ 4 := by have := h.len; simpa using this
  have hK0 : K ≠ 0 := by rw [← hK]; unfold passK; cases kp <;> simp
  have HPH := Lib.hid hph
  have HLF := Lib.hid hlf
  have HT := Lib.hid hT
  have HE := Lib.hid hE
  have H := Lib.hid h
  have HK := Lib.hid hK
  have HK0 := Lib.hid hK0
  have HD := Lib.hid hd
  have hd3 : (d : Int) ≤ 3 := by omega
  clear hat hph hlf hT hE h hK hs hd hK0
  go_enter Try.func18, Try.ntmps18
  go_wp2
  go_loopw [9] (fun i wr => ∃ k : Nat, k ≤ dl ∧ i = .int .i64 k ∧ RowKit.Hid (Lw w3 wr gt g c doms (sts.set d ⟨dm, 114, ((dl - k : Nat) : Int), kp⟩)) ∧ RowKit.Hid (Moved [g] wr0 wr)) (fun i _ => dl - (intOf i).toNat)
  case atStart => exact ⟨0, Nat.zero_le _, rfl, H, Lib.hid (Moved.refl _ _)⟩
  case round =>
    obtain ⟨k, hk, rfl, HQ, HM⟩ := hrel
    clear H
    by_cases hlt : k < dl
    · have hk0 : (0 : Int) ≤ (k : Int) := by omega
      have hk1 : (k : Int) < (dl : Int) := by omega
      have hsub : ((dl - k : Nat) : Int) = (dl : Int) - (k : Int) := by omega
      have hl : leftP (sts.set d ⟨dm, 114, ((dl - k : Nat) : Int), kp⟩) (d : Int) = (dl : Int) - (k : Int) := (HLF.out _).trans hsub
      have HL := Lib.hid hl
      have hpos : (0 : Int) < ((dl - k : Nat) : Int) := by omega
      have ht : tickT (sts.set d ⟨dm, 114, ((dl - k : Nat) : Int), kp⟩) = sts.set d ⟨dm, 114, ((dl - (k + 1) : Nat) : Int), kp⟩ := by
        rw [HT.out]
        congr 1
        unfold passT
        rw [if_pos rfl, if_pos hpos]
        simp
        omega
      have he : tickE (sts.set d ⟨dm, 114, ((dl - k : Nat) : Int), kp⟩) = [] := by
        rw [HE.out, if_pos]
        unfold passK
        rw [if_pos rfl, if_pos hpos]
      have HTE := Lib.hid (And.intro ht he)
      clear hl ht he hsub hpos
      go_wp2_with fail
      refine (HQ.out.left _).mono ?_
      rintro e w' ⟨rfl, rfl⟩
      rw [HL.out]
      go_wp2_with fail
      refine (HQ.out.tickL HTE.out.1 HTE.out.2).mono ?_
      rintro e w5 ⟨v, rfl, hev, h5, hm5⟩
      obtain ⟨A5, c5, rfl⟩ := hev.zero
      have H5 := Lib.hid h5
      have HM5 := Lib.hid (HM.out.trans hm5)
      clear hev h5 hm5
      go_wp2_with fail
      refine (H5.out.phase _).mono ?_
      rintro e w' ⟨rfl, rfl⟩
      rw [HPH.out]
      go_wp2
      go_roundw
      case rel => exact ⟨k + 1, hlt, by go_num, H5, HM5⟩
      case measure => simp [intOf]; omega
    · obtain rfl : k = dl := by omega
      have hkl : ¬ ((k : Int) < (k : Int)) := by omega
      have h0 := HQ.out
      rw [show ((k - k : Nat) : Int) = 0 by omega] at h0
      have H0 := Lib.hid h0
      have ht1 : tickT (sts.set d ⟨dm, 114, 0, kp⟩) = sts.set d ⟨dm, 104, 0, kp⟩ := by rw [HT.out]; congr 1
      have he1 : tickE (sts.set d ⟨dm, 114, 0, kp⟩) = [⟨K, (d : Int)⟩] := by rw [HE.out, HK.out, if_neg HK0.out]
      have ht2 : tickT (sts.set d ⟨dm, 104, 0, kp⟩) = sts.set d ⟨dm, 49, 0, kp⟩ := by rw [HT.out]; congr 1
      have he2 : tickE (sts.set d ⟨dm, 104, 0, kp⟩) = [⟨111, (d : Int)⟩] := by rw [HE.out]; rfl
      have ht3 : tickT (sts.set d ⟨dm, 49, 0, kp⟩) = sts.set d ⟨dm, 49, 0, kp⟩ := by rw [HT.out]; congr 1
      have he3 : tickE (sts.set d ⟨dm, 49, 0, kp⟩) = [] := by rw [HE.out]; rfl
      have H1 := Lib.hid (And.intro ht1 he1)
      have H2 := Lib.hid (And.intro ht2 he2)
      have H3 := Lib.hid (And.intro ht3 he3)
      clear h0 ht1 he1 ht2 he2 ht3 he3 hlt hk
      go_wp2_with fail
      refine (H0.out.tickL H1.out.1 H1.out.2).mono ?_
      rintro e w5 ⟨v, rfl, hev, h5, hm5⟩
      obtain ⟨g5, c5, rfl, hgb5, e0, e1⟩ := hev.one
      have H5 := Lib.hid h5
      have hne5 : g5 ≠ g := by have := H0.out.grid.lt; omega
      have HM5 := Lib.hid (HM.out.trans hm5)
      clear hev h5 hm5 hgb5
      go_wp2_with fail
      refine (H5.out.phase _).mono ?_
      rintro e w' ⟨rfl, rfl⟩
      rw [HPH.out]
      go_wp2_with fail
      refine (H5.out.tickL H2.out.1 H2.out.2).mono ?_
      rintro e w6 ⟨v, rfl, hev, h6, hm6⟩
      obtain ⟨g6, c6, rfl, hgb6, f0, f1⟩ := hev.one
      have H6 := Lib.hid h6
      have e0' := hm6.cell e0 (by simpa using hne5)
      have e1' := hm6.cell e1 (by simpa using hne5)
      have HM6 := Lib.hid (HM5.out.trans hm6)
      have heq1 := eql_ev K (d : Int) K (d : Int)
      have heq2 := eql_ev 111 (d : Int) 111 (d : Int)
      clear hev h6 hm6 hgb6 e0 e1
      go_wp2_with fail
      refine (H6.out.phase _).mono ?_
      rintro e w' ⟨rfl, rfl⟩
      rw [HPH.out]
      go_wp2_with fail
      refine (H6.out.tickL H3.out.1 H3.out.2).mono ?_
      rintro e w7 ⟨v, rfl, hev, h7, hm7⟩
      obtain ⟨A7, c7, rfl⟩ := hev.zero
      have H7 := Lib.hid h7
      have HM7 := Lib.hid (HM6.out.trans hm7)
      clear hev h7 hm7
      go_wp2
      go_ret
      exact ⟨rfl, H7.out, HM7.out⟩
end

section
set_option linter.unusedSimpArgs false
set_option linter.unusedVariables false
open Go.RowKit Go.Maps

/-- a chain from the one that has none above it down to d -/
structure ChainL (doms : List Dom) (C : List Nat) (d : Nat) : Prop where
  last : C[C.length - 1]? = some d
  pos : 0 < C.length
  root : ∀ (v : Nat) (dv : Dom), C[0]? = some v → doms[v]? = some dv → dv.above = -1
  link : ∀ (j u v : Nat) (dv : Dom), C[j]? = some u → C[j + 1]? = some v → doms[v]? = some dv → dv.above = (u : Int)
  lt : ∀ v, v ∈ C → v < doms.length
  inc : ∀ (i j u v : Nat), i < j → C[i]? = some u → C[j]? = some v → u < v

theorem snoc_get {C : List Nat} {k j v : Nat} (h : (C ++ [k])[j]? = some v) : C[j]? = some v ∨ (j = C.length ∧ v = k) := by
  rcases Nat.lt_or_ge j C.length with hl | hl
  · rw [List.getElem?_append_left hl] at h
    exact .inl h
  · rw [List.getElem?_append_right hl] at h
    have : j - C.length = 0 := by
      rcases Nat.eq_zero_or_pos (j - C.length) with e | e
      · exact e
      · rw [List.getElem?_eq_none (by simp; omega)] at h; cases h
    rw [this] at h
    simp at h
    exact .inr ⟨by omega, h.symm⟩
theorem chain_list {doms : List Dom} {sts : List Pst} (h : GInv doms sts) (hd : DomsOk doms) : ∀ (k : Nat), k < sts.length → ∃ C, chainP sts (k : Int) = ci C ∧ ChainL doms C k := by
  intro k
  induction k using Nat.strongRecOn with
  | _ k ih =>
    intro hk
    have hx := List.getElem?_eq_getElem hk
    rw [chainP_yes h hd hx]
    have hda := h.at_ hx
    rcases h.desc hd k _ hx with h1 | ⟨h1, h2⟩
    · rw [h1, upsF_neg]
      refine ⟨[k], rfl, rfl, by simp, fun v dv hv hdv => ?_, fun j u v dv _ hv _ => by simp at hv, fun v hv => ?_, fun i j u v hij _ hv => ?_⟩
      · simp at hv
        subst hv
        rw [hda] at hdv
        injection hdv with hdv
        rw [← hdv]; exact h1
      · simp at hv
        subst hv
        rw [← h.len]; exact hk
      · cases j with
        | zero => omega
        | succ j => simp at hv
    · obtain ⟨q, hq⟩ : ∃ q : Nat, (sts[k]).dom.above = (q : Int) := ⟨(sts[k]).dom.above.toNat, by omega⟩
      rw [hq]
      obtain ⟨C, hC, hl⟩ := ih q (by omega) (by omega)
      have e : (upsF sts (q : Int)).reverse = ci C := hC
      rw [e]
      have hll := hl.last
      have hpos := hl.pos
      refine ⟨C ++ [k], by simp [ci], by simp, by simp, fun v dv hv hdv => ?_, fun j u v dv hu hv hdv => ?_, fun v hv => ?_, fun i j u v hij hu hv => ?_⟩
      · rw [List.getElem?_append_left hpos] at hv
        exact hl.root v dv hv hdv
      · rcases snoc_get hv with hv | ⟨e1, e2⟩
        · have hj := get_lt' hv
          rw [List.getElem?_append_left (by omega)] at hu
          exact hl.link j u v dv hu hv hdv
        · subst e2
          rw [hda] at hdv
          injection hdv with hdv
          rw [List.getElem?_append_left (by omega)] at hu
          have : j = C.length - 1 := by omega
          rw [this, hll] at hu
          injection hu with hu
          rw [← hdv, ← hu]; exact hq
      · rcases List.mem_append.1 hv with hv | hv
        · exact hl.lt v hv
        · simp at hv
          subst hv
          rw [← h.len]; exact hk
      · rcases snoc_get hv with hv | ⟨e1, e2⟩
        · have hj := get_lt' hv
          rw [List.getElem?_append_left (by omega)] at hu
          exact hl.inc i j u v hij hu hv
        · subst e2
          rw [List.getElem?_append_left (by omega)] at hu
          by_cases ei : i = C.length - 1
          · rw [ei, hll] at hu
            injection hu with hu
            omega
          · have := hl.inc i (C.length - 1) u q (by omega) hu hll
            omega

def liveP (d : Dom) : Pst := ⟨d, 49, 0, false⟩
/-- the first of the chain live, all others are as at first -/
def TkS (sts : List Pst) (S : List Nat) : Prop := ∀ (m : Nat) (x : Pst), sts[m]? = some x → (m ∈ S → x = liveP x.dom) ∧ (m ∉ S → x = newP x.dom)
theorem TkS.start (doms : List Dom) : TkS (doms.map newP) [] := by
  intro m x hx
  rw [List.getElem?_map] at hx
  cases hd : doms[m]? with
  | none => rw [hd] at hx; cases hx
  | some d =>
    rw [hd] at hx
    obtain rfl := Option.some.inj hx
    exact ⟨fun h => by simp at h, fun _ => rfl⟩
theorem TkS.still {sts : List Pst} {S : List Nat} (h : TkS sts S) (d : Nat) : StillBut sts d := by
  intro m x hx _
  by_cases hm : m ∈ S
  · left; rw [(h m x hx).1 hm]; rfl
  · right; rw [(h m x hx).2 hm]; rfl
section
variable {doms : List Dom} {sts : List Pst} {C : List Nat} {d j u : Nat}
theorem ChainL.notmem (hc : ChainL doms C d) (hu : C[j]? = some u) {i : Nat} (hi : i ≤ j) : u ∉ C.take i := by
  intro hm
  obtain ⟨k, hk, e⟩ := List.mem_iff_getElem.1 hm
  rw [List.length_take] at hk
  rw [List.getElem_take] at e
  have := hc.inc k j u u (by omega) (by rw [List.getElem?_eq_getElem (by omega), e]) hu
  omega
theorem mem_take_of {C : List Nat} {i j u : Nat} (hu : C[i]? = some u) (hij : i < j) : u ∈ C.take j := by
  obtain ⟨hl, e⟩ := List.getElem?_eq_some_iff.1 hu
  rw [List.mem_take_iff_getElem]
  exact ⟨i, by omega, e⟩
/-- what is fed of the chain, while those ahead live -/
theorem TkS.fed (h : TkS sts (C.take j)) (hi : GInv doms sts) (hc : ChainL doms C d) (hu : C[j]? = some u) {x : Pst} (hx : sts[u]? = some x) : fedB sts x.dom.above = true := by
  apply GInv.mkfed
  cases j with
  | zero => exact .inl (hc.root u _ hu (hi.at_ hx))
  | succ j =>
    right
    have hjl := get_lt' hu
    have hv := List.getElem?_eq_getElem (l := C) (i := j) (by omega)
    rw [hc.link j _ u _ hv hu (hi.at_ hx)]
    have hvl : C[j] < sts.length := by rw [hi.len]; exact hc.lt _ (List.getElem_mem _)
    rw [phaseP_at (List.getElem?_eq_getElem hvl), (h _ _ (List.getElem?_eq_getElem hvl)).1 (mem_take_of hv (Nat.lt_succ_self j))]
    rfl
theorem upT_no {sts : List Pst} {i E : Int} (h : upE sts i = E) (h0 : E ≠ 0) : upT sts i = sts := by unfold upT; rw [h, if_neg h0]
theorem TkS.next (h : TkS sts (C.take j)) (hi : GInv doms sts) (hc : ChainL doms C d) (hu : C[j]? = some u) {v : Nat} (hv : C[j + 1]? = some v) : upE sts (v : Int) = 6 := by
  have hvl : v < sts.length := by rw [hi.len]; exact hc.lt _ (List.mem_of_getElem? hv)
  have hul : u < sts.length := by rw [hi.len]; exact hc.lt _ (List.mem_of_getElem? hu)
  have hx := List.getElem?_eq_getElem hvl
  have ha := hc.link j u v _ hu hv (hi.at_ hx)
  refine (atP_at hx _ _).trans (if_neg ?_)
  intro ⟨_, hf⟩
  rcases GInv.fed49 hf with h1 | h1
  · omega
  · rw [ha, phaseP_at (List.getElem?_eq_getElem hul), (h _ _ (List.getElem?_eq_getElem hul)).2 (hc.notmem hu (Nat.le_refl j))] at h1
    simp [newP] at h1
theorem TkS.up (h : TkS sts (C.take j)) (hi : GInv doms sts) (hc : ChainL doms C d) (hu : C[j]? = some u) {dm : Dom} (hdm : doms[u]? = some dm) :
    upE sts (u : Int) = 0 ∧ upT sts (u : Int) = sts.set u ⟨dm, 114, dm.delay, false⟩ := by
  obtain ⟨x, hx, rfl⟩ := hi.get hdm
  have hn := (h u x hx).2 (hc.notmem hu (Nat.le_refl j))
  have hE : upE sts (u : Int) = 0 := (atP_at hx _ _).trans (if_pos ⟨by rw [hn]; rfl, h.fed hi hc hu hx⟩)
  refine ⟨hE, ?_⟩
  unfold upT
  rw [if_pos hE, setT_at _ hx]
  congr 1
  rw [hn]; rfl
theorem up_again {dm : Dom} {l : Int} {kp : Bool} (hul : u < sts.length) : upE (sts.set u ⟨dm, 114, l, kp⟩) (u : Int) = 6 := by
  refine (atP_at (List.getElem?_set_self hul) _ _).trans (if_neg ?_)
  intro ⟨h, _⟩
  simp [restsB] at h
theorem TkS.live (h : TkS sts (C.take j)) (hc : ChainL doms C d) (hu : C[j]? = some u) {dm : Dom} : TkS (sts.set u (liveP dm)) (C.take (j + 1)) := by
  have ht : C.take (j + 1) = C.take j ++ [u] := by rw [List.take_add_one, hu]; rfl
  intro m x hx
  rw [ht]
  rcases set_at' hx with ⟨rfl, rfl⟩ | ⟨hne, hx⟩
  · exact ⟨fun _ => rfl, fun hn => absurd (List.mem_append_right _ (List.mem_singleton.2 rfl)) hn⟩
  · refine ⟨fun hm => (h m x hx).1 ((List.mem_append.1 hm).resolve_right fun e => hne (List.mem_singleton.1 e)), fun hn => (h m x hx).2 fun hm => hn (List.mem_append_left _ hm)⟩
/-- the last one can be switched off -/
theorem TkS.down (h : TkS sts C) (hi : GInv doms sts) (hd : DomsOk doms) (hc : ChainL doms C d) {dm : Dom} (hdm : doms[d]? = some dm) (kp : Bool) :
    downE sts (d : Int) kp = (if kp = true ∧ dm.ret = false then 1 else 0) ∧ phaseP sts (d : Int) = 49 ∧ (¬ (kp = true ∧ dm.ret = false) → downT sts (d : Int) kp = sts.set d ⟨dm, 99, 0, kp⟩) := by
  obtain ⟨x, hx, rfl⟩ := hi.get hdm
  have hl := (h d x hx).1 (List.mem_of_getElem? hc.last)
  have hp : x.phase = 49 := by rw [hl]; rfl
  have hn : needB sts (d : Int) = false := by
    unfold needB
    rw [List.any_eq_false]
    intro y hy
    obtain ⟨m, hm, rfl⟩ := List.mem_iff_getElem.1 hy
    have hym := List.getElem?_eq_getElem hm
    by_cases e : (sts[m]).dom.above = (d : Int)
    · have hmd : d < m := by
        rcases hi.desc hd m _ hym with h1 | h1 <;> omega
      have hno : m ∉ C := by
        intro hmm
        obtain ⟨i, hio, hie⟩ := List.mem_iff_getElem.1 hmm
        by_cases e2 : i = C.length - 1
        · have := hc.last
          rw [← e2, List.getElem?_eq_getElem hio, hie] at this
          injection this with this
          omega
        · have := hc.inc i (C.length - 1) m d (by omega) (by rw [List.getElem?_eq_getElem hio, hie]) hc.last
          omega
      have := (h m _ hym).2 hno
      have hr : restsB (sts[m]).phase = true := by rw [this]; rfl
      simp [hr]
    · simp [e]
  have hE : downE sts (d : Int) kp = (if kp = true ∧ x.dom.ret = false then 1 else 0) := by
    refine (atP_at hx _ _).trans ?_
    rw [if_pos hp, if_neg (c := needB sts (d : Int) = true) (by simp [hn])]
  refine ⟨hE, (phaseP_at hx).trans hp, fun hk => ?_⟩
  unfold downT
  rw [hE, if_neg hk, if_pos rfl, setT_at _ hx]
  congr 1
  rw [hl]
  rfl
/-- .. and then the first one can't -/
theorem TkS.busy (h : TkS sts C) (hi : GInv doms sts) (hc : ChainL doms C d) (hl : 1 < C.length) {a : Nat} (ha : C[0]? = some a) {dm : Dom} {kp : Bool} (hdm : doms[d]? = some dm) : downE (sts.set d ⟨dm, 99, 0, kp⟩) (a : Int) false = 7 := by
  obtain ⟨c1, hb⟩ : ∃ c1, C[1]? = some c1 := ⟨_, List.getElem?_eq_getElem hl⟩
  have hal : a < sts.length := by rw [hi.len]; exact hc.lt _ (List.mem_of_getElem? ha)
  have hbl : c1 < sts.length := by rw [hi.len]; exact hc.lt _ (List.mem_of_getElem? hb)
  have hdl : d < sts.length := by rw [hi.len]; exact hc.lt _ (List.mem_of_getElem? hc.last)
  have had : a < d := hc.inc 0 (C.length - 1) a d (by omega) ha hc.last
  have hx := List.getElem?_eq_getElem hal
  have hy := List.getElem?_eq_getElem hbl
  have hyl := (h _ _ hy).1 (List.mem_of_getElem? hb)
  have hya := hc.link 0 a _ _ ha hb (hi.at_ hy)
  have hx' : (sts.set d ⟨dm, 99, 0, kp⟩)[a]? = some sts[a] := by rw [List.getElem?_set_ne (by omega)]; exact hx
  have hn : needB (sts.set d ⟨dm, 99, 0, kp⟩) (a : Int) = true := by
    unfold needB
    rw [List.any_eq_true]
    by_cases e : c1 = d
    · refine ⟨⟨dm, 99, 0, kp⟩, List.mem_of_getElem? (List.getElem?_set_self hdl), ?_⟩
      subst e
      have hyd := hi.at_ hy
      rw [hdm] at hyd
      injection hyd with hyd
      have : dm.above = (a : Int) := by rw [hyd]; exact hya
      simp [this, restsB]
    · refine ⟨sts[c1], List.mem_of_getElem? (i := c1) (by rw [List.getElem?_set_ne (Ne.symm e)]; exact hy), ?_⟩
      rw [hya, hyl]
      simp [restsB, liveP]
  refine (atP_at hx' _ _).trans ?_
  rw [if_pos (by rw [(h a _ hx).1 (List.mem_of_getElem? ha)]; rfl), if_neg (by simp), if_pos hn]
theorem TkS.again (h : TkS sts C) (hi : GInv doms sts) (hc : ChainL doms C d) {dm : Dom} (hdm : doms[d]? = some dm) (p : Int) (hp : restsB p = true) (kp : Bool) :
    upE (sts.set d ⟨dm, p, 0, kp⟩) (d : Int) = 0 ∧ upT (sts.set d ⟨dm, p, 0, kp⟩) (d : Int) = sts.set d ⟨dm, 114, dm.delay, kp⟩ := by
  obtain ⟨x, hx, rfl⟩ := hi.get hdm
  have hdl := get_lt' hx
  have hs := List.getElem?_set_self (a := (⟨x.dom, p, 0, kp⟩ : Pst)) hdl
  have hlen : C.length - 1 < C.length := by have := hc.pos; omega
  have htk : C.take C.length = C := List.take_length
  have hf : fedB (sts.set d ⟨x.dom, p, 0, kp⟩) x.dom.above = true := by
    have hfx : fedB sts x.dom.above = true := by
      apply GInv.mkfed
      by_cases e : C.length = 1
      · have hl := hc.last
        rw [e] at hl
        exact .inl (hc.root d _ hl (hi.at_ hx))
      · right
        have hb := List.getElem?_eq_getElem (l := C) (i := C.length - 2) (by omega)
        have hl := hc.last
        rw [show C.length - 1 = C.length - 2 + 1 by omega] at hl
        rw [hc.link _ _ d _ hb hl (hi.at_ hx)]
        have hvl : C[C.length - 2] < sts.length := by rw [hi.len]; exact hc.lt _ (List.getElem_mem _)
        rw [phaseP_at (List.getElem?_eq_getElem hvl), (h _ _ (List.getElem?_eq_getElem hvl)).1 (List.getElem_mem _)]
        rfl
    apply GInv.mkfed
    rcases GInv.fed49 hfx with h1 | h1
    · exact .inl h1
    · right
      rw [phaseP_set hx, if_neg, h1]
      intro e
      have := hc.inc
      rcases Nat.lt_or_ge 1 C.length with h2 | h2
      · have hb := List.getElem?_eq_getElem (l := C) (i := C.length - 2) (by omega)
        have hl := hc.last
        have hl' := hl
        rw [show C.length - 1 = C.length - 2 + 1 by omega] at hl'
        have := hc.link _ _ d _ hb hl' (hi.at_ hx)
        have := hc.inc _ _ _ _ (by omega : C.length - 2 < C.length - 1) hb hl
        omega
      · have hl := hc.last
        have : C.length - 1 = 0 := by omega
        rw [this] at hl
        have := hc.root d _ hl (hi.at_ hx)
        omega
  have hE : upE (sts.set d ⟨x.dom, p, 0, kp⟩) (d : Int) = 0 := (atP_at hs _ _).trans (if_pos ⟨hp, hf⟩)
  refine ⟨hE, ?_⟩
  unfold upT
  rw [if_pos hE, setT_at _ hs, List.set_set]
  rfl
end
end

section
set_option linter.unusedSimpArgs false
set_option linter.unusedVariables false
open Go.RowKit Go.Maps

/-- a grid in the statement, and the chain, which reads as it did -/
structure TkW (w3 wr : World) (gt g c : Nat) (doms : List Dom) (go : Nat) (C : List Nat) (sts : List Pst) : Prop where
  lw : Lw w3 wr gt g c doms sts
  row : IntsC [g] wr (some ⟨go, 0, none⟩) (ci C)
section
variable {w3 wr w' : World} {gt g c go : Nat} {doms : List Dom} {C : List Nat} {sts sts' : List Pst} (h : TkW w3 wr gt g c doms go C sts)
include h
theorem TkW.at1 {k u : Nat} (hu : C[k]? = some u) : wr.cell? ⟨go, k, none⟩ = some (.int .i64 (u : Int)) := by
  have hk := get_lt' hu
  have hl : (ci C).length = C.length := by unfold ci; simp
  obtain ⟨ad', e, _, _, hc⟩ := h.row (by omega)
  injection e with e
  subst e
  have := hc k _ (by unfold ci; rw [List.getElem?_map, hu]; rfl)
  rwa [Addr.add_lit, Nat.zero_add] at this
theorem TkW.up (i : Int) : Calls Try.prog 13 #[.pointer (some ⟨gt, 0, none⟩), .int .i64 i] wr (fun e w' => e = .returned (.int .i64 (upE sts i)) ∧ TkW w3 w' gt g c doms go C (upT sts i)) :=
  (h.lw.up i).mono fun e w' ⟨he, hl, hm⟩ => ⟨he, hl, h.row.move hm⟩
theorem TkW.down (i : Int) (kp : Bool) : Calls Try.prog 14 #[.pointer (some ⟨gt, 0, none⟩), .int .i64 i, .bool kp] wr (fun e w' => e = .returned (.int .i64 (downE sts i kp)) ∧ TkW w3 w' gt g c doms go C (downT sts i kp)) :=
  (h.lw.down i kp).mono fun e w' ⟨he, hl, hm⟩ => ⟨he, hl, h.row.move hm⟩
theorem TkW.drew : TkW w3 wr.drew gt g c doms go C sts := ⟨h.lw.calm ⟨rfl, rfl, rfl, Nat.le_refl _, fun _ _ _ => rfl⟩, h.row.move ⟨rfl, rfl, rfl, Nat.le_refl _, fun _ _ _ => rfl⟩⟩
end
def GVL : List Value → Nat → Value → Prop
  | [], _ => fun _ => True
  | x :: _, 0 => fun v => v = x
  | _ :: l, i + 1 => GVL l i
def stgL : List (List Pst) → Nat → List Pst
  | [], _ => []
  | x :: _, 0 => x
  | _ :: l, i + 1 => stgL l i
section
variable {P : Program} {ops : Array Oper} {T0 : Nat → Value} {m : Nat} {cl : Nat → Option Nat} {G : Nat → Value → Prop} {W : Nat → World → Prop} {i : Nat} {o : Oper}
theorem stepS_plain (hc : cl i = none) (hg : o.guard = none) (h : ∀ (T : Nat → Value) (w : World) (s : Nat), (∀ t, freeT ops t = true → T t = T0 t) → AllG G ops T (needs o) → s ≤ m → W s w → ∃ v, (execOp (evT T) o).run P w = .ok (.value v) w ∧ G i v) : StepS P ops T0 m cl G W i o := by
  intro T w hT hd
  rw [hc]
  intro s hs hW
  have : Region.wanted o (yldT ops T) = true := by unfold Region.wanted; rw [hg]
  rw [if_pos this]
  exact h T w s hT hd hs hW
theorem want_is {T : Nat → Value} (g d : Nat) (b r : Bool) (hg : o.guard = some (g, b)) (hgd : (ops[g]?).bind (·.dst) = some d) (h1 : T d = .bool r) : Region.wanted o (yldT ops T) = (r == b) := by
  unfold Region.wanted yldT
  rw [hg]
  simp only [hgd, Option.map_some, h1]
  cases b <;> cases r <;> rfl
theorem stepS_on (g d : Nat) (b : Bool) (hc : cl i = none) (hg : o.guard = some (g, b)) (hgd : (ops[g]?).bind (·.dst) = some d) (h : ∀ (T : Nat → Value) (w : World) (s : Nat), (∀ t, freeT ops t = true → T t = T0 t) → AllG G ops T (needs o) → s ≤ m → W s w → T d = .bool b ∧ ∃ v, (execOp (evT T) o).run P w = .ok (.value v) w ∧ G i v) : StepS P ops T0 m cl G W i o := by
  intro T w hT hd
  rw [hc]
  intro s hs hW
  obtain ⟨h1, h2⟩ := h T w s hT hd hs hW
  rw [if_pos (by rw [want_is g d b b hg hgd h1]; cases b <;> rfl)]
  exact h2
theorem stepS_off (g d : Nat) (b : Bool) (hc : cl i = none) (hg : o.guard = some (g, b)) (hgd : (ops[g]?).bind (·.dst) = some d) (h : ∀ (T : Nat → Value), (∀ t, freeT ops t = true → T t = T0 t) → AllG G ops T (needs o) → T d = .bool (!b) ∧ G i undef) : StepS P ops T0 m cl G W i o := by
  intro T w hT hd
  rw [hc]
  intro s hs hW
  obtain ⟨h1, h2⟩ := h T hT hd
  rw [if_neg (by rw [want_is g d b (!b) hg hgd h1]; cases b <;> decide)]
  exact h2
theorem stepC_on (t : Nat) (g d : Nat) (b : Bool) (hc : cl i = some t) (hg : o.guard = some (g, b)) (hgd : (ops[g]?).bind (·.dst) = some d) (h : ∀ (T : Nat → Value) (w : World), (∀ t, freeT ops t = true → T t = T0 t) → AllG G ops T (needs o) → W t w → T d = .bool b ∧ ∃ f args, (execOp (evT T) o).run P w = .ok (.enter f args) w ∧ Calls P f args w (fun e w' => ∃ v, e = .returned v ∧ G i v ∧ W (t + 1) w')) : StepS P ops T0 m cl G W i o := by
  intro T w hT hd
  rw [hc]
  intro hW
  obtain ⟨h1, h2⟩ := h T w hT hd hW
  rw [if_pos (by rw [want_is g d b b hg hgd h1]; cases b <;> rfl)]
  exact h2
theorem stepC_off (t : Nat) (g d : Nat) (b : Bool) (hc : cl i = some t) (hg : o.guard = some (g, b)) (hgd : (ops[g]?).bind (·.dst) = some d) (h : ∀ (T : Nat → Value), (∀ t, freeT ops t = true → T t = T0 t) → AllG G ops T (needs o) → T d = .bool (!b) ∧ G i undef) (hW' : ∀ w, W t w → W (t + 1) w) : StepS P ops T0 m cl G W i o := by
  intro T w hT hd
  rw [hc]
  intro hW
  obtain ⟨h1, h2⟩ := h T hT hd
  rw [if_neg (by rw [want_is g d b (!b) hg hgd h1]; cases b <;> decide)]
  exact ⟨h2, hW' w hW⟩
end
noncomputable def tkL0 : Code := lpC (blC (tlC (hdC (tlC (tlC (tlC (tlC (tlC (tlC (tlC (Try.f4.body.getD .skip)))))))))))
noncomputable def reg11 : Code := hdC (blC (hdC (tlC tkL0)))

set_option maxRecDepth 1000000 in
set_option maxHeartbeats 16000000 in
theorem reg11_a {u0 u1 u2 u3 u4 u5 u6 u7 u10 u11 u14 u15 u16 u17 u18 u19 u20 u21 u22 u23 u24 u25 u26 u27 u28 u29 u30 u31 u32 u33 u34 u35 u36 u37 u38 u39 u40 u41 u42 u43 u44 u45 u46 u47 u48 u49 u50 u51 u52 u53 u54 u55 u56 u57 u58 u59 u60 u61 u62 u63 u64 u65 u66 u67 u68 u69 u70 u71 u72 u73 u74 u75 u76 u77 u78 u79 u80 u81 u82 u83 u84 u85 u86 u87 u88 u89 u90 u91 u92 u93 u94 u95 u96 u97 u98 u99 u100 u101 u102 u103 u104 u105 u106 u107 u108 u109 u110 u111 u112 u113 u114 u115 u116 u117 u118 u119 u120 u121 u122 u123 u124 u125 u126 u127 u128 u129 u130 u131 u132 u133 u134 u135 u136 u137 u138 u139 u140 u141 u142 u143 u144 u145 u146 u147 u148 u149 u150 u151 u152 u153 u154 u155 u156 u157 u158 u159 u160 u161 u162 u163 u164 u165 u166 u167 u168 u169 u170 u171 u172 u173 u174 u175 u176 u177 u178 u179 u180 u181 u182 u183 u184 u185 u186 u187 u188 u189 u190 u191 : Value} (w3 w : World) (gt g cg b go L dc j nD c2 u : Nat) (a2 : Addr) (doms : List Dom) (dm : Dom) (C : List Nat) (sts : List Pst) (bv0 bv2 bv3 : Value) (Q : Exit → Act → World → Prop)
    (hbx : BoxAt w3 b [bv0, .slice (some a2) nD c2, bv2, bv3]) (hdv : StrsAt DomV 3 w3 w3.heap.size (some a2) doms) (hL4 : L ≤ 4) (hj : j < L) (hun : u < nD) (hnD : nD ≤ 4) (hu : C[j]? = some u) (hdm : doms[u]? = some dm) (hj1 : j + 1 < L) (v : Nat) (hv : C[j + 1]? = some v) (hnx : upE sts (v : Int) = 6 ∧ upT sts (v : Int) = sts) 
    (hup : upE sts (u : Int) = 0 ∧ upT sts (u : Int) = sts.set u ⟨dm, 114, dm.delay, false⟩) (hag : upE (sts.set u ⟨dm, 114, dm.delay, false⟩) (u : Int) = 6 ∧ upT (sts.set u ⟨dm, 114, dm.delay, false⟩) (u : Int) = sts.set u ⟨dm, 114, dm.delay, false⟩)
    (hrs : ∀ w, TkW w3 w gt g cg doms go C (sts.set u ⟨dm, 114, dm.delay, false⟩) → Calls Try.prog 18 #[.pointer (some ⟨gt, 0, none⟩), .int .i64 (u : Int), .int .i64 dm.delay, .int .u8 110] w (fun e w' => e = .returned (.bool true) ∧ TkW w3 w' gt g cg doms go C (sts.set u (liveP dm))))
    (hW : TkW w3 w gt g cg doms go C sts)
    (hQ : ∀ (v50 v51 v52 v53 v54 v55 v56 v57 v58 v59 v60 v61 v62 v63 v64 v65 v66 v67 v68 v69 v70 v71 v72 v73 v74 v75 v76 v77 v78 v79 v80 v81 v82 v83 v84 v85 v86 v87 v88 v89 v90 v91 v92 v93 v94 v95 v96 v97 v98 v99 : Value) (w' : World), TkW w3 w' gt g cg doms go C (sts.set u (liveP dm)) → Q .normal ⟨List.toArray (u0 :: u1 :: u2 :: u3 :: u4 :: u5 :: u6 :: u7 :: .pointer (some ⟨b, 0, none⟩) :: .pointer (some ⟨gt, 0, none⟩) :: u10 :: u11 :: .slice (some ⟨go, 0, none⟩) L dc :: .int .i64 (j : Int) :: u14 :: u15 :: u16 :: u17 :: u18 :: u19 :: u20 :: u21 :: u22 :: u23 :: u24 :: u25 :: u26 :: u27 :: u28 :: u29 :: u30 :: u31 :: u32 :: u33 :: u34 :: u35 :: u36 :: u37 :: u38 :: u39 :: u40 :: u41 :: u42 :: u43 :: u44 :: u45 :: u46 :: u47 :: u48 :: u49 :: v50 :: v51 :: v52 :: v53 :: v54 :: v55 :: v56 :: v57 :: v58 :: v59 :: v60 :: v61 :: v62 :: v63 :: v64 :: v65 :: v66 :: v67 :: v68 :: v69 :: v70 :: v71 :: v72 :: v73 :: v74 :: v75 :: v76 :: v77 :: v78 :: v79 :: v80 :: v81 :: v82 :: v83 :: v84 :: v85 :: v86 :: v87 :: v88 :: v89 :: v90 :: v91 :: v92 :: v93 :: v94 :: v95 :: v96 :: v97 :: v98 :: v99 :: .bool false :: u101 :: u102 :: u103 :: u104 :: u105 :: u106 :: u107 :: u108 :: u109 :: u110 :: u111 :: u112 :: u113 :: u114 :: u115 :: u116 :: u117 :: u118 :: u119 :: u120 :: u121 :: u122 :: u123 :: u124 :: u125 :: u126 :: u127 :: u128 :: u129 :: u130 :: u131 :: u132 :: u133 :: u134 :: u135 :: u136 :: u137 :: u138 :: u139 :: u140 :: u141 :: u142 :: u143 :: u144 :: u145 :: u146 :: u147 :: u148 :: u149 :: u150 :: u151 :: u152 :: u153 :: u154 :: u155 :: u156 :: u157 :: u158 :: u159 :: u160 :: u161 :: u162 :: u163 :: u164 :: u165 :: u166 :: u167 :: u168 :: u169 :: u170 :: u171 :: u172 :: u173 :: u174 :: u175 :: u176 :: u177 :: u178 :: u179 :: u180 :: u181 :: u182 :: u183 :: u184 :: u185 :: u186 :: u187 :: u188 :: u189 :: u190 :: u191 :: []), []⟩ w') :
    Code.wp Try.prog reg11 Q ⟨List.toArray (u0 :: u1 :: u2 :: u3 :: u4 :: u5 :: u6 :: u7 :: .pointer (some ⟨b, 0, none⟩) :: .pointer (some ⟨gt, 0, none⟩) :: u10 :: u11 :: .slice (some ⟨go, 0, none⟩) L dc :: .int .i64 (j : Int) :: u14 :: u15 :: u16 :: u17 :: u18 :: u19 :: u20 :: u21 :: u22 :: u23 :: u24 :: u25 :: u26 :: u27 :: u28 :: u29 :: u30 :: u31 :: u32 :: u33 :: u34 :: u35 :: u36 :: u37 :: u38 :: u39 :: u40 :: u41 :: u42 :: u43 :: u44 :: u45 :: u46 :: u47 :: u48 :: u49 :: u50 :: u51 :: u52 :: u53 :: u54 :: u55 :: u56 :: u57 :: u58 :: u59 :: u60 :: u61 :: u62 :: u63 :: u64 :: u65 :: u66 :: u67 :: u68 :: u69 :: u70 :: u71 :: u72 :: u73 :: u74 :: u75 :: u76 :: u77 :: u78 :: u79 :: u80 :: u81 :: u82 :: u83 :: u84 :: u85 :: u86 :: u87 :: u88 :: u89 :: u90 :: u91 :: u92 :: u93 :: u94 :: u95 :: u96 :: u97 :: u98 :: u99 :: u100 :: u101 :: u102 :: u103 :: u104 :: u105 :: u106 :: u107 :: u108 :: u109 :: u110 :: u111 :: u112 :: u113 :: u114 :: u115 :: u116 :: u117 :: u118 :: u119 :: u120 :: u121 :: u122 :: u123 :: u124 :: u125 :: u126 :: u127 :: u128 :: u129 :: u130 :: u131 :: u132 :: u133 :: u134 :: u135 :: u136 :: u137 :: u138 :: u139 :: u140 :: u141 :: u142 :: u143 :: u144 :: u145 :: u146 :: u147 :: u148 :: u149 :: u150 :: u151 :: u152 :: u153 :: u154 :: u155 :: u156 :: u157 :: u158 :: u159 :: u160 :: u161 :: u162 :: u163 :: u164 :: u165 :: u166 :: u167 :: u168 :: u169 :: u170 :: u171 :: u172 :: u173 :: u174 :: u175 :: u176 :: u177 :: u178 :: u179 :: u180 :: u181 :: u182 :: u183 :: u184 :: u185 :: u186 :: u187 :: u188 :: u189 :: u190 :: u191 :: []), []⟩ w := by
  have HQ := Lib.hid hQ
  clear hQ
  have hWd := hW.drew
  have j0 : (0 : Int) ≤ (j : Int) := by omega
  have j1 : (j : Int) < (L : Int) := by omega
  have j2 : (0 : Int) ≤ (j : Int) + 1 := by omega
  have jw : IntKind.i64.wrap ((j : Int) + 1) = (j : Int) + 1 := by rw [IntWalk.i64_in _ (by omega)]
  have jt : ((j : Int) + 1).toNat = j + 1 := by omega
  have k0 : (0 : Int) ≤ (u : Int) := by omega
  have k1 : (u : Int) < (nD : Int) := by omega
  have hjl : (j : Int) + 1 < (L : Int) := by omega
  conv => arg 2; whnf
  refine region_staged 4 (fun t => match t with | 0 => 12 | 1 => 21 | 2 => 30 | _ => 48) (fun i => if i = 12 then some 0 else if i = 21 then some 1 else if i = 30 then some 2 else if i = 48 then some 3 else none) (GVL (.int .i64 (j : Int) :: .int .i64 ((j : Int) + 1) :: .slice (some ⟨go, 0, none⟩) L dc :: .int .i64 (L : Int) :: .bool true :: .bool true :: .pointer (some ⟨gt, 0, none⟩) :: .slice (some ⟨go, 0, none⟩) L dc :: .int .i64 (j : Int) :: .int .i64 ((j : Int) + 1) :: .pointer (some ⟨go, j + 1, none⟩) :: .int .i64 (v : Int) :: .int .i64 6 :: .bool false :: .bool false :: .bool false :: .pointer (some ⟨gt, 0, none⟩) :: .slice (some ⟨go, 0, none⟩) L dc :: .int .i64 (j : Int) :: .pointer (some ⟨go, j, none⟩) :: .int .i64 (u : Int) :: .int .i64 0 :: .bool false :: .bool false :: .bool false :: .pointer (some ⟨gt, 0, none⟩) :: .slice (some ⟨go, 0, none⟩) L dc :: .int .i64 (j : Int) :: .pointer (some ⟨go, j, none⟩) :: .int .i64 (u : Int) :: .int .i64 6 :: .bool false :: .bool false :: .bool false :: .pointer (some ⟨gt, 0, none⟩) :: .slice (some ⟨go, 0, none⟩) L dc :: .int .i64 (j : Int) :: .pointer (some ⟨go, j, none⟩) :: .int .i64 (u : Int) :: .pointer (some ⟨b, 1, none⟩) :: .slice (some a2) nD c2 :: .slice (some ⟨go, 0, none⟩) L dc :: .int .i64 (j : Int) :: .pointer (some ⟨go, j, none⟩) :: .int .i64 (u : Int) :: .pointer (some (a2.add (u * 3))) :: .pointer (some ⟨(a2.add (u * 3)).block, (a2.add (u * 3)).off + 1, none⟩) :: .int .i64 dm.delay :: .bool true :: .bool false :: .bool false :: [])) (fun s w => TkW w3 w gt g cg doms go C (stgL [sts, sts, sts.set u ⟨dm, 114, dm.delay, false⟩, sts.set u ⟨dm, 114, dm.delay, false⟩, sts.set u (liveP dm)] s)) 192 (by kernel_rfl) rfl (by kernel_rfl) ⟨?ca, ?cb, ?cp⟩ ?cs ?c0 ⟨?s0, ?s1, ?s2, ?s3, ?s4, ?s5, ?s6, ?s7, ?s8, ?s9, ?s10, ?s11, ?s12, ?s13, ?s14, ?s15, ?s16, ?s17, ?s18, ?s19, ?s20, ?s21, ?s22, ?s23, ?s24, ?s25, ?s26, ?s27, ?s28, ?s29, ?s30, ?s31, ?s32, ?s33, ?s34, ?s35, ?s36, ?s37, ?s38, ?s39, ?s40, ?s41, ?s42, ?s43, ?s44, ?s45, ?s46, ?s47, ?s48, ?s49, ?s50, trivial⟩ ?fin
  case ca =>
    intro i t h
    split at h
    · injection h with h; subst h; rename_i e; exact ⟨by omega, e.symm⟩
    · split at h
      · injection h with h; subst h; rename_i e; exact ⟨by omega, e.symm⟩
      · split at h
        · injection h with h; subst h; rename_i e; exact ⟨by omega, e.symm⟩
        · split at h
          · injection h with h; subst h; rename_i e; exact ⟨by omega, e.symm⟩
          · cases h
  case cb =>
    intro t ht
    match t, ht with
    | 0, _ => rfl
    | 1, _ => rfl
    | 2, _ => rfl
    | 3, _ => rfl
  case cp =>
    intro t ht
    match t, ht with
    | 0, _ => exact ⟨[15, 14, 13, 12], by kernel_rfl, by simp, rfl⟩
    | 1, _ => exact ⟨[24, 23, 22, 21], by kernel_rfl, by simp, rfl⟩
    | 2, _ => exact ⟨[33, 32, 31, 30], by kernel_rfl, by simp, rfl⟩
  case cs =>
    intro t ht
    match t, ht with
    | 0, _ => exact (by decide : 12 < 51)
    | 1, _ => exact (by decide : 21 < 51)
    | 2, _ => exact (by decide : 30 < 51)
    | 3, _ => exact (by decide : 48 < 51)
  case c0 => exact hWd
  case s0 =>
    refine stepS_plain rfl rfl (fun T w1 s hT hd hs hW => ?_)
    have ec := evT_const T
    have ef := evT_func T
    have d13 : evT T (.tmp 13) = .int .i64 (j : Int) := hT 13 (by kernel_rfl)
    clear hT hd hW
    refine ⟨.int .i64 (j : Int), ?_, rfl⟩
    simp only [execOp]
    go_simp
  case s1 =>
    refine stepS_plain rfl rfl (fun T w1 s hT hd hs hW => ?_)
    have ec := evT_const T
    have ef := evT_func T
    have d50 : evT T (.tmp 50) = .int .i64 (j : Int) := (by first | exact hd.1 | exact hd.2.1 | exact hd.2.2.1 | exact hd.2.2.2.1 | exact hd.2.2.2.2.1 | exact hd.2.2.2.2.2.1)
    clear hT hd hW
    refine ⟨.int .i64 ((j : Int) + 1), ?_, rfl⟩
    simp only [execOp]
    go_simp
  case s2 =>
    refine stepS_plain rfl rfl (fun T w1 s hT hd hs hW => ?_)
    have ec := evT_const T
    have ef := evT_func T
    have d12 : evT T (.tmp 12) = .slice (some ⟨go, 0, none⟩) L dc := hT 12 (by kernel_rfl)
    clear hT hd hW
    refine ⟨.slice (some ⟨go, 0, none⟩) L dc, ?_, rfl⟩
    simp only [execOp]
    go_simp
  case s3 =>
    refine stepS_plain rfl rfl (fun T w1 s hT hd hs hW => ?_)
    have ec := evT_const T
    have ef := evT_func T
    have d52 : evT T (.tmp 52) = .slice (some ⟨go, 0, none⟩) L dc := (by first | exact hd.1 | exact hd.2.1 | exact hd.2.2.1 | exact hd.2.2.2.1 | exact hd.2.2.2.2.1 | exact hd.2.2.2.2.2.1)
    clear hT hd hW
    refine ⟨.int .i64 (L : Int), ?_, rfl⟩
    simp only [execOp]
    go_simp
  case s4 =>
    refine stepS_plain rfl rfl (fun T w1 s hT hd hs hW => ?_)
    have ec := evT_const T
    have ef := evT_func T
    have d51 : evT T (.tmp 51) = .int .i64 ((j : Int) + 1) := (by first | exact hd.1 | exact hd.2.1 | exact hd.2.2.1 | exact hd.2.2.2.1 | exact hd.2.2.2.2.1 | exact hd.2.2.2.2.2.1)
    have d53 : evT T (.tmp 53) = .int .i64 (L : Int) := (by first | exact hd.1 | exact hd.2.1 | exact hd.2.2.1 | exact hd.2.2.2.1 | exact hd.2.2.2.2.1 | exact hd.2.2.2.2.2.1)
    clear hT hd hW
    refine ⟨.bool true, ?_, rfl⟩
    simp only [execOp]
    go_simp
  case s5 =>
    refine stepS_plain rfl rfl (fun T w1 s hT hd hs hW => ?_)
    have ec := evT_const T
    have ef := evT_func T
    have d54 : evT T (.tmp 54) = .bool true := (by first | exact hd.1 | exact hd.2.1 | exact hd.2.2.1 | exact hd.2.2.2.1 | exact hd.2.2.2.2.1 | exact hd.2.2.2.2.2.1)
    clear hT hd hW
    refine ⟨.bool true, ?_, rfl⟩
    simp only [execOp]
    go_simp
  case s6 =>
    refine stepS_on 5 55 true rfl rfl rfl (fun T w1 s hT hd hs hW => ⟨(by first | exact hd.1 | exact hd.2.1 | exact hd.2.2.1 | exact hd.2.2.2.1 | exact hd.2.2.2.2.1 | exact hd.2.2.2.2.2.1), ?_⟩)
    have ec := evT_const T
    have ef := evT_func T
    have d9 : evT T (.tmp 9) = .pointer (some ⟨gt, 0, none⟩) := hT 9 (by kernel_rfl)
    clear hT hd hW
    refine ⟨.pointer (some ⟨gt, 0, none⟩), ?_, rfl⟩
    simp only [execOp]
    go_simp
  case s7 =>
    refine stepS_on 5 55 true rfl rfl rfl (fun T w1 s hT hd hs hW => ⟨(by first | exact hd.1 | exact hd.2.1 | exact hd.2.2.1 | exact hd.2.2.2.1 | exact hd.2.2.2.2.1 | exact hd.2.2.2.2.2.1), ?_⟩)
    have ec := evT_const T
    have ef := evT_func T
    have d12 : evT T (.tmp 12) = .slice (some ⟨go, 0, none⟩) L dc := hT 12 (by kernel_rfl)
    clear hT hd hW
    refine ⟨.slice (some ⟨go, 0, none⟩) L dc, ?_, rfl⟩
    simp only [execOp]
    go_simp
  case s8 =>
    refine stepS_on 5 55 true rfl rfl rfl (fun T w1 s hT hd hs hW => ⟨(by first | exact hd.1 | exact hd.2.1 | exact hd.2.2.1 | exact hd.2.2.2.1 | exact hd.2.2.2.2.1 | exact hd.2.2.2.2.2.1), ?_⟩)
    have ec := evT_const T
    have ef := evT_func T
    have d13 : evT T (.tmp 13) = .int .i64 (j : Int) := hT 13 (by kernel_rfl)
    clear hT hd hW
    refine ⟨.int .i64 (j : Int), ?_, rfl⟩
    simp only [execOp]
    go_simp
  case s9 =>
    refine stepS_on 5 55 true rfl rfl rfl (fun T w1 s hT hd hs hW => ⟨(by first | exact hd.1 | exact hd.2.1 | exact hd.2.2.1 | exact hd.2.2.2.1 | exact hd.2.2.2.2.1 | exact hd.2.2.2.2.2.1), ?_⟩)
    have ec := evT_const T
    have ef := evT_func T
    have d58 : evT T (.tmp 58) = .int .i64 (j : Int) := (by first | exact hd.1 | exact hd.2.1 | exact hd.2.2.1 | exact hd.2.2.2.1 | exact hd.2.2.2.2.1 | exact hd.2.2.2.2.2.1)
    clear hT hd hW
    refine ⟨.int .i64 ((j : Int) + 1), ?_, rfl⟩
    simp only [execOp]
    go_simp
  case s10 =>
    refine stepS_on 5 55 true rfl rfl rfl (fun T w1 s hT hd hs hW => ⟨(by first | exact hd.1 | exact hd.2.1 | exact hd.2.2.1 | exact hd.2.2.2.1 | exact hd.2.2.2.2.1 | exact hd.2.2.2.2.2.1), ?_⟩)
    have ec := evT_const T
    have ef := evT_func T
    have d57 : evT T (.tmp 57) = .slice (some ⟨go, 0, none⟩) L dc := (by first | exact hd.1 | exact hd.2.1 | exact hd.2.2.1 | exact hd.2.2.2.1 | exact hd.2.2.2.2.1 | exact hd.2.2.2.2.2.1)
    have d59 : evT T (.tmp 59) = .int .i64 ((j : Int) + 1) := (by first | exact hd.1 | exact hd.2.1 | exact hd.2.2.1 | exact hd.2.2.2.1 | exact hd.2.2.2.2.1 | exact hd.2.2.2.2.2.1)
    clear hT hd hW
    refine ⟨.pointer (some ⟨go, j + 1, none⟩), ?_, rfl⟩
    simp only [execOp]
    go_simp
  case s11 =>
    refine stepS_on 5 55 true rfl rfl rfl (fun T w1 s hT hd hs hW => ⟨(by first | exact hd.1 | exact hd.2.1 | exact hd.2.2.1 | exact hd.2.2.2.1 | exact hd.2.2.2.2.1 | exact hd.2.2.2.2.2.1), ?_⟩)
    have ec := evT_const T
    have ef := evT_func T
    have d60 : evT T (.tmp 60) = .pointer (some ⟨go, j + 1, none⟩) := (by first | exact hd.1 | exact hd.2.1 | exact hd.2.2.1 | exact hd.2.2.2.1 | exact hd.2.2.2.2.1 | exact hd.2.2.2.2.2.1)
    have q1 := hW.at1 hv
    clear hT hd hW
    refine ⟨.int .i64 (v : Int), ?_, rfl⟩
    simp only [execOp]
    go_simp
  case s12 =>
    refine stepC_on 0 5 55 true rfl rfl rfl (fun T w1 hT hd hW => ⟨(by first | exact hd.1 | exact hd.2.1 | exact hd.2.2.1 | exact hd.2.2.2.1 | exact hd.2.2.2.2.1 | exact hd.2.2.2.2.2.1), ?_⟩)
    have ec := evT_const T
    have ef := evT_func T
    have d56 : evT T (.tmp 56) = .pointer (some ⟨gt, 0, none⟩) := (by first | exact hd.1 | exact hd.2.1 | exact hd.2.2.1 | exact hd.2.2.2.1 | exact hd.2.2.2.2.1 | exact hd.2.2.2.2.2.1)
    have d61 : evT T (.tmp 61) = .int .i64 (v : Int) := (by first | exact hd.1 | exact hd.2.1 | exact hd.2.2.1 | exact hd.2.2.2.1 | exact hd.2.2.2.2.1 | exact hd.2.2.2.2.2.1)
    refine ⟨13, #[.pointer (some ⟨gt, 0, none⟩), .int .i64 (v : Int)], ?_, ?_⟩
    · clear hT hd hW
      simp only [execOp, resolve]
      go_simp
    · have hX : TkW w3 w1 gt g cg doms go C sts := hW
      refine (hX.up (v : Int)).mono ?_
      rintro e w2 ⟨rfl, h2⟩
      rw [hnx.2] at h2
      exact ⟨_, rfl, by show Value.int .i64 (upE sts (v : Int)) = .int .i64 6; rw [hnx.1], h2⟩
  case s13 =>
    refine stepS_on 5 55 true rfl rfl rfl (fun T w1 s hT hd hs hW => ⟨(by first | exact hd.1 | exact hd.2.1 | exact hd.2.2.1 | exact hd.2.2.2.1 | exact hd.2.2.2.2.1 | exact hd.2.2.2.2.2.1), ?_⟩)
    have ec := evT_const T
    have ef := evT_func T
    have d62 : evT T (.tmp 62) = .int .i64 6 := (by first | exact hd.1 | exact hd.2.1 | exact hd.2.2.1 | exact hd.2.2.2.1 | exact hd.2.2.2.2.1 | exact hd.2.2.2.2.2.1)
    clear hT hd hW
    refine ⟨.bool false, ?_, rfl⟩
    simp only [execOp]
    go_simp
  case s14 =>
    refine stepS_plain rfl rfl (fun T w1 s hT hd hs hW => ?_)
    have ec := evT_const T
    have ef := evT_func T
    have d55 : evT T (.tmp 55) = .bool true := (by first | exact hd.1 | exact hd.2.1 | exact hd.2.2.1 | exact hd.2.2.2.1 | exact hd.2.2.2.2.1 | exact hd.2.2.2.2.2.1)
    have d63 : evT T (.tmp 63) = .bool false := (by first | exact hd.1 | exact hd.2.1 | exact hd.2.2.1 | exact hd.2.2.2.1 | exact hd.2.2.2.2.1 | exact hd.2.2.2.2.2.1)
    clear hT hd hW
    refine ⟨.bool false, ?_, rfl⟩
    simp only [execOp]
    go_simp
  case s15 =>
    refine stepS_plain rfl rfl (fun T w1 s hT hd hs hW => ?_)
    have ec := evT_const T
    have ef := evT_func T
    have d64 : evT T (.tmp 64) = .bool false := (by first | exact hd.1 | exact hd.2.1 | exact hd.2.2.1 | exact hd.2.2.2.1 | exact hd.2.2.2.2.1 | exact hd.2.2.2.2.2.1)
    clear hT hd hW
    refine ⟨.bool false, ?_, rfl⟩
    simp only [execOp]
    go_simp
  case s16 =>
    refine stepS_on 15 65 false rfl rfl rfl (fun T w1 s hT hd hs hW => ⟨(by first | exact hd.1 | exact hd.2.1 | exact hd.2.2.1 | exact hd.2.2.2.1 | exact hd.2.2.2.2.1 | exact hd.2.2.2.2.2.1), ?_⟩)
    have ec := evT_const T
    have ef := evT_func T
    have d9 : evT T (.tmp 9) = .pointer (some ⟨gt, 0, none⟩) := hT 9 (by kernel_rfl)
    clear hT hd hW
    refine ⟨.pointer (some ⟨gt, 0, none⟩), ?_, rfl⟩
    simp only [execOp]
    go_simp
  case s17 =>
    refine stepS_on 15 65 false rfl rfl rfl (fun T w1 s hT hd hs hW => ⟨(by first | exact hd.1 | exact hd.2.1 | exact hd.2.2.1 | exact hd.2.2.2.1 | exact hd.2.2.2.2.1 | exact hd.2.2.2.2.2.1), ?_⟩)
    have ec := evT_const T
    have ef := evT_func T
    have d12 : evT T (.tmp 12) = .slice (some ⟨go, 0, none⟩) L dc := hT 12 (by kernel_rfl)
    clear hT hd hW
    refine ⟨.slice (some ⟨go, 0, none⟩) L dc, ?_, rfl⟩
    simp only [execOp]
    go_simp
  case s18 =>
    refine stepS_on 15 65 false rfl rfl rfl (fun T w1 s hT hd hs hW => ⟨(by first | exact hd.1 | exact hd.2.1 | exact hd.2.2.1 | exact hd.2.2.2.1 | exact hd.2.2.2.2.1 | exact hd.2.2.2.2.2.1), ?_⟩)
    have ec := evT_const T
    have ef := evT_func T
    have d13 : evT T (.tmp 13) = .int .i64 (j : Int) := hT 13 (by kernel_rfl)
    clear hT hd hW
    refine ⟨.int .i64 (j : Int), ?_, rfl⟩
    simp only [execOp]
    go_simp
  case s19 =>
    refine stepS_on 15 65 false rfl rfl rfl (fun T w1 s hT hd hs hW => ⟨(by first | exact hd.1 | exact hd.2.1 | exact hd.2.2.1 | exact hd.2.2.2.1 | exact hd.2.2.2.2.1 | exact hd.2.2.2.2.2.1), ?_⟩)
    have ec := evT_const T
    have ef := evT_func T
    have d67 : evT T (.tmp 67) = .slice (some ⟨go, 0, none⟩) L dc := (by first | exact hd.1 | exact hd.2.1 | exact hd.2.2.1 | exact hd.2.2.2.1 | exact hd.2.2.2.2.1 | exact hd.2.2.2.2.2.1)
    have d68 : evT T (.tmp 68) = .int .i64 (j : Int) := (by first | exact hd.1 | exact hd.2.1 | exact hd.2.2.1 | exact hd.2.2.2.1 | exact hd.2.2.2.2.1 | exact hd.2.2.2.2.2.1)
    clear hT hd hW
    refine ⟨.pointer (some ⟨go, j, none⟩), ?_, rfl⟩
    simp only [execOp]
    go_simp
  case s20 =>
    refine stepS_on 15 65 false rfl rfl rfl (fun T w1 s hT hd hs hW => ⟨(by first | exact hd.1 | exact hd.2.1 | exact hd.2.2.1 | exact hd.2.2.2.1 | exact hd.2.2.2.2.1 | exact hd.2.2.2.2.2.1), ?_⟩)
    have ec := evT_const T
    have ef := evT_func T
    have d69 : evT T (.tmp 69) = .pointer (some ⟨go, j, none⟩) := (by first | exact hd.1 | exact hd.2.1 | exact hd.2.2.1 | exact hd.2.2.2.1 | exact hd.2.2.2.2.1 | exact hd.2.2.2.2.2.1)
    have q1 := hW.at1 hu
    clear hT hd hW
    refine ⟨.int .i64 (u : Int), ?_, rfl⟩
    simp only [execOp]
    go_simp
  case s21 =>
    refine stepC_on 1 15 65 false rfl rfl rfl (fun T w1 hT hd hW => ⟨(by first | exact hd.1 | exact hd.2.1 | exact hd.2.2.1 | exact hd.2.2.2.1 | exact hd.2.2.2.2.1 | exact hd.2.2.2.2.2.1), ?_⟩)
    have ec := evT_const T
    have ef := evT_func T
    have d66 : evT T (.tmp 66) = .pointer (some ⟨gt, 0, none⟩) := (by first | exact hd.1 | exact hd.2.1 | exact hd.2.2.1 | exact hd.2.2.2.1 | exact hd.2.2.2.2.1 | exact hd.2.2.2.2.2.1)
    have d70 : evT T (.tmp 70) = .int .i64 (u : Int) := (by first | exact hd.1 | exact hd.2.1 | exact hd.2.2.1 | exact hd.2.2.2.1 | exact hd.2.2.2.2.1 | exact hd.2.2.2.2.2.1)
    refine ⟨13, #[.pointer (some ⟨gt, 0, none⟩), .int .i64 (u : Int)], ?_, ?_⟩
    · clear hT hd hW
      simp only [execOp, resolve]
      go_simp
    · have hX : TkW w3 w1 gt g cg doms go C sts := hW
      refine (hX.up (u : Int)).mono ?_
      rintro e w2 ⟨rfl, h2⟩
      rw [hup.2] at h2
      exact ⟨_, rfl, by show Value.int .i64 (upE sts (u : Int)) = .int .i64 0; rw [hup.1], h2⟩
  case s22 =>
    refine stepS_on 15 65 false rfl rfl rfl (fun T w1 s hT hd hs hW => ⟨(by first | exact hd.1 | exact hd.2.1 | exact hd.2.2.1 | exact hd.2.2.2.1 | exact hd.2.2.2.2.1 | exact hd.2.2.2.2.2.1), ?_⟩)
    have ec := evT_const T
    have ef := evT_func T
    have d71 : evT T (.tmp 71) = .int .i64 0 := (by first | exact hd.1 | exact hd.2.1 | exact hd.2.2.1 | exact hd.2.2.2.1 | exact hd.2.2.2.2.1 | exact hd.2.2.2.2.2.1)
    clear hT hd hW
    refine ⟨.bool false, ?_, rfl⟩
    simp only [execOp]
    go_simp
  case s23 =>
    refine stepS_plain rfl rfl (fun T w1 s hT hd hs hW => ?_)
    have ec := evT_const T
    have ef := evT_func T
    have d65 : evT T (.tmp 65) = .bool false := (by first | exact hd.1 | exact hd.2.1 | exact hd.2.2.1 | exact hd.2.2.2.1 | exact hd.2.2.2.2.1 | exact hd.2.2.2.2.2.1)
    have d72 : evT T (.tmp 72) = .bool false := (by first | exact hd.1 | exact hd.2.1 | exact hd.2.2.1 | exact hd.2.2.2.1 | exact hd.2.2.2.2.1 | exact hd.2.2.2.2.2.1)
    clear hT hd hW
    refine ⟨.bool false, ?_, rfl⟩
    simp only [execOp]
    go_simp
  case s24 =>
    refine stepS_plain rfl rfl (fun T w1 s hT hd hs hW => ?_)
    have ec := evT_const T
    have ef := evT_func T
    have d73 : evT T (.tmp 73) = .bool false := (by first | exact hd.1 | exact hd.2.1 | exact hd.2.2.1 | exact hd.2.2.2.1 | exact hd.2.2.2.2.1 | exact hd.2.2.2.2.2.1)
    clear hT hd hW
    refine ⟨.bool false, ?_, rfl⟩
    simp only [execOp]
    go_simp
  case s25 =>
    refine stepS_on 24 74 false rfl rfl rfl (fun T w1 s hT hd hs hW => ⟨(by first | exact hd.1 | exact hd.2.1 | exact hd.2.2.1 | exact hd.2.2.2.1 | exact hd.2.2.2.2.1 | exact hd.2.2.2.2.2.1), ?_⟩)
    have ec := evT_const T
    have ef := evT_func T
    have d9 : evT T (.tmp 9) = .pointer (some ⟨gt, 0, none⟩) := hT 9 (by kernel_rfl)
    clear hT hd hW
    refine ⟨.pointer (some ⟨gt, 0, none⟩), ?_, rfl⟩
    simp only [execOp]
    go_simp
  case s26 =>
    refine stepS_on 24 74 false rfl rfl rfl (fun T w1 s hT hd hs hW => ⟨(by first | exact hd.1 | exact hd.2.1 | exact hd.2.2.1 | exact hd.2.2.2.1 | exact hd.2.2.2.2.1 | exact hd.2.2.2.2.2.1), ?_⟩)
    have ec := evT_const T
    have ef := evT_func T
    have d12 : evT T (.tmp 12) = .slice (some ⟨go, 0, none⟩) L dc := hT 12 (by kernel_rfl)
    clear hT hd hW
    refine ⟨.slice (some ⟨go, 0, none⟩) L dc, ?_, rfl⟩
    simp only [execOp]
    go_simp
  case s27 =>
    refine stepS_on 24 74 false rfl rfl rfl (fun T w1 s hT hd hs hW => ⟨(by first | exact hd.1 | exact hd.2.1 | exact hd.2.2.1 | exact hd.2.2.2.1 | exact hd.2.2.2.2.1 | exact hd.2.2.2.2.2.1), ?_⟩)
    have ec := evT_const T
    have ef := evT_func T
    have d13 : evT T (.tmp 13) = .int .i64 (j : Int) := hT 13 (by kernel_rfl)
    clear hT hd hW
    refine ⟨.int .i64 (j : Int), ?_, rfl⟩
    simp only [execOp]
    go_simp
  case s28 =>
    refine stepS_on 24 74 false rfl rfl rfl (fun T w1 s hT hd hs hW => ⟨(by first | exact hd.1 | exact hd.2.1 | exact hd.2.2.1 | exact hd.2.2.2.1 | exact hd.2.2.2.2.1 | exact hd.2.2.2.2.2.1), ?_⟩)
    have ec := evT_const T
    have ef := evT_func T
    have d76 : evT T (.tmp 76) = .slice (some ⟨go, 0, none⟩) L dc := (by first | exact hd.1 | exact hd.2.1 | exact hd.2.2.1 | exact hd.2.2.2.1 | exact hd.2.2.2.2.1 | exact hd.2.2.2.2.2.1)
    have d77 : evT T (.tmp 77) = .int .i64 (j : Int) := (by first | exact hd.1 | exact hd.2.1 | exact hd.2.2.1 | exact hd.2.2.2.1 | exact hd.2.2.2.2.1 | exact hd.2.2.2.2.2.1)
    clear hT hd hW
    refine ⟨.pointer (some ⟨go, j, none⟩), ?_, rfl⟩
    simp only [execOp]
    go_simp
  case s29 =>
    refine stepS_on 24 74 false rfl rfl rfl (fun T w1 s hT hd hs hW => ⟨(by first | exact hd.1 | exact hd.2.1 | exact hd.2.2.1 | exact hd.2.2.2.1 | exact hd.2.2.2.2.1 | exact hd.2.2.2.2.2.1), ?_⟩)
    have ec := evT_const T
    have ef := evT_func T
    have d78 : evT T (.tmp 78) = .pointer (some ⟨go, j, none⟩) := (by first | exact hd.1 | exact hd.2.1 | exact hd.2.2.1 | exact hd.2.2.2.1 | exact hd.2.2.2.2.1 | exact hd.2.2.2.2.2.1)
    have q1 := hW.at1 hu
    clear hT hd hW
    refine ⟨.int .i64 (u : Int), ?_, rfl⟩
    simp only [execOp]
    go_simp
  case s30 =>
    refine stepC_on 2 24 74 false rfl rfl rfl (fun T w1 hT hd hW => ⟨(by first | exact hd.1 | exact hd.2.1 | exact hd.2.2.1 | exact hd.2.2.2.1 | exact hd.2.2.2.2.1 | exact hd.2.2.2.2.2.1), ?_⟩)
    have ec := evT_const T
    have ef := evT_func T
    have d75 : evT T (.tmp 75) = .pointer (some ⟨gt, 0, none⟩) := (by first | exact hd.1 | exact hd.2.1 | exact hd.2.2.1 | exact hd.2.2.2.1 | exact hd.2.2.2.2.1 | exact hd.2.2.2.2.2.1)
    have d79 : evT T (.tmp 79) = .int .i64 (u : Int) := (by first | exact hd.1 | exact hd.2.1 | exact hd.2.2.1 | exact hd.2.2.2.1 | exact hd.2.2.2.2.1 | exact hd.2.2.2.2.2.1)
    refine ⟨13, #[.pointer (some ⟨gt, 0, none⟩), .int .i64 (u : Int)], ?_, ?_⟩
    · clear hT hd hW
      simp only [execOp, resolve]
      go_simp
    · have hX : TkW w3 w1 gt g cg doms go C (sts.set u ⟨dm, 114, dm.delay, false⟩) := hW
      refine (hX.up (u : Int)).mono ?_
      rintro e w2 ⟨rfl, h2⟩
      rw [hag.2] at h2
      exact ⟨_, rfl, by show Value.int .i64 (upE (sts.set u ⟨dm, 114, dm.delay, false⟩) (u : Int)) = .int .i64 6; rw [hag.1], h2⟩
  case s31 =>
    refine stepS_on 24 74 false rfl rfl rfl (fun T w1 s hT hd hs hW => ⟨(by first | exact hd.1 | exact hd.2.1 | exact hd.2.2.1 | exact hd.2.2.2.1 | exact hd.2.2.2.2.1 | exact hd.2.2.2.2.2.1), ?_⟩)
    have ec := evT_const T
    have ef := evT_func T
    have d80 : evT T (.tmp 80) = .int .i64 6 := (by first | exact hd.1 | exact hd.2.1 | exact hd.2.2.1 | exact hd.2.2.2.1 | exact hd.2.2.2.2.1 | exact hd.2.2.2.2.2.1)
    clear hT hd hW
    refine ⟨.bool false, ?_, rfl⟩
    simp only [execOp]
    go_simp
  case s32 =>
    refine stepS_plain rfl rfl (fun T w1 s hT hd hs hW => ?_)
    have ec := evT_const T
    have ef := evT_func T
    have d74 : evT T (.tmp 74) = .bool false := (by first | exact hd.1 | exact hd.2.1 | exact hd.2.2.1 | exact hd.2.2.2.1 | exact hd.2.2.2.2.1 | exact hd.2.2.2.2.2.1)
    have d81 : evT T (.tmp 81) = .bool false := (by first | exact hd.1 | exact hd.2.1 | exact hd.2.2.1 | exact hd.2.2.2.1 | exact hd.2.2.2.2.1 | exact hd.2.2.2.2.2.1)
    clear hT hd hW
    refine ⟨.bool false, ?_, rfl⟩
    simp only [execOp]
    go_simp
  case s33 =>
    refine stepS_plain rfl rfl (fun T w1 s hT hd hs hW => ?_)
    have ec := evT_const T
    have ef := evT_func T
    have d82 : evT T (.tmp 82) = .bool false := (by first | exact hd.1 | exact hd.2.1 | exact hd.2.2.1 | exact hd.2.2.2.1 | exact hd.2.2.2.2.1 | exact hd.2.2.2.2.2.1)
    clear hT hd hW
    refine ⟨.bool false, ?_, rfl⟩
    simp only [execOp]
    go_simp
  case s34 =>
    refine stepS_on 33 83 false rfl rfl rfl (fun T w1 s hT hd hs hW => ⟨(by first | exact hd.1 | exact hd.2.1 | exact hd.2.2.1 | exact hd.2.2.2.1 | exact hd.2.2.2.2.1 | exact hd.2.2.2.2.2.1), ?_⟩)
    have ec := evT_const T
    have ef := evT_func T
    have d9 : evT T (.tmp 9) = .pointer (some ⟨gt, 0, none⟩) := hT 9 (by kernel_rfl)
    clear hT hd hW
    refine ⟨.pointer (some ⟨gt, 0, none⟩), ?_, rfl⟩
    simp only [execOp]
    go_simp
  case s35 =>
    refine stepS_on 33 83 false rfl rfl rfl (fun T w1 s hT hd hs hW => ⟨(by first | exact hd.1 | exact hd.2.1 | exact hd.2.2.1 | exact hd.2.2.2.1 | exact hd.2.2.2.2.1 | exact hd.2.2.2.2.2.1), ?_⟩)
    have ec := evT_const T
    have ef := evT_func T
    have d12 : evT T (.tmp 12) = .slice (some ⟨go, 0, none⟩) L dc := hT 12 (by kernel_rfl)
    clear hT hd hW
    refine ⟨.slice (some ⟨go, 0, none⟩) L dc, ?_, rfl⟩
    simp only [execOp]
    go_simp
  case s36 =>
    refine stepS_on 33 83 false rfl rfl rfl (fun T w1 s hT hd hs hW => ⟨(by first | exact hd.1 | exact hd.2.1 | exact hd.2.2.1 | exact hd.2.2.2.1 | exact hd.2.2.2.2.1 | exact hd.2.2.2.2.2.1), ?_⟩)
    have ec := evT_const T
    have ef := evT_func T
    have d13 : evT T (.tmp 13) = .int .i64 (j : Int) := hT 13 (by kernel_rfl)
    clear hT hd hW
    refine ⟨.int .i64 (j : Int), ?_, rfl⟩
    simp only [execOp]
    go_simp
  case s37 =>
    refine stepS_on 33 83 false rfl rfl rfl (fun T w1 s hT hd hs hW => ⟨(by first | exact hd.1 | exact hd.2.1 | exact hd.2.2.1 | exact hd.2.2.2.1 | exact hd.2.2.2.2.1 | exact hd.2.2.2.2.2.1), ?_⟩)
    have ec := evT_const T
    have ef := evT_func T
    have d85 : evT T (.tmp 85) = .slice (some ⟨go, 0, none⟩) L dc := (by first | exact hd.1 | exact hd.2.1 | exact hd.2.2.1 | exact hd.2.2.2.1 | exact hd.2.2.2.2.1 | exact hd.2.2.2.2.2.1)
    have d86 : evT T (.tmp 86) = .int .i64 (j : Int) := (by first | exact hd.1 | exact hd.2.1 | exact hd.2.2.1 | exact hd.2.2.2.1 | exact hd.2.2.2.2.1 | exact hd.2.2.2.2.2.1)
    clear hT hd hW
    refine ⟨.pointer (some ⟨go, j, none⟩), ?_, rfl⟩
    simp only [execOp]
    go_simp
  case s38 =>
    refine stepS_on 33 83 false rfl rfl rfl (fun T w1 s hT hd hs hW => ⟨(by first | exact hd.1 | exact hd.2.1 | exact hd.2.2.1 | exact hd.2.2.2.1 | exact hd.2.2.2.2.1 | exact hd.2.2.2.2.2.1), ?_⟩)
    have ec := evT_const T
    have ef := evT_func T
    have d87 : evT T (.tmp 87) = .pointer (some ⟨go, j, none⟩) := (by first | exact hd.1 | exact hd.2.1 | exact hd.2.2.1 | exact hd.2.2.2.1 | exact hd.2.2.2.2.1 | exact hd.2.2.2.2.2.1)
    have q1 := hW.at1 hu
    clear hT hd hW
    refine ⟨.int .i64 (u : Int), ?_, rfl⟩
    simp only [execOp]
    go_simp
  case s39 =>
    refine stepS_on 33 83 false rfl rfl rfl (fun T w1 s hT hd hs hW => ⟨(by first | exact hd.1 | exact hd.2.1 | exact hd.2.2.1 | exact hd.2.2.2.1 | exact hd.2.2.2.2.1 | exact hd.2.2.2.2.2.1), ?_⟩)
    have ec := evT_const T
    have ef := evT_func T
    have d8 : evT T (.tmp 8) = .pointer (some ⟨b, 0, none⟩) := hT 8 (by kernel_rfl)
    clear hT hd hW
    refine ⟨.pointer (some ⟨b, 1, none⟩), ?_, rfl⟩
    simp only [execOp]
    go_simp
  case s40 =>
    refine stepS_on 33 83 false rfl rfl rfl (fun T w1 s hT hd hs hW => ⟨(by first | exact hd.1 | exact hd.2.1 | exact hd.2.2.1 | exact hd.2.2.2.1 | exact hd.2.2.2.2.1 | exact hd.2.2.2.2.2.1), ?_⟩)
    have ec := evT_const T
    have ef := evT_func T
    have d89 : evT T (.tmp 89) = .pointer (some ⟨b, 1, none⟩) := (by first | exact hd.1 | exact hd.2.1 | exact hd.2.2.1 | exact hd.2.2.2.1 | exact hd.2.2.2.2.1 | exact hd.2.2.2.2.2.1)
    have q1 := (hW.lw.box hbx 1 _ rfl).1
    clear hT hd hW
    refine ⟨.slice (some a2) nD c2, ?_, rfl⟩
    simp only [execOp]
    go_simp
  case s41 =>
    refine stepS_on 33 83 false rfl rfl rfl (fun T w1 s hT hd hs hW => ⟨(by first | exact hd.1 | exact hd.2.1 | exact hd.2.2.1 | exact hd.2.2.2.1 | exact hd.2.2.2.2.1 | exact hd.2.2.2.2.2.1), ?_⟩)
    have ec := evT_const T
    have ef := evT_func T
    have d12 : evT T (.tmp 12) = .slice (some ⟨go, 0, none⟩) L dc := hT 12 (by kernel_rfl)
    clear hT hd hW
    refine ⟨.slice (some ⟨go, 0, none⟩) L dc, ?_, rfl⟩
    simp only [execOp]
    go_simp
  case s42 =>
    refine stepS_on 33 83 false rfl rfl rfl (fun T w1 s hT hd hs hW => ⟨(by first | exact hd.1 | exact hd.2.1 | exact hd.2.2.1 | exact hd.2.2.2.1 | exact hd.2.2.2.2.1 | exact hd.2.2.2.2.2.1), ?_⟩)
    have ec := evT_const T
    have ef := evT_func T
    have d13 : evT T (.tmp 13) = .int .i64 (j : Int) := hT 13 (by kernel_rfl)
    clear hT hd hW
    refine ⟨.int .i64 (j : Int), ?_, rfl⟩
    simp only [execOp]
    go_simp
  case s43 =>
    refine stepS_on 33 83 false rfl rfl rfl (fun T w1 s hT hd hs hW => ⟨(by first | exact hd.1 | exact hd.2.1 | exact hd.2.2.1 | exact hd.2.2.2.1 | exact hd.2.2.2.2.1 | exact hd.2.2.2.2.2.1), ?_⟩)
    have ec := evT_const T
    have ef := evT_func T
    have d91 : evT T (.tmp 91) = .slice (some ⟨go, 0, none⟩) L dc := (by first | exact hd.1 | exact hd.2.1 | exact hd.2.2.1 | exact hd.2.2.2.1 | exact hd.2.2.2.2.1 | exact hd.2.2.2.2.2.1)
    have d92 : evT T (.tmp 92) = .int .i64 (j : Int) := (by first | exact hd.1 | exact hd.2.1 | exact hd.2.2.1 | exact hd.2.2.2.1 | exact hd.2.2.2.2.1 | exact hd.2.2.2.2.2.1)
    clear hT hd hW
    refine ⟨.pointer (some ⟨go, j, none⟩), ?_, rfl⟩
    simp only [execOp]
    go_simp
  case s44 =>
    refine stepS_on 33 83 false rfl rfl rfl (fun T w1 s hT hd hs hW => ⟨(by first | exact hd.1 | exact hd.2.1 | exact hd.2.2.1 | exact hd.2.2.2.1 | exact hd.2.2.2.2.1 | exact hd.2.2.2.2.2.1), ?_⟩)
    have ec := evT_const T
    have ef := evT_func T
    have d93 : evT T (.tmp 93) = .pointer (some ⟨go, j, none⟩) := (by first | exact hd.1 | exact hd.2.1 | exact hd.2.2.1 | exact hd.2.2.2.1 | exact hd.2.2.2.2.1 | exact hd.2.2.2.2.2.1)
    have q1 := hW.at1 hu
    clear hT hd hW
    refine ⟨.int .i64 (u : Int), ?_, rfl⟩
    simp only [execOp]
    go_simp
  case s45 =>
    refine stepS_on 33 83 false rfl rfl rfl (fun T w1 s hT hd hs hW => ⟨(by first | exact hd.1 | exact hd.2.1 | exact hd.2.2.1 | exact hd.2.2.2.1 | exact hd.2.2.2.2.1 | exact hd.2.2.2.2.2.1), ?_⟩)
    have ec := evT_const T
    have ef := evT_func T
    have d90 : evT T (.tmp 90) = .slice (some a2) nD c2 := (by first | exact hd.1 | exact hd.2.1 | exact hd.2.2.1 | exact hd.2.2.2.1 | exact hd.2.2.2.2.1 | exact hd.2.2.2.2.2.1)
    have d94 : evT T (.tmp 94) = .int .i64 (u : Int) := (by first | exact hd.1 | exact hd.2.1 | exact hd.2.2.1 | exact hd.2.2.2.1 | exact hd.2.2.2.2.1 | exact hd.2.2.2.2.2.1)
    clear hT hd hW
    refine ⟨.pointer (some (a2.add (u * 3))), ?_, rfl⟩
    simp only [execOp]
    go_simp
  case s46 =>
    refine stepS_on 33 83 false rfl rfl rfl (fun T w1 s hT hd hs hW => ⟨(by first | exact hd.1 | exact hd.2.1 | exact hd.2.2.1 | exact hd.2.2.2.1 | exact hd.2.2.2.2.1 | exact hd.2.2.2.2.2.1), ?_⟩)
    have ec := evT_const T
    have ef := evT_func T
    have d95 : evT T (.tmp 95) = .pointer (some (a2.add (u * 3))) := (by first | exact hd.1 | exact hd.2.1 | exact hd.2.2.1 | exact hd.2.2.2.1 | exact hd.2.2.2.2.1 | exact hd.2.2.2.2.2.1)
    clear hT hd hW
    refine ⟨.pointer (some ⟨(a2.add (u * 3)).block, (a2.add (u * 3)).off + 1, none⟩), ?_, rfl⟩
    simp only [execOp]
    go_simp
  case s47 =>
    refine stepS_on 33 83 false rfl rfl rfl (fun T w1 s hT hd hs hW => ⟨(by first | exact hd.1 | exact hd.2.1 | exact hd.2.2.1 | exact hd.2.2.2.1 | exact hd.2.2.2.2.1 | exact hd.2.2.2.2.2.1), ?_⟩)
    have ec := evT_const T
    have ef := evT_func T
    have d96 : evT T (.tmp 96) = .pointer (some ⟨(a2.add (u * 3)).block, (a2.add (u * 3)).off + 1, none⟩) := (by first | exact hd.1 | exact hd.2.1 | exact hd.2.2.1 | exact hd.2.2.2.1 | exact hd.2.2.2.2.1 | exact hd.2.2.2.2.2.1)
    obtain ⟨a3, e3, -, q1, -⟩ := doms_cells hdv hW.lw.bel hdm
    injection e3 with e3
    subst e3
    clear hT hd hW
    refine ⟨.int .i64 dm.delay, ?_, rfl⟩
    simp only [execOp]
    go_simp
  case s48 =>
    refine stepC_on 3 33 83 false rfl rfl rfl (fun T w1 hT hd hW => ⟨(by first | exact hd.1 | exact hd.2.1 | exact hd.2.2.1 | exact hd.2.2.2.1 | exact hd.2.2.2.2.1 | exact hd.2.2.2.2.2.1), ?_⟩)
    have ec := evT_const T
    have ef := evT_func T
    have d84 : evT T (.tmp 84) = .pointer (some ⟨gt, 0, none⟩) := (by first | exact hd.1 | exact hd.2.1 | exact hd.2.2.1 | exact hd.2.2.2.1 | exact hd.2.2.2.2.1 | exact hd.2.2.2.2.2.1)
    have d88 : evT T (.tmp 88) = .int .i64 (u : Int) := (by first | exact hd.1 | exact hd.2.1 | exact hd.2.2.1 | exact hd.2.2.2.1 | exact hd.2.2.2.2.1 | exact hd.2.2.2.2.2.1)
    have d97 : evT T (.tmp 97) = .int .i64 dm.delay := (by first | exact hd.1 | exact hd.2.1 | exact hd.2.2.1 | exact hd.2.2.2.1 | exact hd.2.2.2.2.1 | exact hd.2.2.2.2.2.1)
    refine ⟨18, #[.pointer (some ⟨gt, 0, none⟩), .int .i64 (u : Int), .int .i64 dm.delay, .int .u8 110], ?_, ?_⟩
    · clear hT hd hW
      simp only [execOp, resolve]
      go_simp
    · refine (hrs w1 hW).mono ?_
      rintro e w2 ⟨rfl, h2⟩
      exact ⟨_, rfl, rfl, h2⟩
  case s49 =>
    refine stepS_on 33 83 false rfl rfl rfl (fun T w1 s hT hd hs hW => ⟨(by first | exact hd.1 | exact hd.2.1 | exact hd.2.2.1 | exact hd.2.2.2.1 | exact hd.2.2.2.2.1 | exact hd.2.2.2.2.2.1), ?_⟩)
    have ec := evT_const T
    have ef := evT_func T
    have d98 : evT T (.tmp 98) = .bool true := (by first | exact hd.1 | exact hd.2.1 | exact hd.2.2.1 | exact hd.2.2.2.1 | exact hd.2.2.2.2.1 | exact hd.2.2.2.2.2.1)
    clear hT hd hW
    refine ⟨.bool false, ?_, rfl⟩
    simp only [execOp]
    go_simp
  case s50 =>
    refine stepS_plain rfl rfl (fun T w1 s hT hd hs hW => ?_)
    have ec := evT_const T
    have ef := evT_func T
    have d83 : evT T (.tmp 83) = .bool false := (by first | exact hd.1 | exact hd.2.1 | exact hd.2.2.1 | exact hd.2.2.2.1 | exact hd.2.2.2.2.1 | exact hd.2.2.2.2.2.1)
    have d99 : evT T (.tmp 99) = .bool false := (by first | exact hd.1 | exact hd.2.1 | exact hd.2.2.1 | exact hd.2.2.2.1 | exact hd.2.2.2.2.1 | exact hd.2.2.2.2.2.1)
    clear hT hd hW
    refine ⟨.bool false, ?_, rfl⟩
    simp only [execOp]
    go_simp
  case fin =>
    intro T w1 hT hW hd
    have e100 : T 100 = .bool false := hd.2.2.2.2.2.2.2.2.2.2.2.2.2.2.2.2.2.2.2.2.2.2.2.2.2.2.2.2.2.2.2.2.2.2.2.2.2.2.2.2.2.2.2.2.2.2.2.2.2.2.1
    have hl : listT T 192 = List.toArray (T 0 :: T 1 :: T 2 :: T 3 :: T 4 :: T 5 :: T 6 :: T 7 :: T 8 :: T 9 :: T 10 :: T 11 :: T 12 :: T 13 :: T 14 :: T 15 :: T 16 :: T 17 :: T 18 :: T 19 :: T 20 :: T 21 :: T 22 :: T 23 :: T 24 :: T 25 :: T 26 :: T 27 :: T 28 :: T 29 :: T 30 :: T 31 :: T 32 :: T 33 :: T 34 :: T 35 :: T 36 :: T 37 :: T 38 :: T 39 :: T 40 :: T 41 :: T 42 :: T 43 :: T 44 :: T 45 :: T 46 :: T 47 :: T 48 :: T 49 :: T 50 :: T 51 :: T 52 :: T 53 :: T 54 :: T 55 :: T 56 :: T 57 :: T 58 :: T 59 :: T 60 :: T 61 :: T 62 :: T 63 :: T 64 :: T 65 :: T 66 :: T 67 :: T 68 :: T 69 :: T 70 :: T 71 :: T 72 :: T 73 :: T 74 :: T 75 :: T 76 :: T 77 :: T 78 :: T 79 :: T 80 :: T 81 :: T 82 :: T 83 :: T 84 :: T 85 :: T 86 :: T 87 :: T 88 :: T 89 :: T 90 :: T 91 :: T 92 :: T 93 :: T 94 :: T 95 :: T 96 :: T 97 :: T 98 :: T 99 :: T 100 :: T 101 :: T 102 :: T 103 :: T 104 :: T 105 :: T 106 :: T 107 :: T 108 :: T 109 :: T 110 :: T 111 :: T 112 :: T 113 :: T 114 :: T 115 :: T 116 :: T 117 :: T 118 :: T 119 :: T 120 :: T 121 :: T 122 :: T 123 :: T 124 :: T 125 :: T 126 :: T 127 :: T 128 :: T 129 :: T 130 :: T 131 :: T 132 :: T 133 :: T 134 :: T 135 :: T 136 :: T 137 :: T 138 :: T 139 :: T 140 :: T 141 :: T 142 :: T 143 :: T 144 :: T 145 :: T 146 :: T 147 :: T 148 :: T 149 :: T 150 :: T 151 :: T 152 :: T 153 :: T 154 :: T 155 :: T 156 :: T 157 :: T 158 :: T 159 :: T 160 :: T 161 :: T 162 :: T 163 :: T 164 :: T 165 :: T 166 :: T 167 :: T 168 :: T 169 :: T 170 :: T 171 :: T 172 :: T 173 :: T 174 :: T 175 :: T 176 :: T 177 :: T 178 :: T 179 :: T 180 :: T 181 :: T 182 :: T 183 :: T 184 :: T 185 :: T 186 :: T 187 :: T 188 :: T 189 :: T 190 :: T 191 :: []) := rfl
    have e0 : T 0 = u0 := hT 0 (by kernel_rfl)
    have e1 : T 1 = u1 := hT 1 (by kernel_rfl)
    have e2 : T 2 = u2 := hT 2 (by kernel_rfl)
    have e3 : T 3 = u3 := hT 3 (by kernel_rfl)
    have e4 : T 4 = u4 := hT 4 (by kernel_rfl)
    have e5 : T 5 = u5 := hT 5 (by kernel_rfl)
    have e6 : T 6 = u6 := hT 6 (by kernel_rfl)
    have e7 : T 7 = u7 := hT 7 (by kernel_rfl)
    have e8 : T 8 = .pointer (some ⟨b, 0, none⟩) := hT 8 (by kernel_rfl)
    have e9 : T 9 = .pointer (some ⟨gt, 0, none⟩) := hT 9 (by kernel_rfl)
    have e10 : T 10 = u10 := hT 10 (by kernel_rfl)
    have e11 : T 11 = u11 := hT 11 (by kernel_rfl)
    have e12 : T 12 = .slice (some ⟨go, 0, none⟩) L dc := hT 12 (by kernel_rfl)
    have e13 : T 13 = .int .i64 (j : Int) := hT 13 (by kernel_rfl)
    have e14 : T 14 = u14 := hT 14 (by kernel_rfl)
    have e15 : T 15 = u15 := hT 15 (by kernel_rfl)
    have e16 : T 16 = u16 := hT 16 (by kernel_rfl)
    have e17 : T 17 = u17 := hT 17 (by kernel_rfl)
    have e18 : T 18 = u18 := hT 18 (by kernel_rfl)
    have e19 : T 19 = u19 := hT 19 (by kernel_rfl)
    have e20 : T 20 = u20 := hT 20 (by kernel_rfl)
    have e21 : T 21 = u21 := hT 21 (by kernel_rfl)
    have e22 : T 22 = u22 := hT 22 (by kernel_rfl)
    have e23 : T 23 = u23 := hT 23 (by kernel_rfl)
    have e24 : T 24 = u24 := hT 24 (by kernel_rfl)
    have e25 : T 25 = u25 := hT 25 (by kernel_rfl)
    have e26 : T 26 = u26 := hT 26 (by kernel_rfl)
    have e27 : T 27 = u27 := hT 27 (by kernel_rfl)
    have e28 : T 28 = u28 := hT 28 (by kernel_rfl)
    have e29 : T 29 = u29 := hT 29 (by kernel_rfl)
    have e30 : T 30 = u30 := hT 30 (by kernel_rfl)
    have e31 : T 31 = u31 := hT 31 (by kernel_rfl)
    have e32 : T 32 = u32 := hT 32 (by kernel_rfl)
    have e33 : T 33 = u33 := hT 33 (by kernel_rfl)
    have e34 : T 34 = u34 := hT 34 (by kernel_rfl)
    have e35 : T 35 = u35 := hT 35 (by kernel_rfl)
    have e36 : T 36 = u36 := hT 36 (by kernel_rfl)
    have e37 : T 37 = u37 := hT 37 (by kernel_rfl)
    have e38 : T 38 = u38 := hT 38 (by kernel_rfl)
    have e39 : T 39 = u39 := hT 39 (by kernel_rfl)
    have e40 : T 40 = u40 := hT 40 (by kernel_rfl)
    have e41 : T 41 = u41 := hT 41 (by kernel_rfl)
    have e42 : T 42 = u42 := hT 42 (by kernel_rfl)
    have e43 : T 43 = u43 := hT 43 (by kernel_rfl)
    have e44 : T 44 = u44 := hT 44 (by kernel_rfl)
    have e45 : T 45 = u45 := hT 45 (by kernel_rfl)
    have e46 : T 46 = u46 := hT 46 (by kernel_rfl)
    have e47 : T 47 = u47 := hT 47 (by kernel_rfl)
    have e48 : T 48 = u48 := hT 48 (by kernel_rfl)
    have e49 : T 49 = u49 := hT 49 (by kernel_rfl)
    have e101 : T 101 = u101 := hT 101 (by kernel_rfl)
    have e102 : T 102 = u102 := hT 102 (by kernel_rfl)
    have e103 : T 103 = u103 := hT 103 (by kernel_rfl)
    have e104 : T 104 = u104 := hT 104 (by kernel_rfl)
    have e105 : T 105 = u105 := hT 105 (by kernel_rfl)
    have e106 : T 106 = u106 := hT 106 (by kernel_rfl)
    have e107 : T 107 = u107 := hT 107 (by kernel_rfl)
    have e108 : T 108 = u108 := hT 108 (by kernel_rfl)
    have e109 : T 109 = u109 := hT 109 (by kernel_rfl)
    have e110 : T 110 = u110 := hT 110 (by kernel_rfl)
    have e111 : T 111 = u111 := hT 111 (by kernel_rfl)
    have e112 : T 112 = u112 := hT 112 (by kernel_rfl)
    have e113 : T 113 = u113 := hT 113 (by kernel_rfl)
    have e114 : T 114 = u114 := hT 114 (by kernel_rfl)
    have e115 : T 115 = u115 := hT 115 (by kernel_rfl)
    have e116 : T 116 = u116 := hT 116 (by kernel_rfl)
    have e117 : T 117 = u117 := hT 117 (by kernel_rfl)
    have e118 : T 118 = u118 := hT 118 (by kernel_rfl)
    have e119 : T 119 = u119 := hT 119 (by kernel_rfl)
    have e120 : T 120 = u120 := hT 120 (by kernel_rfl)
    have e121 : T 121 = u121 := hT 121 (by kernel_rfl)
    have e122 : T 122 = u122 := hT 122 (by kernel_rfl)
    have e123 : T 123 = u123 := hT 123 (by kernel_rfl)
    have e124 : T 124 = u124 := hT 124 (by kernel_rfl)
    have e125 : T 125 = u125 := hT 125 (by kernel_rfl)
    have e126 : T 126 = u126 := hT 126 (by kernel_rfl)
    have e127 : T 127 = u127 := hT 127 (by kernel_rfl)
    have e128 : T 128 = u128 := hT 128 (by kernel_rfl)
    have e129 : T 129 = u129 := hT 129 (by kernel_rfl)
    have e130 : T 130 = u130 := hT 130 (by kernel_rfl)
    have e131 : T 131 = u131 := hT 131 (by kernel_rfl)
    have e132 : T 132 = u132 := hT 132 (by kernel_rfl)
    have e133 : T 133 = u133 := hT 133 (by kernel_rfl)
    have e134 : T 134 = u134 := hT 134 (by kernel_rfl)
    have e135 : T 135 = u135 := hT 135 (by kernel_rfl)
    have e136 : T 136 = u136 := hT 136 (by kernel_rfl)
    have e137 : T 137 = u137 := hT 137 (by kernel_rfl)
    have e138 : T 138 = u138 := hT 138 (by kernel_rfl)
    have e139 : T 139 = u139 := hT 139 (by kernel_rfl)
    have e140 : T 140 = u140 := hT 140 (by kernel_rfl)
    have e141 : T 141 = u141 := hT 141 (by kernel_rfl)
    have e142 : T 142 = u142 := hT 142 (by kernel_rfl)
    have e143 : T 143 = u143 := hT 143 (by kernel_rfl)
    have e144 : T 144 = u144 := hT 144 (by kernel_rfl)
    have e145 : T 145 = u145 := hT 145 (by kernel_rfl)
    have e146 : T 146 = u146 := hT 146 (by kernel_rfl)
    have e147 : T 147 = u147 := hT 147 (by kernel_rfl)
    have e148 : T 148 = u148 := hT 148 (by kernel_rfl)
    have e149 : T 149 = u149 := hT 149 (by kernel_rfl)
    have e150 : T 150 = u150 := hT 150 (by kernel_rfl)
    have e151 : T 151 = u151 := hT 151 (by kernel_rfl)
    have e152 : T 152 = u152 := hT 152 (by kernel_rfl)
    have e153 : T 153 = u153 := hT 153 (by kernel_rfl)
    have e154 : T 154 = u154 := hT 154 (by kernel_rfl)
    have e155 : T 155 = u155 := hT 155 (by kernel_rfl)
    have e156 : T 156 = u156 := hT 156 (by kernel_rfl)
    have e157 : T 157 = u157 := hT 157 (by kernel_rfl)
    have e158 : T 158 = u158 := hT 158 (by kernel_rfl)
    have e159 : T 159 = u159 := hT 159 (by kernel_rfl)
    have e160 : T 160 = u160 := hT 160 (by kernel_rfl)
    have e161 : T 161 = u161 := hT 161 (by kernel_rfl)
    have e162 : T 162 = u162 := hT 162 (by kernel_rfl)
    have e163 : T 163 = u163 := hT 163 (by kernel_rfl)
    have e164 : T 164 = u164 := hT 164 (by kernel_rfl)
    have e165 : T 165 = u165 := hT 165 (by kernel_rfl)
    have e166 : T 166 = u166 := hT 166 (by kernel_rfl)
    have e167 : T 167 = u167 := hT 167 (by kernel_rfl)
    have e168 : T 168 = u168 := hT 168 (by kernel_rfl)
    have e169 : T 169 = u169 := hT 169 (by kernel_rfl)
    have e170 : T 170 = u170 := hT 170 (by kernel_rfl)
    have e171 : T 171 = u171 := hT 171 (by kernel_rfl)
    have e172 : T 172 = u172 := hT 172 (by kernel_rfl)
    have e173 : T 173 = u173 := hT 173 (by kernel_rfl)
    have e174 : T 174 = u174 := hT 174 (by kernel_rfl)
    have e175 : T 175 = u175 := hT 175 (by kernel_rfl)
    have e176 : T 176 = u176 := hT 176 (by kernel_rfl)
    have e177 : T 177 = u177 := hT 177 (by kernel_rfl)
    have e178 : T 178 = u178 := hT 178 (by kernel_rfl)
    have e179 : T 179 = u179 := hT 179 (by kernel_rfl)
    have e180 : T 180 = u180 := hT 180 (by kernel_rfl)
    have e181 : T 181 = u181 := hT 181 (by kernel_rfl)
    have e182 : T 182 = u182 := hT 182 (by kernel_rfl)
    have e183 : T 183 = u183 := hT 183 (by kernel_rfl)
    have e184 : T 184 = u184 := hT 184 (by kernel_rfl)
    have e185 : T 185 = u185 := hT 185 (by kernel_rfl)
    have e186 : T 186 = u186 := hT 186 (by kernel_rfl)
    have e187 : T 187 = u187 := hT 187 (by kernel_rfl)
    have e188 : T 188 = u188 := hT 188 (by kernel_rfl)
    have e189 : T 189 = u189 := hT 189 (by kernel_rfl)
    have e190 : T 190 = u190 := hT 190 (by kernel_rfl)
    have e191 : T 191 = u191 := hT 191 (by kernel_rfl)
    rw [hl, e100, e0, e1, e2, e3, e4, e5, e6, e7, e8, e9, e10, e11, e12, e13, e14, e15, e16, e17, e18, e19, e20, e21, e22, e23, e24, e25, e26, e27, e28, e29, e30, e31, e32, e33, e34, e35, e36, e37, e38, e39, e40, e41, e42, e43, e44, e45, e46, e47, e48, e49, e101, e102, e103, e104, e105, e106, e107, e108, e109, e110, e111, e112, e113, e114, e115, e116, e117, e118, e119, e120, e121, e122, e123, e124, e125, e126, e127, e128, e129, e130, e131, e132, e133, e134, e135, e136, e137, e138, e139, e140, e141, e142, e143, e144, e145, e146, e147, e148, e149, e150, e151, e152, e153, e154, e155, e156, e157, e158, e159, e160, e161, e162, e163, e164, e165, e166, e167, e168, e169, e170, e171, e172, e173, e174, e175, e176, e177, e178, e179, e180, e181, e182, e183, e184, e185, e186, e187, e188, e189, e190, e191]
    exact HQ.out _ _ _ _ _ _ _ _ _ _ _ _ _ _ _ _ _ _ _ _ _ _ _ _ _ _ _ _ _ _ _ _ _ _ _ _ _ _ _ _ _ _ _ _ _ _ _ _ _ _ w1 hW

set_option maxRecDepth 1000000 in
set_option maxHeartbeats 16000000 in
theorem reg11_b {u0 u1 u2 u3 u4 u5 u6 u7 u10 u11 u14 u15 u16 u17 u18 u19 u20 u21 u22 u23 u24 u25 u26 u27 u28 u29 u30 u31 u32 u33 u34 u35 u36 u37 u38 u39 u40 u41 u42 u43 u44 u45 u46 u47 u48 u49 u50 u51 u52 u53 u54 u55 u56 u57 u58 u59 u60 u61 u62 u63 u64 u65 u66 u67 u68 u69 u70 u71 u72 u73 u74 u75 u76 u77 u78 u79 u80 u81 u82 u83 u84 u85 u86 u87 u88 u89 u90 u91 u92 u93 u94 u95 u96 u97 u98 u99 u100 u101 u102 u103 u104 u105 u106 u107 u108 u109 u110 u111 u112 u113 u114 u115 u116 u117 u118 u119 u120 u121 u122 u123 u124 u125 u126 u127 u128 u129 u130 u131 u132 u133 u134 u135 u136 u137 u138 u139 u140 u141 u142 u143 u144 u145 u146 u147 u148 u149 u150 u151 u152 u153 u154 u155 u156 u157 u158 u159 u160 u161 u162 u163 u164 u165 u166 u167 u168 u169 u170 u171 u172 u173 u174 u175 u176 u177 u178 u179 u180 u181 u182 u183 u184 u185 u186 u187 u188 u189 u190 u191 : Value} (w3 w : World) (gt g cg b go L dc j nD c2 u : Nat) (a2 : Addr) (doms : List Dom) (dm : Dom) (C : List Nat) (sts : List Pst) (bv0 bv2 bv3 : Value) (Q : Exit → Act → World → Prop)
    (hbx : BoxAt w3 b [bv0, .slice (some a2) nD c2, bv2, bv3]) (hdv : StrsAt DomV 3 w3 w3.heap.size (some a2) doms) (hL4 : L ≤ 4) (hj : j < L) (hun : u < nD) (hnD : nD ≤ 4) (hu : C[j]? = some u) (hdm : doms[u]? = some dm) (hj1 : ¬ j + 1 < L) 
    (hup : upE sts (u : Int) = 0 ∧ upT sts (u : Int) = sts.set u ⟨dm, 114, dm.delay, false⟩) (hag : upE (sts.set u ⟨dm, 114, dm.delay, false⟩) (u : Int) = 6 ∧ upT (sts.set u ⟨dm, 114, dm.delay, false⟩) (u : Int) = sts.set u ⟨dm, 114, dm.delay, false⟩)
    (hrs : ∀ w, TkW w3 w gt g cg doms go C (sts.set u ⟨dm, 114, dm.delay, false⟩) → Calls Try.prog 18 #[.pointer (some ⟨gt, 0, none⟩), .int .i64 (u : Int), .int .i64 dm.delay, .int .u8 110] w (fun e w' => e = .returned (.bool true) ∧ TkW w3 w' gt g cg doms go C (sts.set u (liveP dm))))
    (hW : TkW w3 w gt g cg doms go C sts)
    (hQ : ∀ (v50 v51 v52 v53 v54 v55 v56 v57 v58 v59 v60 v61 v62 v63 v64 v65 v66 v67 v68 v69 v70 v71 v72 v73 v74 v75 v76 v77 v78 v79 v80 v81 v82 v83 v84 v85 v86 v87 v88 v89 v90 v91 v92 v93 v94 v95 v96 v97 v98 v99 : Value) (w' : World), TkW w3 w' gt g cg doms go C (sts.set u (liveP dm)) → Q .normal ⟨List.toArray (u0 :: u1 :: u2 :: u3 :: u4 :: u5 :: u6 :: u7 :: .pointer (some ⟨b, 0, none⟩) :: .pointer (some ⟨gt, 0, none⟩) :: u10 :: u11 :: .slice (some ⟨go, 0, none⟩) L dc :: .int .i64 (j : Int) :: u14 :: u15 :: u16 :: u17 :: u18 :: u19 :: u20 :: u21 :: u22 :: u23 :: u24 :: u25 :: u26 :: u27 :: u28 :: u29 :: u30 :: u31 :: u32 :: u33 :: u34 :: u35 :: u36 :: u37 :: u38 :: u39 :: u40 :: u41 :: u42 :: u43 :: u44 :: u45 :: u46 :: u47 :: u48 :: u49 :: v50 :: v51 :: v52 :: v53 :: v54 :: v55 :: v56 :: v57 :: v58 :: v59 :: v60 :: v61 :: v62 :: v63 :: v64 :: v65 :: v66 :: v67 :: v68 :: v69 :: v70 :: v71 :: v72 :: v73 :: v74 :: v75 :: v76 :: v77 :: v78 :: v79 :: v80 :: v81 :: v82 :: v83 :: v84 :: v85 :: v86 :: v87 :: v88 :: v89 :: v90 :: v91 :: v92 :: v93 :: v94 :: v95 :: v96 :: v97 :: v98 :: v99 :: .bool false :: u101 :: u102 :: u103 :: u104 :: u105 :: u106 :: u107 :: u108 :: u109 :: u110 :: u111 :: u112 :: u113 :: u114 :: u115 :: u116 :: u117 :: u118 :: u119 :: u120 :: u121 :: u122 :: u123 :: u124 :: u125 :: u126 :: u127 :: u128 :: u129 :: u130 :: u131 :: u132 :: u133 :: u134 :: u135 :: u136 :: u137 :: u138 :: u139 :: u140 :: u141 :: u142 :: u143 :: u144 :: u145 :: u146 :: u147 :: u148 :: u149 :: u150 :: u151 :: u152 :: u153 :: u154 :: u155 :: u156 :: u157 :: u158 :: u159 :: u160 :: u161 :: u162 :: u163 :: u164 :: u165 :: u166 :: u167 :: u168 :: u169 :: u170 :: u171 :: u172 :: u173 :: u174 :: u175 :: u176 :: u177 :: u178 :: u179 :: u180 :: u181 :: u182 :: u183 :: u184 :: u185 :: u186 :: u187 :: u188 :: u189 :: u190 :: u191 :: []), []⟩ w') :
    Code.wp Try.prog reg11 Q ⟨List.toArray (u0 :: u1 :: u2 :: u3 :: u4 :: u5 :: u6 :: u7 :: .pointer (some ⟨b, 0, none⟩) :: .pointer (some ⟨gt, 0, none⟩) :: u10 :: u11 :: .slice (some ⟨go, 0, none⟩) L dc :: .int .i64 (j : Int) :: u14 :: u15 :: u16 :: u17 :: u18 :: u19 :: u20 :: u21 :: u22 :: u23 :: u24 :: u25 :: u26 :: u27 :: u28 :: u29 :: u30 :: u31 :: u32 :: u33 :: u34 :: u35 :: u36 :: u37 :: u38 :: u39 :: u40 :: u41 :: u42 :: u43 :: u44 :: u45 :: u46 :: u47 :: u48 :: u49 :: u50 :: u51 :: u52 :: u53 :: u54 :: u55 :: u56 :: u57 :: u58 :: u59 :: u60 :: u61 :: u62 :: u63 :: u64 :: u65 :: u66 :: u67 :: u68 :: u69 :: u70 :: u71 :: u72 :: u73 :: u74 :: u75 :: u76 :: u77 :: u78 :: u79 :: u80 :: u81 :: u82 :: u83 :: u84 :: u85 :: u86 :: u87 :: u88 :: u89 :: u90 :: u91 :: u92 :: u93 :: u94 :: u95 :: u96 :: u97 :: u98 :: u99 :: u100 :: u101 :: u102 :: u103 :: u104 :: u105 :: u106 :: u107 :: u108 :: u109 :: u110 :: u111 :: u112 :: u113 :: u114 :: u115 :: u116 :: u117 :: u118 :: u119 :: u120 :: u121 :: u122 :: u123 :: u124 :: u125 :: u126 :: u127 :: u128 :: u129 :: u130 :: u131 :: u132 :: u133 :: u134 :: u135 :: u136 :: u137 :: u138 :: u139 :: u140 :: u141 :: u142 :: u143 :: u144 :: u145 :: u146 :: u147 :: u148 :: u149 :: u150 :: u151 :: u152 :: u153 :: u154 :: u155 :: u156 :: u157 :: u158 :: u159 :: u160 :: u161 :: u162 :: u163 :: u164 :: u165 :: u166 :: u167 :: u168 :: u169 :: u170 :: u171 :: u172 :: u173 :: u174 :: u175 :: u176 :: u177 :: u178 :: u179 :: u180 :: u181 :: u182 :: u183 :: u184 :: u185 :: u186 :: u187 :: u188 :: u189 :: u190 :: u191 :: []), []⟩ w := by
  have HQ := Lib.hid hQ
  clear hQ
  have hWd := hW.drew
  have j0 : (0 : Int) ≤ (j : Int) := by omega
  have j1 : (j : Int) < (L : Int) := by omega
  have j2 : (0 : Int) ≤ (j : Int) + 1 := by omega
  have jw : IntKind.i64.wrap ((j : Int) + 1) = (j : Int) + 1 := by rw [IntWalk.i64_in _ (by omega)]
  have jt : ((j : Int) + 1).toNat = j + 1 := by omega
  have k0 : (0 : Int) ≤ (u : Int) := by omega
  have k1 : (u : Int) < (nD : Int) := by omega
  have hjl : ¬ ((j : Int) + 1 < (L : Int)) := by omega
  conv => arg 2; whnf
  refine region_staged 4 (fun t => match t with | 0 => 12 | 1 => 21 | 2 => 30 | _ => 48) (fun i => if i = 12 then some 0 else if i = 21 then some 1 else if i = 30 then some 2 else if i = 48 then some 3 else none) (GVL (.int .i64 (j : Int) :: .int .i64 ((j : Int) + 1) :: .slice (some ⟨go, 0, none⟩) L dc :: .int .i64 (L : Int) :: .bool false :: .bool false :: undef :: undef :: undef :: undef :: undef :: undef :: undef :: undef :: .bool false :: .bool false :: .pointer (some ⟨gt, 0, none⟩) :: .slice (some ⟨go, 0, none⟩) L dc :: .int .i64 (j : Int) :: .pointer (some ⟨go, j, none⟩) :: .int .i64 (u : Int) :: .int .i64 0 :: .bool false :: .bool false :: .bool false :: .pointer (some ⟨gt, 0, none⟩) :: .slice (some ⟨go, 0, none⟩) L dc :: .int .i64 (j : Int) :: .pointer (some ⟨go, j, none⟩) :: .int .i64 (u : Int) :: .int .i64 6 :: .bool false :: .bool false :: .bool false :: .pointer (some ⟨gt, 0, none⟩) :: .slice (some ⟨go, 0, none⟩) L dc :: .int .i64 (j : Int) :: .pointer (some ⟨go, j, none⟩) :: .int .i64 (u : Int) :: .pointer (some ⟨b, 1, none⟩) :: .slice (some a2) nD c2 :: .slice (some ⟨go, 0, none⟩) L dc :: .int .i64 (j : Int) :: .pointer (some ⟨go, j, none⟩) :: .int .i64 (u : Int) :: .pointer (some (a2.add (u * 3))) :: .pointer (some ⟨(a2.add (u * 3)).block, (a2.add (u * 3)).off + 1, none⟩) :: .int .i64 dm.delay :: .bool true :: .bool false :: .bool false :: [])) (fun s w => TkW w3 w gt g cg doms go C (stgL [sts, sts, sts.set u ⟨dm, 114, dm.delay, false⟩, sts.set u ⟨dm, 114, dm.delay, false⟩, sts.set u (liveP dm)] s)) 192 (by kernel_rfl) rfl (by kernel_rfl) ⟨?ca, ?cb, ?cp⟩ ?cs ?c0 ⟨?s0, ?s1, ?s2, ?s3, ?s4, ?s5, ?s6, ?s7, ?s8, ?s9, ?s10, ?s11, ?s12, ?s13, ?s14, ?s15, ?s16, ?s17, ?s18, ?s19, ?s20, ?s21, ?s22, ?s23, ?s24, ?s25, ?s26, ?s27, ?s28, ?s29, ?s30, ?s31, ?s32, ?s33, ?s34, ?s35, ?s36, ?s37, ?s38, ?s39, ?s40, ?s41, ?s42, ?s43, ?s44, ?s45, ?s46, ?s47, ?s48, ?s49, ?s50, trivial⟩ ?fin
  case ca =>
    intro i t h
    split at h
    · injection h with h; subst h; rename_i e; exact ⟨by omega, e.symm⟩
    · split at h
      · injection h with h; subst h; rename_i e; exact ⟨by omega, e.symm⟩
      · split at h
        · injection h with h; subst h; rename_i e; exact ⟨by omega, e.symm⟩
        · split at h
          · injection h with h; subst h; rename_i e; exact ⟨by omega, e.symm⟩
          · cases h
  case cb =>
    intro t ht
    match t, ht with
    | 0, _ => rfl
    | 1, _ => rfl
    | 2, _ => rfl
    | 3, _ => rfl
  case cp =>
    intro t ht
    match t, ht with
    | 0, _ => exact ⟨[15, 14, 13, 12], by kernel_rfl, by simp, rfl⟩
    | 1, _ => exact ⟨[24, 23, 22, 21], by kernel_rfl, by simp, rfl⟩
    | 2, _ => exact ⟨[33, 32, 31, 30], by kernel_rfl, by simp, rfl⟩
  case cs =>
    intro t ht
    match t, ht with
    | 0, _ => exact (by decide : 12 < 51)
    | 1, _ => exact (by decide : 21 < 51)
    | 2, _ => exact (by decide : 30 < 51)
    | 3, _ => exact (by decide : 48 < 51)
  case c0 => exact hWd
  case s0 =>
    refine stepS_plain rfl rfl (fun T w1 s hT hd hs hW => ?_)
    have ec := evT_const T
    have ef := evT_func T
    have d13 : evT T (.tmp 13) = .int .i64 (j : Int) := hT 13 (by kernel_rfl)
    clear hT hd hW
    refine ⟨.int .i64 (j : Int), ?_, rfl⟩
    simp only [execOp]
    go_simp
  case s1 =>
    refine stepS_plain rfl rfl (fun T w1 s hT hd hs hW => ?_)
    have ec := evT_const T
    have ef := evT_func T
    have d50 : evT T (.tmp 50) = .int .i64 (j : Int) := (by first | exact hd.1 | exact hd.2.1 | exact hd.2.2.1 | exact hd.2.2.2.1 | exact hd.2.2.2.2.1 | exact hd.2.2.2.2.2.1)
    clear hT hd hW
    refine ⟨.int .i64 ((j : Int) + 1), ?_, rfl⟩
    simp only [execOp]
    go_simp
  case s2 =>
    refine stepS_plain rfl rfl (fun T w1 s hT hd hs hW => ?_)
    have ec := evT_const T
    have ef := evT_func T
    have d12 : evT T (.tmp 12) = .slice (some ⟨go, 0, none⟩) L dc := hT 12 (by kernel_rfl)
    clear hT hd hW
    refine ⟨.slice (some ⟨go, 0, none⟩) L dc, ?_, rfl⟩
    simp only [execOp]
    go_simp
  case s3 =>
    refine stepS_plain rfl rfl (fun T w1 s hT hd hs hW => ?_)
    have ec := evT_const T
    have ef := evT_func T
    have d52 : evT T (.tmp 52) = .slice (some ⟨go, 0, none⟩) L dc := (by first | exact hd.1 | exact hd.2.1 | exact hd.2.2.1 | exact hd.2.2.2.1 | exact hd.2.2.2.2.1 | exact hd.2.2.2.2.2.1)
    clear hT hd hW
    refine ⟨.int .i64 (L : Int), ?_, rfl⟩
    simp only [execOp]
    go_simp
  case s4 =>
    refine stepS_plain rfl rfl (fun T w1 s hT hd hs hW => ?_)
    have ec := evT_const T
    have ef := evT_func T
    have d51 : evT T (.tmp 51) = .int .i64 ((j : Int) + 1) := (by first | exact hd.1 | exact hd.2.1 | exact hd.2.2.1 | exact hd.2.2.2.1 | exact hd.2.2.2.2.1 | exact hd.2.2.2.2.2.1)
    have d53 : evT T (.tmp 53) = .int .i64 (L : Int) := (by first | exact hd.1 | exact hd.2.1 | exact hd.2.2.1 | exact hd.2.2.2.1 | exact hd.2.2.2.2.1 | exact hd.2.2.2.2.2.1)
    clear hT hd hW
    refine ⟨.bool false, ?_, rfl⟩
    simp only [execOp]
    go_simp
  case s5 =>
    refine stepS_plain rfl rfl (fun T w1 s hT hd hs hW => ?_)
    have ec := evT_const T
    have ef := evT_func T
    have d54 : evT T (.tmp 54) = .bool false := (by first | exact hd.1 | exact hd.2.1 | exact hd.2.2.1 | exact hd.2.2.2.1 | exact hd.2.2.2.2.1 | exact hd.2.2.2.2.2.1)
    clear hT hd hW
    refine ⟨.bool false, ?_, rfl⟩
    simp only [execOp]
    go_simp
  case s6 =>
    exact stepS_off 5 55 true rfl rfl rfl (fun T hT hd => ⟨(by first | exact hd.1 | exact hd.2.1 | exact hd.2.2.1 | exact hd.2.2.2.1 | exact hd.2.2.2.2.1 | exact hd.2.2.2.2.2.1), rfl⟩)
  case s7 =>
    exact stepS_off 5 55 true rfl rfl rfl (fun T hT hd => ⟨(by first | exact hd.1 | exact hd.2.1 | exact hd.2.2.1 | exact hd.2.2.2.1 | exact hd.2.2.2.2.1 | exact hd.2.2.2.2.2.1), rfl⟩)
  case s8 =>
    exact stepS_off 5 55 true rfl rfl rfl (fun T hT hd => ⟨(by first | exact hd.1 | exact hd.2.1 | exact hd.2.2.1 | exact hd.2.2.2.1 | exact hd.2.2.2.2.1 | exact hd.2.2.2.2.2.1), rfl⟩)
  case s9 =>
    exact stepS_off 5 55 true rfl rfl rfl (fun T hT hd => ⟨(by first | exact hd.1 | exact hd.2.1 | exact hd.2.2.1 | exact hd.2.2.2.1 | exact hd.2.2.2.2.1 | exact hd.2.2.2.2.2.1), rfl⟩)
  case s10 =>
    exact stepS_off 5 55 true rfl rfl rfl (fun T hT hd => ⟨(by first | exact hd.1 | exact hd.2.1 | exact hd.2.2.1 | exact hd.2.2.2.1 | exact hd.2.2.2.2.1 | exact hd.2.2.2.2.2.1), rfl⟩)
  case s11 =>
    exact stepS_off 5 55 true rfl rfl rfl (fun T hT hd => ⟨(by first | exact hd.1 | exact hd.2.1 | exact hd.2.2.1 | exact hd.2.2.2.1 | exact hd.2.2.2.2.1 | exact hd.2.2.2.2.2.1), rfl⟩)
  case s12 =>
    exact stepC_off 0 5 55 true rfl rfl rfl (fun T hT hd => ⟨(by first | exact hd.1 | exact hd.2.1 | exact hd.2.2.1 | exact hd.2.2.2.1 | exact hd.2.2.2.2.1 | exact hd.2.2.2.2.2.1), rfl⟩) (fun w hW => hW)
  case s13 =>
    exact stepS_off 5 55 true rfl rfl rfl (fun T hT hd => ⟨(by first | exact hd.1 | exact hd.2.1 | exact hd.2.2.1 | exact hd.2.2.2.1 | exact hd.2.2.2.2.1 | exact hd.2.2.2.2.2.1), rfl⟩)
  case s14 =>
    refine stepS_plain rfl rfl (fun T w1 s hT hd hs hW => ?_)
    have ec := evT_const T
    have ef := evT_func T
    have d55 : evT T (.tmp 55) = .bool false := (by first | exact hd.1 | exact hd.2.1 | exact hd.2.2.1 | exact hd.2.2.2.1 | exact hd.2.2.2.2.1 | exact hd.2.2.2.2.2.1)
    have d63 : evT T (.tmp 63) = undef := (by first | exact hd.1 | exact hd.2.1 | exact hd.2.2.1 | exact hd.2.2.2.1 | exact hd.2.2.2.2.1 | exact hd.2.2.2.2.2.1)
    clear hT hd hW
    refine ⟨.bool false, ?_, rfl⟩
    simp only [execOp]
    go_simp
  case s15 =>
    refine stepS_plain rfl rfl (fun T w1 s hT hd hs hW => ?_)
    have ec := evT_const T
    have ef := evT_func T
    have d64 : evT T (.tmp 64) = .bool false := (by first | exact hd.1 | exact hd.2.1 | exact hd.2.2.1 | exact hd.2.2.2.1 | exact hd.2.2.2.2.1 | exact hd.2.2.2.2.2.1)
    clear hT hd hW
    refine ⟨.bool false, ?_, rfl⟩
    simp only [execOp]
    go_simp
  case s16 =>
    refine stepS_on 15 65 false rfl rfl rfl (fun T w1 s hT hd hs hW => ⟨(by first | exact hd.1 | exact hd.2.1 | exact hd.2.2.1 | exact hd.2.2.2.1 | exact hd.2.2.2.2.1 | exact hd.2.2.2.2.2.1), ?_⟩)
    have ec := evT_const T
    have ef := evT_func T
    have d9 : evT T (.tmp 9) = .pointer (some ⟨gt, 0, none⟩) := hT 9 (by kernel_rfl)
    clear hT hd hW
    refine ⟨.pointer (some ⟨gt, 0, none⟩), ?_, rfl⟩
    simp only [execOp]
    go_simp
  case s17 =>
    refine stepS_on 15 65 false rfl rfl rfl (fun T w1 s hT hd hs hW => ⟨(by first | exact hd.1 | exact hd.2.1 | exact hd.2.2.1 | exact hd.2.2.2.1 | exact hd.2.2.2.2.1 | exact hd.2.2.2.2.2.1), ?_⟩)
    have ec := evT_const T
    have ef := evT_func T
    have d12 : evT T (.tmp 12) = .slice (some ⟨go, 0, none⟩) L dc := hT 12 (by kernel_rfl)
    clear hT hd hW
    refine ⟨.slice (some ⟨go, 0, none⟩) L dc, ?_, rfl⟩
    simp only [execOp]
    go_simp
  case s18 =>
    refine stepS_on 15 65 false rfl rfl rfl (fun T w1 s hT hd hs hW => ⟨(by first | exact hd.1 | exact hd.2.1 | exact hd.2.2.1 | exact hd.2.2.2.1 | exact hd.2.2.2.2.1 | exact hd.2.2.2.2.2.1), ?_⟩)
    have ec := evT_const T
    have ef := evT_func T
    have d13 : evT T (.tmp 13) = .int .i64 (j : Int) := hT 13 (by kernel_rfl)
    clear hT hd hW
    refine ⟨.int .i64 (j : Int), ?_, rfl⟩
    simp only [execOp]
    go_simp
  case s19 =>
    refine stepS_on 15 65 false rfl rfl rfl (fun T w1 s hT hd hs hW => ⟨(by first | exact hd.1 | exact hd.2.1 | exact hd.2.2.1 | exact hd.2.2.2.1 | exact hd.2.2.2.2.1 | exact hd.2.2.2.2.2.1), ?_⟩)
    have ec := evT_const T
    have ef := evT_func T
    have d67 : evT T (.tmp 67) = .slice (some ⟨go, 0, none⟩) L dc := (by first | exact hd.1 | exact hd.2.1 | exact hd.2.2.1 | exact hd.2.2.2.1 | exact hd.2.2.2.2.1 | exact hd.2.2.2.2.2.1)
    have d68 : evT T (.tmp 68) = .int .i64 (j : Int) := (by first | exact hd.1 | exact hd.2.1 | exact hd.2.2.1 | exact hd.2.2.2.1 | exact hd.2.2.2.2.1 | exact hd.2.2.2.2.2.1)
    clear hT hd hW
    refine ⟨.pointer (some ⟨go, j, none⟩), ?_, rfl⟩
    simp only [execOp]
    go_simp
  case s20 =>
    refine stepS_on 15 65 false rfl rfl rfl (fun T w1 s hT hd hs hW => ⟨(by first | exact hd.1 | exact hd.2.1 | exact hd.2.2.1 | exact hd.2.2.2.1 | exact hd.2.2.2.2.1 | exact hd.2.2.2.2.2.1), ?_⟩)
    have ec := evT_const T
    have ef := evT_func T
    have d69 : evT T (.tmp 69) = .pointer (some ⟨go, j, none⟩) := (by first | exact hd.1 | exact hd.2.1 | exact hd.2.2.1 | exact hd.2.2.2.1 | exact hd.2.2.2.2.1 | exact hd.2.2.2.2.2.1)
    have q1 := hW.at1 hu
    clear hT hd hW
    refine ⟨.int .i64 (u : Int), ?_, rfl⟩
    simp only [execOp]
    go_simp
  case s21 =>
    refine stepC_on 1 15 65 false rfl rfl rfl (fun T w1 hT hd hW => ⟨(by first | exact hd.1 | exact hd.2.1 | exact hd.2.2.1 | exact hd.2.2.2.1 | exact hd.2.2.2.2.1 | exact hd.2.2.2.2.2.1), ?_⟩)
    have ec := evT_const T
    have ef := evT_func T
    have d66 : evT T (.tmp 66) = .pointer (some ⟨gt, 0, none⟩) := (by first | exact hd.1 | exact hd.2.1 | exact hd.2.2.1 | exact hd.2.2.2.1 | exact hd.2.2.2.2.1 | exact hd.2.2.2.2.2.1)
    have d70 : evT T (.tmp 70) = .int .i64 (u : Int) := (by first | exact hd.1 | exact hd.2.1 | exact hd.2.2.1 | exact hd.2.2.2.1 | exact hd.2.2.2.2.1 | exact hd.2.2.2.2.2.1)
    refine ⟨13, #[.pointer (some ⟨gt, 0, none⟩), .int .i64 (u : Int)], ?_, ?_⟩
    · clear hT hd hW
      simp only [execOp, resolve]
      go_simp
    · have hX : TkW w3 w1 gt g cg doms go C sts := hW
      refine (hX.up (u : Int)).mono ?_
      rintro e w2 ⟨rfl, h2⟩
      rw [hup.2] at h2
      exact ⟨_, rfl, by show Value.int .i64 (upE sts (u : Int)) = .int .i64 0; rw [hup.1], h2⟩
  case s22 =>
    refine stepS_on 15 65 false rfl rfl rfl (fun T w1 s hT hd hs hW => ⟨(by first | exact hd.1 | exact hd.2.1 | exact hd.2.2.1 | exact hd.2.2.2.1 | exact hd.2.2.2.2.1 | exact hd.2.2.2.2.2.1), ?_⟩)
    have ec := evT_const T
    have ef := evT_func T
    have d71 : evT T (.tmp 71) = .int .i64 0 := (by first | exact hd.1 | exact hd.2.1 | exact hd.2.2.1 | exact hd.2.2.2.1 | exact hd.2.2.2.2.1 | exact hd.2.2.2.2.2.1)
    clear hT hd hW
    refine ⟨.bool false, ?_, rfl⟩
    simp only [execOp]
    go_simp
  case s23 =>
    refine stepS_plain rfl rfl (fun T w1 s hT hd hs hW => ?_)
    have ec := evT_const T
    have ef := evT_func T
    have d65 : evT T (.tmp 65) = .bool false := (by first | exact hd.1 | exact hd.2.1 | exact hd.2.2.1 | exact hd.2.2.2.1 | exact hd.2.2.2.2.1 | exact hd.2.2.2.2.2.1)
    have d72 : evT T (.tmp 72) = .bool false := (by first | exact hd.1 | exact hd.2.1 | exact hd.2.2.1 | exact hd.2.2.2.1 | exact hd.2.2.2.2.1 | exact hd.2.2.2.2.2.1)
    clear hT hd hW
    refine ⟨.bool false, ?_, rfl⟩
    simp only [execOp]
    go_simp
  case s24 =>
    refine stepS_plain rfl rfl (fun T w1 s hT hd hs hW => ?_)
    have ec := evT_const T
    have ef := evT_func T
    have d73 : evT T (.tmp 73) = .bool false := (by first | exact hd.1 | exact hd.2.1 | exact hd.2.2.1 | exact hd.2.2.2.1 | exact hd.2.2.2.2.1 | exact hd.2.2.2.2.2.1)
    clear hT hd hW
    refine ⟨.bool false, ?_, rfl⟩
    simp only [execOp]
    go_simp
  case s25 =>
    refine stepS_on 24 74 false rfl rfl rfl (fun T w1 s hT hd hs hW => ⟨(by first | exact hd.1 | exact hd.2.1 | exact hd.2.2.1 | exact hd.2.2.2.1 | exact hd.2.2.2.2.1 | exact hd.2.2.2.2.2.1), ?_⟩)
    have ec := evT_const T
    have ef := evT_func T
    have d9 : evT T (.tmp 9) = .pointer (some ⟨gt, 0, none⟩) := hT 9 (by kernel_rfl)
    clear hT hd hW
    refine ⟨.pointer (some ⟨gt, 0, none⟩), ?_, rfl⟩
    simp only [execOp]
    go_simp
  case s26 =>
    refine stepS_on 24 74 false rfl rfl rfl (fun T w1 s hT hd hs hW => ⟨(by first | exact hd.1 | exact hd.2.1 | exact hd.2.2.1 | exact hd.2.2.2.1 | exact hd.2.2.2.2.1 | exact hd.2.2.2.2.2.1), ?_⟩)
    have ec := evT_const T
    have ef := evT_func T
    have d12 : evT T (.tmp 12) = .slice (some ⟨go, 0, none⟩) L dc := hT 12 (by kernel_rfl)
    clear hT hd hW
    refine ⟨.slice (some ⟨go, 0, none⟩) L dc, ?_, rfl⟩
    simp only [execOp]
    go_simp
  case s27 =>
    refine stepS_on 24 74 false rfl rfl rfl (fun T w1 s hT hd hs hW => ⟨(by first | exact hd.1 | exact hd.2.1 | exact hd.2.2.1 | exact hd.2.2.2.1 | exact hd.2.2.2.2.1 | exact hd.2.2.2.2.2.1), ?_⟩)
    have ec := evT_const T
    have ef := evT_func T
    have d13 : evT T (.tmp 13) = .int .i64 (j : Int) := hT 13 (by kernel_rfl)
    clear hT hd hW
    refine ⟨.int .i64 (j : Int), ?_, rfl⟩
    simp only [execOp]
    go_simp
  case s28 =>
    refine stepS_on 24 74 false rfl rfl rfl (fun T w1 s hT hd hs hW => ⟨(by first | exact hd.1 | exact hd.2.1 | exact hd.2.2.1 | exact hd.2.2.2.1 | exact hd.2.2.2.2.1 | exact hd.2.2.2.2.2.1), ?_⟩)
    have ec := evT_const T
    have ef := evT_func T
    have d76 : evT T (.tmp 76) = .slice (some ⟨go, 0, none⟩) L dc := (by first | exact hd.1 | exact hd.2.1 | exact hd.2.2.1 | exact hd.2.2.2.1 | exact hd.2.2.2.2.1 | exact hd.2.2.2.2.2.1)
    have d77 : evT T (.tmp 77) = .int .i64 (j : Int) := (by first | exact hd.1 | exact hd.2.1 | exact hd.2.2.1 | exact hd.2.2.2.1 | exact hd.2.2.2.2.1 | exact hd.2.2.2.2.2.1)
    clear hT hd hW
    refine ⟨.pointer (some ⟨go, j, none⟩), ?_, rfl⟩
    simp only [execOp]
    go_simp
  case s29 =>
    refine stepS_on 24 74 false rfl rfl rfl (fun T w1 s hT hd hs hW => ⟨(by first | exact hd.1 | exact hd.2.1 | exact hd.2.2.1 | exact hd.2.2.2.1 | exact hd.2.2.2.2.1 | exact hd.2.2.2.2.2.1), ?_⟩)
    have ec := evT_const T
    have ef := evT_func T
    have d78 : evT T (.tmp 78) = .pointer (some ⟨go, j, none⟩) := (by first | exact hd.1 | exact hd.2.1 | exact hd.2.2.1 | exact hd.2.2.2.1 | exact hd.2.2.2.2.1 | exact hd.2.2.2.2.2.1)
    have q1 := hW.at1 hu
    clear hT hd hW
    refine ⟨.int .i64 (u : Int), ?_, rfl⟩
    simp only [execOp]
    go_simp
  case s30 =>
    refine stepC_on 2 24 74 false rfl rfl rfl (fun T w1 hT hd hW => ⟨(by first | exact hd.1 | exact hd.2.1 | exact hd.2.2.1 | exact hd.2.2.2.1 | exact hd.2.2.2.2.1 | exact hd.2.2.2.2.2.1), ?_⟩)
    have ec := evT_const T
    have ef := evT_func T
    have d75 : evT T (.tmp 75) = .pointer (some ⟨gt, 0, none⟩) := (by first | exact hd.1 | exact hd.2.1 | exact hd.2.2.1 | exact hd.2.2.2.1 | exact hd.2.2.2.2.1 | exact hd.2.2.2.2.2.1)
    have d79 : evT T (.tmp 79) = .int .i64 (u : Int) := (by first | exact hd.1 | exact hd.2.1 | exact hd.2.2.1 | exact hd.2.2.2.1 | exact hd.2.2.2.2.1 | exact hd.2.2.2.2.2.1)
    refine ⟨13, #[.pointer (some ⟨gt, 0, none⟩), .int .i64 (u : Int)], ?_, ?_⟩
    · clear hT hd hW
      simp only [execOp, resolve]
      go_simp
    · have hX : TkW w3 w1 gt g cg doms go C (sts.set u ⟨dm, 114, dm.delay, false⟩) := hW
      refine (hX.up (u : Int)).mono ?_
      rintro e w2 ⟨rfl, h2⟩
      rw [hag.2] at h2
      exact ⟨_, rfl, by show Value.int .i64 (upE (sts.set u ⟨dm, 114, dm.delay, false⟩) (u : Int)) = .int .i64 6; rw [hag.1], h2⟩
  case s31 =>
    refine stepS_on 24 74 false rfl rfl rfl (fun T w1 s hT hd hs hW => ⟨(by first | exact hd.1 | exact hd.2.1 | exact hd.2.2.1 | exact hd.2.2.2.1 | exact hd.2.2.2.2.1 | exact hd.2.2.2.2.2.1), ?_⟩)
    have ec := evT_const T
    have ef := evT_func T
    have d80 : evT T (.tmp 80) = .int .i64 6 := (by first | exact hd.1 | exact hd.2.1 | exact hd.2.2.1 | exact hd.2.2.2.1 | exact hd.2.2.2.2.1 | exact hd.2.2.2.2.2.1)
    clear hT hd hW
    refine ⟨.bool false, ?_, rfl⟩
    simp only [execOp]
    go_simp
  case s32 =>
    refine stepS_plain rfl rfl (fun T w1 s hT hd hs hW => ?_)
    have ec := evT_const T
    have ef := evT_func T
    have d74 : evT T (.tmp 74) = .bool false := (by first | exact hd.1 | exact hd.2.1 | exact hd.2.2.1 | exact hd.2.2.2.1 | exact hd.2.2.2.2.1 | exact hd.2.2.2.2.2.1)
    have d81 : evT T (.tmp 81) = .bool false := (by first | exact hd.1 | exact hd.2.1 | exact hd.2.2.1 | exact hd.2.2.2.1 | exact hd.2.2.2.2.1 | exact hd.2.2.2.2.2.1)
    clear hT hd hW
    refine ⟨.bool false, ?_, rfl⟩
    simp only [execOp]
    go_simp
  case s33 =>
    refine stepS_plain rfl rfl (fun T w1 s hT hd hs hW => ?_)
    have ec := evT_const T
    have ef := evT_func T
    have d82 : evT T (.tmp 82) = .bool false := (by first | exact hd.1 | exact hd.2.1 | exact hd.2.2.1 | exact hd.2.2.2.1 | exact hd.2.2.2.2.1 | exact hd.2.2.2.2.2.1)
    clear hT hd hW
    refine ⟨.bool false, ?_, rfl⟩
    simp only [execOp]
    go_simp
  case s34 =>
    refine stepS_on 33 83 false rfl rfl rfl (fun T w1 s hT hd hs hW => ⟨(by first | exact hd.1 | exact hd.2.1 | exact hd.2.2.1 | exact hd.2.2.2.1 | exact hd.2.2.2.2.1 | exact hd.2.2.2.2.2.1), ?_⟩)
    have ec := evT_const T
    have ef := evT_func T
    have d9 : evT T (.tmp 9) = .pointer (some ⟨gt, 0, none⟩) := hT 9 (by kernel_rfl)
    clear hT hd hW
    refine ⟨.pointer (some ⟨gt, 0, none⟩), ?_, rfl⟩
    simp only [execOp]
    go_simp
  case s35 =>
    refine stepS_on 33 83 false rfl rfl rfl (fun T w1 s hT hd hs hW => ⟨(by first | exact hd.1 | exact hd.2.1 | exact hd.2.2.1 | exact hd.2.2.2.1 | exact hd.2.2.2.2.1 | exact hd.2.2.2.2.2.1), ?_⟩)
    have ec := evT_const T
    have ef := evT_func T
    have d12 : evT T (.tmp 12) = .slice (some ⟨go, 0, none⟩) L dc := hT 12 (by kernel_rfl)
    clear hT hd hW
    refine ⟨.slice (some ⟨go, 0, none⟩) L dc, ?_, rfl⟩
    simp only [execOp]
    go_simp
  case s36 =>
    refine stepS_on 33 83 false rfl rfl rfl (fun T w1 s hT hd hs hW => ⟨(by first | exact hd.1 | exact hd.2.1 | exact hd.2.2.1 | exact hd.2.2.2.1 | exact hd.2.2.2.2.1 | exact hd.2.2.2.2.2.1), ?_⟩)
    have ec := evT_const T
    have ef := evT_func T
    have d13 : evT T (.tmp 13) = .int .i64 (j : Int) := hT 13 (by kernel_rfl)
    clear hT hd hW
    refine ⟨.int .i64 (j : Int), ?_, rfl⟩
    simp only [execOp]
    go_simp
  case s37 =>
    refine stepS_on 33 83 false rfl rfl rfl (fun T w1 s hT hd hs hW => ⟨(by first | exact hd.1 | exact hd.2.1 | exact hd.2.2.1 | exact hd.2.2.2.1 | exact hd.2.2.2.2.1 | exact hd.2.2.2.2.2.1), ?_⟩)
    have ec := evT_const T
    have ef := evT_func T
    have d85 : evT T (.tmp 85) = .slice (some ⟨go, 0, none⟩) L dc := (by first | exact hd.1 | exact hd.2.1 | exact hd.2.2.1 | exact hd.2.2.2.1 | exact hd.2.2.2.2.1 | exact hd.2.2.2.2.2.1)
    have d86 : evT T (.tmp 86) = .int .i64 (j : Int) := (by first | exact hd.1 | exact hd.2.1 | exact hd.2.2.1 | exact hd.2.2.2.1 | exact hd.2.2.2.2.1 | exact hd.2.2.2.2.2.1)
    clear hT hd hW
    refine ⟨.pointer (some ⟨go, j, none⟩), ?_, rfl⟩
    simp only [execOp]
    go_simp
  case s38 =>
    refine stepS_on 33 83 false rfl rfl rfl (fun T w1 s hT hd hs hW => ⟨(by first | exact hd.1 | exact hd.2.1 | exact hd.2.2.1 | exact hd.2.2.2.1 | exact hd.2.2.2.2.1 | exact hd.2.2.2.2.2.1), ?_⟩)
    have ec := evT_const T
    have ef := evT_func T
    have d87 : evT T (.tmp 87) = .pointer (some ⟨go, j, none⟩) := (by first | exact hd.1 | exact hd.2.1 | exact hd.2.2.1 | exact hd.2.2.2.1 | exact hd.2.2.2.2.1 | exact hd.2.2.2.2.2.1)
    have q1 := hW.at1 hu
    clear hT hd hW
    refine ⟨.int .i64 (u : Int), ?_, rfl⟩
    simp only [execOp]
    go_simp
  case s39 =>
    refine stepS_on 33 83 false rfl rfl rfl (fun T w1 s hT hd hs hW => ⟨(by first | exact hd.1 | exact hd.2.1 | exact hd.2.2.1 | exact hd.2.2.2.1 | exact hd.2.2.2.2.1 | exact hd.2.2.2.2.2.1), ?_⟩)
    have ec := evT_const T
    have ef := evT_func T
    have d8 : evT T (.tmp 8) = .pointer (some ⟨b, 0, none⟩) := hT 8 (by kernel_rfl)
    clear hT hd hW
    refine ⟨.pointer (some ⟨b, 1, none⟩), ?_, rfl⟩
    simp only [execOp]
    go_simp
  case s40 =>
    refine stepS_on 33 83 false rfl rfl rfl (fun T w1 s hT hd hs hW => ⟨(by first | exact hd.1 | exact hd.2.1 | exact hd.2.2.1 | exact hd.2.2.2.1 | exact hd.2.2.2.2.1 | exact hd.2.2.2.2.2.1), ?_⟩)
    have ec := evT_const T
    have ef := evT_func T
    have d89 : evT T (.tmp 89) = .pointer (some ⟨b, 1, none⟩) := (by first | exact hd.1 | exact hd.2.1 | exact hd.2.2.1 | exact hd.2.2.2.1 | exact hd.2.2.2.2.1 | exact hd.2.2.2.2.2.1)
    have q1 := (hW.lw.box hbx 1 _ rfl).1
    clear hT hd hW
    refine ⟨.slice (some a2) nD c2, ?_, rfl⟩
    simp only [execOp]
    go_simp
  case s41 =>
    refine stepS_on 33 83 false rfl rfl rfl (fun T w1 s hT hd hs hW => ⟨(by first | exact hd.1 | exact hd.2.1 | exact hd.2.2.1 | exact hd.2.2.2.1 | exact hd.2.2.2.2.1 | exact hd.2.2.2.2.2.1), ?_⟩)
    have ec := evT_const T
    have ef := evT_func T
    have d12 : evT T (.tmp 12) = .slice (some ⟨go, 0, none⟩) L dc := hT 12 (by kernel_rfl)
    clear hT hd hW
    refine ⟨.slice (some ⟨go, 0, none⟩) L dc, ?_, rfl⟩
    simp only [execOp]
    go_simp
  case s42 =>
    refine stepS_on 33 83 false rfl rfl rfl (fun T w1 s hT hd hs hW => ⟨(by first | exact hd.1 | exact hd.2.1 | exact hd.2.2.1 | exact hd.2.2.2.1 | exact hd.2.2.2.2.1 | exact hd.2.2.2.2.2.1), ?_⟩)
    have ec := evT_const T
    have ef := evT_func T
    have d13 : evT T (.tmp 13) = .int .i64 (j : Int) := hT 13 (by kernel_rfl)
    clear hT hd hW
    refine ⟨.int .i64 (j : Int), ?_, rfl⟩
    simp only [execOp]
    go_simp
  case s43 =>
    refine stepS_on 33 83 false rfl rfl rfl (fun T w1 s hT hd hs hW => ⟨(by first | exact hd.1 | exact hd.2.1 | exact hd.2.2.1 | exact hd.2.2.2.1 | exact hd.2.2.2.2.1 | exact hd.2.2.2.2.2.1), ?_⟩)
    have ec := evT_const T
    have ef := evT_func T
    have d91 : evT T (.tmp 91) = .slice (some ⟨go, 0, none⟩) L dc := (by first | exact hd.1 | exact hd.2.1 | exact hd.2.2.1 | exact hd.2.2.2.1 | exact hd.2.2.2.2.1 | exact hd.2.2.2.2.2.1)
    have d92 : evT T (.tmp 92) = .int .i64 (j : Int) := (by first | exact hd.1 | exact hd.2.1 | exact hd.2.2.1 | exact hd.2.2.2.1 | exact hd.2.2.2.2.1 | exact hd.2.2.2.2.2.1)
    clear hT hd hW
    refine ⟨.pointer (some ⟨go, j, none⟩), ?_, rfl⟩
    simp only [execOp]
    go_simp
  case s44 =>
    refine stepS_on 33 83 false rfl rfl rfl (fun T w1 s hT hd hs hW => ⟨(by first | exact hd.1 | exact hd.2.1 | exact hd.2.2.1 | exact hd.2.2.2.1 | exact hd.2.2.2.2.1 | exact hd.2.2.2.2.2.1), ?_⟩)
    have ec := evT_const T
    have ef := evT_func T
    have d93 : evT T (.tmp 93) = .pointer (some ⟨go, j, none⟩) := (by first | exact hd.1 | exact hd.2.1 | exact hd.2.2.1 | exact hd.2.2.2.1 | exact hd.2.2.2.2.1 | exact hd.2.2.2.2.2.1)
    have q1 := hW.at1 hu
    clear hT hd hW
    refine ⟨.int .i64 (u : Int), ?_, rfl⟩
    simp only [execOp]
    go_simp
  case s45 =>
    refine stepS_on 33 83 false rfl rfl rfl (fun T w1 s hT hd hs hW => ⟨(by first | exact hd.1 | exact hd.2.1 | exact hd.2.2.1 | exact hd.2.2.2.1 | exact hd.2.2.2.2.1 | exact hd.2.2.2.2.2.1), ?_⟩)
    have ec := evT_const T
    have ef := evT_func T
    have d90 : evT T (.tmp 90) = .slice (some a2) nD c2 := (by first | exact hd.1 | exact hd.2.1 | exact hd.2.2.1 | exact hd.2.2.2.1 | exact hd.2.2.2.2.1 | exact hd.2.2.2.2.2.1)
    have d94 : evT T (.tmp 94) = .int .i64 (u : Int) := (by first | exact hd.1 | exact hd.2.1 | exact hd.2.2.1 | exact hd.2.2.2.1 | exact hd.2.2.2.2.1 | exact hd.2.2.2.2.2.1)
    clear hT hd hW
    refine ⟨.pointer (some (a2.add (u * 3))), ?_, rfl⟩
    simp only [execOp]
    go_simp
  case s46 =>
    refine stepS_on 33 83 false rfl rfl rfl (fun T w1 s hT hd hs hW => ⟨(by first | exact hd.1 | exact hd.2.1 | exact hd.2.2.1 | exact hd.2.2.2.1 | exact hd.2.2.2.2.1 | exact hd.2.2.2.2.2.1), ?_⟩)
    have ec := evT_const T
    have ef := evT_func T
    have d95 : evT T (.tmp 95) = .pointer (some (a2.add (u * 3))) := (by first | exact hd.1 | exact hd.2.1 | exact hd.2.2.1 | exact hd.2.2.2.1 | exact hd.2.2.2.2.1 | exact hd.2.2.2.2.2.1)
    clear hT hd hW
    refine ⟨.pointer (some ⟨(a2.add (u * 3)).block, (a2.add (u * 3)).off + 1, none⟩), ?_, rfl⟩
    simp only [execOp]
    go_simp
  case s47 =>
    refine stepS_on 33 83 false rfl rfl rfl (fun T w1 s hT hd hs hW => ⟨(by first | exact hd.1 | exact hd.2.1 | exact hd.2.2.1 | exact hd.2.2.2.1 | exact hd.2.2.2.2.1 | exact hd.2.2.2.2.2.1), ?_⟩)
    have ec := evT_const T
    have ef := evT_func T
    have d96 : evT T (.tmp 96) = .pointer (some ⟨(a2.add (u * 3)).block, (a2.add (u * 3)).off + 1, none⟩) := (by first | exact hd.1 | exact hd.2.1 | exact hd.2.2.1 | exact hd.2.2.2.1 | exact hd.2.2.2.2.1 | exact hd.2.2.2.2.2.1)
    obtain ⟨a3, e3, -, q1, -⟩ := doms_cells hdv hW.lw.bel hdm
    injection e3 with e3
    subst e3
    clear hT hd hW
    refine ⟨.int .i64 dm.delay, ?_, rfl⟩
    simp only [execOp]
    go_simp
  case s48 =>
    refine stepC_on 3 33 83 false rfl rfl rfl (fun T w1 hT hd hW => ⟨(by first | exact hd.1 | exact hd.2.1 | exact hd.2.2.1 | exact hd.2.2.2.1 | exact hd.2.2.2.2.1 | exact hd.2.2.2.2.2.1), ?_⟩)
    have ec := evT_const T
    have ef := evT_func T
    have d84 : evT T (.tmp 84) = .pointer (some ⟨gt, 0, none⟩) := (by first | exact hd.1 | exact hd.2.1 | exact hd.2.2.1 | exact hd.2.2.2.1 | exact hd.2.2.2.2.1 | exact hd.2.2.2.2.2.1)
    have d88 : evT T (.tmp 88) = .int .i64 (u : Int) := (by first | exact hd.1 | exact hd.2.1 | exact hd.2.2.1 | exact hd.2.2.2.1 | exact hd.2.2.2.2.1 | exact hd.2.2.2.2.2.1)
    have d97 : evT T (.tmp 97) = .int .i64 dm.delay := (by first | exact hd.1 | exact hd.2.1 | exact hd.2.2.1 | exact hd.2.2.2.1 | exact hd.2.2.2.2.1 | exact hd.2.2.2.2.2.1)
    refine ⟨18, #[.pointer (some ⟨gt, 0, none⟩), .int .i64 (u : Int), .int .i64 dm.delay, .int .u8 110], ?_, ?_⟩
    · clear hT hd hW
      simp only [execOp, resolve]
      go_simp
    · refine (hrs w1 hW).mono ?_
      rintro e w2 ⟨rfl, h2⟩
      exact ⟨_, rfl, rfl, h2⟩
  case s49 =>
    refine stepS_on 33 83 false rfl rfl rfl (fun T w1 s hT hd hs hW => ⟨(by first | exact hd.1 | exact hd.2.1 | exact hd.2.2.1 | exact hd.2.2.2.1 | exact hd.2.2.2.2.1 | exact hd.2.2.2.2.2.1), ?_⟩)
    have ec := evT_const T
    have ef := evT_func T
    have d98 : evT T (.tmp 98) = .bool true := (by first | exact hd.1 | exact hd.2.1 | exact hd.2.2.1 | exact hd.2.2.2.1 | exact hd.2.2.2.2.1 | exact hd.2.2.2.2.2.1)
    clear hT hd hW
    refine ⟨.bool false, ?_, rfl⟩
    simp only [execOp]
    go_simp
  case s50 =>
    refine stepS_plain rfl rfl (fun T w1 s hT hd hs hW => ?_)
    have ec := evT_const T
    have ef := evT_func T
    have d83 : evT T (.tmp 83) = .bool false := (by first | exact hd.1 | exact hd.2.1 | exact hd.2.2.1 | exact hd.2.2.2.1 | exact hd.2.2.2.2.1 | exact hd.2.2.2.2.2.1)
    have d99 : evT T (.tmp 99) = .bool false := (by first | exact hd.1 | exact hd.2.1 | exact hd.2.2.1 | exact hd.2.2.2.1 | exact hd.2.2.2.2.1 | exact hd.2.2.2.2.2.1)
    clear hT hd hW
    refine ⟨.bool false, ?_, rfl⟩
    simp only [execOp]
    go_simp
  case fin =>
    intro T w1 hT hW hd
    have e100 : T 100 = .bool false := hd.2.2.2.2.2.2.2.2.2.2.2.2.2.2.2.2.2.2.2.2.2.2.2.2.2.2.2.2.2.2.2.2.2.2.2.2.2.2.2.2.2.2.2.2.2.2.2.2.2.2.1
    have hl : listT T 192 = List.toArray (T 0 :: T 1 :: T 2 :: T 3 :: T 4 :: T 5 :: T 6 :: T 7 :: T 8 :: T 9 :: T 10 :: T 11 :: T 12 :: T 13 :: T 14 :: T 15 :: T 16 :: T 17 :: T 18 :: T 19 :: T 20 :: T 21 :: T 22 :: T 23 :: T 24 :: T 25 :: T 26 :: T 27 :: T 28 :: T 29 :: T 30 :: T 31 :: T 32 :: T 33 :: T 34 :: T 35 :: T 36 :: T 37 :: T 38 :: T 39 :: T 40 :: T 41 :: T 42 :: T 43 :: T 44 :: T 45 :: T 46 :: T 47 :: T 48 :: T 49 :: T 50 :: T 51 :: T 52 :: T 53 :: T 54 :: T 55 :: T 56 :: T 57 :: T 58 :: T 59 :: T 60 :: T 61 :: T 62 :: T 63 :: T 64 :: T 65 :: T 66 :: T 67 :: T 68 :: T 69 :: T 70 :: T 71 :: T 72 :: T 73 :: T 74 :: T 75 :: T 76 :: T 77 :: T 78 :: T 79 :: T 80 :: T 81 :: T 82 :: T 83 :: T 84 :: T 85 :: T 86 :: T 87 :: T 88 :: T 89 :: T 90 :: T 91 :: T 92 :: T 93 :: T 94 :: T 95 :: T 96 :: T 97 :: T 98 :: T 99 :: T 100 :: T 101 :: T 102 :: T 103 :: T 104 :: T 105 :: T 106 :: T 107 :: T 108 :: T 109 :: T 110 :: T 111 :: T 112 :: T 113 :: T 114 :: T 115 :: T 116 :: T 117 :: T 118 :: T 119 :: T 120 :: T 121 :: T 122 :: T 123 :: T 124 :: T 125 :: T 126 :: T 127 :: T 128 :: T 129 :: T 130 :: T 131 :: T 132 :: T 133 :: T 134 :: T 135 :: T 136 :: T 137 :: T 138 :: T 139 :: T 140 :: T 141 :: T 142 :: T 143 :: T 144 :: T 145 :: T 146 :: T 147 :: T 148 :: T 149 :: T 150 :: T 151 :: T 152 :: T 153 :: T 154 :: T 155 :: T 156 :: T 157 :: T 158 :: T 159 :: T 160 :: T 161 :: T 162 :: T 163 :: T 164 :: T 165 :: T 166 :: T 167 :: T 168 :: T 169 :: T 170 :: T 171 :: T 172 :: T 173 :: T 174 :: T 175 :: T 176 :: T 177 :: T 178 :: T 179 :: T 180 :: T 181 :: T 182 :: T 183 :: T 184 :: T 185 :: T 186 :: T 187 :: T 188 :: T 189 :: T 190 :: T 191 :: []) := rfl
    have e0 : T 0 = u0 := hT 0 (by kernel_rfl)
    have e1 : T 1 = u1 := hT 1 (by kernel_rfl)
    have e2 : T 2 = u2 := hT 2 (by kernel_rfl)
    have e3 : T 3 = u3 := hT 3 (by kernel_rfl)
    have e4 : T 4 = u4 := hT 4 (by kernel_rfl)
    have e5 : T 5 = u5 := hT 5 (by kernel_rfl)
    have e6 : T 6 = u6 := hT 6 (by kernel_rfl)
    have e7 : T 7 = u7 := hT 7 (by kernel_rfl)
    have e8 : T 8 = .pointer (some ⟨b, 0, none⟩) := hT 8 (by kernel_rfl)
    have e9 : T 9 = .pointer (some ⟨gt, 0, none⟩) := hT 9 (by kernel_rfl)
    have e10 : T 10 = u10 := hT 10 (by kernel_rfl)
    have e11 : T 11 = u11 := hT 11 (by kernel_rfl)
    have e12 : T 12 = .slice (some ⟨go, 0, none⟩) L dc := hT 12 (by kernel_rfl)
    have e13 : T 13 = .int .i64 (j : Int) := hT 13 (by kernel_rfl)
    have e14 : T 14 = u14 := hT 14 (by kernel_rfl)
    have e15 : T 15 = u15 := hT 15 (by kernel_rfl)
    have e16 : T 16 = u16 := hT 16 (by kernel_rfl)
    have e17 : T 17 = u17 := hT 17 (by kernel_rfl)
    have e18 : T 18 = u18 := hT 18 (by kernel_rfl)
    have e19 : T 19 = u19 := hT 19 (by kernel_rfl)
    have e20 : T 20 = u20 := hT 20 (by kernel_rfl)
    have e21 : T 21 = u21 := hT 21 (by kernel_rfl)
    have e22 : T 22 = u22 := hT 22 (by kernel_rfl)
    have e23 : T 23 = u23 := hT 23 (by kernel_rfl)
    have e24 : T 24 = u24 := hT 24 (by kernel_rfl)
    have e25 : T 25 = u25 := hT 25 (by kernel_rfl)
    have e26 : T 26 = u26 := hT 26 (by kernel_rfl)
    have e27 : T 27 = u27 := hT 27 (by kernel_rfl)
    have e28 : T 28 = u28 := hT 28 (by kernel_rfl)
    have e29 : T 29 = u29 := hT 29 (by kernel_rfl)
    have e30 : T 30 = u30 := hT 30 (by kernel_rfl)
    have e31 : T 31 = u31 := hT 31 (by kernel_rfl)
    have e32 : T 32 = u32 := hT 32 (by kernel_rfl)
    have e33 : T 33 = u33 := hT 33 (by kernel_rfl)
    have e34 : T 34 = u34 := hT 34 (by kernel_rfl)
    have e35 : T 35 = u35 := hT 35 (by kernel_rfl)
    have e36 : T 36 = u36 := hT 36 (by kernel_rfl)
    have e37 : T 37 = u37 := hT 37 (by kernel_rfl)
    have e38 : T 38 = u38 := hT 38 (by kernel_rfl)
    have e39 : T 39 = u39 := hT 39 (by kernel_rfl)
    have e40 : T 40 = u40 := hT 40 (by kernel_rfl)
    have e41 : T 41 = u41 := hT 41 (by kernel_rfl)
    have e42 : T 42 = u42 := hT 42 (by kernel_rfl)
    have e43 : T 43 = u43 := hT 43 (by kernel_rfl)
    have e44 : T 44 = u44 := hT 44 (by kernel_rfl)
    have e45 : T 45 = u45 := hT 45 (by kernel_rfl)
    have e46 : T 46 = u46 := hT 46 (by kernel_rfl)
    have e47 : T 47 = u47 := hT 47 (by kernel_rfl)
    have e48 : T 48 = u48 := hT 48 (by kernel_rfl)
    have e49 : T 49 = u49 := hT 49 (by kernel_rfl)
    have e101 : T 101 = u101 := hT 101 (by kernel_rfl)
    have e102 : T 102 = u102 := hT 102 (by kernel_rfl)
    have e103 : T 103 = u103 := hT 103 (by kernel_rfl)
    have e104 : T 104 = u104 := hT 104 (by kernel_rfl)
    have e105 : T 105 = u105 := hT 105 (by kernel_rfl)
    have e106 : T 106 = u106 := hT 106 (by kernel_rfl)
    have e107 : T 107 = u107 := hT 107 (by kernel_rfl)
    have e108 : T 108 = u108 := hT 108 (by kernel_rfl)
    have e109 : T 109 = u109 := hT 109 (by kernel_rfl)
    have e110 : T 110 = u110 := hT 110 (by kernel_rfl)
    have e111 : T 111 = u111 := hT 111 (by kernel_rfl)
    have e112 : T 112 = u112 := hT 112 (by kernel_rfl)
    have e113 : T 113 = u113 := hT 113 (by kernel_rfl)
    have e114 : T 114 = u114 := hT 114 (by kernel_rfl)
    have e115 : T 115 = u115 := hT 115 (by kernel_rfl)
    have e116 : T 116 = u116 := hT 116 (by kernel_rfl)
    have e117 : T 117 = u117 := hT 117 (by kernel_rfl)
    have e118 : T 118 = u118 := hT 118 (by kernel_rfl)
    have e119 : T 119 = u119 := hT 119 (by kernel_rfl)
    have e120 : T 120 = u120 := hT 120 (by kernel_rfl)
    have e121 : T 121 = u121 := hT 121 (by kernel_rfl)
    have e122 : T 122 = u122 := hT 122 (by kernel_rfl)
    have e123 : T 123 = u123 := hT 123 (by kernel_rfl)
    have e124 : T 124 = u124 := hT 124 (by kernel_rfl)
    have e125 : T 125 = u125 := hT 125 (by kernel_rfl)
    have e126 : T 126 = u126 := hT 126 (by kernel_rfl)
    have e127 : T 127 = u127 := hT 127 (by kernel_rfl)
    have e128 : T 128 = u128 := hT 128 (by kernel_rfl)
    have e129 : T 129 = u129 := hT 129 (by kernel_rfl)
    have e130 : T 130 = u130 := hT 130 (by kernel_rfl)
    have e131 : T 131 = u131 := hT 131 (by kernel_rfl)
    have e132 : T 132 = u132 := hT 132 (by kernel_rfl)
    have e133 : T 133 = u133 := hT 133 (by kernel_rfl)
    have e134 : T 134 = u134 := hT 134 (by kernel_rfl)
    have e135 : T 135 = u135 := hT 135 (by kernel_rfl)
    have e136 : T 136 = u136 := hT 136 (by kernel_rfl)
    have e137 : T 137 = u137 := hT 137 (by kernel_rfl)
    have e138 : T 138 = u138 := hT 138 (by kernel_rfl)
    have e139 : T 139 = u139 := hT 139 (by kernel_rfl)
    have e140 : T 140 = u140 := hT 140 (by kernel_rfl)
    have e141 : T 141 = u141 := hT 141 (by kernel_rfl)
    have e142 : T 142 = u142 := hT 142 (by kernel_rfl)
    have e143 : T 143 = u143 := hT 143 (by kernel_rfl)
    have e144 : T 144 = u144 := hT 144 (by kernel_rfl)
    have e145 : T 145 = u145 := hT 145 (by kernel_rfl)
    have e146 : T 146 = u146 := hT 146 (by kernel_rfl)
    have e147 : T 147 = u147 := hT 147 (by kernel_rfl)
    have e148 : T 148 = u148 := hT 148 (by kernel_rfl)
    have e149 : T 149 = u149 := hT 149 (by kernel_rfl)
    have e150 : T 150 = u150 := hT 150 (by kernel_rfl)
    have e151 : T 151 = u151 := hT 151 (by kernel_rfl)
    have e152 : T 152 = u152 := hT 152 (by kernel_rfl)
    have e153 : T 153 = u153 := hT 153 (by kernel_rfl)
    have e154 : T 154 = u154 := hT 154 (by kernel_rfl)
    have e155 : T 155 = u155 := hT 155 (by kernel_rfl)
    have e156 : T 156 = u156 := hT 156 (by kernel_rfl)
    have e157 : T 157 = u157 := hT 157 (by kernel_rfl)
    have e158 : T 158 = u158 := hT 158 (by kernel_rfl)
    have e159 : T 159 = u159 := hT 159 (by kernel_rfl)
    have e160 : T 160 = u160 := hT 160 (by kernel_rfl)
    have e161 : T 161 = u161 := hT 161 (by kernel_rfl)
    have e162 : T 162 = u162 := hT 162 (by kernel_rfl)
    have e163 : T 163 = u163 := hT 163 (by kernel_rfl)
    have e164 : T 164 = u164 := hT 164 (by kernel_rfl)
    have e165 : T 165 = u165 := hT 165 (by kernel_rfl)
    have e166 : T 166 = u166 := hT 166 (by kernel_rfl)
    have e167 : T 167 = u167 := hT 167 (by kernel_rfl)
    have e168 : T 168 = u168 := hT 168 (by kernel_rfl)
    have e169 : T 169 = u169 := hT 169 (by kernel_rfl)
    have e170 : T 170 = u170 := hT 170 (by kernel_rfl)
    have e171 : T 171 = u171 := hT 171 (by kernel_rfl)
    have e172 : T 172 = u172 := hT 172 (by kernel_rfl)
    have e173 : T 173 = u173 := hT 173 (by kernel_rfl)
    have e174 : T 174 = u174 := hT 174 (by kernel_rfl)
    have e175 : T 175 = u175 := hT 175 (by kernel_rfl)
    have e176 : T 176 = u176 := hT 176 (by kernel_rfl)
    have e177 : T 177 = u177 := hT 177 (by kernel_rfl)
    have e178 : T 178 = u178 := hT 178 (by kernel_rfl)
    have e179 : T 179 = u179 := hT 179 (by kernel_rfl)
    have e180 : T 180 = u180 := hT 180 (by kernel_rfl)
    have e181 : T 181 = u181 := hT 181 (by kernel_rfl)
    have e182 : T 182 = u182 := hT 182 (by kernel_rfl)
    have e183 : T 183 = u183 := hT 183 (by kernel_rfl)
    have e184 : T 184 = u184 := hT 184 (by kernel_rfl)
    have e185 : T 185 = u185 := hT 185 (by kernel_rfl)
    have e186 : T 186 = u186 := hT 186 (by kernel_rfl)
    have e187 : T 187 = u187 := hT 187 (by kernel_rfl)
    have e188 : T 188 = u188 := hT 188 (by kernel_rfl)
    have e189 : T 189 = u189 := hT 189 (by kernel_rfl)
    have e190 : T 190 = u190 := hT 190 (by kernel_rfl)
    have e191 : T 191 = u191 := hT 191 (by kernel_rfl)
    rw [hl, e100, e0, e1, e2, e3, e4, e5, e6, e7, e8, e9, e10, e11, e12, e13, e14, e15, e16, e17, e18, e19, e20, e21, e22, e23, e24, e25, e26, e27, e28, e29, e30, e31, e32, e33, e34, e35, e36, e37, e38, e39, e40, e41, e42, e43, e44, e45, e46, e47, e48, e49, e101, e102, e103, e104, e105, e106, e107, e108, e109, e110, e111, e112, e113, e114, e115, e116, e117, e118, e119, e120, e121, e122, e123, e124, e125, e126, e127, e128, e129, e130, e131, e132, e133, e134, e135, e136, e137, e138, e139, e140, e141, e142, e143, e144, e145, e146, e147, e148, e149, e150, e151, e152, e153, e154, e155, e156, e157, e158, e159, e160, e161, e162, e163, e164, e165, e166, e167, e168, e169, e170, e171, e172, e173, e174, e175, e176, e177, e178, e179, e180, e181, e182, e183, e184, e185, e186, e187, e188, e189, e190, e191]
    exact HQ.out _ _ _ _ _ _ _ _ _ _ _ _ _ _ _ _ _ _ _ _ _ _ _ _ _ _ _ _ _ _ _ _ _ _ _ _ _ _ _ _ _ _ _ _ _ _ _ _ _ _ w1 hW
end

end Go.Proofs.Ytlhmcpkfmnmhfaa
