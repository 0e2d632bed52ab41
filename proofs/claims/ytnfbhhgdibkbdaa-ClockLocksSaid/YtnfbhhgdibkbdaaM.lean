/- Graphs, plain: the order in which nodes can be had; what is above a node. No Go in it. -/
namespace Go.Proofs.Ytnfbhhgdibkbdaa
set_option linter.unusedSimpArgs false
set_option linter.unusedVariables false

def ci (l : List Nat) : List Int := l.map fun x : Nat => (x : Int)
theorem mem_ci {x : Nat} {l : List Nat} : (x : Int) ∈ ci l ↔ x ∈ l := by
  unfold ci; rw [List.mem_map]
  constructor
  · rintro ⟨y, hy, e⟩
    have : y = x := by omega
    rw [← this]; exact hy
  · intro h; exact ⟨x, h, rfl⟩
theorem ci_length (l : List Nat) : (ci l).length = l.length := by simp [ci]
theorem ci_append (l m : List Nat) : ci (l ++ m) = ci l ++ ci m := by simp [ci]
theorem ci_inj {l m : List Nat} (h : ci l = ci m) : l = m := by
  induction l generalizing m with
  | nil => cases m with
    | nil => rfl
    | cons y m => simp [ci] at h
  | cons x l ih => cases m with
    | nil => simp [ci] at h
    | cons y m =>
      simp only [ci, List.map_cons, List.cons.injEq] at h
      obtain ⟨h1, h2⟩ := h
      rw [ih h2]
      congr 1
      omega

/-- v is not met, and waits for none but those that are -/
def ReadyI (g : Nat → List Int) (met : List Int) (v : Nat) : Prop := (v : Int) ∉ met ∧ ∀ x, x ∈ g v → x ∈ met

/-- a list of nodes, each the least that could be had behind those ahead of it -/
inductive Greedy (g : Nat → List Int) (n : Nat) : List Nat → Prop
  | nil : Greedy g n []
  | snoc {o : List Nat} {v : Nat} : Greedy g n o → v < n → ReadyI g (ci o) v → (∀ u, u < v → ¬ ReadyI g (ci o) u) → Greedy g n (o ++ [v])
/-- .. and no more can be had -/
def Had (g : Nat → List Int) (n : Nat) (o : List Nat) : Prop := Greedy g n o ∧ ∀ u, u < n → ¬ ReadyI g (ci o) u

theorem nodup_snoc {o : List Nat} {v : Nat} : (o ++ [v]).Nodup ↔ o.Nodup ∧ v ∉ o := by
  rw [List.nodup_append]
  simp only [List.nodup_cons, List.not_mem_nil, not_false_iff, List.nodup_nil, and_self, true_and, List.mem_singleton, forall_eq]
  constructor
  · rintro ⟨h1, h2⟩; exact ⟨h1, fun h => h2 v h rfl⟩
  · rintro ⟨h1, h2⟩; exact ⟨h1, fun a ha e => h2 (e ▸ ha)⟩

theorem nodup_le : ∀ (n : Nat) (l : List Nat), l.Nodup → (∀ x, x ∈ l → x < n) → l.length ≤ n
  | 0, l, _, h => by
    cases l with
    | nil => simp
    | cons x l => exact absurd (h x (by simp)) (by omega)
  | n + 1, l, hd, h => by
    have hd' : (l.erase n).Nodup := hd.erase n
    have h' : ∀ x, x ∈ l.erase n → x < n := fun x hx => by
      have h1 := h x (List.mem_of_mem_erase hx)
      have h2 : x ≠ n := fun e => by
        subst e
        exact (List.Nodup.mem_erase_iff hd).1 hx |>.1 rfl
      omega
    have hl := nodup_le n _ hd' h'
    by_cases hm : n ∈ l
    · rw [List.length_erase_of_mem hm] at hl; omega
    · rw [List.erase_of_not_mem hm] at hl; omega

theorem nodup_all {n : Nat} {l : List Nat} (hd : l.Nodup) (h : ∀ x, x ∈ l → x < n) (hl : n ≤ l.length) {v : Nat} (hv : v < n) : v ∈ l := by
  apply Classical.byContradiction
  intro hm
  have hd' : (v :: l).Nodup := List.nodup_cons.2 ⟨hm, hd⟩
  have := nodup_le n (v :: l) hd' (fun x hx => by
    rcases List.mem_cons.1 hx with rfl | hx
    · exact hv
    · exact h x hx)
  simp at this
  omega

theorem Greedy.nodup {g : Nat → List Int} {n : Nat} {o : List Nat} (h : Greedy g n o) : o.Nodup ∧ ∀ x, x ∈ o → x < n := by
  induction h with
  | nil => exact ⟨List.nodup_nil, by simp⟩
  | snoc _ hv hr _ ih =>
    refine ⟨nodup_snoc.2 ⟨ih.1, fun hm => hr.1 (mem_ci.2 hm)⟩, fun x hx => ?_⟩
    rcases List.mem_append.1 hx with hx | hx
    · exact ih.2 x hx
    · rw [List.mem_singleton.1 hx]; exact hv
theorem Greedy.length_le {g : Nat → List Int} {n : Nat} {o : List Nat} (h : Greedy g n o) : o.length ≤ n := nodup_le n o h.nodup.1 h.nodup.2

theorem Greedy.at_ {g : Nat → List Int} {n : Nat} {o : List Nat} (h : Greedy g n o) : ∀ k (hk : k < o.length), ReadyI g (ci (o.take k)) o[k] ∧ ∀ u, u < o[k] → ¬ ReadyI g (ci (o.take k)) u := by
  induction h with
  | nil => intro k hk; simp at hk
  | @snoc o v _ hv hr hno ih =>
    intro k hk
    rw [List.length_append] at hk
    simp at hk
    by_cases e : k = o.length
    · subst e
      have e1 : (o ++ [v]).take o.length = o := by simp
      have e2 : (o ++ [v])[o.length]'(by simp) = v := by simp
      rw [e1, e2]
      exact ⟨hr, hno⟩
    · have hk' : k < o.length := by omega
      have e1 : (o ++ [v]).take k = o.take k := by rw [List.take_append_of_le_length (by omega)]
      have e2 : (o ++ [v])[k]'(by simp; omega) = o[k] := List.getElem_append_left hk'
      rw [e1, e2]
      exact ih k hk'

theorem Had.unique {g : Nat → List Int} {n : Nat} {o o' : List Nat} (h : Had g n o) (h' : Had g n o') : o = o' := by
  have key : ∀ {o o' : List Nat}, Greedy g n o → Had g n o' → ∃ t, o' = o ++ t := by
    intro o o' hg hh
    induction hg with
    | nil => exact ⟨o', rfl⟩
    | @snoc o v _ hv hr hno ih =>
      obtain ⟨t, rfl⟩ := ih
      cases t with
      | nil => rw [List.append_nil] at hh; exact absurd hr (hh.2 v hv)
      | cons u t =>
        obtain ⟨h1, h2⟩ := hh.1.at_ o.length (by simp)
        have e1 : (o ++ u :: t).take o.length = o := by simp
        have e2 : (o ++ u :: t)[o.length]'(by simp) = u := by simp
        rw [e1, e2] at h1 h2
        have : u = v := by
          rcases Nat.lt_trichotomy u v with hl | e | hl
          · exact absurd h1 (hno u hl)
          · exact e
          · exact absurd hr (h2 v hl)
        subst this
        exact ⟨t, by simp⟩
  obtain ⟨t, rfl⟩ := key h.1 h'
  obtain ⟨s, e⟩ := key h'.1 h
  have := congrArg List.length e
  rw [List.length_append, List.length_append] at this
  have ht : t = [] := List.eq_nil_of_length_eq_zero (by omega)
  rw [ht, List.append_nil]

/-- b is above a -/
inductive Ab (g : Nat → List Int) : Nat → Nat → Prop
  | one {a b : Nat} : (b : Int) ∈ g a → Ab g a b
  | more {a c b : Nat} : (c : Int) ∈ g a → Ab g c b → Ab g a b

open Classical in
noncomputable def abB (g : Nat → List Int) (a b : Nat) : Bool := decide (Ab g a b)
theorem abB_iff {g : Nat → List Int} {a b : Nat} : abB g a b = true ↔ Ab g a b := by unfold abB; simp
theorem abB_no {g : Nat → List Int} {a b : Nat} : abB g a b = false ↔ ¬ Ab g a b := by rw [← abB_iff]; simp

/-- of an order: those under v; those above v -/
noncomputable def undOf (g : Nat → List Int) (v : Nat) (o : List Nat) : List Nat := o.filter fun u => abB g u v
noncomputable def aboOf (g : Nat → List Int) (v : Nat) (o : List Nat) : List Nat := o.filter fun u => abB g v u

theorem undOf_snoc_yes {g : Nat → List Int} {v u : Nat} {o : List Nat} (h : Ab g u v) : undOf g v (o ++ [u]) = undOf g v o ++ [u] := by simp [undOf, List.filter_append, abB_iff.2 h]
theorem undOf_snoc_no {g : Nat → List Int} {v u : Nat} {o : List Nat} (h : ¬ Ab g u v) : undOf g v (o ++ [u]) = undOf g v o := by simp [undOf, List.filter_append, abB_no.2 h]

/-- the next node of an order is under v just if it hangs on v, or on one that was found to be -/
theorem und_step {g : Nat → List Int} {n : Nat} {o : List Nat} (h : Greedy g n o) {v k u : Nat} (hu : o[k]? = some u) : (∃ x, x ∈ g u ∧ (x = (v : Int) ∨ x ∈ ci (undOf g v (o.take k)))) ↔ Ab g u v := by
  obtain ⟨hk, rfl⟩ := List.getElem?_eq_some_iff.1 hu
  obtain ⟨hr, _⟩ := h.at_ k hk
  constructor
  · rintro ⟨x, hx, rfl | hm⟩
    · exact .one hx
    · unfold ci at hm
      obtain ⟨y, hy, rfl⟩ := List.mem_map.1 hm
      exact .more hx (abB_iff.1 (List.mem_filter.1 hy).2)
  · intro hab
    cases hab with
    | one hx => exact ⟨_, hx, .inl rfl⟩
    | @more _ c _ hx hab =>
      refine ⟨_, hx, .inr (mem_ci.2 (List.mem_filter.2 ⟨?_, abB_iff.2 hab⟩))⟩
      exact mem_ci.1 (hr.2 _ hx)

/-- what is met behind the nodes of a list: the row of each that was met itself -/
def accA (g : Nat → List Int) (l : List Int) (pre : List Nat) : List Int := pre.foldl (fun (acc : List Int) (u : Nat) => if (u : Int) ∈ acc then acc ++ g u else acc) l
theorem accA_nil {g : Nat → List Int} {l : List Int} : accA g l [] = l := rfl
theorem accA_yes {g : Nat → List Int} {l : List Int} {pre : List Nat} {u : Nat} (h : (u : Int) ∈ accA g l pre) : accA g l (pre ++ [u]) = accA g l pre ++ g u := by
  unfold accA at h ⊢; rw [List.foldl_append]; simp [h]
theorem accA_no {g : Nat → List Int} {l : List Int} {pre : List Nat} {u : Nat} (h : (u : Int) ∉ accA g l pre) : accA g l (pre ++ [u]) = accA g l pre := by
  unfold accA at h ⊢; rw [List.foldl_append]; simp [h]

/-- an order of all nodes: each hangs on those ahead of it alone -/
def Topo (g : Nat → List Int) (n : Nat) (o : List Nat) : Prop :=
  o.Nodup ∧ (∀ x, x ∈ o → x < n) ∧ (∀ v, v < n → v ∈ o) ∧ ∀ (i j u v : Nat), o[i]? = some u → o[j]? = some v → (u : Int) ∈ g v → i < j
def Closed (g : Nat → List Int) (n : Nat) : Prop := ∀ i, i < n → ∀ x, x ∈ g i → ∃ y : Nat, y < n ∧ x = (y : Int)

theorem idx_inj {o : List Nat} (hd : o.Nodup) {i j u : Nat} (hi : o[i]? = some u) (hj : o[j]? = some u) : i = j := by
  obtain ⟨h1, e1⟩ := List.getElem?_eq_some_iff.1 hi
  obtain ⟨h2, e2⟩ := List.getElem?_eq_some_iff.1 hj
  have hp := List.pairwise_iff_getElem.1 hd
  rcases Nat.lt_trichotomy i j with hl | e | hl
  · exact absurd (e1.trans e2.symm) (hp i j h1 h2 hl)
  · exact e
  · exact absurd (e2.trans e1.symm) (hp j i h2 h1 hl)

theorem Had.topo {g : Nat → List Int} {n : Nat} {o : List Nat} (h : Had g n o) (hl : o.length = n) : Topo g n o := by
  obtain ⟨hd, hlt⟩ := h.1.nodup
  refine ⟨hd, hlt, fun v hv => nodup_all hd hlt (by omega) hv, fun i j u v hi hj hu => ?_⟩
  obtain ⟨hjl, rfl⟩ := List.getElem?_eq_some_iff.1 hj
  obtain ⟨hr, _⟩ := h.1.at_ j hjl
  have hm := mem_ci.1 (hr.2 _ hu)
  obtain ⟨q, hq, e⟩ := List.mem_take_iff_getElem.1 hm
  have hq' : o[q]? = some u := by rw [List.getElem?_eq_getElem (by omega), e]
  have := idx_inj hd hi hq'
  omega

/-- closed under rows, and holding v's: all that is above v -/
theorem above_closed {g : Nat → List Int} {n : Nat} {A : List Int} (hg : Closed g n) (hA : ∀ u : Nat, u < n → (u : Int) ∈ A → ∀ x, x ∈ g u → x ∈ A) : ∀ {c u : Nat}, Ab g c u → c < n → (∀ x, x ∈ g c → x ∈ A) → (u : Int) ∈ A := by
  intro c u h
  induction h with
  | one hx => intro _ hc; exact hc _ hx
  | @more a c b hx _ ih =>
    intro ha hc
    obtain ⟨y, hy, e⟩ := hg a ha _ hx
    have : c = y := by omega
    subst this
    exact ih hy (hA c hy (hc _ hx))

theorem ab_lt {g : Nat → List Int} {n : Nat} (hg : Closed g n) {a b : Nat} (h : Ab g a b) (ha : a < n) : b < n := by
  induction h with
  | @one a b hx =>
    obtain ⟨y, hy, e⟩ := hg a ha _ hx
    have : b = y := by omega
    omega
  | @more a c b hx _ ih =>
    obtain ⟨y, hy, e⟩ := hg a ha _ hx
    have : c = y := by omega
    exact ih (by omega)
theorem ab_trans {g : Nat → List Int} {a b c : Nat} (h : Ab g a b) (h' : Ab g b c) : Ab g a c := by
  induction h with
  | one hx => exact .more hx h'
  | more hx _ ih => exact .more hx (ih h')
theorem ab_snoc {g : Nat → List Int} {a b c : Nat} (h : Ab g a b) (hx : (c : Int) ∈ g b) : Ab g a c := ab_trans h (.one hx)

/-- in an order what is above a node stands ahead of it -/
theorem Topo.ab {g : Nat → List Int} {n : Nat} {o : List Nat} (h : Topo g n o) (hg : Closed g n) {a b : Nat} (hab : Ab g a b) (ha : a < n) {i j : Nat} (hi : o[i]? = some b) (hj : o[j]? = some a) : i < j := by
  induction hab generalizing j with
  | one hx => exact h.2.2.2 _ _ _ _ hi hj hx
  | @more a c b hx _ ih =>
    obtain ⟨y, hy, e⟩ := hg a ha _ hx
    have hcy : c = y := by omega
    obtain ⟨k, hk, e'⟩ := List.mem_iff_getElem.1 (h.2.2.1 c (by omega))
    have hk' : o[k]? = some c := by rw [List.getElem?_eq_getElem hk, e']
    have h1 := ih (by omega) hi hk'
    have h2 := h.2.2.2 _ _ _ _ hk' hj hx
    omega
theorem Topo.irrefl {g : Nat → List Int} {n : Nat} {o : List Nat} (h : Topo g n o) (hg : Closed g n) {a : Nat} (ha : a < n) : ¬ Ab g a a := by
  intro hab
  obtain ⟨k, hk, e⟩ := List.mem_iff_getElem.1 (h.2.2.1 a ha)
  have hk' : o[k]? = some a := by rw [List.getElem?_eq_getElem hk, e]
  have := h.ab hg hab ha hk' hk'
  omega

/-- whatever was met from the end of the order on -/
theorem accA_inv {g : Nat → List Int} {n : Nat} {o : List Nat} (h : Topo g n o) (hg : Closed g n) {v : Nat} (hv : v < n) : ∀ k, k ≤ o.length →
    (∀ x, x ∈ accA g (g v) (o.reverse.take k) → ∃ u : Nat, x = (u : Int) ∧ Ab g v u) ∧ (∀ x, x ∈ g v → x ∈ accA g (g v) (o.reverse.take k)) ∧
    (∀ i u, o.length - k ≤ i → o[i]? = some u → (u : Int) ∈ accA g (g v) (o.reverse.take k) → ∀ x, x ∈ g u → x ∈ accA g (g v) (o.reverse.take k)) := by
  intro k
  induction k with
  | zero =>
    intro _
    rw [List.take_zero, accA_nil]
    refine ⟨fun x hx => ?_, fun x hx => hx, fun i u hi hu => ?_⟩
    · obtain ⟨y, _, rfl⟩ := hg v hv x hx
      exact ⟨y, rfl, .one hx⟩
    · rw [List.getElem?_eq_none (by omega)] at hu; cases hu
  | succ k ih =>
    intro hk
    obtain ⟨h1, h2, h3⟩ := ih (by omega)
    obtain ⟨u, hu⟩ : ∃ u, o[o.length - (k + 1)]? = some u := ⟨_, List.getElem?_eq_getElem (by omega)⟩
    have e : o.reverse.take (k + 1) = o.reverse.take k ++ [u] := by
      rw [List.take_add_one, List.getElem?_reverse (by omega)]
      rw [show o.length - 1 - k = o.length - (k + 1) by omega, hu]
      rfl
    rw [e]
    by_cases hm : (u : Int) ∈ accA g (g v) (o.reverse.take k)
    · rw [accA_yes hm]
      obtain ⟨u', eu, hab⟩ := h1 _ hm
      have : u = u' := by omega
      subst this
      have hun := ab_lt hg hab hv
      refine ⟨fun x hx => ?_, fun x hx => List.mem_append_left _ (h2 x hx), fun i w hi hw hwm x hx => ?_⟩
      · rcases List.mem_append.1 hx with hx | hx
        · exact h1 x hx
        · obtain ⟨y, _, rfl⟩ := hg u hun x hx
          exact ⟨y, rfl, ab_snoc hab hx⟩
      · by_cases ei : i = o.length - (k + 1)
        · subst ei
          rw [hu] at hw
          injection hw with hw
          subst hw
          exact List.mem_append_right _ hx
        · rcases List.mem_append.1 hwm with hwm | hwm
          · exact List.mem_append_left _ (h3 i w (by omega) hw hwm x hx)
          · have := h.2.2.2 _ _ _ _ hw hu hwm
            omega
    · rw [accA_no hm]
      refine ⟨h1, h2, fun i w hi hw hwm => ?_⟩
      by_cases ei : i = o.length - (k + 1)
      · subst ei
        rw [hu] at hw
        injection hw with hw
        subst hw
        exact absurd hwm hm
      · exact h3 i w (by omega) hw hwm

theorem accA_iff {g : Nat → List Int} {n : Nat} {o : List Nat} (h : Topo g n o) (hg : Closed g n) {v u : Nat} (hv : v < n) : (u : Int) ∈ accA g (g v) o.reverse ↔ Ab g v u := by
  obtain ⟨h1, h2, h3⟩ := accA_inv h hg hv o.length (Nat.le_refl _)
  rw [List.take_of_length_le (by simp)] at h1 h2 h3
  constructor
  · intro hu
    obtain ⟨u', e, hab⟩ := h1 _ hu
    have : u = u' := by omega
    rw [this]; exact hab
  · intro hab
    exact above_closed hg (fun c hc hcm => by
      obtain ⟨k, hk, e⟩ := List.mem_iff_getElem.1 (h.2.2.1 c hc)
      exact h3 k c (by omega) (by rw [List.getElem?_eq_getElem hk, e]) hcm) hab hv h2

end Go.Proofs.Ytnfbhhgdibkbdaa
