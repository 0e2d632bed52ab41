/- Acyclic graphs, plain: their orders are whole; what is above and under a node, counted. -/
import Derived.Test.YtlkgnafbipgpbaaM
namespace Go.Proofs.Ytlkgnafbipgpbaa

theorem nodup_sub_len : ∀ (l m : List Nat), l.Nodup → (∀ x, x ∈ l → x ∈ m) → l.length ≤ m.length
  | [], m, _, _ => Nat.zero_le _
  | x :: l, m, hd, hs => by
    obtain ⟨hx, hd'⟩ := List.nodup_cons.1 hd
    have hm : x ∈ m := hs x (by simp)
    have := nodup_sub_len l (m.erase x) hd' (fun y hy => by
      have hne : y ≠ x := fun e => hx (e ▸ hy)
      exact (List.mem_erase_of_ne hne).2 (hs y (List.mem_cons_of_mem _ hy)))
    rw [List.length_erase_of_mem hm] at this
    have hp : 0 < m.length := List.length_pos_of_mem hm
    simp only [List.length_cons]
    omega
theorem nodup_same_len {l m : List Nat} (hl : l.Nodup) (hm : m.Nodup) (h : ∀ x, x ∈ l ↔ x ∈ m) : l.length = m.length :=
  Nat.le_antisymm (nodup_sub_len l m hl fun x hx => (h x).1 hx) (nodup_sub_len m l hm fun x hx => (h x).2 hx)
theorem all_len {n : Nat} {o : List Nat} (h : ∀ v, v < n → v ∈ o) : n ≤ o.length := by
  have := nodup_sub_len (List.range n) o List.nodup_range (fun x hx => h x (List.mem_range.1 hx))
  rwa [List.length_range] at this

theorem filter_lt {P Q : Nat → Bool} : ∀ (l : List Nat), (∀ y, P y = true → Q y = true) → (∃ y, y ∈ l ∧ Q y = true ∧ P y = false) → (l.filter P).length < (l.filter Q).length
  | [], _, ⟨y, hy, _⟩ => by simp at hy
  | x :: l, hPQ, ⟨y, hy, hq, hp⟩ => by
    have hle : (l.filter P).length ≤ (l.filter Q).length := by
      clear hy
      induction l with
      | nil => simp
      | cons z l ih =>
        cases hpz : P z with
        | true => rw [List.filter_cons_of_pos hpz, List.filter_cons_of_pos (hPQ z hpz)]; simpa using ih
        | false =>
          rw [List.filter_cons_of_neg (by simp [hpz])]
          cases hqz : Q z with
          | true => rw [List.filter_cons_of_pos hqz]; simp only [List.length_cons]; omega
          | false => rw [List.filter_cons_of_neg (by simp [hqz])]; exact ih
    by_cases hx : y = x
    · subst hx
      rw [List.filter_cons_of_neg (by simp [hp]), List.filter_cons_of_pos hq]
      simp only [List.length_cons]
      omega
    · have hyl : y ∈ l := by
        rcases List.mem_cons.1 hy with h | h
        · exact absurd h hx
        · exact h
      have ih := filter_lt l hPQ ⟨y, hyl, hq, hp⟩
      cases hpx : P x with
      | true => rw [List.filter_cons_of_pos hpx, List.filter_cons_of_pos (hPQ x hpx)]; simpa using ih
      | false =>
        rw [List.filter_cons_of_neg (by simp [hpx])]
        cases hqx : Q x with
        | true => rw [List.filter_cons_of_pos hqx]; simp only [List.length_cons]; omega
        | false => rw [List.filter_cons_of_neg (by simp [hqx])]; exact ih

/-- each node hangs on nodes of lesser rank -/
def Ranked (g : Nat → List Int) (n : Nat) (f : Nat → Nat) : Prop := ∀ v, v < n → ∀ x, x ∈ g v → ∃ y : Nat, y < n ∧ x = (y : Int) ∧ f y < f v
theorem Ranked.closed {g : Nat → List Int} {n : Nat} {f : Nat → Nat} (h : Ranked g n f) : Closed g n := fun v hv x hx => let ⟨y, h1, h2, _⟩ := h v hv x hx; ⟨y, h1, h2⟩
theorem Ranked.ab {g : Nat → List Int} {n : Nat} {f : Nat → Nat} (h : Ranked g n f) {a b : Nat} (hab : Ab g a b) (ha : a < n) : f b < f a := by
  induction hab with
  | @one a b hx =>
    obtain ⟨y, _, e, hy⟩ := h a ha _ hx
    have : b = y := by omega
    rw [this]; exact hy
  | @more a c b hx _ ih =>
    obtain ⟨y, hyn, e, hy⟩ := h a ha _ hx
    have : c = y := by omega
    subst this
    have := ih hyn
    omega
theorem Ranked.full {g : Nat → List Int} {n : Nat} {f : Nat → Nat} (h : Ranked g n f) {o : List Nat} (ho : Had g n o) : o.length = n := by
  have key : ∀ k v, f v = k → v < n → v ∈ o := by
    intro k
    induction k using Nat.strongRecOn with
    | _ k ih =>
      intro v hk hv
      apply Classical.byContradiction
      intro hm
      refine ho.2 v hv ⟨fun hc => hm (mem_ci.1 hc), fun x hx => ?_⟩
      obtain ⟨y, hy, rfl, hf⟩ := h v hv x hx
      exact mem_ci.2 (ih (f y) (by omega) y rfl hy)
  have h1 := all_len (fun v hv => key _ v rfl hv)
  have h2 := ho.1.length_le
  omega
theorem acyc_ranked {g : Nat → List Int} {n : Nat} (hg : Closed g n) (h : ∀ v, v < n → ¬ Ab g v v) : Ranked g n (fun v => ((List.range n).filter (abB g v)).length) := by
  intro v hv x hx
  obtain ⟨y, hy, rfl⟩ := hg v hv x hx
  refine ⟨y, hy, rfl, filter_lt _ (fun z hz => abB_iff.2 (.more hx (abB_iff.1 hz))) ⟨y, List.mem_range.2 hy, abB_iff.2 (.one hx), abB_no.2 (h y hy)⟩⟩
theorem acyc_full {g : Nat → List Int} {n : Nat} (hg : Closed g n) (h : ∀ v, v < n → ¬ Ab g v v) {o : List Nat} (ho : Had g n o) : o.length = n := (acyc_ranked hg h).full ho

/-- more rows, more above -/
theorem ab_mono {g h : Nat → List Int} {n : Nat} (hg : Closed g n) (hs : ∀ v, v < n → ∀ x, x ∈ g v → x ∈ h v) {a b : Nat} (hab : Ab g a b) (ha : a < n) : Ab h a b := by
  induction hab with
  | one hx => exact .one (hs _ ha _ hx)
  | @more a c b hx _ ih =>
    obtain ⟨y, hy, e⟩ := hg a ha _ hx
    have : c = y := by omega
    exact .more (hs _ ha _ hx) (ih (by omega))

theorem mem_aboOf {g : Nat → List Int} {n : Nat} {o : List Nat} (h : Topo g n o) {v u : Nat} : u ∈ aboOf g v o ↔ u < n ∧ Ab g v u := by
  unfold aboOf
  rw [List.mem_filter, abB_iff]
  exact ⟨fun ⟨h1, h2⟩ => ⟨h.2.1 u h1, h2⟩, fun ⟨h1, h2⟩ => ⟨h.2.2.1 u h1, h2⟩⟩
theorem mem_undOf {g : Nat → List Int} {n : Nat} {o : List Nat} (h : Topo g n o) {v u : Nat} : u ∈ undOf g v o ↔ u < n ∧ Ab g u v := by
  unfold undOf
  rw [List.mem_filter, abB_iff]
  exact ⟨fun ⟨h1, h2⟩ => ⟨h.2.1 u h1, h2⟩, fun ⟨h1, h2⟩ => ⟨h.2.2.1 u h1, h2⟩⟩
theorem aboOf_nodup {g : Nat → List Int} {n : Nat} {o : List Nat} (h : Topo g n o) (v : Nat) : (aboOf g v o).Nodup := h.1.filter _

/-! a chain -/
def chainG (n : Nat) : Nat → List Int := fun v => if v + 1 < n then [((v + 1 : Nat) : Int)] else []
def dn (n k : Nat) : List Nat := (List.range k).map fun i => n - 1 - i
theorem dn_succ (n k : Nat) : dn n (k + 1) = dn n k ++ [n - 1 - k] := by simp [dn, List.range_succ]
theorem mem_dn {n k x : Nat} (hk : k ≤ n) : x ∈ dn n k ↔ n - k ≤ x ∧ x < n := by
  unfold dn
  rw [List.mem_map]
  constructor
  · rintro ⟨i, hi, rfl⟩
    have := List.mem_range.1 hi
    omega
  · rintro ⟨h1, h2⟩
    exact ⟨n - 1 - x, List.mem_range.2 (by omega), by omega⟩
theorem chain_ranked (n : Nat) : Ranked (chainG n) n (fun v => n - v) := by
  intro v hv x hx
  unfold chainG at hx
  split at hx
  · rename_i h
    rw [List.mem_singleton] at hx
    exact ⟨v + 1, h, hx, by show n - (v + 1) < n - v; omega⟩
  · simp at hx
theorem chain_had (n : Nat) : Had (chainG n) n (dn n n) := by
  have key : ∀ k, k ≤ n → Greedy (chainG n) n (dn n k) := by
    intro k
    induction k with
    | zero => intro _; exact .nil
    | succ k ih =>
      intro hk
      rw [dn_succ]
      refine .snoc (ih (by omega)) (by omega) ⟨fun hm => ?_, fun x hx => ?_⟩ (fun u hu hr => ?_)
      · have := (mem_dn (by omega)).1 (mem_ci.1 hm)
        omega
      · unfold chainG at hx
        split at hx
        · rename_i h
          rw [List.mem_singleton] at hx
          rw [hx]
          exact mem_ci.2 ((mem_dn (by omega)).2 (by omega))
        · simp at hx
      · have hx := hr.2 ((u + 1 : Nat) : Int) (by unfold chainG; rw [if_pos (by omega)]; simp)
        have := (mem_dn (by omega)).1 (mem_ci.1 hx)
        omega
  refine ⟨key n (Nat.le_refl _), fun u hu hr => hr.1 (mem_ci.2 ((mem_dn (Nat.le_refl _)).2 (by omega)))⟩
theorem chain_ab {n v u : Nat} (hv : v < n) : Ab (chainG n) v u ↔ v < u ∧ u < n := by
  constructor
  · intro h
    have h1 := (chain_ranked n).ab h hv
    have h2 := ab_lt (chain_ranked n).closed h hv
    have h1' : n - u < n - v := h1
    omega
  · rintro ⟨h1, h2⟩
    have key : ∀ k v, u = v + 1 + k → v < n → Ab (chainG n) v u := by
      intro k
      induction k with
      | zero => intro v e hv; subst e; exact .one (by unfold chainG; rw [if_pos (by omega)]; simp)
      | succ k ih => intro v e hv; exact .more (c := v + 1) (by unfold chainG; rw [if_pos (by omega)]; simp) (ih (v + 1) (by omega) (by omega))
    exact key (u - v - 1) v (by omega) hv
theorem chain_above {n v : Nat} (hv : v < n) : aboOf (chainG n) v (dn n n) = dn n (n - 1 - v) := by
  unfold aboOf dn
  have e : List.range n = List.range (n - 1 - v) ++ (List.range (v + 1)).map (n - 1 - v + ·) := by
    rw [← List.range_add]; congr 1; omega
  rw [e, List.map_append, List.filter_append]
  have e1 : ((List.range (n - 1 - v)).map fun i => n - 1 - i).filter (fun u => abB (chainG n) v u) = (List.range (n - 1 - v)).map fun i => n - 1 - i := by
    rw [List.filter_eq_self]
    intro x hx
    obtain ⟨i, hi, rfl⟩ := List.mem_map.1 hx
    have := List.mem_range.1 hi
    exact abB_iff.2 ((chain_ab hv).2 (by omega))
  have e2 : (((List.range (v + 1)).map (n - 1 - v + ·)).map fun i => n - 1 - i).filter (fun u => abB (chainG n) v u) = [] := by
    rw [List.filter_eq_nil_iff]
    intro x hx
    obtain ⟨j, hj, rfl⟩ := List.mem_map.1 hx
    obtain ⟨i, hi, rfl⟩ := List.mem_map.1 hj
    rw [abB_iff, chain_ab hv]
    omega
  rw [e1, e2, List.append_nil]
theorem chain_under {n v : Nat} (hv : v < n) : undOf (chainG n) v (dn n n) = dn v v := by
  unfold undOf dn
  have e : List.range n = List.range (n - v) ++ (List.range v).map (n - v + ·) := by
    rw [← List.range_add]; congr 1; omega
  rw [e, List.map_append, List.filter_append]
  have e1 : ((List.range (n - v)).map fun i => n - 1 - i).filter (fun u => abB (chainG n) u v) = [] := by
    rw [List.filter_eq_nil_iff]
    intro x hx
    obtain ⟨i, hi, rfl⟩ := List.mem_map.1 hx
    have := List.mem_range.1 hi
    rw [abB_iff, chain_ab (by omega)]
    omega
  have e2 : (((List.range v).map (n - v + ·)).map fun i => n - 1 - i).filter (fun u => abB (chainG n) u v) = (List.range v).map fun i => v - 1 - i := by
    rw [List.filter_eq_self.2]
    · rw [List.map_map]
      apply List.map_congr_left
      intro i hi
      have := List.mem_range.1 hi
      show n - 1 - (n - v + i) = v - 1 - i
      omega
    · intro x hx
      obtain ⟨j, hj, rfl⟩ := List.mem_map.1 hx
      obtain ⟨i, hi, rfl⟩ := List.mem_map.1 hj
      have := List.mem_range.1 hi
      exact abB_iff.2 ((chain_ab (by omega)).2 (by omega))
  rw [e1, e2, List.nil_append]

end Go.Proofs.Ytlkgnafbipgpbaa
