/- What the document's own answer marks as near, plain. -/
import Derived.Test.YtlkgnafbipgpbaaM
namespace Go.Proofs.Ytlkgnafbipgpbaa

/-- f, and lk too if one of the first u that is f has H -/
def nearU (f : Nat → Bool) (lk : Nat) (H : Nat → Bool) (u : Nat) : Nat → Bool := fun i => f i || (decide (i = lk) && (List.range u).any fun u' => f u' && H u')
theorem nearU_zero (f : Nat → Bool) (lk : Nat) (H : Nat → Bool) (i : Nat) : f i = nearU f lk H 0 i := by simp [nearU]
theorem nearU_no {f : Nat → Bool} {lk : Nat} {H : Nat → Bool} {u : Nat} (h : (f u && H u) = false) (i : Nat) : nearU f lk H u i = nearU f lk H (u + 1) i := by simp [nearU, List.range_succ, h]
theorem nearU_yes {f : Nat → Bool} {lk : Nat} {H : Nat → Bool} {u : Nat} (h : (f u && H u) = true) : nearU f lk H (u + 1) lk = true := by simp [nearU, List.range_succ, h]
theorem nearU_far {f : Nat → Bool} {lk : Nat} {H : Nat → Bool} {u : Nat} (i : Nat) (hi : i ≠ lk) : nearU f lk H (u + 1) i = nearU f lk H u i := by simp [nearU, hi]
theorem nearU_at {f : Nat → Bool} {lk : Nat} {H : Nat → Bool} (h : H lk = false) (u : Nat) : (nearU f lk H u u && H u) = (f u && H u) := by
  by_cases e : u = lk
  · subst e; simp [h]
  · simp [nearU, e]

def memL (l : List Nat) (x : Nat) : Bool := decide (x ∈ l)
theorem memL_iff {l : List Nat} {x : Nat} : memL l x = true ↔ x ∈ l := by simp [memL]

noncomputable def nearA (g : Nat → List Int) (v : Nat) (o : List Nat) (i : Nat) : Nat → Bool := fun u => decide (u = v) || (memL (o.drop (o.length - i)) u && abB g v u)
noncomputable def nearN (g : Nat → List Int) (v : Nat) (o : List Nat) (i : Nat) : Nat → Bool := fun u => decide (u = v) || (memL (o.take i) u && abB g u v)
def hangA (g : Nat → List Int) (lk : Nat) : Nat → Bool := fun u => decide ((lk : Int) ∈ g u)
def hangN (g : Nat → List Int) (lk : Nat) : Nat → Bool := fun u => decide ((u : Int) ∈ g lk)

theorem nearA_zero {g : Nat → List Int} {v : Nat} {o : List Nat} (i : Nat) : nearA g v o 0 i = decide (i = v) := by simp [nearA, memL]
theorem nearN_zero {g : Nat → List Int} {v : Nat} {o : List Nat} (i : Nat) : nearN g v o 0 i = decide (i = v) := by simp [nearN, memL]

theorem ab_last {g : Nat → List Int} {a b : Nat} (h : Ab g a b) : (b : Int) ∈ g a ∨ ∃ c, Ab g a c ∧ (b : Int) ∈ g c := by
  induction h with
  | one hx => exact .inl hx
  | more hx _ ih =>
    rcases ih with h | ⟨d, h1, h2⟩
    · exact .inr ⟨_, .one hx, h⟩
    · exact .inr ⟨d, .more hx h1, h2⟩

theorem at_mem {o : List Nat} {i u : Nat} (h : o[i]? = some u) : u ∈ o := List.mem_of_getElem? h
theorem mem_at {o : List Nat} {u : Nat} (h : u ∈ o) : ∃ i : Nat, o[i]? = some u := by
  obtain ⟨i, hi, e⟩ := List.mem_iff_getElem.1 h
  exact ⟨i, by rw [List.getElem?_eq_getElem hi, e]⟩

theorem hangA_self {g : Nat → List Int} {n : Nat} {o : List Nat} (h : Topo g n o) (hg : Closed g n) {lk : Nat} (hl : lk < n) : hangA g lk lk = false := by
  unfold hangA
  rw [decide_eq_false_iff_not]
  exact fun hm => h.irrefl hg hl (.one hm)
theorem hangN_self {g : Nat → List Int} {n : Nat} {o : List Nat} (h : Topo g n o) (hg : Closed g n) {lk : Nat} (hl : lk < n) : hangN g lk lk = false := hangA_self h hg hl

theorem nearA_step {g : Nat → List Int} {n : Nat} {o : List Nat} (h : Topo g n o) (hg : Closed g n) {v : Nat} (hv : v < n) {i lk : Nat} (hi : i < o.length) (hlk : o[o.length - 1 - i]? = some lk) (j : Nat) :
    nearU (nearA g v o i) lk (hangA g lk) n j = nearA g v o (i + 1) j := by
  have hd : ∀ x, x ∈ o.drop (o.length - (i + 1)) ↔ x = lk ∨ x ∈ o.drop (o.length - i) := by
    intro x
    obtain ⟨hk, e⟩ := List.getElem?_eq_some_iff.1 hlk
    have e1 : o.length - (i + 1) = o.length - 1 - i := by omega
    rw [e1, List.drop_eq_getElem_cons hk, e, List.mem_cons, show o.length - 1 - i + 1 = o.length - i by omega]
  rw [Bool.eq_iff_iff]
  simp only [nearU, nearA, hangA, Bool.or_eq_true, Bool.and_eq_true, decide_eq_true_eq, List.any_eq_true, List.mem_range, memL_iff, abB_iff, hd]
  constructor
  · rintro ((rfl | ⟨h1, h2⟩) | ⟨rfl, u, hu, (rfl | ⟨h1, h2⟩), h3⟩)
    · exact .inl rfl
    · exact .inr ⟨.inr h1, h2⟩
    · exact .inr ⟨.inl rfl, .one h3⟩
    · exact .inr ⟨.inl rfl, ab_snoc h2 h3⟩
  · rintro (rfl | ⟨rfl | h1, h2⟩)
    · exact .inl (.inl rfl)
    · right
      refine ⟨rfl, ?_⟩
      rcases ab_last h2 with h3 | ⟨c, h3, h4⟩
      · exact ⟨v, hv, .inl rfl, h3⟩
      · have hc := ab_lt hg h3 hv
        refine ⟨c, hc, .inr ⟨?_, h3⟩, h4⟩
        obtain ⟨q, hq⟩ := mem_at (h.2.2.1 c hc)
        have hlt := h.2.2.2 _ _ _ _ hlk hq h4
        refine List.mem_iff_getElem?.2 ⟨q - (o.length - i), ?_⟩
        rw [List.getElem?_drop, show o.length - i + (q - (o.length - i)) = q by omega]
        exact hq
    · exact .inl (.inr ⟨h1, h2⟩)

theorem nearN_step {g : Nat → List Int} {n : Nat} {o : List Nat} (h : Topo g n o) (hg : Closed g n) {v : Nat} (hv : v < n) {i lk : Nat} (hlk : o[i]? = some lk) (j : Nat) :
    nearU (nearN g v o i) lk (hangN g lk) n j = nearN g v o (i + 1) j := by
  have hd : ∀ x, x ∈ o.take (i + 1) ↔ x ∈ o.take i ∨ x = lk := by
    intro x
    rw [List.take_add_one, hlk, List.mem_append]
    simp
  have hln : lk < n := h.2.1 _ (at_mem hlk)
  rw [Bool.eq_iff_iff]
  simp only [nearU, nearN, hangN, Bool.or_eq_true, Bool.and_eq_true, decide_eq_true_eq, List.any_eq_true, List.mem_range, memL_iff, abB_iff, hd]
  constructor
  · rintro ((rfl | ⟨h1, h2⟩) | ⟨rfl, u, hu, (rfl | ⟨h1, h2⟩), h3⟩)
    · exact .inl rfl
    · exact .inr ⟨.inl h1, h2⟩
    · exact .inr ⟨.inr rfl, .one h3⟩
    · exact .inr ⟨.inr rfl, .more h3 h2⟩
  · rintro (rfl | ⟨h1 | rfl, h2⟩)
    · exact .inl (.inl rfl)
    · exact .inl (.inr ⟨h1, h2⟩)
    · right
      refine ⟨rfl, ?_⟩
      cases h2 with
      | one hx => exact ⟨v, hv, .inl rfl, hx⟩
      | @more _ c _ hx hab =>
        obtain ⟨y, hy, e⟩ := hg _ hln _ hx
        have hcy : c = y := by omega
        refine ⟨c, by omega, .inr ⟨?_, hab⟩, hx⟩
        obtain ⟨q, hq⟩ := mem_at (h.2.2.1 c (by omega))
        have hlt := h.2.2.2 _ _ _ _ hq hlk hx
        refine List.mem_iff_getElem?.2 ⟨q, ?_⟩
        rw [List.getElem?_take, if_pos hlt]
        exact hq

theorem nearA_end {g : Nat → List Int} {n : Nat} {o : List Nat} (h : Topo g n o) (hg : Closed g n) {v : Nat} {u : Nat} (hu : u ∈ o) : (decide (u ≠ v) && nearA g v o o.length u) = abB g v u := by
  have hun := h.2.1 u hu
  rw [Bool.eq_iff_iff]
  simp only [nearA, Bool.or_eq_true, Bool.and_eq_true, decide_eq_true_eq, memL_iff, abB_iff, Nat.sub_self, List.drop_zero]
  constructor
  · rintro ⟨h1, h2 | ⟨_, h2⟩⟩
    · exact absurd h2 h1
    · exact h2
  · intro hab
    exact ⟨fun e => by subst e; exact h.irrefl hg hun hab, .inr ⟨hu, hab⟩⟩
theorem nearN_end {g : Nat → List Int} {n : Nat} {o : List Nat} (h : Topo g n o) (hg : Closed g n) {v : Nat} {u : Nat} (hu : u ∈ o) : (decide (u ≠ v) && nearN g v o o.length u) = abB g u v := by
  have hun := h.2.1 u hu
  rw [Bool.eq_iff_iff]
  simp only [nearN, Bool.or_eq_true, Bool.and_eq_true, decide_eq_true_eq, memL_iff, abB_iff, List.take_length]
  constructor
  · rintro ⟨h1, h2 | ⟨_, h2⟩⟩
    · exact absurd h2 h1
    · exact h2
  · intro hab
    exact ⟨fun e => by subst e; exact h.irrefl hg hun hab, .inr ⟨hu, hab⟩⟩

end Go.Proofs.Ytlkgnafbipgpbaa
