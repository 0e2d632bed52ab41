/- Nodes numbered anew, round the clock: plain. -/
import Derived.Test.YtlkgnafbipgpbaaL6
namespace Go.Proofs.Ytlkgnafbipgpbaa
open Go.RowKit Go.Maps

def sh (n k x : Nat) : Nat := if x + k < n then x + k else x + k - n
def us (n k x : Nat) : Nat := if k ≤ x then x - k else x + n - k
theorem sh_lt {n k x : Nat} (hk : k < n) (hx : x < n) : sh n k x < n := by unfold sh; split <;> omega
theorem us_lt {n k x : Nat} (hk : k < n) (hx : x < n) : us n k x < n := by unfold us; split <;> omega
theorem us_sh {n k x : Nat} (hk : k < n) (hx : x < n) : us n k (sh n k x) = x := by unfold sh us; split <;> split <;> omega
theorem sh_us {n k x : Nat} (hk : k < n) (hx : x < n) : sh n k (us n k x) = x := by unfold sh us; split <;> split <;> omega
theorem sh_mod {n k x : Nat} (hk : k < n) (hx : x < n) : ((x : Int) + (k : Int)).tmod (n : Int) = ((sh n k x : Nat) : Int) := by
  rw [Int.tmod_eq_emod_of_nonneg (by omega)]
  unfold sh
  split
  · rw [Int.emod_eq_of_lt (by omega) (by omega)]; omega
  · have h1 : ((x : Int) + (k : Int)) = ((x + k - n : Nat) : Int) + (n : Int) := by omega
    rw [h1, Int.add_emod_right, Int.emod_eq_of_lt (by omega) (by omega)]

/-- rows below i, and the first j entries of row i, numbered anew -/
def partH (n k i j : Nat) (G : Nat → List Nat) : Nat → List Nat := fun x => if us n k x < i then (G (us n k x)).map (sh n k) else if us n k x = i then ((G (us n k x)).take j).map (sh n k) else []
def fullH (n k : Nat) (G : Nat → List Nat) : Nat → List Nat := fun x => (G (us n k x)).map (sh n k)
theorem partH_zero {n k : Nat} {G : Nat → List Nat} (x : Nat) : ciG (partH n k 0 0 G) x = [] := by unfold ciG partH; simp [ci]
theorem partH_at {n k i j : Nat} {G : Nat → List Nat} (hk : k < n) (hi : i < n) : partH n k i j G (sh n k i) = ((G i).take j).map (sh n k) := by
  unfold partH
  rw [us_sh hk hi, if_neg (Nat.lt_irrefl i), if_pos rfl]
theorem partH_step {n k i j y : Nat} {G : Nat → List Nat} (hk : k < n) (hi : i < n) (hy : (G i)[j]? = some y) : ∀ x, x < n → upd (ciG (partH n k i j G)) (sh n k i) (ciG (partH n k i j G) (sh n k i) ++ [((sh n k y : Nat) : Int)]) x = ciG (partH n k i (j + 1) G) x := by
  intro x hx
  unfold upd
  split
  · rename_i e
    subst e
    unfold ciG
    rw [partH_at hk hi, partH_at hk hi, List.take_add_one, hy]
    simp [ci]
  · rename_i e
    have hne : us n k x ≠ i := fun h => e (by rw [← h, sh_us hk hx])
    unfold ciG partH
    rw [if_neg hne, if_neg hne]
theorem partH_next {n k i : Nat} {G : Nat → List Nat} (x : Nat) : partH n k i (G i).length G x = partH n k (i + 1) 0 G x := by
  unfold partH
  by_cases h1 : us n k x < i
  · rw [if_pos h1, if_pos (by omega)]
  · by_cases h2 : us n k x = i
    · rw [if_neg h1, if_pos h2, if_pos (by omega), h2, List.take_length]
    · rw [if_neg h1, if_neg h2, if_neg (by omega)]
      split <;> simp
theorem partH_full {n k x : Nat} {G : Nat → List Nat} (hk : k < n) (hx : x < n) : partH n k n 0 G x = fullH n k G x := by
  unfold partH fullH
  rw [if_pos (us_lt hk hx)]

theorem Falls.rankedH {n k : Nat} {t : Bool} {G : Nat → List Nat} (h : Falls n t G) (hk : k < n) : Ranked (ciG (fullH n k G)) n (fun x => (fun v => if t then n - v else v) (us n k x)) := by
  intro v hv x hx
  obtain ⟨y, hy, rfl⟩ := List.mem_map.1 hx
  obtain ⟨z, hz, rfl⟩ := List.mem_map.1 hy
  obtain ⟨y', h1, h2, h3⟩ := h.ranked _ (us_lt hk hv) (z : Int) (mem_ci.2 hz)
  obtain rfl : z = y' := by omega
  refine ⟨sh n k z, sh_lt hk h1, rfl, ?_⟩
  show (fun v => if t then n - v else v) (us n k (sh n k z)) < _
  rw [us_sh hk h1]
  exact h3
theorem ab_map {g h : Nat → List Int} {n : Nat} (f : Nat → Nat) (hc : Closed g n) (hs : ∀ a b, a < n → b < n → (b : Int) ∈ g a → ((f b : Nat) : Int) ∈ h (f a)) {a b : Nat} (hab : Ab g a b) (ha : a < n) : Ab h (f a) (f b) := by
  induction hab with
  | @one a b hx =>
    obtain ⟨y, hy, e⟩ := hc a ha _ hx
    exact .one (hs a b ha (by omega) hx)
  | @more a c b hx _ ih =>
    obtain ⟨y, hy, e⟩ := hc a ha _ hx
    exact .more (hs a c ha (by omega) hx) (ih (by omega))
theorem ab_up {n k a b : Nat} {G : Nat → List Nat} (hk : k < n) (hc : Closed (ciG G) n) (hab : Ab (ciG G) a b) (ha : a < n) : Ab (ciG (fullH n k G)) (sh n k a) (sh n k b) :=
  ab_map (sh n k) hc (fun a b ha hb hx => by
    refine mem_ci.2 ?_
    unfold fullH
    rw [us_sh hk ha]
    exact List.mem_map_of_mem (mem_ci.1 hx)) hab ha
theorem ab_down {n k a b : Nat} {G : Nat → List Nat} (hk : k < n) (hG : Closed (ciG G) n) (hc : Closed (ciG (fullH n k G)) n) (hab : Ab (ciG (fullH n k G)) a b) (ha : a < n) : Ab (ciG G) (us n k a) (us n k b) :=
  ab_map (us n k) hc (fun a b ha hb hx => by
    obtain ⟨z, hz, e⟩ := List.mem_map.1 (mem_ci.1 hx)
    subst e
    obtain ⟨y, hy, e⟩ := hG _ (us_lt hk ha) (z : Int) (mem_ci.2 hz)
    rw [us_sh hk (by omega)]
    exact mem_ci.2 hz) hab ha

/-- two lists of nodes, each held in the other when numbered anew -/
theorem sh_len {n k : Nat} {l m : List Nat} (hk : k < n) (hl : l.Nodup) (hm : m.Nodup) (hln : ∀ x, x ∈ l → x < n) (hmn : ∀ x, x ∈ m → x < n)
    (h1 : ∀ x, x ∈ l → sh n k x ∈ m) (h2 : ∀ x, x ∈ m → us n k x ∈ l) : l.length = m.length := by
  have nodup_map : ∀ (f g : Nat → Nat) (l : List Nat), (∀ x, x ∈ l → g (f x) = x) → l.Nodup → (l.map f).Nodup := by
    intro f g l
    induction l with
    | nil => intro _ _; simp
    | cons x l ih =>
      intro hg hd
      obtain ⟨hx, hd'⟩ := List.nodup_cons.1 hd
      rw [List.map_cons]
      refine List.nodup_cons.2 ⟨fun hm => ?_, ih (fun y hy => hg y (List.mem_cons_of_mem _ hy)) hd'⟩
      obtain ⟨y, hy, e⟩ := List.mem_map.1 hm
      have := hg y (List.mem_cons_of_mem _ hy)
      rw [e, hg x List.mem_cons_self] at this
      exact hx (this ▸ hy)
  have a := nodup_sub_len (l.map (sh n k)) m (nodup_map (sh n k) (us n k) l (fun x hx => us_sh hk (hln x hx)) hl) (fun y hy => by obtain ⟨x, hx, rfl⟩ := List.mem_map.1 hy; exact h1 x hx)
  have b := nodup_sub_len (m.map (us n k)) l (nodup_map (us n k) (sh n k) m (fun x hx => sh_us hk (hmn x hx)) hm) (fun y hy => by obtain ⟨x, hx, rfl⟩ := List.mem_map.1 hy; exact h2 x hx)
  rw [List.length_map] at a b
  omega

end Go.Proofs.Ytlkgnafbipgpbaa
