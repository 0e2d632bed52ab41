/- Two graphs in one, joined by an edge: plain. -/
import Derived.Test.YtlkgnafbipgpbaaM5
import Derived.Test.YtlkgnafbipgpbaaM6
namespace Go.Proofs.Ytlkgnafbipgpbaa
open Go.RowKit Go.Maps

/-- the rows of H behind six others, as far as row w, entry j -/
def hiP (w j : Nat) (H : Nat → List Nat) : Nat → List Nat := fun x => if x - 6 < w then (H (x - 6)).map (6 + ·) else if x - 6 = w then ((H (x - 6)).take j).map (6 + ·) else []
def fullJ (G H : Nat → List Nat) : Nat → List Nat := fun x => if x < 6 then G x else (H (x - 6)).map (6 + ·)
theorem hiP_zero {H : Nat → List Nat} (x : Nat) : ciG (hiP 0 0 H) x = [] := by unfold ciG hiP; simp [ci]
theorem hiP_at {w j : Nat} {H : Nat → List Nat} : hiP w j H (6 + w) = ((H w).take j).map (6 + ·) := by
  unfold hiP
  rw [show 6 + w - 6 = w by omega, if_neg (Nat.lt_irrefl w), if_pos rfl]
theorem hiP_step {w j y : Nat} {H : Nat → List Nat} (hy : (H w)[j]? = some y) : ∀ x, 6 ≤ x → x < 11 → upd (ciG (hiP w j H)) (6 + w) (ciG (hiP w j H) (6 + w) ++ [((6 + y : Nat) : Int)]) x = ciG (hiP w (j + 1) H) x := by
  intro x h6 _
  unfold upd
  split
  · rename_i e
    subst e
    unfold ciG
    rw [hiP_at, hiP_at, List.take_add_one, hy]
    simp [ci]
  · rename_i e
    have hne : x - 6 ≠ w := by omega
    unfold ciG hiP
    rw [if_neg hne, if_neg hne]
theorem hiP_next {w : Nat} {H : Nat → List Nat} (x : Nat) : hiP w (H w).length H x = hiP (w + 1) 0 H x := by
  unfold hiP
  by_cases h1 : x - 6 < w
  · rw [if_pos h1, if_pos (by omega)]
  · by_cases h2 : x - 6 = w
    · rw [if_neg h1, if_pos h2, if_pos (by omega), h2, List.take_length]
    · rw [if_neg h1, if_neg h2, if_neg (by omega)]
      split <;> simp
theorem hiP_full {G H : Nat → List Nat} (x : Nat) (h6 : 6 ≤ x) (h11 : x < 11) : ciG (hiP 5 0 H) x = ciG (fullJ G H) x := by
  unfold ciG hiP fullJ
  rw [if_pos (by omega), if_neg (by omega)]
theorem lowJ {G H : Nat → List Nat} (x : Nat) (h6 : x < 6) : ciG G x = ciG (fullJ G H) x := by
  unfold ciG fullJ
  rw [if_pos h6]
theorem low_step {g : Nat → List Int} (i : Nat) : ∀ x, x < 6 → upd (fun x => if x < i then g x else []) i (g i) x = (fun x => if x < i + 1 then g x else []) x := by
  intro x _
  unfold upd
  by_cases e : x = i
  · subst e; simp
  · rw [if_neg e]
    by_cases h : x < i
    · simp only []; rw [if_pos h, if_pos (by omega)]
    · simp only []; rw [if_neg h, if_neg (by omega)]

def rkJ (x : Nat) : Nat := if x < 6 then x else 100 + (5 - (x - 6))
theorem ranked_J {G H : Nat → List Nat} (hG : Falls 6 false G) (hH : Falls 5 true H) : Ranked (ciG (fullJ G H)) 11 rkJ := by
  intro v hv x hx
  obtain ⟨y, hy, rfl⟩ := List.mem_map.1 hx
  unfold fullJ at hy
  split at hy
  · rename_i h6
    have := hG v h6 y hy
    simp at this
    exact ⟨y, by omega, rfl, by unfold rkJ; rw [if_pos (by omega), if_pos h6]; omega⟩
  · rename_i h6
    obtain ⟨z, hz, rfl⟩ := List.mem_map.1 hy
    have := hH (v - 6) (by omega) z hz
    simp at this
    exact ⟨6 + z, by omega, rfl, by unfold rkJ; rw [if_neg (by omega), if_neg h6]; omega⟩
theorem ranked_E {g : Nat → List Int} {w u : Nat} (h : Ranked g 11 rkJ) (hu : u < 6) : Ranked (addE g (6 + w) u) 11 rkJ := by
  intro v hv x hx
  rcases addE_mem hx with hx | ⟨rfl, rfl⟩
  · exact h v hv x hx
  · exact ⟨u, by omega, rfl, by unfold rkJ; rw [if_pos hu, if_neg (by omega)]; omega⟩

theorem ab_ltJ {g : Nat → List Int} {n a b : Nat} (hc : Closed g n) (hab : Ab g a b) (ha : a < n) : b < n := by
  induction hab with
  | @one a b hx => obtain ⟨y, hy, e⟩ := hc a ha _ hx; omega
  | @more a c b hx _ ih => obtain ⟨y, hy, e⟩ := hc a ha _ hx; exact ih (by omega)
theorem closedJ6 {G H : Nat → List Nat} (hG : Falls 6 false G) : Closed (ciG (fullJ G H)) 6 := fun v hv x hx => by
  rw [← lowJ v hv] at hx
  exact hG.ranked.closed v hv x hx
theorem ab_J {G H : Nat → List Nat} (hG : Falls 6 false G) {a b : Nat} (ha : a < 6) : Ab (ciG (fullJ G H)) a b ↔ Ab (ciG G) a b :=
  ⟨fun h => ab_map id (closedJ6 hG) (fun a b ha _ hx => by rw [← lowJ a ha] at hx; exact hx) h ha,
   fun h => ab_map id hG.ranked.closed (fun a b ha _ hx => by rw [lowJ (H := H) a ha] at hx; exact hx) h ha⟩
theorem ab_hi {G H : Nat → List Nat} (hH : Falls 5 true H) {a b : Nat} (h : Ab (ciG (fullJ G H)) a b) (h6 : 6 ≤ a) (h11 : a < 11) : 6 ≤ b ∧ b < 11 ∧ Ab (ciG H) (a - 6) (b - 6) := by
  have row : ∀ a c : Nat, 6 ≤ a → a < 11 → (c : Int) ∈ ciG (fullJ G H) a → 6 ≤ c ∧ c < 11 ∧ ((c - 6 : Nat) : Int) ∈ ciG H (a - 6) := by
    intro a c h6 h11 hx
    have hx' := mem_ci.1 hx
    unfold fullJ at hx'
    rw [if_neg (by omega)] at hx'
    obtain ⟨z, hz, e⟩ := List.mem_map.1 hx'
    have := hH (a - 6) (by omega) z hz
    simp at this
    refine ⟨by omega, by omega, mem_ci.2 ?_⟩
    rw [show c - 6 = z by omega]
    exact hz
  induction h with
  | @one a b hx => obtain ⟨h1, h2, h3⟩ := row a b h6 h11 hx; exact ⟨h1, h2, .one h3⟩
  | @more a c b hx _ ih =>
    obtain ⟨h1, h2, h3⟩ := row a c h6 h11 hx
    obtain ⟨h4, h5, h7⟩ := ih h1 h2
    exact ⟨h4, h5, .more h3 h7⟩
theorem ab_lo {G H : Nat → List Nat} (hH : Falls 5 true H) {a b : Nat} (h : Ab (ciG H) a b) (ha : a < 5) : Ab (ciG (fullJ G H)) (6 + a) (6 + b) :=
  ab_map (6 + ·) hH.ranked.closed (fun a b _ _ hx => by
    refine mem_ci.2 ?_
    unfold fullJ
    rw [if_neg (by omega), show 6 + a - 6 = a by omega]
    exact List.mem_map_of_mem (mem_ci.1 hx)) h ha

theorem greedy_key {g : Nat → List Int} {n : Nat} {o o' : List Nat} (hg : Greedy g n o) (hh : Had g n o') : ∃ t, o' = o ++ t := by
  induction hg with
  | nil => exact ⟨o', rfl⟩
  | @snoc o v _ hv hr hno ih =>
    obtain ⟨t, rfl⟩ := ih
    cases t with
    | nil => rw [List.append_nil] at hh; exact absurd hr (hh.2 v hv)
    | cons u t =>
      obtain ⟨h1, h2⟩ := hh.1.at_ o.length (by simp)
      have e1 : (o ++ u :: t).take o.length = o := by simp
      have e2 : (o ++ u :: t)[o.length]'(by simp) = u := by simp
      rw [e1, e2] at h1 h2
      have : u = v := by
        rcases Nat.lt_trichotomy u v with hl | e | hl
        · exact absurd h1 (hno u hl)
        · exact e
        · exact absurd hr (h2 v hl)
      subst this
      exact ⟨t, by simp⟩
theorem greedy_up {G H : Nat → List Nat} {o : List Nat} (h : Greedy (ciG G) 6 o) : Greedy (ciG (fullJ G H)) 11 o := by
  have rdy : ∀ met v, v < 6 → (ReadyI (ciG (fullJ G H)) met v ↔ ReadyI (ciG G) met v) := fun met v hv => by unfold ReadyI; rw [← lowJ v hv]
  induction h with
  | nil => exact .nil
  | @snoc o v _ hv hr hno ih => exact .snoc ih (by omega) ((rdy _ v hv).2 hr) (fun u hu hr' => hno u hu ((rdy _ u (by omega)).1 hr'))
theorem same_above {G H : Nat → List Nat} (hG : Falls 6 false G) {oG oB : List Nat} (h1 : Had (ciG G) 6 oG) (hT1 : Topo (ciG G) 6 oG) (h2 : Had (ciG (fullJ G H)) 11 oB) (hT2 : Topo (ciG (fullJ G H)) 11 oB) {u : Nat} (hu : u < 6) :
    aboOf (ciG (fullJ G H)) u oB = aboOf (ciG G) u oG := by
  obtain ⟨t, rfl⟩ := greedy_key (greedy_up (H := H) h1.1) h2
  unfold aboOf
  rw [List.filter_append]
  have e1 : t.filter (fun x => abB (ciG (fullJ G H)) u x) = [] := List.filter_eq_nil_iff.2 fun x hx h => by
    have hx6 := ab_ltJ (closedJ6 hG) (abB_iff.1 h) hu
    exact (List.nodup_append.1 hT2.1).2.2 x (hT1.2.2.1 x hx6) x hx rfl
  rw [e1, List.append_nil]
  exact List.filter_congr fun x _ => by
    rw [Bool.eq_iff_iff, abB_iff, abB_iff]
    exact ab_J hG hu

theorem nodup_map' (f g : Nat → Nat) : ∀ (l : List Nat), (∀ x, x ∈ l → g (f x) = x) → l.Nodup → (l.map f).Nodup
  | [], _, _ => by simp
  | x :: l, hg, hd => by
    obtain ⟨hx, hd'⟩ := List.nodup_cons.1 hd
    rw [List.map_cons]
    refine List.nodup_cons.2 ⟨fun hm => ?_, nodup_map' f g l (fun y hy => hg y (List.mem_cons_of_mem _ hy)) hd'⟩
    obtain ⟨y, hy, e⟩ := List.mem_map.1 hm
    have := hg y (List.mem_cons_of_mem _ hy)
    rw [e, hg x List.mem_cons_self] at this
    exact hx (this ▸ hy)
/-- what is above 6 + w when it hangs on u too -/
theorem join_len {G H : Nat → List Nat} (hG : Falls 6 false G) (hH : Falls 5 true H) {w u : Nat} (hw : w < 5) (hu : u < 6) {q p xl : List Nat} (hq : q.Nodup) (hp : p.Nodup) (hx : xl.Nodup)
    (mq : ∀ b, b ∈ q ↔ b < 11 ∧ Ab (addE (ciG (fullJ G H)) (6 + w) u) (6 + w) b) (mp : ∀ b, b ∈ p ↔ b < 6 ∧ Ab (ciG G) u b) (mx : ∀ b, b ∈ xl ↔ b < 5 ∧ Ab (ciG H) w b) : q.length = xl.length + p.length + 1 ∧ u ∈ q := by
  have hJ := ranked_J hG hH
  have mono : ∀ {a b}, Ab (ciG (fullJ G H)) a b → a < 11 → Ab (addE (ciG (fullJ G H)) (6 + w) u) a b := fun h ha => ab_mono hJ.closed (fun w _ x hx => addE_sub w x hx) h ha
  have hup : u ∉ p := fun h => by
    have := hG.ranked.ab ((mp u).1 h).2 hu
    omega
  have hnd : (xl.map (6 + ·) ++ (u :: p)).Nodup := by
    rw [List.nodup_append]
    refine ⟨nodup_map' (6 + ·) (· - 6) xl (fun x _ => by simp) hx, List.nodup_cons.2 ⟨hup, hp⟩, fun a ha b hb e => ?_⟩
    obtain ⟨y, _, rfl⟩ := List.mem_map.1 ha
    subst e
    rcases List.mem_cons.1 hb with h | h
    · omega
    · have := ((mp _).1 h).1; omega
  have hm : ∀ b, b ∈ q ↔ b ∈ xl.map (6 + ·) ++ (u :: p) := fun b => by
    rw [mq b, List.mem_append, List.mem_cons]
    constructor
    · rintro ⟨_, h⟩
      rcases addE_ab h with h | ⟨_, h⟩
      · obtain ⟨h1, h2, h3⟩ := ab_hi hH h (by omega) (by omega)
        rw [show 6 + w - 6 = w by omega] at h3
        exact .inl (List.mem_map.2 ⟨b - 6, (mx _).2 ⟨by omega, h3⟩, by omega⟩)
      · rcases h with h | h
        · exact .inr (.inl h)
        · exact .inr (.inr ((mp b).2 ⟨ab_ltJ (closedJ6 hG) h hu, (ab_J hG hu).1 h⟩))
    · rintro (h | rfl | h)
      · obtain ⟨y, hy, rfl⟩ := List.mem_map.1 h
        obtain ⟨h1, h2⟩ := (mx y).1 hy
        exact ⟨by omega, mono (ab_lo hH h2 hw) (by omega)⟩
      · exact ⟨by omega, .one addE_new⟩
      · obtain ⟨h1, h2⟩ := (mp b).1 h
        exact ⟨by omega, .more addE_new (mono ((ab_J hG hu).2 h2) (by omega))⟩
  refine ⟨?_, (hm u).2 (by simp)⟩
  rw [nodup_same_len hq hnd hm]
  simp only [List.length_append, List.length_map, List.length_cons]
  omega

end Go.Proofs.Ytlkgnafbipgpbaa
