/- Two graphs in one list of rows: the rows, and what is above what: plain. -/
import Derived.Test.YtlkgnafbipgpbaaM4
namespace Go.Proofs.Ytlkgnafbipgpbaa
open Go.RowKit Go.Maps

/-- as RowsOwn, from row lo on -/
def OwnFrom (w : World) (gw lo n base : Nat) (G : Nat → List Int) : Prop :=
  gw < base ∧ base ≤ w.heap.size ∧ ∀ i, lo ≤ i → i < n → ∃ vi, w.frozen? ⟨gw, i, none⟩ = false ∧ w.cell? ⟨gw, i, none⟩ = some vi ∧ w.ownsRow base 3 1 vi (G i).length (iv (G i)) ∧
    ∀ j, lo ≤ j → j < n → j ≠ i → ∀ vj, w.cell? ⟨gw, j, none⟩ = some vj → vi.ownBlock = none ∨ vi.ownBlock ≠ vj.ownBlock
theorem OwnFrom.of {w : World} {gw lo n base : Nat} {G : Nat → List Int} (h : RowsOwn w gw n base G) : OwnFrom w gw lo n base G :=
  ⟨h.1, h.2.1, fun i _ hi => let ⟨vi, h1, h2, h3, h4⟩ := h.2.2 i hi; ⟨vi, h1, h2, h3, fun j _ hj => h4 j hj⟩⟩
theorem OwnFrom.congr {w : World} {gw lo n base : Nat} {G G' : Nat → List Int} (h : OwnFrom w gw lo n base G) (he : ∀ i, lo ≤ i → i < n → G i = G' i) : OwnFrom w gw lo n base G' :=
  ⟨h.1, h.2.1, fun i hl hi => by rw [← he i hl hi]; exact h.2.2 i hl hi⟩
theorem OwnFrom.keeps {w w' : World} {gw lo n base k : Nat} {G : Nat → List Int} {vk : Value} {o : Obj} (h : OwnFrom w gw lo n base G) (hlo : lo ≤ k) (hk : k < n) (hc : w.cell? ⟨gw, k, none⟩ = some vk) (hg : (w.alloc o).grownBy w' vk.ownBlock) :
    w'.cell? ⟨gw, k, none⟩ = some vk ∧ w'.frozen? ⟨gw, k, none⟩ = false := by
  obtain ⟨hgb, hbs, hrows⟩ := h
  obtain ⟨vk', hk1, hk2, hk3, _⟩ := hrows k hlo hk
  rw [hc] at hk2
  injection hk2 with hk2
  subst hk2
  have hgk : some gw ≠ vk.ownBlock := fun e => by have := (hk3.lt gw e.symm).1; omega
  refine ⟨hg.cell (Lib.cell?_alloc_some _ hc) hgk, ?_⟩
  rw [hg.frozen_far ⟨gw, k, none⟩ (by rw [World.size_alloc]; show gw < _; omega) hgk, World.frozen?_alloc_old _ _ _ (by show gw ≠ _; omega)]
  exact hk1
theorem OwnFrom.setLo {w : World} {gw lo n base i : Nat} {G : Nat → List Int} (h : OwnFrom w gw lo n base G) (hi : i < lo) (u : Value) : OwnFrom (w.setCell ⟨gw, i, none⟩ u) gw lo n base G := by
  obtain ⟨h1, h2, h3⟩ := h
  have hc : ∀ j, lo ≤ j → (w.setCell ⟨gw, i, none⟩ u).cell? ⟨gw, j, none⟩ = w.cell? ⟨gw, j, none⟩ := fun j hj => World.cell?_setCell_other w _ _ _ (fun e => (show ¬ j = i by omega) (by cases e; rfl))
  refine ⟨h1, by rw [size_setCell]; exact h2, fun j hl hj => ?_⟩
  obtain ⟨vi, a, b, c, d⟩ := h3 j hl hj
  refine ⟨vi, by rw [World.frozen?_setCell]; exact a, (hc j hl).trans b, own_apart c (grown_setCell (World.grownBy.refl _ _) _ rfl _) h1, fun q hql hq hne vq hvq => d q hql hq hne vq (by rw [hc q hql] at hvq; exact hvq)⟩

theorem OwnFrom.append {w w' : World} {gw lo n base k : Nat} {G : Nat → List Int} {x : Int} {vk v' : Value} {o : Obj} (h : OwnFrom w gw lo n base G) (hlo : lo ≤ k) (hk : k < n) (hc : w.cell? ⟨gw, k, none⟩ = some vk)
    (hown : w'.ownsRow base 3 1 v' ((G k).length + 1) (iv (G k) ++ [.int .i64 x])) (hg : (w.alloc o).grownBy w' vk.ownBlock) (hat : v'.ownBlock = vk.ownBlock ∨ v'.ownBlock = some (w.alloc o).heap.size) :
    OwnFrom (w'.setCell ⟨gw, k, none⟩ v') gw lo n base (upd G k (G k ++ [x])) := by
  obtain ⟨hgb, hbs, hrows⟩ := h
  have hsz := hg.size
  rw [World.size_alloc] at hsz hat
  obtain ⟨vk', _, hk2, hk3, hk4⟩ := hrows k hlo hk
  rw [hc] at hk2
  injection hk2 with hk2
  subst hk2
  have hgk : some gw ≠ vk.ownBlock := fun e => by have := (hk3.lt gw e.symm).1; omega
  have hcell : ∀ i, lo ≤ i → i < n → w'.cell? ⟨gw, i, none⟩ = w.cell? ⟨gw, i, none⟩ := fun i hl hi => by
    obtain ⟨vi, _, h2, _⟩ := hrows i hl hi
    rw [h2]
    exact hg.cell (Lib.cell?_alloc_some _ h2) hgk
  have hfroz : ∀ i, lo ≤ i → i < n → w'.frozen? ⟨gw, i, none⟩ = false := fun i hl hi => by
    obtain ⟨vi, h1, _⟩ := hrows i hl hi
    rw [hg.frozen_far ⟨gw, i, none⟩ (by rw [World.size_alloc]; show gw < _; omega) hgk]
    rw [World.frozen?_alloc_old _ _ _ (by show gw ≠ _; omega)]
    exact h1
  have hset : w'.grownBy (w'.setCell ⟨gw, k, none⟩ v') (some gw) := grown_setCell (World.grownBy.refl _ _) _ rfl _
  have hdist : ∀ j, lo ≤ j → j < n → j ≠ k → ∀ vj, w.cell? ⟨gw, j, none⟩ = some vj → (v'.ownBlock = none ∨ v'.ownBlock ≠ vj.ownBlock) ∧ (vj.ownBlock = none ∨ vj.ownBlock ≠ v'.ownBlock) := by
    intro j hjl hj hjk vj hvj
    obtain ⟨vj', _, hj2, hj3, hj4⟩ := hrows j hjl hj
    rw [hvj] at hj2
    injection hj2 with hj2
    subst hj2
    rcases hat with e | e
    · rw [e]
      exact ⟨hk4 j hjl hj hjk vj hvj, hj4 k hlo hk (fun e => hjk e.symm) vk hc⟩
    · rw [e]
      have hne : vj.ownBlock ≠ some (w.heap.size + 1) := fun e' => by have := (hj3.lt _ e').2; omega
      exact ⟨.inr (fun e' => hne e'.symm), .inr hne⟩
  refine ⟨hgb, by rw [size_setCell]; omega, fun i hl hi => ?_⟩
  by_cases e : i = k
  · subst e
    rw [upd_same]
    refine ⟨v', by rw [World.frozen?_setCell]; exact hfroz i hl hi, World.cell?_setCell_same' _ _ _ (by rw [hcell i hl hi, hc]; rfl), ?_, fun j hjl hj hji vj hvj => ?_⟩
    · have hxs : iv (G i ++ [x]) = iv (G i) ++ [.int .i64 x] := by simp [iv]
      rw [hxs, List.length_append]
      exact own_apart hown hset hgb
    · rw [World.cell?_setCell_other w' _ _ _ (fun h => hji (by cases h; rfl)), hcell j hjl hj] at hvj
      exact (hdist j hjl hj hji vj hvj).1
  · rw [upd_other e]
    obtain ⟨vi, h1, h2, h3, h4⟩ := hrows i hl hi
    have hik := h4 k hlo hk (fun e' => e e'.symm) vk hc
    refine ⟨vi, by rw [World.frozen?_setCell]; exact hfroz i hl hi, (World.cell?_setCell_other w' _ _ _ (fun h => e (by cases h; rfl))).trans ((hcell i hl hi).trans h2), ?_, fun j hjl hj hji vj hvj => ?_⟩
    · exact own_apart ((h3.alloc o).kept hg hik) hset hgb
    · by_cases ej : j = k
      · subst ej
        rw [World.cell?_setCell_same' _ _ _ (by rw [hcell j hjl hj, hc]; rfl)] at hvj
        injection hvj with hvj
        subst hvj
        exact (hdist i hl hi e vi h2).2
      · rw [World.cell?_setCell_other w' _ _ _ (fun h => ej (by cases h; rfl)), hcell j hjl hj] at hvj
        exact h4 j hjl hj hji vj hvj

/-- the first six rows of block gb: slices that lie below it -/
def Low (w : World) (gb : Nat) (L : Nat → List Int) : Prop :=
  ∀ i, i < 6 → w.frozen? ⟨gb, i, none⟩ = false ∧ ∃ Ai ci, w.cell? ⟨gb, i, none⟩ = some (.slice Ai (L i).length ci) ∧ (L i).length ≤ ci ∧ IntsAt w gb Ai (L i)
theorem Low.congr {w : World} {gb : Nat} {L L' : Nat → List Int} (h : Low w gb L) (he : ∀ i, i < 6 → L i = L' i) : Low w gb L' := fun i hi => by rw [← he i hi]; exact h i hi
theorem Low.grown {w w' : World} {gb : Nat} {L : Nat → List Int} (h : Low w gb L) (hb : Below (gb + 1) w w') : Low w' gb L := fun i hi => by
  obtain ⟨h0, Ai, ci, h1, h2, h3⟩ := h i hi
  exact ⟨(hb.frozen (p := ⟨gb, i, none⟩) (Nat.lt_succ_self gb)).trans h0, Ai, ci, (hb.cell (p := ⟨gb, i, none⟩) (Nat.lt_succ_self gb)).trans h1, h2, h3.below hb (Nat.le_succ gb)⟩
theorem below_set (w : World) (gb k : Nat) (u : Value) : Below gb w (w.setCell ⟨gb, k, none⟩ u) := (Below.refl gb w).setCell (p := ⟨gb, k, none⟩) (Nat.le_refl _) _
theorem Low.setHi {w : World} {gb k : Nat} {L : Nat → List Int} (h : Low w gb L) (hk : 6 ≤ k) (u : Value) : Low (w.setCell ⟨gb, k, none⟩ u) gb L := fun i hi => by
  obtain ⟨h0, Ai, ci, h1, h2, h3⟩ := h i hi
  refine ⟨by rw [World.frozen?_setCell]; exact h0, Ai, ci, (World.cell?_setCell_other w _ _ _ (fun e => (show ¬ i = k by omega) (by cases e; rfl))).trans h1, h2, h3.below (below_set w gb k u) (Nat.le_refl _)⟩
theorem Low.setLo {w : World} {gb k ck : Nat} {L : Nat → List Int} {Ak : Option Addr} {l : List Int} (h : Low w gb L) (hk : k < 6) (hl : l.length ≤ ck) (hI : IntsAt w gb Ak l) : Low (w.setCell ⟨gb, k, none⟩ (.slice Ak l.length ck)) gb (upd L k l) := fun i hi => by
  obtain ⟨h0, Ai, ci, h1, h2, h3⟩ := h i hi
  refine ⟨by rw [World.frozen?_setCell]; exact h0, ?_⟩
  by_cases e : i = k
  · subst e
    rw [upd_same]
    exact ⟨Ak, ck, World.cell?_setCell_same' _ _ _ (by rw [h1]; rfl), hl, hI.below (below_set w gb i _) (Nat.le_refl _)⟩
  · rw [upd_other e]
    exact ⟨Ai, ci, (World.cell?_setCell_other w _ _ _ (fun h => e (by cases h; rfl))).trans h1, h2, h3.below (below_set w gb k _) (Nat.le_refl _)⟩

/-- as RowsOut; an empty row may lie anywhere -/
def RowsJ (w : World) (gw n : Nat) (G : Nat → List Int) : Prop :=
  ∀ i, i < n → w.frozen? ⟨gw, i, none⟩ = false ∧ ∃ Ai ci, w.cell? ⟨gw, i, none⟩ = some (.slice Ai (G i).length ci) ∧ (G i).length ≤ ci ∧ IntsAt w w.heap.size Ai (G i) ∧ (0 < (G i).length → ∀ ad, Ai = some ad → ad.block ≠ gw)
theorem RowsJ.of {w : World} {gb base : Nat} {L : Nat → List Int} (hl : Low w gb L) (ho : OwnFrom w gb 6 11 base L) : RowsJ w gb 11 L := fun i hi => by
  by_cases h6 : i < 6
  · obtain ⟨h0, Ai, ci, h1, h2, h3⟩ := hl i h6
    refine ⟨h0, Ai, ci, h1, h2, h3.more (by have := ho.1; have := ho.2.1; omega), fun hp ad e => ?_⟩
    obtain ⟨ad', e', hb, _⟩ := h3 hp
    rw [e] at e'
    injection e' with e'
    subst e'
    omega
  · obtain ⟨vi, h1, h2, h3, _⟩ := ho.2.2 i (by omega) hi
    obtain ⟨Ai, ci, rfl⟩ := own_shape h3
    obtain ⟨h4, h5⟩ := own_cap h3
    exact ⟨h1, Ai, ci, h2, h4, IntsAt.of_own h3, fun _ ad e => by have := h5 ad e; have := ho.1; omega⟩
theorem RowsJ.rows {w : World} {gw n : Nat} {G : Nat → List Int} (h : RowsJ w gw n G) (hg : gw < w.heap.size) : RowsAt w w.heap.size (some ⟨gw, 0, none⟩) n G := by
  intro _
  refine ⟨_, rfl, hg, fun i hi => ?_⟩
  obtain ⟨_, Ai, ci, h1, h2, h3, _⟩ := h i hi
  exact ⟨Ai, ci, by rw [Addr.add_lit, Nat.zero_add]; exact h1, h2, h3⟩
theorem RowsJ.below {w w' : World} {gw n : Nat} {G : Nat → List Int} (h : RowsJ w gw n G) (hb : Below w.heap.size w w') (hg : gw < w.heap.size) : RowsJ w' gw n G := by
  intro i hi
  obtain ⟨h0, Ai, ci, h1, h2, h3, h4⟩ := h i hi
  exact ⟨(hb.frozen (p := ⟨gw, i, none⟩) hg).trans h0, Ai, ci, (hb.cell (p := ⟨gw, i, none⟩) hg).trans h1, h2, (h3.below hb (Nat.le_refl _)).more hb.size, h4⟩
theorem IntsAt.far0 {w : World} {B : Nat} {A : Option Addr} {xs : List Int} (h : IntsAt w B A xs) {p : Addr} (hne : 0 < xs.length → ∀ ad, A = some ad → ad.block ≠ p.block) (u : Value) : IntsAt (w.setCell p u) B A xs := fun hl => h.far (hne hl) u hl
theorem RowsJ.store {w : World} {gw n k ck : Nat} {G : Nat → List Int} {Ak : Option Addr} {l : List Int} (h : RowsJ w gw n G) (hk : k < n) (hl : l.length ≤ ck) (hI : IntsAt w w.heap.size Ak l) (hne : ∀ ad, Ak = some ad → ad.block ≠ gw) :
    RowsJ (w.setCell ⟨gw, k, none⟩ (.slice Ak l.length ck)) gw n (upd G k l) := by
  intro i hi
  obtain ⟨h0, Ai, ci, h1, h2, h3, h4⟩ := h i hi
  refine ⟨by rw [World.frozen?_setCell]; exact h0, ?_⟩
  rw [size_setCell]
  by_cases e : i = k
  · subst e
    rw [upd_same]
    exact ⟨Ak, ck, World.cell?_setCell_same' _ _ _ (by rw [h1]; rfl), hl, hI.far hne _, fun _ => hne⟩
  · rw [upd_other e]
    exact ⟨Ai, ci, (World.cell?_setCell_other w _ _ _ (fun h => e (by cases h; rfl))).trans h1, h2, h3.far0 h4 _, h4⟩

end Go.Proofs.Ytlkgnafbipgpbaa
