/- The contract of falling: a graph without circles, made of raw numbers. -/
import Derived.Test.YtlkgnafbipgpbaaL2
namespace Go.Proofs.Ytlkgnafbipgpbaa
open Go.RowKit Go.Maps

/-- block gw holds n slices, each nil or a row of its own from block base on, no two the same -/
def RowsOwn (w : World) (gw n base : Nat) (G : Nat → List Int) : Prop :=
  gw < base ∧ base ≤ w.heap.size ∧ ∀ i, i < n → ∃ vi, w.frozen? ⟨gw, i, none⟩ = false ∧ w.cell? ⟨gw, i, none⟩ = some vi ∧ w.ownsRow base 3 1 vi (G i).length (iv (G i)) ∧
    ∀ j, j < n → j ≠ i → ∀ vj, w.cell? ⟨gw, j, none⟩ = some vj → vi.ownBlock = none ∨ vi.ownBlock ≠ vj.ownBlock

theorem own_succ {w : World} {base k : Nat} {v : Value} {xs : List Value} (h : w.ownsRow base 3 1 v (k + 1) xs) : ∃ g cap, v = .slice (some ⟨g, 0, none⟩) (k + 1) cap := by
  rcases h.2 with ⟨_, h0⟩ | ⟨g, cap, _, rfl, _⟩
  · omega
  · exact ⟨g, cap, rfl⟩
theorem own_cap {w : World} {base n c : Nat} {A : Option Addr} {xs : List Value} (h : w.ownsRow base 3 1 (.slice A n c) n xs) : n ≤ c ∧ ∀ ad, A = some ad → base ≤ ad.block := by
  rcases h.2 with ⟨h', h0⟩ | ⟨g, cap, _, h', hb, _, hn, _⟩
  · injection h' with h1 _ h3
    exact ⟨by omega, fun ad e => by rw [h1] at e; cases e⟩
  · injection h' with h1 _ h3
    exact ⟨by omega, fun ad e => by rw [h1] at e; injection e with e; rw [← e]; exact hb⟩
theorem RowsOwn.out {w : World} {gw n base : Nat} {G : Nat → List Int} (h : RowsOwn w gw n base G) : RowsOut w gw n G := by
  intro i hi
  obtain ⟨vi, h1, h2, h3, _⟩ := h.2.2 i hi
  obtain ⟨Ai, ci, rfl⟩ := own_shape h3
  obtain ⟨h4, h5⟩ := own_cap h3
  exact ⟨h1, Ai, ci, h2, h4, IntsAt.of_own h3, fun ad e => by have := h5 ad e; have := h.1; omega⟩
theorem RowsOwn.new (n : Nat) (W : World) : RowsOwn (W.alloc (.cells (madeCells #[.slice none 0 0] n) 25)) W.heap.size n (W.heap.size + 1) (fun _ => []) := by
  have hh : (W.alloc (.cells (madeCells #[.slice none 0 0] n) 25)).heap[W.heap.size]? = some (.cells (madeCells #[.slice none 0 0] n) 25 (0, 0)) := heap_alloc_new W _
  refine ⟨Nat.lt_succ_self _, by simp, fun i hi => ⟨.slice none 0 0, frozen_of_row _ _ _ _ _ hh, ?_, World.ownsRow_nil _ _ _ _, fun _ _ _ _ _ => .inl rfl⟩⟩
  rw [cell_of_row _ _ i _ _ _ hh]
  simp [madeCells, hi, Nat.mod_one]
theorem RowsOwn.congr {w : World} {gw n base : Nat} {G G' : Nat → List Int} (h : RowsOwn w gw n base G) (he : ∀ i, i < n → G i = G' i) : RowsOwn w gw n base G' :=
  ⟨h.1, h.2.1, fun i hi => by rw [← he i hi]; exact h.2.2 i hi⟩

theorem RowsOwn.append {w w' : World} {gw n base k : Nat} {G : Nat → List Int} {x : Int} {vk v' : Value} {o : Obj} (h : RowsOwn w gw n base G) (hk : k < n) (hc : w.cell? ⟨gw, k, none⟩ = some vk)
    (hown : w'.ownsRow base 3 1 v' ((G k).length + 1) (iv (G k) ++ [.int .i64 x])) (hg : (w.alloc o).grownBy w' vk.ownBlock) (hat : v'.ownBlock = vk.ownBlock ∨ v'.ownBlock = some (w.alloc o).heap.size) :
    RowsOwn (w'.setCell ⟨gw, k, none⟩ v') gw n base (upd G k (G k ++ [x])) := by
  obtain ⟨hgb, hbs, hrows⟩ := h
  have hsz := hg.size
  rw [World.size_alloc] at hsz hat
  obtain ⟨vk', _, hk2, hk3, hk4⟩ := hrows k hk
  rw [hc] at hk2
  injection hk2 with hk2
  subst hk2
  have hgk : some gw ≠ vk.ownBlock := fun e => by have := (hk3.lt gw e.symm).1; omega
  have hcell : ∀ i, i < n → w'.cell? ⟨gw, i, none⟩ = w.cell? ⟨gw, i, none⟩ := fun i hi => by
    obtain ⟨vi, _, h2, _⟩ := hrows i hi
    rw [h2]
    exact hg.cell (Lib.cell?_alloc_some _ h2) hgk
  have hfroz : ∀ i, i < n → w'.frozen? ⟨gw, i, none⟩ = false := fun i hi => by
    obtain ⟨vi, h1, _⟩ := hrows i hi
    rw [hg.frozen_far ⟨gw, i, none⟩ (by rw [World.size_alloc]; show gw < _; omega) hgk]
    rw [World.frozen?_alloc_old _ _ _ (by show gw ≠ _; omega)]
    exact h1
  have hset : w'.grownBy (w'.setCell ⟨gw, k, none⟩ v') (some gw) := grown_setCell (World.grownBy.refl _ _) _ rfl _
  have hdist : ∀ j, j < n → j ≠ k → ∀ vj, w.cell? ⟨gw, j, none⟩ = some vj → (v'.ownBlock = none ∨ v'.ownBlock ≠ vj.ownBlock) ∧ (vj.ownBlock = none ∨ vj.ownBlock ≠ v'.ownBlock) := by
    intro j hj hjk vj hvj
    obtain ⟨vj', _, hj2, hj3, hj4⟩ := hrows j hj
    rw [hvj] at hj2
    injection hj2 with hj2
    subst hj2
    rcases hat with e | e
    · rw [e]
      exact ⟨hk4 j hj hjk vj hvj, hj4 k hk (fun e => hjk e.symm) vk hc⟩
    · rw [e]
      have hne : vj.ownBlock ≠ some (w.heap.size + 1) := fun e' => by have := (hj3.lt _ e').2; omega
      exact ⟨.inr (fun e' => hne e'.symm), .inr hne⟩
  refine ⟨hgb, by rw [size_setCell]; omega, fun i hi => ?_⟩
  by_cases e : i = k
  · subst e
    rw [upd_same]
    refine ⟨v', by rw [World.frozen?_setCell]; exact hfroz i hi, World.cell?_setCell_same' _ _ _ (by rw [hcell i hi, hc]; rfl), ?_, fun j hj hji vj hvj => ?_⟩
    · have hxs : iv (G i ++ [x]) = iv (G i) ++ [.int .i64 x] := by simp [iv]
      rw [hxs, List.length_append]
      exact own_apart hown hset hgb
    · rw [World.cell?_setCell_other w' _ _ _ (fun h => hji (by cases h; rfl)), hcell j hj] at hvj
      exact (hdist j hj hji vj hvj).1
  · rw [upd_other e]
    obtain ⟨vi, h1, h2, h3, h4⟩ := hrows i hi
    have hik := h4 k hk (fun e' => e e'.symm) vk hc
    refine ⟨vi, by rw [World.frozen?_setCell]; exact hfroz i hi, (World.cell?_setCell_other w' _ _ _ (fun h => e (by cases h; rfl))).trans ((hcell i hi).trans h2), ?_, fun j hj hji vj hvj => ?_⟩
    · exact own_apart ((h3.alloc o).kept hg hik) hset hgb
    · by_cases ej : j = k
      · subst ej
        rw [World.cell?_setCell_same' _ _ _ (by rw [hcell j hj, hc]; rfl)] at hvj
        injection hvj with hvj
        subst hvj
        exact (hdist i hi e vi h2).2
      · rw [World.cell?_setCell_other w' _ _ _ (fun h => ej (by cases h; rfl)), hcell j hj] at hvj
        exact h4 j hj hji vj hvj

/-- rows of lesser nodes, or, turned, of greater ones -/
def Falls (n : Nat) (t : Bool) (G : Nat → List Nat) : Prop := ∀ v, v < n → ∀ x, x ∈ G v → x < n ∧ (if t then v < x else x < v)
def ciG (G : Nat → List Nat) : Nat → List Int := fun v => ci (G v)
def updN (G : Nat → List Nat) (k : Nat) (l : List Nat) : Nat → List Nat := fun i => if i = k then l else G i
theorem Falls.add {n : Nat} {t : Bool} {G : Nat → List Nat} (h : Falls n t G) {k x : Nat} (hx : x < n) (hkx : if t then k < x else x < k) : Falls n t (updN G k (G k ++ [x])) := by
  intro v hv y hy
  unfold updN at hy
  split at hy
  · rename_i e
    subst e
    rcases List.mem_append.1 hy with hy | hy
    · exact h v hv y hy
    · rw [List.mem_singleton.1 hy]; exact ⟨hx, hkx⟩
  · exact h v hv y hy
theorem ciG_upd (G : Nat → List Nat) (k x i : Nat) : upd (ciG G) k (ciG G k ++ [(x : Int)]) i = ciG (updN G k (G k ++ [x])) i := by
  unfold upd ciG updN
  split
  · simp [ci]
  · rfl
theorem Falls.ranked {n : Nat} {t : Bool} {G : Nat → List Nat} (h : Falls n t G) : Ranked (ciG G) n (fun v => if t then n - v else v) := by
  intro v hv x hx
  obtain ⟨y, hy, rfl⟩ := List.mem_map.1 hx
  obtain ⟨h1, h2⟩ := h v hv y hy
  refine ⟨y, h1, rfl, ?_⟩
  cases t with
  | true => have h2' : v < y := h2; show n - y < n - v; omega
  | false => exact h2

/-- a graph that falling makes -/
def FallOut (n : Nat) (t : Bool) (w : World) (e : Ending) (w' : World) : Prop :=
  ∃ gw G, e = .returned (.slice (some ⟨gw, 0, none⟩) n n) ∧ RowsOut w' gw n (ciG G) ∧ gw < w'.heap.size ∧ w.heap.size ≤ gw ∧ Falls n t G ∧ (∀ v, (G v).length ≤ 40) ∧ Below w.heap.size w w'

end Go.Proofs.Ytlkgnafbipgpbaa
