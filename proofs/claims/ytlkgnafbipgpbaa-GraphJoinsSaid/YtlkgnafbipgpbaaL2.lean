/- Rows that the call makes itself; the answers for graphs without circles. -/
import Derived.Test.YtlkgnafbipgpbaaL1
import Derived.Test.YtlkgnafbipgpbaaM3
namespace Go.Proofs.Ytlkgnafbipgpbaa
open Go.RowKit Go.Maps

/-- block gw holds n slices that may be stored anew; slice i holds G i, and lies elsewhere -/
def RowsOut (w : World) (gw n : Nat) (G : Nat → List Int) : Prop :=
  ∀ i, i < n → w.frozen? ⟨gw, i, none⟩ = false ∧ ∃ Ai ci, w.cell? ⟨gw, i, none⟩ = some (.slice Ai (G i).length ci) ∧ (G i).length ≤ ci ∧ IntsAt w w.heap.size Ai (G i) ∧ ∀ ad, Ai = some ad → ad.block ≠ gw

theorem RowsOut.rows {w : World} {gw n : Nat} {G : Nat → List Int} (h : RowsOut w gw n G) (hg : gw < w.heap.size) : RowsAt w w.heap.size (some ⟨gw, 0, none⟩) n G := by
  intro _
  refine ⟨_, rfl, hg, fun i hi => ?_⟩
  obtain ⟨_, Ai, ci, h1, h2, h3, _⟩ := h i hi
  exact ⟨Ai, ci, by rw [Addr.add_lit, Nat.zero_add]; exact h1, h2, h3⟩
theorem RowsOut.below {w w' : World} {gw n : Nat} {G : Nat → List Int} (h : RowsOut w gw n G) (hb : Below w.heap.size w w') (hg : gw < w.heap.size) : RowsOut w' gw n G := by
  intro i hi
  obtain ⟨h0, Ai, ci, h1, h2, h3, h4⟩ := h i hi
  exact ⟨(hb.frozen (p := ⟨gw, i, none⟩) hg).trans h0, Ai, ci, (hb.cell (p := ⟨gw, i, none⟩) hg).trans h1, h2, (h3.below hb (Nat.le_refl _)).more hb.size, h4⟩
theorem RowsOut.congr {w : World} {gw n : Nat} {G G' : Nat → List Int} (h : RowsOut w gw n G) (he : ∀ i, i < n → G i = G' i) : RowsOut w gw n G' := fun i hi => by rw [← he i hi]; exact h i hi
theorem IntsAt.far {w : World} {B : Nat} {A : Option Addr} {xs : List Int} (h : IntsAt w B A xs) {p : Addr} (hne : ∀ ad, A = some ad → ad.block ≠ p.block) (u : Value) : IntsAt (w.setCell p u) B A xs := by
  intro hl
  obtain ⟨ad, e, hb, hc⟩ := h hl
  refine ⟨ad, e, hb, fun j x hj => (World.cell?_setCell_other w p _ u (fun e' => ?_)).trans (hc j x hj)⟩
  have h1 := hne ad e
  apply h1
  rw [← block_add ad j]
  rw [e']
theorem size_setCell (w : World) (p : Addr) (u : Value) : (w.setCell p u).heap.size = w.heap.size := by simp [World.setCell]
theorem RowsOut.store {w : World} {gw n k ck : Nat} {G : Nat → List Int} {Ak : Option Addr} {l : List Int} (h : RowsOut w gw n G) (hk : k < n) (hl : l.length ≤ ck) (hI : IntsAt w w.heap.size Ak l) (hne : ∀ ad, Ak = some ad → ad.block ≠ gw) :
    RowsOut (w.setCell ⟨gw, k, none⟩ (.slice Ak l.length ck)) gw n (upd G k l) := by
  intro i hi
  obtain ⟨h0, Ai, ci, h1, h2, h3, h4⟩ := h i hi
  refine ⟨by rw [World.frozen?_setCell]; exact h0, ?_⟩
  rw [size_setCell]
  by_cases e : i = k
  · subst e
    rw [upd_same]
    exact ⟨Ak, ck, World.cell?_setCell_same' _ _ _ (by rw [h1]; rfl), hl, hI.far hne _, hne⟩
  · rw [upd_other e]
    exact ⟨Ai, ci, (World.cell?_setCell_other w _ _ _ (fun h => e (by cases h; rfl))).trans h1, h2, h3.far h4 _, h4⟩
theorem RowsOut.alloc {w : World} {gw n : Nat} {G : Nat → List Int} (h : RowsOut w gw n G) (hg : gw < w.heap.size) (o : Obj) : RowsOut (w.alloc o) gw n G := h.below ((Below.refl _ w).alloc (Nat.le_refl _) o) hg

theorem make_rows (n : Nat) (hn : n ≤ 1000000) (W : World) :
    (Instr.makeSlice 22 (.int .i64 (n : Int)) (.int .i64 (n : Int))).run Try.prog W = .ok (.slice (some ⟨W.heap.size, 0, none⟩) n n) (W.alloc (.cells (madeCells #[.slice none 0 0] n) 25)) := by
  obtain ⟨i0, hi, hz0, hz1, hz2⟩ := info_parts Try.info25
  have h := run_make (P := Try.prog) (w := W) 22 25 i0 (.slice none 0 0) Try.underlying22 hi hz0 .i64 .i64 (n : Int) (n : Int) (by omega) (by omega) (by rw [hz2]; omega) (by omega)
  simp only [Int.toNat_natCast, hz1, Nat.mul_one] at h
  exact h
theorem rows_new (n : Nat) (W : World) : RowsOut (W.alloc (.cells (madeCells #[.slice none 0 0] n) 25)) W.heap.size n (fun _ => []) := by
  intro i hi
  have hh : (W.alloc (.cells (madeCells #[.slice none 0 0] n) 25)).heap[W.heap.size]? = some (.cells (madeCells #[.slice none 0 0] n) 25 (0, 0)) := heap_alloc_new W _
  refine ⟨frozen_of_row _ _ _ _ _ hh, none, 0, ?_, Nat.le_refl _, fun hl => absurd hl (by simp), fun ad e => by cases e⟩
  rw [cell_of_row _ _ i _ _ _ hh]
  simp [madeCells, hi, Nat.mod_one]

theorem Ranked.closedB {g : Nat → List Int} {n : Nat} {f : Nat → Nat} (h : Ranked g n f) : closedB n g = true := closedB_yes fun i hi x hx => by
  obtain ⟨y, h1, rfl, _⟩ := h i hi x hx
  omega
theorem Ranked.wf {g : Nat → List Int} {n : Nat} {f : Nat → Nat} (h : Ranked g n f) (hn : n ≤ 1000) : ∀ i, i < n → ∀ x, x ∈ g i → wfI x := fun i hi x hx => by
  obtain ⟨y, h1, rfl, _⟩ := h i hi x hx
  unfold wfI
  omega
theorem Ranked.says {g : Nat → List Int} {n : Nat} {f : Nat → Nat} (h : Ranked g n f) (hn : n ≤ 100) {E : Int} {o : List Nat} (hs : OrderSays n g E o) : E = 0 ∧ Had g n o ∧ o.length = n := by
  rcases hs with ⟨h1, _⟩ | ⟨_, h2, _⟩ | ⟨_, _, _, _, p, h3, h4⟩ | ⟨_, _, h5, h6, h7⟩
  · omega
  · rw [h.closedB] at h2; cases h2
  · have := h.full h3; omega
  · exact ⟨h5, h6, h7⟩
theorem Ranked.forSays {g : Nat → List Int} {n : Nat} {f : Nat → Nat} (h : Ranked g n f) (hn : n ≤ 100) {v : Nat} (hv : v < n) {E : Int} {o : List Nat} (hs : ForSays n g (v : Int) E o) : E = 0 ∧ Had g n o ∧ o.length = n := by
  rcases hs with ⟨hs, _⟩ | ⟨_, _, h1, _⟩
  · exact h.says hn hs
  · omega

/-- an order of all n nodes -/
def FullOut (n : Nat) (g : Nat → List Int) (F : List Nat → List Nat) (w : World) (e : Ending) (w' : World) : Prop :=
  ∃ o A c, Had g n o ∧ o.length = n ∧ e = .returned (.tuple #[.slice A (F o).length c, .int .i64 0]) ∧ IntsAt w' w'.heap.size A (ci (F o)) ∧ Below w.heap.size w w' ∧ ∀ ad, A = some ad → w.heap.size ≤ ad.block

theorem order_ok {A : Option Addr} {n c : Nat} {g : Nat → List Int} {f : Nat → Nat} {w : World} (hn : n ≤ 100) (hl : ∀ i, i < n → (g i).length ≤ 1000) (hr : Ranked g n f) (h : RowsAt w w.heap.size A n g) :
    Calls Try.prog 12 #[.slice A n c] w (FullOut n g (fun o => o) w) :=
  (order_any A n c g w (by omega) (fun i hi => by have := hl i hi; omega) (hr.wf (by omega)) h).mono fun e w' hout => by
    obtain ⟨E, o, A', c', hs, rfl, hI, hb, hA⟩ := hout.shape
    obtain ⟨rfl, h1, h2⟩ := hr.says hn hs
    exact ⟨o, A', c', h1, h2, rfl, hI, hb, hA⟩
theorem above_ok {A : Option Addr} {n c v : Nat} {g : Nat → List Int} {f : Nat → Nat} {w : World} (hn : n ≤ 100) (hl : ∀ i, i < n → (g i).length ≤ 1000) (hr : Ranked g n f) (h : RowsAt w w.heap.size A n g) (hv : v < n) :
    Calls Try.prog 14 #[.slice A n c, .int .i64 (v : Int)] w (FullOut n g (aboOf g v) w) :=
  (above_any A n c g v w (by omega) hl (hr.wf (by omega)) h (by unfold wfI; omega)).mono fun e w' ⟨E, ys, A', c', ⟨o, hs, hys⟩, he, hI, hb, hA⟩ => by
    obtain ⟨rfl, h1, h2⟩ := hr.forSays hn hv hs
    rcases hys with ⟨h3, _⟩ | ⟨_, rfl⟩
    · exact absurd rfl h3
    · rw [Int.toNat_natCast] at he hI
      exact ⟨o, A', c', h1, h2, he, hI, hb, hA⟩
theorem under_ok {A : Option Addr} {n c v : Nat} {g : Nat → List Int} {f : Nat → Nat} {w : World} (hn : n ≤ 100) (hl : ∀ i, i < n → (g i).length ≤ 1000) (hr : Ranked g n f) (h : RowsAt w w.heap.size A n g) (hv : v < n) :
    Calls Try.prog 16 #[.slice A n c, .int .i64 (v : Int)] w (FullOut n g (undOf g v) w) :=
  (under_any A n c g v w (by omega) (fun i hi => by have := hl i hi; omega) (hr.wf (by omega)) h (by unfold wfI; omega)).mono fun e w' ⟨E, ys, A', c', ⟨o, hs, hys⟩, he, hI, hb, hA⟩ => by
    obtain ⟨rfl, h1, h2⟩ := hr.forSays hn hv hs
    rcases hys with ⟨h3, _⟩ | ⟨_, rfl⟩
    · exact absurd rfl h3
    · rw [Int.toNat_natCast] at he hI
      exact ⟨o, A', c', h1, h2, he, hI, hb, hA⟩
theorem check_ok {A : Option Addr} {n c : Nat} {g : Nat → List Int} {f : Nat → Nat} {w : World} (hn : n ≤ 100) (hl : ∀ i, i < n → (g i).length ≤ 1000) (hr : Ranked g n f) (h : RowsAt w w.heap.size A n g) :
    Calls Try.prog 18 #[.slice A n c] w fun e w' => e = .returned (.int .i64 0) ∧ Below w.heap.size w w' :=
  (check_any A n c g w (by omega) (fun i hi => by have := hl i hi; omega) (hr.wf (by omega)) h).mono fun e w' ⟨E, ⟨o, hs⟩, he, hb⟩ => by
    obtain ⟨rfl, _⟩ := hr.says hn hs
    exact ⟨he, hb⟩

end Go.Proofs.Ytlkgnafbipgpbaa
