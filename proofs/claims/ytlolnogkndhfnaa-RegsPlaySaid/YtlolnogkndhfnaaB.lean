/- Slices of values and of structs in memory, boxes, rows that the call owns; what of memory has turned. (No function of the program.) -/
import Derived.Test.YtlolnogkndhfnaaChecked
import Derived.WalkKit
import Derived.ProofKit
import Derived.WalkLawsBesides
import Derived.Deep.QuietTactic
import Derived.BigQuiet
import Derived.Lib.Hide
import Derived.Below
import Derived.Laws.MakeOwn
import Derived.DataElems
import Derived.StillTailTactics
import Derived.Deep.DeepCutAuto
import Derived.Deep.CutBlock
import Derived.RegionTactic
import Derived.ChangeAlike
import Derived.Deep.RegionWith
import Derived.IntWalk
import Derived.Shelf.Abstract
import Derived.Orders
import Derived.Maps.OwnOps
import Derived.Maps.AppendAt
namespace Go.Proofs.Ytlolnogkndhfnaa
set_option linter.unusedSimpArgs false
set_option linter.unusedVariables false
open Go.RowKit Go.Maps

def wfI (x : Int) : Prop := -9223372036854775808 ≤ x ∧ x ≤ 9223372036854775807
def u32I (x : Int) : Prop := 0 ≤ x ∧ x ≤ 4294967295
theorem block_add (a : Addr) (n : Nat) : (a.add n).block = a.block := by unfold Addr.add; split <;> rfl
theorem ret_int {k : IntKind} {a b : Int} (h : a = b) : Ending.returned (.int k a) = .returned (.int k b) := by rw [h]
theorem ret_bool {a b : Bool} (h : a = b) : Ending.returned (.bool a) = .returned (.bool b) := by rw [h]
theorem get_lt {α : Type} {xs : List α} {k : Nat} {x : α} (hx : xs[k]? = some x) : k < xs.length := (List.getElem?_eq_some_iff.1 hx).1
theorem cell_lt {w : World} {p : Addr} {v : Value} (h : w.cell? p = some v) : p.block < w.heap.size := by
  rcases Nat.lt_or_ge p.block w.heap.size with hlt | hge
  · exact hlt
  · simp [World.cell?, Array.getElem?_eq_none hge] at h
theorem size_setCell (w : World) (p : Addr) (u : Value) : (w.setCell p u).heap.size = w.heap.size := by simp [World.setCell]
theorem below_drewN {B : Nat} {a w : World} (h : Below B a w) (n : Nat) : Below B a (w.drewN n) := h.trans ⟨rfl, rfl, rfl, Nat.le_refl _, fun _ _ => rfl⟩
/-- what a statement tells -/
def TellsB (b : Bool) (w : World) (e : Ending) (w' : World) : Prop := e = .returned (.bool b) ∧ Below w.heap.size w w'

/-! values in a row -/
def ValsAt (w : World) (B : Nat) (A : Option Addr) (vs : List Value) : Prop :=
  0 < vs.length → ∃ ad, A = some ad ∧ ad.block < B ∧ ∀ j v, vs[j]? = some v → w.cell? (ad.add j) = some v
section
variable {w w' : World} {B C : Nat} {A : Option Addr} {vs : List Value}
theorem ValsAt.keep (h : ValsAt w B A vs) (hk : ∀ p : Addr, p.block < B → w'.cell? p = w.cell? p) : ValsAt w' B A vs := by
  intro hl
  obtain ⟨ad, e, hb, hc⟩ := h hl
  exact ⟨ad, e, hb, fun j x hj => (hk _ (by rw [block_add]; exact hb)).trans (hc j x hj)⟩
theorem ValsAt.below (h : ValsAt w B A vs) (hb : Below C w w') (hC : B ≤ C) : ValsAt w' B A vs := h.keep fun _ hp => hb.cell (by omega)
theorem ValsAt.more (h : ValsAt w B A vs) (hC : B ≤ C) : ValsAt w C A vs := by
  intro hl
  obtain ⟨ad, e, hb, hc⟩ := h hl
  exact ⟨ad, e, by omega, hc⟩
theorem ValsAt.at_ {k : Nat} {v : Value} (h : ValsAt w B A vs) (hk : vs[k]? = some v) : ∃ ad, A = some ad ∧ ad.block < B ∧ w.cell? (ad.add k) = some v := by
  obtain ⟨ad, e, hb, hc⟩ := h (by have := get_lt hk; omega)
  exact ⟨ad, e, hb, hc k _ hk⟩
end
def u32s (l : List Int) : List Value := l.map (.int .u32)
def i64s (l : List Int) : List Value := l.map (.int .i64)
theorem u32s_at {l : List Int} {k : Nat} {x : Int} (h : l[k]? = some x) : (u32s l)[k]? = some (.int .u32 x) := by unfold u32s; rw [List.getElem?_map, h]; rfl
theorem i64s_at {l : List Int} {k : Nat} {x : Int} (h : l[k]? = some x) : (i64s l)[k]? = some (.int .i64 x) := by unfold i64s; rw [List.getElem?_map, h]; rfl
theorem u32s_len (l : List Int) : (u32s l).length = l.length := by simp [u32s]
theorem i64s_len (l : List Int) : (i64s l).length = l.length := by simp [i64s]

/-! structs in a row -/
/-- the cells from p on hold these values -/
def AggAt (w : World) (p : Addr) (vs : List Value) : Prop := ∀ j v, vs[j]? = some v → w.cell? (p.add j) = some v
theorem AggAt.keep {w w' : World} {B : Nat} {p : Addr} {vs : List Value} (h : AggAt w p vs) (hp : p.block < B) (hk : ∀ p : Addr, p.block < B → w'.cell? p = w.cell? p) : AggAt w' p vs :=
  fun j v hj => (hk _ (by rw [block_add]; exact hp)).trans (h j v hj)
theorem AggAt.zero {w : World} {p : Addr} {v : Value} {vs : List Value} (h : AggAt w p (v :: vs)) : w.cell? p = some v := by
  have := h 0 v rfl
  simpa [Addr.add] using this
theorem AggAt.at_ {w : World} {p : Addr} {vs : List Value} (h : AggAt w p vs) (j : Nat) {v : Value} (hj : vs[j + 1]? = some v) : w.cell? ⟨p.block, p.off + (j + 1), none⟩ = some v := by
  have := h (j + 1) v hj
  simpa [Addr.add] using this
abbrev Reads (α : Type) := α → List Value
/-- the slice address A leads to structs of sz cells each -/
def StrsAt {α : Type} (V : Reads α) (sz : Nat) (w : World) (B : Nat) (A : Option Addr) (xs : List α) : Prop :=
  0 < xs.length → ∃ ad, A = some ad ∧ ad.block < B ∧ ∀ k x, xs[k]? = some x → AggAt w (ad.add (k * sz)) (V x)
section
variable {α : Type} {V : Reads α} {sz : Nat} {w w' : World} {B C : Nat} {A : Option Addr} {xs : List α}
theorem StrsAt.keep (h : StrsAt V sz w B A xs) (hk : ∀ p : Addr, p.block < B → w'.cell? p = w.cell? p) : StrsAt V sz w' B A xs := by
  intro hl
  obtain ⟨ad, e, hb, hc⟩ := h hl
  exact ⟨ad, e, hb, fun k x hx => (hc k x hx).keep (by rw [block_add]; exact hb) hk⟩
theorem StrsAt.below (h : StrsAt V sz w B A xs) (hb : Below C w w') (hC : B ≤ C) : StrsAt V sz w' B A xs := h.keep fun _ hp => hb.cell (by omega)
theorem StrsAt.more (h : StrsAt V sz w B A xs) (hC : B ≤ C) : StrsAt V sz w C A xs := by
  intro hl
  obtain ⟨ad, e, hb, hc⟩ := h hl
  exact ⟨ad, e, by omega, hc⟩
theorem StrsAt.at_ (h : StrsAt V sz w B A xs) {k : Nat} {x : α} (hk : xs[k]? = some x) : ∃ ad, A = some ad ∧ ad.block < B ∧ AggAt w (ad.add (k * sz)) (V x) := by
  obtain ⟨ad, e, hb, hc⟩ := h (by have := get_lt hk; omega)
  exact ⟨ad, e, hb, hc k x hk⟩
end

/-! of all blocks that were, only the hot ones may have turned -/
structure Moved (hot : List Nat) (w w' : World) : Prop where
  os : w'.os = w.os
  tape : w'.tape = w.tape
  output : w'.output = w.output
  size : w.heap.size ≤ w'.heap.size
  block : ∀ k, k < w.heap.size → k ∉ hot → w'.heap[k]? = w.heap[k]?
namespace Moved
variable {hot hot' : List Nat} {w w' w'' : World} {B b : Nat}
theorem refl (hot : List Nat) (w : World) : Moved hot w w := ⟨rfl, rfl, rfl, Nat.le_refl _, fun _ _ _ => rfl⟩
theorem trans (h : Moved hot w w') (k : Moved hot w' w'') : Moved hot w w'' :=
  ⟨k.os.trans h.os, k.tape.trans h.tape, k.output.trans h.output, Nat.le_trans h.size k.size, fun i hi hn => (k.block i (Nat.lt_of_lt_of_le hi h.size) hn).trans (h.block i hi hn)⟩
theorem mono (h : Moved hot w w') (hs : ∀ k, k ∈ hot → k ∈ hot') : Moved hot' w w' := ⟨h.os, h.tape, h.output, h.size, fun k hk hn => h.block k hk fun hh => hn (hs k hh)⟩
theorem trans' (h : Moved hot w w') (k : Moved hot' w' w'') (hs : ∀ k, k ∈ hot' → k ∈ hot ∨ w.heap.size ≤ k) : Moved hot w w'' :=
  ⟨k.os.trans h.os, k.tape.trans h.tape, k.output.trans h.output, Nat.le_trans h.size k.size, fun i hi hn => (k.block i (Nat.lt_of_lt_of_le hi h.size) fun hh => (hs i hh).elim hn fun hl => by omega).trans (h.block i hi hn)⟩
theorem of_below (h : Below w.heap.size w w') : Moved hot w w' := ⟨h.os, h.tape, h.output, h.size, fun k hk _ => h.block k hk⟩
theorem of_grown {row : Option Nat} (h : w.grownBy w' row) (hr : ∀ k, row = some k → k ∈ hot) : Moved hot w w' :=
  ⟨h.os, h.tape, h.output, h.size, fun k hk hn => h.block k hk fun e => hn (hr k e.symm)⟩
theorem alloc (w : World) (o : Obj) : Moved hot w (w.alloc o) := of_below ((Below.refl _ _).alloc (Nat.le_refl _) o)
theorem drew (w : World) : Moved hot w w.drew := ⟨rfl, rfl, rfl, Nat.le_refl _, fun _ _ _ => rfl⟩
theorem drewN (w : World) (n : Nat) : Moved hot w (w.drewN n) := ⟨rfl, rfl, rfl, Nat.le_refl _, fun _ _ _ => rfl⟩
theorem setCell (w : World) {p : Addr} (hp : p.block ∈ hot) (u : Value) : Moved hot w (w.setCell p u) :=
  ⟨rfl, rfl, rfl, by rw [size_setCell]; exact Nat.le_refl _, fun k _ hn => Below.heap_setCell w p u k fun e => hn (e ▸ hp)⟩
theorem drop (h : Moved (b :: hot) w w') (hb : w.heap.size ≤ b) : Moved hot w w' :=
  ⟨h.os, h.tape, h.output, h.size, fun k hk hn => h.block k hk fun hh => (List.mem_cons.1 hh).elim (fun e => by omega) hn⟩
theorem below (h : Moved hot w w') (hh : ∀ k, k ∈ hot → B ≤ k) (hB : B ≤ w.heap.size) : Below B w w' :=
  ⟨h.os, h.tape, h.output, h.size, fun k hk => h.block k (by omega) fun hm => by have := hh k hm; omega⟩
theorem cell (h : Moved hot w w') {p : Addr} {v : Value} (hc : w.cell? p = some v) (hp : p.block ∉ hot) : w'.cell? p = some v :=
  (World.cell?_of_block (h.block p.block (World.block_lt_of_cell? w p hc) hp)).trans hc
theorem frozen (h : Moved hot w w') {p : Addr} (hl : p.block < w.heap.size) (hp : p.block ∉ hot) : w'.frozen? p = w.frozen? p :=
  World.frozen?_of_block (h.block p.block hl hp)
end Moved

/-- structs that lie in no hot block -/
def StrsC {α : Type} (V : Reads α) (sz : Nat) (hot : List Nat) (w : World) (A : Option Addr) (xs : List α) : Prop :=
  0 < xs.length → ∃ ad, A = some ad ∧ ad.block < w.heap.size ∧ ad.block ∉ hot ∧ ∀ k x, xs[k]? = some x → AggAt w (ad.add (k * sz)) (V x)
def ValsC (hot : List Nat) (w : World) (A : Option Addr) (vs : List Value) : Prop :=
  0 < vs.length → ∃ ad, A = some ad ∧ ad.block < w.heap.size ∧ ad.block ∉ hot ∧ ∀ j v, vs[j]? = some v → w.cell? (ad.add j) = some v
section
variable {α : Type} {V : Reads α} {sz : Nat} {hot hot' : List Nat} {w w' : World} {A : Option Addr} {xs : List α} {vs : List Value} {b : Nat}
theorem StrsC.move (h : StrsC V sz hot w A xs) (hm : Moved hot w w') : StrsC V sz hot w' A xs := fun hl => by
  obtain ⟨ad, e, h1, h2, h3⟩ := h hl
  exact ⟨ad, e, Nat.lt_of_lt_of_le h1 hm.size, h2, fun k x hk j v hj => hm.cell (h3 k x hk j v hj) (by rw [block_add, block_add]; exact h2)⟩
theorem StrsC.less (h : StrsC V sz hot w A xs) (hs : ∀ k, k ∈ hot' → k ∈ hot) : StrsC V sz hot' w A xs := fun hl => by
  obtain ⟨ad, e, h1, h2, h3⟩ := h hl
  exact ⟨ad, e, h1, fun hh => h2 (hs _ hh), h3⟩
theorem StrsC.at_ (h : StrsC V sz hot w A xs) {k : Nat} {x : α} (hk : xs[k]? = some x) : ∃ ad, A = some ad ∧ ad.block < w.heap.size ∧ ad.block ∉ hot ∧ AggAt w (ad.add (k * sz)) (V x) := by
  obtain ⟨ad, e, h1, h2, h3⟩ := h (by have := get_lt hk; omega)
  exact ⟨ad, e, h1, h2, h3 k x hk⟩
theorem ValsC.move (h : ValsC hot w A vs) (hm : Moved hot w w') : ValsC hot w' A vs := fun hl => by
  obtain ⟨ad, e, h1, h2, h3⟩ := h hl
  exact ⟨ad, e, Nat.lt_of_lt_of_le h1 hm.size, h2, fun j v hj => hm.cell (h3 j v hj) (by rw [block_add]; exact h2)⟩
theorem ValsC.less (h : ValsC hot w A vs) (hs : ∀ k, k ∈ hot' → k ∈ hot) : ValsC hot' w A vs := fun hl => by
  obtain ⟨ad, e, h1, h2, h3⟩ := h hl
  exact ⟨ad, e, h1, fun hh => h2 (hs _ hh), h3⟩
theorem ValsC.at_ (h : ValsC hot w A vs) {k : Nat} {v : Value} (hk : vs[k]? = some v) : ∃ ad, A = some ad ∧ ad.block < w.heap.size ∧ ad.block ∉ hot ∧ w.cell? (ad.add k) = some v := by
  obtain ⟨ad, e, h1, h2, h3⟩ := h (by have := get_lt hk; omega)
  exact ⟨ad, e, h1, h2, h3 k v hk⟩
end

/-! boxes: block g holds these values, and may be written -/
def BoxAt (w : World) (g : Nat) (vs : List Value) : Prop := ∀ j v, vs[j]? = some v → w.cell? ⟨g, j, none⟩ = some v ∧ w.frozen? ⟨g, j, none⟩ = false
theorem BoxAt.of_blk {w : World} {g : Nat} {vs : List Value} {t : TypeId} (h : w.heap[g]? = some (.cells vs.toArray t (0, 0))) : BoxAt w g vs := fun j v hj =>
  ⟨by rw [cell_of_row _ _ j _ _ _ h]; simpa using hj, frozen_of_row _ _ _ _ _ h⟩
theorem BoxAt.new (w : World) (vs : List Value) (t : TypeId) : BoxAt (w.alloc (.cells vs.toArray t)) w.heap.size vs := .of_blk (t := t) (heap_alloc_new w _)
theorem BoxAt.lt {w : World} {g : Nat} {v : Value} {vs : List Value} (h : BoxAt w g (v :: vs)) : g < w.heap.size := World.block_lt_of_cell? w ⟨g, 0, none⟩ (h 0 v rfl).1
theorem BoxAt.move {w w' : World} {g : Nat} {v : Value} {vs : List Value} {hot : List Nat} (h : BoxAt w g (v :: vs)) (hm : Moved hot w w') (hg : g ∉ hot) : BoxAt w' g (v :: vs) := fun j u hj =>
  ⟨hm.cell (h j u hj).1 hg, (hm.frozen (p := ⟨g, j, none⟩) h.lt hg).trans (h j u hj).2⟩
theorem BoxAt.set {w : World} {g j : Nat} {vs : List Value} (h : BoxAt w g vs) (hj : j < vs.length) (u : Value) : BoxAt (w.setCell ⟨g, j, none⟩ u) g (vs.set j u) := by
  intro i v hi
  by_cases e : i = j
  · subst e
    rw [List.getElem?_set_self hj] at hi
    injection hi with hi
    subst hi
    obtain ⟨h1, h2⟩ := h i _ (List.getElem?_eq_getElem hj)
    exact ⟨World.cell?_setCell_same' _ _ _ (by rw [h1]; rfl), by rw [World.frozen?_setCell]; exact h2⟩
  · rw [List.getElem?_set_ne (Ne.symm e)] at hi
    obtain ⟨h1, h2⟩ := h i v hi
    exact ⟨(World.cell?_setCell_other w _ _ _ (fun h => e (by cases h; rfl))).trans h1, by rw [World.frozen?_setCell]; exact h2⟩

/-- block g holds these values, any number of them, and may be written -/
def RowAt (w : World) (g : Nat) (vs : List Value) : Prop := g < w.heap.size ∧ ∀ j v, vs[j]? = some v → w.cell? ⟨g, j, none⟩ = some v ∧ w.frozen? ⟨g, j, none⟩ = false
theorem RowAt.move {w w' : World} {g : Nat} {vs : List Value} {hot : List Nat} (h : RowAt w g vs) (hm : Moved hot w w') (hg : g ∉ hot) : RowAt w' g vs := ⟨Nat.lt_of_lt_of_le h.1 hm.size, fun j u hj =>
  ⟨hm.cell (h.2 j u hj).1 hg, (hm.frozen (p := ⟨g, j, none⟩) h.1 hg).trans (h.2 j u hj).2⟩⟩
theorem RowAt.set {w : World} {g j : Nat} {vs : List Value} (h : RowAt w g vs) (u : Value) : RowAt (w.setCell ⟨g, j, none⟩ u) g (vs.set j u) := by
  refine ⟨by rw [size_setCell]; exact h.1, fun i v hi => ?_⟩
  by_cases e : i = j
  · subst e
    have hj : i < vs.length := by have := get_lt hi; simpa using this
    rw [List.getElem?_set_self hj] at hi
    injection hi with hi
    subst hi
    obtain ⟨h1, h2⟩ := h.2 i _ (List.getElem?_eq_getElem hj)
    exact ⟨World.cell?_setCell_same' _ _ _ (by rw [h1]; rfl), by rw [World.frozen?_setCell]; exact h2⟩
  · rw [List.getElem?_set_ne (Ne.symm e)] at hi
    obtain ⟨h1, h2⟩ := h.2 i v hi
    exact ⟨(World.cell?_setCell_other w _ _ _ (fun h => e (by cases h; rfl))).trans h1, by rw [World.frozen?_setCell]; exact h2⟩
theorem RowAt.new (W : World) (n : Nat) (z : Value) (t : TypeId) : RowAt (W.alloc (.cells (madeCells #[z] n) t)) W.heap.size (List.replicate n z) := by
  have hh : (W.alloc (.cells (madeCells #[z] n) t)).heap[W.heap.size]? = some (.cells (madeCells #[z] n) t (0, 0)) := heap_alloc_new W _
  refine ⟨?_, fun j v hj => ⟨?_, frozen_of_row _ _ _ _ _ hh⟩⟩
  · rcases Nat.lt_or_ge W.heap.size (W.alloc (.cells (madeCells #[z] n) t)).heap.size with h | h
    · exact h
    · rw [Array.getElem?_eq_none h] at hh; cases hh
  · have hjl := get_lt hj
    rw [List.length_replicate] at hjl
    rw [List.getElem?_replicate, if_pos hjl] at hj
    injection hj with hj
    subst hj
    rw [cell_of_row _ _ j _ _ _ hh]
    simp [madeCells, hjl, Nat.mod_one]

/-! rows that the call owns -/
theorem own_shape' {w : World} {base n : Nat} {e : TypeId} {size : Nat} {v : Value} {xs : List Value} (h : w.ownsRow base e size v n xs) : ∃ A c, v = .slice A n c := by
  rcases h.2 with ⟨rfl, rfl⟩ | ⟨g, cap, cur, rfl, _⟩
  · exact ⟨_, _, rfl⟩
  · exact ⟨_, _, rfl⟩
theorem own_cap {w : World} {base n c : Nat} {A : Option Addr} {e : TypeId} {size : Nat} {xs : List Value} (h : w.ownsRow base e size (.slice A n c) n xs) : n ≤ c := by
  rcases h.2 with ⟨h1, rfl⟩ | ⟨g, cap, cur, h1, _, _, hc, _⟩
  · omega
  · injection h1 with _ _ h1; omega
theorem own_move {w w' : World} {B n sz : Nat} {e : TypeId} {v : Value} {xs : List Value} (h : w.ownsRow B e sz v n xs) (hk : ∀ g, v.ownBlock = some g → w'.heap[g]? = w.heap[g]?) : w'.ownsRow B e sz v n xs := by
  refine ⟨h.1, ?_⟩
  rcases h.2 with h | ⟨g, cap, cur, rfl, h2, h3, r⟩
  · exact .inl h
  · exact .inr ⟨g, cap, cur, rfl, h2, (hk g rfl).trans h3, r⟩
theorem own_moved {w w' : World} {B n sz : Nat} {e : TypeId} {v : Value} {xs : List Value} {hot : List Nat} (h : w.ownsRow B e sz v n xs) (hm : Moved hot w w') (hh : ∀ g, v.ownBlock = some g → g ∉ hot) : w'.ownsRow B e sz v n xs :=
  own_move h fun g hg => hm.block g (h.lt g hg).2 (hh g hg)
theorem own_base' {w : World} {base base' n sz : Nat} {e : TypeId} {v : Value} {xs : List Value} (h : w.ownsRow base e sz v n xs) (hb : base' ≤ base) : w.ownsRow base' e sz v n xs := by
  refine ⟨h.1, ?_⟩
  rcases h.2 with h | ⟨g, cap, cur, h1, h2, r⟩
  · exact .inl h
  · exact .inr ⟨g, cap, cur, h1, by omega, r⟩
/-- an own row of single cells reads, and may be written -/
theorem own_row {w : World} {B n : Nat} {e : TypeId} {A : Option Addr} {c : Nat} {xs : List Value} (h : w.ownsRow B e 1 (.slice A n c) n xs) (hn : 0 < n) : ∃ g, A = some ⟨g, 0, none⟩ ∧ B ≤ g ∧ RowAt w g xs := by
  rcases h.2 with ⟨_, h0⟩ | ⟨g, cap, cur, h1, h2, h3, h4, h5, h6, h7⟩
  · omega
  · injection h1 with h1 _ _
    subst h1
    have hl : g < w.heap.size := (h.lt g rfl).2
    refine ⟨g, rfl, h2, hl, fun j v hj => ⟨?_, frozen_of_row _ _ _ _ _ h3⟩⟩
    have := h.cells (g := g) rfl j v hj
    first | exact this | (rw [Addr.add_lit, Nat.zero_add] at this; exact this)

/-! the made row, and a struct's cells -/
theorem flat_at {vss : List (List Value)} {sz : Nat} (h : ∀ vs, vs ∈ vss → vs.length = sz) : ∀ {i : Nat} {u : Value}, vss.flatten[i]? = some u → ∃ k j vs, vss[k]? = some vs ∧ vs[j]? = some u ∧ i = k * sz + j := by
  induction vss with
  | nil => intro i u hi; simp at hi
  | cons x l ih =>
    intro i u hi
    have hx : x.length = sz := h x (by simp)
    rw [List.flatten_cons] at hi
    rcases Nat.lt_or_ge i x.length with hl | hl
    · rw [List.getElem?_append_left hl] at hi
      exact ⟨0, i, x, rfl, hi, by omega⟩
    · rw [List.getElem?_append_right hl] at hi
      obtain ⟨k, j, vs, h1, h2, h3⟩ := ih (fun vs hv => h vs (by simp [hv])) hi
      exact ⟨k + 1, j, vs, by simpa using h1, h2, by rw [Nat.add_mul]; omega⟩
theorem flat_get {vss : List (List Value)} {sz : Nat} (h : ∀ vs, vs ∈ vss → vs.length = sz) : ∀ {k j : Nat} {vs : List Value} {v : Value}, vss[k]? = some vs → vs[j]? = some v → vss.flatten[k * sz + j]? = some v := by
  induction vss with
  | nil => intro k j vs v hk; simp at hk
  | cons x l ih =>
    intro k j vs v hk hj
    have hx : x.length = sz := h x (by simp)
    cases k with
    | zero =>
      simp at hk
      subst hk
      have hjl := get_lt hj
      rw [List.flatten_cons, Nat.zero_mul, Nat.zero_add, List.getElem?_append_left hjl]
      exact hj
    | succ k =>
      have := ih (fun vs hv => h vs (by simp [hv])) (k := k) (j := j) (by simpa using hk) hj
      rw [List.flatten_cons, List.getElem?_append_right (by rw [hx]; simp [Nat.add_mul]; omega), hx]
      rwa [show (k + 1) * sz + j - sz = k * sz + j by rw [Nat.add_mul]; omega]
theorem flat_len' {vss : List (List Value)} {sz : Nat} (h : ∀ vs, vs ∈ vss → vs.length = sz) : vss.flatten.length = vss.length * sz := by
  induction vss with
  | nil => simp
  | cons x l ih =>
    rw [List.flatten_cons, List.length_append, ih (fun vs hv => h vs (by simp [hv])), h x (by simp), List.length_cons, Nat.add_mul]
    omega
/-- all cells of structs, one behind the other -/
def flatS {α : Type} (V : Reads α) (xs : List α) : List Value := (xs.map V).flatten
section
variable {α : Type} {V : Reads α} {sz : Nat} (hV : ∀ x, (V x).length = sz)
include hV
theorem flatS_len (xs : List α) : (flatS V xs).length = xs.length * sz := by
  unfold flatS
  rw [flat_len' (sz := sz) (fun vs hv => by obtain ⟨x, _, rfl⟩ := List.mem_map.1 hv; exact hV x), List.length_map]
theorem flatS_get {xs : List α} {k j : Nat} {x : α} {v : Value} (hx : xs[k]? = some x) (hj : (V x)[j]? = some v) : (flatS V xs)[k * sz + j]? = some v :=
  flat_get (fun vs hv => by obtain ⟨x, _, rfl⟩ := List.mem_map.1 hv; exact hV x) (by rw [List.getElem?_map, hx]; rfl) hj
theorem flatS_at {xs : List α} {i : Nat} {u : Value} (h : (flatS V xs)[i]? = some u) : ∃ k j x, xs[k]? = some x ∧ (V x)[j]? = some u ∧ i = k * sz + j := by
  obtain ⟨k, j, vs, h1, h2, h3⟩ := flat_at (sz := sz) (fun vs hv => by obtain ⟨x, _, rfl⟩ := List.mem_map.1 hv; exact hV x) h
  rw [List.getElem?_map] at h1
  cases hx : xs[k]? with
  | none => rw [hx] at h1; cases h1
  | some x => rw [hx] at h1; injection h1 with h1; subst h1; exact ⟨k, j, x, hx, h2, h3⟩
/-- structs read as the flat row of their cells -/
theorem StrsAt.flat {w : World} {B : Nat} {A : Option Addr} {xs : List α} (h : StrsAt V sz w B A xs) {ad : Addr} (hA : A = some ad) : ∀ j u, (flatS V xs)[j]? = some u → w.cell? (ad.add j) = some u := by
  intro i u hi
  obtain ⟨k, j, x, h1, h2, rfl⟩ := flatS_at hV hi
  obtain ⟨ad', e, hb, hc⟩ := h.at_ h1
  rw [hA] at e
  injection e with e
  subst e
  have := hc j u h2
  rwa [Addr.add_add] at this
/-- an own row of structs reads -/
theorem own_strs {w : World} {B n : Nat} {e : TypeId} {A : Option Addr} {c : Nat} {xs : List α} {hot : List Nat} (h : w.ownsRow B e sz (.slice A n c) n (flatS V xs)) (hn : n = xs.length) (hh : ∀ g, (Value.slice A n c).ownBlock = some g → g ∉ hot) : StrsC V sz hot w A xs := by
  intro hp
  rcases h.2 with ⟨_, h0⟩ | ⟨g, cap, cur, h1, h2, h3, h4⟩
  · omega
  · injection h1 with h1 _ _
    subst h1
    refine ⟨_, rfl, (h.lt g rfl).2, hh g rfl, fun k x hx j v hj => ?_⟩
    have := h.cells (g := g) rfl _ v (flatS_get hV hx hj)
    first
      | (rw [Addr.add_lit, Nat.zero_add] at this; rw [Addr.add_lit, Addr.add_lit, Nat.zero_add]; exact this)
      | (rw [Addr.add_lit, Addr.add_lit, Nat.zero_add]; exact this)
end

end Go.Proofs.Ytlolnogkndhfnaa
