/- The contract of catnaplaw4.chip, in parts: H5. (Written by wip/tools/h1.py.) -/
import Derived.Test.YtnfbhhgdibkbdaaH0
namespace Go.Proofs.Ytnfbhhgdibkbdaa
set_option linter.unusedSimpArgs false
set_option linter.unusedVariables false
open Go.RowKit Go.Maps

/-- one struct more behind a row that the call owns; what it leads to lies in no block of H either -/
theorem row_stepH {α : Type} {C : ReadsC α} {V : Reads α} [sc : SteadyC C V] {sz : Nat} {e : TypeId} {wr W5 : World} {B gs : Nat} {v : Value} {xs : List α} {x : α} {lits : List Value} {H : List Nat}
    (hrow : RowC C sz e (gs :: v.ownBlock.toList ++ H) wr B v xs) (hgs : gs < wr.heap.size) (hne : v.ownBlock ≠ some gs) (hM : Moved [] wr W5) (hx : C (gs :: v.ownBlock.toList ++ H) W5 x lits) (hl : lits.length = sz) :
    ∃ vss : List (List Value), W5.ownsRow B e sz v xs.length vss.flatten ∧ ∀ (v6 : Value) (w6 : World), w6.ownsRow B e sz v6 (xs.length + 1) (vss.flatten ++ lits) → W5.grownBy w6 v.ownBlock → (v6.ownBlock = v.ownBlock ∨ v6.ownBlock = some W5.heap.size) →
      v6.ownBlock ≠ some gs ∧ Moved (gs :: v.ownBlock.toList) wr w6 ∧ ∀ j u, RowC C sz e (gs :: v6.ownBlock.toList ++ H) (w6.setCell ⟨gs, j, none⟩ u) B v6 (xs ++ [x]) ∧ Moved (gs :: v.ownBlock.toList) wr (w6.setCell ⟨gs, j, none⟩ u) := by
  have hlt : ∀ g, v.ownBlock = some g → g < wr.heap.size := fun g hg => by
    obtain ⟨_, _, _, _, h⟩ := hrow.shape
    exact (h g hg).2
  have hrow5 := hrow.move (hM.mono (by simp)) (fun g hg => hM.block g (hlt g hg) (by simp))
  obtain ⟨vss, hvl, hvc, ho⟩ := hrow5
  refine ⟨vss, ho, fun v6 w6 ho6 hg6 hb6 => ?_⟩
  have hsz := hM.size
  have hne6 : v6.ownBlock ≠ some gs := by
    rcases hb6 with h | h
    · rw [h]; exact hne
    · rw [h]; intro e; injection e with e; omega
  have hmg : Moved (gs :: v.ownBlock.toList) W5 w6 := Moved.of_grown hg6 (fun k hk => by simp [hk])
  have hmv : Moved (gs :: v.ownBlock.toList) wr w6 := (hM.mono (by simp)).trans hmg
  refine ⟨hne6, hmv, fun j u => ⟨?_, hmv.trans (Moved.setCell _ (by simp) _)⟩⟩
  have hup : ∀ {y : α} {us : List Value}, C (gs :: v.ownBlock.toList ++ H) W5 y us → C (v6.ownBlock.toList ++ (gs :: v.ownBlock.toList ++ H)) W5 y us := by
    intro y us h
    rcases hb6 with hb | hb
    · refine sc.less h fun k hk => ?_
      rw [hb] at hk
      rcases List.mem_append.1 hk with hk | hk
      · exact List.mem_append_left _ (List.mem_cons_of_mem _ hk)
      · exact hk
    · rw [hb]
      exact sc.more h (Nat.le_refl _)
  have hmg' : Moved (v6.ownBlock.toList ++ (gs :: v.ownBlock.toList ++ H)) W5 w6 := hmg.mono fun k hk => List.mem_append_right _ (List.mem_append_left _ hk)
  have hr6 : RowC C sz e (v6.ownBlock.toList ++ (gs :: v.ownBlock.toList ++ H)) w6 B v6 (xs ++ [x]) :=
    RowC.push (hot := v6.ownBlock.toList ++ (gs :: v.ownBlock.toList ++ H)) hvl (fun k y us h1 h2 => ⟨(hvc k y us h1 h2).1, hup (hvc k y us h1 h2).2⟩) hl (hup hx) hmg' ho6
  have hr7 := hr6.move (w' := w6.setCell ⟨gs, j, none⟩ u) (Moved.setCell _ (by simp) _) (fun g hg => Below.heap_setCell w6 _ u g (fun e => hne6 (by rw [hg, e])))
  exact hr7.less fun k hk => by
    rcases List.mem_append.1 hk with hk | hk
    · rcases List.mem_cons.1 hk with hk | hk
      · subst hk; exact List.mem_append_right _ (List.mem_append_left _ List.mem_cons_self)
      · exact List.mem_append_left _ hk
    · exact List.mem_append_right _ (List.mem_append_right _ hk)
structure P5 (w wb : World) (gd gs : Nat) (d : Nat → Nat) (H : List Nat) (v1 v2 v3 v4 : Value) (n : Nat) : Prop where
  row : RowC DevC 6 86 (gs :: v4.ownBlock.toList ++ H) w wb.heap.size v4 (devsP d (nClk d + 1) (nDom d) (nRst d) n)
  ne : v4.ownBlock ≠ some gs
  bx : BoxAt w gs [v1, v2, v3, v4]
  dr : DrawsTo w gd d 120
  mb : Moved [gs] wb w
structure P2 (w : World) (gd gs B : Nat) (d : Nat → Nat) (H : List Nat) (v1 : Value) (n : Nat) : Prop where
  row : RowC ClkC 6 46 (gs :: v1.ownBlock.toList ++ H) w B v1 (clksP d n)
  ne : v1.ownBlock ≠ some gs
  bx : BoxAt w gs [v1, .slice none 0 0, .slice none 0 0, .slice none 0 0]
  dr : DrawsTo w gd d 120
theorem startP2 (wa : World) (d : Nat → Nat) (H : List Nat) : RowC ClkC 6 46 ((wa.heap.size + 1) :: (Value.slice (some ⟨wa.heap.size, 0, none⟩) 1 1).ownBlock.toList ++ H) (wa4 wa d) wa.heap.size (.slice (some ⟨wa.heap.size, 0, none⟩) 1 1) (clksP d 0) := by
  refine ⟨[[.int .u8 111, .slice none 0 0, .int .u64 (1 + (d 0 : Nat)), .int .i64 0, .int .i64 0, .int .i64 0]], rfl, fun k x vs hx hv => ?_, rfl, .inr ⟨wa.heap.size, 1, #[.int .u8 111, .slice none 0 0, .int .u64 (1 + (d 0 : Nat)), .int .i64 0, .int .i64 0, .int .i64 0], rfl, Nat.le_refl _, ?_, Nat.le_refl _, by unfold maxLen; omega, rfl, rfl⟩⟩
  · cases k with
    | zero =>
      simp [clksP] at hx hv
      subst hx
      subst hv
      exact ⟨rfl, none, 0, by simp [oscP], Nat.zero_le _, fun h => absurd h (by simp [oscP])⟩
    | succ k => simp [clksP] at hx
  · show ((wa.alloc _).alloc _).heap[wa.heap.size]? = _
    rw [heap_alloc_old _ _ (by simp), heap_alloc_new]
theorem RowC.mores {α : Type} {C : ReadsC α} {V : Reads α} [sc : SteadyC C V] {sz : Nat} {e : TypeId} {hot : List Nat} {w : World} {B : Nat} {v : Value} {xs : List α} (h : RowC C sz e hot w B v xs) : ∀ {L : List Nat}, (∀ b, b ∈ L → w.heap.size ≤ b) → RowC C sz e (L ++ hot) w B v xs
  | [], _ => h
  | b :: L, hL => (RowC.mores h (L := L) fun c hc => hL c (List.mem_cons_of_mem _ hc)).more (hL b List.mem_cons_self)
theorem RowC.doms {sz : Nat} {e : TypeId} {hot hot' : List Nat} {w : World} {B : Nat} {v : Value} {xs : List Dom} (h : RowC DomC sz e hot w B v xs) : RowC DomC sz e hot' w B v xs := h
theorem RowC.rsts {sz : Nat} {e : TypeId} {hot hot' : List Nat} {w : World} {B : Nat} {v : Value} {xs : List Rst} (h : RowC RstC sz e hot w B v xs) : RowC RstC sz e hot' w B v xs := h
/-- all blocks that the chip's rows lie in -/
def hot4 (v1 v2 v3 v4 : Value) : List Nat := v1.ownBlock.toList ++ v2.ownBlock.toList ++ v3.ownBlock.toList ++ v4.ownBlock.toList
/-- a chip all of whose rows the call owns -/
structure Own4 (w : World) (B : Nat) (s : Chip) (v1 v2 v3 v4 : Value) : Prop where
  clks : RowC ClkC 6 46 (hot4 v1 v2 v3 v4) w B v1 s.clks
  doms : RowC DomC 3 75 (hot4 v1 v2 v3 v4) w B v2 s.doms
  rsts : RowC RstC 1 80 (hot4 v1 v2 v3 v4) w B v3 s.rsts
  devs : RowC DevC 6 86 (hot4 v1 v2 v3 v4) w B v4 s.devs
  n12 : ∀ g, v1.ownBlock = some g → v2.ownBlock ≠ some g
  n13 : ∀ g, v1.ownBlock = some g → v3.ownBlock ≠ some g
  n14 : ∀ g, v1.ownBlock = some g → v4.ownBlock ≠ some g
  n23 : ∀ g, v2.ownBlock = some g → v3.ownBlock ≠ some g
  n24 : ∀ g, v2.ownBlock = some g → v4.ownBlock ≠ some g
  n34 : ∀ g, v3.ownBlock = some g → v4.ownBlock ≠ some g
theorem Own4.chip {w : World} {B : Nat} {s : Chip} {v1 v2 v3 v4 : Value} (h : Own4 w B s v1 v2 v3 v4) : ChipV w w.heap.size s [v1, v2, v3, v4] := by
  obtain ⟨A1, c1, rfl, l1, h1⟩ := h.clks.strs
  obtain ⟨A2, c2, rfl, l2, h2⟩ := h.doms.strs
  obtain ⟨A3, c3, rfl, l3, h3⟩ := h.rsts.strs
  obtain ⟨A4, c4, rfl, l4, h4⟩ := h.devs.strs
  exact ⟨A1, c1, A2, c2, A3, c3, A4, c4, rfl, l1, l2, l3, l4, h1, h2, h3, h4⟩

end Go.Proofs.Ytnfbhhgdibkbdaa
