/- The chapter's example. -/
import Derived.Test.YtlhmcpkfmnmhfaaZ7
import Derived.Test.YtlhmcpkfmnmhfaaH11
namespace Go.Proofs.Ytlhmcpkfmnmhfaa
set_option linter.unusedSimpArgs false
set_option linter.unusedVariables false
open Go.RowKit Go.Maps

def s0 : Chip := ⟨[], [⟨-1, 0, false⟩], [], []⟩
theorem s0_ok : ChipOk s0 := ⟨by simp [s0], by simp [s0], by simp [s0], by simp [s0], by simp [s0], by simp [s0, wfI], by simp [s0]⟩
theorem s0_right : chipE s0 = 0 := by
  have g0 : graphE [] = 0 := graphE_down (by simp) (by intro i r h; simp at h)
  have g1 : graphE [[]] = 0 := graphE_down (by simp) (by
    intro i r h
    cases i with
    | zero => simp at h; subst h; simp
    | succ i => simp at h)
  have e : chipE s0 = firstE [orE (fitsB s0) 8, firstE ([] : List Int), graphE [], firstE [domE 1 ⟨-1, 0, false⟩], graphE [[]], firstE ([] : List Int), firstE ([] : List Int), graphE []] := rfl
  rw [e, g0, g1]
  rfl
theorem s0_chip (w : World) (g : Nat) (hg : g < w.heap.size) (h : AggAt w ⟨g, 0, none⟩ [.int .i64 (-1), .int .i64 0, .bool false]) : ChipV w w.heap.size s0 [.slice none 0 0, .slice (some ⟨g, 0, none⟩) 1 1, .slice none 0 0, .slice none 0 0] := by
  refine ⟨none, 0, some ⟨g, 0, none⟩, 1, none, 0, none, 0, rfl, Nat.le_refl _, Nat.le_refl _, Nat.le_refl _, Nat.le_refl _, fun h => absurd h (by simp [s0]), fun _ => ⟨_, rfl, hg, fun k x hx => ?_⟩, fun h => absurd h (by simp [s0]), fun h => absurd h (by simp [s0])⟩
  cases k with
  | zero =>
    simp [s0] at hx
    subst hx
    refine ⟨_, rfl, ?_⟩
    have e : (⟨g, 0, none⟩ : Addr).add (0 * 3) = ⟨g, 0, none⟩ := rfl
    rw [e]
    exact h
  | succ k => simp [s0] at hx

theorem EvRow.one {w : World} {B : Nat} {v : Value} {a b : Int} (h : EvRow w B v [⟨a, b⟩]) : ∃ g c, v = .slice (some ⟨g, 0, none⟩) 1 c ∧ B ≤ g ∧ w.cell? ⟨g, 0, none⟩ = some (.int .u8 a) ∧ w.cell? ⟨g, 1, none⟩ = some (.int .i64 b) := by
  obtain ⟨g, c, rfl, hg, hl⟩ := World.ownsRow.form h (by simp)
  refine ⟨g, c, rfl, hg, ?_, ?_⟩
  · rw [World.ownsRow.cellAt h 0 (by simp)]; rfl
  · rw [World.ownsRow.cellAt h 1 (by simp)]; rfl

def st1 (p : Int) : List Pst := [⟨⟨-1, 0, false⟩, p, 0, false⟩]
theorem st1_above (p : Int) : ∀ (k : Nat) (x : Pst), (st1 p)[k]? = some x → aboveOk (st1 p).length x.dom.above := by
  intro k x h
  cases k with
  | zero => simp [st1] at h; subst h; exact .inl rfl
  | succ k => simp [st1] at h
theorem st1_left (p : Int) : ∀ (k : Nat) (x : Pst), (st1 p)[k]? = some x → x.left ≤ 1000000 := by
  intro k x h
  cases k with
  | zero => simp [st1] at h; subst h; simp
  | succ k => simp [st1] at h

set_option maxRecDepth 100000 in
set_option maxHeartbeats 4000000 in
theorem shown_any (w : World) : Calls Try.prog 9 #[] w (TellsB true w) := by
  have hb1 := (Below.refl w.heap.size w).alloc (Nat.le_refl _) (.cells #[.int .i64 (-1), .int .i64 0, .bool false] 46)
  have hcv := s0_chip (w.alloc (.cells #[.int .i64 (-1), .int .i64 0, .bool false] 46)) w.heap.size (by simp) (agg_new w [.int .i64 (-1), .int .i64 0, .bool false] 46)
  have HB1 := Lib.hid hb1
  have HCV := Lib.hid hcv
  clear hb1 hcv
  go_enter Try.func9, Try.ntmps9
  go_wp2_with fail
  refine (new_ok s0 _ _ s0_ok HCV.out s0_right (by simp [s0])).mono ?_
  rintro e w1 ⟨gt, g, c, rfl, hgt, hg, hgr, hb⟩
  have hg1 : GridIs w1 gt g c (st1 48) := hgr
  have HG1 := Lib.hid hg1
  have hb1' := HB1.out.trans (hb.mono (by simp))
  have HB2 := Lib.hid hb1'
  have hz1 : w.heap.size + 1 ≤ w1.heap.size := by have := hb.size; simp at this; omega
  simp only [World.size_alloc] at hgt hg
  clear hgr hb hg1 hb1' HB1 HCV
  go_wp2_with fail
  refine (phase_any gt g c (st1 48) 0 _ (by simp [st1]) HG1.out).mono ?_
  rintro e w' ⟨rfl, rfl⟩
  rw [show phaseP (st1 48) 0 = 48 from rfl]
  go_wp2_with fail
  refine (up_any gt g c (st1 48) 0 _ (by simp [st1]) HG1.out (st1_above 48)).mono ?_
  rintro e w2 ⟨rfl, hg2, hm2⟩
  rw [show upE (st1 48) 0 = 0 from rfl]
  have hg2' : GridIs w2 gt g c (st1 114) := hg2
  have HG2 := Lib.hid hg2'
  have HM2 := Lib.hid hm2
  have hz2 := hm2.size
  clear hg2 hg2' hm2
  go_wp2_with fail
  refine (tick_any gt g c (st1 114) _ (by simp [st1]) HG2.out (st1_left 114)).mono ?_
  rintro e w3 ⟨v3, rfl, he3, hg3, hm3⟩
  have he3' : EvRow w3 w2.heap.size v3 [⟨110, 0⟩] := he3
  have hg3' : GridIs w3 gt g c (st1 104) := hg3
  obtain ⟨g3, c3, rfl, hgl3, e0, e1⟩ := he3'.one
  have HG3 := Lib.hid hg3'
  have HM3 := Lib.hid (HM2.out.trans hm3)
  have hz3 := hm3.size
  have hne3 : g3 ≠ g := by have := HG2.out.lt; omega
  clear he3 he3' hg3 hg3' hm3
  go_wp2_with fail
  refine (tick_any gt g c (st1 104) _ (by simp [st1]) HG3.out (st1_left 104)).mono ?_
  rintro e w4 ⟨v4, rfl, he4, hg4, hm4⟩
  have he4' : EvRow w4 w3.heap.size v4 [⟨111, 0⟩] := he4
  have hg4' : GridIs w4 gt g c (st1 49) := hg4
  obtain ⟨g4, c4, rfl, hgl4, f0, f1⟩ := he4'.one
  have HG4 := Lib.hid hg4'
  have HM4 := Lib.hid (HM3.out.trans hm4)
  have e0' := hm4.cell e0 (by simpa using hne3)
  clear he4 he4' hg4 hg4' hm4 e0 e1 f1
  go_wp2_with fail
  refine (phase_any gt g c (st1 49) 0 _ (by simp [st1]) HG4.out).mono ?_
  rintro e w' ⟨rfl, rfl⟩
  rw [show phaseP (st1 49) 0 = 49 from rfl]
  go_wp2
  go_ret
  exact ⟨rfl, HB2.out.trans (HM4.out.below (by simp; omega) (by omega))⟩

end Go.Proofs.Ytlhmcpkfmnmhfaa
