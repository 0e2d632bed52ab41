/- The contract of catnaplaw4.shown: the chapter's example. -/
import Derived.Test.YtkhfcbcanbplgaaW13
import Derived.Test.YtkhfcbcanbplgaaW16
namespace Go.Proofs.Ytkhfcbcanbplgaa
set_option linter.unusedSimpArgs false
set_option linter.unusedVariables false
open Go.RowKit Go.Maps

def gate0 : Chip := ⟨[⟨103, [0], 0, 0, 0, 0⟩], [], [], []⟩
def chip0 : Chip := ⟨[], [], [], []⟩
theorem gate0_graph : graphE (clksG gate0) = 5 := by
  refine graphE_eq (o := []) (.inr (.inr (.inl ⟨by decide, closedB_yes fun i hi x hx => ?_, rfl, rfl, [], ⟨.nil, fun u hu => ?_⟩, by decide⟩)))
  · have : i = 0 := by simp [clksG, gate0] at hi; exact hi
    subst this
    simp [clksG, gate0, gOf] at hx
    subst hx
    decide
  · have : u = 0 := by simp [clksG, gate0] at hu; exact hu
    subst this
    rintro ⟨_, h⟩
    have := h 0 (by simp [clksG, gate0, gOf])
    simp [ci] at this
theorem gate0_err : chipE gate0 = 5 := by
  unfold chipE
  rw [gate0_graph]
  rfl
theorem gate0_ok : ChipOk gate0 := ⟨by decide, by decide, by decide, by decide, fun c hc => by
  simp [gate0] at hc
  subst hc
  exact ⟨by decide, fun x hx => by simp at hx; subst hx; unfold wfI; omega⟩, fun d hd => by simp [gate0] at hd, fun d hd => by simp [gate0] at hd⟩
theorem chip0_ok : ChipOk chip0 := ⟨by decide, by decide, by decide, by decide, fun c hc => by simp [chip0] at hc, fun d hd => by simp [chip0] at hd, fun d hd => by simp [chip0] at hd⟩
theorem chip0_v (w : World) : ChipV w w.heap.size chip0 [.slice none 0 0, .slice none 0 0, .slice none 0 0, .slice none 0 0] :=
  ⟨none, 0, none, 0, none, 0, none, 0, rfl, Nat.le_refl _, Nat.le_refl _, Nat.le_refl _, Nat.le_refl _, fun h => absurd h (by decide), fun h => absurd h (by decide), fun h => absurd h (by decide), fun h => absurd h (by decide)⟩

set_option maxHeartbeats 1000000 in
theorem shown_any (w : World) : Calls Try.prog 10 #[] w (TellsB true w) := by
  have hb := ((Below.refl w.heap.size w).alloc (Nat.le_refl _) (.cells #[.int .i64 0] 3)).alloc (by simp) (.cells #[.int .u8 103, .slice (some ⟨w.heap.size, 0, none⟩) 1 1, .int .u64 0, .int .i64 0, .int .i64 0, .int .i64 0] 49)
  have hv : ChipV ((w.alloc (.cells #[.int .i64 0] 3)).alloc (.cells #[.int .u8 103, .slice (some ⟨w.heap.size, 0, none⟩) 1 1, .int .u64 0, .int .i64 0, .int .i64 0, .int .i64 0] 49)) (w.heap.size + 1 + 1) gate0 [.slice (some ⟨w.heap.size + 1, 0, none⟩) 1 1, .slice none 0 0, .slice none 0 0, .slice none 0 0] := by
    refine ⟨some ⟨w.heap.size + 1, 0, none⟩, 1, none, 0, none, 0, none, 0, rfl, Nat.le_refl _, Nat.le_refl _, Nat.le_refl _, Nat.le_refl _, fun _ => ⟨_, rfl, by simp, fun k x hk => ?_⟩, fun h => absurd h (by decide), fun h => absurd h (by decide), fun h => absurd h (by decide)⟩
    cases k with
    | zero =>
      simp [gate0] at hk
      subst hk
      refine ⟨_, ⟨some ⟨w.heap.size, 0, none⟩, 1, rfl, Nat.le_refl _, ?_⟩, ?_⟩
      · exact ((ints_new w 0).below ((Below.refl (w.heap.size + 1) _).alloc (by simp) _) (Nat.le_refl _)).more (by omega)
      · have := agg_new (w.alloc (.cells #[.int .i64 0] 3)) [.int .u8 103, .slice (some ⟨w.heap.size, 0, none⟩) 1 1, .int .u64 0, .int .i64 0, .int .i64 0, .int .i64 0] 49
        simp only [World.size_alloc] at this
        simpa [Addr.add] using this
    | succ k => simp [gate0] at hk
  have hcall := chip_check gate0 _ ((w.alloc (.cells #[.int .i64 0] 3)).alloc (.cells #[.int .u8 103, .slice (some ⟨w.heap.size, 0, none⟩) 1 1, .int .u64 0, .int .i64 0, .int .i64 0, .int .i64 0] 49)) gate0_ok (by simpa using hv)
  rw [gate0_err] at hcall
  have HB := Lib.hid hb
  clear hb hv
  go_enter Try.func10, Try.ntmps10
  go_wp2_with fail
  refine hcall.mono ?_
  rintro e w1 ⟨rfl, hb1⟩
  go_wp2_with fail
  have hsame := chip_same chip0 chip0 _ _ w1 chip0_ok chip0_ok (chip0_v w1) (chip0_v w1)
  rw [eqP_self] at hsame
  refine hsame.mono ?_
  rintro e w2 ⟨rfl, hb2⟩
  have hz := HB.out.size
  have hb12 := HB.out.trans (hb1.mono hz)
  go_wp2
  go_ret
  exact ⟨rfl, hb12.trans (hb2.mono hb12.size)⟩

end Go.Proofs.Ytkhfcbcanbplgaa
