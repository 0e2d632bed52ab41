/- What a slice of ints, and a slice of slices, that came in as an argument holds. -/
import Derived.Test.YtnfbhhgdibkbdaaS
import Derived.Deep.Matrix
import Derived.ProofKit
namespace Go.Proofs.Ytnfbhhgdibkbdaa
set_option linter.unusedSimpArgs false
set_option linter.unusedVariables false
open Go.ChangeShapes Go.WideShapes Go.ChangeAt Go.RowKit Go.Deep

theorem Try.laidOut0 : laidOutB Try.prog = true := by kernel_rfl
theorem Try.cellsN3 : Try.prog.cellsOf 3 = 1 := by kernel_rfl
theorem Try.cellsN35 : Try.prog.cellsOf 35 = 1 := by kernel_rfl

theorem wf_bounds {x : Int} (h : (Lit.int .i64 x).wf = true) : wfI x := by
  have h1 : IntKind.i64.min = -9223372036854775808 := rfl
  have h2 : IntKind.i64.max = 9223372036854775807 := rfl
  simp only [Lit.wf, Bool.and_eq_true, decide_eq_true_eq] at h
  unfold wfI
  omega

theorem cell_lt {w : World} {p : Addr} {v : Value} (h : w.cell? p = some v) : p.block < w.heap.size := by
  rcases Nat.lt_or_ge p.block w.heap.size with hlt | hge
  · exact hlt
  · simp [World.cell?, Array.getElem?_eq_none hge] at h
theorem ints_arg {H : Type} {enc : TypeId × Value → H} {W : World} {a0 : Option Addr} {len cap : Nat} {d : DataW H} {p : List MemPlace} (h : DataW.Trod enc Try.prog W 0 (fun _ => true) true 35 (.slice a0 len cap) d p) :
    ∃ xs : List Int, xs.length = len ∧ len ≤ 9223372036854775807 ∧ IntsAt W W.heap.size a0 xs ∧ ∀ x, x ∈ xs → wfI x := by
  obtain ⟨fuel, hf⟩ := h
  rcases open_ints Try.underlying35 Try.underlying3 Try.cellsN3 hf with ⟨hcs, _⟩ | ⟨a, len', cap', zs, hcs, _, hl, hm, hz, _, hcell, hwz⟩
  · simp [Value.cells] at hcs
    obtain ⟨rfl, rfl, rfl⟩ := hcs
    exact ⟨[], rfl, by omega, fun hl => absurd hl (by simp), by simp⟩
  · simp [Value.cells] at hcs
    obtain ⟨rfl, rfl, rfl⟩ := hcs
    simp only [if_true] at hz
    unfold maxLen at hm
    refine ⟨zs.take len, by rw [List.length_take]; omega, by omega, ?_, fun x hx => wf_bounds (hwz x (List.mem_of_mem_take hx))⟩
    intro hl0
    rw [List.length_take] at hl0
    refine ⟨a, rfl, ?_, fun j x hj => ?_⟩
    · have := cell_lt (hcell 0 (by omega))
      rw [block_add] at this
      exact this
    · obtain ⟨hjl, e⟩ := List.getElem?_eq_some_iff.1 hj
      rw [List.length_take] at hjl
      rw [List.getElem_take] at e
      rw [hcell j (by omega), List.getD_eq_getElem?_getD, List.getElem?_eq_getElem (by omega), e]
      rfl


end Go.Proofs.Ytnfbhhgdibkbdaa
