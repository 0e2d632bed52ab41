/- What a slice of ints, and a slice of slices, that came in as an argument holds. -/
import Derived.Test.YtlkgnafbipgpbaaL1
import Derived.Deep.Matrix
import Derived.ProofKit
namespace Go.Proofs.Ytlkgnafbipgpbaa
open Go.ChangeShapes Go.WideShapes Go.ChangeAt Go.RowKit Go.Deep

theorem Try.laidOut0 : laidOutB Try.prog = true := by kernel_rfl
theorem Try.cellsN3 : Try.prog.cellsOf 3 = 1 := by kernel_rfl
theorem Try.cellsN25 : Try.prog.cellsOf 25 = 1 := by kernel_rfl

theorem wf_bounds {x : Int} (h : (Lit.int .i64 x).wf = true) : wfI x := by
  have h1 : IntKind.i64.min = -9223372036854775808 := rfl
  have h2 : IntKind.i64.max = 9223372036854775807 := rfl
  simp only [Lit.wf, Bool.and_eq_true, decide_eq_true_eq] at h
  unfold wfI
  omega

theorem ints_arg {H : Type} {enc : TypeId × Value → H} {W : World} {a0 : Option Addr} {len cap : Nat} {d : DataW H} {p : List MemPlace} (h : DataW.Trod enc Try.prog W 0 (fun _ => true) true 25 (.slice a0 len cap) d p) :
    ∃ xs : List Int, xs.length = len ∧ len ≤ 9223372036854775807 ∧ IntsAt W W.heap.size a0 xs ∧ ∀ x, x ∈ xs → wfI x := by
  obtain ⟨fuel, hf⟩ := h
  rcases open_ints Try.underlying25 Try.underlying3 Try.cellsN3 hf with ⟨hcs, _⟩ | ⟨a, len', cap', zs, hcs, _, hl, hm, hz, _, hcell, hwz⟩
  · simp [Value.cells] at hcs
    obtain ⟨rfl, rfl, rfl⟩ := hcs
    exact ⟨[], rfl, by omega, fun hl => absurd hl (by simp), by simp⟩
  · simp [Value.cells] at hcs
    obtain ⟨rfl, rfl, rfl⟩ := hcs
    simp only [if_true] at hz
    unfold maxLen at hm
    refine ⟨zs.take len, by rw [List.length_take]; omega, by omega, ?_, fun x hx => wf_bounds (hwz x (List.mem_of_mem_take hx))⟩
    intro hl0
    rw [List.length_take] at hl0
    refine ⟨a, rfl, ?_, fun j x hj => ?_⟩
    · have := cell_lt (hcell 0 (by omega))
      rw [block_add] at this
      exact this
    · obtain ⟨hjl, e⟩ := List.getElem?_eq_some_iff.1 hj
      rw [List.length_take] at hjl
      rw [List.getElem_take] at e
      rw [hcell j (by omega), List.getD_eq_getElem?_getD, List.getElem?_eq_getElem (by omega), e]
      rfl

theorem rows_arg {H : Type} {enc : TypeId × Value → H} {W : World} {a0 : Option Addr} {len cap : Nat} {d : DataW H} {p : List MemPlace} (h : DataW.Trod enc Try.prog W 0 (fun _ => true) true 22 (.slice a0 len cap) d p) :
    ∃ g : Nat → List Int, len ≤ 9223372036854775807 ∧ RowsAt W W.heap.size a0 len g ∧ (∀ i, i < len → (g i).length ≤ 9223372036854775807) ∧ ∀ i, i < len → ∀ x, x ∈ g i → wfI x := by
  obtain ⟨fuel, hf⟩ := h
  rcases open_int_rows Try.underlying22 Try.underlying25 Try.underlying3 Try.cellsN25 Try.cellsN3 hf with ⟨hcs, _⟩ | ⟨a, len', cap', A, L, C, Z, hcs, _, hl, hm, _, hrows⟩
  · simp [Value.cells] at hcs
    obtain ⟨rfl, rfl, rfl⟩ := hcs
    exact ⟨fun _ => [], by omega, fun hl => absurd hl (by simp), fun i hi => absurd hi (by omega), fun i hi => absurd hi (by omega)⟩
  · simp [Value.cells] at hcs
    obtain ⟨rfl, rfl, rfl⟩ := hcs
    unfold maxLen at hm
    have hlen : ∀ i, i < len → ((Z i).take (L i)).length = L i := fun i hi => by
      obtain ⟨_, h1, h2, h3, _⟩ := hrows i (by omega)
      rw [List.length_take]; omega
    refine ⟨fun i => (Z i).take (L i), by omega, fun h0 => ⟨a, rfl, ?_, fun i hi => ?_⟩, fun i hi => ?_, fun i hi x hx => ?_⟩
    · have := cell_lt (hrows 0 (by omega)).1
      rw [block_add] at this
      exact this
    · obtain ⟨hc, h1, h2, h3, _, h5, h6⟩ := hrows i (by omega)
      refine ⟨A i, C i, ?_, ?_, fun hl0 => ?_⟩
      · show W.cell? (a.add i) = some (.slice (A i) ((Z i).take (L i)).length (C i))
        rw [hlen i hi]; exact hc
      · show ((Z i).take (L i)).length ≤ C i
        rw [hlen i hi]; exact h1
      · have hl0' : 0 < ((Z i).take (L i)).length := hl0
        rw [hlen i hi] at hl0'
        cases hA : A i with
        | none => have := h5 hA; omega
        | some a' =>
          obtain ⟨_, hcell⟩ := h6 a' hA
          refine ⟨a', rfl, ?_, fun j x hj => ?_⟩
          · have := cell_lt (hcell 0 (by omega))
            rw [block_add] at this
            exact this
          · obtain ⟨hjl, e⟩ := List.getElem?_eq_some_iff.1 hj
            have hjl' : j < ((Z i).take (L i)).length := hjl
            rw [hlen i hi] at hjl'
            rw [List.getElem_take] at e
            rw [hcell j (by omega), List.getD_eq_getElem?_getD, List.getElem?_eq_getElem (by omega), e]
            rfl
    · show ((Z i).take (L i)).length ≤ _
      rw [hlen i hi]
      obtain ⟨_, h1, h2, _⟩ := hrows i (by omega)
      unfold maxLen at h2
      omega
    · obtain ⟨_, _, _, _, h4, _⟩ := hrows i (by omega)
      exact wf_bounds (h4 x (List.mem_of_mem_take hx))

end Go.Proofs.Ytlkgnafbipgpbaa
