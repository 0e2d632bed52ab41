/- The contract of shown: chapter 3's example. -/
import Derived.Test.YtlkgnafbipgpbaaR5
import Derived.Test.YtlkgnafbipgpbaaW10
namespace Go.Proofs.Ytlkgnafbipgpbaa
open Go.RowKit Go.Maps

def gEx : Nat → List Int := fun i => if i = 0 then [2] else if i = 2 then [1] else []

theorem had_ex : Had gEx 3 [1, 2, 0] := by
  have h0 : Greedy gEx 3 [] := .nil
  have h1 : Greedy gEx 3 ([] ++ [1]) := .snoc h0 (by decide) ⟨by simp [ci], by simp [gEx]⟩ (fun u hu h => by
    obtain rfl : u = 0 := by omega
    have := h.2 2 (by simp [gEx])
    simp [ci] at this)
  have h2 : Greedy gEx 3 (([] ++ [1]) ++ [2]) := .snoc h1 (by decide) ⟨by simp [ci], by simp [gEx, ci]⟩ (fun u hu h => by
    rcases (show u = 0 ∨ u = 1 by omega) with rfl | rfl
    · have := h.2 2 (by simp [gEx])
      simp [ci] at this
    · exact h.1 (by simp [ci]))
  have h3 : Greedy gEx 3 ((([] ++ [1]) ++ [2]) ++ [0]) := .snoc h2 (by decide) ⟨by simp [ci], by simp [gEx, ci]⟩ (fun u hu => absurd hu (by omega))
  refine ⟨h3, fun u hu h => h.1 ?_⟩
  rcases (show u = 0 ∨ u = 1 ∨ u = 2 by omega) with rfl | rfl | rfl <;> simp [ci]
theorem ex_says {E : Int} {o : List Nat} (h : OrderSays 3 gEx E o) : E = 0 ∧ o = [1, 2, 0] := by
  have h' : OrderSays 3 gEx 0 [1, 2, 0] := .inr (.inr (.inr ⟨by decide, closedB_yes (fun i hi x hx => by
    rcases (show i = 0 ∨ i = 1 ∨ i = 2 by omega) with rfl | rfl | rfl <;> simp [gEx] at hx <;> omega), rfl, had_ex, rfl⟩))
  exact h.unique h'

theorem ints_newL (w : World) (l : List Int) (cs : Array Value) (h : cs.toList = iv l) : IntsAt (w.alloc (.cells cs 3)) (w.heap.size + 1) (some ⟨w.heap.size, 0, none⟩) l := by
  intro _
  refine ⟨_, rfl, Nat.lt_succ_self _, fun j y hj => ?_⟩
  have hh : (w.alloc (.cells cs 3)).heap[w.heap.size]? = some (.cells cs 3 (0, 0)) := heap_alloc_new w _
  rw [Addr.add_lit, Nat.zero_add, cell_of_row _ _ j _ _ _ hh, ← Array.getElem?_toList, h]
  exact iv_get hj

set_option maxHeartbeats 2000000 in
theorem shown_any (w : World) : Calls Try.prog 10 #[] w fun e w' => e = .returned (.bool true) ∧ Below w.heap.size w w' := by
  go_enter Try.func10, Try.ntmps10
  go_wp2_with fail
  obtain ⟨wA, hwA⟩ : ∃ wA, wA = ((w.alloc (.cells #[.int .i64 2] 3)).alloc (.cells #[] 3)).alloc (.cells #[.int .i64 1] 3) := ⟨_, rfl⟩
  obtain ⟨w0, hw0⟩ : ∃ w0, w0 = wA.alloc (.cells #[.slice (some ⟨w.heap.size, 0, none⟩) 1 1, .slice (some ⟨w.heap.size + 1, 0, none⟩) 0 0, .slice (some ⟨w.heap.size + 1 + 1, 0, none⟩) 1 1] 25) := ⟨_, rfl⟩
  have hb0 : Below w.heap.size w w0 := by
    rw [hw0, hwA]; exact ((((Below.refl _ w).alloc (Nat.le_refl _) _).alloc (by simp) _).alloc (by simp; omega) _).alloc (by simp; omega) _
  have hz0 : w0.heap.size = w.heap.size + 4 := by rw [hw0, hwA]; simp
  have hI0 : IntsAt w0 w0.heap.size (some ⟨w.heap.size, 0, none⟩) [2] := by
    rw [hw0, hwA]
    exact ((((ints_new w 2).below ((Below.refl _ _).alloc (Nat.le_refl _) _) (by simp)).below ((Below.refl _ _).alloc (Nat.le_refl _) _) (by simp)).below ((Below.refl _ _).alloc (Nat.le_refl _) _) (by simp)).more (by simp)
  have hI2 : IntsAt w0 w0.heap.size (some ⟨w.heap.size + 1 + 1, 0, none⟩) [1] := by
    rw [hw0, hwA]
    have := ((ints_new ((w.alloc (.cells #[.int .i64 2] 3)).alloc (.cells #[] 3)) 1).below ((Below.refl _ _).alloc (Nat.le_refl _) (.cells #[.slice (some ⟨w.heap.size, 0, none⟩) 1 1, .slice (some ⟨w.heap.size + 1, 0, none⟩) 0 0, .slice (some ⟨w.heap.size + 1 + 1, 0, none⟩) 1 1] 25)) (by simp)).more (C := w.heap.size + 4) (by simp)
    simpa using this
  have hR : RowsAt w0 w0.heap.size (some ⟨w.heap.size + 1 + 1 + 1, 0, none⟩) 3 gEx := by
    intro _
    have hh : w0.heap[w.heap.size + 1 + 1 + 1]? = some (.cells #[.slice (some ⟨w.heap.size, 0, none⟩) 1 1, .slice (some ⟨w.heap.size + 1, 0, none⟩) 0 0, .slice (some ⟨w.heap.size + 1 + 1, 0, none⟩) 1 1] 25 (0, 0)) := by
      have := heap_alloc_new wA (.cells #[.slice (some ⟨w.heap.size, 0, none⟩) 1 1, .slice (some ⟨w.heap.size + 1, 0, none⟩) 0 0, .slice (some ⟨w.heap.size + 1 + 1, 0, none⟩) 1 1] 25)
      rw [← hw0] at this
      have e : wA.heap.size = w.heap.size + 1 + 1 + 1 := by rw [hwA]; simp
      rw [e] at this
      exact this
    refine ⟨_, rfl, by show w.heap.size + 1 + 1 + 1 < _; omega, fun i hi => ?_⟩
    rw [Addr.add_lit, Nat.zero_add]
    rcases (show i = 0 ∨ i = 1 ∨ i = 2 by omega) with rfl | rfl | rfl
    · exact ⟨_, _, cell_of_row _ _ 0 _ _ _ hh, Nat.le_refl _, hI0⟩
    · exact ⟨_, _, cell_of_row _ _ 1 _ _ _ hh, Nat.le_refl _, fun hl => absurd hl (by simp [gEx])⟩
    · exact ⟨_, _, cell_of_row _ _ 2 _ _ _ hh, Nat.le_refl _, hI2⟩
  have HR := Lib.hid hR
  have HW0 := Lib.hid hw0
  have HWA := Lib.hid hwA
  clear hR hI0 hI2 hw0 hwA
  have hc := order_any (some ⟨w.heap.size + 1 + 1 + 1, 0, none⟩) 3 3 gEx w0 (by omega) (fun i hi => by
    rcases (show i = 0 ∨ i = 1 ∨ i = 2 by omega) with rfl | rfl | rfl <;> simp [gEx]) (fun i hi x hx => by
    rcases (show i = 0 ∨ i = 1 ∨ i = 2 by omega) with rfl | rfl | rfl <;> simp [gEx] at hx <;> unfold wfI <;> omega) HR.out
  rw [HW0.out, HWA.out] at hc
  refine hc.mono ?_
  rw [← HWA.out, ← HW0.out]
  rintro e w1 ⟨E, v, o, hs, rfl, hown, hb1⟩
  obtain ⟨rfl, rfl⟩ := ex_says hs
  have HOwn := Lib.hid hown
  obtain ⟨A1, c1, rfl⟩ := own_shape hown
  clear hs hown hc
  have hI := Lib.hid (IntsAt.of_own HOwn.out)
  go_wp2_with fail
  refine (same_any A1 (some ⟨w1.heap.size, 0, none⟩) c1 3 (ci [1, 2, 0]) [1, 2, 0] (w1.heap.size + 1) _ (by simp [ci]) (by simp) ((hI.out.below ((Below.refl _ _).alloc (Nat.le_refl _) _) (Nat.le_refl _)).more (Nat.le_succ _)) (ints_newL w1 [1, 2, 0] _ rfl)).mono ?_
  rintro e w2 ⟨rfl, k, rfl⟩
  have hq : eqB (ci [1, 2, 0]) [1, 2, 0] = true := by
    have : ci [1, 2, 0] = [1, 2, 0] := by simp [ci]
    rw [this]; exact eqB_self
  have hbz := hb0.size
  go_wp2_with fail
  go_ret
  exact ⟨by first | rfl | exact ret_bool hq, below_drewN ((hb0.trans (hb1.mono (by omega))).alloc (by have := hb1.size; omega) _) k⟩

end Go.Proofs.Ytlkgnafbipgpbaa
