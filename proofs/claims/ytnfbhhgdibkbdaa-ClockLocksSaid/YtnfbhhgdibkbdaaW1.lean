/- The contracts of what only reads: Has, same, isNode, closed, light, pick. -/
import Derived.Test.YtnfbhhgdibkbdaaP
namespace Go.Proofs.Ytnfbhhgdibkbdaa
set_option linter.unusedSimpArgs false
set_option linter.unusedVariables false
open Go.RowKit

def memB (x : Int) (xs : List Int) : Bool := decide (x ∈ xs)
theorem memB_yes {x : Int} {xs : List Int} (h : x ∈ xs) : memB x xs = true := by unfold memB; simpa using h
theorem memB_no {x : Int} {xs : List Int} (h : x ∉ xs) : memB x xs = false := by unfold memB; simpa using h
theorem memB_iff {x : Int} {xs : List Int} : memB x xs = true ↔ x ∈ xs := by unfold memB; simp

def inB (n : Nat) (x : Int) : Bool := decide (0 ≤ x ∧ x < n)
theorem inB_yes {n : Nat} {x : Int} (h : 0 ≤ x) (h' : x < n) : inB n x = true := by unfold inB; simp [h, h']
theorem inB_no {n : Nat} {x : Int} (h : x < 0 ∨ (n : Int) ≤ x) : inB n x = false := by unfold inB; simp; omega
set_option maxHeartbeats 1000000 in
theorem isNode_any (A : Option Addr) (n c : Nat) (x : Int) (w : World) (hn : n ≤ 1000000) :
    Calls Try.prog 105 #[.slice A n c, .int .i64 x] w fun e w' => e = .returned (.bool (inB n x)) ∧ w = w' := by
  by_cases h0 : 0 ≤ x
  · have h0' : decide (0 ≤ x) = true := by simpa using h0
    by_cases h1 : x < n
    · have h1' : decide (x < (n : Int)) = true := by simpa using h1
      have hm := inB_yes h0 h1
      go_enter Try.func105, Try.ntmps105
      go_wp2
      go_ret
      exact ⟨by first | rfl | exact ret_bool hm.symm, rfl⟩
    · have h1' : decide (x < (n : Int)) = false := by simpa using h1
      have hm := inB_no (n := n) (x := x) (.inr (by omega))
      go_enter Try.func105, Try.ntmps105
      go_wp2
      go_ret
      exact ⟨by first | rfl | exact ret_bool hm.symm, rfl⟩
  · have h0' : decide (0 ≤ x) = false := by simpa using h0
    have hm := inB_no (n := n) (x := x) (.inl (by omega))
    go_enter Try.func105, Try.ntmps105
    go_wp2
    go_ret
    exact ⟨by first | rfl | exact ret_bool hm.symm, rfl⟩

def closedB (n : Nat) (g : Nat → List Int) : Bool := decide (∀ i, i < n → ∀ x, x ∈ g i → 0 ≤ x ∧ x < n)
theorem closedB_yes {n : Nat} {g : Nat → List Int} (h : ∀ i, i < n → ∀ x, x ∈ g i → 0 ≤ x ∧ x < n) : closedB n g = true := by unfold closedB; simpa using h
theorem closedB_no {n i : Nat} {g : Nat → List Int} {x : Int} (hi : i < n) (hx : x ∈ g i) (h : ¬ (0 ≤ x ∧ x < n)) : closedB n g = false := by
  unfold closedB; rw [decide_eq_false_iff_not]; exact fun hh => h (hh i hi x hx)
theorem closedB_iff {n : Nat} {g : Nat → List Int} : closedB n g = true ↔ ∀ i, i < n → ∀ x, x ∈ g i → 0 ≤ x ∧ x < n := by unfold closedB; simp

set_option maxHeartbeats 1000000 in
theorem closed_any (A : Option Addr) (n c : Nat) (g : Nat → List Int) (B : Nat) (w : World) (hn : n ≤ 1000000) (hl : ∀ i, i < n → (g i).length ≤ 1000000) (h : RowsAt w B A n g) :
    Calls Try.prog 103 #[.slice A n c] w fun e w' => e = .returned (.bool (closedB n g)) ∧ w = w' := by
  have HLEN := Lib.hid hl
  clear hl
  go_enter Try.func103, Try.ntmps103
  go_wp2
  go_loop [9] (fun i => ∃ k : Nat, k ≤ n ∧ i = .int .i64 k ∧ ∀ i, i < k → ∀ x, x ∈ g i → 0 ≤ x ∧ x < n) (fun i => n - (intOf i).toNat)
  case atStart => exact ⟨0, Nat.zero_le _, rfl, fun j hj => absurd hj (by omega)⟩
  case round =>
    obtain ⟨k, hk, rfl, hok⟩ := hrel
    have HOK := Lib.hid hok
    clear hok
    by_cases hlt : k < n
    · obtain ⟨ad, Ak, ck, hA, _, hc, _, hr⟩ := h.at_ hlt
      have hlen := HLEN.out k hlt
      subst hA
      go_wp2
      go_loop [15] (fun i => ∃ j : Nat, j ≤ (g k).length ∧ i = .int .i64 j ∧ ∀ q x, q < j → (g k)[q]? = some x → 0 ≤ x ∧ x < n) (fun i => (g k).length - (intOf i).toNat)
      case atStart => exact ⟨0, Nat.zero_le _, rfl, fun j _ hj => absurd hj (by omega)⟩
      case round =>
        obtain ⟨j, hj, rfl, hin⟩ := hrel
        have HIN := Lib.hid hin
        clear hin
        by_cases hlj : j < (g k).length
        · obtain ⟨ad', hA', _, hc'⟩ := hr.at_ hlj
          obtain ⟨x, hx⟩ : ∃ x, x = (g k)[j] := ⟨_, rfl⟩
          rw [← hx] at hc'
          have HX := Lib.hid hx
          clear hx
          subst hA'
          by_cases hb : 0 ≤ x ∧ x < n
          · have hm := inB_yes hb.1 hb.2
            go_wp2_with (go_at_call 105; refine (isNode_any _ _ _ _ _ (by omega)).mono ?_; rintro e w' ⟨rfl, rfl⟩)
            go_round
            case rel => exact ⟨j + 1, by omega, by go_num, fun q y hq hy => by
              by_cases e : q = j
              · subst e; rw [List.getElem?_eq_getElem hlj, ← HX.out] at hy; injection hy with hy; subst hy; exact hb
              · exact HIN.out q y (by omega) hy⟩
            case measure => simp [intOf]; omega
          · have hm := inB_no (n := n) (x := x) (by omega)
            have hf : closedB n g = false := closedB_no hlt (by rw [HX.out]; exact List.getElem_mem _) hb
            go_wp2_with (go_at_call 105; refine (isNode_any _ _ _ _ _ (by omega)).mono ?_; rintro e w' ⟨rfl, rfl⟩)
            go_ret
            exact ⟨by first | rfl | exact ret_bool hf.symm, rfl⟩
        · go_wp2
          go_round
          case rel => exact ⟨k + 1, by omega, by go_num, fun i hi x hx => by
            by_cases e : i = k
            · subst e
              obtain ⟨q, hq, e⟩ := List.mem_iff_getElem.1 hx
              exact HIN.out q x (by omega) (by rw [List.getElem?_eq_getElem hq, e])
            · exact HOK.out i (by omega) x hx⟩
          case measure => simp [intOf]; omega
    · have hf : closedB n g = true := closedB_yes fun i hi => HOK.out i (by omega)
      go_wp2
      go_ret
      exact ⟨by first | rfl | exact ret_bool hf.symm, rfl⟩

end Go.Proofs.Ytnfbhhgdibkbdaa
