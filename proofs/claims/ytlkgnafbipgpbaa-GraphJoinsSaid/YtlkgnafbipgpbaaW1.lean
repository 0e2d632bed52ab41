/- The contracts of what only reads: Has, same, isNode, closed, light, pick. -/
import Derived.Test.YtlkgnafbipgpbaaP
namespace Go.Proofs.Ytlkgnafbipgpbaa
open Go.RowKit

def memB (x : Int) (xs : List Int) : Bool := decide (x ∈ xs)
theorem memB_yes {x : Int} {xs : List Int} (h : x ∈ xs) : memB x xs = true := by unfold memB; simpa using h
theorem memB_no {x : Int} {xs : List Int} (h : x ∉ xs) : memB x xs = false := by unfold memB; simpa using h
theorem memB_iff {x : Int} {xs : List Int} : memB x xs = true ↔ x ∈ xs := by unfold memB; simp

set_option maxHeartbeats 1000000 in
theorem has_any (A : Option Addr) (c : Nat) (xs : List Int) (x : Int) (B : Nat) (w : World) (hl : xs.length ≤ 1000000) (h : IntsAt w B A xs) :
    Calls Try.prog 23 #[.slice A xs.length c, .int .i64 x] w fun e w' => e = .returned (.bool (memB x xs)) ∧ w = w' := by
  go_enter Try.func23, Try.ntmps23
  go_wp2
  go_loop [5] (fun i => ∃ k : Nat, k ≤ xs.length ∧ i = .int .i64 k ∧ ∀ j y, j < k → xs[j]? = some y → y ≠ x) (fun i => xs.length - (intOf i).toNat)
  case atStart => exact ⟨0, Nat.zero_le _, rfl, fun j y hj => absurd hj (by omega)⟩
  case round =>
    obtain ⟨k, hk, rfl, hno⟩ := hrel
    have HN := Lib.hid hno
    clear hno
    by_cases hlt : k < xs.length
    · obtain ⟨ad, hA, _, hc⟩ := h.at_ hlt
      obtain ⟨y, hy⟩ : ∃ y, y = xs[k] := ⟨_, rfl⟩
      rw [← hy] at hc
      have HY := Lib.hid hy
      clear hy
      subst hA
      by_cases hx : y = x
      · subst hx
        have hm : memB y xs = true := memB_yes (by rw [HY.out]; exact List.getElem_mem _)
        go_wp2
        go_ret
        exact ⟨rfl, rfl⟩
      · have hx' : (y == x) = false := by simpa using hx
        go_wp2
        go_round
        case rel => exact ⟨k + 1, by omega, by go_num, fun j z hj hz => by
          by_cases e : j = k
          · subst e; rw [List.getElem?_eq_getElem hlt, ← HY.out] at hz; injection hz with hz; subst hz; exact hx
          · exact HN.out j z (by omega) hz⟩
        case measure => simp [intOf]; omega
    · have hm : memB x xs = false := memB_no (by
        intro hx
        obtain ⟨j, hj, e⟩ := List.mem_iff_getElem.1 hx
        exact HN.out j x (by omega) (by rw [List.getElem?_eq_getElem hj, e]) rfl)
      go_wp2
      go_ret
      exact ⟨rfl, rfl⟩


def eqB (xs ys : List Int) : Bool := decide (xs = ys)
theorem eqB_no {xs ys : List Int} (h : xs ≠ ys) : eqB xs ys = false := by unfold eqB; simpa using h
theorem eqB_self {xs : List Int} : eqB xs xs = true := by unfold eqB; simp

set_option maxHeartbeats 1000000 in
theorem same_any (A A' : Option Addr) (c c' : Nat) (xs ys : List Int) (B : Nat) (w : World) (hl : xs.length ≤ 1000000) (hl' : ys.length ≤ 1000000) (h : IntsAt w B A xs) (h' : IntsAt w B A' ys) :
    Calls Try.prog 20 #[.slice A xs.length c, .slice A' ys.length c'] w fun e w' => e = .returned (.bool (eqB xs ys)) ∧ ∃ n, w' = w.drewN n := by
  by_cases hne : xs.length = ys.length
  · have HL := Lib.hid hne
    have g1 : xs.length ≤ ys.length := by omega
    have g2 : ys.length ≤ xs.length := by omega
    have hn : ((xs.length : Int) != (ys.length : Int)) = false := by simp [hne]
    clear hne
    go_enter Try.func20, Try.ntmps20
    go_wp2
    go_loopw [5] (fun i wr => ∃ k m : Nat, k ≤ xs.length ∧ i = .int .i64 k ∧ wr = w.drewN m ∧ ∀ j, j < k → xs[j]? = ys[j]?) (fun i _ => xs.length - (intOf i).toNat)
    case atStart => exact ⟨0, 0, Nat.zero_le _, rfl, rfl, fun j hj => absurd hj (by omega)⟩
    case round =>
      obtain ⟨k, m, hk, rfl, rfl, hs⟩ := hrel
      have HS := Lib.hid hs
      clear hs
      by_cases hlt : k < xs.length
      · have hlt' : k < ys.length := by omega
        obtain ⟨ad, hA, _, hc⟩ := h.at_ hlt
        obtain ⟨ad', hA', _, hc'⟩ := h'.at_ hlt'
        obtain ⟨x, hx⟩ : ∃ x, x = xs[k] := ⟨_, rfl⟩
        obtain ⟨y, hy⟩ : ∃ y, y = ys[k] := ⟨_, rfl⟩
        rw [← hx] at hc
        rw [← hy] at hc'
        have HX := Lib.hid hx
        have HY := Lib.hid hy
        clear hx hy
        subst hA hA'
        by_cases he : x = y
        · subst he
          have hq : (x != x) = false := by simp
          go_wp2
          go_quiet (fail)
          go_wp2
          go_roundw
          case rel => exact ⟨k + 1, _, by omega, by go_num, rfl, fun j hj => by
            by_cases e : j = k
            · subst e; rw [List.getElem?_eq_getElem hlt, List.getElem?_eq_getElem hlt', ← HX.out, ← HY.out]
            · exact HS.out j (by omega)⟩
          case measure => simp [intOf]; omega
        · have hq : (x != y) = true := by simpa using he
          have hm : eqB xs ys = false := eqB_no (by
            intro e
            apply he
            rw [HX.out, HY.out]
            simp [e])
          go_wp2
          go_quiet (fail)
          go_wp2
          go_ret
          exact ⟨ret_bool hm.symm, _, World.drewN_drewN _ _ _⟩
      · have hm : eqB xs ys = true := by
          have e : xs = ys := List.ext_getElem? fun j => by
            by_cases hj : j < k
            · exact HS.out j hj
            · rw [List.getElem?_eq_none (by omega), List.getElem?_eq_none (by omega)]
          subst e; exact eqB_self
        go_wp2
        go_ret
        exact ⟨ret_bool hm.symm, _, rfl⟩
  · have hn : ((xs.length : Int) != (ys.length : Int)) = true := by simp; omega
    have hm : eqB xs ys = false := eqB_no (by rintro rfl; exact hne rfl)
    clear hne
    go_enter Try.func20, Try.ntmps20
    go_wp2
    go_ret
    exact ⟨ret_bool hm.symm, 0, rfl⟩

def inB (n : Nat) (x : Int) : Bool := decide (0 ≤ x ∧ x < n)
theorem inB_yes {n : Nat} {x : Int} (h : 0 ≤ x) (h' : x < n) : inB n x = true := by unfold inB; simp [h, h']
theorem inB_no {n : Nat} {x : Int} (h : x < 0 ∨ (n : Int) ≤ x) : inB n x = false := by unfold inB; simp; omega
set_option maxHeartbeats 1000000 in
theorem isNode_any (A : Option Addr) (n c : Nat) (x : Int) (w : World) (hn : n ≤ 1000000) :
    Calls Try.prog 35 #[.slice A n c, .int .i64 x] w fun e w' => e = .returned (.bool (inB n x)) ∧ w = w' := by
  by_cases h0 : 0 ≤ x
  · have h0' : decide (0 ≤ x) = true := by simpa using h0
    by_cases h1 : x < n
    · have h1' : decide (x < (n : Int)) = true := by simpa using h1
      have hm := inB_yes h0 h1
      go_enter Try.func35, Try.ntmps35
      go_wp2
      go_ret
      exact ⟨by first | rfl | exact ret_bool hm.symm, rfl⟩
    · have h1' : decide (x < (n : Int)) = false := by simpa using h1
      have hm := inB_no (n := n) (x := x) (.inr (by omega))
      go_enter Try.func35, Try.ntmps35
      go_wp2
      go_ret
      exact ⟨by first | rfl | exact ret_bool hm.symm, rfl⟩
  · have h0' : decide (0 ≤ x) = false := by simpa using h0
    have hm := inB_no (n := n) (x := x) (.inl (by omega))
    go_enter Try.func35, Try.ntmps35
    go_wp2
    go_ret
    exact ⟨by first | rfl | exact ret_bool hm.symm, rfl⟩

def closedB (n : Nat) (g : Nat → List Int) : Bool := decide (∀ i, i < n → ∀ x, x ∈ g i → 0 ≤ x ∧ x < n)
theorem closedB_yes {n : Nat} {g : Nat → List Int} (h : ∀ i, i < n → ∀ x, x ∈ g i → 0 ≤ x ∧ x < n) : closedB n g = true := by unfold closedB; simpa using h
theorem closedB_no {n i : Nat} {g : Nat → List Int} {x : Int} (hi : i < n) (hx : x ∈ g i) (h : ¬ (0 ≤ x ∧ x < n)) : closedB n g = false := by
  unfold closedB; rw [decide_eq_false_iff_not]; exact fun hh => h (hh i hi x hx)
theorem closedB_iff {n : Nat} {g : Nat → List Int} : closedB n g = true ↔ ∀ i, i < n → ∀ x, x ∈ g i → 0 ≤ x ∧ x < n := by unfold closedB; simp

set_option maxHeartbeats 1000000 in
theorem closed_any (A : Option Addr) (n c : Nat) (g : Nat → List Int) (B : Nat) (w : World) (hn : n ≤ 1000000) (hl : ∀ i, i < n → (g i).length ≤ 1000000) (h : RowsAt w B A n g) :
    Calls Try.prog 24 #[.slice A n c] w fun e w' => e = .returned (.bool (closedB n g)) ∧ w = w' := by
  have HLEN := Lib.hid hl
  clear hl
  go_enter Try.func24, Try.ntmps24
  go_wp2
  go_loop [9] (fun i => ∃ k : Nat, k ≤ n ∧ i = .int .i64 k ∧ ∀ i, i < k → ∀ x, x ∈ g i → 0 ≤ x ∧ x < n) (fun i => n - (intOf i).toNat)
  case atStart => exact ⟨0, Nat.zero_le _, rfl, fun j hj => absurd hj (by omega)⟩
  case round =>
    obtain ⟨k, hk, rfl, hok⟩ := hrel
    have HOK := Lib.hid hok
    clear hok
    by_cases hlt : k < n
    · obtain ⟨ad, Ak, ck, hA, _, hc, _, hr⟩ := h.at_ hlt
      have hlen := HLEN.out k hlt
      subst hA
      go_wp2
      go_loop [15] (fun i => ∃ j : Nat, j ≤ (g k).length ∧ i = .int .i64 j ∧ ∀ q x, q < j → (g k)[q]? = some x → 0 ≤ x ∧ x < n) (fun i => (g k).length - (intOf i).toNat)
      case atStart => exact ⟨0, Nat.zero_le _, rfl, fun j _ hj => absurd hj (by omega)⟩
      case round =>
        obtain ⟨j, hj, rfl, hin⟩ := hrel
        have HIN := Lib.hid hin
        clear hin
        by_cases hlj : j < (g k).length
        · obtain ⟨ad', hA', _, hc'⟩ := hr.at_ hlj
          obtain ⟨x, hx⟩ : ∃ x, x = (g k)[j] := ⟨_, rfl⟩
          rw [← hx] at hc'
          have HX := Lib.hid hx
          clear hx
          subst hA'
          by_cases hb : 0 ≤ x ∧ x < n
          · have hm := inB_yes hb.1 hb.2
            go_wp2_with (go_at_call 35; refine (isNode_any _ _ _ _ _ (by omega)).mono ?_; rintro e w' ⟨rfl, rfl⟩)
            go_round
            case rel => exact ⟨j + 1, by omega, by go_num, fun q y hq hy => by
              by_cases e : q = j
              · subst e; rw [List.getElem?_eq_getElem hlj, ← HX.out] at hy; injection hy with hy; subst hy; exact hb
              · exact HIN.out q y (by omega) hy⟩
            case measure => simp [intOf]; omega
          · have hm := inB_no (n := n) (x := x) (by omega)
            have hf : closedB n g = false := closedB_no hlt (by rw [HX.out]; exact List.getElem_mem _) hb
            go_wp2_with (go_at_call 35; refine (isNode_any _ _ _ _ _ (by omega)).mono ?_; rintro e w' ⟨rfl, rfl⟩)
            go_ret
            exact ⟨by first | rfl | exact ret_bool hf.symm, rfl⟩
        · go_wp2
          go_round
          case rel => exact ⟨k + 1, by omega, by go_num, fun i hi x hx => by
            by_cases e : i = k
            · subst e
              obtain ⟨q, hq, e⟩ := List.mem_iff_getElem.1 hx
              exact HIN.out q x (by omega) (by rw [List.getElem?_eq_getElem hq, e])
            · exact HOK.out i (by omega) x hx⟩
          case measure => simp [intOf]; omega
    · have hf : closedB n g = true := closedB_yes fun i hi => HOK.out i (by omega)
      go_wp2
      go_ret
      exact ⟨by first | rfl | exact ret_bool hf.symm, rfl⟩

def lightB (n : Nat) (g : Nat → List Int) : Bool := decide (n ≤ 120 ∧ ∀ i, i < n → (g i).length ≤ 20)
theorem lightB_iff {n : Nat} {g : Nat → List Int} : lightB n g = true ↔ n ≤ 120 ∧ ∀ i, i < n → (g i).length ≤ 20 := by unfold lightB; simp
theorem lightB_no {n : Nat} {g : Nat → List Int} (h : ¬ (n ≤ 120 ∧ ∀ i, i < n → (g i).length ≤ 20)) : lightB n g = false := by unfold lightB; simpa using h

set_option maxHeartbeats 1000000 in
theorem light_any (A : Option Addr) (n c : Nat) (g : Nat → List Int) (B : Nat) (w : World) (hn : n ≤ 9223372036854775807) (hl : ∀ i, i < n → (g i).length ≤ 9223372036854775807) (h : RowsAt w B A n g) :
    Calls Try.prog 11 #[.slice A n c] w fun e w' => e = .returned (.bool (lightB n g)) ∧ w = w' := by
  have HLEN := Lib.hid hl
  clear hl
  by_cases h120 : n ≤ 120
  · go_enter Try.func11, Try.ntmps11
    go_wp2
    go_loop [3] (fun i => ∃ k : Nat, k ≤ n ∧ i = .int .i64 k ∧ ∀ i, i < k → (g i).length ≤ 20) (fun i => n - (intOf i).toNat)
    case atStart => exact ⟨0, Nat.zero_le _, rfl, fun j hj => absurd hj (by omega)⟩
    case round =>
      obtain ⟨k, hk, rfl, hok⟩ := hrel
      have HOK := Lib.hid hok
      clear hok
      by_cases hlt : k < n
      · obtain ⟨ad, Ak, ck, hA, _, hc, _, hr⟩ := h.at_ hlt
        have hlen := HLEN.out k hlt
        subst hA
        by_cases h20 : (g k).length ≤ 20
        · go_wp2
          go_round
          case rel => exact ⟨k + 1, by omega, by go_num, fun i hi => by
            by_cases e : i = k
            · subst e; exact h20
            · exact HOK.out i (by omega)⟩
          case measure => simp [intOf]; omega
        · have hf : lightB n g = false := lightB_no fun hh => h20 (hh.2 k hlt)
          go_wp2
          go_ret
          exact ⟨by first | rfl | exact ret_bool hf.symm, rfl⟩
      · have hf : lightB n g = true := lightB_iff.2 ⟨h120, fun i hi => HOK.out i (by omega)⟩
        go_wp2
        go_ret
        exact ⟨by first | rfl | exact ret_bool hf.symm, rfl⟩
  · have hf : lightB n g = false := lightB_no fun hh => h120 hh.1
    go_enter Try.func11, Try.ntmps11
    go_wp2
    go_ret
    exact ⟨by first | rfl | exact ret_bool hf.symm, rfl⟩

end Go.Proofs.Ytlkgnafbipgpbaa
