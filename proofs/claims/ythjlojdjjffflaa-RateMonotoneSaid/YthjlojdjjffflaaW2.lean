/- The contracts of pick, shown, and of the document's own answers (package catnapref2): each walked whole. -/
import Derived.Test.YthjlojdjjffflaaW1
namespace Go.Proofs.Ythjlojdjjffflaa
open Go.RowKit

def PickIs (c n k : Int) : Prop := ∀ W : World, Calls Try.prog 20 #[.int .i64 c, .int .i64 n] W fun o w' => o = .returned (.int .i64 k) ∧ W = w'
def RScaleIs (r m d v e : Int) : Prop := ∀ W : World, Calls Try.prog 13 #[.int .u64 r, .int .i64 m, .int .i64 d] W fun o w' => o = .returned (.tuple #[.int .u64 v, .int .i64 e]) ∧ W = w'
def RBelowIs (r want d e : Int) : Prop := ∀ W : World, Calls Try.prog 17 #[.int .u64 r, .int .u64 want] W fun o w' => o = .returned (.tuple #[.int .i64 d, .int .i64 e]) ∧ W = w'
def RFitIs (r want d e : Int) : Prop := ∀ W : World, Calls Try.prog 15 #[.int .u64 r, .int .u64 want] W fun o w' => o = .returned (.tuple #[.int .i64 d, .int .i64 e]) ∧ W = w'
def SeekIs (r want : Int) (b : Bool) (d e : Int) : Prop := ∀ W : World, Calls Try.prog 22 #[.int .u64 r, .int .u64 want, .bool b] W fun o w' => o = .returned (.tuple #[.int .i64 d, .int .i64 e]) ∧ W = w'
def RGcdIs (a b g : Int) : Prop := ∀ W : World, Calls Try.prog 19 #[.int .u64 a, .int .u64 b] W fun o w' => o = .returned (.int .u64 g) ∧ W = w'

theorem pick_any (c : Int) (n : Nat) (h1 : -9223372036854775808 ≤ c) (h2 : c ≤ 9223372036854775807) (hn1 : 1 ≤ n) (hn2 : n ≤ 1000) : ∃ k : Nat, k < n ∧ PickIs c n k := by
  by_cases hc : c < 0
  · refine ⟨((-(c + 1)) % (n : Int)).toNat, by have := Int.emod_nonneg (-(c + 1)) (show (n : Int) ≠ 0 by omega); have := Int.emod_lt_of_pos (-(c + 1)) (show 0 < (n : Int) by omega); omega, ?_⟩
    intro W
    obtain ⟨k, hk⟩ : ∃ k : Nat, (-(c + 1)) % (n : Int) = (k : Int) := ⟨_, (Int.toNat_of_nonneg (Int.emod_nonneg _ (by omega))).symm⟩
    rw [hk, Int.toNat_natCast]
    obtain ⟨x, hx⟩ : ∃ x : Int, -(c + 1) = x := ⟨_, rfl⟩
    rw [hx] at hk
    have hx0 : 0 ≤ x := by omega
    go_enter Try.func20, Try.ntmps20
    go_wp2
    go_ret
    exact ⟨ret_int hk, rfl⟩
  · refine ⟨(c % (n : Int)).toNat, by have := Int.emod_nonneg c (show (n : Int) ≠ 0 by omega); have := Int.emod_lt_of_pos c (show 0 < (n : Int) by omega); omega, ?_⟩
    intro W
    obtain ⟨k, hk⟩ : ∃ k : Nat, c % (n : Int) = (k : Int) := ⟨_, (Int.toNat_of_nonneg (Int.emod_nonneg _ (by omega))).symm⟩
    rw [hk, Int.toNat_natCast]
    go_enter Try.func20, Try.ntmps20
    go_wp2
    go_ret
    exact ⟨rfl, rfl⟩
theorem shown_any (W : World) : Calls Try.prog 11 #[] W fun e w' => e = .returned (.bool true) ∧ W = w' := by
  have h : FitIs 100 33 3 0 := fit_ok 100 33 3 (by omega) (by omega) (by omega) rfl (below_ok 100 33 3 (by omega) (by omega) (by omega) (by omega) (by omega) (by intro k a b; rcases (show k = 1 ∨ k = 2 by omega) with rfl | rfl <;> decide))
  go_enter Try.func11, Try.ntmps11
  go_wp2_with fail
  refine (h _).mono ?_
  rintro o w1 ⟨rfl, rfl⟩
  go_wp2
  go_ret
  exact ⟨rfl, rfl⟩
theorem rscale_high (r : Int) (m d : Int) (h : 1099511627776 < r) : RScaleIs r m d 0 1 := by
  intro W
  go_enter Try.func13, Try.ntmps13
  go_wp2
  go_ret2
  exact ⟨rfl, rfl⟩
theorem rscale_mul (r : Int) (m d : Int) (hr : r ≤ 1099511627776) (h : m < 1 ∨ 1000 < m) : RScaleIs r m d 0 1 := by
  intro W
  rcases h with h | h
  · go_enter Try.func13, Try.ntmps13
    go_wp2
    go_ret2
    exact ⟨rfl, rfl⟩
  · have h2 : ¬ m < 1 := by omega
    go_enter Try.func13, Try.ntmps13
    go_wp2
    go_ret2
    exact ⟨rfl, rfl⟩
theorem rscale_div (r : Int) (m d : Int) (hr : r ≤ 1099511627776) (h1 : 1 ≤ m) (h2 : m ≤ 1000) (h : d < 1 ∨ 1000 < d) : RScaleIs r m d 0 1 := by
  intro W
  rcases h with h | h
  · go_enter Try.func13, Try.ntmps13
    go_wp2
    go_ret2
    exact ⟨rfl, rfl⟩
  · have h2 : ¬ d < 1 := by omega
    go_enter Try.func13, Try.ntmps13
    go_wp2
    go_ret2
    exact ⟨rfl, rfl⟩
theorem rscale_range (r m d : Nat) (hr : r ≤ 1099511627776) (h1 : 1 ≤ m) (h2 : m ≤ 1000) (h3 : 1 ≤ d) (h4 : d ≤ 1000) (h : 1099511627776 < r * m / d) : RScaleIs r m d 0 3 := by
  intro W
  have hm := mul_room r m hr h2
  obtain ⟨p, hp⟩ : ∃ p, r * m = p := ⟨_, rfl⟩
  rw [hp] at hm h
  have hp' : (r : Int) * m = (p : Int) := by rw [← hp]; simp
  obtain ⟨q, hq⟩ : ∃ q, p / d = q := ⟨_, rfl⟩
  have hq2 : q ≤ 1099511627776000 := by rw [← hq]; exact Nat.le_trans (Nat.div_le_self _ _) hm
  rw [hq] at h
  have hq' : (p : Int) / d = (q : Int) := by rw [← hq]; simp
  have HP := Lib.hid hp; clear hp
  have HQ := Lib.hid hq; clear hq
  go_enter Try.func13, Try.ntmps13
  go_wp2
  go_ret2
  exact ⟨rfl, rfl⟩
theorem rscale_ok (r m d : Nat) (hr : r ≤ 1099511627776) (h1 : 1 ≤ m) (h2 : m ≤ 1000) (h3 : 1 ≤ d) (h4 : d ≤ 1000) (h : r * m / d ≤ 1099511627776) : RScaleIs r m d (r * m / d : Nat) 0 := by
  intro W
  have hm := mul_room r m hr h2
  obtain ⟨p, hp⟩ : ∃ p, r * m = p := ⟨_, rfl⟩
  rw [hp] at hm h ⊢
  have hp' : (r : Int) * m = (p : Int) := by rw [← hp]; simp
  obtain ⟨q, hq⟩ : ∃ q, p / d = q := ⟨_, rfl⟩
  rw [hq] at h ⊢
  have hq' : (p : Int) / d = (q : Int) := by rw [← hq]; simp
  have HP := Lib.hid hp; clear hp
  have HQ := Lib.hid hq; clear hq
  go_enter Try.func13, Try.ntmps13
  go_wp2
  go_ret2
  exact ⟨rfl, rfl⟩
theorem seek_argr (r want : Int) (b : Bool) (h : 1099511627776 < r) : SeekIs r want b 0 1 := by
  intro W
  go_enter Try.func22, Try.ntmps22
  go_wp2
  go_ret2
  exact ⟨rfl, rfl⟩
theorem seek_argw (r : Int) (b : Bool) (h : r ≤ 1099511627776) : SeekIs r 0 b 0 1 := by
  intro W
  go_enter Try.func22, Try.ntmps22
  go_wp2
  go_ret2
  exact ⟨rfl, rfl⟩
/-- what the document's answer looks for -/
def hit (r want : Nat) (b : Bool) (k : Nat) : Prop := r / k = want ∨ b = true ∧ r / k < want
set_option maxRecDepth 100000 in
theorem seek_ok (r want d : Nat) (b : Bool) (hr : r ≤ 1099511627776) (hw : 1 ≤ want) (h1 : 1 ≤ d) (h2 : d ≤ 1000) (h3 : hit r want b d) (h4 : ∀ k, 1 ≤ k → k < d → ¬ hit r want b k) : SeekIs r want b d 0 := by
  intro W
  have hz : ((want : Int) == 0) = false := by rw [beq_eq_false_iff_ne]; omega
  go_enter Try.func22, Try.ntmps22
  go_wp2
  go_loop [8] (fun i => ∃ j : Nat, 1 ≤ j ∧ j ≤ d ∧ i = .int .i64 j) (fun i => (1000 - intOf i).toNat)
  case atStart => exact ⟨1, by omega, by omega, rfl⟩
  case round =>
    obtain ⟨j, hj1, hj, rfl⟩ := hrel
    have hle : r / j ≤ 1099511627776 := Nat.le_trans (Nat.div_le_self _ _) hr
    by_cases he : j = d
    · subst he
      clear h4
      unfold hit at h3
      have hq := div_cast r j _ rfl
      generalize r / j = q at *
      rcases h3 with h3 | ⟨h3, h5⟩
      · have ht : ((q : Int) == (want : Int)) = true := by rw [beq_iff_eq]; omega
        have H := Lib.hid h3; clear h3
        go_wp2
        go_ret2
        exact ⟨rfl, rfl⟩
      · subst h3
        have ht : ((q : Int) == (want : Int)) = false := by rw [beq_eq_false_iff_ne]; omega
        go_wp2
        go_ret2
        exact ⟨rfl, rfl⟩
    · have h5 := h4 j (by omega) (by omega)
      unfold hit at h5
      have hq := div_cast r j _ rfl
      clear h4 h3
      generalize r / j = q at *
      have ht : ((q : Int) == (want : Int)) = false := by rw [beq_eq_false_iff_ne]; omega
      cases b
      · clear h5
        go_wp2
        go_round
        case rel => exact ⟨j + 1, by omega, by omega, by go_num⟩
        case measure => simp [intOf]; omega
      · have h6 : ¬ q < want := by intro h; exact h5 (Or.inr ⟨rfl, h⟩)
        clear h5
        go_wp2
        go_round
        case rel => exact ⟨j + 1, by omega, by omega, by go_num⟩
        case measure => simp [intOf]; omega
set_option maxRecDepth 100000 in
theorem seek_none (r want : Nat) (b : Bool) (hr : r ≤ 1099511627776) (hw : 1 ≤ want) (h4 : ∀ k, 1 ≤ k → k ≤ 1000 → ¬ hit r want b k) : SeekIs r want b 0 9 := by
  intro W
  have hz : ((want : Int) == 0) = false := by rw [beq_eq_false_iff_ne]; omega
  go_enter Try.func22, Try.ntmps22
  go_wp2
  go_loop [8] (fun i => ∃ j : Nat, 1 ≤ j ∧ j ≤ 1001 ∧ i = .int .i64 j) (fun i => (1001 - intOf i).toNat)
  case atStart => exact ⟨1, by omega, by omega, rfl⟩
  case round =>
    obtain ⟨j, hj1, hj, rfl⟩ := hrel
    by_cases he : j = 1001
    · subst he
      clear h4
      go_wp2
      go_ret2
      exact ⟨rfl, rfl⟩
    · have hle : r / j ≤ 1099511627776 := Nat.le_trans (Nat.div_le_self _ _) hr
      have h5 := h4 j (by omega) (by omega)
      unfold hit at h5
      have hq := div_cast r j _ rfl
      clear h4
      generalize r / j = q at *
      have ht : ((q : Int) == (want : Int)) = false := by rw [beq_eq_false_iff_ne]; omega
      cases b
      · clear h5
        go_wp2
        go_round
        case rel => exact ⟨j + 1, by omega, by omega, by go_num⟩
        case measure => simp [intOf]; omega
      · have h6 : ¬ q < want := by intro h; exact h5 (Or.inr ⟨rfl, h⟩)
        clear h5
        go_wp2
        go_round
        case rel => exact ⟨j + 1, by omega, by omega, by go_num⟩
        case measure => simp [intOf]; omega
theorem rfit_of (r want d e : Int) (h : SeekIs r want false d e) : RFitIs r want d e := by
  intro W
  go_enter Try.func15, Try.ntmps15
  go_wp2_with fail
  refine (h _).mono ?_
  rintro o w1 ⟨rfl, rfl⟩
  go_wp2
  go_ret2
  exact ⟨rfl, rfl⟩
theorem rbelow_of (r want d e : Int) (h : SeekIs r want true d e) : RBelowIs r want d e := by
  intro W
  go_enter Try.func17, Try.ntmps17
  go_wp2_with fail
  refine (h _).mono ?_
  rintro o w1 ⟨rfl, rfl⟩
  go_wp2
  go_ret2
  exact ⟨rfl, rfl⟩
theorem rgcd_any (a b : Nat) : RGcdIs a b (Nat.gcd a b) := by
  intro W
  go_enter Try.func19, Try.ntmps19
  go_wp2
  go_loop [0, 1] (fun x y => ∃ (p q : Nat), Hid (Nat.gcd p q = Nat.gcd a b) ∧ x = .int .u64 p ∧ y = .int .u64 q) (fun _ y => (intOf y).toNat)
  case atStart => exact ⟨a, b, Lib.hid rfl, rfl, rfl⟩
  case round =>
    obtain ⟨p, q, HG, rfl, rfl⟩ := hrel
    by_cases h0 : q = 0
    · subst h0
      go_wp2
      go_ret
      exact ⟨ret_int (by rw [← HG.out, Nat.gcd_zero_right]), rfl⟩
    · have hm : (p : Int) % (q : Int) = ((p % q : Nat) : Int) := by simp
      have hlt : p % q < q := Nat.mod_lt _ (by omega)
      have HS := Lib.hid (Rm.gcd_step p q)
      generalize p % q = s at *
      have hne : ((q : Int) != 0) = true := by rw [bne_iff_ne]; omega
      go_wp2
      go_round
      case rel => exact ⟨q, s, Lib.hid (by rw [HS.out]; exact HG.out), rfl, by first | rfl | rw [hm]⟩
      case measure => simp [intOf]; omega
end Go.Proofs.Ythjlojdjjffflaa
