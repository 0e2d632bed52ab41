/- The contracts of package rate (Scale, Fit, Below, Gcd): each walked whole, for every input. -/
import Derived.Test.YthjlojdjjffflaaChecked
import Derived.WalkKit
import Derived.ProofKit
import Derived.WalkLawsBesides
import Derived.Deep.QuietTactic
import Derived.BigQuiet
import Derived.Lib.Hide
import Derived.Below
import Derived.Test.YthjlojdjjffflaaM
namespace Go.Proofs.Ythjlojdjjffflaa
open Go.RowKit

theorem ret_int {k : IntKind} {a b : Int} (h : a = b) : Ending.returned (.int k a) = .returned (.int k b) := by rw [h]
theorem ret_ints {k j : IntKind} {a b c : Int} (h : a = b) : Ending.returned (.tuple #[.int k a, .int j c]) = .returned (.tuple #[.int k b, .int j c]) := by rw [h]
theorem below_drewN {B : Nat} {a w : World} (h : Below B a w) (n : Nat) : Below B a (w.drewN n) := h.trans ⟨rfl, rfl, rfl, Nat.le_refl _, fun _ _ => rfl⟩

def ScaleIs (r m d v e : Int) : Prop := ∀ W : World, Calls Try.prog 12 #[.int .u64 r, .int .i64 m, .int .i64 d] W fun o w' => o = .returned (.tuple #[.int .u64 v, .int .i64 e]) ∧ W = w'
def BelowIs (r want d e : Int) : Prop := ∀ W : World, Calls Try.prog 16 #[.int .u64 r, .int .u64 want] W fun o w' => o = .returned (.tuple #[.int .i64 d, .int .i64 e]) ∧ W = w'
def FitIs (r want d e : Int) : Prop := ∀ W : World, Calls Try.prog 14 #[.int .u64 r, .int .u64 want] W fun o w' => o = .returned (.tuple #[.int .i64 d, .int .i64 e]) ∧ W = w'
def GcdIs (a b g : Int) : Prop := ∀ W : World, Calls Try.prog 18 #[.int .u64 a, .int .u64 b] W fun o w' => o = .returned (.int .u64 g) ∧ ∃ n, w' = W.drewN n

theorem factor_yes (m : Int) (h1 : 1 ≤ m) (h2 : m ≤ 1000) (W : World) :
    Calls Try.prog 21 #[.int .i64 m] W fun e w' => e = .returned (.bool true) ∧ W = w' := by
  go_enter Try.func21, Try.ntmps21
  go_wp2
  go_ret
  exact ⟨rfl, rfl⟩
theorem factor_no (m : Int) (h : m < 1 ∨ 1000 < m) (W : World) :
    Calls Try.prog 21 #[.int .i64 m] W fun e w' => e = .returned (.bool false) ∧ W = w' := by
  by_cases h1 : m < 1
  · clear h
    go_enter Try.func21, Try.ntmps21
    go_wp2
    go_ret
    exact ⟨rfl, rfl⟩
  · have h2 : ¬ m ≤ 1000 := by omega
    clear h
    go_enter Try.func21, Try.ntmps21
    go_wp2
    go_ret
    exact ⟨rfl, rfl⟩
theorem scale_high (r : Int) (m d : Int) (h : 1099511627776 < r) : ScaleIs r m d 0 1 := by
  intro W
  go_enter Try.func12, Try.ntmps12
  go_wp2
  go_ret2
  exact ⟨rfl, rfl⟩
theorem scale_mul (r : Int) (m d : Int) (hr : r ≤ 1099511627776) (h : m < 1 ∨ 1000 < m) : ScaleIs r m d 0 1 := by
  intro W
  go_enter Try.func12, Try.ntmps12
  go_wp2_with (go_at_call 21; refine (factor_no m h _).mono ?_; rintro e w1 ⟨rfl, rfl⟩)
  go_ret2
  exact ⟨rfl, rfl⟩
theorem scale_div (r : Int) (m d : Int) (hr : r ≤ 1099511627776) (h1 : 1 ≤ m) (h2 : m ≤ 1000) (h : d < 1 ∨ 1000 < d) : ScaleIs r m d 0 1 := by
  intro W
  go_enter Try.func12, Try.ntmps12
  go_wp2_with fail
  refine (factor_yes m h1 h2 _).mono ?_
  rintro e w1 ⟨rfl, rfl⟩
  go_wp2_with fail
  refine (factor_no d h _).mono ?_
  rintro e w1 ⟨rfl, rfl⟩
  go_wp2
  go_ret2
  exact ⟨rfl, rfl⟩
theorem mul_room (r m : Nat) (hr : r ≤ 1099511627776) (h : m ≤ 1000) : r * m ≤ 1099511627776000 := by
  have := Nat.mul_le_mul hr h
  omega
theorem scale_range (r m d : Nat) (hr : r ≤ 1099511627776) (h1 : 1 ≤ m) (h2 : m ≤ 1000) (h3 : 1 ≤ d) (h4 : d ≤ 1000) (h : 1099511627776 < r * m / d) : ScaleIs r m d 0 3 := by
  intro W
  have hm := mul_room r m hr h2
  obtain ⟨p, hp⟩ : ∃ p, r * m = p := ⟨_, rfl⟩
  rw [hp] at hm h
  have hp' : (r : Int) * m = (p : Int) := by rw [← hp]; simp
  obtain ⟨q, hq⟩ : ∃ q, p / d = q := ⟨_, rfl⟩
  have hq2 : q ≤ 1099511627776000 := by rw [← hq]; exact Nat.le_trans (Nat.div_le_self _ _) hm
  rw [hq] at h
  have hq' : (p : Int) / d = (q : Int) := by rw [← hq]; simp
  have HP := Lib.hid hp; clear hp
  have HQ := Lib.hid hq; clear hq
  go_enter Try.func12, Try.ntmps12
  go_wp2_with fail
  refine (factor_yes m (by omega) (by omega) _).mono ?_
  rintro e w1 ⟨rfl, rfl⟩
  go_wp2_with fail
  refine (factor_yes d (by omega) (by omega) _).mono ?_
  rintro e w1 ⟨rfl, rfl⟩
  go_wp2
  go_ret2
  exact ⟨rfl, rfl⟩
theorem scale_ok (r m d : Nat) (hr : r ≤ 1099511627776) (h1 : 1 ≤ m) (h2 : m ≤ 1000) (h3 : 1 ≤ d) (h4 : d ≤ 1000) (h : r * m / d ≤ 1099511627776) : ScaleIs r m d (r * m / d : Nat) 0 := by
  intro W
  have hm := mul_room r m hr h2
  obtain ⟨p, hp⟩ : ∃ p, r * m = p := ⟨_, rfl⟩
  rw [hp] at hm h ⊢
  have hp' : (r : Int) * m = (p : Int) := by rw [← hp]; simp
  obtain ⟨q, hq⟩ : ∃ q, p / d = q := ⟨_, rfl⟩
  rw [hq] at h ⊢
  have hq' : (p : Int) / d = (q : Int) := by rw [← hq]; simp
  have HP := Lib.hid hp; clear hp
  have HQ := Lib.hid hq; clear hq
  go_enter Try.func12, Try.ntmps12
  go_wp2_with fail
  refine (factor_yes m (by omega) (by omega) _).mono ?_
  rintro e w1 ⟨rfl, rfl⟩
  go_wp2_with fail
  refine (factor_yes d (by omega) (by omega) _).mono ?_
  rintro e w1 ⟨rfl, rfl⟩
  go_wp2
  go_ret2
  exact ⟨rfl, rfl⟩

theorem below_argr (r want : Int) (h : 1099511627776 < r) : BelowIs r want 0 1 := by
  intro W
  go_enter Try.func16, Try.ntmps16
  go_wp2
  go_ret2
  exact ⟨rfl, rfl⟩
theorem below_argw (r : Int) (h : r ≤ 1099511627776) : BelowIs r 0 0 1 := by
  intro W
  go_enter Try.func16, Try.ntmps16
  go_wp2
  go_ret2
  exact ⟨rfl, rfl⟩
theorem div_cast (r k q : Nat) (h : r / k = q) : (r : Int) / (k : Int) = (q : Int) := by rw [← h]; simp
set_option maxRecDepth 100000 in
theorem below_ok (r want d : Nat) (hr : r ≤ 1099511627776) (hw : 1 ≤ want) (h1 : 1 ≤ d) (h2 : d ≤ 1000) (h3 : r / d ≤ want) (h4 : ∀ k, 1 ≤ k → k < d → ¬ r / k ≤ want) : BelowIs r want d 0 := by
  intro W
  have hz : ((want : Int) == 0) = false := by rw [beq_eq_false_iff_ne]; omega
  go_enter Try.func16, Try.ntmps16
  go_wp2
  go_loop [14] (fun i => ∃ j : Nat, j < d ∧ i = .int .i64 j) (fun i => (1000 - intOf i).toNat)
  case atStart => exact ⟨0, by omega, rfl⟩
  case round =>
    obtain ⟨j, hj, rfl⟩ := hrel
    have hq := div_cast r (j + 1) _ rfl
    have hle : r / (j + 1) ≤ 1099511627776 := Nat.le_trans (Nat.div_le_self _ _) hr
    by_cases he : j + 1 = d
    · rw [he] at hle
      have hq := div_cast r d _ rfl
      have he' : (j : Int) + 1 = (d : Int) := by omega
      have HE := Lib.hid he; clear he
      clear h4
      generalize r / d = q at *
      go_wp2
      go_ret2
      exact ⟨rfl, rfl⟩
    · have h5 := h4 (j + 1) (by omega) (by omega)
      have hq : (r : Int) / ((j : Int) + 1) = ((r / (j + 1) : Nat) : Int) := by simp
      clear h4
      generalize r / (j + 1) = q at *
      go_wp2
      go_round
      case rel => exact ⟨j + 1, by omega, by go_num⟩
      case measure => simp [intOf]; omega
set_option maxRecDepth 100000 in
theorem below_none (r want : Nat) (hr : r ≤ 1099511627776) (hw : 1 ≤ want) (h4 : ∀ k, 1 ≤ k → k ≤ 1000 → ¬ r / k ≤ want) : BelowIs r want 0 9 := by
  intro W
  have hz : ((want : Int) == 0) = false := by rw [beq_eq_false_iff_ne]; omega
  go_enter Try.func16, Try.ntmps16
  go_wp2
  go_loop [14] (fun i => ∃ j : Nat, j ≤ 1000 ∧ i = .int .i64 j) (fun i => (1000 - intOf i).toNat)
  case atStart => exact ⟨0, by omega, rfl⟩
  case round =>
    obtain ⟨j, hj, rfl⟩ := hrel
    by_cases he : j = 1000
    · subst he
      clear h4
      go_wp2
      go_ret2
      exact ⟨rfl, rfl⟩
    · have hle : r / (j + 1) ≤ 1099511627776 := Nat.le_trans (Nat.div_le_self _ _) hr
      have h5 := h4 (j + 1) (by omega) (by omega)
      have hq : (r : Int) / ((j : Int) + 1) = ((r / (j + 1) : Nat) : Int) := by simp
      clear h4
      generalize r / (j + 1) = q at *
      go_wp2
      go_round
      case rel => exact ⟨j + 1, by omega, by go_num⟩
      case measure => simp [intOf]; omega
theorem fit_err (r want e : Int) (he : e ≠ 0) (h : BelowIs r want 0 e) : FitIs r want 0 e := by
  intro W
  have hb : (e != 0) = true := by simpa using he
  have H := Lib.hid he; clear he
  go_enter Try.func14, Try.ntmps14
  go_wp2_with fail
  refine (h _).mono ?_
  rintro o w1 ⟨rfl, rfl⟩
  go_wp2
  go_ret2
  exact ⟨rfl, rfl⟩
theorem fit_ok (r want d : Nat) (hr : r ≤ 1099511627776) (h1 : 1 ≤ d) (h2 : d ≤ 1000) (hq : r / d = want) (h : BelowIs r want d 0) : FitIs r want d 0 := by
  intro W
  have hq' := div_cast r d want hq
  have hle : want ≤ 1099511627776 := by rw [← hq]; exact Nat.le_trans (Nat.div_le_self _ _) hr
  have H := Lib.hid hq; clear hq
  go_enter Try.func14, Try.ntmps14
  go_wp2_with fail
  refine (h _).mono ?_
  rintro o w1 ⟨rfl, rfl⟩
  go_wp2
  go_ret2
  exact ⟨rfl, rfl⟩
theorem fit_past (r want d : Nat) (hr : r ≤ 1099511627776) (h1 : 1 ≤ d) (h2 : d ≤ 1000) (hq : r / d ≠ want) (h : BelowIs r want d 0) : FitIs r want 0 9 := by
  intro W
  have hq' := div_cast r d _ rfl
  have hle : r / d ≤ 1099511627776 := Nat.le_trans (Nat.div_le_self _ _) hr
  generalize r / d = q at *
  have hne : ((q : Int) != (want : Int)) = true := by rw [bne_iff_ne]; omega
  have H := Lib.hid hq; clear hq
  go_enter Try.func14, Try.ntmps14
  go_wp2_with fail
  refine (h _).mono ?_
  rintro o w1 ⟨rfl, rfl⟩
  go_wp2
  go_ret2
  exact ⟨rfl, rfl⟩
theorem gcd_any (a b : Nat) : GcdIs a b (Nat.gcd a b) := by
  intro W
  go_enter Try.func18, Try.ntmps18
  go_wp2
  go_loopw [0, 1] (fun x y wr => ∃ (p q n : Nat), Hid (Nat.gcd p q = Nat.gcd a b) ∧ x = .int .u64 p ∧ y = .int .u64 q ∧ wr = W.drewN n) (fun _ y _ => (intOf y).toNat)
  case atStart => exact ⟨a, b, 0, Lib.hid rfl, rfl, rfl, rfl⟩
  case round =>
    obtain ⟨p, q, n, HG, rfl, rfl, rfl⟩ := hrel
    by_cases h0 : q = 0
    · subst h0
      go_wp2
      go_ret
      exact ⟨ret_int (by rw [← HG.out, Nat.gcd_zero_right]), n, rfl⟩
    · have hm : (p : Int) % (q : Int) = ((p % q : Nat) : Int) := by simp
      have hlt : p % q < q := Nat.mod_lt _ (by omega)
      have HS := Lib.hid (Rm.gcd_step p q)
      generalize p % q = s at *
      have hne : ((q : Int) != 0) = true := by rw [bne_iff_ne]; omega
      go_wp2
      go_quiet (fail)
      go_wp2
      go_roundw
      case rel => exact ⟨q, s, n + nq, Lib.hid (by rw [HS.out]; exact HG.out), rfl, by rw [hm], World.drewN_drewN ..⟩
      case measure => simp [intOf]; omega
end Go.Proofs.Ythjlojdjjffflaa
