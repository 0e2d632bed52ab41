/- RateDivides and RateMonotone out of the contracts. -/
import Derived.Test.YthjlojdjjffflaaL2
namespace Go.Proofs.Ythjlojdjjffflaa
open Go.RowKit

set_option maxRecDepth 100000 in
set_option maxHeartbeats 1000000 in
theorem divides_zero (g1 : GcdB 0 0 0) (W : World) :
    Calls Try.prog 6 #[.int .u64 0, .int .u64 0] W fun o w' => o = .returned (.bool true) ∧ Below W.heap.size W w' := by
  go_enter Try.func6, Try.ntmps6
  go_wp2_with fail
  refine (shown_any _).mono ?_
  rintro o w1 ⟨rfl, rfl⟩
  go_wp2_with fail
  refine (g1 _).mono ?_
  rintro o w1 ⟨rfl, B1⟩
  go_wp2_with fail
  refine (g1 _).mono ?_
  rintro o w2 ⟨rfl, B2⟩
  go_wp2_with fail
  refine (g1 _).mono ?_
  rintro o w3 ⟨rfl, B3⟩
  go_wp2_with fail
  refine (g1 _).mono ?_
  rintro o w4 ⟨rfl, B4⟩
  go_wp2
  go_ret
  exact ⟨rfl, below2 (below2 B1 B2) (below2 B3 B4)⟩
set_option maxRecDepth 100000 in
set_option maxHeartbeats 1000000 in
theorem divides_right (a g : Nat) (a1 : Nat) (hg : ((g : Int) == 0) = false) (hg2 : (g : Int) ≠ 0) (ha : (a : Int) % (g : Int) = 0) (ha1 : (a : Int) / (g : Int) = (a1 : Int)) (hwa : IntKind.u64.wrap (a1 : Int) = (a1 : Int))
    (g1 : GcdB a 0 g) (g2 : GcdB 0 a g) (g3 : GcdB a 0 a) (g4 : GcdB a a a) (g5 : GcdIs a1 0 1) (W : World) :
    Calls Try.prog 6 #[.int .u64 a, .int .u64 0] W fun o w' => o = .returned (.bool true) ∧ Below W.heap.size W w' := by
  go_enter Try.func6, Try.ntmps6
  go_wp2_with fail
  refine (shown_any _).mono ?_
  rintro o w1 ⟨rfl, rfl⟩
  go_wp2_with fail
  refine (g1 _).mono ?_
  rintro o w1 ⟨rfl, B1⟩
  go_wp2_with fail
  refine (g2 _).mono ?_
  rintro o w2 ⟨rfl, B2⟩
  go_wp2_with fail
  refine (g3 _).mono ?_
  rintro o w3 ⟨rfl, B3⟩
  go_wp2_with fail
  refine (g4 _).mono ?_
  rintro o w4 ⟨rfl, B4⟩
  go_wp2
  go_quiet ((go_at_call 18; exact Calls.quiet_of (g5 _)))
  go_wp2
  go_ret
  exact ⟨rfl, below_drewN (below2 (below2 B1 B2) (below2 B3 B4)) _⟩
theorem gq {a b g : Int} (h : GcdIs a b g) (w : World) (n : Nat) : Calls Try.prog 18 #[.int .u64 a, .int .u64 b] (w.drewN n) fun e w'' => e = .returned (.int .u64 g) ∧ ∃ m, w'' = w.drewN m := Calls.quiet_of (h _)
set_option maxRecDepth 100000 in
set_option maxHeartbeats 1000000 in
theorem divides_both (a b g : Nat) (a1 b1 c : Nat) (hg : ((g : Int) == 0) = false) (hg2 : (g : Int) ≠ 0) (hz : ((b : Int) == 0) = false) (hz2 : (b : Int) ≠ 0) (ha : (a : Int) % (g : Int) = 0) (hb : (b : Int) % (g : Int) = 0) (ha1 : (a : Int) / (g : Int) = (a1 : Int)) (hb1 : (b : Int) / (g : Int) = (b1 : Int)) (hwa : IntKind.u64.wrap (a1 : Int) = (a1 : Int)) (hwb : IntKind.u64.wrap (b1 : Int) = (b1 : Int))
    (hc : (a : Int) % (b : Int) = (c : Int)) (g1 : GcdB a b g) (g2 : GcdB b a g) (g3 : GcdB a 0 a) (g4 : GcdB a a a) (g5 : GcdIs a1 b1 1) (g6 : GcdIs c b g) (W : World) :
    Calls Try.prog 6 #[.int .u64 a, .int .u64 b] W fun o w' => o = .returned (.bool true) ∧ Below W.heap.size W w' := by
  go_enter Try.func6, Try.ntmps6
  go_wp2_with fail
  refine (shown_any _).mono ?_
  rintro o w1 ⟨rfl, rfl⟩
  go_wp2_with fail
  refine (g1 _).mono ?_
  rintro o w1 ⟨rfl, B1⟩
  go_wp2_with fail
  refine (g2 _).mono ?_
  rintro o w2 ⟨rfl, B2⟩
  go_wp2_with fail
  refine (g3 _).mono ?_
  rintro o w3 ⟨rfl, B3⟩
  go_wp2_with fail
  refine (g4 _).mono ?_
  rintro o w4 ⟨rfl, B4⟩
  go_wp2
  go_quiet ((go_at_call 18; first | (with_reducible exact gq g5 _ _) | (with_reducible exact gq g6 _ _)))
  go_wp2
  go_ret
  exact ⟨rfl, below_drewN (below2 (below2 B1 B2) (below2 B3 B4)) _⟩
theorem wrap_fit (n : Nat) (h : n < 18446744073709551616) : IntKind.u64.wrap (n : Int) = (n : Int) := by
  rw [IntKind.wrap_u64]; omega
theorem gcd_one (a b : Nat) (h : 0 < Nat.gcd a b) : Nat.gcd (a / Nat.gcd a b) (b / Nat.gcd a b) = 1 := by
  have := Nat.gcd_mul_right (a / Nat.gcd a b) (Nat.gcd a b) (b / Nat.gcd a b)
  rw [Nat.div_mul_cancel (Nat.gcd_dvd_left a b), Nat.div_mul_cancel (Nat.gcd_dvd_right a b)] at this
  exact Nat.eq_of_mul_eq_mul_right h (by rw [← this, Nat.one_mul])
theorem divides_walk (a b : Nat) (ha : a < 18446744073709551616) (hb : b < 18446744073709551616) (W : World) :
    Calls Try.prog 6 #[.int .u64 a, .int .u64 b] W fun o w' => o = .returned (.bool true) ∧ Below W.heap.size W w' := by
  by_cases h0 : Nat.gcd a b = 0
  · obtain ⟨rfl, rfl⟩ := Nat.gcd_eq_zero_iff.1 h0
    exact divides_zero (gcdB (gcd_any 0 0)) W
  · have hpos := Nat.pos_of_ne_zero h0
    have hg : ((Nat.gcd a b : Int) == 0) = false := by rw [beq_eq_false_iff_ne]; omega
    have hg2 : (Nat.gcd a b : Int) ≠ 0 := by omega
    have d1 : (a : Int) % (Nat.gcd a b : Int) = 0 := by have := Nat.mod_eq_zero_of_dvd (Nat.gcd_dvd_left a b); omega
    have d2 : (b : Int) % (Nat.gcd a b : Int) = 0 := by have := Nat.mod_eq_zero_of_dvd (Nat.gcd_dvd_right a b); omega
    have e1 := div_cast a (Nat.gcd a b) _ rfl
    have e2 := div_cast b (Nat.gcd a b) _ rfl
    have f1 := wrap_fit (a / Nat.gcd a b) (Nat.lt_of_le_of_lt (Nat.div_le_self _ _) ha)
    have f2 := wrap_fit (b / Nat.gcd a b) (Nat.lt_of_le_of_lt (Nat.div_le_self _ _) hb)
    have one := gcd_one a b hpos
    by_cases hz : b = 0
    · subst hz
      rw [Nat.zero_div] at one
      exact divides_right a _ _ hg hg2 d1 e1 f1 (gcdB (gcd_any a 0)) (gcdB (gcd_to 0 a _ (Nat.gcd_comm _ _))) (gcdB (gcd_to a 0 a (Nat.gcd_zero_right _))) (gcdB (gcd_to a a a (Nat.gcd_self _))) (gcd_to _ 0 1 one) W
    · exact divides_both a b _ _ _ (a % b) hg hg2 (by rw [beq_eq_false_iff_ne]; omega) (by omega) d1 d2 e1 e2 f1 f2 (by simp) (gcdB (gcd_any a b)) (gcdB (gcd_to b a _ (Nat.gcd_comm _ _))) (gcdB (gcd_to a 0 a (Nat.gcd_zero_right _))) (gcdB (gcd_to a a a (Nat.gcd_self _))) (gcd_to _ _ 1 one)
        (gcd_to _ _ _ (by rw [Nat.gcd_comm, Rm.gcd_step])) W
end Go.Proofs.Ythjlojdjjffflaa
