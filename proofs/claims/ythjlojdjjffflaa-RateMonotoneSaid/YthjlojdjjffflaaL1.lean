/- RateTells and RateFits out of the contracts. -/
import Derived.Test.YthjlojdjjffflaaW2
namespace Go.Proofs.Ythjlojdjjffflaa
open Go.RowKit

theorem below2 {a b c : World} (h1 : Below a.heap.size a b) (h2 : Below b.heap.size b c) : Below a.heap.size a c := h1.trans (h2.mono h1.size)
theorem below_of_drew {a b : World} (h : ∃ n, b = a.drewN n) : Below a.heap.size a b := by
  obtain ⟨n, rfl⟩ := h; exact below_drewN (Below.refl _ _) n
set_option maxRecDepth 100000 in
set_option maxHeartbeats 1000000 in
theorem tells_core (r want m d v e c g x i k : Int) (h1 : ScaleIs r m d v e) (h2 : RScaleIs r m d v e) (h3 : FitIs r want c g) (h4 : RFitIs r want c g) (h5 : BelowIs r want x i) (h6 : RBelowIs r want x i) (h7 : GcdIs r want k) (h8 : RGcdIs r want k) (W : World) :
    Calls Try.prog 3 #[.int .u64 r, .int .u64 want, .int .i64 m, .int .i64 d] W fun o w' => o = .returned (.bool true) ∧ Below W.heap.size W w' := by
  go_enter Try.func3, Try.ntmps3
  go_wp2_with fail
  refine (shown_any _).mono ?_
  rintro o w1 ⟨rfl, rfl⟩
  go_wp2_with fail
  refine (h1 _).mono ?_
  rintro o w1 ⟨rfl, rfl⟩
  go_wp2_with fail
  refine (h2 _).mono ?_
  rintro o w1 ⟨rfl, rfl⟩
  go_wp2_with fail
  refine (h3 _).mono ?_
  rintro o w1 ⟨rfl, rfl⟩
  go_wp2_with fail
  refine (h4 _).mono ?_
  rintro o w1 ⟨rfl, rfl⟩
  go_wp2_with fail
  refine (h5 _).mono ?_
  rintro o w1 ⟨rfl, rfl⟩
  go_wp2_with fail
  refine (h6 _).mono ?_
  rintro o w1 ⟨rfl, rfl⟩
  go_wp2_with fail
  refine (h7 _).mono ?_
  rintro o w1 ⟨rfl, n, rfl⟩
  go_wp2_with fail
  refine (h8 _).mono ?_
  rintro o w1 ⟨rfl, rfl⟩
  go_wp2
  go_ret
  exact ⟨rfl, below_drewN (Below.refl _ _) n⟩
theorem scale_both (r : Nat) (m d : Int) : ∃ v e, ScaleIs r m d v e ∧ RScaleIs r m d v e := by
  by_cases hr : 1099511627776 < r
  · exact ⟨0, 1, scale_high _ _ _ (by omega), rscale_high _ _ _ (by omega)⟩
  · by_cases hm : m < 1 ∨ 1000 < m
    · exact ⟨0, 1, scale_mul _ _ _ (by omega) hm, rscale_mul _ _ _ (by omega) hm⟩
    · by_cases hd : d < 1 ∨ 1000 < d
      · exact ⟨0, 1, scale_div _ _ _ (by omega) (by omega) (by omega) hd, rscale_div _ _ _ (by omega) (by omega) (by omega) hd⟩
      · obtain ⟨x, rfl⟩ := Int.eq_ofNat_of_zero_le (show 0 ≤ m by omega)
        obtain ⟨y, rfl⟩ := Int.eq_ofNat_of_zero_le (show 0 ≤ d by omega)
        by_cases hq : 1099511627776 < r * x / y
        · exact ⟨0, 3, scale_range r x y (by omega) (by omega) (by omega) (by omega) (by omega) hq, rscale_range r x y (by omega) (by omega) (by omega) (by omega) (by omega) hq⟩
        · exact ⟨_, 0, scale_ok r x y (by omega) (by omega) (by omega) (by omega) (by omega) (by omega), rscale_ok r x y (by omega) (by omega) (by omega) (by omega) (by omega) (by omega)⟩
theorem below_arg (r want : Nat) (h : 1099511627776 < r ∨ want = 0) : BelowIs r want 0 1 := by
  by_cases hr : 1099511627776 < r
  · exact below_argr _ _ (by omega)
  · obtain rfl : want = 0 := by omega
    exact below_argw _ (by omega)
theorem seek_arg (r want : Nat) (b : Bool) (h : 1099511627776 < r ∨ want = 0) : SeekIs r want b 0 1 := by
  by_cases hr : 1099511627776 < r
  · exact seek_argr _ _ _ (by omega)
  · obtain rfl : want = 0 := by omega
    exact seek_argw _ _ (by omega)
/-- the answers of Below: an error, or the least divisor that leads there or below -/
theorem below_ways (r want : Nat) (hr : r ≤ 1099511627776) (hw : 1 ≤ want) :
    (∃ d : Nat, 1 ≤ d ∧ d ≤ 1000 ∧ r / d ≤ want ∧ (∀ k, 1 ≤ k → k < d → ¬ r / k ≤ want) ∧ BelowIs r want d 0) ∨ ((∀ k, 1 ≤ k → k ≤ 1000 → ¬ r / k ≤ want) ∧ BelowIs r want 0 9) := by
  rcases Rm.least (fun k => r / k ≤ want) 1000 with ⟨d, h1, h2, h3, h4⟩ | h
  · exact Or.inl ⟨d, h1, h2, h3, h4, below_ok r want d hr hw h1 h2 h3 h4⟩
  · exact Or.inr ⟨h, below_none r want hr hw h⟩
/-- both together -/
theorem fit_ways (r want : Nat) (hr : r ≤ 1099511627776) (hw : 1 ≤ want) :
    (∃ d : Nat, 1 ≤ d ∧ d ≤ 1000 ∧ r / d = want ∧ (∀ k, 1 ≤ k → k < d → ¬ r / k ≤ want) ∧ BelowIs r want d 0 ∧ FitIs r want d 0) ∨
    (∃ d : Nat, 1 ≤ d ∧ d ≤ 1000 ∧ r / d < want ∧ (∀ k, 1 ≤ k → k < d → ¬ r / k ≤ want) ∧ BelowIs r want d 0 ∧ FitIs r want 0 9) ∨
    ((∀ k, 1 ≤ k → k ≤ 1000 → ¬ r / k ≤ want) ∧ BelowIs r want 0 9 ∧ FitIs r want 0 9) := by
  rcases below_ways r want hr hw with ⟨d, h1, h2, h3, h4, h5⟩ | ⟨h, h5⟩
  · by_cases he : r / d = want
    · exact Or.inl ⟨d, h1, h2, he, h4, h5, fit_ok r want d hr h1 h2 he h5⟩
    · exact Or.inr (Or.inl ⟨d, h1, h2, by omega, h4, h5, fit_past r want d hr h1 h2 he h5⟩)
  · exact Or.inr (Or.inr ⟨h, h5, fit_err _ _ _ (by decide) h5⟩)
theorem past_none (r want d : Nat) (h1 : 1 ≤ d) (h3 : r / d < want) (h4 : ∀ k, 1 ≤ k → k < d → ¬ r / k ≤ want) (k : Nat) (hk : 1 ≤ k) : r / k ≠ want := by
  by_cases h : k < d
  · have := h4 k hk h; omega
  · have := Rm.div_anti r h1 (show d ≤ k by omega); omega
theorem fit_both (r want : Nat) : ∃ d e, FitIs r want d e ∧ RFitIs r want d e := by
  by_cases ha : 1099511627776 < r ∨ want = 0
  · exact ⟨0, 1, fit_err _ _ _ (by decide) (below_arg r want ha), rfit_of _ _ _ _ (seek_arg r want false ha)⟩
  · rcases fit_ways r want (by omega) (by omega) with ⟨d, h1, h2, h3, h4, h5, h6⟩ | ⟨d, h1, h2, h3, h4, h5, h6⟩ | ⟨h4, h5, h6⟩
    · exact ⟨d, 0, h6, rfit_of _ _ _ _ (seek_ok r want d false (by omega) (by omega) h1 h2 (Or.inl h3) (fun k a b => by unfold hit; have := h4 k a b; rintro (h | ⟨h, _⟩) <;> first | omega | cases h))⟩
    · exact ⟨0, 9, h6, rfit_of _ _ _ _ (seek_none r want false (by omega) (by omega) (fun k a b => by unfold hit; have := past_none r want d h1 h3 h4 k a; rintro (h | ⟨h, _⟩) <;> first | omega | cases h))⟩
    · exact ⟨0, 9, h6, rfit_of _ _ _ _ (seek_none r want false (by omega) (by omega) (fun k a b => by unfold hit; have := h4 k a b; rintro (h | ⟨h, _⟩) <;> first | omega | cases h))⟩
theorem below_both (r want : Nat) : ∃ d e, BelowIs r want d e ∧ RBelowIs r want d e := by
  by_cases ha : 1099511627776 < r ∨ want = 0
  · exact ⟨0, 1, below_arg r want ha, rbelow_of _ _ _ _ (seek_arg r want true ha)⟩
  · rcases below_ways r want (by omega) (by omega) with ⟨d, h1, h2, h3, h4, h5⟩ | ⟨h4, h5⟩
    · exact ⟨d, 0, h5, rbelow_of _ _ _ _ (seek_ok r want d true (by omega) (by omega) h1 h2 (by unfold hit; by_cases he : r / d = want; exact Or.inl he; exact Or.inr ⟨rfl, by omega⟩) (fun k a b => by unfold hit; have := h4 k a b; rintro (h | ⟨_, h⟩) <;> omega))⟩
    · exact ⟨0, 9, h5, rbelow_of _ _ _ _ (seek_none r want true (by omega) (by omega) (fun k a b => by unfold hit; have := h4 k a b; rintro (h | ⟨_, h⟩) <;> omega))⟩
theorem tells_walk (r want : Nat) (m d : Int) (W : World) :
    Calls Try.prog 3 #[.int .u64 r, .int .u64 want, .int .i64 m, .int .i64 d] W fun o w' => o = .returned (.bool true) ∧ Below W.heap.size W w' := by
  obtain ⟨v, e, h1, h2⟩ := scale_both r m d
  obtain ⟨c, g, h3, h4⟩ := fit_both r want
  obtain ⟨x, i, h5, h6⟩ := below_both r want
  exact tells_core r want m d v e c g x i _ h1 h2 h3 h4 h5 h6 (gcd_any r want) (rgcd_any r want) W

/-! RateFits -/
set_option maxRecDepth 100000 in
set_option maxHeartbeats 1000000 in
theorem fits_arg (r want at' : Int) (h : 1099511627776 < r ∨ want = 0) (h1 : FitIs r want 0 1) (h2 : BelowIs r want 0 1) (W : World) :
    Calls Try.prog 4 #[.int .u64 r, .int .u64 want, .int .i64 at'] W fun o w' => o = .returned (.bool true) ∧ Below W.heap.size W w' := by
  by_cases hr : 1099511627776 < r
  · clear h
    go_enter Try.func4, Try.ntmps4
    go_wp2_with fail
    refine (shown_any _).mono ?_
    rintro o w1 ⟨rfl, rfl⟩
    go_wp2_with fail
    refine (h1 _).mono ?_
    rintro o w1 ⟨rfl, rfl⟩
    go_wp2_with fail
    refine (h2 _).mono ?_
    rintro o w1 ⟨rfl, rfl⟩
    go_wp2
    go_ret
    exact ⟨rfl, Below.refl _ _⟩
  · obtain rfl : want = 0 := by omega
    clear h
    go_enter Try.func4, Try.ntmps4
    go_wp2_with fail
    refine (shown_any _).mono ?_
    rintro o w1 ⟨rfl, rfl⟩
    go_wp2_with fail
    refine (h1 _).mono ?_
    rintro o w1 ⟨rfl, rfl⟩
    go_wp2_with fail
    refine (h2 _).mono ?_
    rintro o w1 ⟨rfl, rfl⟩
    go_wp2
    go_ret
    exact ⟨rfl, Below.refl _ _⟩
set_option maxRecDepth 100000 in
set_option maxHeartbeats 1000000 in
theorem fits_ok (r want d k q : Nat) (at' j : Int) (hr : r ≤ 1099511627776) (hz : ((want : Int) == 0) = false) (hd1 : 1 ≤ d) (hd2 : d ≤ 1000) (hk1 : 1 ≤ k) (hk2 : k ≤ 1000) (hj : 1 + j = (k : Int)) (hw : want ≤ 1099511627776)
    (hq : (r : Int) / (k : Int) = (q : Int)) (hq2 : q ≤ 1099511627776) (hd : (r : Int) / (d : Int) = (want : Int)) (h3 : k < d → want < q) (h4 : d ≤ k → q ≤ want)
    (h1 : FitIs r want d 0) (h2 : BelowIs r want d 0) (h5 : PickIs at' 1000 j) (W : World) :
    Calls Try.prog 4 #[.int .u64 r, .int .u64 want, .int .i64 at'] W fun o w' => o = .returned (.bool true) ∧ Below W.heap.size W w' := by
  by_cases hk : k < d
  · have h6 := h3 hk
    clear h3 h4
    go_enter Try.func4, Try.ntmps4
    go_wp2_with fail
    refine (shown_any _).mono ?_
    rintro o w1 ⟨rfl, rfl⟩
    go_wp2_with fail
    refine (h1 _).mono ?_
    rintro o w1 ⟨rfl, rfl⟩
    go_wp2_with fail
    refine (h2 _).mono ?_
    rintro o w1 ⟨rfl, rfl⟩
    go_wp2_with fail
    refine (h5 _).mono ?_
    rintro o w1 ⟨rfl, rfl⟩
    go_wp2
    go_ret
    exact ⟨rfl, Below.refl _ _⟩
  · have h6 := h4 (by omega)
    clear h3 h4
    go_enter Try.func4, Try.ntmps4
    go_wp2_with fail
    refine (shown_any _).mono ?_
    rintro o w1 ⟨rfl, rfl⟩
    go_wp2_with fail
    refine (h1 _).mono ?_
    rintro o w1 ⟨rfl, rfl⟩
    go_wp2_with fail
    refine (h2 _).mono ?_
    rintro o w1 ⟨rfl, rfl⟩
    go_wp2_with fail
    refine (h5 _).mono ?_
    rintro o w1 ⟨rfl, rfl⟩
    go_wp2
    go_ret
    exact ⟨rfl, Below.refl _ _⟩
set_option maxRecDepth 100000 in
set_option maxHeartbeats 1000000 in
theorem fits_past (r want d k q s : Nat) (at' j : Int) (hr : r ≤ 1099511627776) (hz : ((want : Int) == 0) = false) (hd1 : 1 ≤ d) (hd2 : d ≤ 1000) (hk1 : 1 ≤ k) (hk2 : k ≤ 1000) (hj : 1 + j = (k : Int)) (hs2 : s ≤ 1099511627776)
    (hq : (r : Int) / (k : Int) = (q : Int)) (hq2 : q ≤ 1099511627776) (hd : (r : Int) / (d : Int) = (s : Int)) (hs : s ≤ want) (h3 : k < d → want < q) (h4 : d ≤ k → q ≤ want) (hne : ((q : Int) != (want : Int)) = true)
    (h1 : FitIs r want 0 9) (h2 : BelowIs r want d 0) (h5 : PickIs at' 1000 j) (W : World) :
    Calls Try.prog 4 #[.int .u64 r, .int .u64 want, .int .i64 at'] W fun o w' => o = .returned (.bool true) ∧ Below W.heap.size W w' := by
  by_cases hk : k < d
  · have h6 := h3 hk
    clear h3 h4
    go_enter Try.func4, Try.ntmps4
    go_wp2_with fail
    refine (shown_any _).mono ?_
    rintro o w1 ⟨rfl, rfl⟩
    go_wp2_with fail
    refine (h1 _).mono ?_
    rintro o w1 ⟨rfl, rfl⟩
    go_wp2_with fail
    refine (h2 _).mono ?_
    rintro o w1 ⟨rfl, rfl⟩
    go_wp2_with fail
    refine (h5 _).mono ?_
    rintro o w1 ⟨rfl, rfl⟩
    go_wp2
    go_ret
    exact ⟨rfl, Below.refl _ _⟩
  · have h6 := h4 (by omega)
    clear h3 h4
    go_enter Try.func4, Try.ntmps4
    go_wp2_with fail
    refine (shown_any _).mono ?_
    rintro o w1 ⟨rfl, rfl⟩
    go_wp2_with fail
    refine (h1 _).mono ?_
    rintro o w1 ⟨rfl, rfl⟩
    go_wp2_with fail
    refine (h2 _).mono ?_
    rintro o w1 ⟨rfl, rfl⟩
    go_wp2_with fail
    refine (h5 _).mono ?_
    rintro o w1 ⟨rfl, rfl⟩
    go_wp2
    go_ret
    exact ⟨rfl, Below.refl _ _⟩
set_option maxRecDepth 100000 in
set_option maxHeartbeats 1000000 in
theorem fits_none (r want k q : Nat) (at' j : Int) (hr : r ≤ 1099511627776) (hz : ((want : Int) == 0) = false) (hk1 : 1 ≤ k) (hk2 : k ≤ 1000) (hj : 1 + j = (k : Int))
    (hq : (r : Int) / (k : Int) = (q : Int)) (hq2 : q ≤ 1099511627776) (h3 : want < q) (hne : ((q : Int) != (want : Int)) = true)
    (h1 : FitIs r want 0 9) (h2 : BelowIs r want 0 9) (h5 : PickIs at' 1000 j) (W : World) :
    Calls Try.prog 4 #[.int .u64 r, .int .u64 want, .int .i64 at'] W fun o w' => o = .returned (.bool true) ∧ Below W.heap.size W w' := by
  go_enter Try.func4, Try.ntmps4
  go_wp2_with fail
  refine (shown_any _).mono ?_
  rintro o w1 ⟨rfl, rfl⟩
  go_wp2_with fail
  refine (h1 _).mono ?_
  rintro o w1 ⟨rfl, rfl⟩
  go_wp2_with fail
  refine (h2 _).mono ?_
  rintro o w1 ⟨rfl, rfl⟩
  go_wp2_with fail
  refine (h5 _).mono ?_
  rintro o w1 ⟨rfl, rfl⟩
  go_wp2
  go_ret
  exact ⟨rfl, Below.refl _ _⟩
theorem fits_walk (r want : Nat) (at' : Int) (ha1 : -9223372036854775808 ≤ at') (ha2 : at' ≤ 9223372036854775807) (W : World) :
    Calls Try.prog 4 #[.int .u64 r, .int .u64 want, .int .i64 at'] W fun o w' => o = .returned (.bool true) ∧ Below W.heap.size W w' := by
  by_cases ha : 1099511627776 < r ∨ want = 0
  · exact fits_arg r want at' (by omega) (fit_err _ _ _ (by decide) (below_arg r want ha)) (below_arg r want ha) W
  · have hr : r ≤ 1099511627776 := by omega
    have hw : 1 ≤ want := by omega
    have hz : ((want : Int) == 0) = false := by rw [beq_eq_false_iff_ne]; omega
    obtain ⟨j, hj, hp⟩ := pick_any at' 1000 ha1 ha2 (by omega) (by omega)
    have hjk : (1 : Int) + (j : Int) = ((j + 1 : Nat) : Int) := by omega
    have hq := div_cast r (j + 1) _ rfl
    have hq2 : r / (j + 1) ≤ 1099511627776 := Nat.le_trans (Nat.div_le_self _ _) hr
    rcases fit_ways r want hr hw with ⟨d, h1, h2, h3, h4, h5, h6⟩ | ⟨d, h1, h2, h3, h4, h5, h6⟩ | ⟨h4, h5, h6⟩
    · exact fits_ok r want d (j + 1) _ at' j hr hz h1 h2 (by omega) (by omega) hjk (by rw [← h3]; exact Nat.le_trans (Nat.div_le_self _ _) hr) hq hq2 (div_cast r d want h3)
        (fun h => by have := h4 (j + 1) (by omega) h; omega) (fun h => by have := Rm.div_anti r h1 h; omega) h6 h5 hp W
    · exact fits_past r want d (j + 1) _ _ at' j hr hz h1 h2 (by omega) (by omega) hjk (Nat.le_trans (Nat.div_le_self _ _) hr) hq hq2 (div_cast r d _ rfl) (by omega)
        (fun h => by have := h4 (j + 1) (by omega) h; omega) (fun h => by have := Rm.div_anti r h1 h; omega) (by have := past_none r want d h1 h3 h4 (j + 1) (by omega); rw [bne_iff_ne]; omega) h6 h5 hp W
    · have := h4 (j + 1) (by omega) (by omega)
      exact fits_none r want (j + 1) _ at' j hr hz (by omega) (by omega) hjk hq hq2 (by omega) (by rw [bne_iff_ne]; omega) h6 h5 hp W
end Go.Proofs.Ythjlojdjjffflaa
