/- RateScales, RateSteps, RateWhole, RateCommon out of the contracts. -/
import Derived.Test.YthjlojdjjffflaaL1
namespace Go.Proofs.Ythjlojdjjffflaa
open Go.RowKit

def GcdB (a b g : Int) : Prop := ∀ W : World, Calls Try.prog 18 #[.int .u64 a, .int .u64 b] W fun o w' => o = .returned (.int .u64 g) ∧ Below W.heap.size W w'
theorem gcdB {a b g : Int} (h : GcdIs a b g) : GcdB a b g := fun W => (h W).mono fun _ _ ⟨h1, h2⟩ => ⟨h1, below_of_drew h2⟩
theorem gcd_to (a b g : Nat) (h : Nat.gcd a b = g) : GcdIs a b g := by subst h; exact gcd_any a b
theorem scale_to (r m d v : Nat) (hr : r ≤ 1099511627776) (h1 : 1 ≤ m) (h2 : m ≤ 1000) (h3 : 1 ≤ d) (h4 : d ≤ 1000) (h : r * m / d = v) (hv : v ≤ 1099511627776) : ScaleIs r m d v 0 := by
  subst h; exact scale_ok r m d hr h1 h2 h3 h4 hv
set_option maxRecDepth 100000 in
set_option maxHeartbeats 1000000 in
theorem scales_core (r n x y u t z : Nat) (a b i j : Int) (hn : (r : Int) % 1073741824 = (n : Int)) (hi : 1 + i = (x : Int)) (hj : 1 + j = (y : Int)) (hy1 : 1 ≤ y) (hx1 : 1 ≤ x) (hx : x ≤ 1000) (hy : y ≤ 1000) (hu : u ≤ 1099511627776)
    (ht : (t : Int) * (y : Int) = (z : Int)) (hz1 : z ≤ u) (hz2 : u - z < y) (p1 : PickIs a 1000 i) (p2 : PickIs b 1000 j) (h1 : ScaleIs n x 1 u 0) (h2 : ScaleIs u 1 x n 0) (h3 : ScaleIs n x y t 0) (h4 : ScaleIs n x x n 0)
    (h5 : ScaleIs 1099511627776 2 1 0 3) (h6 : ScaleIs 1099511627777 1 1 0 1) (W : World) :
    Calls Try.prog 5 #[.int .u64 r, .int .i64 a, .int .i64 b] W fun o w' => o = .returned (.bool true) ∧ Below W.heap.size W w' := by
  have hz3 : decide ((u : Int) - (z : Int) < (y : Int)) = true := by simp; omega
  clear hz2
  go_enter Try.func5, Try.ntmps5
  go_wp2_with fail
  refine (shown_any _).mono ?_
  rintro o w1 ⟨rfl, rfl⟩
  go_wp2_with fail
  refine (p1 _).mono ?_
  rintro o w1 ⟨rfl, rfl⟩
  go_wp2_with fail
  refine (p2 _).mono ?_
  rintro o w1 ⟨rfl, rfl⟩
  go_wp2_with fail
  refine (h1 _).mono ?_
  rintro o w1 ⟨rfl, rfl⟩
  go_wp2_with fail
  refine (h2 _).mono ?_
  rintro o w1 ⟨rfl, rfl⟩
  go_wp2_with fail
  refine (h3 _).mono ?_
  rintro o w1 ⟨rfl, rfl⟩
  go_wp2_with fail
  refine (h4 _).mono ?_
  rintro o w1 ⟨rfl, rfl⟩
  go_wp2_with fail
  refine (h5 _).mono ?_
  rintro o w1 ⟨rfl, rfl⟩
  go_wp2_with fail
  refine (h6 _).mono ?_
  rintro o w1 ⟨rfl, rfl⟩
  go_wp2
  go_ret
  exact ⟨rfl, Below.refl _ _⟩
theorem scales_walk (r : Nat) (a b : Int) (ha1 : -9223372036854775808 ≤ a) (ha2 : a ≤ 9223372036854775807) (hb1 : -9223372036854775808 ≤ b) (hb2 : b ≤ 9223372036854775807) (W : World) :
    Calls Try.prog 5 #[.int .u64 r, .int .i64 a, .int .i64 b] W fun o w' => o = .returned (.bool true) ∧ Below W.heap.size W w' := by
  obtain ⟨i, hi, p1⟩ := pick_any a 1000 ha1 ha2 (by omega) (by omega)
  obtain ⟨j, hj, p2⟩ := pick_any b 1000 hb1 hb2 (by omega) (by omega)
  have hn : r % 1073741824 < 1073741824 := Nat.mod_lt _ (by omega)
  generalize hn' : r % 1073741824 = n at hn
  have hu : n * (i + 1) ≤ 1099511627776 := Nat.le_trans (Nat.mul_le_mul (Nat.le_of_lt hn) (show i + 1 ≤ 1000 by omega)) (by omega)
  have ht := Nat.div_mul_le_self (n * (i + 1)) (j + 1)
  have hm := Nat.mod_lt (n * (i + 1)) (show j + 1 > 0 by omega)
  have hd := Nat.mod_add_div' (n * (i + 1)) (j + 1)
  have hq := Nat.div_le_self (n * (i + 1)) (j + 1)
  refine scales_core r n (i + 1) (j + 1) (n * (i + 1)) (n * (i + 1) / (j + 1)) (n * (i + 1) / (j + 1) * (j + 1)) a b i j (by rw [← hn']; simp) (by omega) (by omega) (by omega) (by omega) (by omega) (by omega) hu (by simp) ht (by omega) p1 p2
    (scale_to n (i + 1) 1 _ (by omega) (by omega) (by omega) (by omega) (by omega) (Nat.div_one _) hu)
    (scale_to _ 1 (i + 1) n hu (by omega) (by omega) (by omega) (by omega) (by rw [Nat.mul_one]; exact Nat.mul_div_cancel _ (by omega)) (by omega))
    (scale_to n (i + 1) (j + 1) _ (by omega) (by omega) (by omega) (by omega) (by omega) rfl (by omega))
    (scale_to n (i + 1) (i + 1) n (by omega) (by omega) (by omega) (by omega) (by omega) (Nat.mul_div_cancel _ (by omega)) (by omega))
    (scale_range 1099511627776 2 1 (by omega) (by omega) (by omega) (by omega) (by omega) (by omega)) (scale_high _ _ _ (by omega)) W

/-! RateSteps -/
set_option maxRecDepth 100000 in
set_option maxHeartbeats 1000000 in
theorem steps_arg (r n k : Nat) (a j : Int) (hn : (r : Int) % 1099511627777 = (n : Int)) (hn2 : n ≤ 1099511627776) (hj : 1 + j = (k : Int)) (hk1 : 1 ≤ k) (hk : k ≤ 1000) (hq : (n : Int) / (k : Int) = 0) (p1 : PickIs a 1000 j) (h1 : FitIs n 0 0 1) (W : World) :
    Calls Try.prog 7 #[.int .u64 r, .int .i64 a] W fun o w' => o = .returned (.bool true) ∧ Below W.heap.size W w' := by
  go_enter Try.func7, Try.ntmps7
  go_wp2_with fail
  refine (shown_any _).mono ?_
  rintro o w1 ⟨rfl, rfl⟩
  go_wp2_with fail
  refine (p1 _).mono ?_
  rintro o w1 ⟨rfl, rfl⟩
  go_wp2_with fail
  refine (h1 _).mono ?_
  rintro o w1 ⟨rfl, rfl⟩
  go_wp2
  go_ret
  exact ⟨rfl, Below.refl _ _⟩
set_option maxRecDepth 100000 in
set_option maxHeartbeats 1000000 in
theorem steps_ok (r n k q d c s : Nat) (a j : Int) (hn : (r : Int) % 1099511627777 = (n : Int)) (hn2 : n ≤ 1099511627776) (hj : 1 + j = (k : Int)) (hk1 : 1 ≤ k) (hk : k ≤ 1000) (hq : (n : Int) / (k : Int) = (q : Int)) (hq2 : q ≤ 1099511627776) (hz : ((q : Int) == 0) = false)
    (hd1 : 2 ≤ d) (hdk : d ≤ k) (hd : (n : Int) / (d : Int) = (q : Int)) (hc : (d : Int) - 1 = (c : Int)) (hc1 : 1 ≤ c) (hc2 : c ≤ 1000) (hs : (n : Int) / (c : Int) = (s : Int)) (hs2 : s ≤ 1099511627776) (hsq : q < s)
    (p1 : PickIs a 1000 j) (h1 : FitIs n q d 0) (h2 : BelowIs n q d 0) (W : World) :
    Calls Try.prog 7 #[.int .u64 r, .int .i64 a] W fun o w' => o = .returned (.bool true) ∧ Below W.heap.size W w' := by
  have hd2 : ((d : Int) == 1) = false := by rw [beq_eq_false_iff_ne]; omega
  go_enter Try.func7, Try.ntmps7
  go_wp2_with fail
  refine (shown_any _).mono ?_
  rintro o w1 ⟨rfl, rfl⟩
  go_wp2_with fail
  refine (p1 _).mono ?_
  rintro o w1 ⟨rfl, rfl⟩
  go_wp2_with fail
  refine (h1 _).mono ?_
  rintro o w1 ⟨rfl, rfl⟩
  go_wp2_with fail
  refine (h2 _).mono ?_
  rintro o w1 ⟨rfl, rfl⟩
  go_wp2
  go_ret
  exact ⟨rfl, Below.refl _ _⟩
set_option maxRecDepth 100000 in
set_option maxHeartbeats 1000000 in
theorem steps_one (r n k : Nat) (a j : Int) (hn : (r : Int) % 1099511627777 = (n : Int)) (hn2 : n ≤ 1099511627776) (hj : 1 + j = (k : Int)) (hk1 : 1 ≤ k) (hk : k ≤ 1000) (hq : (n : Int) / (k : Int) = (n : Int)) (hz : ((n : Int) == 0) = false)
    (p1 : PickIs a 1000 j) (h1 : FitIs n n 1 0) (h2 : BelowIs n n 1 0) (W : World) :
    Calls Try.prog 7 #[.int .u64 r, .int .i64 a] W fun o w' => o = .returned (.bool true) ∧ Below W.heap.size W w' := by
  go_enter Try.func7, Try.ntmps7
  go_wp2_with fail
  refine (shown_any _).mono ?_
  rintro o w1 ⟨rfl, rfl⟩
  go_wp2_with fail
  refine (p1 _).mono ?_
  rintro o w1 ⟨rfl, rfl⟩
  go_wp2_with fail
  refine (h1 _).mono ?_
  rintro o w1 ⟨rfl, rfl⟩
  go_wp2_with fail
  refine (h2 _).mono ?_
  rintro o w1 ⟨rfl, rfl⟩
  go_wp2
  go_ret
  exact ⟨rfl, Below.refl _ _⟩
theorem steps_walk (r : Nat) (a : Int) (ha1 : -9223372036854775808 ≤ a) (ha2 : a ≤ 9223372036854775807) (W : World) :
    Calls Try.prog 7 #[.int .u64 r, .int .i64 a] W fun o w' => o = .returned (.bool true) ∧ Below W.heap.size W w' := by
  obtain ⟨j, hj, p1⟩ := pick_any a 1000 ha1 ha2 (by omega) (by omega)
  have hn : r % 1099511627777 < 1099511627777 := Nat.mod_lt _ (by omega)
  have hn' : (r : Int) % 1099511627777 = ((r % 1099511627777 : Nat) : Int) := by simp
  generalize r % 1099511627777 = n at hn hn'
  have hjk : (1 : Int) + (j : Int) = ((j + 1 : Nat) : Int) := by omega
  by_cases h0 : n / (j + 1) = 0
  · exact steps_arg r n (j + 1) a j hn' (by omega) hjk (by omega) (by omega) (by rw [div_cast _ _ _ h0]; rfl) p1 (fit_err _ _ _ (by decide) (below_arg n 0 (Or.inr rfl))) W
  · have hq2 : n / (j + 1) ≤ 1099511627776 := Nat.le_trans (Nat.div_le_self _ _) (by omega)
    have hz : (((n / (j + 1) : Nat) : Int) == 0) = false := by rw [beq_eq_false_iff_ne]; omega
    rcases fit_ways n (n / (j + 1)) (by omega) (Nat.pos_of_ne_zero h0) with ⟨d, h1, h2, h3, h4, h5, h6⟩ | ⟨d, h1, h2, h3, h4, h5, h6⟩ | ⟨h4, h5, h6⟩
    · have hdk : d ≤ j + 1 := by
        rcases Nat.lt_or_ge (j + 1) d with h | h
        · exact absurd (Nat.le_refl _) (h4 (j + 1) (by omega) h)
        · exact h
      by_cases hd : d = 1
      · subst hd
        rw [Nat.div_one] at h3
        rw [← h3] at hz h5 h6
        exact steps_one r n (j + 1) a j hn' (by omega) hjk (by omega) (by omega) (div_cast _ _ _ h3.symm) hz p1 h6 h5 W
      · have := h4 (d - 1) (by omega) (by omega)
        exact steps_ok r n (j + 1) _ d (d - 1) (n / (d - 1)) a j hn' (by omega) hjk (by omega) (by omega) (div_cast _ _ _ rfl) hq2 hz (by omega) hdk (div_cast _ _ _ h3) (by omega) (by omega) (by omega) (div_cast _ _ _ rfl) (Nat.le_trans (Nat.div_le_self _ _) (by omega)) (by omega) p1 h6 h5 W
    · exact absurd rfl (past_none n _ d h1 h3 h4 (j + 1) (by omega))
    · exact absurd (Nat.le_refl _) (h4 (j + 1) (by omega) (by omega))

/-! RateWhole -/
set_option maxRecDepth 100000 in
set_option maxHeartbeats 1000000 in
theorem whole_core (r r0 q k n d : Nat) (a j : Int) (hr : (r : Int) % 1000000000 = (r0 : Int)) (hr0 : r0 < 1000000000) (hq : 1 + (r0 : Int) = (q : Int)) (hq1 : 1 ≤ q) (hq2 : q ≤ 1000000000) (hj : 1 + j = (k : Int)) (hk1 : 1 ≤ k) (hk : k ≤ 1000) (hn : (q : Int) * (k : Int) = (n : Int)) (hn2 : n ≤ 1000000000000)
    (hd1 : 1 ≤ d) (hdk : d ≤ k) (hd : (n : Int) / (d : Int) = (q : Int)) (p1 : PickIs a 1000 j) (h1 : FitIs n q d 0) (h2 : BelowIs n q d 0) (h3 : ScaleIs q k 1 n 0) (g1 : GcdB n q q) (g2 : GcdB n k k) (W : World) :
    Calls Try.prog 10 #[.int .u64 r, .int .i64 a] W fun o w' => o = .returned (.bool true) ∧ Below W.heap.size W w' := by
  go_enter Try.func10, Try.ntmps10
  go_wp2_with fail
  refine (shown_any _).mono ?_
  rintro o w1 ⟨rfl, rfl⟩
  go_wp2_with fail
  refine (p1 _).mono ?_
  rintro o w1 ⟨rfl, rfl⟩
  go_wp2_with fail
  refine (h1 _).mono ?_
  rintro o w1 ⟨rfl, rfl⟩
  go_wp2_with fail
  refine (h2 _).mono ?_
  rintro o w1 ⟨rfl, rfl⟩
  go_wp2_with fail
  refine (h3 _).mono ?_
  rintro o w1 ⟨rfl, rfl⟩
  go_wp2_with fail
  refine (g1 _).mono ?_
  rintro o w1 ⟨rfl, B1⟩
  go_wp2_with fail
  refine (g2 _).mono ?_
  rintro o w2 ⟨rfl, B2⟩
  go_wp2
  go_ret
  exact ⟨rfl, below2 B1 B2⟩
theorem whole_walk (r : Nat) (a : Int) (ha1 : -9223372036854775808 ≤ a) (ha2 : a ≤ 9223372036854775807) (W : World) :
    Calls Try.prog 10 #[.int .u64 r, .int .i64 a] W fun o w' => o = .returned (.bool true) ∧ Below W.heap.size W w' := by
  obtain ⟨j, hj, p1⟩ := pick_any a 1000 ha1 ha2 (by omega) (by omega)
  have hr : r % 1000000000 < 1000000000 := Nat.mod_lt _ (by omega)
  have hr' : (r : Int) % 1000000000 = ((r % 1000000000 : Nat) : Int) := by simp
  generalize r % 1000000000 = r0 at hr hr'
  have hn2 : (r0 + 1) * (j + 1) ≤ 1000000000 * 1000 := Nat.mul_le_mul (by omega) (by omega)
  have hnq : (r0 + 1) * (j + 1) / (j + 1) = r0 + 1 := Nat.mul_div_cancel _ (by omega)
  rcases fit_ways ((r0 + 1) * (j + 1)) (r0 + 1) (by omega) (by omega) with ⟨d, h1, h2, h3, h4, h5, h6⟩ | ⟨d, h1, h2, h3, h4, h5, h6⟩ | ⟨h4, h5, h6⟩
  · have hdk : d ≤ j + 1 := by
      rcases Nat.lt_or_ge (j + 1) d with h | h
      · exact absurd (Nat.le_of_eq hnq) (h4 (j + 1) (by omega) h)
      · exact h
    exact whole_core r r0 (r0 + 1) (j + 1) _ d a j hr' hr (by omega) (by omega) (by omega) (by omega) (by omega) (by omega) (by simp) (by omega) h1 hdk (div_cast _ _ _ h3) p1 h6 h5
      (scale_to (r0 + 1) (j + 1) 1 _ (by omega) (by omega) (by omega) (by omega) (by omega) (Nat.div_one _) (by omega))
      (gcdB (gcd_to _ _ _ (Nat.gcd_eq_right (Nat.dvd_mul_right _ _)))) (gcdB (gcd_to _ _ _ (Nat.gcd_eq_right (Nat.dvd_mul_left _ _)))) W
  · exact absurd hnq (past_none _ _ d h1 h3 h4 (j + 1) (by omega))
  · exact absurd (Nat.le_of_eq hnq) (h4 (j + 1) (by omega) (by omega))

/-! RateCommon -/
set_option maxRecDepth 100000 in
set_option maxHeartbeats 1000000 in
theorem common_core (a b p q m d pm qm g gm one two dd : Nat) (x y i j : Int) (hp : (a : Int) % 100000000 = (p : Int)) (hq : (b : Int) % 100000000 = (q : Int)) (hp2 : p < 100000000) (hq2 : q < 100000000) (hi : 1 + i = (m : Int)) (hm1 : 1 ≤ m) (hm : m ≤ 1000) (hj : 1 + j = (d : Int)) (hd1 : 1 ≤ d) (hd : d ≤ 31)
    (hpm : (p : Int) * (m : Int) = (pm : Int)) (hpm2 : pm ≤ 100000000000) (hqm : (q : Int) * (m : Int) = (qm : Int)) (hqm2 : qm ≤ 100000000000) (hg : (g : Int) * (m : Int) = (gm : Int)) (hg2 : gm ≤ 100000000000) (hdd : (d : Int) * (d : Int) = (dd : Int)) (hdd2 : dd ≤ 1000) (hle : two ≤ one)
    (p1 : PickIs x 1000 i) (p2 : PickIs y 31 j) (g1 : GcdB pm qm gm) (g2 : GcdB p q g) (h1 : ScaleIs p 1 d one 0) (h2 : ScaleIs one 1 d two 0) (h3 : ScaleIs p 1 dd two 0) (W : World) :
    Calls Try.prog 9 #[.int .u64 a, .int .u64 b, .int .i64 x, .int .i64 y] W fun o w' => o = .returned (.bool true) ∧ Below W.heap.size W w' := by
  go_enter Try.func9, Try.ntmps9
  go_wp2_with fail
  refine (shown_any _).mono ?_
  rintro o w1 ⟨rfl, rfl⟩
  go_wp2_with fail
  refine (p1 _).mono ?_
  rintro o w1 ⟨rfl, rfl⟩
  go_wp2_with fail
  refine (p2 _).mono ?_
  rintro o w1 ⟨rfl, rfl⟩
  go_wp2_with fail
  refine (g1 _).mono ?_
  rintro o w1 ⟨rfl, B1⟩
  go_wp2_with fail
  refine (g2 _).mono ?_
  rintro o w2 ⟨rfl, B2⟩
  go_wp2_with fail
  refine (h1 _).mono ?_
  rintro o w3 ⟨rfl, rfl⟩
  go_wp2_with fail
  refine (h2 _).mono ?_
  rintro o w3 ⟨rfl, rfl⟩
  go_wp2_with fail
  refine (h3 _).mono ?_
  rintro o w3 ⟨rfl, rfl⟩
  go_wp2
  go_ret
  exact ⟨rfl, below2 B1 B2⟩
theorem gcd_low (p q n : Nat) (hp : p ≤ n) (hq : q ≤ n) : Nat.gcd p q ≤ n := by
  by_cases h : p = 0
  · subst h; rw [Nat.gcd_zero_left]; exact hq
  · exact Nat.le_trans (Nat.gcd_le_left q (by omega)) hp
theorem common_walk (a b : Nat) (x y : Int) (ha1 : -9223372036854775808 ≤ x) (ha2 : x ≤ 9223372036854775807) (hb1 : -9223372036854775808 ≤ y) (hb2 : y ≤ 9223372036854775807) (W : World) :
    Calls Try.prog 9 #[.int .u64 a, .int .u64 b, .int .i64 x, .int .i64 y] W fun o w' => o = .returned (.bool true) ∧ Below W.heap.size W w' := by
  obtain ⟨i, hi, p1⟩ := pick_any x 1000 ha1 ha2 (by omega) (by omega)
  obtain ⟨j, hj, p2⟩ := pick_any y 31 hb1 hb2 (by omega) (by omega)
  have hp : a % 100000000 < 100000000 := Nat.mod_lt _ (by omega)
  have hp' : (a : Int) % 100000000 = ((a % 100000000 : Nat) : Int) := by simp
  have hq : b % 100000000 < 100000000 := Nat.mod_lt _ (by omega)
  have hq' : (b : Int) % 100000000 = ((b % 100000000 : Nat) : Int) := by simp
  generalize a % 100000000 = p at hp hp'
  generalize b % 100000000 = q at hq hq'
  have b1 : p * (i + 1) ≤ 100000000 * 1000 := Nat.mul_le_mul (by omega) (by omega)
  have b2 : q * (i + 1) ≤ 100000000 * 1000 := Nat.mul_le_mul (by omega) (by omega)
  have b3 : Nat.gcd p q * (i + 1) ≤ 100000000 * 1000 := Nat.mul_le_mul (gcd_low p q _ (by omega) (by omega)) (by omega)
  have b4 : (j + 1) * (j + 1) ≤ 31 * 31 := Nat.mul_le_mul (by omega) (by omega)
  have b5 : p / (j + 1) ≤ p := Nat.div_le_self _ _
  have b6 : p / (j + 1) / (j + 1) ≤ p / (j + 1) := Nat.div_le_self _ _
  exact common_core a b p q (i + 1) (j + 1) _ _ (Nat.gcd p q) _ (p / (j + 1)) (p / (j + 1) / (j + 1)) _ x y i j hp' hq' hp hq (by omega) (by omega) (by omega) (by omega) (by omega) (by omega) (Int.natCast_mul _ _).symm (by omega) (Int.natCast_mul _ _).symm (by omega) (Int.natCast_mul _ _).symm (by omega) (Int.natCast_mul _ _).symm (by omega) b6 p1 p2
    (gcdB (gcd_to _ _ _ (Nat.gcd_mul_right _ _ _))) (gcdB (gcd_any p q))
    (scale_to p 1 (j + 1) _ (by omega) (by omega) (by omega) (by omega) (by omega) (by rw [Nat.mul_one]) (by omega))
    (scale_to _ 1 (j + 1) _ (by omega) (by omega) (by omega) (by omega) (by omega) (by rw [Nat.mul_one]) (by omega))
    (scale_to p 1 _ _ (by omega) (by omega) (by omega) (Nat.mul_pos (by omega) (by omega)) (by omega) (by rw [Nat.mul_one, Nat.div_div_eq_div_mul]) (by omega)) W
end Go.Proofs.Ythjlojdjjffflaa
