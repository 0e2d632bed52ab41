/- RateMonotone out of the contracts. -/
import Derived.Test.YthjlojdjjffflaaL2
namespace Go.Proofs.Ythjlojdjjffflaa
open Go.RowKit
set_option linter.unusedVariables false
/-- how a call of Scale that is no less than another one ends: with no less, or beyond the greatest rate -/
def Up (s t e : Int) : Prop := (e = 0 ∧ s ≤ t) ∨ (e = 3 ∧ t = 0)
set_option maxRecDepth 100000 in
set_option maxHeartbeats 8000000 in
theorem mono_low_more_ok (a b p q z n a' b' m d : Nat) (x y i j t u v f g h : Int) (ha : (a : Int) % 1099511627777 = (a' : Int)) (hb : (b : Int) % 1099511627777 = (b' : Int)) (ha2 : a' ≤ 1099511627776) (hb2 : b' ≤ 1099511627776) (hi : 1 + i = (m : Int)) (hj : 1 + j = (d : Int)) (hm1 : 1 ≤ m) (hm : m ≤ 999) (hd1 : 2 ≤ d) (hd : d ≤ 1000)
    (hp : (if b' < a' then (b' : Int) else (a' : Int)) = (p : Int)) (hq : (if a' < b' then (b' : Int) else (a' : Int)) = (q : Int)) (hp2 : p ≤ 1099511627776)
    (hz : (p : Int) * (m : Int) = (z : Int)) (hz2 : z ≤ 1099511627776000) (hn : (z : Int) / (d : Int) = (n : Int)) (hn2 : n ≤ 1099511627776000) (hn3 : n ≤ 1099511627776)
    (c1 : Up n t f) (c2 : Up n u g) (c3 : Up n v h)
    (p1 : PickIs x 1000 i) (p2 : PickIs y 1000 j) (h1 : ScaleIs p (m : Int) (d : Int) (n : Int) 0) (h2 : ScaleIs q (m : Int) (d : Int) t f) (h3 : ScaleIs p ((m : Int) + 1) (d : Int) u g) (h4 : ScaleIs p (m : Int) ((d : Int) - 1) v h) (W : World) :
    Calls Try.prog 8 #[.int .u64 a, .int .u64 b, .int .i64 x, .int .i64 y] W fun o w' => o = .returned (.bool true) ∧ Below W.heap.size W w' := by
  unfold Up at c1 c2 c3
  rcases c1 with ⟨rfl, c1⟩ | ⟨rfl, rfl⟩ <;> rcases c2 with ⟨rfl, c2⟩ | ⟨rfl, rfl⟩ <;> rcases c3 with ⟨rfl, c3⟩ | ⟨rfl, rfl⟩
  all_goals
    go_enter Try.func8, Try.ntmps8
    go_wp2_with fail
    refine (shown_any _).mono ?_
    rintro o w1 ⟨rfl, rfl⟩
    go_wp2_with fail
    refine (p1 _).mono ?_
    rintro o w1 ⟨rfl, rfl⟩
    go_wp2_with fail
    refine (p2 _).mono ?_
    rintro o w1 ⟨rfl, rfl⟩
    go_wp2_with fail
    refine (h1 _).mono ?_
    rintro o w1 ⟨rfl, rfl⟩
    go_wp2_with fail
    refine (h2 _).mono ?_
    rintro o w1 ⟨rfl, rfl⟩
    go_wp2_with fail
    refine (h3 _).mono ?_
    rintro o w1 ⟨rfl, rfl⟩
    go_wp2_with fail
    refine (h4 _).mono ?_
    rintro o w1 ⟨rfl, rfl⟩
    go_wp2
    go_ret
    exact ⟨rfl, Below.refl _ _⟩
set_option maxRecDepth 100000 in
set_option maxHeartbeats 8000000 in
theorem mono_low_more_high (a b p q z n a' b' m d : Nat) (x y i j : Int) (ha : (a : Int) % 1099511627777 = (a' : Int)) (hb : (b : Int) % 1099511627777 = (b' : Int)) (ha2 : a' ≤ 1099511627776) (hb2 : b' ≤ 1099511627776) (hi : 1 + i = (m : Int)) (hj : 1 + j = (d : Int)) (hm1 : 1 ≤ m) (hm : m ≤ 999) (hd1 : 2 ≤ d) (hd : d ≤ 1000)
    (hp : (if b' < a' then (b' : Int) else (a' : Int)) = (p : Int)) (hq : (if a' < b' then (b' : Int) else (a' : Int)) = (q : Int)) (hp2 : p ≤ 1099511627776)
    (hz : (p : Int) * (m : Int) = (z : Int)) (hz2 : z ≤ 1099511627776000) (hn : (z : Int) / (d : Int) = (n : Int)) (hn2 : n ≤ 1099511627776000) (hn3 : 1099511627776 < n)
    (p1 : PickIs x 1000 i) (p2 : PickIs y 1000 j) (h1 : ScaleIs p (m : Int) (d : Int) 0 3) (h2 : ScaleIs q (m : Int) (d : Int) 0 3) (h3 : ScaleIs p ((m : Int) + 1) (d : Int) 0 3) (h4 : ScaleIs p (m : Int) ((d : Int) - 1) 0 3) (W : World) :
    Calls Try.prog 8 #[.int .u64 a, .int .u64 b, .int .i64 x, .int .i64 y] W fun o w' => o = .returned (.bool true) ∧ Below W.heap.size W w' := by
  go_enter Try.func8, Try.ntmps8
  go_wp2_with fail
  refine (shown_any _).mono ?_
  rintro o w1 ⟨rfl, rfl⟩
  go_wp2_with fail
  refine (p1 _).mono ?_
  rintro o w1 ⟨rfl, rfl⟩
  go_wp2_with fail
  refine (p2 _).mono ?_
  rintro o w1 ⟨rfl, rfl⟩
  go_wp2_with fail
  refine (h1 _).mono ?_
  rintro o w1 ⟨rfl, rfl⟩
  go_wp2_with fail
  refine (h2 _).mono ?_
  rintro o w1 ⟨rfl, rfl⟩
  go_wp2_with fail
  refine (h3 _).mono ?_
  rintro o w1 ⟨rfl, rfl⟩
  go_wp2_with fail
  refine (h4 _).mono ?_
  rintro o w1 ⟨rfl, rfl⟩
  go_wp2
  go_ret
  exact ⟨by show Ending.returned (Value.bool !decide ((n : Int) ≤ 1099511627776)) = _; rw [decide_eq_false (by omega)]; rfl, Below.refl _ _⟩
set_option maxRecDepth 100000 in
set_option maxHeartbeats 8000000 in
theorem mono_low_one_ok (a b p q z n a' b' m : Nat) (x y i j t u v f g h : Int) (ha : (a : Int) % 1099511627777 = (a' : Int)) (hb : (b : Int) % 1099511627777 = (b' : Int)) (ha2 : a' ≤ 1099511627776) (hb2 : b' ≤ 1099511627776) (hi : 1 + i = (m : Int)) (hj : 1 + j = 1) (hm1 : 1 ≤ m) (hm : m ≤ 999)
    (hp : (if b' < a' then (b' : Int) else (a' : Int)) = (p : Int)) (hq : (if a' < b' then (b' : Int) else (a' : Int)) = (q : Int)) (hp2 : p ≤ 1099511627776)
    (hz : (p : Int) * (m : Int) = (z : Int)) (hz2 : z ≤ 1099511627776000) (hn3 : z ≤ 1099511627776)
    (c1 : Up z t f) (c2 : Up z u g) (c3 : Up z v h)
    (p1 : PickIs x 1000 i) (p2 : PickIs y 1000 j) (h1 : ScaleIs p (m : Int) 1 (z : Int) 0) (h2 : ScaleIs q (m : Int) 1 t f) (h3 : ScaleIs p ((m : Int) + 1) 1 u g) (h4 : ScaleIs p (m : Int) 1 v h) (W : World) :
    Calls Try.prog 8 #[.int .u64 a, .int .u64 b, .int .i64 x, .int .i64 y] W fun o w' => o = .returned (.bool true) ∧ Below W.heap.size W w' := by
  unfold Up at c1 c2 c3
  rcases c1 with ⟨rfl, c1⟩ | ⟨rfl, rfl⟩ <;> rcases c2 with ⟨rfl, c2⟩ | ⟨rfl, rfl⟩ <;> rcases c3 with ⟨rfl, c3⟩ | ⟨rfl, rfl⟩
  all_goals
    go_enter Try.func8, Try.ntmps8
    go_wp2_with fail
    refine (shown_any _).mono ?_
    rintro o w1 ⟨rfl, rfl⟩
    go_wp2_with fail
    refine (p1 _).mono ?_
    rintro o w1 ⟨rfl, rfl⟩
    go_wp2_with fail
    refine (p2 _).mono ?_
    rintro o w1 ⟨rfl, rfl⟩
    go_wp2_with fail
    refine (h1 _).mono ?_
    rintro o w1 ⟨rfl, rfl⟩
    go_wp2_with fail
    refine (h2 _).mono ?_
    rintro o w1 ⟨rfl, rfl⟩
    go_wp2_with fail
    refine (h3 _).mono ?_
    rintro o w1 ⟨rfl, rfl⟩
    go_wp2_with fail
    refine (h4 _).mono ?_
    rintro o w1 ⟨rfl, rfl⟩
    go_wp2
    go_ret
    exact ⟨rfl, Below.refl _ _⟩
set_option maxRecDepth 100000 in
set_option maxHeartbeats 8000000 in
theorem mono_low_one_high (a b p q z n a' b' m : Nat) (x y i j : Int) (ha : (a : Int) % 1099511627777 = (a' : Int)) (hb : (b : Int) % 1099511627777 = (b' : Int)) (ha2 : a' ≤ 1099511627776) (hb2 : b' ≤ 1099511627776) (hi : 1 + i = (m : Int)) (hj : 1 + j = 1) (hm1 : 1 ≤ m) (hm : m ≤ 999)
    (hp : (if b' < a' then (b' : Int) else (a' : Int)) = (p : Int)) (hq : (if a' < b' then (b' : Int) else (a' : Int)) = (q : Int)) (hp2 : p ≤ 1099511627776)
    (hz : (p : Int) * (m : Int) = (z : Int)) (hz2 : z ≤ 1099511627776000) (hn3 : 1099511627776 < z)
    (p1 : PickIs x 1000 i) (p2 : PickIs y 1000 j) (h1 : ScaleIs p (m : Int) 1 0 3) (h2 : ScaleIs q (m : Int) 1 0 3) (h3 : ScaleIs p ((m : Int) + 1) 1 0 3) (h4 : ScaleIs p (m : Int) 1 0 3) (W : World) :
    Calls Try.prog 8 #[.int .u64 a, .int .u64 b, .int .i64 x, .int .i64 y] W fun o w' => o = .returned (.bool true) ∧ Below W.heap.size W w' := by
  go_enter Try.func8, Try.ntmps8
  go_wp2_with fail
  refine (shown_any _).mono ?_
  rintro o w1 ⟨rfl, rfl⟩
  go_wp2_with fail
  refine (p1 _).mono ?_
  rintro o w1 ⟨rfl, rfl⟩
  go_wp2_with fail
  refine (p2 _).mono ?_
  rintro o w1 ⟨rfl, rfl⟩
  go_wp2_with fail
  refine (h1 _).mono ?_
  rintro o w1 ⟨rfl, rfl⟩
  go_wp2_with fail
  refine (h2 _).mono ?_
  rintro o w1 ⟨rfl, rfl⟩
  go_wp2_with fail
  refine (h3 _).mono ?_
  rintro o w1 ⟨rfl, rfl⟩
  go_wp2_with fail
  refine (h4 _).mono ?_
  rintro o w1 ⟨rfl, rfl⟩
  go_wp2
  go_ret
  exact ⟨by show Ending.returned (Value.bool !decide ((z : Int) ≤ 1099511627776)) = _; rw [decide_eq_false (by omega)]; rfl, Below.refl _ _⟩
set_option maxRecDepth 100000 in
set_option maxHeartbeats 8000000 in
theorem mono_top_more_ok (a b p q z n a' b' d : Nat) (x y i j t u v f g h : Int) (ha : (a : Int) % 1099511627777 = (a' : Int)) (hb : (b : Int) % 1099511627777 = (b' : Int)) (ha2 : a' ≤ 1099511627776) (hb2 : b' ≤ 1099511627776) (hi : 1 + i = 1000) (hj : 1 + j = (d : Int)) (hd1 : 2 ≤ d) (hd : d ≤ 1000)
    (hp : (if b' < a' then (b' : Int) else (a' : Int)) = (p : Int)) (hq : (if a' < b' then (b' : Int) else (a' : Int)) = (q : Int)) (hp2 : p ≤ 1099511627776)
    (hz : (p : Int) * 1000 = (z : Int)) (hz2 : z ≤ 1099511627776000) (hn : (z : Int) / (d : Int) = (n : Int)) (hn2 : n ≤ 1099511627776000) (hn3 : n ≤ 1099511627776)
    (c1 : Up n t f) (c2 : Up n u g) (c3 : Up n v h)
    (p1 : PickIs x 1000 i) (p2 : PickIs y 1000 j) (h1 : ScaleIs p 1000 (d : Int) (n : Int) 0) (h2 : ScaleIs q 1000 (d : Int) t f) (h3 : ScaleIs p 1000 (d : Int) u g) (h4 : ScaleIs p 1000 ((d : Int) - 1) v h) (W : World) :
    Calls Try.prog 8 #[.int .u64 a, .int .u64 b, .int .i64 x, .int .i64 y] W fun o w' => o = .returned (.bool true) ∧ Below W.heap.size W w' := by
  unfold Up at c1 c2 c3
  rcases c1 with ⟨rfl, c1⟩ | ⟨rfl, rfl⟩ <;> rcases c2 with ⟨rfl, c2⟩ | ⟨rfl, rfl⟩ <;> rcases c3 with ⟨rfl, c3⟩ | ⟨rfl, rfl⟩
  all_goals
    go_enter Try.func8, Try.ntmps8
    go_wp2_with fail
    refine (shown_any _).mono ?_
    rintro o w1 ⟨rfl, rfl⟩
    go_wp2_with fail
    refine (p1 _).mono ?_
    rintro o w1 ⟨rfl, rfl⟩
    go_wp2_with fail
    refine (p2 _).mono ?_
    rintro o w1 ⟨rfl, rfl⟩
    go_wp2_with fail
    refine (h1 _).mono ?_
    rintro o w1 ⟨rfl, rfl⟩
    go_wp2_with fail
    refine (h2 _).mono ?_
    rintro o w1 ⟨rfl, rfl⟩
    go_wp2_with fail
    refine (h3 _).mono ?_
    rintro o w1 ⟨rfl, rfl⟩
    go_wp2_with fail
    refine (h4 _).mono ?_
    rintro o w1 ⟨rfl, rfl⟩
    go_wp2
    go_ret
    exact ⟨rfl, Below.refl _ _⟩
set_option maxRecDepth 100000 in
set_option maxHeartbeats 8000000 in
theorem mono_top_more_high (a b p q z n a' b' d : Nat) (x y i j : Int) (ha : (a : Int) % 1099511627777 = (a' : Int)) (hb : (b : Int) % 1099511627777 = (b' : Int)) (ha2 : a' ≤ 1099511627776) (hb2 : b' ≤ 1099511627776) (hi : 1 + i = 1000) (hj : 1 + j = (d : Int)) (hd1 : 2 ≤ d) (hd : d ≤ 1000)
    (hp : (if b' < a' then (b' : Int) else (a' : Int)) = (p : Int)) (hq : (if a' < b' then (b' : Int) else (a' : Int)) = (q : Int)) (hp2 : p ≤ 1099511627776)
    (hz : (p : Int) * 1000 = (z : Int)) (hz2 : z ≤ 1099511627776000) (hn : (z : Int) / (d : Int) = (n : Int)) (hn2 : n ≤ 1099511627776000) (hn3 : 1099511627776 < n)
    (p1 : PickIs x 1000 i) (p2 : PickIs y 1000 j) (h1 : ScaleIs p 1000 (d : Int) 0 3) (h2 : ScaleIs q 1000 (d : Int) 0 3) (h3 : ScaleIs p 1000 (d : Int) 0 3) (h4 : ScaleIs p 1000 ((d : Int) - 1) 0 3) (W : World) :
    Calls Try.prog 8 #[.int .u64 a, .int .u64 b, .int .i64 x, .int .i64 y] W fun o w' => o = .returned (.bool true) ∧ Below W.heap.size W w' := by
  go_enter Try.func8, Try.ntmps8
  go_wp2_with fail
  refine (shown_any _).mono ?_
  rintro o w1 ⟨rfl, rfl⟩
  go_wp2_with fail
  refine (p1 _).mono ?_
  rintro o w1 ⟨rfl, rfl⟩
  go_wp2_with fail
  refine (p2 _).mono ?_
  rintro o w1 ⟨rfl, rfl⟩
  go_wp2_with fail
  refine (h1 _).mono ?_
  rintro o w1 ⟨rfl, rfl⟩
  go_wp2_with fail
  refine (h2 _).mono ?_
  rintro o w1 ⟨rfl, rfl⟩
  go_wp2_with fail
  refine (h3 _).mono ?_
  rintro o w1 ⟨rfl, rfl⟩
  go_wp2_with fail
  refine (h4 _).mono ?_
  rintro o w1 ⟨rfl, rfl⟩
  go_wp2
  go_ret
  exact ⟨by show Ending.returned (Value.bool !decide ((n : Int) ≤ 1099511627776)) = _; rw [decide_eq_false (by omega)]; rfl, Below.refl _ _⟩
set_option maxRecDepth 100000 in
set_option maxHeartbeats 8000000 in
theorem mono_top_one_ok (a b p q z n a' b' : Nat) (x y i j t u v f g h : Int) (ha : (a : Int) % 1099511627777 = (a' : Int)) (hb : (b : Int) % 1099511627777 = (b' : Int)) (ha2 : a' ≤ 1099511627776) (hb2 : b' ≤ 1099511627776) (hi : 1 + i = 1000) (hj : 1 + j = 1)
    (hp : (if b' < a' then (b' : Int) else (a' : Int)) = (p : Int)) (hq : (if a' < b' then (b' : Int) else (a' : Int)) = (q : Int)) (hp2 : p ≤ 1099511627776)
    (hz : (p : Int) * 1000 = (z : Int)) (hz2 : z ≤ 1099511627776000) (hn3 : z ≤ 1099511627776)
    (c1 : Up z t f) (c2 : Up z u g) (c3 : Up z v h)
    (p1 : PickIs x 1000 i) (p2 : PickIs y 1000 j) (h1 : ScaleIs p 1000 1 (z : Int) 0) (h2 : ScaleIs q 1000 1 t f) (h3 : ScaleIs p 1000 1 u g) (h4 : ScaleIs p 1000 1 v h) (W : World) :
    Calls Try.prog 8 #[.int .u64 a, .int .u64 b, .int .i64 x, .int .i64 y] W fun o w' => o = .returned (.bool true) ∧ Below W.heap.size W w' := by
  unfold Up at c1 c2 c3
  rcases c1 with ⟨rfl, c1⟩ | ⟨rfl, rfl⟩ <;> rcases c2 with ⟨rfl, c2⟩ | ⟨rfl, rfl⟩ <;> rcases c3 with ⟨rfl, c3⟩ | ⟨rfl, rfl⟩
  all_goals
    go_enter Try.func8, Try.ntmps8
    go_wp2_with fail
    refine (shown_any _).mono ?_
    rintro o w1 ⟨rfl, rfl⟩
    go_wp2_with fail
    refine (p1 _).mono ?_
    rintro o w1 ⟨rfl, rfl⟩
    go_wp2_with fail
    refine (p2 _).mono ?_
    rintro o w1 ⟨rfl, rfl⟩
    go_wp2_with fail
    refine (h1 _).mono ?_
    rintro o w1 ⟨rfl, rfl⟩
    go_wp2_with fail
    refine (h2 _).mono ?_
    rintro o w1 ⟨rfl, rfl⟩
    go_wp2_with fail
    refine (h3 _).mono ?_
    rintro o w1 ⟨rfl, rfl⟩
    go_wp2_with fail
    refine (h4 _).mono ?_
    rintro o w1 ⟨rfl, rfl⟩
    go_wp2
    go_ret
    exact ⟨rfl, Below.refl _ _⟩
set_option maxRecDepth 100000 in
set_option maxHeartbeats 8000000 in
theorem mono_top_one_high (a b p q z n a' b' : Nat) (x y i j : Int) (ha : (a : Int) % 1099511627777 = (a' : Int)) (hb : (b : Int) % 1099511627777 = (b' : Int)) (ha2 : a' ≤ 1099511627776) (hb2 : b' ≤ 1099511627776) (hi : 1 + i = 1000) (hj : 1 + j = 1)
    (hp : (if b' < a' then (b' : Int) else (a' : Int)) = (p : Int)) (hq : (if a' < b' then (b' : Int) else (a' : Int)) = (q : Int)) (hp2 : p ≤ 1099511627776)
    (hz : (p : Int) * 1000 = (z : Int)) (hz2 : z ≤ 1099511627776000) (hn3 : 1099511627776 < z)
    (p1 : PickIs x 1000 i) (p2 : PickIs y 1000 j) (h1 : ScaleIs p 1000 1 0 3) (h2 : ScaleIs q 1000 1 0 3) (h3 : ScaleIs p 1000 1 0 3) (h4 : ScaleIs p 1000 1 0 3) (W : World) :
    Calls Try.prog 8 #[.int .u64 a, .int .u64 b, .int .i64 x, .int .i64 y] W fun o w' => o = .returned (.bool true) ∧ Below W.heap.size W w' := by
  go_enter Try.func8, Try.ntmps8
  go_wp2_with fail
  refine (shown_any _).mono ?_
  rintro o w1 ⟨rfl, rfl⟩
  go_wp2_with fail
  refine (p1 _).mono ?_
  rintro o w1 ⟨rfl, rfl⟩
  go_wp2_with fail
  refine (p2 _).mono ?_
  rintro o w1 ⟨rfl, rfl⟩
  go_wp2_with fail
  refine (h1 _).mono ?_
  rintro o w1 ⟨rfl, rfl⟩
  go_wp2_with fail
  refine (h2 _).mono ?_
  rintro o w1 ⟨rfl, rfl⟩
  go_wp2_with fail
  refine (h3 _).mono ?_
  rintro o w1 ⟨rfl, rfl⟩
  go_wp2_with fail
  refine (h4 _).mono ?_
  rintro o w1 ⟨rfl, rfl⟩
  go_wp2
  go_ret
  exact ⟨by show Ending.returned (Value.bool !decide ((z : Int) ≤ 1099511627776)) = _; rw [decide_eq_false (by omega)]; rfl, Below.refl _ _⟩
end Go.Proofs.Ythjlojdjjffflaa
