/- Plain mathematics on words of 32 bits: fields, what is put in one, counts of bits, words that are turned. No Go in sight. -/
import Derived.Laws.BitsAllLaws
namespace Go.Proofs.Ytogeihfmbjjacaa.Bm

def fld (w k m : Nat) : Nat := w / 2 ^ k % 2 ^ m
def put (w k m v : Nat) : Nat := (w &&& (4294967295 - (2 ^ m - 1) * 2 ^ k)) ||| v * 2 ^ k

theorem tb_fld (w k m i : Nat) : (fld w k m).testBit i = (decide (i < m) && w.testBit (k + i)) := by
  unfold fld; rw [Nat.testBit_mod_two_pow, Nat.testBit_div_two_pow, Nat.add_comm]
theorem fld_lt (w k m : Nat) : fld w k m < 2 ^ m := Nat.mod_lt _ (Nat.two_pow_pos _)
theorem fld_lt32 (w k m : Nat) (hm : m ≤ 32) : fld w k m < 4294967296 :=
  Nat.lt_of_lt_of_le (fld_lt w k m) (by have := Nat.pow_le_pow_right (n := 2) (by omega) hm; simpa using this)
theorem tb_high {w i : Nat} (hw : w < 4294967296) (hi : 32 ≤ i) : w.testBit i = false :=
  Nat.testBit_lt_two_pow (Nat.lt_of_lt_of_le hw (by have := Nat.pow_le_pow_right (n := 2) (by omega) hi; simpa using this))
theorem lt_of_tb {w : Nat} (h : ∀ i, 32 ≤ i → w.testBit i = false) : w < 4294967296 := Nat.lt_pow_two_of_testBit (n := 32) w h
theorem lt_of_tbm {w m : Nat} (h : ∀ i, m ≤ i → w.testBit i = false) : w < 2 ^ m := Nat.lt_pow_two_of_testBit (n := m) w h
theorem tb_lt {w m i : Nat} (hw : w < 2 ^ m) (hi : m ≤ i) : w.testBit i = false :=
  Nat.testBit_lt_two_pow (Nat.lt_of_lt_of_le hw (Nat.pow_le_pow_right (by omega) hi))
theorem mask_lt (k m : Nat) (h : k + m ≤ 32) : (2 ^ m - 1) * 2 ^ k < 4294967296 := by
  have h1 : (2 ^ m - 1) * 2 ^ k < 2 ^ m * 2 ^ k := Nat.mul_lt_mul_of_pos_right (by have := Nat.two_pow_pos m; omega) (Nat.two_pow_pos k)
  rw [← Nat.pow_add] at h1
  exact Nat.lt_of_lt_of_le h1 (by have := Nat.pow_le_pow_right (n := 2) (by omega) (show m + k ≤ 32 by omega); simpa using this)
theorem tb_shl (v k i : Nat) : (v * 2 ^ k).testBit i = (decide (k ≤ i) && v.testBit (i - k)) := by
  rw [← Nat.shiftLeft_eq, Nat.testBit_shiftLeft]
theorem tb_mask (k m i : Nat) : ((2 ^ m - 1) * 2 ^ k).testBit i = decide (k ≤ i ∧ i < k + m) := by
  rw [tb_shl, Nat.testBit_two_pow_sub_one, Bool.eq_iff_iff]; simp; omega
theorem tb_not (x i : Nat) (hx : x < 4294967296) : (4294967295 - x).testBit i = (decide (i < 32) && !x.testBit i) := by
  have := Nat.testBit_two_pow_sub_succ (n := 32) (x := x) (by simpa using hx) i
  rw [← this]; congr 1; simp only [Nat.reducePow]; omega
theorem tb_put (w k m v i : Nat) (hw : w < 4294967296) (hv : v < 2 ^ m) (h : k + m ≤ 32) :
    (put w k m v).testBit i = if k ≤ i ∧ i < k + m then v.testBit (i - k) else w.testBit i := by
  unfold put
  rw [Nat.testBit_or, Nat.testBit_and, tb_not _ _ (mask_lt k m h), tb_mask, tb_shl]
  by_cases h1 : k ≤ i ∧ i < k + m
  · have : i < 32 := by omega
    simp [h1, this]
  · rw [if_neg h1]
    by_cases hi : i < 32
    · by_cases hk : k ≤ i
      · have : v.testBit (i - k) = false := tb_lt hv (by omega)
        simp [h1, hi, this]
      · simp [hi, hk]
    · have := tb_high hw (show 32 ≤ i by omega)
      rw [this]
      by_cases hk : k ≤ i
      · have : v.testBit (i - k) = false := tb_lt hv (by omega)
        simp [this]
      · simp [hk]
theorem put_lt (w k m v : Nat) (hw : w < 4294967296) (hv : v < 2 ^ m) (h : k + m ≤ 32) : put w k m v < 4294967296 :=
  lt_of_tb fun i hi => by rw [tb_put w k m v i hw hv h, if_neg (by omega)]; exact tb_high hw hi
theorem get_and (w k m : Nat) : (w &&& (2 ^ m - 1) * 2 ^ k) / 2 ^ k = fld w k m := by
  apply Nat.eq_of_testBit_eq; intro i
  rw [Nat.testBit_div_two_pow, Nat.testBit_and, tb_mask, tb_fld]
  rw [Bool.eq_iff_iff]; simp; rw [Nat.add_comm i k]; constructor
  · intro ⟨a, b⟩; exact ⟨by omega, a⟩
  · intro ⟨a, b⟩; exact ⟨b, by omega⟩
theorem room (v m : Nat) (hv : v < 4294967296) (hm : m ≤ 32) : v &&& (4294967295 - (2 ^ m - 1) * 2 ^ 0) = 0 ↔ v < 2 ^ m := by
  constructor
  · intro h
    apply lt_of_tbm; intro i hi
    have h2 : (v &&& (4294967295 - (2 ^ m - 1) * 2 ^ 0)).testBit i = false := by rw [h]; simp
    rw [Nat.testBit_and, tb_not _ _ (mask_lt 0 m (by omega)), tb_mask] at h2
    by_cases h32 : i < 32
    · have : ¬ (0 ≤ i ∧ i < 0 + m) := by omega
      simp only [h32, this, decide_true, decide_false, Bool.not_false, Bool.and_true] at h2
      exact h2
    · exact tb_high hv (by omega)
  · intro h
    apply Nat.eq_of_testBit_eq; intro i
    rw [Nat.testBit_and, tb_not _ _ (mask_lt 0 m (by omega)), tb_mask, Nat.zero_testBit]
    by_cases hi : i < m
    · simp [hi]
    · rw [tb_lt h (by omega)]; simp

theorem fld_zero (w k : Nat) : fld w k 0 = 0 := by unfold fld; simp [Nat.mod_one]
theorem fld_step (w k m : Nat) : fld w k (m + 1) = 2 * fld w (k + 1) m + (if w.testBit k then 1 else 0) := by
  unfold fld
  rw [Nat.pow_succ, Nat.mul_comm (2 ^ m) 2, Nat.mod_mul, Nat.div_div_eq_div_mul, ← Nat.pow_succ, Nat.testBit_eq_decide_div_mod_eq]
  rcases Nat.mod_two_eq_zero_or_one (w / 2 ^ k) with h | h <;> simp [h]; omega
theorem half_step (p j : Nat) : p / 2 ^ j = 2 * (p / 2 ^ (j + 1)) + (if p.testBit j then 1 else 0) := by
  rw [Nat.pow_succ, ← Nat.div_div_eq_div_mul, Nat.testBit_eq_decide_div_mod_eq]
  rcases Nat.mod_two_eq_zero_or_one (p / 2 ^ j) with h | h <;> simp [h] <;> omega
/-- a field's number with a sign -/
def sgn (f m : Nat) : Int := if f < 2 ^ (m - 1) then (f : Int) else (f : Int) - ((2 ^ m : Nat) : Int)

/-! counts of bits -/
def pcN : Nat → Nat → Nat
  | 0, _ => 0
  | n + 1, w => w % 2 + pcN n (w / 2)
theorem pcN_zero (n : Nat) : pcN n 0 = 0 := by induction n with
  | zero => rfl
  | succ n ih => simp [pcN, ih]
theorem pcN_le (n w : Nat) : pcN n w ≤ n := by induction n generalizing w with
  | zero => simp [pcN]
  | succ n ih => have := ih (w / 2); simp only [pcN]; omega
theorem and_even (a b : Nat) : (2 * a) &&& b = 2 * (a &&& (b / 2)) := by
  apply Nat.eq_of_testBit_eq; intro i
  cases i with
  | zero => simp
  | succ i => rw [Nat.testBit_and, Nat.testBit_succ, Nat.testBit_succ, Nat.testBit_succ, show 2 * a / 2 = a by omega, show 2 * (a &&& b / 2) / 2 = a &&& b / 2 by omega, Nat.testBit_and]
theorem and_odd (a : Nat) : (2 * a + 1) &&& (2 * a) = 2 * a := by
  rw [Nat.and_comm, and_even, show (2 * a + 1) / 2 = a by omega, Nat.and_self]
theorem pcN_drop (n w : Nat) (hw : w < 2 ^ n) (h0 : w ≠ 0) : pcN n (w &&& (w - 1)) + 1 = pcN n w := by
  induction n generalizing w with
  | zero => simp at hw; omega
  | succ n ih =>
    rcases Nat.mod_two_eq_zero_or_one w with h | h
    · obtain ⟨a, rfl⟩ : ∃ a, w = 2 * a := ⟨w / 2, by omega⟩
      rw [and_even]; simp only [pcN]
      have := ih a (by rw [Nat.pow_succ] at hw; omega) (by omega)
      rw [show (2 * a - 1) / 2 = a - 1 by omega, show 2 * (a &&& (a - 1)) / 2 = a &&& (a - 1) by omega, show 2 * a / 2 = a by omega]
      omega
    · obtain ⟨a, rfl⟩ : ∃ a, w = 2 * a + 1 := ⟨w / 2, by omega⟩
      rw [show 2 * a + 1 - 1 = 2 * a by omega, and_odd]; simp only [pcN]
      rw [show 2 * a / 2 = a by omega, show (2 * a + 1) / 2 = a by omega]; omega
theorem drop_lt (w n : Nat) (hw : w < 2 ^ n) : w &&& (w - 1) < 2 ^ n := Nat.lt_of_le_of_lt Nat.and_le_left hw
def bitn (w i : Nat) : Nat := w / 2 ^ i % 2
theorem bitn_tb (w i : Nat) : bitn w i = if w.testBit i then 1 else 0 := by
  unfold bitn
  rw [Nat.testBit_eq_decide_div_mod_eq]
  rcases Nat.mod_two_eq_zero_or_one (w / 2 ^ i) with h | h <;> simp [h]
/-- the count up to a place -/
def pcTo (w : Nat) : Nat → Nat
  | 0 => 0
  | k + 1 => pcTo w k + bitn w k
theorem pcTo_half (w k : Nat) : pcTo w (k + 1) = w % 2 + pcTo (w / 2) k := by
  induction k with
  | zero => simp [pcTo, bitn]
  | succ k ih =>
    rw [pcTo, ih, pcTo]
    have : bitn w (k + 1) = bitn (w / 2) k := by unfold bitn; rw [Nat.div_div_eq_div_mul, Nat.pow_succ, Nat.mul_comm]
    omega
theorem pcTo_pcN (w k : Nat) : pcTo w k = pcN k w := by
  induction k generalizing w with
  | zero => rfl
  | succ k ih => rw [pcTo_half, ih]; rfl
theorem pcTo_congr {a b k : Nat} (h : ∀ i, i < k → a.testBit i = b.testBit i) : pcTo a k = pcTo b k := by
  induction k with
  | zero => rfl
  | succ k ih => rw [pcTo, pcTo, ih (fun i hi => h i (by omega)), bitn_tb, bitn_tb, h k (by omega)]

/-! words that are turned -/
def rot (w u : Nat) : Nat := (w * 2 ^ u % 4294967296) ||| (w / 2 ^ (32 - u))
theorem tb_rot (w u i : Nat) (hw : w < 4294967296) (hu : u < 32) : (rot w u).testBit i = (decide (i < 32) && w.testBit ((i + 32 - u) % 32)) := by
  unfold rot
  rw [Nat.testBit_or, show (4294967296 : Nat) = 2 ^ 32 by rfl, Nat.testBit_mod_two_pow, tb_shl, Nat.testBit_div_two_pow]
  by_cases hi : i < 32
  · by_cases h : u ≤ i
    · have e : (i + 32 - u) % 32 = i - u := by omega
      have : w.testBit (i + (32 - u)) = false := tb_high hw (by omega)
      simp [hi, h, e, this]
    · have e : (i + 32 - u) % 32 = i + (32 - u) := by omega
      simp [hi, h, e]
  · have : w.testBit (i + (32 - u)) = false := tb_high hw (by omega)
    simp [hi, this]
theorem rot_lt (w u : Nat) (hw : w < 4294967296) (hu : u < 32) : rot w u < 4294967296 :=
  lt_of_tb fun i hi => by rw [tb_rot w u i hw hu]; simp; omega
theorem ext32 {a b : Nat} (ha : a < 4294967296) (hb : b < 4294967296) (h : ∀ i, i < 32 → a.testBit i = b.testBit i) : a = b := by
  apply Nat.eq_of_testBit_eq; intro i
  by_cases hi : i < 32
  · exact h i hi
  · rw [tb_high ha (by omega), tb_high hb (by omega)]
theorem rot_rot (w a b : Nat) (hw : w < 4294967296) (ha : a < 32) (hb : b < 32) : rot (rot w a) b = rot w ((a + b) % 32) := by
  apply ext32 (rot_lt _ _ (rot_lt _ _ hw ha) hb) (rot_lt _ _ hw (by omega))
  intro i hi
  rw [tb_rot _ _ _ (rot_lt _ _ hw ha) hb, tb_rot _ _ _ hw ha, tb_rot _ _ _ hw (by omega)]
  have e : ((i + 32 - b) % 32 + 32 - a) % 32 = (i + 32 - (a + b) % 32) % 32 := by omega
  rw [e]
  have h2 : (i + 32 - b) % 32 < 32 := by omega
  simp only [h2, decide_true, Bool.true_and]
theorem rot_zero (w : Nat) (hw : w < 4294967296) : rot w 0 = w := by
  apply ext32 (rot_lt _ _ hw (by omega)) hw; intro i hi
  rw [tb_rot _ _ _ hw (by omega), show (i + 32 - 0) % 32 = i by omega]; simp only [hi, decide_true, Bool.true_and]
theorem bit31 (x : Nat) (hx : x < 4294967296) : x.testBit 31 = decide (2147483648 ≤ x) := by
  rw [Nat.testBit_eq_decide_div_mod_eq, Bool.eq_iff_iff]; simp; omega
theorem rot_one (x : Nat) (hx : x < 4294967296) : rot x 1 = if 2147483648 ≤ x then 2 * x - 4294967295 else 2 * x := by
  apply ext32 (rot_lt x 1 hx (by omega)) (by split <;> omega)
  intro i hi
  rw [tb_rot x 1 i hx (by omega)]
  simp only [hi, decide_true, Bool.true_and]
  cases i with
  | zero =>
    have := bit31 x hx
    rw [show (0 + 32 - 1) % 32 = 31 by decide, this, Nat.testBit_zero]
    by_cases h : 2147483648 ≤ x
    · rw [if_pos h, decide_eq_true h]; symm; exact decide_eq_true (by omega)
    · rw [if_neg h, decide_eq_false h]; symm; exact decide_eq_false (by omega)
  | succ i =>
    rw [show (i + 1 + 32 - 1) % 32 = i by omega, Nat.testBit_succ]
    by_cases h : 2147483648 ≤ x
    · rw [if_pos h, show (2 * x - 4294967295) / 2 = x - 2147483648 by omega]
      have e := Nat.testBit_two_pow_add_gt (i := 31) (j := i) (by omega) (x - 2147483648)
      rw [← e, show 2 ^ 31 + (x - 2147483648) = x by rw [show (2 : Nat) ^ 31 = 2147483648 by rfl]; omega]
    · rw [if_neg h, show 2 * x / 2 = x by omega]
theorem pcTo_add (w a b : Nat) : pcTo w (a + b) = pcTo w a + pcTo (w / 2 ^ a) b := by
  induction b with
  | zero => rfl
  | succ b ih =>
    rw [← Nat.add_assoc, pcTo, ih, pcTo]
    have : bitn w (a + b) = bitn (w / 2 ^ a) b := by unfold bitn; rw [Nat.div_div_eq_div_mul, Nat.pow_add]
    omega
theorem pc_rot (w u : Nat) (hw : w < 4294967296) (hu : u < 32) : pcN 32 (rot w u) = pcN 32 w := by
  rw [← pcTo_pcN, ← pcTo_pcN]
  have h1 := pcTo_add (rot w u) u (32 - u)
  have h2 := pcTo_add w (32 - u) u
  rw [show u + (32 - u) = 32 by omega] at h1
  rw [show 32 - u + u = 32 by omega] at h2
  have a : pcTo (rot w u) u = pcTo (w / 2 ^ (32 - u)) u := pcTo_congr fun i hi => by
    rw [tb_rot _ _ _ hw hu, Nat.testBit_div_two_pow, show (i + 32 - u) % 32 = i + (32 - u) by omega]; simp; omega
  have b : pcTo (rot w u / 2 ^ u) (32 - u) = pcTo w (32 - u) := pcTo_congr fun i hi => by
    rw [Nat.testBit_div_two_pow, tb_rot _ _ _ hw hu, show (i + u + 32 - u) % 32 = i by omega]; simp; omega
  omega
end Go.Proofs.Ytogeihfmbjjacaa.Bm
