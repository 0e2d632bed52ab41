/- BitsBack and BitsParts out of the contracts. -/
import Derived.Test.YtogeihfmbjjacaaL2
namespace Go.Proofs.Ytogeihfmbjjacaa
open Go.RowKit

theorem below3 {a b c d : World} (h1 : Below a.heap.size a b) (h2 : Below b.heap.size b c) (h3 : Below c.heap.size c d) : Below a.heap.size a d :=
  h1.trans ((h2.mono h1.size).trans (h3.mono (Nat.le_trans h1.size h2.size)))
theorem below2 {a b c : World} (h1 : Below a.heap.size a b) (h2 : Below b.heap.size b c) : Below a.heap.size a c := h1.trans (h2.mono h1.size)

set_option maxRecDepth 100000 in
set_option maxHeartbeats 1000000 in
theorem back_no (w v a b c d : Int) (hb : b < 1 ∨ 32 < b) (h1 : GetIs v 0 b 0 3) (W : World) :
    Calls Try.prog 4 #[.int .u32 w, .int .u32 v, .int .i64 a, .int .i64 b, .int .i64 c, .int .i64 d] W fun e w' => e = .returned (.bool true) ∧ Below W.heap.size W w' := by
  rcases hb with hb | hb
  · go_enter Try.func4, Try.ntmps4
    go_wp2_with fail
    refine (shown_any _).mono ?_
    rintro e w1 ⟨rfl, hb1⟩
    go_wp2_with fail
    refine (h1 _).mono ?_
    rintro e w2 ⟨rfl, hb2⟩
    go_wp2
    go_ret
    exact ⟨rfl, below2 hb1 hb2⟩
  · have hb2 : ¬ b < 1 := by omega
    go_enter Try.func4, Try.ntmps4
    go_wp2_with fail
    refine (shown_any _).mono ?_
    rintro e w1 ⟨rfl, hb1⟩
    go_wp2_with fail
    refine (h1 _).mono ?_
    rintro e w2 ⟨rfl, hb2⟩
    go_wp2
    go_ret
    exact ⟨rfl, below2 hb1 hb2⟩
set_option maxRecDepth 100000 in
set_option maxHeartbeats 1000000 in
theorem back_off (w v a b c d n : Int) (ha : a < 0 ∨ 32 - b < a) (hb1 : 1 ≤ b) (hb2 : b ≤ 32) (h1 : GetIs v 0 b n 0) (h2 : PutIs w a b n 0 3) (W : World) :
    Calls Try.prog 4 #[.int .u32 w, .int .u32 v, .int .i64 a, .int .i64 b, .int .i64 c, .int .i64 d] W fun e w' => e = .returned (.bool true) ∧ Below W.heap.size W w' := by
  rcases ha with ha | ha
  · go_enter Try.func4, Try.ntmps4
    go_wp2_with fail
    refine (shown_any _).mono ?_
    rintro e w1 ⟨rfl, hb1⟩
    go_wp2_with fail
    refine (h1 _).mono ?_
    rintro e w2 ⟨rfl, hb2⟩
    go_wp2_with fail
    refine (h2 _).mono ?_
    rintro e w3 ⟨rfl, hb3⟩
    go_wp2
    go_ret
    exact ⟨rfl, below3 hb1 hb2 hb3⟩
  · have ha2 : ¬ a < 0 := by omega
    go_enter Try.func4, Try.ntmps4
    go_wp2_with fail
    refine (shown_any _).mono ?_
    rintro e w1 ⟨rfl, hb1⟩
    go_wp2_with fail
    refine (h1 _).mono ?_
    rintro e w2 ⟨rfl, hb2⟩
    go_wp2_with fail
    refine (h2 _).mono ?_
    rintro e w3 ⟨rfl, hb3⟩
    go_wp2
    go_ret
    exact ⟨rfl, below3 hb1 hb2 hb3⟩
set_option maxRecDepth 100000 in
set_option maxHeartbeats 1000000 in
theorem back_bad (w v a b c d n p was : Int) (hc : Bad c d) (h1 : GetIs v 0 b n 0) (h2 : PutIs w a b n p 0) (h3 : GetIs p a b n 0) (h4 : GetIs w a b was 0) (h5 : PutIs p a b was w 0) (h6 : GetIs w c d 0 3) (h7 : GetIs p c d 0 3) (W : World) :
    Calls Try.prog 4 #[.int .u32 w, .int .u32 v, .int .i64 a, .int .i64 b, .int .i64 c, .int .i64 d] W fun e w' => e = .returned (.bool true) ∧ Below W.heap.size W w' := by
  unfold Bad at hc
  by_cases c1 : d < 1
  · clear hc
    go_enter Try.func4, Try.ntmps4
    go_wp2_with fail
    refine (shown_any _).mono ?_
    rintro e w1 ⟨rfl, hb1⟩
    go_wp2_with fail
    refine (h1 _).mono ?_
    rintro e w2 ⟨rfl, hb2⟩
    go_wp2_with fail
    refine (h2 _).mono ?_
    rintro e w3 ⟨rfl, hb3⟩
    go_wp2_with fail
    refine (h3 _).mono ?_
    rintro e w4 ⟨rfl, hb4⟩
    go_wp2_with fail
    refine (h4 _).mono ?_
    rintro e w5 ⟨rfl, hb5⟩
    go_wp2_with fail
    refine (h5 _).mono ?_
    rintro e w6 ⟨rfl, hb6⟩
    go_wp2_with fail
    refine (h6 _).mono ?_
    rintro e w7 ⟨rfl, hb7⟩
    go_wp2_with fail
    refine (h7 _).mono ?_
    rintro e w8 ⟨rfl, hb8⟩
    go_wp2
    go_ret
    exact ⟨rfl, below2 (below3 (below3 hb1 hb2 hb3) hb4 hb5) (below3 hb6 hb7 hb8)⟩
  · by_cases c2 : 32 < d
    · clear hc
      go_enter Try.func4, Try.ntmps4
      go_wp2_with fail
      refine (shown_any _).mono ?_
      rintro e w1 ⟨rfl, hb1⟩
      go_wp2_with fail
      refine (h1 _).mono ?_
      rintro e w2 ⟨rfl, hb2⟩
      go_wp2_with fail
      refine (h2 _).mono ?_
      rintro e w3 ⟨rfl, hb3⟩
      go_wp2_with fail
      refine (h3 _).mono ?_
      rintro e w4 ⟨rfl, hb4⟩
      go_wp2_with fail
      refine (h4 _).mono ?_
      rintro e w5 ⟨rfl, hb5⟩
      go_wp2_with fail
      refine (h5 _).mono ?_
      rintro e w6 ⟨rfl, hb6⟩
      go_wp2_with fail
      refine (h6 _).mono ?_
      rintro e w7 ⟨rfl, hb7⟩
      go_wp2_with fail
      refine (h7 _).mono ?_
      rintro e w8 ⟨rfl, hb8⟩
      go_wp2
      go_ret
      exact ⟨rfl, below2 (below3 (below3 hb1 hb2 hb3) hb4 hb5) (below3 hb6 hb7 hb8)⟩
    · by_cases c3 : c < 0
      · clear hc
        go_enter Try.func4, Try.ntmps4
        go_wp2_with fail
        refine (shown_any _).mono ?_
        rintro e w1 ⟨rfl, hb1⟩
        go_wp2_with fail
        refine (h1 _).mono ?_
        rintro e w2 ⟨rfl, hb2⟩
        go_wp2_with fail
        refine (h2 _).mono ?_
        rintro e w3 ⟨rfl, hb3⟩
        go_wp2_with fail
        refine (h3 _).mono ?_
        rintro e w4 ⟨rfl, hb4⟩
        go_wp2_with fail
        refine (h4 _).mono ?_
        rintro e w5 ⟨rfl, hb5⟩
        go_wp2_with fail
        refine (h5 _).mono ?_
        rintro e w6 ⟨rfl, hb6⟩
        go_wp2_with fail
        refine (h6 _).mono ?_
        rintro e w7 ⟨rfl, hb7⟩
        go_wp2_with fail
        refine (h7 _).mono ?_
        rintro e w8 ⟨rfl, hb8⟩
        go_wp2
        go_ret
        exact ⟨rfl, below2 (below3 (below3 hb1 hb2 hb3) hb4 hb5) (below3 hb6 hb7 hb8)⟩
      · have c4 : decide (c ≤ 32 - d) = false := by simp; omega
        clear hc
        go_enter Try.func4, Try.ntmps4
        go_wp2_with fail
        refine (shown_any _).mono ?_
        rintro e w1 ⟨rfl, hb1⟩
        go_wp2_with fail
        refine (h1 _).mono ?_
        rintro e w2 ⟨rfl, hb2⟩
        go_wp2_with fail
        refine (h2 _).mono ?_
        rintro e w3 ⟨rfl, hb3⟩
        go_wp2_with fail
        refine (h3 _).mono ?_
        rintro e w4 ⟨rfl, hb4⟩
        go_wp2_with fail
        refine (h4 _).mono ?_
        rintro e w5 ⟨rfl, hb5⟩
        go_wp2_with fail
        refine (h5 _).mono ?_
        rintro e w6 ⟨rfl, hb6⟩
        go_wp2_with fail
        refine (h6 _).mono ?_
        rintro e w7 ⟨rfl, hb7⟩
        go_wp2_with fail
        refine (h7 _).mono ?_
        rintro e w8 ⟨rfl, hb8⟩
        go_wp2
        go_ret
        exact ⟨rfl, below2 (below3 (below3 hb1 hb2 hb3) hb4 hb5) (below3 hb6 hb7 hb8)⟩
set_option maxRecDepth 100000 in
set_option maxHeartbeats 1000000 in
theorem back_apart (w v a b c d n p was x : Int) (hc1 : 1 ≤ d) (hc2 : d ≤ 32) (hc3 : 0 ≤ c) (hc4 : decide (c ≤ 32 - d) = true) (hc5 : c ≤ 32) (hab : 0 ≤ a ∧ 1 ≤ b ∧ a + b ≤ 32) (hap : a + b ≤ c ∨ c + d ≤ a) (h1 : GetIs v 0 b n 0) (h2 : PutIs w a b n p 0) (h3 : GetIs p a b n 0) (h4 : GetIs w a b was 0) (h5 : PutIs p a b was w 0) (h6 : GetIs w c d x 0) (h7 : GetIs p c d x 0) (W : World) :
    Calls Try.prog 4 #[.int .u32 w, .int .u32 v, .int .i64 a, .int .i64 b, .int .i64 c, .int .i64 d] W fun e w' => e = .returned (.bool true) ∧ Below W.heap.size W w' := by
  obtain ⟨a1, a2, a3⟩ := hab
  by_cases hq : a + b ≤ c
  · have hd : decide (a + b ≤ c) = true := by simp; omega
    clear hap
    go_enter Try.func4, Try.ntmps4
    go_wp2_with fail
    refine (shown_any _).mono ?_
    rintro e w1 ⟨rfl, hb1⟩
    go_wp2_with fail
    refine (h1 _).mono ?_
    rintro e w2 ⟨rfl, hb2⟩
    go_wp2_with fail
    refine (h2 _).mono ?_
    rintro e w3 ⟨rfl, hb3⟩
    go_wp2_with fail
    refine (h3 _).mono ?_
    rintro e w4 ⟨rfl, hb4⟩
    go_wp2_with fail
    refine (h4 _).mono ?_
    rintro e w5 ⟨rfl, hb5⟩
    go_wp2_with fail
    refine (h5 _).mono ?_
    rintro e w6 ⟨rfl, hb6⟩
    go_wp2_with fail
    refine (h6 _).mono ?_
    rintro e w7 ⟨rfl, hb7⟩
    go_wp2_with fail
    refine (h7 _).mono ?_
    rintro e w8 ⟨rfl, hb8⟩
    go_wp2
    go_ret
    exact ⟨rfl, below2 (below3 (below3 hb1 hb2 hb3) hb4 hb5) (below3 hb6 hb7 hb8)⟩
  · have hd : decide (a + b ≤ c) = false := by simp; omega
    have hd2 : decide (c + d ≤ a) = true := by simp; omega
    clear hap
    go_enter Try.func4, Try.ntmps4
    go_wp2_with fail
    refine (shown_any _).mono ?_
    rintro e w1 ⟨rfl, hb1⟩
    go_wp2_with fail
    refine (h1 _).mono ?_
    rintro e w2 ⟨rfl, hb2⟩
    go_wp2_with fail
    refine (h2 _).mono ?_
    rintro e w3 ⟨rfl, hb3⟩
    go_wp2_with fail
    refine (h3 _).mono ?_
    rintro e w4 ⟨rfl, hb4⟩
    go_wp2_with fail
    refine (h4 _).mono ?_
    rintro e w5 ⟨rfl, hb5⟩
    go_wp2_with fail
    refine (h5 _).mono ?_
    rintro e w6 ⟨rfl, hb6⟩
    go_wp2_with fail
    refine (h6 _).mono ?_
    rintro e w7 ⟨rfl, hb7⟩
    go_wp2_with fail
    refine (h7 _).mono ?_
    rintro e w8 ⟨rfl, hb8⟩
    go_wp2
    go_ret
    exact ⟨rfl, below2 (below3 (below3 hb1 hb2 hb3) hb4 hb5) (below3 hb6 hb7 hb8)⟩
set_option maxRecDepth 100000 in
set_option maxHeartbeats 1000000 in
theorem back_near (w v a b c d n p was x y : Int) (hc1 : 1 ≤ d) (hc2 : d ≤ 32) (hc3 : 0 ≤ c) (hc4 : decide (c ≤ 32 - d) = true) (hc5 : c ≤ 32) (hab : 0 ≤ a ∧ 1 ≤ b ∧ a + b ≤ 32) (hap : ¬ (a + b ≤ c ∨ c + d ≤ a)) (h1 : GetIs v 0 b n 0) (h2 : PutIs w a b n p 0) (h3 : GetIs p a b n 0) (h4 : GetIs w a b was 0) (h5 : PutIs p a b was w 0) (h6 : GetIs w c d x 0) (h7 : GetIs p c d y 0) (W : World) :
    Calls Try.prog 4 #[.int .u32 w, .int .u32 v, .int .i64 a, .int .i64 b, .int .i64 c, .int .i64 d] W fun e w' => e = .returned (.bool true) ∧ Below W.heap.size W w' := by
  obtain ⟨a1, a2, a3⟩ := hab
  · have hd : decide (a + b ≤ c) = false := by simp; omega
    have hd2 : decide (c + d ≤ a) = false := by simp; omega
    clear hap
    go_enter Try.func4, Try.ntmps4
    go_wp2_with fail
    refine (shown_any _).mono ?_
    rintro e w1 ⟨rfl, hb1⟩
    go_wp2_with fail
    refine (h1 _).mono ?_
    rintro e w2 ⟨rfl, hb2⟩
    go_wp2_with fail
    refine (h2 _).mono ?_
    rintro e w3 ⟨rfl, hb3⟩
    go_wp2_with fail
    refine (h3 _).mono ?_
    rintro e w4 ⟨rfl, hb4⟩
    go_wp2_with fail
    refine (h4 _).mono ?_
    rintro e w5 ⟨rfl, hb5⟩
    go_wp2_with fail
    refine (h5 _).mono ?_
    rintro e w6 ⟨rfl, hb6⟩
    go_wp2_with fail
    refine (h6 _).mono ?_
    rintro e w7 ⟨rfl, hb7⟩
    go_wp2_with fail
    refine (h7 _).mono ?_
    rintro e w8 ⟨rfl, hb8⟩
    go_wp2
    go_ret
    exact ⟨rfl, below2 (below3 (below3 hb1 hb2 hb3) hb4 hb5) (below3 hb6 hb7 hb8)⟩
theorem pow_le {m : Nat} (h : m ≤ 32) {v : Nat} (hv : v < 2 ^ m) : v < 4294967296 :=
  Nat.lt_of_lt_of_le hv (by have := Nat.pow_le_pow_right (n := 2) (by omega) h; simpa using this)
theorem get_put (w k m v : Nat) (hw : w < 4294967296) (hv : v < 2 ^ m) (h : k + m ≤ 32) : Bm.fld (Bm.put w k m v) k m = v := by
  apply Nat.eq_of_testBit_eq; intro i
  rw [Bm.tb_fld, Bm.tb_put w k m v _ hw hv h]
  by_cases hi : i < m
  · rw [if_pos (by omega), show k + i - k = i by omega]; simp [hi]
  · have e : v.testBit i = false := Bm.tb_lt hv (by omega)
    simp [hi, e]
theorem put_back (w k m v : Nat) (hw : w < 4294967296) (hv : v < 2 ^ m) (h : k + m ≤ 32) : Bm.put (Bm.put w k m v) k m (Bm.fld w k m) = w := by
  apply Nat.eq_of_testBit_eq; intro i
  rw [Bm.tb_put _ k m _ _ (Bm.put_lt w k m v hw hv h) (Bm.fld_lt _ _ _) h, Bm.tb_put w k m v _ hw hv h, Bm.tb_fld]
  by_cases hi : k ≤ i ∧ i < k + m
  · rw [if_pos hi, show k + (i - k) = i by omega]; simp; omega
  · rw [if_neg hi, if_neg hi]
theorem get_apart (w k m v c d : Nat) (hw : w < 4294967296) (hv : v < 2 ^ m) (h : k + m ≤ 32) (hd : k + m ≤ c ∨ c + d ≤ k) : Bm.fld (Bm.put w k m v) c d = Bm.fld w c d := by
  apply Nat.eq_of_testBit_eq; intro i
  rw [Bm.tb_fld, Bm.tb_fld, Bm.tb_put w k m v _ hw hv h]
  by_cases hi : i < d
  · rw [if_neg (by omega)]
  · simp [hi]
theorem back_walk (w v : Nat) (a b c d : Int) (hw : w < 4294967296) (hv : v < 4294967296) (ha : I64 a) (hb : I64 b) (hc : I64 c) (hd : I64 d) (W : World) :
    Calls Try.prog 4 #[.int .u32 w, .int .u32 v, .int .i64 a, .int .i64 b, .int .i64 c, .int .i64 d] W fun e w' => e = .returned (.bool true) ∧ Below W.heap.size W w' := by
  rcases fit_or (low := 0) (m := b) with h0 | h0
  · have hf := Bm.fld_lt v (0 : Int).toNat b.toNat
    have h1 := get_fit hv h0
    rcases fit_or (low := a) (m := b) with h2 | h2
    · have hm : a.toNat + b.toNat ≤ 32 := by unfold Fit at h2; omega
      have hp := Bm.put_lt w a.toNat b.toNat _ hw hf hm
      have g3 := get_fit hp h2
      rw [get_put w _ _ _ hw hf hm] at g3
      have g5 := put_fit hp h2 (Bm.fld_lt w a.toNat b.toNat)
      rw [put_back w _ _ _ hw hf hm] at g5
      have hab : 0 ≤ a ∧ 1 ≤ b ∧ a + b ≤ 32 := by unfold Fit at h2; omega
      rcases fit_or (low := c) (m := d) with h3 | h3
      · have g7 := get_fit hp h3
        obtain ⟨q1, q2, q3⟩ := id h3
        by_cases hap : a + b ≤ c ∨ c + d ≤ a
        · rw [get_apart w _ _ _ _ _ hw hf hm (by omega)] at g7
          exact back_apart w v a b c d _ _ _ _ q1 (by omega) q2 (by simp; omega) (by omega) hab hap h1 (put_fit hw h2 hf) g3 (get_fit hw h2) g5 (get_fit hw h3) g7 W
        · exact back_near w v a b c d _ _ _ _ _ q1 (by omega) q2 (by simp; omega) (by omega) hab hap h1 (put_fit hw h2 hf) g3 (get_fit hw h2) g5 (get_fit hw h3) g7 W
      · exact back_bad w v a b c d _ _ _ h3 h1 (put_fit hw h2 hf) g3 (get_fit hw h2) g5 (get_no _ _ _ h3 hc.1 hc.2 hd.1 hd.2) (get_no _ _ _ h3 hc.1 hc.2 hd.1 hd.2) W
    · exact back_off w v a b c d _ (by unfold Bad at h2; unfold Fit at h0; omega) h0.1 (by have := h0.2.2; omega) h1 (put_no _ _ _ _ h2 ha.1 ha.2 hb.1 hb.2) W
  · exact back_no w v a b c d (by unfold Bad at h0; omega) (get_no _ _ _ h0 (by omega) (by omega) hb.1 hb.2) W
end Go.Proofs.Ytogeihfmbjjacaa
