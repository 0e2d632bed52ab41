/- BitsFields, BitsTurned and BitsCounts out of the contracts. -/
import Derived.Test.YtogeihfmbjjacaaL4
namespace Go.Proofs.Ytogeihfmbjjacaa
open Go.RowKit
def ModIs (a n r : Int) : Prop := ∀ W, Calls Try.prog 22 #[.int .i64 a, .int .i64 n] W fun e w' => e = .returned (.int .i64 r) ∧ W = w'
theorem mod_is (a n : Int) (hn : 1 ≤ n) (h3 : n ≤ 9223372036854775807) : ModIs a n (a.natAbs % n.natAbs : Nat) := fun W => mod_any a n hn h3 W
set_option maxRecDepth 100000 in
set_option maxHeartbeats 1000000 in
theorem fields_core (w p q r x y z u1 u2 v1 v2 : Nat) (a b r1 r2 : Int) (hx1 : 1 ≤ x) (hx2 : x ≤ 30) (_hy1 : x < y) (hy2 : y ≤ 31) (_hr1 : 0 ≤ r1) (hr2 : 0 ≤ r2) (hx : 1 + r1 = (x : Int)) (hy : (x : Int) + 1 + r2 = (y : Int)) (hz : (2 : Int) ^ x % 4294967296 = (z : Int))
    (m1 : ModIs a 30 r1) (m2 : ModIs b (31 - x) r2)
    (g1 : GetIs w 0 x p 0) (g2 : GetIs w x (y - x) q 0) (g3 : GetIs w y (32 - y) r 0)
    (p1 : PutIs 0 y (32 - y) r u1 0) (p2 : PutIs u1 0 x p u2 0) (p3 : PutIs u2 x (y - x) q w 0)
    (p4 : PutIs 4294967295 x (y - x) q v1 0) (p5 : PutIs v1 y (32 - y) r v2 0) (p6 : PutIs v2 0 x p w 0) (p7 : PutIs w 0 x z 0 1) (W : World) :
    Calls Try.prog 7 #[.int .u32 w, .int .i64 a, .int .i64 b] W fun e w' => e = .returned (.bool true) ∧ Below W.heap.size W w' := by
  have t1 : r1 ≤ 29 := by omega
  have t2 : r2 ≤ 30 := by omega
  go_enter Try.func7, Try.ntmps7
  go_wp2_with fail
  refine (shown_any _).mono ?_
  rintro e w1 ⟨rfl, hb1⟩
  go_wp2_with fail
  refine (m1 _).mono ?_
  rintro e w2 ⟨rfl, rfl⟩
  go_wp2_with fail
  refine (m2 _).mono ?_
  rintro e w2 ⟨rfl, rfl⟩
  go_wp2_with fail
  refine (g1 _).mono ?_
  rintro e w2 ⟨rfl, hb2⟩
  go_wp2_with fail
  refine (g2 _).mono ?_
  rintro e w3 ⟨rfl, hb3⟩
  go_wp2_with fail
  refine (g3 _).mono ?_
  rintro e w4 ⟨rfl, hb4⟩
  go_wp2_with fail
  refine (p1 _).mono ?_
  rintro e w5 ⟨rfl, hb5⟩
  go_wp2_with fail
  refine (p2 _).mono ?_
  rintro e w6 ⟨rfl, hb6⟩
  go_wp2_with fail
  refine (p3 _).mono ?_
  rintro e w7 ⟨rfl, hb7⟩
  go_wp2_with fail
  refine (p4 _).mono ?_
  rintro e w8 ⟨rfl, hb8⟩
  go_wp2_with fail
  refine (p5 _).mono ?_
  rintro e w9 ⟨rfl, hb9⟩
  go_wp2_with fail
  refine (p6 _).mono ?_
  rintro e w10 ⟨rfl, hb10⟩
  go_wp2_with fail
  refine (p7 _).mono ?_
  rintro e w11 ⟨rfl, hb11⟩
  go_wp2
  go_ret
  exact ⟨rfl, below3 (below3 (below3 hb1 hb2 hb3) (below3 hb4 hb5 hb6) hb7) hb8 (below3 hb9 hb10 hb11)⟩
theorem natAbs_cast (n : Nat) : ((n : Int)).natAbs = n := by simp
theorem fields_walk (w : Nat) (a b : Int) (hw : w < 4294967296) (W : World) :
    Calls Try.prog 7 #[.int .u32 w, .int .i64 a, .int .i64 b] W fun e w' => e = .returned (.bool true) ∧ Below W.heap.size W w' := by
  have m1 := mod_is a 30 (by omega) (by omega)
  rw [show Int.natAbs 30 = 30 from rfl] at m1
  have l1 : a.natAbs % 30 < 30 := Nat.mod_lt _ (by omega)
  generalize a.natAbs % 30 = r1 at *
  obtain ⟨x, hx⟩ : ∃ x, x = 1 + r1 := ⟨_, rfl⟩
  have m2 := mod_is b (31 - x) (by omega) (by omega)
  have l2 : b.natAbs % (31 - (x : Int)).natAbs < (31 - (x : Int)).natAbs := Nat.mod_lt _ (by omega)
  generalize b.natAbs % (31 - (x : Int)).natAbs = r2 at *
  obtain ⟨y, hy⟩ : ∃ y, y = x + 1 + r2 := ⟨_, rfl⟩
  have f1 : Fit 0 x := ⟨by omega, by omega, by omega⟩
  have f2 : Fit x (y - x) := ⟨by omega, by omega, by omega⟩
  have f3 : Fit y (32 - y) := ⟨by omega, by omega, by omega⟩
  have e1 : ((y : Int) - x).toNat = y - x := by omega
  have e2 : ((32 : Int) - y).toNat = 32 - y := by omega
  have e0 : (0 : Int).toNat = 0 := rfl
  have g1 := get_fit hw f1
  have g2 := get_fit hw f2
  have g3 := get_fit hw f3
  rw [Int.toNat_natCast, e0] at g1
  rw [Int.toNat_natCast, e1] at g2
  rw [Int.toNat_natCast, e2] at g3
  have d1 := Bm.fld_lt w 0 x
  have d2 := Bm.fld_lt w x (y - x)
  have d3 := Bm.fld_lt w y (32 - y)
  have p1 := put_fit (w := 0) (v := Bm.fld w y (32 - y)) (by omega) f3 (by rw [e2]; exact d3)
  rw [Int.toNat_natCast, e2] at p1
  have u1l := Bm.put_lt 0 y (32 - y) _ (by omega) d3 (by omega)
  have p2 := put_fit (v := Bm.fld w 0 x) u1l f1 (by rw [Int.toNat_natCast]; exact d1)
  rw [Int.toNat_natCast, e0] at p2
  have u2l := Bm.put_lt _ 0 x _ u1l d1 (by omega)
  have p3 := put_fit (v := Bm.fld w x (y - x)) u2l f2 (by rw [e1]; exact d2)
  rw [Int.toNat_natCast, e1] at p3
  have p4 := put_fit (w := 4294967295) (v := Bm.fld w x (y - x)) (by omega) f2 (by rw [e1]; exact d2)
  rw [Int.toNat_natCast, e1] at p4
  have v1l := Bm.put_lt 4294967295 x (y - x) _ (by omega) d2 (by omega)
  have p5 := put_fit (v := Bm.fld w y (32 - y)) v1l f3 (by rw [e2]; exact d3)
  rw [Int.toNat_natCast, e2] at p5
  have v2l := Bm.put_lt _ y (32 - y) _ v1l d3 (by omega)
  have p6 := put_fit (v := Bm.fld w 0 x) v2l f1 (by rw [Int.toNat_natCast]; exact d1)
  rw [Int.toNat_natCast, e0] at p6
  have hz32 : 2 ^ x < 4294967296 := by have := Nat.pow_le_pow_right (n := 2) (by omega) (show x ≤ 31 by omega); omega
  have p7 := put_unfit (w := w) (v := 2 ^ x) f1 hz32 (by rw [Int.toNat_natCast]; omega)
  have ew : Bm.put (Bm.put (Bm.put 0 y (32 - y) (Bm.fld w y (32 - y))) 0 x (Bm.fld w 0 x)) x (y - x) (Bm.fld w x (y - x)) = w := by
    apply Bm.ext32 (Bm.put_lt _ _ _ _ u2l d2 (by omega)) hw; intro i hi
    rw [Bm.tb_put _ _ _ _ _ u2l d2 (by omega), Bm.tb_put _ _ _ _ _ u1l d1 (by omega), Bm.tb_put _ _ _ _ _ (by omega) d3 (by omega), Bm.tb_fld, Bm.tb_fld, Bm.tb_fld]
    by_cases c1 : x ≤ i ∧ i < x + (y - x)
    · rw [if_pos c1, show x + (i - x) = i by omega, decide_eq_true (show i - x < y - x by omega)]; simp
    · rw [if_neg c1]
      by_cases c2 : 0 ≤ i ∧ i < 0 + x
      · rw [if_pos c2, show 0 + (i - 0) = i by omega, decide_eq_true (show i - 0 < x by omega)]; simp
      · rw [if_neg c2, if_pos (by omega), show y + (i - y) = i by omega, decide_eq_true (show i - y < 32 - y by omega)]; simp
  have ev : Bm.put (Bm.put (Bm.put 4294967295 x (y - x) (Bm.fld w x (y - x))) y (32 - y) (Bm.fld w y (32 - y))) 0 x (Bm.fld w 0 x) = w := by
    apply Bm.ext32 (Bm.put_lt _ _ _ _ v2l d1 (by omega)) hw; intro i hi
    rw [Bm.tb_put _ _ _ _ _ v2l d1 (by omega), Bm.tb_put _ _ _ _ _ v1l d3 (by omega), Bm.tb_put _ _ _ _ _ (by omega) d2 (by omega), Bm.tb_fld, Bm.tb_fld, Bm.tb_fld]
    by_cases c2 : 0 ≤ i ∧ i < 0 + x
    · rw [if_pos c2, show 0 + (i - 0) = i by omega, decide_eq_true (show i - 0 < x by omega)]; simp
    · rw [if_neg c2]
      by_cases c3 : y ≤ i ∧ i < y + (32 - y)
      · rw [if_pos c3, show y + (i - y) = i by omega, decide_eq_true (show i - y < 32 - y by omega)]; simp
      · rw [if_neg c3, if_pos (by omega), show x + (i - x) = i by omega, decide_eq_true (show i - x < y - x by omega)]; simp
  rw [ew] at p3
  rw [ev] at p6
  have hz : (2 : Int) ^ x % 4294967296 = ((2 ^ x : Nat) : Int) := by
    rw [show (2 : Int) ^ x = ((2 ^ x : Nat) : Int) by simp]; omega
  exact fields_core w _ _ _ x y (2 ^ x) _ _ _ _ a b r1 r2 (by omega) (by omega) (by omega) (by omega) (by omega) (by omega) (by omega) (by omega) hz m1 m2 g1 g2 g3 p1 p2 p3 p4 p5 p6 p7 W

set_option maxHeartbeats 1000000 in
theorem turned_core (w f r m k t c1 c2 : Nat) (low many by' r1 : Int) (hm1 : 1 ≤ m) (hk : k + m ≤ 32) (ht : t + (m + k) ≤ 32) (_hr0 : 0 ≤ r1) (hr : 1 + r1 = (m : Int))
    (m1 : ModIs many 31 r1) (m2 : ModIs low (33 - m) k) (m3 : ModIs by' (33 - m - k) t)
    (g1 : GetIs w k m f 0) (t1 : TurnIs w t r) (g2 : GetIs r (k + t) m f 0) (t2 : TurnIs r (32 - t) w) (n1 : CountIs f c1) (n2 : CountIs w c2) (hc : decide (c1 ≤ c2) = true) (hc2 : decide (c1 ≤ m) = true) (W : World) :
    Calls Try.prog 9 #[.int .u32 w, .int .i64 low, .int .i64 many, .int .i64 by'] W fun e w' => e = .returned (.bool true) ∧ Below W.heap.size W w' := by
  have t0 : r1 ≤ 31 := by omega
  go_enter Try.func9, Try.ntmps9
  go_wp2_with fail
  refine (shown_any _).mono ?_
  rintro e w1 ⟨rfl, hb1⟩
  go_wp2_with fail
  refine (m1 _).mono ?_
  rintro e w2 ⟨rfl, rfl⟩
  go_wp2_with fail
  refine (m2 _).mono ?_
  rintro e w2 ⟨rfl, rfl⟩
  go_wp2_with fail
  refine (m3 _).mono ?_
  rintro e w2 ⟨rfl, rfl⟩
  go_wp2_with fail
  refine (g1 _).mono ?_
  rintro e w2 ⟨rfl, hb2⟩
  go_wp2_with fail
  refine (t1 _).mono ?_
  rintro e w3 ⟨rfl, rfl⟩
  go_wp2_with fail
  refine (g2 _).mono ?_
  rintro e w3 ⟨rfl, hb3⟩
  go_wp2_with fail
  refine (t1 _).mono ?_
  rintro e w4 ⟨rfl, rfl⟩
  go_wp2_with fail
  refine (t2 _).mono ?_
  rintro e w4 ⟨rfl, rfl⟩
  go_wp2_with fail
  refine (n1 _).mono ?_
  rintro e w4 ⟨rfl, rfl⟩
  go_wp2_with fail
  refine (n2 _).mono ?_
  rintro e w4 ⟨rfl, rfl⟩
  go_wp2_with fail
  refine (n1 _).mono ?_
  rintro e w4 ⟨rfl, rfl⟩
  go_wp2
  go_ret
  exact ⟨rfl, below3 hb1 hb2 hb3⟩
theorem turned_walk (w : Nat) (low many by' : Int) (hw : w < 4294967296) (W : World) :
    Calls Try.prog 9 #[.int .u32 w, .int .i64 low, .int .i64 many, .int .i64 by'] W fun e w' => e = .returned (.bool true) ∧ Below W.heap.size W w' := by
  have m1 := mod_is many 31 (by omega) (by omega)
  rw [show Int.natAbs 31 = 31 from rfl] at m1
  have l1 : many.natAbs % 31 < 31 := Nat.mod_lt _ (by omega)
  generalize many.natAbs % 31 = r1 at *
  obtain ⟨m, hm⟩ : ∃ m, m = 1 + r1 := ⟨_, rfl⟩
  have m2 := mod_is low (33 - m) (by omega) (by omega)
  have l2 : low.natAbs % (33 - (m : Int)).natAbs < (33 - (m : Int)).natAbs := Nat.mod_lt _ (by omega)
  generalize low.natAbs % (33 - (m : Int)).natAbs = k at *
  have m3 := mod_is by' (33 - m - k) (by omega) (by omega)
  have l3 : by'.natAbs % (33 - (m : Int) - k).natAbs < (33 - (m : Int) - k).natAbs := Nat.mod_lt _ (by omega)
  generalize by'.natAbs % (33 - (m : Int) - k).natAbs = t at *
  have f1 : Fit k m := ⟨by omega, by omega, by omega⟩
  have f2 : Fit (k + t) m := ⟨by omega, by omega, by omega⟩
  have g1 := get_fit hw f1
  rw [Int.toNat_natCast, Int.toNat_natCast] at g1
  have t1 := turn_any w t hw
  rw [show ((t : Int) % 32).toNat = t by omega] at t1
  have hr := Bm.rot_lt w t hw (by omega)
  have g2 := get_fit hr f2
  rw [Int.toNat_natCast, show ((k : Int) + t).toNat = k + t by omega] at g2
  have eg : Bm.fld (Bm.rot w t) (k + t) m = Bm.fld w k m := by
    apply Nat.eq_of_testBit_eq; intro i
    rw [Bm.tb_fld, Bm.tb_fld]
    by_cases hi : i < m
    · rw [Bm.tb_rot w t _ hw (by omega), show (k + t + i + 32 - t) % 32 = k + i by omega, decide_eq_true (show k + t + i < 32 by omega), Bool.true_and]
    · simp [hi]
  rw [eg] at g2
  have t2 := turn_any (Bm.rot w t) (32 - t) hr
  rw [Bm.rot_rot w _ _ hw (by omega) (by omega), show (t + ((32 - (t : Int)) % 32).toNat) % 32 = 0 by omega, Bm.rot_zero w hw] at t2
  have h1 := pc_split w k hw (by omega)
  have h2 := pc_split (w / 2 ^ k) m (Nat.lt_of_le_of_lt (Nat.div_le_self _ _) hw) (by omega)
  have h3 := pc_le m (Bm.fld w k m) (Bm.fld_lt _ _ _) (32 - m)
  rw [show m + (32 - m) = 32 by omega] at h3
  have h4 := Bm.pcN_le m (Bm.fld w k m)
  have h5 : Bm.pcN 32 (w / 2 ^ k % 2 ^ m) = Bm.pcN 32 (Bm.fld w k m) := rfl
  exact turned_core w _ _ m k t _ _ low many by' r1 (by omega) (by omega) (by omega) (by omega) (by omega) m1 m2 m3 g1 t1 g2 t2 (count_any _ (Bm.fld_lt32 _ _ _ (by omega))) (count_any w hw) (decide_eq_true (by omega)) (decide_eq_true (by omega)) W

set_option maxHeartbeats 1000000 in
theorem counts_walk (w : Nat) (hw : w < 4294967296) (W : World) :
    Calls Try.prog 8 #[.int .u32 w] W fun e w' => e = .returned (.bool true) ∧ Below W.heap.size W w' := by
  have hc := count_any w hw
  have ht := turn_any w 1 hw
  rw [show ((1 : Int) % 32).toNat = 1 from rfl] at ht
  have hr := Bm.rot_lt w 1 hw (by omega)
  have HC : CountIs w (Bm.pcN 32 w) := hc
  have HT : TurnIs w 1 (Bm.rot w 1) := ht
  clear hc ht
  go_enter Try.func8, Try.ntmps8
  go_wp2_with fail
  refine (shown_any _).mono ?_
  rintro e w1 ⟨rfl, hb1⟩
  go_wp2_with fail
  go_loopw [4, 5] (fun n i w' => ∃ j : Nat, j ≤ 32 ∧ i = .int .i64 j ∧ n = .int .i64 (Bm.pcTo w j) ∧ Below W.heap.size W w') (fun _ i _ => 32 - (intOf i).toNat)
  case atStart => exact ⟨0, by omega, rfl, rfl, hb1⟩
  case round =>
    obtain ⟨j, hj, rfl, rfl, hbw⟩ := hrel
    by_cases h0 : j = 32
    · subst h0
      rw [Bm.pcTo_pcN]
      go_wp2_with fail
      refine (HC _).mono ?_
      rintro e w2 ⟨rfl, rfl⟩
      go_wp2
      go_ret
      exact ⟨rfl, hbw⟩
    · have f1 : Fit j 1 := ⟨by omega, by omega, by omega⟩
      have f2 : Fit (((j : Int) + 1) % 32) 1 := ⟨by omega, by omega, by omega⟩
      have g1 := get_fit hw f1
      have g2 := signed_fit hw f1
      have g3 := get_fit hr f2
      rw [Int.toNat_natCast, show (1 : Int).toNat = 1 from rfl] at g1 g2
      have e3 : Bm.fld (Bm.rot w 1) (((j : Int) + 1) % 32).toNat 1 = Bm.fld w j 1 := by
        apply Nat.eq_of_testBit_eq; intro i
        rw [Bm.tb_fld, Bm.tb_fld]
        by_cases hi : i < 1
        · rw [Bm.tb_rot w 1 _ hw (by omega), show ((((j : Int) + 1) % 32).toNat + i + 32 - 1) % 32 = j + i by omega, decide_eq_true (show (((j : Int) + 1) % 32).toNat + i < 32 by omega), Bool.true_and]
        · simp [hi]
      rw [show (1 : Int).toNat = 1 from rfl, e3] at g3
      clear e3
      have hs : Bm.pcTo w (j + 1) = Bm.pcTo w j + Bm.bitn w j := rfl
      have hn : Bm.pcTo w j ≤ 32 := by rw [Bm.pcTo_pcN]; exact Nat.le_trans (Bm.pcN_le _ _) hj
      have eb : Bm.fld w j 1 = Bm.bitn w j := rfl
      rw [eb] at g1 g2 g3
      have hb2 : Bm.bitn w j = 0 ∨ Bm.bitn w j = 1 := by unfold Bm.bitn; omega
      have HS := Lib.hid hs; clear hs eb
      generalize Bm.pcTo w j = n at *
      rcases hb2 with hb | hb
      · rw [hb] at g1 g2 g3 HS
        rw [show Bm.sgn 0 1 = 0 by decide] at g2
        clear hb
        go_wp2_with fail
        refine (g1 _).mono ?_
        rintro e w2 ⟨rfl, hb2⟩
        go_wp2_with fail
        refine (g2 _).mono ?_
        rintro e w3 ⟨rfl, hb3⟩
        go_wp2_with fail
        refine (HT _).mono ?_
        rintro e w4 ⟨rfl, rfl⟩
        go_wp2_with fail
        refine (g3 _).mono ?_
        rintro e w4 ⟨rfl, hb4⟩
        go_wp2
        go_roundw
        case rel => exact ⟨j + 1, by omega, by go_num, by rw [HS.out]; simp, below2 hbw (below3 hb2 hb3 hb4)⟩
        case measure => simp [intOf]; omega
      · rw [hb] at g1 g2 g3 HS
        rw [show Bm.sgn 1 1 = -1 by decide] at g2
        clear hb
        go_wp2_with fail
        refine (g1 _).mono ?_
        rintro e w2 ⟨rfl, hb2⟩
        go_wp2_with fail
        refine (g2 _).mono ?_
        rintro e w3 ⟨rfl, hb3⟩
        go_wp2_with fail
        refine (HT _).mono ?_
        rintro e w4 ⟨rfl, rfl⟩
        go_wp2_with fail
        refine (g3 _).mono ?_
        rintro e w4 ⟨rfl, hb4⟩
        go_wp2
        go_roundw
        case rel => exact ⟨j + 1, by omega, by go_num, by rw [HS.out]; go_num, below2 hbw (below3 hb2 hb3 hb4)⟩
        case measure => simp [intOf]; omega
end Go.Proofs.Ytogeihfmbjjacaa
