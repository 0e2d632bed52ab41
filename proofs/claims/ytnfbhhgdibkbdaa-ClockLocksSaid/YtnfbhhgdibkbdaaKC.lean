/- ask[uint64]: what a clock's source is asked. -/
import Derived.Test.YtnfbhhgdibkbdaaK16
import Derived.Test.YtnfbhhgdibkbdaaA
namespace Go.Proofs.Ytnfbhhgdibkbdaa
section
set_option linter.unusedSimpArgs false
set_option linter.unusedVariables false
open Go.RowKit Go.Maps

/-- the told of ask[bool] says r of y -/
def ToldU (b5 b7 b3 : Nat) (y : Int) (r : Nat) (w : World) : Prop :=
  ∀ W, Below w.heap.size w W → Calls Try.prog 92 #[.int .i64 y, .pointer (some ⟨b5, 0, none⟩), .pointer (some ⟨b7, 0, none⟩), .pointer (some ⟨b3, 0, none⟩)] W fun e w' => e = .returned (.int .u64 (r : Int)) ∧ Below W.heap.size W w'

set_option maxRecDepth 100000 in
set_option maxHeartbeats 2000000 in
theorem srcu_any (b5 b7 b3 bi gt g c : Nat) (sts : List Sta) (k m : Nat) (x : Sta) (y : Int) (r : Nat) (w : World) (hn : sts.length ≤ 1000) (hfn : x.clk.frm.length ≤ 1000)
    (c7 : w.cell? ⟨b7, 0, none⟩ = some (.func (.func 92) #[] #[.pointer (some ⟨b5, 0, none⟩), .pointer (some ⟨b7, 0, none⟩), .pointer (some ⟨b3, 0, none⟩)]))
    (c3 : w.cell? ⟨b3, 0, none⟩ = some (.pointer (some ⟨gt, 0, none⟩))) (ci : w.cell? ⟨bi, 0, none⟩ = some (.int .i64 (k : Int)))
    (h : TreeIs w gt g c sts) (hx : sts[k]? = some x) (hs : x.set = (m : Int)) (hy : x.clk.frm[m]? = some y) (ht : ToldU b5 b7 b3 y r w) :
    Calls Try.prog 93 #[.pointer (some ⟨b7, 0, none⟩), .pointer (some ⟨b3, 0, none⟩), .pointer (some ⟨bi, 0, none⟩)] w fun e w' => e = .returned (.int .u64 (r : Int)) ∧ Below w.heap.size w w' := by
  have b0 := (h.box 0 _ rfl).1
  have hk := get_lt hx
  have i0 : (0 : Int) ≤ (k : Int) := by omega
  have i1 : (k : Int) < (sts.length : Int) := by omega
  obtain ⟨vs, -, ⟨A, cc, rfl, hcc, hI⟩, hv⟩ := h.row.cell rfl hx
  have v1 : w.cell? ⟨g, k * 10 + 1, none⟩ = some (.slice A x.clk.frm.length cc) := (hv 1 _ rfl).1
  have v8 : w.cell? ⟨g, k * 10 + 8, none⟩ = some (.int .i64 (m : Int)) := by rw [← hs]; exact (hv 8 _ rfl).1
  have HS := Lib.hid (And.intro v1 (And.intro v8 (And.intro hcc hI.ints)))
  have HT := Lib.hid ht
  have HY := Lib.hid hy
  clear h hx hv v1 v8 hs hy ht hI hcc
  have eg : ∀ args w, (callFunc 92 args).run Try.prog w = .ok (.enter 92 args) w := fun args w => enters_of Try.func92 (by kernel_rfl) rfl args w
  have hd : ∀ n, Calls Try.prog 92 #[.int .i64 y, .pointer (some ⟨b5, 0, none⟩), .pointer (some ⟨b7, 0, none⟩), .pointer (some ⟨b3, 0, none⟩)] (w.drewN n) fun e w' => e = .returned (.int .u64 (r : Int)) ∧ Below w.heap.size w w' := fun n =>
    (HT.out (w.drewN n) ⟨rfl, rfl, rfl, Nat.le_refl _, fun _ _ => rfl⟩).mono fun e w' ⟨h1, h2⟩ => ⟨h1, (⟨rfl, rfl, rfl, Nat.le_refl _, fun _ _ => rfl⟩ : Below w.heap.size w (w.drewN n)).trans h2⟩
  have HD := Lib.hid hd
  clear hd
  go_enter Try.func93, Try.ntmps93
  go_wp2
  go_region_with (first
    | (refine (source_any g (k * 10) A cc _ m x.clk.frm y w.drew hfn HS.out.2.2.1 HS.out.1 HS.out.2.1 HS.out.2.2.2 HY.out).mono ?_
       rintro e w' ⟨rfl, n, rfl⟩)
    | (refine (HD.out _).mono ?_
       rintro e w' ⟨rfl, hb'⟩))
  all_goals
    rename_i hb'
    have HBB := Lib.hid hb'
    clear hb'
    go_wp2_with fail
    go_ret
    exact ⟨rfl, HBB.out⟩
end

section
set_option linter.unusedSimpArgs false
set_option linter.unusedVariables false
open Go.RowKit Go.Maps

theorem factor_yes (m : Int) (h1 : 1 ≤ m) (h2 : m ≤ 1000) (W : World) :
    Calls Try.prog 57 #[.int .i64 m] W fun e w' => e = .returned (.bool true) ∧ W = w' := by
  go_enter Try.func57, Try.ntmps57
  go_wp2
  go_ret
  exact ⟨rfl, rfl⟩
theorem mul_room (r m : Nat) (hr : r ≤ 1099511627776) (h : m ≤ 1000) : r * m ≤ 1099511627776000 := by
  have := Nat.mul_le_mul hr h
  omega
theorem scale_range (r m d : Nat) (hr : r ≤ 1099511627776) (h1 : 1 ≤ m) (h2 : m ≤ 1000) (h3 : 1 ≤ d) (h4 : d ≤ 1000) (h : 1099511627776 < r * m / d) (W : World) :
    Calls Try.prog 24 #[.int .u64 (r : Int), .int .i64 (m : Int), .int .i64 (d : Int)] W fun o w' => o = .returned (.tuple #[.int .u64 0, .int .i64 3]) ∧ W = w' := by
  have hm := mul_room r m hr h2
  obtain ⟨p, hp⟩ : ∃ p, r * m = p := ⟨_, rfl⟩
  rw [hp] at hm h
  have hp' : (r : Int) * m = (p : Int) := by rw [← hp]; simp
  obtain ⟨q, hq⟩ : ∃ q, p / d = q := ⟨_, rfl⟩
  have hq2 : q ≤ 1099511627776000 := by rw [← hq]; exact Nat.le_trans (Nat.div_le_self _ _) hm
  rw [hq] at h
  have hq' : (p : Int) / d = (q : Int) := by rw [← hq]; simp
  have HP := Lib.hid hp; clear hp
  have HQ := Lib.hid hq; clear hq
  go_enter Try.func24, Try.ntmps24
  go_wp2_with fail
  refine (factor_yes m (by omega) (by omega) _).mono ?_
  rintro e w1 ⟨rfl, rfl⟩
  go_wp2_with fail
  refine (factor_yes d (by omega) (by omega) _).mono ?_
  rintro e w1 ⟨rfl, rfl⟩
  go_wp2
  go_ret2
  exact ⟨rfl, rfl⟩
theorem scale_ok (r m d : Nat) (hr : r ≤ 1099511627776) (h1 : 1 ≤ m) (h2 : m ≤ 1000) (h3 : 1 ≤ d) (h4 : d ≤ 1000) (h : r * m / d ≤ 1099511627776) (W : World) :
    Calls Try.prog 24 #[.int .u64 (r : Int), .int .i64 (m : Int), .int .i64 (d : Int)] W fun o w' => o = .returned (.tuple #[.int .u64 ((r * m / d : Nat) : Int), .int .i64 0]) ∧ W = w' := by
  have hm := mul_room r m hr h2
  obtain ⟨p, hp⟩ : ∃ p, r * m = p := ⟨_, rfl⟩
  rw [hp] at hm h ⊢
  have hp' : (r : Int) * m = (p : Int) := by rw [← hp]; simp
  obtain ⟨q, hq⟩ : ∃ q, p / d = q := ⟨_, rfl⟩
  rw [hq] at h ⊢
  have hq' : (p : Int) / d = (q : Int) := by rw [← hq]; simp
  have HP := Lib.hid hp; clear hp
  have HQ := Lib.hid hq; clear hq
  go_enter Try.func24, Try.ntmps24
  go_wp2_with fail
  refine (factor_yes m (by omega) (by omega) _).mono ?_
  rintro e w1 ⟨rfl, rfl⟩
  go_wp2_with fail
  refine (factor_yes d (by omega) (by omega) _).mono ?_
  rintro e w1 ⟨rfl, rfl⟩
  go_wp2
  go_ret2
  exact ⟨rfl, rfl⟩
/-- what a PLL makes of a rate -/
def scaledN (r m d : Nat) : Nat := if r * m / d ≤ 1099511627776 then r * m / d else 1099511627776
theorem scaledN_le (r m d : Nat) : scaledN r m d ≤ 1099511627776 := by unfold scaledN; split <;> omega
theorem scaled_any (r m d : Nat) (hr : r ≤ 1099511627776) (h1 : 1 ≤ m) (h2 : m ≤ 1000) (h3 : 1 ≤ d) (h4 : d ≤ 1000) (W : World) :
    Calls Try.prog 56 #[.int .u64 (r : Int), .int .i64 (m : Int), .int .i64 (d : Int)] W fun o w' => o = .returned (.int .u64 (scaledN r m d : Int)) ∧ W = w' := by
  by_cases h : r * m / d ≤ 1099511627776
  · have HS := Lib.hid (scale_ok r m d hr h1 h2 h3 h4 h)
    rw [show scaledN r m d = r * m / d from if_pos h]
    generalize r * m / d = q at *
    clear h
    go_enter Try.func56, Try.ntmps56
    go_wp2_with fail
    refine (HS.out _).mono ?_
    rintro e w1 ⟨rfl, rfl⟩
    go_wp2
    go_ret
    exact ⟨rfl, rfl⟩
  · have HS := Lib.hid (scale_range r m d hr h1 h2 h3 h4 (by omega))
    rw [show scaledN r m d = 1099511627776 from if_neg h]
    clear h
    go_enter Try.func56, Try.ntmps56
    go_wp2_with fail
    refine (HS.out _).mono ?_
    rintro e w1 ⟨rfl, rfl⟩
    go_wp2
    go_ret
    exact ⟨rfl, rfl⟩

/-- how fast is a clock whose source is so fast -/
def rateN (x : Sta) (r : Nat) : Nat := if x.clk.kind = 111 then x.clk.rate.toNat else if x.clk.kind = 112 then scaledN r x.clk.mul.toNat x.clk.div.toNat else if x.clk.kind = 100 then r / x.clk.div.toNat else r
/-- numbers that a rate can be made of -/
structure RateOk (x : Sta) : Prop where
  osc : x.clk.kind = 111 → 0 ≤ x.clk.rate ∧ x.clk.rate ≤ 1099511627776
  pll : x.clk.kind = 112 → (1 ≤ x.clk.mul ∧ x.clk.mul ≤ 1000) ∧ 1 ≤ x.clk.div ∧ x.clk.div ≤ 1000
  div : x.clk.kind = 100 → 1 ≤ x.clk.div ∧ x.clk.div ≤ 1000
theorem rateN_le {x : Sta} {r : Nat} (h : RateOk x) (hr : r ≤ 1099511627776) : rateN x r ≤ 1099511627776 := by
  unfold rateN
  split
  · rename_i h1; have := h.osc h1; omega
  · split
    · exact scaledN_le _ _ _
    · split
      · exact Nat.le_trans (Nat.div_le_self _ _) hr
      · exact hr
/-- a source that tells r -/
def SrcU (b7 b3 bi : Nat) (r : Nat) (w : World) : Prop :=
  ∀ W, Below w.heap.size w W → Calls Try.prog 93 #[.pointer (some ⟨b7, 0, none⟩), .pointer (some ⟨b3, 0, none⟩), .pointer (some ⟨bi, 0, none⟩)] W fun e w' => e = .returned (.int .u64 (r : Int)) ∧ Below W.heap.size W w'

set_option maxRecDepth 100000 in
set_option maxHeartbeats 4000000 in
theorem rate1_any (b7 b3 bi bt gt g c : Nat) (sts : List Sta) (k : Nat) (x : Sta) (r : Nat) (w : World) (hn : sts.length ≤ 1000) (hro : RateOk x) (hrl : r ≤ 1099511627776)
    (ct : w.cell? ⟨bt, 0, none⟩ = some (.pointer (some ⟨gt, 0, none⟩))) (h : TreeIs w gt g c sts) (hx : sts[k]? = some x) (hs : x.clk.kind ≠ 111 → SrcU b7 b3 bi r w) :
    Calls Try.prog 55 #[.int .i64 (k : Int), .func (.func 93) #[] #[.pointer (some ⟨b7, 0, none⟩), .pointer (some ⟨b3, 0, none⟩), .pointer (some ⟨bi, 0, none⟩)], .pointer (some ⟨bt, 0, none⟩)] w
      fun e w' => e = .returned (.int .u64 (rateN x r : Int)) ∧ Below w.heap.size w w' := by
  have b0 := (h.box 0 _ rfl).1
  have hk := get_lt hx
  have i0 : (0 : Int) ≤ (k : Int) := by omega
  have i1 : (k : Int) < (sts.length : Int) := by omega
  obtain ⟨vs, -, ⟨A, cc, rfl, hcc, hI⟩, hv⟩ := h.row.cell rfl hx
  have v0 : w.cell? ⟨g, k * 10, none⟩ = some (.int .u8 x.clk.kind) := (hv 0 _ rfl).1
  have v1 := (hv 1 _ rfl).1
  have v2 := (hv 2 _ rfl).1
  have v3 := (hv 3 _ rfl).1
  have v4 := (hv 4 _ rfl).1
  have v5 := (hv 5 _ rfl).1
  have v6 := (hv 6 _ rfl).1
  have v7 := (hv 7 _ rfl).1
  have v8 := (hv 8 _ rfl).1
  have v9 := (hv 9 _ rfl).1
  have hb : Below w.heap.size w (w.alloc (.cells (staL x A cc).toArray 63)) := (Below.refl _ _).alloc (Nat.le_refl _) _
  have hbx := BoxAt.new w (staL x A cc) 63
  have p3 : (w.alloc (.cells (staL x A cc).toArray 63)).cell? ⟨w.heap.size, 3, none⟩ = some (.int .i64 x.clk.mul) := (hbx 3 _ rfl).1
  have p4 : (w.alloc (.cells (staL x A cc).toArray 63)).cell? ⟨w.heap.size, 4, none⟩ = some (.int .i64 x.clk.div) := (hbx 4 _ rfl).1
  have HB := Lib.hid hb
  have HS := Lib.hid hs
  have eg : ∀ args w, (callFunc 93 args).run Try.prog w = .ok (.enter 93 args) w := fun args w => enters_of Try.func93 (by kernel_rfl) rfl args w
  have ho1 := hro.osc
  have ho2 := hro.pll
  have ho3 := hro.div
  have HR := Lib.hid (And.intro ho1 (And.intro ho2 ho3))
  obtain ⟨⟨kd, frm, rate, mul, dv, lk⟩, on, left, st, want⟩ := x
  simp only [staL] at v0 v1 v2 v3 v4 v5 v6 v7 v8 v9 p3 p4
  clear hv hI hb hs h hx hbx hro ho1 ho2 ho3
  by_cases k1 : kd = 111
  · obtain ⟨q0, q1⟩ := HR.out.1 k1
    obtain ⟨rt, hrt⟩ : ∃ rt : Nat, rate = (rt : Int) := ⟨rate.toNat, by simp only at q0; omega⟩
    subst k1 hrt
    rw [show rateN ⟨⟨111, frm, (rt : Int), mul, dv, lk⟩, on, left, st, want⟩ r = rt from rfl]
    clear q0 q1
    go_enter Try.func55, Try.ntmps55
    go_wp2
    go_ret
    exact ⟨rfl, HB.out⟩
  · have e1 : (kd == 111) = false := by simpa using k1
    have HS' := Lib.hid (HS.out k1)
    by_cases k2 : kd = 112
    · obtain ⟨⟨m0, m1⟩, d0, d1⟩ := HR.out.2.1 k2
      simp only at m0 m1 d0 d1
      obtain ⟨mu, rfl⟩ : ∃ mu : Nat, mul = (mu : Int) := ⟨mul.toNat, by omega⟩
      obtain ⟨d, rfl⟩ : ∃ d : Nat, dv = (d : Int) := ⟨dv.toNat, by omega⟩
      subst k2
      rw [show rateN ⟨⟨112, frm, rate, (mu : Int), (d : Int), lk⟩, on, left, st, want⟩ r = scaledN r mu d from rfl]
      have HSC := Lib.hid (scaled_any r mu d hrl (by omega) (by omega) (by omega) (by omega))
      generalize scaledN r mu d = q at *
      clear m0 m1 d0 d1
      go_enter Try.func55, Try.ntmps55
      go_wp2
      go_region_with (first
        | (refine (HS'.out _ HB.out.drew).mono ?_
           rintro e w6 ⟨rfl, hb6⟩
           have HB6 := Lib.hid hb6
           have p3' := (Moved.of_below (hot := []) hb6).cell p3 (by simp)
           have p4' := (Moved.of_below (hot := []) hb6).cell p4 (by simp)
           clear hb6)
        | (refine (HSC.out _).mono ?_
           rintro e w7 ⟨rfl, rfl⟩))
      all_goals
        have HBF := Lib.hid (HB.out.drew.trans (HB6.out.mono HB.out.size))
        go_wp2_with fail
        go_ret
        exact ⟨rfl, HBF.out⟩
    · have e2 : (kd == 112) = false := by simpa using k2
      by_cases k3 : kd = 100
      · obtain ⟨d0, d1⟩ := HR.out.2.2 k3
        simp only at d0 d1
        obtain ⟨d, rfl⟩ : ∃ d : Nat, dv = (d : Int) := ⟨dv.toNat, by omega⟩
        subst k3
        rw [show rateN ⟨⟨100, frm, rate, mul, (d : Int), lk⟩, on, left, st, want⟩ r = r / d from rfl]
        obtain ⟨qq, hqq⟩ : ∃ qq, r / d = qq := ⟨_, rfl⟩
        have hq' : (r : Int) / d = (qq : Int) := by rw [← hqq]; simp
        have hq2 : qq ≤ 1099511627776 := by rw [← hqq]; exact Nat.le_trans (Nat.div_le_self _ _) hrl
        have hd0 : ¬ d = 0 := by omega
        have hdi : ¬ ((d : Int) = 0) := by omega
        have hdb : ((d : Int) == 0) = false := beq_eq_false_iff_ne.2 hdi
        have hwd : IntKind.u64.wrap (d : Int) = (d : Int) := IntWalk.u64_in _ (by omega)
        have hwq : IntKind.u64.wrap (qq : Int) = (qq : Int) := IntWalk.u64_in _ (by omega)
        have hqt : (r : Int).tdiv (d : Int) = (qq : Int) := by rw [Int.tdiv_eq_ediv_of_nonneg (by omega)]; exact hq'
        rw [hqq]
        clear hqq
        go_enter Try.func55, Try.ntmps55
        go_wp2
        go_region_with (first
          | (refine (HS'.out _ HB.out.drew).mono ?_
             rintro e w6 ⟨rfl, hb6⟩
             have HB6 := Lib.hid hb6
             have p4' := (Moved.of_below (hot := []) hb6).cell p4 (by simp)
             clear hb6))
        all_goals
          have HBF := Lib.hid (HB.out.drew.trans (HB6.out.mono HB.out.size))
          go_wp2_with fail
          go_ret
          exact ⟨rfl, HBF.out⟩
      · have e3 : (kd == 100) = false := by simpa using k3
        have hr : rateN ⟨⟨kd, frm, rate, mul, dv, lk⟩, on, left, st, want⟩ r = r := by unfold rateN; simp [k1, k2, k3]
        rw [hr]
        clear hr
        go_enter Try.func55, Try.ntmps55
        go_wp2_with fail
        refine (HS'.out _ HB.out).mono ?_
        rintro e w' ⟨rfl, hb2⟩
        have HB2 := Lib.hid (HB.out.trans (hb2.mono HB.out.size))
        clear hb2
        go_wp2
        go_ret
        exact ⟨rfl, HB2.out⟩
end

section
set_option linter.unusedSimpArgs false
set_option linter.unusedVariables false
open Go.RowKit Go.Maps

/-- how fast is the k-th clock, if it runs -/
def rateF (sts : List Sta) : Nat → Nat → Nat
  | 0, _ => 0
  | f + 1, k => match sts[k]? with | some x => rateN x (rateF sts f (x.clk.frm.getD x.set.toNat 0).toNat) | none => 0
def rateP (sts : List Sta) (k : Nat) : Nat := rateF sts (k + 1) k
theorem rateF_more {sts : List Sta} (h : RightT sts) : ∀ (k f : Nat), k < f → rateF sts f k = rateP sts k := by
  intro k
  induction k using Nat.strongRecOn with
  | _ k ih =>
    intro f hf
    obtain ⟨f', rfl⟩ : ∃ f', f = f' + 1 := ⟨f - 1, by omega⟩
    unfold rateP
    show (match sts[k]? with | some x => rateN x (rateF sts f' (x.clk.frm.getD x.set.toNat 0).toNat) | none => 0) = (match sts[k]? with | some x => rateN x (rateF sts k (x.clk.frm.getD x.set.toNat 0).toNat) | none => 0)
    cases hx : sts[k]? with
    | none => rfl
    | some x =>
      simp only
      by_cases h1 : x.clk.kind = 111
      · unfold rateN; rw [if_pos h1, if_pos h1]
      · obtain ⟨m, y, e1, e2, e3⟩ := (h k x hx).2 h1
        have ey : (x.clk.frm.getD x.set.toNat 0).toNat = y := by rw [e1, Int.toNat_natCast, List.getD_eq_getElem?_getD, e2]; rfl
        rw [ey, ih y e3 f' (by omega), ih y e3 k e3]
theorem rateP_at {sts : List Sta} (h : RightT sts) {k m y : Nat} {x : Sta} (hx : sts[k]? = some x) (h1 : x.clk.kind ≠ 111) (e1 : x.set = (m : Int)) (e2 : x.clk.frm[m]? = some (y : Int)) (e3 : y < k) : rateP sts k = rateN x (rateP sts y) := by
  have ey : (x.clk.frm.getD x.set.toNat 0).toNat = y := by rw [e1, Int.toNat_natCast, List.getD_eq_getElem?_getD, e2]; rfl
  show (match sts[k]? with | some x => rateN x (rateF sts k (x.clk.frm.getD x.set.toNat 0).toNat) | none => 0) = _
  rw [hx]
  simp only
  rw [ey, rateF_more h y k e3]
theorem rateP_osc {sts : List Sta} {k : Nat} {x : Sta} (hx : sts[k]? = some x) (h1 : x.clk.kind = 111) (r : Nat) : rateP sts k = rateN x r := by
  show (match sts[k]? with | some x => rateN x (rateF sts k (x.clk.frm.getD x.set.toNat 0).toNat) | none => 0) = _
  rw [hx]
  unfold rateN
  simp only
  rw [if_pos h1, if_pos h1]

/-- all numbers are such that rates can be made of them -/
def RatesOk (sts : List Sta) : Prop := ∀ (k : Nat) (x : Sta), sts[k]? = some x → RateOk x
theorem rateF_le {sts : List Sta} (h : RatesOk sts) : ∀ (f k : Nat), rateF sts f k ≤ 1099511627776 := by
  intro f
  induction f with
  | zero => intro k; exact Nat.zero_le _
  | succ f ih =>
    intro k
    show (match sts[k]? with | some x => rateN x (rateF sts f (x.clk.frm.getD x.set.toNat 0).toNat) | none => 0) ≤ _
    cases hx : sts[k]? with
    | none => exact Nat.zero_le _
    | some x => exact rateN_le (h k x hx) (ih _)
theorem rateP_le {sts : List Sta} (h : RatesOk sts) (k : Nat) : rateP sts k ≤ 1099511627776 := rateF_le h _ _
/-- what told needs of memory -/
structure AskU (w : World) (b5 b7 b3 bt gt g c : Nat) (sts : List Sta) : Prop where
  c5 : w.cell? ⟨b5, 0, none⟩ = some (.func (.func 55) #[] #[.pointer (some ⟨bt, 0, none⟩)])
  c7 : w.cell? ⟨b7, 0, none⟩ = some (.func (.func 92) #[] #[.pointer (some ⟨b5, 0, none⟩), .pointer (some ⟨b7, 0, none⟩), .pointer (some ⟨b3, 0, none⟩)])
  c3 : w.cell? ⟨b3, 0, none⟩ = some (.pointer (some ⟨gt, 0, none⟩))
  ct : w.cell? ⟨bt, 0, none⟩ = some (.pointer (some ⟨gt, 0, none⟩))
  tree : TreeIs w gt g c sts
theorem below_moved {B : Nat} {w w' : World} (h : Below B w w') (hB : w.heap.size ≤ B) : Moved [] w w' := ⟨h.os, h.tape, h.output, h.size, fun k hk _ => h.block k (by omega)⟩
theorem AskU.later {w W : World} {b5 b7 b3 bt gt g c : Nat} {sts : List Sta} (h : AskU w b5 b7 b3 bt gt g c sts) (hb : Below w.heap.size w W) : AskU W b5 b7 b3 bt gt g c sts :=
  have hm : Moved [] w W := Moved.of_below hb
  ⟨hm.cell h.c5 (by simp), hm.cell h.c7 (by simp), hm.cell h.c3 (by simp), hm.cell h.ct (by simp), h.tree.move hm⟩
theorem ToldU.later {b5 b7 b3 : Nat} {y : Int} {r : Nat} {w W : World} (h : ToldU b5 b7 b3 y r w) (hb : Below w.heap.size w W) : ToldU b5 b7 b3 y r W := fun V hV => h V (hb.trans (hV.mono hb.size))

set_option maxRecDepth 100000 in
set_option maxHeartbeats 4000000 in
theorem toldu_any (b5 b7 b3 bt gt g c : Nat) (sts : List Sta) (w : World) (hn : sts.length ≤ 1000) (hr : RightT sts) (hq : RatesOk sts) (h : AskU w b5 b7 b3 bt gt g c sts) :
    ∀ (k : Nat) (x : Sta), sts[k]? = some x → ToldU b5 b7 b3 (k : Int) (rateP sts k) w := by
  intro k
  induction k using Nat.strongRecOn with
  | _ k ih =>
    intro x hx W hW
    have HA := h.later hW
    have hb1 : Below W.heap.size W (W.alloc (.cells #[.int .i64 (k : Int)] 3)) := (Below.refl _ _).alloc (Nat.le_refl _) _
    have HA1 := HA.later hb1
    have ci : (W.alloc (.cells #[.int .i64 (k : Int)] 3)).cell? ⟨W.heap.size, 0, none⟩ = some (.int .i64 (k : Int)) := (BoxAt.new W [.int .i64 (k : Int)] 3 0 _ rfl).1
    have hrun : ∃ r, rateP sts k = rateN x r ∧ r ≤ 1099511627776 ∧ (x.clk.kind ≠ 111 → SrcU b7 b3 W.heap.size r (W.alloc (.cells #[.int .i64 (k : Int)] 3))) := by
      by_cases h1 : x.clk.kind = 111
      · exact ⟨0, rateP_osc hx h1 _, by omega, fun h2 => absurd h1 h2⟩
      · obtain ⟨m, y, e1, e2, e3⟩ := (hr k x hx).2 h1
        have hy := List.getElem?_eq_getElem (l := sts) (i := y) (by have := get_lt hx; omega)
        refine ⟨rateP sts y, rateP_at hr hx h1 e1 e2 e3, rateP_le hq y, fun _ V hV => ?_⟩
        have HV := HA1.later hV
        exact srcu_any b5 b7 b3 W.heap.size gt g c sts k m x (y : Int) (rateP sts y) V hn (hr k x hx).1 HV.c7 HV.c3 ((Moved.of_below (hot := []) hV).cell ci (by simp)) HV.tree hx e1 e2 ((ih y e3 _ hy).later (hW.trans ((hb1.mono hW.size).trans (hV.mono (Nat.le_trans hW.size hb1.size)))))
    obtain ⟨r, er, hrl, hsrc⟩ := hrun
    rw [er]
    have c5 := HA1.c5
    have c5' := HA.c5
    have HR := Lib.hid (rate1_any b7 b3 W.heap.size bt gt g c sts k x r _ hn (hq k x hx) hrl HA1.ct HA1.tree hx hsrc)
    have HB1 := Lib.hid hb1
    have eg : ∀ args w, (callFunc 55 args).run Try.prog w = .ok (.enter 55 args) w := fun args w => enters_of Try.func55 (by kernel_rfl) rfl args w
    generalize rateN x r = q at *
    clear ih hx HA HA1 ci er hsrc hb1
    go_enter Try.func92, Try.ntmps92
    go_wp2_with fail
    refine (HR.out).mono ?_
    rintro e w' ⟨rfl, hb⟩
    have HB := Lib.hid (HB1.out.trans (hb.mono HB1.out.size))
    clear hb
    go_wp2
    go_ret
    exact ⟨rfl, HB.out⟩

/-- the world that ask makes -/
def asqW (w : World) (bt gt : Nat) : World :=
  ((w.alloc (.cells #[.pointer (some ⟨gt, 0, none⟩)] 29)).alloc (.cells #[.func (.func 55) #[] #[.pointer (some ⟨bt, 0, none⟩)]] 105)).alloc (.cells #[.func (.func 92) #[] #[.pointer (some ⟨w.heap.size + 1, 0, none⟩), .pointer (some ⟨w.heap.size + 1 + 1, 0, none⟩), .pointer (some ⟨w.heap.size, 0, none⟩)]] 48)
theorem asqW_below (w : World) (bt gt : Nat) : Below w.heap.size w (asqW w bt gt) :=
  (((Below.refl _ _).alloc (Nat.le_refl _) _).alloc (by simp) _).alloc (by simp; omega) _
theorem asqW_is {w : World} {bt gt g c : Nat} {sts : List Sta} (ct : w.cell? ⟨bt, 0, none⟩ = some (.pointer (some ⟨gt, 0, none⟩))) (h : TreeIs w gt g c sts) :
    AskU (asqW w bt gt) (w.heap.size + 1) (w.heap.size + 1 + 1) w.heap.size bt gt g c sts := by
  have hm : Moved [] w (asqW w bt gt) := Moved.of_below (asqW_below w bt gt)
  refine ⟨cell_past (cell_new _ _ _ (by simp)) _, cell_new _ _ _ (by simp), cell_past (cell_past (cell_new _ _ _ rfl) _) _, hm.cell ct (by simp), h.move hm⟩

set_option maxRecDepth 100000 in
set_option maxHeartbeats 2000000 in
theorem asku_any (bt gt g c : Nat) (sts : List Sta) (k : Nat) (x : Sta) (w : World) (hn : sts.length ≤ 1000) (hr : RightT sts) (hq : RatesOk sts) (ct : w.cell? ⟨bt, 0, none⟩ = some (.pointer (some ⟨gt, 0, none⟩))) (h : TreeIs w gt g c sts) (hx : sts[k]? = some x) :
    Calls Try.prog 54 #[.pointer (some ⟨gt, 0, none⟩), .int .i64 (k : Int), .func (.func 55) #[] #[.pointer (some ⟨bt, 0, none⟩)]] w fun e w' => e = .returned (.int .u64 (rateP sts k : Int)) ∧ Below w.heap.size w w' := by
  have HT := Lib.hid (toldu_any _ _ _ bt gt g c sts (asqW w bt gt) hn hr hq (asqW_is ct h) k x hx (asqW w bt gt) (Below.refl _ _))
  have HB := Lib.hid (asqW_below w bt gt)
  have eg : ∀ args w, (callFunc 92 args).run Try.prog w = .ok (.enter 92 args) w := fun args w => enters_of Try.func92 (by kernel_rfl) rfl args w
  have hsf := fun (a : Addr) (c : Array Value) (m : _) (W : World) => run_store Try.prog W a (.func (.func 92) #[] c) m rfl
  generalize rateP sts k = q at *
  clear ct h hx hr
  go_enter Try.func54, Try.ntmps54
  go_wp2_with fail
  refine (HT.out).mono ?_
  rintro e w' ⟨rfl, hb⟩
  have HB2 := Lib.hid (HB.out.trans (hb.mono HB.out.size))
  clear hb
  go_wp2
  go_ret
  exact ⟨rfl, HB2.out⟩


def rateI (sts : List Sta) (i : Int) : Nat := if runI sts i = true then rateP sts i.toNat else 0
set_option maxRecDepth 100000 in
set_option maxHeartbeats 2000000 in
theorem rate_any (gt g c : Nat) (sts : List Sta) (i : Int) (w : World) (hn : sts.length ≤ 1000) (hr : RightT sts) (hq : RatesOk sts) (h : TreeIs w gt g c sts) :
    Calls Try.prog 21 #[.pointer (some ⟨gt, 0, none⟩), .int .i64 i] w fun e w' => e = .returned (.int .u64 (rateI sts i : Int)) ∧ Below w.heap.size w w' := by
  have hb1 : Below w.heap.size w (w.alloc (.cells #[.pointer (some ⟨gt, 0, none⟩)] 29)) := (Below.refl _ _).alloc (Nat.le_refl _) _
  have h1 := h.move (Moved.of_below hb1)
  have ct : (w.alloc (.cells #[.pointer (some ⟨gt, 0, none⟩)] 29)).cell? ⟨w.heap.size, 0, none⟩ = some (.pointer (some ⟨gt, 0, none⟩)) := cell_new _ _ _ rfl
  have H1 := Lib.hid h1
  have HB := Lib.hid hb1
  have HRN := Lib.hid (running_any gt g c sts i _ hn hr h1)
  cases hb : runI sts i with
  | false =>
    have e : rateI sts i = 0 := by unfold rateI; rw [hb]; rfl
    rw [e]
    have HH := Lib.hid hb
    clear h h1 hb1 hb e hr hq
    go_enter Try.func21, Try.ntmps21
    go_wp2_with fail
    refine (HRN.out).mono ?_
    rintro e w' ⟨rfl, hb⟩
    rw [HH.out]
    have HB2 := Lib.hid (HB.out.trans (hb.mono HB.out.size))
    clear hb
    go_wp2
    go_ret
    exact ⟨rfl, HB2.out⟩
  | true =>
    have hlt : 0 ≤ i ∧ i < (sts.length : Int) := by
      unfold runI hasB at hb
      simp at hb
      omega
    obtain ⟨k, rfl⟩ : ∃ k : Nat, i = (k : Int) := ⟨i.toNat, by omega⟩
    have e : rateI sts (k : Int) = rateP sts k := by unfold rateI; rw [hb, if_pos rfl, Int.toNat_natCast]
    rw [e]
    have hx := List.getElem?_eq_getElem (l := sts) (i := k) (by omega)
    have HA := Lib.hid (fun W (hW : Below (w.heap.size + 1) (w.alloc (.cells #[.pointer (some ⟨gt, 0, none⟩)] 29)) W) => asku_any w.heap.size gt g c sts k _ W hn hr hq (hW.cell (p := ⟨w.heap.size, 0, none⟩) (by simp) |>.trans ct) (h1.move (below_moved hW (by simp))) hx)
    have HH := Lib.hid hb
    generalize rateP sts k = q at *
    clear h h1 hb1 hb e hr hx hlt hq
    go_enter Try.func21, Try.ntmps21
    go_wp2_with fail
    refine (HRN.out).mono ?_
    rintro e w' ⟨rfl, hb⟩
    rw [HH.out]
    have HB2 := Lib.hid hb
    have hc2 := (Moved.of_below (hot := []) hb).cell ct (by simp)
    clear hb
    go_wp2_with fail
    refine (HA.out _ (by simpa using HB2.out)).mono ?_
    rintro e w5 ⟨rfl, hb5⟩
    have HB5 := Lib.hid ((HB.out.trans (HB2.out.mono HB.out.size)).trans (hb5.mono (Nat.le_trans HB.out.size HB2.out.size)))
    clear hb5
    go_wp2
    go_ret
    exact ⟨rfl, HB5.out⟩
end

section
set_option linter.unusedSimpArgs false
set_option linter.unusedVariables false
open Go.RowKit Go.Maps

theorem IntsNew.low {l : List Int} {w W w' : World} {e : Ending} (hb : Below w.heap.size w W) (h : IntsNew l W e w') : IntsNew l w e w' := by
  obtain ⟨v, he, ho, hb2⟩ := h
  exact ⟨v, he, own_base' ho hb.size, hb.trans (hb2.mono hb.size)⟩
/-- the told of ask[[]int] says l of y -/
def ToldC (b5 b7 b3 : Nat) (y : Int) (l : List Int) (w : World) : Prop :=
  ∀ W, Below w.heap.size w W → Calls Try.prog 88 #[.int .i64 y, .pointer (some ⟨b5, 0, none⟩), .pointer (some ⟨b7, 0, none⟩), .pointer (some ⟨b3, 0, none⟩)] W (IntsNew l W)

set_option maxRecDepth 100000 in
set_option maxHeartbeats 2000000 in
theorem srcc_any (b5 b7 b3 bi gt g c : Nat) (sts : List Sta) (k m : Nat) (x : Sta) (y : Int) (l : List Int) (w : World) (hn : sts.length ≤ 1000) (hfn : x.clk.frm.length ≤ 1000)
    (c7 : w.cell? ⟨b7, 0, none⟩ = some (.func (.func 88) #[] #[.pointer (some ⟨b5, 0, none⟩), .pointer (some ⟨b7, 0, none⟩), .pointer (some ⟨b3, 0, none⟩)]))
    (c3 : w.cell? ⟨b3, 0, none⟩ = some (.pointer (some ⟨gt, 0, none⟩))) (ci : w.cell? ⟨bi, 0, none⟩ = some (.int .i64 (k : Int)))
    (h : TreeIs w gt g c sts) (hx : sts[k]? = some x) (hs : x.set = (m : Int)) (hy : x.clk.frm[m]? = some y) (ht : ToldC b5 b7 b3 y l w) :
    Calls Try.prog 89 #[.pointer (some ⟨b7, 0, none⟩), .pointer (some ⟨b3, 0, none⟩), .pointer (some ⟨bi, 0, none⟩)] w (IntsNew l w) := by
  have b0 := (h.box 0 _ rfl).1
  have hk := get_lt hx
  have i0 : (0 : Int) ≤ (k : Int) := by omega
  have i1 : (k : Int) < (sts.length : Int) := by omega
  obtain ⟨vs, -, ⟨A, cc, rfl, hcc, hI⟩, hv⟩ := h.row.cell rfl hx
  have v1 : w.cell? ⟨g, k * 10 + 1, none⟩ = some (.slice A x.clk.frm.length cc) := (hv 1 _ rfl).1
  have v8 : w.cell? ⟨g, k * 10 + 8, none⟩ = some (.int .i64 (m : Int)) := by rw [← hs]; exact (hv 8 _ rfl).1
  have HS := Lib.hid (And.intro v1 (And.intro v8 (And.intro hcc hI.ints)))
  have HT := Lib.hid ht
  have HY := Lib.hid hy
  clear h hx hv v1 v8 hs hy ht hI hcc
  have eg : ∀ args w, (callFunc 88 args).run Try.prog w = .ok (.enter 88 args) w := fun args w => enters_of Try.func88 (by kernel_rfl) rfl args w
  have hd : ∀ n, Calls Try.prog 88 #[.int .i64 y, .pointer (some ⟨b5, 0, none⟩), .pointer (some ⟨b7, 0, none⟩), .pointer (some ⟨b3, 0, none⟩)] (w.drewN n) (IntsNew l w) := fun n =>
    (HT.out (w.drewN n) ⟨rfl, rfl, rfl, Nat.le_refl _, fun _ _ => rfl⟩).mono fun e w' h => IntsNew.low (W := w.drewN n) ⟨rfl, rfl, rfl, Nat.le_refl _, fun _ _ => rfl⟩ h
  have HD := Lib.hid hd
  clear hd
  go_enter Try.func89, Try.ntmps89
  go_wp2
  go_region_with (first
    | (refine (source_any g (k * 10) A cc _ m x.clk.frm y w.drew hfn HS.out.2.2.1 HS.out.1 HS.out.2.1 HS.out.2.2.2 HY.out).mono ?_
       rintro e w' ⟨rfl, n, rfl⟩)
    | (refine (HD.out _).mono ?_
       rintro e w6 ⟨v6, rfl, ho6, hb6⟩
       have HBB := Lib.hid (And.intro ho6 hb6)
       clear ho6 hb6))
  all_goals
    go_wp2_with fail
    go_ret
    exact ⟨v6, rfl, HBB.out.1, HBB.out.2⟩

/-- a source that tells l -/
def SrcC (b7 b3 bi : Nat) (l : List Int) (w : World) : Prop :=
  ∀ W, Below w.heap.size w W → Calls Try.prog 89 #[.pointer (some ⟨b7, 0, none⟩), .pointer (some ⟨b3, 0, none⟩), .pointer (some ⟨bi, 0, none⟩)] W (IntsNew l W)
def chN (x : Sta) (k : Int) (r : List Int) : List Int := if x.clk.kind = 111 then [k] else r ++ [k]
theorem one_own (w : World) (x : Int) : (w.alloc (.cells #[.int .i64 x] 3)).ownsRow w.heap.size 3 1 (.slice (some ⟨w.heap.size, 0, none⟩) 1 1) 1 (iv [x]) :=
  ⟨by simp [iv], .inr ⟨w.heap.size, 1, #[.int .i64 x], rfl, Nat.le_refl _, heap_alloc_new w _, Nat.le_refl _, by unfold maxLen; omega, rfl, by simp [iv]⟩⟩

set_option maxRecDepth 100000 in
set_option maxHeartbeats 4000000 in
theorem chain1_any (b7 b3 bi bt gt g c : Nat) (sts : List Sta) (k : Nat) (x : Sta) (l : List Int) (w : World) (hn : sts.length ≤ 1000) (hl : l.length ≤ 1000)
    (ct : w.cell? ⟨bt, 0, none⟩ = some (.pointer (some ⟨gt, 0, none⟩))) (h : TreeIs w gt g c sts) (hx : sts[k]? = some x) (hs : x.clk.kind ≠ 111 → SrcC b7 b3 bi l w) :
    Calls Try.prog 51 #[.int .i64 (k : Int), .func (.func 89) #[] #[.pointer (some ⟨b7, 0, none⟩), .pointer (some ⟨b3, 0, none⟩), .pointer (some ⟨bi, 0, none⟩)], .pointer (some ⟨bt, 0, none⟩)] w (IntsNew (chN x (k : Int) l) w) := by
  have b0 := (h.box 0 _ rfl).1
  have hk := get_lt hx
  have i0 : (0 : Int) ≤ (k : Int) := by omega
  have i1 : (k : Int) < (sts.length : Int) := by omega
  obtain ⟨vs, -, ⟨A, cc, rfl, hcc, hI⟩, hv⟩ := h.row.cell rfl hx
  have v0 : w.cell? ⟨g, k * 10, none⟩ = some (.int .u8 x.clk.kind) := (hv 0 _ rfl).1
  have HS := Lib.hid hs
  have eg : ∀ args w, (callFunc 89 args).run Try.prog w = .ok (.enter 89 args) w := fun args w => enters_of Try.func89 (by kernel_rfl) rfl args w
  obtain ⟨kd, hkd⟩ : ∃ kd, kd = x.clk.kind := ⟨_, rfl⟩
  rw [← hkd] at v0
  have HKD := Lib.hid hkd
  clear hv hI hs h hx hkd
  by_cases k1 : kd = 111
  · have hc : chN x (k : Int) l = [(k : Int)] := by unfold chN; rw [← HKD.out, if_pos k1]
    rw [hc]
    subst k1
    have HO := Lib.hid (one_own w (k : Int))
    clear hc
    go_enter Try.func51, Try.ntmps51
    go_wp2
    go_ret
    exact ⟨_, rfl, HO.out, (Below.refl _ _).alloc (Nat.le_refl _) _⟩
  · have hc : chN x (k : Int) l = l ++ [(k : Int)] := by unfold chN; rw [← HKD.out, if_neg k1]
    rw [hc]
    have e1 : (kd == 111) = false := by simpa using k1
    have HS' := Lib.hid (HS.out (by rw [← HKD.out]; exact k1))
    obtain ⟨i3, hi, hz0, hzs, hzb⟩ := info_parts Try.info3
    clear hc
    go_enter Try.func51, Try.ntmps51
    go_wp2_with fail
    refine (HS'.out _ (Below.refl _ _)).mono ?_
    rintro e w6 ⟨v6, rfl, ho6, hb6⟩
    obtain ⟨A6, c6, rfl⟩ := own_shape' ho6
    obtain ⟨m, hm⟩ : ∃ m, m = l.length := ⟨_, rfl⟩
    rw [← hm] at ho6 hl ⊢
    have HM := Lib.hid hm
    have hown : (w6.alloc (.cells #[.int .i64 (k : Int)] 3)).ownsRow w.heap.size 3 1 (.slice A6 m c6) m (iv l) := own_move ho6 (fun g hg => (Moved.alloc (hot := []) w6 _).block g (ho6.lt g hg).2 (by simp))
    have HOWN := Lib.hid hown
    have HB6 := Lib.hid hb6
    have hz6 := hb6.size
    clear ho6 hb6 hown hm
    go_wp2_with (at_builtin; refine wpList_append_own_at _ rfl _ _ 35 rfl w.heap.size 3 i3 (.int .i64 0) 1 8 Try.underlying35 hi hz0 hzs hzb rfl (by decide) _ _ _ rfl HOWN.out ⟨w6.heap.size, 0, none⟩ 1 1 [.int .i64 (k : Int)] rfl rfl (cells_new w6 w6.heap.size rfl _ 3) (by intro u hu; simp at hu; rcases hu with rfl; rfl) (by unfold maxLen; omega) (by omega) (by simp; omega) ?_; intro v7 w7 hown7 hg7 _ hob7; have HX7 := Lib.hid (And.intro hown7 hg7); clear hown7 hg7 hob7)
    go_ret
    have hbl : ∀ b, (Value.slice A6 m c6).ownBlock = some b → w.heap.size ≤ b := fun b hb => (HOWN.out.lt b hb).1
    refine ⟨_, rfl, ?_, HB6.out.trans (((Below.refl _ w6).alloc hz6 _).grown HX7.out.2 (by simp; omega) hbl)⟩
    have := HX7.out.1
    rw [List.length_append, ← HM.out, iv_snoc]
    exact this

/-- by which clocks the k-th comes -/
def chF (sts : List Sta) : Nat → Nat → List Int
  | 0, _ => []
  | f + 1, k => match sts[k]? with | some x => chN x (k : Int) (chF sts f (x.clk.frm.getD x.set.toNat 0).toNat) | none => []
def chP (sts : List Sta) (k : Nat) : List Int := chF sts (k + 1) k
theorem chF_more {sts : List Sta} (h : RightT sts) : ∀ (k f : Nat), k < f → chF sts f k = chP sts k := by
  intro k
  induction k using Nat.strongRecOn with
  | _ k ih =>
    intro f hf
    obtain ⟨f', rfl⟩ : ∃ f', f = f' + 1 := ⟨f - 1, by omega⟩
    unfold chP
    show (match sts[k]? with | some x => chN x (k : Int) (chF sts f' (x.clk.frm.getD x.set.toNat 0).toNat) | none => []) = (match sts[k]? with | some x => chN x (k : Int) (chF sts k (x.clk.frm.getD x.set.toNat 0).toNat) | none => [])
    cases hx : sts[k]? with
    | none => rfl
    | some x =>
      simp only
      by_cases h1 : x.clk.kind = 111
      · unfold chN; rw [if_pos h1, if_pos h1]
      · obtain ⟨m, y, e1, e2, e3⟩ := (h k x hx).2 h1
        have ey : (x.clk.frm.getD x.set.toNat 0).toNat = y := by rw [e1, Int.toNat_natCast, List.getD_eq_getElem?_getD, e2]; rfl
        rw [ey, ih y e3 f' (by omega), ih y e3 k e3]
theorem chP_at {sts : List Sta} (h : RightT sts) {k m y : Nat} {x : Sta} (hx : sts[k]? = some x) (h1 : x.clk.kind ≠ 111) (e1 : x.set = (m : Int)) (e2 : x.clk.frm[m]? = some (y : Int)) (e3 : y < k) : chP sts k = chN x (k : Int) (chP sts y) := by
  have ey : (x.clk.frm.getD x.set.toNat 0).toNat = y := by rw [e1, Int.toNat_natCast, List.getD_eq_getElem?_getD, e2]; rfl
  show (match sts[k]? with | some x => chN x (k : Int) (chF sts k (x.clk.frm.getD x.set.toNat 0).toNat) | none => []) = _
  rw [hx]
  simp only
  rw [ey, chF_more h y k e3]
theorem chP_osc {sts : List Sta} {k : Nat} {x : Sta} (hx : sts[k]? = some x) (h1 : x.clk.kind = 111) (r : List Int) : chP sts k = chN x (k : Int) r := by
  show (match sts[k]? with | some x => chN x (k : Int) (chF sts k (x.clk.frm.getD x.set.toNat 0).toNat) | none => []) = _
  rw [hx]
  unfold chN
  simp only
  rw [if_pos h1, if_pos h1]
theorem chF_len (sts : List Sta) : ∀ (f k : Nat), (chF sts f k).length ≤ f := by
  intro f
  induction f with
  | zero => intro k; exact Nat.le_refl _
  | succ f ih =>
    intro k
    show (match sts[k]? with | some x => chN x (k : Int) (chF sts f (x.clk.frm.getD x.set.toNat 0).toNat) | none => []).length ≤ _
    cases hx : sts[k]? with
    | none => exact Nat.zero_le _
    | some x =>
      simp only
      unfold chN
      split
      · simp only [List.length_cons, List.length_nil]; omega
      · have := ih (x.clk.frm.getD x.set.toNat 0).toNat; simp only [List.length_append, List.length_cons, List.length_nil]; omega
theorem chP_len (sts : List Sta) (k : Nat) : (chP sts k).length ≤ k + 1 := chF_len sts _ _
/-- what told needs of memory -/
structure AskC (w : World) (b5 b7 b3 bt gt g c : Nat) (sts : List Sta) : Prop where
  c5 : w.cell? ⟨b5, 0, none⟩ = some (.func (.func 51) #[] #[.pointer (some ⟨bt, 0, none⟩)])
  c7 : w.cell? ⟨b7, 0, none⟩ = some (.func (.func 88) #[] #[.pointer (some ⟨b5, 0, none⟩), .pointer (some ⟨b7, 0, none⟩), .pointer (some ⟨b3, 0, none⟩)])
  c3 : w.cell? ⟨b3, 0, none⟩ = some (.pointer (some ⟨gt, 0, none⟩))
  ct : w.cell? ⟨bt, 0, none⟩ = some (.pointer (some ⟨gt, 0, none⟩))
  tree : TreeIs w gt g c sts
theorem AskC.later {w W : World} {b5 b7 b3 bt gt g c : Nat} {sts : List Sta} (h : AskC w b5 b7 b3 bt gt g c sts) (hb : Below w.heap.size w W) : AskC W b5 b7 b3 bt gt g c sts :=
  have hm : Moved [] w W := Moved.of_below hb
  ⟨hm.cell h.c5 (by simp), hm.cell h.c7 (by simp), hm.cell h.c3 (by simp), hm.cell h.ct (by simp), h.tree.move hm⟩
theorem ToldC.later {b5 b7 b3 : Nat} {y : Int} {l : List Int} {w W : World} (h : ToldC b5 b7 b3 y l w) (hb : Below w.heap.size w W) : ToldC b5 b7 b3 y l W := fun V hV => h V (hb.trans (hV.mono hb.size))

set_option maxRecDepth 100000 in
set_option maxHeartbeats 4000000 in
theorem toldc_any (b5 b7 b3 bt gt g c : Nat) (sts : List Sta) (w : World) (hn : sts.length ≤ 1000) (hr : RightT sts) (h : AskC w b5 b7 b3 bt gt g c sts) :
    ∀ (k : Nat) (x : Sta), sts[k]? = some x → ToldC b5 b7 b3 (k : Int) (chP sts k) w := by
  intro k
  induction k using Nat.strongRecOn with
  | _ k ih =>
    intro x hx W hW
    have HA := h.later hW
    have hb1 : Below W.heap.size W (W.alloc (.cells #[.int .i64 (k : Int)] 3)) := (Below.refl _ _).alloc (Nat.le_refl _) _
    have HA1 := HA.later hb1
    have ci : (W.alloc (.cells #[.int .i64 (k : Int)] 3)).cell? ⟨W.heap.size, 0, none⟩ = some (.int .i64 (k : Int)) := (BoxAt.new W [.int .i64 (k : Int)] 3 0 _ rfl).1
    have hrun : ∃ r, chP sts k = chN x (k : Int) r ∧ r.length ≤ 1000 ∧ (x.clk.kind ≠ 111 → SrcC b7 b3 W.heap.size r (W.alloc (.cells #[.int .i64 (k : Int)] 3))) := by
      by_cases h1 : x.clk.kind = 111
      · exact ⟨[], chP_osc hx h1 [], by simp, fun h2 => absurd h1 h2⟩
      · obtain ⟨m, y, e1, e2, e3⟩ := (hr k x hx).2 h1
        have hy := List.getElem?_eq_getElem (l := sts) (i := y) (by have := get_lt hx; omega)
        refine ⟨chP sts y, chP_at hr hx h1 e1 e2 e3, by have := chP_len sts y; have := get_lt hx; omega, fun _ V hV => ?_⟩
        have HV := HA1.later hV
        exact srcc_any b5 b7 b3 W.heap.size gt g c sts k m x (y : Int) (chP sts y) V hn (hr k x hx).1 HV.c7 HV.c3 ((Moved.of_below (hot := []) hV).cell ci (by simp)) HV.tree hx e1 e2 ((ih y e3 _ hy).later (hW.trans ((hb1.mono hW.size).trans (hV.mono (Nat.le_trans hW.size hb1.size)))))
    obtain ⟨r, er, hrl, hsrc⟩ := hrun
    rw [er]
    have c5 := HA1.c5
    have c5' := HA.c5
    have HR := Lib.hid (chain1_any b7 b3 W.heap.size bt gt g c sts k x r _ hn hrl HA1.ct HA1.tree hx hsrc)
    have HB1 := Lib.hid hb1
    have eg : ∀ args w, (callFunc 51 args).run Try.prog w = .ok (.enter 51 args) w := fun args w => enters_of Try.func51 (by kernel_rfl) rfl args w
    generalize chN x (k : Int) r = q at *
    clear ih hx HA HA1 ci er hsrc hb1
    go_enter Try.func88, Try.ntmps88
    go_wp2_with fail
    refine (HR.out).mono ?_
    rintro e w' hN
    obtain ⟨v6, rfl, ho6, hb6⟩ := IntsNew.low HB1.out hN
    have HB := Lib.hid (And.intro ho6 hb6)
    clear hN ho6 hb6
    go_wp2
    go_ret
    exact ⟨v6, rfl, HB.out.1, HB.out.2⟩

/-- the world that ask makes -/
def ascW (w : World) (bt gt : Nat) : World :=
  ((w.alloc (.cells #[.pointer (some ⟨gt, 0, none⟩)] 29)).alloc (.cells #[.func (.func 51) #[] #[.pointer (some ⟨bt, 0, none⟩)]] 99)).alloc (.cells #[.func (.func 88) #[] #[.pointer (some ⟨w.heap.size + 1, 0, none⟩), .pointer (some ⟨w.heap.size + 1 + 1, 0, none⟩), .pointer (some ⟨w.heap.size, 0, none⟩)]] 43)
theorem ascW_below (w : World) (bt gt : Nat) : Below w.heap.size w (ascW w bt gt) :=
  (((Below.refl _ _).alloc (Nat.le_refl _) _).alloc (by simp) _).alloc (by simp; omega) _
theorem ascW_is {w : World} {bt gt g c : Nat} {sts : List Sta} (ct : w.cell? ⟨bt, 0, none⟩ = some (.pointer (some ⟨gt, 0, none⟩))) (h : TreeIs w gt g c sts) :
    AskC (ascW w bt gt) (w.heap.size + 1) (w.heap.size + 1 + 1) w.heap.size bt gt g c sts := by
  have hm : Moved [] w (ascW w bt gt) := Moved.of_below (ascW_below w bt gt)
  refine ⟨cell_past (cell_new _ _ _ (by simp)) _, cell_new _ _ _ (by simp), cell_past (cell_past (cell_new _ _ _ rfl) _) _, hm.cell ct (by simp), h.move hm⟩

set_option maxRecDepth 100000 in
set_option maxHeartbeats 2000000 in
theorem askc_any (bt gt g c : Nat) (sts : List Sta) (k : Nat) (x : Sta) (w : World) (hn : sts.length ≤ 1000) (hr : RightT sts) (ct : w.cell? ⟨bt, 0, none⟩ = some (.pointer (some ⟨gt, 0, none⟩))) (h : TreeIs w gt g c sts) (hx : sts[k]? = some x) :
    Calls Try.prog 50 #[.pointer (some ⟨gt, 0, none⟩), .int .i64 (k : Int), .func (.func 51) #[] #[.pointer (some ⟨bt, 0, none⟩)]] w (IntsNew (chP sts k) w) := by
  have HT := Lib.hid (toldc_any _ _ _ bt gt g c sts (ascW w bt gt) hn hr (ascW_is ct h) k x hx (ascW w bt gt) (Below.refl _ _))
  have HB := Lib.hid (ascW_below w bt gt)
  have eg : ∀ args w, (callFunc 88 args).run Try.prog w = .ok (.enter 88 args) w := fun args w => enters_of Try.func88 (by kernel_rfl) rfl args w
  have hsf := fun (a : Addr) (c : Array Value) (m : _) (W : World) => run_store Try.prog W a (.func (.func 88) #[] c) m rfl
  generalize chP sts k = q at *
  clear ct h hx hr
  go_enter Try.func50, Try.ntmps50
  go_wp2_with fail
  refine (HT.out).mono ?_
  rintro e w' hN
  obtain ⟨v6, rfl, ho6, hb6⟩ := IntsNew.low HB.out hN
  have HB2 := Lib.hid (And.intro ho6 hb6)
  clear hN ho6 hb6
  go_wp2
  go_ret
  exact ⟨v6, rfl, HB2.out.1, HB2.out.2⟩

def chI (sts : List Sta) (i : Int) : List Int := if hasB sts.length i = true then chP sts i.toNat else []
set_option maxRecDepth 100000 in
set_option maxHeartbeats 2000000 in
theorem chain_any (gt g c : Nat) (sts : List Sta) (i : Int) (w : World) (hn : sts.length ≤ 1000) (hr : RightT sts) (h : TreeIs w gt g c sts) :
    Calls Try.prog 19 #[.pointer (some ⟨gt, 0, none⟩), .int .i64 i] w (IntsNew (chI sts i) w) := by
  have hb1 : Below w.heap.size w (w.alloc (.cells #[.pointer (some ⟨gt, 0, none⟩)] 29)) := (Below.refl _ _).alloc (Nat.le_refl _) _
  have h1 := h.move (Moved.of_below hb1)
  have ct : (w.alloc (.cells #[.pointer (some ⟨gt, 0, none⟩)] 29)).cell? ⟨w.heap.size, 0, none⟩ = some (.pointer (some ⟨gt, 0, none⟩)) := cell_new _ _ _ rfl
  have H1 := Lib.hid h1
  have HB := Lib.hid hb1
  cases hb : hasB sts.length i with
  | false =>
    have e : chI sts i = [] := by unfold chI; rw [hb]; rfl
    rw [e]
    have HH := Lib.hid hb
    clear h h1 hb1 hb e hr
    go_enter Try.func19, Try.ntmps19
    go_wp2_with fail
    refine (has_any gt _ _ _ i _ H1.out.box).mono ?_
    rintro e w' ⟨rfl, rfl⟩
    rw [HH.out]
    go_wp2
    go_ret
    exact ⟨_, rfl, World.ownsRow_nil _ _ _ _, HB.out⟩
  | true =>
    have hlt : 0 ≤ i ∧ i < (sts.length : Int) := by unfold hasB at hb; simpa using hb
    obtain ⟨k, rfl⟩ : ∃ k : Nat, i = (k : Int) := ⟨i.toNat, by omega⟩
    have e : chI sts (k : Int) = chP sts k := by unfold chI; rw [hb, if_pos rfl, Int.toNat_natCast]
    rw [e]
    have hx := List.getElem?_eq_getElem (l := sts) (i := k) (by omega)
    have HA := Lib.hid (askc_any w.heap.size gt g c sts k _ _ hn hr ct h1 hx)
    have HH := Lib.hid hb
    generalize chP sts k = q at *
    clear h h1 hb1 hb e hr hx hlt
    go_enter Try.func19, Try.ntmps19
    go_wp2_with fail
    refine (has_any gt _ _ _ (k : Int) _ H1.out.box).mono ?_
    rintro e w' ⟨rfl, rfl⟩
    rw [HH.out]
    go_wp2_with fail
    refine (HA.out).mono ?_
    rintro e w' hN
    obtain ⟨v6, rfl, ho6, hb6⟩ := IntsNew.low HB.out hN
    have HB2 := Lib.hid (And.intro ho6 hb6)
    clear hN ho6 hb6
    go_wp2
    go_ret
    exact ⟨v6, rfl, HB2.out.1, HB2.out.2⟩
end

section
set_option linter.unusedSimpArgs false
set_option linter.unusedVariables false
open Go.RowKit Go.Maps

structure StaFit (k : Nat) (x : Sta) : Prop where
  ok : StaOk k x
  rate : RateOk x
def FitT (sts : List Sta) : Prop := ∀ (k : Nat) (x : Sta), sts[k]? = some x → StaFit k x
theorem FitT.inv {sts : List Sta} (h : FitT sts) : InvT sts := fun k x hx => (h k x hx).ok
theorem FitT.rates {sts : List Sta} (h : FitT sts) : RatesOk sts := fun k x hx => (h k x hx).rate
theorem FitT.set {sts : List Sta} {k : Nat} {x' : Sta} (h : FitT sts) (hf : StaFit k x') : FitT (sts.set k x') := fun i y hy => by
  rcases set_at hy with ⟨rfl, rfl⟩ | ⟨_, hy⟩
  · exact hf
  · exact h i y hy
theorem StaFit.withL {k : Nat} {x x' : Sta} (h : StaFit k x) (hc : x'.clk = x.clk) (hs : x'.set = x.set) (hw : x'.want = x.want) (hl : 0 ≤ x'.left ∧ x'.left ≤ 20) : StaFit k x' := by
  obtain ⟨⟨a1, a2, a3, a4, a5, a6, a7⟩, ⟨b1, b2, b3⟩⟩ := h
  exact ⟨⟨by rw [hc]; exact a1, by rw [hc]; exact a2, by rw [hc]; exact a3, by rw [hc, hs]; exact a4, by rw [hc, hw]; exact a5, by rw [hc]; exact a6, hl⟩, ⟨by rw [hc]; exact b1, by rw [hc]; exact b2, by rw [hc]; exact b3⟩⟩
theorem onS_fit {k : Nat} {x : Sta} (h : StaFit k x) (b : Bool) : StaFit k (onS b x) := by
  unfold onS
  cases b with
  | true => exact h.withL rfl rfl rfl h.ok.left
  | false =>
    simp only [Bool.false_eq_true, if_false]
    unfold unlockS
    split
    · rename_i hk
      have := h.ok.lock
      refine h.withL rfl rfl rfl ?_
      show 0 ≤ x.clk.lock ∧ x.clk.lock ≤ 20
      rcases this with h1 | h1
      · exact h1
      · exact absurd hk h1
    · exact h.withL rfl rfl rfl h.ok.left
theorem setT_fit {sts : List Sta} (h : FitT sts) (i : Int) {f : Sta → Sta} (hf : ∀ k x, sts[k]? = some x → k = i.toNat → StaFit k (f x)) : FitT (setT sts i f) := by
  unfold setT
  cases hx : sts[i.toNat]? with
  | none => exact h
  | some x => exact h.set (hf _ x hx rfl)
theorem onT_fit {sts : List Sta} (h : FitT sts) (i : Int) (b : Bool) : FitT (onT sts i b) := by
  unfold onT
  split
  · exact setT_fit h i fun k x hx _ => onS_fit (h k x hx) b
  · exact h
theorem selT_fit {sts : List Sta} (h : FitT sts) (i d : Int) : FitT (selT sts i d) := by
  unfold selT
  split
  · rename_i he
    refine setT_fit h i fun k x hx hk => ?_
    obtain ⟨⟨a1, a2, a3, a4, a5, a6, a7⟩, b⟩ := h k x hx
    unfold selE at he
    subst hk
    by_cases hf : findE sts i [109] = 0
    · rw [if_pos hf, hx] at he
      simp only at he
      split at he
      · rename_i hr
        exact ⟨⟨a1, a2, a3, a4, fun _ => hr, a6, a7⟩, ⟨b.osc, b.pll, b.div⟩⟩
      · cases he
    · rw [if_neg hf] at he
      exact absurd he hf
  · exact h
theorem divT_fit {sts : List Sta} (h : FitT sts) (i d : Int) : FitT (divT sts i d) := by
  unfold divT
  split
  · rename_i he
    refine setT_fit h i fun k x hx hk => ?_
    obtain ⟨⟨a1, a2, a3, a4, a5, a6, a7⟩, b⟩ := h k x hx
    unfold divE at he
    subst hk
    by_cases hf : findE sts i [100] = 0
    · have hkd : x.clk.kind = 100 := by
        unfold findE at hf
        split at hf
        · rw [hx] at hf
          simp only at hf
          split at hf
          · rename_i hm; simpa using hm
          · cases hf
        · cases hf
      rw [if_pos hf] at he
      split at he
      · rename_i hr
        refine ⟨⟨a1, a2, a3, a4, a5, a6, a7⟩, ⟨fun e => ?_, fun e => ?_, fun _ => hr⟩⟩
        · simp only at e; omega
        · simp only at e; omega
      · cases he
    · rw [if_neg hf] at he
      exact absurd he hf
  · exact h
theorem tickS_fit {sts : List Sta} {k : Nat} {x : Sta} (h : StaFit k x) : StaFit k (tickS sts x) := by
  unfold tickS
  split
  · rename_i h1
    split
    · refine h.withL rfl rfl rfl ?_
      show 0 ≤ lockP 112 x.clk.lock x.left (runI sts (srcP x)) ∧ lockP 112 x.clk.lock x.left (runI sts (srcP x)) ≤ 20
      have hl := h.ok.left
      have hk := h.ok.lock
      unfold lockP
      split
      · split <;> omega
      · rw [if_pos rfl]
        rcases hk with h2 | h2
        · exact h2
        · exact absurd h1 h2
    · exact h
  · split
    · split
      · obtain ⟨⟨a1, a2, a3, a4, a5, a6, a7⟩, b⟩ := h
        exact ⟨⟨a1, a2, a3, a5, a5, a6, a7⟩, ⟨b.osc, b.pll, b.div⟩⟩
      · exact h
    · exact h
theorem tickT_fit {sts : List Sta} (h : FitT sts) : FitT (tickT sts) := fun k y hy => by
  unfold tickT at hy
  rw [List.getElem?_map] at hy
  cases hx : sts[k]? with
  | none => rw [hx] at hy; cases hy
  | some x => rw [hx] at hy; obtain rfl := Option.some.inj hy; exact tickS_fit (h k x hx)
theorem setT_len (sts : List Sta) (i : Int) (f : Sta → Sta) : (setT sts i f).length = sts.length := by unfold setT; split <;> simp
theorem onT_len (sts : List Sta) (i : Int) (b : Bool) : (onT sts i b).length = sts.length := by unfold onT; split; exact setT_len _ _ _; rfl
theorem selT_len (sts : List Sta) (i d : Int) : (selT sts i d).length = sts.length := by unfold selT; split; exact setT_len _ _ _; rfl
theorem divT_len (sts : List Sta) (i d : Int) : (divT sts i d).length = sts.length := by unfold divT; split; exact setT_len _ _ _; rfl

/-- a tree in a statement: all that was ahead of it is as it was -/
structure Tw (w3 wr : World) (gt : Nat) (sts : List Sta) : Prop where
  tree : ∃ g c, TreeIs wr gt g c sts ∧ w3.heap.size ≤ g
  fit : FitT sts
  n0 : 0 < sts.length
  n1 : sts.length ≤ 1000
  bel : Below w3.heap.size w3 wr
  lo : w3.heap.size ≤ gt
namespace Tw
variable {w3 wr w' : World} {gt : Nat} {sts sts' : List Sta}
theorem calm (h : Tw w3 wr gt sts) (hm : Moved [] wr w') : Tw w3 w' gt sts := by
  obtain ⟨g, c, ht, hg⟩ := h.tree
  exact ⟨⟨g, c, ht.move hm, hg⟩, h.fit, h.n0, h.n1, h.bel.trans (hm.below (by simp) h.bel.size), h.lo⟩
theorem on (h : Tw w3 wr gt sts) {i : Int} (b : Bool) (hi : wfI i) : Calls Try.prog 16 #[.pointer (some ⟨gt, 0, none⟩), .int .i64 i, .bool b] wr fun e w' => e = .returned (.int .i64 (findE sts i [112, 103])) ∧ Tw w3 w' gt (onT sts i b) := by
  obtain ⟨g, c, ht, hg⟩ := h.tree
  exact (on_any gt g c sts i b wr h.n1 hi ht).mono fun e w' ⟨he, h1, hm⟩ => ⟨he, ⟨g, c, h1, hg⟩, onT_fit h.fit i b, by rw [onT_len]; exact h.n0, by rw [onT_len]; exact h.n1, h.bel.trans (hm.below (by simp; exact hg) h.bel.size), h.lo⟩
theorem select (h : Tw w3 wr gt sts) {i d : Int} (hi : wfI i) : Calls Try.prog 17 #[.pointer (some ⟨gt, 0, none⟩), .int .i64 i, .int .i64 d] wr fun e w' => e = .returned (.int .i64 (selE sts i d)) ∧ Tw w3 w' gt (selT sts i d) := by
  obtain ⟨g, c, ht, hg⟩ := h.tree
  exact (select_any gt g c sts i d wr h.n1 hi ht).mono fun e w' ⟨he, h1, hm⟩ => ⟨he, ⟨g, c, h1, hg⟩, selT_fit h.fit i d, by rw [selT_len]; exact h.n0, by rw [selT_len]; exact h.n1, h.bel.trans (hm.below (by simp; exact hg) h.bel.size), h.lo⟩
theorem divide (h : Tw w3 wr gt sts) {i d : Int} (hi : wfI i) : Calls Try.prog 23 #[.pointer (some ⟨gt, 0, none⟩), .int .i64 i, .int .i64 d] wr fun e w' => e = .returned (.int .i64 (divE sts i d)) ∧ Tw w3 w' gt (divT sts i d) := by
  obtain ⟨g, c, ht, hg⟩ := h.tree
  exact (divide_any gt g c sts i d wr h.n1 hi ht).mono fun e w' ⟨he, h1, hm⟩ => ⟨he, ⟨g, c, h1, hg⟩, divT_fit h.fit i d, by rw [divT_len]; exact h.n0, by rw [divT_len]; exact h.n1, h.bel.trans (hm.below (by simp; exact hg) h.bel.size), h.lo⟩
theorem tick (h : Tw w3 wr gt sts) : Calls Try.prog 18 #[.pointer (some ⟨gt, 0, none⟩)] wr fun e w' => e = .returned (.tuple #[]) ∧ Tw w3 w' gt (tickT sts) := by
  obtain ⟨g, c, ht, hg⟩ := h.tree
  exact (tick_any gt g c sts wr h.n1 h.n0 h.fit.inv ht).mono fun e w' ⟨g', c', he, h1, hm, hg'⟩ => ⟨he, ⟨g', c', h1, Nat.le_trans h.bel.size hg'⟩, tickT_fit h.fit, by rw [tickT_len]; exact h.n0, by rw [tickT_len]; exact h.n1, h.bel.trans (hm.below (by simp; exact h.lo) h.bel.size), h.lo⟩
theorem running (h : Tw w3 wr gt sts) (i : Int) : Calls Try.prog 20 #[.pointer (some ⟨gt, 0, none⟩), .int .i64 i] wr fun e w' => e = .returned (.bool (runI sts i)) ∧ Tw w3 w' gt sts ∧ Below wr.heap.size wr w' := by
  obtain ⟨g, c, ht, hg⟩ := h.tree
  exact (running_any gt g c sts i wr h.n1 h.fit.inv.right ht).mono fun e w' ⟨he, hb⟩ => ⟨he, h.calm (Moved.of_below hb), hb⟩
theorem rate (h : Tw w3 wr gt sts) (i : Int) : Calls Try.prog 21 #[.pointer (some ⟨gt, 0, none⟩), .int .i64 i] wr fun e w' => e = .returned (.int .u64 (rateI sts i : Int)) ∧ Tw w3 w' gt sts ∧ Below wr.heap.size wr w' := by
  obtain ⟨g, c, ht, hg⟩ := h.tree
  exact (rate_any gt g c sts i wr h.n1 h.fit.inv.right h.fit.rates ht).mono fun e w' ⟨he, hb⟩ => ⟨he, h.calm (Moved.of_below hb), hb⟩
theorem left (h : Tw w3 wr gt sts) (i : Int) : Calls Try.prog 22 #[.pointer (some ⟨gt, 0, none⟩), .int .i64 i] wr fun e w' => e = .returned (.int .i64 (leftP sts i)) ∧ wr = w' := by
  obtain ⟨g, c, ht, hg⟩ := h.tree
  exact (left_any gt g c sts i wr h.n1 ht).mono fun e w' ⟨he, hw⟩ => ⟨he, hw.symm⟩
theorem chain (h : Tw w3 wr gt sts) (i : Int) : Calls Try.prog 19 #[.pointer (some ⟨gt, 0, none⟩), .int .i64 i] wr fun e w' => ∃ A c, e = .returned (.slice A (chI sts i).length c) ∧ w'.ownsRow wr.heap.size 3 1 (.slice A (chI sts i).length c) (chI sts i).length (iv (chI sts i)) ∧ Tw w3 w' gt sts ∧ Below wr.heap.size wr w' := by
  obtain ⟨g, c, ht, hg⟩ := h.tree
  exact (chain_any gt g c sts i wr h.n1 h.fit.inv.right ht).mono fun e w' ⟨v, he, ho, hb⟩ => by
    obtain ⟨A, cc, rfl⟩ := own_shape' ho
    exact ⟨A, cc, he, ho, h.calm (Moved.of_below hb), hb⟩
end Tw
/-- New of a right chip -/
theorem new_tw (s : Chip) (vs : List Value) (w3 wr : World) (hok : ChipOk s) (h : ChipV wr wr.heap.size s vs) (hE : chipE s = 0) (hf : FitT (s.clks.map freshS)) (h0 : 0 < s.clks.length) (hb : Below w3.heap.size w3 wr) :
    Calls Try.prog 12 #[.agg vs.toArray] wr fun e w' => ∃ gt, e = .returned (.tuple #[.pointer (some ⟨gt, 0, none⟩), .int .i64 0]) ∧ Tw w3 w' gt (s.clks.map freshS) ∧ Below wr.heap.size wr w' := by
  refine (new_ok s vs wr hok h hE).mono fun e w' ⟨gt, C, n, d, he, hg, hbx, hrow, hne, hb2⟩ => ⟨gt, he, ?_, hb2⟩
  have hl : (s.clks.map freshS).length = s.clks.length := by simp
  obtain ⟨A0, c0, e0, _, hbl⟩ := hrow.shape
  injection e0 with e1 e2 e3
  subst e2
  have hlb : ∃ g, C = some ⟨g, 0, none⟩ ∧ wr.heap.size ≤ g := by
    obtain ⟨vss, hvl, hvc, ho⟩ := hrow
    rcases ho.2 with ⟨_, hz⟩ | ⟨g, cap, cur, ev, hg', _⟩
    · omega
    · injection ev with ev _ _
      exact ⟨g, ev, hg'⟩
  obtain ⟨g, rfl, hg'⟩ := hlb
  refine ⟨⟨g, d, ⟨?_, hbx, (hrow.base (Nat.zero_le _)).less fun k hk => ?_⟩, Nat.le_trans hb.size hg'⟩, hf, by rw [hl]; exact h0, by rw [hl]; exact hok.n1, hb.trans (hb2.mono hb.size), Nat.le_trans hb.size hg⟩
  · intro e; exact hne (by rw [e]; rfl)
  · simp at hk
    simp [Value.ownBlock]
    exact hk
theorem clocks_right {cs : List Clk} (h : ∀ c, c ∈ cs → clkE cs.length c = 0) (hn : cs.length ≤ 12) (hd : ∀ (i : Nat) (c : Clk), cs[i]? = some c → ∀ x, x ∈ c.frm → 0 ≤ x ∧ x < (i : Int)) : chipE ⟨cs, [], [], []⟩ = 0 := by
  have g0 : graphE [] = 0 := graphE_down (by simp) (by intro i r h; simp at h)
  have g1 : graphE (cs.map Clk.frm) = 0 := graphE_down (by simp; omega) (by
    intro i r hr
    rw [List.getElem?_map] at hr
    cases hc : cs[i]? with
    | none => rw [hc] at hr; cases hr
    | some c => rw [hc] at hr; obtain rfl := Option.some.inj hr; exact hd i c hc)
  have hf : fitsB ⟨cs, [], [], []⟩ = true := by unfold fitsB; simp [hn]
  have hr : firstE (cs.map (clkE cs.length)) = 0 := firstE_zero fun e he => by
    obtain ⟨c, hc, rfl⟩ := List.mem_map.1 he
    exact h c hc
  have e : chipE ⟨cs, [], [], []⟩ = firstE [orE (fitsB ⟨cs, [], [], []⟩) 8, firstE (cs.map (clkE cs.length)), graphE (cs.map Clk.frm), firstE ([] : List Int), graphE [], firstE ([] : List Int), firstE ([] : List Int), graphE []] := rfl
  rw [e, g0, g1, hf, hr]
  rfl
end

section
set_option linter.unusedSimpArgs false
set_option linter.unusedVariables false
open Go.RowKit Go.Maps

def shC : Chip := ⟨[⟨111, [], 7, 0, 0, 0⟩, ⟨103, [0], 0, 0, 0, 0⟩], [], [], []⟩
def shS (a : Bool) : List Sta := [⟨⟨111, [], 7, 0, 0, 0⟩, false, 0, 0, 0⟩, ⟨⟨103, [0], 0, 0, 0, 0⟩, a, 0, 0, 0⟩]
theorem shC_ok : ChipOk shC := ⟨by decide, by decide, by decide, by decide, fun c hc => by
  simp [shC] at hc
  rcases hc with rfl | rfl
  · exact ⟨by decide, fun x hx => by simp at hx⟩
  · exact ⟨by decide, fun x hx => by simp at hx; subst hx; unfold wfI; omega⟩, fun d hd => by simp [shC] at hd, fun d hd => by simp [shC] at hd⟩
theorem shC_right : chipE shC = 0 := clocks_right (fun c hc => by
  simp at hc
  rcases hc with rfl | rfl <;> rfl) (by decide) fun i c hc x hx => by
  match i, hc with
  | 0, hc => simp at hc; subst hc; simp at hx
  | 1, hc => simp at hc; subst hc; simp at hx; subst hx; omega
theorem shC_fit : FitT (shC.clks.map freshS) := fun k x hx => by
  match k, hx with
  | 0, hx =>
    obtain rfl : freshS ⟨111, [], 7, 0, 0, 0⟩ = x := Option.some.inj hx
    exact ⟨⟨by decide, fun y hy => by simp [freshS] at hy, by decide, fun e => absurd rfl e, fun e => absurd rfl e, .inr (by decide), by decide⟩, ⟨fun _ => by decide, fun e => absurd e (by decide), fun e => absurd e (by decide)⟩⟩
  | 1, hx =>
    obtain rfl : freshS ⟨103, [0], 0, 0, 0, 0⟩ = x := Option.some.inj hx
    exact ⟨⟨by decide, fun y hy => by simp [freshS] at hy; subst hy; decide, by decide, fun _ => by decide, fun _ => by decide, .inr (by decide), by decide⟩, ⟨fun e => absurd e (by decide), fun e => absurd e (by decide), fun e => absurd e (by decide)⟩⟩
theorem shC_fresh : shC.clks.map freshS = shS false := rfl
theorem sh_run0 : runI (shS false) 1 = false := by decide
theorem sh_find : findE (shS false) 1 [112, 103] = 0 := by decide
theorem sh_on : onT (shS false) 1 true = shS true := by
  have : findE (shS false) 1 [112, 103] = 0 := sh_find
  unfold onT
  rw [if_pos this]
  rfl
theorem sh_run1 : runI (shS true) 1 = true := by decide
theorem sh_rate : rateI (shS true) 1 = 7 := by decide
/-- clocks alone, two of them, in memory -/
theorem sh_v (w : World) : ChipV ((w.alloc (.cells #[.int .i64 0] 3)).alloc (.cells #[.int .u8 111, .slice none 0 0, .int .u64 7, .int .i64 0, .int .i64 0, .int .i64 0, .int .u8 103, .slice (some ⟨w.heap.size, 0, none⟩) 1 1, .int .u64 0, .int .i64 0, .int .i64 0, .int .i64 0] 46)) (w.heap.size + 1 + 1) shC [.slice (some ⟨w.heap.size + 1, 0, none⟩) 2 2, .slice none 0 0, .slice none 0 0, .slice none 0 0] := by
  have hbx := BoxAt.new (w.alloc (.cells #[.int .i64 0] 3)) [.int .u8 111, .slice none 0 0, .int .u64 7, .int .i64 0, .int .i64 0, .int .i64 0, .int .u8 103, .slice (some ⟨w.heap.size, 0, none⟩) 1 1, .int .u64 0, .int .i64 0, .int .i64 0, .int .i64 0] 46
  rw [World.size_alloc] at hbx
  refine ⟨some ⟨w.heap.size + 1, 0, none⟩, 2, none, 0, none, 0, none, 0, rfl, Nat.le_refl _, Nat.le_refl _, Nat.le_refl _, Nat.le_refl _, fun _ => ⟨_, rfl, by simp, fun k x hk => ?_⟩, fun h => absurd h (by decide), fun h => absurd h (by decide), fun h => absurd h (by decide)⟩
  match k, hk with
  | 0, hk =>
    obtain rfl : (⟨111, [], 7, 0, 0, 0⟩ : Clk) = x := Option.some.inj hk
    refine ⟨_, ⟨none, 0, rfl, Nat.le_refl _, fun h => absurd h (by decide)⟩, fun j v hj => ?_⟩
    rw [Addr.add_lit, Addr.add_lit]
    have hjl := get_lt hj
    have := (hbx j v (by
      match j, hj with
      | 0, hj => exact hj
      | 1, hj => exact hj
      | 2, hj => exact hj
      | 3, hj => exact hj
      | 4, hj => exact hj
      | 5, hj => exact hj)).1
    simpa using this
  | 1, hk =>
    obtain rfl : (⟨103, [0], 0, 0, 0, 0⟩ : Clk) = x := Option.some.inj hk
    refine ⟨_, ⟨some ⟨w.heap.size, 0, none⟩, 1, rfl, Nat.le_refl _, ((ints_new w 0).below ((Below.refl (w.heap.size + 1) _).alloc (by simp) _) (Nat.le_refl _)).more (by omega)⟩, fun j v hj => ?_⟩
    rw [Addr.add_lit, Addr.add_lit]
    have := (hbx (6 + j) v (by
      match j, hj with
      | 0, hj => exact hj
      | 1, hj => exact hj
      | 2, hj => exact hj
      | 3, hj => exact hj
      | 4, hj => exact hj
      | 5, hj => exact hj)).1
    simpa using this

set_option maxRecDepth 100000 in
set_option maxHeartbeats 4000000 in
theorem shown_any (w : World) : Calls Try.prog 11 #[] w (TellsB true w) := by
  have hb := ((Below.refl w.heap.size w).alloc (Nat.le_refl _) (.cells #[.int .i64 0] 3)).alloc (by simp) (.cells #[.int .u8 111, .slice none 0 0, .int .u64 7, .int .i64 0, .int .i64 0, .int .i64 0, .int .u8 103, .slice (some ⟨w.heap.size, 0, none⟩) 1 1, .int .u64 0, .int .i64 0, .int .i64 0, .int .i64 0] 46)
  have HN := Lib.hid (new_tw shC _ w _ shC_ok (by have := sh_v w; simpa using this) shC_right shC_fit (by decide) hb)
  clear hb
  go_enter Try.func11, Try.ntmps11
  go_wp2_with fail
  refine (HN.out).mono ?_
  rintro e w1 ⟨gt, rfl, ht, -⟩
  rw [shC_fresh] at ht
  have H1 := Lib.hid ht
  clear ht
  go_wp2_with fail
  refine (H1.out.running 1).mono ?_
  rintro e w2 ⟨rfl, ht, -⟩
  rw [sh_run0]
  have H2 := Lib.hid ht
  clear ht
  go_wp2_with fail
  refine (H2.out.on (i := 1) true (by unfold wfI; omega)).mono ?_
  rintro e w3 ⟨rfl, ht⟩
  rw [sh_find]
  rw [sh_on] at ht
  have H3 := Lib.hid ht
  clear ht
  go_wp2_with fail
  refine (H3.out.running 1).mono ?_
  rintro e w4 ⟨rfl, ht, -⟩
  rw [sh_run1]
  have H4 := Lib.hid ht
  clear ht
  go_wp2_with fail
  refine (H4.out.rate 1).mono ?_
  rintro e w5 ⟨rfl, ht, -⟩
  rw [sh_rate]
  have H5 := Lib.hid ht
  clear ht
  go_wp2
  go_ret
  exact ⟨rfl, H5.out.bel⟩
end

section
set_option linter.unusedSimpArgs false
set_option linter.unusedVariables false
open Go.RowKit Go.Maps

def lostL (k : Int) : List Clk := [⟨111, [], 5, 0, 0, 0⟩, ⟨103, [0], 0, 0, 0, 0⟩, ⟨112, [1], 0, 2, 1, k⟩]
def lostC (k : Int) : Chip := ⟨lostL k, [], [], []⟩
def lostS (k : Int) (a b : Bool) (l : Int) : List Sta := [⟨⟨111, [], 5, 0, 0, 0⟩, false, 0, 0, 0⟩, ⟨⟨103, [0], 0, 0, 0, 0⟩, a, 0, 0, 0⟩, ⟨⟨112, [1], 0, 2, 1, k⟩, b, l, 0, 0⟩]
theorem lost_ok (k : Int) : ChipOk (lostC k) := ⟨by simp [lostC, lostL], by simp [lostC], by simp [lostC], by simp [lostC], fun c hc => by
  simp [lostC, lostL] at hc
  rcases hc with rfl | rfl | rfl
  · exact ⟨by decide, fun x hx => by simp at hx⟩
  · exact ⟨by decide, fun x hx => by simp at hx; subst hx; unfold wfI; omega⟩
  · exact ⟨by simp, fun x hx => by simp at hx; subst hx; unfold wfI; omega⟩, fun d hd => by simp [lostC] at hd, fun d hd => by simp [lostC] at hd⟩
theorem lost_right {k : Int} (h0 : 0 ≤ k) (h1 : k ≤ 20) : chipE (lostC k) = 0 := clocks_right (cs := lostL k) (fun c hc => by
  simp [lostL] at hc
  rcases hc with rfl | rfl | rfl
  · rfl
  · rfl
  · have hr : rangeB ⟨112, [1], 0, 2, 1, k⟩ = true := by unfold rangeB betw; simp; omega
    unfold clkE
    rw [hr]
    rfl) (by simp [lostL]) fun i c hc x hx => by
  match i, hc with
  | 0, hc => simp [lostL] at hc; subst hc; simp at hx
  | 1, hc => simp [lostL] at hc; subst hc; simp at hx; subst hx; omega
  | 2, hc => simp [lostL] at hc; subst hc; simp at hx; subst hx; omega
theorem lost_fit {k : Int} (h0 : 0 ≤ k) (h1 : k ≤ 20) : FitT ((lostC k).clks.map freshS) := fun j x hx => by
  match j, hx with
  | 0, hx =>
    obtain rfl : freshS ⟨111, [], 5, 0, 0, 0⟩ = x := Option.some.inj hx
    exact ⟨⟨by decide, fun y hy => by simp [freshS] at hy, by decide, fun e => absurd rfl e, fun e => absurd rfl e, .inr (by decide), by decide⟩, ⟨fun _ => by decide, fun e => absurd e (by decide), fun e => absurd e (by decide)⟩⟩
  | 1, hx =>
    obtain rfl : freshS ⟨103, [0], 0, 0, 0, 0⟩ = x := Option.some.inj hx
    exact ⟨⟨by decide, fun y hy => by simp [freshS] at hy; subst hy; decide, by decide, fun _ => by decide, fun _ => by decide, .inr (by decide), by decide⟩, ⟨fun e => absurd e (by decide), fun e => absurd e (by decide), fun e => absurd e (by decide)⟩⟩
  | 2, hx =>
    obtain rfl : freshS ⟨112, [1], 0, 2, 1, k⟩ = x := Option.some.inj hx
    refine ⟨⟨by simp [freshS], fun y hy => by simp [freshS] at hy; subst hy; decide, by simp [freshS], fun _ => by simp [freshS], fun _ => by simp [freshS], .inl ⟨h0, h1⟩, ?_⟩, ⟨fun e => absurd e (by simp [freshS]), fun _ => by simp [freshS], fun e => absurd e (by simp [freshS])⟩⟩
    have e : (freshS ⟨112, [1], 0, 2, 1, k⟩).left = k := rfl
    rw [e]
    exact ⟨h0, h1⟩
theorem lost_fresh (k : Int) : (lostC k).clks.map freshS = lostS k false false k := rfl
section
variable (k l : Int) (a b : Bool)
theorem lost_find1 : findE (lostS k a b l) 1 [112, 103] = 0 := rfl
theorem lost_find2 : findE (lostS k a b l) 2 [112, 103] = 0 := rfl
theorem lost_on1 (v : Bool) : onT (lostS k a b l) 1 v = lostS k v b l := by
  unfold onT
  rw [if_pos (lost_find1 k l a b)]
  cases v <;> rfl
theorem lost_on2 : onT (lostS k a b l) 2 true = lostS k a true l := by
  unfold onT
  rw [if_pos (lost_find2 k l a b)]
  rfl
theorem lost_off2 : onT (lostS k a b l) 2 false = lostS k a false k := by
  unfold onT
  rw [if_pos (lost_find2 k l a b)]
  rfl
theorem lost_run2 : runI (lostS k a b l) 2 = (b && decide (l = 0) && (a && true)) := rfl
theorem lost_run1 : runI (lostS k a b l) 1 = (a && true) := rfl
theorem lost_left : leftP (lostS k a b l) 2 = l := rfl
theorem lost_tick : tickT (lostS k a true l) = lostS k a true (lockP 112 k l (a && true)) := rfl
theorem lost_rate : rateI (lostS k true true 0) 2 = 10 := by
  have h2 : rateI (lostS k true true 0) 2 = rateP (lostS k true true 0) 2 := rfl
  rw [h2]
  simp [rateP, rateF, lostS, rateN, scaledN]
end
theorem lost_v (k : Int) (w : World) : ChipV (((w.alloc (.cells #[.int .i64 0] 3)).alloc (.cells #[.int .i64 1] 3)).alloc (.cells #[.int .u8 111, .slice none 0 0, .int .u64 5, .int .i64 0, .int .i64 0, .int .i64 0, .int .u8 103, .slice (some ⟨w.heap.size, 0, none⟩) 1 1, .int .u64 0, .int .i64 0, .int .i64 0, .int .i64 0, .int .u8 112, .slice (some ⟨w.heap.size + 1, 0, none⟩) 1 1, .int .u64 0, .int .i64 2, .int .i64 1, .int .i64 k] 46)) (w.heap.size + 1 + 1 + 1) (lostC k) [.slice (some ⟨w.heap.size + 1 + 1, 0, none⟩) 3 3, .slice none 0 0, .slice none 0 0, .slice none 0 0] := by
  have hbx := BoxAt.new ((w.alloc (.cells #[.int .i64 0] 3)).alloc (.cells #[.int .i64 1] 3)) [.int .u8 111, .slice none 0 0, .int .u64 5, .int .i64 0, .int .i64 0, .int .i64 0, .int .u8 103, .slice (some ⟨w.heap.size, 0, none⟩) 1 1, .int .u64 0, .int .i64 0, .int .i64 0, .int .i64 0, .int .u8 112, .slice (some ⟨w.heap.size + 1, 0, none⟩) 1 1, .int .u64 0, .int .i64 2, .int .i64 1, .int .i64 k] 46
  rw [World.size_alloc, World.size_alloc] at hbx
  refine ⟨some ⟨w.heap.size + 1 + 1, 0, none⟩, 3, none, 0, none, 0, none, 0, rfl, by simp [lostC, lostL], Nat.le_refl _, Nat.le_refl _, Nat.le_refl _, fun _ => ⟨_, rfl, by simp, fun j x hk => ?_⟩, fun h => absurd h (by simp [lostC]), fun h => absurd h (by simp [lostC]), fun h => absurd h (by simp [lostC])⟩
  match j, hk with
  | 0, hk =>
    obtain rfl : (⟨111, [], 5, 0, 0, 0⟩ : Clk) = x := Option.some.inj hk
    refine ⟨_, ⟨none, 0, rfl, Nat.le_refl _, fun h => absurd h (by decide)⟩, fun j v hj => ?_⟩
    rw [Addr.add_lit, Addr.add_lit]
    have := (hbx j v (by
      match j, hj with
      | 0, hj => exact hj
      | 1, hj => exact hj
      | 2, hj => exact hj
      | 3, hj => exact hj
      | 4, hj => exact hj
      | 5, hj => exact hj)).1
    simpa using this
  | 1, hk =>
    obtain rfl : (⟨103, [0], 0, 0, 0, 0⟩ : Clk) = x := Option.some.inj hk
    refine ⟨_, ⟨some ⟨w.heap.size, 0, none⟩, 1, rfl, Nat.le_refl _, ((ints_new w 0).below (((Below.refl (w.heap.size + 1) _).alloc (by simp) _).alloc (by simp) _) (Nat.le_refl _)).more (by omega)⟩, fun j v hj => ?_⟩
    rw [Addr.add_lit, Addr.add_lit]
    have := (hbx (6 + j) v (by
      match j, hj with
      | 0, hj => exact hj
      | 1, hj => exact hj
      | 2, hj => exact hj
      | 3, hj => exact hj
      | 4, hj => exact hj
      | 5, hj => exact hj)).1
    simpa using this
  | 2, hk =>
    obtain rfl : (⟨112, [1], 0, 2, 1, k⟩ : Clk) = x := Option.some.inj hk
    have hi := ints_new (w.alloc (.cells #[.int .i64 0] 3)) 1
    rw [World.size_alloc] at hi
    refine ⟨_, ⟨some ⟨w.heap.size + 1, 0, none⟩, 1, rfl, Nat.le_refl _, (hi.below ((Below.refl (w.heap.size + 1 + 1) _).alloc (by simp) _) (Nat.le_refl _)).more (by omega)⟩, fun j v hj => ?_⟩
    rw [Addr.add_lit, Addr.add_lit]
    have := (hbx (12 + j) v (by
      match j, hj with
      | 0, hj => exact hj
      | 1, hj => exact hj
      | 2, hj => exact hj
      | 3, hj => exact hj
      | 4, hj => exact hj
      | 5, hj => exact hj)).1
    simpa using this

set_option maxRecDepth 1000000 in
set_option maxHeartbeats 16000000 in
theorem lost_any (lock often : Int) (off : Bool) (w : World) (hl : wfI lock) (ho : wfI often) :
    Calls Try.prog 10 #[.int .i64 lock, .int .i64 often, .bool off] w (TellsB true w) := by
  have HL := Lib.hid hl
  have HO := Lib.hid ho
  have q1 := pickP_lo (c := lock) (n := 21) (by omega)
  have q2 := pickP_hi (c := lock) (n := 21) (by omega)
  have p1 := pickP_lo (c := often) (n := 4) (by omega)
  have p2 := pickP_hi (c := often) (n := 4) (by omega)
  obtain ⟨k, hk⟩ : ∃ k : Nat, pickP lock 21 = (k : Int) := ⟨(pickP lock 21).toNat, by omega⟩
  obtain ⟨m, hm⟩ : ∃ m : Nat, pickP often 4 = (m : Int) := ⟨(pickP often 4).toNat, by omega⟩
  rw [hk] at q1 q2
  rw [hm] at p1 p2
  have HK := Lib.hid hk
  have HM := Lib.hid hm
  have hk20 : k ≤ 20 := by omega
  clear hl ho hk hm
  go_enter Try.func10, Try.ntmps10
  go_wp2_with fail
  refine (shown_any _).mono ?_
  rintro e w1 ⟨rfl, hb1⟩
  have HB1 := Lib.hid hb1
  clear hb1
  go_wp2_with fail
  refine (pick_any lock 21 _ HL.out (by omega) (by omega)).mono ?_
  rintro e w' ⟨rfl, rfl⟩
  rw [HK.out]
  have hb2 : Below w.heap.size w (((w1.alloc (.cells #[.int .i64 0] 3)).alloc (.cells #[.int .i64 1] 3)).alloc (.cells #[.int .u8 111, .slice none 0 0, .int .u64 5, .int .i64 0, .int .i64 0, .int .i64 0, .int .u8 103, .slice (some ⟨w1.heap.size, 0, none⟩) 1 1, .int .u64 0, .int .i64 0, .int .i64 0, .int .i64 0, .int .u8 112, .slice (some ⟨w1.heap.size + 1, 0, none⟩) 1 1, .int .u64 0, .int .i64 2, .int .i64 1, .int .i64 (k : Int)] 46)) :=
    ((HB1.out.alloc HB1.out.size _).alloc (by have := HB1.out.size; simp; omega) _).alloc (by have := HB1.out.size; simp; omega) _
  have HN := Lib.hid (new_tw (lostC (k : Int)) _ w _ (lost_ok _) (by have := lost_v (k : Int) w1; simpa using this) (lost_right (by omega) (by omega)) (lost_fit (by omega) (by omega)) (by simp [lostC, lostL]) hb2)
  clear hb2
  go_wp2_with fail
  refine (HN.out).mono ?_
  rintro e w2 ⟨gt, rfl, ht, -⟩
  rw [lost_fresh] at ht
  have H1 := Lib.hid ht
  clear ht HN
  go_wp2
  go_loopw [11] (fun v wr => ∃ n : Nat, n ≤ m + 1 ∧ v = .int .i64 n ∧ RowKit.Hid (∃ a b, Tw w wr gt (lostS (k : Int) a b (k : Int)))) (fun v _ => m + 1 - (intOf v).toNat)
  case atStart => exact ⟨0, Nat.zero_le _, rfl, Lib.hid ⟨_, _, H1.out⟩⟩
  case round =>
    clear H1
    obtain ⟨n, hn, rfl, HR⟩ := hrel
    obtain ⟨a, b, hab⟩ := HR.out
    have HA := Lib.hid hab
    clear HR hab
    go_wp2_with fail
    refine (pick_any often 4 _ HO.out (by omega) (by omega)).mono ?_
    rintro e w' ⟨rfl, rfl⟩
    rw [HM.out]
    by_cases hnm : n ≤ m
    · have n1 : (n : Int) ≤ (m : Int) := by omega
      go_wp2_with fail
      refine (HA.out.on (i := 1) true (by unfold wfI; omega)).mono ?_
      rintro e w3 ⟨rfl, ht⟩
      rw [lost_on1] at ht
      have H3 := Lib.hid ht
      clear ht HA
      go_wp2_with fail
      refine (H3.out.on (i := 2) true (by unfold wfI; omega)).mono ?_
      rintro e w4 ⟨rfl, ht⟩
      rw [lost_on2] at ht
      have H4 := Lib.hid ht
      clear ht H3
      rw [lost_find1, lost_find2]
      go_wp2
      go_loopw [12] (fun v wr => ∃ i : Nat, i ≤ k ∧ v = .int .i64 i ∧ RowKit.Hid (Tw w wr gt (lostS (k : Int) true true ((k - i : Nat) : Int)))) (fun v _ => k - (intOf v).toNat)
      case atStart => exact ⟨0, Nat.zero_le _, rfl, H4⟩
      case round =>
        clear H4
        obtain ⟨i, hi, rfl, HI⟩ := hrel
        by_cases hik : i < k
        · have i1 : (i : Int) < (k : Int) := by omega
          obtain ⟨d, hd⟩ : ∃ d : Nat, d = k - i := ⟨_, rfl⟩
          have hd1 : (k : Int) - (i : Int) = (d : Int) := by omega
          have hrn : runI (lostS (k : Int) true true ((k - i : Nat) : Int)) 2 = false := by
            rw [lost_run2]
            have : decide (((k - i : Nat) : Int) = 0) = false := by simp; omega
            rw [this]
            rfl
          have htk : tickT (lostS (k : Int) true true ((k - i : Nat) : Int)) = lostS (k : Int) true true ((k - (i + 1) : Nat) : Int) := by
            rw [lost_tick]
            have hpos : (0 : Int) < ((k - i : Nat) : Int) := by omega
            have e : lockP 112 (k : Int) ((k - i : Nat) : Int) (true && true) = ((k - (i + 1) : Nat) : Int) := by
              show (if (0 : Int) < ((k - i : Nat) : Int) then ((k - i : Nat) : Int) - 1 else _) = _
              rw [if_pos hpos]
              omega
            rw [e]
          have HRN := Lib.hid hrn
          have HTK := Lib.hid htk
          have HD := Lib.hid hd
          have ed : ((d : Int) != (d : Int)) = false := by simp
          clear hrn htk hd
          go_wp2_with fail
          refine (HI.out.running 2).mono ?_
          rintro e w5 ⟨rfl, ht, -⟩
          rw [HRN.out]
          have H5 := Lib.hid ht
          clear ht HI
          go_wp2_with fail
          refine (H5.out.left 2).mono ?_
          rintro e w6 ⟨rfl, rfl⟩
          rw [lost_left, ← HD.out]
          go_wp2_with fail
          refine (H5.out.tick).mono ?_
          rintro e w7 ⟨rfl, ht⟩
          rw [HTK.out] at ht
          have H7 := Lib.hid ht
          clear ht
          go_wp2
          go_roundw
          case rel => exact ⟨i + 1, hik, by go_num, H7⟩
          case measure => simp [intOf]; omega
        · have i1 : ¬ ((i : Int) < (k : Int)) := by omega
          have hz : (k - i : Nat) = 0 := by omega
          have HI0 : RowKit.Hid (Tw w wr gt (lostS (k : Int) true true 0)) := Lib.hid (by have := HI.out; rw [hz] at this; exact this)
          have hr2 : runI (lostS (k : Int) true true 0) 2 = true := rfl
          have HR2 := Lib.hid hr2
          have ek : ((k : Int) != (k : Int)) = false := by simp
          clear HI hz hr2
          go_wp2_with fail
          refine (HI0.out.running 2).mono ?_
          rintro e w5 ⟨rfl, ht, -⟩
          rw [HR2.out]
          have H5 := Lib.hid ht
          clear ht HI0
          go_wp2_with fail
          refine (H5.out.rate 2).mono ?_
          rintro e w6 ⟨rfl, ht, -⟩
          rw [lost_rate]
          have H6 := Lib.hid ht
          clear ht H5
          go_wp2_with fail
          refine (H6.out.left 2).mono ?_
          rintro e w7 ⟨rfl, rfl⟩
          rw [lost_left]
          cases off with
          | true =>
            go_wp2_with fail
            refine (H6.out.on (i := 2) false (by unfold wfI; omega)).mono ?_
            rintro e w8 ⟨rfl, ht⟩
            rw [lost_off2] at ht
            have H8 := Lib.hid ht
            have hr3 : runI (lostS (k : Int) true false (k : Int)) 2 = false := rfl
            have HR3 := Lib.hid hr3
            clear ht hr3
            go_wp2_with fail
            refine (H8.out.running 2).mono ?_
            rintro e w9 ⟨rfl, ht, -⟩
            rw [HR3.out]
            have H9 := Lib.hid ht
            clear ht H8
            go_wp2_with fail
            refine (H9.out.left 2).mono ?_
            rintro e w10 ⟨rfl, rfl⟩
            rw [lost_left]
            go_wp2
            go_roundw
            case rel => exact ⟨n + 1, by omega, by go_num, Lib.hid ⟨_, _, H9.out⟩⟩
            case measure => simp [intOf]; omega
          | false =>
            go_wp2_with fail
            refine (H6.out.on (i := 1) false (by unfold wfI; omega)).mono ?_
            rintro e w8 ⟨rfl, ht⟩
            rw [lost_on1] at ht
            have H8 := Lib.hid ht
            clear ht
            go_wp2_with fail
            refine (H8.out.tick).mono ?_
            rintro e w9 ⟨rfl, ht⟩
            rw [lost_tick, show lockP 112 (k : Int) 0 (false && true) = (k : Int) from rfl] at ht
            have H9 := Lib.hid ht
            have hr3 : runI (lostS (k : Int) false true (k : Int)) 2 = false := by rw [lost_run2]; simp
            have HR3 := Lib.hid hr3
            clear ht H8 hr3
            go_wp2_with fail
            refine (H9.out.running 2).mono ?_
            rintro e w10 ⟨rfl, ht, -⟩
            rw [HR3.out]
            have H10 := Lib.hid ht
            clear ht H9
            go_wp2_with fail
            refine (H10.out.left 2).mono ?_
            rintro e w11 ⟨rfl, rfl⟩
            rw [lost_left]
            go_wp2
            go_roundw
            case rel => exact ⟨n + 1, by omega, by go_num, Lib.hid ⟨_, _, H10.out⟩⟩
            case measure => simp [intOf]; omega
    · have n1 : ¬ ((n : Int) ≤ (m : Int)) := by omega
      go_wp2
      go_ret
      exact ⟨rfl, HA.out.bel⟩
end

end Go.Proofs.Ytnfbhhgdibkbdaa
