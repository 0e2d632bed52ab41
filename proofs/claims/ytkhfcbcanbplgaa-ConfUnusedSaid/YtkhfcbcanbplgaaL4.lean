/- The walk of catnaplaw4.ConfUnused. -/
import Derived.Test.YtkhfcbcanbplgaaL3
import Derived.Test.YtkhfcbcanbplgaaN4
import Derived.Test.YtkhfcbcanbplgaaW16
import Derived.Test.YtkhfcbcanbplgaaW20
namespace Go.Proofs.Ytkhfcbcanbplgaa
set_option linter.unusedSimpArgs false
set_option linter.unusedVariables false
open Go.RowKit Go.Maps

set_option maxRecDepth 100000 in
theorem lit101 (T : Nat → Value) : listT T 101 = List.toArray (T 0 :: T 1 :: T 2 :: T 3 :: T 4 :: T 5 :: T 6 :: T 7 :: T 8 :: T 9 :: T 10 :: T 11 :: T 12 :: T 13 :: T 14 :: T 15 :: T 16 :: T 17 :: T 18 :: T 19 :: T 20 :: T 21 :: T 22 :: T 23 :: T 24 :: T 25 :: T 26 :: T 27 :: T 28 :: T 29 :: T 30 :: T 31 :: T 32 :: T 33 :: T 34 :: T 35 :: T 36 :: T 37 :: T 38 :: T 39 :: T 40 :: T 41 :: T 42 :: T 43 :: T 44 :: T 45 :: T 46 :: T 47 :: T 48 :: T 49 :: T 50 :: T 51 :: T 52 :: T 53 :: T 54 :: T 55 :: T 56 :: T 57 :: T 58 :: T 59 :: T 60 :: T 61 :: T 62 :: T 63 :: T 64 :: T 65 :: T 66 :: T 67 :: T 68 :: T 69 :: T 70 :: T 71 :: T 72 :: T 73 :: T 74 :: T 75 :: T 76 :: T 77 :: T 78 :: T 79 :: T 80 :: T 81 :: T 82 :: T 83 :: T 84 :: T 85 :: T 86 :: T 87 :: T 88 :: T 89 :: T 90 :: T 91 :: T 92 :: T 93 :: T 94 :: T 95 :: T 96 :: T 97 :: T 98 :: T 99 :: T 100 :: []) := rfl
noncomputable def body9 : Code := Try.f9.body.getD .skip
noncomputable def for9 : Code := tlC (tlC (tlC (tlC body9)))
noncomputable def loop9 : Code := blC (tlC (hdC for9))
noncomputable def tail9 : Code := tlC for9

set_option maxRecDepth 1000000 in
set_option maxHeartbeats 4000000 in
theorem unused_round (w W : World) (g0 B : Nat) (s : Chip) (g1 c1 nC g2 c2 nD g3 c3 nR g4 c4 nV : Nat) (i : Nat) (ua ub uc ur : Int) (p0 : Value) (hs : StF w W g0 B s g1 c1 nC g2 c2 nD g3 c3 nR g4 c4 nV) (b1 : 1 ≤ nC ∧ nC ≤ 9) (hi : i ≤ nC)
    (a : Act) (ha : FrN 101 a) (h0 : slT a 0 = p0) (h1 : slT a 1 = .int .i64 ua) (h2 : slT a 2 = .int .i64 ub) (h3 : slT a 3 = .int .i64 uc) (h4 : slT a 4 = .int .u64 ur) (h12 : slT a 12 = .pointer (some ⟨g0, 0, none⟩)) (h13 : slT a 13 = .int .i64 (i : Nat)) (R : Act → World → Prop) (Q : Exit → Act → World → Prop)
    (hR : ∀ a' W' x, s.clks[i]? = some x → FrN 101 a' → slT a' 0 = p0 → slT a' 1 = .int .i64 ua → slT a' 2 = .int .i64 ub → slT a' 3 = .int .i64 uc → slT a' 4 = .int .u64 ur → slT a' 12 = .pointer (some ⟨g0, 0, none⟩) → slT a' 13 = .int .i64 ((i + 1 : Nat) : Int) → StF w W' g0 B { s with clks := s.clks.set i (unC ua ub uc ur x) } g1 c1 nC g2 c2 nD g3 c3 nR g4 c4 nV → R a' W')
    (hQ : ∀ a', FrN 101 a' → slT a' 0 = p0 → slT a' 1 = .int .i64 ua → slT a' 2 = .int .i64 ub → slT a' 3 = .int .i64 uc → slT a' 4 = .int .u64 ur → slT a' 12 = .pointer (some ⟨g0, 0, none⟩) → i = nC → Q (.exit 0) a' W) :
    Code.wp Try.prog (lpC loop9) (Exit.then R Q) a W := by
  have HQ := Lib.hid hQ
  have HR := Lib.hid hR
  clear hQ hR
  obtain ⟨F, rfl⟩ := ha.open_
  rw [slT_listT (by omega)] at h0 h1 h2 h3 h4 h12 h13
  rw [lit101, h0, h1, h2, h3, h4, h12, h13]
  clear ha h0 h1 h2 h3 h4 h12 h13
  conv => arg 2; whnf
  by_cases hlt : i < nC
  · have hr := List.getElem?_eq_getElem (l := s.clks) (i := i) (by rw [← hs.hC]; exact hlt)
    generalize s.clks[i]'_ = x at hr
    have hil : i < s.clks.length := by rw [← hs.hC]; exact hlt
    obtain ⟨vs, hvl, ⟨Ax, cx, rfl, -, -⟩, hcells⟩ := hs.own.clks.cell hs.hC hr
    obtain ⟨e00, -⟩ := hcells 0 _ rfl
    obtain ⟨e20, e21⟩ := hcells 2 _ rfl
    obtain ⟨e30, e31⟩ := hcells 3 _ rfl
    obtain ⟨e40, e41⟩ := hcells 4 _ rfl
    obtain ⟨e50, e51⟩ := hcells 5 _ rfl
    simp only [Nat.add_zero] at e00
    obtain ⟨x0, y0⟩ := hs.bx 0 _ rfl
    have i0 : (0 : Int) ≤ (i : Int) := by omega
    have i1 : (i : Int) < (nC : Int) := by omega
    have hne : g0 ≠ g1 := fun e => hs.own.z1 (by simp [Value.ownBlock, e])
    have hne' : g1 ≠ g0 := Ne.symm hne
    have HXR := Lib.hid hr
    clear hcells hvl
    obtain ⟨kd, hkd⟩ : ∃ kd, kd = x.kind := ⟨_, rfl⟩
    rw [← hkd] at e00
    have HKD := Lib.hid hkd
    clear hkd
    by_cases k1 : kd = 111
    · subst k1
      have hset0 := hs.own.setClk (j := 3) (u := .int .i64 ua) (x' := { x with mul := ua }) hs.hC hr (by omega) (fun vs hv _ => by obtain ⟨A, c, rfl, q1, q2⟩ := hv; exact ⟨A, c, rfl, q1, q2⟩)
      have ht0 := hs.set (p := ⟨g1, i * 6 + 3, none⟩) (.int .i64 ua) hset0 ⟨by simp, rfl, rfl, rfl⟩ (by simp [hot4, Value.ownBlock])
      have hr0 : ({ s with clks := s.clks.set i { x with mul := ua } } : Chip).clks[i]? = some { x with mul := ua } := List.getElem?_set_self hil
      have hset1 := ht0.own.setClk (j := 5) (u := .int .i64 uc) (x' := { x with mul := ua, lock := uc }) ht0.hC hr0 (by omega) (fun vs hv _ => by obtain ⟨A, c, rfl, q1, q2⟩ := hv; exact ⟨A, c, rfl, q1, q2⟩)
      simp only [List.set_set] at hset1
      have ht1 := ht0.set (p := ⟨g1, i * 6 + 5, none⟩) (.int .i64 uc) hset1 ⟨by simp, rfl, rfl, rfl⟩ (by simp [hot4, Value.ownBlock])
      have hr1 : ({ s with clks := s.clks.set i { x with mul := ua, lock := uc } } : Chip).clks[i]? = some { x with mul := ua, lock := uc } := List.getElem?_set_self hil
      have hset2 := ht1.own.setClk (j := 4) (u := .int .i64 ub) (x' := { x with mul := ua, lock := uc, div := ub }) ht1.hC hr1 (by omega) (fun vs hv _ => by obtain ⟨A, c, rfl, q1, q2⟩ := hv; exact ⟨A, c, rfl, q1, q2⟩)
      simp only [List.set_set] at hset2
      have ht2 := ht1.set (p := ⟨g1, i * 6 + 4, none⟩) (.int .i64 ub) hset2 ⟨by simp, rfl, rfl, rfl⟩ (by simp [hot4, Value.ownBlock])
      have hun : ({ x with mul := ua, lock := uc, div := ub } : Clk) = unC ua ub uc ur x := by
        unfold unC
        rw [← HKD.out]
        simp
      rw [hun] at ht2
      have HT := Lib.hid ht2
      clear hr hun hs hset0 ht0 hset1 ht1 hset2 ht2 hr0 hr1
      go_wp2
      exact HR.out _ _ x HXR.out ⟨rfl, rfl⟩ rfl rfl rfl rfl rfl rfl (by go_num) HT.out
    · by_cases k2 : kd = 112
      · subst k2
        have hset0 := hs.own.setClk (j := 2) (u := .int .u64 ur) (x' := { x with rate := ur }) hs.hC hr (by omega) (fun vs hv _ => by obtain ⟨A, c, rfl, q1, q2⟩ := hv; exact ⟨A, c, rfl, q1, q2⟩)
        have ht0 := hs.set (p := ⟨g1, i * 6 + 2, none⟩) (.int .u64 ur) hset0 ⟨by simp, rfl, rfl, rfl⟩ (by simp [hot4, Value.ownBlock])
        have hun : ({ x with rate := ur } : Clk) = unC ua ub uc ur x := by
          unfold unC
          rw [← HKD.out]
          simp
        rw [hun] at ht0
        have HT := Lib.hid ht0
        clear hr hun hs hset0 ht0 
        go_wp2
        exact HR.out _ _ x HXR.out ⟨rfl, rfl⟩ rfl rfl rfl rfl rfl rfl (by go_num) HT.out
      · by_cases k3 : kd = 100
        · subst k3
          have hset0 := hs.own.setClk (j := 2) (u := .int .u64 ur) (x' := { x with rate := ur }) hs.hC hr (by omega) (fun vs hv _ => by obtain ⟨A, c, rfl, q1, q2⟩ := hv; exact ⟨A, c, rfl, q1, q2⟩)
          have ht0 := hs.set (p := ⟨g1, i * 6 + 2, none⟩) (.int .u64 ur) hset0 ⟨by simp, rfl, rfl, rfl⟩ (by simp [hot4, Value.ownBlock])
          have hr0 : ({ s with clks := s.clks.set i { x with rate := ur } } : Chip).clks[i]? = some { x with rate := ur } := List.getElem?_set_self hil
          have hset1 := ht0.own.setClk (j := 3) (u := .int .i64 ua) (x' := { x with rate := ur, mul := ua }) ht0.hC hr0 (by omega) (fun vs hv _ => by obtain ⟨A, c, rfl, q1, q2⟩ := hv; exact ⟨A, c, rfl, q1, q2⟩)
          simp only [List.set_set] at hset1
          have ht1 := ht0.set (p := ⟨g1, i * 6 + 3, none⟩) (.int .i64 ua) hset1 ⟨by simp, rfl, rfl, rfl⟩ (by simp [hot4, Value.ownBlock])
          have hr1 : ({ s with clks := s.clks.set i { x with rate := ur, mul := ua } } : Chip).clks[i]? = some { x with rate := ur, mul := ua } := List.getElem?_set_self hil
          have hset2 := ht1.own.setClk (j := 5) (u := .int .i64 uc) (x' := { x with rate := ur, mul := ua, lock := uc }) ht1.hC hr1 (by omega) (fun vs hv _ => by obtain ⟨A, c, rfl, q1, q2⟩ := hv; exact ⟨A, c, rfl, q1, q2⟩)
          simp only [List.set_set] at hset2
          have ht2 := ht1.set (p := ⟨g1, i * 6 + 5, none⟩) (.int .i64 uc) hset2 ⟨by simp, rfl, rfl, rfl⟩ (by simp [hot4, Value.ownBlock])
          have hun : ({ x with rate := ur, mul := ua, lock := uc } : Clk) = unC ua ub uc ur x := by
            unfold unC
            rw [← HKD.out]
            simp
          rw [hun] at ht2
          have HT := Lib.hid ht2
          clear hr hun hs hset0 ht0 hset1 ht1 hset2 ht2 hr0 hr1
          go_wp2
          exact HR.out _ _ x HXR.out ⟨rfl, rfl⟩ rfl rfl rfl rfl rfl rfl (by go_num) HT.out
        · have q1 : (kd == 111) = false := by simpa using k1
          have q2 : (kd == 112) = false := by simpa using k2
          have q3 : (kd == 100) = false := by simpa using k3
          have p1 : (kd != 111) = true := by simpa using k1
          have p2 : (kd != 112) = true := by simpa using k2
          have p3 : (kd != 100) = true := by simpa using k3
          have hset0 := hs.own.setClk (j := 2) (u := .int .u64 ur) (x' := { x with rate := ur }) hs.hC hr (by omega) (fun vs hv _ => by obtain ⟨A, c, rfl, q1, q2⟩ := hv; exact ⟨A, c, rfl, q1, q2⟩)
          have ht0 := hs.set (p := ⟨g1, i * 6 + 2, none⟩) (.int .u64 ur) hset0 ⟨by simp, rfl, rfl, rfl⟩ (by simp [hot4, Value.ownBlock])
          have hr0 : ({ s with clks := s.clks.set i { x with rate := ur } } : Chip).clks[i]? = some { x with rate := ur } := List.getElem?_set_self hil
          have hset1 := ht0.own.setClk (j := 3) (u := .int .i64 ua) (x' := { x with rate := ur, mul := ua }) ht0.hC hr0 (by omega) (fun vs hv _ => by obtain ⟨A, c, rfl, q1, q2⟩ := hv; exact ⟨A, c, rfl, q1, q2⟩)
          simp only [List.set_set] at hset1
          have ht1 := ht0.set (p := ⟨g1, i * 6 + 3, none⟩) (.int .i64 ua) hset1 ⟨by simp, rfl, rfl, rfl⟩ (by simp [hot4, Value.ownBlock])
          have hr1 : ({ s with clks := s.clks.set i { x with rate := ur, mul := ua } } : Chip).clks[i]? = some { x with rate := ur, mul := ua } := List.getElem?_set_self hil
          have hset2 := ht1.own.setClk (j := 5) (u := .int .i64 uc) (x' := { x with rate := ur, mul := ua, lock := uc }) ht1.hC hr1 (by omega) (fun vs hv _ => by obtain ⟨A, c, rfl, q1, q2⟩ := hv; exact ⟨A, c, rfl, q1, q2⟩)
          simp only [List.set_set] at hset2
          have ht2 := ht1.set (p := ⟨g1, i * 6 + 5, none⟩) (.int .i64 uc) hset2 ⟨by simp, rfl, rfl, rfl⟩ (by simp [hot4, Value.ownBlock])
          have hr2 : ({ s with clks := s.clks.set i { x with rate := ur, mul := ua, lock := uc } } : Chip).clks[i]? = some { x with rate := ur, mul := ua, lock := uc } := List.getElem?_set_self hil
          have hset3 := ht2.own.setClk (j := 4) (u := .int .i64 ub) (x' := { x with rate := ur, mul := ua, lock := uc, div := ub }) ht2.hC hr2 (by omega) (fun vs hv _ => by obtain ⟨A, c, rfl, q1, q2⟩ := hv; exact ⟨A, c, rfl, q1, q2⟩)
          simp only [List.set_set] at hset3
          have ht3 := ht2.set (p := ⟨g1, i * 6 + 4, none⟩) (.int .i64 ub) hset3 ⟨by simp, rfl, rfl, rfl⟩ (by simp [hot4, Value.ownBlock])
          have hun : ({ x with rate := ur, mul := ua, lock := uc, div := ub } : Clk) = unC ua ub uc ur x := by
            unfold unC
            rw [← HKD.out]
            simp [k1, k2, k3]
          rw [hun] at ht3
          have HT := Lib.hid ht3
          clear hr hun hs hset0 ht0 hset1 ht1 hset2 ht2 hset3 ht3 hr0 hr1 hr2
          go_wp2
          exact HR.out _ _ x HXR.out ⟨rfl, rfl⟩ rfl rfl rfl rfl rfl rfl (by go_num) HT.out
  · obtain rfl : i = nC := by omega
    obtain ⟨x0, y0⟩ := hs.bx 0 _ rfl
    clear hs
    go_wp2
    exact HQ.out _ ⟨rfl, rfl⟩ rfl rfl rfl rfl rfl rfl (by trivial)

def I9 (w : World) (g0 B : Nat) (s : Chip) (g1 c1 nC g2 c2 nD g3 c3 nR g4 c4 nV : Nat) (ua ub uc ur : Int) (p0 : Value) (a : Act) (W : World) : Prop :=
  ∃ i : Nat, i ≤ nC ∧ FrN 101 a ∧ slT a 0 = p0 ∧ slT a 1 = .int .i64 ua ∧ slT a 2 = .int .i64 ub ∧ slT a 3 = .int .i64 uc ∧ slT a 4 = .int .u64 ur ∧ slT a 12 = .pointer (some ⟨g0, 0, none⟩) ∧ slT a 13 = .int .i64 (i : Nat) ∧ StF w W g0 B { s with clks := mapTo (unC ua ub uc ur) i s.clks } g1 c1 nC g2 c2 nD g3 c3 nR g4 c4 nV
def M9 (n : Nat) (a : Act) (_ : World) : Nat := n - (intOf (slT a 13)).toNat
theorem unused_loop (w W : World) (g0 B : Nat) (s : Chip) (g1 c1 nC g2 c2 nD g3 c3 nR g4 c4 nV : Nat) (ua ub uc ur : Int) (p0 : Value) (hC : nC = s.clks.length) (hs : StF w W g0 B s g1 c1 nC g2 c2 nD g3 c3 nR g4 c4 nV) (b1 : 1 ≤ nC ∧ nC ≤ 9)
    (a : Act) (ha : FrN 101 a) (h0 : slT a 0 = p0) (h1 : slT a 1 = .int .i64 ua) (h2 : slT a 2 = .int .i64 ub) (h3 : slT a 3 = .int .i64 uc) (h4 : slT a 4 = .int .u64 ur) (h12 : slT a 12 = .pointer (some ⟨g0, 0, none⟩)) (h13 : slT a 13 = .int .i64 0) (Q : Exit → Act → World → Prop)
    (hQ : ∀ a' W', FrN 101 a' → slT a' 0 = p0 → slT a' 1 = .int .i64 ua → slT a' 2 = .int .i64 ub → slT a' 3 = .int .i64 uc → slT a' 4 = .int .u64 ur → slT a' 12 = .pointer (some ⟨g0, 0, none⟩) → StF w W' g0 B { s with clks := s.clks.map (unC ua ub uc ur) } g1 c1 nC g2 c2 nD g3 c3 nR g4 c4 nV → Q (.exit 0) a' W') : Code.wp Try.prog loop9 Q a W := by
  show Code.wp Try.prog (Code.loop (lpC loop9)) Q a W
  have hs0 : StF w W g0 B { s with clks := mapTo (unC ua ub uc ur) 0 s.clks } g1 c1 nC g2 c2 nD g3 c3 nR g4 c4 nV := by rw [mapTo_zero]; exact hs
  refine wp_loop (I9 w g0 B s g1 c1 nC g2 c2 nD g3 c3 nR g4 c4 nV ua ub uc ur p0) (M9 nC) ⟨0, Nat.zero_le _, ha, h0, h1, h2, h3, h4, h12, h13, hs0⟩ ?_
  rintro a1 W1 ⟨i, hi, hf, q0, q1, q2, q3, q4, q12, q13, hs1⟩
  refine unused_round w W1 g0 B _ g1 c1 nC g2 c2 nD g3 c3 nR g4 c4 nV i ua ub uc ur p0 hs1 b1 hi a1 hf q0 q1 q2 q3 q4 q12 q13 _ _ ?_ ?_
  · intro a' W' x hx hF e0 e1 e2 e3 e4 e12 e13 hs'
    have hx' := mapTo_at (f := unC ua ub uc ur) hx
    simp only [mapTo_succ hx'] at hs'
    have hlt : i < nC := by rw [hC]; exact (List.getElem?_eq_some_iff.1 hx').1
    refine ⟨⟨i + 1, hlt, hF, e0, e1, e2, e3, e4, e12, e13, hs'⟩, ?_⟩
    unfold M9
    rw [e13, q13]
    simp [intOf]
    omega
  · intro a' hF e0 e1 e2 e3 e4 e12 hin
    refine hQ _ _ hF e0 e1 e2 e3 e4 e12 ?_
    rw [hin, hC, mapTo_all] at hs1
    rw [hC]
    exact hs1

def IsChip (s : Chip) : Gv := fun v w => ∃ vs : List Value, v = .agg vs.toArray ∧ ChipV w w.heap.size s vs
theorem isChip_stb (s : Chip) : Stb (IsChip s) := fun _ _ _ ⟨vs, e, h⟩ hb => ⟨vs, e, Steady.later h hb⟩

set_option maxRecDepth 1000000 in
set_option maxHeartbeats 8000000 in
theorem unused_lastT (w W : World) (g0 g5 : Nat) (s' s0 : Chip) (v1 v2 v3 v4 u1 u2 u3 u4 : Value) (hok : ChipOk s') (hok0 : ChipOk s0) (hE : chipE s' = 0) (heq : eqP s' s0 = false) (hA : BoxAt W g0 [v1, v2, v3, v4]) (hB : BoxAt W g5 [u1, u2, u3, u4]) (hcA : ChipV W W.heap.size s' [v1, v2, v3, v4]) (hcB : ChipV W W.heap.size s0 [u1, u2, u3, u4]) (hbl : Below w.heap.size w W)
    (a : Act) (ha : FrN 101 a) (h12 : slT a 12 = .pointer (some ⟨g0, 0, none⟩)) (h15 : slT a 15 = .pointer (some ⟨g5, 0, none⟩)) (h16 : slT a 16 = .bool true) : Code.wp Try.prog (tlC (tlC tail9)) (bodyPost Try.prog Try.f9 (TellsB true w)) a W := by
  have HOK := Lib.hid hok
  have HOK0 := Lib.hid hok0
  have HE := Lib.hid hE
  have HEQ := Lib.hid heq
  have hC : ∀ w1, Below W.heap.size W w1 → BoxAt w1 g0 [v1, v2, v3, v4] ∧ BoxAt w1 g5 [u1, u2, u3, u4] ∧ ChipV w1 w1.heap.size s' [v1, v2, v3, v4] ∧ ChipV w1 w1.heap.size s0 [u1, u2, u3, u4] := fun w1 hb =>
    ⟨hA.move (Moved.of_below hb (hot := [])) (by simp), hB.move (Moved.of_below hb (hot := [])) (by simp), Steady.later hcA hb, Steady.later hcB hb⟩
  have HC := Lib.hid hC
  have HB := Lib.hid hbl
  clear hok hok0 hE hA hB hcA hcB hbl hC heq
  obtain ⟨F, rfl⟩ := ha.open_
  rw [slT_listT (by omega)] at h12 h15 h16
  rw [lit101, h12, h15, h16]
  clear ha h12 h15 h16
  conv => arg 2; whnf
  go_wp2
  refine region_good (GL [IsV (.agg #[v1, v2, v3, v4]),
    IsV (.int .i64 0),
    IsV (.bool true),
    IsV (.bool true),
    IsV (.agg #[v1, v2, v3, v4]),
    IsV (.agg #[v1, v2, v3, v4]),
    IsChip s',
    IsV (.bool true),
    IsV (.bool true),
    IsV (.bool true),
    IsV (.bool true),
    IsV (.bool false),
    IsV (.bool false),
    IsV (.agg #[v1, v2, v3, v4]),
    IsV (.agg #[u1, u2, u3, u4]),
    IsV (.bool false),
    IsV (.bool true),
    IsV (.bool true),
    IsV (.bool true),
    IsV (.bool true)]) 101 (by kernel_rfl) rfl (by kernel_rfl) (GL.stb ⟨IsV.stb _, IsV.stb _, IsV.stb _, IsV.stb _, IsV.stb _, IsV.stb _, isChip_stb _, IsV.stb _, IsV.stb _, IsV.stb _, IsV.stb _, IsV.stb _, IsV.stb _, IsV.stb _, IsV.stb _, IsV.stb _, IsV.stb _, IsV.stb _, IsV.stb _, IsV.stb _, trivial⟩) ⟨?s0, ?s1, ?s2, ?s3, ?s4, ?s5, ?s6, ?s7, ?s8, ?s9, ?s10, ?s11, ?s12, ?s13, ?s14, ?s15, ?s16, ?s17, ?s18, ?s19, trivial⟩ ?fin
  case s0 =>
    refine step_plain rfl fun T w1 hT hb hd => ?_
    have ec := evT_const T
    have ef := evT_func T
    have d12 : evT T (.tmp 12) = .pointer (some ⟨g0, 0, none⟩) := hT 12 (by kernel_rfl)
    obtain ⟨hA, -, -, -⟩ := HC.out w1 hb
    obtain ⟨f0, -⟩ := hA 0 _ rfl
    obtain ⟨f1, -⟩ := hA 1 _ rfl
    obtain ⟨f2, -⟩ := hA 2 _ rfl
    obtain ⟨f3, -⟩ := hA 3 _ rfl
    clear hA
    clear hT hd hb
    refine gives_value (v := .agg #[v1, v2, v3, v4]) ?_ rfl
    simp only [execOp]
    go_simp
  case s1 =>
    refine step_plain rfl fun T w1 hT hb hd => ?_
    have ec := evT_const T
    have ef := evT_func T
    have d82 : evT T (.tmp 82) = .agg #[v1, v2, v3, v4] := (by first | exact hd.1 | exact hd.2.1 | exact hd.2.2.1 | exact hd.2.2.2.1 | exact hd.2.2.2.2.1 | exact hd.2.2.2.2.2.1 | exact hd.2.2.2.2.2.2.1 | exact hd.2.2.2.2.2.2.2.1 | exact hd.2.2.2.2.2.2.2.2.1 | exact hd.2.2.2.2.2.2.2.2.2.1)
    refine gives_call (f := 12) (args := #[.agg #[v1, v2, v3, v4]]) ?_ ?_
    · clear hT hd hb
      simp only [execOp, resolve]
      go_simp
    · refine (chip_check s' [v1, v2, v3, v4] w1 HOK.out (HC.out w1 hb).2.2.1).mono ?_
      rintro en w2 ⟨he, hb2⟩
      exact ⟨_, he, hb2, by rw [HE.out]; rfl⟩
  case s2 =>
    refine step_plain rfl fun T w1 hT hb hd => ?_
    have ec := evT_const T
    have ef := evT_func T
    have d83 : evT T (.tmp 83) = .int .i64 0 := (by first | exact hd.1 | exact hd.2.1 | exact hd.2.2.1 | exact hd.2.2.2.1 | exact hd.2.2.2.2.1 | exact hd.2.2.2.2.2.1 | exact hd.2.2.2.2.2.2.1 | exact hd.2.2.2.2.2.2.2.1 | exact hd.2.2.2.2.2.2.2.2.1 | exact hd.2.2.2.2.2.2.2.2.2.1)
    clear hT hd hb
    refine gives_value (v := .bool true) ?_ rfl
    simp only [execOp]
    go_simp
  case s3 =>
    refine step_plain rfl fun T w1 hT hb hd => ?_
    have ec := evT_const T
    have ef := evT_func T
    have d84 : evT T (.tmp 84) = .bool true := (by first | exact hd.1 | exact hd.2.1 | exact hd.2.2.1 | exact hd.2.2.2.1 | exact hd.2.2.2.2.1 | exact hd.2.2.2.2.2.1 | exact hd.2.2.2.2.2.2.1 | exact hd.2.2.2.2.2.2.2.1 | exact hd.2.2.2.2.2.2.2.2.1 | exact hd.2.2.2.2.2.2.2.2.2.1)
    clear hT hd hb
    refine gives_value (v := .bool true) ?_ rfl
    simp only [execOp]
    go_simp
  case s4 =>
    refine step_on 3 85 true rfl rfl fun T w1 hT hb hd => ⟨(by first | exact hd.1 | exact hd.2.1 | exact hd.2.2.1 | exact hd.2.2.2.1 | exact hd.2.2.2.2.1 | exact hd.2.2.2.2.2.1 | exact hd.2.2.2.2.2.2.1 | exact hd.2.2.2.2.2.2.2.1 | exact hd.2.2.2.2.2.2.2.2.1 | exact hd.2.2.2.2.2.2.2.2.2.1), ?_⟩
    have ec := evT_const T
    have ef := evT_func T
    have d12 : evT T (.tmp 12) = .pointer (some ⟨g0, 0, none⟩) := hT 12 (by kernel_rfl)
    obtain ⟨hA, -, -, -⟩ := HC.out w1 hb
    obtain ⟨f0, -⟩ := hA 0 _ rfl
    obtain ⟨f1, -⟩ := hA 1 _ rfl
    obtain ⟨f2, -⟩ := hA 2 _ rfl
    obtain ⟨f3, -⟩ := hA 3 _ rfl
    clear hA
    clear hT hd hb
    refine gives_value (v := .agg #[v1, v2, v3, v4]) ?_ rfl
    simp only [execOp]
    go_simp
  case s5 =>
    refine step_on 3 85 true rfl rfl fun T w1 hT hb hd => ⟨(by first | exact hd.1 | exact hd.2.1 | exact hd.2.2.1 | exact hd.2.2.2.1 | exact hd.2.2.2.2.1 | exact hd.2.2.2.2.2.1 | exact hd.2.2.2.2.2.2.1 | exact hd.2.2.2.2.2.2.2.1 | exact hd.2.2.2.2.2.2.2.2.1 | exact hd.2.2.2.2.2.2.2.2.2.1), ?_⟩
    have ec := evT_const T
    have ef := evT_func T
    have d12 : evT T (.tmp 12) = .pointer (some ⟨g0, 0, none⟩) := hT 12 (by kernel_rfl)
    obtain ⟨hA, -, -, -⟩ := HC.out w1 hb
    obtain ⟨f0, -⟩ := hA 0 _ rfl
    obtain ⟨f1, -⟩ := hA 1 _ rfl
    obtain ⟨f2, -⟩ := hA 2 _ rfl
    obtain ⟨f3, -⟩ := hA 3 _ rfl
    clear hA
    clear hT hd hb
    refine gives_value (v := .agg #[v1, v2, v3, v4]) ?_ rfl
    simp only [execOp]
    go_simp
  case s6 =>
    refine step_on 3 85 true rfl rfl fun T w1 hT hb hd => ⟨(by first | exact hd.1 | exact hd.2.1 | exact hd.2.2.1 | exact hd.2.2.2.1 | exact hd.2.2.2.2.1 | exact hd.2.2.2.2.2.1 | exact hd.2.2.2.2.2.2.1 | exact hd.2.2.2.2.2.2.2.1 | exact hd.2.2.2.2.2.2.2.2.1 | exact hd.2.2.2.2.2.2.2.2.2.1), ?_⟩
    have ec := evT_const T
    have ef := evT_func T
    have d87 : evT T (.tmp 87) = .agg #[v1, v2, v3, v4] := (by first | exact hd.1 | exact hd.2.1 | exact hd.2.2.1 | exact hd.2.2.2.1 | exact hd.2.2.2.2.1 | exact hd.2.2.2.2.2.1 | exact hd.2.2.2.2.2.2.1 | exact hd.2.2.2.2.2.2.2.1 | exact hd.2.2.2.2.2.2.2.2.1 | exact hd.2.2.2.2.2.2.2.2.2.1)
    refine gives_call (f := 23) (args := #[.agg #[v1, v2, v3, v4]]) ?_ ?_
    · clear hT hd hb
      simp only [execOp, resolve]
      go_simp
    · refine (copy_any s' [v1, v2, v3, v4] w1 HOK.out (HC.out w1 hb).2.2.1).mono ?_
      rintro en w2 ⟨x1, x2, x3, x4, he, ho, hb2⟩
      exact ⟨_, he, hb2, ⟨_, rfl, ho.chip⟩⟩
  case s7 =>
    refine step_on 3 85 true rfl rfl fun T w1 hT hb hd => ⟨(by first | exact hd.1 | exact hd.2.1 | exact hd.2.2.1 | exact hd.2.2.2.1 | exact hd.2.2.2.2.1 | exact hd.2.2.2.2.2.1 | exact hd.2.2.2.2.2.2.1 | exact hd.2.2.2.2.2.2.2.1 | exact hd.2.2.2.2.2.2.2.2.1 | exact hd.2.2.2.2.2.2.2.2.2.1), ?_⟩
    have ec := evT_const T
    have ef := evT_func T
    have d86 : evT T (.tmp 86) = .agg #[v1, v2, v3, v4] := (by first | exact hd.1 | exact hd.2.1 | exact hd.2.2.1 | exact hd.2.2.2.1 | exact hd.2.2.2.2.1 | exact hd.2.2.2.2.2.1 | exact hd.2.2.2.2.2.2.1 | exact hd.2.2.2.2.2.2.2.1 | exact hd.2.2.2.2.2.2.2.2.1 | exact hd.2.2.2.2.2.2.2.2.2.1)
    obtain ⟨vs, d88, hvs⟩ : IsChip s' (evT T (.tmp 88)) w1 := (by first | exact hd.1 | exact hd.2.1 | exact hd.2.2.1 | exact hd.2.2.2.1 | exact hd.2.2.2.2.1 | exact hd.2.2.2.2.2.1 | exact hd.2.2.2.2.2.2.1 | exact hd.2.2.2.2.2.2.2.1 | exact hd.2.2.2.2.2.2.2.2.1 | exact hd.2.2.2.2.2.2.2.2.2.1)
    refine gives_call (f := 21) (args := #[.agg #[v1, v2, v3, v4], .agg vs.toArray]) ?_ ?_
    · clear hT hd hb hvs
      simp only [execOp, resolve]
      go_simp
    · refine (chip_same s' s' [v1, v2, v3, v4] vs w1 HOK.out HOK.out (HC.out w1 hb).2.2.1 hvs).mono ?_
      rintro en w2 ⟨he, hb2⟩
      exact ⟨_, he, hb2, by rw [eqP_self]; rfl⟩
  case s8 =>
    refine step_plain rfl fun T w1 hT hb hd => ?_
    have ec := evT_const T
    have ef := evT_func T
    have d85 : evT T (.tmp 85) = .bool true := (by first | exact hd.1 | exact hd.2.1 | exact hd.2.2.1 | exact hd.2.2.2.1 | exact hd.2.2.2.2.1 | exact hd.2.2.2.2.2.1 | exact hd.2.2.2.2.2.2.1 | exact hd.2.2.2.2.2.2.2.1 | exact hd.2.2.2.2.2.2.2.2.1 | exact hd.2.2.2.2.2.2.2.2.2.1)
    have d89 : evT T (.tmp 89) = .bool true := (by first | exact hd.1 | exact hd.2.1 | exact hd.2.2.1 | exact hd.2.2.2.1 | exact hd.2.2.2.2.1 | exact hd.2.2.2.2.2.1 | exact hd.2.2.2.2.2.2.1 | exact hd.2.2.2.2.2.2.2.1 | exact hd.2.2.2.2.2.2.2.2.1 | exact hd.2.2.2.2.2.2.2.2.2.1)
    clear hT hd hb
    refine gives_value (v := .bool true) ?_ rfl
    simp only [execOp]
    go_simp
  case s9 =>
    refine step_plain rfl fun T w1 hT hb hd => ?_
    have ec := evT_const T
    have ef := evT_func T
    have d90 : evT T (.tmp 90) = .bool true := (by first | exact hd.1 | exact hd.2.1 | exact hd.2.2.1 | exact hd.2.2.2.1 | exact hd.2.2.2.2.1 | exact hd.2.2.2.2.2.1 | exact hd.2.2.2.2.2.2.1 | exact hd.2.2.2.2.2.2.2.1 | exact hd.2.2.2.2.2.2.2.2.1 | exact hd.2.2.2.2.2.2.2.2.2.1)
    clear hT hd hb
    refine gives_value (v := .bool true) ?_ rfl
    simp only [execOp]
    go_simp
  case s10 =>
    refine step_on 9 91 true rfl rfl fun T w1 hT hb hd => ⟨(by first | exact hd.1 | exact hd.2.1 | exact hd.2.2.1 | exact hd.2.2.2.1 | exact hd.2.2.2.2.1 | exact hd.2.2.2.2.2.1 | exact hd.2.2.2.2.2.2.1 | exact hd.2.2.2.2.2.2.2.1 | exact hd.2.2.2.2.2.2.2.2.1 | exact hd.2.2.2.2.2.2.2.2.2.1), ?_⟩
    have ec := evT_const T
    have ef := evT_func T
    have d16 : evT T (.tmp 16) = .bool true := hT 16 (by kernel_rfl)
    clear hT hd hb
    refine gives_value (v := .bool true) ?_ rfl
    simp only [execOp]
    go_simp
  case s11 =>
    refine step_on 9 91 true rfl rfl fun T w1 hT hb hd => ⟨(by first | exact hd.1 | exact hd.2.1 | exact hd.2.2.1 | exact hd.2.2.2.1 | exact hd.2.2.2.2.1 | exact hd.2.2.2.2.2.1 | exact hd.2.2.2.2.2.2.1 | exact hd.2.2.2.2.2.2.2.1 | exact hd.2.2.2.2.2.2.2.2.1 | exact hd.2.2.2.2.2.2.2.2.2.1), ?_⟩
    have ec := evT_const T
    have ef := evT_func T
    have d92 : evT T (.tmp 92) = .bool true := (by first | exact hd.1 | exact hd.2.1 | exact hd.2.2.1 | exact hd.2.2.2.1 | exact hd.2.2.2.2.1 | exact hd.2.2.2.2.2.1 | exact hd.2.2.2.2.2.2.1 | exact hd.2.2.2.2.2.2.2.1 | exact hd.2.2.2.2.2.2.2.2.1 | exact hd.2.2.2.2.2.2.2.2.2.1)
    clear hT hd hb
    refine gives_value (v := .bool false) ?_ rfl
    simp only [execOp]
    go_simp
  case s12 =>
    refine step_on 9 91 true rfl rfl fun T w1 hT hb hd => ⟨(by first | exact hd.1 | exact hd.2.1 | exact hd.2.2.1 | exact hd.2.2.2.1 | exact hd.2.2.2.2.1 | exact hd.2.2.2.2.2.1 | exact hd.2.2.2.2.2.2.1 | exact hd.2.2.2.2.2.2.2.1 | exact hd.2.2.2.2.2.2.2.2.1 | exact hd.2.2.2.2.2.2.2.2.2.1), ?_⟩
    have ec := evT_const T
    have ef := evT_func T
    have d93 : evT T (.tmp 93) = .bool false := (by first | exact hd.1 | exact hd.2.1 | exact hd.2.2.1 | exact hd.2.2.2.1 | exact hd.2.2.2.2.1 | exact hd.2.2.2.2.2.1 | exact hd.2.2.2.2.2.2.1 | exact hd.2.2.2.2.2.2.2.1 | exact hd.2.2.2.2.2.2.2.2.1 | exact hd.2.2.2.2.2.2.2.2.2.1)
    clear hT hd hb
    refine gives_value (v := .bool false) ?_ rfl
    simp only [execOp]
    go_simp
  case s13 =>
    refine step_on 12 94 false rfl rfl fun T w1 hT hb hd => ⟨(by first | exact hd.1 | exact hd.2.1 | exact hd.2.2.1 | exact hd.2.2.2.1 | exact hd.2.2.2.2.1 | exact hd.2.2.2.2.2.1 | exact hd.2.2.2.2.2.2.1 | exact hd.2.2.2.2.2.2.2.1 | exact hd.2.2.2.2.2.2.2.2.1 | exact hd.2.2.2.2.2.2.2.2.2.1), ?_⟩
    have ec := evT_const T
    have ef := evT_func T
    have d12 : evT T (.tmp 12) = .pointer (some ⟨g0, 0, none⟩) := hT 12 (by kernel_rfl)
    obtain ⟨hA, -, -, -⟩ := HC.out w1 hb
    obtain ⟨f0, -⟩ := hA 0 _ rfl
    obtain ⟨f1, -⟩ := hA 1 _ rfl
    obtain ⟨f2, -⟩ := hA 2 _ rfl
    obtain ⟨f3, -⟩ := hA 3 _ rfl
    clear hA
    clear hT hd hb
    refine gives_value (v := .agg #[v1, v2, v3, v4]) ?_ rfl
    simp only [execOp]
    go_simp
  case s14 =>
    refine step_on 12 94 false rfl rfl fun T w1 hT hb hd => ⟨(by first | exact hd.1 | exact hd.2.1 | exact hd.2.2.1 | exact hd.2.2.2.1 | exact hd.2.2.2.2.1 | exact hd.2.2.2.2.2.1 | exact hd.2.2.2.2.2.2.1 | exact hd.2.2.2.2.2.2.2.1 | exact hd.2.2.2.2.2.2.2.2.1 | exact hd.2.2.2.2.2.2.2.2.2.1), ?_⟩
    have ec := evT_const T
    have ef := evT_func T
    have d15 : evT T (.tmp 15) = .pointer (some ⟨g5, 0, none⟩) := hT 15 (by kernel_rfl)
    obtain ⟨-, hA, -, -⟩ := HC.out w1 hb
    obtain ⟨f0, -⟩ := hA 0 _ rfl
    obtain ⟨f1, -⟩ := hA 1 _ rfl
    obtain ⟨f2, -⟩ := hA 2 _ rfl
    obtain ⟨f3, -⟩ := hA 3 _ rfl
    clear hA
    clear hT hd hb
    refine gives_value (v := .agg #[u1, u2, u3, u4]) ?_ rfl
    simp only [execOp]
    go_simp
  case s15 =>
    refine step_on 12 94 false rfl rfl fun T w1 hT hb hd => ⟨(by first | exact hd.1 | exact hd.2.1 | exact hd.2.2.1 | exact hd.2.2.2.1 | exact hd.2.2.2.2.1 | exact hd.2.2.2.2.2.1 | exact hd.2.2.2.2.2.2.1 | exact hd.2.2.2.2.2.2.2.1 | exact hd.2.2.2.2.2.2.2.2.1 | exact hd.2.2.2.2.2.2.2.2.2.1), ?_⟩
    have ec := evT_const T
    have ef := evT_func T
    have d95 : evT T (.tmp 95) = .agg #[v1, v2, v3, v4] := (by first | exact hd.1 | exact hd.2.1 | exact hd.2.2.1 | exact hd.2.2.2.1 | exact hd.2.2.2.2.1 | exact hd.2.2.2.2.2.1 | exact hd.2.2.2.2.2.2.1 | exact hd.2.2.2.2.2.2.2.1 | exact hd.2.2.2.2.2.2.2.2.1 | exact hd.2.2.2.2.2.2.2.2.2.1)
    have d96 : evT T (.tmp 96) = .agg #[u1, u2, u3, u4] := (by first | exact hd.1 | exact hd.2.1 | exact hd.2.2.1 | exact hd.2.2.2.1 | exact hd.2.2.2.2.1 | exact hd.2.2.2.2.2.1 | exact hd.2.2.2.2.2.2.1 | exact hd.2.2.2.2.2.2.2.1 | exact hd.2.2.2.2.2.2.2.2.1 | exact hd.2.2.2.2.2.2.2.2.2.1)
    refine gives_call (f := 21) (args := #[.agg #[v1, v2, v3, v4], .agg #[u1, u2, u3, u4]]) ?_ ?_
    · clear hT hd hb
      simp only [execOp, resolve]
      go_simp
    · refine (chip_same s' s0 [v1, v2, v3, v4] [u1, u2, u3, u4] w1 HOK.out HOK0.out (HC.out w1 hb).2.2.1 (HC.out w1 hb).2.2.2).mono ?_
      rintro en w2 ⟨he, hb2⟩
      exact ⟨_, he, hb2, by rw [HEQ.out]; rfl⟩
  case s16 =>
    refine step_on 12 94 false rfl rfl fun T w1 hT hb hd => ⟨(by first | exact hd.1 | exact hd.2.1 | exact hd.2.2.1 | exact hd.2.2.2.1 | exact hd.2.2.2.2.1 | exact hd.2.2.2.2.2.1 | exact hd.2.2.2.2.2.2.1 | exact hd.2.2.2.2.2.2.2.1 | exact hd.2.2.2.2.2.2.2.2.1 | exact hd.2.2.2.2.2.2.2.2.2.1), ?_⟩
    have ec := evT_const T
    have ef := evT_func T
    have d97 : evT T (.tmp 97) = .bool false := (by first | exact hd.1 | exact hd.2.1 | exact hd.2.2.1 | exact hd.2.2.2.1 | exact hd.2.2.2.2.1 | exact hd.2.2.2.2.2.1 | exact hd.2.2.2.2.2.2.1 | exact hd.2.2.2.2.2.2.2.1 | exact hd.2.2.2.2.2.2.2.2.1 | exact hd.2.2.2.2.2.2.2.2.2.1)
    clear hT hd hb
    refine gives_value (v := .bool true) ?_ rfl
    simp only [execOp]
    go_simp
  case s17 =>
    refine step_on 9 91 true rfl rfl fun T w1 hT hb hd => ⟨(by first | exact hd.1 | exact hd.2.1 | exact hd.2.2.1 | exact hd.2.2.2.1 | exact hd.2.2.2.2.1 | exact hd.2.2.2.2.2.1 | exact hd.2.2.2.2.2.2.1 | exact hd.2.2.2.2.2.2.2.1 | exact hd.2.2.2.2.2.2.2.2.1 | exact hd.2.2.2.2.2.2.2.2.2.1), ?_⟩
    have ec := evT_const T
    have ef := evT_func T
    have d94 : evT T (.tmp 94) = .bool false := (by first | exact hd.1 | exact hd.2.1 | exact hd.2.2.1 | exact hd.2.2.2.1 | exact hd.2.2.2.2.1 | exact hd.2.2.2.2.2.1 | exact hd.2.2.2.2.2.2.1 | exact hd.2.2.2.2.2.2.2.1 | exact hd.2.2.2.2.2.2.2.2.1 | exact hd.2.2.2.2.2.2.2.2.2.1)
    have d98 : evT T (.tmp 98) = .bool true := (by first | exact hd.1 | exact hd.2.1 | exact hd.2.2.1 | exact hd.2.2.2.1 | exact hd.2.2.2.2.1 | exact hd.2.2.2.2.2.1 | exact hd.2.2.2.2.2.2.1 | exact hd.2.2.2.2.2.2.2.1 | exact hd.2.2.2.2.2.2.2.2.1 | exact hd.2.2.2.2.2.2.2.2.2.1)
    clear hT hd hb
    refine gives_value (v := .bool true) ?_ rfl
    simp only [execOp]
    go_simp
  case s18 =>
    refine step_plain rfl fun T w1 hT hb hd => ?_
    have ec := evT_const T
    have ef := evT_func T
    have d91 : evT T (.tmp 91) = .bool true := (by first | exact hd.1 | exact hd.2.1 | exact hd.2.2.1 | exact hd.2.2.2.1 | exact hd.2.2.2.2.1 | exact hd.2.2.2.2.2.1 | exact hd.2.2.2.2.2.2.1 | exact hd.2.2.2.2.2.2.2.1 | exact hd.2.2.2.2.2.2.2.2.1 | exact hd.2.2.2.2.2.2.2.2.2.1)
    have d99 : evT T (.tmp 99) = .bool true := (by first | exact hd.1 | exact hd.2.1 | exact hd.2.2.1 | exact hd.2.2.2.1 | exact hd.2.2.2.2.1 | exact hd.2.2.2.2.2.1 | exact hd.2.2.2.2.2.2.1 | exact hd.2.2.2.2.2.2.2.1 | exact hd.2.2.2.2.2.2.2.2.1 | exact hd.2.2.2.2.2.2.2.2.2.1)
    clear hT hd hb
    refine gives_value (v := .bool true) ?_ rfl
    simp only [execOp]
    go_simp
  case s19 =>
    refine step_plain rfl fun T w1 hT hb hd => ?_
    have ec := evT_const T
    have ef := evT_func T
    have d100 : evT T (.tmp 100) = .bool true := (by first | exact hd.1 | exact hd.2.1 | exact hd.2.2.1 | exact hd.2.2.2.1 | exact hd.2.2.2.2.1 | exact hd.2.2.2.2.2.1 | exact hd.2.2.2.2.2.2.1 | exact hd.2.2.2.2.2.2.2.1 | exact hd.2.2.2.2.2.2.2.2.1 | exact hd.2.2.2.2.2.2.2.2.2.1)
    clear hT hd hb
    refine gives_value (v := .bool true) ?_ rfl
    simp only [execOp]
    go_simp
  case fin =>
    intro T w1 hT hb hd
    have e : T 10 = .bool true := hd.2.2.2.2.2.2.2.2.2.2.2.2.2.2.2.2.2.2.2.1
    rw [lit101, e]
    clear hT hd e
    go_wp2
    go_ret
    exact ⟨rfl, HB.out.trans (hb.mono HB.out.size)⟩

set_option maxRecDepth 1000000 in
set_option maxHeartbeats 8000000 in
theorem unused_lastF (w W : World) (g0 g5 : Nat) (s' s0 : Chip) (v1 v2 v3 v4 u1 u2 u3 u4 : Value) (hok : ChipOk s') (hok0 : ChipOk s0) (hE : chipE s' = 0) (hA : BoxAt W g0 [v1, v2, v3, v4]) (hB : BoxAt W g5 [u1, u2, u3, u4]) (hcA : ChipV W W.heap.size s' [v1, v2, v3, v4]) (hcB : ChipV W W.heap.size s0 [u1, u2, u3, u4]) (hbl : Below w.heap.size w W)
    (a : Act) (ha : FrN 101 a) (h12 : slT a 12 = .pointer (some ⟨g0, 0, none⟩)) (h15 : slT a 15 = .pointer (some ⟨g5, 0, none⟩)) (h16 : slT a 16 = .bool false) : Code.wp Try.prog (tlC (tlC tail9)) (bodyPost Try.prog Try.f9 (TellsB true w)) a W := by
  have HOK := Lib.hid hok
  have HOK0 := Lib.hid hok0
  have HE := Lib.hid hE
  have hC : ∀ w1, Below W.heap.size W w1 → BoxAt w1 g0 [v1, v2, v3, v4] ∧ BoxAt w1 g5 [u1, u2, u3, u4] ∧ ChipV w1 w1.heap.size s' [v1, v2, v3, v4] ∧ ChipV w1 w1.heap.size s0 [u1, u2, u3, u4] := fun w1 hb =>
    ⟨hA.move (Moved.of_below hb (hot := [])) (by simp), hB.move (Moved.of_below hb (hot := [])) (by simp), Steady.later hcA hb, Steady.later hcB hb⟩
  have HC := Lib.hid hC
  have HB := Lib.hid hbl
  clear hok hok0 hE hA hB hcA hcB hbl hC
  obtain ⟨F, rfl⟩ := ha.open_
  rw [slT_listT (by omega)] at h12 h15 h16
  rw [lit101, h12, h15, h16]
  clear ha h12 h15 h16
  conv => arg 2; whnf
  go_wp2
  refine region_good (GL [IsV (.agg #[v1, v2, v3, v4]),
    IsV (.int .i64 0),
    IsV (.bool true),
    IsV (.bool true),
    IsV (.agg #[v1, v2, v3, v4]),
    IsV (.agg #[v1, v2, v3, v4]),
    IsChip s',
    IsV (.bool true),
    IsV (.bool true),
    IsV (.bool true),
    IsV (.bool false),
    IsV (.bool true),
    IsV (.bool true),
    IsV undef,
    IsV undef,
    IsV undef,
    IsV undef,
    IsV (.bool true),
    IsV (.bool true),
    IsV (.bool true)]) 101 (by kernel_rfl) rfl (by kernel_rfl) (GL.stb ⟨IsV.stb _, IsV.stb _, IsV.stb _, IsV.stb _, IsV.stb _, IsV.stb _, isChip_stb _, IsV.stb _, IsV.stb _, IsV.stb _, IsV.stb _, IsV.stb _, IsV.stb _, IsV.stb _, IsV.stb _, IsV.stb _, IsV.stb _, IsV.stb _, IsV.stb _, IsV.stb _, trivial⟩) ⟨?s0, ?s1, ?s2, ?s3, ?s4, ?s5, ?s6, ?s7, ?s8, ?s9, ?s10, ?s11, ?s12, ?s13, ?s14, ?s15, ?s16, ?s17, ?s18, ?s19, trivial⟩ ?fin
  case s0 =>
    refine step_plain rfl fun T w1 hT hb hd => ?_
    have ec := evT_const T
    have ef := evT_func T
    have d12 : evT T (.tmp 12) = .pointer (some ⟨g0, 0, none⟩) := hT 12 (by kernel_rfl)
    obtain ⟨hA, -, -, -⟩ := HC.out w1 hb
    obtain ⟨f0, -⟩ := hA 0 _ rfl
    obtain ⟨f1, -⟩ := hA 1 _ rfl
    obtain ⟨f2, -⟩ := hA 2 _ rfl
    obtain ⟨f3, -⟩ := hA 3 _ rfl
    clear hA
    clear hT hd hb
    refine gives_value (v := .agg #[v1, v2, v3, v4]) ?_ rfl
    simp only [execOp]
    go_simp
  case s1 =>
    refine step_plain rfl fun T w1 hT hb hd => ?_
    have ec := evT_const T
    have ef := evT_func T
    have d82 : evT T (.tmp 82) = .agg #[v1, v2, v3, v4] := (by first | exact hd.1 | exact hd.2.1 | exact hd.2.2.1 | exact hd.2.2.2.1 | exact hd.2.2.2.2.1 | exact hd.2.2.2.2.2.1 | exact hd.2.2.2.2.2.2.1 | exact hd.2.2.2.2.2.2.2.1 | exact hd.2.2.2.2.2.2.2.2.1 | exact hd.2.2.2.2.2.2.2.2.2.1)
    refine gives_call (f := 12) (args := #[.agg #[v1, v2, v3, v4]]) ?_ ?_
    · clear hT hd hb
      simp only [execOp, resolve]
      go_simp
    · refine (chip_check s' [v1, v2, v3, v4] w1 HOK.out (HC.out w1 hb).2.2.1).mono ?_
      rintro en w2 ⟨he, hb2⟩
      exact ⟨_, he, hb2, by rw [HE.out]; rfl⟩
  case s2 =>
    refine step_plain rfl fun T w1 hT hb hd => ?_
    have ec := evT_const T
    have ef := evT_func T
    have d83 : evT T (.tmp 83) = .int .i64 0 := (by first | exact hd.1 | exact hd.2.1 | exact hd.2.2.1 | exact hd.2.2.2.1 | exact hd.2.2.2.2.1 | exact hd.2.2.2.2.2.1 | exact hd.2.2.2.2.2.2.1 | exact hd.2.2.2.2.2.2.2.1 | exact hd.2.2.2.2.2.2.2.2.1 | exact hd.2.2.2.2.2.2.2.2.2.1)
    clear hT hd hb
    refine gives_value (v := .bool true) ?_ rfl
    simp only [execOp]
    go_simp
  case s3 =>
    refine step_plain rfl fun T w1 hT hb hd => ?_
    have ec := evT_const T
    have ef := evT_func T
    have d84 : evT T (.tmp 84) = .bool true := (by first | exact hd.1 | exact hd.2.1 | exact hd.2.2.1 | exact hd.2.2.2.1 | exact hd.2.2.2.2.1 | exact hd.2.2.2.2.2.1 | exact hd.2.2.2.2.2.2.1 | exact hd.2.2.2.2.2.2.2.1 | exact hd.2.2.2.2.2.2.2.2.1 | exact hd.2.2.2.2.2.2.2.2.2.1)
    clear hT hd hb
    refine gives_value (v := .bool true) ?_ rfl
    simp only [execOp]
    go_simp
  case s4 =>
    refine step_on 3 85 true rfl rfl fun T w1 hT hb hd => ⟨(by first | exact hd.1 | exact hd.2.1 | exact hd.2.2.1 | exact hd.2.2.2.1 | exact hd.2.2.2.2.1 | exact hd.2.2.2.2.2.1 | exact hd.2.2.2.2.2.2.1 | exact hd.2.2.2.2.2.2.2.1 | exact hd.2.2.2.2.2.2.2.2.1 | exact hd.2.2.2.2.2.2.2.2.2.1), ?_⟩
    have ec := evT_const T
    have ef := evT_func T
    have d12 : evT T (.tmp 12) = .pointer (some ⟨g0, 0, none⟩) := hT 12 (by kernel_rfl)
    obtain ⟨hA, -, -, -⟩ := HC.out w1 hb
    obtain ⟨f0, -⟩ := hA 0 _ rfl
    obtain ⟨f1, -⟩ := hA 1 _ rfl
    obtain ⟨f2, -⟩ := hA 2 _ rfl
    obtain ⟨f3, -⟩ := hA 3 _ rfl
    clear hA
    clear hT hd hb
    refine gives_value (v := .agg #[v1, v2, v3, v4]) ?_ rfl
    simp only [execOp]
    go_simp
  case s5 =>
    refine step_on 3 85 true rfl rfl fun T w1 hT hb hd => ⟨(by first | exact hd.1 | exact hd.2.1 | exact hd.2.2.1 | exact hd.2.2.2.1 | exact hd.2.2.2.2.1 | exact hd.2.2.2.2.2.1 | exact hd.2.2.2.2.2.2.1 | exact hd.2.2.2.2.2.2.2.1 | exact hd.2.2.2.2.2.2.2.2.1 | exact hd.2.2.2.2.2.2.2.2.2.1), ?_⟩
    have ec := evT_const T
    have ef := evT_func T
    have d12 : evT T (.tmp 12) = .pointer (some ⟨g0, 0, none⟩) := hT 12 (by kernel_rfl)
    obtain ⟨hA, -, -, -⟩ := HC.out w1 hb
    obtain ⟨f0, -⟩ := hA 0 _ rfl
    obtain ⟨f1, -⟩ := hA 1 _ rfl
    obtain ⟨f2, -⟩ := hA 2 _ rfl
    obtain ⟨f3, -⟩ := hA 3 _ rfl
    clear hA
    clear hT hd hb
    refine gives_value (v := .agg #[v1, v2, v3, v4]) ?_ rfl
    simp only [execOp]
    go_simp
  case s6 =>
    refine step_on 3 85 true rfl rfl fun T w1 hT hb hd => ⟨(by first | exact hd.1 | exact hd.2.1 | exact hd.2.2.1 | exact hd.2.2.2.1 | exact hd.2.2.2.2.1 | exact hd.2.2.2.2.2.1 | exact hd.2.2.2.2.2.2.1 | exact hd.2.2.2.2.2.2.2.1 | exact hd.2.2.2.2.2.2.2.2.1 | exact hd.2.2.2.2.2.2.2.2.2.1), ?_⟩
    have ec := evT_const T
    have ef := evT_func T
    have d87 : evT T (.tmp 87) = .agg #[v1, v2, v3, v4] := (by first | exact hd.1 | exact hd.2.1 | exact hd.2.2.1 | exact hd.2.2.2.1 | exact hd.2.2.2.2.1 | exact hd.2.2.2.2.2.1 | exact hd.2.2.2.2.2.2.1 | exact hd.2.2.2.2.2.2.2.1 | exact hd.2.2.2.2.2.2.2.2.1 | exact hd.2.2.2.2.2.2.2.2.2.1)
    refine gives_call (f := 23) (args := #[.agg #[v1, v2, v3, v4]]) ?_ ?_
    · clear hT hd hb
      simp only [execOp, resolve]
      go_simp
    · refine (copy_any s' [v1, v2, v3, v4] w1 HOK.out (HC.out w1 hb).2.2.1).mono ?_
      rintro en w2 ⟨x1, x2, x3, x4, he, ho, hb2⟩
      exact ⟨_, he, hb2, ⟨_, rfl, ho.chip⟩⟩
  case s7 =>
    refine step_on 3 85 true rfl rfl fun T w1 hT hb hd => ⟨(by first | exact hd.1 | exact hd.2.1 | exact hd.2.2.1 | exact hd.2.2.2.1 | exact hd.2.2.2.2.1 | exact hd.2.2.2.2.2.1 | exact hd.2.2.2.2.2.2.1 | exact hd.2.2.2.2.2.2.2.1 | exact hd.2.2.2.2.2.2.2.2.1 | exact hd.2.2.2.2.2.2.2.2.2.1), ?_⟩
    have ec := evT_const T
    have ef := evT_func T
    have d86 : evT T (.tmp 86) = .agg #[v1, v2, v3, v4] := (by first | exact hd.1 | exact hd.2.1 | exact hd.2.2.1 | exact hd.2.2.2.1 | exact hd.2.2.2.2.1 | exact hd.2.2.2.2.2.1 | exact hd.2.2.2.2.2.2.1 | exact hd.2.2.2.2.2.2.2.1 | exact hd.2.2.2.2.2.2.2.2.1 | exact hd.2.2.2.2.2.2.2.2.2.1)
    obtain ⟨vs, d88, hvs⟩ : IsChip s' (evT T (.tmp 88)) w1 := (by first | exact hd.1 | exact hd.2.1 | exact hd.2.2.1 | exact hd.2.2.2.1 | exact hd.2.2.2.2.1 | exact hd.2.2.2.2.2.1 | exact hd.2.2.2.2.2.2.1 | exact hd.2.2.2.2.2.2.2.1 | exact hd.2.2.2.2.2.2.2.2.1 | exact hd.2.2.2.2.2.2.2.2.2.1)
    refine gives_call (f := 21) (args := #[.agg #[v1, v2, v3, v4], .agg vs.toArray]) ?_ ?_
    · clear hT hd hb hvs
      simp only [execOp, resolve]
      go_simp
    · refine (chip_same s' s' [v1, v2, v3, v4] vs w1 HOK.out HOK.out (HC.out w1 hb).2.2.1 hvs).mono ?_
      rintro en w2 ⟨he, hb2⟩
      exact ⟨_, he, hb2, by rw [eqP_self]; rfl⟩
  case s8 =>
    refine step_plain rfl fun T w1 hT hb hd => ?_
    have ec := evT_const T
    have ef := evT_func T
    have d85 : evT T (.tmp 85) = .bool true := (by first | exact hd.1 | exact hd.2.1 | exact hd.2.2.1 | exact hd.2.2.2.1 | exact hd.2.2.2.2.1 | exact hd.2.2.2.2.2.1 | exact hd.2.2.2.2.2.2.1 | exact hd.2.2.2.2.2.2.2.1 | exact hd.2.2.2.2.2.2.2.2.1 | exact hd.2.2.2.2.2.2.2.2.2.1)
    have d89 : evT T (.tmp 89) = .bool true := (by first | exact hd.1 | exact hd.2.1 | exact hd.2.2.1 | exact hd.2.2.2.1 | exact hd.2.2.2.2.1 | exact hd.2.2.2.2.2.1 | exact hd.2.2.2.2.2.2.1 | exact hd.2.2.2.2.2.2.2.1 | exact hd.2.2.2.2.2.2.2.2.1 | exact hd.2.2.2.2.2.2.2.2.2.1)
    clear hT hd hb
    refine gives_value (v := .bool true) ?_ rfl
    simp only [execOp]
    go_simp
  case s9 =>
    refine step_plain rfl fun T w1 hT hb hd => ?_
    have ec := evT_const T
    have ef := evT_func T
    have d90 : evT T (.tmp 90) = .bool true := (by first | exact hd.1 | exact hd.2.1 | exact hd.2.2.1 | exact hd.2.2.2.1 | exact hd.2.2.2.2.1 | exact hd.2.2.2.2.2.1 | exact hd.2.2.2.2.2.2.1 | exact hd.2.2.2.2.2.2.2.1 | exact hd.2.2.2.2.2.2.2.2.1 | exact hd.2.2.2.2.2.2.2.2.2.1)
    clear hT hd hb
    refine gives_value (v := .bool true) ?_ rfl
    simp only [execOp]
    go_simp
  case s10 =>
    refine step_on 9 91 true rfl rfl fun T w1 hT hb hd => ⟨(by first | exact hd.1 | exact hd.2.1 | exact hd.2.2.1 | exact hd.2.2.2.1 | exact hd.2.2.2.2.1 | exact hd.2.2.2.2.2.1 | exact hd.2.2.2.2.2.2.1 | exact hd.2.2.2.2.2.2.2.1 | exact hd.2.2.2.2.2.2.2.2.1 | exact hd.2.2.2.2.2.2.2.2.2.1), ?_⟩
    have ec := evT_const T
    have ef := evT_func T
    have d16 : evT T (.tmp 16) = .bool false := hT 16 (by kernel_rfl)
    clear hT hd hb
    refine gives_value (v := .bool false) ?_ rfl
    simp only [execOp]
    go_simp
  case s11 =>
    refine step_on 9 91 true rfl rfl fun T w1 hT hb hd => ⟨(by first | exact hd.1 | exact hd.2.1 | exact hd.2.2.1 | exact hd.2.2.2.1 | exact hd.2.2.2.2.1 | exact hd.2.2.2.2.2.1 | exact hd.2.2.2.2.2.2.1 | exact hd.2.2.2.2.2.2.2.1 | exact hd.2.2.2.2.2.2.2.2.1 | exact hd.2.2.2.2.2.2.2.2.2.1), ?_⟩
    have ec := evT_const T
    have ef := evT_func T
    have d92 : evT T (.tmp 92) = .bool false := (by first | exact hd.1 | exact hd.2.1 | exact hd.2.2.1 | exact hd.2.2.2.1 | exact hd.2.2.2.2.1 | exact hd.2.2.2.2.2.1 | exact hd.2.2.2.2.2.2.1 | exact hd.2.2.2.2.2.2.2.1 | exact hd.2.2.2.2.2.2.2.2.1 | exact hd.2.2.2.2.2.2.2.2.2.1)
    clear hT hd hb
    refine gives_value (v := .bool true) ?_ rfl
    simp only [execOp]
    go_simp
  case s12 =>
    refine step_on 9 91 true rfl rfl fun T w1 hT hb hd => ⟨(by first | exact hd.1 | exact hd.2.1 | exact hd.2.2.1 | exact hd.2.2.2.1 | exact hd.2.2.2.2.1 | exact hd.2.2.2.2.2.1 | exact hd.2.2.2.2.2.2.1 | exact hd.2.2.2.2.2.2.2.1 | exact hd.2.2.2.2.2.2.2.2.1 | exact hd.2.2.2.2.2.2.2.2.2.1), ?_⟩
    have ec := evT_const T
    have ef := evT_func T
    have d93 : evT T (.tmp 93) = .bool true := (by first | exact hd.1 | exact hd.2.1 | exact hd.2.2.1 | exact hd.2.2.2.1 | exact hd.2.2.2.2.1 | exact hd.2.2.2.2.2.1 | exact hd.2.2.2.2.2.2.1 | exact hd.2.2.2.2.2.2.2.1 | exact hd.2.2.2.2.2.2.2.2.1 | exact hd.2.2.2.2.2.2.2.2.2.1)
    clear hT hd hb
    refine gives_value (v := .bool true) ?_ rfl
    simp only [execOp]
    go_simp
  case s13 =>
    exact step_off 12 94 false rfl rfl fun T w1 hT hb hd => ⟨(by first | exact hd.1 | exact hd.2.1 | exact hd.2.2.1 | exact hd.2.2.2.1 | exact hd.2.2.2.2.1 | exact hd.2.2.2.2.2.1 | exact hd.2.2.2.2.2.2.1 | exact hd.2.2.2.2.2.2.2.1 | exact hd.2.2.2.2.2.2.2.2.1 | exact hd.2.2.2.2.2.2.2.2.2.1), rfl⟩
  case s14 =>
    exact step_off 12 94 false rfl rfl fun T w1 hT hb hd => ⟨(by first | exact hd.1 | exact hd.2.1 | exact hd.2.2.1 | exact hd.2.2.2.1 | exact hd.2.2.2.2.1 | exact hd.2.2.2.2.2.1 | exact hd.2.2.2.2.2.2.1 | exact hd.2.2.2.2.2.2.2.1 | exact hd.2.2.2.2.2.2.2.2.1 | exact hd.2.2.2.2.2.2.2.2.2.1), rfl⟩
  case s15 =>
    exact step_off 12 94 false rfl rfl fun T w1 hT hb hd => ⟨(by first | exact hd.1 | exact hd.2.1 | exact hd.2.2.1 | exact hd.2.2.2.1 | exact hd.2.2.2.2.1 | exact hd.2.2.2.2.2.1 | exact hd.2.2.2.2.2.2.1 | exact hd.2.2.2.2.2.2.2.1 | exact hd.2.2.2.2.2.2.2.2.1 | exact hd.2.2.2.2.2.2.2.2.2.1), rfl⟩
  case s16 =>
    exact step_off 12 94 false rfl rfl fun T w1 hT hb hd => ⟨(by first | exact hd.1 | exact hd.2.1 | exact hd.2.2.1 | exact hd.2.2.2.1 | exact hd.2.2.2.2.1 | exact hd.2.2.2.2.2.1 | exact hd.2.2.2.2.2.2.1 | exact hd.2.2.2.2.2.2.2.1 | exact hd.2.2.2.2.2.2.2.2.1 | exact hd.2.2.2.2.2.2.2.2.2.1), rfl⟩
  case s17 =>
    refine step_on 9 91 true rfl rfl fun T w1 hT hb hd => ⟨(by first | exact hd.1 | exact hd.2.1 | exact hd.2.2.1 | exact hd.2.2.2.1 | exact hd.2.2.2.2.1 | exact hd.2.2.2.2.2.1 | exact hd.2.2.2.2.2.2.1 | exact hd.2.2.2.2.2.2.2.1 | exact hd.2.2.2.2.2.2.2.2.1 | exact hd.2.2.2.2.2.2.2.2.2.1), ?_⟩
    have ec := evT_const T
    have ef := evT_func T
    have d94 : evT T (.tmp 94) = .bool true := (by first | exact hd.1 | exact hd.2.1 | exact hd.2.2.1 | exact hd.2.2.2.1 | exact hd.2.2.2.2.1 | exact hd.2.2.2.2.2.1 | exact hd.2.2.2.2.2.2.1 | exact hd.2.2.2.2.2.2.2.1 | exact hd.2.2.2.2.2.2.2.2.1 | exact hd.2.2.2.2.2.2.2.2.2.1)
    clear hT hd hb
    refine gives_value (v := .bool true) ?_ rfl
    simp only [execOp]
    go_simp
  case s18 =>
    refine step_plain rfl fun T w1 hT hb hd => ?_
    have ec := evT_const T
    have ef := evT_func T
    have d91 : evT T (.tmp 91) = .bool true := (by first | exact hd.1 | exact hd.2.1 | exact hd.2.2.1 | exact hd.2.2.2.1 | exact hd.2.2.2.2.1 | exact hd.2.2.2.2.2.1 | exact hd.2.2.2.2.2.2.1 | exact hd.2.2.2.2.2.2.2.1 | exact hd.2.2.2.2.2.2.2.2.1 | exact hd.2.2.2.2.2.2.2.2.2.1)
    have d99 : evT T (.tmp 99) = .bool true := (by first | exact hd.1 | exact hd.2.1 | exact hd.2.2.1 | exact hd.2.2.2.1 | exact hd.2.2.2.2.1 | exact hd.2.2.2.2.2.1 | exact hd.2.2.2.2.2.2.1 | exact hd.2.2.2.2.2.2.2.1 | exact hd.2.2.2.2.2.2.2.2.1 | exact hd.2.2.2.2.2.2.2.2.2.1)
    clear hT hd hb
    refine gives_value (v := .bool true) ?_ rfl
    simp only [execOp]
    go_simp
  case s19 =>
    refine step_plain rfl fun T w1 hT hb hd => ?_
    have ec := evT_const T
    have ef := evT_func T
    have d100 : evT T (.tmp 100) = .bool true := (by first | exact hd.1 | exact hd.2.1 | exact hd.2.2.1 | exact hd.2.2.2.1 | exact hd.2.2.2.2.1 | exact hd.2.2.2.2.2.1 | exact hd.2.2.2.2.2.2.1 | exact hd.2.2.2.2.2.2.2.1 | exact hd.2.2.2.2.2.2.2.2.1 | exact hd.2.2.2.2.2.2.2.2.2.1)
    clear hT hd hb
    refine gives_value (v := .bool true) ?_ rfl
    simp only [execOp]
    go_simp
  case fin =>
    intro T w1 hT hb hd
    have e : T 10 = .bool true := hd.2.2.2.2.2.2.2.2.2.2.2.2.2.2.2.2.2.2.2.1
    rw [lit101, e]
    clear hT hd e
    go_wp2
    go_ret
    exact ⟨rfl, HB.out.trans (hb.mono HB.out.size)⟩

end Go.Proofs.Ytkhfcbcanbplgaa
