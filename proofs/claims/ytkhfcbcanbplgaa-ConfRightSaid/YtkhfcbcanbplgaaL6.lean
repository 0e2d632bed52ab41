/- The walk of catnaplaw4.ConfRight: what it tells. -/
import Derived.Test.YtkhfcbcanbplgaaL2
import Derived.Test.YtkhfcbcanbplgaaN5
import Derived.Test.YtkhfcbcanbplgaaO3
import Derived.Test.YtkhfcbcanbplgaaW16
import Derived.Test.YtkhfcbcanbplgaaW21
namespace Go.Proofs.Ytkhfcbcanbplgaa
set_option linter.unusedSimpArgs false
set_option linter.unusedVariables false
open Go.RowKit Go.Maps

set_option maxRecDepth 100000 in
theorem lit135 (T : Nat → Value) : listT T 135 = List.toArray (T 0 :: T 1 :: T 2 :: T 3 :: T 4 :: T 5 :: T 6 :: T 7 :: T 8 :: T 9 :: T 10 :: T 11 :: T 12 :: T 13 :: T 14 :: T 15 :: T 16 :: T 17 :: T 18 :: T 19 :: T 20 :: T 21 :: T 22 :: T 23 :: T 24 :: T 25 :: T 26 :: T 27 :: T 28 :: T 29 :: T 30 :: T 31 :: T 32 :: T 33 :: T 34 :: T 35 :: T 36 :: T 37 :: T 38 :: T 39 :: T 40 :: T 41 :: T 42 :: T 43 :: T 44 :: T 45 :: T 46 :: T 47 :: T 48 :: T 49 :: T 50 :: T 51 :: T 52 :: T 53 :: T 54 :: T 55 :: T 56 :: T 57 :: T 58 :: T 59 :: T 60 :: T 61 :: T 62 :: T 63 :: T 64 :: T 65 :: T 66 :: T 67 :: T 68 :: T 69 :: T 70 :: T 71 :: T 72 :: T 73 :: T 74 :: T 75 :: T 76 :: T 77 :: T 78 :: T 79 :: T 80 :: T 81 :: T 82 :: T 83 :: T 84 :: T 85 :: T 86 :: T 87 :: T 88 :: T 89 :: T 90 :: T 91 :: T 92 :: T 93 :: T 94 :: T 95 :: T 96 :: T 97 :: T 98 :: T 99 :: T 100 :: T 101 :: T 102 :: T 103 :: T 104 :: T 105 :: T 106 :: T 107 :: T 108 :: T 109 :: T 110 :: T 111 :: T 112 :: T 113 :: T 114 :: T 115 :: T 116 :: T 117 :: T 118 :: T 119 :: T 120 :: T 121 :: T 122 :: T 123 :: T 124 :: T 125 :: T 126 :: T 127 :: T 128 :: T 129 :: T 130 :: T 131 :: T 132 :: T 133 :: T 134 :: []) := rfl
noncomputable def rtBody : Code := Try.f4.body.getD .skip
noncomputable def rtOrd : Code := tlC (tlC (tlC (tlC rtBody)))
noncomputable def rtCopy : Code := tlC (tlC (tlC (tlC rtOrd)))
noncomputable def rtMore : Code := tlC (tlC rtCopy)
noncomputable def rtFor : Code := tlC (tlC rtMore)
noncomputable def rtLoop : Code := blC (tlC (hdC rtFor))
noncomputable def rtTail : Code := tlC rtFor
noncomputable def rtCirc : Code := tlC rtTail
noncomputable def rtLast : Code := tlC (tlC rtCirc)

def IsChp (s : Chip) : Gv := fun v w => ∃ vs : List Value, v = .agg vs.toArray ∧ ChipV w w.heap.size s vs
theorem isChp_stb (s : Chip) : Stb (IsChp s) := fun _ _ _ ⟨vs, e, h⟩ hb => ⟨vs, e, Steady.later h hb⟩

/-- a chip in a box, below block B -/
structure Held (B : Nat) (W : World) (g : Nat) (s : Chip) (v1 v2 v3 v4 : Value) : Prop where
  lt : g < B
  le : B ≤ W.heap.size
  bx : BoxAt W g [v1, v2, v3, v4]
  cv : ChipV W B s [v1, v2, v3, v4]
theorem Held.below {B : Nat} {W W' : World} {g : Nat} {s : Chip} {v1 v2 v3 v4 : Value} (h : Held B W g s v1 v2 v3 v4) (hb : Below B W W') : Held B W' g s v1 v2 v3 v4 :=
  ⟨h.lt, Nat.le_trans h.le hb.size, fun j v hj => ⟨(hb.cell (p := ⟨g, j, none⟩) h.lt).trans (h.bx j v hj).1, (World.frozen?_of_block (hb.block g h.lt)).trans (h.bx j v hj).2⟩, Steady.below h.cv hb (Nat.le_refl _)⟩
theorem Held.chip {B : Nat} {W : World} {g : Nat} {s : Chip} {v1 v2 v3 v4 : Value} (h : Held B W g s v1 v2 v3 v4) : ChipV W W.heap.size s [v1, v2, v3, v4] := Steady.more h.cv h.le

set_option maxRecDepth 1000000 in
set_option maxHeartbeats 8000000 in
theorem right_last (w W : World) (gs gl gm gc Bs Bl Bm Bc : Nat) (s sl sm sc : Chip) (a1 a2 a3 a4 b1 b2 b3 b4 c1 c2 c3 c4 d1 d2 d3 d4 : Value) (ok0 : ChipOk s) (ok1 : ChipOk sl) (ok2 : ChipOk sm) (ok3 : ChipOk sc) (hE1 : chipE sl = 0) (hE2 : chipE sm = 0) (hE3 : chipE sc = 5) (heq : eqP s sm = false)
    (hA : Held Bs W gs s a1 a2 a3 a4) (hB : Held Bl W gl sl b1 b2 b3 b4) (hCc : Held Bm W gm sm c1 c2 c3 c4) (hD : Held Bc W gc sc d1 d2 d3 d4) (hbl : Below w.heap.size w W)
    (a : Act) (ha : FrN 135 a) (h4 : slT a 4 = .pointer (some ⟨gs, 0, none⟩)) (h11 : slT a 11 = .pointer (some ⟨gl, 0, none⟩)) (h12 : slT a 12 = .pointer (some ⟨gm, 0, none⟩)) (h15 : slT a 15 = .pointer (some ⟨gc, 0, none⟩)) : Code.wp Try.prog rtLast (bodyPost Try.prog Try.f4 (TellsB true w)) a W := by
  have HOK0 := Lib.hid ok0
  have HOK1 := Lib.hid ok1
  have HOK2 := Lib.hid ok2
  have HOK3 := Lib.hid ok3
  have HE1 := Lib.hid hE1
  have HE2 := Lib.hid hE2
  have HE3 := Lib.hid hE3
  have HEQ := Lib.hid heq
  have hC : ∀ w1, Below W.heap.size W w1 → BoxAt w1 gs [a1, a2, a3, a4] ∧ BoxAt w1 gl [b1, b2, b3, b4] ∧ BoxAt w1 gm [c1, c2, c3, c4] ∧ BoxAt w1 gc [d1, d2, d3, d4] ∧ ChipV w1 w1.heap.size s [a1, a2, a3, a4] ∧ ChipV w1 w1.heap.size sl [b1, b2, b3, b4] ∧ ChipV w1 w1.heap.size sm [c1, c2, c3, c4] ∧ ChipV w1 w1.heap.size sc [d1, d2, d3, d4] := fun w1 hb => by
    have hA' := hA.below (hb.mono hA.le)
    have hB' := hB.below (hb.mono hB.le)
    have hC' := hCc.below (hb.mono hCc.le)
    have hD' := hD.below (hb.mono hD.le)
    exact ⟨hA'.bx, hB'.bx, hC'.bx, hD'.bx, hA'.chip, hB'.chip, hC'.chip, hD'.chip⟩
  have HC := Lib.hid hC
  have HB := Lib.hid hbl
  clear ok0 ok1 ok2 ok3 hE1 hE2 hE3 hA hB hCc hD hbl hC heq
  obtain ⟨F, rfl⟩ := ha.open_
  rw [slT_listT (by omega)] at h4 h11 h12 h15
  rw [lit135, h4, h11, h12, h15]
  clear ha h4 h11 h12 h15
  conv => arg 2; whnf
  go_wp2
  refine region_good (GL [IsV (.agg #[b1, b2, b3, b4]),
    IsV (.int .i64 0),
    IsV (.bool true),
    IsV (.bool true),
    IsV (.agg #[c1, c2, c3, c4]),
    IsV (.int .i64 0),
    IsV (.bool true),
    IsV (.bool true),
    IsV (.bool true),
    IsV (.agg #[d1, d2, d3, d4]),
    IsV (.int .i64 5),
    IsV (.bool true),
    IsV (.bool true),
    IsV (.bool true),
    IsV (.agg #[a1, a2, a3, a4]),
    IsV (.agg #[c1, c2, c3, c4]),
    IsV (.bool false),
    IsV (.bool true),
    IsV (.bool true),
    IsV (.bool true),
    IsV (.agg #[c1, c2, c3, c4]),
    IsChp sm,
    IsV (.agg #[c1, c2, c3, c4]),
    IsV (.bool true),
    IsV (.bool true),
    IsV (.bool true)]) 135 (by kernel_rfl) rfl (by kernel_rfl) (GL.stb ⟨IsV.stb _, IsV.stb _, IsV.stb _, IsV.stb _, IsV.stb _, IsV.stb _, IsV.stb _, IsV.stb _, IsV.stb _, IsV.stb _, IsV.stb _, IsV.stb _, IsV.stb _, IsV.stb _, IsV.stb _, IsV.stb _, IsV.stb _, IsV.stb _, IsV.stb _, IsV.stb _, IsV.stb _, isChp_stb _, IsV.stb _, IsV.stb _, IsV.stb _, IsV.stb _, trivial⟩) ⟨?s0, ?s1, ?s2, ?s3, ?s4, ?s5, ?s6, ?s7, ?s8, ?s9, ?s10, ?s11, ?s12, ?s13, ?s14, ?s15, ?s16, ?s17, ?s18, ?s19, ?s20, ?s21, ?s22, ?s23, ?s24, ?s25, trivial⟩ ?fin
  case s0 =>
    refine step_plain rfl fun T w1 hT hb hd => ?_
    have ec := evT_const T
    have ef := evT_func T
    have d11 : evT T (.tmp 11) = .pointer (some ⟨gl, 0, none⟩) := hT 11 (by kernel_rfl)
    obtain ⟨-, hA, -, -, -, -, -, -⟩ := HC.out w1 hb
    obtain ⟨f0, -⟩ := hA 0 _ rfl
    obtain ⟨f1, -⟩ := hA 1 _ rfl
    obtain ⟨f2, -⟩ := hA 2 _ rfl
    obtain ⟨f3, -⟩ := hA 3 _ rfl
    clear hA
    clear hT hd hb
    refine gives_value (v := .agg #[b1, b2, b3, b4]) ?_ rfl
    simp only [execOp]
    go_simp
  case s1 =>
    refine step_plain rfl fun T w1 hT hb hd => ?_
    have ec := evT_const T
    have ef := evT_func T
    have d110 : evT T (.tmp 110) = .agg #[b1, b2, b3, b4] := (by first | exact hd.1 | exact hd.2.1 | exact hd.2.2.1 | exact hd.2.2.2.1 | exact hd.2.2.2.2.1 | exact hd.2.2.2.2.2.1 | exact hd.2.2.2.2.2.2.1 | exact hd.2.2.2.2.2.2.2.1 | exact hd.2.2.2.2.2.2.2.2.1 | exact hd.2.2.2.2.2.2.2.2.2.1 | exact hd.2.2.2.2.2.2.2.2.2.2.1 | exact hd.2.2.2.2.2.2.2.2.2.2.2.1)
    refine gives_call (f := 12) (args := #[.agg #[b1, b2, b3, b4]]) ?_ ?_
    · clear hT hd hb
      simp only [execOp, resolve]
      go_simp
    · refine (chip_check _ [b1, b2, b3, b4] w1 HOK1.out (HC.out w1 hb).2.2.2.2.2.1).mono ?_
      rintro en w2 ⟨he, hb2⟩
      exact ⟨_, he, hb2, by rw [HE1.out]; rfl⟩
  case s2 =>
    refine step_plain rfl fun T w1 hT hb hd => ?_
    have ec := evT_const T
    have ef := evT_func T
    have d111 : evT T (.tmp 111) = .int .i64 0 := (by first | exact hd.1 | exact hd.2.1 | exact hd.2.2.1 | exact hd.2.2.2.1 | exact hd.2.2.2.2.1 | exact hd.2.2.2.2.2.1 | exact hd.2.2.2.2.2.2.1 | exact hd.2.2.2.2.2.2.2.1 | exact hd.2.2.2.2.2.2.2.2.1 | exact hd.2.2.2.2.2.2.2.2.2.1 | exact hd.2.2.2.2.2.2.2.2.2.2.1 | exact hd.2.2.2.2.2.2.2.2.2.2.2.1)
    clear hT hd hb
    refine gives_value (v := .bool true) ?_ rfl
    simp only [execOp]
    go_simp
  case s3 =>
    refine step_plain rfl fun T w1 hT hb hd => ?_
    have ec := evT_const T
    have ef := evT_func T
    have d112 : evT T (.tmp 112) = .bool true := (by first | exact hd.1 | exact hd.2.1 | exact hd.2.2.1 | exact hd.2.2.2.1 | exact hd.2.2.2.2.1 | exact hd.2.2.2.2.2.1 | exact hd.2.2.2.2.2.2.1 | exact hd.2.2.2.2.2.2.2.1 | exact hd.2.2.2.2.2.2.2.2.1 | exact hd.2.2.2.2.2.2.2.2.2.1 | exact hd.2.2.2.2.2.2.2.2.2.2.1 | exact hd.2.2.2.2.2.2.2.2.2.2.2.1)
    clear hT hd hb
    refine gives_value (v := .bool true) ?_ rfl
    simp only [execOp]
    go_simp
  case s4 =>
    refine step_on 3 113 true rfl rfl fun T w1 hT hb hd => ⟨(by first | exact hd.1 | exact hd.2.1 | exact hd.2.2.1 | exact hd.2.2.2.1 | exact hd.2.2.2.2.1 | exact hd.2.2.2.2.2.1 | exact hd.2.2.2.2.2.2.1 | exact hd.2.2.2.2.2.2.2.1 | exact hd.2.2.2.2.2.2.2.2.1 | exact hd.2.2.2.2.2.2.2.2.2.1 | exact hd.2.2.2.2.2.2.2.2.2.2.1 | exact hd.2.2.2.2.2.2.2.2.2.2.2.1), ?_⟩
    have ec := evT_const T
    have ef := evT_func T
    have d12 : evT T (.tmp 12) = .pointer (some ⟨gm, 0, none⟩) := hT 12 (by kernel_rfl)
    obtain ⟨-, -, hA, -, -, -, -, -⟩ := HC.out w1 hb
    obtain ⟨f0, -⟩ := hA 0 _ rfl
    obtain ⟨f1, -⟩ := hA 1 _ rfl
    obtain ⟨f2, -⟩ := hA 2 _ rfl
    obtain ⟨f3, -⟩ := hA 3 _ rfl
    clear hA
    clear hT hd hb
    refine gives_value (v := .agg #[c1, c2, c3, c4]) ?_ rfl
    simp only [execOp]
    go_simp
  case s5 =>
    refine step_on 3 113 true rfl rfl fun T w1 hT hb hd => ⟨(by first | exact hd.1 | exact hd.2.1 | exact hd.2.2.1 | exact hd.2.2.2.1 | exact hd.2.2.2.2.1 | exact hd.2.2.2.2.2.1 | exact hd.2.2.2.2.2.2.1 | exact hd.2.2.2.2.2.2.2.1 | exact hd.2.2.2.2.2.2.2.2.1 | exact hd.2.2.2.2.2.2.2.2.2.1 | exact hd.2.2.2.2.2.2.2.2.2.2.1 | exact hd.2.2.2.2.2.2.2.2.2.2.2.1), ?_⟩
    have ec := evT_const T
    have ef := evT_func T
    have d114 : evT T (.tmp 114) = .agg #[c1, c2, c3, c4] := (by first | exact hd.1 | exact hd.2.1 | exact hd.2.2.1 | exact hd.2.2.2.1 | exact hd.2.2.2.2.1 | exact hd.2.2.2.2.2.1 | exact hd.2.2.2.2.2.2.1 | exact hd.2.2.2.2.2.2.2.1 | exact hd.2.2.2.2.2.2.2.2.1 | exact hd.2.2.2.2.2.2.2.2.2.1 | exact hd.2.2.2.2.2.2.2.2.2.2.1 | exact hd.2.2.2.2.2.2.2.2.2.2.2.1)
    refine gives_call (f := 12) (args := #[.agg #[c1, c2, c3, c4]]) ?_ ?_
    · clear hT hd hb
      simp only [execOp, resolve]
      go_simp
    · refine (chip_check _ [c1, c2, c3, c4] w1 HOK2.out (HC.out w1 hb).2.2.2.2.2.2.1).mono ?_
      rintro en w2 ⟨he, hb2⟩
      exact ⟨_, he, hb2, by rw [HE2.out]; rfl⟩
  case s6 =>
    refine step_on 3 113 true rfl rfl fun T w1 hT hb hd => ⟨(by first | exact hd.1 | exact hd.2.1 | exact hd.2.2.1 | exact hd.2.2.2.1 | exact hd.2.2.2.2.1 | exact hd.2.2.2.2.2.1 | exact hd.2.2.2.2.2.2.1 | exact hd.2.2.2.2.2.2.2.1 | exact hd.2.2.2.2.2.2.2.2.1 | exact hd.2.2.2.2.2.2.2.2.2.1 | exact hd.2.2.2.2.2.2.2.2.2.2.1 | exact hd.2.2.2.2.2.2.2.2.2.2.2.1), ?_⟩
    have ec := evT_const T
    have ef := evT_func T
    have d115 : evT T (.tmp 115) = .int .i64 0 := (by first | exact hd.1 | exact hd.2.1 | exact hd.2.2.1 | exact hd.2.2.2.1 | exact hd.2.2.2.2.1 | exact hd.2.2.2.2.2.1 | exact hd.2.2.2.2.2.2.1 | exact hd.2.2.2.2.2.2.2.1 | exact hd.2.2.2.2.2.2.2.2.1 | exact hd.2.2.2.2.2.2.2.2.2.1 | exact hd.2.2.2.2.2.2.2.2.2.2.1 | exact hd.2.2.2.2.2.2.2.2.2.2.2.1)
    clear hT hd hb
    refine gives_value (v := .bool true) ?_ rfl
    simp only [execOp]
    go_simp
  case s7 =>
    refine step_plain rfl fun T w1 hT hb hd => ?_
    have ec := evT_const T
    have ef := evT_func T
    have d113 : evT T (.tmp 113) = .bool true := (by first | exact hd.1 | exact hd.2.1 | exact hd.2.2.1 | exact hd.2.2.2.1 | exact hd.2.2.2.2.1 | exact hd.2.2.2.2.2.1 | exact hd.2.2.2.2.2.2.1 | exact hd.2.2.2.2.2.2.2.1 | exact hd.2.2.2.2.2.2.2.2.1 | exact hd.2.2.2.2.2.2.2.2.2.1 | exact hd.2.2.2.2.2.2.2.2.2.2.1 | exact hd.2.2.2.2.2.2.2.2.2.2.2.1)
    have d116 : evT T (.tmp 116) = .bool true := (by first | exact hd.1 | exact hd.2.1 | exact hd.2.2.1 | exact hd.2.2.2.1 | exact hd.2.2.2.2.1 | exact hd.2.2.2.2.2.1 | exact hd.2.2.2.2.2.2.1 | exact hd.2.2.2.2.2.2.2.1 | exact hd.2.2.2.2.2.2.2.2.1 | exact hd.2.2.2.2.2.2.2.2.2.1 | exact hd.2.2.2.2.2.2.2.2.2.2.1 | exact hd.2.2.2.2.2.2.2.2.2.2.2.1)
    clear hT hd hb
    refine gives_value (v := .bool true) ?_ rfl
    simp only [execOp]
    go_simp
  case s8 =>
    refine step_plain rfl fun T w1 hT hb hd => ?_
    have ec := evT_const T
    have ef := evT_func T
    have d117 : evT T (.tmp 117) = .bool true := (by first | exact hd.1 | exact hd.2.1 | exact hd.2.2.1 | exact hd.2.2.2.1 | exact hd.2.2.2.2.1 | exact hd.2.2.2.2.2.1 | exact hd.2.2.2.2.2.2.1 | exact hd.2.2.2.2.2.2.2.1 | exact hd.2.2.2.2.2.2.2.2.1 | exact hd.2.2.2.2.2.2.2.2.2.1 | exact hd.2.2.2.2.2.2.2.2.2.2.1 | exact hd.2.2.2.2.2.2.2.2.2.2.2.1)
    clear hT hd hb
    refine gives_value (v := .bool true) ?_ rfl
    simp only [execOp]
    go_simp
  case s9 =>
    refine step_on 8 118 true rfl rfl fun T w1 hT hb hd => ⟨(by first | exact hd.1 | exact hd.2.1 | exact hd.2.2.1 | exact hd.2.2.2.1 | exact hd.2.2.2.2.1 | exact hd.2.2.2.2.2.1 | exact hd.2.2.2.2.2.2.1 | exact hd.2.2.2.2.2.2.2.1 | exact hd.2.2.2.2.2.2.2.2.1 | exact hd.2.2.2.2.2.2.2.2.2.1 | exact hd.2.2.2.2.2.2.2.2.2.2.1 | exact hd.2.2.2.2.2.2.2.2.2.2.2.1), ?_⟩
    have ec := evT_const T
    have ef := evT_func T
    have d15 : evT T (.tmp 15) = .pointer (some ⟨gc, 0, none⟩) := hT 15 (by kernel_rfl)
    obtain ⟨-, -, -, hA, -, -, -, -⟩ := HC.out w1 hb
    obtain ⟨f0, -⟩ := hA 0 _ rfl
    obtain ⟨f1, -⟩ := hA 1 _ rfl
    obtain ⟨f2, -⟩ := hA 2 _ rfl
    obtain ⟨f3, -⟩ := hA 3 _ rfl
    clear hA
    clear hT hd hb
    refine gives_value (v := .agg #[d1, d2, d3, d4]) ?_ rfl
    simp only [execOp]
    go_simp
  case s10 =>
    refine step_on 8 118 true rfl rfl fun T w1 hT hb hd => ⟨(by first | exact hd.1 | exact hd.2.1 | exact hd.2.2.1 | exact hd.2.2.2.1 | exact hd.2.2.2.2.1 | exact hd.2.2.2.2.2.1 | exact hd.2.2.2.2.2.2.1 | exact hd.2.2.2.2.2.2.2.1 | exact hd.2.2.2.2.2.2.2.2.1 | exact hd.2.2.2.2.2.2.2.2.2.1 | exact hd.2.2.2.2.2.2.2.2.2.2.1 | exact hd.2.2.2.2.2.2.2.2.2.2.2.1), ?_⟩
    have ec := evT_const T
    have ef := evT_func T
    have d119 : evT T (.tmp 119) = .agg #[d1, d2, d3, d4] := (by first | exact hd.1 | exact hd.2.1 | exact hd.2.2.1 | exact hd.2.2.2.1 | exact hd.2.2.2.2.1 | exact hd.2.2.2.2.2.1 | exact hd.2.2.2.2.2.2.1 | exact hd.2.2.2.2.2.2.2.1 | exact hd.2.2.2.2.2.2.2.2.1 | exact hd.2.2.2.2.2.2.2.2.2.1 | exact hd.2.2.2.2.2.2.2.2.2.2.1 | exact hd.2.2.2.2.2.2.2.2.2.2.2.1)
    refine gives_call (f := 12) (args := #[.agg #[d1, d2, d3, d4]]) ?_ ?_
    · clear hT hd hb
      simp only [execOp, resolve]
      go_simp
    · refine (chip_check _ [d1, d2, d3, d4] w1 HOK3.out (HC.out w1 hb).2.2.2.2.2.2.2).mono ?_
      rintro en w2 ⟨he, hb2⟩
      exact ⟨_, he, hb2, by rw [HE3.out]; rfl⟩
  case s11 =>
    refine step_on 8 118 true rfl rfl fun T w1 hT hb hd => ⟨(by first | exact hd.1 | exact hd.2.1 | exact hd.2.2.1 | exact hd.2.2.2.1 | exact hd.2.2.2.2.1 | exact hd.2.2.2.2.2.1 | exact hd.2.2.2.2.2.2.1 | exact hd.2.2.2.2.2.2.2.1 | exact hd.2.2.2.2.2.2.2.2.1 | exact hd.2.2.2.2.2.2.2.2.2.1 | exact hd.2.2.2.2.2.2.2.2.2.2.1 | exact hd.2.2.2.2.2.2.2.2.2.2.2.1), ?_⟩
    have ec := evT_const T
    have ef := evT_func T
    have d120 : evT T (.tmp 120) = .int .i64 5 := (by first | exact hd.1 | exact hd.2.1 | exact hd.2.2.1 | exact hd.2.2.2.1 | exact hd.2.2.2.2.1 | exact hd.2.2.2.2.2.1 | exact hd.2.2.2.2.2.2.1 | exact hd.2.2.2.2.2.2.2.1 | exact hd.2.2.2.2.2.2.2.2.1 | exact hd.2.2.2.2.2.2.2.2.2.1 | exact hd.2.2.2.2.2.2.2.2.2.2.1 | exact hd.2.2.2.2.2.2.2.2.2.2.2.1)
    clear hT hd hb
    refine gives_value (v := .bool true) ?_ rfl
    simp only [execOp]
    go_simp
  case s12 =>
    refine step_plain rfl fun T w1 hT hb hd => ?_
    have ec := evT_const T
    have ef := evT_func T
    have d118 : evT T (.tmp 118) = .bool true := (by first | exact hd.1 | exact hd.2.1 | exact hd.2.2.1 | exact hd.2.2.2.1 | exact hd.2.2.2.2.1 | exact hd.2.2.2.2.2.1 | exact hd.2.2.2.2.2.2.1 | exact hd.2.2.2.2.2.2.2.1 | exact hd.2.2.2.2.2.2.2.2.1 | exact hd.2.2.2.2.2.2.2.2.2.1 | exact hd.2.2.2.2.2.2.2.2.2.2.1 | exact hd.2.2.2.2.2.2.2.2.2.2.2.1)
    have d121 : evT T (.tmp 121) = .bool true := (by first | exact hd.1 | exact hd.2.1 | exact hd.2.2.1 | exact hd.2.2.2.1 | exact hd.2.2.2.2.1 | exact hd.2.2.2.2.2.1 | exact hd.2.2.2.2.2.2.1 | exact hd.2.2.2.2.2.2.2.1 | exact hd.2.2.2.2.2.2.2.2.1 | exact hd.2.2.2.2.2.2.2.2.2.1 | exact hd.2.2.2.2.2.2.2.2.2.2.1 | exact hd.2.2.2.2.2.2.2.2.2.2.2.1)
    clear hT hd hb
    refine gives_value (v := .bool true) ?_ rfl
    simp only [execOp]
    go_simp
  case s13 =>
    refine step_plain rfl fun T w1 hT hb hd => ?_
    have ec := evT_const T
    have ef := evT_func T
    have d122 : evT T (.tmp 122) = .bool true := (by first | exact hd.1 | exact hd.2.1 | exact hd.2.2.1 | exact hd.2.2.2.1 | exact hd.2.2.2.2.1 | exact hd.2.2.2.2.2.1 | exact hd.2.2.2.2.2.2.1 | exact hd.2.2.2.2.2.2.2.1 | exact hd.2.2.2.2.2.2.2.2.1 | exact hd.2.2.2.2.2.2.2.2.2.1 | exact hd.2.2.2.2.2.2.2.2.2.2.1 | exact hd.2.2.2.2.2.2.2.2.2.2.2.1)
    clear hT hd hb
    refine gives_value (v := .bool true) ?_ rfl
    simp only [execOp]
    go_simp
  case s14 =>
    refine step_on 13 123 true rfl rfl fun T w1 hT hb hd => ⟨(by first | exact hd.1 | exact hd.2.1 | exact hd.2.2.1 | exact hd.2.2.2.1 | exact hd.2.2.2.2.1 | exact hd.2.2.2.2.2.1 | exact hd.2.2.2.2.2.2.1 | exact hd.2.2.2.2.2.2.2.1 | exact hd.2.2.2.2.2.2.2.2.1 | exact hd.2.2.2.2.2.2.2.2.2.1 | exact hd.2.2.2.2.2.2.2.2.2.2.1 | exact hd.2.2.2.2.2.2.2.2.2.2.2.1), ?_⟩
    have ec := evT_const T
    have ef := evT_func T
    have d4 : evT T (.tmp 4) = .pointer (some ⟨gs, 0, none⟩) := hT 4 (by kernel_rfl)
    obtain ⟨hA, -, -, -, -, -, -, -⟩ := HC.out w1 hb
    obtain ⟨f0, -⟩ := hA 0 _ rfl
    obtain ⟨f1, -⟩ := hA 1 _ rfl
    obtain ⟨f2, -⟩ := hA 2 _ rfl
    obtain ⟨f3, -⟩ := hA 3 _ rfl
    clear hA
    clear hT hd hb
    refine gives_value (v := .agg #[a1, a2, a3, a4]) ?_ rfl
    simp only [execOp]
    go_simp
  case s15 =>
    refine step_on 13 123 true rfl rfl fun T w1 hT hb hd => ⟨(by first | exact hd.1 | exact hd.2.1 | exact hd.2.2.1 | exact hd.2.2.2.1 | exact hd.2.2.2.2.1 | exact hd.2.2.2.2.2.1 | exact hd.2.2.2.2.2.2.1 | exact hd.2.2.2.2.2.2.2.1 | exact hd.2.2.2.2.2.2.2.2.1 | exact hd.2.2.2.2.2.2.2.2.2.1 | exact hd.2.2.2.2.2.2.2.2.2.2.1 | exact hd.2.2.2.2.2.2.2.2.2.2.2.1), ?_⟩
    have ec := evT_const T
    have ef := evT_func T
    have d12 : evT T (.tmp 12) = .pointer (some ⟨gm, 0, none⟩) := hT 12 (by kernel_rfl)
    obtain ⟨-, -, hA, -, -, -, -, -⟩ := HC.out w1 hb
    obtain ⟨f0, -⟩ := hA 0 _ rfl
    obtain ⟨f1, -⟩ := hA 1 _ rfl
    obtain ⟨f2, -⟩ := hA 2 _ rfl
    obtain ⟨f3, -⟩ := hA 3 _ rfl
    clear hA
    clear hT hd hb
    refine gives_value (v := .agg #[c1, c2, c3, c4]) ?_ rfl
    simp only [execOp]
    go_simp
  case s16 =>
    refine step_on 13 123 true rfl rfl fun T w1 hT hb hd => ⟨(by first | exact hd.1 | exact hd.2.1 | exact hd.2.2.1 | exact hd.2.2.2.1 | exact hd.2.2.2.2.1 | exact hd.2.2.2.2.2.1 | exact hd.2.2.2.2.2.2.1 | exact hd.2.2.2.2.2.2.2.1 | exact hd.2.2.2.2.2.2.2.2.1 | exact hd.2.2.2.2.2.2.2.2.2.1 | exact hd.2.2.2.2.2.2.2.2.2.2.1 | exact hd.2.2.2.2.2.2.2.2.2.2.2.1), ?_⟩
    have ec := evT_const T
    have ef := evT_func T
    have d124 : evT T (.tmp 124) = .agg #[a1, a2, a3, a4] := (by first | exact hd.1 | exact hd.2.1 | exact hd.2.2.1 | exact hd.2.2.2.1 | exact hd.2.2.2.2.1 | exact hd.2.2.2.2.2.1 | exact hd.2.2.2.2.2.2.1 | exact hd.2.2.2.2.2.2.2.1 | exact hd.2.2.2.2.2.2.2.2.1 | exact hd.2.2.2.2.2.2.2.2.2.1 | exact hd.2.2.2.2.2.2.2.2.2.2.1 | exact hd.2.2.2.2.2.2.2.2.2.2.2.1)
    have d125 : evT T (.tmp 125) = .agg #[c1, c2, c3, c4] := (by first | exact hd.1 | exact hd.2.1 | exact hd.2.2.1 | exact hd.2.2.2.1 | exact hd.2.2.2.2.1 | exact hd.2.2.2.2.2.1 | exact hd.2.2.2.2.2.2.1 | exact hd.2.2.2.2.2.2.2.1 | exact hd.2.2.2.2.2.2.2.2.1 | exact hd.2.2.2.2.2.2.2.2.2.1 | exact hd.2.2.2.2.2.2.2.2.2.2.1 | exact hd.2.2.2.2.2.2.2.2.2.2.2.1)
    refine gives_call (f := 21) (args := #[.agg #[a1, a2, a3, a4], .agg #[c1, c2, c3, c4]]) ?_ ?_
    · clear hT hd hb
      simp only [execOp, resolve]
      go_simp
    · refine (chip_same s sm [a1, a2, a3, a4] [c1, c2, c3, c4] w1 HOK0.out HOK2.out (HC.out w1 hb).2.2.2.2.1 (HC.out w1 hb).2.2.2.2.2.2.1).mono ?_
      rintro en w2 ⟨he, hb2⟩
      exact ⟨_, he, hb2, by rw [HEQ.out]; rfl⟩
  case s17 =>
    refine step_on 13 123 true rfl rfl fun T w1 hT hb hd => ⟨(by first | exact hd.1 | exact hd.2.1 | exact hd.2.2.1 | exact hd.2.2.2.1 | exact hd.2.2.2.2.1 | exact hd.2.2.2.2.2.1 | exact hd.2.2.2.2.2.2.1 | exact hd.2.2.2.2.2.2.2.1 | exact hd.2.2.2.2.2.2.2.2.1 | exact hd.2.2.2.2.2.2.2.2.2.1 | exact hd.2.2.2.2.2.2.2.2.2.2.1 | exact hd.2.2.2.2.2.2.2.2.2.2.2.1), ?_⟩
    have ec := evT_const T
    have ef := evT_func T
    have d126 : evT T (.tmp 126) = .bool false := (by first | exact hd.1 | exact hd.2.1 | exact hd.2.2.1 | exact hd.2.2.2.1 | exact hd.2.2.2.2.1 | exact hd.2.2.2.2.2.1 | exact hd.2.2.2.2.2.2.1 | exact hd.2.2.2.2.2.2.2.1 | exact hd.2.2.2.2.2.2.2.2.1 | exact hd.2.2.2.2.2.2.2.2.2.1 | exact hd.2.2.2.2.2.2.2.2.2.2.1 | exact hd.2.2.2.2.2.2.2.2.2.2.2.1)
    clear hT hd hb
    refine gives_value (v := .bool true) ?_ rfl
    simp only [execOp]
    go_simp
  case s18 =>
    refine step_plain rfl fun T w1 hT hb hd => ?_
    have ec := evT_const T
    have ef := evT_func T
    have d123 : evT T (.tmp 123) = .bool true := (by first | exact hd.1 | exact hd.2.1 | exact hd.2.2.1 | exact hd.2.2.2.1 | exact hd.2.2.2.2.1 | exact hd.2.2.2.2.2.1 | exact hd.2.2.2.2.2.2.1 | exact hd.2.2.2.2.2.2.2.1 | exact hd.2.2.2.2.2.2.2.2.1 | exact hd.2.2.2.2.2.2.2.2.2.1 | exact hd.2.2.2.2.2.2.2.2.2.2.1 | exact hd.2.2.2.2.2.2.2.2.2.2.2.1)
    have d127 : evT T (.tmp 127) = .bool true := (by first | exact hd.1 | exact hd.2.1 | exact hd.2.2.1 | exact hd.2.2.2.1 | exact hd.2.2.2.2.1 | exact hd.2.2.2.2.2.1 | exact hd.2.2.2.2.2.2.1 | exact hd.2.2.2.2.2.2.2.1 | exact hd.2.2.2.2.2.2.2.2.1 | exact hd.2.2.2.2.2.2.2.2.2.1 | exact hd.2.2.2.2.2.2.2.2.2.2.1 | exact hd.2.2.2.2.2.2.2.2.2.2.2.1)
    clear hT hd hb
    refine gives_value (v := .bool true) ?_ rfl
    simp only [execOp]
    go_simp
  case s19 =>
    refine step_plain rfl fun T w1 hT hb hd => ?_
    have ec := evT_const T
    have ef := evT_func T
    have d128 : evT T (.tmp 128) = .bool true := (by first | exact hd.1 | exact hd.2.1 | exact hd.2.2.1 | exact hd.2.2.2.1 | exact hd.2.2.2.2.1 | exact hd.2.2.2.2.2.1 | exact hd.2.2.2.2.2.2.1 | exact hd.2.2.2.2.2.2.2.1 | exact hd.2.2.2.2.2.2.2.2.1 | exact hd.2.2.2.2.2.2.2.2.2.1 | exact hd.2.2.2.2.2.2.2.2.2.2.1 | exact hd.2.2.2.2.2.2.2.2.2.2.2.1)
    clear hT hd hb
    refine gives_value (v := .bool true) ?_ rfl
    simp only [execOp]
    go_simp
  case s20 =>
    refine step_on 19 129 true rfl rfl fun T w1 hT hb hd => ⟨(by first | exact hd.1 | exact hd.2.1 | exact hd.2.2.1 | exact hd.2.2.2.1 | exact hd.2.2.2.2.1 | exact hd.2.2.2.2.2.1 | exact hd.2.2.2.2.2.2.1 | exact hd.2.2.2.2.2.2.2.1 | exact hd.2.2.2.2.2.2.2.2.1 | exact hd.2.2.2.2.2.2.2.2.2.1 | exact hd.2.2.2.2.2.2.2.2.2.2.1 | exact hd.2.2.2.2.2.2.2.2.2.2.2.1), ?_⟩
    have ec := evT_const T
    have ef := evT_func T
    have d12 : evT T (.tmp 12) = .pointer (some ⟨gm, 0, none⟩) := hT 12 (by kernel_rfl)
    obtain ⟨-, -, hA, -, -, -, -, -⟩ := HC.out w1 hb
    obtain ⟨f0, -⟩ := hA 0 _ rfl
    obtain ⟨f1, -⟩ := hA 1 _ rfl
    obtain ⟨f2, -⟩ := hA 2 _ rfl
    obtain ⟨f3, -⟩ := hA 3 _ rfl
    clear hA
    clear hT hd hb
    refine gives_value (v := .agg #[c1, c2, c3, c4]) ?_ rfl
    simp only [execOp]
    go_simp
  case s21 =>
    refine step_on 19 129 true rfl rfl fun T w1 hT hb hd => ⟨(by first | exact hd.1 | exact hd.2.1 | exact hd.2.2.1 | exact hd.2.2.2.1 | exact hd.2.2.2.2.1 | exact hd.2.2.2.2.2.1 | exact hd.2.2.2.2.2.2.1 | exact hd.2.2.2.2.2.2.2.1 | exact hd.2.2.2.2.2.2.2.2.1 | exact hd.2.2.2.2.2.2.2.2.2.1 | exact hd.2.2.2.2.2.2.2.2.2.2.1 | exact hd.2.2.2.2.2.2.2.2.2.2.2.1), ?_⟩
    have ec := evT_const T
    have ef := evT_func T
    have d130 : evT T (.tmp 130) = .agg #[c1, c2, c3, c4] := (by first | exact hd.1 | exact hd.2.1 | exact hd.2.2.1 | exact hd.2.2.2.1 | exact hd.2.2.2.2.1 | exact hd.2.2.2.2.2.1 | exact hd.2.2.2.2.2.2.1 | exact hd.2.2.2.2.2.2.2.1 | exact hd.2.2.2.2.2.2.2.2.1 | exact hd.2.2.2.2.2.2.2.2.2.1 | exact hd.2.2.2.2.2.2.2.2.2.2.1 | exact hd.2.2.2.2.2.2.2.2.2.2.2.1)
    refine gives_call (f := 23) (args := #[.agg #[c1, c2, c3, c4]]) ?_ ?_
    · clear hT hd hb
      simp only [execOp, resolve]
      go_simp
    · refine (copy_any sm [c1, c2, c3, c4] w1 HOK2.out (HC.out w1 hb).2.2.2.2.2.2.1).mono ?_
      rintro en w2 ⟨x1, x2, x3, x4, he, ho, hb2⟩
      exact ⟨_, he, hb2, ⟨_, rfl, ho.chip⟩⟩
  case s22 =>
    refine step_on 19 129 true rfl rfl fun T w1 hT hb hd => ⟨(by first | exact hd.1 | exact hd.2.1 | exact hd.2.2.1 | exact hd.2.2.2.1 | exact hd.2.2.2.2.1 | exact hd.2.2.2.2.2.1 | exact hd.2.2.2.2.2.2.1 | exact hd.2.2.2.2.2.2.2.1 | exact hd.2.2.2.2.2.2.2.2.1 | exact hd.2.2.2.2.2.2.2.2.2.1 | exact hd.2.2.2.2.2.2.2.2.2.2.1 | exact hd.2.2.2.2.2.2.2.2.2.2.2.1), ?_⟩
    have ec := evT_const T
    have ef := evT_func T
    have d12 : evT T (.tmp 12) = .pointer (some ⟨gm, 0, none⟩) := hT 12 (by kernel_rfl)
    obtain ⟨-, -, hA, -, -, -, -, -⟩ := HC.out w1 hb
    obtain ⟨f0, -⟩ := hA 0 _ rfl
    obtain ⟨f1, -⟩ := hA 1 _ rfl
    obtain ⟨f2, -⟩ := hA 2 _ rfl
    obtain ⟨f3, -⟩ := hA 3 _ rfl
    clear hA
    clear hT hd hb
    refine gives_value (v := .agg #[c1, c2, c3, c4]) ?_ rfl
    simp only [execOp]
    go_simp
  case s23 =>
    refine step_on 19 129 true rfl rfl fun T w1 hT hb hd => ⟨(by first | exact hd.1 | exact hd.2.1 | exact hd.2.2.1 | exact hd.2.2.2.1 | exact hd.2.2.2.2.1 | exact hd.2.2.2.2.2.1 | exact hd.2.2.2.2.2.2.1 | exact hd.2.2.2.2.2.2.2.1 | exact hd.2.2.2.2.2.2.2.2.1 | exact hd.2.2.2.2.2.2.2.2.2.1 | exact hd.2.2.2.2.2.2.2.2.2.2.1 | exact hd.2.2.2.2.2.2.2.2.2.2.2.1), ?_⟩
    have ec := evT_const T
    have ef := evT_func T
    have d132 : evT T (.tmp 132) = .agg #[c1, c2, c3, c4] := (by first | exact hd.1 | exact hd.2.1 | exact hd.2.2.1 | exact hd.2.2.2.1 | exact hd.2.2.2.2.1 | exact hd.2.2.2.2.2.1 | exact hd.2.2.2.2.2.2.1 | exact hd.2.2.2.2.2.2.2.1 | exact hd.2.2.2.2.2.2.2.2.1 | exact hd.2.2.2.2.2.2.2.2.2.1 | exact hd.2.2.2.2.2.2.2.2.2.2.1 | exact hd.2.2.2.2.2.2.2.2.2.2.2.1)
    obtain ⟨vs, d131, hvs⟩ : IsChp sm (evT T (.tmp 131)) w1 := (by first | exact hd.1 | exact hd.2.1 | exact hd.2.2.1 | exact hd.2.2.2.1 | exact hd.2.2.2.2.1 | exact hd.2.2.2.2.2.1 | exact hd.2.2.2.2.2.2.1 | exact hd.2.2.2.2.2.2.2.1 | exact hd.2.2.2.2.2.2.2.2.1 | exact hd.2.2.2.2.2.2.2.2.2.1 | exact hd.2.2.2.2.2.2.2.2.2.2.1 | exact hd.2.2.2.2.2.2.2.2.2.2.2.1)
    refine gives_call (f := 21) (args := #[.agg vs.toArray, .agg #[c1, c2, c3, c4]]) ?_ ?_
    · clear hT hd hb hvs
      simp only [execOp, resolve]
      go_simp
    · refine (chip_same sm sm vs [c1, c2, c3, c4] w1 HOK2.out HOK2.out hvs (HC.out w1 hb).2.2.2.2.2.2.1).mono ?_
      rintro en w2 ⟨he, hb2⟩
      exact ⟨_, he, hb2, by rw [eqP_self]; rfl⟩
  case s24 =>
    refine step_plain rfl fun T w1 hT hb hd => ?_
    have ec := evT_const T
    have ef := evT_func T
    have d129 : evT T (.tmp 129) = .bool true := (by first | exact hd.1 | exact hd.2.1 | exact hd.2.2.1 | exact hd.2.2.2.1 | exact hd.2.2.2.2.1 | exact hd.2.2.2.2.2.1 | exact hd.2.2.2.2.2.2.1 | exact hd.2.2.2.2.2.2.2.1 | exact hd.2.2.2.2.2.2.2.2.1 | exact hd.2.2.2.2.2.2.2.2.2.1 | exact hd.2.2.2.2.2.2.2.2.2.2.1 | exact hd.2.2.2.2.2.2.2.2.2.2.2.1)
    have d133 : evT T (.tmp 133) = .bool true := (by first | exact hd.1 | exact hd.2.1 | exact hd.2.2.1 | exact hd.2.2.2.1 | exact hd.2.2.2.2.1 | exact hd.2.2.2.2.2.1 | exact hd.2.2.2.2.2.2.1 | exact hd.2.2.2.2.2.2.2.1 | exact hd.2.2.2.2.2.2.2.2.1 | exact hd.2.2.2.2.2.2.2.2.2.1 | exact hd.2.2.2.2.2.2.2.2.2.2.1 | exact hd.2.2.2.2.2.2.2.2.2.2.2.1)
    clear hT hd hb
    refine gives_value (v := .bool true) ?_ rfl
    simp only [execOp]
    go_simp
  case s25 =>
    refine step_plain rfl fun T w1 hT hb hd => ?_
    have ec := evT_const T
    have ef := evT_func T
    have d134 : evT T (.tmp 134) = .bool true := (by first | exact hd.1 | exact hd.2.1 | exact hd.2.2.1 | exact hd.2.2.2.1 | exact hd.2.2.2.2.1 | exact hd.2.2.2.2.2.1 | exact hd.2.2.2.2.2.2.1 | exact hd.2.2.2.2.2.2.2.1 | exact hd.2.2.2.2.2.2.2.2.1 | exact hd.2.2.2.2.2.2.2.2.2.1 | exact hd.2.2.2.2.2.2.2.2.2.2.1 | exact hd.2.2.2.2.2.2.2.2.2.2.2.1)
    clear hT hd hb
    refine gives_value (v := .bool true) ?_ rfl
    simp only [execOp]
    go_simp
  case fin =>
    intro T w1 hT hb hd
    have e : T 2 = .bool true := hd.2.2.2.2.2.2.2.2.2.2.2.2.2.2.2.2.2.2.2.2.2.2.2.2.2.1
    rw [lit135, e]
    clear hT hd e
    go_wp2
    go_ret
    exact ⟨rfl, HB.out.trans (hb.mono HB.out.size)⟩

end Go.Proofs.Ytkhfcbcanbplgaa
