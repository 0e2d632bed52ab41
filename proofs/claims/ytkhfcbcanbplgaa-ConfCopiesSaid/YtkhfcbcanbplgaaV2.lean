/- The walk of catnaplaw4.ConfCopies: what it tells at the end. -/
import Derived.Test.YtkhfcbcanbplgaaL2
import Derived.Test.YtkhfcbcanbplgaaV3
import Derived.Test.YtkhfcbcanbplgaaW16
import Derived.Test.YtkhfcbcanbplgaaN4
import Derived.StillTailTactics
import Derived.RegionTactic
import Derived.ChangeAlike
import Derived.Test.YtkhfcbcanbplgaaW17
namespace Go.Proofs.Ytkhfcbcanbplgaa
section
set_option linter.unusedSimpArgs false
set_option linter.unusedVariables false
open Go.RowKit Go.Maps

set_option maxRecDepth 100000 in
theorem lit188 (T : Nat → Value) : listT T 188 = List.toArray (T 0 :: T 1 :: T 2 :: T 3 :: T 4 :: T 5 :: T 6 :: T 7 :: T 8 :: T 9 :: T 10 :: T 11 :: T 12 :: T 13 :: T 14 :: T 15 :: T 16 :: T 17 :: T 18 :: T 19 :: T 20 :: T 21 :: T 22 :: T 23 :: T 24 :: T 25 :: T 26 :: T 27 :: T 28 :: T 29 :: T 30 :: T 31 :: T 32 :: T 33 :: T 34 :: T 35 :: T 36 :: T 37 :: T 38 :: T 39 :: T 40 :: T 41 :: T 42 :: T 43 :: T 44 :: T 45 :: T 46 :: T 47 :: T 48 :: T 49 :: T 50 :: T 51 :: T 52 :: T 53 :: T 54 :: T 55 :: T 56 :: T 57 :: T 58 :: T 59 :: T 60 :: T 61 :: T 62 :: T 63 :: T 64 :: T 65 :: T 66 :: T 67 :: T 68 :: T 69 :: T 70 :: T 71 :: T 72 :: T 73 :: T 74 :: T 75 :: T 76 :: T 77 :: T 78 :: T 79 :: T 80 :: T 81 :: T 82 :: T 83 :: T 84 :: T 85 :: T 86 :: T 87 :: T 88 :: T 89 :: T 90 :: T 91 :: T 92 :: T 93 :: T 94 :: T 95 :: T 96 :: T 97 :: T 98 :: T 99 :: T 100 :: T 101 :: T 102 :: T 103 :: T 104 :: T 105 :: T 106 :: T 107 :: T 108 :: T 109 :: T 110 :: T 111 :: T 112 :: T 113 :: T 114 :: T 115 :: T 116 :: T 117 :: T 118 :: T 119 :: T 120 :: T 121 :: T 122 :: T 123 :: T 124 :: T 125 :: T 126 :: T 127 :: T 128 :: T 129 :: T 130 :: T 131 :: T 132 :: T 133 :: T 134 :: T 135 :: T 136 :: T 137 :: T 138 :: T 139 :: T 140 :: T 141 :: T 142 :: T 143 :: T 144 :: T 145 :: T 146 :: T 147 :: T 148 :: T 149 :: T 150 :: T 151 :: T 152 :: T 153 :: T 154 :: T 155 :: T 156 :: T 157 :: T 158 :: T 159 :: T 160 :: T 161 :: T 162 :: T 163 :: T 164 :: T 165 :: T 166 :: T 167 :: T 168 :: T 169 :: T 170 :: T 171 :: T 172 :: T 173 :: T 174 :: T 175 :: T 176 :: T 177 :: T 178 :: T 179 :: T 180 :: T 181 :: T 182 :: T 183 :: T 184 :: T 185 :: T 186 :: T 187 :: []) := rfl
def ynC : Code → Code | .cond _ a _ => a | c => c
def noC : Code → Code | .cond _ _ b => b | c => c
noncomputable def cpBody : Code := Try.f6.body.getD .skip
noncomputable def cpChip : Code := tlC (tlC (tlC cpBody))
noncomputable def cpLast : Code := tlC (tlC (tlC (tlC cpChip)))
noncomputable def cpPick : Code := tlC cpLast
noncomputable def cpEnd : Code := tlC cpPick
noncomputable def cpSw : Code := blC (tlC (hdC cpPick))
noncomputable def cpC1 : Code := ynC (tlC (noC (tlC cpSw)))
noncomputable def cpLoop1 : Code := blC (tlC (hdC cpC1))
noncomputable def cpLoop2 : Code := blC (tlC (blC (hdC (tlC (lpC cpLoop1)))))
noncomputable def cpC6 : Code := ynC (tlC (noC (tlC (noC (tlC (noC (tlC (noC (tlC (noC (tlC (noC (tlC cpSw))))))))))))) 
noncomputable def cpLoop6 : Code := blC (tlC (hdC cpC6))

/-- a chip in a box, below block B -/
structure Hold (B : Nat) (W : World) (g : Nat) (s : Chip) (v1 v2 v3 v4 : Value) : Prop where
  lt : g < B
  le : B ≤ W.heap.size
  bx : BoxAt W g [v1, v2, v3, v4]
  cv : ChipV W B s [v1, v2, v3, v4]
theorem Hold.below {B : Nat} {W W' : World} {g : Nat} {s : Chip} {v1 v2 v3 v4 : Value} (h : Hold B W g s v1 v2 v3 v4) (hb : Below B W W') : Hold B W' g s v1 v2 v3 v4 :=
  ⟨h.lt, Nat.le_trans h.le hb.size, fun j v hj => ⟨(hb.cell (p := ⟨g, j, none⟩) h.lt).trans (h.bx j v hj).1, (World.frozen?_of_block (hb.block g h.lt)).trans (h.bx j v hj).2⟩, Steady.below h.cv hb (Nat.le_refl _)⟩
theorem Hold.chip {B : Nat} {W : World} {g : Nat} {s : Chip} {v1 v2 v3 v4 : Value} (h : Hold B W g s v1 v2 v3 v4) : ChipV W W.heap.size s [v1, v2, v3, v4] := Steady.more h.cv h.le
theorem Hold.of {W : World} {g : Nat} {s : Chip} {v1 v2 v3 v4 : Value} (hb : BoxAt W g [v1, v2, v3, v4]) (hc : ChipV W W.heap.size s [v1, v2, v3, v4]) : Hold W.heap.size W g s v1 v2 v3 v4 := ⟨hb.lt, Nat.le_refl _, hb, hc⟩

set_option maxRecDepth 1000000 in
set_option maxHeartbeats 8000000 in
theorem copies_end (w W : World) (gs gc gw Bs Bc Bw : Nat) (s sc : Chip) (a1 a2 a3 a4 b1 b2 b3 b4 c1 c2 c3 c4 : Value) (ok0 : ChipOk s) (ok1 : ChipOk sc) (hE0 : chipE s = 0) (heq : Apart s sc)
    (hA : Hold Bs W gs s a1 a2 a3 a4) (hB : Hold Bc W gc sc b1 b2 b3 b4) (hCc : Hold Bw W gw s c1 c2 c3 c4) (hbl : Below w.heap.size w W)
    (a : Act) (ha : FrN 188 a) (h6 : slT a 6 = .pointer (some ⟨gs, 0, none⟩)) (h7 : slT a 7 = .pointer (some ⟨gc, 0, none⟩)) (h8 : slT a 8 = .pointer (some ⟨gw, 0, none⟩)) : Code.wp Try.prog cpEnd (bodyPost Try.prog Try.f6 (TellsB true w)) a W := by
  have HOK0 := Lib.hid ok0
  have HOK1 := Lib.hid ok1
  have HE0 := Lib.hid hE0
  have HEQ : RowKit.Hid (Apart s sc) := heq
  have HA := Lib.hid hA
  have HB := Lib.hid hB
  have HC := Lib.hid hCc
  have HL := Lib.hid hbl
  clear ok0 ok1 hE0 hA hB hCc hbl heq
  obtain ⟨F, rfl⟩ := ha.open_
  rw [slT_listT (by omega)] at h6 h7 h8
  rw [lit188, h6, h7, h8]
  clear ha h6 h7 h8
  conv => arg 2; whnf
  obtain ⟨x0, -⟩ := HA.out.bx 0 _ rfl
  obtain ⟨x1, -⟩ := HA.out.bx 1 _ rfl
  obtain ⟨x2, -⟩ := HA.out.bx 2 _ rfl
  obtain ⟨x3, -⟩ := HA.out.bx 3 _ rfl
  obtain ⟨y0, -⟩ := HB.out.bx 0 _ rfl
  obtain ⟨y1, -⟩ := HB.out.bx 1 _ rfl
  obtain ⟨y2, -⟩ := HB.out.bx 2 _ rfl
  obtain ⟨y3, -⟩ := HB.out.bx 3 _ rfl
  go_wp2_with fail
  refine (chip_same s sc _ _ _ HOK0.out HOK1.out HA.out.chip HB.out.chip).mono ?_
  rintro e w1 ⟨rfl, hb⟩
  rw [HEQ.out.1]
  have HA1 := Lib.hid (HA.out.below (hb.mono HA.out.le))
  have HB1 := Lib.hid (HB.out.below (hb.mono HB.out.le))
  have HC1 := Lib.hid (HC.out.below (hb.mono HC.out.le))
  have HL1 := Lib.hid (HL.out.trans (hb.mono HL.out.size))
  clear hb HA HB HC HL
  clear x0 x1 x2 x3 y0 y1 y2 y3
  obtain ⟨x0, -⟩ := HA1.out.bx 0 _ rfl
  obtain ⟨x1, -⟩ := HA1.out.bx 1 _ rfl
  obtain ⟨x2, -⟩ := HA1.out.bx 2 _ rfl
  obtain ⟨x3, -⟩ := HA1.out.bx 3 _ rfl
  obtain ⟨y0, -⟩ := HB1.out.bx 0 _ rfl
  obtain ⟨y1, -⟩ := HB1.out.bx 1 _ rfl
  obtain ⟨y2, -⟩ := HB1.out.bx 2 _ rfl
  obtain ⟨y3, -⟩ := HB1.out.bx 3 _ rfl
  go_wp2_with fail
  refine (chip_same sc s _ _ _ HOK1.out HOK0.out HB1.out.chip HA1.out.chip).mono ?_
  rintro e w2 ⟨rfl, hb⟩
  rw [HEQ.out.2]
  have HA2 := Lib.hid (HA1.out.below (hb.mono HA1.out.le))
  have HB2 := Lib.hid (HB1.out.below (hb.mono HB1.out.le))
  have HC2 := Lib.hid (HC1.out.below (hb.mono HC1.out.le))
  have HL2 := Lib.hid (HL1.out.trans (hb.mono HL1.out.size))
  clear hb HA1 HB1 HC1 HL1
  clear x0 x1 x2 x3 y0 y1 y2 y3
  obtain ⟨x0, -⟩ := HA2.out.bx 0 _ rfl
  obtain ⟨x1, -⟩ := HA2.out.bx 1 _ rfl
  obtain ⟨x2, -⟩ := HA2.out.bx 2 _ rfl
  obtain ⟨x3, -⟩ := HA2.out.bx 3 _ rfl
  obtain ⟨z0, -⟩ := HC2.out.bx 0 _ rfl
  obtain ⟨z1, -⟩ := HC2.out.bx 1 _ rfl
  obtain ⟨z2, -⟩ := HC2.out.bx 2 _ rfl
  obtain ⟨z3, -⟩ := HC2.out.bx 3 _ rfl
  go_wp2_with fail
  refine (chip_same s s _ _ _ HOK0.out HOK0.out HA2.out.chip HC2.out.chip).mono ?_
  rintro e w3 ⟨rfl, hb⟩
  rw [eqP_self]
  have HA3 := Lib.hid (HA2.out.below (hb.mono HA2.out.le))
  have HB3 := Lib.hid (HB2.out.below (hb.mono HB2.out.le))
  have HC3 := Lib.hid (HC2.out.below (hb.mono HC2.out.le))
  have HL3 := Lib.hid (HL2.out.trans (hb.mono HL2.out.size))
  clear hb HA2 HB2 HC2 HL2
  clear x0 x1 x2 x3 z0 z1 z2 z3
  obtain ⟨x0, -⟩ := HA3.out.bx 0 _ rfl
  obtain ⟨x1, -⟩ := HA3.out.bx 1 _ rfl
  obtain ⟨x2, -⟩ := HA3.out.bx 2 _ rfl
  obtain ⟨x3, -⟩ := HA3.out.bx 3 _ rfl
  go_wp2_with fail
  refine (chip_check s _ _ HOK0.out HA3.out.chip).mono ?_
  rintro e w4 ⟨rfl, hb⟩
  rw [HE0.out]
  have HA4 := Lib.hid (HA3.out.below (hb.mono HA3.out.le))
  have HB4 := Lib.hid (HB3.out.below (hb.mono HB3.out.le))
  have HC4 := Lib.hid (HC3.out.below (hb.mono HC3.out.le))
  have HL4 := Lib.hid (HL3.out.trans (hb.mono HL3.out.size))
  clear hb HA3 HB3 HC3 HL3
  clear x0 x1 x2 x3
  go_wp2
  go_ret
  exact ⟨rfl, HL4.out⟩
end

section
set_option linter.unusedSimpArgs false
set_option linter.unusedVariables false
open Go.RowKit Go.Maps

/-- a chip in a box that no change in blocks ahead of n reaches -/
def KeptAt (n : Nat) (W : World) (g : Nat) (s : Chip) (v1 v2 v3 v4 : Value) : Prop :=
  ∀ (Wz : World) (hot : List Nat), (∀ b, b ∈ hot → b < n) → Moved hot W Wz → BoxAt Wz g [v1, v2, v3, v4] ∧ ChipV Wz Wz.heap.size s [v1, v2, v3, v4]
theorem KeptAt.move {n : Nat} {W W' : World} {g : Nat} {s : Chip} {v1 v2 v3 v4 : Value} {hot : List Nat} (h : KeptAt n W g s v1 v2 v3 v4) (hh : ∀ b, b ∈ hot → b < n) (hm : Moved hot W W') : KeptAt n W' g s v1 v2 v3 v4 :=
  fun Wz hot' hh' hm' => h Wz (hot ++ hot') (fun b hb => (List.mem_append.1 hb).elim (hh b) (hh' b)) ((hm.mono (fun k hk => List.mem_append_left _ hk)).trans (hm'.mono (fun k hk => List.mem_append_right _ hk)))
theorem KeptAt.hold {n : Nat} {W : World} {g : Nat} {s : Chip} {v1 v2 v3 v4 : Value} (h : KeptAt n W g s v1 v2 v3 v4) : Hold W.heap.size W g s v1 v2 v3 v4 := by
  obtain ⟨h1, h2⟩ := h W [] (fun b hb => absurd hb (by simp)) (Moved.refl _ _)
  exact .of h1 h2
theorem KeptAt.new {w0 w' : World} {L : List Nat} {s : Chip} {v1 v2 v3 v4 : Value} (hL : L = List.range w0.heap.size) (h : OwnL L w' w0.heap.size s v1 v2 v3 v4) (hz : w0.heap.size ≤ w'.heap.size) : KeptAt w0.heap.size (w'.alloc (.cells #[v1, v2, v3, v4] 27)) w'.heap.size s v1 v2 v3 v4 := by
  subst hL
  intro Wz hot hh hm
  refine ⟨(BoxAt.new w' [v1, v2, v3, v4] 27).move hm (fun hb => by have := hh _ hb; omega), ?_⟩
  have hm2 : Moved hot w' Wz := (Moved.alloc w' _).trans hm
  have far : ∀ {α : Type} {C : ReadsC α} {V : Reads α} [sc : SteadyC C V] {sz : Nat} {e : TypeId} {L : List Nat} {v : Value} {xs : List α}, RowC C sz e L w' w0.heap.size v xs → ∀ g, v.ownBlock = some g → Wz.heap[g]? = w'.heap[g]? := fun hr g hg => by
    obtain ⟨_, _, _, _, hl⟩ := hr.shape
    exact hm2.block g (hl g hg).2 (fun hb => by have := hh g hb; have := (hl g hg).1; omega)
  have sub : ∀ k, k ∈ hot → k ∈ hot4 v1 v2 v3 v4 ++ List.range w0.heap.size := fun k hk => List.mem_append_right _ (List.mem_range.2 (hh k hk))
  obtain ⟨A1, c1, e1, l1, h1⟩ := (h.clks.move (hm2.mono sub) (far h.clks)).strs
  obtain ⟨A4, c4, e4, l4, h4⟩ := (h.devs.move (hm2.mono sub) (far h.devs)).strs
  obtain ⟨A2, c2, e2, l2, h2⟩ := (h.own.doms.free (hot' := hot) (far h.own.doms)).strs
  obtain ⟨A3, c3, e3, l3, h3⟩ := (h.own.rsts.free (hot' := hot) (far h.own.rsts)).strs
  subst e1 e2 e3 e4
  exact ⟨A1, c1, A2, c2, A3, c3, A4, c4, rfl, l1, l2, l3, l4, h1, h2, h3, h4⟩

/-- what stands while the copy is changed -/
structure CpS (w W : World) (gs gw Bs n B : Nat) (p : Sh) (s sc : Chip) (a1 a2 a3 a4 w1 w2 w3 w4 : Value) : Prop where
  hA : Hold Bs W gs s a1 a2 a3 a4
  fl : ∃ t u, Flat p W B sc t u ∧ u (2 * p.n4) ≤ n
  bx : BoxAt W p.g0 [p.v1, p.v2, p.v3, p.v4]
  hK : KeptAt n W gw s w1 w2 w3 w4
  hs : ∀ b, b ∈ p.hs → B ≤ b ∧ b < n
  hBs : Bs ≤ B
  hBw : w.heap.size ≤ B
  hbl : Below w.heap.size w W
  hn : n ≤ W.heap.size
namespace CpS
variable {w W W' : World} {gs gw Bs n B : Nat} {p : Sh} {s sc sc' : Chip} {a1 a2 a3 a4 w1 w2 w3 w4 : Value} {t u : Nat → Nat}
theorem size (h : CpS w W gs gw Bs n B p s sc a1 a2 a3 a4 w1 w2 w3 w4) : B ≤ W.heap.size := by
  have := (h.hs p.g0 (by simp)).1
  have := h.bx.lt
  omega
/-- a store into an inner row, or an outer one -/
theorem put (h : CpS w W gs gw Bs n B p s sc a1 a2 a3 a4 w1 w2 w3 w4) {b i : Nat} {y : Value} (hb : B ≤ b ∧ b < n) (h0 : b ≠ p.g0) (hf : Flat p (W.setCell ⟨b, i, none⟩ y) B sc' t u) (hu : u (2 * p.n4) ≤ n) : CpS w (W.setCell ⟨b, i, none⟩ y) gs gw Bs n B p s sc' a1 a2 a3 a4 w1 w2 w3 w4 := by
  have hm : Moved [b] W (W.setCell ⟨b, i, none⟩ y) := Moved.setCell W (by simp) y
  have hB := h.size
  have h1 := h.hBs
  have h2 := h.hBw
  exact { hA := h.hA.below (hm.below (by simp; omega) h.hA.le)
          fl := ⟨t, u, hf, hu⟩
          bx := h.bx.move hm (by simpa using h0.symm)
          hK := h.hK.move (by simp; omega) hm
          hs := h.hs, hBs := h.hBs, hBw := h.hBw
          hbl := h.hbl.trans (hm.below (by simp; omega) h.hbl.size)
          hn := Nat.le_trans h.hn hm.size }
theorem putClk (h : CpS w W gs gw Bs n B p s sc a1 a2 a3 a4 w1 w2 w3 w4) {k j : Nat} {x x' : Clk} {y : Value} (hx : sc.clks[k]? = some x) (hj : j < 6) (hj1 : j ≠ 1) (hf : x'.frm = x.frm)
    (hs : ∀ A c, ([.int .u8 x.kind, .slice A x.frm.length c, .int .u64 x.rate, .int .i64 x.mul, .int .i64 x.div, .int .i64 x.lock] : List Value).set j y = [.int .u8 x'.kind, .slice A x'.frm.length c, .int .u64 x'.rate, .int .i64 x'.mul, .int .i64 x'.div, .int .i64 x'.lock]) :
    CpS w (W.setCell ⟨p.g1, k * 6 + j, none⟩ y) gs gw Bs n B p s { sc with clks := sc.clks.set k x' } a1 a2 a3 a4 w1 w2 w3 w4 := by
  obtain ⟨t, u, hfl, hu⟩ := h.fl
  exact h.put (h.hs p.g1 (by simp)) hfl.n01.symm (hfl.setClk hx hj hj1 hf hs) hu
theorem putDev (h : CpS w W gs gw Bs n B p s sc a1 a2 a3 a4 w1 w2 w3 w4) {k j : Nat} {x x' : Dev} {y : Value} (hx : sc.devs[k]? = some x) (hj : j < 6) (hj4 : j < 4) (hf : x'.regs = x.regs) (hf' : x'.needs = x.needs)
    (hs : ∀ A c A' c', ([.int .i64 x.clock, .int .i64 x.domain, .int .i64 x.rst, .int .u32 x.clamp, .slice A x.regs.length c, .slice A' x.needs.length c'] : List Value).set j y = [.int .i64 x'.clock, .int .i64 x'.domain, .int .i64 x'.rst, .int .u32 x'.clamp, .slice A x'.regs.length c, .slice A' x'.needs.length c']) :
    CpS w (W.setCell ⟨p.g4, k * 6 + j, none⟩ y) gs gw Bs n B p s { sc with devs := sc.devs.set k x' } a1 a2 a3 a4 w1 w2 w3 w4 := by
  obtain ⟨t, u, hfl, hu⟩ := h.fl
  exact h.put (h.hs p.g4 (by simp)) hfl.n04.symm (hfl.setDev hx hj hj4 hf hf' hs) hu
theorem putDom (h : CpS w W gs gw Bs n B p s sc a1 a2 a3 a4 w1 w2 w3 w4) {k j : Nat} {x x' : Dom} {y : Value} (hx : sc.doms[k]? = some x) (hj : j < 3)
    (hs : ([.int .i64 x.above, .int .i64 x.delay, .bool x.ret] : List Value).set j y = [.int .i64 x'.above, .int .i64 x'.delay, .bool x'.ret]) :
    CpS w (W.setCell ⟨p.g2, k * 3 + j, none⟩ y) gs gw Bs n B p s { sc with doms := sc.doms.set k x' } a1 a2 a3 a4 w1 w2 w3 w4 := by
  obtain ⟨t, u, hfl, hu⟩ := h.fl
  exact h.put (h.hs p.g2 (by simp)) hfl.n02.symm (hfl.setDom hx hj hs) hu
theorem putRst (h : CpS w W gs gw Bs n B p s sc a1 a2 a3 a4 w1 w2 w3 w4) {k j : Nat} {x x' : Rst} {y : Value} (hx : sc.rsts[k]? = some x) (hj : j < 1)
    (hs : ([.int .i64 x.least] : List Value).set j y = [.int .i64 x'.least]) :
    CpS w (W.setCell ⟨p.g3, k * 1 + j, none⟩ y) gs gw Bs n B p s { sc with rsts := sc.rsts.set k x' } a1 a2 a3 a4 w1 w2 w3 w4 := by
  obtain ⟨t, u, hfl, hu⟩ := h.fl
  exact h.put (h.hs p.g3 (by simp)) hfl.n03.symm (hfl.setRst hx hj hs) hu
/-- one input: where it is, and what a store makes of it -/
theorem frmAt (h : CpS w W gs gw Bs n B p s sc a1 a2 a3 a4 w1 w2 w3 w4) {k i : Nat} {x : Clk} {z : Int} (hx : sc.clks[k]? = some x) (hi : x.frm[i]? = some z) :
    ∃ gi cap, W.cell? ⟨p.g1, k * 6 + 1, none⟩ = some (.slice (some ⟨gi, 0, none⟩) x.frm.length cap) ∧ W.cell? ⟨gi, i, none⟩ = some (.int .i64 z) ∧ W.frozen? ⟨gi, i, none⟩ = false ∧
      ∀ y, CpS w (W.setCell ⟨gi, i, none⟩ (.int .i64 y)) gs gw Bs n B p s { sc with clks := sc.clks.set k { x with frm := x.frm.set i y } } a1 a2 a3 a4 w1 w2 w3 w4 := by
  obtain ⟨t, u, hfl, hu⟩ := h.fl
  obtain ⟨gi, cap, hc⟩ := (hfl.frm k x hx).named (Nat.lt_of_le_of_lt (Nat.zero_le _) (List.getElem?_eq_some_iff.1 hi).1)
  have hk : k < p.n1 := by rw [← hfl.e1]; exact (List.getElem?_eq_some_iff.1 hx).1
  obtain ⟨g0, g1⟩ := hc.get (i := i) (v := .int .i64 z) (by unfold iv; rw [List.getElem?_map, hi]; rfl)
  have hb : B ≤ gi ∧ gi < n := by
    have := hc.low.1
    have := hc.lt
    have := hfl.t0 (k := k) (by omega)
    have := up_mono hfl.tup (i := k + 1) (j := p.n1) (by omega) (by omega)
    have := hfl.u0 (k := 2 * p.n4) (by omega)
    omega
  exact ⟨gi, cap, hc.cell, g0, g1, fun y => h.put hb (fun e => hc.cold (by simp [e])) (hfl.setFrm y hx hc) hu⟩
theorem lenAt (h : CpS w W gs gw Bs n B p s sc a1 a2 a3 a4 w1 w2 w3 w4) {k : Nat} {x : Clk} (hx : sc.clks[k]? = some x) : ∃ A cap, W.cell? ⟨p.g1, k * 6 + 1, none⟩ = some (.slice A x.frm.length cap) := by
  obtain ⟨t, u, hfl, hu⟩ := h.fl
  obtain ⟨v, h1, h2, h3, h4⟩ := hfl.frm k x hx
  obtain ⟨A, c, rfl⟩ := own_shape' h3
  exact ⟨A, c, h1⟩
theorem regAt (h : CpS w W gs gw Bs n B p s sc a1 a2 a3 a4 w1 w2 w3 w4) {k i : Nat} {x : Dev} {r : Rgs} (hx : sc.devs[k]? = some x) (hi : x.regs[i]? = some r) :
    ∃ gi cap, W.cell? ⟨p.g4, k * 6 + 4, none⟩ = some (.slice (some ⟨gi, 0, none⟩) x.regs.length cap) ∧ W.cell? ⟨gi, i * 2 + 1, none⟩ = some (.bool r.kept) ∧ W.frozen? ⟨gi, i * 2 + 1, none⟩ = false ∧
      ∀ b, CpS w (W.setCell ⟨gi, i * 2 + 1, none⟩ (.bool b)) gs gw Bs n B p s { sc with devs := sc.devs.set k { x with regs := x.regs.set i { r with kept := b } } } a1 a2 a3 a4 w1 w2 w3 w4 := by
  obtain ⟨t, u, hfl, hu⟩ := h.fl
  obtain ⟨gi, cap, hc⟩ := (hfl.regs k x hx).named (Nat.lt_of_le_of_lt (Nat.zero_le _) (List.getElem?_eq_some_iff.1 hi).1)
  have hk : k < p.n4 := by rw [← hfl.e4]; exact (List.getElem?_eq_some_iff.1 hx).1
  obtain ⟨g0, g1⟩ := hc.get (i := i * 2 + 1) (v := .bool r.kept) (by
    unfold rv
    exact flat_get (sz := 2) (vs := [Value.int .u32 r.reset, Value.bool r.kept]) (by intro vs hv; obtain ⟨_, _, rfl⟩ := List.mem_map.1 hv; rfl) (by rw [List.getElem?_map, hi]; rfl) rfl)
  have hb : B ≤ gi ∧ gi < n := by
    have := hc.low.1
    have := hc.lt
    have := hfl.t0 (k := p.n1) (Nat.le_refl _)
    have := hfl.u0 (k := 2 * k) (by omega)
    have := up_mono hfl.uup (i := 2 * k + 1) (j := 2 * p.n4) (by omega) (by omega)
    omega
  exact ⟨gi, cap, hc.cell, g0, g1, fun b => h.put hb (fun e => hc.cold (by simp [e])) (hfl.setReg b hx hi hc) hu⟩
theorem rlenAt (h : CpS w W gs gw Bs n B p s sc a1 a2 a3 a4 w1 w2 w3 w4) {k : Nat} {x : Dev} (hx : sc.devs[k]? = some x) : ∃ A cap, W.cell? ⟨p.g4, k * 6 + 4, none⟩ = some (.slice A x.regs.length cap) := by
  obtain ⟨t, u, hfl, hu⟩ := h.fl
  obtain ⟨v, h1, h2, h3, h4⟩ := hfl.regs k x hx
  obtain ⟨A, c, rfl⟩ := own_shape' h3
  exact ⟨A, c, h1⟩
theorem e1 (h : CpS w W gs gw Bs n B p s sc a1 a2 a3 a4 w1 w2 w3 w4) : sc.clks.length = p.n1 := let ⟨_, _, hfl, _⟩ := h.fl; hfl.e1
theorem e2 (h : CpS w W gs gw Bs n B p s sc a1 a2 a3 a4 w1 w2 w3 w4) : sc.doms.length = p.n2 := let ⟨_, _, hfl, _⟩ := h.fl; hfl.e2
theorem e3 (h : CpS w W gs gw Bs n B p s sc a1 a2 a3 a4 w1 w2 w3 w4) : sc.rsts.length = p.n3 := let ⟨_, _, hfl, _⟩ := h.fl; hfl.e3
theorem e4 (h : CpS w W gs gw Bs n B p s sc a1 a2 a3 a4 w1 w2 w3 w4) : sc.devs.length = p.n4 := let ⟨_, _, hfl, _⟩ := h.fl; hfl.e4
/-- the end -/
theorem done (h : CpS w W gs gw Bs n B p s sc a1 a2 a3 a4 w1 w2 w3 w4) (ok0 : ChipOk s) (ok1 : ChipOk sc) (hE0 : chipE s = 0) (heq : Apart s sc)
    (a : Act) (ha : FrN 188 a) (h6 : slT a 6 = .pointer (some ⟨gs, 0, none⟩)) (h7 : slT a 7 = .pointer (some ⟨p.g0, 0, none⟩)) (h8 : slT a 8 = .pointer (some ⟨gw, 0, none⟩)) : Code.wp Try.prog cpEnd (bodyPost Try.prog Try.f6 (TellsB true w)) a W := by
  obtain ⟨t, u, hfl, hu⟩ := h.fl
  exact copies_end w W gs p.g0 gw Bs W.heap.size W.heap.size s sc a1 a2 a3 a4 p.v1 p.v2 p.v3 p.v4 w1 w2 w3 w4 ok0 ok1 hE0 heq h.hA (.of h.bx hfl.chip) h.hK.hold h.hbl a ha h6 h7 h8
end CpS

def nineTo (k : Nat) (x : Clk) : Clk := { x with frm := mapTo (fun _ => (99 : Int)) k x.frm }
theorem nineTo_zero (x : Clk) : nineTo 0 x = x := by unfold nineTo; rw [mapTo_zero]
theorem nineTo_all (x : Clk) : nineTo x.frm.length x = nines x := by unfold nineTo nines; rw [mapTo_all]
theorem nineTo_len (k : Nat) (x : Clk) : (nineTo k x).frm.length = x.frm.length := mapTo_len _ _ _
theorem nineTo_succ {k : Nat} {x : Clk} {z : Int} (h : x.frm[k]? = some z) : ({ nineTo k x with frm := (nineTo k x).frm.set k 99 } : Clk) = nineTo (k + 1) x := by
  unfold nineTo
  simp only
  rw [mapTo_succ (f := fun _ => (99 : Int)) h]
theorem mapTo_get {α : Type} (f : α → α) {i : Nat} {l : List α} (h : i < l.length) : (mapTo f i l)[i]? = l[i]? := by
  unfold mapTo
  rw [List.getElem?_append_right (by simp; exact Nat.min_le_left _ _)]
  simp
  congr 1
  omega

set_option maxRecDepth 1000000 in
set_option maxHeartbeats 8000000 in
theorem cp2_round (w W : World) (gs gw Bs n B : Nat) (p : Sh) (s sc : Chip) (a1 a2 a3 a4 w1 w2 w3 w4 : Value) (i k : Nat) (x : Clk) (hx : sc.clks[i]? = some x) (hxl : x.frm.length ≤ 1000)
    (hs : CpS w W gs gw Bs n B p s { sc with clks := sc.clks.set i (nineTo k x) } a1 a2 a3 a4 w1 w2 w3 w4) (hk : k ≤ x.frm.length)
    (a : Act) (ha : FrN 188 a) (h6 : slT a 6 = .pointer (some ⟨gs, 0, none⟩)) (h7 : slT a 7 = .pointer (some ⟨p.g0, 0, none⟩)) (h8 : slT a 8 = .pointer (some ⟨gw, 0, none⟩)) (h10 : slT a 10 = .int .i64 (i : Nat)) (h11 : slT a 11 = .int .i64 (k : Nat)) (R : Act → World → Prop) (Q : Exit → Act → World → Prop)
    (hR : ∀ a' W', k < x.frm.length → FrN 188 a' → slT a' 6 = .pointer (some ⟨gs, 0, none⟩) → slT a' 7 = .pointer (some ⟨p.g0, 0, none⟩) → slT a' 8 = .pointer (some ⟨gw, 0, none⟩) → slT a' 10 = .int .i64 (i : Nat) → slT a' 11 = .int .i64 ((k + 1 : Nat) : Int) → CpS w W' gs gw Bs n B p s { sc with clks := sc.clks.set i (nineTo (k + 1) x) } a1 a2 a3 a4 w1 w2 w3 w4 → R a' W')
    (hQ : ∀ a', FrN 188 a' → slT a' 6 = .pointer (some ⟨gs, 0, none⟩) → slT a' 7 = .pointer (some ⟨p.g0, 0, none⟩) → slT a' 8 = .pointer (some ⟨gw, 0, none⟩) → slT a' 10 = .int .i64 (i : Nat) → k = x.frm.length → Q (.exit 3) a' W) :
    Code.wp Try.prog (lpC cpLoop2) (Exit.then R Q) a W := by
  have HQ := Lib.hid hQ
  have HR := Lib.hid hR
  clear hQ hR
  have hil : i < sc.clks.length := (List.getElem?_eq_some_iff.1 hx).1
  have hxk : (sc.clks.set i (nineTo k x))[i]? = some (nineTo k x) := List.getElem?_set_self hil
  obtain ⟨A, cap, c1⟩ := hs.lenAt hxk
  rw [nineTo_len] at c1
  obtain ⟨x0, -⟩ := hs.bx 0 _ rfl
  have i1 : (i : Int) < (p.n1 : Int) := by
    have := hs.e1
    simp at this
    omega
  have i0 : (0 : Int) ≤ (i : Int) := by omega
  have HX := Lib.hid hx
  by_cases hlt : k < x.frm.length
  · have hz := List.getElem?_eq_getElem hlt
    generalize x.frm[k] = z at hz
    have hz' : (nineTo k x).frm[k]? = some z := by
      show (mapTo _ k x.frm)[k]? = _
      rw [mapTo_get _ hlt, hz]
    obtain ⟨gi, cap', d0, d1, d2, hst⟩ := hs.frmAt hxk hz'
    rw [nineTo_len] at d0
    have e : (Value.slice A x.frm.length cap) = .slice (some ⟨gi, 0, none⟩) x.frm.length cap' := Option.some.inj (c1.symm.trans d0)
    injection e with e1 _ e2
    subst e1 e2
    clear d0
    have hst9 := hst 99
    rw [nineTo_succ hz] at hst9
    simp only [List.set_set] at hst9
    have HST := Lib.hid hst9
    have HL := Lib.hid hlt
    clear hst hst9 hz hz' hs hx hil hxk
    obtain ⟨F, rfl⟩ := ha.open_
    rw [slT_listT (by omega)] at h6 h7 h8 h10 h11
    rw [lit188, h6, h7, h8, h10, h11]
    clear ha h6 h7 h8 h10 h11
    conv => arg 2; whnf
    have k0 : (0 : Int) ≤ (k : Int) := by omega
    go_wp2
    exact HR.out _ _ HL.out ⟨rfl, rfl⟩ rfl rfl rfl rfl (by go_num) HST.out
  · obtain rfl : k = x.frm.length := by omega
    clear hs hx hil hxk
    obtain ⟨F, rfl⟩ := ha.open_
    rw [slT_listT (by omega)] at h6 h7 h8 h10 h11
    rw [lit188, h6, h7, h8, h10, h11]
    clear ha h6 h7 h8 h10 h11
    conv => arg 2; whnf
    go_wp2
    exact HQ.out _ ⟨rfl, rfl⟩ rfl rfl rfl rfl (by trivial)

def I2 (w : World) (gs gw Bs n B : Nat) (p : Sh) (s sc : Chip) (a1 a2 a3 a4 w1 w2 w3 w4 : Value) (i : Nat) (x : Clk) (a : Act) (W : World) : Prop :=
  ∃ k : Nat, k ≤ x.frm.length ∧ FrN 188 a ∧ slT a 6 = .pointer (some ⟨gs, 0, none⟩) ∧ slT a 7 = .pointer (some ⟨p.g0, 0, none⟩) ∧ slT a 8 = .pointer (some ⟨gw, 0, none⟩) ∧ slT a 10 = .int .i64 (i : Nat) ∧ slT a 11 = .int .i64 (k : Nat) ∧ CpS w W gs gw Bs n B p s { sc with clks := sc.clks.set i (nineTo k x) } a1 a2 a3 a4 w1 w2 w3 w4
def M2 (n : Nat) (a : Act) (_ : World) : Nat := n - (intOf (slT a 11)).toNat
theorem cp2_any (w W : World) (gs gw Bs n B : Nat) (p : Sh) (s sc : Chip) (a1 a2 a3 a4 w1 w2 w3 w4 : Value) (i : Nat) (x : Clk) (hx : sc.clks[i]? = some x) (hxl : x.frm.length ≤ 1000)
    (hs : CpS w W gs gw Bs n B p s sc a1 a2 a3 a4 w1 w2 w3 w4)
    (a : Act) (ha : FrN 188 a) (h6 : slT a 6 = .pointer (some ⟨gs, 0, none⟩)) (h7 : slT a 7 = .pointer (some ⟨p.g0, 0, none⟩)) (h8 : slT a 8 = .pointer (some ⟨gw, 0, none⟩)) (h10 : slT a 10 = .int .i64 (i : Nat)) (h11 : slT a 11 = .int .i64 0) (Q : Exit → Act → World → Prop)
    (hQ : ∀ a' W', FrN 188 a' → slT a' 6 = .pointer (some ⟨gs, 0, none⟩) → slT a' 7 = .pointer (some ⟨p.g0, 0, none⟩) → slT a' 8 = .pointer (some ⟨gw, 0, none⟩) → slT a' 10 = .int .i64 (i : Nat) → CpS w W' gs gw Bs n B p s { sc with clks := sc.clks.set i (nines x) } a1 a2 a3 a4 w1 w2 w3 w4 → Q (.exit 3) a' W') : Code.wp Try.prog cpLoop2 Q a W := by
  show Code.wp Try.prog (Code.loop (lpC cpLoop2)) Q a W
  have hself : ({ sc with clks := sc.clks.set i (nineTo 0 x) } : Chip) = sc := by
    have hxi := (List.getElem?_eq_some_iff.1 hx).2
    rw [nineTo_zero, ← hxi, List.set_getElem_self]
  refine wp_loop (I2 w gs gw Bs n B p s sc a1 a2 a3 a4 w1 w2 w3 w4 i x) (M2 x.frm.length) ⟨0, Nat.zero_le _, ha, h6, h7, h8, h10, h11, by rw [hself]; exact hs⟩ ?_
  rintro b1 W1 ⟨k, hk, hf, q6, q7, q8, q10, q11, hs1⟩
  refine cp2_round w W1 gs gw Bs n B p s sc a1 a2 a3 a4 w1 w2 w3 w4 i k x hx hxl hs1 hk b1 hf q6 q7 q8 q10 q11 _ _ ?_ ?_
  · intro a' W' hlt hF e6 e7 e8 e10 e11 hs'
    refine ⟨⟨k + 1, hlt, hF, e6, e7, e8, e10, e11, hs'⟩, ?_⟩
    unfold M2
    rw [e11, q11]
    simp [intOf]
    omega
  · intro a' hF e6 e7 e8 e10 hin
    rw [hin, nineTo_all] at hs1
    exact hQ _ _ hF e6 e7 e8 e10 hs1
end

section
set_option linter.unusedSimpArgs false
set_option linter.unusedVariables false
open Go.RowKit Go.Maps

theorem CpS.calm {w W W' : World} {gs gw Bs n B : Nat} {p : Sh} {s sc : Chip} {a1 a2 a3 a4 w1 w2 w3 w4 : Value} (h : CpS w W gs gw Bs n B p s sc a1 a2 a3 a4 w1 w2 w3 w4) (hm : Moved [] W W') : CpS w W' gs gw Bs n B p s sc a1 a2 a3 a4 w1 w2 w3 w4 := by
  obtain ⟨t, u, hfl, hu⟩ := h.fl
  exact { hA := h.hA.below (hm.below (by simp) h.hA.le), fl := ⟨t, u, hfl.calm hm, hu⟩, bx := h.bx.move hm (by simp), hK := h.hK.move (by simp) hm, hs := h.hs, hBs := h.hBs, hBw := h.hBw, hbl := h.hbl.trans (hm.below (by simp) h.hbl.size), hn := Nat.le_trans h.hn hm.size }

set_option maxRecDepth 1000000 in
set_option maxHeartbeats 8000000 in
theorem cp1_round (w W : World) (gs gw Bs n B : Nat) (p : Sh) (s sc : Chip) (a1 a2 a3 a4 w1 w2 w3 w4 : Value) (i : Nat) (hok : ∀ c, c ∈ sc.clks → c.frm.length ≤ 1000) (hn : sc.clks.length ≤ 1000)
    (hs : CpS w W gs gw Bs n B p s { sc with clks := mapTo nines i sc.clks } a1 a2 a3 a4 w1 w2 w3 w4) (hi : i ≤ sc.clks.length)
    (a : Act) (ha : FrN 188 a) (h6 : slT a 6 = .pointer (some ⟨gs, 0, none⟩)) (h7 : slT a 7 = .pointer (some ⟨p.g0, 0, none⟩)) (h8 : slT a 8 = .pointer (some ⟨gw, 0, none⟩)) (h10 : slT a 10 = .int .i64 (i : Nat)) (R : Act → World → Prop) (Q : Exit → Act → World → Prop)
    (hR : ∀ a' W', i < sc.clks.length → FrN 188 a' → slT a' 6 = .pointer (some ⟨gs, 0, none⟩) → slT a' 7 = .pointer (some ⟨p.g0, 0, none⟩) → slT a' 8 = .pointer (some ⟨gw, 0, none⟩) → slT a' 10 = .int .i64 ((i + 1 : Nat) : Int) → CpS w W' gs gw Bs n B p s { sc with clks := mapTo nines (i + 1) sc.clks } a1 a2 a3 a4 w1 w2 w3 w4 → R a' W')
    (hQ : ∀ a', FrN 188 a' → slT a' 6 = .pointer (some ⟨gs, 0, none⟩) → slT a' 7 = .pointer (some ⟨p.g0, 0, none⟩) → slT a' 8 = .pointer (some ⟨gw, 0, none⟩) → i = sc.clks.length → Q (.exit 1) a' W) :
    Code.wp Try.prog (lpC cpLoop1) (Exit.then R Q) a W := by
  have HQ := Lib.hid hQ
  have HR := Lib.hid hR
  clear hQ hR
  obtain ⟨x0, -⟩ := hs.bx 0 _ rfl
  have hn1 : sc.clks.length = p.n1 := by
    have := hs.e1
    simpa [mapTo_len] using this
  have HN1 := Lib.hid hn1
  by_cases hlt : i < sc.clks.length
  · have hx := List.getElem?_eq_getElem hlt
    generalize sc.clks[i] = x at hx
    have hxl := hok x (List.mem_of_getElem? hx)
    have hxi : (mapTo nines i sc.clks)[i]? = some x := by rw [mapTo_get _ hlt, hx]
    have HS := Lib.hid hs
    have HX := Lib.hid hx
    have HXI := Lib.hid hxi
    have HL := Lib.hid hlt
    have i1 : (i : Int) < (p.n1 : Int) := by omega
    have i0 : (0 : Int) ≤ (i : Int) := by omega
    have i2 : (i : Int) < 1000 := by omega
    clear hs hx hxi hlt hn1 hok hn hi
    obtain ⟨F, rfl⟩ := ha.open_
    rw [slT_listT (by omega)] at h6 h7 h8 h10
    rw [lit188, h6, h7, h8, h10]
    clear ha h6 h7 h8 h10
    conv => arg 2; whnf
    go_wp2
    refine cp2_any w W gs gw Bs n B p s { sc with clks := mapTo nines i sc.clks } a1 a2 a3 a4 w1 w2 w3 w4 i x HXI.out hxl HS.out _ ⟨rfl, rfl⟩ rfl rfl rfl rfl rfl _ ?_
    intro a' W' hF q6 q7 q8 q10 hs'
    simp only [mapTo_succ (f := nines) HX.out] at hs'
    have HS' := Lib.hid hs'
    clear hs' HS x0
    simp only [Exit.then, Exit.inBlock, ↓reduceIte]
    obtain ⟨F1, rfl⟩ := hF.open_
    rw [slT_listT (by omega)] at q6 q7 q8 q10
    rw [lit188, q6, q7, q8, q10]
    clear hF q6 q7 q8 q10
    go_wp2
    exact HR.out _ _ HL.out ⟨rfl, rfl⟩ rfl rfl rfl (by go_num) HS'.out
  · obtain rfl : i = sc.clks.length := by omega
    have hz : ¬ ((sc.clks.length : Int) < (p.n1 : Int)) := by omega
    clear hs hn1 hlt hi hn hok
    obtain ⟨F, rfl⟩ := ha.open_
    rw [slT_listT (by omega)] at h6 h7 h8 h10
    rw [lit188, h6, h7, h8, h10]
    clear ha h6 h7 h8 h10
    conv => arg 2; whnf
    go_wp2
    exact HQ.out _ ⟨rfl, rfl⟩ rfl rfl rfl (by trivial)

def I1 (w : World) (gs gw Bs n B : Nat) (p : Sh) (s sc : Chip) (a1 a2 a3 a4 w1 w2 w3 w4 : Value) (a : Act) (W : World) : Prop :=
  ∃ i : Nat, i ≤ sc.clks.length ∧ FrN 188 a ∧ slT a 6 = .pointer (some ⟨gs, 0, none⟩) ∧ slT a 7 = .pointer (some ⟨p.g0, 0, none⟩) ∧ slT a 8 = .pointer (some ⟨gw, 0, none⟩) ∧ slT a 10 = .int .i64 (i : Nat) ∧ CpS w W gs gw Bs n B p s { sc with clks := mapTo nines i sc.clks } a1 a2 a3 a4 w1 w2 w3 w4
def M1 (n : Nat) (a : Act) (_ : World) : Nat := n - (intOf (slT a 10)).toNat
theorem cp1_any (w W : World) (gs gw Bs n B : Nat) (p : Sh) (s sc : Chip) (a1 a2 a3 a4 w1 w2 w3 w4 : Value) (hok : ∀ c, c ∈ sc.clks → c.frm.length ≤ 1000) (hn : sc.clks.length ≤ 1000)
    (hs : CpS w W gs gw Bs n B p s sc a1 a2 a3 a4 w1 w2 w3 w4)
    (a : Act) (ha : FrN 188 a) (h6 : slT a 6 = .pointer (some ⟨gs, 0, none⟩)) (h7 : slT a 7 = .pointer (some ⟨p.g0, 0, none⟩)) (h8 : slT a 8 = .pointer (some ⟨gw, 0, none⟩)) (h10 : slT a 10 = .int .i64 0) (Q : Exit → Act → World → Prop)
    (hQ : ∀ a' W', FrN 188 a' → slT a' 6 = .pointer (some ⟨gs, 0, none⟩) → slT a' 7 = .pointer (some ⟨p.g0, 0, none⟩) → slT a' 8 = .pointer (some ⟨gw, 0, none⟩) → CpS w W' gs gw Bs n B p s { sc with clks := sc.clks.map nines } a1 a2 a3 a4 w1 w2 w3 w4 → Q (.exit 1) a' W') : Code.wp Try.prog cpLoop1 Q a W := by
  show Code.wp Try.prog (Code.loop (lpC cpLoop1)) Q a W
  refine wp_loop (I1 w gs gw Bs n B p s sc a1 a2 a3 a4 w1 w2 w3 w4) (M1 sc.clks.length) ⟨0, Nat.zero_le _, ha, h6, h7, h8, h10, by rw [mapTo_zero]; exact hs⟩ ?_
  rintro b1 W1 ⟨i, hi, hf, q6, q7, q8, q10, hs1⟩
  refine cp1_round w W1 gs gw Bs n B p s sc a1 a2 a3 a4 w1 w2 w3 w4 i hok hn hs1 hi b1 hf q6 q7 q8 q10 _ _ ?_ ?_
  · intro a' W' hlt hF e6 e7 e8 e10 hs'
    refine ⟨⟨i + 1, hlt, hF, e6, e7, e8, e10, hs'⟩, ?_⟩
    unfold M1
    rw [e10, q10]
    simp [intOf]
    omega
  · intro a' hF e6 e7 e8 hin
    rw [hin, mapTo_all] at hs1
    exact hQ _ _ hF e6 e7 e8 hs1

def keptTo (i : Nat) (x : Dev) : Dev := { x with regs := mapTo (fun r : Rgs => { r with kept := !r.kept }) i x.regs }
theorem keptTo_zero (x : Dev) : keptTo 0 x = x := by unfold keptTo; rw [mapTo_zero]
theorem keptTo_all (x : Dev) : keptTo x.regs.length x = turned x := by unfold keptTo turned; rw [mapTo_all]
theorem keptTo_len (k : Nat) (x : Dev) : (keptTo k x).regs.length = x.regs.length := mapTo_len _ _ _
theorem keptTo_succ {k : Nat} {x : Dev} {r : Rgs} (h : x.regs[k]? = some r) : ({ keptTo k x with regs := (keptTo k x).regs.set k { r with kept := !r.kept } } : Dev) = keptTo (k + 1) x := by
  unfold keptTo
  simp only
  rw [mapTo_succ (f := fun r : Rgs => ({ r with kept := !r.kept } : Rgs)) h]

set_option maxRecDepth 1000000 in
set_option maxHeartbeats 8000000 in
theorem cp6_round (w W : World) (gs gw Bs n B : Nat) (p : Sh) (s sc : Chip) (a1 a2 a3 a4 w1 w2 w3 w4 : Value) (m i : Nat) (x : Dev) (hx : sc.devs[m]? = some x) (hxl : x.regs.length ≤ 1000) (hnv : sc.devs.length ≤ 1000)
    (hs : CpS w W gs gw Bs n B p s { sc with devs := sc.devs.set m (keptTo i x) } a1 a2 a3 a4 w1 w2 w3 w4) (hi : i ≤ x.regs.length)
    (a : Act) (ha : FrN 188 a) (h6 : slT a 6 = .pointer (some ⟨gs, 0, none⟩)) (h7 : slT a 7 = .pointer (some ⟨p.g0, 0, none⟩)) (h8 : slT a 8 = .pointer (some ⟨gw, 0, none⟩)) (h9 : slT a 9 = .int .i64 (m : Nat)) (h12 : slT a 12 = .int .i64 (i : Nat)) (R : Act → World → Prop) (Q : Exit → Act → World → Prop)
    (hR : ∀ a' W', i < x.regs.length → FrN 188 a' → slT a' 6 = .pointer (some ⟨gs, 0, none⟩) → slT a' 7 = .pointer (some ⟨p.g0, 0, none⟩) → slT a' 8 = .pointer (some ⟨gw, 0, none⟩) → slT a' 9 = .int .i64 (m : Nat) → slT a' 12 = .int .i64 ((i + 1 : Nat) : Int) → CpS w W' gs gw Bs n B p s { sc with devs := sc.devs.set m (keptTo (i + 1) x) } a1 a2 a3 a4 w1 w2 w3 w4 → R a' W')
    (hQ : ∀ a', FrN 188 a' → slT a' 6 = .pointer (some ⟨gs, 0, none⟩) → slT a' 7 = .pointer (some ⟨p.g0, 0, none⟩) → slT a' 8 = .pointer (some ⟨gw, 0, none⟩) → i = x.regs.length → Q (.exit 5) a' W) :
    Code.wp Try.prog (lpC cpLoop6) (Exit.then R Q) a W := by
  have HQ := Lib.hid hQ
  have HR := Lib.hid hR
  clear hQ hR
  have hml : m < sc.devs.length := (List.getElem?_eq_some_iff.1 hx).1
  have hxk : (sc.devs.set m (keptTo i x))[m]? = some (keptTo i x) := List.getElem?_set_self hml
  obtain ⟨A, cap, c1⟩ := hs.rlenAt hxk
  rw [keptTo_len] at c1
  obtain ⟨x3, -⟩ := hs.bx 3 _ rfl
  have m1 : (m : Int) < (p.n4 : Int) := by
    have := hs.e4
    simp at this
    omega
  have m0 : (0 : Int) ≤ (m : Int) := by omega
  have i0 : (0 : Int) ≤ (i : Int) := by omega
  have HX := Lib.hid hx
  by_cases hlt : i < x.regs.length
  · have hz := List.getElem?_eq_getElem hlt
    generalize x.regs[i] = z at hz
    have hz' : (keptTo i x).regs[i]? = some z := by
      show (mapTo _ i x.regs)[i]? = _
      rw [mapTo_get _ hlt, hz]
    obtain ⟨gi, cap', d0, d1, d2, hst⟩ := hs.regAt hxk hz'
    rw [keptTo_len] at d0
    have e : (Value.slice A x.regs.length cap) = .slice (some ⟨gi, 0, none⟩) x.regs.length cap' := Option.some.inj (c1.symm.trans d0)
    injection e with e1 _ e2
    subst e1 e2
    clear d0
    have hst9 := hst (!z.kept)
    rw [keptTo_succ hz] at hst9
    simp only [List.set_set] at hst9
    have HST := Lib.hid hst9
    have HL := Lib.hid hlt
    clear hst hst9 hz hz' hs hx hml hxk
    obtain ⟨F, rfl⟩ := ha.open_
    rw [slT_listT (by omega)] at h6 h7 h8 h9 h12
    rw [lit188, h6, h7, h8, h9, h12]
    clear ha h6 h7 h8 h9 h12
    conv => arg 2; whnf
    go_wp2
    go_still_tail 20, (by kernel_rfl)
    change wpList _ _ _ _ _ W.drew
    go_wp2
    exact HR.out _ _ HL.out ⟨rfl, rfl⟩ rfl rfl rfl rfl (by go_num) (HST.out.calm (drew_moved _))
  · obtain rfl : i = x.regs.length := by omega
    clear hs hx hml hxk
    obtain ⟨F, rfl⟩ := ha.open_
    rw [slT_listT (by omega)] at h6 h7 h8 h9 h12
    rw [lit188, h6, h7, h8, h9, h12]
    clear ha h6 h7 h8 h9 h12
    conv => arg 2; whnf
    go_wp2
    exact HQ.out _ ⟨rfl, rfl⟩ rfl rfl rfl (by trivial)

def I6 (w : World) (gs gw Bs n B : Nat) (p : Sh) (s sc : Chip) (a1 a2 a3 a4 w1 w2 w3 w4 : Value) (m : Nat) (x : Dev) (a : Act) (W : World) : Prop :=
  ∃ i : Nat, i ≤ x.regs.length ∧ FrN 188 a ∧ slT a 6 = .pointer (some ⟨gs, 0, none⟩) ∧ slT a 7 = .pointer (some ⟨p.g0, 0, none⟩) ∧ slT a 8 = .pointer (some ⟨gw, 0, none⟩) ∧ slT a 9 = .int .i64 (m : Nat) ∧ slT a 12 = .int .i64 (i : Nat) ∧ CpS w W gs gw Bs n B p s { sc with devs := sc.devs.set m (keptTo i x) } a1 a2 a3 a4 w1 w2 w3 w4
def M6 (n : Nat) (a : Act) (_ : World) : Nat := n - (intOf (slT a 12)).toNat
theorem cp6_any (w W : World) (gs gw Bs n B : Nat) (p : Sh) (s sc : Chip) (a1 a2 a3 a4 w1 w2 w3 w4 : Value) (m : Nat) (x : Dev) (hx : sc.devs[m]? = some x) (hxl : x.regs.length ≤ 1000) (hnv : sc.devs.length ≤ 1000)
    (hs : CpS w W gs gw Bs n B p s sc a1 a2 a3 a4 w1 w2 w3 w4)
    (a : Act) (ha : FrN 188 a) (h6 : slT a 6 = .pointer (some ⟨gs, 0, none⟩)) (h7 : slT a 7 = .pointer (some ⟨p.g0, 0, none⟩)) (h8 : slT a 8 = .pointer (some ⟨gw, 0, none⟩)) (h9 : slT a 9 = .int .i64 (m : Nat)) (h12 : slT a 12 = .int .i64 0) (Q : Exit → Act → World → Prop)
    (hQ : ∀ a' W', FrN 188 a' → slT a' 6 = .pointer (some ⟨gs, 0, none⟩) → slT a' 7 = .pointer (some ⟨p.g0, 0, none⟩) → slT a' 8 = .pointer (some ⟨gw, 0, none⟩) → CpS w W' gs gw Bs n B p s { sc with devs := sc.devs.set m (turned x) } a1 a2 a3 a4 w1 w2 w3 w4 → Q (.exit 5) a' W') : Code.wp Try.prog cpLoop6 Q a W := by
  show Code.wp Try.prog (Code.loop (lpC cpLoop6)) Q a W
  have hself : ({ sc with devs := sc.devs.set m (keptTo 0 x) } : Chip) = sc := by
    have hxi := (List.getElem?_eq_some_iff.1 hx).2
    rw [keptTo_zero, ← hxi, List.set_getElem_self]
  refine wp_loop (I6 w gs gw Bs n B p s sc a1 a2 a3 a4 w1 w2 w3 w4 m x) (M6 x.regs.length) ⟨0, Nat.zero_le _, ha, h6, h7, h8, h9, h12, by rw [hself]; exact hs⟩ ?_
  rintro b1 W1 ⟨i, hi, hf, q6, q7, q8, q9, q12, hs1⟩
  refine cp6_round w W1 gs gw Bs n B p s sc a1 a2 a3 a4 w1 w2 w3 w4 m i x hx hxl hnv hs1 hi b1 hf q6 q7 q8 q9 q12 _ _ ?_ ?_
  · intro a' W' hlt hF e6 e7 e8 e9 e12 hs'
    refine ⟨⟨i + 1, hlt, hF, e6, e7, e8, e9, e12, hs'⟩, ?_⟩
    unfold M6
    rw [e12, q12]
    simp [intOf]
    omega
  · intro a' hF e6 e7 e8 hin
    rw [hin, keptTo_all] at hs1
    exact hQ _ _ hF e6 e7 e8 hs1
end

section
set_option linter.unusedSimpArgs false
set_option linter.unusedVariables false
open Go.RowKit Go.Maps

theorem clk_rate {s : Chip} (h : Plain s) {r : Int} (h0 : s.clks[0]? = some ⟨111, [], r, 0, 0, 0⟩) : 1 ≤ r ∧ r ≤ 1099511627776 := by
  have he := h.clkR s.clks.length 0 _ h0 (Nat.le_refl _)
  have hr : rangeB ⟨111, [], r, 0, 0, 0⟩ = true := by
    cases hb : rangeB ⟨111, [], r, 0, 0, 0⟩ with
    | true => rfl
    | false =>
      unfold clkE at he
      rw [hb] at he
      simp [firstE_cons, firstE_nil, orE, joinedB, nodesB] at he
  exact betw_iff.1 (by simpa [rangeB] using hr)
theorem clamp_of (l : List Int) {i : Nat} {c : Dev} (h : (chipP l).devs[i]? = some c) : 0 ≤ c.clamp ∧ c.clamp ≤ 2 := by
  obtain ⟨-, rfl⟩ := range_at (show ((List.range _).map (devP (drawP l) _ _ _))[i]? = some c from h)
  simp only [devP]
  omega

namespace CpS
variable {w W W' : World} {gs gw Bs n B : Nat} {p : Sh} {s sc sc' : Chip} {a1 a2 a3 a4 w1 w2 w3 w4 : Value} {t u : Nat → Nat}
theorem clkCell (h : CpS w W gs gw Bs n B p s sc a1 a2 a3 a4 w1 w2 w3 w4) {k : Nat} {x : Clk} (hx : sc.clks[k]? = some x) : ∃ A c, ∀ j v, ([.int .u8 x.kind, .slice A x.frm.length c, .int .u64 x.rate, .int .i64 x.mul, .int .i64 x.div, .int .i64 x.lock] : List Value)[j]? = some v → W.cell? ⟨p.g1, k * 6 + j, none⟩ = some v ∧ W.frozen? ⟨p.g1, k * 6 + j, none⟩ = false := by
  obtain ⟨t, u, hfl, hu⟩ := h.fl
  obtain ⟨vs, -, ⟨A, c, rfl⟩, hc⟩ := hfl.clks.cell hfl.e1.symm hx
  exact ⟨A, c, hc⟩
theorem domCell (h : CpS w W gs gw Bs n B p s sc a1 a2 a3 a4 w1 w2 w3 w4) {k : Nat} {x : Dom} (hx : sc.doms[k]? = some x) : ∀ j v, ([.int .i64 x.above, .int .i64 x.delay, .bool x.ret] : List Value)[j]? = some v → W.cell? ⟨p.g2, k * 3 + j, none⟩ = some v ∧ W.frozen? ⟨p.g2, k * 3 + j, none⟩ = false := by
  obtain ⟨t, u, hfl, hu⟩ := h.fl
  obtain ⟨vs, -, e, hc⟩ := hfl.doms.cell hfl.e2.symm hx
  have e' : vs = _ := e
  subst e'
  exact hc
theorem rstCell (h : CpS w W gs gw Bs n B p s sc a1 a2 a3 a4 w1 w2 w3 w4) {k : Nat} {x : Rst} (hx : sc.rsts[k]? = some x) : ∀ j v, ([.int .i64 x.least] : List Value)[j]? = some v → W.cell? ⟨p.g3, k * 1 + j, none⟩ = some v ∧ W.frozen? ⟨p.g3, k * 1 + j, none⟩ = false := by
  obtain ⟨t, u, hfl, hu⟩ := h.fl
  obtain ⟨vs, -, e, hc⟩ := hfl.rsts.cell hfl.e3.symm hx
  have e' : vs = _ := e
  subst e'
  exact hc
theorem devCell (h : CpS w W gs gw Bs n B p s sc a1 a2 a3 a4 w1 w2 w3 w4) {k : Nat} {x : Dev} (hx : sc.devs[k]? = some x) : ∃ A c A' c', ∀ j v, ([.int .i64 x.clock, .int .i64 x.domain, .int .i64 x.rst, .int .u32 x.clamp, .slice A x.regs.length c, .slice A' x.needs.length c'] : List Value)[j]? = some v → W.cell? ⟨p.g4, k * 6 + j, none⟩ = some v ∧ W.frozen? ⟨p.g4, k * 6 + j, none⟩ = false := by
  obtain ⟨t, u, hfl, hu⟩ := h.fl
  obtain ⟨vs, -, ⟨A, c, A', c', rfl⟩, hc⟩ := hfl.devs.cell hfl.e4.symm hx
  exact ⟨A, c, A', c', hc⟩
/-- the needs of the last device: where they are, and what an append makes of them -/
theorem needAt (h : CpS w W gs gw Bs n B p s sc a1 a2 a3 a4 w1 w2 w3 w4) {k : Nat} {x : Dev} (hx : sc.devs[k]? = some x) (hk : k + 1 = p.n4) :
    ∃ A c lo, lo ≤ W.heap.size ∧ W.cell? ⟨p.g4, k * 6 + 5, none⟩ = some (.slice A x.needs.length c) ∧ W.frozen? ⟨p.g4, k * 6 + 5, none⟩ = false ∧ W.ownsRow lo 3 1 (.slice A x.needs.length c) x.needs.length (iv x.needs) ∧
      (p.g4 ∉ (Value.slice A x.needs.length c).ownBlock.toList) ∧ (p.g0 ∉ (Value.slice A x.needs.length c).ownBlock.toList) ∧
      ∀ (W5 w6 : World) (v6 : Value) (y : Int), Moved [] W W5 → w6.ownsRow lo 3 1 v6 (x.needs.length + 1) (iv x.needs ++ [.int .i64 y]) → W5.grownBy w6 (Value.slice A x.needs.length c).ownBlock → (v6.ownBlock = (Value.slice A x.needs.length c).ownBlock ∨ v6.ownBlock = some W5.heap.size) →
        ∃ Wz, Wz = w6.setCell ⟨p.g4, k * 6 + 5, none⟩ v6 ∧ Hold Bs Wz gs s a1 a2 a3 a4 ∧ Hold Wz.heap.size Wz p.g0 { sc with devs := sc.devs.set k { x with needs := x.needs ++ [y] } } p.v1 p.v2 p.v3 p.v4 ∧ Hold Wz.heap.size Wz gw s w1 w2 w3 w4 ∧ Below w.heap.size w Wz := by
  obtain ⟨t, u, hfl, hu⟩ := h.fl
  obtain ⟨v, h1, h2, h3, h4⟩ := hfl.needs k x hx
  obtain ⟨A, c, rfl⟩ := own_shape' h3
  have hlo : B ≤ u (2 * k + 1) := by
    have := hfl.t0 (k := p.n1) (Nat.le_refl _)
    have := hfl.u0 (k := 2 * k + 1) (by omega)
    omega
  have hin : ∀ b, (Value.slice A x.needs.length c).ownBlock = some b → B ≤ b ∧ b < n ∧ b ∉ p.hs ∧ b < W.heap.size := fun b hb => by
    have q1 := h3.lt b hb
    have q2 := h4 b hb
    have := up_mono hfl.uup (i := 2 * k + 2) (j := 2 * p.n4) (by omega) (by omega)
    exact ⟨by omega, by omega, q2.2, q1.2⟩
  refine ⟨A, c, u (2 * k + 1), Nat.le_trans (up_mono hfl.uup (i := 2 * k + 1) (j := 2 * p.n4) (by omega) (Nat.le_refl _)) (Nat.le_trans hu h.hn), h1, h2, h3, fun hm => (hin p.g4 (by simpa using hm)).2.2.1 (by simp), fun hm => (hin p.g0 (by simpa using hm)).2.2.1 (by simp), ?_⟩
  intro W5 w6 v6 y hM ho6 hg6 hb6
  have hlt : ∀ b, b ∈ p.hs → b < W5.heap.size := fun b hb => by
    have hz := hM.size
    obtain ⟨_, _, _, _, l1⟩ := hfl.clks.shape
    obtain ⟨_, _, _, _, l2⟩ := hfl.doms.shape
    obtain ⟨_, _, _, _, l3⟩ := hfl.rsts.shape
    obtain ⟨_, _, _, _, l4⟩ := hfl.devs.shape
    have m0 := h.bx.lt
    have m1 := (l1 p.g1 rfl).2
    have m2 := (l2 p.g2 rfl).2
    have m3 := (l3 p.g3 rfl).2
    have m4 := (l4 p.g4 rfl).2
    simp at hb
    omega
  have hM' : Moved (Value.slice A x.needs.length c).ownBlock.toList W w6 := (hM.mono (by simp)).trans (Moved.of_grown hg6 (fun b hb => by simp [hb]))
  obtain ⟨u', hfl'⟩ := hfl.pushNeed hx hk h1 h2 h3 h4 hM ho6 hg6 hb6 hlt
  have hcold : p.g4 ∉ (Value.slice A x.needs.length c).ownBlock.toList := fun hm => (hin p.g4 (by simpa using hm)).2.2.1 (by simp)
  have hMz : Moved (p.g4 :: (Value.slice A x.needs.length c).ownBlock.toList) W (w6.setCell ⟨p.g4, k * 6 + 5, none⟩ v6) := (hM'.mono (fun b hb => List.mem_cons_of_mem _ hb)).trans (Moved.setCell w6 (by simp) v6)
  have hall : ∀ b, b ∈ p.g4 :: (Value.slice A x.needs.length c).ownBlock.toList → B ≤ b ∧ b < n := fun b hb => by
    rcases List.mem_cons.1 hb with rfl | hb
    · exact h.hs _ (by simp)
    · have := hin b (by simpa using hb)
      exact ⟨this.1, this.2.1⟩
  have hbB : Below B W (w6.setCell ⟨p.g4, k * 6 + 5, none⟩ v6) := hMz.below (fun b hb => (hall b hb).1) h.size
  refine ⟨_, rfl, h.hA.below (hbB.mono h.hBs), .of (h.bx.move hMz ?_) hfl'.chip, (h.hK.move (fun b hb => (hall b hb).2) hMz).hold, h.hbl.trans (hbB.mono h.hBw)⟩
  intro hm
  rcases List.mem_cons.1 hm with e | hm
  · exact hfl.n04 e
  · exact (hin p.g0 (by simpa using hm)).2.2.1 (by simp)
end CpS
end

section
set_option linter.unusedSimpArgs false
set_option linter.unusedVariables false
open Go.RowKit Go.Maps

theorem Flat.setBox {p : Sh} {W : World} {B : Nat} {s : Chip} {t u : Nat → Nat} (h : Flat p W B s t u) (j : Nat) (y : Value) : Flat p (W.setCell ⟨p.g0, j, none⟩ y) B s t u := by
  have hm : Moved [p.g0] W (W.setCell ⟨p.g0, j, none⟩ y) := Moved.setCell W (by simp) y
  have hg : p.g0 ∈ p.hs := by simp
  exact { h with
    clks := Flat.row_far h.clks hm h.n01.symm
    doms := Flat.row_far h.doms hm h.n02.symm
    rsts := Flat.row_far h.rsts hm h.n03.symm
    devs := Flat.row_far h.devs hm h.n04.symm
    frm := fun k x hx => (h.frm k x hx).set hg (fun e => by injection e with e1; exact h.n01 e1) y
    regs := fun k x hx => (h.regs k x hx).set hg (fun e => by injection e with e1; exact h.n04 e1) y
    needs := fun k x hx => (h.needs k x hx).set hg (fun e => by injection e with e1; exact h.n04 e1) y }
theorem strs_take {α : Type} {V : Reads α} {sz : Nat} {w : World} {B : Nat} {A : Option Addr} {xs : List α} (h : StrsAt V sz w B A xs) (n : Nat) : StrsAt V sz w B A (xs.take n) := fun hl => by
  have hl' : 0 < xs.length := by simp at hl; omega
  obtain ⟨ad, e, hb, hc⟩ := h hl'
  refine ⟨ad, e, hb, fun k x hk => hc k x ?_⟩
  have hkl := (List.getElem?_eq_some_iff.1 hk).1
  simp at hkl
  rw [List.getElem?_take_of_lt (by omega)] at hk
  exact hk
theorem chip_less {w : World} {B : Nat} {s : Chip} {v1 v2 v3 : Value} {A : Option Addr} {n m c : Nat} (h : ChipV w B s [v1, v2, v3, .slice A n c]) (hn : n = s.devs.length) (hm : m + 1 = n) : ChipV w B { s with devs := s.devs.take (s.devs.length - 1) } [v1, v2, v3, .slice A m c] := by
  obtain ⟨A1, c1, A2, c2, A3, c3, A4, c4, e, l1, l2, l3, l4, h1, h2, h3, h4⟩ := h
  simp at e
  obtain ⟨rfl, rfl, rfl, rfl, e, rfl⟩ := e
  have hml : (s.devs.take (s.devs.length - 1)).length = m := by simp; omega
  exact ⟨A1, c1, A2, c2, A3, c3, A, c, by simp only [hml], l1, l2, l3, by simp only [hml]; omega, h1, h2, h3, strs_take h4 _⟩
theorem CpS.less {w W : World} {gs gw Bs n B : Nat} {p : Sh} {s sc : Chip} {a1 a2 a3 a4 w1 w2 w3 w4 : Value} (h : CpS w W gs gw Bs n B p s sc a1 a2 a3 a4 w1 w2 w3 w4) {m : Nat} (hm : m + 1 = p.n4) :
    ∃ Wz, Wz = W.setCell ⟨p.g0, 3, none⟩ (.slice (some ⟨p.g4, 0, none⟩) m p.c4) ∧ Hold Bs Wz gs s a1 a2 a3 a4 ∧ Hold Wz.heap.size Wz p.g0 { sc with devs := sc.devs.take (sc.devs.length - 1) } p.v1 p.v2 p.v3 (.slice (some ⟨p.g4, 0, none⟩) m p.c4) ∧ Hold Wz.heap.size Wz gw s w1 w2 w3 w4 ∧ Below w.heap.size w Wz := by
  obtain ⟨t, u, hfl, hu⟩ := h.fl
  have hM : Moved [p.g0] W (W.setCell ⟨p.g0, 3, none⟩ (.slice (some ⟨p.g4, 0, none⟩) m p.c4)) := Moved.setCell W (by simp) _
  have h0 := h.hs p.g0 (by simp)
  have hbB : Below B W (W.setCell ⟨p.g0, 3, none⟩ (.slice (some ⟨p.g4, 0, none⟩) m p.c4)) := hM.below (by simp; omega) h.size
  exact ⟨_, rfl, h.hA.below (hbB.mono h.hBs), .of (h.bx.set (j := 3) (by simp) _) (chip_less (hfl.setBox 3 _).chip hfl.e4.symm hm), (h.hK.move (by simp; omega) hM).hold, h.hbl.trans (hbB.mono h.hBw)⟩
theorem CpS.cap {w W : World} {gs gw Bs n B : Nat} {p : Sh} {s sc : Chip} {a1 a2 a3 a4 w1 w2 w3 w4 : Value} (h : CpS w W gs gw Bs n B p s sc a1 a2 a3 a4 w1 w2 w3 w4) : p.n4 ≤ p.c4 := by
  obtain ⟨t, u, hfl, hu⟩ := h.fl
  obtain ⟨A, c, e, hl, -⟩ := hfl.devs.shape
  injection e with _ e1 e2
  omega

set_option maxRecDepth 1000000 in
set_option maxHeartbeats 8000000 in
theorem cp_case0 (w W : World) (gs gw Bs n B : Nat) (p : Sh) (s : Chip) (a1 a2 a3 a4 w1 w2 w3 w4 : Value) (m : Nat) (what : Int) (hpq : PickIs what 8 0) (hpl : Plain s) (hcl : ∀ (i : Nat) (c : Dev), s.devs[i]? = some c → 0 ≤ c.clamp ∧ c.clamp ≤ 2) (hm : m + 1 = s.devs.length)
    (hs : CpS w W gs gw Bs n B p s s a1 a2 a3 a4 w1 w2 w3 w4)
    (a : Act) (ha : FrN 188 a) (h1 : slT a 1 = .int .i64 what) (h6 : slT a 6 = .pointer (some ⟨gs, 0, none⟩)) (h7 : slT a 7 = .pointer (some ⟨p.g0, 0, none⟩)) (h8 : slT a 8 = .pointer (some ⟨gw, 0, none⟩)) (h9 : slT a 9 = .int .i64 (m : Nat)) : Code.wp Try.prog cpPick (bodyPost Try.prog Try.f6 (TellsB true w)) a W := by
  have HPQ : RowKit.Hid (PickIs what 8 0) := hpq
  have HPL := Lib.hid hpl
  have HCL := Lib.hid hcl
  have HM := Lib.hid hm
  have HS := Lib.hid hs
  have b1 := hpl.nc
  have b2 := hpl.nd
  have b3 := hpl.nr
  have b4 := hpl.nv
  have l1 := hs.e1
  have l2 := hs.e2
  have l3 := hs.e3
  have l4 := hs.e4
  rw [l1] at b1; rw [l2] at b2; rw [l3] at b3; rw [l4] at b4
  have HL1 := Lib.hid l1
  have HL2 := Lib.hid l2
  have HL3 := Lib.hid l3
  have HL4 := Lib.hid l4
  have j1 : (0 : Int) < (p.n1 : Int) := by omega
  have j2 : (0 : Int) < (p.n2 : Int) := by omega
  have j3 : (0 : Int) < (p.n3 : Int) := by omega
  have j4 : (0 : Int) < (p.n4 : Int) := by omega
  have k1 : 0 < p.n1 := by omega
  have k2 : 0 < p.n2 := by omega
  have k3 : 0 < p.n3 := by omega
  have k4 : 0 < p.n4 := by omega
  have i0 : (0 : Int) ≤ (m : Int) := by omega
  have i1 : (m : Int) < (p.n4 : Int) := by omega
  obtain ⟨x0, -⟩ := hs.bx 0 _ rfl
  obtain ⟨x1, -⟩ := hs.bx 1 _ rfl
  obtain ⟨x2, -⟩ := hs.bx 2 _ rfl
  obtain ⟨x3, y3⟩ := hs.bx 3 _ rfl
  obtain ⟨r0, hr⟩ := hpl.clk0
  have hb := clk_rate hpl hr
  obtain ⟨A, c, hcell⟩ := hs.clkCell hr
  have e0 : W.cell? ⟨p.g1, 2, none⟩ = some (.int .u64 r0) := (hcell 2 _ rfl).1
  have e1 : W.frozen? ⟨p.g1, 2, none⟩ = false := (hcell 2 _ rfl).2
  have hst : CpS w (W.setCell ⟨p.g1, 2, none⟩ (.int .u64 (r0 + 1))) gs gw Bs n B p s { s with clks := s.clks.set 0 ⟨111, [], r0 + 1, 0, 0, 0⟩ } a1 a2 a3 a4 w1 w2 w3 w4 := hs.putClk (k := 0) (j := 2) (y := .int .u64 (r0 + 1)) (x' := ⟨111, [], r0 + 1, 0, 0, 0⟩) hr (by omega) (by omega) rfl (fun A c => rfl)
  have HST := Lib.hid hst
  have HR := Lib.hid hr
  have hb1 := hb.1
  have hb2 := hb.2
  clear hcell hst hr hb
  clear hpq hpl hcl hm hs l1 l2 l3 l4 b1 b2 b3 b4
  obtain ⟨F, rfl⟩ := ha.open_
  rw [slT_listT (by omega)] at h1 h6 h7 h8 h9
  rw [lit188, h1, h6, h7, h8, h9]
  clear ha h1 h6 h7 h8 h9
  conv => arg 2; whnf
  go_upto_region 37 with fail
  rename_i K0 hK0 K1 hK1 K2 hK2
  have HK0 := Lib.hid hK0
  clear hK0
  go_wp2_with fail
  refine (HPQ.out _).mono ?_
  rintro e wq ⟨rfl, rfl⟩
  clear HPQ
  go_wp2
  refine HK0.out _ _ ?_
  exact HST.out.done HPL.out.ok (HPL.out.ok.setClk ⟨by simp, by simp⟩) HPL.out.right (copy0 HR.out) _ ⟨rfl, rfl⟩ rfl rfl rfl

set_option maxRecDepth 1000000 in
set_option maxHeartbeats 8000000 in
theorem cp_case1 (w W : World) (gs gw Bs n B : Nat) (p : Sh) (s : Chip) (a1 a2 a3 a4 w1 w2 w3 w4 : Value) (m : Nat) (what : Int) (hpq : PickIs what 8 1) (hpl : Plain s) (hcl : ∀ (i : Nat) (c : Dev), s.devs[i]? = some c → 0 ≤ c.clamp ∧ c.clamp ≤ 2) (hm : m + 1 = s.devs.length)
    (hs : CpS w W gs gw Bs n B p s s a1 a2 a3 a4 w1 w2 w3 w4)
    (a : Act) (ha : FrN 188 a) (h1 : slT a 1 = .int .i64 what) (h6 : slT a 6 = .pointer (some ⟨gs, 0, none⟩)) (h7 : slT a 7 = .pointer (some ⟨p.g0, 0, none⟩)) (h8 : slT a 8 = .pointer (some ⟨gw, 0, none⟩)) (h9 : slT a 9 = .int .i64 (m : Nat)) : Code.wp Try.prog cpPick (bodyPost Try.prog Try.f6 (TellsB true w)) a W := by
  have HPQ : RowKit.Hid (PickIs what 8 1) := hpq
  have HPL := Lib.hid hpl
  have HCL := Lib.hid hcl
  have HM := Lib.hid hm
  have HS := Lib.hid hs
  have b1 := hpl.nc
  have b2 := hpl.nd
  have b3 := hpl.nr
  have b4 := hpl.nv
  have l1 := hs.e1
  have l2 := hs.e2
  have l3 := hs.e3
  have l4 := hs.e4
  rw [l1] at b1; rw [l2] at b2; rw [l3] at b3; rw [l4] at b4
  have HL1 := Lib.hid l1
  have HL2 := Lib.hid l2
  have HL3 := Lib.hid l3
  have HL4 := Lib.hid l4
  have j1 : (0 : Int) < (p.n1 : Int) := by omega
  have j2 : (0 : Int) < (p.n2 : Int) := by omega
  have j3 : (0 : Int) < (p.n3 : Int) := by omega
  have j4 : (0 : Int) < (p.n4 : Int) := by omega
  have k1 : 0 < p.n1 := by omega
  have k2 : 0 < p.n2 := by omega
  have k3 : 0 < p.n3 := by omega
  have k4 : 0 < p.n4 := by omega
  have i0 : (0 : Int) ≤ (m : Int) := by omega
  have i1 : (m : Int) < (p.n4 : Int) := by omega
  obtain ⟨x0, -⟩ := hs.bx 0 _ rfl
  obtain ⟨x1, -⟩ := hs.bx 1 _ rfl
  obtain ⟨x2, -⟩ := hs.bx 2 _ rfl
  obtain ⟨x3, y3⟩ := hs.bx 3 _ rfl
  obtain ⟨r0, hr⟩ := hpl.clk0
  have HR := Lib.hid hr
  clear hr
  clear hpq hpl hcl hm hs l1 l2 l3 l4 b1 b2 b3 b4
  obtain ⟨F, rfl⟩ := ha.open_
  rw [slT_listT (by omega)] at h1 h6 h7 h8 h9
  rw [lit188, h1, h6, h7, h8, h9]
  clear ha h1 h6 h7 h8 h9
  conv => arg 2; whnf
  go_upto_region 37 with fail
  rename_i K0 hK0 K1 hK1 K2 hK2
  have HK0 := Lib.hid hK0
  clear hK0
  go_wp2_with fail
  refine (HPQ.out _).mono ?_
  rintro e wq ⟨rfl, rfl⟩
  clear HPQ
  go_wp2
  refine cp1_any w W gs gw Bs n B p s s a1 a2 a3 a4 w1 w2 w3 w4 (fun c hc => (HPL.out.ok.clks c hc).1) HPL.out.ok.n1 HS.out _ ⟨rfl, rfl⟩ rfl rfl rfl rfl _ ?_
  intro a' W' hF q6 q7 q8 hs'
  have hr' : (s.clks.map nines)[0]? = some (nines ⟨111, [], r0, 0, 0, 0⟩) := by rw [List.getElem?_map, HR.out]; rfl
  obtain ⟨A, c, hcell⟩ := hs'.clkCell hr'
  have e0 : W'.cell? ⟨p.g1, 5, none⟩ = some (.int .i64 0) := (hcell 5 _ rfl).1
  have e1 : W'.frozen? ⟨p.g1, 5, none⟩ = false := (hcell 5 _ rfl).2
  have hst : CpS w (W'.setCell ⟨p.g1, 5, none⟩ (.int .i64 7)) gs gw Bs n B p s { s with clks := (s.clks.map nines).set 0 { nines ⟨111, [], r0, 0, 0, 0⟩ with lock := 7 } } a1 a2 a3 a4 w1 w2 w3 w4 := hs'.putClk (k := 0) (j := 5) (y := .int .i64 7) hr' (by omega) (by omega) rfl (fun A c => rfl)
  have HST := Lib.hid hst
  clear x0
  obtain ⟨x0, -⟩ := hs'.bx 0 _ rfl
  clear hcell hst hr' hs' x1 x2 x3 y3
  simp only [Exit.then, Exit.inBlock, ↓reduceIte]
  obtain ⟨F1, rfl⟩ := hF.open_
  rw [slT_listT (by omega)] at q6 q7 q8
  rw [lit188, q6, q7, q8]
  clear hF q6 q7 q8
  go_wp2
  refine HK0.out _ _ ?_
  exact HST.out.done HPL.out.ok (HPL.out.ok1 HR.out) HPL.out.right (copy1 HR.out rfl) _ ⟨rfl, rfl⟩ rfl rfl rfl

set_option maxRecDepth 1000000 in
set_option maxHeartbeats 8000000 in
theorem cp_case2 (w W : World) (gs gw Bs n B : Nat) (p : Sh) (s : Chip) (a1 a2 a3 a4 w1 w2 w3 w4 : Value) (m : Nat) (what : Int) (hpq : PickIs what 8 2) (hpl : Plain s) (hcl : ∀ (i : Nat) (c : Dev), s.devs[i]? = some c → 0 ≤ c.clamp ∧ c.clamp ≤ 2) (hm : m + 1 = s.devs.length)
    (hs : CpS w W gs gw Bs n B p s s a1 a2 a3 a4 w1 w2 w3 w4)
    (a : Act) (ha : FrN 188 a) (h1 : slT a 1 = .int .i64 what) (h6 : slT a 6 = .pointer (some ⟨gs, 0, none⟩)) (h7 : slT a 7 = .pointer (some ⟨p.g0, 0, none⟩)) (h8 : slT a 8 = .pointer (some ⟨gw, 0, none⟩)) (h9 : slT a 9 = .int .i64 (m : Nat)) : Code.wp Try.prog cpPick (bodyPost Try.prog Try.f6 (TellsB true w)) a W := by
  have HPQ : RowKit.Hid (PickIs what 8 2) := hpq
  have HPL := Lib.hid hpl
  have HCL := Lib.hid hcl
  have HM := Lib.hid hm
  have HS := Lib.hid hs
  have b1 := hpl.nc
  have b2 := hpl.nd
  have b3 := hpl.nr
  have b4 := hpl.nv
  have l1 := hs.e1
  have l2 := hs.e2
  have l3 := hs.e3
  have l4 := hs.e4
  rw [l1] at b1; rw [l2] at b2; rw [l3] at b3; rw [l4] at b4
  have HL1 := Lib.hid l1
  have HL2 := Lib.hid l2
  have HL3 := Lib.hid l3
  have HL4 := Lib.hid l4
  have j1 : (0 : Int) < (p.n1 : Int) := by omega
  have j2 : (0 : Int) < (p.n2 : Int) := by omega
  have j3 : (0 : Int) < (p.n3 : Int) := by omega
  have j4 : (0 : Int) < (p.n4 : Int) := by omega
  have k1 : 0 < p.n1 := by omega
  have k2 : 0 < p.n2 := by omega
  have k3 : 0 < p.n3 := by omega
  have k4 : 0 < p.n4 := by omega
  have i0 : (0 : Int) ≤ (m : Int) := by omega
  have i1 : (m : Int) < (p.n4 : Int) := by omega
  obtain ⟨x0, -⟩ := hs.bx 0 _ rfl
  obtain ⟨x1, -⟩ := hs.bx 1 _ rfl
  obtain ⟨x2, -⟩ := hs.bx 2 _ rfl
  obtain ⟨x3, y3⟩ := hs.bx 3 _ rfl
  have hr := List.getElem?_eq_getElem (l := s.doms) (i := 0) (by omega)
  generalize s.doms[0]'_ = x at hr
  have hcell := hs.domCell hr
  have e0 : W.cell? ⟨p.g2, 2, none⟩ = some (.bool x.ret) := (hcell 2 _ rfl).1
  have e1 : W.frozen? ⟨p.g2, 2, none⟩ = false := (hcell 2 _ rfl).2
  have hst : CpS w (W.setCell ⟨p.g2, 2, none⟩ (.bool (!x.ret))) gs gw Bs n B p s { s with doms := s.doms.set 0 { x with ret := !x.ret } } a1 a2 a3 a4 w1 w2 w3 w4 := hs.putDom (k := 0) (j := 2) (y := .bool (!x.ret)) (x' := { x with ret := !x.ret }) hr (by omega) rfl
  have HST := Lib.hid hst
  have HR := Lib.hid hr
  clear hcell hst hr
  clear hpq hpl hcl hm hs l1 l2 l3 l4 b1 b2 b3 b4
  obtain ⟨F, rfl⟩ := ha.open_
  rw [slT_listT (by omega)] at h1 h6 h7 h8 h9
  rw [lit188, h1, h6, h7, h8, h9]
  clear ha h1 h6 h7 h8 h9
  conv => arg 2; whnf
  go_upto_region 37 with fail
  rename_i K0 hK0 K1 hK1 K2 hK2
  have HK0 := Lib.hid hK0
  clear hK0
  go_wp2_with fail
  refine (HPQ.out _).mono ?_
  rintro e wq ⟨rfl, rfl⟩
  clear HPQ
  go_wp2
  go_still_tail 10, (by kernel_rfl)
  change wpList _ _ _ _ _ W.drew
  go_wp2
  refine HK0.out _ _ ?_
  exact (HST.out.calm (drew_moved _)).done HPL.out.ok (HPL.out.ok.setDom (show wfI x.above from HPL.out.ok.doms x (List.mem_of_getElem? HR.out))) HPL.out.right (copy2 HR.out) _ ⟨rfl, rfl⟩ rfl rfl rfl

set_option maxRecDepth 1000000 in
set_option maxHeartbeats 8000000 in
theorem cp_case3 (w W : World) (gs gw Bs n B : Nat) (p : Sh) (s : Chip) (a1 a2 a3 a4 w1 w2 w3 w4 : Value) (m : Nat) (what : Int) (hpq : PickIs what 8 3) (hpl : Plain s) (hcl : ∀ (i : Nat) (c : Dev), s.devs[i]? = some c → 0 ≤ c.clamp ∧ c.clamp ≤ 2) (hm : m + 1 = s.devs.length)
    (hs : CpS w W gs gw Bs n B p s s a1 a2 a3 a4 w1 w2 w3 w4)
    (a : Act) (ha : FrN 188 a) (h1 : slT a 1 = .int .i64 what) (h6 : slT a 6 = .pointer (some ⟨gs, 0, none⟩)) (h7 : slT a 7 = .pointer (some ⟨p.g0, 0, none⟩)) (h8 : slT a 8 = .pointer (some ⟨gw, 0, none⟩)) (h9 : slT a 9 = .int .i64 (m : Nat)) : Code.wp Try.prog cpPick (bodyPost Try.prog Try.f6 (TellsB true w)) a W := by
  have HPQ : RowKit.Hid (PickIs what 8 3) := hpq
  have HPL := Lib.hid hpl
  have HCL := Lib.hid hcl
  have HM := Lib.hid hm
  have HS := Lib.hid hs
  have b1 := hpl.nc
  have b2 := hpl.nd
  have b3 := hpl.nr
  have b4 := hpl.nv
  have l1 := hs.e1
  have l2 := hs.e2
  have l3 := hs.e3
  have l4 := hs.e4
  rw [l1] at b1; rw [l2] at b2; rw [l3] at b3; rw [l4] at b4
  have HL1 := Lib.hid l1
  have HL2 := Lib.hid l2
  have HL3 := Lib.hid l3
  have HL4 := Lib.hid l4
  have j1 : (0 : Int) < (p.n1 : Int) := by omega
  have j2 : (0 : Int) < (p.n2 : Int) := by omega
  have j3 : (0 : Int) < (p.n3 : Int) := by omega
  have j4 : (0 : Int) < (p.n4 : Int) := by omega
  have k1 : 0 < p.n1 := by omega
  have k2 : 0 < p.n2 := by omega
  have k3 : 0 < p.n3 := by omega
  have k4 : 0 < p.n4 := by omega
  have i0 : (0 : Int) ≤ (m : Int) := by omega
  have i1 : (m : Int) < (p.n4 : Int) := by omega
  obtain ⟨x0, -⟩ := hs.bx 0 _ rfl
  obtain ⟨x1, -⟩ := hs.bx 1 _ rfl
  obtain ⟨x2, -⟩ := hs.bx 2 _ rfl
  obtain ⟨x3, y3⟩ := hs.bx 3 _ rfl
  have hr := List.getElem?_eq_getElem (l := s.rsts) (i := 0) (by omega)
  generalize s.rsts[0]'_ = x at hr
  have hcell := hs.rstCell hr
  have hb := hpl.rstL 0 x hr
  have e0 : W.cell? ⟨p.g3, 0, none⟩ = some (.int .i64 x.least) := (hcell 0 _ rfl).1
  have e1 : W.frozen? ⟨p.g3, 0, none⟩ = false := (hcell 0 _ rfl).2
  have hst : CpS w (W.setCell ⟨p.g3, 0, none⟩ (.int .i64 (x.least + 1))) gs gw Bs n B p s { s with rsts := s.rsts.set 0 { x with least := x.least + 1 } } a1 a2 a3 a4 w1 w2 w3 w4 := hs.putRst (k := 0) (j := 0) (y := .int .i64 (x.least + 1)) (x' := { x with least := x.least + 1 }) hr (by omega) rfl
  have HST := Lib.hid hst
  have HR := Lib.hid hr
  have hb1 := hb.1
  have hb2 := hb.2
  clear hcell hst hr hb
  clear hpq hpl hcl hm hs l1 l2 l3 l4 b1 b2 b3 b4
  obtain ⟨F, rfl⟩ := ha.open_
  rw [slT_listT (by omega)] at h1 h6 h7 h8 h9
  rw [lit188, h1, h6, h7, h8, h9]
  clear ha h1 h6 h7 h8 h9
  conv => arg 2; whnf
  go_upto_region 37 with fail
  rename_i K0 hK0 K1 hK1 K2 hK2
  have HK0 := Lib.hid hK0
  clear hK0
  go_wp2_with fail
  refine (HPQ.out _).mono ?_
  rintro e wq ⟨rfl, rfl⟩
  clear HPQ
  go_wp2
  refine HK0.out _ _ ?_
  exact HST.out.done HPL.out.ok HPL.out.ok.setRst HPL.out.right (copy3 HR.out) _ ⟨rfl, rfl⟩ rfl rfl rfl

set_option maxRecDepth 1000000 in
set_option maxHeartbeats 8000000 in
theorem cp_case4 (w W : World) (gs gw Bs n B : Nat) (p : Sh) (s : Chip) (a1 a2 a3 a4 w1 w2 w3 w4 : Value) (m : Nat) (what : Int) (hpq : PickIs what 8 4) (hpl : Plain s) (hcl : ∀ (i : Nat) (c : Dev), s.devs[i]? = some c → 0 ≤ c.clamp ∧ c.clamp ≤ 2) (hm : m + 1 = s.devs.length)
    (hs : CpS w W gs gw Bs n B p s s a1 a2 a3 a4 w1 w2 w3 w4)
    (a : Act) (ha : FrN 188 a) (h1 : slT a 1 = .int .i64 what) (h6 : slT a 6 = .pointer (some ⟨gs, 0, none⟩)) (h7 : slT a 7 = .pointer (some ⟨p.g0, 0, none⟩)) (h8 : slT a 8 = .pointer (some ⟨gw, 0, none⟩)) (h9 : slT a 9 = .int .i64 (m : Nat)) : Code.wp Try.prog cpPick (bodyPost Try.prog Try.f6 (TellsB true w)) a W := by
  have HPQ : RowKit.Hid (PickIs what 8 4) := hpq
  have HPL := Lib.hid hpl
  have HCL := Lib.hid hcl
  have HM := Lib.hid hm
  have HS := Lib.hid hs
  have b1 := hpl.nc
  have b2 := hpl.nd
  have b3 := hpl.nr
  have b4 := hpl.nv
  have l1 := hs.e1
  have l2 := hs.e2
  have l3 := hs.e3
  have l4 := hs.e4
  rw [l1] at b1; rw [l2] at b2; rw [l3] at b3; rw [l4] at b4
  have HL1 := Lib.hid l1
  have HL2 := Lib.hid l2
  have HL3 := Lib.hid l3
  have HL4 := Lib.hid l4
  have j1 : (0 : Int) < (p.n1 : Int) := by omega
  have j2 : (0 : Int) < (p.n2 : Int) := by omega
  have j3 : (0 : Int) < (p.n3 : Int) := by omega
  have j4 : (0 : Int) < (p.n4 : Int) := by omega
  have k1 : 0 < p.n1 := by omega
  have k2 : 0 < p.n2 := by omega
  have k3 : 0 < p.n3 := by omega
  have k4 : 0 < p.n4 := by omega
  have i0 : (0 : Int) ≤ (m : Int) := by omega
  have i1 : (m : Int) < (p.n4 : Int) := by omega
  obtain ⟨x0, -⟩ := hs.bx 0 _ rfl
  obtain ⟨x1, -⟩ := hs.bx 1 _ rfl
  obtain ⟨x2, -⟩ := hs.bx 2 _ rfl
  obtain ⟨x3, y3⟩ := hs.bx 3 _ rfl
  have hr := List.getElem?_eq_getElem (l := s.devs) (i := m) (by omega)
  generalize s.devs[m]'_ = x at hr
  obtain ⟨A, c, A', c', hcell⟩ := hs.devCell hr
  have hb := hcl m x hr
  obtain ⟨e0, e1⟩ := hcell 3 _ rfl
  have hst := hs.putDev (k := m) (j := 3) (y := .int .u32 (x.clamp + 1)) (x' := { x with clamp := x.clamp + 1 }) hr (by omega) (by omega) rfl rfl (fun A c A' c' => rfl)
  have HST := Lib.hid hst
  have HR := Lib.hid hr
  have hb1 := hb.1
  have hb2 := hb.2
  clear hcell hst hr hb
  clear hpq hpl hcl hm hs l1 l2 l3 l4 b1 b2 b3 b4
  obtain ⟨F, rfl⟩ := ha.open_
  rw [slT_listT (by omega)] at h1 h6 h7 h8 h9
  rw [lit188, h1, h6, h7, h8, h9]
  clear ha h1 h6 h7 h8 h9
  conv => arg 2; whnf
  go_upto_region 37 with fail
  rename_i K0 hK0 K1 hK1 K2 hK2
  have HK0 := Lib.hid hK0
  clear hK0
  go_wp2_with fail
  refine (HPQ.out _).mono ?_
  rintro e wq ⟨rfl, rfl⟩
  clear HPQ
  go_wp2
  refine HK0.out _ _ ?_
  exact HST.out.done HPL.out.ok (HPL.out.ok.setDev (HPL.out.ok.devs x (List.mem_of_getElem? HR.out))) HPL.out.right (copy4 HR.out (by omega)) _ ⟨rfl, rfl⟩ rfl rfl rfl

set_option maxRecDepth 1000000 in
set_option maxHeartbeats 8000000 in
theorem cp_case5 (w W : World) (gs gw Bs n B : Nat) (p : Sh) (s : Chip) (a1 a2 a3 a4 w1 w2 w3 w4 : Value) (m : Nat) (what : Int) (hpq : PickIs what 8 5) (hpl : Plain s) (hcl : ∀ (i : Nat) (c : Dev), s.devs[i]? = some c → 0 ≤ c.clamp ∧ c.clamp ≤ 2) (hm : m + 1 = s.devs.length)
    (hs : CpS w W gs gw Bs n B p s s a1 a2 a3 a4 w1 w2 w3 w4)
    (a : Act) (ha : FrN 188 a) (h1 : slT a 1 = .int .i64 what) (h6 : slT a 6 = .pointer (some ⟨gs, 0, none⟩)) (h7 : slT a 7 = .pointer (some ⟨p.g0, 0, none⟩)) (h8 : slT a 8 = .pointer (some ⟨gw, 0, none⟩)) (h9 : slT a 9 = .int .i64 (m : Nat)) : Code.wp Try.prog cpPick (bodyPost Try.prog Try.f6 (TellsB true w)) a W := by
  have HPQ : RowKit.Hid (PickIs what 8 5) := hpq
  have HPL := Lib.hid hpl
  have HCL := Lib.hid hcl
  have HM := Lib.hid hm
  have HS := Lib.hid hs
  have b1 := hpl.nc
  have b2 := hpl.nd
  have b3 := hpl.nr
  have b4 := hpl.nv
  have l1 := hs.e1
  have l2 := hs.e2
  have l3 := hs.e3
  have l4 := hs.e4
  rw [l1] at b1; rw [l2] at b2; rw [l3] at b3; rw [l4] at b4
  have HL1 := Lib.hid l1
  have HL2 := Lib.hid l2
  have HL3 := Lib.hid l3
  have HL4 := Lib.hid l4
  have j1 : (0 : Int) < (p.n1 : Int) := by omega
  have j2 : (0 : Int) < (p.n2 : Int) := by omega
  have j3 : (0 : Int) < (p.n3 : Int) := by omega
  have j4 : (0 : Int) < (p.n4 : Int) := by omega
  have k1 : 0 < p.n1 := by omega
  have k2 : 0 < p.n2 := by omega
  have k3 : 0 < p.n3 := by omega
  have k4 : 0 < p.n4 := by omega
  have i0 : (0 : Int) ≤ (m : Int) := by omega
  have i1 : (m : Int) < (p.n4 : Int) := by omega
  obtain ⟨x0, -⟩ := hs.bx 0 _ rfl
  obtain ⟨x1, -⟩ := hs.bx 1 _ rfl
  obtain ⟨x2, -⟩ := hs.bx 2 _ rfl
  obtain ⟨x3, y3⟩ := hs.bx 3 _ rfl
  have hr := List.getElem?_eq_getElem (l := s.devs) (i := m) (by omega)
  generalize s.devs[m]'_ = x at hr
  obtain ⟨A, c, lo, hlo, e0, e1, hown, hc4, hc0, hst⟩ := hs.needAt hr (by omega)
  have hxl := (hpl.devL m x hr).1
  obtain ⟨nx, hnx⟩ : ∃ nx, nx = x.needs.length := ⟨_, rfl⟩
  rw [← hnx] at e0 hown hc4 hc0 hst hxl
  have HNX := Lib.hid hnx
  have HE0 := Lib.hid e0
  have HE1 := Lib.hid e1
  have HOWN := Lib.hid hown
  have HC4 := Lib.hid hc4
  have HC0 := Lib.hid hc0
  have HST := Lib.hid hst
  have HR := Lib.hid hr
  have HX3 := Lib.hid x3
  have hcs2 := Lib.cell?_alloc_some (Obj.cells #[.int .i64 0] 3) e0
  have x3' := Lib.cell?_alloc_some (Obj.cells #[.int .i64 0] 3) x3
  have hnx2 : nx ≤ 2 := hxl
  clear hown hc4 hc0 hst hr hnx hxl
  clear hpq hpl hcl hm hs l1 l2 l3 l4 b1 b2 b3 b4
  obtain ⟨F, rfl⟩ := ha.open_
  rw [slT_listT (by omega)] at h1 h6 h7 h8 h9
  rw [lit188, h1, h6, h7, h8, h9]
  clear ha h1 h6 h7 h8 h9
  conv => arg 2; whnf
  go_upto_region 37 with fail
  rename_i K0 hK0 K1 hK1 K2 hK2
  have HK0 := Lib.hid hK0
  clear hK0
  go_wp2_with fail
  refine (HPQ.out _).mono ?_
  rintro e wq ⟨rfl, rfl⟩
  clear HPQ
  obtain ⟨i0', hi, hz0, hz1, hz2'⟩ := info_parts Try.info3
  go_wp2
  go_region_law (refine step_append_lies _ (by rfl) (.tmp 122) (.tmp 123) _ (by rfl) lo 3 i0' _ 1 8 Try.underlying37 hi hz0 hz1 hz2' rfl (by omega) (.slice A nx c) nx _ (by rfl) ((HOWN.out.alloc _).drew) ⟨W.heap.size, 0, none⟩ 1 1 [.int .i64 0] (by rfl) (by rfl) (World.news_of_block (cs := #[.int .i64 0]) (t := 3) (fr := (0, 0)) (heap_alloc_new W _)) (iv_one [(0 : Int)]) (by omega) (by unfold maxLen; omega) (by omega) (by simp; omega) (W.heap.size + 1) (by simp) ?_; intro g7 cap7 w7 hown7 hg7 hat7 hlt7; have hg8 : (W.alloc (.cells #[.int .i64 0] 3)).grownBy w7 (Value.slice A nx c).ownBlock := (grown_of_below ((Below.refl (W.alloc (.cells #[.int .i64 0] 3)).heap.size (W.alloc (.cells #[.int .i64 0] 3))).drew) _).trans hg7; have hm7 : Moved (Value.slice A nx c).ownBlock.toList W w7 := (Moved.alloc W _).trans (Moved.of_grown hg8 (fun k hk => by simp [hk])); have hc7 := hm7.cell HE0.out HC4.out; have hd7 := hm7.cell HX3.out HC0.out; have hf7 := (hm7.frozen (p := ⟨p.g4, m * 6 + 5, none⟩) (World.block_lt_of_cell? W ⟨p.g4, m * 6 + 5, none⟩ HE0.out) HC4.out).trans HE1.out)
  all_goals
    refine HK0.out _ _ ?_
    obtain ⟨Wz, hWz, hA, hC, hK, hbz⟩ := HST.out _ w7 _ 0 (Moved.alloc W _) hown7 hg8 (by rcases hat7 with h | h; exact .inl h.symm; exact .inr (by rw [h]; simp [Value.ownBlock]))
    rw [← hWz]
    exact copies_end w Wz gs p.g0 gw Bs _ _ s { s with devs := s.devs.set m { x with needs := x.needs ++ [0] } } a1 a2 a3 a4 _ _ _ _ w1 w2 w3 w4 HPL.out.ok (HPL.out.ok.setDev (by have := HPL.out.ok.devs x (List.mem_of_getElem? HR.out); refine ⟨this.1, by have := HNX.out; simp; omega, fun y hy => ?_⟩; rcases List.mem_append.1 hy with hy | hy; exact this.2.2 y hy; simp at hy; subst hy; unfold wfI; omega)) HPL.out.right (copy5 HR.out 0) hA hC hK hbz _ ⟨rfl, rfl⟩ rfl rfl rfl

set_option maxRecDepth 1000000 in
set_option maxHeartbeats 8000000 in
theorem cp_case6 (w W : World) (gs gw Bs n B : Nat) (p : Sh) (s : Chip) (a1 a2 a3 a4 w1 w2 w3 w4 : Value) (m : Nat) (what : Int) (hpq : PickIs what 8 6) (hpl : Plain s) (hcl : ∀ (i : Nat) (c : Dev), s.devs[i]? = some c → 0 ≤ c.clamp ∧ c.clamp ≤ 2) (hm : m + 1 = s.devs.length)
    (hs : CpS w W gs gw Bs n B p s s a1 a2 a3 a4 w1 w2 w3 w4)
    (a : Act) (ha : FrN 188 a) (h1 : slT a 1 = .int .i64 what) (h6 : slT a 6 = .pointer (some ⟨gs, 0, none⟩)) (h7 : slT a 7 = .pointer (some ⟨p.g0, 0, none⟩)) (h8 : slT a 8 = .pointer (some ⟨gw, 0, none⟩)) (h9 : slT a 9 = .int .i64 (m : Nat)) : Code.wp Try.prog cpPick (bodyPost Try.prog Try.f6 (TellsB true w)) a W := by
  have HPQ : RowKit.Hid (PickIs what 8 6) := hpq
  have HPL := Lib.hid hpl
  have HCL := Lib.hid hcl
  have HM := Lib.hid hm
  have HS := Lib.hid hs
  have b1 := hpl.nc
  have b2 := hpl.nd
  have b3 := hpl.nr
  have b4 := hpl.nv
  have l1 := hs.e1
  have l2 := hs.e2
  have l3 := hs.e3
  have l4 := hs.e4
  rw [l1] at b1; rw [l2] at b2; rw [l3] at b3; rw [l4] at b4
  have HL1 := Lib.hid l1
  have HL2 := Lib.hid l2
  have HL3 := Lib.hid l3
  have HL4 := Lib.hid l4
  have j1 : (0 : Int) < (p.n1 : Int) := by omega
  have j2 : (0 : Int) < (p.n2 : Int) := by omega
  have j3 : (0 : Int) < (p.n3 : Int) := by omega
  have j4 : (0 : Int) < (p.n4 : Int) := by omega
  have k1 : 0 < p.n1 := by omega
  have k2 : 0 < p.n2 := by omega
  have k3 : 0 < p.n3 := by omega
  have k4 : 0 < p.n4 := by omega
  have i0 : (0 : Int) ≤ (m : Int) := by omega
  have i1 : (m : Int) < (p.n4 : Int) := by omega
  obtain ⟨x0, -⟩ := hs.bx 0 _ rfl
  obtain ⟨x1, -⟩ := hs.bx 1 _ rfl
  obtain ⟨x2, -⟩ := hs.bx 2 _ rfl
  obtain ⟨x3, y3⟩ := hs.bx 3 _ rfl
  have hr := List.getElem?_eq_getElem (l := s.devs) (i := m) (by omega)
  generalize s.devs[m]'_ = x at hr
  have hz := List.getElem?_eq_getElem (l := s.devs) (i := 0) (by omega)
  generalize s.devs[0]'_ = z at hz
  have hd : ∃ d, (s.devs.set m (turned x))[0]? = some d ∧ d.domain = z.domain ∧ d.needs = z.needs ∧ d.regs.length ≤ 1000 := by
    by_cases hm0 : m = 0
    · subst hm0
      rw [hz] at hr
      obtain rfl := Option.some.inj hr
      exact ⟨turned z, List.getElem?_set_self (by omega), rfl, rfl, by have := (hpl.ok.devs z (List.mem_of_getElem? hz)).1; simpa [turned] using this⟩
    · exact ⟨z, by rw [List.getElem?_set_ne hm0]; exact hz, rfl, rfl, (hpl.ok.devs z (List.mem_of_getElem? hz)).1⟩
  obtain ⟨d, hd0, hd1, hd2, hd3⟩ := hd
  have hdm := hpl.devM 0 z hz
  have HR := Lib.hid hr
  have HZ := Lib.hid hz
  have HD0 := Lib.hid hd0
  have HD1 := Lib.hid hd1
  have HD2 := Lib.hid hd2
  have HD3 := Lib.hid hd3
  have q1 : 0 ≤ d.domain := by omega
  have q2 : d.domain ≤ 4 := by omega
  clear hr hz hd0 hd1 hd2 hd3 hdm
  clear hpq hpl hcl hm hs l1 l2 l3 l4 b1 b2 b3 b4
  obtain ⟨F, rfl⟩ := ha.open_
  rw [slT_listT (by omega)] at h1 h6 h7 h8 h9
  rw [lit188, h1, h6, h7, h8, h9]
  clear ha h1 h6 h7 h8 h9
  conv => arg 2; whnf
  go_upto_region 37 with fail
  rename_i K0 hK0 K1 hK1 K2 hK2
  have HK0 := Lib.hid hK0
  clear hK0
  go_wp2_with fail
  refine (HPQ.out _).mono ?_
  rintro e wq ⟨rfl, rfl⟩
  clear HPQ
  go_wp2
  refine cp6_any w W gs gw Bs n B p s s a1 a2 a3 a4 w1 w2 w3 w4 m x HR.out (HPL.out.ok.devs x (List.mem_of_getElem? HR.out)).1 HPL.out.ok.n4 HS.out _ ⟨rfl, rfl⟩ rfl rfl rfl rfl rfl _ ?_
  intro a' W' hF q6 q7 q8 hs'
  obtain ⟨A, c, A', c', hcell⟩ := hs'.devCell HD0.out
  have e0 : W'.cell? ⟨p.g4, 1, none⟩ = some (.int .i64 d.domain) := (hcell 1 _ rfl).1
  have e1 : W'.frozen? ⟨p.g4, 1, none⟩ = false := (hcell 1 _ rfl).2
  have hst : CpS w (W'.setCell ⟨p.g4, 1, none⟩ (.int .i64 (d.domain + 1))) gs gw Bs n B p s { s with devs := (s.devs.set m (turned x)).set 0 { d with domain := d.domain + 1 } } a1 a2 a3 a4 w1 w2 w3 w4 := hs'.putDev (k := 0) (j := 1) (y := .int .i64 (d.domain + 1)) (x' := { d with domain := d.domain + 1 }) HD0.out (by omega) (by omega) rfl rfl (fun A c A' c' => rfl)
  have HST := Lib.hid hst
  clear x3 y3
  obtain ⟨x3, -⟩ := hs'.bx 3 _ rfl
  clear hcell hst hs' x0 x1 x2
  simp only [Exit.then, Exit.inBlock, ↓reduceIte]
  obtain ⟨F1, rfl⟩ := hF.open_
  rw [slT_listT (by omega)] at q6 q7 q8
  rw [lit188, q6, q7, q8]
  clear hF q6 q7 q8
  go_wp2
  refine HK0.out _ _ ?_
  have ok1 : ChipOk { s with devs := s.devs.set m (turned x) } := HPL.out.ok.setDev (by have := HPL.out.ok.devs x (List.mem_of_getElem? HR.out); exact ⟨by simpa [turned] using this.1, this.2⟩)
  have hz3 := (HPL.out.ok.devs z (List.mem_of_getElem? HZ.out)).2
  exact HST.out.done HPL.out.ok (ok1.setDev (s := { s with devs := s.devs.set m (turned x) }) ⟨HD3.out, by show d.needs.length ≤ 1000 ∧ _; rw [HD2.out]; exact hz3⟩) HPL.out.right (copy6 HZ.out HD0.out HD1.out) _ ⟨rfl, rfl⟩ rfl rfl rfl

set_option maxRecDepth 1000000 in
set_option maxHeartbeats 8000000 in
theorem cp_case7 (w W : World) (gs gw Bs n B : Nat) (p : Sh) (s : Chip) (a1 a2 a3 a4 w1 w2 w3 w4 : Value) (m : Nat) (what : Int) (hpq : PickIs what 8 7) (hpl : Plain s) (hcl : ∀ (i : Nat) (c : Dev), s.devs[i]? = some c → 0 ≤ c.clamp ∧ c.clamp ≤ 2) (hm : m + 1 = s.devs.length)
    (hs : CpS w W gs gw Bs n B p s s a1 a2 a3 a4 w1 w2 w3 w4)
    (a : Act) (ha : FrN 188 a) (h1 : slT a 1 = .int .i64 what) (h6 : slT a 6 = .pointer (some ⟨gs, 0, none⟩)) (h7 : slT a 7 = .pointer (some ⟨p.g0, 0, none⟩)) (h8 : slT a 8 = .pointer (some ⟨gw, 0, none⟩)) (h9 : slT a 9 = .int .i64 (m : Nat)) : Code.wp Try.prog cpPick (bodyPost Try.prog Try.f6 (TellsB true w)) a W := by
  have HPQ : RowKit.Hid (PickIs what 8 7) := hpq
  have HPL := Lib.hid hpl
  have HCL := Lib.hid hcl
  have HM := Lib.hid hm
  have HS := Lib.hid hs
  have b1 := hpl.nc
  have b2 := hpl.nd
  have b3 := hpl.nr
  have b4 := hpl.nv
  have l1 := hs.e1
  have l2 := hs.e2
  have l3 := hs.e3
  have l4 := hs.e4
  rw [l1] at b1; rw [l2] at b2; rw [l3] at b3; rw [l4] at b4
  have HL1 := Lib.hid l1
  have HL2 := Lib.hid l2
  have HL3 := Lib.hid l3
  have HL4 := Lib.hid l4
  have j1 : (0 : Int) < (p.n1 : Int) := by omega
  have j2 : (0 : Int) < (p.n2 : Int) := by omega
  have j3 : (0 : Int) < (p.n3 : Int) := by omega
  have j4 : (0 : Int) < (p.n4 : Int) := by omega
  have k1 : 0 < p.n1 := by omega
  have k2 : 0 < p.n2 := by omega
  have k3 : 0 < p.n3 := by omega
  have k4 : 0 < p.n4 := by omega
  have i0 : (0 : Int) ≤ (m : Int) := by omega
  have i1 : (m : Int) < (p.n4 : Int) := by omega
  obtain ⟨x0, -⟩ := hs.bx 0 _ rfl
  obtain ⟨x1, -⟩ := hs.bx 1 _ rfl
  obtain ⟨x2, -⟩ := hs.bx 2 _ rfl
  obtain ⟨x3, y3⟩ := hs.bx 3 _ rfl
  have hcap := hs.cap
  obtain ⟨Wz, hWz, hA, hC, hK, hbz⟩ := hs.less (m := m) (by omega)
  have HWZ := Lib.hid hWz
  have HA := Lib.hid hA
  have HC := Lib.hid hC
  have HK := Lib.hid hK
  have HBZ := Lib.hid hbz
  have m1 : m ≤ p.c4 := by omega
  have m2 : ¬ p.c4 = 0 := by omega
  have m3 : (m : Int) ≤ (p.c4 : Int) := by omega
  clear hWz hA hC hK hbz
  clear hpq hpl hcl hm hs l1 l2 l3 l4 b1 b2 b3 b4
  obtain ⟨F, rfl⟩ := ha.open_
  rw [slT_listT (by omega)] at h1 h6 h7 h8 h9
  rw [lit188, h1, h6, h7, h8, h9]
  clear ha h1 h6 h7 h8 h9
  conv => arg 2; whnf
  go_upto_region 37 with fail
  rename_i K0 hK0 K1 hK1 K2 hK2
  have HK0 := Lib.hid hK0
  clear hK0
  go_wp2_with fail
  refine (HPQ.out _).mono ?_
  rintro e wq ⟨rfl, rfl⟩
  clear HPQ
  go_wp2
  refine HK0.out _ _ ?_
  rw [← HWZ.out]
  exact copies_end w Wz gs p.g0 gw Bs _ _ s { s with devs := s.devs.take (s.devs.length - 1) } a1 a2 a3 a4 _ _ _ _ w1 w2 w3 w4 HPL.out.ok ⟨HPL.out.ok.n1, HPL.out.ok.n2, HPL.out.ok.n3, by have := HPL.out.ok.n4; simp; omega, HPL.out.ok.clks, HPL.out.ok.doms, fun d hd => HPL.out.ok.devs d (List.mem_of_mem_take hd)⟩ HPL.out.right (copy7 (by have := HM.out; omega)) HA.out HC.out HK.out HBZ.out _ ⟨rfl, rfl⟩ rfl rfl rfl
end

section
set_option linter.unusedSimpArgs false
set_option linter.unusedVariables false
open Go.RowKit Go.Maps

theorem cp_cases (w W : World) (gs gw Bs n B : Nat) (p : Sh) (s : Chip) (a1 a2 a3 a4 w1 w2 w3 w4 : Value) (m : Nat) (what : Int) (hw : wfI what) (hpl : Plain s) (hcl : ∀ (i : Nat) (c : Dev), s.devs[i]? = some c → 0 ≤ c.clamp ∧ c.clamp ≤ 2) (hm : m + 1 = s.devs.length)
    (hs : CpS w W gs gw Bs n B p s s a1 a2 a3 a4 w1 w2 w3 w4)
    (a : Act) (ha : FrN 188 a) (h1 : slT a 1 = .int .i64 what) (h6 : slT a 6 = .pointer (some ⟨gs, 0, none⟩)) (h7 : slT a 7 = .pointer (some ⟨p.g0, 0, none⟩)) (h8 : slT a 8 = .pointer (some ⟨gw, 0, none⟩)) (h9 : slT a 9 = .int .i64 (m : Nat)) : Code.wp Try.prog cpPick (bodyPost Try.prog Try.f6 (TellsB true w)) a W := by
  obtain ⟨q, hq, hpq⟩ := pick_ex (n := 8) hw (by omega) (by omega)
  have hq8 : q = 0 ∨ q = 1 ∨ q = 2 ∨ q = 3 ∨ q = 4 ∨ q = 5 ∨ q = 6 ∨ q = 7 := by omega
  rcases hq8 with rfl | rfl | rfl | rfl | rfl | rfl | rfl | rfl
  · exact cp_case0 w W gs gw Bs n B p s a1 a2 a3 a4 w1 w2 w3 w4 m what hpq hpl hcl hm hs a ha h1 h6 h7 h8 h9
  · exact cp_case1 w W gs gw Bs n B p s a1 a2 a3 a4 w1 w2 w3 w4 m what hpq hpl hcl hm hs a ha h1 h6 h7 h8 h9
  · exact cp_case2 w W gs gw Bs n B p s a1 a2 a3 a4 w1 w2 w3 w4 m what hpq hpl hcl hm hs a ha h1 h6 h7 h8 h9
  · exact cp_case3 w W gs gw Bs n B p s a1 a2 a3 a4 w1 w2 w3 w4 m what hpq hpl hcl hm hs a ha h1 h6 h7 h8 h9
  · exact cp_case4 w W gs gw Bs n B p s a1 a2 a3 a4 w1 w2 w3 w4 m what hpq hpl hcl hm hs a ha h1 h6 h7 h8 h9
  · exact cp_case5 w W gs gw Bs n B p s a1 a2 a3 a4 w1 w2 w3 w4 m what hpq hpl hcl hm hs a ha h1 h6 h7 h8 h9
  · exact cp_case6 w W gs gw Bs n B p s a1 a2 a3 a4 w1 w2 w3 w4 m what hpq hpl hcl hm hs a ha h1 h6 h7 h8 h9
  · exact cp_case7 w W gs gw Bs n B p s a1 a2 a3 a4 w1 w2 w3 w4 m what hpq hpl hcl hm hs a ha h1 h6 h7 h8 h9

/-- all three chips are made -/
theorem cp_start {w A w3 w4 : World} {gs : Nat} {s : Chip} {a1 a2 a3 a4 v1 v2 v3 v4 : Value} {g1 g2 g3 g4 n1 n2 n3 n4 c1 c2 c3 c4 : Nat} (h1 : n1 = s.clks.length) (h2 : n2 = s.doms.length) (h3 : n3 = s.rsts.length) (h4 : n4 = s.devs.length)
    (hA : Hold A.heap.size A gs s a1 a2 a3 a4) (hbl : Below w.heap.size w A)
    (ho : Own4 w3 A.heap.size s (.slice (some ⟨g1, 0, none⟩) n1 c1) (.slice (some ⟨g2, 0, none⟩) n2 c2) (.slice (some ⟨g3, 0, none⟩) n3 c3) (.slice (some ⟨g4, 0, none⟩) n4 c4))
    (hr : ∃ b2 b3 t u, FromsAt A w3 b2 b3 s (.slice (some ⟨g1, 0, none⟩) n1 c1) (.slice (some ⟨g2, 0, none⟩) n2 c2) (.slice (some ⟨g3, 0, none⟩) n3 c3) (.slice (some ⟨g4, 0, none⟩) n4 c4) t s.clks.length ∧ DevsAt w3 b2 b3 s (.slice (some ⟨g1, 0, none⟩) n1 c1) (.slice (some ⟨g2, 0, none⟩) n2 c2) (.slice (some ⟨g3, 0, none⟩) n3 c3) (.slice (some ⟨g4, 0, none⟩) n4 c4) (t s.clks.length) u (2 * s.devs.length))
    (hb3 : Below A.heap.size A w3) (C : World) (hC : C = w3.alloc (.cells #[.slice (some ⟨g1, 0, none⟩) n1 c1, .slice (some ⟨g2, 0, none⟩) n2 c2, .slice (some ⟨g3, 0, none⟩) n3 c3, .slice (some ⟨g4, 0, none⟩) n4 c4] 27))
    (hl : OwnL (List.range C.heap.size) w4 C.heap.size s v1 v2 v3 v4) (hb4 : Below C.heap.size C w4) :
    CpS w (w4.alloc (.cells #[v1, v2, v3, v4] 27)) gs w4.heap.size A.heap.size C.heap.size A.heap.size ⟨w3.heap.size, g1, g2, g3, g4, n1, n2, n3, n4, c1, c2, c3, c4⟩ s s a1 a2 a3 a4 v1 v2 v3 v4 := by
  subst hC
  have hbC := hb3.alloc hb3.size (.cells #[.slice (some ⟨g1, 0, none⟩) n1 c1, .slice (some ⟨g2, 0, none⟩) n2 c2, .slice (some ⟨g3, 0, none⟩) n3 c3, .slice (some ⟨g4, 0, none⟩) n4 c4] 27)
  have hz3 := hb3.size
  have hz4 := hb4.size
  simp only [World.size_alloc] at hz4
  obtain ⟨t, u, hfl, hu⟩ := Flat.make h1 h2 h3 h4 ho hr (.cells #[.slice (some ⟨g1, 0, none⟩) n1 c1, .slice (some ⟨g2, 0, none⟩) n2 c2, .slice (some ⟨g3, 0, none⟩) n3 c3, .slice (some ⟨g4, 0, none⟩) n4 c4] 27)
  have hm : Moved [] (w3.alloc (.cells #[.slice (some ⟨g1, 0, none⟩) n1 c1, .slice (some ⟨g2, 0, none⟩) n2 c2, .slice (some ⟨g3, 0, none⟩) n3 c3, .slice (some ⟨g4, 0, none⟩) n4 c4] 27)) (w4.alloc (.cells #[v1, v2, v3, v4] 27)) := (Moved.of_below hb4).trans (Moved.alloc _ _)
  have hbW : Below A.heap.size A (w4.alloc (.cells #[v1, v2, v3, v4] 27)) := hbC.trans (hm.below (by simp) hbC.size)
  obtain ⟨_, _, _, _, l1⟩ := ho.clks.shape
  obtain ⟨_, _, _, _, l2⟩ := ho.doms.shape
  obtain ⟨_, _, _, _, l3⟩ := ho.rsts.shape
  obtain ⟨_, _, _, _, l4⟩ := ho.devs.shape
  have m1 := l1 g1 rfl
  have m2 := l2 g2 rfl
  have m3 := l3 g3 rfl
  have m4 := l4 g4 rfl
  exact { hA := hA.below hbW
          fl := ⟨t, u, hfl.calm hm, by simp only [World.size_alloc]; omega⟩
          bx := (BoxAt.new w3 [.slice (some ⟨g1, 0, none⟩) n1 c1, .slice (some ⟨g2, 0, none⟩) n2 c2, .slice (some ⟨g3, 0, none⟩) n3 c3, .slice (some ⟨g4, 0, none⟩) n4 c4] 27).move hm (by simp)
          hK := KeptAt.new rfl hl (by simp only [World.size_alloc]; omega)
          hs := by
            intro b hb
            simp at hb
            simp only [World.size_alloc]
            rcases hb with rfl | rfl | rfl | rfl | rfl <;> omega
          hBs := Nat.le_refl _
          hBw := hbl.size
          hbl := hbl.trans (hbW.mono hbl.size)
          hn := by simp only [World.size_alloc]; omega }

set_option maxRecDepth 1000000 in
set_option maxHeartbeats 8000000 in
theorem copies_any (A : Option Addr) (c : Nat) (l : List Int) (what : Int) (w : World) (hl : l.length ≤ maxLen) (hwf : ∀ x, x ∈ l → wfI x) (h : IntsAt w w.heap.size A l) (hw : wfI what) :
    Calls Try.prog 6 #[.slice A l.length c, .int .i64 what] w (TellsB true w) := by
  have HL := Lib.hid hl
  have HWF := Lib.hid hwf
  have HI := Lib.hid h
  have HW := Lib.hid hw
  clear hl hwf h hw
  go_enter Try.func6, Try.ntmps6
  go_wp2_with fail
  refine (shown_any _).mono ?_
  rintro e w1 ⟨rfl, hb1⟩
  have HB1 := Lib.hid hb1
  have hz1 := hb1.size
  clear hb1
  go_wp2_with fail
  refine (chip_any A c l w1 HL.out HWF.out ((HI.out.below HB1.out (Nat.le_refl _)).more hz1)).mono ?_
  rintro e w2 ⟨v1, v2, v3, v4, rfl, hown, hb2⟩
  have hpl := plain_of l
  have hcl : ∀ (i : Nat) (c : Dev), (chipP l).devs[i]? = some c → 0 ≤ c.clamp ∧ c.clamp ≤ 2 := fun i c hc => clamp_of l hc
  obtain ⟨s, hsl⟩ : ∃ s, chipP l = s := ⟨_, rfl⟩
  rw [hsl] at hown hpl hcl
  have HSL := Lib.hid hsl
  clear hsl
  obtain ⟨k1, d1, rfl, -, -⟩ := Own5.form hown.clks (by have := hpl.nc; omega)
  obtain ⟨k2, d2, rfl, -, -⟩ := Own5.form hown.doms (by have := hpl.nd; omega)
  obtain ⟨k3, d3, rfl, -, -⟩ := Own5.form hown.rsts (by have := hpl.nr; omega)
  obtain ⟨k4, d4, rfl, -, -⟩ := Own5.form hown.devs (by have := hpl.nv; omega)
  obtain ⟨nC, hnC⟩ : ∃ n, n = s.clks.length := ⟨_, rfl⟩
  obtain ⟨nD, hnD⟩ : ∃ n, n = s.doms.length := ⟨_, rfl⟩
  obtain ⟨nR, hnR⟩ : ∃ n, n = s.rsts.length := ⟨_, rfl⟩
  obtain ⟨nV, hnV⟩ : ∃ n, n = s.devs.length := ⟨_, rfl⟩
  rw [← hnC, ← hnD, ← hnR, ← hnV] at hown ⊢
  have HN1 := Lib.hid hnC
  have HN2 := Lib.hid hnD
  have HN3 := Lib.hid hnR
  have HN4 := Lib.hid hnV
  have hbx := BoxAt.new w2 [.slice (some ⟨k1, 0, none⟩) nC d1, .slice (some ⟨k2, 0, none⟩) nD d2, .slice (some ⟨k3, 0, none⟩) nR d3, .slice (some ⟨k4, 0, none⟩) nV d4] 27
  have hba := (Below.refl w2.heap.size w2).alloc (Nat.le_refl _) (.cells #[.slice (some ⟨k1, 0, none⟩) nC d1, .slice (some ⟨k2, 0, none⟩) nD d2, .slice (some ⟨k3, 0, none⟩) nR d3, .slice (some ⟨k4, 0, none⟩) nV d4] 27)
  have hA : Hold (w2.alloc (.cells #[.slice (some ⟨k1, 0, none⟩) nC d1, .slice (some ⟨k2, 0, none⟩) nD d2, .slice (some ⟨k3, 0, none⟩) nR d3, .slice (some ⟨k4, 0, none⟩) nV d4] 27)).heap.size (w2.alloc (.cells #[.slice (some ⟨k1, 0, none⟩) nC d1, .slice (some ⟨k2, 0, none⟩) nD d2, .slice (some ⟨k3, 0, none⟩) nR d3, .slice (some ⟨k4, 0, none⟩) nV d4] 27)) w2.heap.size s (.slice (some ⟨k1, 0, none⟩) nC d1) (.slice (some ⟨k2, 0, none⟩) nD d2) (.slice (some ⟨k3, 0, none⟩) nR d3) (.slice (some ⟨k4, 0, none⟩) nV d4) := .of hbx (Steady.later hown.chip hba)
  have hbl : Below w.heap.size w (w2.alloc (.cells #[.slice (some ⟨k1, 0, none⟩) nC d1, .slice (some ⟨k2, 0, none⟩) nD d2, .slice (some ⟨k3, 0, none⟩) nR d3, .slice (some ⟨k4, 0, none⟩) nV d4] 27)) := HB1.out.trans ((hb2.mono hz1).trans (hba.mono (Nat.le_trans hz1 hb2.size)))
  have HA := Lib.hid hA
  have HBL := Lib.hid hbl
  have HPL := Lib.hid hpl
  have HCL := Lib.hid hcl
  clear hbx hba hA hbl hpl hcl hown hb2 hnC hnD hnR hnV
  go_upto_region 5 with fail
  generalize w2.heap.size = gs at *
  generalize w2.alloc (.cells #[.slice (some ⟨k1, 0, none⟩) nC d1, .slice (some ⟨k2, 0, none⟩) nD d2, .slice (some ⟨k3, 0, none⟩) nR d3, .slice (some ⟨k4, 0, none⟩) nV d4] 27) = WA at *
  obtain ⟨x0, y0⟩ := HA.out.bx 0 _ rfl
  obtain ⟨x1, y1⟩ := HA.out.bx 1 _ rfl
  obtain ⟨x2, y2⟩ := HA.out.bx 2 _ rfl
  obtain ⟨x3, y3⟩ := HA.out.bx 3 _ rfl
  go_wp2_with fail
  refine (copy_own s _ WA HPL.out.ok HA.out.chip).mono ?_
  rintro e w3 ⟨u1, u2, u3, u4, rfl, hown, hrows, hb3⟩
  obtain ⟨g1, e1, rfl, -, -⟩ := Own5.form hown.clks (by have := HPL.out.nc; omega)
  obtain ⟨g2, e2, rfl, -, -⟩ := Own5.form hown.doms (by have := HPL.out.nd; omega)
  obtain ⟨g3, e3, rfl, -, -⟩ := Own5.form hown.rsts (by have := HPL.out.nr; omega)
  obtain ⟨g4, e4, rfl, -, -⟩ := Own5.form hown.devs (by have := HPL.out.nv; omega)
  have HOWN := Lib.hid hown
  have HROWS := Lib.hid hrows
  have HB3 := Lib.hid hb3
  clear hown hrows hb3 x0 x1 x2 x3 y0 y1 y2 y3
  go_upto_region 6 with fail
  generalize hC : w3.alloc (.cells #[.slice (some ⟨g1, 0, none⟩) s.clks.length e1, .slice (some ⟨g2, 0, none⟩) s.doms.length e2, .slice (some ⟨g3, 0, none⟩) s.rsts.length e3, .slice (some ⟨g4, 0, none⟩) s.devs.length e4] 27) = C at *
  have hbC : Below WA.heap.size WA C := hC ▸ HB3.out.alloc HB3.out.size _
  have HCQ := Lib.hid hC
  have HBC := Lib.hid hbC
  clear hC hbC
  go_wp2_with fail
  refine (chip_own (List.range C.heap.size) A c l C (Lib.hid (fun b hb => List.mem_range.1 hb)) HL.out HWF.out (((HI.out.below HBL.out (Nat.le_refl _)).more HBL.out.size).below HBC.out (Nat.le_refl _) |>.more HBC.out.size)).mono ?_
  rintro e w4 ⟨u1, u2, u3, u4, rfl, hownL, hb4⟩
  rw [HSL.out] at hownL
  obtain ⟨f1, q1, rfl, -, -⟩ := Own5.form hownL.own.clks (by have := HPL.out.nc; omega)
  obtain ⟨f2, q2, rfl, -, -⟩ := Own5.form hownL.own.doms (by have := HPL.out.nd; omega)
  obtain ⟨f3, q3, rfl, -, -⟩ := Own5.form hownL.own.rsts (by have := HPL.out.nr; omega)
  obtain ⟨f4, q4, rfl, -, -⟩ := Own5.form hownL.own.devs (by have := HPL.out.nv; omega)
  have hcp := cp_start (w := w) rfl rfl rfl rfl HA.out HBL.out HOWN.out HROWS.out HB3.out C HCQ.out.symm hownL hb4
  have HCP := Lib.hid hcp
  clear hownL hb4 hcp HOWN HROWS HB3 HCQ HBC HI HB1 HBL
  go_upto_region 7 with fail
  generalize w4.heap.size = gw at *
  generalize w4.alloc (.cells #[.slice (some ⟨f1, 0, none⟩) s.clks.length q1, .slice (some ⟨f2, 0, none⟩) s.doms.length q2, .slice (some ⟨f3, 0, none⟩) s.rsts.length q3, .slice (some ⟨f4, 0, none⟩) s.devs.length q4] 27) = W at *
  obtain ⟨x0, -⟩ := HCP.out.hA.bx 0 _ rfl
  obtain ⟨x1, -⟩ := HCP.out.hA.bx 1 _ rfl
  obtain ⟨x2, -⟩ := HCP.out.hA.bx 2 _ rfl
  obtain ⟨x3, -⟩ := HCP.out.hA.bx 3 _ rfl
  have y0 : W.cell? ⟨w3.heap.size, 0, none⟩ = some (.slice (some ⟨g1, 0, none⟩) s.clks.length e1) := (HCP.out.bx 0 _ rfl).1
  have y1 : W.cell? ⟨w3.heap.size, 1, none⟩ = some (.slice (some ⟨g2, 0, none⟩) s.doms.length e2) := (HCP.out.bx 1 _ rfl).1
  have y2 : W.cell? ⟨w3.heap.size, 2, none⟩ = some (.slice (some ⟨g3, 0, none⟩) s.rsts.length e3) := (HCP.out.bx 2 _ rfl).1
  have y3 : W.cell? ⟨w3.heap.size, 3, none⟩ = some (.slice (some ⟨g4, 0, none⟩) s.devs.length e4) := (HCP.out.bx 3 _ rfl).1
  have hflat : ChipV W W.heap.size s [.slice (some ⟨g1, 0, none⟩) s.clks.length e1, .slice (some ⟨g2, 0, none⟩) s.doms.length e2, .slice (some ⟨g3, 0, none⟩) s.rsts.length e3, .slice (some ⟨g4, 0, none⟩) s.devs.length e4] := by
    obtain ⟨t, u, hfl, -⟩ := HCP.out.fl
    exact hfl.chip
  have HFL := Lib.hid hflat
  clear hflat
  generalize w3.heap.size = g0 at *
  go_upto_region 9 with fail
  rename_i K9 hK9 K8 hK8 K7 hK7
  have HK9 := Lib.hid hK9
  clear hK9
  go_wp2_with fail
  refine (chip_same s s _ _ W HPL.out.ok HPL.out.ok HCP.out.hA.chip HFL.out).mono ?_
  rintro e W' ⟨rfl, hb⟩
  rw [eqP_self]
  have hcp := HCP.out.calm (Moved.of_below hb)
  have HCP' := Lib.hid hcp
  have z3 : W'.cell? ⟨g0, 3, none⟩ = some (.slice (some ⟨g4, 0, none⟩) s.devs.length e4) := (hcp.bx 3 _ rfl).1
  have hnv := HPL.out.nv
  obtain ⟨m, hm⟩ : ∃ m, m + 1 = s.devs.length := ⟨s.devs.length - 1, by omega⟩
  have HM := Lib.hid hm
  have hm0 : m ≤ 3 := by omega
  have hm1 : IntKind.i64.wrap ((s.devs.length : Int) - 1) = (m : Int) := by rw [IntKind.wrap_i64]; omega
  clear hb hcp HCP HFL x0 x1 x2 x3 y0 y1 y2 y3 hm hnv
  go_wp2
  refine HK9.out _ _ ?_
  go_upto_region 9 with fail
  rename_i K hK
  have HK := Lib.hid hK
  clear hK
  go_wp2
  refine HK.out _ _ ?_
  exact cp_cases w W' gs gw _ _ _ ⟨g0, g1, g2, g3, g4, s.clks.length, s.doms.length, s.rsts.length, s.devs.length, e1, e2, e3, e4⟩ s _ _ _ _ _ _ _ _ m what HW.out HPL.out HCL.out HM.out HCP'.out _ ⟨rfl, rfl⟩ rfl rfl rfl rfl rfl
theorem copies_arg (A : Option Addr) (c : Nat) (l : List Int) (what : Int) (w : World) (hm : l.length ≤ 9223372036854775807) (h : IntsAt w w.heap.size A l) (hwf : ∀ x, x ∈ l → wfI x) (hw : wfI what) :
    Calls Try.prog 6 #[.slice A l.length c, .int .i64 what] w fun e w' => e = .returned (.bool true) ∧ Below w.heap.size w w' :=
  copies_any A c l what w (by unfold maxLen; omega) hwf h hw
end

end Go.Proofs.Ytkhfcbcanbplgaa
