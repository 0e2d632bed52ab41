/- The walk of catnaplaw4.ConfRight, whole. -/
import Derived.Test.YtkhfcbcanbplgaaL7
namespace Go.Proofs.Ytkhfcbcanbplgaa
set_option linter.unusedSimpArgs false
set_option linter.unusedVariables false
open Go.RowKit Go.Maps

set_option maxRecDepth 1000000 in
set_option maxHeartbeats 8000000 in
theorem right_push (w W : World) (gs gl gm gd Bs Bl B Br : Nat) (s : Chip) (a1 a2 a3 b1 b2 b3 b4 m1 m2 m3 : Value) (A4 Av : Option Addr) (nV k4 g4 e4 cv : Nat) (x y : Int) (hpl : Plain s) (hnV : nV = s.devs.length) (hx : x = (s.clks.length : Int) - 1) (hy : y = (s.doms.length : Int) - 1)
    (hA : Held Bs W gs s a1 a2 a3 (.slice A4 nV k4)) (hB : Held Bl W gl (lessC s) b1 b2 b3 b4) (hO : Own5 gm W B s m1 m2 m3 (.slice (some ⟨g4, 0, none⟩) nV e4)) (hbx : BoxAt W gm [m1, m2, m3, (.slice (some ⟨g4, 0, none⟩) nV e4)]) (hBs : Bs ≤ B) (hBl : Bl ≤ B) (hBw : w.heap.size ≤ B) (hgm : B ≤ gm)
    (hd : BoxAt W gd [.int .i64 x, .int .i64 y, .int .i64 0, .int .u32 0, .slice none 0 0, .slice Av nV cv]) (hr : W.ownsRow Br 3 1 (.slice Av nV cv) nV (iv (allD s).needs)) (hf : ∀ g', (Value.slice Av nV cv).ownBlock = some g' → g' ∉ gm :: hot4 m1 m2 m3 (.slice (some ⟨g4, 0, none⟩) nV e4)) (hbl : Below w.heap.size w W)
    (a : Act) (ha : FrN 135 a) (h4 : slT a 4 = .pointer (some ⟨gs, 0, none⟩)) (h11 : slT a 11 = .pointer (some ⟨gl, 0, none⟩)) (h12 : slT a 12 = .pointer (some ⟨gm, 0, none⟩)) (h13 : slT a 13 = .pointer (some ⟨gd, 0, none⟩)) : Code.wp Try.prog rtTail (bodyPost Try.prog Try.f4 (TellsB true w)) a W := by
  have hM : Moved [] W (W.alloc (.cells #[.int .i64 x, .int .i64 y, .int .i64 0, .int .u32 0, .slice none 0 0, .slice Av nV cv] 44)) := Moved.alloc _ _
  have hg0 : gm < (W.alloc (.cells #[.int .i64 x, .int .i64 y, .int .i64 0, .int .u32 0, .slice none 0 0, .slice Av nV cv] 44)).heap.size := by have := hbx.lt; simp only [World.size_alloc]; omega
  have hxd : DevC (gm :: hot4 m1 m2 m3 (.slice (some ⟨g4, 0, none⟩) nV e4)) (W.alloc (.cells #[.int .i64 x, .int .i64 y, .int .i64 0, .int .u32 0, .slice none 0 0, .slice Av nV cv] 44)) (allD s) [.int .i64 x, .int .i64 y, .int .i64 0, .int .u32 0, .slice none 0 0, .slice Av nV cv] :=
    ⟨none, 0, Av, cv, by rw [all_len', ← hnV, hx, hy]; rfl, Nat.zero_le _, by rw [all_len', ← hnV]; exact own_cap hr, fun h => absurd h (by simp [allD]), (ints_own hr _ hf).move ((Moved.alloc _ _).mono (by simp : ∀ k, k ∈ ([] : List Nat) → k ∈ _))⟩
  obtain ⟨vss, hown, hstep⟩ := hO.pushDev hM hxd rfl
  rw [← hnV] at hown hstep
  have HOWN := Lib.hid hown
  have HSTEP := Lib.hid hstep
  have hfr := hO.fresh hgm hbx.lt
  have HFR := Lib.hid hfr
  have hwB : B ≤ W.heap.size := Nat.le_of_lt (Nat.lt_of_le_of_lt hgm hbx.lt)
  have hbB : Below B W (W.alloc (.cells #[.int .i64 x, .int .i64 y, .int .i64 0, .int .u32 0, .slice none 0 0, .slice Av nV cv] 44)) := (Below.refl B W).alloc hwB _
  have HBB := Lib.hid hbB
  have hz4 : gm ≠ g4 := fun e => hO.z4 (by simp [Value.ownBlock, e])
  have HZ4 := Lib.hid hz4
  have HX5 := Lib.hid (hbx.move hM (by simp))
  have HA := Lib.hid hA
  have HB := Lib.hid hB
  have HBS := Lib.hid hBs
  have HBLL := Lib.hid hBl
  have HBW := Lib.hid hBw
  have HBL := Lib.hid hbl
  have HPL := Lib.hid hpl
  have HNV := Lib.hid hnV
  have HG0 := Lib.hid hg0
  have bnv := hpl.nv
  rw [← hnV] at bnv
  obtain ⟨x0, y0⟩ := hd 0 _ rfl
  obtain ⟨x1, y1⟩ := hd 1 _ rfl
  obtain ⟨x2, y2⟩ := hd 2 _ rfl
  obtain ⟨x3, y3⟩ := hd 3 _ rfl
  obtain ⟨x4, y4⟩ := hd 4 _ rfl
  obtain ⟨x5, y5⟩ := hd 5 _ rfl
  obtain ⟨z3, t3⟩ := hbx 3 _ rfl
  have HWB := Lib.hid hwB
  clear hM hg0 hxd hown hstep hfr hbB hz4 hA hB hBs hBl hBw hbl hpl hnV hd hbx hO hr hf hx hy hgm hwB
  obtain ⟨i44, hi, hz0, hz1, hz2'⟩ := info_parts Try.info44
  obtain ⟨F, rfl⟩ := ha.open_
  rw [slT_listT (by omega)] at h4 h11 h12 h13
  rw [lit135, h4, h11, h12, h13]
  clear ha h4 h11 h12 h13
  conv => arg 2; whnf
  go_upto_region 18 with fail
  rename_i K hK
  have HK := Lib.hid hK
  clear hK
  go_wp2_with (at_builtin; refine wpList_append_own_at _ rfl _ _ 25 rfl B 44 i44 (.agg #[.int .i64 0, .int .i64 0, .int .i64 0, .int .u32 0, .slice none 0 0, .slice none 0 0]) 6 80 Try.underlying25 hi hz0 hz1 hz2' rfl (by decide) _ _ _ rfl HOWN.out ⟨W.heap.size, 0, none⟩ 1 1 [.int .i64 x, .int .i64 y, .int .i64 0, .int .u32 0, .slice none 0 0, .slice Av nV cv] rfl rfl (cells_new W (W.heap.size) (by first | rfl | simp) _ 44) (by intro u hu; simp at hu; rcases hu with rfl | rfl | rfl | rfl | rfl | rfl <;> rfl) (by unfold maxLen; omega) (by omega) (by have := HWB.out; simp; omega) ?_; intro v6 w6 hown6 hg6 _ hob6; obtain ⟨A6, c6, rfl⟩ := own_shape' hown6; have hfin := HSTEP.out _ _ hown6 hg6 hob6 HG0.out; have hbx6 := HX5.out.move hfin.2 (by simpa [Value.ownBlock] using HZ4.out); obtain ⟨q0, q1⟩ := hbx6 3 _ rfl; have HBX6 := Lib.hid hbx6; have HFIN := Lib.hid hfin; clear hown6 hg6 hob6 hfin hbx6)
  refine HK.out _ _ ?_
  have hb6 : Below B W (w6.setCell ⟨gm, 3, none⟩ (.slice A6 (nV + 1) c6)) := (HBB.out.trans (HFIN.out.2.below (fun k hk => by
    have hk' : g4 = k := by simpa [Value.ownBlock, eq_comm] using hk
    exact hk' ▸ (HFR.out g4 (by simp [hot4, Value.ownBlock])).1) (by have := HWB.out; simp; omega))).setCell (p := ⟨gm, 3, none⟩) (HFR.out gm List.mem_cons_self).1 _
  have hch := HFIN.out.1 _ (Moved.setCell w6 (p := ⟨gm, 3, none⟩) (by simp) (.slice A6 (nV + 1) c6))
  have hb9 := HBX6.out.set (j := 3) (by simp) (.slice A6 (nV + 1) c6)
  have hHM : Held (w6.setCell ⟨gm, 3, none⟩ (.slice A6 (nV + 1) c6)).heap.size (w6.setCell ⟨gm, 3, none⟩ (.slice A6 (nV + 1) c6)) gm (moreC s) m1 m2 m3 (.slice A6 (nV + 1) c6) :=
    ⟨hb9.lt, Nat.le_refl _, hb9, hch⟩
  exact right_circ w _ gs gl gm Bs Bl _ s _ _ _ _ _ _ _ _ _ _ _ A4 nV k4 HPL.out HNV.out (HA.out.below (hb6.mono HBS.out)) (HB.out.below (hb6.mono HBLL.out)) hHM (HBL.out.trans (hb6.mono HBW.out)) _ ⟨rfl, rfl⟩ rfl rfl rfl


def upto (i : Nat) : List Int := (List.range i).map fun (k : Nat) => (k : Int)
theorem upto_len (i : Nat) : (upto i).length = i := by simp [upto]
theorem upto_succ (i : Nat) : upto (i + 1) = upto i ++ [(i : Int)] := by simp [upto, List.range_succ]
/-- the device under way, behind i rounds -/
def StL (W0 W : World) (gd : Nat) (x y : Int) (i : Nat) : Prop :=
  ∃ Av cv, BoxAt W gd [.int .i64 x, .int .i64 y, .int .i64 0, .int .u32 0, .slice none 0 0, .slice Av i cv] ∧ W.ownsRow (gd + 1) 3 1 (.slice Av i cv) i (iv (upto i)) ∧ Below gd W0 W

set_option maxRecDepth 1000000 in
set_option maxHeartbeats 8000000 in
theorem right_round (W0 W : World) (gs gl gm gd Bs : Nat) (s : Chip) (a1 a2 a3 : Value) (A4 : Option Addr) (nV k4 i : Nat) (x y : Int) (hnV : nV ≤ 4) (hA : Held Bs W0 gs s a1 a2 a3 (.slice A4 nV k4)) (hBs : Bs ≤ gd) (hi : i ≤ nV) (hs : StL W0 W gd x y i)
    (a : Act) (ha : FrN 135 a) (h4 : slT a 4 = .pointer (some ⟨gs, 0, none⟩)) (h11 : slT a 11 = .pointer (some ⟨gl, 0, none⟩)) (h12 : slT a 12 = .pointer (some ⟨gm, 0, none⟩)) (h13 : slT a 13 = .pointer (some ⟨gd, 0, none⟩)) (h14 : slT a 14 = .int .i64 (i : Nat)) (R : Act → World → Prop) (Q : Exit → Act → World → Prop)
    (hR : ∀ a' W', i < nV → FrN 135 a' → slT a' 4 = .pointer (some ⟨gs, 0, none⟩) → slT a' 11 = .pointer (some ⟨gl, 0, none⟩) → slT a' 12 = .pointer (some ⟨gm, 0, none⟩) → slT a' 13 = .pointer (some ⟨gd, 0, none⟩) → slT a' 14 = .int .i64 ((i + 1 : Nat) : Int) → StL W0 W' gd x y (i + 1) → R a' W')
    (hQ : ∀ a', FrN 135 a' → slT a' 4 = .pointer (some ⟨gs, 0, none⟩) → slT a' 11 = .pointer (some ⟨gl, 0, none⟩) → slT a' 12 = .pointer (some ⟨gm, 0, none⟩) → slT a' 13 = .pointer (some ⟨gd, 0, none⟩) → i = nV → Q (.exit 0) a' W) :
    Code.wp Try.prog (lpC rtLoop) (Exit.then R Q) a W := by
  have HQ := Lib.hid hQ
  have HR := Lib.hid hR
  clear hQ hR
  obtain ⟨Av, cv, hbx, hr, hb⟩ := hs
  obtain ⟨z3, -⟩ := (hA.below (hb.mono hBs)).bx 3 _ rfl
  obtain ⟨x5, y5⟩ := hbx 5 _ rfl
  have HBX := Lib.hid hbx
  have HRW := Lib.hid hr
  have HB := Lib.hid hb
  have HGD := Lib.hid hbx.lt
  obtain ⟨i0, hi0, hz0, hz1, hz2'⟩ := info_parts Try.info3
  clear hA hBs hbx hr hb
  obtain ⟨F, rfl⟩ := ha.open_
  rw [slT_listT (by omega)] at h4 h11 h12 h13 h14
  rw [lit135, h4, h11, h12, h13, h14]
  clear ha h4 h11 h12 h13 h14
  conv => arg 2; whnf
  by_cases hlt : i < nV
  · have HL := Lib.hid hlt
    go_wp2_with (at_builtin; refine wpList_append_own_at _ rfl _ _ 37 rfl (gd + 1) 3 i0 (.int .i64 0) 1 8 Try.underlying37 hi0 hz0 hz1 hz2' rfl (by decide) _ _ _ rfl (HRW.out.alloc _) ⟨W.heap.size, 0, none⟩ 1 1 [.int .i64 (i : Nat)] rfl rfl (cells_new W (W.heap.size) (by first | rfl | simp) _ 3) (by intro u hu; simp at hu; rcases hu with rfl; rfl) (by unfold maxLen; omega) (by omega) (by have := HGD.out; simp; omega) ?_; intro v6 w6 hown6 hg6 _ hob6; obtain ⟨A6, c6, rfl⟩ := own_shape' hown6; have hg7 : (W.alloc (.cells #[.int .i64 (i : Nat)] 3)).grownBy w6 (Value.slice Av i cv).ownBlock := hg6; have hm6 : Moved (Value.slice Av i cv).ownBlock.toList W w6 := (Moved.alloc W _).trans (Moved.of_grown hg7 (fun k hk => by simpa using hk)); have hbx6 := HBX.out.move hm6 (fun hm' => by have := (HRW.out.lt gd (by simpa using hm')).1; omega); obtain ⟨q0, q1⟩ := hbx6 5 _ rfl; have HBX6 := Lib.hid hbx6; have HOWN6 := Lib.hid hown6; have HM6 := Lib.hid hm6; clear hown6 hg6 hg7 hob6 hm6 hbx6)
    refine HR.out _ _ HL.out ⟨rfl, rfl⟩ rfl rfl rfl rfl (by go_num) ⟨A6, c6, HBX6.out.set (j := 5) (by simp) _, ?_, ?_⟩
    · rw [upto_succ, iv_snoc]
      exact own_move HOWN6.out (fun g hg => Below.heap_setCell w6 ⟨gd, 5, none⟩ _ g (fun e => by have := (HOWN6.out.lt g hg).1; simp only at e; omega))
    · exact (HB.out.trans (HM6.out.below (fun k hk => by have := (HRW.out.lt k (by simpa using hk)).1; omega) (Nat.le_of_lt HGD.out))).setCell (p := ⟨gd, 5, none⟩) (Nat.le_refl _) _
  · obtain rfl : i = nV := by omega
    go_wp2
    exact HQ.out _ ⟨rfl, rfl⟩ rfl rfl rfl rfl (by trivial)

def IL (W0 : World) (gs gl gm gd nV : Nat) (x y : Int) (a : Act) (W : World) : Prop :=
  ∃ i : Nat, i ≤ nV ∧ FrN 135 a ∧ slT a 4 = .pointer (some ⟨gs, 0, none⟩) ∧ slT a 11 = .pointer (some ⟨gl, 0, none⟩) ∧ slT a 12 = .pointer (some ⟨gm, 0, none⟩) ∧ slT a 13 = .pointer (some ⟨gd, 0, none⟩) ∧ slT a 14 = .int .i64 (i : Nat) ∧ StL W0 W gd x y i
def ML (n : Nat) (a : Act) (_ : World) : Nat := n - (intOf (slT a 14)).toNat
theorem right_loop (W0 W : World) (gs gl gm gd Bs : Nat) (s : Chip) (a1 a2 a3 : Value) (A4 : Option Addr) (nV k4 : Nat) (x y : Int) (hnV : nV ≤ 4) (hA : Held Bs W0 gs s a1 a2 a3 (.slice A4 nV k4)) (hBs : Bs ≤ gd) (hs : StL W0 W gd x y 0)
    (a : Act) (ha : FrN 135 a) (h4 : slT a 4 = .pointer (some ⟨gs, 0, none⟩)) (h11 : slT a 11 = .pointer (some ⟨gl, 0, none⟩)) (h12 : slT a 12 = .pointer (some ⟨gm, 0, none⟩)) (h13 : slT a 13 = .pointer (some ⟨gd, 0, none⟩)) (h14 : slT a 14 = .int .i64 0) (Q : Exit → Act → World → Prop)
    (hQ : ∀ a' W', FrN 135 a' → slT a' 4 = .pointer (some ⟨gs, 0, none⟩) → slT a' 11 = .pointer (some ⟨gl, 0, none⟩) → slT a' 12 = .pointer (some ⟨gm, 0, none⟩) → slT a' 13 = .pointer (some ⟨gd, 0, none⟩) → StL W0 W' gd x y nV → Q (.exit 0) a' W') : Code.wp Try.prog rtLoop Q a W := by
  show Code.wp Try.prog (Code.loop (lpC rtLoop)) Q a W
  refine wp_loop (IL W0 gs gl gm gd nV x y) (ML nV) ⟨0, Nat.zero_le _, ha, h4, h11, h12, h13, h14, hs⟩ ?_
  rintro a1 W1 ⟨i, hi, hf, q4, q11, q12, q13, q14, hs1⟩
  refine right_round W0 W1 gs gl gm gd Bs s _ _ _ A4 nV k4 i x y hnV hA hBs hi hs1 a1 hf q4 q11 q12 q13 q14 _ _ ?_ ?_
  · intro a' W' hlt hF e4 e11 e12 e13 e14 hs'
    refine ⟨⟨i + 1, hlt, hF, e4, e11, e12, e13, e14, hs'⟩, ?_⟩
    unfold ML
    rw [e14, q14]
    simp [intOf]
    omega
  · intro a' hF e4 e11 e12 e13 hin
    rw [hin] at hs1
    exact hQ _ _ hF e4 e11 e12 e13 hs1

set_option maxRecDepth 1000000 in
set_option maxHeartbeats 8000000 in
theorem right_for (w W0 : World) (gs gl gm gd Bs Bl B : Nat) (s : Chip) (a1 a2 a3 b1 b2 b3 b4 m1 m2 m3 : Value) (A4 : Option Addr) (nV k4 g4 e4 : Nat) (x y : Int) (hpl : Plain s) (hnV : nV = s.devs.length) (hx : x = (s.clks.length : Int) - 1) (hy : y = (s.doms.length : Int) - 1) (hgd : gd = W0.heap.size)
    (hA : Held Bs W0 gs s a1 a2 a3 (.slice A4 nV k4)) (hB : Held Bl W0 gl (lessC s) b1 b2 b3 b4) (hO : Own5 gm W0 B s m1 m2 m3 (.slice (some ⟨g4, 0, none⟩) nV e4)) (hbx : BoxAt W0 gm [m1, m2, m3, (.slice (some ⟨g4, 0, none⟩) nV e4)]) (hBs : Bs ≤ B) (hBl : Bl ≤ B) (hBw : w.heap.size ≤ B) (hgm : B ≤ gm) (hbl : Below w.heap.size w W0)
    (a : Act) (ha : FrN 135 a) (h4 : slT a 4 = .pointer (some ⟨gs, 0, none⟩)) (h11 : slT a 11 = .pointer (some ⟨gl, 0, none⟩)) (h12 : slT a 12 = .pointer (some ⟨gm, 0, none⟩)) (h13 : slT a 13 = .pointer (some ⟨gd, 0, none⟩)) : Code.wp Try.prog rtFor (bodyPost Try.prog Try.f4 (TellsB true w)) a (W0.alloc (.cells #[.int .i64 x, .int .i64 y, .int .i64 0, .int .u32 0, .slice none 0 0, .slice none 0 0] 44)) := by
  subst hgd
  have hs0 : StL W0 (W0.alloc (.cells #[.int .i64 x, .int .i64 y, .int .i64 0, .int .u32 0, .slice none 0 0, .slice none 0 0] 44)) W0.heap.size x y 0 :=
    ⟨none, 0, BoxAt.new W0 [.int .i64 x, .int .i64 y, .int .i64 0, .int .u32 0, .slice none 0 0, .slice none 0 0] 44, World.ownsRow_nil _ _ _ _, (Below.refl _ W0).alloc (Nat.le_refl _) _⟩
  have HS0 := Lib.hid hs0
  clear hs0
  have HA := Lib.hid hA
  have HB := Lib.hid hB
  have HO := Lib.hid hO
  have HBX := Lib.hid hbx
  have HPL := Lib.hid hpl
  have HNV := Lib.hid hnV
  have HBL := Lib.hid hbl
  clear hA hB hO hbx hpl hnV hbl
  generalize W0.alloc (.cells #[.int .i64 x, .int .i64 y, .int .i64 0, .int .u32 0, .slice none 0 0, .slice none 0 0] 44) = W at HS0 ⊢
  obtain ⟨F, rfl⟩ := ha.open_
  rw [slT_listT (by omega)] at h4 h11 h12 h13
  rw [lit135, h4, h11, h12, h13]
  clear ha h4 h11 h12 h13
  conv => arg 2; whnf
  go_wp2
  refine right_loop W0 W gs gl gm W0.heap.size Bs s a1 a2 a3 A4 nV k4 x y (by have := HPL.out.nv; have := HNV.out; omega) HA.out HA.out.le HS0.out _ ⟨rfl, rfl⟩ rfl rfl rfl rfl rfl _ ?_
  rintro a' W' hF q4 q11 q12 q13 ⟨Av, cv, hb', hr', hw'⟩
  simp only [Exit.then, Exit.inBlock, ↓reduceIte]
  go_step
  have hm : Moved [] W0 W' := Moved.of_below hw'
  have hfr := HO.out.fresh hgm HBX.out.lt
  have hrr : W'.ownsRow (W0.heap.size + 1) 3 1 (.slice Av nV cv) nV (iv (allD s).needs) := by
    have : (allD s).needs = upto nV := by rw [HNV.out]; rfl
    rw [this]; exact hr'
  exact right_push w W' gs gl gm W0.heap.size Bs Bl B (W0.heap.size + 1) s a1 a2 a3 b1 b2 b3 b4 m1 m2 m3 A4 Av nV k4 g4 e4 cv x y HPL.out HNV.out hx hy (HA.out.below (hw'.mono HA.out.le)) (HB.out.below (hw'.mono HB.out.le)) (HO.out.calm hm) (HBX.out.move hm (by simp)) hBs hBl hBw hgm hb' hrr
    (fun g' hg' hm' => by have := (hrr.lt g' hg').1; have := (hfr g' hm').2; omega) (HBL.out.trans (hw'.mono HBL.out.size)) a' hF q4 q11 q12 q13


theorem StrsAt.take {α : Type} {V : Reads α} {sz : Nat} {w : World} {B : Nat} {A : Option Addr} {xs : List α} (h : StrsAt V sz w B A xs) (n : Nat) : StrsAt V sz w B A (xs.take n) := fun hl => by
  have hl' : 0 < xs.length := by simp at hl; omega
  obtain ⟨ad, e, hb, hc⟩ := h hl'
  refine ⟨ad, e, hb, fun k x hk => hc k x ?_⟩
  have hkl := (List.getElem?_eq_some_iff.1 hk).1
  simp at hkl
  rw [List.getElem?_take_of_lt (by omega)] at hk
  exact hk
theorem ChipV.less {w : World} {B : Nat} {s : Chip} {v1 v2 v3 : Value} {A : Option Addr} {n m c : Nat} (h : ChipV w B s [v1, v2, v3, .slice A n c]) (hn : n = s.devs.length) (hm : m + 1 = n) : ChipV w B (lessC s) [v1, v2, v3, .slice A m c] := by
  obtain ⟨A1, c1, A2, c2, A3, c3, A4, c4, e, l1, l2, l3, l4, h1, h2, h3, h4⟩ := h
  simp at e
  obtain ⟨rfl, rfl, rfl, rfl, e, rfl⟩ := e
  have hml : (lessC s).devs.length = m := by simp [lessC]; omega
  exact ⟨A1, c1, A2, c2, A3, c3, A, c, by rw [hml]; rfl, l1, l2, l3, by rw [hml]; omega, h1, h2, h3, h4.take _⟩

set_option maxRecDepth 1000000 in
set_option maxHeartbeats 8000000 in
theorem right_copy (w W : World) (gs Bs : Nat) (s : Chip) (a3 : Value) (A1 A2 A4 : Option Addr) (nC nD nV k1 k2 k4 : Nat) (hpl : Plain s) (hnC : nC = s.clks.length) (hnD : nD = s.doms.length) (hnV : nV = s.devs.length)
    (hA : Held Bs W gs s (.slice A1 nC k1) (.slice A2 nD k2) a3 (.slice A4 nV k4)) (hbl : Below w.heap.size w W)
    (a : Act) (ha : FrN 135 a) (h4 : slT a 4 = .pointer (some ⟨gs, 0, none⟩)) : Code.wp Try.prog rtCopy (bodyPost Try.prog Try.f4 (TellsB true w)) a W := by
  have HPL := Lib.hid hpl
  have HNC := Lib.hid hnC
  have HND := Lib.hid hnD
  have HNV := Lib.hid hnV
  have HA := Lib.hid hA
  have HBL := Lib.hid hbl
  obtain ⟨x0, y0⟩ := hA.bx 0 _ rfl
  obtain ⟨x1, y1⟩ := hA.bx 1 _ rfl
  obtain ⟨x2, y2⟩ := hA.bx 2 _ rfl
  obtain ⟨x3, y3⟩ := hA.bx 3 _ rfl
  have bC := hpl.nc
  have bD := hpl.nd
  have bV := hpl.nv
  rw [← hnC] at bC
  rw [← hnD] at bD
  rw [← hnV] at bV
  obtain ⟨m, hm⟩ : ∃ m, nV = m + 1 := ⟨nV - 1, by omega⟩
  have HM := Lib.hid hm
  have hm0 : m ≤ 3 := by omega
  have hm1 : IntKind.i64.wrap ((nV : Int) - 1) = (m : Int) := by rw [IntKind.wrap_i64]; omega
  clear hpl hA hbl hnC hnD hnV hm
  obtain ⟨F, rfl⟩ := ha.open_
  rw [slT_listT (by omega)] at h4
  rw [lit135, h4]
  clear ha h4
  conv => arg 2; whnf
  go_wp2_with fail
  refine (copy_any s _ W HPL.out.ok HA.out.chip).mono ?_
  rintro e w2 ⟨v1, v2, v3, v4, rfl, hown, hb2⟩
  obtain ⟨g1, e1, rfl, -, -⟩ := Own5.form hown.clks (by have := HPL.out.nc; omega)
  obtain ⟨g2, e2, rfl, -, -⟩ := Own5.form hown.doms (by have := HPL.out.nd; omega)
  obtain ⟨g3, e3, rfl, -, -⟩ := Own5.form hown.rsts (by have := HPL.out.nr; omega)
  obtain ⟨g4, e4, rfl, -, -⟩ := Own5.form hown.devs (by have := HPL.out.nv; omega)
  rw [← HNV.out] at hown ⊢
  have he4 : nV ≤ e4 := by
    obtain ⟨_, _, e, hle, _⟩ := hown.devs.shape
    injection e with _ e e'
    have := HNV.out
    omega
  have hme : m ≤ e4 := by have := HM.out; omega
  have hme' : (m : Int) ≤ (e4 : Int) := by omega
  have hne4 : ¬ e4 = 0 := by omega
  have hne5 : ¬ (0 : Nat) = e4 := by omega
  have ho5 := hown.box (.cells #[.slice (some ⟨g1, 0, none⟩) s.clks.length e1, .slice (some ⟨g2, 0, none⟩) s.doms.length e2, .slice (some ⟨g3, 0, none⟩) s.rsts.length e3, .slice (some ⟨g4, 0, none⟩) nV e4] 27)
  have hbx := BoxAt.new w2 [.slice (some ⟨g1, 0, none⟩) s.clks.length e1, .slice (some ⟨g2, 0, none⟩) s.doms.length e2, .slice (some ⟨g3, 0, none⟩) s.rsts.length e3, .slice (some ⟨g4, 0, none⟩) nV e4] 27
  have hbl2 : Below W.heap.size W (w2.alloc (.cells #[.slice (some ⟨g1, 0, none⟩) s.clks.length e1, .slice (some ⟨g2, 0, none⟩) s.doms.length e2, .slice (some ⟨g3, 0, none⟩) s.rsts.length e3, .slice (some ⟨g4, 0, none⟩) nV e4] 27)) := hb2.alloc hb2.size _
  have hgl : W.heap.size ≤ w2.heap.size := hb2.size
  have HO := Lib.hid ho5
  have HBX := Lib.hid hbx
  have HBL2 := Lib.hid hbl2
  have HGL := Lib.hid hgl
  clear ho5 hbx hbl2 hgl hown hb2 x0 x1 x2 x3 y0 y1 y2 y3
  go_upto_region 11 with fail
  generalize w2.heap.size = gl at *
  generalize w2.alloc (.cells #[.slice (some ⟨g1, 0, none⟩) s.clks.length e1, .slice (some ⟨g2, 0, none⟩) s.doms.length e2, .slice (some ⟨g3, 0, none⟩) s.rsts.length e3, .slice (some ⟨g4, 0, none⟩) nV e4] 27) = W2 at *
  obtain ⟨z3, t3⟩ := HBX.out 3 _ rfl
  have hA2 := HA.out.below (HBL2.out.mono HA.out.le)
  have hb11 : Below W.heap.size W (W2.setCell ⟨gl, 3, none⟩ (.slice (some ⟨g4, 0, none⟩) m e4)) := HBL2.out.setCell (p := ⟨gl, 3, none⟩) HGL.out _
  have hbx11 := HBX.out.set (j := 3) (by simp) (.slice (some ⟨g4, 0, none⟩) m e4)
  have hcv11 := ((HO.out.move (Moved.setCell W2 (p := ⟨gl, 3, none⟩) (by simp) (.slice (some ⟨g4, 0, none⟩) m e4))).chip).less HNV.out HM.out.symm
  have hB11 : Held (W2.setCell ⟨gl, 3, none⟩ (.slice (some ⟨g4, 0, none⟩) m e4)).heap.size (W2.setCell ⟨gl, 3, none⟩ (.slice (some ⟨g4, 0, none⟩) m e4)) gl (lessC s) (.slice (some ⟨g1, 0, none⟩) s.clks.length e1) (.slice (some ⟨g2, 0, none⟩) s.doms.length e2) (.slice (some ⟨g3, 0, none⟩) s.rsts.length e3) (.slice (some ⟨g4, 0, none⟩) m e4) := ⟨hbx11.lt, Nat.le_refl _, hbx11, hcv11⟩
  have HA11 := Lib.hid (HA.out.below (hb11.mono HA.out.le))
  have HB11 := Lib.hid hB11
  have HBB := Lib.hid hb11
  clear hA2 hb11 hbx11 hcv11 hB11
  go_upto_region 12 with fail
  generalize W2.setCell ⟨gl, 3, none⟩ (.slice (some ⟨g4, 0, none⟩) m e4) = W11 at *
  clear z3 t3 HO HBX HBL2 HGL
  obtain ⟨x0, y0⟩ := HA11.out.bx 0 _ rfl
  obtain ⟨x1, y1⟩ := HA11.out.bx 1 _ rfl
  obtain ⟨x2, y2⟩ := HA11.out.bx 2 _ rfl
  obtain ⟨x3, y3⟩ := HA11.out.bx 3 _ rfl
  go_wp2_with fail
  refine (copy_any s _ W11 HPL.out.ok HA11.out.chip).mono ?_
  rintro e w3 ⟨v1, v2, v3, v4, rfl, hown, hb3⟩
  obtain ⟨f1, q1, rfl, -, -⟩ := Own5.form hown.clks (by have := HPL.out.nc; omega)
  obtain ⟨f2, q2, rfl, -, -⟩ := Own5.form hown.doms (by have := HPL.out.nd; omega)
  obtain ⟨f3, q3, rfl, -, -⟩ := Own5.form hown.rsts (by have := HPL.out.nr; omega)
  obtain ⟨f4, q4, rfl, -, -⟩ := Own5.form hown.devs (by have := HPL.out.nv; omega)
  rw [← HNV.out] at hown ⊢
  have ho5 := hown.box (.cells #[.slice (some ⟨f1, 0, none⟩) s.clks.length q1, .slice (some ⟨f2, 0, none⟩) s.doms.length q2, .slice (some ⟨f3, 0, none⟩) s.rsts.length q3, .slice (some ⟨f4, 0, none⟩) nV q4] 27)
  have hbx := BoxAt.new w3 [.slice (some ⟨f1, 0, none⟩) s.clks.length q1, .slice (some ⟨f2, 0, none⟩) s.doms.length q2, .slice (some ⟨f3, 0, none⟩) s.rsts.length q3, .slice (some ⟨f4, 0, none⟩) nV q4] 27
  have hbl3 : Below W11.heap.size W11 (w3.alloc (.cells #[.slice (some ⟨f1, 0, none⟩) s.clks.length q1, .slice (some ⟨f2, 0, none⟩) s.doms.length q2, .slice (some ⟨f3, 0, none⟩) s.rsts.length q3, .slice (some ⟨f4, 0, none⟩) nV q4] 27)) := hb3.alloc hb3.size _
  have hgm : W11.heap.size ≤ w3.heap.size := hb3.size
  have HO := Lib.hid ho5
  have HBX := Lib.hid hbx
  have HBL3 := Lib.hid hbl3
  have HGM := Lib.hid hgm
  clear ho5 hbx hbl3 hgm hown hb3 x0 x1 x2 x3 y0 y1 y2 y3
  go_upto_region 13 with fail
  generalize w3.heap.size = gm at *
  generalize w3.alloc (.cells #[.slice (some ⟨f1, 0, none⟩) s.clks.length q1, .slice (some ⟨f2, 0, none⟩) s.doms.length q2, .slice (some ⟨f3, 0, none⟩) s.rsts.length q3, .slice (some ⟨f4, 0, none⟩) nV q4] 27) = W3 at *
  rename_i K hK
  have HK := Lib.hid hK
  clear hK
  have hA3 := HA11.out.below (HBL3.out.mono HA11.out.le)
  obtain ⟨x0, y0⟩ := hA3.bx 0 _ rfl
  obtain ⟨x1, y1⟩ := hA3.bx 1 _ rfl
  have HA3 := Lib.hid hA3
  clear hA3
  have hx1 : IntKind.i64.wrap ((nC : Int) - 1) = (nC : Int) - 1 := by rw [IntKind.wrap_i64]; omega
  have hx2 : IntKind.i64.wrap ((nD : Int) - 1) = (nD : Int) - 1 := by rw [IntKind.wrap_i64]; omega
  go_wp2
  refine HK.out _ _ ?_
  exact right_for w W3 gs gl gm W3.heap.size Bs _ W11.heap.size s _ _ _ _ _ _ _ _ _ _ A4 nV k4 f4 q4 ((nC : Int) - 1) ((nD : Int) - 1) HPL.out HNV.out (by rw [HNC.out]) (by rw [HND.out]) rfl HA3.out (HB11.out.below HBL3.out) HO.out HBX.out HA11.out.le (Nat.le_refl _) (Nat.le_trans HBL.out.size HBB.out.size) HGM.out (HBL.out.trans ((HBB.out.mono HBL.out.size).trans (HBL3.out.mono (Nat.le_trans HBL.out.size HBB.out.size)))) _ ⟨rfl, rfl⟩ rfl rfl rfl rfl


def RowsR (n : Nat) (rows : List (List Int)) (w : World) (e : Ending) (w' : World) : Prop := ∃ A c, e = .returned (.slice A n c) ∧ RowsAt w' w'.heap.size A n (gOf rows) ∧ Below w.heap.size w w'
theorem RowsNew.toR {rows : List (List Int)} {n : Nat} {w w' : World} {e : Ending} (h : RowsNew rows w e w') (hn : rows.length = n) : RowsR n rows w e w' := by
  subst hn
  exact h
theorem graphR_clk (s : Chip) (vs : List Value) (w : World) (n : Nat) (hn : n = s.clks.length) (hok : ChipOk s) (h : ChipV w w.heap.size s vs) : Calls Try.prog 15 #[.agg vs.toArray] w (RowsR n (clksG s) w) := (graph_clk s vs w hok h).mono fun _ _ h => h.toR (by simp [clksG, hn])
theorem graphR_dom (s : Chip) (vs : List Value) (w : World) (n : Nat) (hn : n = s.doms.length) (hok : ChipOk s) (h : ChipV w w.heap.size s vs) : Calls Try.prog 17 #[.agg vs.toArray] w (RowsR n (domsG s) w) := (graph_dom s vs w hok h).mono fun _ _ h => h.toR (by simp [domsG, hn])
theorem graphR_dev (s : Chip) (vs : List Value) (w : World) (n : Nat) (hn : n = s.devs.length) (hok : ChipOk s) (h : ChipV w w.heap.size s vs) : Calls Try.prog 19 #[.agg vs.toArray] w (RowsR n (devsG s) w) := (graph_dev s vs w hok h).mono fun _ _ h => h.toR (by simp [devsG, hn])
def ZeroOut (w : World) (e : Ending) (w' : World) : Prop := ∃ A m c, e = .returned (.tuple #[.slice A m c, .int .i64 0]) ∧ Below w.heap.size w w'
theorem order_zero {rows : List (List Int)} {n : Nat} (hn : rows.length = n) (h1 : n ≤ 100) (hg : graphE rows = 0) (hs : ∀ r, r ∈ rows → r.length ≤ 1000 ∧ ∀ x, x ∈ r → wfI x) (A : Option Addr) (c : Nat) (w : World) (h : RowsAt w w.heap.size A n (gOf rows)) : Calls Try.prog 25 #[.slice A n c] w (ZeroOut w) := by
  have hrow : ∀ i, i < n → gOf rows i ∈ rows := fun i hi => by
    have hl : i < rows.length := by omega
    rw [gOf_row (List.getElem?_eq_getElem hl)]
    exact List.getElem_mem hl
  refine (order_any A n c (gOf rows) w (by omega) (fun i hi => by have := (hs _ (hrow i hi)).1; omega) (fun i hi => (hs _ (hrow i hi)).2) h).mono ?_
  rintro e w' ⟨E, v, o, hE, rfl, hown, hb⟩
  obtain ⟨A', c', rfl⟩ := own_shape' hown
  rw [order0 hn hg hE]
  exact ⟨_, _, _, rfl, hb⟩
namespace Plain
variable {s : Chip} (h : Plain s)
include h
theorem smallC : ∀ r, r ∈ clksG s → r.length ≤ 1000 ∧ ∀ x, x ∈ r → wfI x := fun r hr => by
  obtain ⟨c, hc, rfl⟩ := List.mem_map.1 hr
  exact h.ok.clks c hc
theorem smallD : ∀ r, r ∈ domsG s → r.length ≤ 1000 ∧ ∀ x, x ∈ r → wfI x := fun r hr => by
  obtain ⟨c, hc, rfl⟩ := List.mem_map.1 hr
  have := h.ok.doms c hc
  split
  · simp
  · exact ⟨by simp, fun x hx => by simp at hx; subst hx; exact this⟩
theorem smallV : ∀ r, r ∈ devsG s → r.length ≤ 1000 ∧ ∀ x, x ∈ r → wfI x := fun r hr => by
  obtain ⟨c, hc, rfl⟩ := List.mem_map.1 hr
  exact (h.ok.devs c hc).2
end Plain

set_option maxRecDepth 1000000 in
set_option maxHeartbeats 8000000 in
theorem right_ord (w W : World) (gs Bs : Nat) (s : Chip) (g1 g2 g3 g4 nC nD nR nV e1 e2 e3 e4 : Nat) (hpl : Plain s) (hnC : nC = s.clks.length) (hnD : nD = s.doms.length) (hnV : nV = s.devs.length)
    (hA : Held Bs W gs s (.slice (some ⟨g1, 0, none⟩) nC e1) (.slice (some ⟨g2, 0, none⟩) nD e2) (.slice (some ⟨g3, 0, none⟩) nR e3) (.slice (some ⟨g4, 0, none⟩) nV e4)) (hbl : Below w.heap.size w W)
    (a : Act) (ha : FrN 135 a) (h4 : slT a 4 = .pointer (some ⟨gs, 0, none⟩)) : Code.wp Try.prog rtOrd (bodyPost Try.prog Try.f4 (TellsB true w)) a W := by
  have HPL := Lib.hid hpl
  have HN1 := Lib.hid hnC
  have HN2 := Lib.hid hnD
  have HN3 := Lib.hid hnV
  have HA := Lib.hid hA
  have HBL := Lib.hid hbl
  obtain ⟨x0, y0⟩ := hA.bx 0 _ rfl
  obtain ⟨x1, y1⟩ := hA.bx 1 _ rfl
  obtain ⟨x2, y2⟩ := hA.bx 2 _ rfl
  obtain ⟨x3, y3⟩ := hA.bx 3 _ rfl
  have bC := hpl.nc
  have bD := hpl.nd
  have bV := hpl.nv
  rw [← hnC] at bC
  rw [← hnD] at bD
  rw [← hnV] at bV
  clear hpl hA hbl hnC hnD hnV
  obtain ⟨F, rfl⟩ := ha.open_
  rw [slT_listT (by omega)] at h4
  rw [lit135, h4]
  clear ha h4
  conv => arg 2; whnf
  go_wp2_with fail
  refine (graphR_clk s _ _ nC HN1.out HPL.out.ok HA.out.chip).mono ?_
  rintro e w5 ⟨B5, d5, rfl, hg, hb⟩
  have HG5 := Lib.hid hg
  have HP5 := Lib.hid (HA.out.below (hb.mono HA.out.le))
  have HQ5 := Lib.hid (HBL.out.trans (hb.mono HBL.out.size))
  clear hg hb x0 x1 x2 x3 y0 y1 y2 y3
  go_wp2_with fail
  refine (order_zero (rows := clksG s) (by rw [HN1.out]; simp [clksG]) (by omega) HPL.out.gC HPL.out.smallC B5 d5 w5 HG5.out).mono ?_
  rintro e u5 ⟨C5, m5, r5, rfl, hb⟩
  have HA5 := Lib.hid (HP5.out.below (hb.mono HP5.out.le))
  have HB5 := Lib.hid (HQ5.out.trans (hb.mono HQ5.out.size))
  clear hb HP5 HQ5 HG5 HA HBL
  obtain ⟨x0, y0⟩ := HA5.out.bx 0 _ rfl
  obtain ⟨x1, y1⟩ := HA5.out.bx 1 _ rfl
  obtain ⟨x2, y2⟩ := HA5.out.bx 2 _ rfl
  obtain ⟨x3, y3⟩ := HA5.out.bx 3 _ rfl
  go_wp2_with fail
  refine (graphR_dom s _ _ nD HN2.out HPL.out.ok HA5.out.chip).mono ?_
  rintro e w6 ⟨B6, d6, rfl, hg, hb⟩
  have HG6 := Lib.hid hg
  have HP6 := Lib.hid (HA5.out.below (hb.mono HA5.out.le))
  have HQ6 := Lib.hid (HB5.out.trans (hb.mono HB5.out.size))
  clear hg hb x0 x1 x2 x3 y0 y1 y2 y3
  go_wp2_with fail
  refine (order_zero (rows := domsG s) (by rw [HN2.out]; simp [domsG]) (by omega) HPL.out.gD HPL.out.smallD B6 d6 w6 HG6.out).mono ?_
  rintro e u6 ⟨C6, m6, r6, rfl, hb⟩
  have HA6 := Lib.hid (HP6.out.below (hb.mono HP6.out.le))
  have HB6 := Lib.hid (HQ6.out.trans (hb.mono HQ6.out.size))
  clear hb HP6 HQ6 HG6 HA5 HB5
  obtain ⟨x0, y0⟩ := HA6.out.bx 0 _ rfl
  obtain ⟨x1, y1⟩ := HA6.out.bx 1 _ rfl
  obtain ⟨x2, y2⟩ := HA6.out.bx 2 _ rfl
  obtain ⟨x3, y3⟩ := HA6.out.bx 3 _ rfl
  go_wp2_with fail
  refine (graphR_dev s _ _ nV HN3.out HPL.out.ok HA6.out.chip).mono ?_
  rintro e w7 ⟨B7, d7, rfl, hg, hb⟩
  have HG7 := Lib.hid hg
  have HP7 := Lib.hid (HA6.out.below (hb.mono HA6.out.le))
  have HQ7 := Lib.hid (HB6.out.trans (hb.mono HB6.out.size))
  clear hg hb x0 x1 x2 x3 y0 y1 y2 y3
  go_wp2_with fail
  refine (order_zero (rows := devsG s) (by rw [HN3.out]; simp [devsG]) (by omega) HPL.out.gV HPL.out.smallV B7 d7 w7 HG7.out).mono ?_
  rintro e u7 ⟨C7, m7, r7, rfl, hb⟩
  have HA7 := Lib.hid (HP7.out.below (hb.mono HP7.out.le))
  have HB7 := Lib.hid (HQ7.out.trans (hb.mono HQ7.out.size))
  clear hb HP7 HQ7 HG7 HA6 HB6
  obtain ⟨x0, y0⟩ := HA7.out.bx 0 _ rfl
  obtain ⟨x1, y1⟩ := HA7.out.bx 1 _ rfl
  obtain ⟨x2, y2⟩ := HA7.out.bx 2 _ rfl
  obtain ⟨x3, y3⟩ := HA7.out.bx 3 _ rfl
  go_upto_region 8 with fail
  rename_i K0 hK0 K1 hK1
  have HK0 := Lib.hid hK0
  clear hK0
  go_wp2_with fail
  refine (chip_check s _ _ HPL.out.ok HA7.out.chip).mono ?_
  rintro e w8 ⟨rfl, hb8⟩
  have HE := Lib.hid HPL.out.right
  rw [HE.out]
  have HA8 := Lib.hid (HA7.out.below (hb8.mono HA7.out.le))
  have HB8 := Lib.hid (HB7.out.trans (hb8.mono HB7.out.size))
  clear hb8 x0 x1 x2 x3 y0 y1 y2 y3
  go_wp2
  refine HK0.out _ _ ?_
  exact right_copy w w8 gs Bs s _ _ _ _ nC nD nV _ _ _ HPL.out HN1.out HN2.out HN3.out HA8.out HB8.out _ ⟨rfl, rfl⟩ rfl

set_option maxRecDepth 1000000 in
set_option maxHeartbeats 8000000 in
theorem right_any (A : Option Addr) (c : Nat) (l : List Int) (w : World) (hl : l.length ≤ maxLen) (hwf : ∀ x, x ∈ l → wfI x) (h : IntsAt w w.heap.size A l) :
    Calls Try.prog 4 #[.slice A l.length c] w (TellsB true w) := by
  have HL := Lib.hid hl
  have HWF := Lib.hid hwf
  have HI := Lib.hid h
  clear hl hwf h
  go_enter Try.func4, Try.ntmps4
  go_wp2_with fail
  refine (shown_any _).mono ?_
  rintro e w1 ⟨rfl, hb1⟩
  have HB1 := Lib.hid hb1
  have hz1 := hb1.size
  clear hb1
  go_upto_region 4 with fail
  rename_i K hK
  have HK := Lib.hid hK
  clear hK
  go_wp2_with fail
  refine (chip_any A c l w1 HL.out HWF.out ((HI.out.below HB1.out (Nat.le_refl _)).more hz1)).mono ?_
  rintro e w2 ⟨v1, v2, v3, v4, rfl, hown, hb2⟩
  have hpl := plain_of l
  generalize chipP l = s at *
  obtain ⟨g1, e1, rfl, -, -⟩ := Own5.form hown.clks (by have := hpl.nc; omega)
  obtain ⟨g2, e2, rfl, -, -⟩ := Own5.form hown.doms (by have := hpl.nd; omega)
  obtain ⟨g3, e3, rfl, -, -⟩ := Own5.form hown.rsts (by have := hpl.nr; omega)
  obtain ⟨g4, e4, rfl, -, -⟩ := Own5.form hown.devs (by have := hpl.nv; omega)
  obtain ⟨nC, hnC⟩ : ∃ n, n = s.clks.length := ⟨_, rfl⟩
  obtain ⟨nD, hnD⟩ : ∃ n, n = s.doms.length := ⟨_, rfl⟩
  obtain ⟨nR, hnR⟩ : ∃ n, n = s.rsts.length := ⟨_, rfl⟩
  obtain ⟨nV, hnV⟩ : ∃ n, n = s.devs.length := ⟨_, rfl⟩
  rw [← hnC, ← hnD, ← hnR, ← hnV] at hown ⊢
  have hba := (Below.refl w2.heap.size w2).alloc (Nat.le_refl _) (.cells #[.slice (some ⟨g1, 0, none⟩) nC e1, .slice (some ⟨g2, 0, none⟩) nD e2, .slice (some ⟨g3, 0, none⟩) nR e3, .slice (some ⟨g4, 0, none⟩) nV e4] 27)
  have hheld : Held (w2.alloc (.cells #[.slice (some ⟨g1, 0, none⟩) nC e1, .slice (some ⟨g2, 0, none⟩) nD e2, .slice (some ⟨g3, 0, none⟩) nR e3, .slice (some ⟨g4, 0, none⟩) nV e4] 27)).heap.size (w2.alloc (.cells #[.slice (some ⟨g1, 0, none⟩) nC e1, .slice (some ⟨g2, 0, none⟩) nD e2, .slice (some ⟨g3, 0, none⟩) nR e3, .slice (some ⟨g4, 0, none⟩) nV e4] 27)) w2.heap.size s (.slice (some ⟨g1, 0, none⟩) nC e1) (.slice (some ⟨g2, 0, none⟩) nD e2) (.slice (some ⟨g3, 0, none⟩) nR e3) (.slice (some ⟨g4, 0, none⟩) nV e4) :=
    ⟨by simp, Nat.le_refl _, BoxAt.new w2 [.slice (some ⟨g1, 0, none⟩) nC e1, .slice (some ⟨g2, 0, none⟩) nD e2, .slice (some ⟨g3, 0, none⟩) nR e3, .slice (some ⟨g4, 0, none⟩) nV e4] 27, Steady.later hown.chip hba⟩
  have hbl : Below w.heap.size w (w2.alloc (.cells #[.slice (some ⟨g1, 0, none⟩) nC e1, .slice (some ⟨g2, 0, none⟩) nD e2, .slice (some ⟨g3, 0, none⟩) nR e3, .slice (some ⟨g4, 0, none⟩) nV e4] 27)) := HB1.out.trans ((hb2.mono hz1).trans (hba.mono (Nat.le_trans hz1 hb2.size)))
  have HH := Lib.hid hheld
  have HBL := Lib.hid hbl
  have HPL := Lib.hid hpl
  have HN1 := Lib.hid hnC
  have HN2 := Lib.hid hnD
  have HN3 := Lib.hid hnV
  clear hba hheld hbl hpl hnC hnD hnV hnR hown hb2 HI HWF HL HB1 hz1
  go_wp2
  refine HK.out _ _ ?_
  exact right_ord w _ w2.heap.size _ s g1 g2 g3 g4 nC nD nR nV e1 e2 e3 e4 HPL.out HN1.out HN2.out HN3.out HH.out HBL.out _ ⟨rfl, rfl⟩ rfl
theorem right_arg (A : Option Addr) (c : Nat) (l : List Int) (w : World) (hm : l.length ≤ 9223372036854775807) (h : IntsAt w w.heap.size A l) (hwf : ∀ x, x ∈ l → wfI x) :
    Calls Try.prog 4 #[.slice A l.length c] w fun e w' => e = .returned (.bool true) ∧ Below w.heap.size w w' :=
  right_any A c l w (by unfold maxLen; omega) hwf h

end Go.Proofs.Ytkhfcbcanbplgaa
