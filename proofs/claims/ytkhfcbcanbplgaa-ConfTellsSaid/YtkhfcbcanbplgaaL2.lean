/- The walk of catnaplaw4.ConfFaults. -/
import Derived.Test.YtkhfcbcanbplgaaO2
import Derived.Test.YtkhfcbcanbplgaaH11
import Derived.Test.YtkhfcbcanbplgaaW17
import Derived.RegionTactic
import Derived.ChangeAlike
namespace Go.Proofs.Ytkhfcbcanbplgaa
set_option linter.unusedSimpArgs false
set_option linter.unusedVariables false
open Go.RowKit Go.Maps

structure FrN (n : Nat) (a : Act) : Prop where
  sz : a.tmps.size = n
  df : a.defers = []
theorem FrN.open_ {n : Nat} {a : Act} (h : FrN n a) : ∃ T : Nat → Value, a = ⟨listT T n, []⟩ := ⟨slT a, act_ext (by rw [listT_sl a h.sz]) h.df⟩
def PickIs (c n : Int) (k : Nat) : Prop := ∀ w, Calls Try.prog 26 #[.int .i64 c, .int .i64 n] w fun e w' => e = .returned (.int .i64 (k : Nat)) ∧ w = w'
theorem pick_ex {c : Int} {n : Nat} (hc : wfI c) (h0 : 0 < n) (h1 : n ≤ 1000000) : ∃ k : Nat, k < n ∧ PickIs c (n : Int) k := by
  have h2 := pickP_lo (c := c) (n := (n : Int)) (by omega)
  have h3 := pickP_hi (c := c) (n := (n : Int)) (by omega)
  exact ⟨(pickP c n).toNat, by omega, fun w => (pick_any c n w hc (by omega) (by omega)).mono fun e w' ⟨he, hw⟩ => ⟨by rw [he, Int.toNat_of_nonneg h2], hw⟩⟩

section
variable {s : Chip} (h : ChipOk s)
include h
theorem ChipOk.clkMore {x : Clk} (hl : s.clks.length < 1000) (hx : x.frm.length ≤ 1000 ∧ ∀ y, y ∈ x.frm → wfI y) : ChipOk { s with clks := s.clks ++ [x] } :=
  ⟨by simp; omega, h.n2, h.n3, h.n4, fun c hc => by
    rcases List.mem_append.1 hc with hc | hc
    · exact h.clks c hc
    · rw [List.mem_singleton.1 hc]; exact hx, h.doms, h.devs⟩
theorem ChipOk.setClk {x : Clk} {k : Nat} (hx : x.frm.length ≤ 1000 ∧ ∀ y, y ∈ x.frm → wfI y) : ChipOk { s with clks := s.clks.set k x } :=
  ⟨by simpa using h.n1, h.n2, h.n3, h.n4, fun c hc => by
    rcases List.mem_or_eq_of_mem_set hc with hc | hc
    · exact h.clks c hc
    · rw [hc]; exact hx, h.doms, h.devs⟩
theorem ChipOk.setDom {x : Dom} {k : Nat} (hx : wfI x.above) : ChipOk { s with doms := s.doms.set k x } :=
  ⟨h.n1, by simpa using h.n2, h.n3, h.n4, h.clks, fun c hc => by
    rcases List.mem_or_eq_of_mem_set hc with hc | hc
    · exact h.doms c hc
    · rw [hc]; exact hx, h.devs⟩
theorem ChipOk.setRst {x : Rst} {k : Nat} : ChipOk { s with rsts := s.rsts.set k x } :=
  ⟨h.n1, h.n2, by simpa using h.n3, h.n4, h.clks, h.doms, h.devs⟩
theorem ChipOk.setDev {x : Dev} {k : Nat} (hx : x.regs.length ≤ 1000 ∧ x.needs.length ≤ 1000 ∧ ∀ y, y ∈ x.needs → wfI y) : ChipOk { s with devs := s.devs.set k x } :=
  ⟨h.n1, h.n2, h.n3, by simpa using h.n4, h.clks, h.doms, fun c hc => by
    rcases List.mem_or_eq_of_mem_set hc with hc | hc
    · exact h.devs c hc
    · rw [hc]; exact hx⟩
end

theorem ints_fresh (W : World) (xs : List Int) (o : Obj) (hot : List Nat) (hn : W.heap.size ∉ hot) : IntsC hot ((W.alloc (.cells (xs.map fun x => Value.int .i64 x).toArray 3)).alloc o) (some ⟨W.heap.size, 0, none⟩) xs := fun _ => by
  refine ⟨_, rfl, by simp; omega, hn, fun j y hj => ?_⟩
  refine Lib.cell?_alloc_some _ ?_
  rw [Addr.add_lit, Nat.zero_add, cell_of_row _ _ _ _ _ _ (heap_alloc_new W _)]
  simp [hj]
theorem ints_fresh0 (W : World) (xs : List Int) (hot : List Nat) (hn : W.heap.size ∉ hot) : IntsC hot (W.alloc (.cells (xs.map fun x => Value.int .i64 x).toArray 3)) (some ⟨W.heap.size, 0, none⟩) xs := fun _ => by
  refine ⟨_, rfl, by simp, hn, fun j y hj => ?_⟩
  rw [Addr.add_lit, Nat.zero_add, cell_of_row _ _ _ _ _ _ (heap_alloc_new W _)]
  simp [hj]
theorem fr_keep {W : World} {o : Obj} {p : Addr} (h : W.frozen? p = false) (hl : p.block < W.heap.size) : (W.alloc o).drew.frozen? p = false := by
  have hm : Moved [] W (W.alloc o) := Moved.alloc W o
  exact (hm.frozen hl (by simp)).trans h
theorem drew_moved (W : World) : Moved [] W W.drew := ⟨rfl, rfl, rfl, Nat.le_refl _, fun _ _ _ => rfl⟩
theorem make_9 (W : World) :
    (Instr.makeSlice 42 (.int .i64 9) (.int .i64 9)).run Try.prog W = .ok (.slice (some ⟨W.heap.size, 0, none⟩) 9 9) (W.alloc (.cells (madeCells #[.int .u32 0, .bool false] 18) 56)) := by
  obtain ⟨i0, hi, hz0, hz1, hz2⟩ := info_parts Try.info56
  have h := run_make (P := Try.prog) (w := W) 42 56 i0 (.agg #[.int .u32 0, .bool false]) Try.underlying42 hi hz0 .i64 .i64 9 9 (by omega) (by omega) (by rw [hz2]; omega) (by omega)
  simp only [hz1] at h
  exact h
def IsRegs9 (base : Nat) : Gv := fun v w => ∃ b, v = mkRow 9 b ∧ base ≤ b ∧ w.heap[b]? = some (.cells (madeCells #[.int .u32 0, .bool false] 18) 56 (0, 0))
theorem stbR_regs9 {row : Option Nat} {base : Nat} (hr : ∀ k, row = some k → k < base) : StbR row (IsRegs9 base) := fun _ w _ ⟨b, e, hb, hh⟩ hg =>
  ⟨b, e, hb, (hg.block b (by
    rcases Nat.lt_or_ge b w.heap.size with h | h
    · exact h
    · rw [Array.getElem?_eq_none h] at hh; cases hh) fun e => by have := hr b e.symm; omega).trans hh⟩
theorem regs9 {w : World} {b : Nat} {hot : List Nat} (h : w.heap[b]? = some (.cells (madeCells #[.int .u32 0, .bool false] 18) 56 (0, 0))) (hb : b < w.heap.size) (hn : b ∉ hot) : RegsC hot w (some ⟨b, 0, none⟩) (List.replicate 9 ⟨0, false⟩) := fun _ => by
  refine ⟨_, rfl, hb, hn, fun k x hk j v hj => ?_⟩
  have hx := List.mem_of_getElem? hk
  have hx := List.eq_of_mem_replicate hx
  subst hx
  have hk9 : k < 9 := by have := (List.getElem?_eq_some_iff.1 hk).1; simpa using this
  rw [Addr.add_lit, Addr.add_lit, Nat.zero_add, cell_of_row _ _ _ _ _ _ h]
  match j, hj with
  | 0, hj =>
    simp at hj
    subst hj
    have : k * 2 < 18 := by omega
    simp [madeCells, this]
  | 1, hj =>
    simp at hj
    subst hj
    have : k * 2 + 1 < 18 := by omega
    simp [madeCells, this, show (k * 2 + 1) % 2 = 1 by omega]
  | j + 2, hj => simp at hj
set_option maxRecDepth 100000 in
theorem lit133 (T : Nat → Value) : listT T 133 = List.toArray (T 0 :: T 1 :: T 2 :: T 3 :: T 4 :: T 5 :: T 6 :: T 7 :: T 8 :: T 9 :: T 10 :: T 11 :: T 12 :: T 13 :: T 14 :: T 15 :: T 16 :: T 17 :: T 18 :: T 19 :: T 20 :: T 21 :: T 22 :: T 23 :: T 24 :: T 25 :: T 26 :: T 27 :: T 28 :: T 29 :: T 30 :: T 31 :: T 32 :: T 33 :: T 34 :: T 35 :: T 36 :: T 37 :: T 38 :: T 39 :: T 40 :: T 41 :: T 42 :: T 43 :: T 44 :: T 45 :: T 46 :: T 47 :: T 48 :: T 49 :: T 50 :: T 51 :: T 52 :: T 53 :: T 54 :: T 55 :: T 56 :: T 57 :: T 58 :: T 59 :: T 60 :: T 61 :: T 62 :: T 63 :: T 64 :: T 65 :: T 66 :: T 67 :: T 68 :: T 69 :: T 70 :: T 71 :: T 72 :: T 73 :: T 74 :: T 75 :: T 76 :: T 77 :: T 78 :: T 79 :: T 80 :: T 81 :: T 82 :: T 83 :: T 84 :: T 85 :: T 86 :: T 87 :: T 88 :: T 89 :: T 90 :: T 91 :: T 92 :: T 93 :: T 94 :: T 95 :: T 96 :: T 97 :: T 98 :: T 99 :: T 100 :: T 101 :: T 102 :: T 103 :: T 104 :: T 105 :: T 106 :: T 107 :: T 108 :: T 109 :: T 110 :: T 111 :: T 112 :: T 113 :: T 114 :: T 115 :: T 116 :: T 117 :: T 118 :: T 119 :: T 120 :: T 121 :: T 122 :: T 123 :: T 124 :: T 125 :: T 126 :: T 127 :: T 128 :: T 129 :: T 130 :: T 131 :: T 132 :: []) := rfl
noncomputable def body5 : Code := Try.f5.body.getD .skip
noncomputable def tail5 : Code := tlC (tlC (tlC (tlC (tlC (tlC (tlC (tlC body5)))))))

set_option maxRecDepth 1000000 in
set_option maxHeartbeats 4000000 in
theorem faults_end (w wz : World) (g0 : Nat) (s' : Chip) (v1 v2 v3 v4 : Value) (E : Int) (a : Act) (ha : FrN 133 a) (h8 : slT a 8 = .pointer (some ⟨g0, 0, none⟩)) (h11 : slT a 11 = .int .i64 E) (hbx : BoxAt wz g0 [v1, v2, v3, v4])
    (hv : ChipV wz wz.heap.size s' [v1, v2, v3, v4]) (hok : ChipOk s') (hE : chipE s' = E) (hb : Below w.heap.size w wz) : Code.wp Try.prog tail5 (bodyPost Try.prog Try.f5 (TellsB true w)) a wz := by
  subst hE
  obtain ⟨x0, y0⟩ := hbx 0 _ rfl
  obtain ⟨x1, y1⟩ := hbx 1 _ rfl
  obtain ⟨x2, y2⟩ := hbx 2 _ rfl
  obtain ⟨x3, y3⟩ := hbx 3 _ rfl
  have HV := Lib.hid hv
  have HB := Lib.hid hb
  clear hv hb hbx
  obtain ⟨F, rfl⟩ := ha.open_
  rw [slT_listT (by omega)] at h8 h11
  rw [lit133, h8, h11]
  clear ha h8 h11
  conv => arg 2; whnf
  go_wp2_with fail
  refine (chip_check s' _ wz hok HV.out).mono ?_
  rintro e w' ⟨rfl, hb'⟩
  have HB' := Lib.hid hb'
  clear hb'
  go_wp2
  go_ret
  exact ⟨rfl, HB.out.trans (HB'.out.mono HB.out.size)⟩

set_option maxRecDepth 1000000 in
set_option maxHeartbeats 8000000 in
theorem faults_any (A : Option Addr) (c : Nat) (l : List Int) (at_ what : Int) (w : World) (hl : l.length ≤ maxLen) (hwf : ∀ x, x ∈ l → wfI x) (h : IntsAt w w.heap.size A l) (ha : wfI at_) (hw : wfI what) :
    Calls Try.prog 5 #[.slice A l.length c, .int .i64 at_, .int .i64 what] w (TellsB true w) := by
  have HL := Lib.hid hl
  have HWF := Lib.hid hwf
  have HI := Lib.hid h
  have HA := Lib.hid ha
  have HW := Lib.hid hw
  clear hl hwf h ha hw
  go_enter Try.func5, Try.ntmps5
  go_wp2_with fail
  refine (shown_any _).mono ?_
  rintro e w1 ⟨rfl, hb1⟩
  have HB1 := Lib.hid hb1
  have hz1 := hb1.size
  clear hb1
  go_wp2_with fail
  refine (chip_any A c l w1 HL.out HWF.out ((HI.out.below HB1.out (Nat.le_refl _)).more hz1)).mono ?_
  rintro e w2 ⟨v1, v2, v3, v4, rfl, hown, hb2⟩
  have hpl := plain_of l
  generalize chipP l = s at *
  obtain ⟨g1, c1, rfl, f1, t1⟩ := Own5.form hown.clks (by have := hpl.nc; omega)
  obtain ⟨g2, c2, rfl, f2, t2⟩ := Own5.form hown.doms (by have := hpl.nd; omega)
  obtain ⟨g3, c3, rfl, f3, t3⟩ := Own5.form hown.rsts (by have := hpl.nr; omega)
  obtain ⟨g4, c4, rfl, f4, t4⟩ := Own5.form hown.devs (by have := hpl.nv; omega)
  have hz2 := hb2.size
  have ho5 := hown.box (.cells #[.slice (some ⟨g1, 0, none⟩) s.clks.length c1, .slice (some ⟨g2, 0, none⟩) s.doms.length c2, .slice (some ⟨g3, 0, none⟩) s.rsts.length c3, .slice (some ⟨g4, 0, none⟩) s.devs.length c4] 27)
  have hbx := BoxAt.new w2 [.slice (some ⟨g1, 0, none⟩) s.clks.length c1, .slice (some ⟨g2, 0, none⟩) s.doms.length c2, .slice (some ⟨g3, 0, none⟩) s.rsts.length c3, .slice (some ⟨g4, 0, none⟩) s.devs.length c4] 27
  have HO := Lib.hid ho5
  have HX := Lib.hid hbx
  have HPL := Lib.hid hpl
  have HB := Lib.hid (HB1.out.trans ((hb2.mono hz1).alloc (by omega) (.cells #[.slice (some ⟨g1, 0, none⟩) s.clks.length c1, .slice (some ⟨g2, 0, none⟩) s.doms.length c2, .slice (some ⟨g3, 0, none⟩) s.rsts.length c3, .slice (some ⟨g4, 0, none⟩) s.devs.length c4] 27)))
  obtain ⟨nC, hnC⟩ : ∃ n, n = s.clks.length := ⟨_, rfl⟩
  obtain ⟨nD, hnD⟩ : ∃ n, n = s.doms.length := ⟨_, rfl⟩
  obtain ⟨nR, hnR⟩ : ∃ n, n = s.rsts.length := ⟨_, rfl⟩
  obtain ⟨nV, hnV⟩ : ∃ n, n = s.devs.length := ⟨_, rfl⟩
  have b1 := hpl.nc
  have b2 := hpl.nd
  have b3 := hpl.nr
  have b4 := hpl.nv
  rw [← hnC] at b1
  rw [← hnD] at b2
  rw [← hnR] at b3
  rw [← hnV] at b4
  rw [← hnC, ← hnD, ← hnR, ← hnV] at HO HX HB ⊢
  have HNC := Lib.hid hnC
  have HND := Lib.hid hnD
  have HNR := Lib.hid hnR
  have HNV := Lib.hid hnV
  obtain ⟨dv, hdv, hpd⟩ := pick_ex (n := nV) HA.out (by omega) (by omega)
  obtain ⟨dr, hdr, hpr⟩ := pick_ex (n := nD) HA.out (by omega) (by omega)
  obtain ⟨q, hq, hpq⟩ := pick_ex (n := 12) HW.out (by omega) (by omega)
  have HPQ : RowKit.Hid (PickIs what 12 q) := hpq
  have HPD := Lib.hid hpd
  have HPR := Lib.hid hpr
  clear hb2 ho5 hbx hpl hown HI HWF HL HB1 hnC hnD hnR hnV hpd hpr hpq HA HW
  go_wp2_with fail
  refine (HPD.out _).mono ?_
  rintro e wq ⟨rfl, rfl⟩
  go_wp2_with fail
  refine (HPR.out _).mono ?_
  rintro e wq ⟨rfl, rfl⟩
  clear HPD HPR
  have hzW : w2.heap.size < (w2.alloc (.cells #[.slice (some ⟨g1, 0, none⟩) nC c1, .slice (some ⟨g2, 0, none⟩) nD c2, .slice (some ⟨g3, 0, none⟩) nR c3, .slice (some ⟨g4, 0, none⟩) nV c4] 27)).heap.size := by simp
  generalize w2.alloc (.cells #[.slice (some ⟨g1, 0, none⟩) nC c1, .slice (some ⟨g2, 0, none⟩) nD c2, .slice (some ⟨g3, 0, none⟩) nR c3, .slice (some ⟨g4, 0, none⟩) nV c4] 27) = W at HB HX HO hzW ⊢
  go_upto_region 8 with fail
  rename_i K0 hK0 K1 hK1
  have HK0 := Lib.hid hK0
  clear hK0
  go_wp2_with fail
  refine (HPQ.out _).mono ?_
  rintro e wq ⟨rfl, rfl⟩
  clear HPQ
  have hq12 : q = 0 ∨ q = 1 ∨ q = 2 ∨ q = 3 ∨ q = 4 ∨ q = 5 ∨ q = 6 ∨ q = 7 ∨ q = 8 ∨ q = 9 ∨ q = 10 ∨ q = 11 := by omega
  clear hq
  rcases hq12 with rfl | rfl | rfl | rfl | rfl | rfl | rfl | rfl | rfl | rfl | rfl | rfl
  · have hM : Moved [] W (W.alloc (.cells #[.int .u8 120, .slice none 0 0, .int .u64 0, .int .i64 0, .int .i64 0, .int .i64 0] 49)) := ((Moved.refl [] W).trans (Moved.alloc _ _))
    have hg0 : w2.heap.size < (W.alloc (.cells #[.int .u8 120, .slice none 0 0, .int .u64 0, .int .i64 0, .int .i64 0, .int .i64 0] 49)).heap.size := by simp only [World.size_alloc]; omega
    have hx : ClkC (w2.heap.size :: hot4 (.slice (some ⟨g1, 0, none⟩) nC c1) (.slice (some ⟨g2, 0, none⟩) nD c2) (.slice (some ⟨g3, 0, none⟩) nR c3) (.slice (some ⟨g4, 0, none⟩) nV c4)) (W.alloc (.cells #[.int .u8 120, .slice none 0 0, .int .u64 0, .int .i64 0, .int .i64 0, .int .i64 0] 49)) ⟨120, [], 0, 0, 0, 0⟩ [.int .u8 120, .slice none 0 0, .int .u64 0, .int .i64 0, .int .i64 0, .int .i64 0] := ⟨none, 0, rfl, Nat.zero_le _, fun h => absurd h (by simp)⟩
    obtain ⟨vss, hown, hstep⟩ := HO.out.pushClk hM hx rfl
    rw [← HNC.out] at hown hstep
    have hz1' : g1 ≠ w2.heap.size := by rintro rfl; exact HO.out.z1 rfl
    have HOWN := Lib.hid hown
    have HSTEP := Lib.hid hstep
    have HBA := Lib.hid ((HB.out.alloc (by first | omega | (simp only [World.size_alloc]; omega)) _) : Below w.heap.size w (W.alloc (.cells #[.int .u8 120, .slice none 0 0, .int .u64 0, .int .i64 0, .int .i64 0, .int .i64 0] 49)))
    obtain ⟨x0, y0⟩ := HX.out 0 _ rfl
    obtain ⟨x1, y1⟩ := HX.out 1 _ rfl
    obtain ⟨x2, y2⟩ := HX.out 2 _ rfl
    obtain ⟨x3, y3⟩ := HX.out 3 _ rfl
    have HX5 := Lib.hid (HX.out.move hM (by simp))
    clear hM hx hown hstep
    obtain ⟨i49, hi, hz0, hz1, hz2'⟩ := info_parts Try.info49
    go_wp2_with (at_builtin; refine wpList_append_own_at _ rfl _ _ 22 rfl w1.heap.size 49 i49 (.agg #[.int .u8 0, .slice none 0 0, .int .u64 0, .int .i64 0, .int .i64 0, .int .i64 0]) 6 64 Try.underlying22 hi hz0 hz1 hz2' rfl (by decide) _ _ _ rfl HOWN.out ⟨W.heap.size, 0, none⟩ 1 1 [.int .u8 120, .slice none 0 0, .int .u64 0, .int .i64 0, .int .i64 0, .int .i64 0] rfl rfl (cells_new W (W.heap.size) (by first | rfl | simp) _ 49) (by intro u hu; simp at hu; rcases hu with rfl | rfl | rfl | rfl | rfl | rfl <;> rfl) (by unfold maxLen; omega) (by omega) (by simp; omega) ?_; intro v6 w6 hown6 hg6 _ hob6; obtain ⟨A6, c6, rfl⟩ := own_shape' hown6; have hfin := HSTEP.out _ _ hown6 hg6 hob6 hg0; have hbx6 := HX5.out.move hfin.2 (by simpa [Value.ownBlock] using Ne.symm hz1'); obtain ⟨q0, q1⟩ := hbx6 0 _ rfl; have HBX6 := Lib.hid hbx6; have HFIN := Lib.hid hfin; clear hown6 hg6 hob6 hfin hbx6)
    refine HK0.out _ _ ?_
    exact faults_end w _ _ _ _ _ _ _ 1 _ ⟨rfl, rfl⟩ rfl rfl (HBX6.out.set (j := 0) (by simp) _) (HFIN.out.1 _ (Moved.setCell _ (by simp) _)) (HPL.out.ok.clkMore (by rw [← HNC.out]; omega) ⟨by simp, by simp⟩) HPL.out.fault0 ((HBA.out.trans (HFIN.out.2.below (by intro k hk; simp [Value.ownBlock] at hk; omega) HBA.out.size)).setCell (p := ⟨w2.heap.size, 0, none⟩) (by show w.heap.size ≤ w2.heap.size; omega) _)
  · have hM : Moved [] W ((W.alloc (.cells #[.int .i64 (nC : Nat)] 3)).alloc (.cells #[.int .u8 103, .slice (some ⟨W.heap.size, 0, none⟩) 1 1, .int .u64 0, .int .i64 0, .int .i64 0, .int .i64 0] 49)) := (((Moved.refl [] W).trans (Moved.alloc _ _)).trans (Moved.alloc _ _))
    have hg0 : w2.heap.size < ((W.alloc (.cells #[.int .i64 (nC : Nat)] 3)).alloc (.cells #[.int .u8 103, .slice (some ⟨W.heap.size, 0, none⟩) 1 1, .int .u64 0, .int .i64 0, .int .i64 0, .int .i64 0] 49)).heap.size := by simp only [World.size_alloc]; omega
    have hx : ClkC (w2.heap.size :: hot4 (.slice (some ⟨g1, 0, none⟩) nC c1) (.slice (some ⟨g2, 0, none⟩) nD c2) (.slice (some ⟨g3, 0, none⟩) nR c3) (.slice (some ⟨g4, 0, none⟩) nV c4)) ((W.alloc (.cells #[.int .i64 (nC : Nat)] 3)).alloc (.cells #[.int .u8 103, .slice (some ⟨W.heap.size, 0, none⟩) 1 1, .int .u64 0, .int .i64 0, .int .i64 0, .int .i64 0] 49)) ⟨103, [(nC : Int)], 0, 0, 0, 0⟩ [.int .u8 103, .slice (some ⟨W.heap.size, 0, none⟩) 1 1, .int .u64 0, .int .i64 0, .int .i64 0, .int .i64 0] := ⟨some ⟨W.heap.size, 0, none⟩, 1, rfl, Nat.le_refl _, (ints_fresh W [(nC : Int)] _ _ (by intro hm; have := (HO.out.fresh (by omega) hzW W.heap.size hm).2; omega))⟩
    obtain ⟨vss, hown, hstep⟩ := HO.out.pushClk hM hx rfl
    rw [← HNC.out] at hown hstep
    have hz1' : g1 ≠ w2.heap.size := by rintro rfl; exact HO.out.z1 rfl
    have HOWN := Lib.hid hown
    have HSTEP := Lib.hid hstep
    have HBA := Lib.hid (((HB.out.alloc (by first | omega | (simp only [World.size_alloc]; omega)) _).alloc (by first | omega | (simp only [World.size_alloc]; omega)) _) : Below w.heap.size w ((W.alloc (.cells #[.int .i64 (nC : Nat)] 3)).alloc (.cells #[.int .u8 103, .slice (some ⟨W.heap.size, 0, none⟩) 1 1, .int .u64 0, .int .i64 0, .int .i64 0, .int .i64 0] 49)))
    obtain ⟨x0, y0⟩ := HX.out 0 _ rfl
    obtain ⟨x1, y1⟩ := HX.out 1 _ rfl
    obtain ⟨x2, y2⟩ := HX.out 2 _ rfl
    obtain ⟨x3, y3⟩ := HX.out 3 _ rfl
    have HX5 := Lib.hid (HX.out.move hM (by simp))
    clear hM hx hown hstep
    obtain ⟨i49, hi, hz0, hz1, hz2'⟩ := info_parts Try.info49
    go_wp2_with (at_builtin; refine wpList_append_own_at _ rfl _ _ 22 rfl w1.heap.size 49 i49 (.agg #[.int .u8 0, .slice none 0 0, .int .u64 0, .int .i64 0, .int .i64 0, .int .i64 0]) 6 64 Try.underlying22 hi hz0 hz1 hz2' rfl (by decide) _ _ _ rfl HOWN.out ⟨W.heap.size + 1, 0, none⟩ 1 1 [.int .u8 103, .slice (some ⟨W.heap.size, 0, none⟩) 1 1, .int .u64 0, .int .i64 0, .int .i64 0, .int .i64 0] rfl rfl (cells_new (W.alloc (.cells #[.int .i64 (nC : Nat)] 3)) (W.heap.size + 1) (by first | rfl | simp) _ 49) (by intro u hu; simp at hu; rcases hu with rfl | rfl | rfl | rfl | rfl | rfl <;> rfl) (by unfold maxLen; omega) (by omega) (by simp; omega) ?_; intro v6 w6 hown6 hg6 _ hob6; obtain ⟨A6, c6, rfl⟩ := own_shape' hown6; have hfin := HSTEP.out _ _ hown6 hg6 hob6 hg0; have hbx6 := HX5.out.move hfin.2 (by simpa [Value.ownBlock] using Ne.symm hz1'); obtain ⟨q0, q1⟩ := hbx6 0 _ rfl; have HBX6 := Lib.hid hbx6; have HFIN := Lib.hid hfin; clear hown6 hg6 hob6 hfin hbx6)
    refine HK0.out _ _ ?_
    exact faults_end w _ _ _ _ _ _ _ 5 _ ⟨rfl, rfl⟩ rfl rfl (HBX6.out.set (j := 0) (by simp) _) (HFIN.out.1 _ (Moved.setCell _ (by simp) _)) (HPL.out.ok.clkMore (by rw [← HNC.out]; omega) ⟨by simp, by intro y hy; simp at hy; subst hy; unfold wfI; omega⟩) (by have := HPL.out.fault1; rwa [← HNC.out] at this) ((HBA.out.trans (HFIN.out.2.below (by intro k hk; simp [Value.ownBlock] at hk; omega) HBA.out.size)).setCell (p := ⟨w2.heap.size, 0, none⟩) (by show w.heap.size ≤ w2.heap.size; omega) _)
  · have hM : Moved [] W ((W.alloc (.cells #[.int .i64 0] 3)).alloc (.cells #[.int .u8 100, .slice (some ⟨W.heap.size, 0, none⟩) 1 1, .int .u64 0, .int .i64 0, .int .i64 1001, .int .i64 0] 49)) := (((Moved.refl [] W).trans (Moved.alloc _ _)).trans (Moved.alloc _ _))
    have hg0 : w2.heap.size < ((W.alloc (.cells #[.int .i64 0] 3)).alloc (.cells #[.int .u8 100, .slice (some ⟨W.heap.size, 0, none⟩) 1 1, .int .u64 0, .int .i64 0, .int .i64 1001, .int .i64 0] 49)).heap.size := by simp only [World.size_alloc]; omega
    have hx : ClkC (w2.heap.size :: hot4 (.slice (some ⟨g1, 0, none⟩) nC c1) (.slice (some ⟨g2, 0, none⟩) nD c2) (.slice (some ⟨g3, 0, none⟩) nR c3) (.slice (some ⟨g4, 0, none⟩) nV c4)) ((W.alloc (.cells #[.int .i64 0] 3)).alloc (.cells #[.int .u8 100, .slice (some ⟨W.heap.size, 0, none⟩) 1 1, .int .u64 0, .int .i64 0, .int .i64 1001, .int .i64 0] 49)) ⟨100, [0], 0, 0, 1001, 0⟩ [.int .u8 100, .slice (some ⟨W.heap.size, 0, none⟩) 1 1, .int .u64 0, .int .i64 0, .int .i64 1001, .int .i64 0] := ⟨some ⟨W.heap.size, 0, none⟩, 1, rfl, Nat.le_refl _, (ints_fresh W [0] _ _ (by intro hm; have := (HO.out.fresh (by omega) hzW W.heap.size hm).2; omega))⟩
    obtain ⟨vss, hown, hstep⟩ := HO.out.pushClk hM hx rfl
    rw [← HNC.out] at hown hstep
    have hz1' : g1 ≠ w2.heap.size := by rintro rfl; exact HO.out.z1 rfl
    have HOWN := Lib.hid hown
    have HSTEP := Lib.hid hstep
    have HBA := Lib.hid (((HB.out.alloc (by first | omega | (simp only [World.size_alloc]; omega)) _).alloc (by first | omega | (simp only [World.size_alloc]; omega)) _) : Below w.heap.size w ((W.alloc (.cells #[.int .i64 0] 3)).alloc (.cells #[.int .u8 100, .slice (some ⟨W.heap.size, 0, none⟩) 1 1, .int .u64 0, .int .i64 0, .int .i64 1001, .int .i64 0] 49)))
    obtain ⟨x0, y0⟩ := HX.out 0 _ rfl
    obtain ⟨x1, y1⟩ := HX.out 1 _ rfl
    obtain ⟨x2, y2⟩ := HX.out 2 _ rfl
    obtain ⟨x3, y3⟩ := HX.out 3 _ rfl
    have HX5 := Lib.hid (HX.out.move hM (by simp))
    clear hM hx hown hstep
    obtain ⟨i49, hi, hz0, hz1, hz2'⟩ := info_parts Try.info49
    go_wp2_with (at_builtin; refine wpList_append_own_at _ rfl _ _ 22 rfl w1.heap.size 49 i49 (.agg #[.int .u8 0, .slice none 0 0, .int .u64 0, .int .i64 0, .int .i64 0, .int .i64 0]) 6 64 Try.underlying22 hi hz0 hz1 hz2' rfl (by decide) _ _ _ rfl HOWN.out ⟨W.heap.size + 1, 0, none⟩ 1 1 [.int .u8 100, .slice (some ⟨W.heap.size, 0, none⟩) 1 1, .int .u64 0, .int .i64 0, .int .i64 1001, .int .i64 0] rfl rfl (cells_new (W.alloc (.cells #[.int .i64 0] 3)) (W.heap.size + 1) (by first | rfl | simp) _ 49) (by intro u hu; simp at hu; rcases hu with rfl | rfl | rfl | rfl | rfl | rfl <;> rfl) (by unfold maxLen; omega) (by omega) (by simp; omega) ?_; intro v6 w6 hown6 hg6 _ hob6; obtain ⟨A6, c6, rfl⟩ := own_shape' hown6; have hfin := HSTEP.out _ _ hown6 hg6 hob6 hg0; have hbx6 := HX5.out.move hfin.2 (by simpa [Value.ownBlock] using Ne.symm hz1'); obtain ⟨q0, q1⟩ := hbx6 0 _ rfl; have HBX6 := Lib.hid hbx6; have HFIN := Lib.hid hfin; clear hown6 hg6 hob6 hfin hbx6)
    refine HK0.out _ _ ?_
    exact faults_end w _ _ _ _ _ _ _ 3 _ ⟨rfl, rfl⟩ rfl rfl (HBX6.out.set (j := 0) (by simp) _) (HFIN.out.1 _ (Moved.setCell _ (by simp) _)) (HPL.out.ok.clkMore (by rw [← HNC.out]; omega) ⟨by simp, by intro y hy; simp at hy; subst hy; unfold wfI; omega⟩) HPL.out.fault2 ((HBA.out.trans (HFIN.out.2.below (by intro k hk; simp [Value.ownBlock] at hk; omega) HBA.out.size)).setCell (p := ⟨w2.heap.size, 0, none⟩) (by show w.heap.size ≤ w2.heap.size; omega) _)
  · obtain ⟨r0, hr⟩ := HPL.out.clk0
    obtain ⟨vs, hvl, hC, hcells⟩ := HO.out.clks.cell HNC.out hr
    obtain ⟨Ax, cx, rfl, hcx, hix⟩ := hC
    obtain ⟨e0, e1⟩ := hcells 2 _ rfl
    simp only [Nat.zero_mul, Nat.zero_add] at e0 e1
    have hset := HO.out.setClk (j := 2) (u := .int .u64 0) (x' := ⟨111, [], 0, 0, 0, 0⟩) HNC.out hr (by omega) (fun vs hv _ => by obtain ⟨A, c, rfl, q1, q2⟩ := hv; exact ⟨A, c, rfl, q1, q2⟩)
    simp only [Nat.zero_mul, Nat.zero_add] at hset
    have HSET := Lib.hid hset
    have HR := Lib.hid hr
    have hne : w2.heap.size ≠ g1 := fun e => HO.out.z1 (by simp [Value.ownBlock, e])
    have hbs := HX.out.move (w' := W.setCell ⟨g1, 2, none⟩ (.int .u64 0)) (Moved.setCell (hot := [g1]) _ (by simp) _) (by simpa using hne)
    have HBS := Lib.hid hbs
    obtain ⟨x0, y0⟩ := HX.out 0 _ rfl
    obtain ⟨x1, y1⟩ := HX.out 1 _ rfl
    obtain ⟨x2, y2⟩ := HX.out 2 _ rfl
    obtain ⟨x3, y3⟩ := HX.out 3 _ rfl
    clear hset hbs hcells hr
    go_wp2
    refine HK0.out _ _ ?_
    exact faults_end w _ _ _ _ _ _ _ 3 _ ⟨rfl, rfl⟩ rfl rfl HBS.out HSET.out.chip (HPL.out.ok.setClk ⟨by simp, by simp⟩) HPL.out.fault3 (HB.out.setCell (p := ⟨g1, 2, none⟩) (by show w.heap.size ≤ g1; omega) _)
  · have hr := List.getElem?_eq_getElem (l := s.doms) (i := dr) (by rw [← HND.out]; omega)
    generalize s.doms[dr]'_ = x at hr
    obtain ⟨vs, hvl, hC, hcells⟩ := HO.out.doms.cell HND.out hr
    have hC' : vs = _ := hC
    subst hC'
    obtain ⟨e0, e1⟩ := hcells 1 _ rfl
    have hset := HO.out.setDom (j := 1) (u := .int .i64 21) (x' := { x with delay := 21 }) HND.out hr (by omega) (fun vs hv _ => by have hv' : vs = _ := hv; subst hv'; rfl)
    have HSET := Lib.hid hset
    have HR := Lib.hid hr
    have hne : w2.heap.size ≠ g2 := fun e => HO.out.z2 (by simp [Value.ownBlock, e])
    have hbs := HX.out.move (w' := W.setCell ⟨g2, dr * 3 + 1, none⟩ (.int .i64 21)) (Moved.setCell (hot := [g2]) _ (by simp) _) (by simpa using hne)
    have HBS := Lib.hid hbs
    obtain ⟨x0, y0⟩ := HX.out 0 _ rfl
    obtain ⟨x1, y1⟩ := HX.out 1 _ rfl
    obtain ⟨x2, y2⟩ := HX.out 2 _ rfl
    obtain ⟨x3, y3⟩ := HX.out 3 _ rfl
    clear hset hbs hcells hr
    have i0 : (0 : Int) ≤ (dr : Int) := by omega
    have i1 : (dr : Int) < (nD : Int) := by omega
    go_wp2
    refine HK0.out _ _ ?_
    exact faults_end w _ _ _ _ _ _ _ 3 _ ⟨rfl, rfl⟩ rfl rfl HBS.out HSET.out.chip (HPL.out.ok.setDom (show wfI x.above from HPL.out.ok.doms x (List.mem_of_getElem? HR.out))) (HPL.out.fault4 HR.out) (HB.out.setCell (p := ⟨g2, dr * 3 + 1, none⟩) (by show w.heap.size ≤ g2; omega) _)
  · have hr := List.getElem?_eq_getElem (l := s.doms) (i := dr) (by rw [← HND.out]; omega)
    generalize s.doms[dr]'_ = x at hr
    obtain ⟨vs, hvl, hC, hcells⟩ := HO.out.doms.cell HND.out hr
    have hC' : vs = _ := hC
    subst hC'
    obtain ⟨e0, e1⟩ := hcells 0 _ rfl
    simp only [Nat.add_zero] at e0 e1
    have hset := HO.out.setDom (j := 0) (u := .int .i64 (dr : Nat)) (x' := { x with above := (dr : Int) }) HND.out hr (by omega) (fun vs hv _ => by have hv' : vs = _ := hv; subst hv'; rfl)
    simp only [Nat.add_zero] at hset
    have HSET := Lib.hid hset
    have HR := Lib.hid hr
    have hne : w2.heap.size ≠ g2 := fun e => HO.out.z2 (by simp [Value.ownBlock, e])
    have hbs := HX.out.move (w' := W.setCell ⟨g2, dr * 3, none⟩ (.int .i64 (dr : Nat))) (Moved.setCell (hot := [g2]) _ (by simp) _) (by simpa using hne)
    have HBS := Lib.hid hbs
    obtain ⟨x0, y0⟩ := HX.out 0 _ rfl
    obtain ⟨x1, y1⟩ := HX.out 1 _ rfl
    obtain ⟨x2, y2⟩ := HX.out 2 _ rfl
    obtain ⟨x3, y3⟩ := HX.out 3 _ rfl
    clear hset hbs hcells hr
    have i0 : (0 : Int) ≤ (dr : Int) := by omega
    have i1 : (dr : Int) < (nD : Int) := by omega
    go_wp2
    refine HK0.out _ _ ?_
    exact faults_end w _ _ _ _ _ _ _ 5 _ ⟨rfl, rfl⟩ rfl rfl HBS.out HSET.out.chip (HPL.out.ok.setDom (by unfold wfI; simp only; omega)) (HPL.out.fault5 HR.out) (HB.out.setCell (p := ⟨g2, dr * 3, none⟩) (by show w.heap.size ≤ g2; omega) _)
  · have hr := List.getElem?_eq_getElem (l := s.doms) (i := dr) (by rw [← HND.out]; omega)
    generalize s.doms[dr]'_ = x at hr
    obtain ⟨vs, hvl, hC, hcells⟩ := HO.out.doms.cell HND.out hr
    have hC' : vs = _ := hC
    subst hC'
    obtain ⟨e0, e1⟩ := hcells 0 _ rfl
    simp only [Nat.add_zero] at e0 e1
    have hset := HO.out.setDom (j := 0) (u := .int .i64 (nD : Nat)) (x' := { x with above := (nD : Int) }) HND.out hr (by omega) (fun vs hv _ => by have hv' : vs = _ := hv; subst hv'; rfl)
    simp only [Nat.add_zero] at hset
    have HSET := Lib.hid hset
    have HR := Lib.hid hr
    have hne : w2.heap.size ≠ g2 := fun e => HO.out.z2 (by simp [Value.ownBlock, e])
    have hbs := HX.out.move (w' := W.setCell ⟨g2, dr * 3, none⟩ (.int .i64 (nD : Nat))) (Moved.setCell (hot := [g2]) _ (by simp) _) (by simpa using hne)
    have HBS := Lib.hid hbs
    obtain ⟨x0, y0⟩ := HX.out 0 _ rfl
    obtain ⟨x1, y1⟩ := HX.out 1 _ rfl
    obtain ⟨x2, y2⟩ := HX.out 2 _ rfl
    obtain ⟨x3, y3⟩ := HX.out 3 _ rfl
    clear hset hbs hcells hr
    have i0 : (0 : Int) ≤ (dr : Int) := by omega
    have i1 : (dr : Int) < (nD : Int) := by omega
    go_wp2
    refine HK0.out _ _ ?_
    exact faults_end w _ _ _ _ _ _ _ 4 _ ⟨rfl, rfl⟩ rfl rfl HBS.out HSET.out.chip (HPL.out.ok.setDom (by unfold wfI; simp only; omega)) (HPL.out.fault6 HR.out (by rw [HND.out]; exact Int.le_refl _)) (HB.out.setCell (p := ⟨g2, dr * 3, none⟩) (by show w.heap.size ≤ g2; omega) _)
  · have hr := List.getElem?_eq_getElem (l := s.rsts) (i := 0) (by rw [← HNR.out]; omega)
    generalize s.rsts[0]'_ = x at hr
    obtain ⟨vs, hvl, hC, hcells⟩ := HO.out.rsts.cell HNR.out hr
    have hC' : vs = _ := hC
    subst hC'
    obtain ⟨e0, e1⟩ := hcells 0 _ rfl
    simp only [Nat.zero_mul, Nat.zero_add] at e0 e1
    have hset := HO.out.setRst (j := 0) (u := .int .i64 (-1)) (x' := ⟨-1⟩) HNR.out hr (by omega) (fun vs hv _ => by have hv' : vs = _ := hv; subst hv'; rfl)
    simp only [Nat.zero_mul, Nat.zero_add] at hset
    have HSET := Lib.hid hset
    have HR := Lib.hid hr
    have hne : w2.heap.size ≠ g3 := fun e => HO.out.z3 (by simp [Value.ownBlock, e])
    have hbs := HX.out.move (w' := W.setCell ⟨g3, 0, none⟩ (.int .i64 (-1))) (Moved.setCell (hot := [g3]) _ (by simp) _) (by simpa using hne)
    have HBS := Lib.hid hbs
    obtain ⟨x0, y0⟩ := HX.out 0 _ rfl
    obtain ⟨x1, y1⟩ := HX.out 1 _ rfl
    obtain ⟨x2, y2⟩ := HX.out 2 _ rfl
    obtain ⟨x3, y3⟩ := HX.out 3 _ rfl
    clear hset hbs hcells hr
    go_wp2
    refine HK0.out _ _ ?_
    exact faults_end w _ _ _ _ _ _ _ 3 _ ⟨rfl, rfl⟩ rfl rfl HBS.out HSET.out.chip HPL.out.ok.setRst HPL.out.fault7 (HB.out.setCell (p := ⟨g3, 0, none⟩) (by show w.heap.size ≤ g3; omega) _)
  · have hr := List.getElem?_eq_getElem (l := s.devs) (i := dv) (by rw [← HNV.out]; omega)
    generalize s.devs[dv]'_ = x at hr
    obtain ⟨vs, hvl, hC, hcells⟩ := HO.out.devs.cell HNV.out hr
    obtain ⟨Ax, cx, Ay, cy, rfl, hcx, hcy, hix, hiy⟩ := hC
    obtain ⟨e0, e1⟩ := hcells 2 _ rfl
    have hset := HO.out.setDev (j := 2) (u := .int .i64 (nR : Nat)) (x' := { x with rst := (nR : Int) }) HNV.out hr (by omega) (fun vs hv _ => by obtain ⟨A, c, A', c', rfl, q1, q2, q3, q4⟩ := hv; exact ⟨A, c, A', c', rfl, q1, q2, q3, q4⟩)
    have HSET := Lib.hid hset
    have HR := Lib.hid hr
    have hne : w2.heap.size ≠ g4 := fun e => HO.out.z4 (by simp [Value.ownBlock, e])
    have hbs := HX.out.move (w' := W.setCell ⟨g4, dv * 6 + 2, none⟩ (.int .i64 (nR : Nat))) (Moved.setCell (hot := [g4]) _ (by simp) _) (by simpa using hne)
    have HBS := Lib.hid hbs
    obtain ⟨x0, y0⟩ := HX.out 0 _ rfl
    obtain ⟨x1, y1⟩ := HX.out 1 _ rfl
    obtain ⟨x2, y2⟩ := HX.out 2 _ rfl
    obtain ⟨x3, y3⟩ := HX.out 3 _ rfl
    clear hset hbs hcells hr
    have i0 : (0 : Int) ≤ (dv : Int) := by omega
    have i1 : (dv : Int) < (nV : Int) := by omega
    go_wp2
    refine HK0.out _ _ ?_
    exact faults_end w _ _ _ _ _ _ _ 4 _ ⟨rfl, rfl⟩ rfl rfl HBS.out HSET.out.chip (HPL.out.ok.setDev (show x.regs.length ≤ 1000 ∧ x.needs.length ≤ 1000 ∧ ∀ y, y ∈ x.needs → wfI y from HPL.out.ok.devs x (List.mem_of_getElem? HR.out))) (by have := HPL.out.fault8 HR.out; rwa [← HNR.out] at this) (HB.out.setCell (p := ⟨g4, dv * 6 + 2, none⟩) (by show w.heap.size ≤ g4; omega) _)
  · have hr := List.getElem?_eq_getElem (l := s.devs) (i := dv) (by rw [← HNV.out]; omega)
    generalize s.devs[dv]'_ = x at hr
    obtain ⟨vs, hvl, hC, hcells⟩ := HO.out.devs.cell HNV.out hr
    have hm1 : Moved [] W (W.alloc (.cells #[.int .i64 (dv : Nat)] 3)) := Moved.alloc W _
    have ho1 := HO.out.calm hm1
    obtain ⟨Ax, cx, Ay, cy, hvs, hcx, hcy, hix, hiy⟩ := hC
    subst hvs
    obtain ⟨e0, e1⟩ := hcells 5 _ rfl
    obtain ⟨vs', -, ⟨Ax', cx', Ay', cy', hvs', -, -, -, -⟩, hcells'⟩ := ho1.devs.cell HNV.out hr
    subst hvs'
    obtain ⟨e0', e1'⟩ := hcells' 5 _ rfl
    have hnh : W.heap.size ∉ w2.heap.size :: hot4 (.slice (some ⟨g1, 0, none⟩) nC c1) (.slice (some ⟨g2, 0, none⟩) nD c2) (.slice (some ⟨g3, 0, none⟩) nR c3) (.slice (some ⟨g4, 0, none⟩) nV c4) := fun hm => by have := (HO.out.fresh (by omega) hzW W.heap.size hm).2; omega
    have hset := ho1.setDev (j := 5) (u := .slice (some ⟨W.heap.size, 0, none⟩) 1 1) (x' := { x with needs := [(dv : Int)] }) HNV.out hr (by omega) (fun vs hv _ => by obtain ⟨A, c, A', c', rfl, q1, q2, q3, q4⟩ := hv; exact ⟨A, c, some ⟨W.heap.size, 0, none⟩, 1, rfl, q1, Nat.le_refl _, q3, ints_fresh0 W [(dv : Int)] _ hnh⟩)
    have hne : w2.heap.size ≠ g4 := fun e => HO.out.z4 (by simp [Value.ownBlock, e])
    have hbs := HX.out.move (w' := (W.alloc (.cells #[.int .i64 (dv : Nat)] 3)).setCell ⟨g4, dv * 6 + 5, none⟩ (.slice (some ⟨W.heap.size, 0, none⟩) 1 1)) ((Moved.alloc W _).trans (Moved.setCell (hot := [g4]) _ (by simp) _)) (by simpa using hne)
    have hbl : Below w.heap.size w ((W.alloc (.cells #[.int .i64 (dv : Nat)] 3)).setCell ⟨g4, dv * 6 + 5, none⟩ (.slice (some ⟨W.heap.size, 0, none⟩) 1 1)) := (HB.out.alloc (by omega) _).setCell (p := ⟨g4, dv * 6 + 5, none⟩) (by show w.heap.size ≤ g4; omega) _
    have HSET := Lib.hid hset
    have HBS := Lib.hid hbs
    have HBL := Lib.hid hbl
    have HR := Lib.hid hr
    obtain ⟨x0, y0⟩ := HX.out 0 _ rfl
    obtain ⟨x1, y1⟩ := HX.out 1 _ rfl
    obtain ⟨x2, y2⟩ := HX.out 2 _ rfl
    obtain ⟨x3, y3⟩ := HX.out 3 _ rfl
    have i0 : (0 : Int) ≤ (dv : Int) := by omega
    have i1 : (dv : Int) < (nV : Int) := by omega
    clear hset hbs hbl hr hcells hcells' hm1 ho1 hnh hix hiy hne
    go_wp2
    refine HK0.out _ _ ?_
    exact faults_end w _ _ _ _ _ _ _ 5 _ ⟨rfl, rfl⟩ rfl rfl HBS.out HSET.out.chip (HPL.out.ok.setDev (show x.regs.length ≤ 1000 ∧ [(dv : Int)].length ≤ 1000 ∧ ∀ y, y ∈ [(dv : Int)] → wfI y from ⟨(HPL.out.ok.devs x (List.mem_of_getElem? HR.out)).1, by simp, by intro y hy; simp at hy; subst hy; unfold wfI; omega⟩)) (HPL.out.fault9 HR.out) HBL.out
  · have hr := List.getElem?_eq_getElem (l := s.devs) (i := dv) (by rw [← HNV.out]; omega)
    generalize s.devs[dv]'_ = x at hr
    obtain ⟨vs, hvl, hC, hcells⟩ := HO.out.devs.cell HNV.out hr
    have HR := Lib.hid hr
    have x3 := (HX.out 3 _ rfl).1
    have i0 : (0 : Int) ≤ (dv : Int) := by omega
    have i1 : (dv : Int) < (nV : Int) := by omega
    obtain ⟨Ax, cx, Ay, cy, hvs, hcx, hcy, hix, hiy⟩ := hC
    subst hvs
    obtain ⟨e0, e1⟩ := hcells 4 _ rfl
    have ho1 := HO.out.calm (Moved.alloc W (.cells (madeCells #[.int .u32 0, .bool false] 18) 56))
    have hnh : W.heap.size ∉ w2.heap.size :: hot4 (.slice (some ⟨g1, 0, none⟩) nC c1) (.slice (some ⟨g2, 0, none⟩) nD c2) (.slice (some ⟨g3, 0, none⟩) nR c3) (.slice (some ⟨g4, 0, none⟩) nV c4) := fun hm => by have := (HO.out.fresh (by omega) hzW W.heap.size hm).2; omega
    have hset := (ho1.setDev (j := 4) (u := .slice (some ⟨W.heap.size, 0, none⟩) 9 9) (x' := { x with regs := List.replicate 9 ⟨0, false⟩ }) HNV.out hr (by omega) (fun vs hv _ => by obtain ⟨A, c, A', c', rfl, q1, q2, q3, q4⟩ := hv; exact ⟨some ⟨W.heap.size, 0, none⟩, 9, A', c', rfl, Nat.le_refl _, q2, regs9 (heap_alloc_new W _) (by simp) hnh, q4⟩)).calm (drew_moved _)
    have hne0 : w2.heap.size ≠ g4 := fun e => HO.out.z4 (by simp [Value.ownBlock, e])
    have hbs := HX.out.move (w' := ((W.alloc (.cells (madeCells #[.int .u32 0, .bool false] 18) 56)).setCell ⟨g4, dv * 6 + 4, none⟩ (.slice (some ⟨W.heap.size, 0, none⟩) 9 9)).drew) (((Moved.alloc W _).trans (Moved.setCell (hot := [g4]) _ (by simp) _)).trans ((drew_moved _).mono (by simp))) (by simpa using hne0)
    have hbl : Below w.heap.size w ((W.alloc (.cells (madeCells #[.int .u32 0, .bool false] 18) 56)).setCell ⟨g4, dv * 6 + 4, none⟩ (.slice (some ⟨W.heap.size, 0, none⟩) 9 9)).drew := ((HB.out.alloc (by omega) _).setCell (p := ⟨g4, dv * 6 + 4, none⟩) (by show w.heap.size ≤ g4; omega) _).trans ⟨rfl, rfl, rfl, Nat.le_refl _, fun _ _ => rfl⟩
    have HSET := Lib.hid hset
    have HBS := Lib.hid hbs
    have HBL := Lib.hid hbl
    clear hcells hr hix hiy hset hbs hbl ho1 hnh
    have hmk9 := make_9
    have e3 : ∀ o : Obj, (W.alloc o).cell? ⟨g4, dv * 6 + 4, none⟩ = some (.slice Ax x.regs.length cx) := fun o => Lib.cell?_alloc_some _ e0
    have e4 : ∀ o : Obj, (W.alloc o).frozen? ⟨g4, dv * 6 + 4, none⟩ = false := fun o => fr_keep e1 (by show g4 < W.heap.size; omega)
    have hne : w2.heap.size ≠ g4 := fun e => HO.out.z4 (by simp [Value.ownBlock, e])
    have hne' : g4 ≠ w2.heap.size := Ne.symm hne
    have e2 : ∀ o : Obj, (W.alloc o).drew.frozen? ⟨g4, dv * 6 + 4, none⟩ = false := fun o => fr_keep e1 (by show g4 < W.heap.size; omega)
    go_wp2
    go_region
    clear e0 e1 e2 e3 e4 x3 hmk9 hne hne'
    go_wp2
    refine HK0.out _ _ ?_
    exact faults_end w _ _ _ _ _ _ _ 8 _ ⟨rfl, rfl⟩ rfl rfl HBS.out HSET.out.chip (HPL.out.ok.setDev (show (List.replicate 9 (⟨0, false⟩ : Rgs)).length ≤ 1000 ∧ x.needs.length ≤ 1000 ∧ ∀ y, y ∈ x.needs → wfI y from ⟨by simp, (HPL.out.ok.devs x (List.mem_of_getElem? HR.out)).2.1, (HPL.out.ok.devs x (List.mem_of_getElem? HR.out)).2.2⟩)) (full_dev (c := { x with regs := List.replicate 9 ⟨0, false⟩ }) (List.mem_of_getElem? (List.getElem?_set_self (List.getElem?_eq_some_iff.1 HR.out).1)) (by simp)) HBL.out
  · have hM : Moved [] W ((W.alloc (.cells #[.int .i64 0, .int .i64 0, .int .i64 0, .int .i64 0, .int .i64 0] 3)).alloc (.cells #[.int .u8 109, .slice (some ⟨W.heap.size, 0, none⟩) 5 5, .int .u64 0, .int .i64 0, .int .i64 0, .int .i64 0] 49)) := (((Moved.refl [] W).trans (Moved.alloc _ _)).trans (Moved.alloc _ _))
    have hg0 : w2.heap.size < ((W.alloc (.cells #[.int .i64 0, .int .i64 0, .int .i64 0, .int .i64 0, .int .i64 0] 3)).alloc (.cells #[.int .u8 109, .slice (some ⟨W.heap.size, 0, none⟩) 5 5, .int .u64 0, .int .i64 0, .int .i64 0, .int .i64 0] 49)).heap.size := by simp only [World.size_alloc]; omega
    have hx : ClkC (w2.heap.size :: hot4 (.slice (some ⟨g1, 0, none⟩) nC c1) (.slice (some ⟨g2, 0, none⟩) nD c2) (.slice (some ⟨g3, 0, none⟩) nR c3) (.slice (some ⟨g4, 0, none⟩) nV c4)) ((W.alloc (.cells #[.int .i64 0, .int .i64 0, .int .i64 0, .int .i64 0, .int .i64 0] 3)).alloc (.cells #[.int .u8 109, .slice (some ⟨W.heap.size, 0, none⟩) 5 5, .int .u64 0, .int .i64 0, .int .i64 0, .int .i64 0] 49)) ⟨109, [0, 0, 0, 0, 0], 0, 0, 0, 0⟩ [.int .u8 109, .slice (some ⟨W.heap.size, 0, none⟩) 5 5, .int .u64 0, .int .i64 0, .int .i64 0, .int .i64 0] := ⟨some ⟨W.heap.size, 0, none⟩, 5, rfl, Nat.le_refl _, (ints_fresh W [0, 0, 0, 0, 0] _ _ (by intro hm; have := (HO.out.fresh (by omega) hzW W.heap.size hm).2; omega))⟩
    obtain ⟨vss, hown, hstep⟩ := HO.out.pushClk hM hx rfl
    rw [← HNC.out] at hown hstep
    have hz1' : g1 ≠ w2.heap.size := by rintro rfl; exact HO.out.z1 rfl
    have HOWN := Lib.hid hown
    have HSTEP := Lib.hid hstep
    have HBA := Lib.hid (((HB.out.alloc (by first | omega | (simp only [World.size_alloc]; omega)) _).alloc (by first | omega | (simp only [World.size_alloc]; omega)) _) : Below w.heap.size w ((W.alloc (.cells #[.int .i64 0, .int .i64 0, .int .i64 0, .int .i64 0, .int .i64 0] 3)).alloc (.cells #[.int .u8 109, .slice (some ⟨W.heap.size, 0, none⟩) 5 5, .int .u64 0, .int .i64 0, .int .i64 0, .int .i64 0] 49)))
    obtain ⟨x0, y0⟩ := HX.out 0 _ rfl
    obtain ⟨x1, y1⟩ := HX.out 1 _ rfl
    obtain ⟨x2, y2⟩ := HX.out 2 _ rfl
    obtain ⟨x3, y3⟩ := HX.out 3 _ rfl
    have HX5 := Lib.hid (HX.out.move hM (by simp))
    clear hM hx hown hstep
    obtain ⟨i49, hi, hz0, hz1, hz2'⟩ := info_parts Try.info49
    go_wp2_with (at_builtin; refine wpList_append_own_at _ rfl _ _ 22 rfl w1.heap.size 49 i49 (.agg #[.int .u8 0, .slice none 0 0, .int .u64 0, .int .i64 0, .int .i64 0, .int .i64 0]) 6 64 Try.underlying22 hi hz0 hz1 hz2' rfl (by decide) _ _ _ rfl HOWN.out ⟨W.heap.size + 1, 0, none⟩ 1 1 [.int .u8 109, .slice (some ⟨W.heap.size, 0, none⟩) 5 5, .int .u64 0, .int .i64 0, .int .i64 0, .int .i64 0] rfl rfl (cells_new (W.alloc (.cells #[.int .i64 0, .int .i64 0, .int .i64 0, .int .i64 0, .int .i64 0] 3)) (W.heap.size + 1) (by first | rfl | simp) _ 49) (by intro u hu; simp at hu; rcases hu with rfl | rfl | rfl | rfl | rfl | rfl <;> rfl) (by unfold maxLen; omega) (by omega) (by simp; omega) ?_; intro v6 w6 hown6 hg6 _ hob6; obtain ⟨A6, c6, rfl⟩ := own_shape' hown6; have hfin := HSTEP.out _ _ hown6 hg6 hob6 hg0; have hbx6 := HX5.out.move hfin.2 (by simpa [Value.ownBlock] using Ne.symm hz1'); obtain ⟨q0, q1⟩ := hbx6 0 _ rfl; have HBX6 := Lib.hid hbx6; have HFIN := Lib.hid hfin; clear hown6 hg6 hob6 hfin hbx6)
    refine HK0.out _ _ ?_
    exact faults_end w _ _ _ _ _ _ _ 1 _ ⟨rfl, rfl⟩ rfl rfl (HBX6.out.set (j := 0) (by simp) _) (HFIN.out.1 _ (Moved.setCell _ (by simp) _)) (HPL.out.ok.clkMore (by rw [← HNC.out]; omega) ⟨by simp, by intro y hy; simp at hy; subst hy; unfold wfI; omega⟩) HPL.out.fault11 ((HBA.out.trans (HFIN.out.2.below (by intro k hk; simp [Value.ownBlock] at hk; omega) HBA.out.size)).setCell (p := ⟨w2.heap.size, 0, none⟩) (by show w.heap.size ≤ w2.heap.size; omega) _)


theorem faults_arg (A : Option Addr) (c : Nat) (l : List Int) (at_ what : Int) (w : World) (hm : l.length ≤ 9223372036854775807) (h : IntsAt w w.heap.size A l) (hwf : ∀ x, x ∈ l → wfI x) (ha : wfI at_) (hw : wfI what) :
    Calls Try.prog 5 #[.slice A l.length c, .int .i64 at_, .int .i64 what] w fun e w' => e = .returned (.bool true) ∧ Below w.heap.size w w' :=
  faults_any A c l at_ what w (by unfold maxLen; omega) hwf h ha hw

end Go.Proofs.Ytkhfcbcanbplgaa
