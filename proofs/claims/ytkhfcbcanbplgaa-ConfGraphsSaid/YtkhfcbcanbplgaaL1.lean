/- The walk of catnaplaw4.ConfGraphs. -/
import Derived.Test.YtkhfcbcanbplgaaH11
import Derived.Test.YtkhfcbcanbplgaaN2
import Derived.Test.YtkhfcbcanbplgaaW17
namespace Go.Proofs.Ytkhfcbcanbplgaa
set_option linter.unusedSimpArgs false
set_option linter.unusedVariables false
open Go.RowKit Go.Maps

def RowsIs (n : Nat) (rows : List (List Int)) (w : World) (e : Ending) (w' : World) : Prop := ∃ A c, e = .returned (.slice A n c) ∧ RowsAt w' w'.heap.size A n (gOf rows) ∧ Below w.heap.size w w'
theorem RowsNew.is {rows : List (List Int)} {n : Nat} {w w' : World} {e : Ending} (h : RowsNew rows w e w') (hn : rows.length = n) : RowsIs n rows w e w' := by
  subst hn
  exact h
theorem graph_clk' (s : Chip) (vs : List Value) (w : World) (hok : ChipOk s) (h : ChipV w w.heap.size s vs) : Calls Try.prog 15 #[.agg vs.toArray] w (RowsIs s.clks.length (clksG s) w) := (graph_clk s vs w hok h).mono fun _ _ h => h.is (by simp [clksG])
theorem graph_dom' (s : Chip) (vs : List Value) (w : World) (hok : ChipOk s) (h : ChipV w w.heap.size s vs) : Calls Try.prog 17 #[.agg vs.toArray] w (RowsIs s.doms.length (domsG s) w) := (graph_dom s vs w hok h).mono fun _ _ h => h.is (by simp [domsG])
theorem graph_dev' (s : Chip) (vs : List Value) (w : World) (hok : ChipOk s) (h : ChipV w w.heap.size s vs) : Calls Try.prog 19 #[.agg vs.toArray] w (RowsIs s.devs.length (devsG s) w) := (graph_dev s vs w hok h).mono fun _ _ h => h.is (by simp [devsG])

set_option maxRecDepth 1000000 in
set_option maxHeartbeats 4000000 in
theorem graphs_any (A : Option Addr) (c : Nat) (l : List Int) (w : World) (hl : l.length ≤ maxLen) (hwf : ∀ x, x ∈ l → wfI x) (h : IntsAt w w.heap.size A l) :
    Calls Try.prog 7 #[.slice A l.length c] w (TellsB true w) := by
  have HL := Lib.hid hl
  have HWF := Lib.hid hwf
  have HI := Lib.hid h
  clear hl hwf h
  go_enter Try.func7, Try.ntmps7
  go_wp2_with fail
  refine (shown_any _).mono ?_
  rintro e w1 ⟨rfl, hb1⟩
  have HB1 := Lib.hid hb1
  have hz1 := hb1.size
  clear hb1
  go_wp2_with fail
  refine (chip_any A c l w1 HL.out HWF.out ((HI.out.below HB1.out (Nat.le_refl _)).more hz1)).mono ?_
  rintro e w2 ⟨v1, v2, v3, v4, rfl, hown, hb2⟩
  obtain ⟨A1, c1, A2, c2, A3, c3, A4, c4, hvs, l1, l2, l3, l4, h1, h2, h3, h4⟩ := hown.chip
  have hpl := plain_of l
  generalize chipP l = s at *
  obtain ⟨rfl, rfl, rfl, rfl⟩ : v1 = .slice A1 s.clks.length c1 ∧ v2 = .slice A2 s.doms.length c2 ∧ v3 = .slice A3 s.rsts.length c3 ∧ v4 = .slice A4 s.devs.length c4 := by simpa using hvs
  have hcv : ChipV w2 w2.heap.size s [.slice A1 s.clks.length c1, .slice A2 s.doms.length c2, .slice A3 s.rsts.length c3, .slice A4 s.devs.length c4] := ⟨A1, c1, A2, c2, A3, c3, A4, c4, rfl, l1, l2, l3, l4, h1, h2, h3, h4⟩
  have HB2 := Lib.hid hb2
  have HCV := Lib.hid hcv
  have HPL := Lib.hid hpl
  have HC := Lib.hid h1
  have HM := Lib.hid h2
  have HD := Lib.hid h4
  have hz2 := hb2.size
  clear hb2 hcv hpl hown hvs h1 h2 h3 h4 HI HWF HL l1 l2 l3 l4
  go_wp2_with fail
  have hba := ((Below.refl w2.heap.size w2).alloc (Nat.le_refl _) (.cells #[.slice A1 s.clks.length c1, .slice A2 s.doms.length c2, .slice A3 s.rsts.length c3, .slice A4 s.devs.length c4] 27))
  have hbx := BoxAt.new w2 [.slice A1 s.clks.length c1, .slice A2 s.doms.length c2, .slice A3 s.rsts.length c3, .slice A4 s.devs.length c4] 27
  refine (graph_clk' s _ _ HPL.out.ok (Steady.later HCV.out hba)).mono ?_
  rintro e w3 ⟨B1, d1, rfl, hg1, hb3⟩
  have hb13 := hba.trans (hb3.mono (by simp))
  have hbx3 := hbx.move (Moved.of_below (hb3.mono (by simp)) (hot := [])) (by simp)
  have HG1 := Lib.hid hg1
  have HB3 := Lib.hid hb13
  have HX3 := Lib.hid hbx3
  have hcv3 : ChipV w3 w3.heap.size s _ := Steady.later HCV.out hb13
  have HCV3 := Lib.hid hcv3
  obtain ⟨x0, y0⟩ := hbx3 0 _ rfl
  obtain ⟨x1, y1⟩ := hbx3 1 _ rfl
  obtain ⟨x2, y2⟩ := hbx3 2 _ rfl
  obtain ⟨x3, y3⟩ := hbx3 3 _ rfl
  have hz3 := hb13.size
  clear hba hbx hg1 hb3 hb13 hbx3 hcv3
  go_wp2_with fail
  refine (graph_dom' s _ w3 HPL.out.ok HCV3.out).mono ?_
  rintro e w4 ⟨B2, d2, rfl, hg2, hb4⟩
  have hb14 := HB3.out.trans (hb4.mono (by omega))
  have HG2 := Lib.hid hg2
  have HB4 := Lib.hid hb4
  have hcv4 : ChipV w4 w4.heap.size s _ := Steady.later HCV3.out hb4
  have HCV4 := Lib.hid hcv4
  have hz4 := hb4.size
  have hbx4 := HX3.out.move (Moved.of_below hb4 (hot := [])) (by simp)
  have HX4 := Lib.hid hbx4
  obtain ⟨x0', y0'⟩ := hbx4 0 _ rfl
  obtain ⟨x1', y1'⟩ := hbx4 1 _ rfl
  obtain ⟨x2', y2'⟩ := hbx4 2 _ rfl
  obtain ⟨x3', y3'⟩ := hbx4 3 _ rfl
  clear hg2 hb4 hcv4 hb14 HX3 hbx4 x0 x1 x2 x3 y0 y1 y2 y3
  go_wp2_with fail
  refine (graph_dev' s _ w4 HPL.out.ok HCV4.out).mono ?_
  rintro e w5 ⟨B3, d3, rfl, hg3, hb5⟩
  have hb45 := HB4.out.trans (hb5.mono (by omega))
  have hb25 := HB3.out.trans (hb45.mono (by omega))
  have HG1' := Lib.hid ((HG1.out.below hb45 (Nat.le_refl _)).more hb45.size)
  have HG2' := Lib.hid ((HG2.out.below hb5 (Nat.le_refl _)).more hb5.size)
  have HG3 := Lib.hid hg3
  have hcv5 : ChipV w5 w5.heap.size s _ := Steady.later HCV4.out hb5
  obtain ⟨_, _, _, _, _, _, _, _, hvs5, -, -, -, -, k1, k2, -, k4⟩ := hcv5
  simp at hvs5
  obtain ⟨⟨rfl, rfl⟩, ⟨rfl, rfl⟩, ⟨rfl, rfl⟩, ⟨rfl, rfl⟩⟩ := hvs5
  have HC5 := Lib.hid k1
  have HM5 := Lib.hid k2
  have HD5 := Lib.hid k4
  have HB25 := Lib.hid hb25
  have hz5 := hb25.size
  have hbx5 := HX4.out.move (Moved.of_below hb5 (hot := [])) (by simp)
  have HX5 := Lib.hid hbx5
  obtain ⟨x0, y0⟩ := hbx5 0 _ rfl
  obtain ⟨x1, y1⟩ := hbx5 1 _ rfl
  obtain ⟨x2, y2⟩ := hbx5 2 _ rfl
  obtain ⟨x3, y3⟩ := hbx5 3 _ rfl
  obtain ⟨nC, hnC⟩ : ∃ n, n = s.clks.length := ⟨_, rfl⟩
  obtain ⟨nD, hnD⟩ : ∃ n, n = s.doms.length := ⟨_, rfl⟩
  obtain ⟨nV, hnV⟩ : ∃ n, n = s.devs.length := ⟨_, rfl⟩
  have b1 := HPL.out.nc
  have b2 := HPL.out.nd
  have b3 := HPL.out.nv
  rw [← hnC] at b1
  rw [← hnD] at b2
  rw [← hnV] at b3
  rw [← hnC] at HG1' HX5 x0 ⊢
  rw [← hnD] at HG2' HX5 x1 ⊢
  rw [← hnV] at HG3 HX5 x3 ⊢
  have HNC := Lib.hid hnC
  have HND := Lib.hid hnD
  have HNV := Lib.hid hnV
  clear hnC hnD hnV hg3 hb5 hb45 hb25 k1 k2 k4 hbx5 HCV4 HCV3 HCV HX4 x0' x1' x2' x3' y0' y1' y2' y3' HG1 HG2 HB4 HB3 HC HM HD
  go_wp2
  go_loopw [8] (fun i8 wr => ∃ i : Nat, i ≤ nC ∧ i8 = .int .i64 i ∧ Below w5.heap.size w5 wr) (fun i8 _ => nC - (intOf i8).toNat)
  case atStart => exact ⟨0, by omega, rfl, Below.refl _ _⟩
  case round =>
    obtain ⟨i, hi, rfl, hbr⟩ := hrel
    have HBR := Lib.hid hbr
    have hbxr := HX5.out.move (Moved.of_below hbr (hot := [])) (by simp)
    obtain ⟨z0, -⟩ := hbxr 0 _ rfl
    obtain ⟨z1, -⟩ := hbxr 1 _ rfl
    obtain ⟨z3, -⟩ := hbxr 3 _ rfl
    clear hbr hbxr
    by_cases hlt : i < nC
    · have hlt' : i < s.clks.length := by rw [← HNC.out]; exact hlt
      obtain ⟨ag, Ai, ci, rfl, -, hcell, -, -⟩ := (HG1'.out.below HBR.out (Nat.le_refl _)).at_ hlt
      obtain ⟨ad, vs, rfl, -, ⟨Af, cf, rfl, -, -⟩, hagg⟩ := (HC5.out.below HBR.out (Nat.le_refl _)).at_ hlt'
      obtain ⟨k, hk⟩ : ∃ k, k = s.clks[i] := ⟨_, rfl⟩
      have hrow : gOf (clksG s) i = k.frm := by
        rw [hk]
        exact gOf_row (by rw [clksG, List.getElem?_map, List.getElem?_eq_getElem hlt']; rfl)
      have hko := HPL.out.clkO i k (by rw [hk]; exact List.getElem?_eq_getElem hlt')
      rw [hrow] at hcell
      rw [← hk] at hagg
      have f0 := hagg.zero
      have f1 := hagg.at_ 0 rfl
      obtain ⟨L, hL⟩ : ∃ L, L = k.frm.length := ⟨_, rfl⟩
      rw [← hL] at hcell f1 hko
      obtain ⟨kd, hkd⟩ : ∃ kd, kd = k.kind := ⟨_, rfl⟩
      rw [← hkd] at f0 hko
      have hi0 : (0 : Int) ≤ (i : Int) := by omega
      have hi1 : (i : Int) < (nC : Int) := by omega
      clear hagg hrow hk hL hkd
      by_cases h0 : kd = 111
      · have hL0 : L = 0 := hko.1 h0
        subst h0
        subst hL0
        clear hko
        go_wp2
        go_quiet (fail)
        go_wp2
        go_roundw
        case rel => exact ⟨i + 1, by omega, by go_num, below_drewN HBR.out _⟩
        case measure => simp [intOf]; omega
      · have hL0 : ¬ L = 0 := fun e => h0 (hko.2 e)
        have hk1 : (kd == 111) = false := by simpa using h0
        have hl1 : ((L : Int) == 0) = false := by simpa using hL0
        clear hko h0
        go_wp2
        go_quiet (fail)
        go_wp2
        go_roundw
        case rel => exact ⟨i + 1, by omega, by go_num, below_drewN HBR.out _⟩
        case measure => simp [intOf]; omega
    · obtain rfl : i = nC := by omega
      have HBRA := HBR
      clear HBR z0 z1 z3
      go_wp2
      go_loopw [9] (fun i8 wr => ∃ i : Nat, i ≤ nD ∧ i8 = .int .i64 i ∧ Below w5.heap.size w5 wr) (fun i8 _ => nD - (intOf i8).toNat)
      case atStart => exact ⟨0, by omega, rfl, HBRA.out⟩
      case round =>
        obtain ⟨i, hi, rfl, hbr⟩ := hrel
        have HBR := Lib.hid hbr
        have hbxr := HX5.out.move (Moved.of_below hbr (hot := [])) (by simp)
        obtain ⟨z0, -⟩ := hbxr 0 _ rfl
        obtain ⟨z1, -⟩ := hbxr 1 _ rfl
        obtain ⟨z3, -⟩ := hbxr 3 _ rfl
        clear hbr hbxr
        by_cases hlt : i < nD
        · have hlt' : i < s.doms.length := by rw [← HND.out]; exact hlt
          obtain ⟨ag, Ai, ci, rfl, -, hcell, -, hrow0⟩ := (HG2'.out.below HBR.out (Nat.le_refl _)).at_ hlt
          obtain ⟨ad, vs, rfl, -, hvs, hagg⟩ := (HM5.out.below HBR.out (Nat.le_refl _)).at_ hlt'
          have hvs' : vs = _ := hvs
          obtain ⟨k, hk⟩ : ∃ k, k = s.doms[i] := ⟨_, rfl⟩
          rw [← hk] at hvs'
          subst hvs'
          have hrow : gOf (domsG s) i = aboveR k := by
            rw [hk]
            exact gOf_row (by rw [domsG, List.getElem?_map, List.getElem?_eq_getElem hlt']; rfl)
          rw [hrow] at hcell hrow0
          have f0 := hagg.zero
          have hi0 : (0 : Int) ≤ (i : Int) := by omega
          have hi1 : (i : Int) < (nD : Int) := by omega
          obtain ⟨a, ha⟩ : ∃ a, a = k.above := ⟨_, rfl⟩
          rw [← ha] at f0
          clear hagg hrow hvs
          by_cases h0 : a = -1
          · have hr : aboveR k = [] := by unfold aboveR; rw [if_pos (by rw [← ha]; exact h0)]
            rw [hr] at hcell
            subst h0
            clear hr hrow0 hk ha
            go_wp2
            go_quiet (fail)
            go_wp2
            go_roundw
            case rel => exact ⟨i + 1, by omega, by go_num, below_drewN HBR.out _⟩
            case measure => simp [intOf]; omega
          · have hr : aboveR k = [a] := by unfold aboveR; rw [if_neg (by rw [← ha]; exact h0), ← ha]
            rw [hr] at hcell hrow0
            obtain ⟨pr, rfl, -, hpc⟩ := hrow0.at_ (k := 0) (by simp)
            have hpc' : wr.cell? pr = some (.int .i64 a) := by
              have := hpc
              simpa [Addr.add] using this
            have hk1 : (a == -1) = false := by simpa using h0
            clear hr hrow0 hk ha hpc h0
            go_wp2
            go_quiet (fail)
            go_wp2
            go_roundw
            case rel => exact ⟨i + 1, by omega, by go_num, below_drewN HBR.out _⟩
            case measure => simp [intOf]; omega
        · obtain rfl : i = nD := by omega
          have HBRB := HBR
          clear HBR z0 z1 z3
          go_wp2
          go_loopw [10] (fun i8 wr => ∃ i : Nat, i ≤ nV ∧ i8 = .int .i64 i ∧ Below w5.heap.size w5 wr) (fun i8 _ => nV - (intOf i8).toNat)
          case atStart => exact ⟨0, by omega, rfl, HBRB.out⟩
          case round =>
            obtain ⟨i, hi, rfl, hbr⟩ := hrel
            have HBR := Lib.hid hbr
            have hbxr := HX5.out.move (Moved.of_below hbr (hot := [])) (by simp)
            obtain ⟨z0, -⟩ := hbxr 0 _ rfl
            obtain ⟨z1, -⟩ := hbxr 1 _ rfl
            obtain ⟨z3, -⟩ := hbxr 3 _ rfl
            clear hbr hbxr
            by_cases hlt : i < nV
            · have hlt' : i < s.devs.length := by rw [← HNV.out]; exact hlt
              obtain ⟨ag, Ai, ci, rfl, -, hcell, -, -⟩ := (HG3.out.below HBR.out (Nat.le_refl _)).at_ hlt
              obtain ⟨ad, vs, rfl, -, ⟨Af, cf, An, cn, rfl, -, -, -, -⟩, hagg⟩ := (HD5.out.below HBR.out (Nat.le_refl _)).at_ hlt'
              obtain ⟨k, hk⟩ : ∃ k, k = s.devs[i] := ⟨_, rfl⟩
              have hrow : gOf (devsG s) i = k.needs := by
                rw [hk]
                exact gOf_row (by rw [devsG, List.getElem?_map, List.getElem?_eq_getElem hlt']; rfl)
              rw [hrow] at hcell
              rw [← hk] at hagg
              have f5 := hagg.at_ 4 rfl
              obtain ⟨L, hL⟩ : ∃ L, L = k.needs.length := ⟨_, rfl⟩
              rw [← hL] at hcell f5
              have hi0 : (0 : Int) ≤ (i : Int) := by omega
              have hi1 : (i : Int) < (nV : Int) := by omega
              clear hagg hrow hk hL
              go_wp2
              go_quiet (fail)
              go_wp2
              go_roundw
              case rel => exact ⟨i + 1, by omega, by go_num, below_drewN HBR.out _⟩
              case measure => simp [intOf]; omega
            · obtain rfl : i = nV := by omega
              go_wp2
              go_ret
              exact ⟨rfl, HB1.out.trans ((HB2.out.mono hz1).trans ((HB25.out.mono (by omega)).trans (HBR.out.mono (by omega))))⟩

theorem graphs_arg (A : Option Addr) (c : Nat) (l : List Int) (w : World) (hm : l.length ≤ 9223372036854775807) (h : IntsAt w w.heap.size A l) (hwf : ∀ x, x ∈ l → wfI x) :
    Calls Try.prog 7 #[.slice A l.length c] w fun e w' => e = .returned (.bool true) ∧ Below w.heap.size w w' :=
  graphs_any A c l w (by unfold maxLen; omega) hwf h

end Go.Proofs.Ytkhfcbcanbplgaa
