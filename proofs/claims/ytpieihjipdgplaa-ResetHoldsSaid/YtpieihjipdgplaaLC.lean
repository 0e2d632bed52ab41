/- The walk of catnaplaw8.ResetHolds. -/
import Derived.Test.YtpieihjipdgplaaRA
namespace Go.Proofs.Ytpieihjipdgplaa
set_option linter.unusedSimpArgs false
set_option linter.unusedVariables false
open Go.RowKit Go.Maps

set_option maxRecDepth 1000000 in
set_option maxHeartbeats 8000000 in
theorem holds_any (A : Option Addr) (c : Nat) (l : List Int) (at_ wh : Int) (w : World) (hwa : wfI at_) (hwt : wfI wh) (hl : l.length ≤ maxLen) (hwf : ∀ x, x ∈ l → wfI x) (h : IntsAt w w.heap.size A l) :
    Calls Try.prog 4 #[.slice A l.length c, .int .i64 at_, .int .i64 wh] w (TellsB true w) := by
  have HWA := Lib.hid hwa
  have HWT := Lib.hid hwt
  clear hwa hwt
  have HL := Lib.hid hl
  have HWF := Lib.hid hwf
  have HI := Lib.hid h
  clear hl hwf h
  go_enter Try.func4, Try.ntmps4
  go_wp2_with fail
  refine (shown_any _).mono ?_
  rintro e w1 ⟨rfl, hb1⟩
  have HB1 := Lib.hid hb1
  have hz1 := hb1.size
  clear hb1
  go_wp2_with fail
  refine (chip_any A c l w1 HL.out HWF.out ((HI.out.below HB1.out (Nat.le_refl _)).more hz1)).mono ?_
  rintro e w2 ⟨v1, v2, v3, v4, rfl, hcv, hb2⟩
  obtain ⟨A1, c1, A2, c2, A3, c3, A4, c4, rfl, rfl, rfl, rfl, hrs⟩ := chip_parts hcv
  have hz2 := hb2.size
  have hba := ((Below.refl w2.heap.size w2).alloc (Nat.le_refl _) (.cells #[.slice A1 0 c1, .slice A2 0 c2, .slice A3 (lsL l).length c3, .slice A4 0 c4] 30))
  have hbx := BoxAt.new w2 [.slice A1 0 c1, .slice A2 0 c2, .slice A3 (lsL l).length c3, .slice A4 0 c4] 30
  have hcv3 := Steady.later hcv hba
  have HCV3 := Lib.hid hcv3
  have hrs3 := (hrs.below hba (Nat.le_refl _)).more hba.size
  have HRS := Lib.hid hrs3
  have HBX := Lib.hid hbx
  have HB3 := Lib.hid (HB1.out.trans ((hb2.mono hz1).trans (hba.mono (by omega))))
  clear hb2 hcv hrs HI HWF HL hba hbx hcv3 hrs3
  go_wp2_with fail
  refine (new_ok (chipL l) _ _ (chipL_ok l) HCV3.out (chipL_right l) (chipL_rsts l).1).mono ?_
  rintro e w4 ⟨b, bl, bh, rfl, hgb, hgl, hgh, hli, hb4⟩
  rw [rLs_ls] at hli
  have hok := lsL_ok l
  have hn6 := lsL_len l
  obtain ⟨w3, hw3⟩ : ∃ w3, w3 = (w2.alloc (.cells #[.slice A1 0 c1, .slice A2 0 c2, .slice A3 (lsL l).length c3, .slice A4 0 c4] 30)) := ⟨_, rfl⟩
  obtain ⟨g, hg⟩ : ∃ g, g = w2.heap.size := ⟨_, rfl⟩
  have hbx := HBX.out
  have hrs := HRS.out
  have hb3 := HB3.out
  rw [← hw3] at hgb hgl hgh hb4 hbx hrs hb3
  rw [← hg] at hbx ⊢
  have hlw := Lw.start hli hgb hgl hgh hb4
  clear HBX HRS HB3 HCV3 hli hb4 hw3 hz1 hz2 HB1 hg w2 w1 hgb hgl hgh
  obtain ⟨L, hL⟩ : ∃ L, L = lsL l := ⟨_, rfl⟩
  rw [← hL] at hbx hrs hlw hok hn6 ⊢
  clear hL
  obtain ⟨n, hn⟩ : ∃ n, n = L.length := ⟨_, rfl⟩
  rw [← hn] at hbx hn6 ⊢
  have HNN := Lib.hid hn
  have HOK := Lib.hid hok
  have HLW := Lib.hid hlw
  have HBX := Lib.hid hbx
  have HRS := Lib.hid hrs
  have HB3 := Lib.hid hb3
  have hx4 := HLW.out.box hbx
  obtain ⟨x2, -⟩ := hx4 2 _ rfl
  have hz4 := HLW.out.size
  have hzb : g < w3.heap.size := hbx.lt
  have hz3 := hb3.size
  have hlt4 := HLW.out.lines.lt
  clear hbx hrs hb3 hx4 hn hok hlw
  by_cases hn0 : n = 0
  · have e0 : ((n : Int) == 0) = true := by simp [hn0]
    go_wp2
    go_ret
    exact ⟨rfl, HB3.out.trans (HLW.out.bel.mono hz3)⟩
  · have e0 : ((n : Int) == 0) = false := by simp [hn0]
    go_wp2_with fail
    refine (pick_any at_ (n : Int) _ HWA.out (by omega) (by omega)).mono ?_
    rintro e w' ⟨rfl, rfl⟩
    obtain ⟨i, hi, hil⟩ : ∃ i : Nat, pickP at_ (n : Int) = (i : Int) ∧ i < n := ⟨(pickP at_ (n : Int)).toNat, by have := pickP_lo (c := at_) (n := (n : Int)) (by omega); omega, by have := pickP_lo (c := at_) (n := (n : Int)) (by omega); have := pickP_hi (c := at_) (n := (n : Int)) (by omega); omega⟩
    rw [hi]
    have hiw : wfI (i : Int) := by unfold wfI; omega
    have hx := List.getElem?_eq_getElem (l := L) (i := i) (by rw [← HNN.out]; exact hil)
    generalize L[i] = x at hx
    have hx20 := HOK.out x (List.mem_of_getElem? hx)
    have HX := Lib.hid hx
    clear hx hi e0 HOK
    obtain ⟨ad, hA, hc⟩ := HLW.out.rst HRS.out HX.out
    subst hA
    have i0 : (0 : Int) ≤ (i : Int) := by omega
    have i1 : (i : Int) < (n : Int) := by omega
    go_wp2_with fail
    refine (pick_any wh 30 _ HWT.out (by omega) (by omega)).mono ?_
    rintro e w' ⟨rfl, rfl⟩
    obtain ⟨q, hq, hq30⟩ : ∃ q : Nat, pickP wh 30 = (q : Int) ∧ q < 30 := ⟨(pickP wh 30).toNat, by have := pickP_lo (c := wh) (n := 30) (by omega); omega, by have := pickP_lo (c := wh) (n := 30) (by omega); have := pickP_hi (c := wh) (n := 30) (by omega); omega⟩
    rw [hq]
    clear hq HWT HWA hc x2 hz4 hlt4
    have hone : startL L = oneL L i ⟨x, true, 0, false⟩ := oneL_start HX.out
    have HR1 : RowKit.Hid (Lw w3 w4 b bl bh L (oneL L i ⟨x, true, 0, false⟩)) := Lib.hid (by rw [← hone]; exact HLW.out)
    obtain ⟨s1, s2⟩ := oneL_release HX.out ⟨x, true, 0, false⟩
    have s1' : releaseT (oneL L i ⟨x, true, 0, false⟩) (i : Int) = oneL L i (waitL x 0) := s1
    have s2' : releaseE (oneL L i ⟨x, true, 0, false⟩) (i : Int) = 0 := s2
    obtain ⟨s3, s4⟩ := oneL_release HX.out ⟨x, false, 0, false⟩
    have s3' : releaseT (oneL L i ⟨x, false, 0, false⟩) (i : Int) = oneL L i ⟨x, false, 0, false⟩ := s3
    have s4' : releaseE (oneL L i ⟨x, false, 0, false⟩) (i : Int) = 6 := s4
    obtain ⟨s5, s6⟩ := oneL_assert HX.out ⟨x, false, 0, false⟩
    rw [lateL_zero hx20.1 _ rfl] at s5
    have t0 : tickE (oneL L i (waitL x 0)) = [(i : Int)] := by rw [oneL_told HX.out, (waitL_end x).2]; rfl
    have t1 : tickT (oneL L i (waitL x 0)) = oneL L i ⟨x, false, 0, false⟩ := by rw [oneL_tick HX.out, (waitL_end x).1]
    have HT0 := Lib.hid t0
    have HT1 := Lib.hid t1
    have HS1 := Lib.hid s1'
    have HS2 := Lib.hid s2'
    have HS3 := Lib.hid s3'
    have HS4 := Lib.hid s4'
    have HS5 := Lib.hid s5
    have HS6 := Lib.hid s6
    clear hone HLW s1 s2 s1' s2' s3 s4 s3' s4' s5 s6 t0 t1
    go_wp2_with fail
    refine (HR1.out.release hiw).mono ?_
    rintro e w5 ⟨rfl, hl5, -⟩
    rw [HS2.out]
    rw [HS1.out] at hl5
    have H5 := Lib.hid hl5
    clear hl5 HR1
    go_wp2_with fail
    refine (H5.out.tick1 HT0.out HT1.out).mono ?_
    rintro e w6 ⟨A6, c6, rfl, hc6, hi6, hl6⟩
    clear H5
    have hia : IntsAt (w6.alloc (.cells #[.int .i64 (i : Int)] 3)) w6.heap.size (some A6) [(i : Int)] := hi6.below ((Below.refl _ _).alloc (Nat.le_refl _) _) (Nat.le_refl _)
    have hib : IntsAt (w6.alloc (.cells #[.int .i64 (i : Int)] 3)) (w6.heap.size + 1) (some ⟨w6.heap.size, 0, none⟩) [(i : Int)] := ints_one w6 (i : Int)
    have HIA := Lib.hid hia
    have HIB := Lib.hid hib
    have H6 := Lib.hid hl6
    clear hc6 hi6 hl6 hia hib
    go_wp2_with fail
    refine (same_any (some A6) (some ⟨w6.heap.size, 0, none⟩) c6 1 _ _ [(i : Int)] _ (by simp) HIA.out HIB.out).mono ?_
    rintro e w7 ⟨rfl, p, rfl⟩
    have hl7 := H6.out.calm (w' := (w6.alloc (.cells #[.int .i64 (i : Int)] 3)).drewN p) ((Moved.alloc w6 _).trans ⟨rfl, rfl, rfl, Nat.le_refl _, fun _ _ _ => rfl⟩)
    have H7 := Lib.hid hl7
    clear hl7 HIA HIB H6
    go_wp2_with fail
    refine (H7.out.release hiw).mono ?_
    rintro e w8 ⟨rfl, hl8, -⟩
    rw [HS4.out]
    rw [HS3.out] at hl8
    have H8 := Lib.hid hl8
    clear hl8 H7
    go_wp2_with fail
    refine (H8.out.assert hiw).mono ?_
    rintro e w9 ⟨rfl, hl9, -⟩
    rw [HS6.out]
    rw [HS5.out] at hl9
    have H9 : RowKit.Hid (Lw w3 w9 b bl bh L (oneL L i (hlS x q 0))) := Lib.hid (by rw [hlS_zero]; exact hl9)
    clear hl9 H8 HS1 HS2 HS3 HS4 HS5 HS6 HT0 HT1 i0 i1
    obtain ⟨M, hM⟩ : ∃ M, mxP x q = M := ⟨_, rfl⟩
    have hMx : (if x < (q : Int) then (q : Int) else x) = M := hM
    have HMM := Lib.hid hM
    clear hM
    go_wp2
    go_loopw [14] (fun v wr => ∃ k : Nat, k ≤ 60 ∧ v = .int .i64 k ∧ RowKit.Hid (Lw w3 wr b bl bh L (oneL L i (hlS x q k)))) (fun v _ => 60 - (intOf v).toNat)
    case atStart => exact ⟨0, Nat.zero_le _, rfl, H9⟩
    case round =>
      clear H9
      obtain ⟨k, hk, rfl, HR⟩ := hrel
      by_cases hkt : k < 60
      · have k1 : (k : Int) < 60 := by omega
        obtain ⟨m2, m3, m4⟩ := hlM_tick hx20.1 q k
        rw [HMM.out] at m3 m4
        have HM4 := Lib.hid m4
        by_cases hkq : k = q
        · obtain ⟨s1, s2⟩ := oneL_release HX.out (hlS x q k)
          have e1 : wantL (hlS x q k) = hlM x q k := by unfold hlM; rw [if_pos hkq]
          have e2 : (hlS x q k).held = true := by rw [hkq]; exact hlS_held x q
          rw [e1] at s1
          rw [e2, if_pos rfl] at s2
          have HM2 := Lib.hid m2
          have HM3 := Lib.hid m3
          have HS1 := Lib.hid s1
          have HS2 := Lib.hid s2
          clear m2 m3 m4 s1 s2 e1 e2
          subst hkq
          go_wp2_with fail
          refine (HR.out.release hiw).mono ?_
          rintro e w5 ⟨rfl, hl5, -⟩
          rw [HS2.out]
          rw [HS1.out] at hl5
          have HQ := Lib.hid hl5
          clear hl5 HR HS1 HS2
          by_cases hkM : (k : Int) = M
          · have t0 : tickE (oneL L i (hlM x k k)) = [(i : Int)] := by rw [oneL_told HX.out, HM3.out, decide_eq_true hkM]; rfl
            have t1 : tickT (oneL L i (hlM x k k)) = oneL L i (hlS x k (k + 1)) := by rw [oneL_tick HX.out, HM2.out]
            have t2 : heldP (oneL L i (hlS x k (k + 1))) (i : Int) = false := by rw [oneL_held HX.out, HM4.out]; rw [decide_eq_false_iff_not]; omega
            have HT0 := Lib.hid t0
            have HT1 := Lib.hid t1
            have HT2 := Lib.hid t2
            clear t0 t1 t2
            obtain rfl : M = (k : Int) := hkM.symm
            have f2 : ¬ ((k : Int) < (k : Int)) := by omega
            clear hkM
            go_wp2_with fail
            refine (HQ.out.tick1 HT0.out HT1.out).mono ?_
            rintro e w6 ⟨A6, c6, rfl, hc6, hi6, hl6⟩
            have H6 := Lib.hid hl6
            clear hi6 hl6
            go_wp2_with fail
            refine (H6.out.held hiw).mono ?_
            rintro e w7 ⟨rfl, hl7, -⟩
            rw [HT2.out]
            have H7 := Lib.hid hl7
            clear hl7
            go_wp2
            go_roundw
            case rel => exact ⟨k + 1, hkt, by go_num, H7⟩
            case measure => simp [intOf]; omega
          · have t0 : tickE (oneL L i (hlM x k k)) = [] := by rw [oneL_told HX.out, HM3.out, decide_eq_false hkM]; rfl
            have t1 : tickT (oneL L i (hlM x k k)) = oneL L i (hlS x k (k + 1)) := by rw [oneL_tick HX.out, HM2.out]
            have HT0 := Lib.hid t0
            have HT1 := Lib.hid t1
            have f1 : ((k : Int) == M) = false := by simpa using hkM
            clear t0 t1
            by_cases hk2 : (k : Int) < M
            · have t2 : heldP (oneL L i (hlS x k (k + 1))) (i : Int) = true := by rw [oneL_held HX.out, HM4.out]; rw [decide_eq_true_iff]; exact hk2
              have HT2 := Lib.hid t2
              clear t2 hkM
              go_wp2_with fail
              refine (HQ.out.tick0 HT0.out HT1.out).mono ?_
              rintro e w6 ⟨A6, c6, rfl, hl6⟩
              have H6 := Lib.hid hl6
              clear hl6
              go_wp2_with fail
              refine (H6.out.held hiw).mono ?_
              rintro e w7 ⟨rfl, hl7, -⟩
              rw [HT2.out]
              have H7 := Lib.hid hl7
              clear hl7
              go_wp2
              go_roundw
              case rel => exact ⟨k + 1, hkt, by go_num, H7⟩
              case measure => simp [intOf]; omega
            · have t2 : heldP (oneL L i (hlS x k (k + 1))) (i : Int) = false := by rw [oneL_held HX.out, HM4.out]; rw [decide_eq_false_iff_not]; exact hk2
              have HT2 := Lib.hid t2
              clear t2 hkM
              go_wp2_with fail
              refine (HQ.out.tick0 HT0.out HT1.out).mono ?_
              rintro e w6 ⟨A6, c6, rfl, hl6⟩
              have H6 := Lib.hid hl6
              clear hl6
              go_wp2_with fail
              refine (H6.out.held hiw).mono ?_
              rintro e w7 ⟨rfl, hl7, -⟩
              rw [HT2.out]
              have H7 := Lib.hid hl7
              clear hl7
              go_wp2
              go_roundw
              case rel => exact ⟨k + 1, hkt, by go_num, H7⟩
              case measure => simp [intOf]; omega
        · have hb : ((k : Int) == (q : Int)) = false := by simp; omega
          have e1 : hlM x q k = hlS x q k := by unfold hlM; rw [if_neg hkq]
          rw [e1] at m2 m3
          have HM2 := Lib.hid m2
          have HM3 := Lib.hid m3
          have HQ := Lib.hid HR.out
          clear m2 m3 m4 e1 HR
          by_cases hkM : (k : Int) = M
          · have t0 : tickE (oneL L i (hlS x q k)) = [(i : Int)] := by rw [oneL_told HX.out, HM3.out, decide_eq_true hkM]; rfl
            have t1 : tickT (oneL L i (hlS x q k)) = oneL L i (hlS x q (k + 1)) := by rw [oneL_tick HX.out, HM2.out]
            have t2 : heldP (oneL L i (hlS x q (k + 1))) (i : Int) = false := by rw [oneL_held HX.out, HM4.out]; rw [decide_eq_false_iff_not]; omega
            have HT0 := Lib.hid t0
            have HT1 := Lib.hid t1
            have HT2 := Lib.hid t2
            clear t0 t1 t2
            obtain rfl : M = (k : Int) := hkM.symm
            have f2 : ¬ ((k : Int) < (k : Int)) := by omega
            clear hkM
            go_wp2_with fail
            refine (HQ.out.tick1 HT0.out HT1.out).mono ?_
            rintro e w6 ⟨A6, c6, rfl, hc6, hi6, hl6⟩
            have H6 := Lib.hid hl6
            clear hi6 hl6
            go_wp2_with fail
            refine (H6.out.held hiw).mono ?_
            rintro e w7 ⟨rfl, hl7, -⟩
            rw [HT2.out]
            have H7 := Lib.hid hl7
            clear hl7
            go_wp2
            go_roundw
            case rel => exact ⟨k + 1, hkt, by go_num, H7⟩
            case measure => simp [intOf]; omega
          · have t0 : tickE (oneL L i (hlS x q k)) = [] := by rw [oneL_told HX.out, HM3.out, decide_eq_false hkM]; rfl
            have t1 : tickT (oneL L i (hlS x q k)) = oneL L i (hlS x q (k + 1)) := by rw [oneL_tick HX.out, HM2.out]
            have HT0 := Lib.hid t0
            have HT1 := Lib.hid t1
            have f1 : ((k : Int) == M) = false := by simpa using hkM
            clear t0 t1
            by_cases hk2 : (k : Int) < M
            · have t2 : heldP (oneL L i (hlS x q (k + 1))) (i : Int) = true := by rw [oneL_held HX.out, HM4.out]; rw [decide_eq_true_iff]; exact hk2
              have HT2 := Lib.hid t2
              clear t2 hkM
              go_wp2_with fail
              refine (HQ.out.tick0 HT0.out HT1.out).mono ?_
              rintro e w6 ⟨A6, c6, rfl, hl6⟩
              have H6 := Lib.hid hl6
              clear hl6
              go_wp2_with fail
              refine (H6.out.held hiw).mono ?_
              rintro e w7 ⟨rfl, hl7, -⟩
              rw [HT2.out]
              have H7 := Lib.hid hl7
              clear hl7
              go_wp2
              go_roundw
              case rel => exact ⟨k + 1, hkt, by go_num, H7⟩
              case measure => simp [intOf]; omega
            · have t2 : heldP (oneL L i (hlS x q (k + 1))) (i : Int) = false := by rw [oneL_held HX.out, HM4.out]; rw [decide_eq_false_iff_not]; exact hk2
              have HT2 := Lib.hid t2
              clear t2 hkM
              go_wp2_with fail
              refine (HQ.out.tick0 HT0.out HT1.out).mono ?_
              rintro e w6 ⟨A6, c6, rfl, hl6⟩
              have H6 := Lib.hid hl6
              clear hl6
              go_wp2_with fail
              refine (H6.out.held hiw).mono ?_
              rintro e w7 ⟨rfl, hl7, -⟩
              rw [HT2.out]
              have H7 := Lib.hid hl7
              clear hl7
              go_wp2
              go_roundw
              case rel => exact ⟨k + 1, hkt, by go_num, H7⟩
              case measure => simp [intOf]; omega
      · have k1 : ¬ ((k : Int) < 60) := by omega
        go_wp2
        go_ret
        exact ⟨rfl, HB3.out.trans (HR.out.bel.mono hz3)⟩

end Go.Proofs.Ytpieihjipdgplaa
