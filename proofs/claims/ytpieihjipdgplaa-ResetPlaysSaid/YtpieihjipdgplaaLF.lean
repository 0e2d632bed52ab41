/- The walk of catnaplaw8.ResetPlays. -/
import Derived.Test.YtpieihjipdgplaaQ4
namespace Go.Proofs.Ytpieihjipdgplaa
set_option linter.unusedSimpArgs false
set_option linter.unusedVariables false
open Go.RowKit Go.Maps

theorem acts_at {w w3 wr : World} {A : Option Addr} {xs : List Acts} (h : StrsAt ActV 2 w w.heap.size A xs) (h3 : Below w.heap.size w w3) (hb : Below w3.heap.size w3 wr) {k : Nat} (hk : k < xs.length) :
    ∃ ad, A = some ad ∧ wr.cell? (ad.add (k * 2)) = some (.int .i64 xs[k].op) ∧ wr.cell? ⟨(ad.add (k * 2)).block, (ad.add (k * 2)).off + (0 + 1), none⟩ = some (.int .i64 xs[k].i) := by
  obtain ⟨ad, us, hA, hab, hV, hAg⟩ := (h.below (h3.trans (hb.mono h3.size)) (Nat.le_refl _)).at_ hk
  have e : us = [.int .i64 xs[k].op, .int .i64 xs[k].i] := hV
  subst e
  exact ⟨ad, hA, hAg.zero, hAg.at_ 0 rfl⟩

set_option maxRecDepth 1000000 in
set_option maxHeartbeats 16000000 in
theorem plays_any (A : Option Addr) (c : Nat) (l : List Int) (Bx : Option Addr) (d : Nat) (ax : List Acts) (w : World) (hl : l.length ≤ maxLen) (hwf : ∀ x, x ∈ l → wfI x) (h : IntsAt w w.heap.size A l) (hxl : ax.length ≤ maxLen) (hxw : ∀ x, x ∈ ax → ActW x) (hx : StrsAt ActV 2 w w.heap.size Bx ax) :
    Calls Try.prog 3 #[.slice A l.length c, .slice Bx ax.length d] w (TellsB true w) := by
  have HXW := Lib.hid hxw
  have HXS := Lib.hid hx
  unfold maxLen at hxl
  obtain ⟨nX, hnX⟩ : ∃ n, n = ax.length := ⟨_, rfl⟩
  rw [← hnX] at hxl ⊢
  have HNX := Lib.hid hnX
  clear hxw hx hnX
  have HL := Lib.hid hl
  have HWF := Lib.hid hwf
  have HI := Lib.hid h
  clear hl hwf h
  go_enter Try.func3, Try.ntmps3
  go_wp2_with fail
  refine (shown_any _).mono ?_
  rintro e w1 ⟨rfl, hb1⟩
  have HB1 := Lib.hid hb1
  have hz1 := hb1.size
  clear hb1
  go_wp2_with fail
  refine (chip_any A c l w1 HL.out HWF.out ((HI.out.below HB1.out (Nat.le_refl _)).more hz1)).mono ?_
  rintro e w2 ⟨v1, v2, v3, v4, rfl, hcv, hb2⟩
  obtain ⟨A1, c1, A2, c2, A3, c3, A4, c4, rfl, rfl, rfl, rfl, hrs⟩ := chip_parts hcv
  have hz2 := hb2.size
  have hba := ((Below.refl w2.heap.size w2).alloc (Nat.le_refl _) (.cells #[.slice A1 0 c1, .slice A2 0 c2, .slice A3 (lsL l).length c3, .slice A4 0 c4] 30))
  have hbx := BoxAt.new w2 [.slice A1 0 c1, .slice A2 0 c2, .slice A3 (lsL l).length c3, .slice A4 0 c4] 30
  have hcv3 := Steady.later hcv hba
  have HCV3 := Lib.hid hcv3
  have hrs3 := (hrs.below hba (Nat.le_refl _)).more hba.size
  have HRS := Lib.hid hrs3
  have HBX := Lib.hid hbx
  have HB3 := Lib.hid (HB1.out.trans ((hb2.mono hz1).trans (hba.mono (by omega))))
  clear hb2 hcv hrs HI HWF HL hba hbx hcv3 hrs3
  go_wp2_with fail
  refine (new_ok (chipL l) _ _ (chipL_ok l) HCV3.out (chipL_right l) (chipL_rsts l).1).mono ?_
  rintro e w4 ⟨b, bl, bh, rfl, hgb, hgl, hgh, hli, hb4⟩
  rw [rLs_ls] at hli
  have hcv4 := Steady.later HCV3.out hb4
  have HCV4 := Lib.hid hcv4
  have hbx4 := HBX.out.move (Moved.of_below (hot := []) hb4) (by simp)
  obtain ⟨x0, -⟩ := hbx4 0 _ rfl
  obtain ⟨x1, -⟩ := hbx4 1 _ rfl
  obtain ⟨x2, -⟩ := hbx4 2 _ rfl
  obtain ⟨x3, -⟩ := hbx4 3 _ rfl
  have hll := hli.lt
  have HLI := Lib.hid hli
  have HB4 := Lib.hid hb4
  clear hcv4 hbx4 hli hb4
  go_wp2_with fail
  refine (rnew_ok (chipL l) _ _ (chipL_ok l) HCV4.out (chipL_right l)).mono ?_
  rintro e w5 ⟨gr, Ar, Cr, cd, cs, rfl, hgr, hri, hb5⟩
  rw [rLs_ls] at hri
  have hli := HLI.out.move (Moved.of_below hb5)
  have hb4 := HB4.out.trans (hb5.mono HB4.out.size)
  have HRI := Lib.hid hri
  have hz34 := HB4.out.size
  clear x0 x1 x2 x3 HLI HB4 HCV4 hri hb5
  have hok := lsL_ok l
  have hn6 := lsL_len l
  obtain ⟨w3, hw3⟩ : ∃ w3, w3 = (w2.alloc (.cells #[.slice A1 0 c1, .slice A2 0 c2, .slice A3 (lsL l).length c3, .slice A4 0 c4] 30)) := ⟨_, rfl⟩
  obtain ⟨g, hg⟩ : ∃ g, g = w2.heap.size := ⟨_, rfl⟩
  have hbx := HBX.out
  have hrs := HRS.out
  have hb3 := HB3.out
  rw [← hw3] at hgb hgl hgh hb4 hbx hrs hb3 hz34
  rw [← hg] at hbx ⊢
  have hlw := Lw.start hli hgb hgl hgh hb4
  have hriL := HRI.out
  clear HBX HRS HB3 HCV3 hli hb4 hw3 hz1 hz2 HB1 hg w2 w1 hgb hgl hgh
  obtain ⟨L, hL⟩ : ∃ L, L = lsL l := ⟨_, rfl⟩
  rw [← hL] at hbx hrs hlw hok hn6 hriL ⊢
  clear hL
  obtain ⟨n, hn⟩ : ∃ n, n = L.length := ⟨_, rfl⟩
  rw [← hn] at hbx hn6 ⊢
  have HNN := Lib.hid hn
  have HOK := Lib.hid hok
  have HLW := Lib.hid hlw
  have HBX := Lib.hid hbx
  have HRS := Lib.hid hrs
  have HB3 := Lib.hid hb3
  have hx4 := HLW.out.box hbx
  obtain ⟨x2, -⟩ := hx4 2 _ rfl
  have hz4 := HLW.out.size
  have hzb : g < w3.heap.size := hbx.lt
  have hz3 := hb3.size
  have hlt4 := HLW.out.lines.lt
  have HBW : RowKit.Hid (Bw w3 w5 b bl bh gr Ar Cr cd cs L (startL L) (startL L)) := Lib.hid ⟨hlw, hriL, hlw.inv, by omega, by omega, by omega, by omega⟩
  clear hbx hrs hb3 hx4 hn hok hlw HLW HRI hriL hz34 hll hgr hlt4 hz4
  by_cases hbig : 150 < nX
  · have hbig' : (150 : Int) < (nX : Int) := by omega
    go_wp2
    go_ret
    exact ⟨rfl, HB3.out.trans (HBW.out.ours.bel.mono hz3)⟩
  · have hbig' : ¬ ((150 : Int) < (nX : Int)) := by omega
    clear hbig x2
    go_wp2
    go_loopw [11] (fun i wr => ∃ (k : Nat) (xs : List Ln), k ≤ nX ∧ i = .int .i64 k ∧ RowKit.Hid (Bw w3 wr b bl bh gr Ar Cr cd cs L xs xs)) (fun i _ => nX - (intOf i).toNat)
    case atStart => exact ⟨0, _, Nat.zero_le _, rfl, HBW⟩
    case round =>
      clear HBW
      obtain ⟨k, xs, hk, rfl, HR⟩ := hrel
      obtain ⟨z2, -⟩ := HR.out.ours.box HBX.out 2 _ rfl
      by_cases hlt : k < nX
      · have hlx : k < ax.length := by rw [← HNX.out]; exact hlt
        obtain ⟨ad, rfl, a0, a1⟩ := acts_at HXS.out HB3.out HR.out.ours.bel hlx
        have hw := HXW.out ax[k] (List.getElem_mem hlx)
        obtain ⟨wop, wi⟩ := hw
        generalize ax[k].op = op at *
        generalize ax[k].i = ii at *
        have hk0 : (0 : Int) ≤ (k : Int) := by omega
        have hk1 : (k : Int) < (nX : Int) := by omega
        have hp0 := pickP_lo (c := ii) (n := (n : Int) + 2) (by omega)
        have hp1 := pickP_hi (c := ii) (n := (n : Int) + 2) (by omega)
        obtain ⟨p, hp⟩ : ∃ p, pickP ii ((n : Int) + 2) = p := ⟨_, rfl⟩
        rw [hp] at hp0 hp1
        have HMI := Lib.hid hp
        have hv0 := pickP_lo (c := op) (n := 4) (by omega)
        have hv1 := pickP_hi (c := op) (n := 4) (by omega)
        obtain ⟨v, hv⟩ : ∃ v, pickP op 4 = v := ⟨_, rfl⟩
        rw [hv] at hv0 hv1
        have HV := Lib.hid hv
        have hiw : wfI (p - 1) := by unfold wfI; omega
        have hw1 : IntKind.i64.wrap ((n : Int) + 2) = (n : Int) + 2 := by rw [IntWalk.i64_in _ (by omega)]
        have hw2 : IntKind.i64.wrap (p - 1) = p - 1 := by rw [IntWalk.i64_in _ (by omega)]
        clear hlx hp hv
        go_wp2
        go_quiet ((go_at_call 13; exact pickQ ii ((n : Int) + 2) _ _ wi (by omega) (by omega) HMI.out))
        go_wp2_with fail
        refine (pick_any op 4 _ wop (by omega) (by omega)).mono ?_
        rintro e w' ⟨rfl, rfl⟩
        rw [HV.out]
        have HN := Lib.hid (HR.out.drewN nq)
        clear a0 a1 z2 HV wop wi HMI HR hw1 hw2 hp0 hp1
        generalize wr.drewN nq = wx at *
        generalize p - 1 = i at *
        go_upto_block 2 with (fail)
        go_cut [13] (fun vv wx => vv = .bool true ∧ ∃ ys, RowKit.Hid (Bw w3 wx b bl bh gr Ar Cr cd cs L ys ys))
        case first =>
          obtain rfl | rfl | hv2 : v = 0 ∨ v = 1 ∨ 2 ≤ v := by omega
          · go_wp2_with fail
            refine (HN.out.assert hiw).mono ?_
            rintro e w5 ⟨rfl, h5⟩
            have H5 := Lib.hid h5
            clear h5 HN
            go_wp2_with fail
            refine (H5.out.rassert i).mono ?_
            rintro e w6 ⟨rfl, h6⟩
            have H6 := Lib.hid h6
            clear h6 H5
            generalize assertE xs i = E at *
            go_wp2_with fail
            go_meet
            exact ⟨by simp, _, H6⟩
          · go_wp2_with fail
            refine (HN.out.release hiw).mono ?_
            rintro e w5 ⟨rfl, h5⟩
            have H5 := Lib.hid h5
            clear h5 HN
            go_wp2_with fail
            refine (H5.out.rrelease i).mono ?_
            rintro e w6 ⟨rfl, h6⟩
            have H6 := Lib.hid h6
            clear h6 H5
            generalize releaseE xs i = E at *
            go_wp2_with fail
            go_meet
            exact ⟨by simp, _, H6⟩
          · have e0 : (v == 0) = false := by simp; omega
            have e1 : (v == 1) = false := by simp; omega
            go_wp2_with fail
            refine (HN.out.tick).mono ?_
            rintro e w5 ⟨A5, c5, rfl, ho5, h5, hz5⟩
            have H5 := Lib.hid h5
            have HO5 := Lib.hid ho5
            have hlo := HN.out.hotLo
            have HLO := Lib.hid hlo
            clear h5 ho5 HN hlo
            go_wp2_with fail
            refine (H5.out.rtick).mono ?_
            rintro e w6 ⟨A6, c6, rfl, ho6, h6, hm6⟩
            have hi6 := ho6.ints.2
            have hi5 := (HO5.out.moved hm6 (fun g hg => (HLO.out g hg).2)).ints.2
            have hle : (tickE xs).length ≤ 1000 := by
              have := goesP_len xs xs.length
              have h2 := H5.out.inv.len
              have h3 := H5.out.ours.len
              unfold tickE
              omega
            have H6 := Lib.hid h6
            have HI5 := Lib.hid hi5
            have HI6 := Lib.hid hi6
            have HLE := Lib.hid hle
            clear ho6 h6 hm6 hi6 hi5 HO5 H5 HLO hle
            go_wp2_with fail
            refine (same_any A5 A6 c5 c6 _ _ (tickE xs) _ HLE.out HI5.out HI6.out).mono ?_
            rintro e w7 ⟨rfl, q, rfl⟩
            have H7 := Lib.hid (H6.out.drewN q)
            clear HI5 HI6 H6 HLE
            go_wp2_with fail
            go_meet
            exact ⟨rfl, _, H7⟩
        case rest =>
          obtain ⟨hvt, ys, HY⟩ := hcut
          subst hvt
          clear HN hv0 hv1 hiw
          go_wp2
          go_loopw [14] (fun vv wx => ∃ z : Int, -1 ≤ z ∧ z ≤ (n : Int) + 1 ∧ vv = .int .i64 z ∧ RowKit.Hid (Bw w3 wx b bl bh gr Ar Cr cd cs L ys ys)) (fun vv _ => ((n : Int) + 1 - intOf vv).toNat)
          case atStart => exact ⟨-1, by omega, by omega, rfl, HY⟩
          case round =>
            clear HY
            obtain ⟨z, hz0, hz1, rfl, HZ⟩ := hrel
            obtain ⟨z2, -⟩ := HZ.out.ours.box HBX.out 2 _ rfl
            by_cases hzn : z ≤ (n : Int)
            · have hzw : wfI z := by unfold wfI; omega
              obtain ⟨hb, hhb⟩ : ∃ hb, heldP ys z = hb := ⟨_, rfl⟩
              obtain ⟨lv, hlv⟩ : ∃ lv, leftP ys z = lv := ⟨_, rfl⟩
              have HHB := Lib.hid hhb
              have HLV := Lib.hid hlv
              clear hhb hlv
              go_wp2_with fail
              refine (HZ.out.held hzw).mono ?_
              rintro e w5 ⟨rfl, h5⟩
              rw [HHB.out]
              have H5 := Lib.hid h5
              clear h5 HZ
              go_wp2_with fail
              refine (rheld_any gr Ar Cr cd cs ys z w5 H5.out.theirs).mono ?_
              rintro e w6 ⟨rfl, rfl⟩
              rw [HHB.out]
              have ehb : (hb != hb) = false := by simp
              go_wp2_with fail
              refine (H5.out.ours.left hzw).mono ?_
              rintro e w6 ⟨rfl, rfl⟩
              rw [HLV.out]
              go_wp2_with fail
              refine (rleft_any gr Ar Cr cd cs ys z w5 H5.out.theirs).mono ?_
              rintro e w6 ⟨rfl, rfl⟩
              rw [HLV.out]
              have elv : (lv != lv) = false := by simp
              go_wp2
              go_roundw
              case rel => exact ⟨z + 1, by omega, by omega, by go_num, H5⟩
              case measure => simp [intOf]; omega
            · have hzg : ¬ (z ≤ (n : Int)) := hzn
              go_wp2
              go_roundw
              case rel => exact ⟨k + 1, ys, hlt, by go_num, HZ⟩
              case measure => simp [intOf]; omega
      · have hk1 : ¬ ((k : Int) < (nX : Int)) := by omega
        have hbb := HR.out.ours.bel
        clear HR
        go_wp2
        go_ret
        exact ⟨rfl, HB3.out.trans (hbb.mono hz3)⟩

end Go.Proofs.Ytpieihjipdgplaa
