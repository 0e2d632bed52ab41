/- The walk of catnaplaw7.PowerPlays. -/
import Derived.Test.YtlhmcpkfmnmhfaaGreatY12
import Derived.Test.YtlhmcpkfmnmhfaaGreatY8
import Derived.Test.YtlhmcpkfmnmhfaaGreatZX
namespace Go.Proofs.YtlhmcpkfmnmhfaaGreat
set_option linter.unusedSimpArgs false
set_option linter.unusedVariables false
open Go.RowKit Go.Maps

set_option maxRecDepth 1000000 in
set_option maxHeartbeats 16000000 in
theorem plays_any (A : Option Addr) (c : Nat) (l : List Int) (B : Option Addr) (d : Nat) (xs : List Acts) (w : World) (hl : l.length ≤ maxLen) (hwf : ∀ x, x ∈ l → wfI x) (h : IntsAt w w.heap.size A l) (hxl : xs.length ≤ maxLen) (hxw : ∀ x, x ∈ xs → ActW x) (hx : StrsAt ActV 2 w w.heap.size B xs) :
    Calls Tryz.prog 3 #[.slice A l.length c, .slice B xs.length d] w (TellsB true w) := by
  have HXW := Lib.hid hxw
  have HXS := Lib.hid hx
  unfold maxLen at hxl
  obtain ⟨nX, hnX⟩ : ∃ n, n = xs.length := ⟨_, rfl⟩
  rw [← hnX] at hxl ⊢
  have HNX := Lib.hid hnX
  clear hxw hx hnX
  have HL := Lib.hid hl
  have HWF := Lib.hid hwf
  have HI := Lib.hid h
  clear hl hwf h
  go_enter Tryz.func3, Tryz.ntmps3
  go_wp2_with fail
  refine (shown_any _).mono ?_
  rintro e w1 ⟨rfl, hb1⟩
  have HB1 := Lib.hid hb1
  have hz1 := hb1.size
  clear hb1
  go_wp2_with fail
  refine (chip_any A c l w1 HL.out HWF.out ((HI.out.below HB1.out (Nat.le_refl _)).more hz1)).mono ?_
  rintro e w2 ⟨v1, v2, v3, v4, rfl, hown, hb2⟩
  obtain ⟨A1, c1, A2, c2, A3, c3, A4, c4, hvs, l1, l2, l3, l4, h1, h2, h3, h4⟩ := hown.chip
  have hpl := plain_of l
  generalize chipP l = s at *
  obtain ⟨rfl, rfl, rfl, rfl⟩ : v1 = .slice A1 s.clks.length c1 ∧ v2 = .slice A2 s.doms.length c2 ∧ v3 = .slice A3 s.rsts.length c3 ∧ v4 = .slice A4 s.devs.length c4 := by simpa using hvs
  have hcv : ChipV w2 w2.heap.size s [.slice A1 s.clks.length c1, .slice A2 s.doms.length c2, .slice A3 s.rsts.length c3, .slice A4 s.devs.length c4] := ⟨A1, c1, A2, c2, A3, c3, A4, c4, rfl, l1, l2, l3, l4, h1, h2, h3, h4⟩
  have HPL := Lib.hid hpl
  have hz2 := hb2.size
  have hba := ((Below.refl w2.heap.size w2).alloc (Nat.le_refl _) (.cells #[.slice A1 s.clks.length c1, .slice A2 s.doms.length c2, .slice A3 s.rsts.length c3, .slice A4 s.devs.length c4] 30))
  have hbx := BoxAt.new w2 [.slice A1 s.clks.length c1, .slice A2 s.doms.length c2, .slice A3 s.rsts.length c3, .slice A4 s.devs.length c4] 30
  have hcv3 := Steady.later hcv hba
  have HCV3 := Lib.hid hcv3
  have hdv := (h2.below hba (Nat.le_refl _)).more hba.size
  have HDV := Lib.hid hdv
  have HBX := Lib.hid hbx
  have HB3 := Lib.hid (HB1.out.trans ((hb2.mono hz1).trans (hba.mono (by omega))))
  obtain ⟨nD, hnD⟩ : ∃ n, n = s.doms.length := ⟨_, rfl⟩
  have hnb := hpl.nd
  rw [← hnD] at hnb
  have HND := Lib.hid hnD
  clear hb2 hcv hpl hown hvs h1 h2 h3 h4 HI HWF HL l1 l2 l3 l4 hba hbx hcv3 hdv hnD
  go_wp2_with fail
  refine (new_ok s _ _ HPL.out.ok HCV3.out HPL.out.right (by rw [← HND.out]; omega)).mono ?_
  rintro e w4 ⟨gt, g, cg, rfl, hgt, hg, hgr, hb4⟩
  have hcv4 := Steady.later HCV3.out hb4
  have HCV4 := Lib.hid hcv4
  have hbx4 := HBX.out.move (Moved.of_below (hot := []) hb4) (by simp)
  obtain ⟨x0, -⟩ := hbx4 0 _ rfl
  obtain ⟨x1, -⟩ := hbx4 1 _ rfl
  obtain ⟨x2, -⟩ := hbx4 2 _ rfl
  obtain ⟨x3, -⟩ := hbx4 3 _ rfl
  have hll := hgr.lt
  have HGR := Lib.hid hgr
  have HB4 := Lib.hid hb4
  have hz34 := hb4.size
  clear hcv4 hbx4 hgr hb4
  go_wp2_with fail
  refine (rnew_ok s _ _ HPL.out.ok HCV4.out HPL.out.right (by rw [← HND.out]; omega)).mono ?_
  rintro e w5 ⟨gr, gd, gs, cd, cs, rfl, hgr1, hgd1, hgs1, hri, hb5⟩
  have hgr := HGR.out.move (Moved.of_below (hot := []) hb5)
  have hb4 := HB4.out.trans (hb5.mono hz34)
  have HRI := Lib.hid hri
  clear x0 x1 x2 x3 HGR HB4 HCV4 hri hb5
  obtain ⟨w3, hw3⟩ : ∃ w3, w3 = (w2.alloc (.cells #[.slice A1 s.clks.length c1, .slice A2 s.doms.length c2, .slice A3 s.rsts.length c3, .slice A4 s.devs.length c4] 30)) := ⟨_, rfl⟩
  obtain ⟨b, hbb⟩ : ∃ b, b = w2.heap.size := ⟨_, rfl⟩
  have hbx := HBX.out
  have hdv := HDV.out
  have hb3 := HB3.out
  rw [← hw3] at hgt hg hb4 hbx hdv hb3 hz34
  rw [← hbb] at hbx ⊢
  rw [← HND.out] at hbx
  have HBW : RowKit.Hid (Bw w3 w5 gt g cg gr gd gs cd cs s.doms (s.doms.map newP) (s.doms.map newP)) := Lib.hid ⟨Lw.start HPL.out hgr hgt hg hb4, HRI.out, ⟨by omega, by omega, by omega⟩, by omega, by omega, by omega, by omega⟩
  clear HBX HDV HB3 HCV3 HRI hgr hb4 hw3 hz1 hz2 HB1 hbb hll hgr1 hgd1 hgs1 hz34 w2 w1
  have HBX := Lib.hid hbx
  have HB3 := Lib.hid hb3
  have hzb : b < w3.heap.size := hbx.lt
  have hz3 := hb3.size
  clear hbx hdv hb3
  by_cases hbig : 120 < nX
  · have hbig' : (120 : Int) < (nX : Int) := by omega
    go_wp2
    go_ret
    exact ⟨rfl, HB3.out.trans (HBW.out.lw.bel.mono hz3)⟩
  · have hbig' : ¬ ((120 : Int) < (nX : Int)) := by omega
    clear hbig
    go_wp2
    go_loopw [11] (fun i wr => ∃ (k : Nat) (ys : List Pst), k ≤ nX ∧ i = .int .i64 k ∧ RowKit.Hid (Bw w3 wr gt g cg gr gd gs cd cs s.doms ys ys ∧ KeepIs ys)) (fun i _ => nX - (intOf i).toNat)
    case atStart => exact ⟨0, _, Nat.zero_le _, rfl, Lib.hid ⟨HBW.out, KeepIs.start _⟩⟩
    case round =>
      clear HBW
      obtain ⟨k, ys, hk, rfl, HR⟩ := hrel
      obtain ⟨z1, -⟩ := HR.out.1.lw.box HBX.out 1 _ rfl
      by_cases hlt : k < nX
      · have hlx : k < xs.length := by rw [← HNX.out]; exact hlt
        obtain ⟨ad, rfl, a0, a1⟩ := acts_at HXS.out HB3.out HR.out.1.lw.bel hlx
        have hw := HXW.out xs[k] (List.getElem_mem hlx)
        obtain ⟨wop, wd⟩ := hw
        generalize xs[k].op = op at *
        generalize xs[k].d = dd at *
        have hk0 : (0 : Int) ≤ (k : Int) := by omega
        have hk1 : (k : Int) < (nX : Int) := by omega
        have hp0 := pickP_lo (c := dd) (n := (nD : Int) + 2) (by omega)
        have hp1 := pickP_hi (c := dd) (n := (nD : Int) + 2) (by omega)
        obtain ⟨p, hp⟩ : ∃ p, pickP dd ((nD : Int) + 2) = p := ⟨_, rfl⟩
        rw [hp] at hp0 hp1
        have HMI := Lib.hid hp
        have hv0 := pickP_lo (c := op) (n := 7) (by omega)
        have hv1 := pickP_hi (c := op) (n := 7) (by omega)
        obtain ⟨v, hv⟩ : ∃ v, pickP op 7 = v := ⟨_, rfl⟩
        rw [hv] at hv0 hv1
        have HV := Lib.hid hv
        have hiw : wfI (p - 1) := by unfold wfI; omega
        have hw1 : IntKind.i64.wrap ((nD : Int) + 2) = (nD : Int) + 2 := by rw [IntWalk.i64_in _ (by omega)]
        have hw2 : IntKind.i64.wrap (p - 1) = p - 1 := by rw [IntWalk.i64_in _ (by omega)]
        clear hlx hp hv
        go_wp2
        go_quiet ((go_at_call 8; exact pickQ dd ((nD : Int) + 2) _ _ wd (by omega) (by omega) HMI.out))
        go_wp2_with fail
        refine (pick_any op 7 _ wop (by omega) (by omega)).mono ?_
        rintro e w' ⟨rfl, rfl⟩
        rw [HV.out]
        have HN := Lib.hid (And.intro (HR.out.1.drewN nq) HR.out.2)
        clear a0 a1 z1 HV wop wd HMI HR hw1 hw2 hp0 hp1
        generalize wr.drewN nq = wx at *
        generalize p - 1 = i at *
        have hlen : ys.length ≤ 1000 := by have := HN.out.1.lw.len; omega
        have HLEN := Lib.hid hlen
        have HAB := Lib.hid HN.out.1.lw.above
        have HLF := Lib.hid HN.out.1.lw.inv.lefts
        clear hlen
        go_upto_block 2 with (fail)
        go_cut [13] (fun vv wx => vv = .bool true ∧ ∃ zs, RowKit.Hid (Bw w3 wx gt g cg gr gd gs cd cs s.doms zs zs ∧ KeepIs zs))
        case first =>
          obtain rfl | rfl | rfl | rfl | hv4 : v = 0 ∨ v = 1 ∨ v = 2 ∨ v = 3 ∨ 4 ≤ v := by omega
          · go_wp2_with fail
            refine (HN.out.1.lw.up i).mono ?_
            rintro e w5 ⟨rfl, hl5, hm5⟩
            have H5 := Lib.hid (HN.out.1.ours hl5 hm5)
            clear hl5 hm5
            go_wp2_with fail
            refine (H5.out.rup HN.out.2 HLEN.out HAB.out i).mono ?_
            rintro e w6 ⟨rfl, h6⟩
            have H6 := Lib.hid (And.intro h6 (HN.out.2.up i))
            clear h6 H5 HN
            generalize upE ys i = E at *
            go_wp2_with fail
            go_meet
            exact ⟨by simp, _, H6⟩
          · go_wp2_with fail
            refine (HN.out.1.lw.up i).mono ?_
            rintro e w5 ⟨rfl, hl5, hm5⟩
            have H5 := Lib.hid (HN.out.1.ours hl5 hm5)
            clear hl5 hm5
            go_wp2_with fail
            refine (H5.out.rup HN.out.2 HLEN.out HAB.out i).mono ?_
            rintro e w6 ⟨rfl, h6⟩
            have H6 := Lib.hid (And.intro h6 (HN.out.2.up i))
            clear h6 H5 HN
            generalize upE ys i = E at *
            go_wp2_with fail
            go_meet
            exact ⟨by simp, _, H6⟩
          · go_wp2_with fail
            refine (HN.out.1.lw.down i false).mono ?_
            rintro e w5 ⟨rfl, hl5, hm5⟩
            have H5 := Lib.hid (HN.out.1.ours hl5 hm5)
            clear hl5 hm5
            go_wp2_with fail
            refine (H5.out.rdown HLEN.out i false).mono ?_
            rintro e w6 ⟨rfl, h6⟩
            have H6 := Lib.hid (And.intro h6 (HN.out.2.down i false))
            clear h6 H5 HN
            generalize downE ys i false = E at *
            go_wp2_with fail
            go_meet
            exact ⟨by simp, _, H6⟩
          · go_wp2_with fail
            refine (HN.out.1.lw.down i true).mono ?_
            rintro e w5 ⟨rfl, hl5, hm5⟩
            have H5 := Lib.hid (HN.out.1.ours hl5 hm5)
            clear hl5 hm5
            go_wp2_with fail
            refine (H5.out.rdown HLEN.out i true).mono ?_
            rintro e w6 ⟨rfl, h6⟩
            have H6 := Lib.hid (And.intro h6 (HN.out.2.down i true))
            clear h6 H5 HN
            generalize downE ys i true = E at *
            go_wp2_with fail
            go_meet
            exact ⟨by simp, _, H6⟩
          · have e0 : (v == 0) = false := by simp; omega
            have e1 : (v == 1) = false := by simp; omega
            have e2 : (v == 2) = false := by simp; omega
            have e3 : (v == 3) = false := by simp; omega
            go_wp2_with fail
            refine (HN.out.1.lw.tick).mono ?_
            rintro e w5 ⟨v5, rfl, hv5, hl5, hm5⟩
            have hle : (tickE ys).length ≤ 1000 := by
              have := evsP_len ys ys.length
              have := HLEN.out
              unfold tickE
              omega
            have HLE := Lib.hid hle
            have H5 := Lib.hid (HN.out.1.ours hl5 hm5)
            have HV5 := Lib.hid hv5
            clear hl5 hm5 hv5 hle
            go_wp2_with fail
            refine (as_any v5 (tickE ys) _ w5 HLE.out HV5.out).mono ?_
            rintro e w6 ⟨v6, rfl, hv6, hb6⟩
            have H6 := Lib.hid (H5.out.calm (Moved.of_below hb6))
            have HV6 := Lib.hid hv6
            have hgs6 := H5.out.ref.lts.2.2
            clear hv6 hb6 HV5 H5
            go_wp2_with fail
            refine (H6.out.rtick HLEN.out HLF.out).mono ?_
            rintro e w7 ⟨v7, rfl, hv7, h7, hm7⟩
            have hv67 := HV6.out.moved hm7 (by simp; omega)
            have HV7 := Lib.hid hv7
            have HV67 := Lib.hid hv67
            have H7 := Lib.hid h7
            clear hv7 h7 hm7 hv67 HV6 H6
            go_wp2_with fail
            refine (rsame_any v6 v7 (tickE ys) _ _ w7 HLE.out HV67.out HV7.out).mono ?_
            rintro e w8 ⟨rfl, q, rfl⟩
            have H8 := Lib.hid (And.intro (H7.out.drewN q) HN.out.2.tick)
            clear HV7 HV67 H7 HN HLE
            go_wp2_with fail
            go_meet
            exact ⟨rfl, _, H8⟩
        case rest =>
          obtain ⟨hvt, zs, HY⟩ := hcut
          subst hvt
          clear HN hv0 hv1 hiw HLEN HAB HLF
          go_wp2
          go_loopw [14] (fun vv wx => ∃ z : Int, -1 ≤ z ∧ z ≤ (nD : Int) + 1 ∧ vv = .int .i64 z ∧ RowKit.Hid (Bw w3 wx gt g cg gr gd gs cd cs s.doms zs zs ∧ KeepIs zs)) (fun vv _ => ((nD : Int) + 1 - intOf vv).toNat)
          case atStart => exact ⟨-1, by omega, by omega, rfl, HY⟩
          case round =>
            clear HY
            obtain ⟨z, hz0, hz1, rfl, HZ⟩ := hrel
            obtain ⟨z1, -⟩ := HZ.out.1.lw.box HBX.out 1 _ rfl
            by_cases hzn : z ≤ (nD : Int)
            · have hzw : wfI z := by unfold wfI; omega
              have hlen : zs.length ≤ 1000 := by have := HZ.out.1.lw.len; omega
              have hlen5 : zs.length ≤ 500 := by have := HZ.out.1.lw.len; omega
              have hcl : (chainP zs z).length ≤ 1000 := by
                have := upsF_len zs z
                unfold chainP
                rw [List.length_reverse]
                omega
              obtain ⟨ph, hph⟩ : ∃ ph, phaseP zs z = ph := ⟨_, rfl⟩
              obtain ⟨lv, hlv⟩ : ∃ lv, leftP zs z = lv := ⟨_, rfl⟩
              obtain ⟨cl, hcc⟩ : ∃ cl, chainP zs z = cl := ⟨_, rfl⟩
              rw [hcc] at hcl
              have HPH := Lib.hid hph
              have HLV := Lib.hid hlv
              have HCC := Lib.hid hcc
              have HCL := Lib.hid hcl
              have HL5 := Lib.hid hlen5
              have HL1 := Lib.hid hlen
              clear hph hlv hcc hcl hlen hlen5
              go_wp2_with fail
              refine (HZ.out.1.lw.phase z).mono ?_
              rintro e w' ⟨rfl, rfl⟩
              rw [HPH.out]
              go_wp2_with fail
              refine (rphase_any gr gd gs cd cs zs z _ HL1.out HZ.out.1.ref).mono ?_
              rintro e w' ⟨rfl, rfl⟩
              rw [HPH.out]
              have eph : (ph != ph) = false := by simp
              go_wp2_with fail
              refine (HZ.out.1.lw.left z).mono ?_
              rintro e w' ⟨rfl, rfl⟩
              rw [HLV.out]
              go_wp2_with fail
              refine (rleft_any gr gd gs cd cs zs z _ HL1.out HZ.out.1.ref).mono ?_
              rintro e w' ⟨rfl, rfl⟩
              rw [HLV.out]
              have elv : (lv != lv) = false := by simp
              go_wp2_with fail
              refine (chain_any gt g cg zs z _ HL5.out hzw HZ.out.1.lw.grid HZ.out.1.lw.desc).mono ?_
              rintro e w5 ⟨A5, c5, rfl, ho5, hb5⟩
              rw [HCC.out] at ho5 ⊢
              have ho5' : OwnI w5 wr.heap.size (.slice A5 cl.length c5) cl := ho5
              have H5 := Lib.hid (And.intro (HZ.out.1.calm (Moved.of_below hb5)) HZ.out.2)
              have HO5 := Lib.hid ho5'
              clear ho5 ho5' hb5 HZ
              go_wp2_with fail
              refine (rchain_any gr gd gs cd cs zs z _ HL5.out H5.out.1.ref H5.out.1.lw.desc).mono ?_
              rintro e w6 ⟨v6, rfl, ho6, hb6⟩
              rw [HCC.out] at ho6
              have H6 := Lib.hid (And.intro (H5.out.1.calm (Moved.of_below hb6)) H5.out.2)
              have ho56 : OwnI w6 wr.heap.size (.slice A5 cl.length c5) cl := own_move HO5.out fun q hq => hb6.block q (HO5.out.lt q hq).2
              have HO56 := Lib.hid ho56
              have HO6 := Lib.hid ho6
              clear ho6 hb6 ho56 HO5 H5
              go_wp2_with fail
              refine (same_any _ v6 cl _ _ w6 HCL.out HO56.out HO6.out).mono ?_
              rintro e w7 ⟨rfl, q, rfl⟩
              have H7 := Lib.hid (And.intro (H6.out.1.drewN q) H6.out.2)
              clear HO56 HO6 H6
              go_wp2
              go_roundw
              case rel => exact ⟨z + 1, by omega, by omega, by go_num, H7⟩
              case measure => simp [intOf]; omega
            · have hzg : ¬ (z ≤ (nD : Int)) := hzn
              go_wp2
              go_roundw
              case rel => exact ⟨k + 1, zs, hlt, by go_num, HZ⟩
              case measure => simp [intOf]; omega
      · have hk1 : ¬ ((k : Int) < (nX : Int)) := by omega
        have hbb := HR.out.1.lw.bel
        clear HR
        go_wp2
        go_ret
        exact ⟨rfl, HB3.out.trans (hbb.mono hz3)⟩

end Go.Proofs.YtlhmcpkfmnmhfaaGreat
