/- The walk of catnaplaw7.PowerHangs. -/
import Derived.Test.YtlhmcpkfmnmhfaaZC
namespace Go.Proofs.Ytlhmcpkfmnmhfaa
set_option linter.unusedSimpArgs false
set_option linter.unusedVariables false
open Go.RowKit Go.Maps

set_option maxRecDepth 1000000 in
set_option maxHeartbeats 8000000 in
theorem hangs_any (A : Option Addr) (c : Nat) (l : List Int) (B : Option Addr) (d : Nat) (xs : List Acts) (w : World) (hl : l.length ≤ maxLen) (hwf : ∀ x, x ∈ l → wfI x) (h : IntsAt w w.heap.size A l) (hxl : xs.length ≤ maxLen) (hxw : ∀ x, x ∈ xs → ActW x) (hx : StrsAt ActV 2 w w.heap.size B xs) :
    Calls Try.prog 3 #[.slice A l.length c, .slice B xs.length d] w (TellsB true w) := by
  have HXW := Lib.hid hxw
  have HXS := Lib.hid hx
  unfold maxLen at hxl
  obtain ⟨nX, hnX⟩ : ∃ n, n = xs.length := ⟨_, rfl⟩
  rw [← hnX] at hxl ⊢
  have HNX := Lib.hid hnX
  clear hxw hx hnX
  have HL := Lib.hid hl
  have HWF := Lib.hid hwf
  have HI := Lib.hid h
  clear hl hwf h
  go_enter Try.func3, Try.ntmps3
  go_wp2_with fail
  refine (shown_any _).mono ?_
  rintro e w1 ⟨rfl, hb1⟩
  have HB1 := Lib.hid hb1
  have hz1 := hb1.size
  clear hb1
  go_wp2_with fail
  refine (chip_any A c l w1 HL.out HWF.out ((HI.out.below HB1.out (Nat.le_refl _)).more hz1)).mono ?_
  rintro e w2 ⟨v1, v2, v3, v4, rfl, hown, hb2⟩
  obtain ⟨A1, c1, A2, c2, A3, c3, A4, c4, hvs, l1, l2, l3, l4, h1, h2, h3, h4⟩ := hown.chip
  have hpl := plain_of l
  generalize chipP l = s at *
  obtain ⟨rfl, rfl, rfl, rfl⟩ : v1 = .slice A1 s.clks.length c1 ∧ v2 = .slice A2 s.doms.length c2 ∧ v3 = .slice A3 s.rsts.length c3 ∧ v4 = .slice A4 s.devs.length c4 := by simpa using hvs
  have hcv : ChipV w2 w2.heap.size s [.slice A1 s.clks.length c1, .slice A2 s.doms.length c2, .slice A3 s.rsts.length c3, .slice A4 s.devs.length c4] := ⟨A1, c1, A2, c2, A3, c3, A4, c4, rfl, l1, l2, l3, l4, h1, h2, h3, h4⟩
  have HPL := Lib.hid hpl
  have hz2 := hb2.size
  have hba := ((Below.refl w2.heap.size w2).alloc (Nat.le_refl _) (.cells #[.slice A1 s.clks.length c1, .slice A2 s.doms.length c2, .slice A3 s.rsts.length c3, .slice A4 s.devs.length c4] 30))
  have hbx := BoxAt.new w2 [.slice A1 s.clks.length c1, .slice A2 s.doms.length c2, .slice A3 s.rsts.length c3, .slice A4 s.devs.length c4] 30
  have hcv3 := Steady.later hcv hba
  have HCV3 := Lib.hid hcv3
  have hdv := (h2.below hba (Nat.le_refl _)).more hba.size
  have HDV := Lib.hid hdv
  have HBX := Lib.hid hbx
  have HB3 := Lib.hid (HB1.out.trans ((hb2.mono hz1).trans (hba.mono (by omega))))
  obtain ⟨nD, hnD⟩ : ∃ n, n = s.doms.length := ⟨_, rfl⟩
  have hnb := hpl.nd
  rw [← hnD] at hnb
  have HND := Lib.hid hnD
  clear hb2 hcv hpl hown hvs h1 h2 h3 h4 HI HWF HL l1 l2 l3 l4 hba hbx hcv3 hdv hnD
  go_wp2_with fail
  refine (new_ok s _ _ HPL.out.ok HCV3.out HPL.out.right (by rw [← HND.out]; omega)).mono ?_
  rintro e w4 ⟨gt, g, cg, rfl, hgt, hg, hgr, hb4⟩
  obtain ⟨w3, hw3⟩ : ∃ w3, w3 = (w2.alloc (.cells #[.slice A1 s.clks.length c1, .slice A2 s.doms.length c2, .slice A3 s.rsts.length c3, .slice A4 s.devs.length c4] 30)) := ⟨_, rfl⟩
  obtain ⟨b, hbb⟩ : ∃ b, b = w2.heap.size := ⟨_, rfl⟩
  have hbx := HBX.out
  have hdv := HDV.out
  have hb3 := HB3.out
  rw [← hw3] at hgt hg hb4 hbx hdv hb3
  rw [← hbb] at hbx ⊢
  rw [← HND.out] at hbx
  have HLW := Lib.hid (Lw.start HPL.out hgr hgt hg hb4)
  clear HBX HDV HB3 HCV3 hgr hb4 hw3 hz1 hz2 HB1 hbb w2 w1
  have HBX := Lib.hid hbx
  have HDV := Lib.hid hdv
  have HB3 := Lib.hid hb3
  have hx4 := HLW.out.box hbx
  obtain ⟨x1, -⟩ := hx4 1 _ rfl
  have hz4 := HLW.out.size
  have hzb : b < w3.heap.size := hbx.lt
  have hz3 := hb3.size
  clear hbx hdv hb3 hx4
  by_cases hbig : 120 < nX
  · have hbig' : (120 : Int) < (nX : Int) := by omega
    go_wp2
    go_ret
    exact ⟨rfl, HB3.out.trans (HLW.out.bel.mono hz3)⟩
  · have hbig' : ¬ ((120 : Int) < (nX : Int)) := by omega
    clear hbig
    go_wp2
    go_loopw [9] (fun i wr => ∃ (k : Nat) (sts : List Pst), k ≤ nX ∧ i = .int .i64 k ∧ RowKit.Hid (Lw w3 wr gt g cg s.doms sts)) (fun i _ => nX - (intOf i).toNat)
    case atStart => exact ⟨0, _, Nat.zero_le _, rfl, HLW⟩
    case round =>
      obtain ⟨k, sts, hk, rfl, HR⟩ := hrel
      clear x1 HLW hz4 w4
      by_cases hlt : k < nX
      · obtain ⟨z1, -⟩ := HR.out.box HBX.out 1 _ rfl
        have hlx : k < xs.length := by rw [← HNX.out]; exact hlt
        obtain ⟨ad, rfl, a0, a1⟩ := acts_at HXS.out HB3.out HR.out.bel hlx
        have hw := HXW.out xs[k] (List.getElem_mem hlx)
        obtain ⟨wop, wd⟩ := hw
        generalize xs[k].op = op at *
        generalize xs[k].d = dd at *
        have hk0 : (0 : Int) ≤ (k : Int) := by omega
        have hk1 : (k : Int) < (nX : Int) := by omega
        have hp0 := pickP_lo (c := dd) (n := (nD : Int)) (by omega)
        have hp1 := pickP_hi (c := dd) (n := (nD : Int)) (by omega)
        obtain ⟨x, hx⟩ : ∃ x, pickP dd (nD : Int) = x := ⟨_, rfl⟩
        rw [hx] at hp0 hp1
        have HX := Lib.hid hx
        have hv0 := pickP_lo (c := op) (n := 7) (by omega)
        have hv1 := pickP_hi (c := op) (n := 7) (by omega)
        obtain ⟨v, hv⟩ : ∃ v, pickP op 7 = v := ⟨_, rfl⟩
        rw [hv] at hv0 hv1
        have HV := Lib.hid hv
        clear hlx hx hv
        go_wp2
        go_quiet ((go_at_call 12; exact pickQ dd nD _ _ wd (by omega) (by omega) HX.out))
        go_wp2_with fail
        refine (pick_any op 7 _ wop (by omega) (by omega)).mono ?_
        rintro e w' ⟨rfl, rfl⟩
        rw [HV.out]
        have HN := Lib.hid (HR.out.drewN nq)
        clear a0 a1 z1 HX HV wop wd
        go_upto_block 2 with (fail)
        go_cut [70] (fun _ wx => RowKit.Hid (Acted w3 gt g cg s.doms wx))
        case first =>
          obtain rfl | rfl | rfl | rfl | hv4 : v = 0 ∨ v = 1 ∨ v = 2 ∨ v = 3 ∨ 4 ≤ v := by omega
          · go_wp2_with fail
            refine (HN.out.upX x).mono ?_
            rintro e w5 ⟨⟨E, rfl⟩, ha⟩
            have HA := Lib.hid ha
            clear ha
            go_wp2_with fail
            go_meet
            exact HA
          · go_wp2_with fail
            refine (HN.out.upX x).mono ?_
            rintro e w5 ⟨⟨E, rfl⟩, ha⟩
            have HA := Lib.hid ha
            clear ha
            go_wp2_with fail
            go_meet
            exact HA
          · go_wp2_with fail
            refine (HN.out.downX x false).mono ?_
            rintro e w5 ⟨⟨E, rfl⟩, ha⟩
            have HA := Lib.hid ha
            clear ha
            go_wp2_with fail
            go_meet
            exact HA
          · go_wp2_with fail
            refine (HN.out.downX x true).mono ?_
            rintro e w5 ⟨⟨E, rfl⟩, ha⟩
            have HA := Lib.hid ha
            clear ha
            go_wp2_with fail
            go_meet
            exact HA
          · have e0 : (v == 0) = false := by simp; omega
            have e1 : (v == 1) = false := by simp; omega
            have e2 : (v == 2) = false := by simp; omega
            have e3 : (v == 3) = false := by simp; omega
            go_wp2_with fail
            refine (HN.out.tickX).mono ?_
            rintro e w5 ⟨⟨E, rfl⟩, ha⟩
            have HA := Lib.hid ha
            clear ha
            go_wp2_with fail
            go_meet
            exact HA
        case rest =>
          obtain ⟨sts', hH⟩ := hcut.out
          have HS := Lib.hid hH
          clear hH HN HR hcut sts hp0 hp1 hv0 hv1
          go_wp2
          go_loopw [11] (fun i wr => ∃ j : Nat, j ≤ nD ∧ i = .int .i64 j ∧ RowKit.Hid (Lw w3 wr gt g cg s.doms sts')) (fun i _ => nD - (intOf i).toNat)
          case atStart => exact ⟨0, Nat.zero_le _, rfl, HS⟩
          case round =>
            obtain ⟨j, hj, rfl, HQ⟩ := hrel
            clear HS
            obtain ⟨z1, -⟩ := HQ.out.box HBX.out 1 _ rfl
            by_cases hjt : j < nD
            · have hj0 : (0 : Int) ≤ (j : Int) := by omega
              have hj1 : (j : Int) < (nD : Int) := by omega
              have hsl : sts'.length = nD := by rw [HQ.out.inv.len, HND.out]
              have hx := List.getElem?_eq_getElem (l := sts') (i := j) (by omega)
              generalize sts'[j] = y at hx
              obtain ⟨p, hp⟩ : ∃ p, phaseP sts' (j : Int) = p := ⟨_, rfl⟩
              have hyp : y.phase = p := (phaseP_at hx).symm.trans hp
              have hch := chainP_yes HQ.out.inv HQ.out.ok hx
              have hlv : restsB p = false → ∀ a, a ∈ upsF sts' y.dom.above → phaseP sts' a = 49 := fun hr => live_above HQ.out.inv HQ.out.ok hx (by rw [hyp]; exact hr)
              have hret : p = 116 → y.dom.ret = true := fun e => HQ.out.inv.retR j y hx (by rw [hyp]; exact e)
              have hdm : s.doms[j]? = some y.dom := HQ.out.inv.at_ hx
              obtain ⟨us, hus⟩ : ∃ us, (upsF sts' y.dom.above).reverse = us := ⟨_, rfl⟩
              have hlv' : restsB p = false → ∀ a, a ∈ us → phaseP sts' a = 49 := fun hr a ha => hlv hr a (by rw [← hus] at ha; simpa using ha)
              rw [hus] at hch
              have hul : us.length + 1 ≤ 4 := by
                have h1 := upsF_len sts' (j : Int)
                have h2 := congrArg List.length hch
                unfold chainP at h2
                simp at h2
                omega
              obtain ⟨m, hm⟩ : ∃ m, us.length = m := ⟨_, rfl⟩
              rw [hm] at hul
              have HP := Lib.hid hp
              have HCH := Lib.hid hch
              have HLV := Lib.hid hlv'
              have HRET := Lib.hid hret
              have HDM := Lib.hid hdm
              have HM := Lib.hid hm
              have hwj : wfI (j : Int) := by unfold wfI; omega
              clear hp hyp hch hlv hlv' hret hdm hus hm hx hsl
              go_wp2_with fail
              refine (HQ.out.phase _).mono ?_
              rintro e w' ⟨rfl, rfl⟩
              rw [HP.out]
              go_wp2_with fail
              refine (HQ.out.chain _ hwj).mono ?_
              rintro e w8 ⟨Ac, dc, rfl, hia, hl8, hb8⟩
              have hle : (us ++ [(j : Int)]).length = m + 1 := by simp [HM.out]
              rw [HCH.out] at hia ⊢
              rw [hle]
              obtain ⟨ac, rfl, hab, hcm⟩ := hia.at_ (k := m) (by omega)
              have hgm : (us ++ [(j : Int)])[m]'(by omega) = (j : Int) := by
                have := HM.out
                subst this
                simp
              rw [hgm] at hcm
              have cm := hcm
              have H8 := Lib.hid hl8
              have HIA := Lib.hid hia
              obtain ⟨z1, -⟩ := hl8.box HBX.out 1 _ rfl
              have hn0 : ((m : Int) + 1 == 0) = false := by simp; omega
              have hm0 : (0 : Int) ≤ (m : Int) := by omega
              have hm3 : (m : Int) ≤ 3 := by omega
              clear hl8 hia hb8 hle hgm hcm hab HCH HP HQ
              obtain rfl | rfl | hr : p = 48 ∨ p = 116 ∨ restsB p = false := by
                unfold restsB; simp; omega
              · clear HLV HRET HDM z1 hul
                go_wp2
                go_loopw [14] (fun i wr => ∃ q : Nat, q ≤ m ∧ i = .int .i64 q ∧ RowKit.Hid (Lw w3 wr gt g cg s.doms sts') ∧ RowKit.Hid (IntsAt wr wr.heap.size (some ac) (us ++ [(j : Int)]))) (fun i _ => m - (intOf i).toNat)
                case atStart => exact ⟨0, Nat.zero_le _, rfl, H8, HIA⟩
                case round =>
                  obtain ⟨q, hq, rfl, H9, HI9⟩ := hrel
                  clear H8 HIA cm
                  by_cases hqt : q < m
                  · have hq0 : (0 : Int) ≤ (q : Int) := by omega
                    have hq1 : (q : Int) + 1 < (m : Int) + 1 := by omega
                    have hq2 : (q : Int) < (m : Int) + 1 := by omega
                    go_wp2
                    go_roundw
                    case rel => exact ⟨q + 1, by omega, by go_num, H9, HI9⟩
                    case measure => simp [intOf]; omega
                  · have hq1 : ¬ ((q : Int) + 1 < (m : Int) + 1) := by omega
                    go_wp2
                    go_roundw
                    case rel => exact ⟨j + 1, by omega, by go_num, H9⟩
                    case measure => simp [intOf]; omega
              · have hjs : j < s.doms.length := by rw [← HND.out]; exact hjt
                obtain ⟨a2, us2, rfl, -, hV2, hAg2⟩ := (HDV.out.below H8.out.bel (Nat.le_refl _)).at_ hjs
                have he2 : s.doms[j] = y.dom := by have := HDM.out; rw [List.getElem?_eq_getElem hjs] at this; injection this
                rw [he2] at hV2
                have e2 : us2 = [.int .i64 y.dom.above, .int .i64 y.dom.delay, .bool y.dom.ret] := hV2
                subst e2
                have r2 := hAg2.at_ 1 rfl
                rw [HRET.out rfl] at r2
                clear HLV HRET HDM hul hjs hV2 hAg2 he2
                go_wp2
                go_loopw [14] (fun i wr => ∃ q : Nat, q ≤ m ∧ i = .int .i64 q ∧ RowKit.Hid (Lw w3 wr gt g cg s.doms sts') ∧ RowKit.Hid (IntsAt wr wr.heap.size (some ac) (us ++ [(j : Int)]))) (fun i _ => m - (intOf i).toNat)
                case atStart => exact ⟨0, Nat.zero_le _, rfl, H8, HIA⟩
                case round =>
                  obtain ⟨q, hq, rfl, H9, HI9⟩ := hrel
                  clear H8 HIA cm
                  by_cases hqt : q < m
                  · have hq0 : (0 : Int) ≤ (q : Int) := by omega
                    have hq1 : (q : Int) + 1 < (m : Int) + 1 := by omega
                    have hq2 : (q : Int) < (m : Int) + 1 := by omega
                    go_wp2
                    go_roundw
                    case rel => exact ⟨q + 1, by omega, by go_num, H9, HI9⟩
                    case measure => simp [intOf]; omega
                  · have hq1 : ¬ ((q : Int) + 1 < (m : Int) + 1) := by omega
                    go_wp2
                    go_roundw
                    case rel => exact ⟨j + 1, by omega, by go_num, H9⟩
                    case measure => simp [intOf]; omega
              · have hr0 := GInv.ret0 hr
                have e48 : (p != 48) = true := by simpa using hr0.1
                have e116 : (p != 116) = true := by simpa using hr0.2
                have e116' : (p == 116) = false := by simpa using hr0.2
                have HLV' := Lib.hid (HLV.out hr)
                clear HLV HRET HDM hr hr0 z1
                go_wp2
                go_loopw [14] (fun i wr => ∃ q : Nat, q ≤ m ∧ i = .int .i64 q ∧ RowKit.Hid (Lw w3 wr gt g cg s.doms sts') ∧ RowKit.Hid (IntsAt wr wr.heap.size (some ac) (us ++ [(j : Int)]))) (fun i _ => m - (intOf i).toNat)
                case atStart => exact ⟨0, Nat.zero_le _, rfl, H8, HIA⟩
                case round =>
                  obtain ⟨q, hq, rfl, H9, HI9⟩ := hrel
                  clear H8 HIA cm
                  by_cases hqt : q < m
                  · have hq0 : (0 : Int) ≤ (q : Int) := by omega
                    have hq1 : (q : Int) + 1 < (m : Int) + 1 := by omega
                    have hq2 : (q : Int) < (m : Int) + 1 := by omega
                    have hqu : q < us.length := by rw [HM.out]; omega
                    obtain ⟨ac', e, hab, hcq⟩ := HI9.out.at_ (k := q) (by rw [List.length_append]; omega)
                    injection e with e
                    subst e
                    have hgq : (us ++ [(j : Int)])[q]'(by rw [List.length_append]; omega) = us[q] := List.getElem_append_left hqu
                    rw [hgq] at hcq
                    have hlq := HLV'.out us[q] (List.getElem_mem hqu)
                    generalize us[q] = aq at *
                    have HLQ := Lib.hid hlq
                    clear hlq hgq hqu hab
                    go_wp2_with fail
                    refine (H9.out.phase _).mono ?_
                    rintro e w' ⟨rfl, rfl⟩
                    rw [HLQ.out]
                    go_wp2_with fail
                    go_roundw
                    case rel => exact ⟨q + 1, by omega, by go_num, H9, HI9⟩
                    case measure => simp [intOf]; omega
                  · have hq1 : ¬ ((q : Int) + 1 < (m : Int) + 1) := by omega
                    go_wp2
                    go_roundw
                    case rel => exact ⟨j + 1, by omega, by go_num, H9⟩
                    case measure => simp [intOf]; omega
            · obtain rfl : j = nD := by omega
              have hjl : ¬ ((j : Int) < (j : Int)) := by omega
              go_wp2
              go_roundw
              case rel => exact ⟨k + 1, sts', by omega, by go_num, HQ⟩
              case measure => simp [intOf]; omega
      · have hke : k = nX := by omega
        subst hke
        have hkl : ¬ ((k : Int) < (k : Int)) := by omega
        go_wp2
        go_ret
        exact ⟨rfl, HB3.out.trans (HR.out.bel.mono hz3)⟩

theorem hangs_arg (A : Option Addr) (c : Nat) (l : List Int) (B : Option Addr) (d : Nat) (xs : List Acts) (w : World) (hm : l.length ≤ 9223372036854775807) (h : IntsAt w w.heap.size A l) (hwf : ∀ x, x ∈ l → wfI x) (hxl : xs.length ≤ maxLen) (hx : StrsAt ActV 2 w w.heap.size B xs) (hxw : ∀ x, x ∈ xs → ActW x) :
    Calls Try.prog 3 #[.slice A l.length c, .slice B xs.length d] w fun e w' => e = .returned (.bool true) ∧ Below w.heap.size w w' :=
  hangs_any A c l B d xs w (by unfold maxLen; omega) hwf h hxl hxw hx

end Go.Proofs.Ytlhmcpkfmnmhfaa
