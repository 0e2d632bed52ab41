/- The walk of catnaplaw7.PowerErrs. -/
import Derived.Test.YtlhmcpkfmnmhfaaZC
namespace Go.Proofs.Ytlhmcpkfmnmhfaa
set_option linter.unusedSimpArgs false
set_option linter.unusedVariables false
open Go.RowKit Go.Maps

theorem kr_cases {kp rt : Bool} (h : ¬ (kp = true ∧ rt = false)) : kp = false ∨ (kp = true ∧ rt = true) := by cases kp <;> cases rt <;> simp_all
set_option maxRecDepth 1000000 in
set_option maxHeartbeats 8000000 in
theorem errs_any (A : Option Addr) (c : Nat) (l : List Int) (B : Option Addr) (d : Nat) (xs : List Acts) (w : World) (hl : l.length ≤ maxLen) (hwf : ∀ x, x ∈ l → wfI x) (h : IntsAt w w.heap.size A l) (hxl : xs.length ≤ maxLen) (hxw : ∀ x, x ∈ xs → ActW x) (hx : StrsAt ActV 2 w w.heap.size B xs) :
    Calls Try.prog 8 #[.slice A l.length c, .slice B xs.length d] w (TellsB true w) := by
  have HXW := Lib.hid hxw
  have HXS := Lib.hid hx
  unfold maxLen at hxl
  obtain ⟨nX, hnX⟩ : ∃ n, n = xs.length := ⟨_, rfl⟩
  rw [← hnX] at hxl ⊢
  have HNX := Lib.hid hnX
  clear hxw hx hnX
  have HL := Lib.hid hl
  have HWF := Lib.hid hwf
  have HI := Lib.hid h
  clear hl hwf h
  go_enter Try.func8, Try.ntmps8
  go_wp2_with fail
  refine (shown_any _).mono ?_
  rintro e w1 ⟨rfl, hb1⟩
  have HB1 := Lib.hid hb1
  have hz1 := hb1.size
  clear hb1
  go_wp2_with fail
  refine (chip_any A c l w1 HL.out HWF.out ((HI.out.below HB1.out (Nat.le_refl _)).more hz1)).mono ?_
  rintro e w2 ⟨v1, v2, v3, v4, rfl, hown, hb2⟩
  obtain ⟨A1, c1, A2, c2, A3, c3, A4, c4, hvs, l1, l2, l3, l4, h1, h2, h3, h4⟩ := hown.chip
  have hpl := plain_of l
  generalize chipP l = s at *
  obtain ⟨rfl, rfl, rfl, rfl⟩ : v1 = .slice A1 s.clks.length c1 ∧ v2 = .slice A2 s.doms.length c2 ∧ v3 = .slice A3 s.rsts.length c3 ∧ v4 = .slice A4 s.devs.length c4 := by simpa using hvs
  have hcv : ChipV w2 w2.heap.size s [.slice A1 s.clks.length c1, .slice A2 s.doms.length c2, .slice A3 s.rsts.length c3, .slice A4 s.devs.length c4] := ⟨A1, c1, A2, c2, A3, c3, A4, c4, rfl, l1, l2, l3, l4, h1, h2, h3, h4⟩
  have HPL := Lib.hid hpl
  have hz2 := hb2.size
  have hba := ((Below.refl w2.heap.size w2).alloc (Nat.le_refl _) (.cells #[.slice A1 s.clks.length c1, .slice A2 s.doms.length c2, .slice A3 s.rsts.length c3, .slice A4 s.devs.length c4] 30))
  have hbx := BoxAt.new w2 [.slice A1 s.clks.length c1, .slice A2 s.doms.length c2, .slice A3 s.rsts.length c3, .slice A4 s.devs.length c4] 30
  have hcv3 := Steady.later hcv hba
  have HCV3 := Lib.hid hcv3
  have hdv := (h2.below hba (Nat.le_refl _)).more hba.size
  have HDV := Lib.hid hdv
  have HBX := Lib.hid hbx
  have HB3 := Lib.hid (HB1.out.trans ((hb2.mono hz1).trans (hba.mono (by omega))))
  obtain ⟨nD, hnD⟩ : ∃ n, n = s.doms.length := ⟨_, rfl⟩
  have hnb := hpl.nd
  rw [← hnD] at hnb
  have HND := Lib.hid hnD
  clear hb2 hcv hpl hown hvs h1 h2 h3 h4 HI HWF HL l1 l2 l3 l4 hba hbx hcv3 hdv hnD
  go_wp2_with fail
  refine (new_ok s _ _ HPL.out.ok HCV3.out HPL.out.right (by rw [← HND.out]; omega)).mono ?_
  rintro e w4 ⟨gt, g, cg, rfl, hgt, hg, hgr, hb4⟩
  obtain ⟨w3, hw3⟩ : ∃ w3, w3 = (w2.alloc (.cells #[.slice A1 s.clks.length c1, .slice A2 s.doms.length c2, .slice A3 s.rsts.length c3, .slice A4 s.devs.length c4] 30)) := ⟨_, rfl⟩
  obtain ⟨b, hbb⟩ : ∃ b, b = w2.heap.size := ⟨_, rfl⟩
  have hbx := HBX.out
  have hdv := HDV.out
  have hb3 := HB3.out
  rw [← hw3] at hgt hg hb4 hbx hdv hb3
  rw [← hbb] at hbx ⊢
  rw [← HND.out] at hbx
  have HLW := Lib.hid (Lw.start HPL.out hgr hgt hg hb4)
  clear HBX HDV HB3 HCV3 hgr hb4 hw3 hz1 hz2 HB1 hbb w2 w1
  have HBX := Lib.hid hbx
  have HDV := Lib.hid hdv
  have HB3 := Lib.hid hb3
  have hx4 := HLW.out.box hbx
  obtain ⟨x1, -⟩ := hx4 1 _ rfl
  have hz4 := HLW.out.size
  have hzb : b < w3.heap.size := hbx.lt
  have hz3 := hb3.size
  clear hbx hdv hb3 hx4
  by_cases hbig : 120 < nX
  · have hbig' : (120 : Int) < (nX : Int) := by omega
    go_wp2
    go_ret
    exact ⟨rfl, HB3.out.trans (HLW.out.bel.mono hz3)⟩
  · have hbig' : ¬ ((120 : Int) < (nX : Int)) := by omega
    clear hbig
    go_wp2
    go_loopw [9] (fun i wr => ∃ (k : Nat) (sts : List Pst), k ≤ nX ∧ i = .int .i64 k ∧ RowKit.Hid (Lw w3 wr gt g cg s.doms sts)) (fun i _ => nX - (intOf i).toNat)
    case atStart => exact ⟨0, _, Nat.zero_le _, rfl, HLW⟩
    case round =>
      obtain ⟨k, sts, hk, rfl, HR⟩ := hrel
      clear x1 HLW hz4 w4
      by_cases hlt : k < nX
      · obtain ⟨z1, -⟩ := HR.out.box HBX.out 1 _ rfl
        have hlx : k < xs.length := by rw [← HNX.out]; exact hlt
        obtain ⟨ad, rfl, a0, a1⟩ := acts_at HXS.out HB3.out HR.out.bel hlx
        have hw := HXW.out xs[k] (List.getElem_mem hlx)
        obtain ⟨wop, wd⟩ := hw
        obtain ⟨op, hop⟩ : ∃ op, xs[k].op = op := ⟨_, rfl⟩
        rw [hop] at a0 wop
        have HOP := Lib.hid hop
        obtain ⟨dd, hdd⟩ : ∃ dd, xs[k].d = dd := ⟨_, rfl⟩
        rw [hdd] at a1 wd
        clear hdd
        have hk0 : (0 : Int) ≤ (k : Int) := by omega
        have hk1 : (k : Int) < (nX : Int) := by omega
        have hp0 := pickP_lo (c := dd) (n := (nD : Int)) (by omega)
        have hp1 := pickP_hi (c := dd) (n := (nD : Int)) (by omega)
        obtain ⟨x, hx⟩ : ∃ x : Nat, pickP dd (nD : Int) = (x : Int) := ⟨(pickP dd (nD : Int)).toNat, by omega⟩
        rw [hx] at hp0 hp1
        have HX := Lib.hid hx
        have hv0 := pickP_lo (c := op) (n := 7) (by omega)
        have hv1 := pickP_hi (c := op) (n := 7) (by omega)
        obtain ⟨v, hv⟩ : ∃ v, pickP op 7 = v := ⟨_, rfl⟩
        rw [hv] at hv0 hv1
        have HV := Lib.hid hv
        clear hx hv hop
        have hsl : sts.length = nD := by rw [HR.out.inv.len, HND.out]
        have hy := List.getElem?_eq_getElem (l := sts) (i := x) (by omega)
        generalize sts[x] = y at hy
        have hyd : s.doms[x]? = some y.dom := HR.out.inv.at_ hy
        obtain ⟨p, hp⟩ : ∃ p, phaseP sts (x : Int) = p := ⟨_, rfl⟩
        obtain ⟨ab, hab⟩ : ∃ ab, y.dom.above = ab := ⟨_, rfl⟩
        have HSL := Lib.hid hsl
        have HY := Lib.hid hy
        have HYD := Lib.hid hyd
        have HP := Lib.hid hp
        have HAB := Lib.hid hab
        clear hsl hy hyd hp hab
        go_wp2
        go_quiet ((go_at_call 12; exact pickQ dd nD _ _ wd (by omega) (by omega) HX.out))
        have HN := Lib.hid (HR.out.drewN nq)
        go_wp2_with fail
        refine (HN.out.phase _).mono ?_
        rintro e w5 ⟨rfl, hw5⟩
        rw [HP.out]
        have hlw5 := HN.out
        rw [hw5] at hlw5
        obtain ⟨a2, rfl, r0, -, r2⟩ := doms_cells HDV.out hlw5.bel HYD.out
        rw [HAB.out] at r0
        obtain ⟨z1', -⟩ := hlw5.box HBX.out 1 _ rfl
        have H5 := Lib.hid hlw5
        clear a0 a1 z1 hlw5 hw5 HN HR
        go_wp2
        go_loopw [13, 14] (fun hb i wr => ∃ j : Nat, j ≤ nD ∧ i = .int .i64 j ∧ hb = .bool ((sts.take j).any (nbB (x : Int))) ∧ RowKit.Hid (Lw w3 wr gt g cg s.doms sts)) (fun _ i _ => nD - (intOf i).toNat)
        case atStart => exact ⟨0, Nat.zero_le _, rfl, rfl, H5⟩
        case round =>
          obtain ⟨j, hj, rfl, rfl, HQ⟩ := hrel
          clear H5 z1' r0 r2
          obtain ⟨z1, -⟩ := HQ.out.box HBX.out 1 _ rfl
          by_cases hjt : j < nD
          · have hj0 : (0 : Int) ≤ (j : Int) := by omega
            have hj1 : (j : Int) < (nD : Int) := by omega
            have hjs : j < sts.length := by rw [HSL.out]; exact hjt
            have hyj := List.getElem?_eq_getElem (l := sts) (i := j) hjs
            generalize sts[j] = yj at hyj
            have hyjd : s.doms[j]? = some yj.dom := HQ.out.inv.at_ hyj
            obtain ⟨a3, e3, q0, -, -⟩ := doms_cells HDV.out HQ.out.bel hyjd
            injection e3 with e3
            subst e3
            obtain ⟨pj, hpj⟩ : ∃ pj, yj.phase = pj := ⟨_, rfl⟩
            have hphj : phaseP sts (j : Int) = pj := (phaseP_at hyj).trans hpj
            obtain ⟨aj, haj⟩ : ∃ aj, yj.dom.above = aj := ⟨_, rfl⟩
            rw [haj] at q0
            have HYJ := Lib.hid hyj
            have HPHJ := Lib.hid hphj
            have hnb : ∀ r, nbB (x : Int) yj = r ↔ (decide (aj = (x : Int)) && !restsB pj) = r := fun r => by unfold nbB; rw [haj, hpj]
            have HNBX := Lib.hid hnb
            clear hyj hyjd hpj hphj haj hnb hjs
            obtain ⟨hb, hhb⟩ : ∃ hb, (sts.take j).any (nbB (x : Int)) = hb := ⟨_, rfl⟩
            rw [hhb]
            have HHB := Lib.hid hhb
            clear hhb
            cases hb with
            | true =>
              go_wp2
              go_roundw
              case rel => exact ⟨j + 1, hjt, by go_num, by rw [any_take_succ HYJ.out, HHB.out]; rfl, HQ⟩
              case measure => simp [intOf]; omega
            | false =>
              by_cases hax : aj = (x : Int)
              · have hax' : (aj == (x : Int)) = true := by simpa using hax
                obtain rfl | rfl | hr : pj = 48 ∨ pj = 116 ∨ restsB pj = false := by unfold restsB; simp; omega
                · have HNB := Lib.hid ((HNBX.out false).2 (by simp [restsB]))
                  clear hax HNBX
                  go_wp2_with fail
                  refine (HQ.out.phase _).mono ?_
                  rintro e w' ⟨rfl, rfl⟩
                  rw [HPHJ.out]
                  go_wp2
                  go_roundw
                  case rel => exact ⟨j + 1, hjt, by go_num, by rw [any_take_succ HYJ.out, HHB.out, HNB.out]; rfl, HQ⟩
                  case measure => simp [intOf]; omega
                · have HNB := Lib.hid ((HNBX.out false).2 (by simp [restsB]))
                  clear hax HNBX
                  go_wp2_with fail
                  refine (HQ.out.phase _).mono ?_
                  rintro e w' ⟨rfl, rfl⟩
                  rw [HPHJ.out]
                  go_wp2_with fail
                  refine (HQ.out.phase _).mono ?_
                  rintro e w' ⟨rfl, rfl⟩
                  rw [HPHJ.out]
                  go_wp2
                  go_roundw
                  case rel => exact ⟨j + 1, hjt, by go_num, by rw [any_take_succ HYJ.out, HHB.out, HNB.out]; rfl, HQ⟩
                  case measure => simp [intOf]; omega
                · have HNB := Lib.hid ((HNBX.out true).2 (by simp [hr, hax]))
                  have hr0 := GInv.ret0 hr
                  have e48 : (pj != 48) = true := by simpa using hr0.1
                  have e116 : (pj != 116) = true := by simpa using hr0.2
                  clear hax HNBX hr hr0
                  go_wp2_with fail
                  refine (HQ.out.phase _).mono ?_
                  rintro e w' ⟨rfl, rfl⟩
                  rw [HPHJ.out]
                  go_wp2_with fail
                  refine (HQ.out.phase _).mono ?_
                  rintro e w' ⟨rfl, rfl⟩
                  rw [HPHJ.out]
                  go_wp2
                  go_roundw
                  case rel => exact ⟨j + 1, hjt, by go_num, by rw [any_take_succ HYJ.out, HHB.out, HNB.out]; rfl, HQ⟩
                  case measure => simp [intOf]; omega
              · have hax' : (aj == (x : Int)) = false := by simpa using hax
                have HNB := Lib.hid ((HNBX.out false).2 (by simp [hax]))
                clear hax HNBX
                go_wp2
                go_roundw
                case rel => exact ⟨j + 1, hjt, by go_num, by rw [any_take_succ HYJ.out, HHB.out, HNB.out]; rfl, HQ⟩
                case measure => simp [intOf]; omega
          · obtain rfl : j = nD := by omega
            have hjl : ¬ ((j : Int) < (j : Int)) := by omega
            have hnd : (sts.take j).any (nbB (x : Int)) = needB sts (x : Int) := by rw [← HSL.out, List.take_length]; rfl
            rw [hnd]
            obtain ⟨nb, hnb⟩ : ∃ nb, needB sts (x : Int) = nb := ⟨_, rfl⟩
            rw [hnb]
            have HNB := Lib.hid hnb
            clear hnd hnb
            obtain ⟨ad', e', b0, -⟩ := acts_at HXS.out HB3.out HQ.out.bel (k := k) hlx
            injection e' with e'
            subst e'
            rw [HOP.out] at b0
            go_wp2_with fail
            refine (pick_any op 7 _ wop (by omega) (by omega)).mono ?_
            rintro e w' ⟨rfl, rfl⟩
            rw [HV.out]
            have hy49 : y.phase = p := (phaseP_at HY.out).symm.trans HP.out
            have hpx : ∀ sts', sts' = sts → phaseP sts' (x : Int) = p := fun _ e => by rw [e]; exact HP.out
            have HPX := Lib.hid hpx
            have hdesc := HQ.out.inv.desc HQ.out.ok x y HY.out
            rw [HAB.out] at hdesc
            have hupE : upE sts (x : Int) = if restsB p = true ∧ fedB sts ab = true then 0 else 6 := by rw [← hy49, ← HAB.out]; exact atP_at HY.out _ _
            have hdnE : ∀ kp, downE sts (x : Int) kp = if p = 49 then (if kp = true ∧ y.dom.ret = false then 1 else if nb = true then 7 else 0) else 6 := fun kp => by rw [← hy49, ← HNB.out]; exact atP_at HY.out _ _
            have HUP := Lib.hid hupE
            have HDN := Lib.hid hdnE
            clear hy49 hpx hupE hdnE
            obtain ⟨a2', e2, r0, -, r2⟩ := doms_cells HDV.out HQ.out.bel HYD.out
            injection e2 with e2
            subst e2
            rw [HAB.out] at r0
            clear HX HV wop wd b0 HXS
            go_upto_block 4 with (fail)
            go_cut [11, 16, 17] (fun s11 s16 s17 wx => ∃ (p' E : Int), s11 = .int .u8 p' ∧ s16 = .int .i64 E ∧ s17 = .int .i64 E ∧ RowKit.Hid (∃ sts', Lw w3 wx gt g cg s.doms sts' ∧ (E ≠ 0 → phaseP sts' (x : Int) = p')))
            case first =>
              by_cases hv2 : v < 2
              · -- Up
                have hE6 : ∀ E, upE sts (x : Int) = E → E ≠ 0 → upT sts (x : Int) = sts := fun E h1 h2 => by unfold upT; rw [h1, if_neg h2]
                have HE6 := Lib.hid hE6
                clear hE6
                obtain hr | hr : restsB p = true ∨ restsB p = false := by cases restsB p <;> simp
                · have h4 : (p != 48 && p != 116) = false := by unfold restsB at hr; simp at hr; rcases hr with h | h <;> simp [h]
                  obtain hf | hf : fedB sts ab = true ∨ fedB sts ab = false := by cases fedB sts ab <;> simp
                  · have hE : upE sts (x : Int) = 0 := by rw [HUP.out, if_pos ⟨hr, hf⟩]
                    have HE := Lib.hid hE
                    have hab := GInv.fed49 hf
                    have hp' : p = 48 ∨ p = 116 := by unfold restsB at hr; simpa using hr
                    have hrange : wfI ab := by unfold wfI; omega
                    clear hE hr hf h4
                    go_wp2_with fail
                    refine (HQ.out.up (x : Int)).mono ?_
                    rintro e w6 ⟨rfl, h6, -⟩
                    rw [HE.out]
                    have H6 := Lib.hid h6
                    clear h6
                    rcases hab with rfl | hab
                    · obtain rfl | rfl := hp'
                      all_goals
                        go_wp2_with fail
                        go_meet
                        exact ⟨_, 0, rfl, rfl, rfl, Lib.hid ⟨_, H6.out, fun h => absurd rfl h⟩⟩
                    · have hax : ab ≠ (x : Int) := by omega
                      have hlive : phaseP (upT sts (x : Int)) ab = 49 := by rw [up_others hax]; exact hab
                      have ha0 : (0 : Int) ≤ ab := by
                        obtain ⟨q, _, e, _⟩ := phaseP_ex (sts := sts) (i := ab) (by rw [hab]; decide)
                        omega
                      have HLV := Lib.hid hlive
                      clear hab hlive
                      obtain rfl | rfl := hp'
                      all_goals
                        go_wp2_with fail
                        refine (H6.out.phase _).mono ?_
                        rintro e w' ⟨rfl, rfl⟩
                        rw [HLV.out]
                        go_wp2_with fail
                        go_meet
                        exact ⟨_, 0, rfl, rfl, rfl, Lib.hid ⟨_, H6.out, fun h => absurd rfl h⟩⟩
                  · have hE : upE sts (x : Int) = 6 := by rw [HUP.out, if_neg (by simp [hf])]
                    have HE := Lib.hid hE
                    have hT := HE6.out 6 hE (by omega)
                    have hab : ab ≠ -1 ∧ phaseP sts ab ≠ 49 := by unfold fedB at hf; simpa using hf
                    have hp' : p = 48 ∨ p = 116 := by unfold restsB at hr; simpa using hr
                    obtain ⟨pa, hpa⟩ : ∃ pa, phaseP sts ab = pa := ⟨_, rfl⟩
                    have hpa49 : (pa != 49) = true := by have := hab.2; rw [hpa] at this; simpa using this
                    have ha0 : (0 : Int) ≤ ab := by omega
                    have HPA := Lib.hid hpa
                    clear hE hr hf h4 hab hpa
                    go_wp2_with fail
                    refine (HQ.out.up (x : Int)).mono ?_
                    rintro e w6 ⟨rfl, h6, -⟩
                    rw [HE.out]
                    rw [hT] at h6
                    have H6 := Lib.hid h6
                    clear h6 hT
                    obtain rfl | rfl := hp'
                    all_goals
                      go_wp2_with fail
                      refine (H6.out.phase _).mono ?_
                      rintro e w' ⟨rfl, rfl⟩
                      rw [HPA.out]
                      go_wp2_with fail
                      go_meet
                      exact ⟨_, 6, rfl, rfl, rfl, Lib.hid ⟨_, H6.out, fun _ => HPX.out _ rfl⟩⟩
                · have hE : upE sts (x : Int) = 6 := by rw [HUP.out, if_neg (by simp [hr])]
                  have HE := Lib.hid hE
                  have hT := HE6.out 6 hE (by omega)
                  have hr0 := GInv.ret0 hr
                  have e48 : (p != 48) = true := by simpa using hr0.1
                  have e116 : (p != 116) = true := by simpa using hr0.2
                  clear hE hr hr0
                  go_wp2_with fail
                  refine (HQ.out.up (x : Int)).mono ?_
                  rintro e w6 ⟨rfl, h6, -⟩
                  rw [HE.out]
                  rw [hT] at h6
                  have H6 := Lib.hid h6
                  clear h6 hT
                  go_wp2_with fail
                  go_meet
                  exact ⟨_, 6, rfl, rfl, rfl, Lib.hid ⟨_, H6.out, fun _ => HPX.out _ rfl⟩⟩
              · by_cases hv4 : v < 4
                · -- Down
                  have hE6 : ∀ E kp, downE sts (x : Int) kp = E → E ≠ 0 → downT sts (x : Int) kp = sts := fun E kp h1 h2 => by unfold downT; rw [h1, if_neg h2]
                  have HE6 := Lib.hid hE6
                  obtain ⟨kp, hkp⟩ : ∃ kp, (v == 3) = kp := ⟨_, rfl⟩
                  obtain ⟨rt, hrt⟩ : ∃ rt, y.dom.ret = rt := ⟨_, rfl⟩
                  rw [hrt] at r2
                  have hD := HDN.out kp
                  rw [hrt] at hD
                  obtain ⟨E, hE⟩ : ∃ E, downE sts (x : Int) kp = E := ⟨_, rfl⟩
                  rw [hE] at hD
                  have hfin : ∀ w6, Lw w3 w6 gt g cg s.doms (downT sts (x : Int) kp) → ∃ sts', Lw w3 w6 gt g cg s.doms sts' ∧ (E ≠ 0 → phaseP sts' (x : Int) = p) := fun w6 h6 => ⟨_, h6, fun h0 => by rw [HE6.out E kp hE h0]; exact HPX.out _ rfl⟩
                  have HFIN := Lib.hid hfin
                  have HE := Lib.hid hE
                  have HRT := Lib.hid hrt
                  clear hE6 hE hfin hrt
                  by_cases h49 : p = 49
                  · rw [if_pos h49] at hD
                    have h49' : (p != 49) = false := by simpa using h49
                    by_cases hkr : kp = true ∧ rt = false
                    · rw [if_pos hkr] at hD
                      obtain ⟨rfl, rfl⟩ := hkr
                      subst hD
                      clear h49
                      go_wp2_with fail
                      refine (HQ.out.down (x : Int) true).mono ?_
                      rintro e w6 ⟨rfl, h6, -⟩
                      rw [HE.out]
                      have H6 := Lib.hid h6
                      clear h6
                      obtain ⟨q1, -⟩ := H6.out.box HBX.out 1 _ rfl
                      obtain ⟨a4, e4, -, -, t2⟩ := doms_cells HDV.out H6.out.bel HYD.out
                      injection e4 with e4
                      subst e4
                      rw [HRT.out] at t2
                      clear r0 r2 z1
                      go_wp2_with fail
                      go_meet
                      exact ⟨_, 1, rfl, rfl, rfl, Lib.hid (HFIN.out _ H6.out)⟩
                    · rw [if_neg hkr] at hD
                      have hkr' := kr_cases hkr
                      clear hkr h49
                      cases nb with
                      | true =>
                        rw [if_pos rfl] at hD
                        subst hD
                        obtain rfl | ⟨rfl, rfl⟩ := hkr'
                        all_goals
                          go_wp2_with fail
                          refine (HQ.out.down (x : Int) _).mono ?_
                          rintro e w6 ⟨rfl, h6, -⟩
                          rw [HE.out]
                          have H6 := Lib.hid h6
                          clear h6
                          obtain ⟨q1, -⟩ := H6.out.box HBX.out 1 _ rfl
                          obtain ⟨a4, e4, -, -, t2⟩ := doms_cells HDV.out H6.out.bel HYD.out
                          injection e4 with e4
                          subst e4
                          rw [HRT.out] at t2
                          clear r0 r2 z1
                          go_wp2_with fail
                          go_meet
                          exact ⟨_, 7, rfl, rfl, rfl, Lib.hid (HFIN.out _ H6.out)⟩
                      | false =>
                        rw [if_neg (by simp)] at hD
                        subst hD
                        obtain rfl | ⟨rfl, rfl⟩ := hkr'
                        all_goals
                          go_wp2_with fail
                          refine (HQ.out.down (x : Int) _).mono ?_
                          rintro e w6 ⟨rfl, h6, -⟩
                          rw [HE.out]
                          have H6 := Lib.hid h6
                          clear h6
                          obtain ⟨q1, -⟩ := H6.out.box HBX.out 1 _ rfl
                          obtain ⟨a4, e4, -, -, t2⟩ := doms_cells HDV.out H6.out.bel HYD.out
                          injection e4 with e4
                          subst e4
                          rw [HRT.out] at t2
                          clear r0 r2 z1
                          go_wp2_with fail
                          go_meet
                          exact ⟨_, 0, rfl, rfl, rfl, Lib.hid (HFIN.out _ H6.out)⟩
                  · rw [if_neg h49] at hD
                    have h49' : (p != 49) = true := by simpa using h49
                    subst hD
                    clear h49
                    go_wp2_with fail
                    refine (HQ.out.down (x : Int) kp).mono ?_
                    rintro e w6 ⟨rfl, h6, -⟩
                    rw [HE.out]
                    have H6 := Lib.hid h6
                    clear h6
                    go_wp2_with fail
                    go_meet
                    exact ⟨_, 6, rfl, rfl, rfl, Lib.hid (HFIN.out _ H6.out)⟩
                · -- Tick
                  have e2 : ¬ (v < 2) := hv2
                  have e4 : ¬ (v < 4) := hv4
                  go_wp2_with fail
                  refine (HQ.out.tick).mono ?_
                  rintro e w6 ⟨v6, rfl, -, h6, -⟩
                  have H6 := Lib.hid h6
                  clear h6
                  go_wp2_with fail
                  refine (H6.out.phase _).mono ?_
                  rintro e w' ⟨rfl, rfl⟩
                  go_wp2_with fail
                  go_meet
                  exact ⟨_, 0, rfl, rfl, rfl, Lib.hid ⟨_, H6.out, fun h => absurd rfl h⟩⟩
            case rest =>
              obtain ⟨p', E, rfl, rfl, rfl, hHS⟩ := hcut
              obtain ⟨sts', h7, hE7⟩ := hHS.out
              have H7 := Lib.hid h7
              have HE7 := Lib.hid hE7
              clear h7 hE7 hHS
              by_cases h0 : E = 0
              · subst h0
                go_wp2
                go_roundw
                case rel => exact ⟨k + 1, sts', hlt, by go_num, H7⟩
                case measure => simp [intOf]; omega
              · have h0' : (E != 0) = true := by simpa using h0
                have HP7 := Lib.hid (HE7.out h0)
                clear h0
                go_wp2_with fail
                refine (H7.out.phase _).mono ?_
                rintro e w' ⟨rfl, rfl⟩
                rw [HP7.out]
                go_wp2
                go_roundw
                case rel => exact ⟨k + 1, sts', hlt, by go_num, H7⟩
                case measure => simp [intOf]; omega
      · have hke : k = nX := by omega
        subst hke
        have hkl : ¬ ((k : Int) < (k : Int)) := by omega
        go_wp2_with fail
        refine (HR.out.up (-1)).mono ?_
        rintro e w5 ⟨rfl, h5, -⟩
        have H5 := Lib.hid h5
        rw [show upE sts (-1) = 4 from atP_no (by unfold hasB; simp) _ _]
        obtain ⟨z1, -⟩ := h5.box HBX.out 1 _ rfl
        have hd : downE (upT sts (-1)) (nD : Int) true = 4 := atP_no (by
          have := h5.inv.len
          have := HND.out
          unfold hasB
          simp
          omega) _ _
        have HD := Lib.hid hd
        clear h5 hd
        go_wp2_with fail
        refine (H5.out.down (nD : Int) true).mono ?_
        rintro e w6 ⟨rfl, h6, -⟩
        have H6 := Lib.hid h6
        rw [HD.out]
        clear h6
        go_wp2
        go_ret
        exact ⟨rfl, HB3.out.trans (H6.out.bel.mono hz3)⟩

theorem errs_arg (A : Option Addr) (c : Nat) (l : List Int) (B : Option Addr) (d : Nat) (xs : List Acts) (w : World) (hm : l.length ≤ 9223372036854775807) (h : IntsAt w w.heap.size A l) (hwf : ∀ x, x ∈ l → wfI x) (hxl : xs.length ≤ maxLen) (hx : StrsAt ActV 2 w w.heap.size B xs) (hxw : ∀ x, x ∈ xs → ActW x) :
    Calls Try.prog 8 #[.slice A l.length c, .slice B xs.length d] w fun e w' => e = .returned (.bool true) ∧ Below w.heap.size w w' :=
  errs_any A c l B d xs w (by unfold maxLen; omega) hwf h hxl hxw hx

end Go.Proofs.Ytlhmcpkfmnmhfaa
