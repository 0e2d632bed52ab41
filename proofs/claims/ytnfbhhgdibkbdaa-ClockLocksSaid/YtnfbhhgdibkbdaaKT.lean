/- The walk of catnaplaw6.ClockLocks. -/
import Derived.Test.YtnfbhhgdibkbdaaKJ
import Derived.Test.YtnfbhhgdibkbdaaA
namespace Go.Proofs.Ytnfbhhgdibkbdaa
set_option linter.unusedSimpArgs false
set_option linter.unusedVariables false
open Go.RowKit Go.Maps

set_option maxRecDepth 1000000 in
set_option maxHeartbeats 16000000 in
theorem locks_any (A : Option Addr) (c : Nat) (l : List Int) (at_ : Int) (w : World) (hl : l.length ≤ maxLen) (hwf : ∀ x, x ∈ l → wfI x) (h : IntsAt w w.heap.size A l) (hat : wfI at_) :
    Calls Try.prog 5 #[.slice A l.length c, .int .i64 at_] w (TellsB true w) := by
  have HAT := Lib.hid hat
  clear hat
  have HL := Lib.hid hl
  have HWF := Lib.hid hwf
  have HI := Lib.hid h
  clear hl hwf h
  go_enter Try.func5, Try.ntmps5
  go_wp2_with fail
  refine (shown_any _).mono ?_
  rintro e w1 ⟨rfl, hb1⟩
  have HB1 := Lib.hid hb1
  have hz1 := hb1.size
  clear hb1
  go_wp2_with fail
  refine (chip_any A c l w1 HL.out HWF.out ((HI.out.below HB1.out (Nat.le_refl _)).more hz1)).mono ?_
  rintro e w2 ⟨v1, v2, v3, v4, rfl, hown, hb2⟩
  obtain ⟨A1, c1, A2, c2, A3, c3, A4, c4, hvs, l1, l2, l3, l4, h1, h2, h3, h4⟩ := hown.chip
  have hpl := plain_of l
  generalize chipP l = s at *
  obtain ⟨rfl, rfl, rfl, rfl⟩ : v1 = .slice A1 s.clks.length c1 ∧ v2 = .slice A2 s.doms.length c2 ∧ v3 = .slice A3 s.rsts.length c3 ∧ v4 = .slice A4 s.devs.length c4 := by simpa using hvs
  have hcv : ChipV w2 w2.heap.size s [.slice A1 s.clks.length c1, .slice A2 s.doms.length c2, .slice A3 s.rsts.length c3, .slice A4 s.devs.length c4] := ⟨A1, c1, A2, c2, A3, c3, A4, c4, rfl, l1, l2, l3, l4, h1, h2, h3, h4⟩
  have HPL := Lib.hid hpl
  have hz2 := hb2.size
  have hba := ((Below.refl w2.heap.size w2).alloc (Nat.le_refl _) (.cells #[.slice A1 s.clks.length c1, .slice A2 s.doms.length c2, .slice A3 s.rsts.length c3, .slice A4 s.devs.length c4] 27))
  have hbx := BoxAt.new w2 [.slice A1 s.clks.length c1, .slice A2 s.doms.length c2, .slice A3 s.rsts.length c3, .slice A4 s.devs.length c4] 27
  have hcv3 := Steady.later hcv hba
  have HCV3 := Lib.hid hcv3
  have hdv := (h1.below hba (Nat.le_refl _)).more hba.size
  have HDV := Lib.hid hdv
  have HBX := Lib.hid hbx
  have HB3 := Lib.hid (HB1.out.trans ((hb2.mono hz1).trans (hba.mono (by omega))))
  obtain ⟨nC, hnC⟩ : ∃ n, n = s.clks.length := ⟨_, rfl⟩
  have hnb := hpl.nc
  rw [← hnC] at hnb
  have HNC := Lib.hid hnC
  clear hb2 hcv hpl hown hvs h1 h2 h3 h4 HI HWF HL l1 l2 l3 l4 hba hbx hcv3 hdv hnC
  go_wp2_with fail
  refine (new_tw s _ _ _ HPL.out.ok HCV3.out HPL.out.right (FitT.start HPL.out) (by rw [← HNC.out]; omega) (Below.refl _ _)).mono ?_
  rintro e w4 ⟨gt, rfl, htw, hb4⟩
  obtain ⟨w3, hw3⟩ : ∃ w3, w3 = (w2.alloc (.cells #[.slice A1 s.clks.length c1, .slice A2 s.doms.length c2, .slice A3 s.rsts.length c3, .slice A4 s.devs.length c4] 27)) := ⟨_, rfl⟩
  obtain ⟨b, hbb⟩ : ∃ b, b = w2.heap.size := ⟨_, rfl⟩
  have hbx := HBX.out
  have hdv := HDV.out
  have hb3 := HB3.out
  rw [← hw3] at htw hb4 hbx hdv hb3
  rw [← hbb] at hbx ⊢
  rw [← HNC.out] at hbx ⊢
  have HTW := Lib.hid htw
  clear HBX HDV HB3 HCV3 htw hb4 hw3 hz1 hz2 HB1 hbb w2 w1
  have HBX := Lib.hid hbx
  have HDV := Lib.hid hdv
  have HB3 := Lib.hid hb3
  have hx4 := hbx.move (Moved.of_below (hot := []) HTW.out.bel) (by simp)
  have x0 := (hx4 0 _ rfl).1
  have y0 := (hx4 0 _ rfl).2
  have hz4 := HTW.out.bel.size
  have hzb : b < w3.heap.size := hbx.lt
  have hz3 := hb3.size
  clear hbx hdv hb3 hx4
  go_wp2_with fail
  refine (pick_any at_ nC _ HAT.out (by omega) (by omega)).mono ?_
  rintro e w' ⟨rfl, rfl⟩
  obtain ⟨ki, hki⟩ : ∃ k : Nat, pickP at_ nC = (k : Int) := ⟨(pickP at_ nC).toNat, by have := pickP_lo (c := at_) (n := nC) (by omega); omega⟩
  have hkn : ki < nC := by have := pickP_hi (c := at_) (n := nC) (by omega); omega
  rw [hki]
  clear hki HAT
  obtain ⟨st0, hst⟩ : ∃ st, st = s.clks.map freshS := ⟨_, rfl⟩
  have hc0 : clksT st0 = s.clks := by rw [hst]; exact fresh_clk _
  have hlen : st0.length = nC := by rw [hst, List.length_map]; exact HNC.out.symm
  have htw := HTW.out
  rw [← hst] at htw
  have hck := chain_okI htw.fit.inv.right (k := ki) (by omega)
  have hchp : chI st0 (ki : Int) = chP st0 ki := by unfold chI hasB; simp [hlen, hkn]
  have hlk : LockIn (onAll st0 (chP st0 ki) (chP st0 ki).length) ki := by rw [hst]; exact onAll_lock (by rw [← HNC.out]; exact hkn)
  have hsm : sumL st0 (chP st0 ki) = restP st0 ki := sumL_rest htw.fit.inv (fun n x hx h1 => by
    rw [hst, List.getElem?_map] at hx
    cases hc : s.clks[n]? with
    | none => rw [hc] at hx; cases hx
    | some d =>
      rw [hc] at hx
      obtain rfl : freshS d = x := Option.some.inj hx
      have h1 : d.kind = 111 := h1
      show lockL d = 0
      unfold lockL
      exact if_neg (by omega)) ki (by omega)
  rw [hchp] at hck
  have HST := Lib.hid htw
  have HC0 := Lib.hid hc0
  have HCK := Lib.hid hck
  have HCHP := Lib.hid hchp
  have HLK := Lib.hid hlk
  have HSM := Lib.hid hsm
  have HLEN := Lib.hid hlen
  clear htw hc0 hck hchp hlk hsm hlen hst HTW
  go_wp2_with fail
  refine (HST.out.chainC _).mono ?_
  rw [HCHP.out]
  rintro e w5 ⟨Ac, cc, rfl, htw5⟩
  obtain ⟨ch, hch⟩ : ∃ ch, ch = chP st0 ki := ⟨_, rfl⟩
  have hck := HCK.out
  have hlk := HLK.out
  have hsm := HSM.out
  rw [← hch] at htw5 hck hlk hsm ⊢
  have hchl : ch.length ≤ 9 := by rw [hch]; have := chP_len st0 ki; omega
  have hch0 := hck.ne
  have HCH := Lib.hid hch
  have HCK := Lib.hid hck
  have HLK := Lib.hid hlk
  have HSM := Lib.hid hsm
  have hin := HST.out.fit.inv
  have HIN := Lib.hid hin
  have HT5 := Lib.hid htw5
  clear hch hck hlk hsm htw5 HCHP HST hin
  go_wp2
  go_loopw [11, 12] (fun sm ji wr => ∃ j : Nat, j ≤ ch.length ∧ sm = .int .i64 (sumL st0 (ch.take j)) ∧ ji = .int .i64 j ∧ RowKit.Hid (TwC w3 wr gt (onAll st0 ch j) Ac ch)) (fun _ ji _ => ch.length - (intOf ji).toNat)
  case atStart => exact ⟨0, Nat.zero_le _, by simp [sumL], rfl, Lib.hid (by rw [onAll_zero]; exact HT5.out)⟩
  case round =>
    obtain ⟨j, hj, rfl, rfl, HR⟩ := hrel
    clear HT5
    by_cases hjt : j < ch.length
    · have hcj := List.getElem?_eq_getElem hjt
      obtain ⟨y, hy⟩ : ∃ y, ch[j] = y := ⟨_, rfl⟩
      rw [hy] at hcj
      obtain ⟨n, rfl, hn⟩ := HCK.out.mem y (List.mem_of_getElem? hcj)
      obtain ⟨ad, e1, c0⟩ := HR.out.at_ hcj
      have hlike := onAll_like st0 ch j
      obtain ⟨x, hx⟩ : ∃ x, (onAll st0 ch j)[n]? = some x := ⟨_, List.getElem?_eq_getElem (by rw [hlike.len, HLEN.out]; omega)⟩
      have hfe := findE_at' hx
      have hcl := clksT_at ((onAll_clk st0 ch j).trans HC0.out) hx
      have hsu := onAll_succ st0 hcj
      have hs1 : sumL st0 (ch.take (j + 1)) = sumL st0 (ch.take j) + leftP st0 (n : Int) := by rw [List.take_add_one, hcj]; exact sumL_snoc _ _ _
      obtain ⟨sg, hsg⟩ : ∃ sg, sumL st0 (ch.take j) = sg := ⟨_, rfl⟩
      have hsb := sumL_in HIN.out (ch.take j)
      have htl : (ch.take j).length = j := by rw [List.length_take]; omega
      rw [htl] at hsb
      rw [hsg] at hs1 hsb ⊢
      have hlp := leftP_in HIN.out (n : Int)
      have hll := ((onAll_like st0 ch (j + 1)).lefts (n : Int))
      obtain ⟨lf, hlf⟩ : ∃ lf, leftP st0 (n : Int) = lf := ⟨_, rfl⟩
      rw [hlf] at hs1 hlp hll
      have hwn : wfI (n : Int) := by unfold wfI; omega
      obtain ⟨kd, hkd⟩ : ∃ kd, x.clk.kind = kd := ⟨_, rfl⟩
      rw [hkd] at hfe
      obtain ⟨E, hE⟩ : ∃ E : Int, (if kd = 112 ∨ kd = 103 then 0 else 1) = E := ⟨_, rfl⟩
      rw [hE] at hfe
      have HE := Lib.hid hE
      clear hE
      have HY := Lib.hid hy
      have HFE := Lib.hid hfe
      have HCL := Lib.hid hcl
      have HSU := Lib.hid hsu
      have HS1 := Lib.hid hs1
      have HLL := Lib.hid hll
      have HKD := Lib.hid hkd
      have HWN := Lib.hid hwn
      have hj0 : (0 : Int) ≤ (j : Int) := by omega
      have hj1 : (j : Int) < (ch.length : Int) := by omega
      have hn0 : (0 : Int) ≤ (n : Int) := by omega
      have hn1 : (n : Int) < (nC : Int) := by omega
      subst e1
      clear hfe hcl hsu hs1 hll hkd hx hlike hcj hy hsg hlf htl
      go_wp2_with fail
      refine (HR.out.on HWN.out).mono ?_
      rintro e w6 ⟨rfl, h6⟩
      rw [← HSU.out] at h6
      rw [HFE.out]
      have H6 := Lib.hid h6
      have hcj := List.getElem?_eq_getElem hjt
      rw [HY.out] at hcj
      obtain ⟨ad', e1, c1'⟩ := h6.at_ hcj
      obtain rfl : ad = ad' := Option.some.inj e1
      have z0 := ((HBX.out.move (Moved.of_below (hot := []) h6.tw.bel) (by simp)) 0 _ rfl).1
      obtain ⟨a2, F2, d2, e2, r0, -⟩ := clks_at' HDV.out h6.tw.bel HCL.out
      rw [HKD.out] at r0
      have hbl : b < w6.heap.size := Nat.lt_of_lt_of_le hzb h6.tw.bel.size
      subst e2
      clear h6 hcj e1 c0 HR
      go_wp2
      go_quiet (fail)
      have HN := Lib.hid (H6.out.drewN nq)
      have hcj := List.getElem?_eq_getElem hjt
      rw [HY.out] at hcj
      obtain ⟨ad', e1, c2'⟩ := HN.out.at_ hcj
      obtain rfl : ad = ad' := Option.some.inj e1
      clear hcj e1 c1' z0 r0 H6
      by_cases k1 : kd = 112
      · have e := HE.out
        rw [if_pos (Or.inl k1)] at e
        subst k1
        subst e
        go_wp2_with fail
        refine (HN.out.tw.left _).mono ?_
        rintro e w7 ⟨rfl, rfl⟩
        rw [HLL.out]
        go_wp2_with fail
        go_roundw
        case rel => exact ⟨j + 1, hjt, by rw [HS1.out], by go_num, HN⟩
        case measure => simp [intOf]; omega
      by_cases k2 : kd = 103
      · have e := HE.out
        rw [if_pos (Or.inr k2)] at e
        subst k2
        subst e
        go_wp2_with fail
        refine (HN.out.tw.left _).mono ?_
        rintro e w7 ⟨rfl, rfl⟩
        rw [HLL.out]
        go_wp2_with fail
        go_roundw
        case rel => exact ⟨j + 1, hjt, by rw [HS1.out], by go_num, HN⟩
        case measure => simp [intOf]; omega
      · have e := HE.out
        rw [if_neg (by omega)] at e
        subst e
        have b1 : (kd == 112) = false := by simpa using k1
        have b2 : (kd == 103) = false := by simpa using k2
        go_wp2_with fail
        refine (HN.out.tw.left _).mono ?_
        rintro e w7 ⟨rfl, rfl⟩
        rw [HLL.out]
        go_wp2_with fail
        go_roundw
        case rel => exact ⟨j + 1, hjt, by rw [HS1.out], by go_num, HN⟩
        case measure => simp [intOf]; omega
    · obtain rfl : j = ch.length := by omega
      have hall : ch.take ch.length = ch := List.take_length
      have hjl : ¬ ((ch.length : Int) < (ch.length : Int)) := by omega
      have hl2 : Lks (onAll st0 ch ch.length) ki (sumL st0 ch) := ⟨HLK.out, by rw [HSM.out]; exact (onAll_like st0 ch ch.length).rest _ _, by rw [(onAll_like st0 ch ch.length).len, HLEN.out]; omega⟩
      have hsb := sumL_in HIN.out ch
      rw [hall]
      obtain ⟨R, hR⟩ : ∃ R : Nat, sumL st0 ch = (R : Int) := ⟨(sumL st0 ch).toNat, by omega⟩
      rw [hR] at hl2 hsb ⊢
      have HL2 := Lib.hid hl2
      have HT2 := Lib.hid HR.out.tw
      clear hl2 hR hall HR HLK HSM HIN hjt hj
      go_wp2
      go_loopw [15] (fun i wr => ∃ m : Nat, m ≤ R ∧ i = .int .i64 m ∧ RowKit.Hid (∃ sts, Tw w3 wr gt sts ∧ Lks sts ki ((R - m : Nat) : Int))) (fun i _ => R - (intOf i).toNat)
      case atStart => exact ⟨0, Nat.zero_le _, rfl, Lib.hid ⟨_, HT2.out, HL2.out⟩⟩
      case round =>
        obtain ⟨m, hm, rfl, HB⟩ := hrel
        obtain ⟨sts, ht, hk⟩ := HB.out
        clear HT2 HL2 HB
        have hrun := hk.run ht.fit.inv
        have HT := Lib.hid ht
        have HK := Lib.hid hk
        clear ht hk
        by_cases hmt : m < R
        · rw [decide_eq_false (by omega)] at hrun
          have HRN := Lib.hid hrun
          have hm1 : (m : Int) < (R : Int) := by omega
          clear hrun
          go_wp2_with fail
          refine (HT.out.running _).mono ?_
          rintro e w7 ⟨rfl, h7, -⟩
          rw [HRN.out]
          have H7 := Lib.hid h7
          clear h7
          go_wp2_with fail
          refine (H7.out.tick).mono ?_
          rintro e w8 ⟨rfl, h8⟩
          have H8 := Lib.hid h8
          have hk8 := HK.out.tick HT.out.fit (by omega)
          rw [show ((R - m : Nat) : Int) - 1 = ((R - (m + 1) : Nat) : Int) by omega] at hk8
          have HK8 := Lib.hid hk8
          clear h8 hk8
          go_wp2
          go_roundw
          case rel => exact ⟨m + 1, hmt, by go_num, Lib.hid ⟨_, H8.out, HK8.out⟩⟩
          case measure => simp [intOf]; omega
        · obtain rfl : m = R := by omega
          rw [decide_eq_true (by omega)] at hrun
          have HRN := Lib.hid hrun
          have hml : ¬ ((m : Int) < (m : Int)) := by omega
          clear hrun
          go_wp2_with fail
          refine (HT.out.running _).mono ?_
          rintro e w7 ⟨rfl, h7, -⟩
          rw [HRN.out]
          have HF := Lib.hid (HB3.out.trans (h7.bel.mono hz3))
          clear h7
          go_wp2
          go_ret
          exact ⟨rfl, HF.out⟩
theorem locks_arg (A : Option Addr) (c : Nat) (l : List Int) (a : Int) (w : World) (hm : l.length ≤ 9223372036854775807) (h : IntsAt w w.heap.size A l) (hwf : ∀ x, x ∈ l → wfI x) (ha : wfI a) :
    Calls Try.prog 5 #[.slice A l.length c, .int .i64 a] w fun e w' => e = .returned (.bool true) ∧ Below w.heap.size w w' :=
  locks_any A c l a w (by unfold maxLen; omega) hwf h ha

end Go.Proofs.Ytnfbhhgdibkbdaa
