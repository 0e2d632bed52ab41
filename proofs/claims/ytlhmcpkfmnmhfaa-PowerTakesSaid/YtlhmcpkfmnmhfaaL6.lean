/- The walk of catnaplaw7.PowerTakes. -/
import Derived.Test.YtlhmcpkfmnmhfaaZR
namespace Go.Proofs.Ytlhmcpkfmnmhfaa
set_option linter.unusedSimpArgs false
set_option linter.unusedVariables false
open Go.RowKit Go.Maps

theorem Lw.chainC {w3 wr : World} {gt g c : Nat} {doms : List Dom} {sts : List Pst} (h : Lw w3 wr gt g c doms sts) (k : Nat) (hk : k < sts.length) : Calls Try.prog 17 #[.pointer (some ⟨gt, 0, none⟩), .int .i64 (k : Int)] wr (fun e w' => ∃ (go dc : Nat) (C : List Nat), e = .returned (.slice (some ⟨go, 0, none⟩) C.length dc) ∧ ChainL doms C k ∧ TkW w3 w' gt g c doms go C sts) := by
  have hl := h.len
  refine (chain_any gt g c sts (k : Int) wr (by omega) (by unfold wfI; omega) h.grid h.desc).mono ?_
  rintro e w' ⟨A, d, rfl, ho, hb⟩
  obtain ⟨C, hC, hc⟩ := chain_list h.inv h.ok k hk
  rw [hC] at ho ⊢
  have hcl : (ci C).length = C.length := by unfold ci; simp
  rw [hcl] at ho ⊢
  obtain ⟨go, co, e1, hgo, _⟩ := World.ownsRow.form ho hc.pos
  injection e1 with e1 _ e3
  subst e1 e3
  have hg := h.grid.lt
  refine ⟨go, d, C, rfl, hc, h.calm (Moved.of_below hb), ints_own ho [g] fun b hb => ?_⟩
  have hb' : go = b := by injection hb
  simp
  omega
theorem TkW.risen {w3 wr : World} {gt g c go : Nat} {doms : List Dom} {C : List Nat} {sts : List Pst} {d : Nat} {dm : Dom} {kp : Bool} (h : TkW w3 wr gt g c doms go C (sts.set d ⟨dm, 114, dm.delay, kp⟩)) (K : Int) (hK : passK ⟨dm, 114, 0, kp⟩ = K) (hd : d < sts.length) (hs : StillBut sts d) (hdl : 0 ≤ dm.delay ∧ dm.delay ≤ 20) :
    Calls Try.prog 18 #[.pointer (some ⟨gt, 0, none⟩), .int .i64 (d : Int), .int .i64 dm.delay, .int .u8 K] wr (fun e w' => e = .returned (.bool true) ∧ TkW w3 w' gt g c doms go C (sts.set d ⟨dm, 49, 0, kp⟩)) := by
  obtain ⟨dl, hdl'⟩ : ∃ dl : Nat, dm.delay = (dl : Int) := ⟨dm.delay.toNat, by omega⟩
  have hl := h.lw
  rw [hdl'] at hl ⊢
  exact (risen_any w3 wr gt g c doms sts d dl dm kp K hK hd hs (by omega) hl).mono fun e w' ⟨he, h1, hm⟩ => ⟨he, h1, h.row.move hm⟩
theorem TkW.tick {w3 wr : World} {gt g c go : Nat} {doms : List Dom} {C : List Nat} {sts : List Pst} {d : Nat} {y : Pst} (h : TkW w3 wr gt g c doms go C (sts.set d y)) (hd : d < sts.length) (hs : StillBut sts d) (hk : passK y ≠ 0) : Calls Try.prog 15 #[.pointer (some ⟨gt, 0, none⟩)] wr (fun e w' => ∃ v, e = .returned v ∧ EvRow w' wr.heap.size v [⟨passK y, (d : Int)⟩] ∧ TkW w3 w' gt g c doms go C (sts.set d (passT y))) :=
  (h.lw.tickL (by rw [(hs.set y).tickT (List.getElem?_set_self hd), List.set_set]) (by rw [(hs.set y).tickE (List.getElem?_set_self hd), if_neg hk])).mono fun e w' ⟨v, he, hv, hl, hm⟩ => ⟨v, he, hv, hl, h.row.move hm⟩

set_option maxRecDepth 1000000 in
set_option maxHeartbeats 8000000 in
theorem takes_any (A : Option Addr) (c : Nat) (l : List Int) (xa : Int) (kp : Bool) (w : World) (hl : l.length ≤ maxLen) (hwf : ∀ x, x ∈ l → wfI x) (h : IntsAt w w.heap.size A l) (ha : wfI xa) :
    Calls Try.prog 4 #[.slice A l.length c, .int .i64 xa, .bool kp] w (TellsB true w) := by
  have HL := Lib.hid hl
  have HWF := Lib.hid hwf
  have HI := Lib.hid h
  clear hl hwf h
  go_enter Try.func4, Try.ntmps4
  go_wp2_with fail
  refine (shown_any _).mono ?_
  rintro e w1 ⟨rfl, hb1⟩
  have HB1 := Lib.hid hb1
  have hz1 := hb1.size
  clear hb1
  go_wp2_with fail
  refine (chip_any A c l w1 HL.out HWF.out ((HI.out.below HB1.out (Nat.le_refl _)).more hz1)).mono ?_
  rintro e w2 ⟨v1, v2, v3, v4, rfl, hown, hb2⟩
  obtain ⟨A1, c1, A2, c2, A3, c3, A4, c4, hvs, l1, l2, l3, l4, h1, h2, h3, h4⟩ := hown.chip
  have hpl := plain_of l
  generalize chipP l = s at *
  obtain ⟨rfl, rfl, rfl, rfl⟩ : v1 = .slice A1 s.clks.length c1 ∧ v2 = .slice A2 s.doms.length c2 ∧ v3 = .slice A3 s.rsts.length c3 ∧ v4 = .slice A4 s.devs.length c4 := by simpa using hvs
  have hcv : ChipV w2 w2.heap.size s [.slice A1 s.clks.length c1, .slice A2 s.doms.length c2, .slice A3 s.rsts.length c3, .slice A4 s.devs.length c4] := ⟨A1, c1, A2, c2, A3, c3, A4, c4, rfl, l1, l2, l3, l4, h1, h2, h3, h4⟩
  have HPL := Lib.hid hpl
  have hz2 := hb2.size
  have hba := ((Below.refl w2.heap.size w2).alloc (Nat.le_refl _) (.cells #[.slice A1 s.clks.length c1, .slice A2 s.doms.length c2, .slice A3 s.rsts.length c3, .slice A4 s.devs.length c4] 30))
  have hbx := BoxAt.new w2 [.slice A1 s.clks.length c1, .slice A2 s.doms.length c2, .slice A3 s.rsts.length c3, .slice A4 s.devs.length c4] 30
  have hcv3 := Steady.later hcv hba
  have HCV3 := Lib.hid hcv3
  have hdv := (h2.below hba (Nat.le_refl _)).more hba.size
  have HDV := Lib.hid hdv
  have HBX := Lib.hid hbx
  have HB3 := Lib.hid (HB1.out.trans ((hb2.mono hz1).trans (hba.mono (by omega))))
  obtain ⟨nD, hnD⟩ : ∃ n, n = s.doms.length := ⟨_, rfl⟩
  have hnb := hpl.nd
  rw [← hnD] at hnb
  have HND := Lib.hid hnD
  clear hb2 hcv hpl hown hvs h1 h2 h3 h4 HI HWF HL l1 l2 l3 l4 hba hbx hcv3 hdv hnD
  go_wp2_with fail
  refine (new_ok s _ _ HPL.out.ok HCV3.out HPL.out.right (by rw [← HND.out]; omega)).mono ?_
  rintro e w4 ⟨gt, g, cg, rfl, hgt, hg, hgr, hb4⟩
  obtain ⟨w3, hw3⟩ : ∃ w3, w3 = (w2.alloc (.cells #[.slice A1 s.clks.length c1, .slice A2 s.doms.length c2, .slice A3 s.rsts.length c3, .slice A4 s.devs.length c4] 30)) := ⟨_, rfl⟩
  obtain ⟨b, hbb⟩ : ∃ b, b = w2.heap.size := ⟨_, rfl⟩
  have hbx := HBX.out
  have hdv := HDV.out
  have hb3 := HB3.out
  rw [← hw3] at hgt hg hb4 hbx hdv hb3
  rw [← hbb] at hbx ⊢
  rw [← HND.out] at hbx
  have HLW := Lib.hid (Lw.start HPL.out hgr hgt hg hb4)
  clear HBX HDV HB3 HCV3 hgr hb4 hw3 hz1 hz2 HB1 hbb w2 w1
  have HBX := Lib.hid hbx
  have HDV := Lib.hid hdv
  have HB3 := Lib.hid hb3
  have hx4 := HLW.out.box hbx
  obtain ⟨x1, -⟩ := hx4 1 _ rfl
  have hz4 := HLW.out.size
  have hzb : b < w3.heap.size := hbx.lt
  have hz3 := hb3.size
  clear hbx hdv hb3 hx4
  go_wp2_with fail
  refine (pick_any xa nD w4 ha (by omega) (by omega)).mono ?_
  rintro e w' ⟨rfl, rfl⟩
  have hp0 := pickP_lo (c := xa) (n := (nD : Int)) (by omega)
  have hp1 := pickP_hi (c := xa) (n := (nD : Int)) (by omega)
  obtain ⟨d, hd⟩ : ∃ d : Nat, pickP xa (nD : Int) = (d : Int) := ⟨(pickP xa (nD : Int)).toNat, by omega⟩
  rw [hd] at hp0 hp1 ⊢
  have hdn : d < nD := by omega
  have hsl : (s.doms.map newP).length = nD := by rw [List.length_map, HND.out]
  clear ha hd
  go_wp2_with fail
  refine (HLW.out.chainC d (by rw [hsl]; exact hdn)).mono ?_
  rintro e w5 ⟨go, dc, C, rfl, hch, htk⟩
  obtain ⟨L, hL⟩ : ∃ L, C.length = L := ⟨_, rfl⟩
  rw [hL]
  have hL4 : L ≤ 4 := by
    have hge : ∀ (i u : Nat), C[i]? = some u → i ≤ u := by
      intro i
      induction i with
      | zero => intro u _; omega
      | succ i ih =>
        intro u hu
        have hi := get_lt' hu
        have h1 := List.getElem?_eq_getElem (l := C) (i := i) (by omega)
        have h2 := ih _ h1
        have h3 := hch.inc i (i + 1) _ u (by omega) h1 hu
        omega
    have := hge _ d hch.last
    omega
  have hLp : 0 < L := by rw [← hL]; exact hch.pos
  have HCH := Lib.hid hch
  have HLE := Lib.hid hL
  have HTK := Lib.hid htk
  have HST := Lib.hid (TkS.start s.doms)
  clear hch hL htk hsl HLW hz4 x1 w4
  go_wp2
  go_loopw [13] (fun i wr => ∃ (j : Nat) (sts : List Pst), j ≤ L ∧ i = .int .i64 j ∧ RowKit.Hid (TkW w3 wr gt g cg s.doms go C sts) ∧ RowKit.Hid (TkS sts (C.take j))) (fun i _ => L - (intOf i).toNat)
  case atStart => exact ⟨0, _, Nat.zero_le _, rfl, HTK, Lib.hid (by rw [List.take_zero]; exact HST.out)⟩
  case round =>
    obtain ⟨j, sts, hj, rfl, HR, HS⟩ := hrel
    clear HTK HST
    by_cases hjt : j < L
    · have hu := List.getElem?_eq_getElem (l := C) (i := j) (by rw [HLE.out]; exact hjt)
      have hul := HCH.out.lt _ (List.mem_of_getElem? hu)
      obtain ⟨u, hue⟩ : ∃ u, C[j]'(by rw [HLE.out]; exact hjt) = u := ⟨_, rfl⟩
      rw [hue] at hu hul
      have hdm := List.getElem?_eq_getElem hul
      obtain ⟨dm, hdme⟩ : ∃ dm, s.doms[u] = dm := ⟨_, rfl⟩
      rw [hdme] at hdm
      have husl : u < sts.length := by rw [HR.out.lw.inv.len]; exact hul
      have hdl := HR.out.lw.ok.delay u dm hdm
      have hup := HS.out.up HR.out.lw.inv HCH.out hu hdm
      have hE6 : upE (sts.set u ⟨dm, 114, dm.delay, false⟩) (u : Int) = 6 := up_again husl
      have hag := And.intro hE6 (upT_no hE6 (by omega))
      have hrs : ∀ w, TkW w3 w gt g cg s.doms go C (sts.set u ⟨dm, 114, dm.delay, false⟩) → Calls Try.prog 18 #[.pointer (some ⟨gt, 0, none⟩), .int .i64 (u : Int), .int .i64 dm.delay, .int .u8 110] w (fun e w' => e = .returned (.bool true) ∧ TkW w3 w' gt g cg s.doms go C (sts.set u (liveP dm))) := fun w h => h.risen 110 rfl husl (HS.out.still u) hdl
      have hund : u < nD := by rw [HND.out]; exact hul
      have hlv : TkS (sts.set u (liveP dm)) (C.take (j + 1)) := HS.out.live HCH.out hu
      have hj0 : (0 : Int) ≤ (j : Int) := by omega
      have hj1 : (j : Int) < (L : Int) := by omega
      have HU := Lib.hid hu
      have HDM := Lib.hid hdm
      have HUP := Lib.hid hup
      have HAG := Lib.hid hag
      have HRS := Lib.hid hrs
      have HLV := Lib.hid hlv
      have hnx : ∀ v, C[j + 1]? = some v → upE sts (v : Int) = 6 ∧ upT sts (v : Int) = sts := fun v hv => by
        have := HS.out.next HR.out.lw.inv HCH.out HU.out hv
        exact ⟨this, upT_no this (by omega)⟩
      have HNX := Lib.hid hnx
      have hA2 : ∃ a2, A2 = some a2 := by
        obtain ⟨a2, e, -⟩ := doms_cells HDV.out HR.out.lw.bel HDM.out
        exact ⟨a2, e⟩
      obtain ⟨a2, rfl⟩ := hA2
      clear hu hul hue hdm hdme husl hdl hup hE6 hag hrs hlv hnx
      go_upto_region 11 with (fail)
      by_cases hj2 : j + 1 < L
      · have hv := List.getElem?_eq_getElem (l := C) (i := j + 1) (by rw [HLE.out]; exact hj2)
        have HV := Lib.hid hv
        clear hv
        refine reg11_a w3 wr gt g cg b go L dc j nD c2 u a2 s.doms dm C sts _ _ _ _ HBX.out HDV.out hL4 hjt hund hnb.2 HU.out HDM.out hj2 _ HV.out (HNX.out _ HV.out) HUP.out HAG.out HRS.out HR.out ?_
        intros
        rename_i h6
        have H6 := Lib.hid h6
        clear h6
        go_wp2
        go_roundw
        case rel => exact ⟨j + 1, _, hjt, by go_num, H6, HLV⟩
        case measure => simp [intOf]; omega
      · refine reg11_b w3 wr gt g cg b go L dc j nD c2 u a2 s.doms dm C sts _ _ _ _ HBX.out HDV.out hL4 hjt hund hnb.2 HU.out HDM.out hj2 HUP.out HAG.out HRS.out HR.out ?_
        intros
        rename_i h6
        have H6 := Lib.hid h6
        clear h6
        go_wp2
        go_roundw
        case rel => exact ⟨j + 1, _, hjt, by go_num, H6, HLV⟩
        case measure => simp [intOf]; omega
    · obtain rfl : j = L := by omega
      have hjl : ¬ ((j : Int) < (j : Int)) := by omega
      have hst := HS.out
      rw [show C.take j = C by rw [← HLE.out, List.take_length]] at hst
      have hds : d < s.doms.length := by rw [← HND.out]; exact hdn
      have hdm := List.getElem?_eq_getElem hds
      generalize s.doms[d] = dm at hdm
      have hdsl : d < sts.length := by rw [HR.out.lw.inv.len]; exact hds
      have hdl := HR.out.lw.ok.delay d dm hdm
      have hdw := hst.down HR.out.lw.inv HR.out.lw.ok HCH.out hdm kp
      have HST := Lib.hid hst
      have HDM := Lib.hid hdm
      have HDW := Lib.hid hdw
      have HINV := Lib.hid HR.out.lw.inv
      obtain ⟨rt, hrt⟩ : ∃ rt, dm.ret = rt := ⟨_, rfl⟩
      have HRT := Lib.hid hrt
      clear hst hdm hdw hds hrt hj hjt
      by_cases hbad : kp = true ∧ rt = false
      · obtain ⟨rfl, rfl⟩ := hbad
        have hE1 : downE sts (d : Int) true = 1 := by rw [HDW.out.1, HRT.out]; rfl
        have hT1 : downT sts (d : Int) true = sts := by unfold downT; rw [hE1, if_neg (by omega)]
        have HE1 := Lib.hid hE1
        have HT1 := Lib.hid hT1
        clear hE1 hT1
        go_wp2_with fail
        refine (HR.out.down (d : Int) true).mono ?_
        rintro e w6 ⟨rfl, h6⟩
        rw [HE1.out]
        rw [HT1.out] at h6
        have H6 := Lib.hid h6
        obtain ⟨a2, rfl, -, -, r2⟩ := doms_cells HDV.out h6.lw.bel HDM.out
        rw [HRT.out] at r2
        obtain ⟨z1, -⟩ := h6.lw.box HBX.out 1 _ rfl
        clear h6
        go_wp2_with fail
        refine (H6.out.lw.phase _).mono ?_
        rintro e w' ⟨rfl, rfl⟩
        rw [HDW.out.2.1]
        go_wp2
        go_ret
        exact ⟨rfl, HB3.out.trans (H6.out.lw.bel.mono hz3)⟩
      · have hbad' : ¬ (kp = true ∧ dm.ret = false) := by rw [HRT.out]; exact hbad
        have hE0 : downE sts (d : Int) kp = 0 := by rw [HDW.out.1, if_neg hbad']
        have hT0 := HDW.out.2.2 hbad'
        have HE0 := Lib.hid hE0
        have HT0 := Lib.hid hT0
        have hkr : kp = false ∨ (kp = true ∧ rt = true) := by cases kp <;> cases rt <;> first | exact .inl rfl | exact .inr ⟨rfl, rfl⟩ | exact absurd ⟨rfl, rfl⟩ hbad
        have hstill := HST.out.still d
        have HSTL := Lib.hid hstill
        have hc99 : phaseP (sts.set d ⟨dm, 99, 0, kp⟩) (d : Int) = 99 := phaseP_at (List.getElem?_set_self hdsl)
        have HC99 := Lib.hid hc99
        have HDSL := Lib.hid hdsl
        have HDL := Lib.hid hdl
        clear hE0 hT0 hbad hbad' hstill hc99 hdsl hdl
        obtain ⟨pE, hpE⟩ : ∃ pE, (if kp = true then (115 : Int) else 108) = pE := ⟨_, rfl⟩
        obtain ⟨pK, hpK⟩ : ∃ pK, (if kp = true then (114 : Int) else 110) = pK := ⟨_, rfl⟩
        have htick : passK ⟨dm, 99, 0, kp⟩ = pE ∧ pE ≠ 0 := by rw [← hpE]; cases kp <;> simp [passK]
        obtain ⟨pR, hpR⟩ : ∃ pR, (if kp = true then (116 : Int) else 48) = pR := ⟨_, rfl⟩
        have hag := HST.out.again HINV.out HCH.out HDM.out pR (by rw [← hpR]; cases kp <;> rfl) kp
        have hpt : passT ⟨dm, 99, 0, kp⟩ = ⟨dm, pR, 0, kp⟩ := by rw [← hpR]; cases kp <;> simp [passT]
        have hKK : passK ⟨dm, 114, 0, kp⟩ = pK := by rw [← hpK]; cases kp <;> simp [passK]
        have HTICK := Lib.hid htick
        have HAG := Lib.hid hag
        have HPT := Lib.hid hpt
        have HKK := Lib.hid hKK
        clear htick hag hpt hKK hpR
        -- behind the switch: one walk for all
        have hbusy : 1 < j → ∀ a : Nat, C[0]? = some a → downE (sts.set d ⟨dm, 99, 0, kp⟩) (a : Int) false = 7 ∧ downT (sts.set d ⟨dm, 99, 0, kp⟩) (a : Int) false = sts.set d ⟨dm, 99, 0, kp⟩ := fun h1 a ha => by
          have := HST.out.busy HINV.out HCH.out (by rw [HLE.out]; exact h1) ha HDM.out (kp := kp)
          exact ⟨this, by unfold downT; rw [this, if_neg (by omega)]⟩
        have HBUSY := Lib.hid hbusy
        clear hbusy
        obtain ⟨c0, hc0⟩ : ∃ c0, C[0]? = some c0 := ⟨_, List.getElem?_eq_getElem (by rw [HLE.out]; exact hLp)⟩
        have HC0 := Lib.hid hc0
        clear hc0
        have hd0 : (0 : Int) ≤ (d : Int) := by omega
        have hd1 : (d : Int) < (nD : Int) := by omega
        obtain ⟨a2, rfl, -, -, -⟩ := doms_cells HDV.out HR.out.lw.bel HDM.out
        obtain rfl | ⟨rfl, rfl⟩ := hkr
        all_goals
          simp at hpE hpK
          subst hpE hpK
          go_wp2_with fail
          refine (HR.out.down (d : Int) _).mono ?_
          rintro e w6 ⟨rfl, h6⟩
          rw [HE0.out]
          rw [HT0.out] at h6
          obtain ⟨z1, -⟩ := h6.lw.box HBX.out 1 _ rfl
          obtain ⟨a6, e6, -, -, r2⟩ := doms_cells HDV.out h6.lw.bel HDM.out
          injection e6 with e6
          subst e6
          rw [HRT.out] at r2
          have cc := h6.at1 HC0.out
          have H6 := Lib.hid h6
          clear h6
          go_wp2_with fail
          refine (H6.out.lw.phase _).mono ?_
          rintro e w' ⟨rfl, rfl⟩
          rw [HC99.out]
          by_cases h1j : 1 < j
          · have h1j' : (1 : Int) < (j : Int) := by omega
            have hb7 := HBUSY.out h1j c0 HC0.out
            go_wp2_with fail
            refine (H6.out.down (c0 : Int) false).mono ?_
            rintro e w7 ⟨rfl, h7⟩
            rw [hb7.1]
            rw [hb7.2] at h7
            have H7 := Lib.hid h7
            clear h7 hb7 cc z1 r2 H6
            go_wp2_with fail
            refine (H7.out.tick HDSL.out HSTL.out (by rw [HTICK.out.1]; exact HTICK.out.2)).mono ?_
            rintro e w8 ⟨v8, rfl, hv8, h8⟩
            rw [HTICK.out.1] at hv8
            rw [HPT.out] at h8
            obtain ⟨g8, c8, rfl, -, e0, e1⟩ := hv8.one
            have H8 := Lib.hid h8
            clear hv8 h8
            go_wp2_with fail
            refine (H8.out.up (d : Int)).mono ?_
            rintro e w9 ⟨rfl, h9⟩
            have hu9 := HAG.out
            rw [hu9.2] at h9
            rw [hu9.1]
            obtain ⟨z1, -⟩ := h9.lw.box HBX.out 1 _ rfl
            obtain ⟨a9, e9, -, r9, -⟩ := doms_cells HDV.out h9.lw.bel HDM.out
            injection e9 with e9
            subst e9
            have H9 := Lib.hid h9
            clear h9 hu9
            go_wp2_with fail
            refine (H9.out.risen _ HKK.out HDSL.out HSTL.out HDL.out).mono ?_
            rintro e w10 ⟨rfl, h10⟩
            have H10 := Lib.hid h10
            clear h10
            go_wp2
            go_ret
            exact ⟨rfl, HB3.out.trans (H10.out.lw.bel.mono hz3)⟩
          · have h1j' : ¬ ((1 : Int) < (j : Int)) := by omega
            have H7 := H6
            clear H6 cc z1 r2
            go_wp2_with fail
            refine (H7.out.tick HDSL.out HSTL.out (by rw [HTICK.out.1]; exact HTICK.out.2)).mono ?_
            rintro e w8 ⟨v8, rfl, hv8, h8⟩
            rw [HTICK.out.1] at hv8
            rw [HPT.out] at h8
            obtain ⟨g8, c8, rfl, -, e0, e1⟩ := hv8.one
            have H8 := Lib.hid h8
            clear hv8 h8
            go_wp2_with fail
            refine (H8.out.up (d : Int)).mono ?_
            rintro e w9 ⟨rfl, h9⟩
            have hu9 := HAG.out
            rw [hu9.2] at h9
            rw [hu9.1]
            obtain ⟨z1, -⟩ := h9.lw.box HBX.out 1 _ rfl
            obtain ⟨a9, e9, -, r9, -⟩ := doms_cells HDV.out h9.lw.bel HDM.out
            injection e9 with e9
            subst e9
            have H9 := Lib.hid h9
            clear h9 hu9
            go_wp2_with fail
            refine (H9.out.risen _ HKK.out HDSL.out HSTL.out HDL.out).mono ?_
            rintro e w10 ⟨rfl, h10⟩
            have H10 := Lib.hid h10
            clear h10
            go_wp2
            go_ret
            exact ⟨rfl, HB3.out.trans (H10.out.lw.bel.mono hz3)⟩

theorem takes_arg (A : Option Addr) (c : Nat) (l : List Int) (xa : Int) (kp : Bool) (w : World) (hm : l.length ≤ 9223372036854775807) (h : IntsAt w w.heap.size A l) (hwf : ∀ x, x ∈ l → wfI x) (ha : wfI xa) :
    Calls Try.prog 4 #[.slice A l.length c, .int .i64 xa, .bool kp] w fun e w' => e = .returned (.bool true) ∧ Below w.heap.size w w' :=
  takes_any A c l xa kp w (by unfold maxLen; omega) hwf h ha

end Go.Proofs.Ytlhmcpkfmnmhfaa
