/- The walk of catnaplaw8.ResetTicks. -/
import Derived.Test.YtpieihjipdgplaaRC
namespace Go.Proofs.Ytpieihjipdgplaa
set_option linter.unusedSimpArgs false
set_option linter.unusedVariables false
open Go.RowKit Go.Maps

set_option maxRecDepth 1000000 in
set_option maxHeartbeats 16000000 in
theorem law_ticks (A : Option Addr) (c : Nat) (l : List Int) (Bx : Option Addr) (d : Nat) (ax : List Acts) (w : World) (hl : l.length ≤ maxLen) (hwf : ∀ x, x ∈ l → wfI x) (h : IntsAt w w.heap.size A l) (hxl : ax.length ≤ maxLen) (hxw : ∀ x, x ∈ ax → ActW x) (hx : StrsAt ActV 2 w w.heap.size Bx ax) :
    Calls Try.prog 6 #[.slice A l.length c, .slice Bx ax.length d] w (TellsB true w) := by
  have HXW := Lib.hid hxw
  have HXS := Lib.hid hx
  unfold maxLen at hxl
  obtain ⟨nX, hnX⟩ : ∃ n, n = ax.length := ⟨_, rfl⟩
  rw [← hnX] at hxl ⊢
  have HNX := Lib.hid hnX
  clear hxw hx hnX
  have HL := Lib.hid hl
  have HWF := Lib.hid hwf
  have HI := Lib.hid h
  clear hl hwf h
  go_enter Try.func6, Try.ntmps6
  go_wp2_with fail
  refine (shown_any _).mono ?_
  rintro e w1 ⟨rfl, hb1⟩
  have HB1 := Lib.hid hb1
  have hz1 := hb1.size
  clear hb1
  go_wp2_with fail
  refine (chip_any A c l w1 HL.out HWF.out ((HI.out.below HB1.out (Nat.le_refl _)).more hz1)).mono ?_
  rintro e w2 ⟨v1, v2, v3, v4, rfl, hcv, hb2⟩
  obtain ⟨A1, c1, A2, c2, A3, c3, A4, c4, rfl, rfl, rfl, rfl, hrs⟩ := chip_parts hcv
  have hz2 := hb2.size
  have hba := ((Below.refl w2.heap.size w2).alloc (Nat.le_refl _) (.cells #[.slice A1 0 c1, .slice A2 0 c2, .slice A3 (lsL l).length c3, .slice A4 0 c4] 30))
  have hbx := BoxAt.new w2 [.slice A1 0 c1, .slice A2 0 c2, .slice A3 (lsL l).length c3, .slice A4 0 c4] 30
  have hcv3 := Steady.later hcv hba
  have HCV3 := Lib.hid hcv3
  have hrs3 := (hrs.below hba (Nat.le_refl _)).more hba.size
  have HRS := Lib.hid hrs3
  have HBX := Lib.hid hbx
  have HB3 := Lib.hid (HB1.out.trans ((hb2.mono hz1).trans (hba.mono (by omega))))
  clear hb2 hcv hrs HI HWF HL hba hbx hcv3 hrs3
  go_wp2_with fail
  refine (new_ok (chipL l) _ _ (chipL_ok l) HCV3.out (chipL_right l) (chipL_rsts l).1).mono ?_
  rintro e w4 ⟨b, bl, bh, rfl, hgb, hgl, hgh, hli, hb4⟩
  rw [rLs_ls] at hli
  have hok := lsL_ok l
  have hn6 := lsL_len l
  obtain ⟨w3, hw3⟩ : ∃ w3, w3 = (w2.alloc (.cells #[.slice A1 0 c1, .slice A2 0 c2, .slice A3 (lsL l).length c3, .slice A4 0 c4] 30)) := ⟨_, rfl⟩
  obtain ⟨g, hg⟩ : ∃ g, g = w2.heap.size := ⟨_, rfl⟩
  have hbx := HBX.out
  have hrs := HRS.out
  have hb3 := HB3.out
  rw [← hw3] at hgb hgl hgh hb4 hbx hrs hb3
  rw [← hg] at hbx ⊢
  have hlw := Lw.start hli hgb hgl hgh hb4
  clear HBX HRS HB3 HCV3 hli hb4 hw3 hz1 hz2 HB1 hg w2 w1 hgb hgl hgh
  obtain ⟨L, hL⟩ : ∃ L, L = lsL l := ⟨_, rfl⟩
  rw [← hL] at hbx hrs hlw hok hn6 ⊢
  clear hL
  obtain ⟨n, hn⟩ : ∃ n, n = L.length := ⟨_, rfl⟩
  rw [← hn] at hbx hn6 ⊢
  have HNN := Lib.hid hn
  have HOK := Lib.hid hok
  have HLW := Lib.hid hlw
  have HBX := Lib.hid hbx
  have HRS := Lib.hid hrs
  have HB3 := Lib.hid hb3
  have hx4 := HLW.out.box hbx
  obtain ⟨x2, -⟩ := hx4 2 _ rfl
  have hz4 := HLW.out.size
  have hzb : g < w3.heap.size := hbx.lt
  have hz3 := hb3.size
  have hlt4 := HLW.out.lines.lt
  clear hbx hrs hb3 hx4 hn hok hlw
  by_cases hbig : 150 < nX
  · have hbig' : (150 : Int) < (nX : Int) := by omega
    go_wp2
    go_ret
    exact ⟨rfl, HB3.out.trans (HLW.out.bel.mono hz3)⟩
  · have hbig' : ¬ ((150 : Int) < (nX : Int)) := by omega
    clear hbig
    have hmk := make_bools n (by omega) w4
    obtain ⟨w5, hw5⟩ : ∃ w5, w5 = w4.alloc (.cells (madeCells #[.bool false] n) 4) := ⟨_, rfl⟩
    obtain ⟨gw, hgw⟩ : ∃ gw, gw = w4.heap.size := ⟨_, rfl⟩
    have hm5 : Moved [] w4 w5 := by rw [hw5]; exact Moved.alloc _ _
    have hf5 : FillAt w5 gw n (fun _ => .bool false) := by rw [hw5, hgw]; exact FillAt.new w4 n _ 4
    rw [← hgw, ← hw5] at hmk
    have hT : Tl w3 w5 b bl bh L (startL L) gw n := ⟨HLW.out.calm hm5, hf5.congr fun i hi => by
      rw [show wantP (startL L) (i : Int) = false from wantP_at (startL_at (List.getElem?_eq_getElem (l := L) (i := i) (by rw [← HNN.out]; exact hi)))], by omega, by omega, by omega, by omega, by rw [hgw, hw5, World.size_alloc]; omega⟩
    have HT := Lib.hid hT
    clear hT hf5 hm5 hw5 hgw HLW hz4 hlt4
    go_wp2
    clear hmk x2 w4
    go_loopw [10] (fun i wr => ∃ (k : Nat) (xs : List Ln), k ≤ nX ∧ i = .int .i64 k ∧ RowKit.Hid (Tl w3 wr b bl bh L xs gw n)) (fun i _ => nX - (intOf i).toNat)
    case atStart => exact ⟨0, _, Nat.zero_le _, rfl, HT⟩
    case round =>
      clear HT w5
      obtain ⟨k, xs, hk, rfl, HR⟩ := hrel
      obtain ⟨z2, -⟩ := HR.out.lw.box HBX.out 2 _ rfl
      by_cases hlt : k < nX ∧ 0 < n
      · obtain ⟨hlt, hn0⟩ := hlt
        have hn0' : (0 : Int) < (n : Int) := by omega
        have hlx : k < ax.length := by rw [← HNX.out]; exact hlt
        obtain ⟨ad, rfl, a0, a1⟩ := acts_at HXS.out HB3.out HR.out.lw.bel hlx
        have hw := HXW.out ax[k] (List.getElem_mem hlx)
        obtain ⟨wop, wi⟩ := hw
        generalize ax[k].op = op at *
        generalize ax[k].i = ii at *
        have hk0 : (0 : Int) ≤ (k : Int) := by omega
        have hk1 : (k : Int) < (nX : Int) := by omega
        obtain ⟨mi, hmi, hmi1⟩ : ∃ mi : Nat, pickP ii (n : Int) = (mi : Int) ∧ mi < n := ⟨(pickP ii (n : Int)).toNat, by have := pickP_lo (c := ii) (n := (n : Int)) (by omega); omega, by have := pickP_lo (c := ii) (n := (n : Int)) (by omega); have := pickP_hi (c := ii) (n := (n : Int)) (by omega); omega⟩
        have HMI := Lib.hid hmi
        have hv0 := pickP_lo (c := op) (n := 4) (by omega)
        have hv1 := pickP_hi (c := op) (n := 4) (by omega)
        obtain ⟨v, hv⟩ : ∃ v, pickP op 4 = v := ⟨_, rfl⟩
        rw [hv] at hv0 hv1
        have HV := Lib.hid hv
        clear hlx hmi hv
        go_wp2
        go_quiet ((go_at_call 13; exact pickQ ii (n : Int) _ _ wi (by omega) (by omega) HMI.out))
        go_wp2_with fail
        refine (pick_any op 4 _ wop (by omega) (by omega)).mono ?_
        rintro e w' ⟨rfl, rfl⟩
        rw [HV.out]
        have HN := Lib.hid (HR.out.drewN nq)
        have hmw : wfI (mi : Int) := by unfold wfI; omega
        have hmx : mi < xs.length := by rw [HR.out.lw.xlen, ← HNN.out]; exact hmi1
        have hxm := List.getElem?_eq_getElem hmx
        generalize xs[mi] = x at hxm
        have HXM := Lib.hid hxm
        clear a0 a1 z2 HV wop wi HMI hxm hmx HR
        generalize wr.drewN nq = wx at *
        have i0 : (0 : Int) ≤ (mi : Int) := by omega
        have i1 : (mi : Int) < (n : Int) := by omega
        obtain rfl | rfl | hv2 : v = 0 ∨ v = 1 ∨ 2 ≤ v := by omega
        · go_wp2_with fail
          refine (HN.out.lw.assert hmw).mono ?_
          rintro e w5 ⟨rfl, hl5, hm5⟩
          obtain ⟨q1, q2⟩ := (HN.out.wt.move hm5 (by simpa using HN.out.n3)) mi hmi1
          have HTl := Lib.hid (HN.out.assertS HXM.out hmi1 hl5 hm5)
          clear hl5 hm5
          go_wp2
          go_roundw
          case rel => exact ⟨k + 1, _, hlt, by go_num, HTl⟩
          case measure => simp [intOf]; omega
        · have sE : releaseE xs (mi : Int) = if x.held = true then 0 else 6 := atP_at HXM.out _ _
          have sH : heldP xs (mi : Int) = x.held := atP_at HXM.out _ _
          have sW : wantP xs (mi : Int) = x.want := atP_at HXM.out _ _
          have sI := HN.out.lw.inv.idle mi x HXM.out
          have HSH := Lib.hid sH
          have HSW := Lib.hid sW
          clear sH sW
          cases hh : x.held with
          | true =>
            rw [hh, if_pos rfl] at sE
            have HSE := Lib.hid sE
            have HHH := Lib.hid hh
            clear sE sI
            go_wp2_with fail
            refine (HN.out.lw.held hmw).mono ?_
            rintro e w5 ⟨rfl, -, hb5⟩
            rw [HSH.out, hh]
            have HN5 := Lib.hid (HN.out.calm (Moved.of_below hb5))
            clear hb5 hh
            go_wp2_with fail
            refine (HN5.out.lw.release hmw).mono ?_
            rintro e w6 ⟨rfl, hl6, hm6⟩
            rw [HSE.out]
            obtain ⟨q0, q2⟩ := (HN5.out.wt.move hm6 (by simpa using HN5.out.n3)) mi hmi1
            have q1 : w6.cell? ⟨gw, mi, none⟩ = some (.bool (wantP xs (mi : Int))) := q0
            rw [HSW.out] at q1
            have HTl := Lib.hid (HN5.out.releaseS HXM.out hmi1 (u := true) (by rw [HHH.out]; simp) hl6 hm6)
            clear hl6 hm6 q0
            cases hwt : x.want with
            | true =>
              rw [hwt] at q1
              clear hwt
              go_wp2
              go_roundw
              case rel => exact ⟨k + 1, _, hlt, by go_num, HTl⟩
              case measure => simp [intOf]; omega
            | false =>
              rw [hwt] at q1
              clear hwt
              go_wp2
              go_roundw
              case rel => exact ⟨k + 1, _, hlt, by go_num, HTl⟩
              case measure => simp [intOf]; omega
          | false =>
            rw [hh, if_neg Bool.false_ne_true] at sE
            have hwt := (sI hh).2
            have HSE := Lib.hid sE
            have HHH := Lib.hid hh
            have HWT := Lib.hid hwt
            clear sE sI
            go_wp2_with fail
            refine (HN.out.lw.held hmw).mono ?_
            rintro e w5 ⟨rfl, -, hb5⟩
            rw [HSH.out, hh]
            have HN5 := Lib.hid (HN.out.calm (Moved.of_below hb5))
            clear hb5 hh hwt
            go_wp2_with fail
            refine (HN5.out.lw.release hmw).mono ?_
            rintro e w6 ⟨rfl, hl6, hm6⟩
            rw [HSE.out]
            obtain ⟨q0, q2⟩ := (HN5.out.wt.move hm6 (by simpa using HN5.out.n3)) mi hmi1
            have q1 : w6.cell? ⟨gw, mi, none⟩ = some (.bool (wantP xs (mi : Int))) := q0
            rw [HSW.out, HWT.out] at q1
            have HTl := Lib.hid (HN5.out.releaseS HXM.out hmi1 (u := false) (by rw [HHH.out, HWT.out]; rfl) hl6 hm6)
            clear hl6 hm6 q0
            go_wp2
            go_roundw
            case rel => exact ⟨k + 1, _, hlt, by go_num, HTl⟩
            case measure => simp [intOf]; omega
        · have e0 : (v == 0) = false := by simp; omega
          have e1 : (v == 1) = false := by simp; omega
          have hmk1 := make_bools n (by omega) wx
          obtain ⟨w5, hw5⟩ : ∃ w5, w5 = wx.alloc (.cells (madeCells #[.bool false] n) 4) := ⟨_, rfl⟩
          obtain ⟨gh, hgh⟩ : ∃ gh, gh = wx.heap.size := ⟨_, rfl⟩
          have hm5 : Moved [] wx w5 := by rw [hw5]; exact Moved.alloc _ _
          have hf5 : FillAt w5 gh n (fun _ => .bool false) := by rw [hw5, hgh]; exact FillAt.new wx n _ 4
          have hs5 : w5.heap.size = gh + 1 := by rw [hw5, hgh, World.size_alloc]
          rw [← hgh, ← hw5] at hmk1
          have hmk2 := make_ints n (by omega) w5
          obtain ⟨w6, hw6⟩ : ∃ w6, w6 = w5.alloc (.cells (madeCells #[.int .i64 0] n) 3) := ⟨_, rfl⟩
          obtain ⟨gl, hgl⟩ : ∃ gl, gl = w5.heap.size := ⟨_, rfl⟩
          have hm6 : Moved [] w5 w6 := by rw [hw6]; exact Moved.alloc _ _
          have hf6 : FillAt w6 gl n (fun _ => .int .i64 0) := by rw [hw6, hgl]; exact FillAt.new w5 n _ 3
          have hs6 : w6.heap.size = gl + 1 := by rw [hw6, hgl, World.size_alloc]
          rw [← hgl, ← hw6] at hmk2
          have hlN := HN.out.lw.lines.lt
          have hgN := HN.out.hi
          have hzN := HN.out.lw.size
          have hDa : Da w3 w6 b bl bh L xs gw gh gl n 0 := ⟨HN.out.calm (hm5.trans hm6), by rw [upto_zero]; exact hf5.move hm6 (by simp), by rw [upto_zero]; exact hf6, by omega, by omega, by omega, by omega⟩
          have HDa := Lib.hid hDa
          have hx2 := HN.out.lw.box HBX.out
          obtain ⟨z2, -⟩ := hx2 2 _ rfl
          obtain ⟨z5, -⟩ := (HN.out.calm hm5).lw.box HBX.out 2 _ rfl
          have hid := HN.out.lw.inv.idle
          have HID := Lib.hid hid
          have hxn := HN.out.lw.xlen
          rw [← HNN.out] at hxn
          have HXN := Lib.hid hxn
          have HINV := Lib.hid HN.out.lw.inv
          clear hDa hf5 hf6 hm5 hm6 hw5 hw6 hgh hgl hs5 hs6 hlN hgN hzN hx2 hid hxn HN
          go_wp2
          clear hmk1 hmk2 z2 z5
          go_loopw [15] (fun i wq => ∃ j : Nat, j ≤ n ∧ i = .int .i64 j ∧ RowKit.Hid (Da w3 wq b bl bh L xs gw gh gl n j)) (fun i _ => n - (intOf i).toNat)
          case atStart => exact ⟨0, Nat.zero_le _, rfl, HDa⟩
          case round =>
            clear HDa
            obtain ⟨j, hj, rfl, HJ⟩ := hrel
            obtain ⟨z2, -⟩ := HJ.out.tl.lw.box HBX.out 2 _ rfl
            by_cases hjt : j < n
            · have hjw : wfI (j : Int) := by unfold wfI; omega
              have j0 : (0 : Int) ≤ (j : Int) := by omega
              have j1 : (j : Int) < (n : Int) := by omega
              obtain ⟨hu, hhu⟩ : ∃ hu, heldP xs (j : Int) = hu := ⟨_, rfl⟩
              obtain ⟨lv, hlv⟩ : ∃ lv, leftP xs (j : Int) = lv := ⟨_, rfl⟩
              have HHU := Lib.hid hhu
              have HLV := Lib.hid hlv
              clear hhu hlv
              go_wp2_with fail
              refine (HJ.out.tl.lw.held hjw).mono ?_
              rintro e w7 ⟨rfl, -, hb7⟩
              rw [HHU.out]
              have HJ7 := Lib.hid (HJ.out.calm (Moved.of_below hb7))
              obtain ⟨q1, q2⟩ := HJ7.out.hd j hjt
              have hm7 : Moved [gh] w7 (w7.setCell ⟨gh, j, none⟩ (.bool hu)) := Moved.setCell _ (by simp) _
              have HT7 := Lib.hid (HJ7.out.far hm7 (.inl rfl))
              have hne := HJ7.out.o2
              obtain ⟨q3, q4⟩ := (HJ7.out.lf.move hm7 (by simp; omega)) j hjt
              have HPT := Lib.hid (HJ7.out.put hjt HHU.out HLV.out)
              clear hb7 hm7 HJ z2
              go_wp2_with fail
              refine (HT7.out.lw.left hjw).mono ?_
              rintro e w8 ⟨rfl, rfl⟩
              rw [HLV.out]
              go_wp2
              go_roundw
              case rel => exact ⟨j + 1, hjt, by go_num, HPT⟩
              case measure => simp [intOf]; omega
            · have hjn : j = n := by omega
              have j1 : ¬ ((j : Int) < (n : Int)) := by omega
              have HJn : RowKit.Hid (Da w3 wr b bl bh L xs gw gh gl n n) := Lib.hid (by have h9 := HJ.out; rw [hjn] at h9; exact h9)
              clear hjn hj hjt HJ
              go_wp2_with fail
              refine (HJn.out.tl.lw.tick).mono ?_
              rintro e w7 ⟨A5, c5, rfl, ho7, hl7, hm7⟩
              obtain ⟨BB, hBB⟩ : ∃ BB, BB = wr.heap.size := ⟨_, rfl⟩
              have hDd := HJn.out.tick hl7 ho7 hm7
              rw [← hBB] at hDd
              obtain ⟨m, hm⟩ : ∃ m, m = (tickE xs).length := ⟨_, rfl⟩
              rw [← hm] at hDd ⊢
              have hm6 : m ≤ 6 := by
                have := goesP_len xs xs.length
                have h2 := HXN.out
                unfold tickE at hm
                omega
              have HM := Lib.hid hm
              have HDd := Lib.hid hDd
              clear ho7 hl7 hm7 hBB hDd hm HJn z2 j1
              go_wp2
              go_loopw [17] (fun i wq => ∃ q : Nat, q ≤ m ∧ i = .int .i64 q ∧ RowKit.Hid (Dd w3 wq b bl bh L xs (tickT xs) gw gh gl n BB (.slice A5 m c5) (tickE xs) q)) (fun i _ => m - (intOf i).toNat)
              case atStart => exact ⟨0, Nat.zero_le _, rfl, HDd⟩
              case round =>
                clear HDd
                obtain ⟨q, hq, rfl, HQ⟩ := hrel
                by_cases hqt : q < m
                · have htq := List.getElem?_eq_getElem (l := tickE xs) (i := q) (by rw [← HM.out]; exact hqt)
                  generalize (tickE xs)[q] = tq at htq
                  obtain ⟨mm, y, rfl, hy, hg⟩ := told_at htq
                  have hmn : mm < n := by rw [← HXN.out]; exact get_lt hy
                  have hmw : wfI (mm : Int) := by unfold wfI; omega
                  have hyl := HINV.out.left mm y hy
                  obtain ⟨g1, g2, g3, g4⟩ := go_parts hg hyl.1
                  obtain ⟨ad, hA, -⟩ := (HQ.out.tt.ints.2).at_ (k := q) (by rw [← HM.out]; exact hqt)
                  subst hA
                  have sH : Value.bool (heldP xs (mm : Int)) = .bool true := by rw [show heldP xs (mm : Int) = y.held from atP_at hy _ _, g1]
                  have sL : Value.int .i64 (leftP xs (mm : Int)) = .int .i64 0 := by rw [leftP_at hy, g3]
                  have sW : Value.bool (wqB xs (tickE xs) q mm) = .bool true := by
                    unfold wqB
                    rw [wantP_at hy, g2, decide_eq_false (told_new htq)]
                    rfl
                  have sF : heldP (tickT xs) (mm : Int) = false := (show heldP (tickT xs) (mm : Int) = (passL y).held from atP_at (tick_get hy) _ _).trans g4
                  have HTQ := Lib.hid htq
                  have HH := Lib.hid sH
                  have HLZ := Lib.hid sL
                  have HWQ := Lib.hid sW
                  have HHF := Lib.hid sF
                  have HPR : RowKit.Hid (∀ p : Nat, p < q → ∃ s : Int, (tickE xs)[p]? = some s ∧ s < (mm : Int)) := Lib.hid fun p hp => by
                    have hs := List.getElem?_eq_getElem (l := tickE xs) (i := p) (by have := HM.out; omega)
                    exact ⟨_, hs, told_lt hp hs htq⟩
                  have hq1 : (q : Int) < (m : Int) := by omega
                  clear htq hy hg hyl g1 g2 g3 g4 sH sL sW sF
                  generalize tickE xs = TT at *
                  go_wp2
                  by_cases hq0 : 0 < q
                  · obtain ⟨p, hp⟩ : ∃ p : Nat, q = p + 1 := ⟨q - 1, by omega⟩
                    obtain ⟨pm, hpm, hpl⟩ := HPR.out p (by omega)
                    have HTP := Lib.hid hpm
                    have HPM := Lib.hid hpl
                    have HP := Lib.hid hp
                    clear hpm hpl HPR hp
                    refine region_stagedP 1 (fun t => match t with | _ => 34) (fun i => if i = 34 then some 0 else none) (GPL [isV (.slice (some ⟨gh, 0, none⟩) n n), isV (.slice (some ad) m c5), isV (.int .i64 (q : Int)), isV (.pointer (some (ad.add q))), isV (.int .i64 (mm : Int)), isV (.pointer (some ⟨gh, mm, none⟩)), isV (.bool true), isV (.bool false), isV (.bool false), isV (.slice (some ⟨gw, 0, none⟩) n n), isV (.slice (some ad) m c5), isV (.int .i64 (q : Int)), isV (.pointer (some (ad.add q))), isV (.int .i64 (mm : Int)), isV (.pointer (some ⟨gw, mm, none⟩)), isV (.bool true), isV (.bool false), isV (.bool false), isV (.bool false), isV (.slice (some ⟨gl, 0, none⟩) n n), isV (.slice (some ad) m c5), isV (.int .i64 (q : Int)), isV (.pointer (some (ad.add q))), isV (.int .i64 (mm : Int)), isV (.pointer (some ⟨gl, mm, none⟩)), isV (.int .i64 0), isV (.bool false), isV (.bool false), isV (.bool false), isV (.pointer (some ⟨b, 0, none⟩)), isV (.slice (some ad) m c5), isV (.int .i64 (q : Int)), isV (.pointer (some (ad.add q))), isV (.int .i64 (mm : Int)), isV (.bool false), isV (.bool false), isV (.bool false), isV (.int .i64 (q : Int)), isV (.bool true), isV (.bool true), isV (.slice (some ad) m c5), isV (.int .i64 (q : Int)), isV (.pointer (some (ad.add q))), isV (.int .i64 (mm : Int)), isV (.slice (some ad) m c5), isV (.int .i64 (q : Int)), isV (.int .i64 (p : Int)), isV (.pointer (some (ad.add p))), isV (.int .i64 pm), isV (.bool false), isV (.bool false), isV (.bool false)]) (fun s w => Dd w3 w b bl bh L xs (tickT xs) gw gh gl n BB (.slice (some ad) m c5) TT q) 233 (by kernel_rfl) rfl (by kernel_rfl) ⟨?ca, ?cb, ?cp⟩ ?cs ?c0 ⟨?s0, ?s1, ?s2, ?s3, ?s4, ?s5, ?s6, ?s7, ?s8, ?s9, ?s10, ?s11, ?s12, ?s13, ?s14, ?s15, ?s16, ?s17, ?s18, ?s19, ?s20, ?s21, ?s22, ?s23, ?s24, ?s25, ?s26, ?s27, ?s28, ?s29, ?s30, ?s31, ?s32, ?s33, ?s34, ?s35, ?s36, ?s37, ?s38, ?s39, ?s40, ?s41, ?s42, ?s43, ?s44, ?s45, ?s46, ?s47, ?s48, ?s49, ?s50, ?s51, trivial⟩ ?fin
                    case ca =>
                      intro i t h
                      split at h
                      · injection h with h; subst h; rename_i e; exact ⟨by omega, e.symm⟩
                      · cases h
                    case cb =>
                      intro t ht
                      match t, ht with
                      | 0, _ => rfl
                    case cp =>
                      intro t ht
                      omega
                    case cs =>
                      intro t ht
                      match t, ht with
                      | 0, _ => exact (by decide : 34 < 52)
                    case c0 => exact HQ.out.drew
                    case s0 =>
                      refine stepS_plain rfl rfl (fun T w1 s hT hd hs hW => ?_)
                      have ec := evT_const T
                      have ef := evT_func T
                      have d13 : evT T (.tmp 13) = .slice (some ⟨gh, 0, none⟩) n n := hT 13 (by kernel_rfl)
                      clear hT hd hW
                      refine ⟨.slice (some ⟨gh, 0, none⟩) n n, ?_, rfl⟩
                      simp only [execOp]
                      go_simp
                    case s1 =>
                      refine stepS_plain rfl rfl (fun T w1 s hT hd hs hW => ?_)
                      have ec := evT_const T
                      have ef := evT_func T
                      have d16 : evT T (.tmp 16) = .slice (some ad) m c5 := hT 16 (by kernel_rfl)
                      clear hT hd hW
                      refine ⟨.slice (some ad) m c5, ?_, rfl⟩
                      simp only [execOp]
                      go_simp
                    case s2 =>
                      refine stepS_plain rfl rfl (fun T w1 s hT hd hs hW => ?_)
                      have ec := evT_const T
                      have ef := evT_func T
                      have d17 : evT T (.tmp 17) = .int .i64 (q : Int) := hT 17 (by kernel_rfl)
                      clear hT hd hW
                      refine ⟨.int .i64 (q : Int), ?_, rfl⟩
                      simp only [execOp]
                      go_simp
                    case s3 =>
                      refine stepS_plain rfl rfl (fun T w1 s hT hd hs hW => ?_)
                      have ec := evT_const T
                      have ef := evT_func T
                      have d118 : evT T (.tmp 118) = .slice (some ad) m c5 := (by first | exact hd.1 | exact hd.2.1 | exact hd.2.2.1 | exact hd.2.2.2.1 | exact hd.2.2.2.2.1 | exact hd.2.2.2.2.2.1 | exact hd.2.2.2.2.2.2.1 | exact hd.2.2.2.2.2.2.2.1)
                      have d119 : evT T (.tmp 119) = .int .i64 (q : Int) := (by first | exact hd.1 | exact hd.2.1 | exact hd.2.2.1 | exact hd.2.2.2.1 | exact hd.2.2.2.2.1 | exact hd.2.2.2.2.2.1 | exact hd.2.2.2.2.2.2.1 | exact hd.2.2.2.2.2.2.2.1)
                      have j0 : (0 : Int) ≤ (q : Int) := by omega
                      have j1 : (q : Int) < (m : Int) := by omega
                      clear hT hd hW
                      refine ⟨.pointer (some (ad.add q)), ?_, rfl⟩
                      simp only [execOp]
                      go_simp
                    case s4 =>
                      refine stepS_plain rfl rfl (fun T w1 s hT hd hs hW => ?_)
                      have ec := evT_const T
                      have ef := evT_func T
                      have d120 : evT T (.tmp 120) = .pointer (some (ad.add q)) := (by first | exact hd.1 | exact hd.2.1 | exact hd.2.2.1 | exact hd.2.2.2.1 | exact hd.2.2.2.2.1 | exact hd.2.2.2.2.2.1 | exact hd.2.2.2.2.2.2.1 | exact hd.2.2.2.2.2.2.2.1)
                      have q1 := hW.tcell HTQ.out
                      clear hT hd hW
                      refine ⟨.int .i64 (mm : Int), ?_, rfl⟩
                      simp only [execOp]
                      go_simp
                    case s5 =>
                      refine stepS_plain rfl rfl (fun T w1 s hT hd hs hW => ?_)
                      have ec := evT_const T
                      have ef := evT_func T
                      have d117 : evT T (.tmp 117) = .slice (some ⟨gh, 0, none⟩) n n := (by first | exact hd.1 | exact hd.2.1 | exact hd.2.2.1 | exact hd.2.2.2.1 | exact hd.2.2.2.2.1 | exact hd.2.2.2.2.2.1 | exact hd.2.2.2.2.2.2.1 | exact hd.2.2.2.2.2.2.2.1)
                      have d121 : evT T (.tmp 121) = .int .i64 (mm : Int) := (by first | exact hd.1 | exact hd.2.1 | exact hd.2.2.1 | exact hd.2.2.2.1 | exact hd.2.2.2.2.1 | exact hd.2.2.2.2.2.1 | exact hd.2.2.2.2.2.2.1 | exact hd.2.2.2.2.2.2.2.1)
                      have j0 : (0 : Int) ≤ (mm : Int) := by omega
                      have j1 : (mm : Int) < (n : Int) := by omega
                      clear hT hd hW
                      refine ⟨.pointer (some ⟨gh, mm, none⟩), ?_, rfl⟩
                      simp only [execOp]
                      go_simp
                    case s6 =>
                      refine stepS_plain rfl rfl (fun T w1 s hT hd hs hW => ?_)
                      have ec := evT_const T
                      have ef := evT_func T
                      have d122 : evT T (.tmp 122) = .pointer (some ⟨gh, mm, none⟩) := (by first | exact hd.1 | exact hd.2.1 | exact hd.2.2.1 | exact hd.2.2.2.1 | exact hd.2.2.2.2.1 | exact hd.2.2.2.2.2.1 | exact hd.2.2.2.2.2.2.1 | exact hd.2.2.2.2.2.2.2.1)
                      have q1 : w1.cell? ⟨gh, mm, none⟩ = some (.bool (heldP xs (mm : Int))) := (hW.hd mm hmn).1
                      rw [HH.out] at q1
                      clear hT hd hW
                      refine ⟨.bool true, ?_, rfl⟩
                      simp only [execOp]
                      go_simp
                    case s7 =>
                      refine stepS_plain rfl rfl (fun T w1 s hT hd hs hW => ?_)
                      have ec := evT_const T
                      have ef := evT_func T
                      have d123 : evT T (.tmp 123) = .bool true := (by first | exact hd.1 | exact hd.2.1 | exact hd.2.2.1 | exact hd.2.2.2.1 | exact hd.2.2.2.2.1 | exact hd.2.2.2.2.2.1 | exact hd.2.2.2.2.2.2.1 | exact hd.2.2.2.2.2.2.2.1)
                      clear hT hd hW
                      refine ⟨.bool false, ?_, rfl⟩
                      simp only [execOp]
                      go_simp
                    case s8 =>
                      refine stepS_plain rfl rfl (fun T w1 s hT hd hs hW => ?_)
                      have ec := evT_const T
                      have ef := evT_func T
                      have d124 : evT T (.tmp 124) = .bool false := (by first | exact hd.1 | exact hd.2.1 | exact hd.2.2.1 | exact hd.2.2.2.1 | exact hd.2.2.2.2.1 | exact hd.2.2.2.2.2.1 | exact hd.2.2.2.2.2.2.1 | exact hd.2.2.2.2.2.2.2.1)
                      clear hT hd hW
                      refine ⟨.bool false, ?_, rfl⟩
                      simp only [execOp]
                      go_simp
                    case s9 =>
                      refine stepS_on 8 125 false rfl rfl rfl (fun T w1 s hT hd hs hW => ⟨(by first | exact hd.1 | exact hd.2.1 | exact hd.2.2.1 | exact hd.2.2.2.1 | exact hd.2.2.2.2.1 | exact hd.2.2.2.2.2.1 | exact hd.2.2.2.2.2.2.1 | exact hd.2.2.2.2.2.2.2.1), ?_⟩)
                      have ec := evT_const T
                      have ef := evT_func T
                      have d9 : evT T (.tmp 9) = .slice (some ⟨gw, 0, none⟩) n n := hT 9 (by kernel_rfl)
                      clear hT hd hW
                      refine ⟨.slice (some ⟨gw, 0, none⟩) n n, ?_, rfl⟩
                      simp only [execOp]
                      go_simp
                    case s10 =>
                      refine stepS_on 8 125 false rfl rfl rfl (fun T w1 s hT hd hs hW => ⟨(by first | exact hd.1 | exact hd.2.1 | exact hd.2.2.1 | exact hd.2.2.2.1 | exact hd.2.2.2.2.1 | exact hd.2.2.2.2.2.1 | exact hd.2.2.2.2.2.2.1 | exact hd.2.2.2.2.2.2.2.1), ?_⟩)
                      have ec := evT_const T
                      have ef := evT_func T
                      have d16 : evT T (.tmp 16) = .slice (some ad) m c5 := hT 16 (by kernel_rfl)
                      clear hT hd hW
                      refine ⟨.slice (some ad) m c5, ?_, rfl⟩
                      simp only [execOp]
                      go_simp
                    case s11 =>
                      refine stepS_on 8 125 false rfl rfl rfl (fun T w1 s hT hd hs hW => ⟨(by first | exact hd.1 | exact hd.2.1 | exact hd.2.2.1 | exact hd.2.2.2.1 | exact hd.2.2.2.2.1 | exact hd.2.2.2.2.2.1 | exact hd.2.2.2.2.2.2.1 | exact hd.2.2.2.2.2.2.2.1), ?_⟩)
                      have ec := evT_const T
                      have ef := evT_func T
                      have d17 : evT T (.tmp 17) = .int .i64 (q : Int) := hT 17 (by kernel_rfl)
                      clear hT hd hW
                      refine ⟨.int .i64 (q : Int), ?_, rfl⟩
                      simp only [execOp]
                      go_simp
                    case s12 =>
                      refine stepS_on 8 125 false rfl rfl rfl (fun T w1 s hT hd hs hW => ⟨(by first | exact hd.1 | exact hd.2.1 | exact hd.2.2.1 | exact hd.2.2.2.1 | exact hd.2.2.2.2.1 | exact hd.2.2.2.2.2.1 | exact hd.2.2.2.2.2.2.1 | exact hd.2.2.2.2.2.2.2.1), ?_⟩)
                      have ec := evT_const T
                      have ef := evT_func T
                      have d127 : evT T (.tmp 127) = .slice (some ad) m c5 := (by first | exact hd.1 | exact hd.2.1 | exact hd.2.2.1 | exact hd.2.2.2.1 | exact hd.2.2.2.2.1 | exact hd.2.2.2.2.2.1 | exact hd.2.2.2.2.2.2.1 | exact hd.2.2.2.2.2.2.2.1)
                      have d128 : evT T (.tmp 128) = .int .i64 (q : Int) := (by first | exact hd.1 | exact hd.2.1 | exact hd.2.2.1 | exact hd.2.2.2.1 | exact hd.2.2.2.2.1 | exact hd.2.2.2.2.2.1 | exact hd.2.2.2.2.2.2.1 | exact hd.2.2.2.2.2.2.2.1)
                      have j0 : (0 : Int) ≤ (q : Int) := by omega
                      have j1 : (q : Int) < (m : Int) := by omega
                      clear hT hd hW
                      refine ⟨.pointer (some (ad.add q)), ?_, rfl⟩
                      simp only [execOp]
                      go_simp
                    case s13 =>
                      refine stepS_on 8 125 false rfl rfl rfl (fun T w1 s hT hd hs hW => ⟨(by first | exact hd.1 | exact hd.2.1 | exact hd.2.2.1 | exact hd.2.2.2.1 | exact hd.2.2.2.2.1 | exact hd.2.2.2.2.2.1 | exact hd.2.2.2.2.2.2.1 | exact hd.2.2.2.2.2.2.2.1), ?_⟩)
                      have ec := evT_const T
                      have ef := evT_func T
                      have d129 : evT T (.tmp 129) = .pointer (some (ad.add q)) := (by first | exact hd.1 | exact hd.2.1 | exact hd.2.2.1 | exact hd.2.2.2.1 | exact hd.2.2.2.2.1 | exact hd.2.2.2.2.2.1 | exact hd.2.2.2.2.2.2.1 | exact hd.2.2.2.2.2.2.2.1)
                      have q1 := hW.tcell HTQ.out
                      clear hT hd hW
                      refine ⟨.int .i64 (mm : Int), ?_, rfl⟩
                      simp only [execOp]
                      go_simp
                    case s14 =>
                      refine stepS_on 8 125 false rfl rfl rfl (fun T w1 s hT hd hs hW => ⟨(by first | exact hd.1 | exact hd.2.1 | exact hd.2.2.1 | exact hd.2.2.2.1 | exact hd.2.2.2.2.1 | exact hd.2.2.2.2.2.1 | exact hd.2.2.2.2.2.2.1 | exact hd.2.2.2.2.2.2.2.1), ?_⟩)
                      have ec := evT_const T
                      have ef := evT_func T
                      have d126 : evT T (.tmp 126) = .slice (some ⟨gw, 0, none⟩) n n := (by first | exact hd.1 | exact hd.2.1 | exact hd.2.2.1 | exact hd.2.2.2.1 | exact hd.2.2.2.2.1 | exact hd.2.2.2.2.2.1 | exact hd.2.2.2.2.2.2.1 | exact hd.2.2.2.2.2.2.2.1)
                      have d130 : evT T (.tmp 130) = .int .i64 (mm : Int) := (by first | exact hd.1 | exact hd.2.1 | exact hd.2.2.1 | exact hd.2.2.2.1 | exact hd.2.2.2.2.1 | exact hd.2.2.2.2.2.1 | exact hd.2.2.2.2.2.2.1 | exact hd.2.2.2.2.2.2.2.1)
                      have j0 : (0 : Int) ≤ (mm : Int) := by omega
                      have j1 : (mm : Int) < (n : Int) := by omega
                      clear hT hd hW
                      refine ⟨.pointer (some ⟨gw, mm, none⟩), ?_, rfl⟩
                      simp only [execOp]
                      go_simp
                    case s15 =>
                      refine stepS_on 8 125 false rfl rfl rfl (fun T w1 s hT hd hs hW => ⟨(by first | exact hd.1 | exact hd.2.1 | exact hd.2.2.1 | exact hd.2.2.2.1 | exact hd.2.2.2.2.1 | exact hd.2.2.2.2.2.1 | exact hd.2.2.2.2.2.2.1 | exact hd.2.2.2.2.2.2.2.1), ?_⟩)
                      have ec := evT_const T
                      have ef := evT_func T
                      have d131 : evT T (.tmp 131) = .pointer (some ⟨gw, mm, none⟩) := (by first | exact hd.1 | exact hd.2.1 | exact hd.2.2.1 | exact hd.2.2.2.1 | exact hd.2.2.2.2.1 | exact hd.2.2.2.2.2.1 | exact hd.2.2.2.2.2.2.1 | exact hd.2.2.2.2.2.2.2.1)
                      have q1 : w1.cell? ⟨gw, mm, none⟩ = some (.bool (wqB xs TT q mm)) := (hW.wt mm hmn).1
                      rw [HWQ.out] at q1
                      clear hT hd hW
                      refine ⟨.bool true, ?_, rfl⟩
                      simp only [execOp]
                      go_simp
                    case s16 =>
                      refine stepS_on 8 125 false rfl rfl rfl (fun T w1 s hT hd hs hW => ⟨(by first | exact hd.1 | exact hd.2.1 | exact hd.2.2.1 | exact hd.2.2.2.1 | exact hd.2.2.2.2.1 | exact hd.2.2.2.2.2.1 | exact hd.2.2.2.2.2.2.1 | exact hd.2.2.2.2.2.2.2.1), ?_⟩)
                      have ec := evT_const T
                      have ef := evT_func T
                      have d132 : evT T (.tmp 132) = .bool true := (by first | exact hd.1 | exact hd.2.1 | exact hd.2.2.1 | exact hd.2.2.2.1 | exact hd.2.2.2.2.1 | exact hd.2.2.2.2.2.1 | exact hd.2.2.2.2.2.2.1 | exact hd.2.2.2.2.2.2.2.1)
                      clear hT hd hW
                      refine ⟨.bool false, ?_, rfl⟩
                      simp only [execOp]
                      go_simp
                    case s17 =>
                      refine stepS_plain rfl rfl (fun T w1 s hT hd hs hW => ?_)
                      have ec := evT_const T
                      have ef := evT_func T
                      have d125 : evT T (.tmp 125) = .bool false := (by first | exact hd.1 | exact hd.2.1 | exact hd.2.2.1 | exact hd.2.2.2.1 | exact hd.2.2.2.2.1 | exact hd.2.2.2.2.2.1 | exact hd.2.2.2.2.2.2.1 | exact hd.2.2.2.2.2.2.2.1)
                      have d133 : evT T (.tmp 133) = .bool false := (by first | exact hd.1 | exact hd.2.1 | exact hd.2.2.1 | exact hd.2.2.2.1 | exact hd.2.2.2.2.1 | exact hd.2.2.2.2.2.1 | exact hd.2.2.2.2.2.2.1 | exact hd.2.2.2.2.2.2.2.1)
                      clear hT hd hW
                      refine ⟨.bool false, ?_, rfl⟩
                      simp only [execOp]
                      go_simp
                    case s18 =>
                      refine stepS_plain rfl rfl (fun T w1 s hT hd hs hW => ?_)
                      have ec := evT_const T
                      have ef := evT_func T
                      have d134 : evT T (.tmp 134) = .bool false := (by first | exact hd.1 | exact hd.2.1 | exact hd.2.2.1 | exact hd.2.2.2.1 | exact hd.2.2.2.2.1 | exact hd.2.2.2.2.2.1 | exact hd.2.2.2.2.2.2.1 | exact hd.2.2.2.2.2.2.2.1)
                      clear hT hd hW
                      refine ⟨.bool false, ?_, rfl⟩
                      simp only [execOp]
                      go_simp
                    case s19 =>
                      refine stepS_on 18 135 false rfl rfl rfl (fun T w1 s hT hd hs hW => ⟨(by first | exact hd.1 | exact hd.2.1 | exact hd.2.2.1 | exact hd.2.2.2.1 | exact hd.2.2.2.2.1 | exact hd.2.2.2.2.2.1 | exact hd.2.2.2.2.2.2.1 | exact hd.2.2.2.2.2.2.2.1), ?_⟩)
                      have ec := evT_const T
                      have ef := evT_func T
                      have d14 : evT T (.tmp 14) = .slice (some ⟨gl, 0, none⟩) n n := hT 14 (by kernel_rfl)
                      clear hT hd hW
                      refine ⟨.slice (some ⟨gl, 0, none⟩) n n, ?_, rfl⟩
                      simp only [execOp]
                      go_simp
                    case s20 =>
                      refine stepS_on 18 135 false rfl rfl rfl (fun T w1 s hT hd hs hW => ⟨(by first | exact hd.1 | exact hd.2.1 | exact hd.2.2.1 | exact hd.2.2.2.1 | exact hd.2.2.2.2.1 | exact hd.2.2.2.2.2.1 | exact hd.2.2.2.2.2.2.1 | exact hd.2.2.2.2.2.2.2.1), ?_⟩)
                      have ec := evT_const T
                      have ef := evT_func T
                      have d16 : evT T (.tmp 16) = .slice (some ad) m c5 := hT 16 (by kernel_rfl)
                      clear hT hd hW
                      refine ⟨.slice (some ad) m c5, ?_, rfl⟩
                      simp only [execOp]
                      go_simp
                    case s21 =>
                      refine stepS_on 18 135 false rfl rfl rfl (fun T w1 s hT hd hs hW => ⟨(by first | exact hd.1 | exact hd.2.1 | exact hd.2.2.1 | exact hd.2.2.2.1 | exact hd.2.2.2.2.1 | exact hd.2.2.2.2.2.1 | exact hd.2.2.2.2.2.2.1 | exact hd.2.2.2.2.2.2.2.1), ?_⟩)
                      have ec := evT_const T
                      have ef := evT_func T
                      have d17 : evT T (.tmp 17) = .int .i64 (q : Int) := hT 17 (by kernel_rfl)
                      clear hT hd hW
                      refine ⟨.int .i64 (q : Int), ?_, rfl⟩
                      simp only [execOp]
                      go_simp
                    case s22 =>
                      refine stepS_on 18 135 false rfl rfl rfl (fun T w1 s hT hd hs hW => ⟨(by first | exact hd.1 | exact hd.2.1 | exact hd.2.2.1 | exact hd.2.2.2.1 | exact hd.2.2.2.2.1 | exact hd.2.2.2.2.2.1 | exact hd.2.2.2.2.2.2.1 | exact hd.2.2.2.2.2.2.2.1), ?_⟩)
                      have ec := evT_const T
                      have ef := evT_func T
                      have d137 : evT T (.tmp 137) = .slice (some ad) m c5 := (by first | exact hd.1 | exact hd.2.1 | exact hd.2.2.1 | exact hd.2.2.2.1 | exact hd.2.2.2.2.1 | exact hd.2.2.2.2.2.1 | exact hd.2.2.2.2.2.2.1 | exact hd.2.2.2.2.2.2.2.1)
                      have d138 : evT T (.tmp 138) = .int .i64 (q : Int) := (by first | exact hd.1 | exact hd.2.1 | exact hd.2.2.1 | exact hd.2.2.2.1 | exact hd.2.2.2.2.1 | exact hd.2.2.2.2.2.1 | exact hd.2.2.2.2.2.2.1 | exact hd.2.2.2.2.2.2.2.1)
                      have j0 : (0 : Int) ≤ (q : Int) := by omega
                      have j1 : (q : Int) < (m : Int) := by omega
                      clear hT hd hW
                      refine ⟨.pointer (some (ad.add q)), ?_, rfl⟩
                      simp only [execOp]
                      go_simp
                    case s23 =>
                      refine stepS_on 18 135 false rfl rfl rfl (fun T w1 s hT hd hs hW => ⟨(by first | exact hd.1 | exact hd.2.1 | exact hd.2.2.1 | exact hd.2.2.2.1 | exact hd.2.2.2.2.1 | exact hd.2.2.2.2.2.1 | exact hd.2.2.2.2.2.2.1 | exact hd.2.2.2.2.2.2.2.1), ?_⟩)
                      have ec := evT_const T
                      have ef := evT_func T
                      have d139 : evT T (.tmp 139) = .pointer (some (ad.add q)) := (by first | exact hd.1 | exact hd.2.1 | exact hd.2.2.1 | exact hd.2.2.2.1 | exact hd.2.2.2.2.1 | exact hd.2.2.2.2.2.1 | exact hd.2.2.2.2.2.2.1 | exact hd.2.2.2.2.2.2.2.1)
                      have q1 := hW.tcell HTQ.out
                      clear hT hd hW
                      refine ⟨.int .i64 (mm : Int), ?_, rfl⟩
                      simp only [execOp]
                      go_simp
                    case s24 =>
                      refine stepS_on 18 135 false rfl rfl rfl (fun T w1 s hT hd hs hW => ⟨(by first | exact hd.1 | exact hd.2.1 | exact hd.2.2.1 | exact hd.2.2.2.1 | exact hd.2.2.2.2.1 | exact hd.2.2.2.2.2.1 | exact hd.2.2.2.2.2.2.1 | exact hd.2.2.2.2.2.2.2.1), ?_⟩)
                      have ec := evT_const T
                      have ef := evT_func T
                      have d136 : evT T (.tmp 136) = .slice (some ⟨gl, 0, none⟩) n n := (by first | exact hd.1 | exact hd.2.1 | exact hd.2.2.1 | exact hd.2.2.2.1 | exact hd.2.2.2.2.1 | exact hd.2.2.2.2.2.1 | exact hd.2.2.2.2.2.2.1 | exact hd.2.2.2.2.2.2.2.1)
                      have d140 : evT T (.tmp 140) = .int .i64 (mm : Int) := (by first | exact hd.1 | exact hd.2.1 | exact hd.2.2.1 | exact hd.2.2.2.1 | exact hd.2.2.2.2.1 | exact hd.2.2.2.2.2.1 | exact hd.2.2.2.2.2.2.1 | exact hd.2.2.2.2.2.2.2.1)
                      have j0 : (0 : Int) ≤ (mm : Int) := by omega
                      have j1 : (mm : Int) < (n : Int) := by omega
                      clear hT hd hW
                      refine ⟨.pointer (some ⟨gl, mm, none⟩), ?_, rfl⟩
                      simp only [execOp]
                      go_simp
                    case s25 =>
                      refine stepS_on 18 135 false rfl rfl rfl (fun T w1 s hT hd hs hW => ⟨(by first | exact hd.1 | exact hd.2.1 | exact hd.2.2.1 | exact hd.2.2.2.1 | exact hd.2.2.2.2.1 | exact hd.2.2.2.2.2.1 | exact hd.2.2.2.2.2.2.1 | exact hd.2.2.2.2.2.2.2.1), ?_⟩)
                      have ec := evT_const T
                      have ef := evT_func T
                      have d141 : evT T (.tmp 141) = .pointer (some ⟨gl, mm, none⟩) := (by first | exact hd.1 | exact hd.2.1 | exact hd.2.2.1 | exact hd.2.2.2.1 | exact hd.2.2.2.2.1 | exact hd.2.2.2.2.2.1 | exact hd.2.2.2.2.2.2.1 | exact hd.2.2.2.2.2.2.2.1)
                      have q1 : w1.cell? ⟨gl, mm, none⟩ = some (.int .i64 (leftP xs (mm : Int))) := (hW.lf mm hmn).1
                      rw [HLZ.out] at q1
                      clear hT hd hW
                      refine ⟨.int .i64 0, ?_, rfl⟩
                      simp only [execOp]
                      go_simp
                    case s26 =>
                      refine stepS_on 18 135 false rfl rfl rfl (fun T w1 s hT hd hs hW => ⟨(by first | exact hd.1 | exact hd.2.1 | exact hd.2.2.1 | exact hd.2.2.2.1 | exact hd.2.2.2.2.1 | exact hd.2.2.2.2.2.1 | exact hd.2.2.2.2.2.2.1 | exact hd.2.2.2.2.2.2.2.1), ?_⟩)
                      have ec := evT_const T
                      have ef := evT_func T
                      have d142 : evT T (.tmp 142) = .int .i64 0 := (by first | exact hd.1 | exact hd.2.1 | exact hd.2.2.1 | exact hd.2.2.2.1 | exact hd.2.2.2.2.1 | exact hd.2.2.2.2.2.1 | exact hd.2.2.2.2.2.2.1 | exact hd.2.2.2.2.2.2.2.1)
                      clear hT hd hW
                      refine ⟨.bool false, ?_, rfl⟩
                      simp only [execOp]
                      go_simp
                    case s27 =>
                      refine stepS_plain rfl rfl (fun T w1 s hT hd hs hW => ?_)
                      have ec := evT_const T
                      have ef := evT_func T
                      have d135 : evT T (.tmp 135) = .bool false := (by first | exact hd.1 | exact hd.2.1 | exact hd.2.2.1 | exact hd.2.2.2.1 | exact hd.2.2.2.2.1 | exact hd.2.2.2.2.2.1 | exact hd.2.2.2.2.2.2.1 | exact hd.2.2.2.2.2.2.2.1)
                      have d143 : evT T (.tmp 143) = .bool false := (by first | exact hd.1 | exact hd.2.1 | exact hd.2.2.1 | exact hd.2.2.2.1 | exact hd.2.2.2.2.1 | exact hd.2.2.2.2.2.1 | exact hd.2.2.2.2.2.2.1 | exact hd.2.2.2.2.2.2.2.1)
                      clear hT hd hW
                      refine ⟨.bool false, ?_, rfl⟩
                      simp only [execOp]
                      go_simp
                    case s28 =>
                      refine stepS_plain rfl rfl (fun T w1 s hT hd hs hW => ?_)
                      have ec := evT_const T
                      have ef := evT_func T
                      have d144 : evT T (.tmp 144) = .bool false := (by first | exact hd.1 | exact hd.2.1 | exact hd.2.2.1 | exact hd.2.2.2.1 | exact hd.2.2.2.2.1 | exact hd.2.2.2.2.2.1 | exact hd.2.2.2.2.2.2.1 | exact hd.2.2.2.2.2.2.2.1)
                      clear hT hd hW
                      refine ⟨.bool false, ?_, rfl⟩
                      simp only [execOp]
                      go_simp
                    case s29 =>
                      refine stepS_on 28 145 false rfl rfl rfl (fun T w1 s hT hd hs hW => ⟨(by first | exact hd.1 | exact hd.2.1 | exact hd.2.2.1 | exact hd.2.2.2.1 | exact hd.2.2.2.2.1 | exact hd.2.2.2.2.2.1 | exact hd.2.2.2.2.2.2.1 | exact hd.2.2.2.2.2.2.2.1), ?_⟩)
                      have ec := evT_const T
                      have ef := evT_func T
                      have d7 : evT T (.tmp 7) = .pointer (some ⟨b, 0, none⟩) := hT 7 (by kernel_rfl)
                      clear hT hd hW
                      refine ⟨.pointer (some ⟨b, 0, none⟩), ?_, rfl⟩
                      simp only [execOp]
                      go_simp
                    case s30 =>
                      refine stepS_on 28 145 false rfl rfl rfl (fun T w1 s hT hd hs hW => ⟨(by first | exact hd.1 | exact hd.2.1 | exact hd.2.2.1 | exact hd.2.2.2.1 | exact hd.2.2.2.2.1 | exact hd.2.2.2.2.2.1 | exact hd.2.2.2.2.2.2.1 | exact hd.2.2.2.2.2.2.2.1), ?_⟩)
                      have ec := evT_const T
                      have ef := evT_func T
                      have d16 : evT T (.tmp 16) = .slice (some ad) m c5 := hT 16 (by kernel_rfl)
                      clear hT hd hW
                      refine ⟨.slice (some ad) m c5, ?_, rfl⟩
                      simp only [execOp]
                      go_simp
                    case s31 =>
                      refine stepS_on 28 145 false rfl rfl rfl (fun T w1 s hT hd hs hW => ⟨(by first | exact hd.1 | exact hd.2.1 | exact hd.2.2.1 | exact hd.2.2.2.1 | exact hd.2.2.2.2.1 | exact hd.2.2.2.2.2.1 | exact hd.2.2.2.2.2.2.1 | exact hd.2.2.2.2.2.2.2.1), ?_⟩)
                      have ec := evT_const T
                      have ef := evT_func T
                      have d17 : evT T (.tmp 17) = .int .i64 (q : Int) := hT 17 (by kernel_rfl)
                      clear hT hd hW
                      refine ⟨.int .i64 (q : Int), ?_, rfl⟩
                      simp only [execOp]
                      go_simp
                    case s32 =>
                      refine stepS_on 28 145 false rfl rfl rfl (fun T w1 s hT hd hs hW => ⟨(by first | exact hd.1 | exact hd.2.1 | exact hd.2.2.1 | exact hd.2.2.2.1 | exact hd.2.2.2.2.1 | exact hd.2.2.2.2.2.1 | exact hd.2.2.2.2.2.2.1 | exact hd.2.2.2.2.2.2.2.1), ?_⟩)
                      have ec := evT_const T
                      have ef := evT_func T
                      have d147 : evT T (.tmp 147) = .slice (some ad) m c5 := (by first | exact hd.1 | exact hd.2.1 | exact hd.2.2.1 | exact hd.2.2.2.1 | exact hd.2.2.2.2.1 | exact hd.2.2.2.2.2.1 | exact hd.2.2.2.2.2.2.1 | exact hd.2.2.2.2.2.2.2.1)
                      have d148 : evT T (.tmp 148) = .int .i64 (q : Int) := (by first | exact hd.1 | exact hd.2.1 | exact hd.2.2.1 | exact hd.2.2.2.1 | exact hd.2.2.2.2.1 | exact hd.2.2.2.2.2.1 | exact hd.2.2.2.2.2.2.1 | exact hd.2.2.2.2.2.2.2.1)
                      have j0 : (0 : Int) ≤ (q : Int) := by omega
                      have j1 : (q : Int) < (m : Int) := by omega
                      clear hT hd hW
                      refine ⟨.pointer (some (ad.add q)), ?_, rfl⟩
                      simp only [execOp]
                      go_simp
                    case s33 =>
                      refine stepS_on 28 145 false rfl rfl rfl (fun T w1 s hT hd hs hW => ⟨(by first | exact hd.1 | exact hd.2.1 | exact hd.2.2.1 | exact hd.2.2.2.1 | exact hd.2.2.2.2.1 | exact hd.2.2.2.2.2.1 | exact hd.2.2.2.2.2.2.1 | exact hd.2.2.2.2.2.2.2.1), ?_⟩)
                      have ec := evT_const T
                      have ef := evT_func T
                      have d149 : evT T (.tmp 149) = .pointer (some (ad.add q)) := (by first | exact hd.1 | exact hd.2.1 | exact hd.2.2.1 | exact hd.2.2.2.1 | exact hd.2.2.2.2.1 | exact hd.2.2.2.2.2.1 | exact hd.2.2.2.2.2.2.1 | exact hd.2.2.2.2.2.2.2.1)
                      have q1 := hW.tcell HTQ.out
                      clear hT hd hW
                      refine ⟨.int .i64 (mm : Int), ?_, rfl⟩
                      simp only [execOp]
                      go_simp
                    case s34 =>
                      refine stepC_on 0 28 145 false rfl rfl rfl (fun T w1 hT hd hW => ⟨(by first | exact hd.1 | exact hd.2.1 | exact hd.2.2.1 | exact hd.2.2.2.1 | exact hd.2.2.2.2.1 | exact hd.2.2.2.2.2.1 | exact hd.2.2.2.2.2.2.1 | exact hd.2.2.2.2.2.2.2.1), ?_⟩)
                      have ec := evT_const T
                      have ef := evT_func T
                      have d146 : evT T (.tmp 146) = .pointer (some ⟨b, 0, none⟩) := (by first | exact hd.1 | exact hd.2.1 | exact hd.2.2.1 | exact hd.2.2.2.1 | exact hd.2.2.2.2.1 | exact hd.2.2.2.2.2.1 | exact hd.2.2.2.2.2.2.1 | exact hd.2.2.2.2.2.2.2.1)
                      have d150 : evT T (.tmp 150) = .int .i64 (mm : Int) := (by first | exact hd.1 | exact hd.2.1 | exact hd.2.2.1 | exact hd.2.2.2.1 | exact hd.2.2.2.2.1 | exact hd.2.2.2.2.2.1 | exact hd.2.2.2.2.2.2.1 | exact hd.2.2.2.2.2.2.2.1)
                      refine ⟨21, #[.pointer (some ⟨b, 0, none⟩), .int .i64 (mm : Int)], ?_, ?_⟩
                      · clear hT hd hW
                        simp only [execOp, resolve]
                        go_simp
                      · have hX : Dd w3 w1 b bl bh L xs (tickT xs) gw gh gl n BB (.slice (some ad) m c5) TT q := hW
                        refine (hX.held hmw).mono ?_
                        rintro e w2 ⟨rfl, h2⟩
                        exact ⟨_, rfl, by rw [HHF.out]; rfl, h2⟩
                    case s35 =>
                      refine stepS_plain rfl rfl (fun T w1 s hT hd hs hW => ?_)
                      have ec := evT_const T
                      have ef := evT_func T
                      have d145 : evT T (.tmp 145) = .bool false := (by first | exact hd.1 | exact hd.2.1 | exact hd.2.2.1 | exact hd.2.2.2.1 | exact hd.2.2.2.2.1 | exact hd.2.2.2.2.2.1 | exact hd.2.2.2.2.2.2.1 | exact hd.2.2.2.2.2.2.2.1)
                      have d151 : evT T (.tmp 151) = .bool false := (by first | exact hd.1 | exact hd.2.1 | exact hd.2.2.1 | exact hd.2.2.2.1 | exact hd.2.2.2.2.1 | exact hd.2.2.2.2.2.1 | exact hd.2.2.2.2.2.2.1 | exact hd.2.2.2.2.2.2.2.1)
                      clear hT hd hW
                      refine ⟨.bool false, ?_, rfl⟩
                      simp only [execOp]
                      go_simp
                    case s36 =>
                      refine stepS_plain rfl rfl (fun T w1 s hT hd hs hW => ?_)
                      have ec := evT_const T
                      have ef := evT_func T
                      have d152 : evT T (.tmp 152) = .bool false := (by first | exact hd.1 | exact hd.2.1 | exact hd.2.2.1 | exact hd.2.2.2.1 | exact hd.2.2.2.2.1 | exact hd.2.2.2.2.2.1 | exact hd.2.2.2.2.2.2.1 | exact hd.2.2.2.2.2.2.2.1)
                      clear hT hd hW
                      refine ⟨.bool false, ?_, rfl⟩
                      simp only [execOp]
                      go_simp
                    case s37 =>
                      refine stepS_on 36 153 false rfl rfl rfl (fun T w1 s hT hd hs hW => ⟨(by first | exact hd.1 | exact hd.2.1 | exact hd.2.2.1 | exact hd.2.2.2.1 | exact hd.2.2.2.2.1 | exact hd.2.2.2.2.2.1 | exact hd.2.2.2.2.2.2.1 | exact hd.2.2.2.2.2.2.2.1), ?_⟩)
                      have ec := evT_const T
                      have ef := evT_func T
                      have d17 : evT T (.tmp 17) = .int .i64 (q : Int) := hT 17 (by kernel_rfl)
                      clear hT hd hW
                      refine ⟨.int .i64 (q : Int), ?_, rfl⟩
                      simp only [execOp]
                      go_simp
                    case s38 =>
                      refine stepS_on 36 153 false rfl rfl rfl (fun T w1 s hT hd hs hW => ⟨(by first | exact hd.1 | exact hd.2.1 | exact hd.2.2.1 | exact hd.2.2.2.1 | exact hd.2.2.2.2.1 | exact hd.2.2.2.2.2.1 | exact hd.2.2.2.2.2.2.1 | exact hd.2.2.2.2.2.2.2.1), ?_⟩)
                      have ec := evT_const T
                      have ef := evT_func T
                      have d154 : evT T (.tmp 154) = .int .i64 (q : Int) := (by first | exact hd.1 | exact hd.2.1 | exact hd.2.2.1 | exact hd.2.2.2.1 | exact hd.2.2.2.2.1 | exact hd.2.2.2.2.2.1 | exact hd.2.2.2.2.2.2.1 | exact hd.2.2.2.2.2.2.2.1)
                      have y1 : (0 : Int) < (q : Int) := by omega
                      have y2 : 0 < q := hq0
                      clear hT hd hW
                      refine ⟨.bool true, ?_, rfl⟩
                      simp only [execOp]
                      go_simp
                    case s39 =>
                      refine stepS_on 36 153 false rfl rfl rfl (fun T w1 s hT hd hs hW => ⟨(by first | exact hd.1 | exact hd.2.1 | exact hd.2.2.1 | exact hd.2.2.2.1 | exact hd.2.2.2.2.1 | exact hd.2.2.2.2.2.1 | exact hd.2.2.2.2.2.2.1 | exact hd.2.2.2.2.2.2.2.1), ?_⟩)
                      have ec := evT_const T
                      have ef := evT_func T
                      have d155 : evT T (.tmp 155) = .bool true := (by first | exact hd.1 | exact hd.2.1 | exact hd.2.2.1 | exact hd.2.2.2.1 | exact hd.2.2.2.2.1 | exact hd.2.2.2.2.2.1 | exact hd.2.2.2.2.2.2.1 | exact hd.2.2.2.2.2.2.2.1)
                      clear hT hd hW
                      refine ⟨.bool true, ?_, rfl⟩
                      simp only [execOp]
                      go_simp
                    case s40 =>
                      refine stepS_on 39 156 true rfl rfl rfl (fun T w1 s hT hd hs hW => ⟨(by first | exact hd.1 | exact hd.2.1 | exact hd.2.2.1 | exact hd.2.2.2.1 | exact hd.2.2.2.2.1 | exact hd.2.2.2.2.2.1 | exact hd.2.2.2.2.2.2.1 | exact hd.2.2.2.2.2.2.2.1), ?_⟩)
                      have ec := evT_const T
                      have ef := evT_func T
                      have d16 : evT T (.tmp 16) = .slice (some ad) m c5 := hT 16 (by kernel_rfl)
                      clear hT hd hW
                      refine ⟨.slice (some ad) m c5, ?_, rfl⟩
                      simp only [execOp]
                      go_simp
                    case s41 =>
                      refine stepS_on 39 156 true rfl rfl rfl (fun T w1 s hT hd hs hW => ⟨(by first | exact hd.1 | exact hd.2.1 | exact hd.2.2.1 | exact hd.2.2.2.1 | exact hd.2.2.2.2.1 | exact hd.2.2.2.2.2.1 | exact hd.2.2.2.2.2.2.1 | exact hd.2.2.2.2.2.2.2.1), ?_⟩)
                      have ec := evT_const T
                      have ef := evT_func T
                      have d17 : evT T (.tmp 17) = .int .i64 (q : Int) := hT 17 (by kernel_rfl)
                      clear hT hd hW
                      refine ⟨.int .i64 (q : Int), ?_, rfl⟩
                      simp only [execOp]
                      go_simp
                    case s42 =>
                      refine stepS_on 39 156 true rfl rfl rfl (fun T w1 s hT hd hs hW => ⟨(by first | exact hd.1 | exact hd.2.1 | exact hd.2.2.1 | exact hd.2.2.2.1 | exact hd.2.2.2.2.1 | exact hd.2.2.2.2.2.1 | exact hd.2.2.2.2.2.2.1 | exact hd.2.2.2.2.2.2.2.1), ?_⟩)
                      have ec := evT_const T
                      have ef := evT_func T
                      have d157 : evT T (.tmp 157) = .slice (some ad) m c5 := (by first | exact hd.1 | exact hd.2.1 | exact hd.2.2.1 | exact hd.2.2.2.1 | exact hd.2.2.2.2.1 | exact hd.2.2.2.2.2.1 | exact hd.2.2.2.2.2.2.1 | exact hd.2.2.2.2.2.2.2.1)
                      have d158 : evT T (.tmp 158) = .int .i64 (q : Int) := (by first | exact hd.1 | exact hd.2.1 | exact hd.2.2.1 | exact hd.2.2.2.1 | exact hd.2.2.2.2.1 | exact hd.2.2.2.2.2.1 | exact hd.2.2.2.2.2.2.1 | exact hd.2.2.2.2.2.2.2.1)
                      have j0 : (0 : Int) ≤ (q : Int) := by omega
                      have j1 : (q : Int) < (m : Int) := by omega
                      clear hT hd hW
                      refine ⟨.pointer (some (ad.add q)), ?_, rfl⟩
                      simp only [execOp]
                      go_simp
                    case s43 =>
                      refine stepS_on 39 156 true rfl rfl rfl (fun T w1 s hT hd hs hW => ⟨(by first | exact hd.1 | exact hd.2.1 | exact hd.2.2.1 | exact hd.2.2.2.1 | exact hd.2.2.2.2.1 | exact hd.2.2.2.2.2.1 | exact hd.2.2.2.2.2.2.1 | exact hd.2.2.2.2.2.2.2.1), ?_⟩)
                      have ec := evT_const T
                      have ef := evT_func T
                      have d159 : evT T (.tmp 159) = .pointer (some (ad.add q)) := (by first | exact hd.1 | exact hd.2.1 | exact hd.2.2.1 | exact hd.2.2.2.1 | exact hd.2.2.2.2.1 | exact hd.2.2.2.2.2.1 | exact hd.2.2.2.2.2.2.1 | exact hd.2.2.2.2.2.2.2.1)
                      have q1 := hW.tcell HTQ.out
                      clear hT hd hW
                      refine ⟨.int .i64 (mm : Int), ?_, rfl⟩
                      simp only [execOp]
                      go_simp
                    case s44 =>
                      refine stepS_on 39 156 true rfl rfl rfl (fun T w1 s hT hd hs hW => ⟨(by first | exact hd.1 | exact hd.2.1 | exact hd.2.2.1 | exact hd.2.2.2.1 | exact hd.2.2.2.2.1 | exact hd.2.2.2.2.2.1 | exact hd.2.2.2.2.2.2.1 | exact hd.2.2.2.2.2.2.2.1), ?_⟩)
                      have ec := evT_const T
                      have ef := evT_func T
                      have d16 : evT T (.tmp 16) = .slice (some ad) m c5 := hT 16 (by kernel_rfl)
                      clear hT hd hW
                      refine ⟨.slice (some ad) m c5, ?_, rfl⟩
                      simp only [execOp]
                      go_simp
                    case s45 =>
                      refine stepS_on 39 156 true rfl rfl rfl (fun T w1 s hT hd hs hW => ⟨(by first | exact hd.1 | exact hd.2.1 | exact hd.2.2.1 | exact hd.2.2.2.1 | exact hd.2.2.2.2.1 | exact hd.2.2.2.2.2.1 | exact hd.2.2.2.2.2.2.1 | exact hd.2.2.2.2.2.2.2.1), ?_⟩)
                      have ec := evT_const T
                      have ef := evT_func T
                      have d17 : evT T (.tmp 17) = .int .i64 (q : Int) := hT 17 (by kernel_rfl)
                      clear hT hd hW
                      refine ⟨.int .i64 (q : Int), ?_, rfl⟩
                      simp only [execOp]
                      go_simp
                    case s46 =>
                      refine stepS_on 39 156 true rfl rfl rfl (fun T w1 s hT hd hs hW => ⟨(by first | exact hd.1 | exact hd.2.1 | exact hd.2.2.1 | exact hd.2.2.2.1 | exact hd.2.2.2.2.1 | exact hd.2.2.2.2.2.1 | exact hd.2.2.2.2.2.2.1 | exact hd.2.2.2.2.2.2.2.1), ?_⟩)
                      have ec := evT_const T
                      have ef := evT_func T
                      have d162 : evT T (.tmp 162) = .int .i64 (q : Int) := (by first | exact hd.1 | exact hd.2.1 | exact hd.2.2.1 | exact hd.2.2.2.1 | exact hd.2.2.2.2.1 | exact hd.2.2.2.2.2.1 | exact hd.2.2.2.2.2.2.1 | exact hd.2.2.2.2.2.2.2.1)
                      have y1 : IntKind.i64.wrap ((q : Int) - 1) = (p : Int) := by have hp := HP.out; rw [IntWalk.i64_in _ (by omega)]; omega
                      clear hT hd hW
                      refine ⟨.int .i64 (p : Int), ?_, rfl⟩
                      simp only [execOp]
                      go_simp
                    case s47 =>
                      refine stepS_on 39 156 true rfl rfl rfl (fun T w1 s hT hd hs hW => ⟨(by first | exact hd.1 | exact hd.2.1 | exact hd.2.2.1 | exact hd.2.2.2.1 | exact hd.2.2.2.2.1 | exact hd.2.2.2.2.2.1 | exact hd.2.2.2.2.2.2.1 | exact hd.2.2.2.2.2.2.2.1), ?_⟩)
                      have ec := evT_const T
                      have ef := evT_func T
                      have d161 : evT T (.tmp 161) = .slice (some ad) m c5 := (by first | exact hd.1 | exact hd.2.1 | exact hd.2.2.1 | exact hd.2.2.2.1 | exact hd.2.2.2.2.1 | exact hd.2.2.2.2.2.1 | exact hd.2.2.2.2.2.2.1 | exact hd.2.2.2.2.2.2.2.1)
                      have d163 : evT T (.tmp 163) = .int .i64 (p : Int) := (by first | exact hd.1 | exact hd.2.1 | exact hd.2.2.1 | exact hd.2.2.2.1 | exact hd.2.2.2.2.1 | exact hd.2.2.2.2.2.1 | exact hd.2.2.2.2.2.2.1 | exact hd.2.2.2.2.2.2.2.1)
                      have j0 : (0 : Int) ≤ (p : Int) := by omega
                      have j1 : (p : Int) < (m : Int) := by have hp := HP.out; omega
                      clear hT hd hW
                      refine ⟨.pointer (some (ad.add p)), ?_, rfl⟩
                      simp only [execOp]
                      go_simp
                    case s48 =>
                      refine stepS_on 39 156 true rfl rfl rfl (fun T w1 s hT hd hs hW => ⟨(by first | exact hd.1 | exact hd.2.1 | exact hd.2.2.1 | exact hd.2.2.2.1 | exact hd.2.2.2.2.1 | exact hd.2.2.2.2.2.1 | exact hd.2.2.2.2.2.2.1 | exact hd.2.2.2.2.2.2.2.1), ?_⟩)
                      have ec := evT_const T
                      have ef := evT_func T
                      have d164 : evT T (.tmp 164) = .pointer (some (ad.add p)) := (by first | exact hd.1 | exact hd.2.1 | exact hd.2.2.1 | exact hd.2.2.2.1 | exact hd.2.2.2.2.1 | exact hd.2.2.2.2.2.1 | exact hd.2.2.2.2.2.2.1 | exact hd.2.2.2.2.2.2.2.1)
                      have q1 := hW.tcell HTP.out
                      clear hT hd hW
                      refine ⟨.int .i64 pm, ?_, rfl⟩
                      simp only [execOp]
                      go_simp
                    case s49 =>
                      refine stepS_on 39 156 true rfl rfl rfl (fun T w1 s hT hd hs hW => ⟨(by first | exact hd.1 | exact hd.2.1 | exact hd.2.2.1 | exact hd.2.2.2.1 | exact hd.2.2.2.2.1 | exact hd.2.2.2.2.2.1 | exact hd.2.2.2.2.2.2.1 | exact hd.2.2.2.2.2.2.2.1), ?_⟩)
                      have ec := evT_const T
                      have ef := evT_func T
                      have d160 : evT T (.tmp 160) = .int .i64 (mm : Int) := (by first | exact hd.1 | exact hd.2.1 | exact hd.2.2.1 | exact hd.2.2.2.1 | exact hd.2.2.2.2.1 | exact hd.2.2.2.2.2.1 | exact hd.2.2.2.2.2.2.1 | exact hd.2.2.2.2.2.2.2.1)
                      have d165 : evT T (.tmp 165) = .int .i64 pm := (by first | exact hd.1 | exact hd.2.1 | exact hd.2.2.1 | exact hd.2.2.2.1 | exact hd.2.2.2.2.1 | exact hd.2.2.2.2.2.1 | exact hd.2.2.2.2.2.2.1 | exact hd.2.2.2.2.2.2.2.1)
                      have y1 : ¬ ((mm : Int) ≤ pm) := by have := HPM.out; omega
                      clear hT hd hW
                      refine ⟨.bool false, ?_, rfl⟩
                      simp only [execOp]
                      go_simp
                    case s50 =>
                      refine stepS_on 36 153 false rfl rfl rfl (fun T w1 s hT hd hs hW => ⟨(by first | exact hd.1 | exact hd.2.1 | exact hd.2.2.1 | exact hd.2.2.2.1 | exact hd.2.2.2.2.1 | exact hd.2.2.2.2.2.1 | exact hd.2.2.2.2.2.2.1 | exact hd.2.2.2.2.2.2.2.1), ?_⟩)
                      have ec := evT_const T
                      have ef := evT_func T
                      have d156 : evT T (.tmp 156) = .bool true := (by first | exact hd.1 | exact hd.2.1 | exact hd.2.2.1 | exact hd.2.2.2.1 | exact hd.2.2.2.2.1 | exact hd.2.2.2.2.2.1 | exact hd.2.2.2.2.2.2.1 | exact hd.2.2.2.2.2.2.2.1)
                      have d166 : evT T (.tmp 166) = .bool false := (by first | exact hd.1 | exact hd.2.1 | exact hd.2.2.1 | exact hd.2.2.2.1 | exact hd.2.2.2.2.1 | exact hd.2.2.2.2.2.1 | exact hd.2.2.2.2.2.2.1 | exact hd.2.2.2.2.2.2.2.1)
                      clear hT hd hW
                      refine ⟨.bool false, ?_, rfl⟩
                      simp only [execOp]
                      go_simp
                    case s51 =>
                      refine stepS_plain rfl rfl (fun T w1 s hT hd hs hW => ?_)
                      have ec := evT_const T
                      have ef := evT_func T
                      have d153 : evT T (.tmp 153) = .bool false := (by first | exact hd.1 | exact hd.2.1 | exact hd.2.2.1 | exact hd.2.2.2.1 | exact hd.2.2.2.2.1 | exact hd.2.2.2.2.2.1 | exact hd.2.2.2.2.2.2.1 | exact hd.2.2.2.2.2.2.2.1)
                      have d167 : evT T (.tmp 167) = .bool false := (by first | exact hd.1 | exact hd.2.1 | exact hd.2.2.1 | exact hd.2.2.2.1 | exact hd.2.2.2.2.1 | exact hd.2.2.2.2.2.1 | exact hd.2.2.2.2.2.2.1 | exact hd.2.2.2.2.2.2.2.1)
                      clear hT hd hW
                      refine ⟨.bool false, ?_, rfl⟩
                      simp only [execOp]
                      go_simp
                    case fin =>
                      intro T w1 hT hW hd
                      have e168 : T 168 = .bool false := hd.2.2.2.2.2.2.2.2.2.2.2.2.2.2.2.2.2.2.2.2.2.2.2.2.2.2.2.2.2.2.2.2.2.2.2.2.2.2.2.2.2.2.2.2.2.2.2.2.2.2.2.1
                      simp only [putL, Act.put, Option.getD_some, List.setIfInBounds_toArray, List.set_cons_zero, List.set_cons_succ]
                      rw [e168]
                      clear e168
                      have hD : Dd w3 w1 b bl bh L xs (tickT xs) gw gh gl n BB (.slice (some ad) m c5) TT q := hW
                      have q1 := hD.tcell HTQ.out
                      obtain ⟨q0, q3⟩ := hD.wt mm hmn
                      have q2 : w1.cell? ⟨gw, mm, none⟩ = some (.bool (wqB xs TT q mm)) := q0
                      have HDs := Lib.hid (hD.step hmn HTQ.out)
                      have j0 : (0 : Int) ≤ (q : Int) := by omega
                      have j1 : (q : Int) < (m : Int) := by omega
                      have j2 : (0 : Int) ≤ (mm : Int) := by omega
                      have j3 : (mm : Int) < (n : Int) := by omega
                      clear hT hd hW hD q0
                      go_wp2
                      go_roundw
                      case rel => exact ⟨q + 1, hqt, by go_num, HDs⟩
                      case measure => simp [intOf]; omega
                  · clear HPR
                    refine region_stagedP 1 (fun t => match t with | _ => 34) (fun i => if i = 34 then some 0 else none) (GPL [isV (.slice (some ⟨gh, 0, none⟩) n n), isV (.slice (some ad) m c5), isV (.int .i64 (q : Int)), isV (.pointer (some (ad.add q))), isV (.int .i64 (mm : Int)), isV (.pointer (some ⟨gh, mm, none⟩)), isV (.bool true), isV (.bool false), isV (.bool false), isV (.slice (some ⟨gw, 0, none⟩) n n), isV (.slice (some ad) m c5), isV (.int .i64 (q : Int)), isV (.pointer (some (ad.add q))), isV (.int .i64 (mm : Int)), isV (.pointer (some ⟨gw, mm, none⟩)), isV (.bool true), isV (.bool false), isV (.bool false), isV (.bool false), isV (.slice (some ⟨gl, 0, none⟩) n n), isV (.slice (some ad) m c5), isV (.int .i64 (q : Int)), isV (.pointer (some (ad.add q))), isV (.int .i64 (mm : Int)), isV (.pointer (some ⟨gl, mm, none⟩)), isV (.int .i64 0), isV (.bool false), isV (.bool false), isV (.bool false), isV (.pointer (some ⟨b, 0, none⟩)), isV (.slice (some ad) m c5), isV (.int .i64 (q : Int)), isV (.pointer (some (ad.add q))), isV (.int .i64 (mm : Int)), isV (.bool false), isV (.bool false), isV (.bool false), isV (.int .i64 (q : Int)), isV (.bool false), isV (.bool false), isV (undef), isV (undef), isV (undef), isV (undef), isV (undef), isV (undef), isV (undef), isV (undef), isV (undef), isV (undef), isV (.bool false), isV (.bool false)]) (fun s w => Dd w3 w b bl bh L xs (tickT xs) gw gh gl n BB (.slice (some ad) m c5) TT q) 233 (by kernel_rfl) rfl (by kernel_rfl) ⟨?ca, ?cb, ?cp⟩ ?cs ?c0 ⟨?s0, ?s1, ?s2, ?s3, ?s4, ?s5, ?s6, ?s7, ?s8, ?s9, ?s10, ?s11, ?s12, ?s13, ?s14, ?s15, ?s16, ?s17, ?s18, ?s19, ?s20, ?s21, ?s22, ?s23, ?s24, ?s25, ?s26, ?s27, ?s28, ?s29, ?s30, ?s31, ?s32, ?s33, ?s34, ?s35, ?s36, ?s37, ?s38, ?s39, ?s40, ?s41, ?s42, ?s43, ?s44, ?s45, ?s46, ?s47, ?s48, ?s49, ?s50, ?s51, trivial⟩ ?fin
                    case ca =>
                      intro i t h
                      split at h
                      · injection h with h; subst h; rename_i e; exact ⟨by omega, e.symm⟩
                      · cases h
                    case cb =>
                      intro t ht
                      match t, ht with
                      | 0, _ => rfl
                    case cp =>
                      intro t ht
                      omega
                    case cs =>
                      intro t ht
                      match t, ht with
                      | 0, _ => exact (by decide : 34 < 52)
                    case c0 => exact HQ.out.drew
                    case s0 =>
                      refine stepS_plain rfl rfl (fun T w1 s hT hd hs hW => ?_)
                      have ec := evT_const T
                      have ef := evT_func T
                      have d13 : evT T (.tmp 13) = .slice (some ⟨gh, 0, none⟩) n n := hT 13 (by kernel_rfl)
                      clear hT hd hW
                      refine ⟨.slice (some ⟨gh, 0, none⟩) n n, ?_, rfl⟩
                      simp only [execOp]
                      go_simp
                    case s1 =>
                      refine stepS_plain rfl rfl (fun T w1 s hT hd hs hW => ?_)
                      have ec := evT_const T
                      have ef := evT_func T
                      have d16 : evT T (.tmp 16) = .slice (some ad) m c5 := hT 16 (by kernel_rfl)
                      clear hT hd hW
                      refine ⟨.slice (some ad) m c5, ?_, rfl⟩
                      simp only [execOp]
                      go_simp
                    case s2 =>
                      refine stepS_plain rfl rfl (fun T w1 s hT hd hs hW => ?_)
                      have ec := evT_const T
                      have ef := evT_func T
                      have d17 : evT T (.tmp 17) = .int .i64 (q : Int) := hT 17 (by kernel_rfl)
                      clear hT hd hW
                      refine ⟨.int .i64 (q : Int), ?_, rfl⟩
                      simp only [execOp]
                      go_simp
                    case s3 =>
                      refine stepS_plain rfl rfl (fun T w1 s hT hd hs hW => ?_)
                      have ec := evT_const T
                      have ef := evT_func T
                      have d118 : evT T (.tmp 118) = .slice (some ad) m c5 := (by first | exact hd.1 | exact hd.2.1 | exact hd.2.2.1 | exact hd.2.2.2.1 | exact hd.2.2.2.2.1 | exact hd.2.2.2.2.2.1 | exact hd.2.2.2.2.2.2.1 | exact hd.2.2.2.2.2.2.2.1)
                      have d119 : evT T (.tmp 119) = .int .i64 (q : Int) := (by first | exact hd.1 | exact hd.2.1 | exact hd.2.2.1 | exact hd.2.2.2.1 | exact hd.2.2.2.2.1 | exact hd.2.2.2.2.2.1 | exact hd.2.2.2.2.2.2.1 | exact hd.2.2.2.2.2.2.2.1)
                      have j0 : (0 : Int) ≤ (q : Int) := by omega
                      have j1 : (q : Int) < (m : Int) := by omega
                      clear hT hd hW
                      refine ⟨.pointer (some (ad.add q)), ?_, rfl⟩
                      simp only [execOp]
                      go_simp
                    case s4 =>
                      refine stepS_plain rfl rfl (fun T w1 s hT hd hs hW => ?_)
                      have ec := evT_const T
                      have ef := evT_func T
                      have d120 : evT T (.tmp 120) = .pointer (some (ad.add q)) := (by first | exact hd.1 | exact hd.2.1 | exact hd.2.2.1 | exact hd.2.2.2.1 | exact hd.2.2.2.2.1 | exact hd.2.2.2.2.2.1 | exact hd.2.2.2.2.2.2.1 | exact hd.2.2.2.2.2.2.2.1)
                      have q1 := hW.tcell HTQ.out
                      clear hT hd hW
                      refine ⟨.int .i64 (mm : Int), ?_, rfl⟩
                      simp only [execOp]
                      go_simp
                    case s5 =>
                      refine stepS_plain rfl rfl (fun T w1 s hT hd hs hW => ?_)
                      have ec := evT_const T
                      have ef := evT_func T
                      have d117 : evT T (.tmp 117) = .slice (some ⟨gh, 0, none⟩) n n := (by first | exact hd.1 | exact hd.2.1 | exact hd.2.2.1 | exact hd.2.2.2.1 | exact hd.2.2.2.2.1 | exact hd.2.2.2.2.2.1 | exact hd.2.2.2.2.2.2.1 | exact hd.2.2.2.2.2.2.2.1)
                      have d121 : evT T (.tmp 121) = .int .i64 (mm : Int) := (by first | exact hd.1 | exact hd.2.1 | exact hd.2.2.1 | exact hd.2.2.2.1 | exact hd.2.2.2.2.1 | exact hd.2.2.2.2.2.1 | exact hd.2.2.2.2.2.2.1 | exact hd.2.2.2.2.2.2.2.1)
                      have j0 : (0 : Int) ≤ (mm : Int) := by omega
                      have j1 : (mm : Int) < (n : Int) := by omega
                      clear hT hd hW
                      refine ⟨.pointer (some ⟨gh, mm, none⟩), ?_, rfl⟩
                      simp only [execOp]
                      go_simp
                    case s6 =>
                      refine stepS_plain rfl rfl (fun T w1 s hT hd hs hW => ?_)
                      have ec := evT_const T
                      have ef := evT_func T
                      have d122 : evT T (.tmp 122) = .pointer (some ⟨gh, mm, none⟩) := (by first | exact hd.1 | exact hd.2.1 | exact hd.2.2.1 | exact hd.2.2.2.1 | exact hd.2.2.2.2.1 | exact hd.2.2.2.2.2.1 | exact hd.2.2.2.2.2.2.1 | exact hd.2.2.2.2.2.2.2.1)
                      have q1 : w1.cell? ⟨gh, mm, none⟩ = some (.bool (heldP xs (mm : Int))) := (hW.hd mm hmn).1
                      rw [HH.out] at q1
                      clear hT hd hW
                      refine ⟨.bool true, ?_, rfl⟩
                      simp only [execOp]
                      go_simp
                    case s7 =>
                      refine stepS_plain rfl rfl (fun T w1 s hT hd hs hW => ?_)
                      have ec := evT_const T
                      have ef := evT_func T
                      have d123 : evT T (.tmp 123) = .bool true := (by first | exact hd.1 | exact hd.2.1 | exact hd.2.2.1 | exact hd.2.2.2.1 | exact hd.2.2.2.2.1 | exact hd.2.2.2.2.2.1 | exact hd.2.2.2.2.2.2.1 | exact hd.2.2.2.2.2.2.2.1)
                      clear hT hd hW
                      refine ⟨.bool false, ?_, rfl⟩
                      simp only [execOp]
                      go_simp
                    case s8 =>
                      refine stepS_plain rfl rfl (fun T w1 s hT hd hs hW => ?_)
                      have ec := evT_const T
                      have ef := evT_func T
                      have d124 : evT T (.tmp 124) = .bool false := (by first | exact hd.1 | exact hd.2.1 | exact hd.2.2.1 | exact hd.2.2.2.1 | exact hd.2.2.2.2.1 | exact hd.2.2.2.2.2.1 | exact hd.2.2.2.2.2.2.1 | exact hd.2.2.2.2.2.2.2.1)
                      clear hT hd hW
                      refine ⟨.bool false, ?_, rfl⟩
                      simp only [execOp]
                      go_simp
                    case s9 =>
                      refine stepS_on 8 125 false rfl rfl rfl (fun T w1 s hT hd hs hW => ⟨(by first | exact hd.1 | exact hd.2.1 | exact hd.2.2.1 | exact hd.2.2.2.1 | exact hd.2.2.2.2.1 | exact hd.2.2.2.2.2.1 | exact hd.2.2.2.2.2.2.1 | exact hd.2.2.2.2.2.2.2.1), ?_⟩)
                      have ec := evT_const T
                      have ef := evT_func T
                      have d9 : evT T (.tmp 9) = .slice (some ⟨gw, 0, none⟩) n n := hT 9 (by kernel_rfl)
                      clear hT hd hW
                      refine ⟨.slice (some ⟨gw, 0, none⟩) n n, ?_, rfl⟩
                      simp only [execOp]
                      go_simp
                    case s10 =>
                      refine stepS_on 8 125 false rfl rfl rfl (fun T w1 s hT hd hs hW => ⟨(by first | exact hd.1 | exact hd.2.1 | exact hd.2.2.1 | exact hd.2.2.2.1 | exact hd.2.2.2.2.1 | exact hd.2.2.2.2.2.1 | exact hd.2.2.2.2.2.2.1 | exact hd.2.2.2.2.2.2.2.1), ?_⟩)
                      have ec := evT_const T
                      have ef := evT_func T
                      have d16 : evT T (.tmp 16) = .slice (some ad) m c5 := hT 16 (by kernel_rfl)
                      clear hT hd hW
                      refine ⟨.slice (some ad) m c5, ?_, rfl⟩
                      simp only [execOp]
                      go_simp
                    case s11 =>
                      refine stepS_on 8 125 false rfl rfl rfl (fun T w1 s hT hd hs hW => ⟨(by first | exact hd.1 | exact hd.2.1 | exact hd.2.2.1 | exact hd.2.2.2.1 | exact hd.2.2.2.2.1 | exact hd.2.2.2.2.2.1 | exact hd.2.2.2.2.2.2.1 | exact hd.2.2.2.2.2.2.2.1), ?_⟩)
                      have ec := evT_const T
                      have ef := evT_func T
                      have d17 : evT T (.tmp 17) = .int .i64 (q : Int) := hT 17 (by kernel_rfl)
                      clear hT hd hW
                      refine ⟨.int .i64 (q : Int), ?_, rfl⟩
                      simp only [execOp]
                      go_simp
                    case s12 =>
                      refine stepS_on 8 125 false rfl rfl rfl (fun T w1 s hT hd hs hW => ⟨(by first | exact hd.1 | exact hd.2.1 | exact hd.2.2.1 | exact hd.2.2.2.1 | exact hd.2.2.2.2.1 | exact hd.2.2.2.2.2.1 | exact hd.2.2.2.2.2.2.1 | exact hd.2.2.2.2.2.2.2.1), ?_⟩)
                      have ec := evT_const T
                      have ef := evT_func T
                      have d127 : evT T (.tmp 127) = .slice (some ad) m c5 := (by first | exact hd.1 | exact hd.2.1 | exact hd.2.2.1 | exact hd.2.2.2.1 | exact hd.2.2.2.2.1 | exact hd.2.2.2.2.2.1 | exact hd.2.2.2.2.2.2.1 | exact hd.2.2.2.2.2.2.2.1)
                      have d128 : evT T (.tmp 128) = .int .i64 (q : Int) := (by first | exact hd.1 | exact hd.2.1 | exact hd.2.2.1 | exact hd.2.2.2.1 | exact hd.2.2.2.2.1 | exact hd.2.2.2.2.2.1 | exact hd.2.2.2.2.2.2.1 | exact hd.2.2.2.2.2.2.2.1)
                      have j0 : (0 : Int) ≤ (q : Int) := by omega
                      have j1 : (q : Int) < (m : Int) := by omega
                      clear hT hd hW
                      refine ⟨.pointer (some (ad.add q)), ?_, rfl⟩
                      simp only [execOp]
                      go_simp
                    case s13 =>
                      refine stepS_on 8 125 false rfl rfl rfl (fun T w1 s hT hd hs hW => ⟨(by first | exact hd.1 | exact hd.2.1 | exact hd.2.2.1 | exact hd.2.2.2.1 | exact hd.2.2.2.2.1 | exact hd.2.2.2.2.2.1 | exact hd.2.2.2.2.2.2.1 | exact hd.2.2.2.2.2.2.2.1), ?_⟩)
                      have ec := evT_const T
                      have ef := evT_func T
                      have d129 : evT T (.tmp 129) = .pointer (some (ad.add q)) := (by first | exact hd.1 | exact hd.2.1 | exact hd.2.2.1 | exact hd.2.2.2.1 | exact hd.2.2.2.2.1 | exact hd.2.2.2.2.2.1 | exact hd.2.2.2.2.2.2.1 | exact hd.2.2.2.2.2.2.2.1)
                      have q1 := hW.tcell HTQ.out
                      clear hT hd hW
                      refine ⟨.int .i64 (mm : Int), ?_, rfl⟩
                      simp only [execOp]
                      go_simp
                    case s14 =>
                      refine stepS_on 8 125 false rfl rfl rfl (fun T w1 s hT hd hs hW => ⟨(by first | exact hd.1 | exact hd.2.1 | exact hd.2.2.1 | exact hd.2.2.2.1 | exact hd.2.2.2.2.1 | exact hd.2.2.2.2.2.1 | exact hd.2.2.2.2.2.2.1 | exact hd.2.2.2.2.2.2.2.1), ?_⟩)
                      have ec := evT_const T
                      have ef := evT_func T
                      have d126 : evT T (.tmp 126) = .slice (some ⟨gw, 0, none⟩) n n := (by first | exact hd.1 | exact hd.2.1 | exact hd.2.2.1 | exact hd.2.2.2.1 | exact hd.2.2.2.2.1 | exact hd.2.2.2.2.2.1 | exact hd.2.2.2.2.2.2.1 | exact hd.2.2.2.2.2.2.2.1)
                      have d130 : evT T (.tmp 130) = .int .i64 (mm : Int) := (by first | exact hd.1 | exact hd.2.1 | exact hd.2.2.1 | exact hd.2.2.2.1 | exact hd.2.2.2.2.1 | exact hd.2.2.2.2.2.1 | exact hd.2.2.2.2.2.2.1 | exact hd.2.2.2.2.2.2.2.1)
                      have j0 : (0 : Int) ≤ (mm : Int) := by omega
                      have j1 : (mm : Int) < (n : Int) := by omega
                      clear hT hd hW
                      refine ⟨.pointer (some ⟨gw, mm, none⟩), ?_, rfl⟩
                      simp only [execOp]
                      go_simp
                    case s15 =>
                      refine stepS_on 8 125 false rfl rfl rfl (fun T w1 s hT hd hs hW => ⟨(by first | exact hd.1 | exact hd.2.1 | exact hd.2.2.1 | exact hd.2.2.2.1 | exact hd.2.2.2.2.1 | exact hd.2.2.2.2.2.1 | exact hd.2.2.2.2.2.2.1 | exact hd.2.2.2.2.2.2.2.1), ?_⟩)
                      have ec := evT_const T
                      have ef := evT_func T
                      have d131 : evT T (.tmp 131) = .pointer (some ⟨gw, mm, none⟩) := (by first | exact hd.1 | exact hd.2.1 | exact hd.2.2.1 | exact hd.2.2.2.1 | exact hd.2.2.2.2.1 | exact hd.2.2.2.2.2.1 | exact hd.2.2.2.2.2.2.1 | exact hd.2.2.2.2.2.2.2.1)
                      have q1 : w1.cell? ⟨gw, mm, none⟩ = some (.bool (wqB xs TT q mm)) := (hW.wt mm hmn).1
                      rw [HWQ.out] at q1
                      clear hT hd hW
                      refine ⟨.bool true, ?_, rfl⟩
                      simp only [execOp]
                      go_simp
                    case s16 =>
                      refine stepS_on 8 125 false rfl rfl rfl (fun T w1 s hT hd hs hW => ⟨(by first | exact hd.1 | exact hd.2.1 | exact hd.2.2.1 | exact hd.2.2.2.1 | exact hd.2.2.2.2.1 | exact hd.2.2.2.2.2.1 | exact hd.2.2.2.2.2.2.1 | exact hd.2.2.2.2.2.2.2.1), ?_⟩)
                      have ec := evT_const T
                      have ef := evT_func T
                      have d132 : evT T (.tmp 132) = .bool true := (by first | exact hd.1 | exact hd.2.1 | exact hd.2.2.1 | exact hd.2.2.2.1 | exact hd.2.2.2.2.1 | exact hd.2.2.2.2.2.1 | exact hd.2.2.2.2.2.2.1 | exact hd.2.2.2.2.2.2.2.1)
                      clear hT hd hW
                      refine ⟨.bool false, ?_, rfl⟩
                      simp only [execOp]
                      go_simp
                    case s17 =>
                      refine stepS_plain rfl rfl (fun T w1 s hT hd hs hW => ?_)
                      have ec := evT_const T
                      have ef := evT_func T
                      have d125 : evT T (.tmp 125) = .bool false := (by first | exact hd.1 | exact hd.2.1 | exact hd.2.2.1 | exact hd.2.2.2.1 | exact hd.2.2.2.2.1 | exact hd.2.2.2.2.2.1 | exact hd.2.2.2.2.2.2.1 | exact hd.2.2.2.2.2.2.2.1)
                      have d133 : evT T (.tmp 133) = .bool false := (by first | exact hd.1 | exact hd.2.1 | exact hd.2.2.1 | exact hd.2.2.2.1 | exact hd.2.2.2.2.1 | exact hd.2.2.2.2.2.1 | exact hd.2.2.2.2.2.2.1 | exact hd.2.2.2.2.2.2.2.1)
                      clear hT hd hW
                      refine ⟨.bool false, ?_, rfl⟩
                      simp only [execOp]
                      go_simp
                    case s18 =>
                      refine stepS_plain rfl rfl (fun T w1 s hT hd hs hW => ?_)
                      have ec := evT_const T
                      have ef := evT_func T
                      have d134 : evT T (.tmp 134) = .bool false := (by first | exact hd.1 | exact hd.2.1 | exact hd.2.2.1 | exact hd.2.2.2.1 | exact hd.2.2.2.2.1 | exact hd.2.2.2.2.2.1 | exact hd.2.2.2.2.2.2.1 | exact hd.2.2.2.2.2.2.2.1)
                      clear hT hd hW
                      refine ⟨.bool false, ?_, rfl⟩
                      simp only [execOp]
                      go_simp
                    case s19 =>
                      refine stepS_on 18 135 false rfl rfl rfl (fun T w1 s hT hd hs hW => ⟨(by first | exact hd.1 | exact hd.2.1 | exact hd.2.2.1 | exact hd.2.2.2.1 | exact hd.2.2.2.2.1 | exact hd.2.2.2.2.2.1 | exact hd.2.2.2.2.2.2.1 | exact hd.2.2.2.2.2.2.2.1), ?_⟩)
                      have ec := evT_const T
                      have ef := evT_func T
                      have d14 : evT T (.tmp 14) = .slice (some ⟨gl, 0, none⟩) n n := hT 14 (by kernel_rfl)
                      clear hT hd hW
                      refine ⟨.slice (some ⟨gl, 0, none⟩) n n, ?_, rfl⟩
                      simp only [execOp]
                      go_simp
                    case s20 =>
                      refine stepS_on 18 135 false rfl rfl rfl (fun T w1 s hT hd hs hW => ⟨(by first | exact hd.1 | exact hd.2.1 | exact hd.2.2.1 | exact hd.2.2.2.1 | exact hd.2.2.2.2.1 | exact hd.2.2.2.2.2.1 | exact hd.2.2.2.2.2.2.1 | exact hd.2.2.2.2.2.2.2.1), ?_⟩)
                      have ec := evT_const T
                      have ef := evT_func T
                      have d16 : evT T (.tmp 16) = .slice (some ad) m c5 := hT 16 (by kernel_rfl)
                      clear hT hd hW
                      refine ⟨.slice (some ad) m c5, ?_, rfl⟩
                      simp only [execOp]
                      go_simp
                    case s21 =>
                      refine stepS_on 18 135 false rfl rfl rfl (fun T w1 s hT hd hs hW => ⟨(by first | exact hd.1 | exact hd.2.1 | exact hd.2.2.1 | exact hd.2.2.2.1 | exact hd.2.2.2.2.1 | exact hd.2.2.2.2.2.1 | exact hd.2.2.2.2.2.2.1 | exact hd.2.2.2.2.2.2.2.1), ?_⟩)
                      have ec := evT_const T
                      have ef := evT_func T
                      have d17 : evT T (.tmp 17) = .int .i64 (q : Int) := hT 17 (by kernel_rfl)
                      clear hT hd hW
                      refine ⟨.int .i64 (q : Int), ?_, rfl⟩
                      simp only [execOp]
                      go_simp
                    case s22 =>
                      refine stepS_on 18 135 false rfl rfl rfl (fun T w1 s hT hd hs hW => ⟨(by first | exact hd.1 | exact hd.2.1 | exact hd.2.2.1 | exact hd.2.2.2.1 | exact hd.2.2.2.2.1 | exact hd.2.2.2.2.2.1 | exact hd.2.2.2.2.2.2.1 | exact hd.2.2.2.2.2.2.2.1), ?_⟩)
                      have ec := evT_const T
                      have ef := evT_func T
                      have d137 : evT T (.tmp 137) = .slice (some ad) m c5 := (by first | exact hd.1 | exact hd.2.1 | exact hd.2.2.1 | exact hd.2.2.2.1 | exact hd.2.2.2.2.1 | exact hd.2.2.2.2.2.1 | exact hd.2.2.2.2.2.2.1 | exact hd.2.2.2.2.2.2.2.1)
                      have d138 : evT T (.tmp 138) = .int .i64 (q : Int) := (by first | exact hd.1 | exact hd.2.1 | exact hd.2.2.1 | exact hd.2.2.2.1 | exact hd.2.2.2.2.1 | exact hd.2.2.2.2.2.1 | exact hd.2.2.2.2.2.2.1 | exact hd.2.2.2.2.2.2.2.1)
                      have j0 : (0 : Int) ≤ (q : Int) := by omega
                      have j1 : (q : Int) < (m : Int) := by omega
                      clear hT hd hW
                      refine ⟨.pointer (some (ad.add q)), ?_, rfl⟩
                      simp only [execOp]
                      go_simp
                    case s23 =>
                      refine stepS_on 18 135 false rfl rfl rfl (fun T w1 s hT hd hs hW => ⟨(by first | exact hd.1 | exact hd.2.1 | exact hd.2.2.1 | exact hd.2.2.2.1 | exact hd.2.2.2.2.1 | exact hd.2.2.2.2.2.1 | exact hd.2.2.2.2.2.2.1 | exact hd.2.2.2.2.2.2.2.1), ?_⟩)
                      have ec := evT_const T
                      have ef := evT_func T
                      have d139 : evT T (.tmp 139) = .pointer (some (ad.add q)) := (by first | exact hd.1 | exact hd.2.1 | exact hd.2.2.1 | exact hd.2.2.2.1 | exact hd.2.2.2.2.1 | exact hd.2.2.2.2.2.1 | exact hd.2.2.2.2.2.2.1 | exact hd.2.2.2.2.2.2.2.1)
                      have q1 := hW.tcell HTQ.out
                      clear hT hd hW
                      refine ⟨.int .i64 (mm : Int), ?_, rfl⟩
                      simp only [execOp]
                      go_simp
                    case s24 =>
                      refine stepS_on 18 135 false rfl rfl rfl (fun T w1 s hT hd hs hW => ⟨(by first | exact hd.1 | exact hd.2.1 | exact hd.2.2.1 | exact hd.2.2.2.1 | exact hd.2.2.2.2.1 | exact hd.2.2.2.2.2.1 | exact hd.2.2.2.2.2.2.1 | exact hd.2.2.2.2.2.2.2.1), ?_⟩)
                      have ec := evT_const T
                      have ef := evT_func T
                      have d136 : evT T (.tmp 136) = .slice (some ⟨gl, 0, none⟩) n n := (by first | exact hd.1 | exact hd.2.1 | exact hd.2.2.1 | exact hd.2.2.2.1 | exact hd.2.2.2.2.1 | exact hd.2.2.2.2.2.1 | exact hd.2.2.2.2.2.2.1 | exact hd.2.2.2.2.2.2.2.1)
                      have d140 : evT T (.tmp 140) = .int .i64 (mm : Int) := (by first | exact hd.1 | exact hd.2.1 | exact hd.2.2.1 | exact hd.2.2.2.1 | exact hd.2.2.2.2.1 | exact hd.2.2.2.2.2.1 | exact hd.2.2.2.2.2.2.1 | exact hd.2.2.2.2.2.2.2.1)
                      have j0 : (0 : Int) ≤ (mm : Int) := by omega
                      have j1 : (mm : Int) < (n : Int) := by omega
                      clear hT hd hW
                      refine ⟨.pointer (some ⟨gl, mm, none⟩), ?_, rfl⟩
                      simp only [execOp]
                      go_simp
                    case s25 =>
                      refine stepS_on 18 135 false rfl rfl rfl (fun T w1 s hT hd hs hW => ⟨(by first | exact hd.1 | exact hd.2.1 | exact hd.2.2.1 | exact hd.2.2.2.1 | exact hd.2.2.2.2.1 | exact hd.2.2.2.2.2.1 | exact hd.2.2.2.2.2.2.1 | exact hd.2.2.2.2.2.2.2.1), ?_⟩)
                      have ec := evT_const T
                      have ef := evT_func T
                      have d141 : evT T (.tmp 141) = .pointer (some ⟨gl, mm, none⟩) := (by first | exact hd.1 | exact hd.2.1 | exact hd.2.2.1 | exact hd.2.2.2.1 | exact hd.2.2.2.2.1 | exact hd.2.2.2.2.2.1 | exact hd.2.2.2.2.2.2.1 | exact hd.2.2.2.2.2.2.2.1)
                      have q1 : w1.cell? ⟨gl, mm, none⟩ = some (.int .i64 (leftP xs (mm : Int))) := (hW.lf mm hmn).1
                      rw [HLZ.out] at q1
                      clear hT hd hW
                      refine ⟨.int .i64 0, ?_, rfl⟩
                      simp only [execOp]
                      go_simp
                    case s26 =>
                      refine stepS_on 18 135 false rfl rfl rfl (fun T w1 s hT hd hs hW => ⟨(by first | exact hd.1 | exact hd.2.1 | exact hd.2.2.1 | exact hd.2.2.2.1 | exact hd.2.2.2.2.1 | exact hd.2.2.2.2.2.1 | exact hd.2.2.2.2.2.2.1 | exact hd.2.2.2.2.2.2.2.1), ?_⟩)
                      have ec := evT_const T
                      have ef := evT_func T
                      have d142 : evT T (.tmp 142) = .int .i64 0 := (by first | exact hd.1 | exact hd.2.1 | exact hd.2.2.1 | exact hd.2.2.2.1 | exact hd.2.2.2.2.1 | exact hd.2.2.2.2.2.1 | exact hd.2.2.2.2.2.2.1 | exact hd.2.2.2.2.2.2.2.1)
                      clear hT hd hW
                      refine ⟨.bool false, ?_, rfl⟩
                      simp only [execOp]
                      go_simp
                    case s27 =>
                      refine stepS_plain rfl rfl (fun T w1 s hT hd hs hW => ?_)
                      have ec := evT_const T
                      have ef := evT_func T
                      have d135 : evT T (.tmp 135) = .bool false := (by first | exact hd.1 | exact hd.2.1 | exact hd.2.2.1 | exact hd.2.2.2.1 | exact hd.2.2.2.2.1 | exact hd.2.2.2.2.2.1 | exact hd.2.2.2.2.2.2.1 | exact hd.2.2.2.2.2.2.2.1)
                      have d143 : evT T (.tmp 143) = .bool false := (by first | exact hd.1 | exact hd.2.1 | exact hd.2.2.1 | exact hd.2.2.2.1 | exact hd.2.2.2.2.1 | exact hd.2.2.2.2.2.1 | exact hd.2.2.2.2.2.2.1 | exact hd.2.2.2.2.2.2.2.1)
                      clear hT hd hW
                      refine ⟨.bool false, ?_, rfl⟩
                      simp only [execOp]
                      go_simp
                    case s28 =>
                      refine stepS_plain rfl rfl (fun T w1 s hT hd hs hW => ?_)
                      have ec := evT_const T
                      have ef := evT_func T
                      have d144 : evT T (.tmp 144) = .bool false := (by first | exact hd.1 | exact hd.2.1 | exact hd.2.2.1 | exact hd.2.2.2.1 | exact hd.2.2.2.2.1 | exact hd.2.2.2.2.2.1 | exact hd.2.2.2.2.2.2.1 | exact hd.2.2.2.2.2.2.2.1)
                      clear hT hd hW
                      refine ⟨.bool false, ?_, rfl⟩
                      simp only [execOp]
                      go_simp
                    case s29 =>
                      refine stepS_on 28 145 false rfl rfl rfl (fun T w1 s hT hd hs hW => ⟨(by first | exact hd.1 | exact hd.2.1 | exact hd.2.2.1 | exact hd.2.2.2.1 | exact hd.2.2.2.2.1 | exact hd.2.2.2.2.2.1 | exact hd.2.2.2.2.2.2.1 | exact hd.2.2.2.2.2.2.2.1), ?_⟩)
                      have ec := evT_const T
                      have ef := evT_func T
                      have d7 : evT T (.tmp 7) = .pointer (some ⟨b, 0, none⟩) := hT 7 (by kernel_rfl)
                      clear hT hd hW
                      refine ⟨.pointer (some ⟨b, 0, none⟩), ?_, rfl⟩
                      simp only [execOp]
                      go_simp
                    case s30 =>
                      refine stepS_on 28 145 false rfl rfl rfl (fun T w1 s hT hd hs hW => ⟨(by first | exact hd.1 | exact hd.2.1 | exact hd.2.2.1 | exact hd.2.2.2.1 | exact hd.2.2.2.2.1 | exact hd.2.2.2.2.2.1 | exact hd.2.2.2.2.2.2.1 | exact hd.2.2.2.2.2.2.2.1), ?_⟩)
                      have ec := evT_const T
                      have ef := evT_func T
                      have d16 : evT T (.tmp 16) = .slice (some ad) m c5 := hT 16 (by kernel_rfl)
                      clear hT hd hW
                      refine ⟨.slice (some ad) m c5, ?_, rfl⟩
                      simp only [execOp]
                      go_simp
                    case s31 =>
                      refine stepS_on 28 145 false rfl rfl rfl (fun T w1 s hT hd hs hW => ⟨(by first | exact hd.1 | exact hd.2.1 | exact hd.2.2.1 | exact hd.2.2.2.1 | exact hd.2.2.2.2.1 | exact hd.2.2.2.2.2.1 | exact hd.2.2.2.2.2.2.1 | exact hd.2.2.2.2.2.2.2.1), ?_⟩)
                      have ec := evT_const T
                      have ef := evT_func T
                      have d17 : evT T (.tmp 17) = .int .i64 (q : Int) := hT 17 (by kernel_rfl)
                      clear hT hd hW
                      refine ⟨.int .i64 (q : Int), ?_, rfl⟩
                      simp only [execOp]
                      go_simp
                    case s32 =>
                      refine stepS_on 28 145 false rfl rfl rfl (fun T w1 s hT hd hs hW => ⟨(by first | exact hd.1 | exact hd.2.1 | exact hd.2.2.1 | exact hd.2.2.2.1 | exact hd.2.2.2.2.1 | exact hd.2.2.2.2.2.1 | exact hd.2.2.2.2.2.2.1 | exact hd.2.2.2.2.2.2.2.1), ?_⟩)
                      have ec := evT_const T
                      have ef := evT_func T
                      have d147 : evT T (.tmp 147) = .slice (some ad) m c5 := (by first | exact hd.1 | exact hd.2.1 | exact hd.2.2.1 | exact hd.2.2.2.1 | exact hd.2.2.2.2.1 | exact hd.2.2.2.2.2.1 | exact hd.2.2.2.2.2.2.1 | exact hd.2.2.2.2.2.2.2.1)
                      have d148 : evT T (.tmp 148) = .int .i64 (q : Int) := (by first | exact hd.1 | exact hd.2.1 | exact hd.2.2.1 | exact hd.2.2.2.1 | exact hd.2.2.2.2.1 | exact hd.2.2.2.2.2.1 | exact hd.2.2.2.2.2.2.1 | exact hd.2.2.2.2.2.2.2.1)
                      have j0 : (0 : Int) ≤ (q : Int) := by omega
                      have j1 : (q : Int) < (m : Int) := by omega
                      clear hT hd hW
                      refine ⟨.pointer (some (ad.add q)), ?_, rfl⟩
                      simp only [execOp]
                      go_simp
                    case s33 =>
                      refine stepS_on 28 145 false rfl rfl rfl (fun T w1 s hT hd hs hW => ⟨(by first | exact hd.1 | exact hd.2.1 | exact hd.2.2.1 | exact hd.2.2.2.1 | exact hd.2.2.2.2.1 | exact hd.2.2.2.2.2.1 | exact hd.2.2.2.2.2.2.1 | exact hd.2.2.2.2.2.2.2.1), ?_⟩)
                      have ec := evT_const T
                      have ef := evT_func T
                      have d149 : evT T (.tmp 149) = .pointer (some (ad.add q)) := (by first | exact hd.1 | exact hd.2.1 | exact hd.2.2.1 | exact hd.2.2.2.1 | exact hd.2.2.2.2.1 | exact hd.2.2.2.2.2.1 | exact hd.2.2.2.2.2.2.1 | exact hd.2.2.2.2.2.2.2.1)
                      have q1 := hW.tcell HTQ.out
                      clear hT hd hW
                      refine ⟨.int .i64 (mm : Int), ?_, rfl⟩
                      simp only [execOp]
                      go_simp
                    case s34 =>
                      refine stepC_on 0 28 145 false rfl rfl rfl (fun T w1 hT hd hW => ⟨(by first | exact hd.1 | exact hd.2.1 | exact hd.2.2.1 | exact hd.2.2.2.1 | exact hd.2.2.2.2.1 | exact hd.2.2.2.2.2.1 | exact hd.2.2.2.2.2.2.1 | exact hd.2.2.2.2.2.2.2.1), ?_⟩)
                      have ec := evT_const T
                      have ef := evT_func T
                      have d146 : evT T (.tmp 146) = .pointer (some ⟨b, 0, none⟩) := (by first | exact hd.1 | exact hd.2.1 | exact hd.2.2.1 | exact hd.2.2.2.1 | exact hd.2.2.2.2.1 | exact hd.2.2.2.2.2.1 | exact hd.2.2.2.2.2.2.1 | exact hd.2.2.2.2.2.2.2.1)
                      have d150 : evT T (.tmp 150) = .int .i64 (mm : Int) := (by first | exact hd.1 | exact hd.2.1 | exact hd.2.2.1 | exact hd.2.2.2.1 | exact hd.2.2.2.2.1 | exact hd.2.2.2.2.2.1 | exact hd.2.2.2.2.2.2.1 | exact hd.2.2.2.2.2.2.2.1)
                      refine ⟨21, #[.pointer (some ⟨b, 0, none⟩), .int .i64 (mm : Int)], ?_, ?_⟩
                      · clear hT hd hW
                        simp only [execOp, resolve]
                        go_simp
                      · have hX : Dd w3 w1 b bl bh L xs (tickT xs) gw gh gl n BB (.slice (some ad) m c5) TT q := hW
                        refine (hX.held hmw).mono ?_
                        rintro e w2 ⟨rfl, h2⟩
                        exact ⟨_, rfl, by rw [HHF.out]; rfl, h2⟩
                    case s35 =>
                      refine stepS_plain rfl rfl (fun T w1 s hT hd hs hW => ?_)
                      have ec := evT_const T
                      have ef := evT_func T
                      have d145 : evT T (.tmp 145) = .bool false := (by first | exact hd.1 | exact hd.2.1 | exact hd.2.2.1 | exact hd.2.2.2.1 | exact hd.2.2.2.2.1 | exact hd.2.2.2.2.2.1 | exact hd.2.2.2.2.2.2.1 | exact hd.2.2.2.2.2.2.2.1)
                      have d151 : evT T (.tmp 151) = .bool false := (by first | exact hd.1 | exact hd.2.1 | exact hd.2.2.1 | exact hd.2.2.2.1 | exact hd.2.2.2.2.1 | exact hd.2.2.2.2.2.1 | exact hd.2.2.2.2.2.2.1 | exact hd.2.2.2.2.2.2.2.1)
                      clear hT hd hW
                      refine ⟨.bool false, ?_, rfl⟩
                      simp only [execOp]
                      go_simp
                    case s36 =>
                      refine stepS_plain rfl rfl (fun T w1 s hT hd hs hW => ?_)
                      have ec := evT_const T
                      have ef := evT_func T
                      have d152 : evT T (.tmp 152) = .bool false := (by first | exact hd.1 | exact hd.2.1 | exact hd.2.2.1 | exact hd.2.2.2.1 | exact hd.2.2.2.2.1 | exact hd.2.2.2.2.2.1 | exact hd.2.2.2.2.2.2.1 | exact hd.2.2.2.2.2.2.2.1)
                      clear hT hd hW
                      refine ⟨.bool false, ?_, rfl⟩
                      simp only [execOp]
                      go_simp
                    case s37 =>
                      refine stepS_on 36 153 false rfl rfl rfl (fun T w1 s hT hd hs hW => ⟨(by first | exact hd.1 | exact hd.2.1 | exact hd.2.2.1 | exact hd.2.2.2.1 | exact hd.2.2.2.2.1 | exact hd.2.2.2.2.2.1 | exact hd.2.2.2.2.2.2.1 | exact hd.2.2.2.2.2.2.2.1), ?_⟩)
                      have ec := evT_const T
                      have ef := evT_func T
                      have d17 : evT T (.tmp 17) = .int .i64 (q : Int) := hT 17 (by kernel_rfl)
                      clear hT hd hW
                      refine ⟨.int .i64 (q : Int), ?_, rfl⟩
                      simp only [execOp]
                      go_simp
                    case s38 =>
                      refine stepS_on 36 153 false rfl rfl rfl (fun T w1 s hT hd hs hW => ⟨(by first | exact hd.1 | exact hd.2.1 | exact hd.2.2.1 | exact hd.2.2.2.1 | exact hd.2.2.2.2.1 | exact hd.2.2.2.2.2.1 | exact hd.2.2.2.2.2.2.1 | exact hd.2.2.2.2.2.2.2.1), ?_⟩)
                      have ec := evT_const T
                      have ef := evT_func T
                      have d154 : evT T (.tmp 154) = .int .i64 (q : Int) := (by first | exact hd.1 | exact hd.2.1 | exact hd.2.2.1 | exact hd.2.2.2.1 | exact hd.2.2.2.2.1 | exact hd.2.2.2.2.2.1 | exact hd.2.2.2.2.2.2.1 | exact hd.2.2.2.2.2.2.2.1)
                      have y1 : ¬ ((0 : Int) < (q : Int)) := by omega
                      have y2 : ¬ (0 < q) := hq0
                      clear hT hd hW
                      refine ⟨.bool false, ?_, rfl⟩
                      simp only [execOp]
                      go_simp
                    case s39 =>
                      refine stepS_on 36 153 false rfl rfl rfl (fun T w1 s hT hd hs hW => ⟨(by first | exact hd.1 | exact hd.2.1 | exact hd.2.2.1 | exact hd.2.2.2.1 | exact hd.2.2.2.2.1 | exact hd.2.2.2.2.2.1 | exact hd.2.2.2.2.2.2.1 | exact hd.2.2.2.2.2.2.2.1), ?_⟩)
                      have ec := evT_const T
                      have ef := evT_func T
                      have d155 : evT T (.tmp 155) = .bool false := (by first | exact hd.1 | exact hd.2.1 | exact hd.2.2.1 | exact hd.2.2.2.1 | exact hd.2.2.2.2.1 | exact hd.2.2.2.2.2.1 | exact hd.2.2.2.2.2.2.1 | exact hd.2.2.2.2.2.2.2.1)
                      clear hT hd hW
                      refine ⟨.bool false, ?_, rfl⟩
                      simp only [execOp]
                      go_simp
                    case s40 =>
                      exact stepS_off 39 156 true rfl rfl rfl (fun T hT hd => ⟨(by first | exact hd.1 | exact hd.2.1 | exact hd.2.2.1 | exact hd.2.2.2.1 | exact hd.2.2.2.2.1 | exact hd.2.2.2.2.2.1 | exact hd.2.2.2.2.2.2.1 | exact hd.2.2.2.2.2.2.2.1), rfl⟩)
                    case s41 =>
                      exact stepS_off 39 156 true rfl rfl rfl (fun T hT hd => ⟨(by first | exact hd.1 | exact hd.2.1 | exact hd.2.2.1 | exact hd.2.2.2.1 | exact hd.2.2.2.2.1 | exact hd.2.2.2.2.2.1 | exact hd.2.2.2.2.2.2.1 | exact hd.2.2.2.2.2.2.2.1), rfl⟩)
                    case s42 =>
                      exact stepS_off 39 156 true rfl rfl rfl (fun T hT hd => ⟨(by first | exact hd.1 | exact hd.2.1 | exact hd.2.2.1 | exact hd.2.2.2.1 | exact hd.2.2.2.2.1 | exact hd.2.2.2.2.2.1 | exact hd.2.2.2.2.2.2.1 | exact hd.2.2.2.2.2.2.2.1), rfl⟩)
                    case s43 =>
                      exact stepS_off 39 156 true rfl rfl rfl (fun T hT hd => ⟨(by first | exact hd.1 | exact hd.2.1 | exact hd.2.2.1 | exact hd.2.2.2.1 | exact hd.2.2.2.2.1 | exact hd.2.2.2.2.2.1 | exact hd.2.2.2.2.2.2.1 | exact hd.2.2.2.2.2.2.2.1), rfl⟩)
                    case s44 =>
                      exact stepS_off 39 156 true rfl rfl rfl (fun T hT hd => ⟨(by first | exact hd.1 | exact hd.2.1 | exact hd.2.2.1 | exact hd.2.2.2.1 | exact hd.2.2.2.2.1 | exact hd.2.2.2.2.2.1 | exact hd.2.2.2.2.2.2.1 | exact hd.2.2.2.2.2.2.2.1), rfl⟩)
                    case s45 =>
                      exact stepS_off 39 156 true rfl rfl rfl (fun T hT hd => ⟨(by first | exact hd.1 | exact hd.2.1 | exact hd.2.2.1 | exact hd.2.2.2.1 | exact hd.2.2.2.2.1 | exact hd.2.2.2.2.2.1 | exact hd.2.2.2.2.2.2.1 | exact hd.2.2.2.2.2.2.2.1), rfl⟩)
                    case s46 =>
                      exact stepS_off 39 156 true rfl rfl rfl (fun T hT hd => ⟨(by first | exact hd.1 | exact hd.2.1 | exact hd.2.2.1 | exact hd.2.2.2.1 | exact hd.2.2.2.2.1 | exact hd.2.2.2.2.2.1 | exact hd.2.2.2.2.2.2.1 | exact hd.2.2.2.2.2.2.2.1), rfl⟩)
                    case s47 =>
                      exact stepS_off 39 156 true rfl rfl rfl (fun T hT hd => ⟨(by first | exact hd.1 | exact hd.2.1 | exact hd.2.2.1 | exact hd.2.2.2.1 | exact hd.2.2.2.2.1 | exact hd.2.2.2.2.2.1 | exact hd.2.2.2.2.2.2.1 | exact hd.2.2.2.2.2.2.2.1), rfl⟩)
                    case s48 =>
                      exact stepS_off 39 156 true rfl rfl rfl (fun T hT hd => ⟨(by first | exact hd.1 | exact hd.2.1 | exact hd.2.2.1 | exact hd.2.2.2.1 | exact hd.2.2.2.2.1 | exact hd.2.2.2.2.2.1 | exact hd.2.2.2.2.2.2.1 | exact hd.2.2.2.2.2.2.2.1), rfl⟩)
                    case s49 =>
                      exact stepS_off 39 156 true rfl rfl rfl (fun T hT hd => ⟨(by first | exact hd.1 | exact hd.2.1 | exact hd.2.2.1 | exact hd.2.2.2.1 | exact hd.2.2.2.2.1 | exact hd.2.2.2.2.2.1 | exact hd.2.2.2.2.2.2.1 | exact hd.2.2.2.2.2.2.2.1), rfl⟩)
                    case s50 =>
                      refine stepS_on 36 153 false rfl rfl rfl (fun T w1 s hT hd hs hW => ⟨(by first | exact hd.1 | exact hd.2.1 | exact hd.2.2.1 | exact hd.2.2.2.1 | exact hd.2.2.2.2.1 | exact hd.2.2.2.2.2.1 | exact hd.2.2.2.2.2.2.1 | exact hd.2.2.2.2.2.2.2.1), ?_⟩)
                      have ec := evT_const T
                      have ef := evT_func T
                      have d156 : evT T (.tmp 156) = .bool false := (by first | exact hd.1 | exact hd.2.1 | exact hd.2.2.1 | exact hd.2.2.2.1 | exact hd.2.2.2.2.1 | exact hd.2.2.2.2.2.1 | exact hd.2.2.2.2.2.2.1 | exact hd.2.2.2.2.2.2.2.1)
                      have d166 : evT T (.tmp 166) = undef := (by first | exact hd.1 | exact hd.2.1 | exact hd.2.2.1 | exact hd.2.2.2.1 | exact hd.2.2.2.2.1 | exact hd.2.2.2.2.2.1 | exact hd.2.2.2.2.2.2.1 | exact hd.2.2.2.2.2.2.2.1)
                      clear hT hd hW
                      refine ⟨.bool false, ?_, rfl⟩
                      simp only [execOp]
                      go_simp
                    case s51 =>
                      refine stepS_plain rfl rfl (fun T w1 s hT hd hs hW => ?_)
                      have ec := evT_const T
                      have ef := evT_func T
                      have d153 : evT T (.tmp 153) = .bool false := (by first | exact hd.1 | exact hd.2.1 | exact hd.2.2.1 | exact hd.2.2.2.1 | exact hd.2.2.2.2.1 | exact hd.2.2.2.2.2.1 | exact hd.2.2.2.2.2.2.1 | exact hd.2.2.2.2.2.2.2.1)
                      have d167 : evT T (.tmp 167) = .bool false := (by first | exact hd.1 | exact hd.2.1 | exact hd.2.2.1 | exact hd.2.2.2.1 | exact hd.2.2.2.2.1 | exact hd.2.2.2.2.2.1 | exact hd.2.2.2.2.2.2.1 | exact hd.2.2.2.2.2.2.2.1)
                      clear hT hd hW
                      refine ⟨.bool false, ?_, rfl⟩
                      simp only [execOp]
                      go_simp
                    case fin =>
                      intro T w1 hT hW hd
                      have e168 : T 168 = .bool false := hd.2.2.2.2.2.2.2.2.2.2.2.2.2.2.2.2.2.2.2.2.2.2.2.2.2.2.2.2.2.2.2.2.2.2.2.2.2.2.2.2.2.2.2.2.2.2.2.2.2.2.2.1
                      simp only [putL, Act.put, Option.getD_some, List.setIfInBounds_toArray, List.set_cons_zero, List.set_cons_succ]
                      rw [e168]
                      clear e168
                      have hD : Dd w3 w1 b bl bh L xs (tickT xs) gw gh gl n BB (.slice (some ad) m c5) TT q := hW
                      have q1 := hD.tcell HTQ.out
                      obtain ⟨q0, q3⟩ := hD.wt mm hmn
                      have q2 : w1.cell? ⟨gw, mm, none⟩ = some (.bool (wqB xs TT q mm)) := q0
                      have HDs := Lib.hid (hD.step hmn HTQ.out)
                      have j0 : (0 : Int) ≤ (q : Int) := by omega
                      have j1 : (q : Int) < (m : Int) := by omega
                      have j2 : (0 : Int) ≤ (mm : Int) := by omega
                      have j3 : (mm : Int) < (n : Int) := by omega
                      clear hT hd hW hD q0
                      go_wp2
                      go_roundw
                      case rel => exact ⟨q + 1, hqt, by go_num, HDs⟩
                      case measure => simp [intOf]; omega
                · have hqm : q = m := by omega
                  have HQm : RowKit.Hid (Dd w3 wr b bl bh L xs (tickT xs) gw gh gl n BB (.slice A5 m c5) (tickE xs) (tickE xs).length) := Lib.hid (by have h9 := HQ.out; rw [hqm.trans HM.out] at h9; exact h9)
                  have hq1 : ¬ ((q : Int) < (m : Int)) := by omega
                  clear HQ hqm hq hqt
                  go_wp2
                  go_loopw [18] (fun i wq => ∃ j : Nat, j ≤ n ∧ i = .int .i64 j ∧ RowKit.Hid (Dd w3 wq b bl bh L xs (tickT xs) gw gh gl n BB (.slice A5 m c5) (tickE xs) (tickE xs).length)) (fun i _ => n - (intOf i).toNat)
                  case atStart => exact ⟨0, Nat.zero_le _, rfl, HQm⟩
                  case round =>
                    clear HQm
                    obtain ⟨j, hj, rfl, HJ⟩ := hrel
                    obtain ⟨z2, -⟩ := HJ.out.lw.box HBX.out 2 _ rfl
                    by_cases hjt : j < n
                    · have hjx : j < xs.length := by rw [HXN.out]; exact hjt
                      have hy := List.getElem?_eq_getElem hjx
                      generalize xs[j] = y at hy
                      have hjw : wfI (j : Int) := by unfold wfI; omega
                      have hyl := HINV.out.left j y hy
                      have hyi := HINV.out.idle j y hy
                      obtain ⟨lf, hlf⟩ : ∃ lf, y.left = lf := ⟨_, rfl⟩
                      rw [hlf] at hyl
                      obtain ⟨M, hM⟩ : ∃ M, (if lf - 1 < 0 then (0 : Int) else lf - 1) = M := ⟨_, rfl⟩
                      have sM : leftP (tickT xs) (j : Int) = M := (leftP_at (tick_get hy)).trans ((pass_left (by rw [hlf]; exact hyl.1) hyi).trans (by rw [hlf]; exact hM))
                      have sL : Value.int .i64 (leftP xs (j : Int)) = .int .i64 lf := by rw [leftP_at hy, hlf]
                      have sV : Value.bool (heldP xs (j : Int)) = .bool y.held := by rw [show heldP xs (j : Int) = y.held from atP_at hy _ _]
                      have sF : y.held = false → heldP (tickT xs) (j : Int) = false := fun hh => (show heldP (tickT xs) (j : Int) = (passL y).held from atP_at (tick_get hy) _ _).trans (pass_held hh)
                      have HLM := Lib.hid sM
                      have HLF := Lib.hid sL
                      have HMX := Lib.hid hM
                      have HSF := Lib.hid sF
                      have j1 : (j : Int) < (n : Int) := by omega
                      clear hy hjx hyi hlf sM sL hM sF
                      generalize hT : tickE xs = TT at *
                      clear hT
                      go_wp2
                      cases hh : y.held with
                      | true =>
                        rw [hh] at sV
                        have HHV := Lib.hid sV
                        clear sV hh HSF
                        have HHF : RowKit.Hid (heldP (tickT xs) (j : Int) = heldP (tickT xs) (j : Int)) := Lib.hid rfl
                        refine region_stagedP 2 (fun t => match t with | 0 => 2 | _ => 19) (fun i => if i = 2 then some 0 else if i = 19 then some 1 else none) (GPL [isV (.pointer (some ⟨b, 0, none⟩)), isV (.int .i64 (j : Int)), isV (.int .i64 M), isV (.slice (some ⟨gl, 0, none⟩) n n), isV (.int .i64 (j : Int)), isV (.pointer (some ⟨gl, j, none⟩)), isV (.int .i64 lf), isV (.int .i64 (lf - 1)), isV (.int .i64 M), isV (.bool false), isV (.bool false), isV (.slice (some ⟨gh, 0, none⟩) n n), isV (.int .i64 (j : Int)), isV (.pointer (some ⟨gh, j, none⟩)), isV (.bool true), isV (.bool false), isV (.bool false), isV (undef), isV (undef), isV (undef), isV (.bool false), isV (.bool false)]) (fun s w => Dd w3 w b bl bh L xs (tickT xs) gw gh gl n BB (.slice A5 m c5) TT TT.length) 233 (by kernel_rfl) rfl (by kernel_rfl) ⟨?ca, ?cb, ?cp⟩ ?cs ?c0 ⟨?s0, ?s1, ?s2, ?s3, ?s4, ?s5, ?s6, ?s7, ?s8, ?s9, ?s10, ?s11, ?s12, ?s13, ?s14, ?s15, ?s16, ?s17, ?s18, ?s19, ?s20, ?s21, trivial⟩ ?fin
                        case ca =>
                          intro i t h
                          split at h
                          · injection h with h; subst h; rename_i e; exact ⟨by omega, e.symm⟩
                          · skip
                            split at h
                            · injection h with h; subst h; rename_i e; exact ⟨by omega, e.symm⟩
                            · cases h
                        case cb =>
                          intro t ht
                          match t, ht with
                          | 0, _ => rfl
                          | 1, _ => rfl
                        case cp =>
                          intro t ht
                          match t, ht with
                          | 0, _ => exact ⟨[16, 10, 2], by kernel_rfl, by simp, rfl⟩
                        case cs =>
                          intro t ht
                          match t, ht with
                          | 0, _ => exact (by decide : 2 < 22)
                          | 1, _ => exact (by decide : 19 < 22)
                        case c0 => exact HJ.out.drew
                        case s0 =>
                          refine stepS_plain rfl rfl (fun T w1 s hT hd hs hW => ?_)
                          have ec := evT_const T
                          have ef := evT_func T
                          have d7 : evT T (.tmp 7) = .pointer (some ⟨b, 0, none⟩) := hT 7 (by kernel_rfl)
                          clear hT hd hW
                          refine ⟨.pointer (some ⟨b, 0, none⟩), ?_, rfl⟩
                          simp only [execOp]
                          go_simp
                        case s1 =>
                          refine stepS_plain rfl rfl (fun T w1 s hT hd hs hW => ?_)
                          have ec := evT_const T
                          have ef := evT_func T
                          have d18 : evT T (.tmp 18) = .int .i64 (j : Int) := hT 18 (by kernel_rfl)
                          clear hT hd hW
                          refine ⟨.int .i64 (j : Int), ?_, rfl⟩
                          simp only [execOp]
                          go_simp
                        case s2 =>
                          refine stepC_plain 0 rfl rfl (fun T w1 hT hd hW => ?_)
                          have ec := evT_const T
                          have ef := evT_func T
                          have d182 : evT T (.tmp 182) = .pointer (some ⟨b, 0, none⟩) := (by first | exact hd.1 | exact hd.2.1 | exact hd.2.2.1 | exact hd.2.2.2.1 | exact hd.2.2.2.2.1 | exact hd.2.2.2.2.2.1 | exact hd.2.2.2.2.2.2.1 | exact hd.2.2.2.2.2.2.2.1)
                          have d183 : evT T (.tmp 183) = .int .i64 (j : Int) := (by first | exact hd.1 | exact hd.2.1 | exact hd.2.2.1 | exact hd.2.2.2.1 | exact hd.2.2.2.2.1 | exact hd.2.2.2.2.2.1 | exact hd.2.2.2.2.2.2.1 | exact hd.2.2.2.2.2.2.2.1)
                          refine ⟨23, #[.pointer (some ⟨b, 0, none⟩), .int .i64 (j : Int)], ?_, ?_⟩
                          · clear hT hd hW
                            simp only [execOp, resolve]
                            go_simp
                          · have hX : Dd w3 w1 b bl bh L xs (tickT xs) gw gh gl n BB (.slice A5 m c5) TT TT.length := hW
                            refine (hX.left hjw).mono ?_
                            rintro e w2 ⟨rfl, rfl⟩
                            exact ⟨_, rfl, by rw [HLM.out]; rfl, hX⟩
                        case s3 =>
                          refine stepS_plain rfl rfl (fun T w1 s hT hd hs hW => ?_)
                          have ec := evT_const T
                          have ef := evT_func T
                          have d14 : evT T (.tmp 14) = .slice (some ⟨gl, 0, none⟩) n n := hT 14 (by kernel_rfl)
                          clear hT hd hW
                          refine ⟨.slice (some ⟨gl, 0, none⟩) n n, ?_, rfl⟩
                          simp only [execOp]
                          go_simp
                        case s4 =>
                          refine stepS_plain rfl rfl (fun T w1 s hT hd hs hW => ?_)
                          have ec := evT_const T
                          have ef := evT_func T
                          have d18 : evT T (.tmp 18) = .int .i64 (j : Int) := hT 18 (by kernel_rfl)
                          clear hT hd hW
                          refine ⟨.int .i64 (j : Int), ?_, rfl⟩
                          simp only [execOp]
                          go_simp
                        case s5 =>
                          refine stepS_plain rfl rfl (fun T w1 s hT hd hs hW => ?_)
                          have ec := evT_const T
                          have ef := evT_func T
                          have d185 : evT T (.tmp 185) = .slice (some ⟨gl, 0, none⟩) n n := (by first | exact hd.1 | exact hd.2.1 | exact hd.2.2.1 | exact hd.2.2.2.1 | exact hd.2.2.2.2.1 | exact hd.2.2.2.2.2.1 | exact hd.2.2.2.2.2.2.1 | exact hd.2.2.2.2.2.2.2.1)
                          have d186 : evT T (.tmp 186) = .int .i64 (j : Int) := (by first | exact hd.1 | exact hd.2.1 | exact hd.2.2.1 | exact hd.2.2.2.1 | exact hd.2.2.2.2.1 | exact hd.2.2.2.2.2.1 | exact hd.2.2.2.2.2.2.1 | exact hd.2.2.2.2.2.2.2.1)
                          have j0 : (0 : Int) ≤ (j : Int) := by omega
                          have j1 : (j : Int) < (n : Int) := by omega
                          clear hT hd hW
                          refine ⟨.pointer (some ⟨gl, j, none⟩), ?_, rfl⟩
                          simp only [execOp]
                          go_simp
                        case s6 =>
                          refine stepS_plain rfl rfl (fun T w1 s hT hd hs hW => ?_)
                          have ec := evT_const T
                          have ef := evT_func T
                          have d187 : evT T (.tmp 187) = .pointer (some ⟨gl, j, none⟩) := (by first | exact hd.1 | exact hd.2.1 | exact hd.2.2.1 | exact hd.2.2.2.1 | exact hd.2.2.2.2.1 | exact hd.2.2.2.2.2.1 | exact hd.2.2.2.2.2.2.1 | exact hd.2.2.2.2.2.2.2.1)
                          have q1 : w1.cell? ⟨gl, j, none⟩ = some (.int .i64 (leftP xs (j : Int))) := (hW.lf j hjt).1
                          rw [HLF.out] at q1
                          clear hT hd hW
                          refine ⟨.int .i64 lf, ?_, rfl⟩
                          simp only [execOp]
                          go_simp
                        case s7 =>
                          refine stepS_plain rfl rfl (fun T w1 s hT hd hs hW => ?_)
                          have ec := evT_const T
                          have ef := evT_func T
                          have d188 : evT T (.tmp 188) = .int .i64 lf := (by first | exact hd.1 | exact hd.2.1 | exact hd.2.2.1 | exact hd.2.2.2.1 | exact hd.2.2.2.2.1 | exact hd.2.2.2.2.2.1 | exact hd.2.2.2.2.2.2.1 | exact hd.2.2.2.2.2.2.2.1)
                          have y1 : IntKind.i64.wrap (lf - 1) = lf - 1 := by rw [IntWalk.i64_in _ (by omega)]
                          clear hT hd hW
                          refine ⟨.int .i64 (lf - 1), ?_, rfl⟩
                          simp only [execOp]
                          go_simp
                        case s8 =>
                          refine stepS_plain rfl rfl (fun T w1 s hT hd hs hW => ?_)
                          have ec := evT_const T
                          have ef := evT_func T
                          have d189 : evT T (.tmp 189) = .int .i64 (lf - 1) := (by first | exact hd.1 | exact hd.2.1 | exact hd.2.2.1 | exact hd.2.2.2.1 | exact hd.2.2.2.2.1 | exact hd.2.2.2.2.2.1 | exact hd.2.2.2.2.2.2.1 | exact hd.2.2.2.2.2.2.2.1)
                          have y1 : (if lf - 1 < 0 then (0 : Int) else lf - 1) = M := HMX.out
                          clear hT hd hW
                          refine ⟨.int .i64 M, ?_, rfl⟩
                          simp only [execOp]
                          go_simp
                        case s9 =>
                          refine stepS_plain rfl rfl (fun T w1 s hT hd hs hW => ?_)
                          have ec := evT_const T
                          have ef := evT_func T
                          have d184 : evT T (.tmp 184) = .int .i64 M := (by first | exact hd.1 | exact hd.2.1 | exact hd.2.2.1 | exact hd.2.2.2.1 | exact hd.2.2.2.2.1 | exact hd.2.2.2.2.2.1 | exact hd.2.2.2.2.2.2.1 | exact hd.2.2.2.2.2.2.2.1)
                          have d190 : evT T (.tmp 190) = .int .i64 M := (by first | exact hd.1 | exact hd.2.1 | exact hd.2.2.1 | exact hd.2.2.2.1 | exact hd.2.2.2.2.1 | exact hd.2.2.2.2.2.1 | exact hd.2.2.2.2.2.2.1 | exact hd.2.2.2.2.2.2.2.1)
                          clear hT hd hW
                          refine ⟨.bool false, ?_, rfl⟩
                          simp only [execOp]
                          go_simp
                        case s10 =>
                          refine stepS_plain rfl rfl (fun T w1 s hT hd hs hW => ?_)
                          have ec := evT_const T
                          have ef := evT_func T
                          have d191 : evT T (.tmp 191) = .bool false := (by first | exact hd.1 | exact hd.2.1 | exact hd.2.2.1 | exact hd.2.2.2.1 | exact hd.2.2.2.2.1 | exact hd.2.2.2.2.2.1 | exact hd.2.2.2.2.2.2.1 | exact hd.2.2.2.2.2.2.2.1)
                          clear hT hd hW
                          refine ⟨.bool false, ?_, rfl⟩
                          simp only [execOp]
                          go_simp
                        case s11 =>
                          refine stepS_on 10 192 false rfl rfl rfl (fun T w1 s hT hd hs hW => ⟨(by first | exact hd.1 | exact hd.2.1 | exact hd.2.2.1 | exact hd.2.2.2.1 | exact hd.2.2.2.2.1 | exact hd.2.2.2.2.2.1 | exact hd.2.2.2.2.2.2.1 | exact hd.2.2.2.2.2.2.2.1), ?_⟩)
                          have ec := evT_const T
                          have ef := evT_func T
                          have d13 : evT T (.tmp 13) = .slice (some ⟨gh, 0, none⟩) n n := hT 13 (by kernel_rfl)
                          clear hT hd hW
                          refine ⟨.slice (some ⟨gh, 0, none⟩) n n, ?_, rfl⟩
                          simp only [execOp]
                          go_simp
                        case s12 =>
                          refine stepS_on 10 192 false rfl rfl rfl (fun T w1 s hT hd hs hW => ⟨(by first | exact hd.1 | exact hd.2.1 | exact hd.2.2.1 | exact hd.2.2.2.1 | exact hd.2.2.2.2.1 | exact hd.2.2.2.2.2.1 | exact hd.2.2.2.2.2.2.1 | exact hd.2.2.2.2.2.2.2.1), ?_⟩)
                          have ec := evT_const T
                          have ef := evT_func T
                          have d18 : evT T (.tmp 18) = .int .i64 (j : Int) := hT 18 (by kernel_rfl)
                          clear hT hd hW
                          refine ⟨.int .i64 (j : Int), ?_, rfl⟩
                          simp only [execOp]
                          go_simp
                        case s13 =>
                          refine stepS_on 10 192 false rfl rfl rfl (fun T w1 s hT hd hs hW => ⟨(by first | exact hd.1 | exact hd.2.1 | exact hd.2.2.1 | exact hd.2.2.2.1 | exact hd.2.2.2.2.1 | exact hd.2.2.2.2.2.1 | exact hd.2.2.2.2.2.2.1 | exact hd.2.2.2.2.2.2.2.1), ?_⟩)
                          have ec := evT_const T
                          have ef := evT_func T
                          have d193 : evT T (.tmp 193) = .slice (some ⟨gh, 0, none⟩) n n := (by first | exact hd.1 | exact hd.2.1 | exact hd.2.2.1 | exact hd.2.2.2.1 | exact hd.2.2.2.2.1 | exact hd.2.2.2.2.2.1 | exact hd.2.2.2.2.2.2.1 | exact hd.2.2.2.2.2.2.2.1)
                          have d194 : evT T (.tmp 194) = .int .i64 (j : Int) := (by first | exact hd.1 | exact hd.2.1 | exact hd.2.2.1 | exact hd.2.2.2.1 | exact hd.2.2.2.2.1 | exact hd.2.2.2.2.2.1 | exact hd.2.2.2.2.2.2.1 | exact hd.2.2.2.2.2.2.2.1)
                          have j0 : (0 : Int) ≤ (j : Int) := by omega
                          have j1 : (j : Int) < (n : Int) := by omega
                          clear hT hd hW
                          refine ⟨.pointer (some ⟨gh, j, none⟩), ?_, rfl⟩
                          simp only [execOp]
                          go_simp
                        case s14 =>
                          refine stepS_on 10 192 false rfl rfl rfl (fun T w1 s hT hd hs hW => ⟨(by first | exact hd.1 | exact hd.2.1 | exact hd.2.2.1 | exact hd.2.2.2.1 | exact hd.2.2.2.2.1 | exact hd.2.2.2.2.2.1 | exact hd.2.2.2.2.2.2.1 | exact hd.2.2.2.2.2.2.2.1), ?_⟩)
                          have ec := evT_const T
                          have ef := evT_func T
                          have d195 : evT T (.tmp 195) = .pointer (some ⟨gh, j, none⟩) := (by first | exact hd.1 | exact hd.2.1 | exact hd.2.2.1 | exact hd.2.2.2.1 | exact hd.2.2.2.2.1 | exact hd.2.2.2.2.2.1 | exact hd.2.2.2.2.2.2.1 | exact hd.2.2.2.2.2.2.2.1)
                          have q1 : w1.cell? ⟨gh, j, none⟩ = some (.bool (heldP xs (j : Int))) := (hW.hd j hjt).1
                          rw [HHV.out] at q1
                          clear hT hd hW
                          refine ⟨.bool true, ?_, rfl⟩
                          simp only [execOp]
                          go_simp
                        case s15 =>
                          refine stepS_on 10 192 false rfl rfl rfl (fun T w1 s hT hd hs hW => ⟨(by first | exact hd.1 | exact hd.2.1 | exact hd.2.2.1 | exact hd.2.2.2.1 | exact hd.2.2.2.2.1 | exact hd.2.2.2.2.2.1 | exact hd.2.2.2.2.2.2.1 | exact hd.2.2.2.2.2.2.2.1), ?_⟩)
                          have ec := evT_const T
                          have ef := evT_func T
                          have d196 : evT T (.tmp 196) = .bool true := (by first | exact hd.1 | exact hd.2.1 | exact hd.2.2.1 | exact hd.2.2.2.1 | exact hd.2.2.2.2.1 | exact hd.2.2.2.2.2.1 | exact hd.2.2.2.2.2.2.1 | exact hd.2.2.2.2.2.2.2.1)
                          clear hT hd hW
                          refine ⟨.bool false, ?_, rfl⟩
                          simp only [execOp]
                          go_simp
                        case s16 =>
                          refine stepS_on 10 192 false rfl rfl rfl (fun T w1 s hT hd hs hW => ⟨(by first | exact hd.1 | exact hd.2.1 | exact hd.2.2.1 | exact hd.2.2.2.1 | exact hd.2.2.2.2.1 | exact hd.2.2.2.2.2.1 | exact hd.2.2.2.2.2.2.1 | exact hd.2.2.2.2.2.2.2.1), ?_⟩)
                          have ec := evT_const T
                          have ef := evT_func T
                          have d197 : evT T (.tmp 197) = .bool false := (by first | exact hd.1 | exact hd.2.1 | exact hd.2.2.1 | exact hd.2.2.2.1 | exact hd.2.2.2.2.1 | exact hd.2.2.2.2.2.1 | exact hd.2.2.2.2.2.2.1 | exact hd.2.2.2.2.2.2.2.1)
                          clear hT hd hW
                          refine ⟨.bool false, ?_, rfl⟩
                          simp only [execOp]
                          go_simp
                        case s17 =>
                          exact stepS_off 16 198 true rfl rfl rfl (fun T hT hd => ⟨(by first | exact hd.1 | exact hd.2.1 | exact hd.2.2.1 | exact hd.2.2.2.1 | exact hd.2.2.2.2.1 | exact hd.2.2.2.2.2.1 | exact hd.2.2.2.2.2.2.1 | exact hd.2.2.2.2.2.2.2.1), rfl⟩)
                        case s18 =>
                          exact stepS_off 16 198 true rfl rfl rfl (fun T hT hd => ⟨(by first | exact hd.1 | exact hd.2.1 | exact hd.2.2.1 | exact hd.2.2.2.1 | exact hd.2.2.2.2.1 | exact hd.2.2.2.2.2.1 | exact hd.2.2.2.2.2.2.1 | exact hd.2.2.2.2.2.2.2.1), rfl⟩)
                        case s19 =>
                          exact stepC_off 1 16 198 true rfl rfl rfl (fun T hT hd => ⟨(by first | exact hd.1 | exact hd.2.1 | exact hd.2.2.1 | exact hd.2.2.2.1 | exact hd.2.2.2.2.1 | exact hd.2.2.2.2.2.1 | exact hd.2.2.2.2.2.2.1 | exact hd.2.2.2.2.2.2.2.1), rfl⟩) (fun w hW => hW)
                        case s20 =>
                          refine stepS_on 10 192 false rfl rfl rfl (fun T w1 s hT hd hs hW => ⟨(by first | exact hd.1 | exact hd.2.1 | exact hd.2.2.1 | exact hd.2.2.2.1 | exact hd.2.2.2.2.1 | exact hd.2.2.2.2.2.1 | exact hd.2.2.2.2.2.2.1 | exact hd.2.2.2.2.2.2.2.1), ?_⟩)
                          have ec := evT_const T
                          have ef := evT_func T
                          have d198 : evT T (.tmp 198) = .bool false := (by first | exact hd.1 | exact hd.2.1 | exact hd.2.2.1 | exact hd.2.2.2.1 | exact hd.2.2.2.2.1 | exact hd.2.2.2.2.2.1 | exact hd.2.2.2.2.2.2.1 | exact hd.2.2.2.2.2.2.2.1)
                          have d201 : evT T (.tmp 201) = undef := (by first | exact hd.1 | exact hd.2.1 | exact hd.2.2.1 | exact hd.2.2.2.1 | exact hd.2.2.2.2.1 | exact hd.2.2.2.2.2.1 | exact hd.2.2.2.2.2.2.1 | exact hd.2.2.2.2.2.2.2.1)
                          clear hT hd hW
                          refine ⟨.bool false, ?_, rfl⟩
                          simp only [execOp]
                          go_simp
                        case s21 =>
                          refine stepS_plain rfl rfl (fun T w1 s hT hd hs hW => ?_)
                          have ec := evT_const T
                          have ef := evT_func T
                          have d192 : evT T (.tmp 192) = .bool false := (by first | exact hd.1 | exact hd.2.1 | exact hd.2.2.1 | exact hd.2.2.2.1 | exact hd.2.2.2.2.1 | exact hd.2.2.2.2.2.1 | exact hd.2.2.2.2.2.2.1 | exact hd.2.2.2.2.2.2.2.1)
                          have d202 : evT T (.tmp 202) = .bool false := (by first | exact hd.1 | exact hd.2.1 | exact hd.2.2.1 | exact hd.2.2.2.1 | exact hd.2.2.2.2.1 | exact hd.2.2.2.2.2.1 | exact hd.2.2.2.2.2.2.1 | exact hd.2.2.2.2.2.2.2.1)
                          clear hT hd hW
                          refine ⟨.bool false, ?_, rfl⟩
                          simp only [execOp]
                          go_simp
                        case fin =>
                          intro T w1 hT hW hd
                          have e203 : T 203 = .bool false := hd.2.2.2.2.2.2.2.2.2.2.2.2.2.2.2.2.2.2.2.2.2.1
                          simp only [putL, Act.put, Option.getD_some, List.setIfInBounds_toArray, List.set_cons_zero, List.set_cons_succ]
                          rw [e203]
                          clear e203
                          have HDs : RowKit.Hid (Dd w3 w1 b bl bh L xs (tickT xs) gw gh gl n BB (.slice A5 m c5) TT TT.length) := Lib.hid hW
                          clear hT hd hW
                          go_wp2
                          go_roundw
                          case rel => exact ⟨j + 1, hjt, by go_num, HDs⟩
                          case measure => simp [intOf]; omega
                      | false =>
                        rw [hh] at sV
                        have HHV := Lib.hid sV
                        have HHF := Lib.hid (HSF.out hh)
                        clear sV hh HSF
                        refine region_stagedP 2 (fun t => match t with | 0 => 2 | _ => 19) (fun i => if i = 2 then some 0 else if i = 19 then some 1 else none) (GPL [isV (.pointer (some ⟨b, 0, none⟩)), isV (.int .i64 (j : Int)), isV (.int .i64 M), isV (.slice (some ⟨gl, 0, none⟩) n n), isV (.int .i64 (j : Int)), isV (.pointer (some ⟨gl, j, none⟩)), isV (.int .i64 lf), isV (.int .i64 (lf - 1)), isV (.int .i64 M), isV (.bool false), isV (.bool false), isV (.slice (some ⟨gh, 0, none⟩) n n), isV (.int .i64 (j : Int)), isV (.pointer (some ⟨gh, j, none⟩)), isV (.bool false), isV (.bool true), isV (.bool true), isV (.pointer (some ⟨b, 0, none⟩)), isV (.int .i64 (j : Int)), isV (.bool false), isV (.bool false), isV (.bool false)]) (fun s w => Dd w3 w b bl bh L xs (tickT xs) gw gh gl n BB (.slice A5 m c5) TT TT.length) 233 (by kernel_rfl) rfl (by kernel_rfl) ⟨?ca, ?cb, ?cp⟩ ?cs ?c0 ⟨?s0, ?s1, ?s2, ?s3, ?s4, ?s5, ?s6, ?s7, ?s8, ?s9, ?s10, ?s11, ?s12, ?s13, ?s14, ?s15, ?s16, ?s17, ?s18, ?s19, ?s20, ?s21, trivial⟩ ?fin
                        case ca =>
                          intro i t h
                          split at h
                          · injection h with h; subst h; rename_i e; exact ⟨by omega, e.symm⟩
                          · skip
                            split at h
                            · injection h with h; subst h; rename_i e; exact ⟨by omega, e.symm⟩
                            · cases h
                        case cb =>
                          intro t ht
                          match t, ht with
                          | 0, _ => rfl
                          | 1, _ => rfl
                        case cp =>
                          intro t ht
                          match t, ht with
                          | 0, _ => exact ⟨[16, 10, 2], by kernel_rfl, by simp, rfl⟩
                        case cs =>
                          intro t ht
                          match t, ht with
                          | 0, _ => exact (by decide : 2 < 22)
                          | 1, _ => exact (by decide : 19 < 22)
                        case c0 => exact HJ.out.drew
                        case s0 =>
                          refine stepS_plain rfl rfl (fun T w1 s hT hd hs hW => ?_)
                          have ec := evT_const T
                          have ef := evT_func T
                          have d7 : evT T (.tmp 7) = .pointer (some ⟨b, 0, none⟩) := hT 7 (by kernel_rfl)
                          clear hT hd hW
                          refine ⟨.pointer (some ⟨b, 0, none⟩), ?_, rfl⟩
                          simp only [execOp]
                          go_simp
                        case s1 =>
                          refine stepS_plain rfl rfl (fun T w1 s hT hd hs hW => ?_)
                          have ec := evT_const T
                          have ef := evT_func T
                          have d18 : evT T (.tmp 18) = .int .i64 (j : Int) := hT 18 (by kernel_rfl)
                          clear hT hd hW
                          refine ⟨.int .i64 (j : Int), ?_, rfl⟩
                          simp only [execOp]
                          go_simp
                        case s2 =>
                          refine stepC_plain 0 rfl rfl (fun T w1 hT hd hW => ?_)
                          have ec := evT_const T
                          have ef := evT_func T
                          have d182 : evT T (.tmp 182) = .pointer (some ⟨b, 0, none⟩) := (by first | exact hd.1 | exact hd.2.1 | exact hd.2.2.1 | exact hd.2.2.2.1 | exact hd.2.2.2.2.1 | exact hd.2.2.2.2.2.1 | exact hd.2.2.2.2.2.2.1 | exact hd.2.2.2.2.2.2.2.1)
                          have d183 : evT T (.tmp 183) = .int .i64 (j : Int) := (by first | exact hd.1 | exact hd.2.1 | exact hd.2.2.1 | exact hd.2.2.2.1 | exact hd.2.2.2.2.1 | exact hd.2.2.2.2.2.1 | exact hd.2.2.2.2.2.2.1 | exact hd.2.2.2.2.2.2.2.1)
                          refine ⟨23, #[.pointer (some ⟨b, 0, none⟩), .int .i64 (j : Int)], ?_, ?_⟩
                          · clear hT hd hW
                            simp only [execOp, resolve]
                            go_simp
                          · have hX : Dd w3 w1 b bl bh L xs (tickT xs) gw gh gl n BB (.slice A5 m c5) TT TT.length := hW
                            refine (hX.left hjw).mono ?_
                            rintro e w2 ⟨rfl, rfl⟩
                            exact ⟨_, rfl, by rw [HLM.out]; rfl, hX⟩
                        case s3 =>
                          refine stepS_plain rfl rfl (fun T w1 s hT hd hs hW => ?_)
                          have ec := evT_const T
                          have ef := evT_func T
                          have d14 : evT T (.tmp 14) = .slice (some ⟨gl, 0, none⟩) n n := hT 14 (by kernel_rfl)
                          clear hT hd hW
                          refine ⟨.slice (some ⟨gl, 0, none⟩) n n, ?_, rfl⟩
                          simp only [execOp]
                          go_simp
                        case s4 =>
                          refine stepS_plain rfl rfl (fun T w1 s hT hd hs hW => ?_)
                          have ec := evT_const T
                          have ef := evT_func T
                          have d18 : evT T (.tmp 18) = .int .i64 (j : Int) := hT 18 (by kernel_rfl)
                          clear hT hd hW
                          refine ⟨.int .i64 (j : Int), ?_, rfl⟩
                          simp only [execOp]
                          go_simp
                        case s5 =>
                          refine stepS_plain rfl rfl (fun T w1 s hT hd hs hW => ?_)
                          have ec := evT_const T
                          have ef := evT_func T
                          have d185 : evT T (.tmp 185) = .slice (some ⟨gl, 0, none⟩) n n := (by first | exact hd.1 | exact hd.2.1 | exact hd.2.2.1 | exact hd.2.2.2.1 | exact hd.2.2.2.2.1 | exact hd.2.2.2.2.2.1 | exact hd.2.2.2.2.2.2.1 | exact hd.2.2.2.2.2.2.2.1)
                          have d186 : evT T (.tmp 186) = .int .i64 (j : Int) := (by first | exact hd.1 | exact hd.2.1 | exact hd.2.2.1 | exact hd.2.2.2.1 | exact hd.2.2.2.2.1 | exact hd.2.2.2.2.2.1 | exact hd.2.2.2.2.2.2.1 | exact hd.2.2.2.2.2.2.2.1)
                          have j0 : (0 : Int) ≤ (j : Int) := by omega
                          have j1 : (j : Int) < (n : Int) := by omega
                          clear hT hd hW
                          refine ⟨.pointer (some ⟨gl, j, none⟩), ?_, rfl⟩
                          simp only [execOp]
                          go_simp
                        case s6 =>
                          refine stepS_plain rfl rfl (fun T w1 s hT hd hs hW => ?_)
                          have ec := evT_const T
                          have ef := evT_func T
                          have d187 : evT T (.tmp 187) = .pointer (some ⟨gl, j, none⟩) := (by first | exact hd.1 | exact hd.2.1 | exact hd.2.2.1 | exact hd.2.2.2.1 | exact hd.2.2.2.2.1 | exact hd.2.2.2.2.2.1 | exact hd.2.2.2.2.2.2.1 | exact hd.2.2.2.2.2.2.2.1)
                          have q1 : w1.cell? ⟨gl, j, none⟩ = some (.int .i64 (leftP xs (j : Int))) := (hW.lf j hjt).1
                          rw [HLF.out] at q1
                          clear hT hd hW
                          refine ⟨.int .i64 lf, ?_, rfl⟩
                          simp only [execOp]
                          go_simp
                        case s7 =>
                          refine stepS_plain rfl rfl (fun T w1 s hT hd hs hW => ?_)
                          have ec := evT_const T
                          have ef := evT_func T
                          have d188 : evT T (.tmp 188) = .int .i64 lf := (by first | exact hd.1 | exact hd.2.1 | exact hd.2.2.1 | exact hd.2.2.2.1 | exact hd.2.2.2.2.1 | exact hd.2.2.2.2.2.1 | exact hd.2.2.2.2.2.2.1 | exact hd.2.2.2.2.2.2.2.1)
                          have y1 : IntKind.i64.wrap (lf - 1) = lf - 1 := by rw [IntWalk.i64_in _ (by omega)]
                          clear hT hd hW
                          refine ⟨.int .i64 (lf - 1), ?_, rfl⟩
                          simp only [execOp]
                          go_simp
                        case s8 =>
                          refine stepS_plain rfl rfl (fun T w1 s hT hd hs hW => ?_)
                          have ec := evT_const T
                          have ef := evT_func T
                          have d189 : evT T (.tmp 189) = .int .i64 (lf - 1) := (by first | exact hd.1 | exact hd.2.1 | exact hd.2.2.1 | exact hd.2.2.2.1 | exact hd.2.2.2.2.1 | exact hd.2.2.2.2.2.1 | exact hd.2.2.2.2.2.2.1 | exact hd.2.2.2.2.2.2.2.1)
                          have y1 : (if lf - 1 < 0 then (0 : Int) else lf - 1) = M := HMX.out
                          clear hT hd hW
                          refine ⟨.int .i64 M, ?_, rfl⟩
                          simp only [execOp]
                          go_simp
                        case s9 =>
                          refine stepS_plain rfl rfl (fun T w1 s hT hd hs hW => ?_)
                          have ec := evT_const T
                          have ef := evT_func T
                          have d184 : evT T (.tmp 184) = .int .i64 M := (by first | exact hd.1 | exact hd.2.1 | exact hd.2.2.1 | exact hd.2.2.2.1 | exact hd.2.2.2.2.1 | exact hd.2.2.2.2.2.1 | exact hd.2.2.2.2.2.2.1 | exact hd.2.2.2.2.2.2.2.1)
                          have d190 : evT T (.tmp 190) = .int .i64 M := (by first | exact hd.1 | exact hd.2.1 | exact hd.2.2.1 | exact hd.2.2.2.1 | exact hd.2.2.2.2.1 | exact hd.2.2.2.2.2.1 | exact hd.2.2.2.2.2.2.1 | exact hd.2.2.2.2.2.2.2.1)
                          clear hT hd hW
                          refine ⟨.bool false, ?_, rfl⟩
                          simp only [execOp]
                          go_simp
                        case s10 =>
                          refine stepS_plain rfl rfl (fun T w1 s hT hd hs hW => ?_)
                          have ec := evT_const T
                          have ef := evT_func T
                          have d191 : evT T (.tmp 191) = .bool false := (by first | exact hd.1 | exact hd.2.1 | exact hd.2.2.1 | exact hd.2.2.2.1 | exact hd.2.2.2.2.1 | exact hd.2.2.2.2.2.1 | exact hd.2.2.2.2.2.2.1 | exact hd.2.2.2.2.2.2.2.1)
                          clear hT hd hW
                          refine ⟨.bool false, ?_, rfl⟩
                          simp only [execOp]
                          go_simp
                        case s11 =>
                          refine stepS_on 10 192 false rfl rfl rfl (fun T w1 s hT hd hs hW => ⟨(by first | exact hd.1 | exact hd.2.1 | exact hd.2.2.1 | exact hd.2.2.2.1 | exact hd.2.2.2.2.1 | exact hd.2.2.2.2.2.1 | exact hd.2.2.2.2.2.2.1 | exact hd.2.2.2.2.2.2.2.1), ?_⟩)
                          have ec := evT_const T
                          have ef := evT_func T
                          have d13 : evT T (.tmp 13) = .slice (some ⟨gh, 0, none⟩) n n := hT 13 (by kernel_rfl)
                          clear hT hd hW
                          refine ⟨.slice (some ⟨gh, 0, none⟩) n n, ?_, rfl⟩
                          simp only [execOp]
                          go_simp
                        case s12 =>
                          refine stepS_on 10 192 false rfl rfl rfl (fun T w1 s hT hd hs hW => ⟨(by first | exact hd.1 | exact hd.2.1 | exact hd.2.2.1 | exact hd.2.2.2.1 | exact hd.2.2.2.2.1 | exact hd.2.2.2.2.2.1 | exact hd.2.2.2.2.2.2.1 | exact hd.2.2.2.2.2.2.2.1), ?_⟩)
                          have ec := evT_const T
                          have ef := evT_func T
                          have d18 : evT T (.tmp 18) = .int .i64 (j : Int) := hT 18 (by kernel_rfl)
                          clear hT hd hW
                          refine ⟨.int .i64 (j : Int), ?_, rfl⟩
                          simp only [execOp]
                          go_simp
                        case s13 =>
                          refine stepS_on 10 192 false rfl rfl rfl (fun T w1 s hT hd hs hW => ⟨(by first | exact hd.1 | exact hd.2.1 | exact hd.2.2.1 | exact hd.2.2.2.1 | exact hd.2.2.2.2.1 | exact hd.2.2.2.2.2.1 | exact hd.2.2.2.2.2.2.1 | exact hd.2.2.2.2.2.2.2.1), ?_⟩)
                          have ec := evT_const T
                          have ef := evT_func T
                          have d193 : evT T (.tmp 193) = .slice (some ⟨gh, 0, none⟩) n n := (by first | exact hd.1 | exact hd.2.1 | exact hd.2.2.1 | exact hd.2.2.2.1 | exact hd.2.2.2.2.1 | exact hd.2.2.2.2.2.1 | exact hd.2.2.2.2.2.2.1 | exact hd.2.2.2.2.2.2.2.1)
                          have d194 : evT T (.tmp 194) = .int .i64 (j : Int) := (by first | exact hd.1 | exact hd.2.1 | exact hd.2.2.1 | exact hd.2.2.2.1 | exact hd.2.2.2.2.1 | exact hd.2.2.2.2.2.1 | exact hd.2.2.2.2.2.2.1 | exact hd.2.2.2.2.2.2.2.1)
                          have j0 : (0 : Int) ≤ (j : Int) := by omega
                          have j1 : (j : Int) < (n : Int) := by omega
                          clear hT hd hW
                          refine ⟨.pointer (some ⟨gh, j, none⟩), ?_, rfl⟩
                          simp only [execOp]
                          go_simp
                        case s14 =>
                          refine stepS_on 10 192 false rfl rfl rfl (fun T w1 s hT hd hs hW => ⟨(by first | exact hd.1 | exact hd.2.1 | exact hd.2.2.1 | exact hd.2.2.2.1 | exact hd.2.2.2.2.1 | exact hd.2.2.2.2.2.1 | exact hd.2.2.2.2.2.2.1 | exact hd.2.2.2.2.2.2.2.1), ?_⟩)
                          have ec := evT_const T
                          have ef := evT_func T
                          have d195 : evT T (.tmp 195) = .pointer (some ⟨gh, j, none⟩) := (by first | exact hd.1 | exact hd.2.1 | exact hd.2.2.1 | exact hd.2.2.2.1 | exact hd.2.2.2.2.1 | exact hd.2.2.2.2.2.1 | exact hd.2.2.2.2.2.2.1 | exact hd.2.2.2.2.2.2.2.1)
                          have q1 : w1.cell? ⟨gh, j, none⟩ = some (.bool (heldP xs (j : Int))) := (hW.hd j hjt).1
                          rw [HHV.out] at q1
                          clear hT hd hW
                          refine ⟨.bool false, ?_, rfl⟩
                          simp only [execOp]
                          go_simp
                        case s15 =>
                          refine stepS_on 10 192 false rfl rfl rfl (fun T w1 s hT hd hs hW => ⟨(by first | exact hd.1 | exact hd.2.1 | exact hd.2.2.1 | exact hd.2.2.2.1 | exact hd.2.2.2.2.1 | exact hd.2.2.2.2.2.1 | exact hd.2.2.2.2.2.2.1 | exact hd.2.2.2.2.2.2.2.1), ?_⟩)
                          have ec := evT_const T
                          have ef := evT_func T
                          have d196 : evT T (.tmp 196) = .bool false := (by first | exact hd.1 | exact hd.2.1 | exact hd.2.2.1 | exact hd.2.2.2.1 | exact hd.2.2.2.2.1 | exact hd.2.2.2.2.2.1 | exact hd.2.2.2.2.2.2.1 | exact hd.2.2.2.2.2.2.2.1)
                          clear hT hd hW
                          refine ⟨.bool true, ?_, rfl⟩
                          simp only [execOp]
                          go_simp
                        case s16 =>
                          refine stepS_on 10 192 false rfl rfl rfl (fun T w1 s hT hd hs hW => ⟨(by first | exact hd.1 | exact hd.2.1 | exact hd.2.2.1 | exact hd.2.2.2.1 | exact hd.2.2.2.2.1 | exact hd.2.2.2.2.2.1 | exact hd.2.2.2.2.2.2.1 | exact hd.2.2.2.2.2.2.2.1), ?_⟩)
                          have ec := evT_const T
                          have ef := evT_func T
                          have d197 : evT T (.tmp 197) = .bool true := (by first | exact hd.1 | exact hd.2.1 | exact hd.2.2.1 | exact hd.2.2.2.1 | exact hd.2.2.2.2.1 | exact hd.2.2.2.2.2.1 | exact hd.2.2.2.2.2.2.1 | exact hd.2.2.2.2.2.2.2.1)
                          clear hT hd hW
                          refine ⟨.bool true, ?_, rfl⟩
                          simp only [execOp]
                          go_simp
                        case s17 =>
                          refine stepS_on 16 198 true rfl rfl rfl (fun T w1 s hT hd hs hW => ⟨(by first | exact hd.1 | exact hd.2.1 | exact hd.2.2.1 | exact hd.2.2.2.1 | exact hd.2.2.2.2.1 | exact hd.2.2.2.2.2.1 | exact hd.2.2.2.2.2.2.1 | exact hd.2.2.2.2.2.2.2.1), ?_⟩)
                          have ec := evT_const T
                          have ef := evT_func T
                          have d7 : evT T (.tmp 7) = .pointer (some ⟨b, 0, none⟩) := hT 7 (by kernel_rfl)
                          clear hT hd hW
                          refine ⟨.pointer (some ⟨b, 0, none⟩), ?_, rfl⟩
                          simp only [execOp]
                          go_simp
                        case s18 =>
                          refine stepS_on 16 198 true rfl rfl rfl (fun T w1 s hT hd hs hW => ⟨(by first | exact hd.1 | exact hd.2.1 | exact hd.2.2.1 | exact hd.2.2.2.1 | exact hd.2.2.2.2.1 | exact hd.2.2.2.2.2.1 | exact hd.2.2.2.2.2.2.1 | exact hd.2.2.2.2.2.2.2.1), ?_⟩)
                          have ec := evT_const T
                          have ef := evT_func T
                          have d18 : evT T (.tmp 18) = .int .i64 (j : Int) := hT 18 (by kernel_rfl)
                          clear hT hd hW
                          refine ⟨.int .i64 (j : Int), ?_, rfl⟩
                          simp only [execOp]
                          go_simp
                        case s19 =>
                          refine stepC_on 1 16 198 true rfl rfl rfl (fun T w1 hT hd hW => ⟨(by first | exact hd.1 | exact hd.2.1 | exact hd.2.2.1 | exact hd.2.2.2.1 | exact hd.2.2.2.2.1 | exact hd.2.2.2.2.2.1 | exact hd.2.2.2.2.2.2.1 | exact hd.2.2.2.2.2.2.2.1), ?_⟩)
                          have ec := evT_const T
                          have ef := evT_func T
                          have d199 : evT T (.tmp 199) = .pointer (some ⟨b, 0, none⟩) := (by first | exact hd.1 | exact hd.2.1 | exact hd.2.2.1 | exact hd.2.2.2.1 | exact hd.2.2.2.2.1 | exact hd.2.2.2.2.2.1 | exact hd.2.2.2.2.2.2.1 | exact hd.2.2.2.2.2.2.2.1)
                          have d200 : evT T (.tmp 200) = .int .i64 (j : Int) := (by first | exact hd.1 | exact hd.2.1 | exact hd.2.2.1 | exact hd.2.2.2.1 | exact hd.2.2.2.2.1 | exact hd.2.2.2.2.2.1 | exact hd.2.2.2.2.2.2.1 | exact hd.2.2.2.2.2.2.2.1)
                          refine ⟨21, #[.pointer (some ⟨b, 0, none⟩), .int .i64 (j : Int)], ?_, ?_⟩
                          · clear hT hd hW
                            simp only [execOp, resolve]
                            go_simp
                          · have hX : Dd w3 w1 b bl bh L xs (tickT xs) gw gh gl n BB (.slice A5 m c5) TT TT.length := hW
                            refine (hX.held hjw).mono ?_
                            rintro e w2 ⟨rfl, h2⟩
                            exact ⟨_, rfl, by rw [HHF.out]; rfl, h2⟩
                        case s20 =>
                          refine stepS_on 10 192 false rfl rfl rfl (fun T w1 s hT hd hs hW => ⟨(by first | exact hd.1 | exact hd.2.1 | exact hd.2.2.1 | exact hd.2.2.2.1 | exact hd.2.2.2.2.1 | exact hd.2.2.2.2.2.1 | exact hd.2.2.2.2.2.2.1 | exact hd.2.2.2.2.2.2.2.1), ?_⟩)
                          have ec := evT_const T
                          have ef := evT_func T
                          have d198 : evT T (.tmp 198) = .bool true := (by first | exact hd.1 | exact hd.2.1 | exact hd.2.2.1 | exact hd.2.2.2.1 | exact hd.2.2.2.2.1 | exact hd.2.2.2.2.2.1 | exact hd.2.2.2.2.2.2.1 | exact hd.2.2.2.2.2.2.2.1)
                          have d201 : evT T (.tmp 201) = .bool false := (by first | exact hd.1 | exact hd.2.1 | exact hd.2.2.1 | exact hd.2.2.2.1 | exact hd.2.2.2.2.1 | exact hd.2.2.2.2.2.1 | exact hd.2.2.2.2.2.2.1 | exact hd.2.2.2.2.2.2.2.1)
                          clear hT hd hW
                          refine ⟨.bool false, ?_, rfl⟩
                          simp only [execOp]
                          go_simp
                        case s21 =>
                          refine stepS_plain rfl rfl (fun T w1 s hT hd hs hW => ?_)
                          have ec := evT_const T
                          have ef := evT_func T
                          have d192 : evT T (.tmp 192) = .bool false := (by first | exact hd.1 | exact hd.2.1 | exact hd.2.2.1 | exact hd.2.2.2.1 | exact hd.2.2.2.2.1 | exact hd.2.2.2.2.2.1 | exact hd.2.2.2.2.2.2.1 | exact hd.2.2.2.2.2.2.2.1)
                          have d202 : evT T (.tmp 202) = .bool false := (by first | exact hd.1 | exact hd.2.1 | exact hd.2.2.1 | exact hd.2.2.2.1 | exact hd.2.2.2.2.1 | exact hd.2.2.2.2.2.1 | exact hd.2.2.2.2.2.2.1 | exact hd.2.2.2.2.2.2.2.1)
                          clear hT hd hW
                          refine ⟨.bool false, ?_, rfl⟩
                          simp only [execOp]
                          go_simp
                        case fin =>
                          intro T w1 hT hW hd
                          have e203 : T 203 = .bool false := hd.2.2.2.2.2.2.2.2.2.2.2.2.2.2.2.2.2.2.2.2.2.1
                          simp only [putL, Act.put, Option.getD_some, List.setIfInBounds_toArray, List.set_cons_zero, List.set_cons_succ]
                          rw [e203]
                          clear e203
                          have HDs : RowKit.Hid (Dd w3 w1 b bl bh L xs (tickT xs) gw gh gl n BB (.slice A5 m c5) TT TT.length) := Lib.hid hW
                          clear hT hd hW
                          go_wp2
                          go_roundw
                          case rel => exact ⟨j + 1, hjt, by go_num, HDs⟩
                          case measure => simp [intOf]; omega
                    · have j1 : ¬ ((j : Int) < (n : Int)) := by omega
                      have HTl := Lib.hid (HJ.out.done HID.out HXN.out)
                      clear HJ
                      go_wp2
                      go_roundw
                      case rel => exact ⟨k + 1, _, hlt, by go_num, HTl⟩
                      case measure => simp [intOf]; omega
      · have hbb := HR.out.lw.bel
        by_cases hk2 : k < nX
        · have hk1 : (k : Int) < (nX : Int) := by omega
          have hn0' : ¬ ((0 : Int) < (n : Int)) := by omega
          clear HR
          go_wp2
          go_ret
          exact ⟨rfl, HB3.out.trans (hbb.mono hz3)⟩
        · have hk1 : ¬ ((k : Int) < (nX : Int)) := by omega
          clear HR
          go_wp2
          go_ret
          exact ⟨rfl, HB3.out.trans (hbb.mono hz3)⟩

end Go.Proofs.Ytpieihjipdgplaa
