/- The walk of catnaplaw8.ResetLate. -/
import Derived.Test.YtpieihjipdgplaaRA
namespace Go.Proofs.Ytpieihjipdgplaa
set_option linter.unusedSimpArgs false
set_option linter.unusedVariables false
open Go.RowKit Go.Maps

set_option maxRecDepth 1000000 in
set_option maxHeartbeats 8000000 in
theorem late_any (A : Option Addr) (c : Nat) (l : List Int) (at_ tk : Int) (w : World) (hwa : wfI at_) (hwt : wfI tk) (hl : l.length ≤ maxLen) (hwf : ∀ x, x ∈ l → wfI x) (h : IntsAt w w.heap.size A l) :
    Calls Try.prog 8 #[.slice A l.length c, .int .i64 at_, .int .i64 tk] w (TellsB true w) := by
  have HWA := Lib.hid hwa
  have HWT := Lib.hid hwt
  clear hwa hwt
  have HL := Lib.hid hl
  have HWF := Lib.hid hwf
  have HI := Lib.hid h
  clear hl hwf h
  go_enter Try.func8, Try.ntmps8
  go_wp2_with fail
  refine (shown_any _).mono ?_
  rintro e w1 ⟨rfl, hb1⟩
  have HB1 := Lib.hid hb1
  have hz1 := hb1.size
  clear hb1
  go_wp2_with fail
  refine (chip_any A c l w1 HL.out HWF.out ((HI.out.below HB1.out (Nat.le_refl _)).more hz1)).mono ?_
  rintro e w2 ⟨v1, v2, v3, v4, rfl, hcv, hb2⟩
  obtain ⟨A1, c1, A2, c2, A3, c3, A4, c4, rfl, rfl, rfl, rfl, hrs⟩ := chip_parts hcv
  have hz2 := hb2.size
  have hba := ((Below.refl w2.heap.size w2).alloc (Nat.le_refl _) (.cells #[.slice A1 0 c1, .slice A2 0 c2, .slice A3 (lsL l).length c3, .slice A4 0 c4] 30))
  have hbx := BoxAt.new w2 [.slice A1 0 c1, .slice A2 0 c2, .slice A3 (lsL l).length c3, .slice A4 0 c4] 30
  have hcv3 := Steady.later hcv hba
  have HCV3 := Lib.hid hcv3
  have hrs3 := (hrs.below hba (Nat.le_refl _)).more hba.size
  have HRS := Lib.hid hrs3
  have HBX := Lib.hid hbx
  have HB3 := Lib.hid (HB1.out.trans ((hb2.mono hz1).trans (hba.mono (by omega))))
  clear hb2 hcv hrs HI HWF HL hba hbx hcv3 hrs3
  go_wp2_with fail
  refine (new_ok (chipL l) _ _ (chipL_ok l) HCV3.out (chipL_right l) (chipL_rsts l).1).mono ?_
  rintro e w4 ⟨b, bl, bh, rfl, hgb, hgl, hgh, hli, hb4⟩
  rw [rLs_ls] at hli
  have hok := lsL_ok l
  have hn6 := lsL_len l
  obtain ⟨w3, hw3⟩ : ∃ w3, w3 = (w2.alloc (.cells #[.slice A1 0 c1, .slice A2 0 c2, .slice A3 (lsL l).length c3, .slice A4 0 c4] 30)) := ⟨_, rfl⟩
  obtain ⟨g, hg⟩ : ∃ g, g = w2.heap.size := ⟨_, rfl⟩
  have hbx := HBX.out
  have hrs := HRS.out
  have hb3 := HB3.out
  rw [← hw3] at hgb hgl hgh hb4 hbx hrs hb3
  rw [← hg] at hbx ⊢
  have hlw := Lw.start hli hgb hgl hgh hb4
  clear HBX HRS HB3 HCV3 hli hb4 hw3 hz1 hz2 HB1 hg w2 w1 hgb hgl hgh
  obtain ⟨L, hL⟩ : ∃ L, L = lsL l := ⟨_, rfl⟩
  rw [← hL] at hbx hrs hlw hok hn6 ⊢
  clear hL
  obtain ⟨n, hn⟩ : ∃ n, n = L.length := ⟨_, rfl⟩
  rw [← hn] at hbx hn6 ⊢
  have HNN := Lib.hid hn
  have HOK := Lib.hid hok
  have HLW := Lib.hid hlw
  have HBX := Lib.hid hbx
  have HRS := Lib.hid hrs
  have HB3 := Lib.hid hb3
  have hx4 := HLW.out.box hbx
  obtain ⟨x2, -⟩ := hx4 2 _ rfl
  have hz4 := HLW.out.size
  have hzb : g < w3.heap.size := hbx.lt
  have hz3 := hb3.size
  have hlt4 := HLW.out.lines.lt
  clear hbx hrs hb3 hx4 hn hok hlw
  by_cases hn0 : n = 0
  · have e0 : ((n : Int) == 0) = true := by simp [hn0]
    go_wp2
    go_ret
    exact ⟨rfl, HB3.out.trans (HLW.out.bel.mono hz3)⟩
  · have e0 : ((n : Int) == 0) = false := by simp [hn0]
    go_wp2_with fail
    refine (pick_any at_ (n : Int) _ HWA.out (by omega) (by omega)).mono ?_
    rintro e w' ⟨rfl, rfl⟩
    obtain ⟨i, hi, hil⟩ : ∃ i : Nat, pickP at_ (n : Int) = (i : Int) ∧ i < n := ⟨(pickP at_ (n : Int)).toNat, by have := pickP_lo (c := at_) (n := (n : Int)) (by omega); omega, by have := pickP_lo (c := at_) (n := (n : Int)) (by omega); have := pickP_hi (c := at_) (n := (n : Int)) (by omega); omega⟩
    rw [hi]
    have hiw : wfI (i : Int) := by unfold wfI; omega
    have hx := List.getElem?_eq_getElem (l := L) (i := i) (by rw [← HNN.out]; exact hil)
    generalize L[i] = x at hx
    have hx20 := HOK.out x (List.mem_of_getElem? hx)
    have HX := Lib.hid hx
    clear hx hi e0 HOK
    go_wp2
    go_loopw [12] (fun v wr => ∃ j : Nat, j ≤ n ∧ v = .int .i64 j ∧ RowKit.Hid (Lw w3 wr b bl bh L (startL L))) (fun v _ => n - (intOf v).toNat)
    case atStart => exact ⟨0, Nat.zero_le _, rfl, HLW⟩
    case round =>
      clear x2 HLW hz4 hlt4 w4
      obtain ⟨j, hj, rfl, HR⟩ := hrel
      obtain ⟨z2, -⟩ := HR.out.box HBX.out 2 _ rfl
      by_cases hjt : j < n
      · have hjw : wfI (j : Int) := by unfold wfI; omega
        have j1 : (j : Int) < (n : Int) := by omega
        obtain ⟨sh, sl⟩ := startL_held (L := L) (j := j) (by rw [← HNN.out]; exact hjt)
        have HSH := Lib.hid sh
        have HSL := Lib.hid sl
        clear sh sl
        go_wp2_with fail
        refine (HR.out.held hjw).mono ?_
        rintro e w5 ⟨rfl, hl5, -⟩
        rw [HSH.out]
        have H5 := Lib.hid hl5
        clear hl5
        go_wp2_with fail
        refine (H5.out.left hjw).mono ?_
        rintro e w6 ⟨rfl, rfl⟩
        rw [HSL.out]
        go_wp2
        go_roundw
        case rel => exact ⟨j + 1, hjt, by go_num, H5⟩
        case measure => simp [intOf]; omega
      · have j1 : ¬ ((j : Int) < (n : Int)) := by omega
        go_wp2_with fail
        refine (pick_any tk 60 _ HWT.out (by omega) (by omega)).mono ?_
        rintro e w' ⟨rfl, rfl⟩
        obtain ⟨q, hq, hq60⟩ : ∃ q : Nat, pickP tk 60 = (q : Int) ∧ q < 60 := ⟨(pickP tk 60).toNat, by have := pickP_lo (c := tk) (n := 60) (by omega); omega, by have := pickP_lo (c := tk) (n := 60) (by omega); have := pickP_hi (c := tk) (n := 60) (by omega); omega⟩
        rw [hq]
        clear hq HWT HWA hj j1 hjt z2
        have hone : startL L = oneL L i ⟨x, true, 0, false⟩ := oneL_start HX.out
        have HR1 : RowKit.Hid (Lw w3 wr b bl bh L (oneL L i ⟨x, true, 0, false⟩)) := Lib.hid (by rw [← hone]; exact HR.out)
        clear hone HR
        go_wp2_with fail
        refine (HR1.out.assert hiw).mono ?_
        rintro e w5 ⟨rfl, hl5, -⟩
        rw [(oneL_assert HX.out _).1, lateL_zero hx20.1 _ rfl] at hl5
        have HL5 := Lib.hid hl5
        clear hl5 HR1
        go_wp2
        go_loopw [14] (fun v wr => ∃ k : Nat, k ≤ q ∧ v = .int .i64 k ∧ RowKit.Hid (Lw w3 wr b bl bh L (oneL L i (lateL x k)))) (fun v _ => q - (intOf v).toNat)
        case atStart => exact ⟨0, Nat.zero_le _, rfl, HL5⟩
        case round =>
          clear HL5
          obtain ⟨k, hk, rfl, HR⟩ := hrel
          by_cases hkt : k < q
          · have k1 : (k : Int) < (q : Int) := by omega
            have t0 : tickE (oneL L i (lateL x k)) = [] := by rw [oneL_told HX.out, lateL_go]; rfl
            have t1 : tickT (oneL L i (lateL x k)) = oneL L i (lateL x (k + 1)) := by rw [oneL_tick HX.out, lateL_pass]
            have t2 : heldP (oneL L i (lateL x (k + 1))) (i : Int) = true := oneL_held HX.out _
            have t3 : leftP (oneL L i (lateL x (k + 1))) (i : Int) = if ((k + 1 : Nat) : Int) ≤ x then x - (k + 1 : Nat) else 0 := oneL_left HX.out _
            have HT0 := Lib.hid t0
            have HT1 := Lib.hid t1
            have HT2 := Lib.hid t2
            have i0 : (0 : Int) ≤ (i : Int) := by omega
            have i1 : (i : Int) < (n : Int) := by omega
            clear t0 t1 t2
            go_wp2
            by_cases hkx : ((k + 1 : Nat) : Int) ≤ x
            · rw [if_pos hkx] at t3
              have HT3 := Lib.hid t3
              have hb0 : ¬ (x - (k : Int) - 1 < 0) := by omega
              have HKX := Lib.hid hkx
              clear t3 hkx
              obtain ⟨ad, hA, -⟩ := HR.out.rst HRS.out HX.out
              subst hA
              refine region_stagedP 3 (fun t => match t with | 0 => 1 | 1 => 7 | _ => 13) (fun i => if i = 1 then some 0 else if i = 7 then some 1 else if i = 13 then some 2 else none) (GPL [isV (.pointer (some ⟨b, 0, none⟩)), (fun v => ∃ A c, v = .slice A 0 c), isV (.int .i64 0), isV (.bool false), isV (.bool false), isV (.pointer (some ⟨b, 0, none⟩)), isV (.int .i64 (i : Int)), isV (.bool true), isV (.bool false), isV (.bool false), isV (.bool false), isV (.pointer (some ⟨b, 0, none⟩)), isV (.int .i64 (i : Int)), isV (.int .i64 (x - (k : Int) - 1)), isV (.pointer (some ⟨g, 2, none⟩)), isV (.slice (some ad) n c3), isV (.int .i64 (i : Int)), isV (.pointer (some (ad.add i))), isV (.pointer (some (ad.add i))), isV (.int .i64 x), isV (.int .i64 (k : Int)), isV (.int .i64 (x - (k : Int))), isV (.int .i64 (x - (k : Int) - 1)), isV (.int .i64 (x - (k : Int) - 1)), isV (.bool false), isV (.bool false)]) (fun s w => Lw w3 w b bl bh L (stgLn [oneL L i (lateL x k), oneL L i (lateL x (k + 1)), oneL L i (lateL x (k + 1)), oneL L i (lateL x (k + 1))] s)) 135 (by kernel_rfl) rfl (by kernel_rfl) ⟨?ca, ?cb, ?cp⟩ ?cs ?c0 ⟨?s0, ?s1, ?s2, ?s3, ?s4, ?s5, ?s6, ?s7, ?s8, ?s9, ?s10, ?s11, ?s12, ?s13, ?s14, ?s15, ?s16, ?s17, ?s18, ?s19, ?s20, ?s21, ?s22, ?s23, ?s24, ?s25, trivial⟩ ?fin
              case ca =>
                intro i t h
                split at h
                · injection h with h; subst h; rename_i e; exact ⟨by omega, e.symm⟩
                · skip
                  split at h
                  · injection h with h; subst h; rename_i e; exact ⟨by omega, e.symm⟩
                  · skip
                    split at h
                    · injection h with h; subst h; rename_i e; exact ⟨by omega, e.symm⟩
                    · cases h
              case cb =>
                intro t ht
                match t, ht with
                | 0, _ => rfl
                | 1, _ => rfl
                | 2, _ => rfl
              case cp =>
                intro t ht
                match t, ht with
                | 0, _ => exact ⟨[4, 1], by kernel_rfl, by simp, rfl⟩
                | 1, _ => exact ⟨[10, 7], by kernel_rfl, by simp, rfl⟩
              case cs =>
                intro t ht
                match t, ht with
                | 0, _ => exact (by decide : 1 < 26)
                | 1, _ => exact (by decide : 7 < 26)
                | 2, _ => exact (by decide : 13 < 26)
              case c0 => exact HR.out.drew
              case s0 =>
                refine stepS_plain rfl rfl (fun T w1 s hT hd hs hW => ?_)
                have ec := evT_const T
                have ef := evT_func T
                have d9 : evT T (.tmp 9) = .pointer (some ⟨b, 0, none⟩) := hT 9 (by kernel_rfl)
                clear hT hd hW
                refine ⟨.pointer (some ⟨b, 0, none⟩), ?_, rfl⟩
                simp only [execOp]
                go_simp
              case s1 =>
                refine stepC_plain 0 rfl rfl (fun T w1 hT hd hW => ?_)
                have ec := evT_const T
                have ef := evT_func T
                have d82 : evT T (.tmp 82) = .pointer (some ⟨b, 0, none⟩) := (by first | exact hd.1 | exact hd.2.1 | exact hd.2.2.1 | exact hd.2.2.2.1 | exact hd.2.2.2.2.1 | exact hd.2.2.2.2.2.1 | exact hd.2.2.2.2.2.2.1 | exact hd.2.2.2.2.2.2.2.1)
                refine ⟨19, #[.pointer (some ⟨b, 0, none⟩)], ?_, ?_⟩
                · clear hT hd hW
                  simp only [execOp, resolve]
                  go_simp
                · have hX : Lw w3 w1 b bl bh L (oneL L i (lateL x k)) := hW
                  refine (hX.tick0 HT0.out HT1.out).mono ?_
                  rintro e w2 ⟨A5, c5, rfl, h2⟩
                  exact ⟨_, rfl, ⟨A5, c5, rfl⟩, h2⟩
              case s2 =>
                refine stepS_plain rfl rfl (fun T w1 s hT hd hs hW => ?_)
                have ec := evT_const T
                have ef := evT_func T
                obtain ⟨A5, c5, d83⟩ : (fun v => ∃ A c, v = .slice A 0 c) (evT T (.tmp 83)) := (by first | exact hd.1 | exact hd.2.1 | exact hd.2.2.1 | exact hd.2.2.2.1 | exact hd.2.2.2.2.1 | exact hd.2.2.2.2.2.1 | exact hd.2.2.2.2.2.2.1 | exact hd.2.2.2.2.2.2.2.1)
                clear hT hd hW
                refine ⟨.int .i64 0, ?_, rfl⟩
                simp only [execOp]
                go_simp
              case s3 =>
                refine stepS_plain rfl rfl (fun T w1 s hT hd hs hW => ?_)
                have ec := evT_const T
                have ef := evT_func T
                have d84 : evT T (.tmp 84) = .int .i64 0 := (by first | exact hd.1 | exact hd.2.1 | exact hd.2.2.1 | exact hd.2.2.2.1 | exact hd.2.2.2.2.1 | exact hd.2.2.2.2.2.1 | exact hd.2.2.2.2.2.2.1 | exact hd.2.2.2.2.2.2.2.1)
                clear hT hd hW
                refine ⟨.bool false, ?_, rfl⟩
                simp only [execOp]
                go_simp
              case s4 =>
                refine stepS_plain rfl rfl (fun T w1 s hT hd hs hW => ?_)
                have ec := evT_const T
                have ef := evT_func T
                have d85 : evT T (.tmp 85) = .bool false := (by first | exact hd.1 | exact hd.2.1 | exact hd.2.2.1 | exact hd.2.2.2.1 | exact hd.2.2.2.2.1 | exact hd.2.2.2.2.2.1 | exact hd.2.2.2.2.2.2.1 | exact hd.2.2.2.2.2.2.2.1)
                clear hT hd hW
                refine ⟨.bool false, ?_, rfl⟩
                simp only [execOp]
                go_simp
              case s5 =>
                refine stepS_on 4 86 false rfl rfl rfl (fun T w1 s hT hd hs hW => ⟨(by first | exact hd.1 | exact hd.2.1 | exact hd.2.2.1 | exact hd.2.2.2.1 | exact hd.2.2.2.2.1 | exact hd.2.2.2.2.2.1 | exact hd.2.2.2.2.2.2.1 | exact hd.2.2.2.2.2.2.2.1), ?_⟩)
                have ec := evT_const T
                have ef := evT_func T
                have d9 : evT T (.tmp 9) = .pointer (some ⟨b, 0, none⟩) := hT 9 (by kernel_rfl)
                clear hT hd hW
                refine ⟨.pointer (some ⟨b, 0, none⟩), ?_, rfl⟩
                simp only [execOp]
                go_simp
              case s6 =>
                refine stepS_on 4 86 false rfl rfl rfl (fun T w1 s hT hd hs hW => ⟨(by first | exact hd.1 | exact hd.2.1 | exact hd.2.2.1 | exact hd.2.2.2.1 | exact hd.2.2.2.2.1 | exact hd.2.2.2.2.2.1 | exact hd.2.2.2.2.2.2.1 | exact hd.2.2.2.2.2.2.2.1), ?_⟩)
                have ec := evT_const T
                have ef := evT_func T
                have d11 : evT T (.tmp 11) = .int .i64 (i : Int) := hT 11 (by kernel_rfl)
                clear hT hd hW
                refine ⟨.int .i64 (i : Int), ?_, rfl⟩
                simp only [execOp]
                go_simp
              case s7 =>
                refine stepC_on 1 4 86 false rfl rfl rfl (fun T w1 hT hd hW => ⟨(by first | exact hd.1 | exact hd.2.1 | exact hd.2.2.1 | exact hd.2.2.2.1 | exact hd.2.2.2.2.1 | exact hd.2.2.2.2.2.1 | exact hd.2.2.2.2.2.2.1 | exact hd.2.2.2.2.2.2.2.1), ?_⟩)
                have ec := evT_const T
                have ef := evT_func T
                have d87 : evT T (.tmp 87) = .pointer (some ⟨b, 0, none⟩) := (by first | exact hd.1 | exact hd.2.1 | exact hd.2.2.1 | exact hd.2.2.2.1 | exact hd.2.2.2.2.1 | exact hd.2.2.2.2.2.1 | exact hd.2.2.2.2.2.2.1 | exact hd.2.2.2.2.2.2.2.1)
                have d88 : evT T (.tmp 88) = .int .i64 (i : Int) := (by first | exact hd.1 | exact hd.2.1 | exact hd.2.2.1 | exact hd.2.2.2.1 | exact hd.2.2.2.2.1 | exact hd.2.2.2.2.2.1 | exact hd.2.2.2.2.2.2.1 | exact hd.2.2.2.2.2.2.2.1)
                refine ⟨21, #[.pointer (some ⟨b, 0, none⟩), .int .i64 (i : Int)], ?_, ?_⟩
                · clear hT hd hW
                  simp only [execOp, resolve]
                  go_simp
                · have hX : Lw w3 w1 b bl bh L (oneL L i (lateL x (k + 1))) := hW
                  refine (hX.held hiw).mono ?_
                  rintro e w2 ⟨rfl, h2, -⟩
                  exact ⟨_, rfl, by rw [HT2.out]; rfl, h2⟩
              case s8 =>
                refine stepS_on 4 86 false rfl rfl rfl (fun T w1 s hT hd hs hW => ⟨(by first | exact hd.1 | exact hd.2.1 | exact hd.2.2.1 | exact hd.2.2.2.1 | exact hd.2.2.2.2.1 | exact hd.2.2.2.2.2.1 | exact hd.2.2.2.2.2.2.1 | exact hd.2.2.2.2.2.2.2.1), ?_⟩)
                have ec := evT_const T
                have ef := evT_func T
                have d89 : evT T (.tmp 89) = .bool true := (by first | exact hd.1 | exact hd.2.1 | exact hd.2.2.1 | exact hd.2.2.2.1 | exact hd.2.2.2.2.1 | exact hd.2.2.2.2.2.1 | exact hd.2.2.2.2.2.2.1 | exact hd.2.2.2.2.2.2.2.1)
                clear hT hd hW
                refine ⟨.bool false, ?_, rfl⟩
                simp only [execOp]
                go_simp
              case s9 =>
                refine stepS_plain rfl rfl (fun T w1 s hT hd hs hW => ?_)
                have ec := evT_const T
                have ef := evT_func T
                have d86 : evT T (.tmp 86) = .bool false := (by first | exact hd.1 | exact hd.2.1 | exact hd.2.2.1 | exact hd.2.2.2.1 | exact hd.2.2.2.2.1 | exact hd.2.2.2.2.2.1 | exact hd.2.2.2.2.2.2.1 | exact hd.2.2.2.2.2.2.2.1)
                have d90 : evT T (.tmp 90) = .bool false := (by first | exact hd.1 | exact hd.2.1 | exact hd.2.2.1 | exact hd.2.2.2.1 | exact hd.2.2.2.2.1 | exact hd.2.2.2.2.2.1 | exact hd.2.2.2.2.2.2.1 | exact hd.2.2.2.2.2.2.2.1)
                clear hT hd hW
                refine ⟨.bool false, ?_, rfl⟩
                simp only [execOp]
                go_simp
              case s10 =>
                refine stepS_plain rfl rfl (fun T w1 s hT hd hs hW => ?_)
                have ec := evT_const T
                have ef := evT_func T
                have d91 : evT T (.tmp 91) = .bool false := (by first | exact hd.1 | exact hd.2.1 | exact hd.2.2.1 | exact hd.2.2.2.1 | exact hd.2.2.2.2.1 | exact hd.2.2.2.2.2.1 | exact hd.2.2.2.2.2.2.1 | exact hd.2.2.2.2.2.2.2.1)
                clear hT hd hW
                refine ⟨.bool false, ?_, rfl⟩
                simp only [execOp]
                go_simp
              case s11 =>
                refine stepS_on 10 92 false rfl rfl rfl (fun T w1 s hT hd hs hW => ⟨(by first | exact hd.1 | exact hd.2.1 | exact hd.2.2.1 | exact hd.2.2.2.1 | exact hd.2.2.2.2.1 | exact hd.2.2.2.2.2.1 | exact hd.2.2.2.2.2.2.1 | exact hd.2.2.2.2.2.2.2.1), ?_⟩)
                have ec := evT_const T
                have ef := evT_func T
                have d9 : evT T (.tmp 9) = .pointer (some ⟨b, 0, none⟩) := hT 9 (by kernel_rfl)
                clear hT hd hW
                refine ⟨.pointer (some ⟨b, 0, none⟩), ?_, rfl⟩
                simp only [execOp]
                go_simp
              case s12 =>
                refine stepS_on 10 92 false rfl rfl rfl (fun T w1 s hT hd hs hW => ⟨(by first | exact hd.1 | exact hd.2.1 | exact hd.2.2.1 | exact hd.2.2.2.1 | exact hd.2.2.2.2.1 | exact hd.2.2.2.2.2.1 | exact hd.2.2.2.2.2.2.1 | exact hd.2.2.2.2.2.2.2.1), ?_⟩)
                have ec := evT_const T
                have ef := evT_func T
                have d11 : evT T (.tmp 11) = .int .i64 (i : Int) := hT 11 (by kernel_rfl)
                clear hT hd hW
                refine ⟨.int .i64 (i : Int), ?_, rfl⟩
                simp only [execOp]
                go_simp
              case s13 =>
                refine stepC_on 2 10 92 false rfl rfl rfl (fun T w1 hT hd hW => ⟨(by first | exact hd.1 | exact hd.2.1 | exact hd.2.2.1 | exact hd.2.2.2.1 | exact hd.2.2.2.2.1 | exact hd.2.2.2.2.2.1 | exact hd.2.2.2.2.2.2.1 | exact hd.2.2.2.2.2.2.2.1), ?_⟩)
                have ec := evT_const T
                have ef := evT_func T
                have d93 : evT T (.tmp 93) = .pointer (some ⟨b, 0, none⟩) := (by first | exact hd.1 | exact hd.2.1 | exact hd.2.2.1 | exact hd.2.2.2.1 | exact hd.2.2.2.2.1 | exact hd.2.2.2.2.2.1 | exact hd.2.2.2.2.2.2.1 | exact hd.2.2.2.2.2.2.2.1)
                have d94 : evT T (.tmp 94) = .int .i64 (i : Int) := (by first | exact hd.1 | exact hd.2.1 | exact hd.2.2.1 | exact hd.2.2.2.1 | exact hd.2.2.2.2.1 | exact hd.2.2.2.2.2.1 | exact hd.2.2.2.2.2.2.1 | exact hd.2.2.2.2.2.2.2.1)
                refine ⟨23, #[.pointer (some ⟨b, 0, none⟩), .int .i64 (i : Int)], ?_, ?_⟩
                · clear hT hd hW
                  simp only [execOp, resolve]
                  go_simp
                · have hX : Lw w3 w1 b bl bh L (oneL L i (lateL x (k + 1))) := hW
                  refine (hX.left hiw).mono ?_
                  rintro e w2 ⟨rfl, rfl⟩
                  exact ⟨_, rfl, by rw [HT3.out]; exact congrArg _ (by push_cast; omega), hX⟩
              case s14 =>
                refine stepS_on 10 92 false rfl rfl rfl (fun T w1 s hT hd hs hW => ⟨(by first | exact hd.1 | exact hd.2.1 | exact hd.2.2.1 | exact hd.2.2.2.1 | exact hd.2.2.2.2.1 | exact hd.2.2.2.2.2.1 | exact hd.2.2.2.2.2.2.1 | exact hd.2.2.2.2.2.2.2.1), ?_⟩)
                have ec := evT_const T
                have ef := evT_func T
                have d8 : evT T (.tmp 8) = .pointer (some ⟨g, 0, none⟩) := hT 8 (by kernel_rfl)
                clear hT hd hW
                refine ⟨.pointer (some ⟨g, 2, none⟩), ?_, rfl⟩
                simp only [execOp]
                go_simp
              case s15 =>
                refine stepS_on 10 92 false rfl rfl rfl (fun T w1 s hT hd hs hW => ⟨(by first | exact hd.1 | exact hd.2.1 | exact hd.2.2.1 | exact hd.2.2.2.1 | exact hd.2.2.2.2.1 | exact hd.2.2.2.2.2.1 | exact hd.2.2.2.2.2.2.1 | exact hd.2.2.2.2.2.2.2.1), ?_⟩)
                have ec := evT_const T
                have ef := evT_func T
                have d96 : evT T (.tmp 96) = .pointer (some ⟨g, 2, none⟩) := (by first | exact hd.1 | exact hd.2.1 | exact hd.2.2.1 | exact hd.2.2.2.1 | exact hd.2.2.2.2.1 | exact hd.2.2.2.2.2.1 | exact hd.2.2.2.2.2.2.1 | exact hd.2.2.2.2.2.2.2.1)
                have q2 := (hW.box HBX.out 2 _ rfl).1
                clear hT hd hW
                refine ⟨.slice (some ad) n c3, ?_, rfl⟩
                simp only [execOp]
                go_simp
              case s16 =>
                refine stepS_on 10 92 false rfl rfl rfl (fun T w1 s hT hd hs hW => ⟨(by first | exact hd.1 | exact hd.2.1 | exact hd.2.2.1 | exact hd.2.2.2.1 | exact hd.2.2.2.2.1 | exact hd.2.2.2.2.2.1 | exact hd.2.2.2.2.2.2.1 | exact hd.2.2.2.2.2.2.2.1), ?_⟩)
                have ec := evT_const T
                have ef := evT_func T
                have d11 : evT T (.tmp 11) = .int .i64 (i : Int) := hT 11 (by kernel_rfl)
                clear hT hd hW
                refine ⟨.int .i64 (i : Int), ?_, rfl⟩
                simp only [execOp]
                go_simp
              case s17 =>
                refine stepS_on 10 92 false rfl rfl rfl (fun T w1 s hT hd hs hW => ⟨(by first | exact hd.1 | exact hd.2.1 | exact hd.2.2.1 | exact hd.2.2.2.1 | exact hd.2.2.2.2.1 | exact hd.2.2.2.2.2.1 | exact hd.2.2.2.2.2.2.1 | exact hd.2.2.2.2.2.2.2.1), ?_⟩)
                have ec := evT_const T
                have ef := evT_func T
                have d97 : evT T (.tmp 97) = .slice (some ad) n c3 := (by first | exact hd.1 | exact hd.2.1 | exact hd.2.2.1 | exact hd.2.2.2.1 | exact hd.2.2.2.2.1 | exact hd.2.2.2.2.2.1 | exact hd.2.2.2.2.2.2.1 | exact hd.2.2.2.2.2.2.2.1)
                have d98 : evT T (.tmp 98) = .int .i64 (i : Int) := (by first | exact hd.1 | exact hd.2.1 | exact hd.2.2.1 | exact hd.2.2.2.1 | exact hd.2.2.2.2.1 | exact hd.2.2.2.2.2.1 | exact hd.2.2.2.2.2.2.1 | exact hd.2.2.2.2.2.2.2.1)
                have i0 : (0 : Int) ≤ (i : Int) := by omega
                have i1 : (i : Int) < (n : Int) := by omega
                clear hT hd hW
                refine ⟨.pointer (some (ad.add i)), ?_, rfl⟩
                simp only [execOp]
                go_simp
              case s18 =>
                refine stepS_on 10 92 false rfl rfl rfl (fun T w1 s hT hd hs hW => ⟨(by first | exact hd.1 | exact hd.2.1 | exact hd.2.2.1 | exact hd.2.2.2.1 | exact hd.2.2.2.2.1 | exact hd.2.2.2.2.2.1 | exact hd.2.2.2.2.2.2.1 | exact hd.2.2.2.2.2.2.2.1), ?_⟩)
                have ec := evT_const T
                have ef := evT_func T
                have d99 : evT T (.tmp 99) = .pointer (some (ad.add i)) := (by first | exact hd.1 | exact hd.2.1 | exact hd.2.2.1 | exact hd.2.2.2.1 | exact hd.2.2.2.2.1 | exact hd.2.2.2.2.2.1 | exact hd.2.2.2.2.2.2.1 | exact hd.2.2.2.2.2.2.2.1)
                clear hT hd hW
                refine ⟨.pointer (some (ad.add i)), ?_, rfl⟩
                simp only [execOp]
                go_simp
              case s19 =>
                refine stepS_on 10 92 false rfl rfl rfl (fun T w1 s hT hd hs hW => ⟨(by first | exact hd.1 | exact hd.2.1 | exact hd.2.2.1 | exact hd.2.2.2.1 | exact hd.2.2.2.2.1 | exact hd.2.2.2.2.2.1 | exact hd.2.2.2.2.2.2.1 | exact hd.2.2.2.2.2.2.2.1), ?_⟩)
                have ec := evT_const T
                have ef := evT_func T
                have d100 : evT T (.tmp 100) = .pointer (some (ad.add i)) := (by first | exact hd.1 | exact hd.2.1 | exact hd.2.2.1 | exact hd.2.2.2.1 | exact hd.2.2.2.2.1 | exact hd.2.2.2.2.2.1 | exact hd.2.2.2.2.2.2.1 | exact hd.2.2.2.2.2.2.2.1)
                obtain ⟨ad', hA', q3⟩ := hW.rst HRS.out HX.out
                injection hA' with hA'
                subst hA'
                clear hT hd hW
                refine ⟨.int .i64 x, ?_, rfl⟩
                simp only [execOp]
                go_simp
              case s20 =>
                refine stepS_on 10 92 false rfl rfl rfl (fun T w1 s hT hd hs hW => ⟨(by first | exact hd.1 | exact hd.2.1 | exact hd.2.2.1 | exact hd.2.2.2.1 | exact hd.2.2.2.2.1 | exact hd.2.2.2.2.2.1 | exact hd.2.2.2.2.2.2.1 | exact hd.2.2.2.2.2.2.2.1), ?_⟩)
                have ec := evT_const T
                have ef := evT_func T
                have d14 : evT T (.tmp 14) = .int .i64 (k : Int) := hT 14 (by kernel_rfl)
                clear hT hd hW
                refine ⟨.int .i64 (k : Int), ?_, rfl⟩
                simp only [execOp]
                go_simp
              case s21 =>
                refine stepS_on 10 92 false rfl rfl rfl (fun T w1 s hT hd hs hW => ⟨(by first | exact hd.1 | exact hd.2.1 | exact hd.2.2.1 | exact hd.2.2.2.1 | exact hd.2.2.2.2.1 | exact hd.2.2.2.2.2.1 | exact hd.2.2.2.2.2.2.1 | exact hd.2.2.2.2.2.2.2.1), ?_⟩)
                have ec := evT_const T
                have ef := evT_func T
                have d101 : evT T (.tmp 101) = .int .i64 x := (by first | exact hd.1 | exact hd.2.1 | exact hd.2.2.1 | exact hd.2.2.2.1 | exact hd.2.2.2.2.1 | exact hd.2.2.2.2.2.1 | exact hd.2.2.2.2.2.2.1 | exact hd.2.2.2.2.2.2.2.1)
                have d102 : evT T (.tmp 102) = .int .i64 (k : Int) := (by first | exact hd.1 | exact hd.2.1 | exact hd.2.2.1 | exact hd.2.2.2.1 | exact hd.2.2.2.2.1 | exact hd.2.2.2.2.2.1 | exact hd.2.2.2.2.2.2.1 | exact hd.2.2.2.2.2.2.2.1)
                have y1 : IntKind.i64.wrap (x - (k : Int)) = x - (k : Int) := by rw [IntWalk.i64_in _ (by omega)]
                clear hT hd hW
                refine ⟨.int .i64 (x - (k : Int)), ?_, rfl⟩
                simp only [execOp]
                go_simp
              case s22 =>
                refine stepS_on 10 92 false rfl rfl rfl (fun T w1 s hT hd hs hW => ⟨(by first | exact hd.1 | exact hd.2.1 | exact hd.2.2.1 | exact hd.2.2.2.1 | exact hd.2.2.2.2.1 | exact hd.2.2.2.2.2.1 | exact hd.2.2.2.2.2.2.1 | exact hd.2.2.2.2.2.2.2.1), ?_⟩)
                have ec := evT_const T
                have ef := evT_func T
                have d103 : evT T (.tmp 103) = .int .i64 (x - (k : Int)) := (by first | exact hd.1 | exact hd.2.1 | exact hd.2.2.1 | exact hd.2.2.2.1 | exact hd.2.2.2.2.1 | exact hd.2.2.2.2.2.1 | exact hd.2.2.2.2.2.2.1 | exact hd.2.2.2.2.2.2.2.1)
                have y1 : IntKind.i64.wrap (x - (k : Int) - 1) = x - (k : Int) - 1 := by rw [IntWalk.i64_in _ (by omega)]
                clear hT hd hW
                refine ⟨.int .i64 (x - (k : Int) - 1), ?_, rfl⟩
                simp only [execOp]
                go_simp
              case s23 =>
                refine stepS_on 10 92 false rfl rfl rfl (fun T w1 s hT hd hs hW => ⟨(by first | exact hd.1 | exact hd.2.1 | exact hd.2.2.1 | exact hd.2.2.2.1 | exact hd.2.2.2.2.1 | exact hd.2.2.2.2.2.1 | exact hd.2.2.2.2.2.2.1 | exact hd.2.2.2.2.2.2.2.1), ?_⟩)
                have ec := evT_const T
                have ef := evT_func T
                have d104 : evT T (.tmp 104) = .int .i64 (x - (k : Int) - 1) := (by first | exact hd.1 | exact hd.2.1 | exact hd.2.2.1 | exact hd.2.2.2.1 | exact hd.2.2.2.2.1 | exact hd.2.2.2.2.2.1 | exact hd.2.2.2.2.2.2.1 | exact hd.2.2.2.2.2.2.2.1)
                clear hT hd hW
                refine ⟨.int .i64 (x - (k : Int) - 1), ?_, rfl⟩
                simp only [execOp]
                go_simp
              case s24 =>
                refine stepS_on 10 92 false rfl rfl rfl (fun T w1 s hT hd hs hW => ⟨(by first | exact hd.1 | exact hd.2.1 | exact hd.2.2.1 | exact hd.2.2.2.1 | exact hd.2.2.2.2.1 | exact hd.2.2.2.2.2.1 | exact hd.2.2.2.2.2.2.1 | exact hd.2.2.2.2.2.2.2.1), ?_⟩)
                have ec := evT_const T
                have ef := evT_func T
                have d95 : evT T (.tmp 95) = .int .i64 (x - (k : Int) - 1) := (by first | exact hd.1 | exact hd.2.1 | exact hd.2.2.1 | exact hd.2.2.2.1 | exact hd.2.2.2.2.1 | exact hd.2.2.2.2.2.1 | exact hd.2.2.2.2.2.2.1 | exact hd.2.2.2.2.2.2.2.1)
                have d105 : evT T (.tmp 105) = .int .i64 (x - (k : Int) - 1) := (by first | exact hd.1 | exact hd.2.1 | exact hd.2.2.1 | exact hd.2.2.2.1 | exact hd.2.2.2.2.1 | exact hd.2.2.2.2.2.1 | exact hd.2.2.2.2.2.2.1 | exact hd.2.2.2.2.2.2.2.1)
                clear hT hd hW
                refine ⟨.bool false, ?_, rfl⟩
                simp only [execOp]
                go_simp
              case s25 =>
                refine stepS_plain rfl rfl (fun T w1 s hT hd hs hW => ?_)
                have ec := evT_const T
                have ef := evT_func T
                have d92 : evT T (.tmp 92) = .bool false := (by first | exact hd.1 | exact hd.2.1 | exact hd.2.2.1 | exact hd.2.2.2.1 | exact hd.2.2.2.2.1 | exact hd.2.2.2.2.2.1 | exact hd.2.2.2.2.2.2.1 | exact hd.2.2.2.2.2.2.2.1)
                have d106 : evT T (.tmp 106) = .bool false := (by first | exact hd.1 | exact hd.2.1 | exact hd.2.2.1 | exact hd.2.2.2.1 | exact hd.2.2.2.2.1 | exact hd.2.2.2.2.2.1 | exact hd.2.2.2.2.2.2.1 | exact hd.2.2.2.2.2.2.2.1)
                clear hT hd hW
                refine ⟨.bool false, ?_, rfl⟩
                simp only [execOp]
                go_simp
              case fin =>
                intro T w1 hT hW hd
                have e107 : T 107 = .bool false := hd.2.2.2.2.2.2.2.2.2.2.2.2.2.2.2.2.2.2.2.2.2.2.2.2.2.1
                simp only [putL, Act.put, Option.getD_some, List.setIfInBounds_toArray, List.set_cons_zero, List.set_cons_succ]
                have HWl : RowKit.Hid (Lw w3 w1 b bl bh L (oneL L i (lateL x (k + 1)))) := Lib.hid hW
                clear hT hd hW
                go_wp2
                go_roundw
                case rel => exact ⟨k + 1, hkt, by go_num, HWl⟩
                case measure => simp [intOf]; omega
            · rw [if_neg hkx] at t3
              have HT3 := Lib.hid t3
              have hb0 : x - (k : Int) - 1 < 0 := by omega
              have HKX := Lib.hid hkx
              clear t3 hkx
              obtain ⟨ad, hA, -⟩ := HR.out.rst HRS.out HX.out
              subst hA
              refine region_stagedP 3 (fun t => match t with | 0 => 1 | 1 => 7 | _ => 13) (fun i => if i = 1 then some 0 else if i = 7 then some 1 else if i = 13 then some 2 else none) (GPL [isV (.pointer (some ⟨b, 0, none⟩)), (fun v => ∃ A c, v = .slice A 0 c), isV (.int .i64 0), isV (.bool false), isV (.bool false), isV (.pointer (some ⟨b, 0, none⟩)), isV (.int .i64 (i : Int)), isV (.bool true), isV (.bool false), isV (.bool false), isV (.bool false), isV (.pointer (some ⟨b, 0, none⟩)), isV (.int .i64 (i : Int)), isV (.int .i64 (0)), isV (.pointer (some ⟨g, 2, none⟩)), isV (.slice (some ad) n c3), isV (.int .i64 (i : Int)), isV (.pointer (some (ad.add i))), isV (.pointer (some (ad.add i))), isV (.int .i64 x), isV (.int .i64 (k : Int)), isV (.int .i64 (x - (k : Int))), isV (.int .i64 (x - (k : Int) - 1)), isV (.int .i64 (0)), isV (.bool false), isV (.bool false)]) (fun s w => Lw w3 w b bl bh L (stgLn [oneL L i (lateL x k), oneL L i (lateL x (k + 1)), oneL L i (lateL x (k + 1)), oneL L i (lateL x (k + 1))] s)) 135 (by kernel_rfl) rfl (by kernel_rfl) ⟨?ca, ?cb, ?cp⟩ ?cs ?c0 ⟨?s0, ?s1, ?s2, ?s3, ?s4, ?s5, ?s6, ?s7, ?s8, ?s9, ?s10, ?s11, ?s12, ?s13, ?s14, ?s15, ?s16, ?s17, ?s18, ?s19, ?s20, ?s21, ?s22, ?s23, ?s24, ?s25, trivial⟩ ?fin
              case ca =>
                intro i t h
                split at h
                · injection h with h; subst h; rename_i e; exact ⟨by omega, e.symm⟩
                · skip
                  split at h
                  · injection h with h; subst h; rename_i e; exact ⟨by omega, e.symm⟩
                  · skip
                    split at h
                    · injection h with h; subst h; rename_i e; exact ⟨by omega, e.symm⟩
                    · cases h
              case cb =>
                intro t ht
                match t, ht with
                | 0, _ => rfl
                | 1, _ => rfl
                | 2, _ => rfl
              case cp =>
                intro t ht
                match t, ht with
                | 0, _ => exact ⟨[4, 1], by kernel_rfl, by simp, rfl⟩
                | 1, _ => exact ⟨[10, 7], by kernel_rfl, by simp, rfl⟩
              case cs =>
                intro t ht
                match t, ht with
                | 0, _ => exact (by decide : 1 < 26)
                | 1, _ => exact (by decide : 7 < 26)
                | 2, _ => exact (by decide : 13 < 26)
              case c0 => exact HR.out.drew
              case s0 =>
                refine stepS_plain rfl rfl (fun T w1 s hT hd hs hW => ?_)
                have ec := evT_const T
                have ef := evT_func T
                have d9 : evT T (.tmp 9) = .pointer (some ⟨b, 0, none⟩) := hT 9 (by kernel_rfl)
                clear hT hd hW
                refine ⟨.pointer (some ⟨b, 0, none⟩), ?_, rfl⟩
                simp only [execOp]
                go_simp
              case s1 =>
                refine stepC_plain 0 rfl rfl (fun T w1 hT hd hW => ?_)
                have ec := evT_const T
                have ef := evT_func T
                have d82 : evT T (.tmp 82) = .pointer (some ⟨b, 0, none⟩) := (by first | exact hd.1 | exact hd.2.1 | exact hd.2.2.1 | exact hd.2.2.2.1 | exact hd.2.2.2.2.1 | exact hd.2.2.2.2.2.1 | exact hd.2.2.2.2.2.2.1 | exact hd.2.2.2.2.2.2.2.1)
                refine ⟨19, #[.pointer (some ⟨b, 0, none⟩)], ?_, ?_⟩
                · clear hT hd hW
                  simp only [execOp, resolve]
                  go_simp
                · have hX : Lw w3 w1 b bl bh L (oneL L i (lateL x k)) := hW
                  refine (hX.tick0 HT0.out HT1.out).mono ?_
                  rintro e w2 ⟨A5, c5, rfl, h2⟩
                  exact ⟨_, rfl, ⟨A5, c5, rfl⟩, h2⟩
              case s2 =>
                refine stepS_plain rfl rfl (fun T w1 s hT hd hs hW => ?_)
                have ec := evT_const T
                have ef := evT_func T
                obtain ⟨A5, c5, d83⟩ : (fun v => ∃ A c, v = .slice A 0 c) (evT T (.tmp 83)) := (by first | exact hd.1 | exact hd.2.1 | exact hd.2.2.1 | exact hd.2.2.2.1 | exact hd.2.2.2.2.1 | exact hd.2.2.2.2.2.1 | exact hd.2.2.2.2.2.2.1 | exact hd.2.2.2.2.2.2.2.1)
                clear hT hd hW
                refine ⟨.int .i64 0, ?_, rfl⟩
                simp only [execOp]
                go_simp
              case s3 =>
                refine stepS_plain rfl rfl (fun T w1 s hT hd hs hW => ?_)
                have ec := evT_const T
                have ef := evT_func T
                have d84 : evT T (.tmp 84) = .int .i64 0 := (by first | exact hd.1 | exact hd.2.1 | exact hd.2.2.1 | exact hd.2.2.2.1 | exact hd.2.2.2.2.1 | exact hd.2.2.2.2.2.1 | exact hd.2.2.2.2.2.2.1 | exact hd.2.2.2.2.2.2.2.1)
                clear hT hd hW
                refine ⟨.bool false, ?_, rfl⟩
                simp only [execOp]
                go_simp
              case s4 =>
                refine stepS_plain rfl rfl (fun T w1 s hT hd hs hW => ?_)
                have ec := evT_const T
                have ef := evT_func T
                have d85 : evT T (.tmp 85) = .bool false := (by first | exact hd.1 | exact hd.2.1 | exact hd.2.2.1 | exact hd.2.2.2.1 | exact hd.2.2.2.2.1 | exact hd.2.2.2.2.2.1 | exact hd.2.2.2.2.2.2.1 | exact hd.2.2.2.2.2.2.2.1)
                clear hT hd hW
                refine ⟨.bool false, ?_, rfl⟩
                simp only [execOp]
                go_simp
              case s5 =>
                refine stepS_on 4 86 false rfl rfl rfl (fun T w1 s hT hd hs hW => ⟨(by first | exact hd.1 | exact hd.2.1 | exact hd.2.2.1 | exact hd.2.2.2.1 | exact hd.2.2.2.2.1 | exact hd.2.2.2.2.2.1 | exact hd.2.2.2.2.2.2.1 | exact hd.2.2.2.2.2.2.2.1), ?_⟩)
                have ec := evT_const T
                have ef := evT_func T
                have d9 : evT T (.tmp 9) = .pointer (some ⟨b, 0, none⟩) := hT 9 (by kernel_rfl)
                clear hT hd hW
                refine ⟨.pointer (some ⟨b, 0, none⟩), ?_, rfl⟩
                simp only [execOp]
                go_simp
              case s6 =>
                refine stepS_on 4 86 false rfl rfl rfl (fun T w1 s hT hd hs hW => ⟨(by first | exact hd.1 | exact hd.2.1 | exact hd.2.2.1 | exact hd.2.2.2.1 | exact hd.2.2.2.2.1 | exact hd.2.2.2.2.2.1 | exact hd.2.2.2.2.2.2.1 | exact hd.2.2.2.2.2.2.2.1), ?_⟩)
                have ec := evT_const T
                have ef := evT_func T
                have d11 : evT T (.tmp 11) = .int .i64 (i : Int) := hT 11 (by kernel_rfl)
                clear hT hd hW
                refine ⟨.int .i64 (i : Int), ?_, rfl⟩
                simp only [execOp]
                go_simp
              case s7 =>
                refine stepC_on 1 4 86 false rfl rfl rfl (fun T w1 hT hd hW => ⟨(by first | exact hd.1 | exact hd.2.1 | exact hd.2.2.1 | exact hd.2.2.2.1 | exact hd.2.2.2.2.1 | exact hd.2.2.2.2.2.1 | exact hd.2.2.2.2.2.2.1 | exact hd.2.2.2.2.2.2.2.1), ?_⟩)
                have ec := evT_const T
                have ef := evT_func T
                have d87 : evT T (.tmp 87) = .pointer (some ⟨b, 0, none⟩) := (by first | exact hd.1 | exact hd.2.1 | exact hd.2.2.1 | exact hd.2.2.2.1 | exact hd.2.2.2.2.1 | exact hd.2.2.2.2.2.1 | exact hd.2.2.2.2.2.2.1 | exact hd.2.2.2.2.2.2.2.1)
                have d88 : evT T (.tmp 88) = .int .i64 (i : Int) := (by first | exact hd.1 | exact hd.2.1 | exact hd.2.2.1 | exact hd.2.2.2.1 | exact hd.2.2.2.2.1 | exact hd.2.2.2.2.2.1 | exact hd.2.2.2.2.2.2.1 | exact hd.2.2.2.2.2.2.2.1)
                refine ⟨21, #[.pointer (some ⟨b, 0, none⟩), .int .i64 (i : Int)], ?_, ?_⟩
                · clear hT hd hW
                  simp only [execOp, resolve]
                  go_simp
                · have hX : Lw w3 w1 b bl bh L (oneL L i (lateL x (k + 1))) := hW
                  refine (hX.held hiw).mono ?_
                  rintro e w2 ⟨rfl, h2, -⟩
                  exact ⟨_, rfl, by rw [HT2.out]; rfl, h2⟩
              case s8 =>
                refine stepS_on 4 86 false rfl rfl rfl (fun T w1 s hT hd hs hW => ⟨(by first | exact hd.1 | exact hd.2.1 | exact hd.2.2.1 | exact hd.2.2.2.1 | exact hd.2.2.2.2.1 | exact hd.2.2.2.2.2.1 | exact hd.2.2.2.2.2.2.1 | exact hd.2.2.2.2.2.2.2.1), ?_⟩)
                have ec := evT_const T
                have ef := evT_func T
                have d89 : evT T (.tmp 89) = .bool true := (by first | exact hd.1 | exact hd.2.1 | exact hd.2.2.1 | exact hd.2.2.2.1 | exact hd.2.2.2.2.1 | exact hd.2.2.2.2.2.1 | exact hd.2.2.2.2.2.2.1 | exact hd.2.2.2.2.2.2.2.1)
                clear hT hd hW
                refine ⟨.bool false, ?_, rfl⟩
                simp only [execOp]
                go_simp
              case s9 =>
                refine stepS_plain rfl rfl (fun T w1 s hT hd hs hW => ?_)
                have ec := evT_const T
                have ef := evT_func T
                have d86 : evT T (.tmp 86) = .bool false := (by first | exact hd.1 | exact hd.2.1 | exact hd.2.2.1 | exact hd.2.2.2.1 | exact hd.2.2.2.2.1 | exact hd.2.2.2.2.2.1 | exact hd.2.2.2.2.2.2.1 | exact hd.2.2.2.2.2.2.2.1)
                have d90 : evT T (.tmp 90) = .bool false := (by first | exact hd.1 | exact hd.2.1 | exact hd.2.2.1 | exact hd.2.2.2.1 | exact hd.2.2.2.2.1 | exact hd.2.2.2.2.2.1 | exact hd.2.2.2.2.2.2.1 | exact hd.2.2.2.2.2.2.2.1)
                clear hT hd hW
                refine ⟨.bool false, ?_, rfl⟩
                simp only [execOp]
                go_simp
              case s10 =>
                refine stepS_plain rfl rfl (fun T w1 s hT hd hs hW => ?_)
                have ec := evT_const T
                have ef := evT_func T
                have d91 : evT T (.tmp 91) = .bool false := (by first | exact hd.1 | exact hd.2.1 | exact hd.2.2.1 | exact hd.2.2.2.1 | exact hd.2.2.2.2.1 | exact hd.2.2.2.2.2.1 | exact hd.2.2.2.2.2.2.1 | exact hd.2.2.2.2.2.2.2.1)
                clear hT hd hW
                refine ⟨.bool false, ?_, rfl⟩
                simp only [execOp]
                go_simp
              case s11 =>
                refine stepS_on 10 92 false rfl rfl rfl (fun T w1 s hT hd hs hW => ⟨(by first | exact hd.1 | exact hd.2.1 | exact hd.2.2.1 | exact hd.2.2.2.1 | exact hd.2.2.2.2.1 | exact hd.2.2.2.2.2.1 | exact hd.2.2.2.2.2.2.1 | exact hd.2.2.2.2.2.2.2.1), ?_⟩)
                have ec := evT_const T
                have ef := evT_func T
                have d9 : evT T (.tmp 9) = .pointer (some ⟨b, 0, none⟩) := hT 9 (by kernel_rfl)
                clear hT hd hW
                refine ⟨.pointer (some ⟨b, 0, none⟩), ?_, rfl⟩
                simp only [execOp]
                go_simp
              case s12 =>
                refine stepS_on 10 92 false rfl rfl rfl (fun T w1 s hT hd hs hW => ⟨(by first | exact hd.1 | exact hd.2.1 | exact hd.2.2.1 | exact hd.2.2.2.1 | exact hd.2.2.2.2.1 | exact hd.2.2.2.2.2.1 | exact hd.2.2.2.2.2.2.1 | exact hd.2.2.2.2.2.2.2.1), ?_⟩)
                have ec := evT_const T
                have ef := evT_func T
                have d11 : evT T (.tmp 11) = .int .i64 (i : Int) := hT 11 (by kernel_rfl)
                clear hT hd hW
                refine ⟨.int .i64 (i : Int), ?_, rfl⟩
                simp only [execOp]
                go_simp
              case s13 =>
                refine stepC_on 2 10 92 false rfl rfl rfl (fun T w1 hT hd hW => ⟨(by first | exact hd.1 | exact hd.2.1 | exact hd.2.2.1 | exact hd.2.2.2.1 | exact hd.2.2.2.2.1 | exact hd.2.2.2.2.2.1 | exact hd.2.2.2.2.2.2.1 | exact hd.2.2.2.2.2.2.2.1), ?_⟩)
                have ec := evT_const T
                have ef := evT_func T
                have d93 : evT T (.tmp 93) = .pointer (some ⟨b, 0, none⟩) := (by first | exact hd.1 | exact hd.2.1 | exact hd.2.2.1 | exact hd.2.2.2.1 | exact hd.2.2.2.2.1 | exact hd.2.2.2.2.2.1 | exact hd.2.2.2.2.2.2.1 | exact hd.2.2.2.2.2.2.2.1)
                have d94 : evT T (.tmp 94) = .int .i64 (i : Int) := (by first | exact hd.1 | exact hd.2.1 | exact hd.2.2.1 | exact hd.2.2.2.1 | exact hd.2.2.2.2.1 | exact hd.2.2.2.2.2.1 | exact hd.2.2.2.2.2.2.1 | exact hd.2.2.2.2.2.2.2.1)
                refine ⟨23, #[.pointer (some ⟨b, 0, none⟩), .int .i64 (i : Int)], ?_, ?_⟩
                · clear hT hd hW
                  simp only [execOp, resolve]
                  go_simp
                · have hX : Lw w3 w1 b bl bh L (oneL L i (lateL x (k + 1))) := hW
                  refine (hX.left hiw).mono ?_
                  rintro e w2 ⟨rfl, rfl⟩
                  exact ⟨_, rfl, by rw [HT3.out]; rfl, hX⟩
              case s14 =>
                refine stepS_on 10 92 false rfl rfl rfl (fun T w1 s hT hd hs hW => ⟨(by first | exact hd.1 | exact hd.2.1 | exact hd.2.2.1 | exact hd.2.2.2.1 | exact hd.2.2.2.2.1 | exact hd.2.2.2.2.2.1 | exact hd.2.2.2.2.2.2.1 | exact hd.2.2.2.2.2.2.2.1), ?_⟩)
                have ec := evT_const T
                have ef := evT_func T
                have d8 : evT T (.tmp 8) = .pointer (some ⟨g, 0, none⟩) := hT 8 (by kernel_rfl)
                clear hT hd hW
                refine ⟨.pointer (some ⟨g, 2, none⟩), ?_, rfl⟩
                simp only [execOp]
                go_simp
              case s15 =>
                refine stepS_on 10 92 false rfl rfl rfl (fun T w1 s hT hd hs hW => ⟨(by first | exact hd.1 | exact hd.2.1 | exact hd.2.2.1 | exact hd.2.2.2.1 | exact hd.2.2.2.2.1 | exact hd.2.2.2.2.2.1 | exact hd.2.2.2.2.2.2.1 | exact hd.2.2.2.2.2.2.2.1), ?_⟩)
                have ec := evT_const T
                have ef := evT_func T
                have d96 : evT T (.tmp 96) = .pointer (some ⟨g, 2, none⟩) := (by first | exact hd.1 | exact hd.2.1 | exact hd.2.2.1 | exact hd.2.2.2.1 | exact hd.2.2.2.2.1 | exact hd.2.2.2.2.2.1 | exact hd.2.2.2.2.2.2.1 | exact hd.2.2.2.2.2.2.2.1)
                have q2 := (hW.box HBX.out 2 _ rfl).1
                clear hT hd hW
                refine ⟨.slice (some ad) n c3, ?_, rfl⟩
                simp only [execOp]
                go_simp
              case s16 =>
                refine stepS_on 10 92 false rfl rfl rfl (fun T w1 s hT hd hs hW => ⟨(by first | exact hd.1 | exact hd.2.1 | exact hd.2.2.1 | exact hd.2.2.2.1 | exact hd.2.2.2.2.1 | exact hd.2.2.2.2.2.1 | exact hd.2.2.2.2.2.2.1 | exact hd.2.2.2.2.2.2.2.1), ?_⟩)
                have ec := evT_const T
                have ef := evT_func T
                have d11 : evT T (.tmp 11) = .int .i64 (i : Int) := hT 11 (by kernel_rfl)
                clear hT hd hW
                refine ⟨.int .i64 (i : Int), ?_, rfl⟩
                simp only [execOp]
                go_simp
              case s17 =>
                refine stepS_on 10 92 false rfl rfl rfl (fun T w1 s hT hd hs hW => ⟨(by first | exact hd.1 | exact hd.2.1 | exact hd.2.2.1 | exact hd.2.2.2.1 | exact hd.2.2.2.2.1 | exact hd.2.2.2.2.2.1 | exact hd.2.2.2.2.2.2.1 | exact hd.2.2.2.2.2.2.2.1), ?_⟩)
                have ec := evT_const T
                have ef := evT_func T
                have d97 : evT T (.tmp 97) = .slice (some ad) n c3 := (by first | exact hd.1 | exact hd.2.1 | exact hd.2.2.1 | exact hd.2.2.2.1 | exact hd.2.2.2.2.1 | exact hd.2.2.2.2.2.1 | exact hd.2.2.2.2.2.2.1 | exact hd.2.2.2.2.2.2.2.1)
                have d98 : evT T (.tmp 98) = .int .i64 (i : Int) := (by first | exact hd.1 | exact hd.2.1 | exact hd.2.2.1 | exact hd.2.2.2.1 | exact hd.2.2.2.2.1 | exact hd.2.2.2.2.2.1 | exact hd.2.2.2.2.2.2.1 | exact hd.2.2.2.2.2.2.2.1)
                have i0 : (0 : Int) ≤ (i : Int) := by omega
                have i1 : (i : Int) < (n : Int) := by omega
                clear hT hd hW
                refine ⟨.pointer (some (ad.add i)), ?_, rfl⟩
                simp only [execOp]
                go_simp
              case s18 =>
                refine stepS_on 10 92 false rfl rfl rfl (fun T w1 s hT hd hs hW => ⟨(by first | exact hd.1 | exact hd.2.1 | exact hd.2.2.1 | exact hd.2.2.2.1 | exact hd.2.2.2.2.1 | exact hd.2.2.2.2.2.1 | exact hd.2.2.2.2.2.2.1 | exact hd.2.2.2.2.2.2.2.1), ?_⟩)
                have ec := evT_const T
                have ef := evT_func T
                have d99 : evT T (.tmp 99) = .pointer (some (ad.add i)) := (by first | exact hd.1 | exact hd.2.1 | exact hd.2.2.1 | exact hd.2.2.2.1 | exact hd.2.2.2.2.1 | exact hd.2.2.2.2.2.1 | exact hd.2.2.2.2.2.2.1 | exact hd.2.2.2.2.2.2.2.1)
                clear hT hd hW
                refine ⟨.pointer (some (ad.add i)), ?_, rfl⟩
                simp only [execOp]
                go_simp
              case s19 =>
                refine stepS_on 10 92 false rfl rfl rfl (fun T w1 s hT hd hs hW => ⟨(by first | exact hd.1 | exact hd.2.1 | exact hd.2.2.1 | exact hd.2.2.2.1 | exact hd.2.2.2.2.1 | exact hd.2.2.2.2.2.1 | exact hd.2.2.2.2.2.2.1 | exact hd.2.2.2.2.2.2.2.1), ?_⟩)
                have ec := evT_const T
                have ef := evT_func T
                have d100 : evT T (.tmp 100) = .pointer (some (ad.add i)) := (by first | exact hd.1 | exact hd.2.1 | exact hd.2.2.1 | exact hd.2.2.2.1 | exact hd.2.2.2.2.1 | exact hd.2.2.2.2.2.1 | exact hd.2.2.2.2.2.2.1 | exact hd.2.2.2.2.2.2.2.1)
                obtain ⟨ad', hA', q3⟩ := hW.rst HRS.out HX.out
                injection hA' with hA'
                subst hA'
                clear hT hd hW
                refine ⟨.int .i64 x, ?_, rfl⟩
                simp only [execOp]
                go_simp
              case s20 =>
                refine stepS_on 10 92 false rfl rfl rfl (fun T w1 s hT hd hs hW => ⟨(by first | exact hd.1 | exact hd.2.1 | exact hd.2.2.1 | exact hd.2.2.2.1 | exact hd.2.2.2.2.1 | exact hd.2.2.2.2.2.1 | exact hd.2.2.2.2.2.2.1 | exact hd.2.2.2.2.2.2.2.1), ?_⟩)
                have ec := evT_const T
                have ef := evT_func T
                have d14 : evT T (.tmp 14) = .int .i64 (k : Int) := hT 14 (by kernel_rfl)
                clear hT hd hW
                refine ⟨.int .i64 (k : Int), ?_, rfl⟩
                simp only [execOp]
                go_simp
              case s21 =>
                refine stepS_on 10 92 false rfl rfl rfl (fun T w1 s hT hd hs hW => ⟨(by first | exact hd.1 | exact hd.2.1 | exact hd.2.2.1 | exact hd.2.2.2.1 | exact hd.2.2.2.2.1 | exact hd.2.2.2.2.2.1 | exact hd.2.2.2.2.2.2.1 | exact hd.2.2.2.2.2.2.2.1), ?_⟩)
                have ec := evT_const T
                have ef := evT_func T
                have d101 : evT T (.tmp 101) = .int .i64 x := (by first | exact hd.1 | exact hd.2.1 | exact hd.2.2.1 | exact hd.2.2.2.1 | exact hd.2.2.2.2.1 | exact hd.2.2.2.2.2.1 | exact hd.2.2.2.2.2.2.1 | exact hd.2.2.2.2.2.2.2.1)
                have d102 : evT T (.tmp 102) = .int .i64 (k : Int) := (by first | exact hd.1 | exact hd.2.1 | exact hd.2.2.1 | exact hd.2.2.2.1 | exact hd.2.2.2.2.1 | exact hd.2.2.2.2.2.1 | exact hd.2.2.2.2.2.2.1 | exact hd.2.2.2.2.2.2.2.1)
                have y1 : IntKind.i64.wrap (x - (k : Int)) = x - (k : Int) := by rw [IntWalk.i64_in _ (by omega)]
                clear hT hd hW
                refine ⟨.int .i64 (x - (k : Int)), ?_, rfl⟩
                simp only [execOp]
                go_simp
              case s22 =>
                refine stepS_on 10 92 false rfl rfl rfl (fun T w1 s hT hd hs hW => ⟨(by first | exact hd.1 | exact hd.2.1 | exact hd.2.2.1 | exact hd.2.2.2.1 | exact hd.2.2.2.2.1 | exact hd.2.2.2.2.2.1 | exact hd.2.2.2.2.2.2.1 | exact hd.2.2.2.2.2.2.2.1), ?_⟩)
                have ec := evT_const T
                have ef := evT_func T
                have d103 : evT T (.tmp 103) = .int .i64 (x - (k : Int)) := (by first | exact hd.1 | exact hd.2.1 | exact hd.2.2.1 | exact hd.2.2.2.1 | exact hd.2.2.2.2.1 | exact hd.2.2.2.2.2.1 | exact hd.2.2.2.2.2.2.1 | exact hd.2.2.2.2.2.2.2.1)
                have y1 : IntKind.i64.wrap (x - (k : Int) - 1) = x - (k : Int) - 1 := by rw [IntWalk.i64_in _ (by omega)]
                clear hT hd hW
                refine ⟨.int .i64 (x - (k : Int) - 1), ?_, rfl⟩
                simp only [execOp]
                go_simp
              case s23 =>
                refine stepS_on 10 92 false rfl rfl rfl (fun T w1 s hT hd hs hW => ⟨(by first | exact hd.1 | exact hd.2.1 | exact hd.2.2.1 | exact hd.2.2.2.1 | exact hd.2.2.2.2.1 | exact hd.2.2.2.2.2.1 | exact hd.2.2.2.2.2.2.1 | exact hd.2.2.2.2.2.2.2.1), ?_⟩)
                have ec := evT_const T
                have ef := evT_func T
                have d104 : evT T (.tmp 104) = .int .i64 (x - (k : Int) - 1) := (by first | exact hd.1 | exact hd.2.1 | exact hd.2.2.1 | exact hd.2.2.2.1 | exact hd.2.2.2.2.1 | exact hd.2.2.2.2.2.1 | exact hd.2.2.2.2.2.2.1 | exact hd.2.2.2.2.2.2.2.1)
                clear hT hd hW
                refine ⟨.int .i64 (0), ?_, rfl⟩
                simp only [execOp]
                go_simp
              case s24 =>
                refine stepS_on 10 92 false rfl rfl rfl (fun T w1 s hT hd hs hW => ⟨(by first | exact hd.1 | exact hd.2.1 | exact hd.2.2.1 | exact hd.2.2.2.1 | exact hd.2.2.2.2.1 | exact hd.2.2.2.2.2.1 | exact hd.2.2.2.2.2.2.1 | exact hd.2.2.2.2.2.2.2.1), ?_⟩)
                have ec := evT_const T
                have ef := evT_func T
                have d95 : evT T (.tmp 95) = .int .i64 (0) := (by first | exact hd.1 | exact hd.2.1 | exact hd.2.2.1 | exact hd.2.2.2.1 | exact hd.2.2.2.2.1 | exact hd.2.2.2.2.2.1 | exact hd.2.2.2.2.2.2.1 | exact hd.2.2.2.2.2.2.2.1)
                have d105 : evT T (.tmp 105) = .int .i64 (0) := (by first | exact hd.1 | exact hd.2.1 | exact hd.2.2.1 | exact hd.2.2.2.1 | exact hd.2.2.2.2.1 | exact hd.2.2.2.2.2.1 | exact hd.2.2.2.2.2.2.1 | exact hd.2.2.2.2.2.2.2.1)
                clear hT hd hW
                refine ⟨.bool false, ?_, rfl⟩
                simp only [execOp]
                go_simp
              case s25 =>
                refine stepS_plain rfl rfl (fun T w1 s hT hd hs hW => ?_)
                have ec := evT_const T
                have ef := evT_func T
                have d92 : evT T (.tmp 92) = .bool false := (by first | exact hd.1 | exact hd.2.1 | exact hd.2.2.1 | exact hd.2.2.2.1 | exact hd.2.2.2.2.1 | exact hd.2.2.2.2.2.1 | exact hd.2.2.2.2.2.2.1 | exact hd.2.2.2.2.2.2.2.1)
                have d106 : evT T (.tmp 106) = .bool false := (by first | exact hd.1 | exact hd.2.1 | exact hd.2.2.1 | exact hd.2.2.2.1 | exact hd.2.2.2.2.1 | exact hd.2.2.2.2.2.1 | exact hd.2.2.2.2.2.2.1 | exact hd.2.2.2.2.2.2.2.1)
                clear hT hd hW
                refine ⟨.bool false, ?_, rfl⟩
                simp only [execOp]
                go_simp
              case fin =>
                intro T w1 hT hW hd
                have e107 : T 107 = .bool false := hd.2.2.2.2.2.2.2.2.2.2.2.2.2.2.2.2.2.2.2.2.2.2.2.2.2.1
                simp only [putL, Act.put, Option.getD_some, List.setIfInBounds_toArray, List.set_cons_zero, List.set_cons_succ]
                have HWl : RowKit.Hid (Lw w3 w1 b bl bh L (oneL L i (lateL x (k + 1)))) := Lib.hid hW
                clear hT hd hW
                go_wp2
                go_roundw
                case rel => exact ⟨k + 1, hkt, by go_num, HWl⟩
                case measure => simp [intOf]; omega
          · have k1 : ¬ ((k : Int) < (q : Int)) := by omega
            obtain ⟨r, hr, hr20⟩ : ∃ r : Nat, (lateL x k).left = (r : Int) ∧ r ≤ 20 := ⟨(lateL x k).left.toNat, by unfold lateL; simp only; split <;> omega, by unfold lateL; simp only; split <;> omega⟩
            have s1 : leftP (oneL L i (lateL x k)) (i : Int) = (r : Int) := (oneL_left HX.out _).trans hr
            obtain ⟨s2, s3⟩ := oneL_release HX.out (lateL x k)
            rw [lateL_want, hr] at s2
            have s4 : releaseE (oneL L i (lateL x k)) (i : Int) = 0 := s3
            have HS1 := Lib.hid s1
            have HS2 := Lib.hid s2
            have HS4 := Lib.hid s4
            clear s1 s2 s3 s4 hr
            go_wp2_with fail
            refine (HR.out.left hiw).mono ?_
            rintro e w5 ⟨rfl, rfl⟩
            rw [HS1.out]
            go_wp2_with fail
            refine (HR.out.release hiw).mono ?_
            rintro e w5 ⟨rfl, hl5, -⟩
            rw [HS4.out]
            rw [HS2.out] at hl5
            have H5 : RowKit.Hid (Lw w3 w5 b bl bh L (oneL L i (waitL x ((r : Int) - (0 : Nat))))) := Lib.hid (by simpa using hl5)
            clear hl5 HR k1 hk hkt
            go_wp2
            go_loopw [16] (fun v wr => ∃ m : Nat, m ≤ r ∧ v = .int .i64 m ∧ RowKit.Hid (Lw w3 wr b bl bh L (oneL L i (waitL x ((r : Int) - (m : Nat)))))) (fun v _ => r - (intOf v).toNat)
            case atStart => exact ⟨0, Nat.zero_le _, rfl, H5⟩
            case round =>
              clear H5
              obtain ⟨m, hm, rfl, HM⟩ := hrel
              by_cases hmt : m < r
              · have m1 : (m : Int) < (r : Int) := by omega
                have u := waitL_pass (l := x) (r := (r : Int) - (m : Nat)) (by omega)
                have t0 : tickE (oneL L i (waitL x ((r : Int) - (m : Nat)))) = [] := by rw [oneL_told HX.out, u.2]; rfl
                have t1 : tickT (oneL L i (waitL x ((r : Int) - (m : Nat)))) = oneL L i (waitL x ((r : Int) - ((m + 1 : Nat) : Int))) := by
                  rw [oneL_tick HX.out, u.1]
                  congr 2
                  push_cast
                  omega
                have HT0 := Lib.hid t0
                have HT1 := Lib.hid t1
                clear t0 t1 u
                go_wp2_with fail
                refine (HM.out.tick0 HT0.out HT1.out).mono ?_
                rintro e w6 ⟨A6, c6, rfl, hl6⟩
                have H6 := Lib.hid hl6
                clear hl6
                go_wp2
                go_roundw
                case rel => exact ⟨m + 1, hmt, by go_num, H6⟩
                case measure => simp [intOf]; omega
              · have m1 : ¬ ((m : Int) < (r : Int)) := by omega
                have hz : (r : Int) - (m : Nat) = 0 := by omega
                have t0 : tickE (oneL L i (waitL x ((r : Int) - (m : Nat)))) = [(i : Int)] := by rw [hz, oneL_told HX.out, (waitL_end x).2]; rfl
                have t1 : tickT (oneL L i (waitL x ((r : Int) - (m : Nat)))) = oneL L i ⟨x, false, 0, false⟩ := by rw [hz, oneL_tick HX.out, (waitL_end x).1]
                have HT0 := Lib.hid t0
                have HT1 := Lib.hid t1
                have HT2 := Lib.hid (oneL_held HX.out ⟨x, false, 0, false⟩)
                clear t0 t1 hz
                go_wp2_with fail
                refine (HM.out.tick1 HT0.out HT1.out).mono ?_
                rintro e w6 ⟨A6, c6, rfl, hc6, hi6, hl6⟩
                have hia : IntsAt (w6.alloc (.cells #[.int .i64 (i : Int)] 3)) w6.heap.size (some A6) [(i : Int)] := hi6.below ((Below.refl _ _).alloc (Nat.le_refl _) _) (Nat.le_refl _)
                have hib : IntsAt (w6.alloc (.cells #[.int .i64 (i : Int)] 3)) (w6.heap.size + 1) (some ⟨w6.heap.size, 0, none⟩) [(i : Int)] := ints_one w6 (i : Int)
                have HIA := Lib.hid hia
                have HIB := Lib.hid hib
                have H6 := Lib.hid hl6
                clear hc6 hi6 hl6 hia hib HM
                go_wp2_with fail
                refine (same_any (some A6) (some ⟨w6.heap.size, 0, none⟩) c6 1 _ _ [(i : Int)] _ (by simp) HIA.out HIB.out).mono ?_
                rintro e w7 ⟨rfl, p, rfl⟩
                have hl7 := H6.out.calm (w' := (w6.alloc (.cells #[.int .i64 (i : Int)] 3)).drewN p) ((Moved.alloc w6 _).trans ⟨rfl, rfl, rfl, Nat.le_refl _, fun _ _ _ => rfl⟩)
                have H7 := Lib.hid hl7
                clear hl7 HIA HIB H6
                go_wp2_with fail
                refine (H7.out.held hiw).mono ?_
                rintro e w8 ⟨rfl, hl8, -⟩
                rw [HT2.out]
                have hb8 := hl8.bel
                clear hl8
                go_wp2
                go_ret
                exact ⟨rfl, HB3.out.trans (hb8.mono hz3)⟩

end Go.Proofs.Ytpieihjipdgplaa
