/- The walk of catnaplaw8.ResetAgain. -/
import Derived.Test.YtpieihjipdgplaaRB
namespace Go.Proofs.Ytpieihjipdgplaa
set_option linter.unusedSimpArgs false
set_option linter.unusedVariables false
open Go.RowKit Go.Maps

set_option maxRecDepth 1000000 in
set_option maxHeartbeats 8000000 in
theorem again_any (A : Option Addr) (c : Nat) (l : List Int) (at_ bt : Int) (w : World) (hwa : wfI at_) (hwt : wfI bt) (hl : l.length ≤ maxLen) (hwf : ∀ x, x ∈ l → wfI x) (h : IntsAt w w.heap.size A l) :
    Calls Try.prog 5 #[.slice A l.length c, .int .i64 at_, .int .i64 bt] w (TellsB true w) := by
  have HWA := Lib.hid hwa
  have HWT := Lib.hid hwt
  clear hwa hwt
  have HL := Lib.hid hl
  have HWF := Lib.hid hwf
  have HI := Lib.hid h
  clear hl hwf h
  go_enter Try.func5, Try.ntmps5
  go_wp2_with fail
  refine (shown_any _).mono ?_
  rintro e w1 ⟨rfl, hb1⟩
  have HB1 := Lib.hid hb1
  have hz1 := hb1.size
  clear hb1
  go_wp2_with fail
  refine (chip_any A c l w1 HL.out HWF.out ((HI.out.below HB1.out (Nat.le_refl _)).more hz1)).mono ?_
  rintro e w2 ⟨v1, v2, v3, v4, rfl, hcv, hb2⟩
  obtain ⟨A1, c1, A2, c2, A3, c3, A4, c4, rfl, rfl, rfl, rfl, hrs⟩ := chip_parts hcv
  have hz2 := hb2.size
  have hba := ((Below.refl w2.heap.size w2).alloc (Nat.le_refl _) (.cells #[.slice A1 0 c1, .slice A2 0 c2, .slice A3 (lsL l).length c3, .slice A4 0 c4] 30))
  have hbx := BoxAt.new w2 [.slice A1 0 c1, .slice A2 0 c2, .slice A3 (lsL l).length c3, .slice A4 0 c4] 30
  have hcv3 := Steady.later hcv hba
  have HCV3 := Lib.hid hcv3
  have hrs3 := (hrs.below hba (Nat.le_refl _)).more hba.size
  have HRS := Lib.hid hrs3
  have HBX := Lib.hid hbx
  have HB3 := Lib.hid (HB1.out.trans ((hb2.mono hz1).trans (hba.mono (by omega))))
  clear hb2 hcv hrs HI HWF HL hba hbx hcv3 hrs3
  go_wp2_with fail
  refine (new_ok (chipL l) _ _ (chipL_ok l) HCV3.out (chipL_right l) (chipL_rsts l).1).mono ?_
  rintro e w4 ⟨b, bl, bh, rfl, hgb, hgl, hgh, hli, hb4⟩
  rw [rLs_ls] at hli
  have hok := lsL_ok l
  have hn6 := lsL_len l
  obtain ⟨w3, hw3⟩ : ∃ w3, w3 = (w2.alloc (.cells #[.slice A1 0 c1, .slice A2 0 c2, .slice A3 (lsL l).length c3, .slice A4 0 c4] 30)) := ⟨_, rfl⟩
  obtain ⟨g, hg⟩ : ∃ g, g = w2.heap.size := ⟨_, rfl⟩
  have hbx := HBX.out
  have hrs := HRS.out
  have hb3 := HB3.out
  rw [← hw3] at hgb hgl hgh hb4 hbx hrs hb3
  rw [← hg] at hbx ⊢
  have hlw := Lw.start hli hgb hgl hgh hb4
  clear HBX HRS HB3 HCV3 hli hb4 hw3 hz1 hz2 HB1 hg w2 w1 hgb hgl hgh
  obtain ⟨L, hL⟩ : ∃ L, L = lsL l := ⟨_, rfl⟩
  rw [← hL] at hbx hrs hlw hok hn6 ⊢
  clear hL
  obtain ⟨n, hn⟩ : ∃ n, n = L.length := ⟨_, rfl⟩
  rw [← hn] at hbx hn6 ⊢
  have HNN := Lib.hid hn
  have HOK := Lib.hid hok
  have HLW := Lib.hid hlw
  have HBX := Lib.hid hbx
  have HRS := Lib.hid hrs
  have HB3 := Lib.hid hb3
  have hx4 := HLW.out.box hbx
  obtain ⟨x2, -⟩ := hx4 2 _ rfl
  have hz4 := HLW.out.size
  have hzb : g < w3.heap.size := hbx.lt
  have hz3 := hb3.size
  have hlt4 := HLW.out.lines.lt
  clear hbx hrs hb3 hx4 hn hok hlw
  by_cases hn0 : n = 0
  · have e0 : ((n : Int) == 0) = true := by simp [hn0]
    go_wp2
    go_ret
    exact ⟨rfl, HB3.out.trans (HLW.out.bel.mono hz3)⟩
  · have e0 : ((n : Int) == 0) = false := by simp [hn0]
    go_wp2_with fail
    refine (pick_any at_ (n : Int) _ HWA.out (by omega) (by omega)).mono ?_
    rintro e w' ⟨rfl, rfl⟩
    obtain ⟨i, hi, hil⟩ : ∃ i : Nat, pickP at_ (n : Int) = (i : Int) ∧ i < n := ⟨(pickP at_ (n : Int)).toNat, by have := pickP_lo (c := at_) (n := (n : Int)) (by omega); omega, by have := pickP_lo (c := at_) (n := (n : Int)) (by omega); have := pickP_hi (c := at_) (n := (n : Int)) (by omega); omega⟩
    rw [hi]
    have hiw : wfI (i : Int) := by unfold wfI; omega
    have hx := List.getElem?_eq_getElem (l := L) (i := i) (by rw [← HNN.out]; exact hil)
    generalize L[i] = x at hx
    have hx20 := HOK.out x (List.mem_of_getElem? hx)
    have HX := Lib.hid hx
    clear hx hi e0
    go_wp2_with fail
    refine (pick_any bt (n : Int) _ HWT.out (by omega) (by omega)).mono ?_
    rintro e w' ⟨rfl, rfl⟩
    obtain ⟨j, hj, hjl⟩ : ∃ j : Nat, pickP bt (n : Int) = (j : Int) ∧ j < n := ⟨(pickP bt (n : Int)).toNat, by have := pickP_lo (c := bt) (n := (n : Int)) (by omega); omega, by have := pickP_lo (c := bt) (n := (n : Int)) (by omega); have := pickP_hi (c := bt) (n := (n : Int)) (by omega); omega⟩
    rw [hj]
    have hjw : wfI (j : Int) := by unfold wfI; omega
    have hy := List.getElem?_eq_getElem (l := L) (i := j) (by rw [← HNN.out]; exact hjl)
    generalize L[j] = y at hy
    have HY := Lib.hid hy
    clear hy hj HWT HWA HOK x2 hz4 hlt4
    go_wp2_with fail
    refine (HLW.out.assert hiw).mono ?_
    rintro e w5 ⟨rfl, hl5, -⟩
    have H5 := Lib.hid hl5
    clear hl5 HLW
    go_wp2_with fail
    refine (H5.out.release hiw).mono ?_
    rintro e w6 ⟨rfl, hl6, -⟩
    have H6 := Lib.hid hl6
    clear hl6 H5
    go_wp2_with fail
    refine (H6.out.release hjw).mono ?_
    rintro e w7 ⟨rfl, hl7, -⟩
    have H7 := Lib.hid hl7
    clear hl7 H6
    go_wp2_with fail
    refine (H7.out.assert hiw).mono ?_
    rintro e w8 ⟨rfl, hl8, -⟩
    rw [agS_begin HX.out HY.out hx20.1] at hl8
    have H8 := Lib.hid hl8
    clear hl8 H7
    go_wp2
    go_loopw [13] (fun v wr => ∃ k : Nat, k ≤ 25 ∧ v = .int .i64 k ∧ RowKit.Hid (Lw w3 wr b bl bh L (agS L i j (lateL x k) (bK i j y k)))) (fun v _ => 25 - (intOf v).toNat)
    case atStart => exact ⟨0, Nat.zero_le _, rfl, H8⟩
    case round =>
      clear H8
      obtain ⟨k, hk, rfl, HR⟩ := hrel
      by_cases hkt : k < 25
      · have k1 : (k : Int) < 25 := by omega
        have t0 := agS_told HX.out HY.out k
        obtain ⟨m, hm⟩ : ∃ m, m = if i ≠ j ∧ k = 0 then 1 else 0 := ⟨_, rfl⟩
        rw [← hm] at t0
        have t1 : tickT (agS L i j (lateL x k) (bK i j y k)) = agS L i j (lateL x (k + 1)) (bK i j y (k + 1)) := by rw [agS_tick HX.out HY.out, lateL_pass, bK_pass]
        have t2 : heldP (agS L i j (lateL x (k + 1)) (bK i j y (k + 1))) (i : Int) = true := (agS_held HX.out _ _).1
        obtain ⟨M, hM⟩ : ∃ M, (lateL x (k + 1)).left = M := ⟨_, rfl⟩
        have t3 : leftP (agS L i j (lateL x (k + 1)) (bK i j y (k + 1))) (i : Int) = M := (agS_held HX.out _ _).2.trans hM
        have hmx : (if x - (k : Int) - 1 < 0 then (0 : Int) else x - (k : Int) - 1) = M := by
          rw [← hM]
          unfold lateL
          simp only
          by_cases h : ((k + 1 : Nat) : Int) ≤ x
          · rw [if_pos h, if_neg (by omega)]; push_cast; omega
          · rw [if_neg h, if_pos (by omega)]
        have HT0 := Lib.hid t0
        have HT1 := Lib.hid t1
        have HT2 := Lib.hid t2
        have HT3 := Lib.hid t3
        have HMX := Lib.hid hmx
        have HM := Lib.hid hm
        clear t0 t1 t2 t3 hM hmx hm
        go_wp2_with fail
        refine (HR.out.tickN HT0.out HT1.out).mono ?_
        rintro e w5 ⟨A5, c5, rfl, hl5⟩
        have H5 := Lib.hid hl5
        clear hl5 HR HT0 HT1
        obtain ⟨ad, hA, -⟩ := H5.out.rst HRS.out HX.out
        subst hA
        go_wp2
        by_cases hij : i = j
        · subst hij
          refine region_stagedP 3 (fun t => match t with | 0 => 2 | 1 => 17 | _ => 40) (fun i => if i = 2 then some 0 else if i = 17 then some 1 else if i = 40 then some 2 else none) (GPL [isV (.pointer (some ⟨b, 0, none⟩)), isV (.int .i64 (i : Int)), isV (.int .i64 M), isV (.pointer (some ⟨g, 2, none⟩)), isV (.slice (some ad) n c3), isV (.int .i64 (i : Int)), isV (.pointer (some (ad.add i))), isV (.pointer (some (ad.add i))), isV (.int .i64 x), isV (.int .i64 (k : Int)), isV (.int .i64 (x - (k : Int))), isV (.int .i64 (x - (k : Int) - 1)), isV (.int .i64 M), isV (.bool false), isV (.bool false), isV (.pointer (some ⟨b, 0, none⟩)), isV (.int .i64 (i : Int)), isV (.bool true), isV (.bool false), isV (.bool false), isV (.bool false), isV (.int .i64 (i : Int)), isV (.int .i64 (i : Int)), isV (.bool false), isV (.bool false), isV (undef), isV (undef), isV (undef), isV (undef), isV (undef), isV (undef), isV (.bool false), isV (.bool false), isV (.bool false), isV (.int .i64 (i : Int)), isV (.int .i64 (i : Int)), isV (.bool false), isV (.bool false), isV (undef), isV (undef), isV (undef), isV (.bool false), isV (.bool false)]) (fun s w => Lw w3 w b bl bh L (agS L i i (lateL x (k + 1)) (bK i i y (k + 1)))) 142 (by kernel_rfl) rfl (by kernel_rfl) ⟨?ca, ?cb, ?cp⟩ ?cs ?c0 ⟨?s0, ?s1, ?s2, ?s3, ?s4, ?s5, ?s6, ?s7, ?s8, ?s9, ?s10, ?s11, ?s12, ?s13, ?s14, ?s15, ?s16, ?s17, ?s18, ?s19, ?s20, ?s21, ?s22, ?s23, ?s24, ?s25, ?s26, ?s27, ?s28, ?s29, ?s30, ?s31, ?s32, ?s33, ?s34, ?s35, ?s36, ?s37, ?s38, ?s39, ?s40, ?s41, ?s42, trivial⟩ ?fin
          case ca =>
            intro i t h
            split at h
            · injection h with h; subst h; rename_i e; exact ⟨by omega, e.symm⟩
            · skip
              split at h
              · injection h with h; subst h; rename_i e; exact ⟨by omega, e.symm⟩
              · skip
                split at h
                · injection h with h; subst h; rename_i e; exact ⟨by omega, e.symm⟩
                · cases h
          case cb =>
            intro t ht
            match t, ht with
            | 0, _ => rfl
            | 1, _ => rfl
            | 2, _ => rfl
          case cp =>
            intro t ht
            match t, ht with
            | 0, _ => exact ⟨[14, 2], by kernel_rfl, by simp, rfl⟩
            | 1, _ => exact ⟨[37, 33, 32, 20, 17], by kernel_rfl, by simp, rfl⟩
          case cs =>
            intro t ht
            match t, ht with
            | 0, _ => exact (by decide : 2 < 43)
            | 1, _ => exact (by decide : 17 < 43)
            | 2, _ => exact (by decide : 40 < 43)
          case c0 => exact H5.out.drew
          case s0 =>
            refine stepS_plain rfl rfl (fun T w1 s hT hd hs hW => ?_)
            have ec := evT_const T
            have ef := evT_func T
            have d9 : evT T (.tmp 9) = .pointer (some ⟨b, 0, none⟩) := hT 9 (by kernel_rfl)
            clear hT hd hW
            refine ⟨.pointer (some ⟨b, 0, none⟩), ?_, rfl⟩
            simp only [execOp]
            go_simp
          case s1 =>
            refine stepS_plain rfl rfl (fun T w1 s hT hd hs hW => ?_)
            have ec := evT_const T
            have ef := evT_func T
            have d11 : evT T (.tmp 11) = .int .i64 (i : Int) := hT 11 (by kernel_rfl)
            clear hT hd hW
            refine ⟨.int .i64 (i : Int), ?_, rfl⟩
            simp only [execOp]
            go_simp
          case s2 =>
            refine stepC_plain 0 rfl rfl (fun T w1 hT hd hW => ?_)
            have ec := evT_const T
            have ef := evT_func T
            have d76 : evT T (.tmp 76) = .pointer (some ⟨b, 0, none⟩) := (by first | exact hd.1 | exact hd.2.1 | exact hd.2.2.1 | exact hd.2.2.2.1 | exact hd.2.2.2.2.1 | exact hd.2.2.2.2.2.1 | exact hd.2.2.2.2.2.2.1 | exact hd.2.2.2.2.2.2.2.1)
            have d77 : evT T (.tmp 77) = .int .i64 (i : Int) := (by first | exact hd.1 | exact hd.2.1 | exact hd.2.2.1 | exact hd.2.2.2.1 | exact hd.2.2.2.2.1 | exact hd.2.2.2.2.2.1 | exact hd.2.2.2.2.2.2.1 | exact hd.2.2.2.2.2.2.2.1)
            refine ⟨23, #[.pointer (some ⟨b, 0, none⟩), .int .i64 (i : Int)], ?_, ?_⟩
            · clear hT hd hW
              simp only [execOp, resolve]
              go_simp
            · have hX : Lw w3 w1 b bl bh L (agS L i i (lateL x (k + 1)) (bK i i y (k + 1))) := hW
              refine (hX.left hiw).mono ?_
              rintro e w2 ⟨rfl, rfl⟩
              exact ⟨_, rfl, by rw [HT3.out]; rfl, hX⟩
          case s3 =>
            refine stepS_plain rfl rfl (fun T w1 s hT hd hs hW => ?_)
            have ec := evT_const T
            have ef := evT_func T
            have d8 : evT T (.tmp 8) = .pointer (some ⟨g, 0, none⟩) := hT 8 (by kernel_rfl)
            clear hT hd hW
            refine ⟨.pointer (some ⟨g, 2, none⟩), ?_, rfl⟩
            simp only [execOp]
            go_simp
          case s4 =>
            refine stepS_plain rfl rfl (fun T w1 s hT hd hs hW => ?_)
            have ec := evT_const T
            have ef := evT_func T
            have d79 : evT T (.tmp 79) = .pointer (some ⟨g, 2, none⟩) := (by first | exact hd.1 | exact hd.2.1 | exact hd.2.2.1 | exact hd.2.2.2.1 | exact hd.2.2.2.2.1 | exact hd.2.2.2.2.2.1 | exact hd.2.2.2.2.2.2.1 | exact hd.2.2.2.2.2.2.2.1)
            have q2 := (hW.box HBX.out 2 _ rfl).1
            clear hT hd hW
            refine ⟨.slice (some ad) n c3, ?_, rfl⟩
            simp only [execOp]
            go_simp
          case s5 =>
            refine stepS_plain rfl rfl (fun T w1 s hT hd hs hW => ?_)
            have ec := evT_const T
            have ef := evT_func T
            have d11 : evT T (.tmp 11) = .int .i64 (i : Int) := hT 11 (by kernel_rfl)
            clear hT hd hW
            refine ⟨.int .i64 (i : Int), ?_, rfl⟩
            simp only [execOp]
            go_simp
          case s6 =>
            refine stepS_plain rfl rfl (fun T w1 s hT hd hs hW => ?_)
            have ec := evT_const T
            have ef := evT_func T
            have d80 : evT T (.tmp 80) = .slice (some ad) n c3 := (by first | exact hd.1 | exact hd.2.1 | exact hd.2.2.1 | exact hd.2.2.2.1 | exact hd.2.2.2.2.1 | exact hd.2.2.2.2.2.1 | exact hd.2.2.2.2.2.2.1 | exact hd.2.2.2.2.2.2.2.1)
            have d81 : evT T (.tmp 81) = .int .i64 (i : Int) := (by first | exact hd.1 | exact hd.2.1 | exact hd.2.2.1 | exact hd.2.2.2.1 | exact hd.2.2.2.2.1 | exact hd.2.2.2.2.2.1 | exact hd.2.2.2.2.2.2.1 | exact hd.2.2.2.2.2.2.2.1)
            have i0 : (0 : Int) ≤ (i : Int) := by omega
            have i1 : (i : Int) < (n : Int) := by omega
            clear hT hd hW
            refine ⟨.pointer (some (ad.add i)), ?_, rfl⟩
            simp only [execOp]
            go_simp
          case s7 =>
            refine stepS_plain rfl rfl (fun T w1 s hT hd hs hW => ?_)
            have ec := evT_const T
            have ef := evT_func T
            have d82 : evT T (.tmp 82) = .pointer (some (ad.add i)) := (by first | exact hd.1 | exact hd.2.1 | exact hd.2.2.1 | exact hd.2.2.2.1 | exact hd.2.2.2.2.1 | exact hd.2.2.2.2.2.1 | exact hd.2.2.2.2.2.2.1 | exact hd.2.2.2.2.2.2.2.1)
            clear hT hd hW
            refine ⟨.pointer (some (ad.add i)), ?_, rfl⟩
            simp only [execOp]
            go_simp
          case s8 =>
            refine stepS_plain rfl rfl (fun T w1 s hT hd hs hW => ?_)
            have ec := evT_const T
            have ef := evT_func T
            have d83 : evT T (.tmp 83) = .pointer (some (ad.add i)) := (by first | exact hd.1 | exact hd.2.1 | exact hd.2.2.1 | exact hd.2.2.2.1 | exact hd.2.2.2.2.1 | exact hd.2.2.2.2.2.1 | exact hd.2.2.2.2.2.2.1 | exact hd.2.2.2.2.2.2.2.1)
            obtain ⟨ad', hA', q3⟩ := hW.rst HRS.out HX.out
            injection hA' with hA'
            subst hA'
            clear hT hd hW
            refine ⟨.int .i64 x, ?_, rfl⟩
            simp only [execOp]
            go_simp
          case s9 =>
            refine stepS_plain rfl rfl (fun T w1 s hT hd hs hW => ?_)
            have ec := evT_const T
            have ef := evT_func T
            have d13 : evT T (.tmp 13) = .int .i64 (k : Int) := hT 13 (by kernel_rfl)
            clear hT hd hW
            refine ⟨.int .i64 (k : Int), ?_, rfl⟩
            simp only [execOp]
            go_simp
          case s10 =>
            refine stepS_plain rfl rfl (fun T w1 s hT hd hs hW => ?_)
            have ec := evT_const T
            have ef := evT_func T
            have d84 : evT T (.tmp 84) = .int .i64 x := (by first | exact hd.1 | exact hd.2.1 | exact hd.2.2.1 | exact hd.2.2.2.1 | exact hd.2.2.2.2.1 | exact hd.2.2.2.2.2.1 | exact hd.2.2.2.2.2.2.1 | exact hd.2.2.2.2.2.2.2.1)
            have d85 : evT T (.tmp 85) = .int .i64 (k : Int) := (by first | exact hd.1 | exact hd.2.1 | exact hd.2.2.1 | exact hd.2.2.2.1 | exact hd.2.2.2.2.1 | exact hd.2.2.2.2.2.1 | exact hd.2.2.2.2.2.2.1 | exact hd.2.2.2.2.2.2.2.1)
            have y1 : IntKind.i64.wrap (x - (k : Int)) = x - (k : Int) := by rw [IntWalk.i64_in _ (by omega)]
            clear hT hd hW
            refine ⟨.int .i64 (x - (k : Int)), ?_, rfl⟩
            simp only [execOp]
            go_simp
          case s11 =>
            refine stepS_plain rfl rfl (fun T w1 s hT hd hs hW => ?_)
            have ec := evT_const T
            have ef := evT_func T
            have d86 : evT T (.tmp 86) = .int .i64 (x - (k : Int)) := (by first | exact hd.1 | exact hd.2.1 | exact hd.2.2.1 | exact hd.2.2.2.1 | exact hd.2.2.2.2.1 | exact hd.2.2.2.2.2.1 | exact hd.2.2.2.2.2.2.1 | exact hd.2.2.2.2.2.2.2.1)
            have y1 : IntKind.i64.wrap (x - (k : Int) - 1) = x - (k : Int) - 1 := by rw [IntWalk.i64_in _ (by omega)]
            clear hT hd hW
            refine ⟨.int .i64 (x - (k : Int) - 1), ?_, rfl⟩
            simp only [execOp]
            go_simp
          case s12 =>
            refine stepS_plain rfl rfl (fun T w1 s hT hd hs hW => ?_)
            have ec := evT_const T
            have ef := evT_func T
            have d87 : evT T (.tmp 87) = .int .i64 (x - (k : Int) - 1) := (by first | exact hd.1 | exact hd.2.1 | exact hd.2.2.1 | exact hd.2.2.2.1 | exact hd.2.2.2.2.1 | exact hd.2.2.2.2.2.1 | exact hd.2.2.2.2.2.2.1 | exact hd.2.2.2.2.2.2.2.1)
            have y1 : (if x - (k : Int) - 1 < 0 then (0 : Int) else x - (k : Int) - 1) = M := HMX.out
            clear hT hd hW
            refine ⟨.int .i64 M, ?_, rfl⟩
            simp only [execOp]
            go_simp
          case s13 =>
            refine stepS_plain rfl rfl (fun T w1 s hT hd hs hW => ?_)
            have ec := evT_const T
            have ef := evT_func T
            have d78 : evT T (.tmp 78) = .int .i64 M := (by first | exact hd.1 | exact hd.2.1 | exact hd.2.2.1 | exact hd.2.2.2.1 | exact hd.2.2.2.2.1 | exact hd.2.2.2.2.2.1 | exact hd.2.2.2.2.2.2.1 | exact hd.2.2.2.2.2.2.2.1)
            have d88 : evT T (.tmp 88) = .int .i64 M := (by first | exact hd.1 | exact hd.2.1 | exact hd.2.2.1 | exact hd.2.2.2.1 | exact hd.2.2.2.2.1 | exact hd.2.2.2.2.2.1 | exact hd.2.2.2.2.2.2.1 | exact hd.2.2.2.2.2.2.2.1)
            clear hT hd hW
            refine ⟨.bool false, ?_, rfl⟩
            simp only [execOp]
            go_simp
          case s14 =>
            refine stepS_plain rfl rfl (fun T w1 s hT hd hs hW => ?_)
            have ec := evT_const T
            have ef := evT_func T
            have d89 : evT T (.tmp 89) = .bool false := (by first | exact hd.1 | exact hd.2.1 | exact hd.2.2.1 | exact hd.2.2.2.1 | exact hd.2.2.2.2.1 | exact hd.2.2.2.2.2.1 | exact hd.2.2.2.2.2.2.1 | exact hd.2.2.2.2.2.2.2.1)
            clear hT hd hW
            refine ⟨.bool false, ?_, rfl⟩
            simp only [execOp]
            go_simp
          case s15 =>
            refine stepS_on 14 90 false rfl rfl rfl (fun T w1 s hT hd hs hW => ⟨(by first | exact hd.1 | exact hd.2.1 | exact hd.2.2.1 | exact hd.2.2.2.1 | exact hd.2.2.2.2.1 | exact hd.2.2.2.2.2.1 | exact hd.2.2.2.2.2.2.1 | exact hd.2.2.2.2.2.2.2.1), ?_⟩)
            have ec := evT_const T
            have ef := evT_func T
            have d9 : evT T (.tmp 9) = .pointer (some ⟨b, 0, none⟩) := hT 9 (by kernel_rfl)
            clear hT hd hW
            refine ⟨.pointer (some ⟨b, 0, none⟩), ?_, rfl⟩
            simp only [execOp]
            go_simp
          case s16 =>
            refine stepS_on 14 90 false rfl rfl rfl (fun T w1 s hT hd hs hW => ⟨(by first | exact hd.1 | exact hd.2.1 | exact hd.2.2.1 | exact hd.2.2.2.1 | exact hd.2.2.2.2.1 | exact hd.2.2.2.2.2.1 | exact hd.2.2.2.2.2.2.1 | exact hd.2.2.2.2.2.2.2.1), ?_⟩)
            have ec := evT_const T
            have ef := evT_func T
            have d11 : evT T (.tmp 11) = .int .i64 (i : Int) := hT 11 (by kernel_rfl)
            clear hT hd hW
            refine ⟨.int .i64 (i : Int), ?_, rfl⟩
            simp only [execOp]
            go_simp
          case s17 =>
            refine stepC_on 1 14 90 false rfl rfl rfl (fun T w1 hT hd hW => ⟨(by first | exact hd.1 | exact hd.2.1 | exact hd.2.2.1 | exact hd.2.2.2.1 | exact hd.2.2.2.2.1 | exact hd.2.2.2.2.2.1 | exact hd.2.2.2.2.2.2.1 | exact hd.2.2.2.2.2.2.2.1), ?_⟩)
            have ec := evT_const T
            have ef := evT_func T
            have d91 : evT T (.tmp 91) = .pointer (some ⟨b, 0, none⟩) := (by first | exact hd.1 | exact hd.2.1 | exact hd.2.2.1 | exact hd.2.2.2.1 | exact hd.2.2.2.2.1 | exact hd.2.2.2.2.2.1 | exact hd.2.2.2.2.2.2.1 | exact hd.2.2.2.2.2.2.2.1)
            have d92 : evT T (.tmp 92) = .int .i64 (i : Int) := (by first | exact hd.1 | exact hd.2.1 | exact hd.2.2.1 | exact hd.2.2.2.1 | exact hd.2.2.2.2.1 | exact hd.2.2.2.2.2.1 | exact hd.2.2.2.2.2.2.1 | exact hd.2.2.2.2.2.2.2.1)
            refine ⟨21, #[.pointer (some ⟨b, 0, none⟩), .int .i64 (i : Int)], ?_, ?_⟩
            · clear hT hd hW
              simp only [execOp, resolve]
              go_simp
            · have hX : Lw w3 w1 b bl bh L (agS L i i (lateL x (k + 1)) (bK i i y (k + 1))) := hW
              refine (hX.held hiw).mono ?_
              rintro e w2 ⟨rfl, h2, -⟩
              exact ⟨_, rfl, by rw [HT2.out]; rfl, h2⟩
          case s18 =>
            refine stepS_on 14 90 false rfl rfl rfl (fun T w1 s hT hd hs hW => ⟨(by first | exact hd.1 | exact hd.2.1 | exact hd.2.2.1 | exact hd.2.2.2.1 | exact hd.2.2.2.2.1 | exact hd.2.2.2.2.2.1 | exact hd.2.2.2.2.2.2.1 | exact hd.2.2.2.2.2.2.2.1), ?_⟩)
            have ec := evT_const T
            have ef := evT_func T
            have d93 : evT T (.tmp 93) = .bool true := (by first | exact hd.1 | exact hd.2.1 | exact hd.2.2.1 | exact hd.2.2.2.1 | exact hd.2.2.2.2.1 | exact hd.2.2.2.2.2.1 | exact hd.2.2.2.2.2.2.1 | exact hd.2.2.2.2.2.2.2.1)
            clear hT hd hW
            refine ⟨.bool false, ?_, rfl⟩
            simp only [execOp]
            go_simp
          case s19 =>
            refine stepS_plain rfl rfl (fun T w1 s hT hd hs hW => ?_)
            have ec := evT_const T
            have ef := evT_func T
            have d90 : evT T (.tmp 90) = .bool false := (by first | exact hd.1 | exact hd.2.1 | exact hd.2.2.1 | exact hd.2.2.2.1 | exact hd.2.2.2.2.1 | exact hd.2.2.2.2.2.1 | exact hd.2.2.2.2.2.2.1 | exact hd.2.2.2.2.2.2.2.1)
            have d94 : evT T (.tmp 94) = .bool false := (by first | exact hd.1 | exact hd.2.1 | exact hd.2.2.1 | exact hd.2.2.2.1 | exact hd.2.2.2.2.1 | exact hd.2.2.2.2.2.1 | exact hd.2.2.2.2.2.2.1 | exact hd.2.2.2.2.2.2.2.1)
            clear hT hd hW
            refine ⟨.bool false, ?_, rfl⟩
            simp only [execOp]
            go_simp
          case s20 =>
            refine stepS_plain rfl rfl (fun T w1 s hT hd hs hW => ?_)
            have ec := evT_const T
            have ef := evT_func T
            have d95 : evT T (.tmp 95) = .bool false := (by first | exact hd.1 | exact hd.2.1 | exact hd.2.2.1 | exact hd.2.2.2.1 | exact hd.2.2.2.2.1 | exact hd.2.2.2.2.2.1 | exact hd.2.2.2.2.2.2.1 | exact hd.2.2.2.2.2.2.2.1)
            clear hT hd hW
            refine ⟨.bool false, ?_, rfl⟩
            simp only [execOp]
            go_simp
          case s21 =>
            refine stepS_on 20 96 false rfl rfl rfl (fun T w1 s hT hd hs hW => ⟨(by first | exact hd.1 | exact hd.2.1 | exact hd.2.2.1 | exact hd.2.2.2.1 | exact hd.2.2.2.2.1 | exact hd.2.2.2.2.2.1 | exact hd.2.2.2.2.2.2.1 | exact hd.2.2.2.2.2.2.2.1), ?_⟩)
            have ec := evT_const T
            have ef := evT_func T
            have d11 : evT T (.tmp 11) = .int .i64 (i : Int) := hT 11 (by kernel_rfl)
            clear hT hd hW
            refine ⟨.int .i64 (i : Int), ?_, rfl⟩
            simp only [execOp]
            go_simp
          case s22 =>
            refine stepS_on 20 96 false rfl rfl rfl (fun T w1 s hT hd hs hW => ⟨(by first | exact hd.1 | exact hd.2.1 | exact hd.2.2.1 | exact hd.2.2.2.1 | exact hd.2.2.2.2.1 | exact hd.2.2.2.2.2.1 | exact hd.2.2.2.2.2.2.1 | exact hd.2.2.2.2.2.2.2.1), ?_⟩)
            have ec := evT_const T
            have ef := evT_func T
            have d12 : evT T (.tmp 12) = .int .i64 (i : Int) := hT 12 (by kernel_rfl)
            clear hT hd hW
            refine ⟨.int .i64 (i : Int), ?_, rfl⟩
            simp only [execOp]
            go_simp
          case s23 =>
            refine stepS_on 20 96 false rfl rfl rfl (fun T w1 s hT hd hs hW => ⟨(by first | exact hd.1 | exact hd.2.1 | exact hd.2.2.1 | exact hd.2.2.2.1 | exact hd.2.2.2.2.1 | exact hd.2.2.2.2.2.1 | exact hd.2.2.2.2.2.2.1 | exact hd.2.2.2.2.2.2.2.1), ?_⟩)
            have ec := evT_const T
            have ef := evT_func T
            have d97 : evT T (.tmp 97) = .int .i64 (i : Int) := (by first | exact hd.1 | exact hd.2.1 | exact hd.2.2.1 | exact hd.2.2.2.1 | exact hd.2.2.2.2.1 | exact hd.2.2.2.2.2.1 | exact hd.2.2.2.2.2.2.1 | exact hd.2.2.2.2.2.2.2.1)
            have d98 : evT T (.tmp 98) = .int .i64 (i : Int) := (by first | exact hd.1 | exact hd.2.1 | exact hd.2.2.1 | exact hd.2.2.2.1 | exact hd.2.2.2.2.1 | exact hd.2.2.2.2.2.1 | exact hd.2.2.2.2.2.2.1 | exact hd.2.2.2.2.2.2.2.1)
            clear hT hd hW
            refine ⟨.bool false, ?_, rfl⟩
            simp only [execOp]
            go_simp
          case s24 =>
            refine stepS_on 20 96 false rfl rfl rfl (fun T w1 s hT hd hs hW => ⟨(by first | exact hd.1 | exact hd.2.1 | exact hd.2.2.1 | exact hd.2.2.2.1 | exact hd.2.2.2.2.1 | exact hd.2.2.2.2.2.1 | exact hd.2.2.2.2.2.2.1 | exact hd.2.2.2.2.2.2.2.1), ?_⟩)
            have ec := evT_const T
            have ef := evT_func T
            have d99 : evT T (.tmp 99) = .bool false := (by first | exact hd.1 | exact hd.2.1 | exact hd.2.2.1 | exact hd.2.2.2.1 | exact hd.2.2.2.2.1 | exact hd.2.2.2.2.2.1 | exact hd.2.2.2.2.2.2.1 | exact hd.2.2.2.2.2.2.2.1)
            clear hT hd hW
            refine ⟨.bool false, ?_, rfl⟩
            simp only [execOp]
            go_simp
          case s25 =>
            exact stepS_off 24 100 true rfl rfl rfl (fun T hT hd => ⟨(by first | exact hd.1 | exact hd.2.1 | exact hd.2.2.1 | exact hd.2.2.2.1 | exact hd.2.2.2.2.1 | exact hd.2.2.2.2.2.1 | exact hd.2.2.2.2.2.2.1 | exact hd.2.2.2.2.2.2.2.1), rfl⟩)
          case s26 =>
            exact stepS_off 24 100 true rfl rfl rfl (fun T hT hd => ⟨(by first | exact hd.1 | exact hd.2.1 | exact hd.2.2.1 | exact hd.2.2.2.1 | exact hd.2.2.2.2.1 | exact hd.2.2.2.2.2.1 | exact hd.2.2.2.2.2.2.1 | exact hd.2.2.2.2.2.2.2.1), rfl⟩)
          case s27 =>
            exact stepS_off 24 100 true rfl rfl rfl (fun T hT hd => ⟨(by first | exact hd.1 | exact hd.2.1 | exact hd.2.2.1 | exact hd.2.2.2.1 | exact hd.2.2.2.2.1 | exact hd.2.2.2.2.2.1 | exact hd.2.2.2.2.2.2.1 | exact hd.2.2.2.2.2.2.2.1), rfl⟩)
          case s28 =>
            exact stepS_off 24 100 true rfl rfl rfl (fun T hT hd => ⟨(by first | exact hd.1 | exact hd.2.1 | exact hd.2.2.1 | exact hd.2.2.2.1 | exact hd.2.2.2.2.1 | exact hd.2.2.2.2.2.1 | exact hd.2.2.2.2.2.2.1 | exact hd.2.2.2.2.2.2.2.1), rfl⟩)
          case s29 =>
            exact stepS_off 24 100 true rfl rfl rfl (fun T hT hd => ⟨(by first | exact hd.1 | exact hd.2.1 | exact hd.2.2.1 | exact hd.2.2.2.1 | exact hd.2.2.2.2.1 | exact hd.2.2.2.2.2.1 | exact hd.2.2.2.2.2.2.1 | exact hd.2.2.2.2.2.2.2.1), rfl⟩)
          case s30 =>
            exact stepS_off 24 100 true rfl rfl rfl (fun T hT hd => ⟨(by first | exact hd.1 | exact hd.2.1 | exact hd.2.2.1 | exact hd.2.2.2.1 | exact hd.2.2.2.2.1 | exact hd.2.2.2.2.2.1 | exact hd.2.2.2.2.2.2.1 | exact hd.2.2.2.2.2.2.2.1), rfl⟩)
          case s31 =>
            refine stepS_on 20 96 false rfl rfl rfl (fun T w1 s hT hd hs hW => ⟨(by first | exact hd.1 | exact hd.2.1 | exact hd.2.2.1 | exact hd.2.2.2.1 | exact hd.2.2.2.2.1 | exact hd.2.2.2.2.2.1 | exact hd.2.2.2.2.2.2.1 | exact hd.2.2.2.2.2.2.2.1), ?_⟩)
            have ec := evT_const T
            have ef := evT_func T
            have d100 : evT T (.tmp 100) = .bool false := (by first | exact hd.1 | exact hd.2.1 | exact hd.2.2.1 | exact hd.2.2.2.1 | exact hd.2.2.2.2.1 | exact hd.2.2.2.2.2.1 | exact hd.2.2.2.2.2.2.1 | exact hd.2.2.2.2.2.2.2.1)
            have d106 : evT T (.tmp 106) = undef := (by first | exact hd.1 | exact hd.2.1 | exact hd.2.2.1 | exact hd.2.2.2.1 | exact hd.2.2.2.2.1 | exact hd.2.2.2.2.2.1 | exact hd.2.2.2.2.2.2.1 | exact hd.2.2.2.2.2.2.2.1)
            clear hT hd hW
            refine ⟨.bool false, ?_, rfl⟩
            simp only [execOp]
            go_simp
          case s32 =>
            refine stepS_plain rfl rfl (fun T w1 s hT hd hs hW => ?_)
            have ec := evT_const T
            have ef := evT_func T
            have d96 : evT T (.tmp 96) = .bool false := (by first | exact hd.1 | exact hd.2.1 | exact hd.2.2.1 | exact hd.2.2.2.1 | exact hd.2.2.2.2.1 | exact hd.2.2.2.2.2.1 | exact hd.2.2.2.2.2.2.1 | exact hd.2.2.2.2.2.2.2.1)
            have d107 : evT T (.tmp 107) = .bool false := (by first | exact hd.1 | exact hd.2.1 | exact hd.2.2.1 | exact hd.2.2.2.1 | exact hd.2.2.2.2.1 | exact hd.2.2.2.2.2.1 | exact hd.2.2.2.2.2.2.1 | exact hd.2.2.2.2.2.2.2.1)
            clear hT hd hW
            refine ⟨.bool false, ?_, rfl⟩
            simp only [execOp]
            go_simp
          case s33 =>
            refine stepS_plain rfl rfl (fun T w1 s hT hd hs hW => ?_)
            have ec := evT_const T
            have ef := evT_func T
            have d108 : evT T (.tmp 108) = .bool false := (by first | exact hd.1 | exact hd.2.1 | exact hd.2.2.1 | exact hd.2.2.2.1 | exact hd.2.2.2.2.1 | exact hd.2.2.2.2.2.1 | exact hd.2.2.2.2.2.2.1 | exact hd.2.2.2.2.2.2.2.1)
            clear hT hd hW
            refine ⟨.bool false, ?_, rfl⟩
            simp only [execOp]
            go_simp
          case s34 =>
            refine stepS_on 33 109 false rfl rfl rfl (fun T w1 s hT hd hs hW => ⟨(by first | exact hd.1 | exact hd.2.1 | exact hd.2.2.1 | exact hd.2.2.2.1 | exact hd.2.2.2.2.1 | exact hd.2.2.2.2.2.1 | exact hd.2.2.2.2.2.2.1 | exact hd.2.2.2.2.2.2.2.1), ?_⟩)
            have ec := evT_const T
            have ef := evT_func T
            have d11 : evT T (.tmp 11) = .int .i64 (i : Int) := hT 11 (by kernel_rfl)
            clear hT hd hW
            refine ⟨.int .i64 (i : Int), ?_, rfl⟩
            simp only [execOp]
            go_simp
          case s35 =>
            refine stepS_on 33 109 false rfl rfl rfl (fun T w1 s hT hd hs hW => ⟨(by first | exact hd.1 | exact hd.2.1 | exact hd.2.2.1 | exact hd.2.2.2.1 | exact hd.2.2.2.2.1 | exact hd.2.2.2.2.2.1 | exact hd.2.2.2.2.2.2.1 | exact hd.2.2.2.2.2.2.2.1), ?_⟩)
            have ec := evT_const T
            have ef := evT_func T
            have d12 : evT T (.tmp 12) = .int .i64 (i : Int) := hT 12 (by kernel_rfl)
            clear hT hd hW
            refine ⟨.int .i64 (i : Int), ?_, rfl⟩
            simp only [execOp]
            go_simp
          case s36 =>
            refine stepS_on 33 109 false rfl rfl rfl (fun T w1 s hT hd hs hW => ⟨(by first | exact hd.1 | exact hd.2.1 | exact hd.2.2.1 | exact hd.2.2.2.1 | exact hd.2.2.2.2.1 | exact hd.2.2.2.2.2.1 | exact hd.2.2.2.2.2.2.1 | exact hd.2.2.2.2.2.2.2.1), ?_⟩)
            have ec := evT_const T
            have ef := evT_func T
            have d110 : evT T (.tmp 110) = .int .i64 (i : Int) := (by first | exact hd.1 | exact hd.2.1 | exact hd.2.2.1 | exact hd.2.2.2.1 | exact hd.2.2.2.2.1 | exact hd.2.2.2.2.2.1 | exact hd.2.2.2.2.2.2.1 | exact hd.2.2.2.2.2.2.2.1)
            have d111 : evT T (.tmp 111) = .int .i64 (i : Int) := (by first | exact hd.1 | exact hd.2.1 | exact hd.2.2.1 | exact hd.2.2.2.1 | exact hd.2.2.2.2.1 | exact hd.2.2.2.2.2.1 | exact hd.2.2.2.2.2.2.1 | exact hd.2.2.2.2.2.2.2.1)
            clear hT hd hW
            refine ⟨.bool false, ?_, rfl⟩
            simp only [execOp]
            go_simp
          case s37 =>
            refine stepS_on 33 109 false rfl rfl rfl (fun T w1 s hT hd hs hW => ⟨(by first | exact hd.1 | exact hd.2.1 | exact hd.2.2.1 | exact hd.2.2.2.1 | exact hd.2.2.2.2.1 | exact hd.2.2.2.2.2.1 | exact hd.2.2.2.2.2.2.1 | exact hd.2.2.2.2.2.2.2.1), ?_⟩)
            have ec := evT_const T
            have ef := evT_func T
            have d112 : evT T (.tmp 112) = .bool false := (by first | exact hd.1 | exact hd.2.1 | exact hd.2.2.1 | exact hd.2.2.2.1 | exact hd.2.2.2.2.1 | exact hd.2.2.2.2.2.1 | exact hd.2.2.2.2.2.2.1 | exact hd.2.2.2.2.2.2.2.1)
            clear hT hd hW
            refine ⟨.bool false, ?_, rfl⟩
            simp only [execOp]
            go_simp
          case s38 =>
            exact stepS_off 37 113 true rfl rfl rfl (fun T hT hd => ⟨(by first | exact hd.1 | exact hd.2.1 | exact hd.2.2.1 | exact hd.2.2.2.1 | exact hd.2.2.2.2.1 | exact hd.2.2.2.2.2.1 | exact hd.2.2.2.2.2.2.1 | exact hd.2.2.2.2.2.2.2.1), rfl⟩)
          case s39 =>
            exact stepS_off 37 113 true rfl rfl rfl (fun T hT hd => ⟨(by first | exact hd.1 | exact hd.2.1 | exact hd.2.2.1 | exact hd.2.2.2.1 | exact hd.2.2.2.2.1 | exact hd.2.2.2.2.2.1 | exact hd.2.2.2.2.2.2.1 | exact hd.2.2.2.2.2.2.2.1), rfl⟩)
          case s40 =>
            exact stepC_off 2 37 113 true rfl rfl rfl (fun T hT hd => ⟨(by first | exact hd.1 | exact hd.2.1 | exact hd.2.2.1 | exact hd.2.2.2.1 | exact hd.2.2.2.2.1 | exact hd.2.2.2.2.2.1 | exact hd.2.2.2.2.2.2.1 | exact hd.2.2.2.2.2.2.2.1), rfl⟩) (fun w hW => hW)
          case s41 =>
            refine stepS_on 33 109 false rfl rfl rfl (fun T w1 s hT hd hs hW => ⟨(by first | exact hd.1 | exact hd.2.1 | exact hd.2.2.1 | exact hd.2.2.2.1 | exact hd.2.2.2.2.1 | exact hd.2.2.2.2.2.1 | exact hd.2.2.2.2.2.2.1 | exact hd.2.2.2.2.2.2.2.1), ?_⟩)
            have ec := evT_const T
            have ef := evT_func T
            have d113 : evT T (.tmp 113) = .bool false := (by first | exact hd.1 | exact hd.2.1 | exact hd.2.2.1 | exact hd.2.2.2.1 | exact hd.2.2.2.2.1 | exact hd.2.2.2.2.2.1 | exact hd.2.2.2.2.2.2.1 | exact hd.2.2.2.2.2.2.2.1)
            have d116 : evT T (.tmp 116) = undef := (by first | exact hd.1 | exact hd.2.1 | exact hd.2.2.1 | exact hd.2.2.2.1 | exact hd.2.2.2.2.1 | exact hd.2.2.2.2.2.1 | exact hd.2.2.2.2.2.2.1 | exact hd.2.2.2.2.2.2.2.1)
            clear hT hd hW
            refine ⟨.bool false, ?_, rfl⟩
            simp only [execOp]
            go_simp
          case s42 =>
            refine stepS_plain rfl rfl (fun T w1 s hT hd hs hW => ?_)
            have ec := evT_const T
            have ef := evT_func T
            have d109 : evT T (.tmp 109) = .bool false := (by first | exact hd.1 | exact hd.2.1 | exact hd.2.2.1 | exact hd.2.2.2.1 | exact hd.2.2.2.2.1 | exact hd.2.2.2.2.2.1 | exact hd.2.2.2.2.2.2.1 | exact hd.2.2.2.2.2.2.2.1)
            have d117 : evT T (.tmp 117) = .bool false := (by first | exact hd.1 | exact hd.2.1 | exact hd.2.2.1 | exact hd.2.2.2.1 | exact hd.2.2.2.2.1 | exact hd.2.2.2.2.2.1 | exact hd.2.2.2.2.2.2.1 | exact hd.2.2.2.2.2.2.2.1)
            clear hT hd hW
            refine ⟨.bool false, ?_, rfl⟩
            simp only [execOp]
            go_simp
          case fin =>
            intro T w1 hT hW hd
            have e118 : T 118 = .bool false := hd.2.2.2.2.2.2.2.2.2.2.2.2.2.2.2.2.2.2.2.2.2.2.2.2.2.2.2.2.2.2.2.2.2.2.2.2.2.2.2.2.2.2.1
            simp only [putL, Act.put, Option.getD_some, List.setIfInBounds_toArray, List.set_cons_zero, List.set_cons_succ]
            have HWl : RowKit.Hid (Lw w3 w1 b bl bh L (agS L i i (lateL x (k + 1)) (bK i i y (k + 1)))) := Lib.hid hW
            clear hT hd hW
            rw [e118]
            clear e118
            go_wp2
            go_roundw
            case rel => exact ⟨k + 1, hkt, by go_num, HWl⟩
            case measure => simp [intOf]; omega
        · have t4 : heldP (agS L i j (lateL x (k + 1)) (bK i j y (k + 1))) (j : Int) = false := by rw [agS_heldj HY.out hij]; unfold bK; rw [if_neg hij, if_neg (Nat.succ_ne_zero k)]; rfl
          have HT4 := Lib.hid t4
          obtain ⟨e, he⟩ : ∃ e, (k == 0) = e := ⟨_, rfl⟩
          have hek : ((k : Int) == 0) = e := by rw [← he, Bool.eq_iff_iff]; simp
          have hen : (m == 1) = e := by rw [← he, HM.out, Bool.eq_iff_iff]; simp [hij]
          have hem : ((m : Int) == 1) = e := by rw [← hen, Bool.eq_iff_iff]; simp; omega
          have HEK := Lib.hid hek
          have HEL := Lib.hid he
          have HEN := Lib.hid hen
          have HEM := Lib.hid hem
          clear t4 he hek hen hem
          refine region_stagedP 3 (fun t => match t with | 0 => 2 | 1 => 17 | _ => 40) (fun i => if i = 2 then some 0 else if i = 17 then some 1 else if i = 40 then some 2 else none) (GPL [isV (.pointer (some ⟨b, 0, none⟩)), isV (.int .i64 (i : Int)), isV (.int .i64 M), isV (.pointer (some ⟨g, 2, none⟩)), isV (.slice (some ad) n c3), isV (.int .i64 (i : Int)), isV (.pointer (some (ad.add i))), isV (.pointer (some (ad.add i))), isV (.int .i64 x), isV (.int .i64 (k : Int)), isV (.int .i64 (x - (k : Int))), isV (.int .i64 (x - (k : Int) - 1)), isV (.int .i64 M), isV (.bool false), isV (.bool false), isV (.pointer (some ⟨b, 0, none⟩)), isV (.int .i64 (i : Int)), isV (.bool true), isV (.bool false), isV (.bool false), isV (.bool false), isV (.int .i64 (i : Int)), isV (.int .i64 (j : Int)), isV (.bool true), isV (.bool true), isV (.slice A5 m c5), isV (.int .i64 (m : Int)), isV (.bool e), isV (.int .i64 (k : Int)), isV (.bool e), isV (.bool false), isV (.bool false), isV (.bool false), isV (.bool false), isV (.int .i64 (i : Int)), isV (.int .i64 (j : Int)), isV (.bool true), isV (.bool true), isV (.pointer (some ⟨b, 0, none⟩)), isV (.int .i64 (j : Int)), isV (.bool false), isV (.bool false), isV (.bool false)]) (fun s w => Lw w3 w b bl bh L (agS L i j (lateL x (k + 1)) (bK i j y (k + 1)))) 142 (by kernel_rfl) rfl (by kernel_rfl) ⟨?ca, ?cb, ?cp⟩ ?cs ?c0 ⟨?s0, ?s1, ?s2, ?s3, ?s4, ?s5, ?s6, ?s7, ?s8, ?s9, ?s10, ?s11, ?s12, ?s13, ?s14, ?s15, ?s16, ?s17, ?s18, ?s19, ?s20, ?s21, ?s22, ?s23, ?s24, ?s25, ?s26, ?s27, ?s28, ?s29, ?s30, ?s31, ?s32, ?s33, ?s34, ?s35, ?s36, ?s37, ?s38, ?s39, ?s40, ?s41, ?s42, trivial⟩ ?fin
          case ca =>
            intro i t h
            split at h
            · injection h with h; subst h; rename_i e; exact ⟨by omega, e.symm⟩
            · skip
              split at h
              · injection h with h; subst h; rename_i e; exact ⟨by omega, e.symm⟩
              · skip
                split at h
                · injection h with h; subst h; rename_i e; exact ⟨by omega, e.symm⟩
                · cases h
          case cb =>
            intro t ht
            match t, ht with
            | 0, _ => rfl
            | 1, _ => rfl
            | 2, _ => rfl
          case cp =>
            intro t ht
            match t, ht with
            | 0, _ => exact ⟨[14, 2], by kernel_rfl, by simp, rfl⟩
            | 1, _ => exact ⟨[37, 33, 32, 20, 17], by kernel_rfl, by simp, rfl⟩
          case cs =>
            intro t ht
            match t, ht with
            | 0, _ => exact (by decide : 2 < 43)
            | 1, _ => exact (by decide : 17 < 43)
            | 2, _ => exact (by decide : 40 < 43)
          case c0 => exact H5.out.drew
          case s0 =>
            refine stepS_plain rfl rfl (fun T w1 s hT hd hs hW => ?_)
            have ec := evT_const T
            have ef := evT_func T
            have d9 : evT T (.tmp 9) = .pointer (some ⟨b, 0, none⟩) := hT 9 (by kernel_rfl)
            clear hT hd hW
            refine ⟨.pointer (some ⟨b, 0, none⟩), ?_, rfl⟩
            simp only [execOp]
            go_simp
          case s1 =>
            refine stepS_plain rfl rfl (fun T w1 s hT hd hs hW => ?_)
            have ec := evT_const T
            have ef := evT_func T
            have d11 : evT T (.tmp 11) = .int .i64 (i : Int) := hT 11 (by kernel_rfl)
            clear hT hd hW
            refine ⟨.int .i64 (i : Int), ?_, rfl⟩
            simp only [execOp]
            go_simp
          case s2 =>
            refine stepC_plain 0 rfl rfl (fun T w1 hT hd hW => ?_)
            have ec := evT_const T
            have ef := evT_func T
            have d76 : evT T (.tmp 76) = .pointer (some ⟨b, 0, none⟩) := (by first | exact hd.1 | exact hd.2.1 | exact hd.2.2.1 | exact hd.2.2.2.1 | exact hd.2.2.2.2.1 | exact hd.2.2.2.2.2.1 | exact hd.2.2.2.2.2.2.1 | exact hd.2.2.2.2.2.2.2.1)
            have d77 : evT T (.tmp 77) = .int .i64 (i : Int) := (by first | exact hd.1 | exact hd.2.1 | exact hd.2.2.1 | exact hd.2.2.2.1 | exact hd.2.2.2.2.1 | exact hd.2.2.2.2.2.1 | exact hd.2.2.2.2.2.2.1 | exact hd.2.2.2.2.2.2.2.1)
            refine ⟨23, #[.pointer (some ⟨b, 0, none⟩), .int .i64 (i : Int)], ?_, ?_⟩
            · clear hT hd hW
              simp only [execOp, resolve]
              go_simp
            · have hX : Lw w3 w1 b bl bh L (agS L i j (lateL x (k + 1)) (bK i j y (k + 1))) := hW
              refine (hX.left hiw).mono ?_
              rintro e w2 ⟨rfl, rfl⟩
              exact ⟨_, rfl, by rw [HT3.out]; rfl, hX⟩
          case s3 =>
            refine stepS_plain rfl rfl (fun T w1 s hT hd hs hW => ?_)
            have ec := evT_const T
            have ef := evT_func T
            have d8 : evT T (.tmp 8) = .pointer (some ⟨g, 0, none⟩) := hT 8 (by kernel_rfl)
            clear hT hd hW
            refine ⟨.pointer (some ⟨g, 2, none⟩), ?_, rfl⟩
            simp only [execOp]
            go_simp
          case s4 =>
            refine stepS_plain rfl rfl (fun T w1 s hT hd hs hW => ?_)
            have ec := evT_const T
            have ef := evT_func T
            have d79 : evT T (.tmp 79) = .pointer (some ⟨g, 2, none⟩) := (by first | exact hd.1 | exact hd.2.1 | exact hd.2.2.1 | exact hd.2.2.2.1 | exact hd.2.2.2.2.1 | exact hd.2.2.2.2.2.1 | exact hd.2.2.2.2.2.2.1 | exact hd.2.2.2.2.2.2.2.1)
            have q2 := (hW.box HBX.out 2 _ rfl).1
            clear hT hd hW
            refine ⟨.slice (some ad) n c3, ?_, rfl⟩
            simp only [execOp]
            go_simp
          case s5 =>
            refine stepS_plain rfl rfl (fun T w1 s hT hd hs hW => ?_)
            have ec := evT_const T
            have ef := evT_func T
            have d11 : evT T (.tmp 11) = .int .i64 (i : Int) := hT 11 (by kernel_rfl)
            clear hT hd hW
            refine ⟨.int .i64 (i : Int), ?_, rfl⟩
            simp only [execOp]
            go_simp
          case s6 =>
            refine stepS_plain rfl rfl (fun T w1 s hT hd hs hW => ?_)
            have ec := evT_const T
            have ef := evT_func T
            have d80 : evT T (.tmp 80) = .slice (some ad) n c3 := (by first | exact hd.1 | exact hd.2.1 | exact hd.2.2.1 | exact hd.2.2.2.1 | exact hd.2.2.2.2.1 | exact hd.2.2.2.2.2.1 | exact hd.2.2.2.2.2.2.1 | exact hd.2.2.2.2.2.2.2.1)
            have d81 : evT T (.tmp 81) = .int .i64 (i : Int) := (by first | exact hd.1 | exact hd.2.1 | exact hd.2.2.1 | exact hd.2.2.2.1 | exact hd.2.2.2.2.1 | exact hd.2.2.2.2.2.1 | exact hd.2.2.2.2.2.2.1 | exact hd.2.2.2.2.2.2.2.1)
            have i0 : (0 : Int) ≤ (i : Int) := by omega
            have i1 : (i : Int) < (n : Int) := by omega
            clear hT hd hW
            refine ⟨.pointer (some (ad.add i)), ?_, rfl⟩
            simp only [execOp]
            go_simp
          case s7 =>
            refine stepS_plain rfl rfl (fun T w1 s hT hd hs hW => ?_)
            have ec := evT_const T
            have ef := evT_func T
            have d82 : evT T (.tmp 82) = .pointer (some (ad.add i)) := (by first | exact hd.1 | exact hd.2.1 | exact hd.2.2.1 | exact hd.2.2.2.1 | exact hd.2.2.2.2.1 | exact hd.2.2.2.2.2.1 | exact hd.2.2.2.2.2.2.1 | exact hd.2.2.2.2.2.2.2.1)
            clear hT hd hW
            refine ⟨.pointer (some (ad.add i)), ?_, rfl⟩
            simp only [execOp]
            go_simp
          case s8 =>
            refine stepS_plain rfl rfl (fun T w1 s hT hd hs hW => ?_)
            have ec := evT_const T
            have ef := evT_func T
            have d83 : evT T (.tmp 83) = .pointer (some (ad.add i)) := (by first | exact hd.1 | exact hd.2.1 | exact hd.2.2.1 | exact hd.2.2.2.1 | exact hd.2.2.2.2.1 | exact hd.2.2.2.2.2.1 | exact hd.2.2.2.2.2.2.1 | exact hd.2.2.2.2.2.2.2.1)
            obtain ⟨ad', hA', q3⟩ := hW.rst HRS.out HX.out
            injection hA' with hA'
            subst hA'
            clear hT hd hW
            refine ⟨.int .i64 x, ?_, rfl⟩
            simp only [execOp]
            go_simp
          case s9 =>
            refine stepS_plain rfl rfl (fun T w1 s hT hd hs hW => ?_)
            have ec := evT_const T
            have ef := evT_func T
            have d13 : evT T (.tmp 13) = .int .i64 (k : Int) := hT 13 (by kernel_rfl)
            clear hT hd hW
            refine ⟨.int .i64 (k : Int), ?_, rfl⟩
            simp only [execOp]
            go_simp
          case s10 =>
            refine stepS_plain rfl rfl (fun T w1 s hT hd hs hW => ?_)
            have ec := evT_const T
            have ef := evT_func T
            have d84 : evT T (.tmp 84) = .int .i64 x := (by first | exact hd.1 | exact hd.2.1 | exact hd.2.2.1 | exact hd.2.2.2.1 | exact hd.2.2.2.2.1 | exact hd.2.2.2.2.2.1 | exact hd.2.2.2.2.2.2.1 | exact hd.2.2.2.2.2.2.2.1)
            have d85 : evT T (.tmp 85) = .int .i64 (k : Int) := (by first | exact hd.1 | exact hd.2.1 | exact hd.2.2.1 | exact hd.2.2.2.1 | exact hd.2.2.2.2.1 | exact hd.2.2.2.2.2.1 | exact hd.2.2.2.2.2.2.1 | exact hd.2.2.2.2.2.2.2.1)
            have y1 : IntKind.i64.wrap (x - (k : Int)) = x - (k : Int) := by rw [IntWalk.i64_in _ (by omega)]
            clear hT hd hW
            refine ⟨.int .i64 (x - (k : Int)), ?_, rfl⟩
            simp only [execOp]
            go_simp
          case s11 =>
            refine stepS_plain rfl rfl (fun T w1 s hT hd hs hW => ?_)
            have ec := evT_const T
            have ef := evT_func T
            have d86 : evT T (.tmp 86) = .int .i64 (x - (k : Int)) := (by first | exact hd.1 | exact hd.2.1 | exact hd.2.2.1 | exact hd.2.2.2.1 | exact hd.2.2.2.2.1 | exact hd.2.2.2.2.2.1 | exact hd.2.2.2.2.2.2.1 | exact hd.2.2.2.2.2.2.2.1)
            have y1 : IntKind.i64.wrap (x - (k : Int) - 1) = x - (k : Int) - 1 := by rw [IntWalk.i64_in _ (by omega)]
            clear hT hd hW
            refine ⟨.int .i64 (x - (k : Int) - 1), ?_, rfl⟩
            simp only [execOp]
            go_simp
          case s12 =>
            refine stepS_plain rfl rfl (fun T w1 s hT hd hs hW => ?_)
            have ec := evT_const T
            have ef := evT_func T
            have d87 : evT T (.tmp 87) = .int .i64 (x - (k : Int) - 1) := (by first | exact hd.1 | exact hd.2.1 | exact hd.2.2.1 | exact hd.2.2.2.1 | exact hd.2.2.2.2.1 | exact hd.2.2.2.2.2.1 | exact hd.2.2.2.2.2.2.1 | exact hd.2.2.2.2.2.2.2.1)
            have y1 : (if x - (k : Int) - 1 < 0 then (0 : Int) else x - (k : Int) - 1) = M := HMX.out
            clear hT hd hW
            refine ⟨.int .i64 M, ?_, rfl⟩
            simp only [execOp]
            go_simp
          case s13 =>
            refine stepS_plain rfl rfl (fun T w1 s hT hd hs hW => ?_)
            have ec := evT_const T
            have ef := evT_func T
            have d78 : evT T (.tmp 78) = .int .i64 M := (by first | exact hd.1 | exact hd.2.1 | exact hd.2.2.1 | exact hd.2.2.2.1 | exact hd.2.2.2.2.1 | exact hd.2.2.2.2.2.1 | exact hd.2.2.2.2.2.2.1 | exact hd.2.2.2.2.2.2.2.1)
            have d88 : evT T (.tmp 88) = .int .i64 M := (by first | exact hd.1 | exact hd.2.1 | exact hd.2.2.1 | exact hd.2.2.2.1 | exact hd.2.2.2.2.1 | exact hd.2.2.2.2.2.1 | exact hd.2.2.2.2.2.2.1 | exact hd.2.2.2.2.2.2.2.1)
            clear hT hd hW
            refine ⟨.bool false, ?_, rfl⟩
            simp only [execOp]
            go_simp
          case s14 =>
            refine stepS_plain rfl rfl (fun T w1 s hT hd hs hW => ?_)
            have ec := evT_const T
            have ef := evT_func T
            have d89 : evT T (.tmp 89) = .bool false := (by first | exact hd.1 | exact hd.2.1 | exact hd.2.2.1 | exact hd.2.2.2.1 | exact hd.2.2.2.2.1 | exact hd.2.2.2.2.2.1 | exact hd.2.2.2.2.2.2.1 | exact hd.2.2.2.2.2.2.2.1)
            clear hT hd hW
            refine ⟨.bool false, ?_, rfl⟩
            simp only [execOp]
            go_simp
          case s15 =>
            refine stepS_on 14 90 false rfl rfl rfl (fun T w1 s hT hd hs hW => ⟨(by first | exact hd.1 | exact hd.2.1 | exact hd.2.2.1 | exact hd.2.2.2.1 | exact hd.2.2.2.2.1 | exact hd.2.2.2.2.2.1 | exact hd.2.2.2.2.2.2.1 | exact hd.2.2.2.2.2.2.2.1), ?_⟩)
            have ec := evT_const T
            have ef := evT_func T
            have d9 : evT T (.tmp 9) = .pointer (some ⟨b, 0, none⟩) := hT 9 (by kernel_rfl)
            clear hT hd hW
            refine ⟨.pointer (some ⟨b, 0, none⟩), ?_, rfl⟩
            simp only [execOp]
            go_simp
          case s16 =>
            refine stepS_on 14 90 false rfl rfl rfl (fun T w1 s hT hd hs hW => ⟨(by first | exact hd.1 | exact hd.2.1 | exact hd.2.2.1 | exact hd.2.2.2.1 | exact hd.2.2.2.2.1 | exact hd.2.2.2.2.2.1 | exact hd.2.2.2.2.2.2.1 | exact hd.2.2.2.2.2.2.2.1), ?_⟩)
            have ec := evT_const T
            have ef := evT_func T
            have d11 : evT T (.tmp 11) = .int .i64 (i : Int) := hT 11 (by kernel_rfl)
            clear hT hd hW
            refine ⟨.int .i64 (i : Int), ?_, rfl⟩
            simp only [execOp]
            go_simp
          case s17 =>
            refine stepC_on 1 14 90 false rfl rfl rfl (fun T w1 hT hd hW => ⟨(by first | exact hd.1 | exact hd.2.1 | exact hd.2.2.1 | exact hd.2.2.2.1 | exact hd.2.2.2.2.1 | exact hd.2.2.2.2.2.1 | exact hd.2.2.2.2.2.2.1 | exact hd.2.2.2.2.2.2.2.1), ?_⟩)
            have ec := evT_const T
            have ef := evT_func T
            have d91 : evT T (.tmp 91) = .pointer (some ⟨b, 0, none⟩) := (by first | exact hd.1 | exact hd.2.1 | exact hd.2.2.1 | exact hd.2.2.2.1 | exact hd.2.2.2.2.1 | exact hd.2.2.2.2.2.1 | exact hd.2.2.2.2.2.2.1 | exact hd.2.2.2.2.2.2.2.1)
            have d92 : evT T (.tmp 92) = .int .i64 (i : Int) := (by first | exact hd.1 | exact hd.2.1 | exact hd.2.2.1 | exact hd.2.2.2.1 | exact hd.2.2.2.2.1 | exact hd.2.2.2.2.2.1 | exact hd.2.2.2.2.2.2.1 | exact hd.2.2.2.2.2.2.2.1)
            refine ⟨21, #[.pointer (some ⟨b, 0, none⟩), .int .i64 (i : Int)], ?_, ?_⟩
            · clear hT hd hW
              simp only [execOp, resolve]
              go_simp
            · have hX : Lw w3 w1 b bl bh L (agS L i j (lateL x (k + 1)) (bK i j y (k + 1))) := hW
              refine (hX.held hiw).mono ?_
              rintro e w2 ⟨rfl, h2, -⟩
              exact ⟨_, rfl, by rw [HT2.out]; rfl, h2⟩
          case s18 =>
            refine stepS_on 14 90 false rfl rfl rfl (fun T w1 s hT hd hs hW => ⟨(by first | exact hd.1 | exact hd.2.1 | exact hd.2.2.1 | exact hd.2.2.2.1 | exact hd.2.2.2.2.1 | exact hd.2.2.2.2.2.1 | exact hd.2.2.2.2.2.2.1 | exact hd.2.2.2.2.2.2.2.1), ?_⟩)
            have ec := evT_const T
            have ef := evT_func T
            have d93 : evT T (.tmp 93) = .bool true := (by first | exact hd.1 | exact hd.2.1 | exact hd.2.2.1 | exact hd.2.2.2.1 | exact hd.2.2.2.2.1 | exact hd.2.2.2.2.2.1 | exact hd.2.2.2.2.2.2.1 | exact hd.2.2.2.2.2.2.2.1)
            clear hT hd hW
            refine ⟨.bool false, ?_, rfl⟩
            simp only [execOp]
            go_simp
          case s19 =>
            refine stepS_plain rfl rfl (fun T w1 s hT hd hs hW => ?_)
            have ec := evT_const T
            have ef := evT_func T
            have d90 : evT T (.tmp 90) = .bool false := (by first | exact hd.1 | exact hd.2.1 | exact hd.2.2.1 | exact hd.2.2.2.1 | exact hd.2.2.2.2.1 | exact hd.2.2.2.2.2.1 | exact hd.2.2.2.2.2.2.1 | exact hd.2.2.2.2.2.2.2.1)
            have d94 : evT T (.tmp 94) = .bool false := (by first | exact hd.1 | exact hd.2.1 | exact hd.2.2.1 | exact hd.2.2.2.1 | exact hd.2.2.2.2.1 | exact hd.2.2.2.2.2.1 | exact hd.2.2.2.2.2.2.1 | exact hd.2.2.2.2.2.2.2.1)
            clear hT hd hW
            refine ⟨.bool false, ?_, rfl⟩
            simp only [execOp]
            go_simp
          case s20 =>
            refine stepS_plain rfl rfl (fun T w1 s hT hd hs hW => ?_)
            have ec := evT_const T
            have ef := evT_func T
            have d95 : evT T (.tmp 95) = .bool false := (by first | exact hd.1 | exact hd.2.1 | exact hd.2.2.1 | exact hd.2.2.2.1 | exact hd.2.2.2.2.1 | exact hd.2.2.2.2.2.1 | exact hd.2.2.2.2.2.2.1 | exact hd.2.2.2.2.2.2.2.1)
            clear hT hd hW
            refine ⟨.bool false, ?_, rfl⟩
            simp only [execOp]
            go_simp
          case s21 =>
            refine stepS_on 20 96 false rfl rfl rfl (fun T w1 s hT hd hs hW => ⟨(by first | exact hd.1 | exact hd.2.1 | exact hd.2.2.1 | exact hd.2.2.2.1 | exact hd.2.2.2.2.1 | exact hd.2.2.2.2.2.1 | exact hd.2.2.2.2.2.2.1 | exact hd.2.2.2.2.2.2.2.1), ?_⟩)
            have ec := evT_const T
            have ef := evT_func T
            have d11 : evT T (.tmp 11) = .int .i64 (i : Int) := hT 11 (by kernel_rfl)
            clear hT hd hW
            refine ⟨.int .i64 (i : Int), ?_, rfl⟩
            simp only [execOp]
            go_simp
          case s22 =>
            refine stepS_on 20 96 false rfl rfl rfl (fun T w1 s hT hd hs hW => ⟨(by first | exact hd.1 | exact hd.2.1 | exact hd.2.2.1 | exact hd.2.2.2.1 | exact hd.2.2.2.2.1 | exact hd.2.2.2.2.2.1 | exact hd.2.2.2.2.2.2.1 | exact hd.2.2.2.2.2.2.2.1), ?_⟩)
            have ec := evT_const T
            have ef := evT_func T
            have d12 : evT T (.tmp 12) = .int .i64 (j : Int) := hT 12 (by kernel_rfl)
            clear hT hd hW
            refine ⟨.int .i64 (j : Int), ?_, rfl⟩
            simp only [execOp]
            go_simp
          case s23 =>
            refine stepS_on 20 96 false rfl rfl rfl (fun T w1 s hT hd hs hW => ⟨(by first | exact hd.1 | exact hd.2.1 | exact hd.2.2.1 | exact hd.2.2.2.1 | exact hd.2.2.2.2.1 | exact hd.2.2.2.2.2.1 | exact hd.2.2.2.2.2.2.1 | exact hd.2.2.2.2.2.2.2.1), ?_⟩)
            have ec := evT_const T
            have ef := evT_func T
            have d97 : evT T (.tmp 97) = .int .i64 (i : Int) := (by first | exact hd.1 | exact hd.2.1 | exact hd.2.2.1 | exact hd.2.2.2.1 | exact hd.2.2.2.2.1 | exact hd.2.2.2.2.2.1 | exact hd.2.2.2.2.2.2.1 | exact hd.2.2.2.2.2.2.2.1)
            have d98 : evT T (.tmp 98) = .int .i64 (j : Int) := (by first | exact hd.1 | exact hd.2.1 | exact hd.2.2.1 | exact hd.2.2.2.1 | exact hd.2.2.2.2.1 | exact hd.2.2.2.2.2.1 | exact hd.2.2.2.2.2.2.1 | exact hd.2.2.2.2.2.2.2.1)
            have y1 : ¬ ((i : Int) = (j : Int)) := by omega
            have y2 : ¬ i = j := hij
            clear hT hd hW
            refine ⟨.bool true, ?_, rfl⟩
            simp only [execOp]
            go_simp
          case s24 =>
            refine stepS_on 20 96 false rfl rfl rfl (fun T w1 s hT hd hs hW => ⟨(by first | exact hd.1 | exact hd.2.1 | exact hd.2.2.1 | exact hd.2.2.2.1 | exact hd.2.2.2.2.1 | exact hd.2.2.2.2.2.1 | exact hd.2.2.2.2.2.2.1 | exact hd.2.2.2.2.2.2.2.1), ?_⟩)
            have ec := evT_const T
            have ef := evT_func T
            have d99 : evT T (.tmp 99) = .bool true := (by first | exact hd.1 | exact hd.2.1 | exact hd.2.2.1 | exact hd.2.2.2.1 | exact hd.2.2.2.2.1 | exact hd.2.2.2.2.2.1 | exact hd.2.2.2.2.2.2.1 | exact hd.2.2.2.2.2.2.2.1)
            clear hT hd hW
            refine ⟨.bool true, ?_, rfl⟩
            simp only [execOp]
            go_simp
          case s25 =>
            refine stepS_on 24 100 true rfl rfl rfl (fun T w1 s hT hd hs hW => ⟨(by first | exact hd.1 | exact hd.2.1 | exact hd.2.2.1 | exact hd.2.2.2.1 | exact hd.2.2.2.2.1 | exact hd.2.2.2.2.2.1 | exact hd.2.2.2.2.2.2.1 | exact hd.2.2.2.2.2.2.2.1), ?_⟩)
            have ec := evT_const T
            have ef := evT_func T
            have d14 : evT T (.tmp 14) = .slice A5 m c5 := hT 14 (by kernel_rfl)
            clear hT hd hW
            refine ⟨.slice A5 m c5, ?_, rfl⟩
            simp only [execOp]
            go_simp
          case s26 =>
            refine stepS_on 24 100 true rfl rfl rfl (fun T w1 s hT hd hs hW => ⟨(by first | exact hd.1 | exact hd.2.1 | exact hd.2.2.1 | exact hd.2.2.2.1 | exact hd.2.2.2.2.1 | exact hd.2.2.2.2.2.1 | exact hd.2.2.2.2.2.2.1 | exact hd.2.2.2.2.2.2.2.1), ?_⟩)
            have ec := evT_const T
            have ef := evT_func T
            have d101 : evT T (.tmp 101) = .slice A5 m c5 := (by first | exact hd.1 | exact hd.2.1 | exact hd.2.2.1 | exact hd.2.2.2.1 | exact hd.2.2.2.2.1 | exact hd.2.2.2.2.2.1 | exact hd.2.2.2.2.2.2.1 | exact hd.2.2.2.2.2.2.2.1)
            clear hT hd hW
            refine ⟨.int .i64 (m : Int), ?_, rfl⟩
            simp only [execOp]
            go_simp
          case s27 =>
            refine stepS_on 24 100 true rfl rfl rfl (fun T w1 s hT hd hs hW => ⟨(by first | exact hd.1 | exact hd.2.1 | exact hd.2.2.1 | exact hd.2.2.2.1 | exact hd.2.2.2.2.1 | exact hd.2.2.2.2.2.1 | exact hd.2.2.2.2.2.2.1 | exact hd.2.2.2.2.2.2.2.1), ?_⟩)
            have ec := evT_const T
            have ef := evT_func T
            have d102 : evT T (.tmp 102) = .int .i64 (m : Int) := (by first | exact hd.1 | exact hd.2.1 | exact hd.2.2.1 | exact hd.2.2.2.1 | exact hd.2.2.2.2.1 | exact hd.2.2.2.2.2.1 | exact hd.2.2.2.2.2.2.1 | exact hd.2.2.2.2.2.2.2.1)
            have y1 : ((m : Int) == 1) = e := HEM.out
            have y2 : (m == 1) = e := HEN.out
            clear hT hd hW
            refine ⟨.bool e, ?_, rfl⟩
            simp only [execOp]
            go_simp
          case s28 =>
            refine stepS_on 24 100 true rfl rfl rfl (fun T w1 s hT hd hs hW => ⟨(by first | exact hd.1 | exact hd.2.1 | exact hd.2.2.1 | exact hd.2.2.2.1 | exact hd.2.2.2.2.1 | exact hd.2.2.2.2.2.1 | exact hd.2.2.2.2.2.2.1 | exact hd.2.2.2.2.2.2.2.1), ?_⟩)
            have ec := evT_const T
            have ef := evT_func T
            have d13 : evT T (.tmp 13) = .int .i64 (k : Int) := hT 13 (by kernel_rfl)
            clear hT hd hW
            refine ⟨.int .i64 (k : Int), ?_, rfl⟩
            simp only [execOp]
            go_simp
          case s29 =>
            refine stepS_on 24 100 true rfl rfl rfl (fun T w1 s hT hd hs hW => ⟨(by first | exact hd.1 | exact hd.2.1 | exact hd.2.2.1 | exact hd.2.2.2.1 | exact hd.2.2.2.2.1 | exact hd.2.2.2.2.2.1 | exact hd.2.2.2.2.2.2.1 | exact hd.2.2.2.2.2.2.2.1), ?_⟩)
            have ec := evT_const T
            have ef := evT_func T
            have d104 : evT T (.tmp 104) = .int .i64 (k : Int) := (by first | exact hd.1 | exact hd.2.1 | exact hd.2.2.1 | exact hd.2.2.2.1 | exact hd.2.2.2.2.1 | exact hd.2.2.2.2.2.1 | exact hd.2.2.2.2.2.2.1 | exact hd.2.2.2.2.2.2.2.1)
            have y1 : ((k : Int) == 0) = e := HEK.out
            have y2 : (k == 0) = e := HEL.out
            clear hT hd hW
            refine ⟨.bool e, ?_, rfl⟩
            simp only [execOp]
            go_simp
          case s30 =>
            refine stepS_on 24 100 true rfl rfl rfl (fun T w1 s hT hd hs hW => ⟨(by first | exact hd.1 | exact hd.2.1 | exact hd.2.2.1 | exact hd.2.2.2.1 | exact hd.2.2.2.2.1 | exact hd.2.2.2.2.2.1 | exact hd.2.2.2.2.2.2.1 | exact hd.2.2.2.2.2.2.2.1), ?_⟩)
            have ec := evT_const T
            have ef := evT_func T
            have d103 : evT T (.tmp 103) = .bool e := (by first | exact hd.1 | exact hd.2.1 | exact hd.2.2.1 | exact hd.2.2.2.1 | exact hd.2.2.2.2.1 | exact hd.2.2.2.2.2.1 | exact hd.2.2.2.2.2.2.1 | exact hd.2.2.2.2.2.2.2.1)
            have d105 : evT T (.tmp 105) = .bool e := (by first | exact hd.1 | exact hd.2.1 | exact hd.2.2.1 | exact hd.2.2.2.1 | exact hd.2.2.2.2.1 | exact hd.2.2.2.2.2.1 | exact hd.2.2.2.2.2.2.1 | exact hd.2.2.2.2.2.2.2.1)
            have y1 : (e != e) = false := by cases e <;> rfl
            clear hT hd hW
            refine ⟨.bool false, ?_, rfl⟩
            simp only [execOp]
            go_simp
          case s31 =>
            refine stepS_on 20 96 false rfl rfl rfl (fun T w1 s hT hd hs hW => ⟨(by first | exact hd.1 | exact hd.2.1 | exact hd.2.2.1 | exact hd.2.2.2.1 | exact hd.2.2.2.2.1 | exact hd.2.2.2.2.2.1 | exact hd.2.2.2.2.2.2.1 | exact hd.2.2.2.2.2.2.2.1), ?_⟩)
            have ec := evT_const T
            have ef := evT_func T
            have d100 : evT T (.tmp 100) = .bool true := (by first | exact hd.1 | exact hd.2.1 | exact hd.2.2.1 | exact hd.2.2.2.1 | exact hd.2.2.2.2.1 | exact hd.2.2.2.2.2.1 | exact hd.2.2.2.2.2.2.1 | exact hd.2.2.2.2.2.2.2.1)
            have d106 : evT T (.tmp 106) = .bool false := (by first | exact hd.1 | exact hd.2.1 | exact hd.2.2.1 | exact hd.2.2.2.1 | exact hd.2.2.2.2.1 | exact hd.2.2.2.2.2.1 | exact hd.2.2.2.2.2.2.1 | exact hd.2.2.2.2.2.2.2.1)
            clear hT hd hW
            refine ⟨.bool false, ?_, rfl⟩
            simp only [execOp]
            go_simp
          case s32 =>
            refine stepS_plain rfl rfl (fun T w1 s hT hd hs hW => ?_)
            have ec := evT_const T
            have ef := evT_func T
            have d96 : evT T (.tmp 96) = .bool false := (by first | exact hd.1 | exact hd.2.1 | exact hd.2.2.1 | exact hd.2.2.2.1 | exact hd.2.2.2.2.1 | exact hd.2.2.2.2.2.1 | exact hd.2.2.2.2.2.2.1 | exact hd.2.2.2.2.2.2.2.1)
            have d107 : evT T (.tmp 107) = .bool false := (by first | exact hd.1 | exact hd.2.1 | exact hd.2.2.1 | exact hd.2.2.2.1 | exact hd.2.2.2.2.1 | exact hd.2.2.2.2.2.1 | exact hd.2.2.2.2.2.2.1 | exact hd.2.2.2.2.2.2.2.1)
            clear hT hd hW
            refine ⟨.bool false, ?_, rfl⟩
            simp only [execOp]
            go_simp
          case s33 =>
            refine stepS_plain rfl rfl (fun T w1 s hT hd hs hW => ?_)
            have ec := evT_const T
            have ef := evT_func T
            have d108 : evT T (.tmp 108) = .bool false := (by first | exact hd.1 | exact hd.2.1 | exact hd.2.2.1 | exact hd.2.2.2.1 | exact hd.2.2.2.2.1 | exact hd.2.2.2.2.2.1 | exact hd.2.2.2.2.2.2.1 | exact hd.2.2.2.2.2.2.2.1)
            clear hT hd hW
            refine ⟨.bool false, ?_, rfl⟩
            simp only [execOp]
            go_simp
          case s34 =>
            refine stepS_on 33 109 false rfl rfl rfl (fun T w1 s hT hd hs hW => ⟨(by first | exact hd.1 | exact hd.2.1 | exact hd.2.2.1 | exact hd.2.2.2.1 | exact hd.2.2.2.2.1 | exact hd.2.2.2.2.2.1 | exact hd.2.2.2.2.2.2.1 | exact hd.2.2.2.2.2.2.2.1), ?_⟩)
            have ec := evT_const T
            have ef := evT_func T
            have d11 : evT T (.tmp 11) = .int .i64 (i : Int) := hT 11 (by kernel_rfl)
            clear hT hd hW
            refine ⟨.int .i64 (i : Int), ?_, rfl⟩
            simp only [execOp]
            go_simp
          case s35 =>
            refine stepS_on 33 109 false rfl rfl rfl (fun T w1 s hT hd hs hW => ⟨(by first | exact hd.1 | exact hd.2.1 | exact hd.2.2.1 | exact hd.2.2.2.1 | exact hd.2.2.2.2.1 | exact hd.2.2.2.2.2.1 | exact hd.2.2.2.2.2.2.1 | exact hd.2.2.2.2.2.2.2.1), ?_⟩)
            have ec := evT_const T
            have ef := evT_func T
            have d12 : evT T (.tmp 12) = .int .i64 (j : Int) := hT 12 (by kernel_rfl)
            clear hT hd hW
            refine ⟨.int .i64 (j : Int), ?_, rfl⟩
            simp only [execOp]
            go_simp
          case s36 =>
            refine stepS_on 33 109 false rfl rfl rfl (fun T w1 s hT hd hs hW => ⟨(by first | exact hd.1 | exact hd.2.1 | exact hd.2.2.1 | exact hd.2.2.2.1 | exact hd.2.2.2.2.1 | exact hd.2.2.2.2.2.1 | exact hd.2.2.2.2.2.2.1 | exact hd.2.2.2.2.2.2.2.1), ?_⟩)
            have ec := evT_const T
            have ef := evT_func T
            have d110 : evT T (.tmp 110) = .int .i64 (i : Int) := (by first | exact hd.1 | exact hd.2.1 | exact hd.2.2.1 | exact hd.2.2.2.1 | exact hd.2.2.2.2.1 | exact hd.2.2.2.2.2.1 | exact hd.2.2.2.2.2.2.1 | exact hd.2.2.2.2.2.2.2.1)
            have d111 : evT T (.tmp 111) = .int .i64 (j : Int) := (by first | exact hd.1 | exact hd.2.1 | exact hd.2.2.1 | exact hd.2.2.2.1 | exact hd.2.2.2.2.1 | exact hd.2.2.2.2.2.1 | exact hd.2.2.2.2.2.2.1 | exact hd.2.2.2.2.2.2.2.1)
            have y1 : ¬ ((i : Int) = (j : Int)) := by omega
            have y2 : ¬ i = j := hij
            clear hT hd hW
            refine ⟨.bool true, ?_, rfl⟩
            simp only [execOp]
            go_simp
          case s37 =>
            refine stepS_on 33 109 false rfl rfl rfl (fun T w1 s hT hd hs hW => ⟨(by first | exact hd.1 | exact hd.2.1 | exact hd.2.2.1 | exact hd.2.2.2.1 | exact hd.2.2.2.2.1 | exact hd.2.2.2.2.2.1 | exact hd.2.2.2.2.2.2.1 | exact hd.2.2.2.2.2.2.2.1), ?_⟩)
            have ec := evT_const T
            have ef := evT_func T
            have d112 : evT T (.tmp 112) = .bool true := (by first | exact hd.1 | exact hd.2.1 | exact hd.2.2.1 | exact hd.2.2.2.1 | exact hd.2.2.2.2.1 | exact hd.2.2.2.2.2.1 | exact hd.2.2.2.2.2.2.1 | exact hd.2.2.2.2.2.2.2.1)
            clear hT hd hW
            refine ⟨.bool true, ?_, rfl⟩
            simp only [execOp]
            go_simp
          case s38 =>
            refine stepS_on 37 113 true rfl rfl rfl (fun T w1 s hT hd hs hW => ⟨(by first | exact hd.1 | exact hd.2.1 | exact hd.2.2.1 | exact hd.2.2.2.1 | exact hd.2.2.2.2.1 | exact hd.2.2.2.2.2.1 | exact hd.2.2.2.2.2.2.1 | exact hd.2.2.2.2.2.2.2.1), ?_⟩)
            have ec := evT_const T
            have ef := evT_func T
            have d9 : evT T (.tmp 9) = .pointer (some ⟨b, 0, none⟩) := hT 9 (by kernel_rfl)
            clear hT hd hW
            refine ⟨.pointer (some ⟨b, 0, none⟩), ?_, rfl⟩
            simp only [execOp]
            go_simp
          case s39 =>
            refine stepS_on 37 113 true rfl rfl rfl (fun T w1 s hT hd hs hW => ⟨(by first | exact hd.1 | exact hd.2.1 | exact hd.2.2.1 | exact hd.2.2.2.1 | exact hd.2.2.2.2.1 | exact hd.2.2.2.2.2.1 | exact hd.2.2.2.2.2.2.1 | exact hd.2.2.2.2.2.2.2.1), ?_⟩)
            have ec := evT_const T
            have ef := evT_func T
            have d12 : evT T (.tmp 12) = .int .i64 (j : Int) := hT 12 (by kernel_rfl)
            clear hT hd hW
            refine ⟨.int .i64 (j : Int), ?_, rfl⟩
            simp only [execOp]
            go_simp
          case s40 =>
            refine stepC_on 2 37 113 true rfl rfl rfl (fun T w1 hT hd hW => ⟨(by first | exact hd.1 | exact hd.2.1 | exact hd.2.2.1 | exact hd.2.2.2.1 | exact hd.2.2.2.2.1 | exact hd.2.2.2.2.2.1 | exact hd.2.2.2.2.2.2.1 | exact hd.2.2.2.2.2.2.2.1), ?_⟩)
            have ec := evT_const T
            have ef := evT_func T
            have d114 : evT T (.tmp 114) = .pointer (some ⟨b, 0, none⟩) := (by first | exact hd.1 | exact hd.2.1 | exact hd.2.2.1 | exact hd.2.2.2.1 | exact hd.2.2.2.2.1 | exact hd.2.2.2.2.2.1 | exact hd.2.2.2.2.2.2.1 | exact hd.2.2.2.2.2.2.2.1)
            have d115 : evT T (.tmp 115) = .int .i64 (j : Int) := (by first | exact hd.1 | exact hd.2.1 | exact hd.2.2.1 | exact hd.2.2.2.1 | exact hd.2.2.2.2.1 | exact hd.2.2.2.2.2.1 | exact hd.2.2.2.2.2.2.1 | exact hd.2.2.2.2.2.2.2.1)
            refine ⟨21, #[.pointer (some ⟨b, 0, none⟩), .int .i64 (j : Int)], ?_, ?_⟩
            · clear hT hd hW
              simp only [execOp, resolve]
              go_simp
            · have hX : Lw w3 w1 b bl bh L (agS L i j (lateL x (k + 1)) (bK i j y (k + 1))) := hW
              refine (hX.held hjw).mono ?_
              rintro e w2 ⟨rfl, h2, -⟩
              exact ⟨_, rfl, by rw [HT4.out]; rfl, h2⟩
          case s41 =>
            refine stepS_on 33 109 false rfl rfl rfl (fun T w1 s hT hd hs hW => ⟨(by first | exact hd.1 | exact hd.2.1 | exact hd.2.2.1 | exact hd.2.2.2.1 | exact hd.2.2.2.2.1 | exact hd.2.2.2.2.2.1 | exact hd.2.2.2.2.2.2.1 | exact hd.2.2.2.2.2.2.2.1), ?_⟩)
            have ec := evT_const T
            have ef := evT_func T
            have d113 : evT T (.tmp 113) = .bool true := (by first | exact hd.1 | exact hd.2.1 | exact hd.2.2.1 | exact hd.2.2.2.1 | exact hd.2.2.2.2.1 | exact hd.2.2.2.2.2.1 | exact hd.2.2.2.2.2.2.1 | exact hd.2.2.2.2.2.2.2.1)
            have d116 : evT T (.tmp 116) = .bool false := (by first | exact hd.1 | exact hd.2.1 | exact hd.2.2.1 | exact hd.2.2.2.1 | exact hd.2.2.2.2.1 | exact hd.2.2.2.2.2.1 | exact hd.2.2.2.2.2.2.1 | exact hd.2.2.2.2.2.2.2.1)
            clear hT hd hW
            refine ⟨.bool false, ?_, rfl⟩
            simp only [execOp]
            go_simp
          case s42 =>
            refine stepS_plain rfl rfl (fun T w1 s hT hd hs hW => ?_)
            have ec := evT_const T
            have ef := evT_func T
            have d109 : evT T (.tmp 109) = .bool false := (by first | exact hd.1 | exact hd.2.1 | exact hd.2.2.1 | exact hd.2.2.2.1 | exact hd.2.2.2.2.1 | exact hd.2.2.2.2.2.1 | exact hd.2.2.2.2.2.2.1 | exact hd.2.2.2.2.2.2.2.1)
            have d117 : evT T (.tmp 117) = .bool false := (by first | exact hd.1 | exact hd.2.1 | exact hd.2.2.1 | exact hd.2.2.2.1 | exact hd.2.2.2.2.1 | exact hd.2.2.2.2.2.1 | exact hd.2.2.2.2.2.2.1 | exact hd.2.2.2.2.2.2.2.1)
            clear hT hd hW
            refine ⟨.bool false, ?_, rfl⟩
            simp only [execOp]
            go_simp
          case fin =>
            intro T w1 hT hW hd
            have e118 : T 118 = .bool false := hd.2.2.2.2.2.2.2.2.2.2.2.2.2.2.2.2.2.2.2.2.2.2.2.2.2.2.2.2.2.2.2.2.2.2.2.2.2.2.2.2.2.2.1
            simp only [putL, Act.put, Option.getD_some, List.setIfInBounds_toArray, List.set_cons_zero, List.set_cons_succ]
            have HWl : RowKit.Hid (Lw w3 w1 b bl bh L (agS L i j (lateL x (k + 1)) (bK i j y (k + 1)))) := Lib.hid hW
            clear hT hd hW
            rw [e118]
            clear e118
            go_wp2
            go_roundw
            case rel => exact ⟨k + 1, hkt, by go_num, HWl⟩
            case measure => simp [intOf]; omega
      · have k1 : ¬ ((k : Int) < 25) := by omega
        have hw : wantL (lateL x k) = waitL x 0 := by
          rw [lateL_want]
          have : (lateL x k).left = 0 := by unfold lateL; simp only; split <;> omega
          rw [this]
        obtain ⟨k', hk'⟩ : ∃ k', k = k' + 1 := ⟨k - 1, by omega⟩
        obtain ⟨s1, s2⟩ := agS_release (j := j) HX.out (lateL x k) (bK i j y k)
        have s2' : releaseE (agS L i j (lateL x k) (bK i j y k)) (i : Int) = 0 := s2
        rw [hw] at s1
        obtain ⟨t0, t1⟩ := agS_end HX.out HY.out k'
        rw [← hk'] at t0 t1
        have u0 : tickT (agS L i j (waitL x 0) (bK i j y k)) = agS L i j (goneOf x) (bK i j y (k + 1)) := by rw [agS_tick HX.out HY.out, bK_pass, (waitL_end x).1]; rfl
        have u1 : heldP (agS L i j (goneOf x) (bK i j y (k + 1))) (i : Int) = false := (agS_held HX.out _ _).1
        have u2 := (agS_end HX.out HY.out k).2
        have HS1 := Lib.hid s1
        have HS2 := Lib.hid s2'
        have HT0 := Lib.hid t0
        have HU0 := Lib.hid u0
        have HU1 := Lib.hid u1
        have HU2 := Lib.hid u2
        clear s1 s2 s2' t0 t1 u0 u1 u2 hw hk'
        go_wp2_with fail
        refine (HR.out.release hiw).mono ?_
        rintro e w5 ⟨rfl, hl5, -⟩
        rw [HS2.out]
        rw [HS1.out] at hl5
        have H5 := Lib.hid hl5
        clear hl5 HR HS1 HS2
        go_wp2_with fail
        refine (H5.out.tick1 HT0.out HU0.out).mono ?_
        rintro e w6 ⟨A6, c6, rfl, hc6, hi6, hl6⟩
        clear H5
        have hia : IntsAt (w6.alloc (.cells #[.int .i64 (i : Int)] 3)) w6.heap.size (some A6) [(i : Int)] := hi6.below ((Below.refl _ _).alloc (Nat.le_refl _) _) (Nat.le_refl _)
        have hib : IntsAt (w6.alloc (.cells #[.int .i64 (i : Int)] 3)) (w6.heap.size + 1) (some ⟨w6.heap.size, 0, none⟩) [(i : Int)] := ints_one w6 (i : Int)
        have HIA := Lib.hid hia
        have HIB := Lib.hid hib
        have H6 := Lib.hid hl6
        clear hc6 hi6 hl6 hia hib
        go_wp2_with fail
        refine (same_any (some A6) (some ⟨w6.heap.size, 0, none⟩) c6 1 _ _ [(i : Int)] _ (by simp) HIA.out HIB.out).mono ?_
        rintro e w7 ⟨rfl, p, rfl⟩
        have hl7 := H6.out.calm (w' := (w6.alloc (.cells #[.int .i64 (i : Int)] 3)).drewN p) ((Moved.alloc w6 _).trans ⟨rfl, rfl, rfl, Nat.le_refl _, fun _ _ _ => rfl⟩)
        have H7 := Lib.hid hl7
        clear hl7 HIA HIB H6
        go_wp2_with fail
        refine (H7.out.held hiw).mono ?_
        rintro e w8 ⟨rfl, hl8, -⟩
        rw [HU1.out]
        have H8 := Lib.hid hl8
        clear hl8 H7
        go_wp2_with fail
        refine (H8.out.tick0 HU2.out rfl).mono ?_
        rintro e w9 ⟨A9, c9, rfl, hl9⟩
        have hb9 := hl9.bel
        clear hl9
        go_wp2
        go_ret
        exact ⟨rfl, HB3.out.trans (hb9.mono hz3)⟩

end Go.Proofs.Ytpieihjipdgplaa
