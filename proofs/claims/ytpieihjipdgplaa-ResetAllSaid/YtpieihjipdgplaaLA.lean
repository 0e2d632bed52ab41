/- The walk of catnaplaw8.ResetAll. -/
import Derived.Test.YtpieihjipdgplaaR9
namespace Go.Proofs.Ytpieihjipdgplaa
set_option linter.unusedSimpArgs false
set_option linter.unusedVariables false
open Go.RowKit Go.Maps

set_option maxRecDepth 1000000 in
set_option maxHeartbeats 8000000 in
theorem all_any (A : Option Addr) (c : Nat) (l : List Int) (w : World) (hl : l.length ≤ maxLen) (hwf : ∀ x, x ∈ l → wfI x) (h : IntsAt w w.heap.size A l) :
    Calls Try.prog 7 #[.slice A l.length c] w (TellsB true w) := by
  have HL := Lib.hid hl
  have HWF := Lib.hid hwf
  have HI := Lib.hid h
  clear hl hwf h
  go_enter Try.func7, Try.ntmps7
  go_wp2_with fail
  refine (shown_any _).mono ?_
  rintro e w1 ⟨rfl, hb1⟩
  have HB1 := Lib.hid hb1
  have hz1 := hb1.size
  clear hb1
  go_wp2_with fail
  refine (chip_any A c l w1 HL.out HWF.out ((HI.out.below HB1.out (Nat.le_refl _)).more hz1)).mono ?_
  rintro e w2 ⟨v1, v2, v3, v4, rfl, hcv, hb2⟩
  obtain ⟨A1, c1, A2, c2, A3, c3, A4, c4, rfl, rfl, rfl, rfl, hrs⟩ := chip_parts hcv
  have hz2 := hb2.size
  have hba := ((Below.refl w2.heap.size w2).alloc (Nat.le_refl _) (.cells #[.slice A1 0 c1, .slice A2 0 c2, .slice A3 (lsL l).length c3, .slice A4 0 c4] 30))
  have hbx := BoxAt.new w2 [.slice A1 0 c1, .slice A2 0 c2, .slice A3 (lsL l).length c3, .slice A4 0 c4] 30
  have hcv3 := Steady.later hcv hba
  have HCV3 := Lib.hid hcv3
  have hrs3 := (hrs.below hba (Nat.le_refl _)).more hba.size
  have HRS := Lib.hid hrs3
  have HBX := Lib.hid hbx
  have HB3 := Lib.hid (HB1.out.trans ((hb2.mono hz1).trans (hba.mono (by omega))))
  clear hb2 hcv hrs HI HWF HL hba hbx hcv3 hrs3
  go_wp2_with fail
  refine (new_ok (chipL l) _ _ (chipL_ok l) HCV3.out (chipL_right l) (chipL_rsts l).1).mono ?_
  rintro e w4 ⟨b, bl, bh, rfl, hgb, hgl, hgh, hli, hb4⟩
  rw [rLs_ls] at hli
  have hok := lsL_ok l
  have hn6 := lsL_len l
  obtain ⟨w3, hw3⟩ : ∃ w3, w3 = (w2.alloc (.cells #[.slice A1 0 c1, .slice A2 0 c2, .slice A3 (lsL l).length c3, .slice A4 0 c4] 30)) := ⟨_, rfl⟩
  obtain ⟨g, hg⟩ : ∃ g, g = w2.heap.size := ⟨_, rfl⟩
  have hbx := HBX.out
  have hrs := HRS.out
  have hb3 := HB3.out
  rw [← hw3] at hgb hgl hgh hb4 hbx hrs hb3
  rw [← hg] at hbx ⊢
  have hlw := Lw.start hli hgb hgl hgh hb4
  clear HBX HRS HB3 HCV3 hli hb4 hw3 hz1 hz2 HB1 hg w2 w1 hgb hgl hgh
  obtain ⟨L, hL⟩ : ∃ L, L = lsL l := ⟨_, rfl⟩
  rw [← hL] at hbx hrs hlw hok hn6 ⊢
  clear hL
  obtain ⟨n, hn⟩ : ∃ n, n = L.length := ⟨_, rfl⟩
  rw [← hn] at hbx hn6 ⊢
  have HNN := Lib.hid hn
  have HOK := Lib.hid hok
  have HLW := Lib.hid hlw
  have HBX := Lib.hid hbx
  have HRS := Lib.hid hrs
  have HB3 := Lib.hid hb3
  have hx4 := HLW.out.box hbx
  obtain ⟨x2, -⟩ := hx4 2 _ rfl
  have hz4 := HLW.out.size
  have hzb : g < w3.heap.size := hbx.lt
  have hz3 := hb3.size
  have hlt4 := HLW.out.lines.lt
  clear hbx hrs hb3 hx4 hn hok hlw
  go_wp2
  go_loopw [7] (fun i wr => ∃ k : Nat, k ≤ n ∧ i = .int .i64 k ∧ RowKit.Hid (Lw w3 wr b bl bh L (asL L k))) (fun i _ => n - (intOf i).toNat)
  case atStart => exact ⟨0, Nat.zero_le _, rfl, Lib.hid (by rw [asL_zero]; exact HLW.out)⟩
  case round =>
    obtain ⟨k, hk, rfl, HR⟩ := hrel
    clear x2 HLW hz4 hlt4 w4
    obtain ⟨z2, -⟩ := HR.out.box HBX.out 2 _ rfl
    by_cases hlt : k < n
    · have hkw : wfI (k : Int) := by unfold wfI; omega
      have hx := List.getElem?_eq_getElem (l := L) (i := k) (by rw [← HNN.out]; exact hlt)
      generalize L[k] = x at hx
      obtain ⟨sE, sR, sT, sL⟩ := asL_step hx
      have HX := Lib.hid hx
      have HSE := Lib.hid sE
      have HSR := Lib.hid sR
      have HST := Lib.hid sT
      have HSL := Lib.hid sL
      have i0 : (0 : Int) ≤ (k : Int) := by omega
      have i1 : (k : Int) < (n : Int) := by omega
      have ex : (x != x) = false := by simp
      clear hx sE sR sT sL
      go_wp2
      go_region_with (first
        | (refine (HR.out.drew.assert hkw).mono ?_
           rintro e w5 ⟨rfl, hl5, -⟩
           rw [HSE.out]
           have H5 := Lib.hid hl5
           clear hl5)
        | (refine (H5.out.release hkw).mono ?_
           rintro e w6 ⟨rfl, hl6, -⟩
           rw [HSR.out]
           rw [HST.out] at hl6
           obtain ⟨y2, -⟩ := hl6.box HBX.out 2 _ rfl
           obtain ⟨ad, hA, hc⟩ := hl6.rst HRS.out HX.out
           subst hA
           have H6 := Lib.hid hl6
           clear hl6)
        | (refine (H6.out.left hkw).mono ?_
           rintro e w7 ⟨rfl, rfl⟩
           rw [HSL.out]))
      all_goals
        go_wp2
        go_roundw
        case rel => exact ⟨k + 1, hlt, by go_num, H6⟩
        case measure => simp [intOf]; omega
    · have hke : k = n := by omega
      have hall : asL L k = stK L 0 := by rw [hke, HNN.out]; exact asL_all HOK.out
      have HR2 : RowKit.Hid (Lw w3 wr b bl bh L (stK L 0)) := Lib.hid (by rw [← hall]; exact HR.out)
      have i1 : ¬ ((k : Int) < (n : Int)) := by omega
      clear hall HR
      go_wp2
      go_loopw [8] (fun i wr => ∃ k : Nat, k ≤ 22 ∧ i = .int .i64 k ∧ RowKit.Hid (Lw w3 wr b bl bh L (stK L k))) (fun i _ => 22 - (intOf i).toNat)
      case atStart => exact ⟨0, Nat.zero_le _, rfl, HR2⟩
      case round =>
        clear HR2 z2 hke i1 hk
        obtain ⟨k, hk, rfl, HR⟩ := hrel
        by_cases hlt : k < 22
        · have i0 : (k : Int) < 22 := by omega
          obtain ⟨B, hB⟩ : ∃ B, B = wr.heap.size := ⟨_, rfl⟩
          have hBl := HR.out.lines.lt
          have hzr := HR.out.size
          rw [← hB] at hBl hzr
          go_wp2
          go_loopw [9, 10] (fun v i wq => ∃ (j : Nat) (A : Option Addr) (m d : Nat), j ≤ n ∧ i = .int .i64 j ∧ v = .slice A m d ∧ RowKit.Hid (Lw w3 wq b bl bh L (stK L k) ∧ OwnI wq B (.slice A m d) (goesP (stK L k) j) ∧ B ≤ wq.heap.size)) (fun _ i _ => n - (intOf i).toNat)
          case atStart => exact ⟨0, none, 0, 0, Nat.zero_le _, rfl, rfl, Lib.hid ⟨HR.out, OwnI.nil _ _, by omega⟩⟩
          case round =>
            clear HR hB
            obtain ⟨j, Aj, m, d, hj, rfl, rfl, HJ⟩ := hrel
            obtain ⟨z2, -⟩ := HJ.out.1.box HBX.out 2 _ rfl
            by_cases hjt : j < n
            · have hx := List.getElem?_eq_getElem (l := L) (i := j) (by rw [← HNN.out]; exact hjt)
              generalize L[j] = x at hx
              obtain ⟨ad, hA, hc⟩ := HJ.out.1.rst HRS.out hx
              subst hA
              have hgo := stK_go (k := k) hx
              have j0 : (0 : Int) ≤ (j : Int) := by omega
              have j1 : (j : Int) < (n : Int) := by omega
              have hml : (goesP (stK L k) j).length = m := (OwnI.ints HJ.out.2.1).1.symm
              have hmk := goesP_len (stK L k) j
              rw [hml] at hmk
              by_cases hxe : x = (k : Int)
              · rw [if_pos hxe] at hgo
                subst hxe
                have hown : (wr.alloc (.cells #[.int .i64 (j : Int)] 3)).ownsRow B 3 1 (.slice Aj m d) m (iv (goesP (stK L k) j)) := by
                  have := HJ.out.2.1.moved (H := []) (Moved.alloc wr (.cells #[.int .i64 (j : Int)] 3)) (fun b hb => by simp at hb)
                  unfold OwnI at this
                  rwa [hml] at this
                have HOWN := Lib.hid hown
                have HML := Lib.hid hml
                have HGO := Lib.hid hgo
                have hB2 := HJ.out.2.2
                obtain ⟨i3, hi, hz0, hzs, hzb⟩ := info_parts Try.info3
                clear hgo hml hown hx
                go_wp2_with (at_builtin; refine wpList_append_own_at _ rfl _ _ 22 rfl B 3 i3 (.int .i64 0) 1 8 Try.underlying22 hi hz0 hzs hzb rfl (by decide) _ _ _ rfl HOWN.out ⟨wr.heap.size, 0, none⟩ 1 1 [.int .i64 (j : Int)] rfl rfl (cells_new wr wr.heap.size rfl _ 3) (by intro u hu; simp at hu; rcases hu with rfl; rfl) (by unfold maxLen; omega) (by omega) (by simp; omega) ?_; intro v6 w6 hown6 hg6 _ hob6; obtain ⟨A6, c6, rfl⟩ := own_shape' hown6; have hmg : Moved (Value.slice Aj m d).ownBlock.toList wr w6 := (Moved.alloc wr _).trans (Moved.of_grown (hot := (Value.slice Aj m d).ownBlock.toList) (row := (Value.slice Aj m d).ownBlock) hg6 (by simp)); have HOWN6 := Lib.hid hown6; have HMG := Lib.hid hmg; clear hown6 hg6 hob6 hmg)
                have hbl : ∀ b, b ∈ (Value.slice Aj m d).ownBlock.toList → B ≤ b := fun b hb => (HOWN.out.lt b (by simpa using hb)).1
                have HBL := Lib.hid hbl
                have hz6 := HMG.out.size
                clear hbl
                go_roundw
                case rel =>
                  refine ⟨j + 1, A6, m + 1, c6, hjt, by go_num, rfl, Lib.hid ⟨HJ.out.1.calm' HMG.out ?_ ?_ ?_ ?_, ?_, by omega⟩⟩
                  · intro hb; have := HBL.out _ hb; omega
                  · intro hb; have := HBL.out _ hb; omega
                  · intro hb; have := HBL.out _ hb; omega
                  · intro q hq; have := HBL.out _ hq; omega
                  · unfold OwnI
                    rw [HGO.out, iv_snoc, List.length_append, HML.out]
                    exact HOWN6.out
                case measure => simp [intOf]; omega
              · rw [if_neg hxe, List.append_nil] at hgo
                have hxe' : (x == (k : Int)) = false := by simpa using hxe
                have HGO := Lib.hid hgo
                have hB2 := HJ.out.2.2
                clear hgo hxe hml hmk hx
                go_wp2
                go_roundw
                case rel => exact ⟨j + 1, Aj, m, d, hjt, by go_num, rfl, Lib.hid ⟨HJ.out.1, by rw [HGO.out]; exact HJ.out.2.1, by omega⟩⟩
                case measure => simp [intOf]; omega
            · have hjn : j = n := by omega
              have j1 : ¬ ((j : Int) < (n : Int)) := by omega
              have hlen : (stK L k).length = n := by rw [HNN.out]; simp [stK]
              have htk : goesP (stK L k) j = tickE (stK L k) := by rw [hjn, ← hlen]; rfl
              have hown := HJ.out.2.1
              rw [htk] at hown
              have hml : m = (tickE (stK L k)).length := hown.ints.1
              have hle : (tickE (stK L k)).length ≤ 6 := by
                have := goesP_len (stK L k) (stK L k).length
                unfold tickE
                omega
              have HOWN := Lib.hid hown
              have HLE := Lib.hid hle
              obtain ⟨T, hT⟩ : ∃ T, T = tickE (stK L k) := ⟨_, rfl⟩
              have HT := Lib.hid hT
              clear hown htk hlen hT hle
              subst hml
              go_wp2_with fail
              refine (HJ.out.1.tick).mono ?_
              rintro e w7 ⟨A7, c7, rfl, ho7, hl7, hm7⟩
              have hi7 := ho7.ints.2
              have how7 := HOWN.out.moved hm7 (by simp; omega)
              have hiw7 := how7.ints.2
              rw [stK_tick] at hl7
              have HI7 := Lib.hid hi7
              have HIW7 := Lib.hid hiw7
              have H7 := Lib.hid hl7
              clear ho7 hl7 hm7 hi7 how7 hiw7
              go_wp2_with fail
              refine (same_any A7 Aj c7 d _ _ (tickE (stK L k)) _ (by have := HLE.out; omega) HI7.out HIW7.out).mono ?_
              rintro e w8 ⟨rfl, q, rfl⟩
              have H8 := Lib.hid (H7.out.drewN q)
              clear HI7 HIW7 H7 HOWN
              go_wp2
              go_roundw
              case rel => exact ⟨k + 1, hlt, by go_num, H8⟩
              case measure => simp [intOf]; omega
        · have hke : k = 22 := by omega
          have HR9 : RowKit.Hid (Lw w3 wr b bl bh L (stK L 22)) := Lib.hid (by rw [← hke]; exact HR.out)
          have i0 : ¬ ((k : Int) < 22) := by omega
          clear HR hke
          go_wp2
          go_loopw [11] (fun i wq => ∃ j : Nat, j ≤ n ∧ i = .int .i64 j ∧ RowKit.Hid (Lw w3 wq b bl bh L (stK L 22))) (fun i _ => n - (intOf i).toNat)
          case atStart => exact ⟨0, Nat.zero_le _, rfl, HR9⟩
          case round =>
            clear HR9
            obtain ⟨j, hj, rfl, HJ⟩ := hrel
            obtain ⟨z2, -⟩ := HJ.out.box HBX.out 2 _ rfl
            by_cases hjt : j < n
            · have hx := List.getElem?_eq_getElem (l := L) (i := j) (by rw [← HNN.out]; exact hjt)
              have hxm := HOK.out _ (List.mem_of_getElem? hx)
              generalize L[j] = x at hx hxm
              obtain ⟨sH, sE, sT⟩ := stK_end hx hxm.2
              have hjw : wfI (j : Int) := by unfold wfI; omega
              have HSH := Lib.hid sH
              have HSE := Lib.hid sE
              have HST := Lib.hid sT
              have j1 : (j : Int) < (n : Int) := by omega
              clear hx hxm sH sE sT
              go_wp2_with fail
              refine (HJ.out.held hjw).mono ?_
              rintro e w5 ⟨rfl, hl5, -⟩
              rw [HSH.out]
              have H5 := Lib.hid hl5
              clear hl5
              go_wp2_with fail
              refine (H5.out.release hjw).mono ?_
              rintro e w6 ⟨rfl, hl6, -⟩
              rw [HSE.out]
              rw [HST.out] at hl6
              have H6 := Lib.hid hl6
              clear hl6
              go_wp2
              go_roundw
              case rel => exact ⟨j + 1, hjt, by go_num, H6⟩
              case measure => simp [intOf]; omega
            · have j1 : ¬ ((j : Int) < (n : Int)) := by omega
              go_wp2
              go_ret
              exact ⟨rfl, HB3.out.trans (HJ.out.bel.mono hz3)⟩

end Go.Proofs.Ytpieihjipdgplaa
