/- The walk of catnaplaw7.PowerAlone. -/
import Derived.Test.YtlhmcpkfmnmhfaaZB
namespace Go.Proofs.Ytlhmcpkfmnmhfaa
set_option linter.unusedSimpArgs false
set_option linter.unusedVariables false
open Go.RowKit Go.Maps

set_option maxRecDepth 1000000 in
set_option maxHeartbeats 8000000 in
theorem alone_any (A : Option Addr) (c : Nat) (l : List Int) (xa xb xw : Int) (w : World) (hl : l.length ≤ maxLen) (hwf : ∀ x, x ∈ l → wfI x) (h : IntsAt w w.heap.size A l) (ha : wfI xa) (hb : wfI xb) (hw : wfI xw) :
    Calls Try.prog 6 #[.slice A l.length c, .int .i64 xa, .int .i64 xb, .int .i64 xw] w (TellsB true w) := by
  have HL := Lib.hid hl
  have HWF := Lib.hid hwf
  have HI := Lib.hid h
  clear hl hwf h
  go_enter Try.func6, Try.ntmps6
  go_wp2_with fail
  refine (shown_any _).mono ?_
  rintro e w1 ⟨rfl, hb1⟩
  have HB1 := Lib.hid hb1
  have hz1 := hb1.size
  clear hb1
  go_wp2_with fail
  refine (chip_any A c l w1 HL.out HWF.out ((HI.out.below HB1.out (Nat.le_refl _)).more hz1)).mono ?_
  rintro e w2 ⟨v1, v2, v3, v4, rfl, hown, hb2⟩
  obtain ⟨A1, c1, A2, c2, A3, c3, A4, c4, hvs, l1, l2, l3, l4, h1, h2, h3, h4⟩ := hown.chip
  have hpl := plain_of l
  generalize chipP l = s at *
  obtain ⟨rfl, rfl, rfl, rfl⟩ : v1 = .slice A1 s.clks.length c1 ∧ v2 = .slice A2 s.doms.length c2 ∧ v3 = .slice A3 s.rsts.length c3 ∧ v4 = .slice A4 s.devs.length c4 := by simpa using hvs
  have hcv : ChipV w2 w2.heap.size s [.slice A1 s.clks.length c1, .slice A2 s.doms.length c2, .slice A3 s.rsts.length c3, .slice A4 s.devs.length c4] := ⟨A1, c1, A2, c2, A3, c3, A4, c4, rfl, l1, l2, l3, l4, h1, h2, h3, h4⟩
  have HPL := Lib.hid hpl
  have hz2 := hb2.size
  have hba := ((Below.refl w2.heap.size w2).alloc (Nat.le_refl _) (.cells #[.slice A1 s.clks.length c1, .slice A2 s.doms.length c2, .slice A3 s.rsts.length c3, .slice A4 s.devs.length c4] 30))
  have hbx := BoxAt.new w2 [.slice A1 s.clks.length c1, .slice A2 s.doms.length c2, .slice A3 s.rsts.length c3, .slice A4 s.devs.length c4] 30
  have hcv3 := Steady.later hcv hba
  have HCV3 := Lib.hid hcv3
  have hdv := (h2.below hba (Nat.le_refl _)).more hba.size
  have HDV := Lib.hid hdv
  have HBX := Lib.hid hbx
  have HB3 := Lib.hid (HB1.out.trans ((hb2.mono hz1).trans (hba.mono (by omega))))
  obtain ⟨nD, hnD⟩ : ∃ n, n = s.doms.length := ⟨_, rfl⟩
  have hnb := hpl.nd
  rw [← hnD] at hnb
  have HND := Lib.hid hnD
  clear hb2 hcv hpl hown hvs h1 h2 h3 h4 HI HWF HL l1 l2 l3 l4 hba hbx hcv3 hdv hnD
  go_wp2_with fail
  refine (new_ok s _ _ HPL.out.ok HCV3.out HPL.out.right (by rw [← HND.out]; omega)).mono ?_
  rintro e w4 ⟨gt, g, cg, rfl, hgt, hg, hgr, hb4⟩
  obtain ⟨w3, hw3⟩ : ∃ w3, w3 = (w2.alloc (.cells #[.slice A1 s.clks.length c1, .slice A2 s.doms.length c2, .slice A3 s.rsts.length c3, .slice A4 s.devs.length c4] 30)) := ⟨_, rfl⟩
  obtain ⟨b, hbb⟩ : ∃ b, b = w2.heap.size := ⟨_, rfl⟩
  have hbx := HBX.out
  have hdv := HDV.out
  have hb3 := HB3.out
  rw [← hw3] at hgt hg hb4 hbx hdv hb3
  rw [← hbb] at hbx ⊢
  rw [← HND.out] at hbx
  have HLW := Lib.hid (Lw.start HPL.out hgr hgt hg hb4)
  clear HBX HDV HB3 HCV3 hgr hb4 hw3 hz1 hz2 HB1 hbb w2 w1
  have HBX := Lib.hid hbx
  have HDV := Lib.hid hdv
  have HB3 := Lib.hid hb3
  have hx4 := HLW.out.box hbx
  obtain ⟨x1, -⟩ := hx4 1 _ rfl
  have hz4 := HLW.out.size
  have hzb : b < w3.heap.size := hbx.lt
  have hz3 := hb3.size
  clear hbx hdv hb3 hx4
  go_wp2_with fail
  refine (pick_any xa nD w4 ha (by omega) (by omega)).mono ?_
  rintro e w' ⟨rfl, rfl⟩
  have hp0 := pickP_lo (c := xa) (n := (nD : Int)) (by omega)
  have hp1 := pickP_hi (c := xa) (n := (nD : Int)) (by omega)
  generalize pickP xa (nD : Int) = x at *
  go_wp2_with fail
  refine (pick_any xb nD w4 hb (by omega) (by omega)).mono ?_
  rintro e w' ⟨rfl, rfl⟩
  have hq0 := pickP_lo (c := xb) (n := (nD : Int)) (by omega)
  have hq1 := pickP_hi (c := xb) (n := (nD : Int)) (by omega)
  generalize pickP xb (nD : Int) = y at *
  clear ha hb
  go_wp2
  go_loopw [15] (fun i wr => ∃ (k : Nat) (sts : List Pst), k ≤ 3 * nD ∧ i = .int .i64 k ∧ RowKit.Hid (Lw w3 wr gt g cg s.doms sts)) (fun i _ => 3 * nD - (intOf i).toNat)
  case atStart => exact ⟨0, _, Nat.zero_le _, rfl, HLW⟩
  case round =>
    obtain ⟨k, sts, hk, rfl, HR⟩ := hrel
    obtain ⟨z1, -⟩ := HR.out.box HBX.out 1 _ rfl
    by_cases hlt : k < 3 * nD
    · have hlt' : (k : Int) < 3 * (nD : Int) := by omega
      have hk0 : (0 : Int) ≤ (k : Int) := by omega
      have hk1 : (k : Int) ≤ 12 := by omega
      have hd0 : ((nD : Int) == 0) = false := by simp; omega
      have HLT := Lib.hid hlt
      clear hlt
      go_wp2_with fail
      refine (HR.out.up _).mono ?_
      rintro e w5 ⟨rfl, hlw5, -⟩
      have H5 := Lib.hid hlw5
      clear hlw5
      go_wp2_with fail
      refine (H5.out.tick).mono ?_
      rintro e w6 ⟨v6, rfl, -, hlw6, -⟩
      have H6 := Lib.hid hlw6
      clear hlw6
      go_wp2_with fail
      go_roundw
      case rel => exact ⟨k + 1, _, HLT.out, by go_num, H6⟩
      case measure => have := HLT.out; simp [intOf]; omega
    · have hmk := make_bytes nD (by omega)
      have hnl : ¬ ((k : Int) < 3 * (nD : Int)) := by omega
      have hby := BytesTo.new wr nD (fun i => phaseP sts (i : Int))
      have hH0 := HR.out.calm (Moved.alloc wr (.cells (madeCells #[.int .u8 0] nD) 5))
      have HH0 := Lib.hid hH0
      have HBY := Lib.hid hby
      have hgl : g < wr.heap.size := HR.out.grid.lt.2
      have hgl' : gt < wr.heap.size := HR.out.grid.lt.1
      have hzr := HR.out.size
      obtain ⟨gw, hgw⟩ : ∃ gw, wr.heap.size = gw := ⟨_, rfl⟩
      rw [hgw] at HBY hgl hgl' hzr
      have hsz1 : gw < (wr.alloc (.cells (madeCells #[.int .u8 0] nD) 5)).heap.size := by simp; omega
      have HSZ1 := Lib.hid hsz1
      clear hH0 hby hk hlt hsz1
      go_wp2
      clear hgw
      go_loopw [17] (fun i wr => ∃ k : Nat, k ≤ nD ∧ i = .int .i64 k ∧ RowKit.Hid (Lw w3 wr gt g cg s.doms sts) ∧ RowKit.Hid (BytesTo wr gw nD (fun i => phaseP sts (i : Int)) k) ∧ gw < wr.heap.size) (fun i _ => nD - (intOf i).toNat)
      case atStart => exact ⟨0, Nat.zero_le _, rfl, HH0, HBY, HSZ1.out⟩
      case round =>
        obtain ⟨j, hj, rfl, HQ, HBQ, hzq⟩ := hrel
        obtain ⟨q1, -⟩ := HQ.out.box HBX.out 1 _ rfl
        by_cases hjt : j < nD
        · have hj0 : (0 : Int) ≤ (j : Int) := by omega
          have hj1 : (j : Int) < (nD : Int) := by omega
          obtain ⟨f5, c5⟩ := HBQ.out j hjt
          have hset := HBQ.out.set hjt
          have HS := Lib.hid hset
          obtain ⟨p, hp⟩ : ∃ p, phaseP sts (j : Int) = p := ⟨_, rfl⟩
          have HP := Lib.hid hp
          clear hset hp
          go_wp2_with fail
          refine (HQ.out.phase _).mono ?_
          rintro e w' ⟨rfl, rfl⟩
          rw [HP.out]
          go_wp2_with fail
          go_roundw
          case rel => exact ⟨j + 1, by omega, by go_num, Lib.hid (HQ.out.calm' (H := [gw]) (Moved.setCell wr (p := ⟨gw, j, none⟩) (by simp) _) (by simp; omega) (by simp; omega) (by simp; omega)), Lib.hid (by rw [← HP.out]; exact HS.out), by rw [size_setCell]; exact hzq⟩
          case measure => simp [intOf]; omega
        · obtain rfl : j = nD := by omega
          have hv0 := pickP_lo (c := xw) (n := 3) (by omega)
          have hv1 := pickP_hi (c := xw) (n := 3) (by omega)
          have hjl : ¬ ((j : Int) < (j : Int)) := by omega
          go_wp2_with fail
          refine (pick_any xw 3 _ hw (by omega) (by omega)).mono ?_
          rintro e w' ⟨rfl, rfl⟩
          generalize pickP xw 3 = v at *
          obtain rfl | rfl | rfl : v = 0 ∨ v = 1 ∨ v = 2 := by omega
          all_goals
            go_wp2_with fail
            first
              | ((refine (HQ.out.upA x).mono ?_))
              | ((refine (HQ.out.downA x _).mono ?_))
            rintro e w7 ⟨E, sts', rfl, hlw7, hm7, hoth⟩
            have H7 := Lib.hid hlw7
            have hb7 := HBQ.out.move hm7 hzq (by simp; omega)
            have HB7 := Lib.hid hb7
            have HOTH := Lib.hid hoth
            clear hlw7 hm7 hb7 hoth
            go_wp2
            go_loopw [18] (fun i wr => ∃ k : Nat, k ≤ j ∧ i = .int .i64 k ∧ RowKit.Hid (Lw w3 wr gt g cg s.doms sts') ∧ RowKit.Hid (BytesTo wr gw j (fun i => phaseP sts (i : Int)) j)) (fun i _ => j - (intOf i).toNat)
            case atStart => exact ⟨0, Nat.zero_le _, rfl, H7, HB7⟩
            case round =>
              obtain ⟨k, hk, rfl, H8, HB8⟩ := hrel
              clear H7 HB7
              obtain ⟨z1, -⟩ := H8.out.box HBX.out 1 _ rfl
              have hb8 := HB8.out
              by_cases hkt : k < j
              · have hk0 : (0 : Int) ≤ (k : Int) := by omega
                have hk1 : (k : Int) < (j : Int) := by omega
                have c5 := (hb8 k hkt).2
                rw [if_pos hkt] at c5
                obtain ⟨p, hp⟩ : ∃ p, phaseP sts (k : Int) = p := ⟨_, rfl⟩
                simp only [hp] at c5
                by_cases hkx : (k : Int) = x
                · have hne : ((k : Int) != x) = false := by simpa using hkx
                  clear hkx hp hb8
                  go_wp2
                  go_quiet (fail)
                  go_wp2
                  go_roundw
                  case rel => exact ⟨k + 1, by omega, by go_num, Lib.hid (H8.out.drewN _), Lib.hid HB8.out⟩
                  case measure => simp [intOf]; omega
                · have hne : ((k : Int) != x) = true := by simpa using hkx
                  have HPP := Lib.hid ((HOTH.out _ hkx).trans hp)
                  clear hkx hp hb8
                  go_wp2
                  go_quiet ((go_at_call 16; exact H8.out.phaseQ _ _ HPP.out))
                  go_wp2
                  go_roundw
                  case rel => exact ⟨k + 1, by omega, by go_num, Lib.hid (H8.out.drewN _), Lib.hid HB8.out⟩
                  case measure => simp [intOf]; omega
              · have hkl : ¬ ((k : Int) < (j : Int)) := by omega
                obtain ⟨m, rfl⟩ : ∃ m : Nat, y = (m : Int) := ⟨y.toNat, by omega⟩
                have hmt : m < j := by omega
                have c5 := (hb8 m hmt).2
                rw [if_pos hmt] at c5
                obtain ⟨p, hp⟩ : ∃ p, phaseP sts (m : Int) = p := ⟨_, rfl⟩
                simp only [hp] at c5
                by_cases hkx : (m : Int) = x
                · have hne : ((m : Int) == x) = true := by simpa using hkx
                  clear hkx hp hb8
                  go_wp2
                  go_quiet (fail)
                  go_wp2
                  go_ret
                  exact ⟨rfl, below_drewN (HB3.out.trans (H8.out.bel.mono hz3)) _⟩
                · have hne : ((m : Int) == x) = false := by simpa using hkx
                  have HPP := Lib.hid ((HOTH.out _ hkx).trans hp)
                  clear hkx hp hb8
                  go_wp2
                  go_quiet ((go_at_call 16; exact H8.out.phaseQ _ _ HPP.out))
                  go_wp2
                  go_ret
                  exact ⟨rfl, below_drewN (HB3.out.trans (H8.out.bel.mono hz3)) _⟩

theorem alone_arg (A : Option Addr) (c : Nat) (l : List Int) (xa xb xw : Int) (w : World) (hm : l.length ≤ 9223372036854775807) (h : IntsAt w w.heap.size A l) (hwf : ∀ x, x ∈ l → wfI x) (ha : wfI xa) (hb : wfI xb) (hw : wfI xw) :
    Calls Try.prog 6 #[.slice A l.length c, .int .i64 xa, .int .i64 xb, .int .i64 xw] w fun e w' => e = .returned (.bool true) ∧ Below w.heap.size w w' :=
  alone_any A c l xa xb xw w (by unfold maxLen; omega) hwf h ha hb hw

end Go.Proofs.Ytlhmcpkfmnmhfaa
