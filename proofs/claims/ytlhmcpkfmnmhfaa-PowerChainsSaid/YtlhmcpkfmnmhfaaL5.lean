/- The walk of catnaplaw7.PowerChains. -/
import Derived.Test.YtlhmcpkfmnmhfaaZE
namespace Go.Proofs.Ytlhmcpkfmnmhfaa
set_option linter.unusedSimpArgs false
set_option linter.unusedVariables false
open Go.RowKit Go.Maps

/-- a grid in the statement, and the order, which reads as it did -/
structure ChW (w3 wr : World) (gt g c : Nat) (doms : List Dom) (ad : Addr) (o : List Nat) (sts : List Pst) : Prop where
  lw : Lw w3 wr gt g c doms sts
  row : IntsC [g] wr (some ad) (ci o)
theorem ChW.at_ {w3 wr : World} {gt g c : Nat} {doms : List Dom} {ad : Addr} {o : List Nat} {sts : List Pst} (h : ChW w3 wr gt g c doms ad o sts) {k : Nat} (hk : k < o.length) : wr.cell? (ad.add k) = some (.int .i64 ((o[k] : Nat) : Int)) := by
  have hl : (ci o).length = o.length := by unfold ci; simp
  obtain ⟨ad', e, _, _, hc⟩ := h.row (by omega)
  injection e with e
  subst e
  exact hc k _ (by unfold ci; rw [List.getElem?_map, List.getElem?_eq_getElem hk]; rfl)
theorem ChW.at0 {w3 wr : World} {gt g c go : Nat} {doms : List Dom} {o : List Nat} {sts : List Pst} (h : ChW w3 wr gt g c doms ⟨go, 0, none⟩ o sts) {k : Nat} (hk : k < o.length) : wr.cell? ⟨go, k, none⟩ = some (.int .i64 ((o[k] : Nat) : Int)) := by
  have := h.at_ hk
  rwa [Addr.add_lit, Nat.zero_add] at this
theorem ChW.up {w3 wr : World} {gt g c : Nat} {doms : List Dom} {ad : Addr} {o : List Nat} {sts : List Pst} (h : ChW w3 wr gt g c doms ad o sts) (i : Int) : Calls Try.prog 13 #[.pointer (some ⟨gt, 0, none⟩), .int .i64 i] wr (fun e w' => e = .returned (.int .i64 (upE sts i)) ∧ ChW w3 w' gt g c doms ad o (upT sts i)) :=
  (h.lw.up i).mono fun e w' ⟨he, hl, hm⟩ => ⟨he, hl, h.row.move hm⟩
theorem ChW.down {w3 wr : World} {gt g c : Nat} {doms : List Dom} {ad : Addr} {o : List Nat} {sts : List Pst} (h : ChW w3 wr gt g c doms ad o sts) (i : Int) (kp : Bool) : Calls Try.prog 14 #[.pointer (some ⟨gt, 0, none⟩), .int .i64 i, .bool kp] wr (fun e w' => e = .returned (.int .i64 (downE sts i kp)) ∧ ChW w3 w' gt g c doms ad o (downT sts i kp)) :=
  (h.lw.down i kp).mono fun e w' ⟨he, hl, hm⟩ => ⟨he, hl, h.row.move hm⟩
theorem ChW.tick {w3 wr : World} {gt g c : Nat} {doms : List Dom} {ad : Addr} {o : List Nat} {sts : List Pst} (h : ChW w3 wr gt g c doms ad o sts) : Calls Try.prog 15 #[.pointer (some ⟨gt, 0, none⟩)] wr (fun e w' => (∃ A d, e = .returned (.slice A (tickE sts).length d)) ∧ ChW w3 w' gt g c doms ad o (tickT sts)) :=
  h.lw.tick.mono fun e w' ⟨v, he, hv, hl, hm⟩ => by
    obtain ⟨A, d, rfl⟩ := own_shape' hv
    exact ⟨⟨A, d, he⟩, hl, h.row.move hm⟩
theorem ChW.drewN {w3 wr : World} {gt g c : Nat} {doms : List Dom} {ad : Addr} {o : List Nat} {sts : List Pst} (h : ChW w3 wr gt g c doms ad o sts) (n : Nat) : ChW w3 (wr.drewN n) gt g c doms ad o sts :=
  ⟨h.lw.drewN n, h.row.move ⟨rfl, rfl, rfl, Nat.le_refl _, fun _ _ _ => rfl⟩⟩
theorem ordered {s : Chip} (hd : DomsOk s.doms) {E : Int} {o : List Nat} (h : OrderSays s.doms.length (gOf (domsG s)) E o) : E = 0 ∧ o.length = s.doms.length ∧ Topo (gOf (domsG s)) s.doms.length o := by
  obtain ⟨h1, h2, h3⟩ := (doms_ranked hd).says (by have := hd.len; omega) h
  exact ⟨h1, h3, h2.topo h3⟩

set_option maxRecDepth 1000000 in
set_option maxHeartbeats 8000000 in
theorem chains_any (A : Option Addr) (c : Nat) (l : List Int) (kp : Bool) (w : World) (hl : l.length ≤ maxLen) (hwf : ∀ x, x ∈ l → wfI x) (h : IntsAt w w.heap.size A l) :
    Calls Try.prog 7 #[.slice A l.length c, .bool kp] w (TellsB true w) := by
  have HL := Lib.hid hl
  have HWF := Lib.hid hwf
  have HI := Lib.hid h
  clear hl hwf h
  go_enter Try.func7, Try.ntmps7
  go_wp2_with fail
  refine (shown_any _).mono ?_
  rintro e w1 ⟨rfl, hb1⟩
  have HB1 := Lib.hid hb1
  have hz1 := hb1.size
  clear hb1
  go_wp2_with fail
  refine (chip_any A c l w1 HL.out HWF.out ((HI.out.below HB1.out (Nat.le_refl _)).more hz1)).mono ?_
  rintro e w2 ⟨v1, v2, v3, v4, rfl, hown, hb2⟩
  obtain ⟨A1, c1, A2, c2, A3, c3, A4, c4, hvs, l1, l2, l3, l4, h1, h2, h3, h4⟩ := hown.chip
  have hpl := plain_of l
  generalize chipP l = s at *
  obtain ⟨rfl, rfl, rfl, rfl⟩ : v1 = .slice A1 s.clks.length c1 ∧ v2 = .slice A2 s.doms.length c2 ∧ v3 = .slice A3 s.rsts.length c3 ∧ v4 = .slice A4 s.devs.length c4 := by simpa using hvs
  have hcv : ChipV w2 w2.heap.size s [.slice A1 s.clks.length c1, .slice A2 s.doms.length c2, .slice A3 s.rsts.length c3, .slice A4 s.devs.length c4] := ⟨A1, c1, A2, c2, A3, c3, A4, c4, rfl, l1, l2, l3, l4, h1, h2, h3, h4⟩
  have HPL := Lib.hid hpl
  have hz2 := hb2.size
  have hba := ((Below.refl w2.heap.size w2).alloc (Nat.le_refl _) (.cells #[.slice A1 s.clks.length c1, .slice A2 s.doms.length c2, .slice A3 s.rsts.length c3, .slice A4 s.devs.length c4] 30))
  have hbx := BoxAt.new w2 [.slice A1 s.clks.length c1, .slice A2 s.doms.length c2, .slice A3 s.rsts.length c3, .slice A4 s.devs.length c4] 30
  have hcv3 := Steady.later hcv hba
  have HCV3 := Lib.hid hcv3
  have hdv := (h2.below hba (Nat.le_refl _)).more hba.size
  have HDV := Lib.hid hdv
  have HBX := Lib.hid hbx
  have HB3 := Lib.hid (HB1.out.trans ((hb2.mono hz1).trans (hba.mono (by omega))))
  obtain ⟨nD, hnD⟩ : ∃ n, n = s.doms.length := ⟨_, rfl⟩
  have hnb := hpl.nd
  rw [← hnD] at hnb
  have HND := Lib.hid hnD
  clear hb2 hcv hpl hown hvs h1 h2 h3 h4 HI HWF HL l1 l2 l3 l4 hba hbx hcv3 hdv hnD
  go_wp2_with fail
  refine (new_ok s _ _ HPL.out.ok HCV3.out HPL.out.right (by rw [← HND.out]; omega)).mono ?_
  rintro e w4 ⟨gt, g, cg, rfl, hgt, hg, hgr, hb4⟩
  obtain ⟨w3, hw3⟩ : ∃ w3, w3 = (w2.alloc (.cells #[.slice A1 s.clks.length c1, .slice A2 s.doms.length c2, .slice A3 s.rsts.length c3, .slice A4 s.devs.length c4] 30)) := ⟨_, rfl⟩
  obtain ⟨b, hbb⟩ : ∃ b, b = w2.heap.size := ⟨_, rfl⟩
  have hbx := HBX.out
  have hdv := HDV.out
  have hb3 := HB3.out
  have hcw := HCV3.out
  rw [← hw3] at hgt hg hb4 hbx hdv hb3 hcw
  rw [← hbb] at hbx ⊢
  rw [← HND.out] at hbx hcw
  have HLW := Lib.hid (Lw.start HPL.out hgr hgt hg hb4)
  clear HBX HDV HB3 HCV3 hgr hb4 hw3 hz1 hz2 HB1 hbb w2 w1
  have HBX := Lib.hid hbx
  have HDV := Lib.hid hdv
  have HB3 := Lib.hid hb3
  have HCW := Lib.hid hcw
  have hx4 := HLW.out.box hbx
  obtain ⟨x0, -⟩ := hx4 0 _ rfl
  obtain ⟨x1, -⟩ := hx4 1 _ rfl
  obtain ⟨x2, -⟩ := hx4 2 _ rfl
  obtain ⟨x3, -⟩ := hx4 3 _ rfl
  have hz4 := HLW.out.size
  have hzb : b < w3.heap.size := hbx.lt
  have hz3 := hb3.size
  clear hbx hdv hb3 hx4 hcw
  have hcv4 := Steady.later HCW.out HLW.out.bel
  have HCV4 := Lib.hid hcv4
  clear hcv4
  go_wp2_with fail
  refine (graph_dom s _ w4 HPL.out.ok HCV4.out).mono ?_
  rintro e w5 ⟨Ag, dg, rfl, hrw, hb5⟩
  have hgl : (domsG s).length = nD := by rw [HND.out]; simp [domsG]
  rw [hgl] at hrw ⊢
  have H5 := Lib.hid (HLW.out.calm (Moved.of_below hb5))
  have HRW := Lib.hid hrw
  clear hrw hb5 hgl HCV4
  go_wp2_with fail
  refine (order_any Ag nD dg (gOf (domsG s)) w5 (by omega) (fun i hi => ?_) (fun i hi => ?_) HRW.out).mono ?_
  · have hd := List.getElem?_eq_getElem (l := s.doms) (i := i) (by rw [← HND.out]; exact hi)
    rw [gOf_doms hd]
    unfold aboveR
    split <;> simp
  · have hd := List.getElem?_eq_getElem (l := s.doms) (i := i) (by rw [← HND.out]; exact hi)
    rw [gOf_doms hd]
    have ha := HPL.out.domA i _ hd
    have hil : i < 4 := by omega
    unfold aboveR
    intro x hx
    split at hx
    · simp at hx
    · simp at hx
      subst hx
      unfold wfI
      omega
  rintro e w6 ⟨E, v, o, hs, rfl, hown, hb6⟩
  rw [HND.out] at hs
  obtain ⟨rfl, hol, htp⟩ := ordered (plain_doms HPL.out) hs
  obtain ⟨Ao, co, rfl⟩ := own_shape' hown
  have hgw := H5.out.grid.lt
  rw [hol, ← HND.out] at hown ⊢
  obtain ⟨go, co', e1, hgo, hgo2⟩ := World.ownsRow.form hown (by omega)
  injection e1 with e1 _ e3
  subst e1 e3
  have hrow : IntsC [g] w6 (some ⟨go, 0, none⟩) (ci o) := ints_own (m := nD) (c := co) hown [g] (fun b hb => by
    have hb' : go = b := by injection hb
    simp
    omega)
  have hol' : o.length = nD := hol.trans HND.out.symm
  have HOL := Lib.hid hol'
  have HTP := Lib.hid htp
  have HC6 := Lib.hid (ChW.mk (H5.out.calm (Moved.of_below hb6)) hrow)
  have HST := Lib.hid (StS.start s.doms)
  clear hs hol htp hown hrow hb6 hgw hol' hgo hgo2 H5 HRW HLW HCW x0 x1 x2 x3 hz4
  go_wp2
  go_loopw [11] (fun i wr => ∃ (k : Nat) (sts : List Pst), k ≤ nD ∧ i = .int .i64 k ∧ RowKit.Hid (ChW w3 wr gt g cg s.doms ⟨go, 0, none⟩ o sts) ∧ RowKit.Hid (StS sts (o.take k))) (fun i _ => nD - (intOf i).toNat)
  case atStart => exact ⟨0, _, Nat.zero_le _, rfl, HC6, Lib.hid (by rw [List.take_zero]; exact HST.out)⟩
  case round =>
    obtain ⟨k, sts, hk, rfl, HR, HS⟩ := hrel
    clear HC6 HST
    by_cases hlt : k < nD
    · have hko : k < o.length := by rw [HOL.out]; exact hlt
      have hxl : o[k] < sts.length := by rw [HR.out.lw.inv.len]; exact HTP.out.2.1 _ (List.getElem_mem hko)
      have hx := List.getElem?_eq_getElem hxl
      obtain ⟨hE, hRi⟩ := HS.out.up HR.out.lw.inv HR.out.lw.ok HTP.out hko hx
      have hdl := HR.out.lw.ok.delay _ _ (HR.out.lw.inv.at_ hx)
      have hok : o.take (k + 1) = o.take k ++ [o[k]] := take_snoc' hko
      have c0 := HR.out.at0 hko
      obtain ⟨q, hq⟩ : ∃ q, (sts[o[k]]).dom.delay.toNat + 2 = q := ⟨_, rfl⟩
      rw [hq] at hRi
      have hq22 : q ≤ 22 := by omega
      have hdn := HR.out.lw.inv.len
      obtain ⟨d, hdk⟩ : ∃ d, o[k] = d := ⟨_, rfl⟩
      rw [hdk] at hE hRi hok c0
      have HDK := Lib.hid hdk
      have HE := Lib.hid hE
      have HRI := Lib.hid hRi
      have HOK := Lib.hid hok
      have hk0 : (0 : Int) ≤ (k : Int) := by omega
      have hk1 : (k : Int) < (nD : Int) := by omega
      have hdD : d < nD := by rw [HND.out, ← hdn, ← hdk]; exact hxl
      clear hx hE hRi hq hdl hok hdn hxl hdk
      go_wp2_with fail
      refine (HR.out.up _).mono ?_
      rintro e w7 ⟨rfl, h7⟩
      rw [HE.out]
      have H7 := Lib.hid h7
      clear h7
      go_wp2
      go_loopw [12] (fun i wr => ∃ (n r : Nat) (sts : List Pst), n + r = q ∧ i = .int .i64 n ∧ RowKit.Hid (ChW w3 wr gt g cg s.doms ⟨go, 0, none⟩ o sts) ∧ RowKit.Hid (RiseS sts (o.take k) d r)) (fun i _ => q + 1 - (intOf i).toNat)
      case atStart => exact ⟨0, q, _, by omega, rfl, H7, HRI⟩
      case round =>
        obtain ⟨n, r, sts', hnr, rfl, HQ, HRQ⟩ := hrel
        clear H7 HRI
        have c1 := HQ.out.at0 hko
        rw [HDK.out] at c1
        have hds : d < sts'.length := by rw [HQ.out.lw.inv.len, ← HND.out]; exact hdD
        have hphr := HRQ.out.phase (List.getElem?_eq_getElem hds)
        have hn30 : (n : Int) < 30 := by omega
        cases r with
        | zero =>
          have hp : phaseP sts' (d : Int) = 49 := hphr.2 rfl
          have HP := Lib.hid hp
          clear hp hphr hds
          go_wp2_with fail
          refine (HQ.out.lw.phase _).mono ?_
          rintro e w' ⟨rfl, rfl⟩
          rw [HP.out]
          go_wp2
          go_roundw
          case rel => exact ⟨k + 1, sts', hlt, by go_num, HQ, Lib.hid (by rw [HOK.out]; exact HRQ.out.done)⟩
          case measure => simp [intOf]; omega
        | succ r =>
          have hp : phaseP sts' (d : Int) ≠ 49 := fun e => by have := hphr.1 e; omega
          obtain ⟨p, hpp⟩ : ∃ p, phaseP sts' (d : Int) = p := ⟨_, rfl⟩
          rw [hpp] at hp
          have hp' : (p != 49) = true := by simpa using hp
          have HP := Lib.hid hpp
          clear hp hphr hds hpp
          go_wp2_with fail
          refine (HQ.out.lw.phase _).mono ?_
          rintro e w' ⟨rfl, rfl⟩
          rw [HP.out]
          go_wp2_with fail
          refine (HQ.out.tick).mono ?_
          rintro e w8 ⟨⟨A8, d8, rfl⟩, h8⟩
          have H8 := Lib.hid h8
          clear h8
          go_wp2_with fail
          go_roundw
          case rel => exact ⟨n + 1, r, _, by omega, by go_num, H8, Lib.hid HRQ.out.tick⟩
          case measure => simp [intOf]; omega
    · obtain rfl : k = nD := by omega
      have hkl : ¬ ((k : Int) < (k : Int)) := by omega
      have hall : o.take k = o := by rw [← HOL.out, List.take_length]
      have hst := HS.out
      rw [hall] at hst
      have HS2 := Lib.hid hst
      have HALL := Lib.hid hall
      clear hst hall hlt hk
      go_wp2
      go_loopw [13] (fun i wr => ∃ j : Nat, j ≤ k ∧ i = .int .i64 j ∧ RowKit.Hid (∃ sts, ChW w3 wr gt g cg s.doms ⟨go, 0, none⟩ o sts ∧ StS sts o)) (fun i _ => k - (intOf i).toNat)
      case atStart => exact ⟨0, Nat.zero_le _, rfl, Lib.hid ⟨_, HR.out, HS2.out⟩⟩
      case round =>
        obtain ⟨j, hj, rfl, HB⟩ := hrel
        obtain ⟨sts', hb1, hb2⟩ := HB.out
        clear HR HS HS2
        by_cases hjt : j < k
        · have hjo : j < o.length := by rw [HOL.out]; exact hjt
          have c2 := hb1.at0 hjo
          obtain ⟨z1, -⟩ := hb1.lw.box HBX.out 1 _ rfl
          have hxl : o[j] < sts'.length := by rw [hb1.lw.inv.len]; exact HTP.out.2.1 _ (List.getElem_mem hjo)
          have hx := List.getElem?_eq_getElem hxl
          generalize sts'[o[j]] = x at hx
          have hdm := hb1.lw.inv.at_ hx
          obtain ⟨a2, e2, r0, -, -⟩ := doms_cells HDV.out hb1.lw.bel hdm
          have hab := hb1.lw.above _ x hx
          have hp : phaseP sts' ((o[j] : Nat) : Int) = 49 := (phaseP_at hx).trans ((hb2 _ x hx).1 (List.getElem_mem hjo))
          have hbusy : ∀ q : Nat, x.dom.above = (q : Int) → q < sts'.length → downE sts' (q : Int) false = 7 := fun q h1 h2 => hb2.busy (fun m hm => HTP.out.2.2.1 m (by rw [← hb1.lw.inv.len]; exact hm)) hx h1 h2
          have hdD : o[j] < k := by rw [HND.out]; exact HTP.out.2.1 _ (List.getElem_mem hjo)
          obtain ⟨d, hdk⟩ : ∃ d, o[j] = d := ⟨_, rfl⟩
          obtain ⟨a, ha⟩ : ∃ a, x.dom.above = a := ⟨_, rfl⟩
          rw [hdk] at c2 r0 hp hdD
          rw [ha] at r0 hab
          have HBU := Lib.hid hbusy
          have HP := Lib.hid hp
          have HAE := Lib.hid ha
          have H1 := Lib.hid hb1
          have H2 := Lib.hid hb2
          have hj0 : (0 : Int) ≤ (j : Int) := by omega
          have hj1 : (j : Int) < (k : Int) := by omega
          have hd0 : (0 : Int) ≤ (d : Int) := by omega
          have hd1 : (d : Int) < (k : Int) := by omega
          subst e2
          clear hbusy hp ha hb1 hb2 hdk hx hxl hdm hjo HB
          go_wp2
          go_quiet (fail)
          have HN := Lib.hid (H1.out.drewN nq)
          clear H1
          go_wp2_with fail
          refine (HN.out.lw.phase _).mono ?_
          rintro e w7 ⟨rfl, hw7⟩
          rw [HP.out]
          have h7 := HN.out
          rw [hw7] at h7
          have H7 := Lib.hid h7
          clear h7 hw7 HN c2 z1 r0
          rcases hab with hab | ⟨hab0, hab1⟩
          · have han : a < 0 := by omega
            clear hab
            go_wp2_with fail
            go_roundw
            case rel => exact ⟨j + 1, by omega, by go_num, Lib.hid ⟨_, H7.out, H2.out⟩⟩
            case measure => simp [intOf]; omega
          · obtain ⟨q, rfl⟩ : ∃ q : Nat, a = (q : Int) := ⟨a.toNat, by omega⟩
            have hE := HBU.out q HAE.out (by omega)
            have hT : downT sts' (q : Int) false = sts' := by unfold downT; rw [hE, if_neg (by omega)]
            have HE := Lib.hid hE
            have HT := Lib.hid hT
            clear hE hT
            go_wp2_with fail
            refine (H7.out.down (q : Int) false).mono ?_
            rintro e w8 ⟨rfl, h8⟩
            rw [HE.out]
            rw [HT.out] at h8
            have H8 := Lib.hid h8
            clear h8
            go_wp2_with fail
            go_roundw
            case rel => exact ⟨j + 1, by omega, by go_num, Lib.hid ⟨_, H8.out, H2.out⟩⟩
            case measure => simp [intOf]; omega
        · obtain rfl : j = k := by omega
          have hjl : ¬ ((j : Int) < (j : Int)) := by omega
          have hb2' : StS sts' (o.take j) := by rw [HALL.out]; exact hb2
          have H0 := Lib.hid (show ∃ sts, ChW w3 wr gt g cg s.doms ⟨go, 0, none⟩ o sts ∧ StS sts (o.take j) from ⟨_, hb1, hb2'⟩)
          clear hjt hj hb1 hb2 hb2' HB
          go_wp2
          go_loopw [15] (fun i wr => ∃ (m : Nat) (z : Int), m ≤ j ∧ RowKit.Hid (z = (m : Int) - 1) ∧ i = .int .i64 z ∧ RowKit.Hid (∃ sts, ChW w3 wr gt g cg s.doms ⟨go, 0, none⟩ o sts ∧ StS sts (o.take m))) (fun i _ => (intOf i + 1).toNat)
          case atStart => exact ⟨j, (j : Int) - 1, Nat.le_refl _, Lib.hid rfl, rfl, H0⟩
          case round =>
            obtain ⟨m, z, hmj, HZ, rfl, HB⟩ := hrel
            obtain ⟨sts'', hb1, hb2⟩ := HB.out
            clear H0
            by_cases hz : 0 ≤ z
            · obtain ⟨i, hi⟩ : ∃ i, m = i + 1 := ⟨m - 1, by have := HZ.out; omega⟩
              subst hi
              obtain rfl : z = (i : Int) := by have := HZ.out; omega
              have hio : i < o.length := by rw [HOL.out]; omega
              have c2 := hb1.at0 hio
              obtain ⟨z1, -⟩ := hb1.lw.box HBX.out 1 _ rfl
              have hxl : o[i] < sts''.length := by rw [hb1.lw.inv.len]; exact HTP.out.2.1 _ (List.getElem_mem hio)
              have hx := List.getElem?_eq_getElem hxl
              generalize sts''[o[i]] = x at hx
              have hdm := hb1.lw.inv.at_ hx
              obtain ⟨a2, e2, -, -, r2⟩ := doms_cells HDV.out hb1.lw.bel hdm
              have hdn : ∀ kp' : Bool, (kp' = true → x.dom.ret = true) → downE sts'' ((o[i] : Nat) : Int) kp' = 0 ∧ StS (tickT (downT sts'' ((o[i] : Nat) : Int) kp')) (o.take i) ∧ phaseP (tickT (downT sts'' ((o[i] : Nat) : Int) kp')) ((o[i] : Nat) : Int) = if kp' = true then 116 else 48 := fun kp' hk => hb2.down hb1.lw.inv hb1.lw.ok HTP.out hio hx kp' hk
              have hdD : o[i] < j := by rw [HND.out]; exact HTP.out.2.1 _ (List.getElem_mem hio)
              obtain ⟨d, hdk⟩ : ∃ d, o[i] = d := ⟨_, rfl⟩
              obtain ⟨rt, hrt⟩ : ∃ rt, x.dom.ret = rt := ⟨_, rfl⟩
              rw [hdk] at c2 r2 hdD hdm
              rw [hdk, hrt] at hdn
              rw [hrt] at r2
              have HDN := Lib.hid hdn
              have HRT := Lib.hid hrt
              have HDM := Lib.hid hdm
              have H1 := Lib.hid hb1
              have i0 : (0 : Int) ≤ (i : Int) := by omega
              have i1 : (i : Int) < (j : Int) := by omega
              have d0 : (0 : Int) ≤ (d : Int) := by omega
              have d1 : (d : Int) < (j : Int) := by omega
              subst e2
              clear hdn hrt hdm hb1 hb2 hdk hx hxl hio HB hz HZ
              cases kp with
              | false =>
                obtain ⟨q1, q2, q3⟩ := HDN.out false (fun h => by cases h)
                have HQ1 := Lib.hid q1
                have HQ2 := Lib.hid q2
                have HQ3 := Lib.hid (q3.trans (if_neg (by simp)))
                clear q1 q2 q3 HDN r2 z1
                go_wp2_with fail
                refine (H1.out.down (d : Int) false).mono ?_
                rintro e w7 ⟨rfl, h7⟩
                rw [HQ1.out]
                have H7 := Lib.hid h7
                clear h7 c2 H1
                go_wp2_with fail
                refine (H7.out.tick).mono ?_
                rintro e w8 ⟨⟨A8, d8, rfl⟩, h8⟩
                have H8 := Lib.hid h8
                clear h8 H7
                go_wp2_with fail
                refine (H8.out.lw.phase _).mono ?_
                rintro e w' ⟨rfl, rfl⟩
                rw [HQ3.out]
                go_wp2_with fail
                go_roundw
                case rel => exact ⟨i, (i : Int) - 1, by omega, Lib.hid rfl, rfl, Lib.hid ⟨_, H8.out, HQ2.out⟩⟩
                case measure => simp [intOf] <;> omega
              | true =>
                cases rt with
                | false =>
                  obtain ⟨q1, q2, q3⟩ := HDN.out false (fun h => h)
                  have HQ1 := Lib.hid q1
                  have HQ2 := Lib.hid q2
                  have HQ3 := Lib.hid (q3.trans (if_neg (by simp)))
                  clear q1 q2 q3 HDN
                  go_wp2_with fail
                  refine (H1.out.down (d : Int) false).mono ?_
                  rintro e w7 ⟨rfl, h7⟩
                  rw [HQ1.out]
                  have H7 := Lib.hid h7
                  clear h7 c2 H1 r2 z1
                  go_wp2_with fail
                  refine (H7.out.tick).mono ?_
                  rintro e w8 ⟨⟨A8, d8, rfl⟩, h8⟩
                  have H8 := Lib.hid h8
                  obtain ⟨z1, -⟩ := h8.lw.box HBX.out 1 _ rfl
                  obtain ⟨a3, e3, -, -, r2⟩ := doms_cells HDV.out h8.lw.bel HDM.out
                  injection e3 with e3
                  subst e3
                  rw [HRT.out] at r2
                  clear h8 H7
                  go_wp2_with fail
                  refine (H8.out.lw.phase _).mono ?_
                  rintro e w' ⟨rfl, rfl⟩
                  rw [HQ3.out]
                  go_wp2_with fail
                  go_roundw
                  case rel => exact ⟨i, (i : Int) - 1, by omega, Lib.hid rfl, rfl, Lib.hid ⟨_, H8.out, HQ2.out⟩⟩
                  case measure => simp [intOf] <;> omega
                | true =>
                  obtain ⟨q1, q2, q3⟩ := HDN.out true (fun h => h)
                  have HQ1 := Lib.hid q1
                  have HQ2 := Lib.hid q2
                  have HQ3 := Lib.hid (q3.trans (if_pos rfl))
                  clear q1 q2 q3 HDN
                  go_wp2_with fail
                  refine (H1.out.down (d : Int) true).mono ?_
                  rintro e w7 ⟨rfl, h7⟩
                  rw [HQ1.out]
                  have H7 := Lib.hid h7
                  clear h7 c2 H1 r2 z1
                  go_wp2_with fail
                  refine (H7.out.tick).mono ?_
                  rintro e w8 ⟨⟨A8, d8, rfl⟩, h8⟩
                  have H8 := Lib.hid h8
                  obtain ⟨z1, -⟩ := h8.lw.box HBX.out 1 _ rfl
                  obtain ⟨a3, e3, -, -, r2⟩ := doms_cells HDV.out h8.lw.bel HDM.out
                  injection e3 with e3
                  subst e3
                  rw [HRT.out] at r2
                  clear h8 H7
                  go_wp2_with fail
                  refine (H8.out.lw.phase _).mono ?_
                  rintro e w' ⟨rfl, rfl⟩
                  rw [HQ3.out]
                  go_wp2_with fail
                  go_roundw
                  case rel => exact ⟨i, (i : Int) - 1, by omega, Lib.hid rfl, rfl, Lib.hid ⟨_, H8.out, HQ2.out⟩⟩
                  case measure => simp [intOf] <;> omega
            · have hm0 : m = 0 := by have := HZ.out; omega
              subst hm0
              rw [List.take_zero] at hb2
              have hz' : z < 0 := by omega
              have ht := hb2.none
              have HT := Lib.hid ht
              have H1 := Lib.hid hb1
              clear hb1 hb2 ht HB hz HZ
              go_wp2_with fail
              refine (H1.out.tick).mono ?_
              rintro e w8 ⟨⟨A8, d8, rfl⟩, h8⟩
              rw [HT.out]
              have H8 := Lib.hid h8
              clear h8 H1
              go_wp2
              go_ret
              exact ⟨rfl, HB3.out.trans (H8.out.lw.bel.mono hz3)⟩

theorem chains_arg (A : Option Addr) (c : Nat) (l : List Int) (kp : Bool) (w : World) (hm : l.length ≤ 9223372036854775807) (h : IntsAt w w.heap.size A l) (hwf : ∀ x, x ∈ l → wfI x) :
    Calls Try.prog 7 #[.slice A l.length c, .bool kp] w fun e w' => e = .returned (.bool true) ∧ Below w.heap.size w w' :=
  chains_any A c l kp w (by unfold maxLen; omega) hwf h

end Go.Proofs.Ytlhmcpkfmnmhfaa
