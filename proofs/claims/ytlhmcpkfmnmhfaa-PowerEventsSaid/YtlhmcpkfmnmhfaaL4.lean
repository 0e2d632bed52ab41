/- The walk of catnaplaw7.PowerEvents. -/
import Derived.Test.YtlhmcpkfmnmhfaaZF
namespace Go.Proofs.Ytlhmcpkfmnmhfaa
set_option linter.unusedSimpArgs false
set_option linter.unusedVariables false
open Go.RowKit Go.Maps

/-- a grid in the statement, and the row of what was told last -/
structure EvW (w3 wr : World) (gt g c : Nat) (doms : List Dom) (gl n : Nat) (sts : List Pst) (f : Nat → Int) : Prop where
  lw : Lw w3 wr gt g c doms sts
  by_ : BytesTo wr gl n f n
  ok : LastAll sts f
  lo : gt < gl ∧ g < gl ∧ w3.heap.size ≤ gl
  hi : gl < wr.heap.size
section
variable {w3 wr : World} {gt g c gl n : Nat} {doms : List Dom} {sts : List Pst} {f : Nat → Int} (h : EvW w3 wr gt g c doms gl n sts f)
include h
theorem EvW.drewN (m : Nat) : EvW w3 (wr.drewN m) gt g c doms gl n sts f := ⟨h.lw.drewN m, h.by_, h.ok, h.lo, h.hi⟩
theorem EvW.up (i : Int) : Calls Try.prog 13 #[.pointer (some ⟨gt, 0, none⟩), .int .i64 i] wr (fun e w' => (∃ E, e = .returned (.int .i64 E)) ∧ EvW w3 w' gt g c doms gl n (upT sts i) f) :=
  (h.lw.up i).mono fun e w' ⟨he, hl, hm⟩ => ⟨⟨_, he⟩, hl, h.by_.move hm h.hi (by have := h.lo; simp; omega), h.ok.up i, h.lo, Nat.lt_of_lt_of_le h.hi hm.size⟩
theorem EvW.down (i : Int) (kp : Bool) : Calls Try.prog 14 #[.pointer (some ⟨gt, 0, none⟩), .int .i64 i, .bool kp] wr (fun e w' => (∃ E, e = .returned (.int .i64 E)) ∧ EvW w3 w' gt g c doms gl n (downT sts i kp) f) :=
  (h.lw.down i kp).mono fun e w' ⟨he, hl, hm⟩ => ⟨⟨_, he⟩, hl, h.by_.move hm h.hi (by have := h.lo; simp; omega), h.ok.down i kp, h.lo, Nat.lt_of_lt_of_le h.hi hm.size⟩
end
/-- .. while what a tick told is looked at -/
structure EvL (w3 wr : World) (gt g c : Nat) (doms : List Dom) (gl n : Nat) (sts : List Pst) (f : Nat → Int) (v : Value) (B t : Nat) : Prop where
  lw : Lw w3 wr gt g c doms (tickT sts)
  by_ : BytesTo wr gl n (applyE f ((tickE sts).take t)) n
  ev : EvRow wr B v (tickE sts)
  lo : gt < gl ∧ g < gl ∧ w3.heap.size ≤ gl
  hi : gl < B ∧ B ≤ wr.heap.size
theorem EvL.drewN {w3 wr : World} {gt g c gl n B t : Nat} {doms : List Dom} {sts : List Pst} {f : Nat → Int} {v : Value} (h : EvL w3 wr gt g c doms gl n sts f v B t) (m : Nat) : EvL w3 (wr.drewN m) gt g c doms gl n sts f v B t := ⟨h.lw.drewN m, h.by_, h.ev.move (fun _ _ => rfl), h.lo, h.hi⟩
theorem EvL.drew {w3 wr : World} {gt g c gl n B t : Nat} {doms : List Dom} {sts : List Pst} {f : Nat → Int} {v : Value} (h : EvL w3 wr gt g c doms gl n sts f v B t) : EvL w3 wr.drew gt g c doms gl n sts f v B t := ⟨h.lw.calm ⟨rfl, rfl, rfl, Nat.le_refl _, fun _ _ _ => rfl⟩, h.by_, h.ev.move (fun _ _ => rfl), h.lo, h.hi⟩
def EvTold (w3 wr : World) (gt g c : Nat) (doms : List Dom) (gl n : Nat) (sts : List Pst) (f : Nat → Int) (e : Ending) (w' : World) : Prop := ∃ A d, e = .returned (.slice A (tickE sts).length d) ∧ EvL w3 w' gt g c doms gl n sts f (.slice A (tickE sts).length d) wr.heap.size 0
theorem EvW.tick {w3 wr : World} {gt g c gl n : Nat} {doms : List Dom} {sts : List Pst} {f : Nat → Int} (h : EvW w3 wr gt g c doms gl n sts f) : Calls Try.prog 15 #[.pointer (some ⟨gt, 0, none⟩)] wr (EvTold w3 wr gt g c doms gl n sts f) :=
  h.lw.tick.mono fun e w' ⟨v, he, hv, hl, hm⟩ => by
    obtain ⟨A, d, rfl⟩ := own_shape' hv
    exact ⟨A, d, he, hl, h.by_.move hm h.hi (by have := h.lo; simp; omega), hv, h.lo, h.hi, hm.size⟩
theorem EvL.done {w3 wr : World} {gt g c gl n B : Nat} {doms : List Dom} {sts : List Pst} {f : Nat → Int} {v : Value} (h : EvL w3 wr gt g c doms gl n sts f v B (tickE sts).length) (ho : LastAll sts f) : EvW w3 wr gt g c doms gl n (tickT sts) (applyE f (tickE sts)) :=
  ⟨h.lw, by have := h.by_; rwa [List.take_length] at this, ho.tick, h.lo, by have := h.hi; omega⟩
/-- an event is put into the row -/
theorem EvL.put {w3 wr : World} {gt g c gl n B t k : Nat} {doms : List Dom} {sts : List Pst} {f : Nat → Int} {v : Value} {K : Int} (h : EvL w3 wr gt g c doms gl n sts f v B t) (he : (tickE sts)[t]? = some ⟨K, (k : Int)⟩) (hk : k < n) : EvL w3 (wr.setCell ⟨gl, k, none⟩ (.int .u8 K)) gt g c doms gl n sts f v B (t + 1) := by
  have hm : Moved [gl] wr (wr.setCell ⟨gl, k, none⟩ (.int .u8 K)) := Moved.setCell _ (by simp) _
  have hlo := h.lo
  have hhi := h.hi
  refine ⟨h.lw.calm' hm (by simp; omega) (by simp; omega) (by simp; omega), fun i hi => ?_, h.ev.moved hm (by simp; omega), h.lo, h.hi.1, by rw [size_setCell]; exact h.hi.2⟩
  obtain ⟨h1, h2⟩ := h.by_ i hi
  rw [if_pos hi] at h2 ⊢
  rw [List.take_add_one, he, Option.toList, applyE_snoc]
  refine ⟨by rw [World.frozen?_setCell]; exact h1, ?_⟩
  unfold putE
  by_cases e : i = k
  · subst e
    rw [if_pos rfl]
    exact World.cell?_setCell_same' _ _ _ (by rw [h2]; rfl)
  · rw [if_neg (by simp; omega), World.cell?_setCell_other wr _ _ _ (fun h => e (by cases h; rfl)), h2]
theorem EvL.at_ {w3 wr : World} {gt g c gl n B t m d : Nat} {A : Option Addr} {doms : List Dom} {sts : List Pst} {f : Nat → Int} {K D : Int} (h : EvL w3 wr gt g c doms gl n sts f (.slice A m d) B t) (hm : m = (tickE sts).length) {i : Nat} (he : (tickE sts)[i]? = some ⟨K, D⟩) :
    ∃ ge, A = some ⟨ge, 0, none⟩ ∧ B ≤ ge ∧ wr.cell? ⟨ge, i * 2, none⟩ = some (.int .u8 K) ∧ wr.cell? ⟨ge, i * 2 + 1, none⟩ = some (.int .i64 D) := by
  have hi := get_lt' he
  obtain ⟨ge, c', e, hg, _⟩ := World.ownsRow.form h.ev (by omega)
  injection e with e1 e2 e3
  subst e1
  obtain ⟨q0, q1⟩ := evV_get he
  have hv := h.ev
  unfold EvRow at hv
  rw [← hm] at hv
  exact ⟨ge, rfl, hg, by rw [hv.cellAt _ (by omega)]; exact q0, by rw [hv.cellAt _ (by omega)]; exact q1⟩

set_option maxRecDepth 1000000 in
set_option maxHeartbeats 8000000 in
theorem events_any (A : Option Addr) (c : Nat) (l : List Int) (B : Option Addr) (d : Nat) (xs : List Acts) (w : World) (hl : l.length ≤ maxLen) (hwf : ∀ x, x ∈ l → wfI x) (h : IntsAt w w.heap.size A l) (hxl : xs.length ≤ maxLen) (hxw : ∀ x, x ∈ xs → ActW x) (hx : StrsAt ActV 2 w w.heap.size B xs) :
    Calls Try.prog 5 #[.slice A l.length c, .slice B xs.length d] w (TellsB true w) := by
  have HXW := Lib.hid hxw
  have HXS := Lib.hid hx
  unfold maxLen at hxl
  obtain ⟨nX, hnX⟩ : ∃ n, n = xs.length := ⟨_, rfl⟩
  rw [← hnX] at hxl ⊢
  have HNX := Lib.hid hnX
  clear hxw hx hnX
  have HL := Lib.hid hl
  have HWF := Lib.hid hwf
  have HI := Lib.hid h
  clear hl hwf h
  go_enter Try.func5, Try.ntmps5
  go_wp2_with fail
  refine (shown_any _).mono ?_
  rintro e w1 ⟨rfl, hb1⟩
  have HB1 := Lib.hid hb1
  have hz1 := hb1.size
  clear hb1
  go_wp2_with fail
  refine (chip_any A c l w1 HL.out HWF.out ((HI.out.below HB1.out (Nat.le_refl _)).more hz1)).mono ?_
  rintro e w2 ⟨v1, v2, v3, v4, rfl, hown, hb2⟩
  obtain ⟨A1, c1, A2, c2, A3, c3, A4, c4, hvs, l1, l2, l3, l4, h1, h2, h3, h4⟩ := hown.chip
  have hpl := plain_of l
  generalize chipP l = s at *
  obtain ⟨rfl, rfl, rfl, rfl⟩ : v1 = .slice A1 s.clks.length c1 ∧ v2 = .slice A2 s.doms.length c2 ∧ v3 = .slice A3 s.rsts.length c3 ∧ v4 = .slice A4 s.devs.length c4 := by simpa using hvs
  have hcv : ChipV w2 w2.heap.size s [.slice A1 s.clks.length c1, .slice A2 s.doms.length c2, .slice A3 s.rsts.length c3, .slice A4 s.devs.length c4] := ⟨A1, c1, A2, c2, A3, c3, A4, c4, rfl, l1, l2, l3, l4, h1, h2, h3, h4⟩
  have HPL := Lib.hid hpl
  have hz2 := hb2.size
  have hba := ((Below.refl w2.heap.size w2).alloc (Nat.le_refl _) (.cells #[.slice A1 s.clks.length c1, .slice A2 s.doms.length c2, .slice A3 s.rsts.length c3, .slice A4 s.devs.length c4] 30))
  have hbx := BoxAt.new w2 [.slice A1 s.clks.length c1, .slice A2 s.doms.length c2, .slice A3 s.rsts.length c3, .slice A4 s.devs.length c4] 30
  have hcv3 := Steady.later hcv hba
  have HCV3 := Lib.hid hcv3
  have hdv := (h2.below hba (Nat.le_refl _)).more hba.size
  have HDV := Lib.hid hdv
  have HBX := Lib.hid hbx
  have HB3 := Lib.hid (HB1.out.trans ((hb2.mono hz1).trans (hba.mono (by omega))))
  obtain ⟨nD, hnD⟩ : ∃ n, n = s.doms.length := ⟨_, rfl⟩
  have hnb := hpl.nd
  rw [← hnD] at hnb
  have HND := Lib.hid hnD
  clear hb2 hcv hpl hown hvs h1 h2 h3 h4 HI HWF HL l1 l2 l3 l4 hba hbx hcv3 hdv hnD
  go_wp2_with fail
  refine (new_ok s _ _ HPL.out.ok HCV3.out HPL.out.right (by rw [← HND.out]; omega)).mono ?_
  rintro e w4 ⟨gt, g, cg, rfl, hgt, hg, hgr, hb4⟩
  obtain ⟨w3, hw3⟩ : ∃ w3, w3 = (w2.alloc (.cells #[.slice A1 s.clks.length c1, .slice A2 s.doms.length c2, .slice A3 s.rsts.length c3, .slice A4 s.devs.length c4] 30)) := ⟨_, rfl⟩
  obtain ⟨b, hbb⟩ : ∃ b, b = w2.heap.size := ⟨_, rfl⟩
  have hbx := HBX.out
  have hdv := HDV.out
  have hb3 := HB3.out
  rw [← hw3] at hgt hg hb4 hbx hdv hb3
  rw [← hbb] at hbx ⊢
  rw [← HND.out] at hbx
  have HLW := Lib.hid (Lw.start HPL.out hgr hgt hg hb4)
  clear HBX HDV HB3 HCV3 hgr hb4 hw3 hz1 hz2 HB1 hbb w2 w1
  have HBX := Lib.hid hbx
  have HDV := Lib.hid hdv
  have HB3 := Lib.hid hb3
  have hx4 := HLW.out.box hbx
  obtain ⟨x1, -⟩ := hx4 1 _ rfl
  have hz4 := HLW.out.size
  have hzb : b < w3.heap.size := hbx.lt
  have hz3 := hb3.size
  clear hbx hdv hb3 hx4
  by_cases hbig : 120 < nX
  · have hbig' : (120 : Int) < (nX : Int) := by omega
    go_wp2
    go_ret
    exact ⟨rfl, HB3.out.trans (HLW.out.bel.mono hz3)⟩
  · have hbig' : ¬ ((120 : Int) < (nX : Int)) := by omega
    clear hbig
    have hmk := make_bytes nD (by omega)
    have hlt4 := HLW.out.grid.lt
    obtain ⟨gl, hgl⟩ : ∃ gl, w4.heap.size = gl := ⟨_, rfl⟩
    have hev : EvW w3 (w4.alloc (.cells (madeCells #[.int .u8 0] nD) 5)) gt g cg s.doms gl nD (s.doms.map newP) (fun _ => 0) := by
      refine ⟨HLW.out.calm (Moved.alloc _ _), ?_, LastAll.start _ _ fun _ => rfl, by omega, by simp; omega⟩
      rw [← hgl]
      intro i hi
      have := BytesTo.new w4 nD (fun _ => 0) i hi
      rw [if_neg (by omega)] at this
      rw [if_pos hi]
      exact this
    have HEV := Lib.hid hev
    clear hev hlt4
    go_wp2
    clear hgl
    go_loopw [10] (fun i wr => ∃ (k : Nat) (sts : List Pst) (f : Nat → Int), k ≤ nX ∧ i = .int .i64 k ∧ RowKit.Hid (EvW w3 wr gt g cg s.doms gl nD sts f)) (fun i _ => nX - (intOf i).toNat)
    case atStart => exact ⟨0, _, _, Nat.zero_le _, rfl, HEV⟩
    case round =>
      obtain ⟨k, sts, f, hk, rfl, HR⟩ := hrel
      clear x1 HLW hz4 HEV w4
      by_cases hlt : k < nX
      · obtain ⟨z1, -⟩ := HR.out.lw.box HBX.out 1 _ rfl
        have hlx : k < xs.length := by rw [← HNX.out]; exact hlt
        obtain ⟨ad, rfl, a0, a1⟩ := acts_at HXS.out HB3.out HR.out.lw.bel hlx
        have hw := HXW.out xs[k] (List.getElem_mem hlx)
        obtain ⟨wop, wd⟩ := hw
        obtain ⟨op, hop⟩ : ∃ op, xs[k].op = op := ⟨_, rfl⟩
        obtain ⟨dd, hdd⟩ : ∃ dd, xs[k].d = dd := ⟨_, rfl⟩
        rw [hop] at a0 wop
        rw [hdd] at a1 wd
        clear hop hdd
        have hk0 : (0 : Int) ≤ (k : Int) := by omega
        have hk1 : (k : Int) < (nX : Int) := by omega
        have hp0 := pickP_lo (c := dd) (n := (nD : Int)) (by omega)
        have hp1 := pickP_hi (c := dd) (n := (nD : Int)) (by omega)
        obtain ⟨x, hx⟩ : ∃ x, pickP dd (nD : Int) = x := ⟨_, rfl⟩
        rw [hx] at hp0 hp1
        have HX := Lib.hid hx
        have hv0 := pickP_lo (c := op) (n := 7) (by omega)
        have hv1 := pickP_hi (c := op) (n := 7) (by omega)
        obtain ⟨v, hv⟩ : ∃ v, pickP op 7 = v := ⟨_, rfl⟩
        rw [hv] at hv0 hv1
        have HV := Lib.hid hv
        clear hlx hx hv
        go_wp2
        go_quiet ((go_at_call 12; exact pickQ dd nD _ _ wd (by omega) (by omega) HX.out))
        go_wp2_with fail
        refine (pick_any op 7 _ wop (by omega) (by omega)).mono ?_
        rintro e w' ⟨rfl, rfl⟩
        rw [HV.out]
        have HN := Lib.hid (HR.out.drewN nq)
        have hsl : sts.length = nD := by rw [HR.out.lw.inv.len, HND.out]
        have HSL := Lib.hid hsl
        clear a0 a1 z1 HX HV wop wd hsl
        go_upto_block 2 with (fail)
        go_cut [153] (fun _ wx => RowKit.Hid (∃ sts' f', EvW w3 wx gt g cg s.doms gl nD sts' f'))
        case first =>
          obtain rfl | rfl | rfl | rfl | hv4 : v = 0 ∨ v = 1 ∨ v = 2 ∨ v = 3 ∨ 4 ≤ v := by omega
          · go_wp2_with fail
            refine (HN.out.up x).mono ?_
            rintro e w5 ⟨⟨E, rfl⟩, ha⟩
            have HA := Lib.hid ha
            clear ha
            go_wp2_with fail
            go_meet
            exact Lib.hid ⟨_, _, HA.out⟩
          · go_wp2_with fail
            refine (HN.out.up x).mono ?_
            rintro e w5 ⟨⟨E, rfl⟩, ha⟩
            have HA := Lib.hid ha
            clear ha
            go_wp2_with fail
            go_meet
            exact Lib.hid ⟨_, _, HA.out⟩
          · go_wp2_with fail
            refine (HN.out.down x false).mono ?_
            rintro e w5 ⟨⟨E, rfl⟩, ha⟩
            have HA := Lib.hid ha
            clear ha
            go_wp2_with fail
            go_meet
            exact Lib.hid ⟨_, _, HA.out⟩
          · go_wp2_with fail
            refine (HN.out.down x true).mono ?_
            rintro e w5 ⟨⟨E, rfl⟩, ha⟩
            have HA := Lib.hid ha
            clear ha
            go_wp2_with fail
            go_meet
            exact Lib.hid ⟨_, _, HA.out⟩
          · have e0 : (v == 0) = false := by simp; omega
            have e1 : (v == 1) = false := by simp; omega
            have e2 : (v == 2) = false := by simp; omega
            have e3 : (v == 3) = false := by simp; omega
            go_wp2_with fail
            refine (HN.out.tick).mono ?_
            rintro e w5 ⟨Ae, de, rfl, ha⟩
            have HOK := Lib.hid HN.out.ok
            obtain ⟨m, hm⟩ : ∃ m, m = (tickE sts).length := ⟨_, rfl⟩
            rw [← hm] at ha ⊢
            have hm4 : m ≤ 4 := by
              have h1 := evsP_len sts sts.length
              have h2 := HSL.out
              rw [hm]
              show (evsP sts sts.length).length ≤ 4
              omega
            have HM := Lib.hid hm
            obtain ⟨BB, hBB⟩ : ∃ BB, (wr.drewN nq).heap.size = BB := ⟨_, rfl⟩
            rw [hBB] at ha
            clear hBB
            have HA := Lib.hid ha
            clear ha hm HN HR
            go_wp2
            go_loopw [13] (fun i wr => ∃ t : Nat, t ≤ m ∧ i = .int .i64 t ∧ RowKit.Hid (EvL w3 wr gt g cg s.doms gl nD sts f (.slice Ae m de) BB t)) (fun i _ => m - (intOf i).toNat)
            case atStart => exact ⟨0, Nat.zero_le _, rfl, HA⟩
            case round =>
              obtain ⟨t, ht, rfl, HT⟩ := hrel
              clear HA
              by_cases htt : t < m
              · obtain ⟨k0, x0, hk0, hx0, hkz, he0, htk⟩ := evsP_at (sts := sts) sts.length (Nat.le_refl _) t (by rw [show (evsP sts sts.length).length = m from HM.out.symm]; exact htt)
                have he0' : (tickE sts)[t]? = some ⟨passK x0, (k0 : Int)⟩ := he0
                obtain ⟨ge, rfl, hgeB, e0, e1⟩ := HT.out.at_ HM.out he0'
                have hk0D : k0 < nD := by rw [← HSL.out]; exact hk0
                have cl := (HT.out.by_ k0 hk0D).2
                have hap : applyE f ((tickE sts).take t) k0 = f k0 := by
                  rw [show (tickE sts).take t = evsP sts k0 from htk, applyE_evs f k0 (by omega) k0 x0 hx0, if_neg (by omega)]
                rw [if_pos hk0D, hap] at cl
                have hcs := (HOK.out k0 x0 hx0).ev hkz
                have HPUT := Lib.hid (fun W (h : EvL w3 W gt g cg s.doms gl nD sts f (.slice (some ⟨ge, 0, none⟩) m de) BB t) => h.put he0' hk0D)
                obtain ⟨K, hK⟩ : ∃ K, passK x0 = K := ⟨_, rfl⟩
                obtain ⟨la, hla⟩ : ∃ la, f k0 = la := ⟨_, rfl⟩
                have HPREV := Lib.hid (fun s (hs : t = s + 1) => (evsP_at (sts := sts) sts.length (Nat.le_refl _) s (by rw [show (evsP sts sts.length).length = m from HM.out.symm]; omega)))
                have HK := Lib.hid hK
                have HTK := Lib.hid htk
                have HGE := Lib.hid hgeB
                rw [hK] at hcs e0
                rw [hla] at hcs cl
                have HCS := Lib.hid hcs
                have t0 : (0 : Int) ≤ (t : Int) := by omega
                have t1 : (t : Int) < (m : Int) := by omega
                have k00 : (0 : Int) ≤ (k0 : Int) := by omega
                have k01 : (k0 : Int) < (nD : Int) := by omega
                have fz := (HT.out.by_ k0 hk0D).1
                clear hx0 hkz he0 he0' htk hap hcs hK hla hgeB
                go_upto_block 5 with (fail)
                refine blk5_any K la _ _ HCS.out ?_
                intros
                by_cases ht0 : t = 0
                · have hng : ¬ ((0 : Int) < (t : Int)) := by omega
                  have hngN : ¬ (0 < t) := by omega
                  have hdI : decide ((0 : Int) < (t : Int)) = false := decide_eq_false hng
                  have hdN : decide (0 < t) = false := decide_eq_false hngN
                  clear ht0
                  go_wp2
                  go_quiet (fail)
                  have HN := Lib.hid (HT.out.drewN nq)
                  go_wp2
                  go_region
                  all_goals
                    go_wp2
                    go_roundw
                    case rel => exact ⟨t + 1, htt, by go_num, Lib.hid (by rw [← HK.out]; exact HPUT.out _ (HT.out.drewN (nq + 1)))⟩
                    case measure => simp [intOf]; omega
                · obtain ⟨s', hs'⟩ : ∃ s', t = s' + 1 := ⟨t - 1, by omega⟩
                  obtain ⟨k1, x1, hk1, hx1, hkz1, he1, htk1⟩ := HPREV.out s' hs'
                  have he1' : (tickE sts)[s']? = some ⟨passK x1, (k1 : Int)⟩ := he1
                  obtain ⟨ge', e', -, -, p1⟩ := HT.out.at_ HM.out he1'
                  injection e' with e'
                  injection e' with e' _ _
                  subst e'
                  have hlt1 : k1 < k0 := by
                    rcases Nat.lt_or_ge k1 k0 with h | h
                    · exact h
                    · have h1 := evsP_mono h (by omega : k1 ≤ sts.length)
                      rw [← htk1, ← HTK.out, List.length_take, List.length_take] at h1
                      have h2 := get_lt' he1
                      have h3 : m = (evsP sts sts.length).length := HM.out
                      omega
                  have hpos : (0 : Int) < (t : Int) := by omega
                  have hw : IntKind.i64.wrap ((t : Int) - 1) = (s' : Int) := by rw [IntWalk.i64_in _ (by omega)]; omega
                  have s0 : (0 : Int) ≤ (s' : Int) := by omega
                  have s1 : (s' : Int) < (m : Int) := by omega
                  have hle : ¬ ((k0 : Int) ≤ (k1 : Int)) := by omega
                  have hdI : decide ((0 : Int) < (t : Int)) = true := decide_eq_true hpos
                  have hdN : decide (0 < t) = true := decide_eq_true (by omega)
                  have hlI : decide ((k0 : Int) ≤ (k1 : Int)) = false := decide_eq_false hle
                  have hlN : decide (k0 ≤ k1) = false := decide_eq_false (by omega)
                  clear ht0 hs' hx1 hkz1 he1 he1' htk1 hlt1 hk1
                  go_wp2
                  go_quiet (fail)
                  clear hw
                  have HN := Lib.hid (HT.out.drewN nq)
                  go_wp2
                  go_region
                  all_goals
                    go_wp2
                    go_roundw
                    case rel => exact ⟨t + 1, htt, by go_num, Lib.hid (by rw [← HK.out]; exact HPUT.out _ (HT.out.drewN (nq + 1)))⟩
                    case measure => simp [intOf]; omega
              · obtain rfl : t = m := by omega
                have htl : ¬ ((t : Int) < (t : Int)) := by omega
                go_wp2_with fail
                go_meet
                have h9 := HT.out
                rw [HM.out] at h9
                exact Lib.hid ⟨_, _, h9.done HOK.out⟩
        case rest =>
          obtain ⟨sts', f', hH⟩ := hcut.out
          have HS := Lib.hid hH
          clear hH HN HR hcut HSL sts f hp0 hp1 hv0 hv1
          go_wp2
          go_loopw [16] (fun i wr => ∃ j : Nat, j ≤ nD ∧ i = .int .i64 j ∧ RowKit.Hid (EvW w3 wr gt g cg s.doms gl nD sts' f')) (fun i _ => nD - (intOf i).toNat)
          case atStart => exact ⟨0, Nat.zero_le _, rfl, HS⟩
          case round =>
            obtain ⟨j, hj, rfl, HQ⟩ := hrel
            clear HS
            obtain ⟨z1, -⟩ := HQ.out.lw.box HBX.out 1 _ rfl
            by_cases hjt : j < nD
            · have hj0 : (0 : Int) ≤ (j : Int) := by omega
              have hj1 : (j : Int) < (nD : Int) := by omega
              have hsl : sts'.length = nD := by rw [HQ.out.lw.inv.len, HND.out]
              have hx := List.getElem?_eq_getElem (l := sts') (i := j) (by omega)
              generalize sts'[j] = y at hx
              have hph := phaseP_at hx
              have hla := HQ.out.ok j y hx
              have cl := (HQ.out.by_ j hjt).2
              rw [if_pos hjt] at cl
              have hcs := hla.cases
              obtain ⟨p, hyp⟩ : ∃ p, y.phase = p := ⟨_, rfl⟩
              obtain ⟨la, hfl⟩ : ∃ la, f' j = la := ⟨_, rfl⟩
              rw [hyp] at hcs hph
              rw [hfl] at hcs cl
              have HPH := Lib.hid hph
              clear hx hla hsl hph hyp hfl
              have HCS := Lib.hid hcs
              have HCL := Lib.hid cl
              clear hcs cl
              go_wp2_with fail
              refine (HQ.out.lw.phase _).mono ?_
              rintro e w' ⟨rfl, rfl⟩
              rw [HPH.out]
              go_upto_region 42 with (fail)
              refine reg42_any gl nD j p la _ _ hjt (by omega) HCS.out HCL.out ?_
              intros
              go_wp2
              go_roundw
              case rel => exact ⟨j + 1, hjt, by go_num, HQ⟩
              case measure => simp [intOf]; omega
            · obtain rfl : j = nD := by omega
              have hjl : ¬ ((j : Int) < (j : Int)) := by omega
              go_wp2
              go_roundw
              case rel => exact ⟨k + 1, sts', f', hlt, by go_num, HQ⟩
              case measure => simp [intOf]; omega
      · have hke : k = nX := by omega
        subst hke
        have hkl : ¬ ((k : Int) < (k : Int)) := by omega
        go_wp2
        go_ret
        exact ⟨rfl, HB3.out.trans (HR.out.lw.bel.mono hz3)⟩

theorem events_arg (A : Option Addr) (c : Nat) (l : List Int) (B : Option Addr) (d : Nat) (xs : List Acts) (w : World) (hm : l.length ≤ 9223372036854775807) (h : IntsAt w w.heap.size A l) (hwf : ∀ x, x ∈ l → wfI x) (hxl : xs.length ≤ maxLen) (hx : StrsAt ActV 2 w w.heap.size B xs) (hxw : ∀ x, x ∈ xs → ActW x) :
    Calls Try.prog 5 #[.slice A l.length c, .slice B xs.length d] w fun e w' => e = .returned (.bool true) ∧ Below w.heap.size w w' :=
  events_any A c l B d xs w (by unfold maxLen; omega) hwf h hxl hxw hx

end Go.Proofs.Ytlhmcpkfmnmhfaa
