/- The walk of catnaplaw9.RegsAlone. -/
import Derived.Test.YtlolnogkndhfnaaL1
namespace Go.Proofs.Ytlolnogkndhfnaa
set_option linter.unusedSimpArgs false
set_option linter.unusedVariables false
open Go.RowKit Go.Maps

/-- an own row reads, and may be written -/
theorem own_rowN {w : World} {B n sz : Nat} {e : TypeId} {A : Option Addr} {c : Nat} {xs : List Value} (h : w.ownsRow B e sz (.slice A n c) n xs) (hn : 0 < n) : ∃ g, A = some ⟨g, 0, none⟩ ∧ B ≤ g ∧ RowAt w g xs := by
  rcases h.2 with ⟨_, h0⟩ | ⟨g, cap, cur, h1, h2, h3, h4⟩
  · omega
  · injection h1 with h1 _ _
    subst h1
    have hl : g < w.heap.size := (h.lt g rfl).2
    refine ⟨g, rfl, h2, hl, fun j v hj => ⟨?_, frozen_of_row _ _ _ _ _ h3⟩⟩
    have := h.cells (g := g) rfl j v hj
    first | exact this | (rw [Addr.add_lit, Nat.zero_add] at this; exact this)
/-- a row of n registers in block g, whatever they are -/
def RegRow (w : World) (g n : Nat) : Prop := g < w.heap.size ∧ ∀ j, j < n → (∃ r : Int, w.cell? ⟨g, j * 2, none⟩ = some (.int .u32 r)) ∧ w.frozen? ⟨g, j * 2, none⟩ = false ∧ (∃ k : Bool, w.cell? ⟨g, j * 2 + 1, none⟩ = some (.bool k)) ∧ w.frozen? ⟨g, j * 2 + 1, none⟩ = false
theorem RegRow.of {w : World} {g : Nat} {rs : List Rgs} (h : RowAt w g (flatS RgsV rs)) : RegRow w g rs.length := by
  refine ⟨h.1, fun j hj => ?_⟩
  have hr := List.getElem?_eq_getElem hj
  obtain ⟨a1, a2⟩ := h.2 _ _ (flatS_get RgsV_len hr (j := 0) rfl)
  obtain ⟨b1, b2⟩ := h.2 _ _ (flatS_get RgsV_len hr (j := 1) rfl)
  exact ⟨⟨_, a1⟩, a2, ⟨_, b1⟩, b2⟩
theorem RegRow.setR {w : World} {g n j : Nat} (h : RegRow w g n) (r : Int) : RegRow (w.setCell ⟨g, j * 2, none⟩ (.int .u32 r)) g n := by
  refine ⟨by rw [size_setCell]; exact h.1, fun i hi => ?_⟩
  obtain ⟨⟨a, a1⟩, a2, ⟨b, b1⟩, b2⟩ := h.2 i hi
  refine ⟨?_, by rw [World.frozen?_setCell]; exact a2, ⟨b, (World.cell?_setCell_other w _ _ _ (fun e => by have := congrArg Addr.off e; simp at this; omega)).trans b1⟩, by rw [World.frozen?_setCell]; exact b2⟩
  by_cases e : i = j
  · subst e; exact ⟨r, World.cell?_setCell_same' _ _ _ (by rw [a1]; rfl)⟩
  · exact ⟨a, (World.cell?_setCell_other w _ _ _ (fun h => by have := congrArg Addr.off h; simp at this; omega)).trans a1⟩
theorem RegRow.setK {w : World} {g n j : Nat} (h : RegRow w g n) (k : Bool) : RegRow (w.setCell ⟨g, j * 2 + 1, none⟩ (.bool k)) g n := by
  refine ⟨by rw [size_setCell]; exact h.1, fun i hi => ?_⟩
  obtain ⟨⟨a, a1⟩, a2, ⟨b, b1⟩, b2⟩ := h.2 i hi
  refine ⟨⟨a, (World.cell?_setCell_other w _ _ _ (fun e => by have := congrArg Addr.off e; simp at this; omega)).trans a1⟩, by rw [World.frozen?_setCell]; exact a2, ?_, by rw [World.frozen?_setCell]; exact b2⟩
  by_cases e : i = j
  · subst e; exact ⟨k, World.cell?_setCell_same' _ _ _ (by rw [b1]; rfl)⟩
  · exact ⟨b, (World.cell?_setCell_other w _ _ _ (fun h => by have := congrArg Addr.off h; simp at this; omega)).trans b1⟩
theorem RegRow.move {w w' : World} {g n : Nat} {hot : List Nat} (h : RegRow w g n) (hm : Moved hot w w') (hg : g ∉ hot) : RegRow w' g n :=
  ⟨Nat.lt_of_lt_of_le h.1 hm.size, fun i hi => by
    obtain ⟨⟨a, a1⟩, a2, ⟨b, b1⟩, b2⟩ := h.2 i hi
    exact ⟨⟨a, hm.cell a1 hg⟩, (hm.frozen (p := ⟨g, i * 2, none⟩) h.1 hg).trans a2, ⟨b, hm.cell b1 hg⟩, (hm.frozen (p := ⟨g, i * 2 + 1, none⟩) h.1 hg).trans b2⟩⟩

set_option maxRecDepth 1000000 in
set_option maxHeartbeats 16000000 in
theorem alone_any (A0 : Option Addr) (c0 : Nat) (rs : List Rgs) (at_ v : Int) (w : World) (l0 : rs.length ≤ maxLen) (ha : wfI at_) (hv : u32I v) (h0 : StrsAt RgsV 2 w w.heap.size A0 rs) :
    Calls Try.prog 5 #[.slice A0 rs.length c0, .int .i64 at_, .int .u32 v] w (TellsB true w) := by
  unfold maxLen at l0
  have H0 := Lib.hid h0
  have HA := Lib.hid ha
  have hv0 := hv
  unfold u32I at hv0
  have HV := Lib.hid hv0
  clear hv hv0 ha
  by_cases hbig : 8 < rs.length ∨ rs.length = 0
  · clear h0
    rcases hbig with h8 | h8
    · have i8 : (8 : Int) < (rs.length : Int) := by omega
      go_enter Try.func5, Try.ntmps5
      go_wp2_with fail
      refine (shown_any _).mono ?_
      rintro e w1 ⟨rfl, hb1⟩
      have HB1 := Lib.hid hb1
      clear hb1
      go_wp2
      go_ret
      exact ⟨rfl, HB1.out⟩
    · rw [h8]
      clear h8
      go_enter Try.func5, Try.ntmps5
      go_wp2_with fail
      refine (shown_any _).mono ?_
      rintro e w1 ⟨rfl, hb1⟩
      have HB1 := Lib.hid hb1
      clear hb1
      go_wp2
      go_ret
      exact ⟨rfl, HB1.out⟩
  · have i8 : ¬ ((8 : Int) < (rs.length : Int)) := by omega
    have hn8 : rs.length ≤ 8 := by omega
    have hnp : 0 < rs.length := by omega
    have e0 : ((rs.length : Int) == 0) = false := beq_eq_false_iff_ne.2 (by omega)
    obtain ⟨ad, rfl⟩ : ∃ ad, A0 = some ad := by obtain ⟨ad, e, _⟩ := h0 hnp; exact ⟨ad, e⟩
    obtain ⟨i43, hi, hz0, hzs, hzb⟩ := info_parts Try.info43
    have HFL := Lib.hid (flatS_len RgsV_len rs)
    clear hbig h0
    go_enter Try.func5, Try.ntmps5
    go_wp2_with fail
    refine (shown_any _).mono ?_
    rintro e w1 ⟨rfl, hb1⟩
    have hfl := ((H0.out.below hb1 (Nat.le_refl _)).more hb1.size).flat RgsV_len rfl
    have HFC := Lib.hid hfl
    have HB1 := Lib.hid hb1
    clear hb1 hfl
    go_wp2_with (at_builtin; refine wpList_append_own _ rfl _ _ 22 rfl w1.heap.size 43 i43 (.agg #[.int .u32 0, .bool false]) 2 8 Try.underlying22 hi hz0 hzs hzb rfl (by decide) _ _ _ rfl (World.ownsRow_made w1 #[] 0 (Nat.le_refl _) (Nat.zero_le _) (by simp)) ad rs.length c0 (flatS RgsV rs) rfl ?qc1 ?qc2 ?qc3 ?qc4 ?qc5 ?qc6 ?_)
    case qc1 => exact HFL.out
    case qc2 => exact fun j u hj => Lib.cell?_alloc_some _ (HFC.out j u hj)
    case qc3 => exact flat_one
    case qc4 => unfold maxLen; omega
    case qc5 => omega
    case qc6 => simp
    intro v' w2 hown hgrow hnil
    have ho : w2.ownsRow w1.heap.size 43 2 v' rs.length (flatS RgsV rs) := by simpa using hown
    obtain ⟨A', c', rfl⟩ := own_shape' ho
    obtain ⟨gk, rfl, hgk, hrk⟩ := own_rowN ho hnp
    have hb2 : Below w1.heap.size w1 w2 := ((Below.refl _ w1).alloc (Nat.le_refl _) _).grown hgrow (by simp) (by intro k hk; simp [Value.ownBlock] at hk; omega)
    have hst : StrsAt RgsV 2 w2 w2.heap.size (some ⟨gk, 0, none⟩) rs := by
      intro hp
      obtain ⟨ad', e, k1, k2, k3⟩ := own_strs (hot := []) RgsV_len ho rfl (by simp) hp
      exact ⟨ad', e, k1, k3⟩
    have HRK := Lib.hid (RegRow.of hrk)
    have HST := Lib.hid hst
    have hb12 := HB1.out.trans (hb2.mono HB1.out.size)
    have HB2 := Lib.hid hb12
    have hgk2 := Nat.le_trans HB1.out.size hgk
    have hlk := HRK.out.1
    clear hown hgrow hnil ho hrk hst hb2 hb12 hi hz0 hzs hzb HB1 HFC HFL
    go_wp2_with fail
    refine (new_ok [gk] (some ⟨gk, 0, none⟩) c' rs w2 hn8 (by simpa using hlk) HST.out).mono ?_
    rintro e w3 ⟨b, gn, rfl, hlb, hlg, hf, hb3⟩
    have HF : RowKit.Hid (Fw w w3 [b, gn, gk] b gn rs (resets rs) (resets rs)) := Lib.hid ⟨hf, HB2.out.trans (hb3.mono HB2.out.size), Nat.le_trans HB2.out.size hlb, Nat.le_trans HB2.out.size hlg⟩
    have HRK3 := Lib.hid (HRK.out.move (Moved.of_below (hot := []) hb3) (by simp))
    have nb : b ≠ gk := by omega
    have ng : gn ≠ gk := by omega
    have hns : gk ∉ [b, gn] := by simp; omega
    clear hf hb3 HRK HST HB2 hlb hlg hlk hgk
    go_wp2_with fail
    refine (pick_any at_ (rs.length : Int) _ HA.out (by omega) (by omega)).mono ?_
    rintro e w' ⟨rfl, rfl⟩
    obtain ⟨i, hi, hil⟩ : ∃ i : Nat, pickP at_ (rs.length : Int) = (i : Int) ∧ i < rs.length := ⟨(pickP at_ (rs.length : Int)).toNat, by have := pickP_lo (c := at_) (n := (rs.length : Int)) (by omega); omega, by have := pickP_lo (c := at_) (n := (rs.length : Int)) (by omega); have := pickP_hi (c := at_) (n := (rs.length : Int)) (by omega); omega⟩
    rw [hi]
    have hiw : wfI (i : Int) := by unfold wfI; omega
    have h1w := fun (W : World) (now back : List Int) (hW : Fw w W [b, gn, gk] b gn rs now back) => hW.write (i := (i : Int)) v hiw
    have HW := Lib.hid h1w
    have HN := Lib.hid (show writeT (resets rs) (i : Int) v = (resets rs).set i v from writeT_at v (by rw [resets_len]; exact hil))
    have HE := Lib.hid (errI_yes hil)
    clear h1w hi HA
    go_wp2
    go_loopw [12] (fun x wr => ∃ j : Nat, j ≤ rs.length ∧ x = .int .i64 j ∧ RowKit.Hid (Fw w wr [b, gn, gk] b gn rs (resets rs) (resets rs) ∧ RegRow wr gk rs.length)) (fun x _ => rs.length - (intOf x).toNat)
    case atStart => exact ⟨0, Nat.zero_le _, rfl, Lib.hid ⟨HF.out, HRK3.out⟩⟩
    case round =>
      clear HF HRK3
      obtain ⟨j, hj, rfl, HJ⟩ := hrel
      by_cases hjt : j < rs.length
      · have j0 : (0 : Int) ≤ (j : Int) := by omega
        have j1 : (j : Int) < (rs.length : Int) := by omega
        obtain ⟨⟨r, a1⟩, a2, ⟨k, k1⟩, k2⟩ := HJ.out.2.2 j hjt
        obtain ⟨R, hR⟩ : ∃ R, IntKind.u32.wrap (r + 1) = R := ⟨_, rfl⟩
        obtain ⟨K, hK⟩ : ∃ K, (!k) = K := ⟨_, rfl⟩
        have r1 := HJ.out.2.setR (j := j) R
        have m1 : Moved [gk] wr (wr.setCell ⟨gk, j * 2, none⟩ (.int .u32 R)) := Moved.setCell _ (by simp) _
        have r2 := r1.setK (j := j) K
        have m2 : Moved [gk] (wr.setCell ⟨gk, j * 2, none⟩ (.int .u32 R)) ((wr.setCell ⟨gk, j * 2, none⟩ (.int .u32 R)).setCell ⟨gk, j * 2 + 1, none⟩ (.bool K)) := Moved.setCell _ (by simp) _
        have hfw := HJ.out.1.far (m1.trans m2) (by simp) (by simpa using nb) (by simpa using ng) (by simpa using hgk2)
        have HX := Lib.hid (And.intro hfw r2)
        obtain ⟨k', k1'⟩ : ∃ k', (wr.setCell ⟨gk, j * 2, none⟩ (.int .u32 R)).cell? ⟨gk, j * 2 + 1, none⟩ = some (.bool k') := (r1.2 j hjt).2.2.1
        have kk : k' = k := by
          have := (World.cell?_setCell_other wr ⟨gk, j * 2, none⟩ ⟨gk, j * 2 + 1, none⟩ (.int .u32 R) (fun e => by have := congrArg Addr.off e; simp at this)).trans k1
          rw [k1'] at this
          simpa using this
        clear r1 r2 m1 m2 hfw k1' kk
        go_wp2
        go_roundw
        case rel => exact ⟨j + 1, hjt, by go_num, HX⟩
        case measure => simp [intOf]; omega
      · have j1 : ¬ ((j : Int) < (rs.length : Int)) := by omega
        go_wp2_with fail
        refine (HW.out _ _ _ HJ.out.1).mono ?_
        rintro e w5 ⟨rfl, hf, -⟩
        rw [HN.out] at hf
        rw [HE.out]
        have HF := Lib.hid hf
        clear hf HJ j1 hj hjt
        go_wp2
        go_loopw [13] (fun x wr => ∃ j : Nat, j ≤ rs.length ∧ x = .int .i64 j ∧ RowKit.Hid (Fw w wr [b, gn, gk] b gn rs ((resets rs).set i v) (resets rs))) (fun x _ => rs.length - (intOf x).toNat)
        case atStart => exact ⟨0, Nat.zero_le _, rfl, HF⟩
        case round =>
          clear HF
          obtain ⟨j, hj, rfl, HJ⟩ := hrel
          by_cases hjt : j < rs.length
          · have j0 : (0 : Int) ≤ (j : Int) := by omega
            have j1 : (j : Int) < (rs.length : Int) := by omega
            have hjw : wfI (j : Int) := by unfold wfI; omega
            have hr := List.getElem?_eq_getElem hjt
            generalize rs[j]'hjt = r at hr
            have HEJ := Lib.hid (errI_yes hjt)
            obtain ⟨ad2, hA, hag⟩ := HJ.out.strs H0.out hr
            injection hA with hA
            subst hA
            have a0 : wr.cell? (ad.add (j * 2)) = some (.int .u32 r.reset) := hag.zero
            obtain ⟨rst, kp⟩ := r
            by_cases hij : j = i
            · subst hij
              have hki : readI ((resets rs).set j v) (j : Int) = v := readI_at (by rw [List.getElem?_set_self (by rw [resets_len]; exact hjt)])
              have HKI := Lib.hid hki
              have e1 : ((j : Int) == (j : Int)) = true := by simp
              have e2 : ((j : Int) != (j : Int)) = false := by simp
              have e3 : (v != v) = false := by simp
              clear hr hag hki
              go_wp2_with fail
              refine (HJ.out.read hjw).mono ?_
              rintro e w6 ⟨rfl, rfl⟩
              rw [HKI.out, HEJ.out]
              go_wp2
              go_roundw
              case rel => exact ⟨j + 1, hjt, by go_num, HJ⟩
              case measure => simp [intOf]; omega
            · have hki : readI ((resets rs).set i v) (j : Int) = rst := readI_at (by rw [List.getElem?_set_ne (Ne.symm hij)]; exact resets_at hr)
              have HKI := Lib.hid hki
              have e1 : ((j : Int) == (i : Int)) = false := by simp; omega
              have e2 : ((j : Int) != (i : Int)) = true := by simp; omega
              have e3 : (rst != rst) = false := by simp
              have hne : ¬ ((j : Int) = (i : Int)) := by omega
              clear hr hag hki
              go_wp2_with fail
              refine (HJ.out.read hjw).mono ?_
              rintro e w6 ⟨rfl, rfl⟩
              rw [HKI.out, HEJ.out]
              go_wp2
              go_roundw
              case rel => exact ⟨j + 1, hjt, by go_num, HJ⟩
              case measure => simp [intOf]; omega
          · have j1 : ¬ ((j : Int) < (rs.length : Int)) := by omega
            go_wp2_with fail
            refine (HJ.out.save).mono ?_
            rintro e w6 ⟨rfl, hf, -⟩
            have HS := Lib.hid hf
            clear hf HJ
            go_wp2_with fail
            refine (HS.out.restore).mono ?_
            rintro e w7 ⟨rfl, hf, -⟩
            have HT := Lib.hid hf
            clear hf HS
            have hr := List.getElem?_eq_getElem hil
            generalize rs[i]'hil = r at hr
            have hki : readI (saveB rs ((resets rs).set i v)) (i : Int) = if r.kept = true then v else r.reset := readI_at (saveB_at hr (by rw [List.getElem?_set_self (by rw [resets_len]; exact hil)]))
            obtain ⟨ad2, hA, hag⟩ := HT.out.strs H0.out hr
            injection hA with hA
            subst hA
            have a0 : w7.cell? (ad.add (i * 2)) = some (.int .u32 r.reset) := hag.zero
            have a1 : w7.cell? ⟨(ad.add (i * 2)).block, (ad.add (i * 2)).off + 1, none⟩ = some (.bool r.kept) := hag.at_ 0 rfl
            have i0 : (0 : Int) ≤ (i : Int) := by omega
            have i1 : (i : Int) < (rs.length : Int) := by omega
            obtain ⟨rst, kp⟩ := r
            cases kp with
            | true =>
              simp only [if_true] at hki
              have HKI := Lib.hid hki
              have e3 : (v == v) = true := by simp
              clear hr hag hki
              go_wp2_with fail
              refine (HT.out.read hiw).mono ?_
              rintro e w8 ⟨rfl, rfl⟩
              rw [HKI.out, HE.out]
              go_wp2
              go_ret
              exact ⟨rfl, HT.out.bel⟩
            | false =>
              simp only [Bool.false_eq_true, if_false] at hki
              have HKI := Lib.hid hki
              have e3 : (rst == rst) = true := by simp
              cases ev : (rst == v) with
              | true =>
                clear hr hag hki
                go_wp2_with fail
                refine (HT.out.read hiw).mono ?_
                rintro e w8 ⟨rfl, rfl⟩
                rw [HKI.out, HE.out]
                go_wp2
                go_ret
                exact ⟨rfl, HT.out.bel⟩
              | false =>
                clear hr hag hki
                go_wp2_with fail
                refine (HT.out.read hiw).mono ?_
                rintro e w8 ⟨rfl, rfl⟩
                rw [HKI.out, HE.out]
                go_wp2
                go_ret
                exact ⟨rfl, HT.out.bel⟩

end Go.Proofs.Ytlolnogkndhfnaa
