/- The walk of catnaplaw9.RegsLast. -/
import Derived.Test.YtlolnogkndhfnaaL3
namespace Go.Proofs.Ytlolnogkndhfnaa
set_option linter.unusedSimpArgs false
set_option linter.unusedVariables false
open Go.RowKit Go.Maps

theorem u32s_snoc (l : List Int) (x : Int) : u32s (l ++ [x]) = u32s l ++ [.int .u32 x] := by simp [u32s]
theorem u32s_one (l : List Int) : ∀ u ∈ u32s l, u.oneCell' = true := by intro u hu; obtain ⟨x, _, rfl⟩ := List.mem_map.1 hu; rfl
theorem cells_new (w : World) (vs : List Value) (t : TypeId) : ∀ (j : Nat) (u : Value), vs[j]? = some u → (w.alloc (.cells vs.toArray t)).cell? ((⟨w.heap.size, 0, none⟩ : Addr).add j) = some u := by
  intro j u hj
  have := (BoxAt.new w vs t j u hj).1
  rw [Addr.add_lit, Nat.zero_add]
  exact this

set_option maxRecDepth 1000000 in
set_option maxHeartbeats 16000000 in
theorem last_any (A0 A1 A2 : Option Addr) (c0 c1 c2 : Nat) (rs : List Rgs) (P V : List Int) (w : World) (l0 : rs.length ≤ maxLen) (l1 : P.length ≤ maxLen) (l2 : V.length ≤ maxLen)
    (h0 : StrsAt RgsV 2 w w.heap.size A0 rs) (h1 : ValsAt w w.heap.size A1 (i64s P)) (h2 : ValsAt w w.heap.size A2 (u32s V)) (hP : ∀ x, x ∈ P → wfI x) :
    Calls Try.prog 7 #[.slice A0 rs.length c0, .slice A1 P.length c1, .slice A2 V.length c2] w (TellsB true w) := by
  unfold maxLen at l0 l1 l2
  have H0 := Lib.hid h0
  have H1 := Lib.hid h1
  have H2 := Lib.hid h2
  have HP := Lib.hid hP
  by_cases hbig : 8 < rs.length ∨ rs.length = 0 ∨ (¬ 8 < rs.length ∧ rs.length ≠ 0 ∧ 100 < P.length)
  · clear h0 h1 h2 hP
    rcases hbig with h8 | h8 | ⟨h8, h9, h10⟩
    · have i8 : (8 : Int) < (rs.length : Int) := by omega
      go_enter Try.func7, Try.ntmps7
      go_wp2_with fail
      refine (shown_any _).mono ?_
      rintro e w1 ⟨rfl, hb1⟩
      have HB1 := Lib.hid hb1
      clear hb1
      go_wp2
      go_ret
      exact ⟨rfl, HB1.out⟩
    · rw [h8]
      clear h8
      go_enter Try.func7, Try.ntmps7
      go_wp2_with fail
      refine (shown_any _).mono ?_
      rintro e w1 ⟨rfl, hb1⟩
      have HB1 := Lib.hid hb1
      clear hb1
      go_wp2
      go_ret
      exact ⟨rfl, HB1.out⟩
    · have i8 : ¬ ((8 : Int) < (rs.length : Int)) := by omega
      have i10 : (100 : Int) < (P.length : Int) := by omega
      have e0 : ((rs.length : Int) == 0) = false := beq_eq_false_iff_ne.2 (by omega)
      clear h9
      go_enter Try.func7, Try.ntmps7
      go_wp2_with fail
      refine (shown_any _).mono ?_
      rintro e w1 ⟨rfl, hb1⟩
      have HB1 := Lib.hid hb1
      clear hb1
      go_wp2
      go_ret
      exact ⟨rfl, HB1.out⟩
  · have i8 : ¬ ((8 : Int) < (rs.length : Int)) := by omega
    have i10 : ¬ ((100 : Int) < (P.length : Int)) := by omega
    have hn8 : rs.length ≤ 8 := by omega
    have hnp : 0 < rs.length := by omega
    have e0 : ((rs.length : Int) == 0) = false := beq_eq_false_iff_ne.2 (by omega)
    obtain ⟨nP, hnP⟩ : ∃ nP, nP = P.length := ⟨_, rfl⟩
    obtain ⟨nV, hnV⟩ : ∃ nV, nV = V.length := ⟨_, rfl⟩
    rw [← hnP] at i10 l1 ⊢
    rw [← hnV] at l2 ⊢
    have HNP := Lib.hid hnP
    have HNV := Lib.hid hnV
    clear hbig h0 h1 h2 hP hnP hnV
    go_enter Try.func7, Try.ntmps7
    go_wp2_with fail
    refine (shown_any _).mono ?_
    rintro e w1 ⟨rfl, hb1⟩
    have HB1 := Lib.hid hb1
    clear hb1
    go_wp2_with fail
    refine (new_fw [] A0 c0 rs w w1 hn8 (by simp) H0.out HB1.out).mono ?_
    rintro e w3 ⟨b, gn, rfl, hf, -, -, -⟩
    have HF := Lib.hid hf
    have hz3 := hf.bel.size
    clear hf HB1
    go_wp2
    go_loopw [10, 11] (fun v i wr => ∃ (k : Nat) (A : Option Addr) (m d : Nat), k ≤ rs.length ∧ i = .int .i64 k ∧ v = .slice A m d ∧ RowKit.Hid (m = k ∧ Below w3.heap.size w3 wr ∧ wr.ownsRow w3.heap.size 33 1 (.slice A m d) m (u32s ((resets rs).take k)))) (fun _ i _ => rs.length - (intOf i).toNat)
    case atStart => exact ⟨0, none, 0, 0, Nat.zero_le _, rfl, rfl, Lib.hid ⟨rfl, Below.refl _ _, by simpa [u32s] using World.ownsRow_nil _ _ _ _⟩⟩
    case round =>
      obtain ⟨k, A, m, d, hk, rfl, rfl, HR⟩ := hrel
      by_cases hlt : k < rs.length
      · have i0 : (0 : Int) ≤ (k : Int) := by omega
        have i1 : (k : Int) < (rs.length : Int) := by omega
        have hr := List.getElem?_eq_getElem hlt
        generalize rs[k]'hlt = r at hr
        obtain ⟨ad, hA, hag⟩ := (HF.out.calm (Moved.of_below HR.out.2.1)).strs H0.out hr
        have a0 : wr.cell? (ad.add (k * 2)) = some (.int .u32 r.reset) := hag.zero
        have HSN := Lib.hid (show u32s ((resets rs).take (k + 1)) = u32s ((resets rs).take k) ++ [.int .u32 r.reset] by rw [List.take_add_one, resets_at hr]; exact u32s_snoc _ _)
        subst hA
        obtain ⟨rst, kp⟩ := r
        obtain ⟨i33, hi, hz0, hzs, hzb⟩ := info_parts Try.info33
        have hzr := HR.out.2.1.size
        have hown := own_moved (hot := []) HR.out.2.2 (Moved.alloc wr (.cells #[.int .u32 rst] 33)) (by simp)
        have HOWN := Lib.hid hown
        have hm8 : m ≤ 8 := by have := HR.out.1; omega
        clear hr hag hown hzr
        go_wp2_with (at_builtin; refine wpList_append_own_at _ rfl _ _ 41 rfl w3.heap.size 33 i33 (.int .u32 0) 1 4 Try.underlying41 hi hz0 hzs hzb rfl (by decide) _ _ _ rfl HOWN.out ⟨wr.heap.size, 0, none⟩ 1 1 [.int .u32 rst] rfl rfl (cells_new wr _ 33) (by intro u hu; simp at hu; rcases hu with rfl; rfl) (by unfold maxLen; omega) (by omega) (by have := HR.out.2.1.size; simp; omega) ?_; intro v6 w6 hown6 hg6 _ hob6; obtain ⟨A6, c6, rfl⟩ := own_shape' hown6; have HOWN6 := Lib.hid hown6; have HG6 := Lib.hid hg6; clear hown6 hg6 hob6)
        have hbl : ∀ b, (Value.slice A m d).ownBlock = some b → w3.heap.size ≤ b := fun b hb => (HOWN.out.lt b hb).1
        have hb6 : Below w3.heap.size w3 w6 := (HR.out.2.1.trans (((Below.refl _ wr).alloc HR.out.2.1.size _).grown HG6.out (by have := HR.out.2.1.size; simp; omega) hbl))
        have HB6 := Lib.hid hb6
        clear hbl hb6
        go_roundw
        case rel => exact ⟨k + 1, A6, m + 1, c6, hlt, by go_num, rfl, Lib.hid ⟨by have := HR.out.1; omega, HB6.out, by rw [HSN.out]; exact HOWN6.out⟩⟩
        case measure => simp [intOf]; omega
      · have hke : k = rs.length := by omega
        have hmk := HR.out.1
        have i1 : ¬ ((k : Int) < (rs.length : Int)) := by omega
        have hown := HR.out.2.2
        rw [hke, show (resets rs).take rs.length = resets rs from List.take_of_length_le (by rw [resets_len]; omega)] at hown
        have hmp : 0 < m := by omega
        obtain ⟨gw, rfl, hgw, hrow⟩ := own_rowN hown hmp
        have HT : RowKit.Hid (Fw w wr [gw, b, gn] b gn rs (resets rs) (resets rs) ∧ RowAt wr gw (u32s (resets rs))) := Lib.hid ⟨HF.out.more (Q' := [gw]) (Moved.of_below HR.out.2.1) (by intro k hk; simp at hk; subst hk; exact ⟨hgw, hrow.1⟩), hrow⟩
        have hlt := HF.out.file.lt
        have n1 : b ≠ gw := by omega
        have n2 : gn ≠ gw := by omega
        have hgw0 : w.heap.size ≤ gw := by omega
        have hmn : m = rs.length := by omega
        clear hown hrow HR HF hlt hmk hke hgw
        subst hmn
        go_wp2
        go_loopw [12] (fun i wr => ∃ k : Nat, k ≤ nP ∧ k ≤ nV ∧ i = .int .i64 k ∧ RowKit.Hid (∃ now back, Fw w wr [gw, b, gn] b gn rs now back ∧ RowAt wr gw (u32s now))) (fun i _ => nP - (intOf i).toNat)
        case atStart => exact ⟨0, Nat.zero_le _, Nat.zero_le _, rfl, Lib.hid ⟨_, _, HT.out⟩⟩
        case round =>
          clear HT i1 hlt
          obtain ⟨k, hk, hkV, rfl, HR⟩ := hrel
          obtain ⟨now, back, hfw, hrow⟩ := HR.out
          have HW := Lib.hid hfw
          have HRW := Lib.hid hrow
          clear HR hfw hrow
          by_cases hgo : k < nP ∧ k < nV
          · obtain ⟨g1, g2⟩ := hgo
            have hx := List.getElem?_eq_getElem (l := P) (i := k) (by rw [← HNP.out]; exact g1)
            generalize P[k]'(by rw [← HNP.out]; exact g1) = x at hx
            have hxw := HP.out x (List.mem_of_getElem? hx)
            have hy := List.getElem?_eq_getElem (l := V) (i := k) (by rw [← HNV.out]; exact g2)
            generalize V[k]'(by rw [← HNV.out]; exact g2) = y at hy
            obtain ⟨ad, hA, hc⟩ := HW.out.vals H1.out (i64s_at hx)
            obtain ⟨ae, hA2, hc2⟩ := HW.out.vals H2.out (u32s_at hy)
            have HY := Lib.hid hy
            subst hA hA2
            have i0 : (0 : Int) ≤ (k : Int) := by omega
            have i1 : (k : Int) < (nP : Int) := by omega
            have i2 : (k : Int) < (nV : Int) := by omega
            obtain ⟨i, hi, hil⟩ : ∃ i : Nat, pickP x (rs.length : Int) = (i : Int) ∧ i < rs.length := ⟨(pickP x (rs.length : Int)).toNat, by have := pickP_lo (c := x) (n := (rs.length : Int)) (by omega); omega, by have := pickP_lo (c := x) (n := (rs.length : Int)) (by omega); have := pickP_hi (c := x) (n := (rs.length : Int)) (by omega); omega⟩
            have HI := Lib.hid hi
            have hiw : wfI (i : Int) := by unfold wfI; omega
            have HE := Lib.hid (errI_yes hil)
            have HN := Lib.hid (show writeT now (i : Int) y = now.set i y from writeT_at y (by rw [HW.out.file.len]; exact hil))
            have hlen := HW.out.file.len
            have hz := List.getElem?_eq_getElem (l := now) (i := i) (by rw [hlen]; exact hil)
            generalize now[i]'(by rw [hlen]; exact hil) = z at hz
            have HZ := Lib.hid hz
            have HXW := Lib.hid hxw
            clear hx hy hi hxw hlen hz
            go_wp2_with fail
            refine (pick_any x (rs.length : Int) _ HXW.out (by omega) (by omega)).mono ?_
            rintro e w' ⟨rfl, rfl⟩
            rw [HI.out]
            go_wp2_with fail
            refine (HW.out.write y hiw).mono ?_
            rintro e w4 ⟨rfl, hf, hm⟩
            rw [HE.out]
            rw [HN.out] at hf
            have hrow := HRW.out.move hm (by simp; omega)
            obtain ⟨hc4, hz4⟩ := hrow.2 _ _ (u32s_at HZ.out)
            obtain ⟨ae', hA3, hc5⟩ := hf.vals H2.out (u32s_at HY.out)
            injection hA3 with hA3
            subst hA3
            have hset := hrow.set (j := i) (.int .u32 y)
            rw [← u32s_set] at hset
            have hmv : Moved [gw] w4 (w4.setCell ⟨gw, i, none⟩ (.int .u32 y)) := Moved.setCell _ (by simp) _
            have hf5 := hf.far hmv (by simp) (by simpa using n1) (by simpa using n2) (by simpa using hgw0)
            have HF5 := Lib.hid (And.intro hf5 hset)
            have j0 : (0 : Int) ≤ (i : Int) := by omega
            have j1 : (i : Int) < (rs.length : Int) := by omega
            clear hf hm hrow hset hmv hf5
            go_wp2_with fail
            refine (HF5.out.1.save).mono ?_
            rintro e w6 ⟨rfl, hf, hm⟩
            have HF6 := Lib.hid (And.intro hf (HF5.out.2.move hm (by simp; omega)))
            clear hf hm
            go_wp2
            go_roundw
            case rel => exact ⟨k + 1, g1, g2, by go_num, Lib.hid ⟨_, _, HF6.out⟩⟩
            case measure => simp [intOf]; omega
          · have hex : (¬ ((k : Int) < (nP : Int))) ∨ ((k : Int) < (nP : Int) ∧ ¬ ((k : Int) < (nV : Int))) := by omega
            clear hgo
            rcases hex with i1 | ⟨i1, i2⟩
            all_goals
              go_wp2
              go_loopw [14] (fun i wr => ∃ j : Nat, j ≤ rs.length ∧ i = .int .i64 j ∧ RowKit.Hid (Fw w wr [gw, b, gn] b gn rs now back ∧ RowAt wr gw (u32s now))) (fun i _ => rs.length - (intOf i).toNat)
              case atStart => exact ⟨0, Nat.zero_le _, rfl, Lib.hid ⟨HW.out, HRW.out⟩⟩
              case round =>
                clear i1
                clear HW HRW
                obtain ⟨j, hj, rfl, HJ⟩ := hrel
                by_cases hjt : j < rs.length
                · have hjw : wfI (j : Int) := by unfold wfI; omega
                  have j0 : (0 : Int) ≤ (j : Int) := by omega
                  have j1 : (j : Int) < (rs.length : Int) := by omega
                  have hlen := HJ.out.1.file.len
                  have hz := List.getElem?_eq_getElem (l := now) (i := j) (by rw [hlen]; exact hjt)
                  generalize now[j]'(by rw [hlen]; exact hjt) = z at hz
                  have HKI := Lib.hid (readI_at hz)
                  have hc := (HJ.out.2.2 _ _ (u32s_at hz)).1
                  have HEJ := Lib.hid (errI_yes hjt)
                  have ez : (z != z) = false := by simp
                  clear hz hlen
                  go_wp2_with fail
                  refine (HJ.out.1.read hjw).mono ?_
                  rintro e w6 ⟨rfl, rfl⟩
                  rw [HKI.out, HEJ.out]
                  go_wp2
                  go_roundw
                  case rel => exact ⟨j + 1, hjt, by go_num, HJ⟩
                  case measure => simp [intOf]; omega
                · have j1 : ¬ ((j : Int) < (rs.length : Int)) := by omega
                  have ee : ((rs.length : Int) == (rs.length : Int)) = true := by simp
                  go_wp2_with fail
                  refine (HJ.out.1.many).mono ?_
                  rintro e w6 ⟨rfl, rfl⟩
                  go_wp2
                  go_ret
                  exact ⟨rfl, HJ.out.1.bel⟩

end Go.Proofs.Ytlolnogkndhfnaa
