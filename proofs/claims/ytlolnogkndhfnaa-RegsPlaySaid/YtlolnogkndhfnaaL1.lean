/- The walk of catnaplaw9.RegsKeep. -/
import Derived.Test.YtlolnogkndhfnaaR6
namespace Go.Proofs.Ytlolnogkndhfnaa
set_option linter.unusedSimpArgs false
set_option linter.unusedVariables false
open Go.RowKit Go.Maps

theorem upTo_succ {now back : List Int} {k : Nat} {x : Int} (hk : k < now.length) (h : back[k]? = some x) : upToL now back (k + 1) = (upToL now back k).set k x := by
  have hb := get_lt h
  refine List.ext_getElem? fun m => ?_
  unfold upToL
  rw [List.getElem?_set]
  by_cases e : k = m
  · subst e
    rw [if_pos rfl, if_pos (by simp; omega), List.getElem?_append_left (by simp; omega)]
    simp [List.getElem?_take, h]
  · rw [if_neg e]
    by_cases hlt : m < k
    · rw [List.getElem?_append_left (by simp; omega), List.getElem?_append_left (by simp; omega)]
      simp [List.getElem?_take, hlt, show m < k + 1 by omega]
    · rw [List.getElem?_append_right (by simp; omega), List.getElem?_append_right (by simp; omega)]
      simp only [List.getElem?_drop, List.length_take]
      rw [show k + 1 + (m - min (k + 1) back.length) = k + (m - min k back.length) by omega]
theorem upTo_len {now back : List Int} {k : Nat} (h1 : k ≤ now.length) (h2 : k ≤ back.length) : (upToL now back k).length = now.length := by
  unfold upToL
  simp
  omega
/-- written as far as there is something -/
def wroteL (base F : List Int) : List Int := upToL base F (min base.length F.length)
theorem wrote_len (base F : List Int) : (wroteL base F).length = base.length := upTo_len (by omega) (by omega)
theorem wrote_at {base F : List Int} {i : Nat} {x : Int} (h : base[i]? = some x) : (wroteL base F)[i]? = some (F.getD i x) := by
  have hi := get_lt h
  unfold wroteL upToL
  by_cases hf : i < F.length
  · rw [List.getElem?_append_left (by simp; omega), List.getElem?_take, if_pos (by omega), List.getD_eq_getElem?_getD, List.getElem?_eq_getElem hf]
    rfl
  · have e : F.getD i x = x := by rw [List.getD_eq_getElem?_getD, List.getElem?_eq_none (by omega)]; rfl
    rw [e, List.getElem?_append_right (by simp; omega)]
    simp only [List.getElem?_drop, List.length_take]
    rw [show min base.length F.length + (i - min (min base.length F.length) F.length) = i by omega, h]
/-- what is restored of what was written first -/
theorem keep_at {rs : List Rgs} {F : List Int} {i : Nat} {r : Rgs} (h : rs[i]? = some r) : (saveB rs (wroteL (resets rs) F))[i]? = some (if r.kept = true then F.getD i r.reset else r.reset) := saveB_at h (wrote_at (resets_at h))
theorem errI_no {n : Nat} {i : Int} (h : i < 0 ∨ (n : Int) ≤ i) : errI n i = 4 := by unfold errI; rw [hasB_no h]; rfl
theorem errI_yes {n k : Nat} (h : k < n) : errI n (k : Int) = 0 := by unfold errI; rw [hasB_yes h]; rfl

set_option maxRecDepth 1000000 in
set_option maxHeartbeats 16000000 in
theorem keep_any (A0 A1 A2 : Option Addr) (c0 c1 c2 : Nat) (rs : List Rgs) (F T : List Int) (w : World) (l0 : rs.length ≤ maxLen) (l1 : F.length ≤ maxLen) (l2 : T.length ≤ maxLen)
    (h0 : StrsAt RgsV 2 w w.heap.size A0 rs) (h1 : ValsAt w w.heap.size A1 (u32s F)) (h2 : ValsAt w w.heap.size A2 (u32s T)) :
    Calls Try.prog 4 #[.slice A0 rs.length c0, .slice A1 F.length c1, .slice A2 T.length c2] w (TellsB true w) := by
  unfold maxLen at l0 l1 l2
  obtain ⟨nF, hF⟩ : ∃ nF, nF = F.length := ⟨_, rfl⟩
  obtain ⟨nT, hT⟩ : ∃ nT, nT = T.length := ⟨_, rfl⟩
  obtain ⟨n, hn⟩ : ∃ n, n = rs.length := ⟨_, rfl⟩
  have HN := Lib.hid hn
  rw [← hF] at l1 ⊢
  rw [← hT] at l2 ⊢
  have HF := Lib.hid hF
  have HT := Lib.hid hT
  have H0 := Lib.hid h0
  have H1 := Lib.hid h1
  have H2 := Lib.hid h2
  by_cases h8 : 8 < rs.length
  · have i8 : (8 : Int) < (rs.length : Int) := by omega
    clear h0 h1 h2 hF hT hn
    go_enter Try.func4, Try.ntmps4
    go_wp2_with fail
    refine (shown_any _).mono ?_
    rintro e w1 ⟨rfl, hb1⟩
    have HB1 := Lib.hid hb1
    clear hb1
    go_wp2
    go_ret
    exact ⟨rfl, HB1.out⟩
  · have i8 : ¬ ((8 : Int) < (rs.length : Int)) := by omega
    clear h0 h1 h2 hF hT
    go_enter Try.func4, Try.ntmps4
    go_wp2_with fail
    refine (shown_any _).mono ?_
    rintro e w1 ⟨rfl, hb1⟩
    have HB1 := Lib.hid hb1
    clear hb1
    go_wp2_with fail
    refine (new_fw [] A0 c0 rs w w1 (by omega) (by simp) H0.out HB1.out).mono ?_
    rintro e w3 ⟨b, gn, rfl, hf, -, -, -⟩
    have H3 := Lib.hid hf
    rw [← hn] at i8 h8 ⊢
    clear hf HB1 hn l0
    go_wp2
    go_loopw [10] (fun i wr => ∃ k : Nat, k ≤ n ∧ k ≤ nF ∧ i = .int .i64 k ∧ RowKit.Hid (Fw w wr [b, gn] b gn rs (upToL (resets rs) F k) (resets rs))) (fun i _ => n - (intOf i).toNat)
    case atStart => exact ⟨0, Nat.zero_le _, Nat.zero_le _, rfl, Lib.hid (by rw [upToL_zero]; exact H3.out)⟩
    case round =>
      obtain ⟨k, hk, hkF, rfl, HR⟩ := hrel
      clear H3
      by_cases hgo : k < n ∧ k < nF
      · obtain ⟨g1, g2⟩ := hgo
        have hkw : wfI (k : Int) := by unfold wfI; omega
        have hx := List.getElem?_eq_getElem (l := F) (i := k) (by rw [← HF.out]; exact g2)
        generalize F[k]'(by rw [← HF.out]; exact g2) = x at hx
        obtain ⟨ad, hA, hc⟩ := HR.out.vals H1.out (u32s_at hx)
        have hnx := upTo_succ (now := resets rs) (back := F) (k := k) (by rw [resets_len, ← HN.out]; exact g1) hx
        have hwt : writeT (upToL (resets rs) F k) (k : Int) x = upToL (resets rs) F (k + 1) := by rw [hnx]; exact writeT_at x (by rw [HR.out.file.len, ← HN.out]; exact g1)
        have HWT := Lib.hid hwt
        subst hA
        have i0 : (0 : Int) ≤ (k : Int) := by omega
        have i1 : (k : Int) < (n : Int) := by omega
        have i2 : (k : Int) < (nF : Int) := by omega
        clear hx hnx hwt
        go_wp2_with fail
        refine (HR.out.write x hkw).mono ?_
        rintro e w4 ⟨rfl, hf, -⟩
        rw [HWT.out] at hf
        have HW := Lib.hid hf
        clear hf
        go_wp2
        go_roundw
        case rel => exact ⟨k + 1, g1, g2, by go_num, HW⟩
        case measure => simp [intOf]; omega
      · have hke : k = min (resets rs).length F.length := by rw [resets_len, ← HN.out, ← HF.out]; omega
        have HRR := Lib.hid (show Fw w wr [b, gn] b gn rs (wroteL (resets rs) F) (resets rs) by unfold wroteL; rw [← hke]; exact HR.out)
        have hex : (¬ ((k : Int) < (n : Int))) ∨ ((k : Int) < (n : Int) ∧ ¬ ((k : Int) < (nF : Int))) := by omega
        clear hgo hke HR
        rcases hex with i1 | ⟨i1, i2⟩
        all_goals
          go_wp2_with fail
          refine (HRR.out.save).mono ?_
          rintro e w4 ⟨rfl, hf, -⟩
          have HS := Lib.hid hf
          clear hf HRR
          go_wp2
          go_loopw [11] (fun i wr => ∃ k : Nat, k ≤ n ∧ k ≤ nT ∧ i = .int .i64 k ∧ RowKit.Hid (∃ now, Fw w wr [b, gn] b gn rs now (saveB rs (wroteL (resets rs) F)))) (fun i _ => n - (intOf i).toNat)
          case atStart => exact ⟨0, Nat.zero_le _, Nat.zero_le _, rfl, Lib.hid ⟨_, HS.out⟩⟩
          case round =>
            clear HS i1
            obtain ⟨q, hq, hqT, rfl, HQ⟩ := hrel
            obtain ⟨now, hnow⟩ := HQ.out
            have HQ2 := Lib.hid hnow
            clear HQ hnow
            by_cases hgo : q < n ∧ q < nT
            · obtain ⟨g1, g2⟩ := hgo
              have hkw : wfI (q : Int) := by unfold wfI; omega
              have hx := List.getElem?_eq_getElem (l := T) (i := q) (by rw [← HT.out]; exact g2)
              generalize T[q]'(by rw [← HT.out]; exact g2) = x at hx
              obtain ⟨ad, hA, hc⟩ := HQ2.out.vals H2.out (u32s_at hx)
              subst hA
              have i0 : (0 : Int) ≤ (q : Int) := by omega
              have i1 : (q : Int) < (n : Int) := by omega
              have i2 : (q : Int) < (nT : Int) := by omega
              clear hx
              go_wp2_with fail
              refine (HQ2.out.write x hkw).mono ?_
              rintro e w5 ⟨rfl, hf, -⟩
              have HW := Lib.hid hf
              clear hf
              go_wp2
              go_roundw
              case rel => exact ⟨q + 1, g1, g2, by go_num, Lib.hid ⟨_, HW.out⟩⟩
              case measure => simp [intOf]; omega
            · have hex : (¬ ((q : Int) < (n : Int))) ∨ ((q : Int) < (n : Int) ∧ ¬ ((q : Int) < (nT : Int))) := by omega
              clear hgo
              rcases hex with i1 | ⟨i1, i2⟩
              all_goals
                go_wp2_with fail
                refine (HQ2.out.restore).mono ?_
                rintro e w5 ⟨rfl, hf, -⟩
                have HS := Lib.hid hf
                clear hf HQ2 i1
                go_wp2
                go_loopw [12] (fun i wr => ∃ j : Nat, j ≤ n ∧ i = .int .i64 j ∧ RowKit.Hid (Fw w wr [b, gn] b gn rs (saveB rs (wroteL (resets rs) F)) (saveB rs (wroteL (resets rs) F)))) (fun i _ => n - (intOf i).toNat)
                case atStart => exact ⟨0, Nat.zero_le _, rfl, HS⟩
                case round =>
                  clear HS
                  obtain ⟨j, hj, rfl, HJ⟩ := hrel
                  by_cases hjn : j < n
                  · have hkw : wfI (j : Int) := by unfold wfI; omega
                    have hr := List.getElem?_eq_getElem (l := rs) (i := j) (by rw [← HN.out]; exact hjn)
                    generalize rs[j]'(by rw [← HN.out]; exact hjn) = r at hr
                    have hki := readI_at (keep_at (F := F) hr)
                    have he : errI rs.length (j : Int) = 0 := errI_yes (by rw [← HN.out]; exact hjn)
                    obtain ⟨ad, hA, hag⟩ := HJ.out.strs H0.out hr
                    have a0 : wr.cell? (ad.add (j * 2)) = some (.int .u32 r.reset) := hag.zero
                    have a1 : wr.cell? ⟨(ad.add (j * 2)).block, (ad.add (j * 2)).off + 1, none⟩ = some (.bool r.kept) := hag.at_ 0 rfl
                    have i0 : (0 : Int) ≤ (j : Int) := by omega
                    have i1 : (j : Int) < (n : Int) := by omega
                    have HE := Lib.hid he
                    subst hA
                    obtain ⟨rst, kp⟩ := r
                    cases kp with
                    | false =>
                      simp only [Bool.false_eq_true, if_false] at hki
                      have HKI := Lib.hid hki
                      have ex : (rst != rst) = false := by simp
                      clear hr hki he hag
                      go_wp2_with fail
                      refine (HJ.out.read hkw).mono ?_
                      rintro e w6 ⟨rfl, rfl⟩
                      rw [HKI.out, HE.out]
                      go_wp2
                      go_roundw
                      case rel => exact ⟨j + 1, hjn, by go_num, HJ⟩
                      case measure => simp [intOf]; omega
                    | true =>
                      simp only [if_true] at hki
                      by_cases hjf : j < nF
                      · have hx := List.getElem?_eq_getElem (l := F) (i := j) (by rw [← HF.out]; exact hjf)
                        generalize F[j]'(by rw [← HF.out]; exact hjf) = x at hx
                        have hgd : F.getD j rst = x := by rw [List.getD_eq_getElem?_getD, hx]; rfl
                        rw [hgd] at hki
                        obtain ⟨ad1, hA1, hc1⟩ := HJ.out.vals H1.out (u32s_at hx)
                        have HKI := Lib.hid hki
                        have ex : (x != x) = false := by simp
                        have i2 : (j : Int) < (nF : Int) := by omega
                        subst hA1
                        clear hr hki he hag hx hgd
                        go_wp2_with fail
                        refine (HJ.out.read hkw).mono ?_
                        rintro e w6 ⟨rfl, rfl⟩
                        rw [HKI.out, HE.out]
                        go_wp2
                        go_roundw
                        case rel => exact ⟨j + 1, hjn, by go_num, HJ⟩
                        case measure => simp [intOf]; omega
                      · have hgd : F.getD j rst = rst := by rw [List.getD_eq_getElem?_getD, List.getElem?_eq_none (by rw [← HF.out]; omega)]; rfl
                        rw [hgd] at hki
                        have HKI := Lib.hid hki
                        have ex : (rst != rst) = false := by simp
                        have i2 : ¬ ((j : Int) < (nF : Int)) := by omega
                        clear hr hki he hag hgd
                        go_wp2_with fail
                        refine (HJ.out.read hkw).mono ?_
                        rintro e w6 ⟨rfl, rfl⟩
                        rw [HKI.out, HE.out]
                        go_wp2
                        go_roundw
                        case rel => exact ⟨j + 1, hjn, by go_num, HJ⟩
                        case measure => simp [intOf]; omega
                  · have i1 : ¬ ((j : Int) < (n : Int)) := by omega
                    go_wp2_with fail
                    refine (HJ.out.clear).mono ?_
                    rintro e w6 ⟨rfl, hf, -⟩
                    have HC := Lib.hid hf
                    clear hf
                    go_wp2_with fail
                    refine (HC.out.restore).mono ?_
                    rintro e w7 ⟨rfl, hf, -⟩
                    have HC7 := Lib.hid hf
                    clear hf i1
                    go_wp2
                    go_loopw [16] (fun i wr => ∃ j : Nat, j ≤ n ∧ i = .int .i64 j ∧ RowKit.Hid (Fw w wr [b, gn] b gn rs (resets rs) (resets rs))) (fun i _ => n - (intOf i).toNat)
                    case atStart => exact ⟨0, Nat.zero_le _, rfl, HC7⟩
                    case round =>
                      clear HC7 HC HJ
                      obtain ⟨p, hp, rfl, HP⟩ := hrel
                      have he4 : errI rs.length (n : Int) = 4 := errI_no (.inr (by rw [← HN.out]; omega))
                      have he5 : errI rs.length (-1) = 4 := errI_no (.inl (by omega))
                      have HE45 := Lib.hid (And.intro he4 he5)
                      clear he4 he5
                      by_cases hpn : p < n
                      · have hkw : wfI (p : Int) := by unfold wfI; omega
                        have hr := List.getElem?_eq_getElem (l := rs) (i := p) (by rw [← HN.out]; exact hpn)
                        generalize rs[p]'(by rw [← HN.out]; exact hpn) = r at hr
                        have hki := readI_at (resets_at hr)
                        obtain ⟨ad, hA, hag⟩ := HP.out.strs H0.out hr
                        have a0 : wr.cell? (ad.add (p * 2)) = some (.int .u32 r.reset) := hag.zero
                        have i0 : (0 : Int) ≤ (p : Int) := by omega
                        have i1 : (p : Int) < (n : Int) := by omega
                        subst hA
                        obtain ⟨rst, kp⟩ := r
                        have HKI := Lib.hid hki
                        have ex : (rst != rst) = false := by simp
                        clear hr hki hag
                        go_wp2_with fail
                        refine (HP.out.read hkw).mono ?_
                        rintro e w6 ⟨rfl, rfl⟩
                        rw [HKI.out]
                        go_wp2
                        go_roundw
                        case rel => exact ⟨p + 1, hpn, by go_num, HP⟩
                        case measure => simp [intOf]; omega
                      · have i1 : ¬ ((p : Int) < (n : Int)) := by omega
                        go_wp2_with fail
                        refine (HP.out.read (i := (n : Int)) (by unfold wfI; omega)).mono ?_
                        rintro e w6 ⟨rfl, rfl⟩
                        rw [HE45.out.1]
                        go_wp2_with fail
                        refine (HP.out.write (i := -1) 0 (by unfold wfI; omega)).mono ?_
                        rintro e w6 ⟨rfl, hf, -⟩
                        rw [HE45.out.2]
                        have HX := Lib.hid hf
                        clear hf
                        go_wp2
                        go_ret
                        exact ⟨rfl, HX.out.bel⟩

end Go.Proofs.Ytlolnogkndhfnaa
