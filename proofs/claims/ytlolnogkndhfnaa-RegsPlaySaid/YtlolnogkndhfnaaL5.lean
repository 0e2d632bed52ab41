/- all; the walk of catnaplaw9.RegsTwice. -/
import Derived.Test.YtlolnogkndhfnaaL4
import Derived.Test.YtlolnogkndhfnaaRS
namespace Go.Proofs.Ytlolnogkndhfnaa
set_option linter.unusedSimpArgs false
set_option linter.unusedVariables false
open Go.RowKit Go.Maps

/-- a row of words of its own -/
def WordsNew (l : List Int) (n : Nat) (w : World) (e : Ending) (w' : World) : Prop := ∃ A c, e = .returned (.slice A n c) ∧ w'.ownsRow w.heap.size 33 1 (.slice A n c) n (u32s l) ∧ Below w.heap.size w w'
theorem own_vals {w : World} {B n : Nat} {A : Option Addr} {c : Nat} {l : List Int} {hot : List Nat} (h : w.ownsRow B 33 1 (.slice A n c) n (u32s l)) (hn : l.length = n) (hh : ∀ k, k ∈ hot → k < B) : ValsC hot w A (u32s l) := by
  intro hp
  rw [u32s_len, hn] at hp
  obtain ⟨g, rfl, hg, h1, h2⟩ := own_rowN h hp
  refine ⟨_, rfl, h1, fun hm => ?_, fun j v hj => ?_⟩
  · have := hh _ hm
    simp at this
    omega
  · rw [Addr.add_lit, Nat.zero_add]
    exact (h2 j v hj).1
set_option maxRecDepth 100000 in
set_option maxHeartbeats 4000000 in
theorem all_any (Q : List Nat) (b gn : Nat) (rs : List Rgs) (now back : List Int) (w : World) (h : FileIs w Q b gn rs now back) : Calls Try.prog 24 #[.pointer (some ⟨b, 0, none⟩)] w (WordsNew now rs.length w) := by
  have H := Lib.hid h
  have h8 := h.few
  have HL := Lib.hid h.len
  clear h
  go_enter Try.func24, Try.ntmps24
  go_wp2
  go_loopw [3, 4] (fun v i wr => ∃ (k : Nat) (A : Option Addr) (m d : Nat), k ≤ rs.length ∧ i = .int .i64 k ∧ v = .slice A m d ∧ RowKit.Hid (m = k ∧ Below w.heap.size w wr ∧ wr.ownsRow w.heap.size 33 1 (.slice A m d) m (u32s (now.take k)))) (fun _ i _ => rs.length - (intOf i).toNat)
  case atStart => exact ⟨0, none, 0, 0, Nat.zero_le _, rfl, rfl, Lib.hid ⟨rfl, Below.refl _ _, by simpa [u32s] using World.ownsRow_nil _ _ _ _⟩⟩
  case round =>
    obtain ⟨k, A, m, d, hk, rfl, rfl, HR⟩ := hrel
    have HF := Lib.hid (H.out.move (Moved.of_below HR.out.2.1))
    by_cases hlt : k < rs.length
    · have i0 : (0 : Int) ≤ (k : Int) := by omega
      have i1 : (k : Int) < (rs.length : Int) := by omega
      have hkw : wfI (k : Int) := by unfold wfI; omega
      have hz := List.getElem?_eq_getElem (l := now) (i := k) (by rw [HL.out]; exact hlt)
      generalize now[k]'(by rw [HL.out]; exact hlt) = z at hz
      have HKI := Lib.hid (readI_at hz)
      have HSN := Lib.hid (show u32s (now.take (k + 1)) = u32s (now.take k) ++ [.int .u32 z] by rw [List.take_add_one, hz]; exact u32s_snoc _ _)
      obtain ⟨i33, hi, hz0, hzs, hzb⟩ := info_parts Try.info33
      have hown := own_moved (hot := []) HR.out.2.2 (Moved.alloc wr (.cells #[.int .u32 z] 33)) (by simp)
      have HOWN := Lib.hid hown
      have hm8 : m ≤ 8 := by have := HR.out.1; omega
      clear hz hown
      go_wp2_with fail
      refine (many_any Q b gn rs now back _ HF.out).mono ?_
      rintro e w6 ⟨rfl, rfl⟩
      go_wp2_with fail
      refine (read_any Q b gn rs now back (k : Int) _ hkw HF.out).mono ?_
      rintro e w6 ⟨rfl, rfl⟩
      rw [HKI.out]
      go_wp2_with (at_builtin; refine wpList_append_own_at _ rfl _ _ 41 rfl w.heap.size 33 i33 (.int .u32 0) 1 4 Try.underlying41 hi hz0 hzs hzb rfl (by decide) _ _ _ rfl HOWN.out ⟨wr.heap.size, 0, none⟩ 1 1 [.int .u32 z] rfl rfl (cells_new wr _ 33) (by intro u hu; simp at hu; rcases hu with rfl; rfl) (by unfold maxLen; omega) (by omega) (by have := HR.out.2.1.size; simp; omega) ?_; intro v6 w6 hown6 hg6 _ hob6; obtain ⟨A6, c6, rfl⟩ := own_shape' hown6; have HOWN6 := Lib.hid hown6; have HG6 := Lib.hid hg6; clear hown6 hg6 hob6)
      have hbl : ∀ b, (Value.slice A m d).ownBlock = some b → w.heap.size ≤ b := fun b hb => (HOWN.out.lt b hb).1
      have hb6 : Below w.heap.size w w6 := (HR.out.2.1.trans (((Below.refl _ wr).alloc HR.out.2.1.size _).grown HG6.out (by have := HR.out.2.1.size; simp; omega) hbl))
      have HB6 := Lib.hid hb6
      clear hbl hb6
      go_roundw
      case rel => exact ⟨k + 1, A6, m + 1, c6, hlt, by go_num, rfl, Lib.hid ⟨by have := HR.out.1; omega, HB6.out, by rw [HSN.out]; exact HOWN6.out⟩⟩
      case measure => simp [intOf]; omega
    · have hke : k = rs.length := by omega
      have hmk := HR.out.1
      have i1 : ¬ ((k : Int) < (rs.length : Int)) := by omega
      have hown := HR.out.2.2
      rw [hke, show now.take rs.length = now from List.take_of_length_le (by rw [HL.out]; omega)] at hown
      have hmn : m = rs.length := by rw [hmk, hke]
      rw [hmn] at hown
      have HOWN := Lib.hid hown
      have HMN := Lib.hid hmn
      clear hown hmk hke hmn
      go_wp2_with fail
      refine (many_any Q b gn rs now back _ HF.out).mono ?_
      rintro e w6 ⟨rfl, rfl⟩
      go_wp2
      go_ret
      exact ⟨A, d, by rw [HMN.out]; rfl, HOWN.out, HR.out.2.1⟩

/-- what is restored of what was written twice -/
theorem twice_at {rs : List Rgs} {F T : List Int} {i : Nat} {r : Rgs} (h : rs[i]? = some r) : (saveB rs (wroteL (wroteL (resets rs) F) T))[i]? = some (if r.kept = true then T.getD i (F.getD i r.reset) else r.reset) := saveB_at h (wrote_at (wrote_at (resets_at h)))
theorem save_resets (rs : List Rgs) : saveB rs (resets rs) = resets rs := by
  refine List.ext_getElem? fun k => ?_
  cases hr : rs[k]? with
  | none =>
    have hl : rs.length ≤ k := by rcases Nat.lt_or_ge k rs.length with h | h; · rw [List.getElem?_eq_getElem h] at hr; cases hr
                                  · exact h
    rw [List.getElem?_eq_none (by rw [saveB_len (resets_len rs)]; exact hl), List.getElem?_eq_none (by rw [resets_len]; exact hl)]
  | some r => rw [saveB_at hr (resets_at hr), resets_at hr]; simp
/-- the three states of writing twice -/
def nowT (rs : List Rgs) (F T : List Int) (k : Nat) : List Int := [resets rs, wroteL (resets rs) F, wroteL (wroteL (resets rs) F) T].getD k []
def backT (rs : List Rgs) (F T : List Int) (k : Nat) : List Int := [resets rs, saveB rs (wroteL (resets rs) F), saveB rs (wroteL (wroteL (resets rs) F) T)].getD k []

set_option maxRecDepth 1000000 in
set_option maxHeartbeats 16000000 in
theorem twice_any (A0 A1 A2 : Option Addr) (c0 c1 c2 : Nat) (rs : List Rgs) (F T : List Int) (w : World) (l0 : rs.length ≤ maxLen) (l1 : F.length ≤ maxLen) (l2 : T.length ≤ maxLen)
    (h0 : StrsAt RgsV 2 w w.heap.size A0 rs) (h1 : ValsAt w w.heap.size A1 (u32s F)) (h2 : ValsAt w w.heap.size A2 (u32s T)) :
    Calls Try.prog 6 #[.slice A0 rs.length c0, .slice A1 F.length c1, .slice A2 T.length c2] w (TellsB true w) := by
  unfold maxLen at l0 l1 l2
  obtain ⟨nF, hF⟩ : ∃ nF, nF = F.length := ⟨_, rfl⟩
  obtain ⟨nT, hT⟩ : ∃ nT, nT = T.length := ⟨_, rfl⟩
  obtain ⟨n, hn⟩ : ∃ n, n = rs.length := ⟨_, rfl⟩
  have HN := Lib.hid hn
  rw [← hF] at l1 ⊢
  rw [← hT] at l2 ⊢
  have HF := Lib.hid hF
  have HT := Lib.hid hT
  have H0 := Lib.hid h0
  have H1 := Lib.hid h1
  have H2 := Lib.hid h2
  by_cases h8 : 8 < rs.length
  · have i8 : (8 : Int) < (rs.length : Int) := by omega
    clear h0 h1 h2 hF hT hn
    go_enter Try.func6, Try.ntmps6
    go_wp2_with fail
    refine (shown_any _).mono ?_
    rintro e w1 ⟨rfl, hb1⟩
    have HB1 := Lib.hid hb1
    clear hb1
    go_wp2
    go_ret
    exact ⟨rfl, HB1.out⟩
  · have i8 : ¬ ((8 : Int) < (rs.length : Int)) := by omega
    clear h0 h1 h2 hF hT
    go_enter Try.func6, Try.ntmps6
    go_wp2_with fail
    refine (shown_any _).mono ?_
    rintro e w1 ⟨rfl, hb1⟩
    have HB1 := Lib.hid hb1
    clear hb1
    go_wp2_with fail
    refine (new_fw [] A0 c0 rs w w1 (by omega) (by simp) H0.out HB1.out).mono ?_
    rintro e w3 ⟨b, gn, rfl, hf, -, -, -⟩
    have H3 := Lib.hid hf
    rw [← hn] at i8 h8 ⊢
    clear hf HB1 hn l0
    go_wp2
    go_loopw [10] (fun i wr => ∃ k : Nat, k ≤ 2 ∧ i = .int .i64 k ∧ RowKit.Hid (Fw w wr [b, gn] b gn rs (nowT rs F T k) (backT rs F T k))) (fun i _ => 2 - (intOf i).toNat)
    case atStart => exact ⟨0, by omega, rfl, H3⟩
    case round =>
      clear H3
      obtain ⟨k, hk, rfl, HR⟩ := hrel
      obtain h | h | h : k = 0 ∨ k = 1 ∨ k = 2 := by omega
      · have HR0 : RowKit.Hid (Fw w wr [b, gn] b gn rs (resets rs) (resets rs)) := Lib.hid (by have := HR.out; rw [h] at this; exact this)
        have HK := Lib.hid h
        have k2 : (k : Int) < 2 := by omega
        have k0 : ((k : Int) == 1) = false := by rw [h]; rfl
        clear HR h
        go_wp2
        go_loopw [12] (fun i wr => ∃ q : Nat, q ≤ n ∧ q ≤ nF ∧ i = .int .i64 q ∧ RowKit.Hid (Fw w wr [b, gn] b gn rs (upToL (resets rs) F q) (resets rs))) (fun i _ => n - (intOf i).toNat)
        case atStart => exact ⟨0, Nat.zero_le _, Nat.zero_le _, rfl, Lib.hid (by rw [upToL_zero]; exact HR0.out)⟩
        case round =>
          clear HR0 k0
          obtain ⟨q, hq, hqF, rfl, HQ⟩ := hrel
          by_cases hgo : q < n ∧ q < nF
          · obtain ⟨g1, g2⟩ := hgo
            have hkw : wfI (q : Int) := by unfold wfI; omega
            have hx := List.getElem?_eq_getElem (l := F) (i := q) (by rw [← HF.out]; exact g2)
            generalize F[q]'(by rw [← HF.out]; exact g2) = x at hx
            obtain ⟨ad, hA, hc⟩ := HQ.out.vals H1.out (u32s_at hx)
            have hnx := upTo_succ (now := resets rs) (back := F) (k := q) (by rw [resets_len, ← HN.out]; exact g1) hx
            have hwt : writeT (upToL (resets rs) F q) (q : Int) x = upToL (resets rs) F (q + 1) := by rw [hnx]; exact writeT_at x (by rw [HQ.out.file.len, ← HN.out]; exact g1)
            have HWT := Lib.hid hwt
            subst hA
            have i0 : (0 : Int) ≤ (q : Int) := by omega
            have i1 : (q : Int) < (n : Int) := by omega
            have i2 : (q : Int) < (nF : Int) := by omega
            clear hx hnx hwt
            go_wp2_with fail
            refine (HQ.out.write x hkw).mono ?_
            rintro e w4 ⟨rfl, hf, -⟩
            rw [HWT.out] at hf
            have HW := Lib.hid hf
            clear hf
            go_wp2
            go_roundw
            case rel => exact ⟨q + 1, g1, g2, by go_num, HW⟩
            case measure => simp [intOf]; omega
          · have hke : q = min (resets rs).length F.length := by rw [resets_len, ← HN.out, ← HF.out]; omega
            have ew : wroteL (resets rs) F = upToL (resets rs) F q := by rw [hke]; rfl
            have HRR := Lib.hid (show Fw w wr [b, gn] b gn rs (wroteL (resets rs) F) (resets rs) by rw [ew]; exact HQ.out)
            have hex : (¬ ((q : Int) < (n : Int))) ∨ ((q : Int) < (n : Int) ∧ ¬ ((q : Int) < (nF : Int))) := by omega
            clear hgo hke HQ ew
            rcases hex with i1 | ⟨i1, i2⟩
            all_goals
              go_wp2_with fail
              refine (HRR.out.save).mono ?_
              rintro e w4 ⟨rfl, hf, -⟩
              have HS : RowKit.Hid (Fw w w4 [b, gn] b gn rs (nowT rs F T 1) (backT rs F T 1)) := Lib.hid hf
              clear hf HRR
              go_wp2
              go_roundw
              case rel => exact ⟨k + 1, by have := HK.out; omega, by go_num, by rw [HK.out]; exact HS⟩
              case measure => simp [intOf]; have := HK.out; omega
      · have HR0 : RowKit.Hid (Fw w wr [b, gn] b gn rs (wroteL (resets rs) F) (saveB rs (wroteL (resets rs) F))) := Lib.hid (by have := HR.out; rw [h] at this; exact this)
        have HK := Lib.hid h
        have k2 : (k : Int) < 2 := by omega
        have k0 : ((k : Int) == 1) = true := by rw [h]; rfl
        clear HR h
        go_wp2
        go_loopw [12] (fun i wr => ∃ q : Nat, q ≤ n ∧ q ≤ nT ∧ i = .int .i64 q ∧ RowKit.Hid (Fw w wr [b, gn] b gn rs (upToL (wroteL (resets rs) F) T q) (saveB rs (wroteL (resets rs) F)))) (fun i _ => n - (intOf i).toNat)
        case atStart => exact ⟨0, Nat.zero_le _, Nat.zero_le _, rfl, Lib.hid (by rw [upToL_zero]; exact HR0.out)⟩
        case round =>
          clear HR0 k0
          obtain ⟨q, hq, hqF, rfl, HQ⟩ := hrel
          by_cases hgo : q < n ∧ q < nT
          · obtain ⟨g1, g2⟩ := hgo
            have hkw : wfI (q : Int) := by unfold wfI; omega
            have hx := List.getElem?_eq_getElem (l := T) (i := q) (by rw [← HT.out]; exact g2)
            generalize T[q]'(by rw [← HT.out]; exact g2) = x at hx
            obtain ⟨ad, hA, hc⟩ := HQ.out.vals H2.out (u32s_at hx)
            have hnx := upTo_succ (now := wroteL (resets rs) F) (back := T) (k := q) (by rw [wrote_len, resets_len, ← HN.out]; exact g1) hx
            have hwt : writeT (upToL (wroteL (resets rs) F) T q) (q : Int) x = upToL (wroteL (resets rs) F) T (q + 1) := by rw [hnx]; exact writeT_at x (by rw [HQ.out.file.len, ← HN.out]; exact g1)
            have HWT := Lib.hid hwt
            subst hA
            have i0 : (0 : Int) ≤ (q : Int) := by omega
            have i1 : (q : Int) < (n : Int) := by omega
            have i2 : (q : Int) < (nT : Int) := by omega
            clear hx hnx hwt
            go_wp2_with fail
            refine (HQ.out.write x hkw).mono ?_
            rintro e w4 ⟨rfl, hf, -⟩
            rw [HWT.out] at hf
            have HW := Lib.hid hf
            clear hf
            go_wp2
            go_roundw
            case rel => exact ⟨q + 1, g1, g2, by go_num, HW⟩
            case measure => simp [intOf]; omega
          · have hke : q = min (wroteL (resets rs) F).length T.length := by rw [wrote_len, resets_len, ← HN.out, ← HT.out]; omega
            have ew : wroteL (wroteL (resets rs) F) T = upToL (wroteL (resets rs) F) T q := by rw [hke]; rfl
            have HRR := Lib.hid (show Fw w wr [b, gn] b gn rs (wroteL (wroteL (resets rs) F) T) (saveB rs (wroteL (resets rs) F)) by rw [ew]; exact HQ.out)
            have hex : (¬ ((q : Int) < (n : Int))) ∨ ((q : Int) < (n : Int) ∧ ¬ ((q : Int) < (nT : Int))) := by omega
            clear hgo hke HQ ew
            rcases hex with i1 | ⟨i1, i2⟩
            all_goals
              go_wp2_with fail
              refine (HRR.out.save).mono ?_
              rintro e w4 ⟨rfl, hf, -⟩
              have HS : RowKit.Hid (Fw w w4 [b, gn] b gn rs (nowT rs F T 2) (backT rs F T 2)) := Lib.hid hf
              clear hf HRR
              go_wp2
              go_roundw
              case rel => exact ⟨k + 1, by have := HK.out; omega, by go_num, by rw [HK.out]; exact HS⟩
              case measure => simp [intOf]; have := HK.out; omega
      · have HR0 : RowKit.Hid (Fw w wr [b, gn] b gn rs (wroteL (wroteL (resets rs) F) T) (saveB rs (wroteL (wroteL (resets rs) F) T))) := Lib.hid (by have := HR.out; rw [h] at this; exact this)
        have k2 : ¬ ((k : Int) < 2) := by omega
        clear h HR
        go_wp2_with fail
        refine (HR0.out.restore).mono ?_
        rintro e w4 ⟨rfl, hf, -⟩
        have H4 := Lib.hid hf
        clear hf HR0
        go_wp2_with fail
        refine (all_any _ _ _ _ _ _ _ H4.out.file).mono ?_
        rintro e w5 ⟨Aa, ca, rfl, ho, hb⟩
        rw [← HN.out] at ho ⊢
        have hB2l : (saveB rs (wroteL (wroteL (resets rs) F) T)).length = n := by rw [saveB_len (by rw [wrote_len, wrote_len, resets_len]), ← HN.out]
        have HVa := Lib.hid (own_vals (hot := [b, gn]) ho hB2l H4.out.file.hQ)
        have H5 := Lib.hid (H4.out.calm (Moved.of_below hb))
        have HB2L := Lib.hid hB2l
        clear ho hb H4 hB2l
        go_wp2_with fail
        refine (H5.out.restore).mono ?_
        rintro e w6 ⟨rfl, hf, hm⟩
        have H6 := Lib.hid hf
        have HVa6 := Lib.hid (HVa.out.move hm)
        clear hf hm H5 HVa
        go_wp2_with fail
        refine (all_any _ _ _ _ _ _ _ H6.out.file).mono ?_
        rintro e w7 ⟨Ab, cb, rfl, ho, hb⟩
        rw [← HN.out] at ho ⊢
        have HVb := Lib.hid (own_vals (hot := [b, gn]) ho HB2L.out H6.out.file.hQ)
        have HVa7 := Lib.hid (HVa6.out.move (Moved.of_below hb))
        have H7 := Lib.hid (H6.out.calm (Moved.of_below hb))
        clear ho hb H6 HVa6
        go_wp2_with fail
        refine (H7.out.clear).mono ?_
        rintro e w8 ⟨rfl, hf, hm⟩
        have H8 := Lib.hid hf
        have HV8 := Lib.hid (And.intro (HVa7.out.move hm) (HVb.out.move hm))
        clear hf hm H7 HVa7 HVb
        go_wp2_with fail
        refine (H8.out.save).mono ?_
        rintro e w9 ⟨rfl, hf, hm⟩
        rw [save_resets] at hf
        have H9 := Lib.hid (And.intro hf (And.intro (HV8.out.1.move hm) (HV8.out.2.move hm)))
        clear hf hm H8 HV8
        go_wp2
        go_loopw [15] (fun i wr => ∃ q : Nat, q ≤ n ∧ i = .int .i64 q ∧ RowKit.Hid (∃ now, Fw w wr [b, gn] b gn rs now (resets rs) ∧ ValsC [b, gn] wr Aa (u32s (saveB rs (wroteL (wroteL (resets rs) F) T))) ∧ ValsC [b, gn] wr Ab (u32s (saveB rs (wroteL (wroteL (resets rs) F) T))))) (fun i _ => n - (intOf i).toNat)
        case atStart => exact ⟨0, Nat.zero_le _, rfl, Lib.hid ⟨_, H9.out⟩⟩
        case round =>
          clear H9
          obtain ⟨q, hq, rfl, HQ⟩ := hrel
          obtain ⟨now, hnow⟩ := HQ.out
          have HQ2 := Lib.hid hnow
          clear HQ hnow
          by_cases hqn : q < n
          · have hkw : wfI (q : Int) := by unfold wfI; omega
            have i0 : (0 : Int) ≤ (q : Int) := by omega
            have i1 : (q : Int) < (n : Int) := by omega
            go_wp2_with fail
            refine (HQ2.out.1.write 12345 hkw).mono ?_
            rintro e w10 ⟨rfl, hf, hm⟩
            have HW := Lib.hid (And.intro hf (And.intro (HQ2.out.2.1.move hm) (HQ2.out.2.2.move hm)))
            clear hf hm
            go_wp2
            go_roundw
            case rel => exact ⟨q + 1, hqn, by go_num, Lib.hid ⟨_, HW.out⟩⟩
            case measure => simp [intOf]; omega
          · have i1 : ¬ ((q : Int) < (n : Int)) := by omega
            go_wp2_with fail
            refine (HQ2.out.1.restore).mono ?_
            rintro e w10 ⟨rfl, hf, hm⟩
            have H10 := Lib.hid (And.intro hf (And.intro (HQ2.out.2.1.move hm) (HQ2.out.2.2.move hm)))
            clear hf hm HQ2
            go_wp2_with fail
            refine (all_any _ _ _ _ _ _ _ H10.out.1.file).mono ?_
            rintro e w11 ⟨Ac, cc, rfl, ho, hb⟩
            rw [← HN.out] at ho ⊢
            have HVc := own_vals (hot := [b, gn]) ho (by rw [resets_len, ← HN.out]) H10.out.1.file.hQ
            have H11 := Lib.hid (And.intro (H10.out.1.calm (Moved.of_below hb)) (And.intro (H10.out.2.1.move (Moved.of_below hb)) (And.intro (H10.out.2.2.move (Moved.of_below hb)) HVc)))
            have en : ((n : Int) != (n : Int)) = false := by simp
            clear ho hb H10 HVc i1 hqn hq
            go_wp2
            go_loopw [17] (fun i wr => ∃ j : Nat, j ≤ n ∧ i = .int .i64 j ∧ RowKit.Hid (Fw w wr [b, gn] b gn rs (resets rs) (resets rs) ∧ ValsC [b, gn] wr Aa (u32s (saveB rs (wroteL (wroteL (resets rs) F) T))) ∧ ValsC [b, gn] wr Ab (u32s (saveB rs (wroteL (wroteL (resets rs) F) T))) ∧ ValsC [b, gn] wr Ac (u32s (resets rs)))) (fun i _ => n - (intOf i).toNat)
            case atStart => exact ⟨0, Nat.zero_le _, rfl, H11⟩
            case round =>
              clear H11
              obtain ⟨j, hj, rfl, HJ⟩ := hrel
              by_cases hjn : j < n
              · have hr := List.getElem?_eq_getElem (l := rs) (i := j) (by rw [← HN.out]; exact hjn)
                generalize rs[j]'(by rw [← HN.out]; exact hjn) = r at hr
                have hB := twice_at (F := F) (T := T) hr
                have hC := resets_at hr
                obtain ⟨ad, hA, hag⟩ := HJ.out.1.strs H0.out hr
                have a0 : wr.cell? (ad.add (j * 2)) = some (.int .u32 r.reset) := hag.zero
                have a1 : wr.cell? ⟨(ad.add (j * 2)).block, (ad.add (j * 2)).off + 1, none⟩ = some (.bool r.kept) := hag.at_ 0 rfl
                have i0 : (0 : Int) ≤ (j : Int) := by omega
                have i1 : (j : Int) < (n : Int) := by omega
                obtain ⟨aa, hAa, -, -, ca0⟩ := HJ.out.2.1.at_ (u32s_at hB)
                obtain ⟨ab, hAb, -, -, cb0⟩ := HJ.out.2.2.1.at_ (u32s_at hB)
                obtain ⟨ac, hAc, -, -, cc0⟩ := HJ.out.2.2.2.at_ (u32s_at hC)
                subst hA hAa hAb hAc
                obtain ⟨rst, kp⟩ := r
                have er : (rst != rst) = false := by simp
                cases kp with
                | false =>
                  simp only [Bool.false_eq_true, if_false] at ca0 cb0
                  clear hr hB hC hag
                  go_wp2
                  go_quiet (fail)
                  go_wp2
                  go_roundw
                  case rel => exact ⟨j + 1, hjn, by go_num, Lib.hid ⟨HJ.out.1.calm (Moved.drewN _ _), HJ.out.2.1.move (Moved.drewN _ _), HJ.out.2.2.1.move (Moved.drewN _ _), HJ.out.2.2.2.move (Moved.drewN _ _)⟩⟩
                  case measure => simp [intOf]; omega
                | true =>
                  simp only [if_true] at ca0 cb0
                  by_cases hjT : j < nT
                  · have hy := List.getElem?_eq_getElem (l := T) (i := j) (by rw [← HT.out]; exact hjT)
                    generalize T[j]'(by rw [← HT.out]; exact hjT) = y at hy
                    have hg : ∀ d, T.getD j d = y := fun d => by rw [List.getD_eq_getElem?_getD, hy]; rfl
                    rw [hg] at ca0 cb0
                    obtain ⟨ay, hAy, hcy⟩ := HJ.out.1.vals H2.out (u32s_at hy)
                    subst hAy
                    have ey : (y != y) = false := by simp
                    have iT : (j : Int) < (nT : Int) := by omega
                    clear hy hg
                    by_cases hjF : j < nF
                    · have hx := List.getElem?_eq_getElem (l := F) (i := j) (by rw [← HF.out]; exact hjF)
                      generalize F[j]'(by rw [← HF.out]; exact hjF) = x at hx
                      obtain ⟨ax, hAx, hcx⟩ := HJ.out.1.vals H1.out (u32s_at hx)
                      subst hAx
                      have iF : (j : Int) < (nF : Int) := by omega
                      clear hx
                      clear hr hB hC hag
                      go_wp2
                      go_quiet (fail)
                      go_wp2
                      go_roundw
                      case rel => exact ⟨j + 1, hjn, by go_num, Lib.hid ⟨HJ.out.1.calm (Moved.drewN _ _), HJ.out.2.1.move (Moved.drewN _ _), HJ.out.2.2.1.move (Moved.drewN _ _), HJ.out.2.2.2.move (Moved.drewN _ _)⟩⟩
                      case measure => simp [intOf]; omega
                    · have iF : ¬ ((j : Int) < (nF : Int)) := by omega
                      clear hr hB hC hag
                      go_wp2
                      go_quiet (fail)
                      go_wp2
                      go_roundw
                      case rel => exact ⟨j + 1, hjn, by go_num, Lib.hid ⟨HJ.out.1.calm (Moved.drewN _ _), HJ.out.2.1.move (Moved.drewN _ _), HJ.out.2.2.1.move (Moved.drewN _ _), HJ.out.2.2.2.move (Moved.drewN _ _)⟩⟩
                      case measure => simp [intOf]; omega
                  · have hg : ∀ d, T.getD j d = d := fun d => by rw [List.getD_eq_getElem?_getD, List.getElem?_eq_none (by rw [← HT.out]; omega)]; rfl
                    rw [hg] at ca0 cb0
                    have iT : ¬ ((j : Int) < (nT : Int)) := by omega
                    clear hg
                    by_cases hjF : j < nF
                    · have hx := List.getElem?_eq_getElem (l := F) (i := j) (by rw [← HF.out]; exact hjF)
                      generalize F[j]'(by rw [← HF.out]; exact hjF) = x at hx
                      have hgF : F.getD j rst = x := by rw [List.getD_eq_getElem?_getD, hx]; rfl
                      rw [hgF] at ca0 cb0
                      obtain ⟨ax, hAx, hcx⟩ := HJ.out.1.vals H1.out (u32s_at hx)
                      subst hAx
                      have ex : (x != x) = false := by simp
                      have iF : (j : Int) < (nF : Int) := by omega
                      clear hx hgF
                      clear hr hB hC hag
                      go_wp2
                      go_quiet (fail)
                      go_wp2
                      go_roundw
                      case rel => exact ⟨j + 1, hjn, by go_num, Lib.hid ⟨HJ.out.1.calm (Moved.drewN _ _), HJ.out.2.1.move (Moved.drewN _ _), HJ.out.2.2.1.move (Moved.drewN _ _), HJ.out.2.2.2.move (Moved.drewN _ _)⟩⟩
                      case measure => simp [intOf]; omega
                    · have hgF : F.getD j rst = rst := by rw [List.getD_eq_getElem?_getD, List.getElem?_eq_none (by rw [← HF.out]; omega)]; rfl
                      rw [hgF] at ca0 cb0
                      have iF : ¬ ((j : Int) < (nF : Int)) := by omega
                      clear hgF
                      clear hr hB hC hag
                      go_wp2
                      go_quiet (fail)
                      go_wp2
                      go_roundw
                      case rel => exact ⟨j + 1, hjn, by go_num, Lib.hid ⟨HJ.out.1.calm (Moved.drewN _ _), HJ.out.2.1.move (Moved.drewN _ _), HJ.out.2.2.1.move (Moved.drewN _ _), HJ.out.2.2.2.move (Moved.drewN _ _)⟩⟩
                      case measure => simp [intOf]; omega
              · have i1 : ¬ ((j : Int) < (n : Int)) := by omega
                go_wp2
                go_ret
                exact ⟨rfl, HJ.out.1.bel⟩

end Go.Proofs.Ytlolnogkndhfnaa
