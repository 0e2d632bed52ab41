/- The walk of catnaplaw9.RegsPlay. -/
import Derived.Test.YtlolnogkndhfnaaQ5
import Derived.Test.YtlolnogkndhfnaaL2
namespace Go.Proofs.Ytlolnogkndhfnaa
set_option linter.unusedSimpArgs false
set_option linter.unusedVariables false
open Go.RowKit Go.Maps

theorem pickQ (c n : Int) (w : World) (m : Nat) (hc : wfI c) (h0 : 0 < n) (h1 : n ≤ 1000000) {q : Int} (hq : pickP c n = q) : Calls Try.prog 12 #[.int .i64 c, .int .i64 n] (w.drewN m) fun e w'' => e = .returned (.int .i64 q) ∧ ∃ m, w'' = w.drewN m :=
  (pick_any c n _ hc h0 h1).mono fun e w' ⟨he, hw⟩ => ⟨by rw [he, hq], m, hw.symm⟩
theorem Both.act {w3 wr : World} {Q : List Nat} {b gn rb gv : Nat} {rs : List Rgs} {now back nowR S : List Int} {sv : Bool} {A : Option Addr} {acts : List Acts} {k : Nat} {x : Acts} (h : Both w3 wr Q b gn rb gv rs now back nowR sv S) (hV : StrsAt ActV 3 w3 w3.heap.size A acts) (hk : acts[k]? = some x) :
    ∃ ad, A = some ad ∧ wr.cell? (ad.add (k * 3)) = some (.int .i64 x.op) ∧ wr.cell? ⟨(ad.add (k * 3)).block, (ad.add (k * 3)).off + 1, none⟩ = some (.int .i64 x.i) ∧ wr.cell? ⟨(ad.add (k * 3)).block, (ad.add (k * 3)).off + 2, none⟩ = some (.int .u32 x.v) := h.f.act hV hk
/-- writing in both, by stages -/
def stN (l : List (List Int)) (i : Nat) : List Int := l.getD i []

set_option maxRecDepth 1000000 in
set_option maxHeartbeats 16000000 in
theorem play_any (A0 A1 : Option Addr) (c0 c1 : Nat) (rs : List Rgs) (ax : List Acts) (w : World) (l0 : rs.length ≤ maxLen) (l1 : ax.length ≤ maxLen)
    (h0 : StrsAt RgsV 2 w w.heap.size A0 rs) (h1 : StrsAt ActV 3 w w.heap.size A1 ax) (k1 : ∀ x, x ∈ ax → ActW x) :
    Calls Try.prog 3 #[.slice A0 rs.length c0, .slice A1 ax.length c1] w (TellsB true w) := by
  have HML := Lib.hid l0
  unfold maxLen at l0 l1
  have H0 := Lib.hid h0
  have H1 := Lib.hid h1
  have K1 := Lib.hid k1
  by_cases hbig : 150 < ax.length ∨ (¬ 150 < ax.length ∧ 40 < rs.length)
  · clear h0 h1 k1
    rcases hbig with h8 | ⟨h8, h9⟩
    · have i8 : (150 : Int) < (ax.length : Int) := by omega
      go_enter Try.func3, Try.ntmps3
      go_wp2_with fail
      refine (shown_any _).mono ?_
      rintro e w1 ⟨rfl, hb1⟩
      have HB1 := Lib.hid hb1
      clear hb1
      go_wp2
      go_ret
      exact ⟨rfl, HB1.out⟩
    · have i8 : ¬ ((150 : Int) < (ax.length : Int)) := by omega
      have i9 : (40 : Int) < (rs.length : Int) := by omega
      go_enter Try.func3, Try.ntmps3
      go_wp2_with fail
      refine (shown_any _).mono ?_
      rintro e w1 ⟨rfl, hb1⟩
      have HB1 := Lib.hid hb1
      clear hb1
      go_wp2
      go_ret
      exact ⟨rfl, HB1.out⟩
  · have i8 : ¬ ((150 : Int) < (ax.length : Int)) := by omega
    have i9 : ¬ ((40 : Int) < (rs.length : Int)) := by omega
    obtain ⟨nX, hnX⟩ : ∃ nX, nX = ax.length := ⟨_, rfl⟩
    rw [← hnX] at i8 l1 ⊢
    have HNX := Lib.hid hnX
    clear h0 h1 k1 hbig hnX
    by_cases h9 : 8 < rs.length
    · go_enter Try.func3, Try.ntmps3
      go_wp2_with fail
      refine (shown_any _).mono ?_
      rintro e w1 ⟨rfl, hb1⟩
      have HB1 := Lib.hid hb1
      clear hb1
      go_wp2_with fail
      refine (new_full A0 rs.length c0 w1 h9 HML.out).mono ?_
      rintro e w2 ⟨rfl, rfl⟩
      go_wp2_with fail
      refine (rnew_full A0 rs.length c0 w1 h9 HML.out).mono ?_
      rintro e w2 ⟨rfl, rfl⟩
      go_wp2
      go_ret
      exact ⟨rfl, HB1.out⟩
    · have hn8 : rs.length ≤ 8 := by omega
      go_enter Try.func3, Try.ntmps3
      go_wp2_with fail
      refine (shown_any _).mono ?_
      rintro e w1 ⟨rfl, hb1⟩
      have HB1 := Lib.hid hb1
      clear hb1
      go_wp2_with fail
      refine (new_fw [] A0 c0 rs w w1 hn8 (by simp) H0.out HB1.out).mono ?_
      rintro e w2 ⟨b, gn, rfl, hf, -, -, -⟩
      have HF := Lib.hid hf
      clear hf
      go_wp2_with fail
      refine (rnew_ok [b, gn] A0 c0 rs w2 hn8 HF.out.file.hQ ((H0.out.below HF.out.bel (Nat.le_refl _)).more HF.out.bel.size)).mono ?_
      rintro e w3 ⟨rb, gv, X, rfl, hr1, hr2, hX, hr, hb3⟩
      have hlt := HF.out.file.lt
      have hm3 : Moved [] w2 w3 := Moved.of_below hb3
      have HA : RowKit.Hid (Alike w w3 b gn rb rs) := Lib.hid ⟨X ++ [b, gn], gv, resets rs, false, [], ⟨⟨HF.out.file.grow hm3 (by simp) (by simp) (by simp) hX, HF.out.bel.trans (hm3.below (by simp) HF.out.bel.size), HF.out.lo⟩, hr, by simp; omega, by simp; omega, Nat.le_trans HF.out.bel.size hr1, Nat.le_trans HF.out.bel.size hr2⟩⟩
      clear hr1 hr2 hX hr hb3 hlt hm3 HF HB1
      go_wp2
      go_loopw [10] (fun i wr => ∃ k : Nat, k ≤ nX ∧ i = .int .i64 k ∧ RowKit.Hid (Alike w wr b gn rb rs)) (fun i _ => nX - (intOf i).toNat)
      case atStart => exact ⟨0, Nat.zero_le _, rfl, HA⟩
      case round =>
        clear HA
        obtain ⟨k, hk, rfl, HR⟩ := hrel
        obtain ⟨Q, gv, now, sv, S, hB⟩ := HR.out
        have HB := Lib.hid hB
        clear HR hB
        by_cases hlt : k < nX
        · have hx := List.getElem?_eq_getElem (l := ax) (i := k) (by rw [← HNX.out]; exact hlt)
          have hxw := K1.out _ (List.mem_of_getElem? hx)
          generalize ax[k]'(by rw [← HNX.out]; exact hlt) = x at hx hxw
          obtain ⟨ad, hA, a0, a1, a2⟩ := HB.out.act H1.out hx
          have HX := Lib.hid hx
          obtain ⟨op, i, v⟩ := x
          obtain ⟨ho, hi, hv⟩ := hxw
          simp only at ho hi hv a0 a1 a2
          have i0 : (0 : Int) ≤ (k : Int) := by omega
          have i1 : (k : Int) < (nX : Int) := by omega
          have hp := placeP_wf ⟨op, i, v⟩ (n := rs.length) (by omega)
          obtain ⟨p, hpp⟩ : ∃ p, p = placeP ⟨op, i, v⟩ rs.length := ⟨_, rfl⟩
          rw [← hpp] at hp
          have hpq := pickP_lo (c := i) (n := (rs.length : Int) + 2) (by omega)
          have hpr := pickP_hi (c := i) (n := (rs.length : Int) + 2) (by omega)
          have hpe : pickP i ((rs.length : Int) + 2) = p + 1 := by rw [hpp]; show pickP i _ = pickP i _ - 1 + 1; omega
          have HPE := Lib.hid hpe
          have i2 : IntKind.i64.wrap ((rs.length : Int) + 2) = (rs.length : Int) + 2 := by rw [IntWalk.i64_in]; omega
          have i3 : IntKind.i64.wrap (p + 1 - 1) = p := by rw [IntWalk.i64_in] <;> omega
          have q1 := pickP_lo (c := op) (n := 6) (by omega)
          have q2 := pickP_hi (c := op) (n := 6) (by omega)
          obtain ⟨m, hm⟩ : ∃ m, pickP op 6 = m := ⟨_, rfl⟩
          rw [hm] at q1 q2
          have HM := Lib.hid hm
          have HI := Lib.hid hi
          have HO := Lib.hid ho
          obtain ⟨hpw, hp1, hp2⟩ := hp
          have HPW := Lib.hid hpw
          subst hA
          clear hx hm hpp hpe hpq hpr hpw hi ho hv
          go_wp2_with fail
          refine (pick_any i ((rs.length : Int) + 2) _ HI.out (by omega) (by omega)).mono ?_
          rintro e w' ⟨rfl, rfl⟩
          rw [HPE.out]
          go_wp2_with fail
          refine (pick_any op 6 _ HO.out (by omega) (by omega)).mono ?_
          rintro e w' ⟨rfl, rfl⟩
          rw [HM.out]
          go_upto_block 2 with (fail)
          go_cut [84] (fun _ wx => RowKit.Hid (Alike w wx b gn rb rs))
          case first =>
            obtain ⟨z, hz⟩ : ∃ z, errI rs.length p = z := ⟨_, rfl⟩
            have HZ := Lib.hid hz
            clear hz i2 i3
            obtain rfl | rfl | rfl | rfl | rfl | rfl : m = 0 ∨ m = 1 ∨ m = 2 ∨ m = 3 ∨ m = 4 ∨ m = 5 := by omega
            · go_wp2
              refine region_stagedP 2 (fun t => match t with | 0 => 7 | _ => 15) (fun i => if i = 7 then some 0 else if i = 15 then some 1 else none) (GPL [isV (.pointer (some ⟨b, 0, none⟩)), isV (.int .i64 p), isV (.slice (some ad) nX c1), isV (.int .i64 (k : Int)), isV (.pointer (some (ad.add (k * 3)))), isV (.pointer (some ⟨(ad.add (k * 3)).block, (ad.add (k * 3)).off + 2, none⟩)), isV (.int .u32 v), isV (.int .i64 z), isV (.pointer (some ⟨rb, 0, none⟩)), isV (.int .i64 p), isV (.slice (some ad) nX c1), isV (.int .i64 (k : Int)), isV (.pointer (some (ad.add (k * 3)))), isV (.pointer (some ⟨(ad.add (k * 3)).block, (ad.add (k * 3)).off + 2, none⟩)), isV (.int .u32 v), isV (.int .i64 z), isV (.bool false)]) (fun u w9 => Both w w9 Q b gn rb gv rs (stN [now, writeT now p v, writeT now p v] u) (backS rs sv S) (stN [now, now, writeT now p v] u) sv S) 153 (by kernel_rfl) rfl (by kernel_rfl) ⟨?ca, ?cb, ?cp⟩ ?cs ?c0 ⟨?s0, ?s1, ?s2, ?s3, ?s4, ?s5, ?s6, ?s7, ?s8, ?s9, ?s10, ?s11, ?s12, ?s13, ?s14, ?s15, ?s16, trivial⟩ ?fin
              case ca =>
                intro i t h
                split at h
                · injection h with h; subst h; rename_i e; exact ⟨by omega, e.symm⟩
                · skip
                  split at h
                  · injection h with h; subst h; rename_i e; exact ⟨by omega, e.symm⟩
                  · cases h
              case cb =>
                intro t ht
                match t, ht with
                | 0, _ => rfl
                | 1, _ => rfl
              case cp =>
                intro t ht
                match t, ht with
                | 0, _ => exact ⟨[7], by kernel_rfl, by simp, rfl⟩
              case cs =>
                intro t ht
                match t, ht with
                | 0, _ => exact (by decide : 7 < 17)
                | 1, _ => exact (by decide : 15 < 17)
              case c0 => exact HB.out.calm (Moved.drew _)
              case s0 =>
                refine stepS_plain rfl rfl (fun T w1 s hT hd hs hW => ?_)
                have ec := evT_const T
                have ef := evT_func T
                have d6 : evT T (.tmp 6) = .pointer (some ⟨b, 0, none⟩) := hT 6 (by kernel_rfl)
                clear hT hd hW
                refine ⟨.pointer (some ⟨b, 0, none⟩), ?_, rfl⟩
                simp only [execOp]
                go_simp
              case s1 =>
                refine stepS_plain rfl rfl (fun T w1 s hT hd hs hW => ?_)
                have ec := evT_const T
                have ef := evT_func T
                have d11 : evT T (.tmp 11) = .int .i64 p := hT 11 (by kernel_rfl)
                clear hT hd hW
                refine ⟨.int .i64 p, ?_, rfl⟩
                simp only [execOp]
                go_simp
              case s2 =>
                refine stepS_plain rfl rfl (fun T w1 s hT hd hs hW => ?_)
                have ec := evT_const T
                have ef := evT_func T
                have d1 : evT T (.tmp 1) = .slice (some ad) nX c1 := hT 1 (by kernel_rfl)
                clear hT hd hW
                refine ⟨.slice (some ad) nX c1, ?_, rfl⟩
                simp only [execOp]
                go_simp
              case s3 =>
                refine stepS_plain rfl rfl (fun T w1 s hT hd hs hW => ?_)
                have ec := evT_const T
                have ef := evT_func T
                have d10 : evT T (.tmp 10) = .int .i64 (k : Int) := hT 10 (by kernel_rfl)
                clear hT hd hW
                refine ⟨.int .i64 (k : Int), ?_, rfl⟩
                simp only [execOp]
                go_simp
              case s4 =>
                refine stepS_plain rfl rfl (fun T w1 s hT hd hs hW => ?_)
                have ec := evT_const T
                have ef := evT_func T
                have d90 : evT T (.tmp 90) = .slice (some ad) nX c1 := (by first | exact hd.1 | exact hd.2.1 | exact hd.2.2.1 | exact hd.2.2.2.1 | exact hd.2.2.2.2.1 | exact hd.2.2.2.2.2.1 | exact hd.2.2.2.2.2.2.1 | exact hd.2.2.2.2.2.2.2.1)
                have d91 : evT T (.tmp 91) = .int .i64 (k : Int) := (by first | exact hd.1 | exact hd.2.1 | exact hd.2.2.1 | exact hd.2.2.2.1 | exact hd.2.2.2.2.1 | exact hd.2.2.2.2.2.1 | exact hd.2.2.2.2.2.2.1 | exact hd.2.2.2.2.2.2.2.1)
                clear hT hd hW
                refine ⟨.pointer (some (ad.add (k * 3))), ?_, rfl⟩
                simp only [execOp]
                go_simp
              case s5 =>
                refine stepS_plain rfl rfl (fun T w1 s hT hd hs hW => ?_)
                have ec := evT_const T
                have ef := evT_func T
                have d92 : evT T (.tmp 92) = .pointer (some (ad.add (k * 3))) := (by first | exact hd.1 | exact hd.2.1 | exact hd.2.2.1 | exact hd.2.2.2.1 | exact hd.2.2.2.2.1 | exact hd.2.2.2.2.2.1 | exact hd.2.2.2.2.2.2.1 | exact hd.2.2.2.2.2.2.2.1)
                clear hT hd hW
                refine ⟨.pointer (some ⟨(ad.add (k * 3)).block, (ad.add (k * 3)).off + 2, none⟩), ?_, rfl⟩
                simp only [execOp]
                go_simp
              case s6 =>
                refine stepS_plain rfl rfl (fun T w1 s hT hd hs hW => ?_)
                have ec := evT_const T
                have ef := evT_func T
                have d93 : evT T (.tmp 93) = .pointer (some ⟨(ad.add (k * 3)).block, (ad.add (k * 3)).off + 2, none⟩) := (by first | exact hd.1 | exact hd.2.1 | exact hd.2.2.1 | exact hd.2.2.2.1 | exact hd.2.2.2.2.1 | exact hd.2.2.2.2.2.1 | exact hd.2.2.2.2.2.2.1 | exact hd.2.2.2.2.2.2.2.1)
                obtain ⟨ad', hA', a0, a1, a2⟩ := hW.act H1.out HX.out
                injection hA' with hA'
                subst hA'
                simp only at a0 a1 a2
                clear hT hd hW
                refine ⟨.int .u32 v, ?_, rfl⟩
                simp only [execOp]
                go_simp
              case s7 =>
                refine stepC_plain 0 rfl rfl (fun T w1 hT hd hW => ?_)
                have ec := evT_const T
                have ef := evT_func T
                have d88 : evT T (.tmp 88) = .pointer (some ⟨b, 0, none⟩) := (by first | exact hd.1 | exact hd.2.1 | exact hd.2.2.1 | exact hd.2.2.2.1 | exact hd.2.2.2.2.1 | exact hd.2.2.2.2.2.1 | exact hd.2.2.2.2.2.2.1 | exact hd.2.2.2.2.2.2.2.1)
                have d89 : evT T (.tmp 89) = .int .i64 p := (by first | exact hd.1 | exact hd.2.1 | exact hd.2.2.1 | exact hd.2.2.2.1 | exact hd.2.2.2.2.1 | exact hd.2.2.2.2.2.1 | exact hd.2.2.2.2.2.2.1 | exact hd.2.2.2.2.2.2.2.1)
                have d94 : evT T (.tmp 94) = .int .u32 v := (by first | exact hd.1 | exact hd.2.1 | exact hd.2.2.1 | exact hd.2.2.2.1 | exact hd.2.2.2.2.1 | exact hd.2.2.2.2.2.1 | exact hd.2.2.2.2.2.2.1 | exact hd.2.2.2.2.2.2.2.1)
                refine ⟨13, #[.pointer (some ⟨b, 0, none⟩), .int .i64 p, .int .u32 v], ?_, ?_⟩
                · clear hT hd hW
                  simp only [execOp, resolve]
                  go_simp
                · have hX : Both w w1 Q b gn rb gv rs now (backS rs sv S) now sv S := hW
                  refine (hX.writeF v HPW.out).mono ?_
                  rintro e w2 ⟨rfl, h2⟩
                  exact ⟨_, rfl, by rw [HZ.out]; rfl, h2⟩
              case s8 =>
                refine stepS_plain rfl rfl (fun T w1 s hT hd hs hW => ?_)
                have ec := evT_const T
                have ef := evT_func T
                have d8 : evT T (.tmp 8) = .pointer (some ⟨rb, 0, none⟩) := hT 8 (by kernel_rfl)
                clear hT hd hW
                refine ⟨.pointer (some ⟨rb, 0, none⟩), ?_, rfl⟩
                simp only [execOp]
                go_simp
              case s9 =>
                refine stepS_plain rfl rfl (fun T w1 s hT hd hs hW => ?_)
                have ec := evT_const T
                have ef := evT_func T
                have d11 : evT T (.tmp 11) = .int .i64 p := hT 11 (by kernel_rfl)
                clear hT hd hW
                refine ⟨.int .i64 p, ?_, rfl⟩
                simp only [execOp]
                go_simp
              case s10 =>
                refine stepS_plain rfl rfl (fun T w1 s hT hd hs hW => ?_)
                have ec := evT_const T
                have ef := evT_func T
                have d1 : evT T (.tmp 1) = .slice (some ad) nX c1 := hT 1 (by kernel_rfl)
                clear hT hd hW
                refine ⟨.slice (some ad) nX c1, ?_, rfl⟩
                simp only [execOp]
                go_simp
              case s11 =>
                refine stepS_plain rfl rfl (fun T w1 s hT hd hs hW => ?_)
                have ec := evT_const T
                have ef := evT_func T
                have d10 : evT T (.tmp 10) = .int .i64 (k : Int) := hT 10 (by kernel_rfl)
                clear hT hd hW
                refine ⟨.int .i64 (k : Int), ?_, rfl⟩
                simp only [execOp]
                go_simp
              case s12 =>
                refine stepS_plain rfl rfl (fun T w1 s hT hd hs hW => ?_)
                have ec := evT_const T
                have ef := evT_func T
                have d98 : evT T (.tmp 98) = .slice (some ad) nX c1 := (by first | exact hd.1 | exact hd.2.1 | exact hd.2.2.1 | exact hd.2.2.2.1 | exact hd.2.2.2.2.1 | exact hd.2.2.2.2.2.1 | exact hd.2.2.2.2.2.2.1 | exact hd.2.2.2.2.2.2.2.1)
                have d99 : evT T (.tmp 99) = .int .i64 (k : Int) := (by first | exact hd.1 | exact hd.2.1 | exact hd.2.2.1 | exact hd.2.2.2.1 | exact hd.2.2.2.2.1 | exact hd.2.2.2.2.2.1 | exact hd.2.2.2.2.2.2.1 | exact hd.2.2.2.2.2.2.2.1)
                clear hT hd hW
                refine ⟨.pointer (some (ad.add (k * 3))), ?_, rfl⟩
                simp only [execOp]
                go_simp
              case s13 =>
                refine stepS_plain rfl rfl (fun T w1 s hT hd hs hW => ?_)
                have ec := evT_const T
                have ef := evT_func T
                have d100 : evT T (.tmp 100) = .pointer (some (ad.add (k * 3))) := (by first | exact hd.1 | exact hd.2.1 | exact hd.2.2.1 | exact hd.2.2.2.1 | exact hd.2.2.2.2.1 | exact hd.2.2.2.2.2.1 | exact hd.2.2.2.2.2.2.1 | exact hd.2.2.2.2.2.2.2.1)
                clear hT hd hW
                refine ⟨.pointer (some ⟨(ad.add (k * 3)).block, (ad.add (k * 3)).off + 2, none⟩), ?_, rfl⟩
                simp only [execOp]
                go_simp
              case s14 =>
                refine stepS_plain rfl rfl (fun T w1 s hT hd hs hW => ?_)
                have ec := evT_const T
                have ef := evT_func T
                have d101 : evT T (.tmp 101) = .pointer (some ⟨(ad.add (k * 3)).block, (ad.add (k * 3)).off + 2, none⟩) := (by first | exact hd.1 | exact hd.2.1 | exact hd.2.2.1 | exact hd.2.2.2.1 | exact hd.2.2.2.2.1 | exact hd.2.2.2.2.2.1 | exact hd.2.2.2.2.2.2.1 | exact hd.2.2.2.2.2.2.2.1)
                obtain ⟨ad', hA', a0, a1, a2⟩ := hW.act H1.out HX.out
                injection hA' with hA'
                subst hA'
                simp only at a0 a1 a2
                clear hT hd hW
                refine ⟨.int .u32 v, ?_, rfl⟩
                simp only [execOp]
                go_simp
              case s15 =>
                refine stepC_plain 1 rfl rfl (fun T w1 hT hd hW => ?_)
                have ec := evT_const T
                have ef := evT_func T
                have d96 : evT T (.tmp 96) = .pointer (some ⟨rb, 0, none⟩) := (by first | exact hd.1 | exact hd.2.1 | exact hd.2.2.1 | exact hd.2.2.2.1 | exact hd.2.2.2.2.1 | exact hd.2.2.2.2.2.1 | exact hd.2.2.2.2.2.2.1 | exact hd.2.2.2.2.2.2.2.1)
                have d97 : evT T (.tmp 97) = .int .i64 p := (by first | exact hd.1 | exact hd.2.1 | exact hd.2.2.1 | exact hd.2.2.2.1 | exact hd.2.2.2.2.1 | exact hd.2.2.2.2.2.1 | exact hd.2.2.2.2.2.2.1 | exact hd.2.2.2.2.2.2.2.1)
                have d102 : evT T (.tmp 102) = .int .u32 v := (by first | exact hd.1 | exact hd.2.1 | exact hd.2.2.1 | exact hd.2.2.2.1 | exact hd.2.2.2.2.1 | exact hd.2.2.2.2.2.1 | exact hd.2.2.2.2.2.2.1 | exact hd.2.2.2.2.2.2.2.1)
                refine ⟨14, #[.pointer (some ⟨rb, 0, none⟩), .int .i64 p, .int .u32 v], ?_, ?_⟩
                · clear hT hd hW
                  simp only [execOp, resolve]
                  go_simp
                · have hX : Both w w1 Q b gn rb gv rs (writeT now p v) (backS rs sv S) now sv S := hW
                  refine (hX.writeR v HPW.out).mono ?_
                  rintro e w2 ⟨rfl, h2⟩
                  exact ⟨_, rfl, by rw [HZ.out]; rfl, h2⟩
              case s16 =>
                refine stepS_plain rfl rfl (fun T w1 s hT hd hs hW => ?_)
                have ec := evT_const T
                have ef := evT_func T
                have d95 : evT T (.tmp 95) = .int .i64 z := (by first | exact hd.1 | exact hd.2.1 | exact hd.2.2.1 | exact hd.2.2.2.1 | exact hd.2.2.2.2.1 | exact hd.2.2.2.2.2.1 | exact hd.2.2.2.2.2.2.1 | exact hd.2.2.2.2.2.2.2.1)
                have d103 : evT T (.tmp 103) = .int .i64 z := (by first | exact hd.1 | exact hd.2.1 | exact hd.2.2.1 | exact hd.2.2.2.1 | exact hd.2.2.2.2.1 | exact hd.2.2.2.2.2.1 | exact hd.2.2.2.2.2.2.1 | exact hd.2.2.2.2.2.2.2.1)
                have ez : (z != z) = false := by simp
                clear hT hd hW
                refine ⟨.bool false, ?_, rfl⟩
                simp only [execOp]
                go_simp
              case fin =>
                intro T w1 hT hW hd
                have e104 : T 104 = .bool false := hd.2.2.2.2.2.2.2.2.2.2.2.2.2.2.2.2.1
                simp only [putL, Act.put, Option.getD_some, List.setIfInBounds_toArray, List.set_cons_zero, List.set_cons_succ]
                have HY : RowKit.Hid (Alike w w1 b gn rb rs) := Lib.hid ⟨Q, gv, writeT now p v, sv, S, hW⟩
                clear hT hd hW
                rw [e104]
                clear e104
                go_wp2_with fail
                go_meet
                exact HY
            · go_wp2
              refine region_stagedP 2 (fun t => match t with | 0 => 7 | _ => 15) (fun i => if i = 7 then some 0 else if i = 15 then some 1 else none) (GPL [isV (.pointer (some ⟨b, 0, none⟩)), isV (.int .i64 p), isV (.slice (some ad) nX c1), isV (.int .i64 (k : Int)), isV (.pointer (some (ad.add (k * 3)))), isV (.pointer (some ⟨(ad.add (k * 3)).block, (ad.add (k * 3)).off + 2, none⟩)), isV (.int .u32 v), isV (.int .i64 z), isV (.pointer (some ⟨rb, 0, none⟩)), isV (.int .i64 p), isV (.slice (some ad) nX c1), isV (.int .i64 (k : Int)), isV (.pointer (some (ad.add (k * 3)))), isV (.pointer (some ⟨(ad.add (k * 3)).block, (ad.add (k * 3)).off + 2, none⟩)), isV (.int .u32 v), isV (.int .i64 z), isV (.bool false)]) (fun u w9 => Both w w9 Q b gn rb gv rs (stN [now, writeT now p v, writeT now p v] u) (backS rs sv S) (stN [now, now, writeT now p v] u) sv S) 153 (by kernel_rfl) rfl (by kernel_rfl) ⟨?ca, ?cb, ?cp⟩ ?cs ?c0 ⟨?s0, ?s1, ?s2, ?s3, ?s4, ?s5, ?s6, ?s7, ?s8, ?s9, ?s10, ?s11, ?s12, ?s13, ?s14, ?s15, ?s16, trivial⟩ ?fin
              case ca =>
                intro i t h
                split at h
                · injection h with h; subst h; rename_i e; exact ⟨by omega, e.symm⟩
                · skip
                  split at h
                  · injection h with h; subst h; rename_i e; exact ⟨by omega, e.symm⟩
                  · cases h
              case cb =>
                intro t ht
                match t, ht with
                | 0, _ => rfl
                | 1, _ => rfl
              case cp =>
                intro t ht
                match t, ht with
                | 0, _ => exact ⟨[7], by kernel_rfl, by simp, rfl⟩
              case cs =>
                intro t ht
                match t, ht with
                | 0, _ => exact (by decide : 7 < 17)
                | 1, _ => exact (by decide : 15 < 17)
              case c0 => exact HB.out.calm (Moved.drew _)
              case s0 =>
                refine stepS_plain rfl rfl (fun T w1 s hT hd hs hW => ?_)
                have ec := evT_const T
                have ef := evT_func T
                have d6 : evT T (.tmp 6) = .pointer (some ⟨b, 0, none⟩) := hT 6 (by kernel_rfl)
                clear hT hd hW
                refine ⟨.pointer (some ⟨b, 0, none⟩), ?_, rfl⟩
                simp only [execOp]
                go_simp
              case s1 =>
                refine stepS_plain rfl rfl (fun T w1 s hT hd hs hW => ?_)
                have ec := evT_const T
                have ef := evT_func T
                have d11 : evT T (.tmp 11) = .int .i64 p := hT 11 (by kernel_rfl)
                clear hT hd hW
                refine ⟨.int .i64 p, ?_, rfl⟩
                simp only [execOp]
                go_simp
              case s2 =>
                refine stepS_plain rfl rfl (fun T w1 s hT hd hs hW => ?_)
                have ec := evT_const T
                have ef := evT_func T
                have d1 : evT T (.tmp 1) = .slice (some ad) nX c1 := hT 1 (by kernel_rfl)
                clear hT hd hW
                refine ⟨.slice (some ad) nX c1, ?_, rfl⟩
                simp only [execOp]
                go_simp
              case s3 =>
                refine stepS_plain rfl rfl (fun T w1 s hT hd hs hW => ?_)
                have ec := evT_const T
                have ef := evT_func T
                have d10 : evT T (.tmp 10) = .int .i64 (k : Int) := hT 10 (by kernel_rfl)
                clear hT hd hW
                refine ⟨.int .i64 (k : Int), ?_, rfl⟩
                simp only [execOp]
                go_simp
              case s4 =>
                refine stepS_plain rfl rfl (fun T w1 s hT hd hs hW => ?_)
                have ec := evT_const T
                have ef := evT_func T
                have d90 : evT T (.tmp 90) = .slice (some ad) nX c1 := (by first | exact hd.1 | exact hd.2.1 | exact hd.2.2.1 | exact hd.2.2.2.1 | exact hd.2.2.2.2.1 | exact hd.2.2.2.2.2.1 | exact hd.2.2.2.2.2.2.1 | exact hd.2.2.2.2.2.2.2.1)
                have d91 : evT T (.tmp 91) = .int .i64 (k : Int) := (by first | exact hd.1 | exact hd.2.1 | exact hd.2.2.1 | exact hd.2.2.2.1 | exact hd.2.2.2.2.1 | exact hd.2.2.2.2.2.1 | exact hd.2.2.2.2.2.2.1 | exact hd.2.2.2.2.2.2.2.1)
                clear hT hd hW
                refine ⟨.pointer (some (ad.add (k * 3))), ?_, rfl⟩
                simp only [execOp]
                go_simp
              case s5 =>
                refine stepS_plain rfl rfl (fun T w1 s hT hd hs hW => ?_)
                have ec := evT_const T
                have ef := evT_func T
                have d92 : evT T (.tmp 92) = .pointer (some (ad.add (k * 3))) := (by first | exact hd.1 | exact hd.2.1 | exact hd.2.2.1 | exact hd.2.2.2.1 | exact hd.2.2.2.2.1 | exact hd.2.2.2.2.2.1 | exact hd.2.2.2.2.2.2.1 | exact hd.2.2.2.2.2.2.2.1)
                clear hT hd hW
                refine ⟨.pointer (some ⟨(ad.add (k * 3)).block, (ad.add (k * 3)).off + 2, none⟩), ?_, rfl⟩
                simp only [execOp]
                go_simp
              case s6 =>
                refine stepS_plain rfl rfl (fun T w1 s hT hd hs hW => ?_)
                have ec := evT_const T
                have ef := evT_func T
                have d93 : evT T (.tmp 93) = .pointer (some ⟨(ad.add (k * 3)).block, (ad.add (k * 3)).off + 2, none⟩) := (by first | exact hd.1 | exact hd.2.1 | exact hd.2.2.1 | exact hd.2.2.2.1 | exact hd.2.2.2.2.1 | exact hd.2.2.2.2.2.1 | exact hd.2.2.2.2.2.2.1 | exact hd.2.2.2.2.2.2.2.1)
                obtain ⟨ad', hA', a0, a1, a2⟩ := hW.act H1.out HX.out
                injection hA' with hA'
                subst hA'
                simp only at a0 a1 a2
                clear hT hd hW
                refine ⟨.int .u32 v, ?_, rfl⟩
                simp only [execOp]
                go_simp
              case s7 =>
                refine stepC_plain 0 rfl rfl (fun T w1 hT hd hW => ?_)
                have ec := evT_const T
                have ef := evT_func T
                have d88 : evT T (.tmp 88) = .pointer (some ⟨b, 0, none⟩) := (by first | exact hd.1 | exact hd.2.1 | exact hd.2.2.1 | exact hd.2.2.2.1 | exact hd.2.2.2.2.1 | exact hd.2.2.2.2.2.1 | exact hd.2.2.2.2.2.2.1 | exact hd.2.2.2.2.2.2.2.1)
                have d89 : evT T (.tmp 89) = .int .i64 p := (by first | exact hd.1 | exact hd.2.1 | exact hd.2.2.1 | exact hd.2.2.2.1 | exact hd.2.2.2.2.1 | exact hd.2.2.2.2.2.1 | exact hd.2.2.2.2.2.2.1 | exact hd.2.2.2.2.2.2.2.1)
                have d94 : evT T (.tmp 94) = .int .u32 v := (by first | exact hd.1 | exact hd.2.1 | exact hd.2.2.1 | exact hd.2.2.2.1 | exact hd.2.2.2.2.1 | exact hd.2.2.2.2.2.1 | exact hd.2.2.2.2.2.2.1 | exact hd.2.2.2.2.2.2.2.1)
                refine ⟨13, #[.pointer (some ⟨b, 0, none⟩), .int .i64 p, .int .u32 v], ?_, ?_⟩
                · clear hT hd hW
                  simp only [execOp, resolve]
                  go_simp
                · have hX : Both w w1 Q b gn rb gv rs now (backS rs sv S) now sv S := hW
                  refine (hX.writeF v HPW.out).mono ?_
                  rintro e w2 ⟨rfl, h2⟩
                  exact ⟨_, rfl, by rw [HZ.out]; rfl, h2⟩
              case s8 =>
                refine stepS_plain rfl rfl (fun T w1 s hT hd hs hW => ?_)
                have ec := evT_const T
                have ef := evT_func T
                have d8 : evT T (.tmp 8) = .pointer (some ⟨rb, 0, none⟩) := hT 8 (by kernel_rfl)
                clear hT hd hW
                refine ⟨.pointer (some ⟨rb, 0, none⟩), ?_, rfl⟩
                simp only [execOp]
                go_simp
              case s9 =>
                refine stepS_plain rfl rfl (fun T w1 s hT hd hs hW => ?_)
                have ec := evT_const T
                have ef := evT_func T
                have d11 : evT T (.tmp 11) = .int .i64 p := hT 11 (by kernel_rfl)
                clear hT hd hW
                refine ⟨.int .i64 p, ?_, rfl⟩
                simp only [execOp]
                go_simp
              case s10 =>
                refine stepS_plain rfl rfl (fun T w1 s hT hd hs hW => ?_)
                have ec := evT_const T
                have ef := evT_func T
                have d1 : evT T (.tmp 1) = .slice (some ad) nX c1 := hT 1 (by kernel_rfl)
                clear hT hd hW
                refine ⟨.slice (some ad) nX c1, ?_, rfl⟩
                simp only [execOp]
                go_simp
              case s11 =>
                refine stepS_plain rfl rfl (fun T w1 s hT hd hs hW => ?_)
                have ec := evT_const T
                have ef := evT_func T
                have d10 : evT T (.tmp 10) = .int .i64 (k : Int) := hT 10 (by kernel_rfl)
                clear hT hd hW
                refine ⟨.int .i64 (k : Int), ?_, rfl⟩
                simp only [execOp]
                go_simp
              case s12 =>
                refine stepS_plain rfl rfl (fun T w1 s hT hd hs hW => ?_)
                have ec := evT_const T
                have ef := evT_func T
                have d98 : evT T (.tmp 98) = .slice (some ad) nX c1 := (by first | exact hd.1 | exact hd.2.1 | exact hd.2.2.1 | exact hd.2.2.2.1 | exact hd.2.2.2.2.1 | exact hd.2.2.2.2.2.1 | exact hd.2.2.2.2.2.2.1 | exact hd.2.2.2.2.2.2.2.1)
                have d99 : evT T (.tmp 99) = .int .i64 (k : Int) := (by first | exact hd.1 | exact hd.2.1 | exact hd.2.2.1 | exact hd.2.2.2.1 | exact hd.2.2.2.2.1 | exact hd.2.2.2.2.2.1 | exact hd.2.2.2.2.2.2.1 | exact hd.2.2.2.2.2.2.2.1)
                clear hT hd hW
                refine ⟨.pointer (some (ad.add (k * 3))), ?_, rfl⟩
                simp only [execOp]
                go_simp
              case s13 =>
                refine stepS_plain rfl rfl (fun T w1 s hT hd hs hW => ?_)
                have ec := evT_const T
                have ef := evT_func T
                have d100 : evT T (.tmp 100) = .pointer (some (ad.add (k * 3))) := (by first | exact hd.1 | exact hd.2.1 | exact hd.2.2.1 | exact hd.2.2.2.1 | exact hd.2.2.2.2.1 | exact hd.2.2.2.2.2.1 | exact hd.2.2.2.2.2.2.1 | exact hd.2.2.2.2.2.2.2.1)
                clear hT hd hW
                refine ⟨.pointer (some ⟨(ad.add (k * 3)).block, (ad.add (k * 3)).off + 2, none⟩), ?_, rfl⟩
                simp only [execOp]
                go_simp
              case s14 =>
                refine stepS_plain rfl rfl (fun T w1 s hT hd hs hW => ?_)
                have ec := evT_const T
                have ef := evT_func T
                have d101 : evT T (.tmp 101) = .pointer (some ⟨(ad.add (k * 3)).block, (ad.add (k * 3)).off + 2, none⟩) := (by first | exact hd.1 | exact hd.2.1 | exact hd.2.2.1 | exact hd.2.2.2.1 | exact hd.2.2.2.2.1 | exact hd.2.2.2.2.2.1 | exact hd.2.2.2.2.2.2.1 | exact hd.2.2.2.2.2.2.2.1)
                obtain ⟨ad', hA', a0, a1, a2⟩ := hW.act H1.out HX.out
                injection hA' with hA'
                subst hA'
                simp only at a0 a1 a2
                clear hT hd hW
                refine ⟨.int .u32 v, ?_, rfl⟩
                simp only [execOp]
                go_simp
              case s15 =>
                refine stepC_plain 1 rfl rfl (fun T w1 hT hd hW => ?_)
                have ec := evT_const T
                have ef := evT_func T
                have d96 : evT T (.tmp 96) = .pointer (some ⟨rb, 0, none⟩) := (by first | exact hd.1 | exact hd.2.1 | exact hd.2.2.1 | exact hd.2.2.2.1 | exact hd.2.2.2.2.1 | exact hd.2.2.2.2.2.1 | exact hd.2.2.2.2.2.2.1 | exact hd.2.2.2.2.2.2.2.1)
                have d97 : evT T (.tmp 97) = .int .i64 p := (by first | exact hd.1 | exact hd.2.1 | exact hd.2.2.1 | exact hd.2.2.2.1 | exact hd.2.2.2.2.1 | exact hd.2.2.2.2.2.1 | exact hd.2.2.2.2.2.2.1 | exact hd.2.2.2.2.2.2.2.1)
                have d102 : evT T (.tmp 102) = .int .u32 v := (by first | exact hd.1 | exact hd.2.1 | exact hd.2.2.1 | exact hd.2.2.2.1 | exact hd.2.2.2.2.1 | exact hd.2.2.2.2.2.1 | exact hd.2.2.2.2.2.2.1 | exact hd.2.2.2.2.2.2.2.1)
                refine ⟨14, #[.pointer (some ⟨rb, 0, none⟩), .int .i64 p, .int .u32 v], ?_, ?_⟩
                · clear hT hd hW
                  simp only [execOp, resolve]
                  go_simp
                · have hX : Both w w1 Q b gn rb gv rs (writeT now p v) (backS rs sv S) now sv S := hW
                  refine (hX.writeR v HPW.out).mono ?_
                  rintro e w2 ⟨rfl, h2⟩
                  exact ⟨_, rfl, by rw [HZ.out]; rfl, h2⟩
              case s16 =>
                refine stepS_plain rfl rfl (fun T w1 s hT hd hs hW => ?_)
                have ec := evT_const T
                have ef := evT_func T
                have d95 : evT T (.tmp 95) = .int .i64 z := (by first | exact hd.1 | exact hd.2.1 | exact hd.2.2.1 | exact hd.2.2.2.1 | exact hd.2.2.2.2.1 | exact hd.2.2.2.2.2.1 | exact hd.2.2.2.2.2.2.1 | exact hd.2.2.2.2.2.2.2.1)
                have d103 : evT T (.tmp 103) = .int .i64 z := (by first | exact hd.1 | exact hd.2.1 | exact hd.2.2.1 | exact hd.2.2.2.1 | exact hd.2.2.2.2.1 | exact hd.2.2.2.2.2.1 | exact hd.2.2.2.2.2.2.1 | exact hd.2.2.2.2.2.2.2.1)
                have ez : (z != z) = false := by simp
                clear hT hd hW
                refine ⟨.bool false, ?_, rfl⟩
                simp only [execOp]
                go_simp
              case fin =>
                intro T w1 hT hW hd
                have e104 : T 104 = .bool false := hd.2.2.2.2.2.2.2.2.2.2.2.2.2.2.2.2.1
                simp only [putL, Act.put, Option.getD_some, List.setIfInBounds_toArray, List.set_cons_zero, List.set_cons_succ]
                have HY : RowKit.Hid (Alike w w1 b gn rb rs) := Lib.hid ⟨Q, gv, writeT now p v, sv, S, hW⟩
                clear hT hd hW
                rw [e104]
                clear e104
                go_wp2_with fail
                go_meet
                exact HY
            · go_wp2
              refine region_stagedP 2 (fun t => match t with | 0 => 7 | _ => 15) (fun i => if i = 7 then some 0 else if i = 15 then some 1 else none) (GPL [isV (.pointer (some ⟨b, 0, none⟩)), isV (.int .i64 p), isV (.slice (some ad) nX c1), isV (.int .i64 (k : Int)), isV (.pointer (some (ad.add (k * 3)))), isV (.pointer (some ⟨(ad.add (k * 3)).block, (ad.add (k * 3)).off + 2, none⟩)), isV (.int .u32 v), isV (.int .i64 z), isV (.pointer (some ⟨rb, 0, none⟩)), isV (.int .i64 p), isV (.slice (some ad) nX c1), isV (.int .i64 (k : Int)), isV (.pointer (some (ad.add (k * 3)))), isV (.pointer (some ⟨(ad.add (k * 3)).block, (ad.add (k * 3)).off + 2, none⟩)), isV (.int .u32 v), isV (.int .i64 z), isV (.bool false)]) (fun u w9 => Both w w9 Q b gn rb gv rs (stN [now, writeT now p v, writeT now p v] u) (backS rs sv S) (stN [now, now, writeT now p v] u) sv S) 153 (by kernel_rfl) rfl (by kernel_rfl) ⟨?ca, ?cb, ?cp⟩ ?cs ?c0 ⟨?s0, ?s1, ?s2, ?s3, ?s4, ?s5, ?s6, ?s7, ?s8, ?s9, ?s10, ?s11, ?s12, ?s13, ?s14, ?s15, ?s16, trivial⟩ ?fin
              case ca =>
                intro i t h
                split at h
                · injection h with h; subst h; rename_i e; exact ⟨by omega, e.symm⟩
                · skip
                  split at h
                  · injection h with h; subst h; rename_i e; exact ⟨by omega, e.symm⟩
                  · cases h
              case cb =>
                intro t ht
                match t, ht with
                | 0, _ => rfl
                | 1, _ => rfl
              case cp =>
                intro t ht
                match t, ht with
                | 0, _ => exact ⟨[7], by kernel_rfl, by simp, rfl⟩
              case cs =>
                intro t ht
                match t, ht with
                | 0, _ => exact (by decide : 7 < 17)
                | 1, _ => exact (by decide : 15 < 17)
              case c0 => exact HB.out.calm (Moved.drew _)
              case s0 =>
                refine stepS_plain rfl rfl (fun T w1 s hT hd hs hW => ?_)
                have ec := evT_const T
                have ef := evT_func T
                have d6 : evT T (.tmp 6) = .pointer (some ⟨b, 0, none⟩) := hT 6 (by kernel_rfl)
                clear hT hd hW
                refine ⟨.pointer (some ⟨b, 0, none⟩), ?_, rfl⟩
                simp only [execOp]
                go_simp
              case s1 =>
                refine stepS_plain rfl rfl (fun T w1 s hT hd hs hW => ?_)
                have ec := evT_const T
                have ef := evT_func T
                have d11 : evT T (.tmp 11) = .int .i64 p := hT 11 (by kernel_rfl)
                clear hT hd hW
                refine ⟨.int .i64 p, ?_, rfl⟩
                simp only [execOp]
                go_simp
              case s2 =>
                refine stepS_plain rfl rfl (fun T w1 s hT hd hs hW => ?_)
                have ec := evT_const T
                have ef := evT_func T
                have d1 : evT T (.tmp 1) = .slice (some ad) nX c1 := hT 1 (by kernel_rfl)
                clear hT hd hW
                refine ⟨.slice (some ad) nX c1, ?_, rfl⟩
                simp only [execOp]
                go_simp
              case s3 =>
                refine stepS_plain rfl rfl (fun T w1 s hT hd hs hW => ?_)
                have ec := evT_const T
                have ef := evT_func T
                have d10 : evT T (.tmp 10) = .int .i64 (k : Int) := hT 10 (by kernel_rfl)
                clear hT hd hW
                refine ⟨.int .i64 (k : Int), ?_, rfl⟩
                simp only [execOp]
                go_simp
              case s4 =>
                refine stepS_plain rfl rfl (fun T w1 s hT hd hs hW => ?_)
                have ec := evT_const T
                have ef := evT_func T
                have d90 : evT T (.tmp 90) = .slice (some ad) nX c1 := (by first | exact hd.1 | exact hd.2.1 | exact hd.2.2.1 | exact hd.2.2.2.1 | exact hd.2.2.2.2.1 | exact hd.2.2.2.2.2.1 | exact hd.2.2.2.2.2.2.1 | exact hd.2.2.2.2.2.2.2.1)
                have d91 : evT T (.tmp 91) = .int .i64 (k : Int) := (by first | exact hd.1 | exact hd.2.1 | exact hd.2.2.1 | exact hd.2.2.2.1 | exact hd.2.2.2.2.1 | exact hd.2.2.2.2.2.1 | exact hd.2.2.2.2.2.2.1 | exact hd.2.2.2.2.2.2.2.1)
                clear hT hd hW
                refine ⟨.pointer (some (ad.add (k * 3))), ?_, rfl⟩
                simp only [execOp]
                go_simp
              case s5 =>
                refine stepS_plain rfl rfl (fun T w1 s hT hd hs hW => ?_)
                have ec := evT_const T
                have ef := evT_func T
                have d92 : evT T (.tmp 92) = .pointer (some (ad.add (k * 3))) := (by first | exact hd.1 | exact hd.2.1 | exact hd.2.2.1 | exact hd.2.2.2.1 | exact hd.2.2.2.2.1 | exact hd.2.2.2.2.2.1 | exact hd.2.2.2.2.2.2.1 | exact hd.2.2.2.2.2.2.2.1)
                clear hT hd hW
                refine ⟨.pointer (some ⟨(ad.add (k * 3)).block, (ad.add (k * 3)).off + 2, none⟩), ?_, rfl⟩
                simp only [execOp]
                go_simp
              case s6 =>
                refine stepS_plain rfl rfl (fun T w1 s hT hd hs hW => ?_)
                have ec := evT_const T
                have ef := evT_func T
                have d93 : evT T (.tmp 93) = .pointer (some ⟨(ad.add (k * 3)).block, (ad.add (k * 3)).off + 2, none⟩) := (by first | exact hd.1 | exact hd.2.1 | exact hd.2.2.1 | exact hd.2.2.2.1 | exact hd.2.2.2.2.1 | exact hd.2.2.2.2.2.1 | exact hd.2.2.2.2.2.2.1 | exact hd.2.2.2.2.2.2.2.1)
                obtain ⟨ad', hA', a0, a1, a2⟩ := hW.act H1.out HX.out
                injection hA' with hA'
                subst hA'
                simp only at a0 a1 a2
                clear hT hd hW
                refine ⟨.int .u32 v, ?_, rfl⟩
                simp only [execOp]
                go_simp
              case s7 =>
                refine stepC_plain 0 rfl rfl (fun T w1 hT hd hW => ?_)
                have ec := evT_const T
                have ef := evT_func T
                have d88 : evT T (.tmp 88) = .pointer (some ⟨b, 0, none⟩) := (by first | exact hd.1 | exact hd.2.1 | exact hd.2.2.1 | exact hd.2.2.2.1 | exact hd.2.2.2.2.1 | exact hd.2.2.2.2.2.1 | exact hd.2.2.2.2.2.2.1 | exact hd.2.2.2.2.2.2.2.1)
                have d89 : evT T (.tmp 89) = .int .i64 p := (by first | exact hd.1 | exact hd.2.1 | exact hd.2.2.1 | exact hd.2.2.2.1 | exact hd.2.2.2.2.1 | exact hd.2.2.2.2.2.1 | exact hd.2.2.2.2.2.2.1 | exact hd.2.2.2.2.2.2.2.1)
                have d94 : evT T (.tmp 94) = .int .u32 v := (by first | exact hd.1 | exact hd.2.1 | exact hd.2.2.1 | exact hd.2.2.2.1 | exact hd.2.2.2.2.1 | exact hd.2.2.2.2.2.1 | exact hd.2.2.2.2.2.2.1 | exact hd.2.2.2.2.2.2.2.1)
                refine ⟨13, #[.pointer (some ⟨b, 0, none⟩), .int .i64 p, .int .u32 v], ?_, ?_⟩
                · clear hT hd hW
                  simp only [execOp, resolve]
                  go_simp
                · have hX : Both w w1 Q b gn rb gv rs now (backS rs sv S) now sv S := hW
                  refine (hX.writeF v HPW.out).mono ?_
                  rintro e w2 ⟨rfl, h2⟩
                  exact ⟨_, rfl, by rw [HZ.out]; rfl, h2⟩
              case s8 =>
                refine stepS_plain rfl rfl (fun T w1 s hT hd hs hW => ?_)
                have ec := evT_const T
                have ef := evT_func T
                have d8 : evT T (.tmp 8) = .pointer (some ⟨rb, 0, none⟩) := hT 8 (by kernel_rfl)
                clear hT hd hW
                refine ⟨.pointer (some ⟨rb, 0, none⟩), ?_, rfl⟩
                simp only [execOp]
                go_simp
              case s9 =>
                refine stepS_plain rfl rfl (fun T w1 s hT hd hs hW => ?_)
                have ec := evT_const T
                have ef := evT_func T
                have d11 : evT T (.tmp 11) = .int .i64 p := hT 11 (by kernel_rfl)
                clear hT hd hW
                refine ⟨.int .i64 p, ?_, rfl⟩
                simp only [execOp]
                go_simp
              case s10 =>
                refine stepS_plain rfl rfl (fun T w1 s hT hd hs hW => ?_)
                have ec := evT_const T
                have ef := evT_func T
                have d1 : evT T (.tmp 1) = .slice (some ad) nX c1 := hT 1 (by kernel_rfl)
                clear hT hd hW
                refine ⟨.slice (some ad) nX c1, ?_, rfl⟩
                simp only [execOp]
                go_simp
              case s11 =>
                refine stepS_plain rfl rfl (fun T w1 s hT hd hs hW => ?_)
                have ec := evT_const T
                have ef := evT_func T
                have d10 : evT T (.tmp 10) = .int .i64 (k : Int) := hT 10 (by kernel_rfl)
                clear hT hd hW
                refine ⟨.int .i64 (k : Int), ?_, rfl⟩
                simp only [execOp]
                go_simp
              case s12 =>
                refine stepS_plain rfl rfl (fun T w1 s hT hd hs hW => ?_)
                have ec := evT_const T
                have ef := evT_func T
                have d98 : evT T (.tmp 98) = .slice (some ad) nX c1 := (by first | exact hd.1 | exact hd.2.1 | exact hd.2.2.1 | exact hd.2.2.2.1 | exact hd.2.2.2.2.1 | exact hd.2.2.2.2.2.1 | exact hd.2.2.2.2.2.2.1 | exact hd.2.2.2.2.2.2.2.1)
                have d99 : evT T (.tmp 99) = .int .i64 (k : Int) := (by first | exact hd.1 | exact hd.2.1 | exact hd.2.2.1 | exact hd.2.2.2.1 | exact hd.2.2.2.2.1 | exact hd.2.2.2.2.2.1 | exact hd.2.2.2.2.2.2.1 | exact hd.2.2.2.2.2.2.2.1)
                clear hT hd hW
                refine ⟨.pointer (some (ad.add (k * 3))), ?_, rfl⟩
                simp only [execOp]
                go_simp
              case s13 =>
                refine stepS_plain rfl rfl (fun T w1 s hT hd hs hW => ?_)
                have ec := evT_const T
                have ef := evT_func T
                have d100 : evT T (.tmp 100) = .pointer (some (ad.add (k * 3))) := (by first | exact hd.1 | exact hd.2.1 | exact hd.2.2.1 | exact hd.2.2.2.1 | exact hd.2.2.2.2.1 | exact hd.2.2.2.2.2.1 | exact hd.2.2.2.2.2.2.1 | exact hd.2.2.2.2.2.2.2.1)
                clear hT hd hW
                refine ⟨.pointer (some ⟨(ad.add (k * 3)).block, (ad.add (k * 3)).off + 2, none⟩), ?_, rfl⟩
                simp only [execOp]
                go_simp
              case s14 =>
                refine stepS_plain rfl rfl (fun T w1 s hT hd hs hW => ?_)
                have ec := evT_const T
                have ef := evT_func T
                have d101 : evT T (.tmp 101) = .pointer (some ⟨(ad.add (k * 3)).block, (ad.add (k * 3)).off + 2, none⟩) := (by first | exact hd.1 | exact hd.2.1 | exact hd.2.2.1 | exact hd.2.2.2.1 | exact hd.2.2.2.2.1 | exact hd.2.2.2.2.2.1 | exact hd.2.2.2.2.2.2.1 | exact hd.2.2.2.2.2.2.2.1)
                obtain ⟨ad', hA', a0, a1, a2⟩ := hW.act H1.out HX.out
                injection hA' with hA'
                subst hA'
                simp only at a0 a1 a2
                clear hT hd hW
                refine ⟨.int .u32 v, ?_, rfl⟩
                simp only [execOp]
                go_simp
              case s15 =>
                refine stepC_plain 1 rfl rfl (fun T w1 hT hd hW => ?_)
                have ec := evT_const T
                have ef := evT_func T
                have d96 : evT T (.tmp 96) = .pointer (some ⟨rb, 0, none⟩) := (by first | exact hd.1 | exact hd.2.1 | exact hd.2.2.1 | exact hd.2.2.2.1 | exact hd.2.2.2.2.1 | exact hd.2.2.2.2.2.1 | exact hd.2.2.2.2.2.2.1 | exact hd.2.2.2.2.2.2.2.1)
                have d97 : evT T (.tmp 97) = .int .i64 p := (by first | exact hd.1 | exact hd.2.1 | exact hd.2.2.1 | exact hd.2.2.2.1 | exact hd.2.2.2.2.1 | exact hd.2.2.2.2.2.1 | exact hd.2.2.2.2.2.2.1 | exact hd.2.2.2.2.2.2.2.1)
                have d102 : evT T (.tmp 102) = .int .u32 v := (by first | exact hd.1 | exact hd.2.1 | exact hd.2.2.1 | exact hd.2.2.2.1 | exact hd.2.2.2.2.1 | exact hd.2.2.2.2.2.1 | exact hd.2.2.2.2.2.2.1 | exact hd.2.2.2.2.2.2.2.1)
                refine ⟨14, #[.pointer (some ⟨rb, 0, none⟩), .int .i64 p, .int .u32 v], ?_, ?_⟩
                · clear hT hd hW
                  simp only [execOp, resolve]
                  go_simp
                · have hX : Both w w1 Q b gn rb gv rs (writeT now p v) (backS rs sv S) now sv S := hW
                  refine (hX.writeR v HPW.out).mono ?_
                  rintro e w2 ⟨rfl, h2⟩
                  exact ⟨_, rfl, by rw [HZ.out]; rfl, h2⟩
              case s16 =>
                refine stepS_plain rfl rfl (fun T w1 s hT hd hs hW => ?_)
                have ec := evT_const T
                have ef := evT_func T
                have d95 : evT T (.tmp 95) = .int .i64 z := (by first | exact hd.1 | exact hd.2.1 | exact hd.2.2.1 | exact hd.2.2.2.1 | exact hd.2.2.2.2.1 | exact hd.2.2.2.2.2.1 | exact hd.2.2.2.2.2.2.1 | exact hd.2.2.2.2.2.2.2.1)
                have d103 : evT T (.tmp 103) = .int .i64 z := (by first | exact hd.1 | exact hd.2.1 | exact hd.2.2.1 | exact hd.2.2.2.1 | exact hd.2.2.2.2.1 | exact hd.2.2.2.2.2.1 | exact hd.2.2.2.2.2.2.1 | exact hd.2.2.2.2.2.2.2.1)
                have ez : (z != z) = false := by simp
                clear hT hd hW
                refine ⟨.bool false, ?_, rfl⟩
                simp only [execOp]
                go_simp
              case fin =>
                intro T w1 hT hW hd
                have e104 : T 104 = .bool false := hd.2.2.2.2.2.2.2.2.2.2.2.2.2.2.2.2.1
                simp only [putL, Act.put, Option.getD_some, List.setIfInBounds_toArray, List.set_cons_zero, List.set_cons_succ]
                have HY : RowKit.Hid (Alike w w1 b gn rb rs) := Lib.hid ⟨Q, gv, writeT now p v, sv, S, hW⟩
                clear hT hd hW
                rw [e104]
                clear e104
                go_wp2_with fail
                go_meet
                exact HY
            · go_wp2_with fail
              refine (HB.out.saveF).mono ?_
              rintro e w5 ⟨rfl, h5⟩
              have H5 := Lib.hid h5
              clear h5 HB
              go_wp2_with fail
              refine (H5.out.saveR).mono ?_
              rintro e w6 ⟨rfl, h6⟩
              have HY : RowKit.Hid (Alike w w6 b gn rb rs) := Lib.hid ⟨Q, gv, now, true, now, h6⟩
              clear h6 H5
              go_wp2_with fail
              go_meet
              exact HY
            · go_wp2_with fail
              refine (HB.out.restoreF).mono ?_
              rintro e w5 ⟨rfl, h5⟩
              have H5 := Lib.hid h5
              clear h5 HB
              go_wp2_with fail
              refine (H5.out.restoreR).mono ?_
              rintro e w6 ⟨rfl, h6⟩
              have HY : RowKit.Hid (Alike w w6 b gn rb rs) := Lib.hid ⟨Q, gv, backS rs sv S, sv, S, h6⟩
              clear h6 H5
              go_wp2_with fail
              go_meet
              exact HY
            · go_wp2_with fail
              refine (HB.out.clearF).mono ?_
              rintro e w5 ⟨rfl, h5⟩
              have H5 := Lib.hid h5
              clear h5 HB
              go_wp2_with fail
              refine (H5.out.clearR).mono ?_
              rintro e w6 ⟨rfl, h6⟩
              have HY : RowKit.Hid (Alike w w6 b gn rb rs) := Lib.hid (by obtain ⟨Q', gv', h7⟩ := h6; exact ⟨Q', gv', resets rs, false, [], h7⟩)
              clear h6 H5
              go_wp2_with fail
              go_meet
              exact HY
          case rest =>
            have HY := hcut
            clear hcut a0 a1 a2 i2 i3 q1 q2 hp1 hp2 HB
            go_wp2
            go_loopw [12] (fun vv wx => ∃ z : Int, -1 ≤ z ∧ z ≤ (rs.length : Int) + 1 ∧ vv = .int .i64 z ∧ RowKit.Hid (Alike w wx b gn rb rs)) (fun vv _ => ((rs.length : Int) + 1 - intOf vv).toNat)
            case atStart => exact ⟨-1, by omega, by omega, rfl, HY⟩
            case round =>
              clear HY
              obtain ⟨z, hz0, hz1, rfl, HZ⟩ := hrel
              obtain ⟨Q2, gv2, now2, sv2, S2, hB2⟩ := HZ.out
              have HB2 := Lib.hid hB2
              clear HZ hB2
              by_cases hzn : z ≤ (rs.length : Int)
              · have hzw : wfI z := by unfold wfI; omega
                obtain ⟨y, hy⟩ : ∃ y, readI now2 z = y := ⟨_, rfl⟩
                obtain ⟨e0, he0⟩ : ∃ e0, errI rs.length z = e0 := ⟨_, rfl⟩
                have HY := Lib.hid hy
                have HE := Lib.hid he0
                have ey : (y != y) = false := by simp
                have ee : (e0 != e0) = false := by simp
                clear hy he0
                go_wp2_with fail
                refine (HB2.out.f.read hzw).mono ?_
                rintro e w5 ⟨rfl, rfl⟩
                rw [HY.out, HE.out]
                go_wp2_with fail
                refine (HB2.out.readR hzw).mono ?_
                rintro e w5 ⟨rfl, rfl⟩
                rw [HY.out, HE.out]
                go_wp2
                go_roundw
                case rel => exact ⟨z + 1, by omega, by omega, by go_num, Lib.hid ⟨_, _, _, _, _, HB2.out⟩⟩
                case measure => simp [intOf]; omega
              · have hzg : ¬ (z ≤ (rs.length : Int)) := hzn
                go_wp2
                go_roundw
                case rel => exact ⟨k + 1, hlt, by go_num, Lib.hid ⟨_, _, _, _, _, HB2.out⟩⟩
                case measure => simp [intOf]; omega
        · have i1 : ¬ ((k : Int) < (nX : Int)) := by omega
          have en : ((rs.length : Int) == (rs.length : Int)) = true := by simp
          go_wp2_with fail
          refine (HB.out.f.many).mono ?_
          rintro e w6 ⟨rfl, rfl⟩
          go_wp2
          go_ret
          exact ⟨rfl, HB.out.f.bel⟩

end Go.Proofs.Ytlolnogkndhfnaa
