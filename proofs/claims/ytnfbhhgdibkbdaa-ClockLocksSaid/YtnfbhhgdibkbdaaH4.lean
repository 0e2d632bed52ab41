/- The contract of catnaplaw4.chip, in parts: H4. (Written by wip/tools/h1.py.) -/
import Derived.Test.YtnfbhhgdibkbdaaH0
namespace Go.Proofs.Ytnfbhhgdibkbdaa
set_option linter.unusedSimpArgs false
set_option linter.unusedVariables false
open Go.RowKit Go.Maps

set_option maxRecDepth 1000000 in
set_option maxHeartbeats 8000000 in
theorem loop4_any (w wa : World) (d : Nat → Nat) (hltd : ∀ i, d i < 1000000) (hMsz : w.heap.size + 1 + 1 ≤ wa.heap.size) (wd : World) (hgd : w.heap.size + 1 < wd.heap.size) (hgs0 : wa.heap.size + 1 < wd.heap.size) (p2 : Value)
    (Q : Exit → Act → World → Prop) (a : Act) (v1 v2 : Value) (ha : Fr a) (h2 : slT a 2 = p2) (h4 : slT a 4 = .slice (some ⟨w.heap.size + 1, 0, none⟩) 120 120) (h6 : slT a 6 = .pointer (some ⟨wa.heap.size + 1, 0, none⟩)) (h13 : slT a 13 = .int .i64 0)
    (hbx0 : BoxAt wd (wa.heap.size + 1) [v1, v2, .slice none 0 0, .slice none 0 0]) (hdr0 : DrawsTo wd (w.heap.size + 1) d 120)
    (hQ : ∀ a' wx v3, Fr a' → slT a' 2 = p2 → slT a' 4 = .slice (some ⟨w.heap.size + 1, 0, none⟩) 120 120 → slT a' 6 = .pointer (some ⟨wa.heap.size + 1, 0, none⟩) → Ph4 wx wd (w.heap.size + 1) (wa.heap.size + 1) d v1 v2 v3 (nRst d) → Q (.exit 7) a' wx) :
    Code.wp Try.prog loop4 Q a wd := by
  have HLT := Lib.hid hltd
  have HBX2 := Lib.hid hbx0
  have HDR2 := Lib.hid hdr0
  have HQ := Lib.hid hQ
  clear hltd hbx0 hdr0 hQ
  obtain ⟨F, rfl⟩ := ha.open_
  rw [slT_listT (by omega)] at h2
  rw [slT_listT (by omega)] at h4
  rw [slT_listT (by omega)] at h6
  rw [slT_listT (by omega)] at h13
  rw [lit352, h2, h4, h6, h13]
  clear ha h2 h4 h6 h13
  conv => arg 2; whnf
  go_loopw [13] (fun i wr => ∃ n v3, n ≤ nRst d ∧ i = .int .i64 (n : Nat) ∧ Ph4 wr wd (w.heap.size + 1) (wa.heap.size + 1) d v1 v2 v3 n) (fun i _ => nRst d - (intOf i).toNat)
  case atStart => exact ⟨0, _, Nat.zero_le _, rfl, ⟨RowC.nil RstC _ _ _ _ _, by simp [Value.ownBlock], HBX2.out, HDR2.out, Moved.refl _ _⟩⟩
  case round =>
    obtain ⟨n, v3, hn, rfl, ⟨hrow, hne3, hbx, hdr, hMb⟩⟩ := hrel
    obtain ⟨A3, c3, hv3, hc3, hlt3⟩ := hrow.shape
    rw [rstsP_len] at hv3
    subst hv3
    have hgs := hbx.lt
    have hMz := hMb.size
    have c3d := (hdr 3 (by omega)).2
    rw [if_pos (by omega)] at c3d
    have b1 := HLT.out 3
    have hn3 : nRst d ≤ 3 := by unfold nRst; omega
    by_cases hlt : n < nRst d
    · have hlt9 : n < 1 + d 3 % 3 := hlt
      have hC : ∀ W, wr.grownBy W (Value.slice A3 n c3).ownBlock → (∀ i, i < 120 → W.cell? ⟨w.heap.size + 1, i, none⟩ = some (.int .i64 (d i : Nat))) ∧ BoxAt W (wa.heap.size + 1) [v1, v2, .slice A3 n c3, .slice none 0 0] := fun W hW =>
        ⟨fun i hi => by have := ((hdr.grown hW (by omega) (fun e => by have := (hlt3 _ e.symm).1; omega)) i hi).2; rwa [if_pos hi] at this, hbx.move (Moved.of_grown (hot := (Value.slice A3 n c3).ownBlock.toList) hW (by simp)) (by simpa using hne3)⟩
      have HC := Lib.hid hC
      have HROW := Lib.hid hrow
      have HBX := Lib.hid hbx
      have HDRr := Lib.hid hdr
      have HMb := Lib.hid hMb
      have HNE := Lib.hid hne3
      have HLT3 := Lib.hid hlt3
      clear hC hrow hbx hdr hMb hne3 hlt3
      go_wp2
      refine region_then [⟨IsV (.pointer (some ⟨wa.heap.size + 1, 2, none⟩)), true, false⟩,
        ⟨IsV (.slice A3 n c3), true, false⟩,
        ⟨IsV (.slice (some ⟨w.heap.size + 1, 0, none⟩) 120 120), true, false⟩,
        ⟨IsV (.int .i64 (n : Nat)), true, false⟩,
        ⟨IsV (.int .i64 ((50 + n : Nat) : Int)), true, false⟩,
        ⟨IsV (.pointer (some ⟨w.heap.size + 1, 50 + n, none⟩)), true, false⟩,
        ⟨IsV (.int .i64 ((d (50 + n) : Nat) : Int)), true, false⟩,
        ⟨IsV (.int .i64 ((d (50 + n) % 4 : Nat) : Int)), true, false⟩,
        ⟨IsV (.agg #[.int .i64 ((d (50 + n) % 4 : Nat) : Int)]), true, false⟩,
        ⟨IsBlk (wr.heap.size) (mkRow 1) [.int .i64 ((d (50 + n) % 4 : Nat) : Int)] 80, false, false⟩,
        ⟨fun v w => v.ownBlock ≠ some (wa.heap.size + 1) ∧ Moved ((wa.heap.size + 1) :: (Value.slice A3 n c3).ownBlock.toList) wr w ∧ BoxAt w (wa.heap.size + 1) [v1, v2, .slice A3 n c3, .slice none 0 0] ∧ (∀ j u, RowC RstC 1 80 ((wa.heap.size + 1) :: v.ownBlock.toList) (w.setCell ⟨wa.heap.size + 1, j, none⟩ u) wd.heap.size v (rstsP d n ++ [rstP d n])) ∧ ∃ A c, v = .slice A (n + 1) c, false, true⟩,
        ⟨IsV (.pointer (some ⟨wa.heap.size + 1, 2, none⟩)), true, false⟩] (Value.slice A3 n c3).ownBlock 352 (by kernel_rfl) rfl (by kernel_rfl) ⟨fun _ => stbR_V _ _, fun _ => stbR_V _ _, fun _ => stbR_V _ _, fun _ => stbR_V _ _, fun _ => stbR_V _ _, fun _ => stbR_V _ _, fun _ => stbR_V _ _, fun _ => stbR_V _ _, fun _ => stbR_V _ _, fun _ => stbR_blk (fun k hk => (HLT3.out k hk).2), (fun h => by cases h), fun _ => stbR_V _ _, trivial⟩ ⟨?s0, ?s1, ?s2, ?s3, ?s4, ?s5, ?s6, ?s7, ?s8, ?s9, ?s10, ?s11, trivial⟩ ?fin
      case s0 =>
        refine ⟨rfl, fun T w1 hT hb ha0 hd => ?_⟩
        have ec := evT_const T
        have ef := evT_func T
        have d6 : evT T (.tmp 6) = .pointer (some ⟨wa.heap.size + 1, 0, none⟩) := hT 6 (by kernel_rfl)
        clear hT hd hb ha0
        refine gr_pure (v := .pointer (some ⟨wa.heap.size + 1, 2, none⟩)) ?_ rfl
        simp only [execOp]
        go_simp
      case s1 =>
        refine ⟨rfl, fun T w1 hT hb ha0 hd => ?_⟩
        have ec := evT_const T
        have ef := evT_func T
        have d205 : evT T (.tmp 205) = .pointer (some ⟨wa.heap.size + 1, 2, none⟩) := (by first | exact hd.1 | exact hd.2.1 | exact hd.2.2.1 | exact hd.2.2.2.1 | exact hd.2.2.2.2.1 | exact hd.2.2.2.2.2.1 | exact hd.2.2.2.2.2.2.1 | exact hd.2.2.2.2.2.2.2.1)
        have f0 := ((HC.out w1 hb).2 2 _ rfl).1
        clear hT hd hb ha0
        refine gr_pure (v := .slice A3 n c3) ?_ rfl
        simp only [execOp]
        go_simp
      case s2 =>
        refine ⟨rfl, fun T w1 hT hb ha0 hd => ?_⟩
        have ec := evT_const T
        have ef := evT_func T
        have d4 : evT T (.tmp 4) = .slice (some ⟨w.heap.size + 1, 0, none⟩) 120 120 := hT 4 (by kernel_rfl)
        exact gr_pure (ar_move d4) rfl
      case s3 =>
        refine ⟨rfl, fun T w1 hT hb ha0 hd => ?_⟩
        have ec := evT_const T
        have ef := evT_func T
        have d13 : evT T (.tmp 13) = .int .i64 (n : Nat) := hT 13 (by kernel_rfl)
        exact gr_pure (ar_move d13) rfl
      case s4 =>
        refine ⟨rfl, fun T w1 hT hb ha0 hd => ?_⟩
        have ec := evT_const T
        have ef := evT_func T
        have d208 : evT T (.tmp 208) = .int .i64 (n : Nat) := (by first | exact hd.1 | exact hd.2.1 | exact hd.2.2.1 | exact hd.2.2.2.1 | exact hd.2.2.2.2.1 | exact hd.2.2.2.2.2.1 | exact hd.2.2.2.2.2.2.1 | exact hd.2.2.2.2.2.2.2.1)
        exact gr_pure (ar_add (a := 50) (ec _) d208 (by omega)) (rfl)
      case s5 =>
        refine ⟨rfl, fun T w1 hT hb ha0 hd => ?_⟩
        have ec := evT_const T
        have ef := evT_func T
        have d207 : evT T (.tmp 207) = .slice (some ⟨w.heap.size + 1, 0, none⟩) 120 120 := (by first | exact hd.1 | exact hd.2.1 | exact hd.2.2.1 | exact hd.2.2.2.1 | exact hd.2.2.2.2.1 | exact hd.2.2.2.2.2.1 | exact hd.2.2.2.2.2.2.1 | exact hd.2.2.2.2.2.2.2.1)
        have d209 : evT T (.tmp 209) = .int .i64 ((50 + n : Nat) : Int) := (by first | exact hd.1 | exact hd.2.1 | exact hd.2.2.1 | exact hd.2.2.2.1 | exact hd.2.2.2.2.1 | exact hd.2.2.2.2.2.1 | exact hd.2.2.2.2.2.2.1 | exact hd.2.2.2.2.2.2.2.1)
        have g0 : (0 : Int) ≤ 50 + (n : Int) := by omega
        have g1 : 50 + (n : Int) < 120 := by omega
        have g2 : (50 + (n : Int)).toNat = 50 + n := by omega
        clear hT hd hb ha0
        refine gr_pure (v := .pointer (some ⟨w.heap.size + 1, 50 + n, none⟩)) ?_ rfl
        simp only [execOp]
        go_simp
      case s6 =>
        refine ⟨rfl, fun T w1 hT hb ha0 hd => ?_⟩
        have ec := evT_const T
        have ef := evT_func T
        have d210 : evT T (.tmp 210) = .pointer (some ⟨w.heap.size + 1, 50 + n, none⟩) := (by first | exact hd.1 | exact hd.2.1 | exact hd.2.2.1 | exact hd.2.2.2.1 | exact hd.2.2.2.2.1 | exact hd.2.2.2.2.2.1 | exact hd.2.2.2.2.2.2.1 | exact hd.2.2.2.2.2.2.2.1)
        have f0 := (HC.out w1 hb).1 (50 + n) (by omega)
        clear hT hd hb ha0
        refine gr_pure (v := .int .i64 ((d (50 + n) : Nat) : Int)) ?_ rfl
        simp only [execOp]
        go_simp
      case s7 =>
        refine ⟨rfl, fun T w1 hT hb ha0 hd => ?_⟩
        have ec := evT_const T
        have ef := evT_func T
        have d211 : evT T (.tmp 211) = .int .i64 ((d (50 + n) : Nat) : Int) := (by first | exact hd.1 | exact hd.2.1 | exact hd.2.2.1 | exact hd.2.2.2.1 | exact hd.2.2.2.2.1 | exact hd.2.2.2.2.2.1 | exact hd.2.2.2.2.2.2.1 | exact hd.2.2.2.2.2.2.2.1)
        exact gr_pure (ar_rem (b := 4) d211 (ec _) (by have := HLT.out (50 + n); omega) (by omega)) (rfl)
      case s8 =>
        refine ⟨rfl, fun T w1 hT hb ha0 hd => ?_⟩
        have ec := evT_const T
        have ef := evT_func T
        have d212 : evT T (.tmp 212) = .int .i64 ((d (50 + n) % 4 : Nat) : Int) := (by first | exact hd.1 | exact hd.2.1 | exact hd.2.2.1 | exact hd.2.2.2.1 | exact hd.2.2.2.2.1 | exact hd.2.2.2.2.2.1 | exact hd.2.2.2.2.2.2.1 | exact hd.2.2.2.2.2.2.2.1)
        clear hT hd hb ha0
        refine gr_pure (v := .agg #[.int .i64 ((d (50 + n) % 4 : Nat) : Int)]) ?_ rfl
        simp only [execOp]
        go_simp
      case s9 =>
        refine ⟨rfl, fun T w1 hT hb ha0 hd => ?_⟩
        have ec := evT_const T
        have ef := evT_func T
        have d213 : evT T (.tmp 213) = .agg #[.int .i64 ((d (50 + n) % 4 : Nat) : Int)] := (by first | exact hd.1 | exact hd.2.1 | exact hd.2.2.1 | exact hd.2.2.2.1 | exact hd.2.2.2.2.1 | exact hd.2.2.2.2.2.1 | exact hd.2.2.2.2.2.2.1 | exact hd.2.2.2.2.2.2.2.1)
        have hz := hb.size
        refine gr_made (v := mkRow 1 w1.heap.size) (w' := w1.alloc (.cells [.int .i64 ((d (50 + n) % 4 : Nat) : Int)].toArray 80)) ?_ (World.grownBy_alloc _ _ _) (show IsBlk (wr.heap.size) (mkRow 1) [.int .i64 ((d (50 + n) % 4 : Nat) : Int)] 80 (mkRow 1 w1.heap.size) _ from isBlk_new hz)
        clear hT hd hb ha0
        simp only [execOp, mkRow]
        go_simp
      case s10 =>
        refine ⟨rfl, fun T w1 hT hb ha0 hd => ?_⟩
        have ec := evT_const T
        have ef := evT_func T
        have d206 : evT T (.tmp 206) = .slice A3 n c3 := (by first | exact hd.1 | exact hd.2.1 | exact hd.2.2.1 | exact hd.2.2.2.1 | exact hd.2.2.2.2.1 | exact hd.2.2.2.2.2.1 | exact hd.2.2.2.2.2.2.1 | exact hd.2.2.2.2.2.2.2.1)
        obtain ⟨b, d214, hbb, hbh⟩ : IsBlk (wr.heap.size) (mkRow 1) [.int .i64 ((d (50 + n) % 4 : Nat) : Int)] 80 (evT T (.tmp 214)) w1 := (by first | exact hd.1 | exact hd.2.1 | exact hd.2.2.1 | exact hd.2.2.2.1 | exact hd.2.2.2.2.1 | exact hd.2.2.2.2.2.1 | exact hd.2.2.2.2.2.2.1 | exact hd.2.2.2.2.2.2.2.1)
        have hbx1 := (HC.out w1 hb).2
        have hW5 : Moved [] wr w1 := Moved.of_grown (ha0 rfl) (fun k h => by cases h)
        obtain ⟨vss, hown, hstep⟩ := row_step (x := rstP d n) (lits := [.int .i64 ((d (50 + n) % 4 : Nat) : Int)]) HROW.out hgs HNE.out hW5 rfl rfl
        rw [rstsP_len] at hown hstep
        obtain ⟨i53, hi, hz0, hz1, hz2⟩ := info_parts Try.info80
        have hz := hb.size
        obtain ⟨v', w', hrun, hown', hg', _, hob'⟩ := run_append_own_at (P := Try.prog) w1 wd.heap.size 24 24 80 i53 (.agg #[.int .i64 0]) 1 8 Try.underlying24 hi hz0 hz1 hz2 rfl (by decide) (.slice A3 n c3) n vss.flatten hown ⟨b, 0, none⟩ 1 1 [.int .i64 ((d (50 + n) % 4 : Nat) : Int)] rfl (fun j u hj => by
            cases j with
            | zero => simp at hj; subst hj; rw [Addr.add_lit, cell_of_row _ _ _ _ _ _ hbh]; rfl
            | succ j => simp at hj) (by intro u hu; rw [List.mem_singleton.1 hu]; rfl) (by unfold maxLen; omega) (by omega) (by omega)
        obtain ⟨hne6, hmv6, hfin⟩ := hstep v' w' hown' hg' hob'
        refine gr_made (v := v') (w' := w') ?_ hg' ⟨hne6, hmv6, hbx1.move (Moved.of_grown (hot := (Value.slice A3 n c3).ownBlock.toList) hg' (by simp)) (by simpa using HNE.out), fun j u => (hfin j u).1, own_shape' hown'⟩
        clear hT hd hb ha0 hown' hg' hown hstep hbh hfin hob' hmv6
        simp only [mkRow] at d214
        unfold execOp
        simp only [resolve, invoke, builtin, Sem.run_bind, Sem.run_pure, Result.andThen_ok, List.map_toArray, List.map_cons, List.map_nil, d206, d214, hrun]
      case s11 =>
        refine ⟨rfl, fun T w1 hT hb ha0 hd => ?_⟩
        have ec := evT_const T
        have ef := evT_func T
        have d6 : evT T (.tmp 6) = .pointer (some ⟨wa.heap.size + 1, 0, none⟩) := hT 6 (by kernel_rfl)
        clear hT hd hb ha0
        refine gr_pure (v := .pointer (some ⟨wa.heap.size + 1, 2, none⟩)) ?_ rfl
        simp only [execOp]
        go_simp
      case fin =>
        intro T w1 o ho hT hb hd
        obtain rfl : _ = o := Option.some.inj ho
        clear ho
        have ec := evT_const T
        simp only [putL, Act.put, Option.getD_some, List.setIfInBounds_toArray, List.set_cons_zero, List.set_cons_succ]
        have d216 : evT T (.tmp 216) = .pointer (some ⟨wa.heap.size + 1, 2, none⟩) := hd.2.2.2.2.2.2.2.2.2.2.2.1
        obtain ⟨hne6, hmv6, hbx6, hrow6, A6, c6, d215⟩ : (fun v w => v.ownBlock ≠ some (wa.heap.size + 1) ∧ Moved ((wa.heap.size + 1) :: (Value.slice A3 n c3).ownBlock.toList) wr w ∧ BoxAt w (wa.heap.size + 1) [v1, v2, .slice A3 n c3, .slice none 0 0] ∧ (∀ j u, RowC RstC 1 80 ((wa.heap.size + 1) :: v.ownBlock.toList) (w.setCell ⟨wa.heap.size + 1, j, none⟩ u) wd.heap.size v (rstsP d n ++ [rstP d n])) ∧ ∃ A c, v = .slice A (n + 1) c) (evT T (.tmp 215)) w1 := hd.2.2.2.2.2.2.2.2.2.2.1
        rw [d215] at hne6 hrow6
        refine ⟨undef, w1.setCell ⟨wa.heap.size + 1, 2, none⟩ (.slice A6 (n + 1) c6), .inr (storeSl_run (j := 2) (by simp) Try.sizeOf24 d216 d215 hbx6), ?_⟩
        have hbox4 : BoxAt (w1.setCell ⟨wa.heap.size + 1, 2, none⟩ (.slice A6 (n + 1) c6)) (wa.heap.size + 1) [v1, v2, .slice A6 (n + 1) c6, .slice none 0 0] := hbx6.set (j := 2) (by simp) _
        have hmv7 := hmv6.trans (Moved.setCell w1 (p := ⟨wa.heap.size + 1, 2, none⟩) (by simp) (.slice A6 (n + 1) c6))
        have HROW6 := Lib.hid (hrow6 2 (.slice A6 (n + 1) c6))
        have HNE6 := Lib.hid hne6
        have HBX6 := Lib.hid hbox4
        have HMV7 := Lib.hid hmv7
        clear hT hb hd d216 d215 hne6 hmv6 hbx6 hrow6 hbox4 ec HC hmv7
        go_wp2
        go_roundw
        case measure => simp [intOf]; omega
        case rel =>
          refine ⟨n + 1, _, by omega, by go_num, ⟨?_, HNE6.out, HBX6.out, HDRr.out.move HMV7.out (by omega) ?_, HMb.out.trans' HMV7.out ?_⟩⟩
          · have := HROW6.out
            rwa [show rstsP d n ++ [rstP d n] = rstsP d (n + 1) from (range_snoc _ _).symm] at this
          · intro hm
            rcases List.mem_cons.1 hm with e | e
            · omega
            · have := (HLT3.out (w.heap.size + 1) (by simpa using e)).1
              omega
          · intro j hj
            rcases List.mem_cons.1 hj with e | e
            · exact .inl (by simp [e])
            · exact .inr (HLT3.out j (by simpa using e)).1

    · have hge : ¬ n < 1 + d 3 % 3 := hlt
      have hnn : n = nRst d := by omega
      have HNN := Lib.hid hnn
      clear hnn hlt3
      go_wp2
      exact HQ.out _ _ _ ⟨rfl, rfl⟩ rfl rfl rfl (by rw [← HNN.out]; exact ⟨hrow, hne3, hbx, hdr, hMb⟩)

end Go.Proofs.Ytnfbhhgdibkbdaa
