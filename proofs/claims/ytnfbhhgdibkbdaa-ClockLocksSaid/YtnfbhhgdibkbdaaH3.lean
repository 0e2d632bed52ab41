/- The contract of catnaplaw4.chip, in parts: H3. (Written by wip/tools/h1.py.) -/
import Derived.Test.YtnfbhhgdibkbdaaH0
namespace Go.Proofs.Ytnfbhhgdibkbdaa
set_option linter.unusedSimpArgs false
set_option linter.unusedVariables false
open Go.RowKit Go.Maps

set_option maxRecDepth 1000000 in
set_option maxHeartbeats 8000000 in
theorem loop3_any (w wa : World) (d : Nat → Nat) (hltd : ∀ i, d i < 1000000) (hMsz : w.heap.size + 1 + 1 ≤ wa.heap.size) (wb : World) (hgd : w.heap.size + 1 < wb.heap.size) (hgs0 : wa.heap.size + 1 < wb.heap.size) (p2 : Value)
    (Q : Exit → Act → World → Prop) (a : Act) (v1 : Value) (ha : Fr a) (h2 : slT a 2 = p2) (h4 : slT a 4 = .slice (some ⟨w.heap.size + 1, 0, none⟩) 120 120) (h6 : slT a 6 = .pointer (some ⟨wa.heap.size + 1, 0, none⟩)) (h11 : slT a 11 = .int .i64 0)
    (hbx0 : BoxAt wb (wa.heap.size + 1) [v1, .slice none 0 0, .slice none 0 0, .slice none 0 0]) (hdr0 : DrawsTo wb (w.heap.size + 1) d 120)
    (hQ : ∀ a' wx v2, Fr a' → slT a' 2 = p2 → slT a' 4 = .slice (some ⟨w.heap.size + 1, 0, none⟩) 120 120 → slT a' 6 = .pointer (some ⟨wa.heap.size + 1, 0, none⟩) → Ph3 wx wb (w.heap.size + 1) (wa.heap.size + 1) d v1 v2 (nDom d) → Q (.exit 5) a' wx) :
    Code.wp Try.prog loop3 Q a wb := by
  have HLT := Lib.hid hltd
  have HBX0 := Lib.hid hbx0
  have HDR0 := Lib.hid hdr0
  have HQ := Lib.hid hQ
  clear hltd hbx0 hdr0 hQ
  obtain ⟨F, rfl⟩ := ha.open_
  rw [slT_listT (by omega)] at h2
  rw [slT_listT (by omega)] at h4
  rw [slT_listT (by omega)] at h6
  rw [slT_listT (by omega)] at h11
  rw [lit352, h2, h4, h6, h11]
  clear ha h2 h4 h6 h11
  conv => arg 2; whnf
  go_loopw [11] (fun i wr => ∃ n v2, n ≤ nDom d ∧ i = .int .i64 (n : Nat) ∧ Ph3 wr wb (w.heap.size + 1) (wa.heap.size + 1) d v1 v2 n) (fun i _ => nDom d - (intOf i).toNat)
  case atStart => exact ⟨0, _, Nat.zero_le _, rfl, ⟨RowC.nil DomC _ _ _ _ _, by simp [Value.ownBlock], HBX0.out, HDR0.out, Moved.refl _ _⟩⟩
  case round =>
    obtain ⟨n, v2, hn, rfl, ⟨hrow, hne2, hbx, hdr, hMb⟩⟩ := hrel
    obtain ⟨A2, c2, hv2, hc2, hlt2⟩ := hrow.shape
    rw [domsP_len] at hv2
    have hgs := hbx.lt
    have hMz := hMb.size
    have c2d := (hdr 2 (by omega)).2
    rw [if_pos (by omega)] at c2d
    have b1 := HLT.out 2
    have hn4 : nDom d ≤ 4 := by unfold nDom; omega
    by_cases hlt : n < nDom d
    · have hlt9 : n < 1 + d 2 % 4 := hlt
      have hC : ∀ W, wr.grownBy W none → ∀ i, i < 120 → W.cell? ⟨w.heap.size + 1, i, none⟩ = some (.int .i64 (d i : Nat)) := fun W hW i hi => by have := ((hdr.grown hW (by omega) (by simp)) i hi).2; rwa [if_pos hi] at this
      have HC := Lib.hid hC
      have HROW := Lib.hid hrow
      have HBX := Lib.hid hbx
      have HDRr := Lib.hid hdr
      have HMb := Lib.hid hMb
      have HNE := Lib.hid hne2
      have HLT2 := Lib.hid hlt2
      clear hC hrow hbx hdr hMb hne2 hlt2
      have HV2 := Lib.hid hv2
      clear hv2
      go_wp2
      refine region_then [⟨IsV (.slice (some ⟨w.heap.size + 1, 0, none⟩) 120 120), true, false⟩,
        ⟨IsV (.int .i64 (n : Nat)), true, false⟩,
        ⟨IsV (.int .i64 ((40 + n : Nat) : Int)), true, false⟩,
        ⟨IsV (.pointer (some ⟨w.heap.size + 1, 40 + n, none⟩)), true, false⟩,
        ⟨IsV (.int .i64 ((d (40 + n) : Nat) : Int)), true, false⟩,
        ⟨IsV (.int .i64 ((d (40 + n) % 4 : Nat) : Int)), true, false⟩,
        ⟨IsV (.slice (some ⟨w.heap.size + 1, 0, none⟩) 120 120), true, false⟩,
        ⟨IsV (.int .i64 (n : Nat)), true, false⟩,
        ⟨IsV (.int .i64 ((40 + n : Nat) : Int)), true, false⟩,
        ⟨IsV (.pointer (some ⟨w.heap.size + 1, 40 + n, none⟩)), true, false⟩,
        ⟨IsV (.int .i64 ((d (40 + n) : Nat) : Int)), true, false⟩,
        ⟨IsV (.int .i64 ((d (40 + n) / 4 : Nat) : Int)), true, false⟩,
        ⟨IsV (.int .i64 ((d (40 + n) / 4 % 2 : Nat) : Int)), true, false⟩,
        ⟨IsV (.bool (d (40 + n) / 4 % 2 == 1)), true, false⟩,
        ⟨IsV (.agg #[.int .i64 (-1), .int .i64 ((d (40 + n) % 4 : Nat) : Int), .bool (d (40 + n) / 4 % 2 == 1)]), true, false⟩,
        ⟨IsBlk (wr.heap.size) mkPtr [.int .i64 0, .int .i64 0, .bool false] 75, false, false⟩] none 352 (by kernel_rfl) rfl (by kernel_rfl) ⟨fun _ => stbR_V _ _, fun _ => stbR_V _ _, fun _ => stbR_V _ _, fun _ => stbR_V _ _, fun _ => stbR_V _ _, fun _ => stbR_V _ _, fun _ => stbR_V _ _, fun _ => stbR_V _ _, fun _ => stbR_V _ _, fun _ => stbR_V _ _, fun _ => stbR_V _ _, fun _ => stbR_V _ _, fun _ => stbR_V _ _, fun _ => stbR_V _ _, fun _ => stbR_V _ _, fun _ => stbR_blk (by simp), trivial⟩ ⟨?s0, ?s1, ?s2, ?s3, ?s4, ?s5, ?s6, ?s7, ?s8, ?s9, ?s10, ?s11, ?s12, ?s13, ?s14, ?s15, trivial⟩ ?fin
      case s0 =>
        refine ⟨rfl, fun T w1 hT hb ha0 hd => ?_⟩
        have ec := evT_const T
        have ef := evT_func T
        have d4 : evT T (.tmp 4) = .slice (some ⟨w.heap.size + 1, 0, none⟩) 120 120 := hT 4 (by kernel_rfl)
        exact gr_pure (ar_move d4) rfl
      case s1 =>
        refine ⟨rfl, fun T w1 hT hb ha0 hd => ?_⟩
        have ec := evT_const T
        have ef := evT_func T
        have d11 : evT T (.tmp 11) = .int .i64 (n : Nat) := hT 11 (by kernel_rfl)
        exact gr_pure (ar_move d11) rfl
      case s2 =>
        refine ⟨rfl, fun T w1 hT hb ha0 hd => ?_⟩
        have ec := evT_const T
        have ef := evT_func T
        have d156 : evT T (.tmp 156) = .int .i64 (n : Nat) := (by first | exact hd.1 | exact hd.2.1 | exact hd.2.2.1 | exact hd.2.2.2.1 | exact hd.2.2.2.2.1 | exact hd.2.2.2.2.2.1 | exact hd.2.2.2.2.2.2.1 | exact hd.2.2.2.2.2.2.2.1)
        exact gr_pure (ar_add (a := 40) (ec _) d156 (by omega)) (rfl)
      case s3 =>
        refine ⟨rfl, fun T w1 hT hb ha0 hd => ?_⟩
        have ec := evT_const T
        have ef := evT_func T
        have d155 : evT T (.tmp 155) = .slice (some ⟨w.heap.size + 1, 0, none⟩) 120 120 := (by first | exact hd.1 | exact hd.2.1 | exact hd.2.2.1 | exact hd.2.2.2.1 | exact hd.2.2.2.2.1 | exact hd.2.2.2.2.2.1 | exact hd.2.2.2.2.2.2.1 | exact hd.2.2.2.2.2.2.2.1)
        have d157 : evT T (.tmp 157) = .int .i64 ((40 + n : Nat) : Int) := (by first | exact hd.1 | exact hd.2.1 | exact hd.2.2.1 | exact hd.2.2.2.1 | exact hd.2.2.2.2.1 | exact hd.2.2.2.2.2.1 | exact hd.2.2.2.2.2.2.1 | exact hd.2.2.2.2.2.2.2.1)
        have g0 : (0 : Int) ≤ 40 + (n : Int) := by omega
        have g1 : 40 + (n : Int) < 120 := by omega
        have g2 : (40 + (n : Int)).toNat = 40 + n := by omega
        clear hT hd hb ha0
        refine gr_pure (v := .pointer (some ⟨w.heap.size + 1, 40 + n, none⟩)) ?_ rfl
        simp only [execOp]
        go_simp
      case s4 =>
        refine ⟨rfl, fun T w1 hT hb ha0 hd => ?_⟩
        have ec := evT_const T
        have ef := evT_func T
        have d158 : evT T (.tmp 158) = .pointer (some ⟨w.heap.size + 1, 40 + n, none⟩) := (by first | exact hd.1 | exact hd.2.1 | exact hd.2.2.1 | exact hd.2.2.2.1 | exact hd.2.2.2.2.1 | exact hd.2.2.2.2.2.1 | exact hd.2.2.2.2.2.2.1 | exact hd.2.2.2.2.2.2.2.1)
        have f0 := HC.out w1 hb (40 + n) (by omega)
        clear hT hd hb ha0
        refine gr_pure (v := .int .i64 ((d (40 + n) : Nat) : Int)) ?_ rfl
        simp only [execOp]
        go_simp
      case s5 =>
        refine ⟨rfl, fun T w1 hT hb ha0 hd => ?_⟩
        have ec := evT_const T
        have ef := evT_func T
        have d159 : evT T (.tmp 159) = .int .i64 ((d (40 + n) : Nat) : Int) := (by first | exact hd.1 | exact hd.2.1 | exact hd.2.2.1 | exact hd.2.2.2.1 | exact hd.2.2.2.2.1 | exact hd.2.2.2.2.2.1 | exact hd.2.2.2.2.2.2.1 | exact hd.2.2.2.2.2.2.2.1)
        exact gr_pure (ar_rem (b := 4) d159 (ec _) (by have := HLT.out (40 + n); omega) (by omega)) (rfl)
      case s6 =>
        refine ⟨rfl, fun T w1 hT hb ha0 hd => ?_⟩
        have ec := evT_const T
        have ef := evT_func T
        have d4 : evT T (.tmp 4) = .slice (some ⟨w.heap.size + 1, 0, none⟩) 120 120 := hT 4 (by kernel_rfl)
        exact gr_pure (ar_move d4) rfl
      case s7 =>
        refine ⟨rfl, fun T w1 hT hb ha0 hd => ?_⟩
        have ec := evT_const T
        have ef := evT_func T
        have d11 : evT T (.tmp 11) = .int .i64 (n : Nat) := hT 11 (by kernel_rfl)
        exact gr_pure (ar_move d11) rfl
      case s8 =>
        refine ⟨rfl, fun T w1 hT hb ha0 hd => ?_⟩
        have ec := evT_const T
        have ef := evT_func T
        have d162 : evT T (.tmp 162) = .int .i64 (n : Nat) := (by first | exact hd.1 | exact hd.2.1 | exact hd.2.2.1 | exact hd.2.2.2.1 | exact hd.2.2.2.2.1 | exact hd.2.2.2.2.2.1 | exact hd.2.2.2.2.2.2.1 | exact hd.2.2.2.2.2.2.2.1)
        exact gr_pure (ar_add (a := 40) (ec _) d162 (by omega)) (rfl)
      case s9 =>
        refine ⟨rfl, fun T w1 hT hb ha0 hd => ?_⟩
        have ec := evT_const T
        have ef := evT_func T
        have d161 : evT T (.tmp 161) = .slice (some ⟨w.heap.size + 1, 0, none⟩) 120 120 := (by first | exact hd.1 | exact hd.2.1 | exact hd.2.2.1 | exact hd.2.2.2.1 | exact hd.2.2.2.2.1 | exact hd.2.2.2.2.2.1 | exact hd.2.2.2.2.2.2.1 | exact hd.2.2.2.2.2.2.2.1)
        have d163 : evT T (.tmp 163) = .int .i64 ((40 + n : Nat) : Int) := (by first | exact hd.1 | exact hd.2.1 | exact hd.2.2.1 | exact hd.2.2.2.1 | exact hd.2.2.2.2.1 | exact hd.2.2.2.2.2.1 | exact hd.2.2.2.2.2.2.1 | exact hd.2.2.2.2.2.2.2.1)
        have g0 : (0 : Int) ≤ 40 + (n : Int) := by omega
        have g1 : 40 + (n : Int) < 120 := by omega
        have g2 : (40 + (n : Int)).toNat = 40 + n := by omega
        clear hT hd hb ha0
        refine gr_pure (v := .pointer (some ⟨w.heap.size + 1, 40 + n, none⟩)) ?_ rfl
        simp only [execOp]
        go_simp
      case s10 =>
        refine ⟨rfl, fun T w1 hT hb ha0 hd => ?_⟩
        have ec := evT_const T
        have ef := evT_func T
        have d164 : evT T (.tmp 164) = .pointer (some ⟨w.heap.size + 1, 40 + n, none⟩) := (by first | exact hd.1 | exact hd.2.1 | exact hd.2.2.1 | exact hd.2.2.2.1 | exact hd.2.2.2.2.1 | exact hd.2.2.2.2.2.1 | exact hd.2.2.2.2.2.2.1 | exact hd.2.2.2.2.2.2.2.1)
        have f0 := HC.out w1 hb (40 + n) (by omega)
        clear hT hd hb ha0
        refine gr_pure (v := .int .i64 ((d (40 + n) : Nat) : Int)) ?_ rfl
        simp only [execOp]
        go_simp
      case s11 =>
        refine ⟨rfl, fun T w1 hT hb ha0 hd => ?_⟩
        have ec := evT_const T
        have ef := evT_func T
        have d165 : evT T (.tmp 165) = .int .i64 ((d (40 + n) : Nat) : Int) := (by first | exact hd.1 | exact hd.2.1 | exact hd.2.2.1 | exact hd.2.2.2.1 | exact hd.2.2.2.2.1 | exact hd.2.2.2.2.2.1 | exact hd.2.2.2.2.2.2.1 | exact hd.2.2.2.2.2.2.2.1)
        exact gr_pure (ar_quo (b := 4) d165 (ec _) (by have := HLT.out (40 + n); omega) (by omega)) (rfl)
      case s12 =>
        refine ⟨rfl, fun T w1 hT hb ha0 hd => ?_⟩
        have ec := evT_const T
        have ef := evT_func T
        have d166 : evT T (.tmp 166) = .int .i64 ((d (40 + n) / 4 : Nat) : Int) := (by first | exact hd.1 | exact hd.2.1 | exact hd.2.2.1 | exact hd.2.2.2.1 | exact hd.2.2.2.2.1 | exact hd.2.2.2.2.2.1 | exact hd.2.2.2.2.2.2.1 | exact hd.2.2.2.2.2.2.2.1)
        exact gr_pure (ar_rem (b := 2) d166 (ec _) (by have := HLT.out (40 + n); omega) (by omega)) (rfl)
      case s13 =>
        refine ⟨rfl, fun T w1 hT hb ha0 hd => ?_⟩
        have ec := evT_const T
        have ef := evT_func T
        have d167 : evT T (.tmp 167) = .int .i64 ((d (40 + n) / 4 % 2 : Nat) : Int) := (by first | exact hd.1 | exact hd.2.1 | exact hd.2.2.1 | exact hd.2.2.2.1 | exact hd.2.2.2.2.1 | exact hd.2.2.2.2.2.1 | exact hd.2.2.2.2.2.2.1 | exact hd.2.2.2.2.2.2.2.1)
        have hj : d (40 + n) / 4 % 2 < 2 := Nat.mod_lt _ (by omega)
        clear hT hd hb ha0
        refine gr_pure (v := .bool (d (40 + n) / 4 % 2 == 1)) ?_ rfl
        generalize d (40 + n) / 4 % 2 = j at d167 hj ⊢
        rcases j with _ | _ | j
        all_goals first | omega | (simp only [execOp]; go_simp; done) | (simp only [execOp]; go_simp; rfl)
      case s14 =>
        refine ⟨rfl, fun T w1 hT hb ha0 hd => ?_⟩
        have ec := evT_const T
        have ef := evT_func T
        have d160 : evT T (.tmp 160) = .int .i64 ((d (40 + n) % 4 : Nat) : Int) := (by first | exact hd.1 | exact hd.2.1 | exact hd.2.2.1 | exact hd.2.2.2.1 | exact hd.2.2.2.2.1 | exact hd.2.2.2.2.2.1 | exact hd.2.2.2.2.2.2.1 | exact hd.2.2.2.2.2.2.2.1)
        have d168 : evT T (.tmp 168) = .bool (d (40 + n) / 4 % 2 == 1) := (by first | exact hd.1 | exact hd.2.1 | exact hd.2.2.1 | exact hd.2.2.2.1 | exact hd.2.2.2.2.1 | exact hd.2.2.2.2.2.1 | exact hd.2.2.2.2.2.2.1 | exact hd.2.2.2.2.2.2.2.1)
        clear hT hd hb ha0
        refine gr_pure (v := .agg #[.int .i64 (-1), .int .i64 ((d (40 + n) % 4 : Nat) : Int), .bool (d (40 + n) / 4 % 2 == 1)]) ?_ rfl
        simp only [execOp]
        go_simp
      case s15 =>
        refine ⟨rfl, fun T w1 hT hb ha0 hd => ?_⟩
        have ec := evT_const T
        have ef := evT_func T
        have hz := hb.size
        refine gr_made (v := mkPtr w1.heap.size) (w' := w1.alloc (.cells [.int .i64 0, .int .i64 0, .bool false].toArray 75)) ?_ (World.grownBy_alloc _ _ _) (show IsBlk (wr.heap.size) mkPtr [.int .i64 0, .int .i64 0, .bool false] 75 (mkPtr w1.heap.size) _ from isBlk_new hz)
        clear hT hd hb ha0
        simp only [execOp, mkPtr]
        go_simp
      case fin =>
        intro T w1 o ho hT hb hd
        obtain rfl : _ = o := Option.some.inj ho
        clear ho
        have ec := evT_const T
        simp only [putL, Act.put, Option.getD_some, List.setIfInBounds_toArray, List.set_cons_zero, List.set_cons_succ]
        obtain ⟨bc, d12, hbc, hbch⟩ : IsBlk (wr.heap.size) mkPtr [.int .i64 0, .int .i64 0, .bool false] 75 (evT T (.tmp 12)) w1 := hd.2.2.2.2.2.2.2.2.2.2.2.2.2.2.2.1
        have d169 : evT T (.tmp 169) = .agg #[.int .i64 (-1), .int .i64 ((d (40 + n) % 4 : Nat) : Int), .bool (d (40 + n) / 4 % 2 == 1)] := hd.2.2.2.2.2.2.2.2.2.2.2.2.2.2.1
        obtain ⟨w3, hrun, hbox, hmv3⟩ := store51 d12 d169 (BoxAt.of_blk hbch)
        refine ⟨undef, w3, .inr (hrun _ _ _), ?_⟩
        have hmw : Moved [] wr w3 := (Moved.of_grown hb (fun k h => by cases h)).trans' hmv3 (fun k hk => .inr (by have := List.mem_singleton.1 hk; omega))
        have e12 : T 12 = .pointer (some ⟨bc, 0, none⟩) := d12
        rw [e12]
        have HMW := Lib.hid hmw
        have hdr3 := HDRr.out.move HMW.out (by omega) (by simp)
        have dk2 := (hdr3 (44 + n) (by omega)).2
        rw [if_pos (by omega)] at dk2
        have b2 := HLT.out (44 + n)
        have hbx3 := HBX.out.move HMW.out (by simp)
        obtain ⟨x0, y0⟩ := hbx3 1 _ rfl
        obtain ⟨z0, y1⟩ := hbox 0 _ rfl
        obtain ⟨z1, y2⟩ := hbox 1 _ rfl
        obtain ⟨z2, y3⟩ := hbox 2 _ rfl
        have i1 : w.heap.size + 1 ≠ bc := by omega
        have i2 : wa.heap.size + 1 ≠ bc := by omega
        have i3 : bc ≠ w.heap.size + 1 := by omega
        have i4 : bc ≠ wa.heap.size + 1 := by omega
        have g0 : (0 : Int) ≤ 44 + (n : Int) := by omega
        have g1' : 44 + (n : Int) < 120 := by omega
        have g2 : (44 + (n : Int)).toNat = 44 + n := by omega
        clear hT hb hd d12 e12 hbch hbox hmw hmv3 hrun ec HC hdr3 hbx3 d169
        by_cases h0 : 0 < n
        · by_cases h1 : 0 < d (44 + n) % 3
          · have hcs : 0 < n ∧ 0 < d (44 + n) % 3 := ⟨h0, h1⟩
            have hcl : domP d n = ⟨(d (44 + n) : Int) / 3 % (n : Int), ((d (40 + n) % 4 : Nat) : Int), d (40 + n) / 4 % 2 == 1⟩ := by
              unfold domP
              simp [hcs]
            have hW4 : Moved [] wr (w3.setCell ⟨bc, 0, none⟩ (.int .i64 ((d (44 + n) : Int) / 3 % (n : Int)))) := HMW.out.trans' ((Moved.refl [bc] w3).trans (Moved.setCell _ (by simp) _)) (fun j hj => .inr (by have := List.mem_singleton.1 hj; omega))
            have hW5 : Moved [] wr ((w3.setCell ⟨bc, 0, none⟩ (.int .i64 ((d (44 + n) : Int) / 3 % (n : Int)))).alloc (.cells [.int .i64 ((d (44 + n) : Int) / 3 % (n : Int)), .int .i64 ((d (40 + n) : Int) % 4), .bool (d (40 + n) / 4 % 2 == 1)].toArray 75)) := hW4.trans (Moved.alloc _ _)
            have hx : DomC ((wa.heap.size + 1) :: v2.ownBlock.toList) ((w3.setCell ⟨bc, 0, none⟩ (.int .i64 ((d (44 + n) : Int) / 3 % (n : Int)))).alloc (.cells [.int .i64 ((d (44 + n) : Int) / 3 % (n : Int)), .int .i64 ((d (40 + n) : Int) % 4), .bool (d (40 + n) / 4 % 2 == 1)].toArray 75)) (domP d n) [.int .i64 ((d (44 + n) : Int) / 3 % (n : Int)), .int .i64 ((d (40 + n) : Int) % 4), .bool (d (40 + n) / 4 % 2 == 1)] := by
              unfold DomC
              rw [hcl]
              simp
            obtain ⟨vss, hown, hstep⟩ := row_step HROW.out hgs HNE.out hW5 hx rfl
            rw [domsP_len] at hown hstep
            have HOWN := Lib.hid hown
            have HSTEP := Lib.hid hstep
            have HW5 := Lib.hid hW5
            have hz3 := HMW.out.size
            clear hcl hW4 hW5 hx hown hstep hcs
            obtain ⟨i51, hi, hz0, hz1, hz2⟩ := info_parts Try.info75
            go_wp2_with (at_builtin; refine wpList_append_own_at _ rfl _ _ 23 rfl wb.heap.size 75 i51 (.agg #[.int .i64 0, .int .i64 0, .bool false]) 3 24 Try.underlying23 hi hz0 hz1 hz2 rfl (by decide) _ _ _ rfl HOWN.out ⟨w3.heap.size, 0, none⟩ 1 1 [.int .i64 ((d (44 + n) : Int) / 3 % (n : Int)), .int .i64 ((d (40 + n) : Int) % 4), .bool (d (40 + n) / 4 % 2 == 1)] rfl rfl (cells_new (w3.setCell ⟨bc, 0, none⟩ (.int .i64 ((d (44 + n) : Int) / 3 % (n : Int)))) w3.heap.size (by simp [size_setCell]) _ 75) (by intro u hu; simp at hu; rcases hu with rfl | rfl | rfl <;> rfl) (by unfold maxLen; omega) (by omega) (by simp [size_setCell]; omega) ?_; intro v6 w6 hown6 hg6 _ hob6; obtain ⟨A6, c6, rfl⟩ := own_shape' hown6; obtain ⟨hne6, hmv6, hfin⟩ := HSTEP.out _ _ hown6 hg6 hob6; have hbx6 := (HBX.out.move HW5.out (by simp)).move (Moved.of_grown (hot := v2.ownBlock.toList) (row := v2.ownBlock) hg6 (by simp)) (by simpa using HNE.out); obtain ⟨q0, q1⟩ := hbx6 1 _ rfl; have HBX6 := Lib.hid hbx6; have HFIN := Lib.hid (hfin 1 (.slice A6 (n + 1) c6)); have HNE6 := Lib.hid hne6; clear hown6 hg6 hob6 hmv6 hfin hbx6 hne6)
            go_roundw
            case measure => simp [intOf]; omega
            case rel =>
              refine ⟨n + 1, _, by omega, by go_num, ⟨?_, HNE6.out, HBX6.out.set (by simp) _, HDRr.out.move HFIN.out.2 (by omega) ?_, HMb.out.trans' HFIN.out.2 ?_⟩⟩
              · have := HFIN.out.1
                rwa [show domsP d n ++ [domP d n] = domsP d (n + 1) from (range_snoc _ _).symm] at this
              · intro hm
                rcases List.mem_cons.1 hm with e | e
                · omega
                · have := (HLT2.out (w.heap.size + 1) (by simpa using e)).1
                  omega
              · intro j hj
                rcases List.mem_cons.1 hj with e | e
                · exact .inl (by simp [e])
                · exact .inr (HLT2.out j (by simpa using e)).1
          · have hcs : ¬ (0 < n ∧ 0 < d (44 + n) % 3) := fun h => h1 h.2
            have hcl : domP d n = ⟨-1, ((d (40 + n) % 4 : Nat) : Int), d (40 + n) / 4 % 2 == 1⟩ := by
              unfold domP
              simp [hcs]
            have hW4 : Moved [] wr w3 := HMW.out.trans' (Moved.refl [bc] w3) (fun j hj => .inr (by have := List.mem_singleton.1 hj; omega))
            have hW5 : Moved [] wr (w3.alloc (.cells [.int .i64 (-1), .int .i64 ((d (40 + n) : Int) % 4), .bool (d (40 + n) / 4 % 2 == 1)].toArray 75)) := hW4.trans (Moved.alloc _ _)
            have hx : DomC ((wa.heap.size + 1) :: v2.ownBlock.toList) (w3.alloc (.cells [.int .i64 (-1), .int .i64 ((d (40 + n) : Int) % 4), .bool (d (40 + n) / 4 % 2 == 1)].toArray 75)) (domP d n) [.int .i64 (-1), .int .i64 ((d (40 + n) : Int) % 4), .bool (d (40 + n) / 4 % 2 == 1)] := by
              unfold DomC
              rw [hcl]
              simp
            obtain ⟨vss, hown, hstep⟩ := row_step HROW.out hgs HNE.out hW5 hx rfl
            rw [domsP_len] at hown hstep
            have HOWN := Lib.hid hown
            have HSTEP := Lib.hid hstep
            have HW5 := Lib.hid hW5
            have hz3 := HMW.out.size
            clear hcl hW4 hW5 hx hown hstep hcs
            obtain ⟨i51, hi, hz0, hz1, hz2⟩ := info_parts Try.info75
            go_wp2_with (at_builtin; refine wpList_append_own_at _ rfl _ _ 23 rfl wb.heap.size 75 i51 (.agg #[.int .i64 0, .int .i64 0, .bool false]) 3 24 Try.underlying23 hi hz0 hz1 hz2 rfl (by decide) _ _ _ rfl HOWN.out ⟨w3.heap.size, 0, none⟩ 1 1 [.int .i64 (-1), .int .i64 ((d (40 + n) : Int) % 4), .bool (d (40 + n) / 4 % 2 == 1)] rfl rfl (cells_new w3 w3.heap.size (by simp [size_setCell]) _ 75) (by intro u hu; simp at hu; rcases hu with rfl | rfl | rfl <;> rfl) (by unfold maxLen; omega) (by omega) (by simp [size_setCell]; omega) ?_; intro v6 w6 hown6 hg6 _ hob6; obtain ⟨A6, c6, rfl⟩ := own_shape' hown6; obtain ⟨hne6, hmv6, hfin⟩ := HSTEP.out _ _ hown6 hg6 hob6; have hbx6 := (HBX.out.move HW5.out (by simp)).move (Moved.of_grown (hot := v2.ownBlock.toList) (row := v2.ownBlock) hg6 (by simp)) (by simpa using HNE.out); obtain ⟨q0, q1⟩ := hbx6 1 _ rfl; have HBX6 := Lib.hid hbx6; have HFIN := Lib.hid (hfin 1 (.slice A6 (n + 1) c6)); have HNE6 := Lib.hid hne6; clear hown6 hg6 hob6 hmv6 hfin hbx6 hne6)
            go_roundw
            case measure => simp [intOf]; omega
            case rel =>
              refine ⟨n + 1, _, by omega, by go_num, ⟨?_, HNE6.out, HBX6.out.set (by simp) _, HDRr.out.move HFIN.out.2 (by omega) ?_, HMb.out.trans' HFIN.out.2 ?_⟩⟩
              · have := HFIN.out.1
                rwa [show domsP d n ++ [domP d n] = domsP d (n + 1) from (range_snoc _ _).symm] at this
              · intro hm
                rcases List.mem_cons.1 hm with e | e
                · omega
                · have := (HLT2.out (w.heap.size + 1) (by simpa using e)).1
                  omega
              · intro j hj
                rcases List.mem_cons.1 hj with e | e
                · exact .inl (by simp [e])
                · exact .inr (HLT2.out j (by simpa using e)).1
        · have hcs : ¬ (0 < n ∧ 0 < d (44 + n) % 3) := fun h => h0 h.1
          have hcl : domP d n = ⟨-1, ((d (40 + n) % 4 : Nat) : Int), d (40 + n) / 4 % 2 == 1⟩ := by
            unfold domP
            simp [hcs]
          have hW4 : Moved [] wr w3 := HMW.out.trans' (Moved.refl [bc] w3) (fun j hj => .inr (by have := List.mem_singleton.1 hj; omega))
          have hW5 : Moved [] wr (w3.alloc (.cells [.int .i64 (-1), .int .i64 ((d (40 + n) : Int) % 4), .bool (d (40 + n) / 4 % 2 == 1)].toArray 75)) := hW4.trans (Moved.alloc _ _)
          have hx : DomC ((wa.heap.size + 1) :: v2.ownBlock.toList) (w3.alloc (.cells [.int .i64 (-1), .int .i64 ((d (40 + n) : Int) % 4), .bool (d (40 + n) / 4 % 2 == 1)].toArray 75)) (domP d n) [.int .i64 (-1), .int .i64 ((d (40 + n) : Int) % 4), .bool (d (40 + n) / 4 % 2 == 1)] := by
            unfold DomC
            rw [hcl]
            simp
          obtain ⟨vss, hown, hstep⟩ := row_step HROW.out hgs HNE.out hW5 hx rfl
          rw [domsP_len] at hown hstep
          have HOWN := Lib.hid hown
          have HSTEP := Lib.hid hstep
          have HW5 := Lib.hid hW5
          have hz3 := HMW.out.size
          clear hcl hW4 hW5 hx hown hstep hcs
          obtain ⟨i51, hi, hz0, hz1, hz2⟩ := info_parts Try.info75
          go_wp2_with (at_builtin; refine wpList_append_own_at _ rfl _ _ 23 rfl wb.heap.size 75 i51 (.agg #[.int .i64 0, .int .i64 0, .bool false]) 3 24 Try.underlying23 hi hz0 hz1 hz2 rfl (by decide) _ _ _ rfl HOWN.out ⟨w3.heap.size, 0, none⟩ 1 1 [.int .i64 (-1), .int .i64 ((d (40 + n) : Int) % 4), .bool (d (40 + n) / 4 % 2 == 1)] rfl rfl (cells_new w3 w3.heap.size (by simp [size_setCell]) _ 75) (by intro u hu; simp at hu; rcases hu with rfl | rfl | rfl <;> rfl) (by unfold maxLen; omega) (by omega) (by simp [size_setCell]; omega) ?_; intro v6 w6 hown6 hg6 _ hob6; obtain ⟨A6, c6, rfl⟩ := own_shape' hown6; obtain ⟨hne6, hmv6, hfin⟩ := HSTEP.out _ _ hown6 hg6 hob6; have hbx6 := (HBX.out.move HW5.out (by simp)).move (Moved.of_grown (hot := v2.ownBlock.toList) (row := v2.ownBlock) hg6 (by simp)) (by simpa using HNE.out); obtain ⟨q0, q1⟩ := hbx6 1 _ rfl; have HBX6 := Lib.hid hbx6; have HFIN := Lib.hid (hfin 1 (.slice A6 (n + 1) c6)); have HNE6 := Lib.hid hne6; clear hown6 hg6 hob6 hmv6 hfin hbx6 hne6)
          go_roundw
          case measure => simp [intOf]; omega
          case rel =>
            refine ⟨n + 1, _, by omega, by go_num, ⟨?_, HNE6.out, HBX6.out.set (by simp) _, HDRr.out.move HFIN.out.2 (by omega) ?_, HMb.out.trans' HFIN.out.2 ?_⟩⟩
            · have := HFIN.out.1
              rwa [show domsP d n ++ [domP d n] = domsP d (n + 1) from (range_snoc _ _).symm] at this
            · intro hm
              rcases List.mem_cons.1 hm with e | e
              · omega
              · have := (HLT2.out (w.heap.size + 1) (by simpa using e)).1
                omega
            · intro j hj
              rcases List.mem_cons.1 hj with e | e
              · exact .inl (by simp [e])
              · exact .inr (HLT2.out j (by simpa using e)).1

    · have hge : ¬ n < 1 + d 2 % 4 := hlt
      have hnn : n = nDom d := by omega
      have HNN := Lib.hid hnn
      clear hnn hlt2 hv2
      go_wp2
      exact HQ.out _ _ _ ⟨rfl, rfl⟩ rfl rfl rfl (by rw [← HNN.out]; exact ⟨hrow, hne2, hbx, hdr, hMb⟩)

end Go.Proofs.Ytnfbhhgdibkbdaa
