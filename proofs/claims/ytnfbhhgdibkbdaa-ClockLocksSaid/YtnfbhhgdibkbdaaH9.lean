/- The contract of catnaplaw4.chip, in parts: H9. (Written by wip/tools/h1.py.) -/
import Derived.Test.YtnfbhhgdibkbdaaH5
namespace Go.Proofs.Ytnfbhhgdibkbdaa
set_option linter.unusedSimpArgs false
set_option linter.unusedVariables false
open Go.RowKit Go.Maps

set_option maxRecDepth 1000000 in
set_option maxHeartbeats 8000000 in
theorem loop6_any (w wa wo w3 : World) (d : Nat → Nat) (n k bc : Nat) (p2 : Value) (HLT : Hid (∀ i, d i < 1000000)) (hk96 : k ≤ 96) (hMsz : w.heap.size + 1 + 1 ≤ wa.heap.size) (hgs : wa.heap.size + 1 < wo.heap.size) (hbc : wo.heap.size ≤ bc)
    (HDRr : Hid (DrawsTo wo (w.heap.size + 1) d 120)) (HB3 : Hid (BoxAt w3 bc [.int .i64 ((d k % (nClk d + 1) : Nat) : Int), .int .i64 ((d (k + 1) % (nDom d) : Nat) : Int), .int .i64 ((d (k + 2) % (nRst d) : Nat) : Int), .int .u32 ((d (k + 3) % 3 : Nat) : Int), .slice none 0 0, .slice none 0 0])) (HMW : Hid (Moved [] wo w3))
    (Q : Exit → Act → World → Prop) (a : Act) (ha : Fr a) (h2 : slT a 2 = p2) (h4 : slT a 4 = .slice (some ⟨w.heap.size + 1, 0, none⟩) 120 120) (h6 : slT a 6 = .pointer (some ⟨wa.heap.size + 1, 0, none⟩)) (h14 : slT a 14 = .int .i64 (n : Nat)) (h15 : slT a 15 = .int .i64 (k : Nat)) (h16 : slT a 16 = .pointer (some ⟨bc, 0, none⟩)) (h17 : slT a 17 = .int .i64 0)
    (hQ : ∀ a' wx vR, Fr a' → slT a' 2 = p2 → slT a' 4 = .slice (some ⟨w.heap.size + 1, 0, none⟩) 120 120 → slT a' 6 = .pointer (some ⟨wa.heap.size + 1, 0, none⟩) → slT a' 14 = .int .i64 (n : Nat) → slT a' 15 = .int .i64 (k : Nat) → slT a' 16 = .pointer (some ⟨bc, 0, none⟩) →
      RowC RgsC 2 90 (bc :: vR.ownBlock.toList) wx wo.heap.size vR (regsP d k (d (k + 4) % 5)) → vR.ownBlock ≠ some bc → BoxAt wx bc [.int .i64 ((d k % (nClk d + 1) : Nat) : Int), .int .i64 ((d (k + 1) % (nDom d) : Nat) : Int), .int .i64 ((d (k + 2) % (nRst d) : Nat) : Int), .int .u32 ((d (k + 3) % 3 : Nat) : Int), vR, .slice none 0 0] → Moved [] wo wx → Q (.exit 11) a' wx) :
    Code.wp Try.prog loop6 Q a w3 := by
  have HQ := Lib.hid hQ
  clear hQ
  obtain ⟨F, rfl⟩ := ha.open_
  rw [slT_listT (by omega)] at h2
  rw [slT_listT (by omega)] at h4
  rw [slT_listT (by omega)] at h6
  rw [slT_listT (by omega)] at h14
  rw [slT_listT (by omega)] at h15
  rw [slT_listT (by omega)] at h16
  rw [slT_listT (by omega)] at h17
  rw [lit352, h2, h4, h6, h14, h15, h16, h17]
  clear ha h2 h4 h6 h14 h15 h16 h17
  conv => arg 2; whnf
  go_loopw [17] (fun s wr => ∃ j vR, j ≤ d (k + 4) % 5 ∧ s = .int .i64 (j : Nat) ∧ RowC RgsC 2 90 (bc :: vR.ownBlock.toList) wr wo.heap.size vR (regsP d k j) ∧ vR.ownBlock ≠ some bc ∧ BoxAt wr bc [.int .i64 ((d k % (nClk d + 1) : Nat) : Int), .int .i64 ((d (k + 1) % (nDom d) : Nat) : Int), .int .i64 ((d (k + 2) % (nRst d) : Nat) : Int), .int .u32 ((d (k + 3) % 3 : Nat) : Int), vR, .slice none 0 0] ∧ Moved [] wo wr) (fun s _ => d (k + 4) % 5 - (intOf s).toNat)
  case atStart => exact ⟨0, _, Nat.zero_le _, rfl, RowC.nil RgsC _ _ _ _ _, by simp [Value.ownBlock], HB3.out, HMW.out⟩
  case round =>
    obtain ⟨j, vR, hj, rfl, hrowR, hneR, hbxR, hmS⟩ := hrel
    obtain ⟨AR, cR, hvR, hcR, hltR⟩ := hrowR.shape
    rw [regsP_len] at hvR
    subst hvR
    have hbcs := hbxR.lt
    have hzS := hmS.size
    have hdrS := HDRr.out.move hmS (by omega) (by simp)
    have ck4 := (hdrS (k + 4) (by omega)).2
    rw [if_pos (by omega)] at ck4
    have bk4 := HLT.out (k + 4)
    have hr5 : d (k + 4) % 5 < 5 := Nat.mod_lt _ (by omega)
    have q0 : (0 : Int) ≤ (k : Int) + 4 := by omega
    have q1 : (k : Int) + 4 < 120 := by omega
    have q2 : ((k : Int) + 4).toNat = k + 4 := by omega
    by_cases hltj : j < d (k + 4) % 5
    · have hD : ∀ W, wr.grownBy W (Value.slice AR j cR).ownBlock → (∀ i, i < 120 → W.cell? ⟨w.heap.size + 1, i, none⟩ = some (.int .i64 (d i : Nat))) ∧ BoxAt W bc [.int .i64 ((d k % (nClk d + 1) : Nat) : Int), .int .i64 ((d (k + 1) % (nDom d) : Nat) : Int), .int .i64 ((d (k + 2) % (nRst d) : Nat) : Int), .int .u32 ((d (k + 3) % 3 : Nat) : Int), .slice AR j cR, .slice none 0 0] := fun W hW =>
        ⟨fun i hi => by have := ((hdrS.grown hW (by omega) (fun e => by have := (hltR _ e.symm).1; omega)) i hi).2; rwa [if_pos hi] at this, hbxR.move (Moved.of_grown (hot := (Value.slice AR j cR).ownBlock.toList) hW (by simp)) (by simpa using hneR)⟩
      have HD := Lib.hid hD
      have HROWR := Lib.hid hrowR
      have HBXR := Lib.hid hbxR
      have HMS := Lib.hid hmS
      have HNER := Lib.hid hneR
      have HLTR := Lib.hid hltR
      clear hD hrowR hbxR hmS hneR hltR hdrS
      go_wp2
      refine region_then [⟨IsV (.pointer (some ⟨bc, 4, none⟩)), true, false⟩,
        ⟨IsV (.slice AR j cR), true, false⟩,
        ⟨IsV (.slice (some ⟨w.heap.size + 1, 0, none⟩) 120 120), true, false⟩,
        ⟨IsV (.int .i64 (k : Nat)), true, false⟩,
        ⟨IsV (.int .i64 ((k + 5 : Nat) : Int)), true, false⟩,
        ⟨IsV (.int .i64 (j : Nat)), true, false⟩,
        ⟨IsV (.int .i64 ((k + 5 + j : Nat) : Int)), true, false⟩,
        ⟨IsV (.pointer (some ⟨w.heap.size + 1, k + 5 + j, none⟩)), true, false⟩,
        ⟨IsV (.int .i64 ((d (k + 5 + j) : Nat) : Int)), true, false⟩,
        ⟨IsV (.int .i64 ((d (k + 5 + j) % 7 : Nat) : Int)), true, false⟩,
        ⟨IsV (.int .u32 ((d (k + 5 + j) % 7 : Nat) : Int)), true, false⟩,
        ⟨IsV (.slice (some ⟨w.heap.size + 1, 0, none⟩) 120 120), true, false⟩,
        ⟨IsV (.int .i64 (k : Nat)), true, false⟩,
        ⟨IsV (.int .i64 ((k + 5 : Nat) : Int)), true, false⟩,
        ⟨IsV (.int .i64 (j : Nat)), true, false⟩,
        ⟨IsV (.int .i64 ((k + 5 + j : Nat) : Int)), true, false⟩,
        ⟨IsV (.pointer (some ⟨w.heap.size + 1, k + 5 + j, none⟩)), true, false⟩,
        ⟨IsV (.int .i64 ((d (k + 5 + j) : Nat) : Int)), true, false⟩,
        ⟨IsV (.int .i64 ((d (k + 5 + j) / 7 : Nat) : Int)), true, false⟩,
        ⟨IsV (.int .i64 ((d (k + 5 + j) / 7 % 2 : Nat) : Int)), true, false⟩,
        ⟨IsV (.bool (d (k + 5 + j) / 7 % 2 == 0)), true, false⟩,
        ⟨IsV (.agg #[.int .u32 ((d (k + 5 + j) % 7 : Nat) : Int), .bool (d (k + 5 + j) / 7 % 2 == 0)]), true, false⟩,
        ⟨IsBlk (wr.heap.size) (mkRow 1) [.int .u32 ((d (k + 5 + j) % 7 : Nat) : Int), .bool (d (k + 5 + j) / 7 % 2 == 0)] 90, false, false⟩,
        ⟨fun v w => v.ownBlock ≠ some bc ∧ Moved (bc :: (Value.slice AR j cR).ownBlock.toList) wr w ∧ BoxAt w bc [.int .i64 ((d k % (nClk d + 1) : Nat) : Int), .int .i64 ((d (k + 1) % (nDom d) : Nat) : Int), .int .i64 ((d (k + 2) % (nRst d) : Nat) : Int), .int .u32 ((d (k + 3) % 3 : Nat) : Int), .slice AR j cR, .slice none 0 0] ∧ (∀ i u, RowC RgsC 2 90 (bc :: v.ownBlock.toList) (w.setCell ⟨bc, i, none⟩ u) wo.heap.size v (regsP d k j ++ [rgsP d k j])) ∧ ∃ A c, v = .slice A (j + 1) c, false, true⟩,
        ⟨IsV (.pointer (some ⟨bc, 4, none⟩)), true, false⟩] (Value.slice AR j cR).ownBlock 352 (by kernel_rfl) rfl (by kernel_rfl) ⟨fun _ => stbR_V _ _, fun _ => stbR_V _ _, fun _ => stbR_V _ _, fun _ => stbR_V _ _, fun _ => stbR_V _ _, fun _ => stbR_V _ _, fun _ => stbR_V _ _, fun _ => stbR_V _ _, fun _ => stbR_V _ _, fun _ => stbR_V _ _, fun _ => stbR_V _ _, fun _ => stbR_V _ _, fun _ => stbR_V _ _, fun _ => stbR_V _ _, fun _ => stbR_V _ _, fun _ => stbR_V _ _, fun _ => stbR_V _ _, fun _ => stbR_V _ _, fun _ => stbR_V _ _, fun _ => stbR_V _ _, fun _ => stbR_V _ _, fun _ => stbR_V _ _, fun _ => stbR_blk (fun k hk => (HLTR.out k hk).2), (fun h => by cases h), fun _ => stbR_V _ _, trivial⟩ ⟨?s0, ?s1, ?s2, ?s3, ?s4, ?s5, ?s6, ?s7, ?s8, ?s9, ?s10, ?s11, ?s12, ?s13, ?s14, ?s15, ?s16, ?s17, ?s18, ?s19, ?s20, ?s21, ?s22, ?s23, ?s24, trivial⟩ ?fin
      case s0 =>
        refine ⟨rfl, fun T w1 hT hb ha0 hd => ?_⟩
        have ec := evT_const T
        have ef := evT_func T
        have d16 : evT T (.tmp 16) = .pointer (some ⟨bc, 0, none⟩) := hT 16 (by kernel_rfl)
        clear hT hd hb ha0
        refine gr_pure (v := .pointer (some ⟨bc, 4, none⟩)) ?_ rfl
        simp only [execOp]
        go_simp
      case s1 =>
        refine ⟨rfl, fun T w1 hT hb ha0 hd => ?_⟩
        have ec := evT_const T
        have ef := evT_func T
        have d273 : evT T (.tmp 273) = .pointer (some ⟨bc, 4, none⟩) := (by first | exact hd.1 | exact hd.2.1 | exact hd.2.2.1 | exact hd.2.2.2.1 | exact hd.2.2.2.2.1 | exact hd.2.2.2.2.2.1 | exact hd.2.2.2.2.2.2.1 | exact hd.2.2.2.2.2.2.2.1)
        have f0 := ((HD.out w1 hb).2 4 _ rfl).1
        clear hT hd hb ha0
        refine gr_pure (v := .slice AR j cR) ?_ rfl
        simp only [execOp]
        go_simp
      case s2 =>
        refine ⟨rfl, fun T w1 hT hb ha0 hd => ?_⟩
        have ec := evT_const T
        have ef := evT_func T
        have d4 : evT T (.tmp 4) = .slice (some ⟨w.heap.size + 1, 0, none⟩) 120 120 := hT 4 (by kernel_rfl)
        exact gr_pure (ar_move d4) rfl
      case s3 =>
        refine ⟨rfl, fun T w1 hT hb ha0 hd => ?_⟩
        have ec := evT_const T
        have ef := evT_func T
        have d15 : evT T (.tmp 15) = .int .i64 (k : Nat) := hT 15 (by kernel_rfl)
        exact gr_pure (ar_move d15) rfl
      case s4 =>
        refine ⟨rfl, fun T w1 hT hb ha0 hd => ?_⟩
        have ec := evT_const T
        have ef := evT_func T
        have d276 : evT T (.tmp 276) = .int .i64 (k : Nat) := (by first | exact hd.1 | exact hd.2.1 | exact hd.2.2.1 | exact hd.2.2.2.1 | exact hd.2.2.2.2.1 | exact hd.2.2.2.2.2.1 | exact hd.2.2.2.2.2.2.1 | exact hd.2.2.2.2.2.2.2.1)
        exact gr_pure (ar_add (b := 5) d276 (ec _) (by omega)) (rfl)
      case s5 =>
        refine ⟨rfl, fun T w1 hT hb ha0 hd => ?_⟩
        have ec := evT_const T
        have ef := evT_func T
        have d17 : evT T (.tmp 17) = .int .i64 (j : Nat) := hT 17 (by kernel_rfl)
        exact gr_pure (ar_move d17) rfl
      case s6 =>
        refine ⟨rfl, fun T w1 hT hb ha0 hd => ?_⟩
        have ec := evT_const T
        have ef := evT_func T
        have d277 : evT T (.tmp 277) = .int .i64 ((k + 5 : Nat) : Int) := (by first | exact hd.1 | exact hd.2.1 | exact hd.2.2.1 | exact hd.2.2.2.1 | exact hd.2.2.2.2.1 | exact hd.2.2.2.2.2.1 | exact hd.2.2.2.2.2.2.1 | exact hd.2.2.2.2.2.2.2.1)
        have d278 : evT T (.tmp 278) = .int .i64 (j : Nat) := (by first | exact hd.1 | exact hd.2.1 | exact hd.2.2.1 | exact hd.2.2.2.1 | exact hd.2.2.2.2.1 | exact hd.2.2.2.2.2.1 | exact hd.2.2.2.2.2.2.1 | exact hd.2.2.2.2.2.2.2.1)
        exact gr_pure (ar_add d277 d278 (by omega)) (rfl)
      case s7 =>
        refine ⟨rfl, fun T w1 hT hb ha0 hd => ?_⟩
        have ec := evT_const T
        have ef := evT_func T
        have d275 : evT T (.tmp 275) = .slice (some ⟨w.heap.size + 1, 0, none⟩) 120 120 := (by first | exact hd.1 | exact hd.2.1 | exact hd.2.2.1 | exact hd.2.2.2.1 | exact hd.2.2.2.2.1 | exact hd.2.2.2.2.2.1 | exact hd.2.2.2.2.2.2.1 | exact hd.2.2.2.2.2.2.2.1)
        have d279 : evT T (.tmp 279) = .int .i64 ((k + 5 + j : Nat) : Int) := (by first | exact hd.1 | exact hd.2.1 | exact hd.2.2.1 | exact hd.2.2.2.1 | exact hd.2.2.2.2.1 | exact hd.2.2.2.2.2.1 | exact hd.2.2.2.2.2.2.1 | exact hd.2.2.2.2.2.2.2.1)
        have g0 : (0 : Int) ≤ (k : Int) + 5 + (j : Int) := by omega
        have g1 : (k : Int) + 5 + (j : Int) < 120 := by omega
        have g2 : ((k : Int) + 5 + (j : Int)).toNat = k + 5 + j := by omega
        clear hT hd hb ha0
        refine gr_pure (v := .pointer (some ⟨w.heap.size + 1, k + 5 + j, none⟩)) ?_ rfl
        simp only [execOp]
        go_simp
      case s8 =>
        refine ⟨rfl, fun T w1 hT hb ha0 hd => ?_⟩
        have ec := evT_const T
        have ef := evT_func T
        have d280 : evT T (.tmp 280) = .pointer (some ⟨w.heap.size + 1, k + 5 + j, none⟩) := (by first | exact hd.1 | exact hd.2.1 | exact hd.2.2.1 | exact hd.2.2.2.1 | exact hd.2.2.2.2.1 | exact hd.2.2.2.2.2.1 | exact hd.2.2.2.2.2.2.1 | exact hd.2.2.2.2.2.2.2.1)
        have f0 := (HD.out w1 hb).1 (k + 5 + j) (by omega)
        clear hT hd hb ha0
        refine gr_pure (v := .int .i64 ((d (k + 5 + j) : Nat) : Int)) ?_ rfl
        simp only [execOp]
        go_simp
      case s9 =>
        refine ⟨rfl, fun T w1 hT hb ha0 hd => ?_⟩
        have ec := evT_const T
        have ef := evT_func T
        have d281 : evT T (.tmp 281) = .int .i64 ((d (k + 5 + j) : Nat) : Int) := (by first | exact hd.1 | exact hd.2.1 | exact hd.2.2.1 | exact hd.2.2.2.1 | exact hd.2.2.2.2.1 | exact hd.2.2.2.2.2.1 | exact hd.2.2.2.2.2.2.1 | exact hd.2.2.2.2.2.2.2.1)
        exact gr_pure (ar_rem (b := 7) d281 (ec _) (by have := HLT.out (k + 5 + j); omega) (by omega)) (rfl)
      case s10 =>
        refine ⟨rfl, fun T w1 hT hb ha0 hd => ?_⟩
        have ec := evT_const T
        have ef := evT_func T
        have d282 : evT T (.tmp 282) = .int .i64 ((d (k + 5 + j) % 7 : Nat) : Int) := (by first | exact hd.1 | exact hd.2.1 | exact hd.2.2.1 | exact hd.2.2.2.1 | exact hd.2.2.2.2.1 | exact hd.2.2.2.2.2.1 | exact hd.2.2.2.2.2.2.1 | exact hd.2.2.2.2.2.2.2.1)
        have hj : d (k + 5 + j) % 7 < 7 := Nat.mod_lt _ (by omega)
        clear hT hd hb ha0
        refine gr_pure (v := .int .u32 ((d (k + 5 + j) % 7 : Nat) : Int)) ?_ rfl
        generalize d (k + 5 + j) % 7 = i at d282 hj ⊢
        have hw : IntKind.u32.wrap (i : Int) = (i : Int) := by rcases i with _ | _ | _ | _ | _ | _ | _ | i <;> first | rfl | omega
        simp only [execOp]
        go_simp
      case s11 =>
        refine ⟨rfl, fun T w1 hT hb ha0 hd => ?_⟩
        have ec := evT_const T
        have ef := evT_func T
        have d4 : evT T (.tmp 4) = .slice (some ⟨w.heap.size + 1, 0, none⟩) 120 120 := hT 4 (by kernel_rfl)
        exact gr_pure (ar_move d4) rfl
      case s12 =>
        refine ⟨rfl, fun T w1 hT hb ha0 hd => ?_⟩
        have ec := evT_const T
        have ef := evT_func T
        have d15 : evT T (.tmp 15) = .int .i64 (k : Nat) := hT 15 (by kernel_rfl)
        exact gr_pure (ar_move d15) rfl
      case s13 =>
        refine ⟨rfl, fun T w1 hT hb ha0 hd => ?_⟩
        have ec := evT_const T
        have ef := evT_func T
        have d285 : evT T (.tmp 285) = .int .i64 (k : Nat) := (by first | exact hd.1 | exact hd.2.1 | exact hd.2.2.1 | exact hd.2.2.2.1 | exact hd.2.2.2.2.1 | exact hd.2.2.2.2.2.1 | exact hd.2.2.2.2.2.2.1 | exact hd.2.2.2.2.2.2.2.1)
        exact gr_pure (ar_add (b := 5) d285 (ec _) (by omega)) (rfl)
      case s14 =>
        refine ⟨rfl, fun T w1 hT hb ha0 hd => ?_⟩
        have ec := evT_const T
        have ef := evT_func T
        have d17 : evT T (.tmp 17) = .int .i64 (j : Nat) := hT 17 (by kernel_rfl)
        exact gr_pure (ar_move d17) rfl
      case s15 =>
        refine ⟨rfl, fun T w1 hT hb ha0 hd => ?_⟩
        have ec := evT_const T
        have ef := evT_func T
        have d286 : evT T (.tmp 286) = .int .i64 ((k + 5 : Nat) : Int) := (by first | exact hd.1 | exact hd.2.1 | exact hd.2.2.1 | exact hd.2.2.2.1 | exact hd.2.2.2.2.1 | exact hd.2.2.2.2.2.1 | exact hd.2.2.2.2.2.2.1 | exact hd.2.2.2.2.2.2.2.1)
        have d287 : evT T (.tmp 287) = .int .i64 (j : Nat) := (by first | exact hd.1 | exact hd.2.1 | exact hd.2.2.1 | exact hd.2.2.2.1 | exact hd.2.2.2.2.1 | exact hd.2.2.2.2.2.1 | exact hd.2.2.2.2.2.2.1 | exact hd.2.2.2.2.2.2.2.1)
        exact gr_pure (ar_add d286 d287 (by omega)) (rfl)
      case s16 =>
        refine ⟨rfl, fun T w1 hT hb ha0 hd => ?_⟩
        have ec := evT_const T
        have ef := evT_func T
        have d284 : evT T (.tmp 284) = .slice (some ⟨w.heap.size + 1, 0, none⟩) 120 120 := (by first | exact hd.1 | exact hd.2.1 | exact hd.2.2.1 | exact hd.2.2.2.1 | exact hd.2.2.2.2.1 | exact hd.2.2.2.2.2.1 | exact hd.2.2.2.2.2.2.1 | exact hd.2.2.2.2.2.2.2.1)
        have d288 : evT T (.tmp 288) = .int .i64 ((k + 5 + j : Nat) : Int) := (by first | exact hd.1 | exact hd.2.1 | exact hd.2.2.1 | exact hd.2.2.2.1 | exact hd.2.2.2.2.1 | exact hd.2.2.2.2.2.1 | exact hd.2.2.2.2.2.2.1 | exact hd.2.2.2.2.2.2.2.1)
        have g0 : (0 : Int) ≤ (k : Int) + 5 + (j : Int) := by omega
        have g1 : (k : Int) + 5 + (j : Int) < 120 := by omega
        have g2 : ((k : Int) + 5 + (j : Int)).toNat = k + 5 + j := by omega
        clear hT hd hb ha0
        refine gr_pure (v := .pointer (some ⟨w.heap.size + 1, k + 5 + j, none⟩)) ?_ rfl
        simp only [execOp]
        go_simp
      case s17 =>
        refine ⟨rfl, fun T w1 hT hb ha0 hd => ?_⟩
        have ec := evT_const T
        have ef := evT_func T
        have d289 : evT T (.tmp 289) = .pointer (some ⟨w.heap.size + 1, k + 5 + j, none⟩) := (by first | exact hd.1 | exact hd.2.1 | exact hd.2.2.1 | exact hd.2.2.2.1 | exact hd.2.2.2.2.1 | exact hd.2.2.2.2.2.1 | exact hd.2.2.2.2.2.2.1 | exact hd.2.2.2.2.2.2.2.1)
        have f0 := (HD.out w1 hb).1 (k + 5 + j) (by omega)
        clear hT hd hb ha0
        refine gr_pure (v := .int .i64 ((d (k + 5 + j) : Nat) : Int)) ?_ rfl
        simp only [execOp]
        go_simp
      case s18 =>
        refine ⟨rfl, fun T w1 hT hb ha0 hd => ?_⟩
        have ec := evT_const T
        have ef := evT_func T
        have d290 : evT T (.tmp 290) = .int .i64 ((d (k + 5 + j) : Nat) : Int) := (by first | exact hd.1 | exact hd.2.1 | exact hd.2.2.1 | exact hd.2.2.2.1 | exact hd.2.2.2.2.1 | exact hd.2.2.2.2.2.1 | exact hd.2.2.2.2.2.2.1 | exact hd.2.2.2.2.2.2.2.1)
        exact gr_pure (ar_quo (b := 7) d290 (ec _) (by have := HLT.out (k + 5 + j); omega) (by omega)) (rfl)
      case s19 =>
        refine ⟨rfl, fun T w1 hT hb ha0 hd => ?_⟩
        have ec := evT_const T
        have ef := evT_func T
        have d291 : evT T (.tmp 291) = .int .i64 ((d (k + 5 + j) / 7 : Nat) : Int) := (by first | exact hd.1 | exact hd.2.1 | exact hd.2.2.1 | exact hd.2.2.2.1 | exact hd.2.2.2.2.1 | exact hd.2.2.2.2.2.1 | exact hd.2.2.2.2.2.2.1 | exact hd.2.2.2.2.2.2.2.1)
        exact gr_pure (ar_rem (b := 2) d291 (ec _) (by have := HLT.out (k + 5 + j); omega) (by omega)) (rfl)
      case s20 =>
        refine ⟨rfl, fun T w1 hT hb ha0 hd => ?_⟩
        have ec := evT_const T
        have ef := evT_func T
        have d292 : evT T (.tmp 292) = .int .i64 ((d (k + 5 + j) / 7 % 2 : Nat) : Int) := (by first | exact hd.1 | exact hd.2.1 | exact hd.2.2.1 | exact hd.2.2.2.1 | exact hd.2.2.2.2.1 | exact hd.2.2.2.2.2.1 | exact hd.2.2.2.2.2.2.1 | exact hd.2.2.2.2.2.2.2.1)
        have hj : d (k + 5 + j) / 7 % 2 < 2 := Nat.mod_lt _ (by omega)
        clear hT hd hb ha0
        refine gr_pure (v := .bool (d (k + 5 + j) / 7 % 2 == 0)) ?_ rfl
        generalize d (k + 5 + j) / 7 % 2 = i at d292 hj ⊢
        rcases i with _ | _ | i
        all_goals first | omega | (simp only [execOp]; go_simp; done) | (simp only [execOp]; go_simp; rfl)
      case s21 =>
        refine ⟨rfl, fun T w1 hT hb ha0 hd => ?_⟩
        have ec := evT_const T
        have ef := evT_func T
        have d283 : evT T (.tmp 283) = .int .u32 ((d (k + 5 + j) % 7 : Nat) : Int) := (by first | exact hd.1 | exact hd.2.1 | exact hd.2.2.1 | exact hd.2.2.2.1 | exact hd.2.2.2.2.1 | exact hd.2.2.2.2.2.1 | exact hd.2.2.2.2.2.2.1 | exact hd.2.2.2.2.2.2.2.1)
        have d293 : evT T (.tmp 293) = .bool (d (k + 5 + j) / 7 % 2 == 0) := (by first | exact hd.1 | exact hd.2.1 | exact hd.2.2.1 | exact hd.2.2.2.1 | exact hd.2.2.2.2.1 | exact hd.2.2.2.2.2.1 | exact hd.2.2.2.2.2.2.1 | exact hd.2.2.2.2.2.2.2.1)
        clear hT hd hb ha0
        refine gr_pure (v := .agg #[.int .u32 ((d (k + 5 + j) % 7 : Nat) : Int), .bool (d (k + 5 + j) / 7 % 2 == 0)]) ?_ rfl
        simp only [execOp]
        go_simp
      case s22 =>
        refine ⟨rfl, fun T w1 hT hb ha0 hd => ?_⟩
        have ec := evT_const T
        have ef := evT_func T
        have d294 : evT T (.tmp 294) = .agg #[.int .u32 ((d (k + 5 + j) % 7 : Nat) : Int), .bool (d (k + 5 + j) / 7 % 2 == 0)] := (by first | exact hd.1 | exact hd.2.1 | exact hd.2.2.1 | exact hd.2.2.2.1 | exact hd.2.2.2.2.1 | exact hd.2.2.2.2.2.1 | exact hd.2.2.2.2.2.2.1 | exact hd.2.2.2.2.2.2.2.1)
        have hz := hb.size
        refine gr_made (v := mkRow 1 w1.heap.size) (w' := w1.alloc (.cells [.int .u32 ((d (k + 5 + j) % 7 : Nat) : Int), .bool (d (k + 5 + j) / 7 % 2 == 0)].toArray 90)) ?_ (World.grownBy_alloc _ _ _) (show IsBlk (wr.heap.size) (mkRow 1) [.int .u32 ((d (k + 5 + j) % 7 : Nat) : Int), .bool (d (k + 5 + j) / 7 % 2 == 0)] 90 (mkRow 1 w1.heap.size) _ from isBlk_new hz)
        clear hT hd hb ha0
        simp only [execOp, mkRow]
        go_simp
      case s23 =>
        refine ⟨rfl, fun T w1 hT hb ha0 hd => ?_⟩
        have ec := evT_const T
        have ef := evT_func T
        have d274 : evT T (.tmp 274) = .slice AR j cR := (by first | exact hd.1 | exact hd.2.1 | exact hd.2.2.1 | exact hd.2.2.2.1 | exact hd.2.2.2.2.1 | exact hd.2.2.2.2.2.1 | exact hd.2.2.2.2.2.2.1 | exact hd.2.2.2.2.2.2.2.1)
        obtain ⟨b, d295, hbb, hbh⟩ : IsBlk (wr.heap.size) (mkRow 1) [.int .u32 ((d (k + 5 + j) % 7 : Nat) : Int), .bool (d (k + 5 + j) / 7 % 2 == 0)] 90 (evT T (.tmp 295)) w1 := (by first | exact hd.1 | exact hd.2.1 | exact hd.2.2.1 | exact hd.2.2.2.1 | exact hd.2.2.2.2.1 | exact hd.2.2.2.2.2.1 | exact hd.2.2.2.2.2.2.1 | exact hd.2.2.2.2.2.2.2.1)
        have hbx1 := (HD.out w1 hb).2
        have hW5 : Moved [] wr w1 := Moved.of_grown (ha0 rfl) (fun k h => by cases h)
        obtain ⟨vss, hown, hstep⟩ := row_step (x := rgsP d k j) (lits := [.int .u32 ((d (k + 5 + j) % 7 : Nat) : Int), .bool (d (k + 5 + j) / 7 % 2 == 0)]) HROWR.out hbcs HNER.out hW5 rfl rfl
        rw [regsP_len] at hown hstep
        obtain ⟨i56, hi, hz0, hz1, hz2⟩ := info_parts Try.info90
        have hz := hb.size
        obtain ⟨v', w', hrun, hown', hg', _, hob'⟩ := run_append_own_at (P := Try.prog) w1 wo.heap.size 84 84 90 i56 (.agg #[.int .u32 0, .bool false]) 2 8 Try.underlying84 hi hz0 hz1 hz2 rfl (by decide) (.slice AR j cR) j vss.flatten hown ⟨b, 0, none⟩ 1 1 [.int .u32 ((d (k + 5 + j) % 7 : Nat) : Int), .bool (d (k + 5 + j) / 7 % 2 == 0)] rfl (fun i u hj => by
            match i, hj with
            | 0, hj => simp at hj; subst hj; rw [Addr.add_lit, cell_of_row _ _ _ _ _ _ hbh]; rfl
            | 1, hj => simp at hj; subst hj; rw [Addr.add_lit, cell_of_row _ _ _ _ _ _ hbh]; rfl
            | i + 2, hj => simp at hj) (by intro u hu; simp at hu; rcases hu with rfl | rfl <;> rfl) (by unfold maxLen; omega) (by omega) (by omega)
        obtain ⟨hne6, hmv6, hfin⟩ := hstep v' w' hown' hg' hob'
        refine gr_made (v := v') (w' := w') ?_ hg' ⟨hne6, hmv6, hbx1.move (Moved.of_grown (hot := (Value.slice AR j cR).ownBlock.toList) hg' (by simp)) (by simpa using HNER.out), fun i u => (hfin i u).1, own_shape' hown'⟩
        clear hT hd hb ha0 hown' hg' hown hstep hbh hfin hob' hmv6
        simp only [mkRow] at d295
        unfold execOp
        simp only [resolve, invoke, builtin, Sem.run_bind, Sem.run_pure, Result.andThen_ok, List.map_toArray, List.map_cons, List.map_nil, d274, d295, hrun]
      case s24 =>
        refine ⟨rfl, fun T w1 hT hb ha0 hd => ?_⟩
        have ec := evT_const T
        have ef := evT_func T
        have d16 : evT T (.tmp 16) = .pointer (some ⟨bc, 0, none⟩) := hT 16 (by kernel_rfl)
        clear hT hd hb ha0
        refine gr_pure (v := .pointer (some ⟨bc, 4, none⟩)) ?_ rfl
        simp only [execOp]
        go_simp
      case fin =>
        intro T w1 o ho hT hb hd
        obtain rfl : _ = o := Option.some.inj ho
        clear ho
        have ec := evT_const T
        simp only [putL, Act.put, Option.getD_some, List.setIfInBounds_toArray, List.set_cons_zero, List.set_cons_succ]
        have d297 : evT T (.tmp 297) = .pointer (some ⟨bc, 4, none⟩) := hd.2.2.2.2.2.2.2.2.2.2.2.2.2.2.2.2.2.2.2.2.2.2.2.2.1
        obtain ⟨hne6, hmv6, hbx6, hrow6, A6, c6, d296⟩ : (fun v w => v.ownBlock ≠ some bc ∧ Moved (bc :: (Value.slice AR j cR).ownBlock.toList) wr w ∧ BoxAt w bc [.int .i64 ((d k % (nClk d + 1) : Nat) : Int), .int .i64 ((d (k + 1) % (nDom d) : Nat) : Int), .int .i64 ((d (k + 2) % (nRst d) : Nat) : Int), .int .u32 ((d (k + 3) % 3 : Nat) : Int), .slice AR j cR, .slice none 0 0] ∧ (∀ i u, RowC RgsC 2 90 (bc :: v.ownBlock.toList) (w.setCell ⟨bc, i, none⟩ u) wo.heap.size v (regsP d k j ++ [rgsP d k j])) ∧ ∃ A c, v = .slice A (j + 1) c) (evT T (.tmp 296)) w1 := hd.2.2.2.2.2.2.2.2.2.2.2.2.2.2.2.2.2.2.2.2.2.2.2.1
        rw [d296] at hne6 hrow6
        refine ⟨undef, w1.setCell ⟨bc, 4, none⟩ (.slice A6 (j + 1) c6), .inr (storeSl_run (j := 4) (by simp) Try.sizeOf84 d297 d296 hbx6), ?_⟩
        have hbox4 : BoxAt (w1.setCell ⟨bc, 4, none⟩ (.slice A6 (j + 1) c6)) bc [.int .i64 ((d k % (nClk d + 1) : Nat) : Int), .int .i64 ((d (k + 1) % (nDom d) : Nat) : Int), .int .i64 ((d (k + 2) % (nRst d) : Nat) : Int), .int .u32 ((d (k + 3) % 3 : Nat) : Int), .slice A6 (j + 1) c6, .slice none 0 0] := hbx6.set (j := 4) (by simp) _
        have hmv7 := hmv6.trans (Moved.setCell w1 (p := ⟨bc, 4, none⟩) (by simp) (.slice A6 (j + 1) c6))
        have HROW6 := Lib.hid (hrow6 4 (.slice A6 (j + 1) c6))
        have HNE6 := Lib.hid hne6
        have HBX6 := Lib.hid hbox4
        have HMV7 := Lib.hid hmv7
        clear hT hb hd d297 d296 hne6 hmv6 hbx6 hrow6 hbox4 ec HD hmv7
        go_wp2
        go_roundw
        case measure => simp [intOf]; omega
        case rel =>
          refine ⟨j + 1, _, by omega, by go_num, ?_, HNE6.out, HBX6.out, HMS.out.trans' HMV7.out ?_⟩
          · have := HROW6.out
            rwa [show regsP d k j ++ [rgsP d k j] = regsP d k (j + 1) from (range_snoc _ _).symm] at this
          · intro i hi
            rcases List.mem_cons.1 hi with e | e
            · exact .inr (by omega)
            · exact .inr (HLTR.out i (by simpa using e)).1

    · have hnn : j = d (k + 4) % 5 := by omega
      have HNN := Lib.hid hnn
      have hge : ¬ j < d (k + 4) % 5 := hltj
      clear hnn hltR hdrS
      go_wp2
      exact HQ.out _ _ _ ⟨rfl, rfl⟩ rfl rfl rfl rfl rfl rfl (by rw [← HNN.out]; exact hrowR) hneR hbxR hmS

end Go.Proofs.Ytnfbhhgdibkbdaa
