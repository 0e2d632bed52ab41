/- The contract of catnaplaw4.chip, in parts: H8. (Written by wip/tools/h1.py.) -/
import Derived.Test.YtnfbhhgdibkbdaaH7
namespace Go.Proofs.Ytnfbhhgdibkbdaa
set_option linter.unusedSimpArgs false
set_option linter.unusedVariables false
open Go.RowKit Go.Maps

set_option maxRecDepth 1000000 in
set_option maxHeartbeats 8000000 in
theorem dev2_any (w wa wf wo w5 : World) (d : Nat → Nat) (n k bc : Nat) (v1 v2 v3 v4 p2 : Value) (H : List Nat) (AR : Option Addr) (cR : Nat) (HLT : Hid (∀ i, d i < 1000000)) (HKN : Hid (k = 60 + 12 * n)) (hk96 : k ≤ 96) (hlt : n < nDev d) (hn4 : nDev d ≤ 4) (hMsz : w.heap.size + 1 + 1 ≤ wa.heap.size) (hgd : w.heap.size + 1 < wf.heap.size)
    (hMz : wf.heap.size ≤ wo.heap.size) (hgs : wa.heap.size + 1 < wo.heap.size) (hgsf : wa.heap.size + 1 < wf.heap.size) (hbc : wo.heap.size ≤ bc) (hbc5 : bc < w5.heap.size) (hz5 : wo.heap.size ≤ w5.heap.size) (HDR5 : Hid (DrawsTo w5 (w.heap.size + 1) d 120)) (HM5 : Hid (Moved [] wo w5))
    (HREG : Hid (∀ hot : List Nat, (∀ g, (Value.slice AR (d (k + 4) % 5) cR).ownBlock = some g → g ∉ hot) → RegsC hot w5 AR (regsP d k (d (k + 4) % 5)))) (HNER : Hid ((Value.slice AR (d (k + 4) % 5) cR).ownBlock ≠ some bc)) (HLTR : Hid (∀ g, (Value.slice AR (d (k + 4) % 5) cR).ownBlock = some g → wo.heap.size ≤ g ∧ g < w5.heap.size)) (hcR : (d (k + 4) % 5) ≤ cR)
    (HROW : Hid (RowC DevC 6 86 ((wa.heap.size + 1) :: v4.ownBlock.toList ++ H) wo wf.heap.size v4 (devsP d (nClk d + 1) (nDom d) (nRst d) n))) (HNE : Hid (v4.ownBlock ≠ some (wa.heap.size + 1))) (HBX : Hid (BoxAt wo (wa.heap.size + 1) [v1, v2, v3, v4])) (HDRr : Hid (DrawsTo wo (w.heap.size + 1) d 120))
    (HMb : Hid (Moved [wa.heap.size + 1] wf wo)) (HLT4 : Hid (∀ g, v4.ownBlock = some g → wf.heap.size ≤ g ∧ g < wo.heap.size)) (HH : Hid (∀ b, b ∈ H → b < wf.heap.size))
    (HBXX : Hid (BoxAt w5 bc [.int .i64 ((d k % (nClk d + 1) : Nat) : Int), .int .i64 ((d (k + 1) % (nDom d) : Nat) : Int), .int .i64 ((d (k + 2) % (nRst d) : Nat) : Int), .int .u32 ((d (k + 3) % 3 : Nat) : Int), .slice AR (d (k + 4) % 5) cR, .slice none 0 0])) (HOWNN : Hid (w5.ownsRow w5.heap.size 3 1 (.slice none 0 0) 0 (iv []))) (HMX : Hid (Moved [bc] w5 w5))
    (Q : Exit → Act → World → Prop) (a : Act) (ha : Fr a) (h2 : slT a 2 = p2) (h4 : slT a 4 = .slice (some ⟨w.heap.size + 1, 0, none⟩) 120 120) (h6 : slT a 6 = .pointer (some ⟨wa.heap.size + 1, 0, none⟩)) (h14 : slT a 14 = .int .i64 (n : Nat)) (h15 : slT a 15 = .int .i64 (k : Nat)) (h16 : slT a 16 = .pointer (some ⟨bc, 0, none⟩))
    (hQ : ∀ a' wx v6, Fr a' → slT a' 2 = p2 → slT a' 4 = .slice (some ⟨w.heap.size + 1, 0, none⟩) 120 120 → slT a' 6 = .pointer (some ⟨wa.heap.size + 1, 0, none⟩) → slT a' 14 = .int .i64 (n : Nat) → P5 wx wf (w.heap.size + 1) (wa.heap.size + 1) d H v1 v2 v3 v6 (n + 1) → Q .normal a' wx) :
    Code.wp Try.prog dev2 Q a w5 := by
  have HQ := Lib.hid hQ
  clear hQ
  obtain ⟨F, rfl⟩ := ha.open_
  rw [slT_listT (by omega)] at h2
  rw [slT_listT (by omega)] at h4
  rw [slT_listT (by omega)] at h6
  rw [slT_listT (by omega)] at h14
  rw [slT_listT (by omega)] at h15
  rw [slT_listT (by omega)] at h16
  rw [lit352, h2, h4, h6, h14, h15, h16]
  clear ha h2 h4 h6 h14 h15 h16
  conv => arg 2; whnf
  have hdq := HDR5.out.move HMX.out (by omega) (by simp; omega)
  have dk := (hdq (k + 9) (by omega)).2
  rw [if_pos (by omega)] at dk
  have bk := HLT.out (k + 9)
  have ga : (0 : Int) ≤ (k : Int) + 9 := by omega
  have gb : (k : Int) + 9 < 120 := by omega
  have gc : ((k : Int) + 9).toNat = k + 9 := by omega
  clear hdq
  refine wp_seq_k fun K0 hK0 => ?_
  have HK0 := Lib.hid hK0
  clear hK0
  by_cases hc1 : 0 < n ∧ d (k + 9) % 2 = 1
  · have hn0 := hc1.1
    have hka : ((d (k + 9) : Int) % 2 == 1) = true := by simp; omega
    have HCC := Lib.hid hc1
    clear hc1
    have hE : ∀ W, w5.grownBy W (Value.slice none 0 0).ownBlock → (∀ i, i < 120 → W.cell? ⟨w.heap.size + 1, i, none⟩ = some (.int .i64 (d i : Nat))) ∧ BoxAt W bc [.int .i64 ((d k % (nClk d + 1) : Nat) : Int), .int .i64 ((d (k + 1) % (nDom d) : Nat) : Int), .int .i64 ((d (k + 2) % (nRst d) : Nat) : Int), .int .u32 ((d (k + 3) % 3 : Nat) : Int), .slice AR (d (k + 4) % 5) cR, .slice none 0 0] := fun W hW =>
      ⟨fun i hi => by have := (((HDR5.out.move HMX.out (by omega) (by simp; omega)).grown hW (by have := HMX.out.size; omega) (fun e => by have := (HOWNN.out.lt _ e.symm).1; omega)) i hi).2; rwa [if_pos hi] at this, HBXX.out.move (Moved.of_grown (hot := (Value.slice none 0 0).ownBlock.toList) hW (by simp)) (fun hm => by have := (HOWNN.out.lt bc (by simpa using hm)).1; omega)⟩
    have HE := Lib.hid hE
    clear hE
    go_wp2
    refine region_then [⟨IsV (.pointer (some ⟨bc, 5, none⟩)), true, false⟩,
      ⟨IsV (.slice none 0 0), true, false⟩,
      ⟨IsV (.slice (some ⟨w.heap.size + 1, 0, none⟩) 120 120), true, false⟩,
      ⟨IsV (.int .i64 (k : Nat)), true, false⟩,
      ⟨IsV (.int .i64 ((k + 10 : Nat) : Int)), true, false⟩,
      ⟨IsV (.pointer (some ⟨w.heap.size + 1, k + 10, none⟩)), true, false⟩,
      ⟨IsV (.int .i64 ((d (k + 10) : Nat) : Int)), true, false⟩,
      ⟨IsV (.int .i64 (n : Nat)), true, false⟩,
      ⟨IsV (.int .i64 ((d (k + 10) % n : Nat) : Int)), true, false⟩,
      ⟨IsBlk (w5.heap.size) (mkRow 1) [.int .i64 ((d (k + 10) % n : Nat) : Int)] 3, false, false⟩,
      ⟨fun v w => w.ownsRow w5.heap.size 3 1 v (0 + 1) (iv ([] ++ [((d (k + 10) % n : Nat) : Int)])) ∧ v.ownBlock ≠ some bc ∧ Moved (Value.slice none 0 0).ownBlock.toList w5 w ∧ BoxAt w bc [.int .i64 ((d k % (nClk d + 1) : Nat) : Int), .int .i64 ((d (k + 1) % (nDom d) : Nat) : Int), .int .i64 ((d (k + 2) % (nRst d) : Nat) : Int), .int .u32 ((d (k + 3) % 3 : Nat) : Int), .slice AR (d (k + 4) % 5) cR, .slice none 0 0], false, true⟩,
      ⟨IsV (.pointer (some ⟨bc, 5, none⟩)), true, false⟩] (Value.slice none 0 0).ownBlock 352 (by kernel_rfl) rfl (by kernel_rfl) ⟨fun _ => stbR_V _ _, fun _ => stbR_V _ _, fun _ => stbR_V _ _, fun _ => stbR_V _ _, fun _ => stbR_V _ _, fun _ => stbR_V _ _, fun _ => stbR_V _ _, fun _ => stbR_V _ _, fun _ => stbR_V _ _, fun _ => stbR_blk (fun k hk => (HOWNN.out.lt k hk).2), (fun h => by cases h), fun _ => stbR_V _ _, trivial⟩ ⟨?s0, ?s1, ?s2, ?s3, ?s4, ?s5, ?s6, ?s7, ?s8, ?s9, ?s10, ?s11, trivial⟩ ?fin
    case s0 =>
      refine ⟨rfl, fun T w1 hT hb ha0 hd => ?_⟩
      have ec := evT_const T
      have ef := evT_func T
      have d16 : evT T (.tmp 16) = .pointer (some ⟨bc, 0, none⟩) := hT 16 (by kernel_rfl)
      clear hT hd hb ha0
      refine gr_pure (v := .pointer (some ⟨bc, 5, none⟩)) ?_ rfl
      simp only [execOp]
      go_simp
    case s1 =>
      refine ⟨rfl, fun T w1 hT hb ha0 hd => ?_⟩
      have ec := evT_const T
      have ef := evT_func T
      have d309 : evT T (.tmp 309) = .pointer (some ⟨bc, 5, none⟩) := (by first | exact hd.1 | exact hd.2.1 | exact hd.2.2.1 | exact hd.2.2.2.1 | exact hd.2.2.2.2.1 | exact hd.2.2.2.2.2.1 | exact hd.2.2.2.2.2.2.1 | exact hd.2.2.2.2.2.2.2.1)
      have f0 := ((HE.out w1 hb).2 5 _ rfl).1
      clear hT hd hb ha0
      refine gr_pure (v := .slice none 0 0) ?_ rfl
      simp only [execOp]
      go_simp
    case s2 =>
      refine ⟨rfl, fun T w1 hT hb ha0 hd => ?_⟩
      have ec := evT_const T
      have ef := evT_func T
      have d4 : evT T (.tmp 4) = .slice (some ⟨w.heap.size + 1, 0, none⟩) 120 120 := hT 4 (by kernel_rfl)
      exact gr_pure (ar_move d4) rfl
    case s3 =>
      refine ⟨rfl, fun T w1 hT hb ha0 hd => ?_⟩
      have ec := evT_const T
      have ef := evT_func T
      have d15 : evT T (.tmp 15) = .int .i64 (k : Nat) := hT 15 (by kernel_rfl)
      exact gr_pure (ar_move d15) rfl
    case s4 =>
      refine ⟨rfl, fun T w1 hT hb ha0 hd => ?_⟩
      have ec := evT_const T
      have ef := evT_func T
      have d312 : evT T (.tmp 312) = .int .i64 (k : Nat) := (by first | exact hd.1 | exact hd.2.1 | exact hd.2.2.1 | exact hd.2.2.2.1 | exact hd.2.2.2.2.1 | exact hd.2.2.2.2.2.1 | exact hd.2.2.2.2.2.2.1 | exact hd.2.2.2.2.2.2.2.1)
      exact gr_pure (ar_add (b := 10) d312 (ec _) (by omega)) (rfl)
    case s5 =>
      refine ⟨rfl, fun T w1 hT hb ha0 hd => ?_⟩
      have ec := evT_const T
      have ef := evT_func T
      have d311 : evT T (.tmp 311) = .slice (some ⟨w.heap.size + 1, 0, none⟩) 120 120 := (by first | exact hd.1 | exact hd.2.1 | exact hd.2.2.1 | exact hd.2.2.2.1 | exact hd.2.2.2.2.1 | exact hd.2.2.2.2.2.1 | exact hd.2.2.2.2.2.2.1 | exact hd.2.2.2.2.2.2.2.1)
      have d313 : evT T (.tmp 313) = .int .i64 ((k + 10 : Nat) : Int) := (by first | exact hd.1 | exact hd.2.1 | exact hd.2.2.1 | exact hd.2.2.2.1 | exact hd.2.2.2.2.1 | exact hd.2.2.2.2.2.1 | exact hd.2.2.2.2.2.2.1 | exact hd.2.2.2.2.2.2.2.1)
      have g0 : (0 : Int) ≤ (k : Int) + 10 := by omega
      have g1 : (k : Int) + 10 < 120 := by omega
      have g2 : ((k : Int) + 10).toNat = k + 10 := by omega
      clear hT hd hb ha0
      refine gr_pure (v := .pointer (some ⟨w.heap.size + 1, k + 10, none⟩)) ?_ rfl
      simp only [execOp]
      go_simp
    case s6 =>
      refine ⟨rfl, fun T w1 hT hb ha0 hd => ?_⟩
      have ec := evT_const T
      have ef := evT_func T
      have d314 : evT T (.tmp 314) = .pointer (some ⟨w.heap.size + 1, k + 10, none⟩) := (by first | exact hd.1 | exact hd.2.1 | exact hd.2.2.1 | exact hd.2.2.2.1 | exact hd.2.2.2.2.1 | exact hd.2.2.2.2.2.1 | exact hd.2.2.2.2.2.2.1 | exact hd.2.2.2.2.2.2.2.1)
      have f0 := (HE.out w1 hb).1 (k + 10) (by omega)
      clear hT hd hb ha0
      refine gr_pure (v := .int .i64 ((d (k + 10) : Nat) : Int)) ?_ rfl
      simp only [execOp]
      go_simp
    case s7 =>
      refine ⟨rfl, fun T w1 hT hb ha0 hd => ?_⟩
      have ec := evT_const T
      have ef := evT_func T
      have d14 : evT T (.tmp 14) = .int .i64 (n : Nat) := hT 14 (by kernel_rfl)
      exact gr_pure (ar_move d14) rfl
    case s8 =>
      refine ⟨rfl, fun T w1 hT hb ha0 hd => ?_⟩
      have ec := evT_const T
      have ef := evT_func T
      have d315 : evT T (.tmp 315) = .int .i64 ((d (k + 10) : Nat) : Int) := (by first | exact hd.1 | exact hd.2.1 | exact hd.2.2.1 | exact hd.2.2.2.1 | exact hd.2.2.2.2.1 | exact hd.2.2.2.2.2.1 | exact hd.2.2.2.2.2.2.1 | exact hd.2.2.2.2.2.2.2.1)
      have d316 : evT T (.tmp 316) = .int .i64 (n : Nat) := (by first | exact hd.1 | exact hd.2.1 | exact hd.2.2.1 | exact hd.2.2.2.1 | exact hd.2.2.2.2.1 | exact hd.2.2.2.2.2.1 | exact hd.2.2.2.2.2.2.1 | exact hd.2.2.2.2.2.2.2.1)
      exact gr_pure (ar_rem d315 d316 (by have := HLT.out (k + 10); omega) (by omega)) (rfl)
    case s9 =>
      refine ⟨rfl, fun T w1 hT hb ha0 hd => ?_⟩
      have ec := evT_const T
      have ef := evT_func T
      have d317 : evT T (.tmp 317) = .int .i64 ((d (k + 10) % n : Nat) : Int) := (by first | exact hd.1 | exact hd.2.1 | exact hd.2.2.1 | exact hd.2.2.2.1 | exact hd.2.2.2.2.1 | exact hd.2.2.2.2.2.1 | exact hd.2.2.2.2.2.2.1 | exact hd.2.2.2.2.2.2.2.1)
      have hz := hb.size
      refine gr_made (v := mkRow 1 w1.heap.size) (w' := w1.alloc (.cells [.int .i64 ((d (k + 10) % n : Nat) : Int)].toArray 3)) ?_ (World.grownBy_alloc _ _ _) (show IsBlk (w5.heap.size) (mkRow 1) [.int .i64 ((d (k + 10) % n : Nat) : Int)] 3 (mkRow 1 w1.heap.size) _ from isBlk_new hz)
      clear hT hd hb ha0
      simp only [execOp, mkRow]
      go_simp
    case s10 =>
      refine ⟨rfl, fun T w1 hT hb ha0 hd => ?_⟩
      have ec := evT_const T
      have ef := evT_func T
      have d310 : evT T (.tmp 310) = .slice none 0 0 := (by first | exact hd.1 | exact hd.2.1 | exact hd.2.2.1 | exact hd.2.2.2.1 | exact hd.2.2.2.2.1 | exact hd.2.2.2.2.2.1 | exact hd.2.2.2.2.2.2.1 | exact hd.2.2.2.2.2.2.2.1)
      obtain ⟨b, dbs, hbb, hbh⟩ : IsBlk (w5.heap.size) (mkRow 1) [.int .i64 ((d (k + 10) % n : Nat) : Int)] 3 (evT T (.tmp 318)) w1 := (by first | exact hd.1 | exact hd.2.1 | exact hd.2.2.1 | exact hd.2.2.2.1 | exact hd.2.2.2.2.1 | exact hd.2.2.2.2.2.1 | exact hd.2.2.2.2.2.2.1 | exact hd.2.2.2.2.2.2.2.1)
      have hbx1 := (HE.out w1 hb).2
      have hM1 : Moved [] w5 w1 := Moved.of_grown (ha0 rfl) (fun k h => by cases h)
      have hown := own_move HOWNN.out (fun g hg => hM1.block g (HOWNN.out.lt g hg).2 (by simp))
      obtain ⟨i3, hi, hz0, hz1, hz2⟩ := info_parts Try.info3
      have hz := hb.size
      have hz5x := HMX.out.size
      obtain ⟨v', w', hrun, hown', hg', _, hob'⟩ := run_append_own_at (P := Try.prog) w1 w5.heap.size 35 35 3 i3 (.int .i64 0) 1 8 Try.underlying35 hi hz0 hz1 hz2 rfl (by decide) (.slice none 0 0) 0 _ hown ⟨b, 0, none⟩ 1 1 [.int .i64 ((d (k + 10) % n : Nat) : Int)] rfl (fun j u hj => by
          cases j with
          | zero => simp at hj; subst hj; rw [Addr.add_lit, cell_of_row _ _ _ _ _ _ hbh]; rfl
          | succ j => simp at hj) (by intro u hu; rw [List.mem_singleton.1 hu]; rfl) (by unfold maxLen; omega) (by omega) (by omega)
      have hnb : v'.ownBlock ≠ some bc := fun e => by have := (hown'.lt bc e).1; omega
      refine gr_made (v := v') (w' := w') ?_ hg' ⟨by rw [iv_snoc]; exact hown', hnb, (hM1.mono (by simp)).trans (Moved.of_grown hg' (by simp)), hbx1.move (Moved.of_grown (hot := (Value.slice none 0 0).ownBlock.toList) hg' (by simp)) (fun hm => by have := (HOWNN.out.lt bc (by simpa using hm)).1; omega)⟩
      clear hT hd hb ha0 hown' hg' hown hbh hob' hnb hM1
      simp only [mkRow] at dbs
      unfold execOp
      simp only [resolve, invoke, builtin, Sem.run_bind, Sem.run_pure, Result.andThen_ok, List.map_toArray, List.map_cons, List.map_nil, d310, dbs, hrun]
    case s11 =>
      refine ⟨rfl, fun T w1 hT hb ha0 hd => ?_⟩
      have ec := evT_const T
      have ef := evT_func T
      have d16 : evT T (.tmp 16) = .pointer (some ⟨bc, 0, none⟩) := hT 16 (by kernel_rfl)
      clear hT hd hb ha0
      refine gr_pure (v := .pointer (some ⟨bc, 5, none⟩)) ?_ rfl
      simp only [execOp]
      go_simp
    case fin =>
      intro T w1 o ho hT hb hd
      obtain rfl : _ = o := Option.some.inj ho
      clear ho
      have ec := evT_const T
      simp only [putL, Act.put, Option.getD_some, List.setIfInBounds_toArray, List.set_cons_zero, List.set_cons_succ]
      have dst5 : evT T (.tmp 320) = .pointer (some ⟨bc, 5, none⟩) := hd.2.2.2.2.2.2.2.2.2.2.2.1
      obtain ⟨hownN, hneN, hmvN, hbxN⟩ : (fun v w => w.ownsRow w5.heap.size 3 1 v (0 + 1) (iv ([] ++ [((d (k + 10) % n : Nat) : Int)])) ∧ v.ownBlock ≠ some bc ∧ Moved (Value.slice none 0 0).ownBlock.toList w5 w ∧ BoxAt w bc [.int .i64 ((d k % (nClk d + 1) : Nat) : Int), .int .i64 ((d (k + 1) % (nDom d) : Nat) : Int), .int .i64 ((d (k + 2) % (nRst d) : Nat) : Int), .int .u32 ((d (k + 3) % 3 : Nat) : Int), .slice AR (d (k + 4) % 5) cR, .slice none 0 0]) (evT T (.tmp 319)) w1 := hd.2.2.2.2.2.2.2.2.2.2.1
      obtain ⟨AN1, cN1, dap⟩ := own_shape' hownN
      rw [dap] at hownN hneN
      obtain ⟨wy1, hrun, hboxN, hmvS⟩ := storeSl (j := 5) (by simp) Try.sizeOf35 dst5 dap hbxN
      refine ⟨undef, wy1, .inr (hrun _ _ _), ?_⟩
      have hown2 := own_move hownN (w' := wy1) (fun g hg => hmvS.block g (hownN.lt g hg).2 (by simp; rintro rfl; exact hneN hg))
      have hbox2 : BoxAt wy1 bc [.int .i64 ((d k % (nClk d + 1) : Nat) : Int), .int .i64 ((d (k + 1) % (nDom d) : Nat) : Int), .int .i64 ((d (k + 2) % (nRst d) : Nat) : Int), .int .u32 ((d (k + 3) % 3 : Nat) : Int), .slice AR (d (k + 4) % 5) cR, .slice AN1 (0 + 1) cN1] := hboxN
      have hmx : Moved [bc] w5 wy1 := HMX.out.trans' ((hmvN.mono (hot' := bc :: (Value.slice none 0 0).ownBlock.toList) (by intro k hk; exact List.mem_cons_of_mem _ hk)).trans (hmvS.mono (by intro k hk; rw [List.mem_singleton.1 hk]; exact List.mem_cons_self))) (fun j hj => by
        rcases List.mem_cons.1 hj with e | e
        · exact .inl (by simp [e])
        · exact .inr (HOWNN.out.lt j (by simpa using e)).1)
      have HBX1 := Lib.hid hbox2
      have HOW1 := Lib.hid hown2
      have HMX1 := Lib.hid hmx
      clear hT hb hd dst5 hownN hneN hmvN hbxN dap hrun hboxN hmvS hown2 hbox2 hmx ec HE HOWNN HMX HBXX
      have HBXX := HBX1
      have HOWNN := HOW1
      have HMX := HMX1
      clear HBX1 HOW1 HMX1
      go_wp2
      refine HK0.out _ _ ?_
      have hc1 := HCC.out
      have hown2 : _ := HOWNN.out
      rw [show iv ([] ++ [((d (k + 10) % n : Nat) : Int)]) = iv (need1 d k n) from congrArg iv (by rw [need1_yes hc1]; rfl)] at hown2
      have HOWN2 := Lib.hid hown2
      clear hown2
      exact dev3_any w wa wf wo w5 d n k bc v1 v2 v3 v4 p2 H AR cR _ _ _ _ HLT HKN hk96 hlt hn4 hMsz hgd hMz hgs hgsf hbc hbc5 hz5 HDR5 HM5 HREG HNER HLTR hcR HROW HNE HBX HDRr HMb HLT4 HH HBXX HOWN2 HMX (by have h1 := own_len HOWN2.out; have h2 := need1_len d k n; have h3 := need2_len d k n; (try simp only [List.length_append] at h1); omega) _ _ ⟨rfl, rfl⟩ rfl rfl rfl rfl rfl rfl HQ.out
  · have HC := Lib.hid hc1
    by_cases hn0 : 0 < n
    · have hka : ((d (k + 9) : Int) % 2 == 1) = false := by
        have : ¬ d (k + 9) % 2 = 1 := fun h => hc1 ⟨hn0, h⟩
        simp
        omega
      clear hc1
      go_wp2
      refine HK0.out _ _ ?_
      have hown2 : _ := HOWNN.out
      rw [show iv ([]) = iv (need1 d k n) from congrArg iv (by rw [need1_no HC.out])] at hown2
      have HOWN2 := Lib.hid hown2
      clear hown2
      exact dev3_any w wa wf wo w5 d n k bc v1 v2 v3 v4 p2 H AR cR _ _ _ _ HLT HKN hk96 hlt hn4 hMsz hgd hMz hgs hgsf hbc hbc5 hz5 HDR5 HM5 HREG HNER HLTR hcR HROW HNE HBX HDRr HMb HLT4 HH HBXX HOWN2 HMX (by have h1 := own_len HOWN2.out; have h2 := need1_len d k n; have h3 := need2_len d k n; (try simp only [List.length_append] at h1); omega) _ _ ⟨rfl, rfl⟩ rfl rfl rfl rfl rfl rfl HQ.out
    · clear hc1
      go_wp2
      refine HK0.out _ _ ?_
      have hown2 : _ := HOWNN.out
      rw [show iv ([]) = iv (need1 d k n) from congrArg iv (by rw [need1_no HC.out])] at hown2
      have HOWN2 := Lib.hid hown2
      clear hown2
      exact dev3_any w wa wf wo w5 d n k bc v1 v2 v3 v4 p2 H AR cR _ _ _ _ HLT HKN hk96 hlt hn4 hMsz hgd hMz hgs hgsf hbc hbc5 hz5 HDR5 HM5 HREG HNER HLTR hcR HROW HNE HBX HDRr HMb HLT4 HH HBXX HOWN2 HMX (by have h1 := own_len HOWN2.out; have h2 := need1_len d k n; have h3 := need2_len d k n; (try simp only [List.length_append] at h1); omega) _ _ ⟨rfl, rfl⟩ rfl rfl rfl rfl rfl rfl HQ.out

end Go.Proofs.Ytnfbhhgdibkbdaa
