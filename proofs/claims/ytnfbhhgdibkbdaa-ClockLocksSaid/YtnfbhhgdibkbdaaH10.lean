/- The contract of catnaplaw4.chip, in parts: H10. (Written by wip/tools/h1.py.) -/
import Derived.Test.YtnfbhhgdibkbdaaH8
import Derived.Test.YtnfbhhgdibkbdaaH9
namespace Go.Proofs.Ytnfbhhgdibkbdaa
set_option linter.unusedSimpArgs false
set_option linter.unusedVariables false
open Go.RowKit Go.Maps

set_option maxRecDepth 1000000 in
set_option maxHeartbeats 8000000 in
theorem round5_any (w wa wf : World) (d : Nat → Nat) (H : List Nat) (A1 A2 A3 : Option Addr) (c1 c2 c3 : Nat) (p2 : Value) (HLT : Hid (∀ i, d i < 1000000)) (hMsz : w.heap.size + 1 + 1 ≤ wa.heap.size) (hgd : w.heap.size + 1 < wf.heap.size) (hgsf : wa.heap.size + 1 < wf.heap.size)
    (HH : Hid (∀ b, b ∈ H → b < wf.heap.size)) (hc1 : nClk d + 1 ≤ c1) (hc2 : nDom d ≤ c2) (hc3 : nRst d ≤ c3)
    (wr : World) (n : Nat) (v4 : Value) (a : Act) (ha : Fr a) (h2 : slT a 2 = p2) (h4 : slT a 4 = .slice (some ⟨w.heap.size + 1, 0, none⟩) 120 120) (h6 : slT a 6 = .pointer (some ⟨wa.heap.size + 1, 0, none⟩)) (h14 : slT a 14 = .int .i64 (n : Nat)) (hn : n ≤ nDev d) (hp : P5 wr wf (w.heap.size + 1) (wa.heap.size + 1) d H (.slice A1 (nClk d + 1) c1) (.slice A2 (nDom d) c2) (.slice A3 (nRst d) c3) v4 n)
    (R : Act → World → Prop) (Q : Exit → Act → World → Prop)
    (hR : ∀ a' wx v6, n < nDev d → Fr a' → slT a' 2 = p2 → slT a' 4 = .slice (some ⟨w.heap.size + 1, 0, none⟩) 120 120 → slT a' 6 = .pointer (some ⟨wa.heap.size + 1, 0, none⟩) → slT a' 14 = .int .i64 ((n + 1 : Nat) : Int) → P5 wx wf (w.heap.size + 1) (wa.heap.size + 1) d H (.slice A1 (nClk d + 1) c1) (.slice A2 (nDom d) c2) (.slice A3 (nRst d) c3) v6 (n + 1) → R a' wx)
    (hQ : ∀ a', Fr a' → slT a' 2 = p2 → slT a' 6 = .pointer (some ⟨wa.heap.size + 1, 0, none⟩) → n = nDev d → Q (.exit 9) a' wr) :
    Code.wp Try.prog (lpC loop5) (Exit.then R Q) a wr := by
  obtain ⟨hrow, hne4, hbx, hdr, hMb⟩ := hp
  have HQ := Lib.hid hQ
  have HR := Lib.hid hR
  clear hQ hR
  obtain ⟨F, rfl⟩ := ha.open_
  rw [slT_listT (by omega)] at h2
  rw [slT_listT (by omega)] at h4
  rw [slT_listT (by omega)] at h6
  rw [slT_listT (by omega)] at h14
  rw [lit352, h2, h4, h6, h14]
  clear ha h2 h4 h6 h14
  conv => arg 2; whnf
  obtain ⟨A4, c4, hv4, hc4, hlt4⟩ := hrow.shape
  rw [devsP_len] at hv4
  have hgs := hbx.lt
  have hMz := hMb.size
  have c4d := (hdr 4 (by omega)).2
  rw [if_pos (by omega)] at c4d
  have b1 := HLT.out 4
  have hn4 : nDev d ≤ 4 := by unfold nDev; omega
  by_cases hlt : n < nDev d
  · have hlt9 : n < 1 + d 4 % 4 := hlt
    obtain ⟨k, hk⟩ : ∃ k, k = 60 + 12 * n := ⟨_, rfl⟩
    have e9 : (60 : Int) + 12 * (n : Int) = (k : Int) := by omega
    have hk96 : k ≤ 96 := by omega
    have HKN := Lib.hid hk
    have hC : ∀ W, wr.grownBy W none → (∀ i, i < 120 → W.cell? ⟨w.heap.size + 1, i, none⟩ = some (.int .i64 (d i : Nat))) ∧ BoxAt W (wa.heap.size + 1) [.slice A1 (nClk d + 1) c1, .slice A2 (nDom d) c2, .slice A3 (nRst d) c3, v4] := fun W hW =>
      ⟨fun i hi => by have := ((hdr.grown hW (by omega) (by simp)) i hi).2; rwa [if_pos hi] at this, hbx.move (Moved.of_grown (hot := []) hW (fun k h => by cases h)) (by simp)⟩
    have HC := Lib.hid hC
    have HROW := Lib.hid hrow
    have HBX := Lib.hid hbx
    have HDRr := Lib.hid hdr
    have HMb := Lib.hid hMb
    have HNE := Lib.hid hne4
    have HLT4 := Lib.hid hlt4
    have HV4 := Lib.hid hv4
    clear hk hC hrow hbx hdr hMb hne4 hlt4 hv4
    go_wp2
    refine region_then [⟨IsV (.slice (some ⟨w.heap.size + 1, 0, none⟩) 120 120), true, false⟩,
      ⟨IsV (.int .i64 (k : Nat)), true, false⟩,
      ⟨IsV (.pointer (some ⟨w.heap.size + 1, k, none⟩)), true, false⟩,
      ⟨IsV (.int .i64 ((d k : Nat) : Int)), true, false⟩,
      ⟨IsV (.pointer (some ⟨wa.heap.size + 1, 0, none⟩)), true, false⟩,
      ⟨IsV (.slice A1 (nClk d + 1) c1), true, false⟩,
      ⟨IsV (.int .i64 ((nClk d + 1 : Nat) : Int)), true, false⟩,
      ⟨IsV (.int .i64 ((d k % (nClk d + 1) : Nat) : Int)), true, false⟩,
      ⟨IsV (.slice (some ⟨w.heap.size + 1, 0, none⟩) 120 120), true, false⟩,
      ⟨IsV (.int .i64 (k : Nat)), true, false⟩,
      ⟨IsV (.int .i64 ((k + 1 : Nat) : Int)), true, false⟩,
      ⟨IsV (.pointer (some ⟨w.heap.size + 1, k + 1, none⟩)), true, false⟩,
      ⟨IsV (.int .i64 ((d (k + 1) : Nat) : Int)), true, false⟩,
      ⟨IsV (.pointer (some ⟨wa.heap.size + 1, 1, none⟩)), true, false⟩,
      ⟨IsV (.slice A2 (nDom d) c2), true, false⟩,
      ⟨IsV (.int .i64 ((nDom d : Nat) : Int)), true, false⟩,
      ⟨IsV (.int .i64 ((d (k + 1) % (nDom d) : Nat) : Int)), true, false⟩,
      ⟨IsV (.slice (some ⟨w.heap.size + 1, 0, none⟩) 120 120), true, false⟩,
      ⟨IsV (.int .i64 (k : Nat)), true, false⟩,
      ⟨IsV (.int .i64 ((k + 2 : Nat) : Int)), true, false⟩,
      ⟨IsV (.pointer (some ⟨w.heap.size + 1, k + 2, none⟩)), true, false⟩,
      ⟨IsV (.int .i64 ((d (k + 2) : Nat) : Int)), true, false⟩,
      ⟨IsV (.pointer (some ⟨wa.heap.size + 1, 2, none⟩)), true, false⟩,
      ⟨IsV (.slice A3 (nRst d) c3), true, false⟩,
      ⟨IsV (.int .i64 ((nRst d : Nat) : Int)), true, false⟩,
      ⟨IsV (.int .i64 ((d (k + 2) % (nRst d) : Nat) : Int)), true, false⟩,
      ⟨IsV (.slice (some ⟨w.heap.size + 1, 0, none⟩) 120 120), true, false⟩,
      ⟨IsV (.int .i64 (k : Nat)), true, false⟩,
      ⟨IsV (.int .i64 ((k + 3 : Nat) : Int)), true, false⟩,
      ⟨IsV (.pointer (some ⟨w.heap.size + 1, k + 3, none⟩)), true, false⟩,
      ⟨IsV (.int .i64 ((d (k + 3) : Nat) : Int)), true, false⟩,
      ⟨IsV (.int .i64 ((d (k + 3) % 3 : Nat) : Int)), true, false⟩,
      ⟨IsV (.int .u32 ((d (k + 3) % 3 : Nat) : Int)), true, false⟩,
      ⟨IsV (.agg #[.int .i64 ((d k % (nClk d + 1) : Nat) : Int), .int .i64 ((d (k + 1) % (nDom d) : Nat) : Int), .int .i64 ((d (k + 2) % (nRst d) : Nat) : Int), .int .u32 ((d (k + 3) % 3 : Nat) : Int), .slice none 0 0, .slice none 0 0]), true, false⟩,
      ⟨IsBlk (wr.heap.size) mkPtr [.int .i64 0, .int .i64 0, .int .i64 0, .int .u32 0, .slice none 0 0, .slice none 0 0] 86, false, false⟩] none 352 (by kernel_rfl) rfl (by kernel_rfl) ⟨fun _ => stbR_V _ _, fun _ => stbR_V _ _, fun _ => stbR_V _ _, fun _ => stbR_V _ _, fun _ => stbR_V _ _, fun _ => stbR_V _ _, fun _ => stbR_V _ _, fun _ => stbR_V _ _, fun _ => stbR_V _ _, fun _ => stbR_V _ _, fun _ => stbR_V _ _, fun _ => stbR_V _ _, fun _ => stbR_V _ _, fun _ => stbR_V _ _, fun _ => stbR_V _ _, fun _ => stbR_V _ _, fun _ => stbR_V _ _, fun _ => stbR_V _ _, fun _ => stbR_V _ _, fun _ => stbR_V _ _, fun _ => stbR_V _ _, fun _ => stbR_V _ _, fun _ => stbR_V _ _, fun _ => stbR_V _ _, fun _ => stbR_V _ _, fun _ => stbR_V _ _, fun _ => stbR_V _ _, fun _ => stbR_V _ _, fun _ => stbR_V _ _, fun _ => stbR_V _ _, fun _ => stbR_V _ _, fun _ => stbR_V _ _, fun _ => stbR_V _ _, fun _ => stbR_V _ _, fun _ => stbR_blk (by simp), trivial⟩ ⟨?s0, ?s1, ?s2, ?s3, ?s4, ?s5, ?s6, ?s7, ?s8, ?s9, ?s10, ?s11, ?s12, ?s13, ?s14, ?s15, ?s16, ?s17, ?s18, ?s19, ?s20, ?s21, ?s22, ?s23, ?s24, ?s25, ?s26, ?s27, ?s28, ?s29, ?s30, ?s31, ?s32, ?s33, ?s34, trivial⟩ ?fin
    case s0 =>
      refine ⟨rfl, fun T w1 hT hb ha0 hd => ?_⟩
      have ec := evT_const T
      have ef := evT_func T
      have d4 : evT T (.tmp 4) = .slice (some ⟨w.heap.size + 1, 0, none⟩) 120 120 := hT 4 (by kernel_rfl)
      exact gr_pure (ar_move d4) rfl
    case s1 =>
      refine ⟨rfl, fun T w1 hT hb ha0 hd => ?_⟩
      have ec := evT_const T
      have ef := evT_func T
      have d15 : evT T (.tmp 15) = .int .i64 (k : Nat) := hT 15 (by kernel_rfl)
      exact gr_pure (ar_move d15) rfl
    case s2 =>
      refine ⟨rfl, fun T w1 hT hb ha0 hd => ?_⟩
      have ec := evT_const T
      have ef := evT_func T
      have d229 : evT T (.tmp 229) = .slice (some ⟨w.heap.size + 1, 0, none⟩) 120 120 := (by first | exact hd.1 | exact hd.2.1 | exact hd.2.2.1 | exact hd.2.2.2.1 | exact hd.2.2.2.2.1 | exact hd.2.2.2.2.2.1 | exact hd.2.2.2.2.2.2.1 | exact hd.2.2.2.2.2.2.2.1)
      have d230 : evT T (.tmp 230) = .int .i64 (k : Nat) := (by first | exact hd.1 | exact hd.2.1 | exact hd.2.2.1 | exact hd.2.2.2.1 | exact hd.2.2.2.2.1 | exact hd.2.2.2.2.2.1 | exact hd.2.2.2.2.2.2.1 | exact hd.2.2.2.2.2.2.2.1)
      have g1 : (k : Int) < 120 := by omega
      clear hT hd hb ha0
      refine gr_pure (v := .pointer (some ⟨w.heap.size + 1, k, none⟩)) ?_ rfl
      simp only [execOp]
      go_simp
    case s3 =>
      refine ⟨rfl, fun T w1 hT hb ha0 hd => ?_⟩
      have ec := evT_const T
      have ef := evT_func T
      have d231 : evT T (.tmp 231) = .pointer (some ⟨w.heap.size + 1, k, none⟩) := (by first | exact hd.1 | exact hd.2.1 | exact hd.2.2.1 | exact hd.2.2.2.1 | exact hd.2.2.2.2.1 | exact hd.2.2.2.2.2.1 | exact hd.2.2.2.2.2.2.1 | exact hd.2.2.2.2.2.2.2.1)
      have f0 := (HC.out w1 hb).1 k (by omega)
      clear hT hd hb ha0
      refine gr_pure (v := .int .i64 ((d k : Nat) : Int)) ?_ rfl
      simp only [execOp]
      go_simp
    case s4 =>
      refine ⟨rfl, fun T w1 hT hb ha0 hd => ?_⟩
      have ec := evT_const T
      have ef := evT_func T
      have d6 : evT T (.tmp 6) = .pointer (some ⟨wa.heap.size + 1, 0, none⟩) := hT 6 (by kernel_rfl)
      clear hT hd hb ha0
      refine gr_pure (v := .pointer (some ⟨wa.heap.size + 1, 0, none⟩)) ?_ rfl
      simp only [execOp]
      go_simp
    case s5 =>
      refine ⟨rfl, fun T w1 hT hb ha0 hd => ?_⟩
      have ec := evT_const T
      have ef := evT_func T
      have d233 : evT T (.tmp 233) = .pointer (some ⟨wa.heap.size + 1, 0, none⟩) := (by first | exact hd.1 | exact hd.2.1 | exact hd.2.2.1 | exact hd.2.2.2.1 | exact hd.2.2.2.2.1 | exact hd.2.2.2.2.2.1 | exact hd.2.2.2.2.2.2.1 | exact hd.2.2.2.2.2.2.2.1)
      have f0 := ((HC.out w1 hb).2 0 _ rfl).1
      clear hT hd hb ha0
      refine gr_pure (v := .slice A1 (nClk d + 1) c1) ?_ rfl
      simp only [execOp]
      go_simp
    case s6 =>
      refine ⟨rfl, fun T w1 hT hb ha0 hd => ?_⟩
      have ec := evT_const T
      have ef := evT_func T
      have d234 : evT T (.tmp 234) = .slice A1 (nClk d + 1) c1 := (by first | exact hd.1 | exact hd.2.1 | exact hd.2.2.1 | exact hd.2.2.2.1 | exact hd.2.2.2.2.1 | exact hd.2.2.2.2.2.1 | exact hd.2.2.2.2.2.2.1 | exact hd.2.2.2.2.2.2.2.1)
      clear hT hd hb ha0
      refine gr_pure (v := .int .i64 ((nClk d + 1 : Nat) : Int)) ?_ rfl
      simp only [execOp]
      go_simp
    case s7 =>
      refine ⟨rfl, fun T w1 hT hb ha0 hd => ?_⟩
      have ec := evT_const T
      have ef := evT_func T
      have d232 : evT T (.tmp 232) = .int .i64 ((d k : Nat) : Int) := (by first | exact hd.1 | exact hd.2.1 | exact hd.2.2.1 | exact hd.2.2.2.1 | exact hd.2.2.2.2.1 | exact hd.2.2.2.2.2.1 | exact hd.2.2.2.2.2.2.1 | exact hd.2.2.2.2.2.2.2.1)
      have d235 : evT T (.tmp 235) = .int .i64 ((nClk d + 1 : Nat) : Int) := (by first | exact hd.1 | exact hd.2.1 | exact hd.2.2.1 | exact hd.2.2.2.1 | exact hd.2.2.2.2.1 | exact hd.2.2.2.2.2.1 | exact hd.2.2.2.2.2.2.1 | exact hd.2.2.2.2.2.2.2.1)
      exact gr_pure (ar_rem d232 d235 (by have := HLT.out (k + 0); have := HLT.out k; omega) (by unfold nDom nRst at *; omega)) (rfl)
    case s8 =>
      refine ⟨rfl, fun T w1 hT hb ha0 hd => ?_⟩
      have ec := evT_const T
      have ef := evT_func T
      have d4 : evT T (.tmp 4) = .slice (some ⟨w.heap.size + 1, 0, none⟩) 120 120 := hT 4 (by kernel_rfl)
      exact gr_pure (ar_move d4) rfl
    case s9 =>
      refine ⟨rfl, fun T w1 hT hb ha0 hd => ?_⟩
      have ec := evT_const T
      have ef := evT_func T
      have d15 : evT T (.tmp 15) = .int .i64 (k : Nat) := hT 15 (by kernel_rfl)
      exact gr_pure (ar_move d15) rfl
    case s10 =>
      refine ⟨rfl, fun T w1 hT hb ha0 hd => ?_⟩
      have ec := evT_const T
      have ef := evT_func T
      have d238 : evT T (.tmp 238) = .int .i64 (k : Nat) := (by first | exact hd.1 | exact hd.2.1 | exact hd.2.2.1 | exact hd.2.2.2.1 | exact hd.2.2.2.2.1 | exact hd.2.2.2.2.2.1 | exact hd.2.2.2.2.2.2.1 | exact hd.2.2.2.2.2.2.2.1)
      exact gr_pure (ar_add (b := 1) d238 (ec _) (by omega)) (rfl)
    case s11 =>
      refine ⟨rfl, fun T w1 hT hb ha0 hd => ?_⟩
      have ec := evT_const T
      have ef := evT_func T
      have d237 : evT T (.tmp 237) = .slice (some ⟨w.heap.size + 1, 0, none⟩) 120 120 := (by first | exact hd.1 | exact hd.2.1 | exact hd.2.2.1 | exact hd.2.2.2.1 | exact hd.2.2.2.2.1 | exact hd.2.2.2.2.2.1 | exact hd.2.2.2.2.2.2.1 | exact hd.2.2.2.2.2.2.2.1)
      have d239 : evT T (.tmp 239) = .int .i64 ((k + 1 : Nat) : Int) := (by first | exact hd.1 | exact hd.2.1 | exact hd.2.2.1 | exact hd.2.2.2.1 | exact hd.2.2.2.2.1 | exact hd.2.2.2.2.2.1 | exact hd.2.2.2.2.2.2.1 | exact hd.2.2.2.2.2.2.2.1)
      have g0 : (0 : Int) ≤ (k : Int) + 1 := by omega
      have g1 : (k : Int) + 1 < 120 := by omega
      have g2 : ((k : Int) + 1).toNat = k + 1 := by omega
      clear hT hd hb ha0
      refine gr_pure (v := .pointer (some ⟨w.heap.size + 1, k + 1, none⟩)) ?_ rfl
      simp only [execOp]
      go_simp
    case s12 =>
      refine ⟨rfl, fun T w1 hT hb ha0 hd => ?_⟩
      have ec := evT_const T
      have ef := evT_func T
      have d240 : evT T (.tmp 240) = .pointer (some ⟨w.heap.size + 1, k + 1, none⟩) := (by first | exact hd.1 | exact hd.2.1 | exact hd.2.2.1 | exact hd.2.2.2.1 | exact hd.2.2.2.2.1 | exact hd.2.2.2.2.2.1 | exact hd.2.2.2.2.2.2.1 | exact hd.2.2.2.2.2.2.2.1)
      have f0 := (HC.out w1 hb).1 (k + 1) (by omega)
      clear hT hd hb ha0
      refine gr_pure (v := .int .i64 ((d (k + 1) : Nat) : Int)) ?_ rfl
      simp only [execOp]
      go_simp
    case s13 =>
      refine ⟨rfl, fun T w1 hT hb ha0 hd => ?_⟩
      have ec := evT_const T
      have ef := evT_func T
      have d6 : evT T (.tmp 6) = .pointer (some ⟨wa.heap.size + 1, 0, none⟩) := hT 6 (by kernel_rfl)
      clear hT hd hb ha0
      refine gr_pure (v := .pointer (some ⟨wa.heap.size + 1, 1, none⟩)) ?_ rfl
      simp only [execOp]
      go_simp
    case s14 =>
      refine ⟨rfl, fun T w1 hT hb ha0 hd => ?_⟩
      have ec := evT_const T
      have ef := evT_func T
      have d242 : evT T (.tmp 242) = .pointer (some ⟨wa.heap.size + 1, 1, none⟩) := (by first | exact hd.1 | exact hd.2.1 | exact hd.2.2.1 | exact hd.2.2.2.1 | exact hd.2.2.2.2.1 | exact hd.2.2.2.2.2.1 | exact hd.2.2.2.2.2.2.1 | exact hd.2.2.2.2.2.2.2.1)
      have f0 := ((HC.out w1 hb).2 1 _ rfl).1
      clear hT hd hb ha0
      refine gr_pure (v := .slice A2 (nDom d) c2) ?_ rfl
      simp only [execOp]
      go_simp
    case s15 =>
      refine ⟨rfl, fun T w1 hT hb ha0 hd => ?_⟩
      have ec := evT_const T
      have ef := evT_func T
      have d243 : evT T (.tmp 243) = .slice A2 (nDom d) c2 := (by first | exact hd.1 | exact hd.2.1 | exact hd.2.2.1 | exact hd.2.2.2.1 | exact hd.2.2.2.2.1 | exact hd.2.2.2.2.2.1 | exact hd.2.2.2.2.2.2.1 | exact hd.2.2.2.2.2.2.2.1)
      clear hT hd hb ha0
      refine gr_pure (v := .int .i64 ((nDom d : Nat) : Int)) ?_ rfl
      simp only [execOp]
      go_simp
    case s16 =>
      refine ⟨rfl, fun T w1 hT hb ha0 hd => ?_⟩
      have ec := evT_const T
      have ef := evT_func T
      have d241 : evT T (.tmp 241) = .int .i64 ((d (k + 1) : Nat) : Int) := (by first | exact hd.1 | exact hd.2.1 | exact hd.2.2.1 | exact hd.2.2.2.1 | exact hd.2.2.2.2.1 | exact hd.2.2.2.2.2.1 | exact hd.2.2.2.2.2.2.1 | exact hd.2.2.2.2.2.2.2.1)
      have d244 : evT T (.tmp 244) = .int .i64 ((nDom d : Nat) : Int) := (by first | exact hd.1 | exact hd.2.1 | exact hd.2.2.1 | exact hd.2.2.2.1 | exact hd.2.2.2.2.1 | exact hd.2.2.2.2.2.1 | exact hd.2.2.2.2.2.2.1 | exact hd.2.2.2.2.2.2.2.1)
      exact gr_pure (ar_rem d241 d244 (by have := HLT.out (k + 1); have := HLT.out k; omega) (by unfold nDom nRst at *; omega)) (rfl)
    case s17 =>
      refine ⟨rfl, fun T w1 hT hb ha0 hd => ?_⟩
      have ec := evT_const T
      have ef := evT_func T
      have d4 : evT T (.tmp 4) = .slice (some ⟨w.heap.size + 1, 0, none⟩) 120 120 := hT 4 (by kernel_rfl)
      exact gr_pure (ar_move d4) rfl
    case s18 =>
      refine ⟨rfl, fun T w1 hT hb ha0 hd => ?_⟩
      have ec := evT_const T
      have ef := evT_func T
      have d15 : evT T (.tmp 15) = .int .i64 (k : Nat) := hT 15 (by kernel_rfl)
      exact gr_pure (ar_move d15) rfl
    case s19 =>
      refine ⟨rfl, fun T w1 hT hb ha0 hd => ?_⟩
      have ec := evT_const T
      have ef := evT_func T
      have d247 : evT T (.tmp 247) = .int .i64 (k : Nat) := (by first | exact hd.1 | exact hd.2.1 | exact hd.2.2.1 | exact hd.2.2.2.1 | exact hd.2.2.2.2.1 | exact hd.2.2.2.2.2.1 | exact hd.2.2.2.2.2.2.1 | exact hd.2.2.2.2.2.2.2.1)
      exact gr_pure (ar_add (b := 2) d247 (ec _) (by omega)) (rfl)
    case s20 =>
      refine ⟨rfl, fun T w1 hT hb ha0 hd => ?_⟩
      have ec := evT_const T
      have ef := evT_func T
      have d246 : evT T (.tmp 246) = .slice (some ⟨w.heap.size + 1, 0, none⟩) 120 120 := (by first | exact hd.1 | exact hd.2.1 | exact hd.2.2.1 | exact hd.2.2.2.1 | exact hd.2.2.2.2.1 | exact hd.2.2.2.2.2.1 | exact hd.2.2.2.2.2.2.1 | exact hd.2.2.2.2.2.2.2.1)
      have d248 : evT T (.tmp 248) = .int .i64 ((k + 2 : Nat) : Int) := (by first | exact hd.1 | exact hd.2.1 | exact hd.2.2.1 | exact hd.2.2.2.1 | exact hd.2.2.2.2.1 | exact hd.2.2.2.2.2.1 | exact hd.2.2.2.2.2.2.1 | exact hd.2.2.2.2.2.2.2.1)
      have g0 : (0 : Int) ≤ (k : Int) + 2 := by omega
      have g1 : (k : Int) + 2 < 120 := by omega
      have g2 : ((k : Int) + 2).toNat = k + 2 := by omega
      clear hT hd hb ha0
      refine gr_pure (v := .pointer (some ⟨w.heap.size + 1, k + 2, none⟩)) ?_ rfl
      simp only [execOp]
      go_simp
    case s21 =>
      refine ⟨rfl, fun T w1 hT hb ha0 hd => ?_⟩
      have ec := evT_const T
      have ef := evT_func T
      have d249 : evT T (.tmp 249) = .pointer (some ⟨w.heap.size + 1, k + 2, none⟩) := (by first | exact hd.1 | exact hd.2.1 | exact hd.2.2.1 | exact hd.2.2.2.1 | exact hd.2.2.2.2.1 | exact hd.2.2.2.2.2.1 | exact hd.2.2.2.2.2.2.1 | exact hd.2.2.2.2.2.2.2.1)
      have f0 := (HC.out w1 hb).1 (k + 2) (by omega)
      clear hT hd hb ha0
      refine gr_pure (v := .int .i64 ((d (k + 2) : Nat) : Int)) ?_ rfl
      simp only [execOp]
      go_simp
    case s22 =>
      refine ⟨rfl, fun T w1 hT hb ha0 hd => ?_⟩
      have ec := evT_const T
      have ef := evT_func T
      have d6 : evT T (.tmp 6) = .pointer (some ⟨wa.heap.size + 1, 0, none⟩) := hT 6 (by kernel_rfl)
      clear hT hd hb ha0
      refine gr_pure (v := .pointer (some ⟨wa.heap.size + 1, 2, none⟩)) ?_ rfl
      simp only [execOp]
      go_simp
    case s23 =>
      refine ⟨rfl, fun T w1 hT hb ha0 hd => ?_⟩
      have ec := evT_const T
      have ef := evT_func T
      have d251 : evT T (.tmp 251) = .pointer (some ⟨wa.heap.size + 1, 2, none⟩) := (by first | exact hd.1 | exact hd.2.1 | exact hd.2.2.1 | exact hd.2.2.2.1 | exact hd.2.2.2.2.1 | exact hd.2.2.2.2.2.1 | exact hd.2.2.2.2.2.2.1 | exact hd.2.2.2.2.2.2.2.1)
      have f0 := ((HC.out w1 hb).2 2 _ rfl).1
      clear hT hd hb ha0
      refine gr_pure (v := .slice A3 (nRst d) c3) ?_ rfl
      simp only [execOp]
      go_simp
    case s24 =>
      refine ⟨rfl, fun T w1 hT hb ha0 hd => ?_⟩
      have ec := evT_const T
      have ef := evT_func T
      have d252 : evT T (.tmp 252) = .slice A3 (nRst d) c3 := (by first | exact hd.1 | exact hd.2.1 | exact hd.2.2.1 | exact hd.2.2.2.1 | exact hd.2.2.2.2.1 | exact hd.2.2.2.2.2.1 | exact hd.2.2.2.2.2.2.1 | exact hd.2.2.2.2.2.2.2.1)
      clear hT hd hb ha0
      refine gr_pure (v := .int .i64 ((nRst d : Nat) : Int)) ?_ rfl
      simp only [execOp]
      go_simp
    case s25 =>
      refine ⟨rfl, fun T w1 hT hb ha0 hd => ?_⟩
      have ec := evT_const T
      have ef := evT_func T
      have d250 : evT T (.tmp 250) = .int .i64 ((d (k + 2) : Nat) : Int) := (by first | exact hd.1 | exact hd.2.1 | exact hd.2.2.1 | exact hd.2.2.2.1 | exact hd.2.2.2.2.1 | exact hd.2.2.2.2.2.1 | exact hd.2.2.2.2.2.2.1 | exact hd.2.2.2.2.2.2.2.1)
      have d253 : evT T (.tmp 253) = .int .i64 ((nRst d : Nat) : Int) := (by first | exact hd.1 | exact hd.2.1 | exact hd.2.2.1 | exact hd.2.2.2.1 | exact hd.2.2.2.2.1 | exact hd.2.2.2.2.2.1 | exact hd.2.2.2.2.2.2.1 | exact hd.2.2.2.2.2.2.2.1)
      exact gr_pure (ar_rem d250 d253 (by have := HLT.out (k + 2); have := HLT.out k; omega) (by unfold nDom nRst at *; omega)) (rfl)
    case s26 =>
      refine ⟨rfl, fun T w1 hT hb ha0 hd => ?_⟩
      have ec := evT_const T
      have ef := evT_func T
      have d4 : evT T (.tmp 4) = .slice (some ⟨w.heap.size + 1, 0, none⟩) 120 120 := hT 4 (by kernel_rfl)
      exact gr_pure (ar_move d4) rfl
    case s27 =>
      refine ⟨rfl, fun T w1 hT hb ha0 hd => ?_⟩
      have ec := evT_const T
      have ef := evT_func T
      have d15 : evT T (.tmp 15) = .int .i64 (k : Nat) := hT 15 (by kernel_rfl)
      exact gr_pure (ar_move d15) rfl
    case s28 =>
      refine ⟨rfl, fun T w1 hT hb ha0 hd => ?_⟩
      have ec := evT_const T
      have ef := evT_func T
      have d256 : evT T (.tmp 256) = .int .i64 (k : Nat) := (by first | exact hd.1 | exact hd.2.1 | exact hd.2.2.1 | exact hd.2.2.2.1 | exact hd.2.2.2.2.1 | exact hd.2.2.2.2.2.1 | exact hd.2.2.2.2.2.2.1 | exact hd.2.2.2.2.2.2.2.1)
      exact gr_pure (ar_add (b := 3) d256 (ec _) (by omega)) (rfl)
    case s29 =>
      refine ⟨rfl, fun T w1 hT hb ha0 hd => ?_⟩
      have ec := evT_const T
      have ef := evT_func T
      have d255 : evT T (.tmp 255) = .slice (some ⟨w.heap.size + 1, 0, none⟩) 120 120 := (by first | exact hd.1 | exact hd.2.1 | exact hd.2.2.1 | exact hd.2.2.2.1 | exact hd.2.2.2.2.1 | exact hd.2.2.2.2.2.1 | exact hd.2.2.2.2.2.2.1 | exact hd.2.2.2.2.2.2.2.1)
      have d257 : evT T (.tmp 257) = .int .i64 ((k + 3 : Nat) : Int) := (by first | exact hd.1 | exact hd.2.1 | exact hd.2.2.1 | exact hd.2.2.2.1 | exact hd.2.2.2.2.1 | exact hd.2.2.2.2.2.1 | exact hd.2.2.2.2.2.2.1 | exact hd.2.2.2.2.2.2.2.1)
      have g0 : (0 : Int) ≤ (k : Int) + 3 := by omega
      have g1 : (k : Int) + 3 < 120 := by omega
      have g2 : ((k : Int) + 3).toNat = k + 3 := by omega
      clear hT hd hb ha0
      refine gr_pure (v := .pointer (some ⟨w.heap.size + 1, k + 3, none⟩)) ?_ rfl
      simp only [execOp]
      go_simp
    case s30 =>
      refine ⟨rfl, fun T w1 hT hb ha0 hd => ?_⟩
      have ec := evT_const T
      have ef := evT_func T
      have d258 : evT T (.tmp 258) = .pointer (some ⟨w.heap.size + 1, k + 3, none⟩) := (by first | exact hd.1 | exact hd.2.1 | exact hd.2.2.1 | exact hd.2.2.2.1 | exact hd.2.2.2.2.1 | exact hd.2.2.2.2.2.1 | exact hd.2.2.2.2.2.2.1 | exact hd.2.2.2.2.2.2.2.1)
      have f0 := (HC.out w1 hb).1 (k + 3) (by omega)
      clear hT hd hb ha0
      refine gr_pure (v := .int .i64 ((d (k + 3) : Nat) : Int)) ?_ rfl
      simp only [execOp]
      go_simp
    case s31 =>
      refine ⟨rfl, fun T w1 hT hb ha0 hd => ?_⟩
      have ec := evT_const T
      have ef := evT_func T
      have d259 : evT T (.tmp 259) = .int .i64 ((d (k + 3) : Nat) : Int) := (by first | exact hd.1 | exact hd.2.1 | exact hd.2.2.1 | exact hd.2.2.2.1 | exact hd.2.2.2.2.1 | exact hd.2.2.2.2.2.1 | exact hd.2.2.2.2.2.2.1 | exact hd.2.2.2.2.2.2.2.1)
      exact gr_pure (ar_rem (b := 3) d259 (ec _) (by have := HLT.out (k + 3); omega) (by omega)) (rfl)
    case s32 =>
      refine ⟨rfl, fun T w1 hT hb ha0 hd => ?_⟩
      have ec := evT_const T
      have ef := evT_func T
      have d260 : evT T (.tmp 260) = .int .i64 ((d (k + 3) % 3 : Nat) : Int) := (by first | exact hd.1 | exact hd.2.1 | exact hd.2.2.1 | exact hd.2.2.2.1 | exact hd.2.2.2.2.1 | exact hd.2.2.2.2.2.1 | exact hd.2.2.2.2.2.2.1 | exact hd.2.2.2.2.2.2.2.1)
      have hj : d (k + 3) % 3 < 3 := Nat.mod_lt _ (by omega)
      clear hT hd hb ha0
      refine gr_pure (v := .int .u32 ((d (k + 3) % 3 : Nat) : Int)) ?_ rfl
      generalize d (k + 3) % 3 = j at d260 hj ⊢
      have hw : IntKind.u32.wrap (j : Int) = (j : Int) := by rcases j with _ | _ | _ | j <;> first | rfl | omega
      simp only [execOp]
      go_simp
    case s33 =>
      refine ⟨rfl, fun T w1 hT hb ha0 hd => ?_⟩
      have ec := evT_const T
      have ef := evT_func T
      have d236 : evT T (.tmp 236) = .int .i64 ((d k % (nClk d + 1) : Nat) : Int) := (by first | exact hd.1 | exact hd.2.1 | exact hd.2.2.1 | exact hd.2.2.2.1 | exact hd.2.2.2.2.1 | exact hd.2.2.2.2.2.1 | exact hd.2.2.2.2.2.2.1 | exact hd.2.2.2.2.2.2.2.1)
      have d245 : evT T (.tmp 245) = .int .i64 ((d (k + 1) % (nDom d) : Nat) : Int) := (by first | exact hd.1 | exact hd.2.1 | exact hd.2.2.1 | exact hd.2.2.2.1 | exact hd.2.2.2.2.1 | exact hd.2.2.2.2.2.1 | exact hd.2.2.2.2.2.2.1 | exact hd.2.2.2.2.2.2.2.1)
      have d254 : evT T (.tmp 254) = .int .i64 ((d (k + 2) % (nRst d) : Nat) : Int) := (by first | exact hd.1 | exact hd.2.1 | exact hd.2.2.1 | exact hd.2.2.2.1 | exact hd.2.2.2.2.1 | exact hd.2.2.2.2.2.1 | exact hd.2.2.2.2.2.2.1 | exact hd.2.2.2.2.2.2.2.1)
      have d261 : evT T (.tmp 261) = .int .u32 ((d (k + 3) % 3 : Nat) : Int) := (by first | exact hd.1 | exact hd.2.1 | exact hd.2.2.1 | exact hd.2.2.2.1 | exact hd.2.2.2.2.1 | exact hd.2.2.2.2.2.1 | exact hd.2.2.2.2.2.2.1 | exact hd.2.2.2.2.2.2.2.1)
      clear hT hd hb ha0
      refine gr_pure (v := .agg #[.int .i64 ((d k % (nClk d + 1) : Nat) : Int), .int .i64 ((d (k + 1) % (nDom d) : Nat) : Int), .int .i64 ((d (k + 2) % (nRst d) : Nat) : Int), .int .u32 ((d (k + 3) % 3 : Nat) : Int), .slice none 0 0, .slice none 0 0]) ?_ rfl
      simp only [execOp]
      go_simp
    case s34 =>
      refine ⟨rfl, fun T w1 hT hb ha0 hd => ?_⟩
      have ec := evT_const T
      have ef := evT_func T
      have hz := hb.size
      refine gr_made (v := mkPtr w1.heap.size) (w' := w1.alloc (.cells [.int .i64 0, .int .i64 0, .int .i64 0, .int .u32 0, .slice none 0 0, .slice none 0 0].toArray 86)) ?_ (World.grownBy_alloc _ _ _) (show IsBlk (wr.heap.size) mkPtr [.int .i64 0, .int .i64 0, .int .i64 0, .int .u32 0, .slice none 0 0, .slice none 0 0] 86 (mkPtr w1.heap.size) _ from isBlk_new hz)
      clear hT hd hb ha0
      simp only [execOp, mkPtr]
      go_simp
    case fin =>
      intro T w1 o ho hT hb hd
      obtain rfl : _ = o := Option.some.inj ho
      clear ho
      have ec := evT_const T
      simp only [putL, Act.put, Option.getD_some, List.setIfInBounds_toArray, List.set_cons_zero, List.set_cons_succ]
      obtain ⟨bc, d16, hbc, hbch⟩ : IsBlk (wr.heap.size) mkPtr [.int .i64 0, .int .i64 0, .int .i64 0, .int .u32 0, .slice none 0 0, .slice none 0 0] 86 (evT T (.tmp 16)) w1 := hd.2.2.2.2.2.2.2.2.2.2.2.2.2.2.2.2.2.2.2.2.2.2.2.2.2.2.2.2.2.2.2.2.2.2.1
      have d262 : evT T (.tmp 262) = .agg #[.int .i64 ((d k % (nClk d + 1) : Nat) : Int), .int .i64 ((d (k + 1) % (nDom d) : Nat) : Int), .int .i64 ((d (k + 2) % (nRst d) : Nat) : Int), .int .u32 ((d (k + 3) % 3 : Nat) : Int), .slice none 0 0, .slice none 0 0] := hd.2.2.2.2.2.2.2.2.2.2.2.2.2.2.2.2.2.2.2.2.2.2.2.2.2.2.2.2.2.2.2.2.2.1
      obtain ⟨w3, hrun, hbox, hmv3⟩ := store44 d16 d262 (BoxAt.of_blk hbch)
      refine ⟨undef, w3, .inr (hrun _ _ _), ?_⟩
      have hmw : Moved [] wr w3 := (Moved.of_grown hb (fun k h => by cases h)).trans' hmv3 (fun k hk => .inr (by have := List.mem_singleton.1 hk; omega))
      have e16 : T 16 = .pointer (some ⟨bc, 0, none⟩) := d16
      rw [e16]
      have HMW := Lib.hid hmw
      have hbox' : BoxAt w3 bc [.int .i64 ((d k % (nClk d + 1) : Nat) : Int), .int .i64 ((d (k + 1) % (nDom d) : Nat) : Int), .int .i64 ((d (k + 2) % (nRst d) : Nat) : Int), .int .u32 ((d (k + 3) % 3 : Nat) : Int), .slice none 0 0, .slice none 0 0] := hbox
      have HB3 := Lib.hid hbox'
      have hz3 := hmw.size
      clear hT hb hd d16 d262 e16 hbch hbox hmw hmv3 hrun ec HC hbox'
      obtain ⟨wo, hwo⟩ : ∃ x, x = wr := ⟨_, rfl⟩
      subst hwo
      go_wp2
      refine loop6_any w wa wo w3 d n k bc p2 HLT hk96 hMsz (by omega) hbc HDRr HB3 HMW _ _ ⟨rfl, rfl⟩ rfl rfl rfl rfl rfl rfl rfl ?_
      intro a' w5 vR hF q2 q4 q6 q14 q15 q16 hrowR hneR hbxR hmS
      simp only [Exit.then, Exit.inBlock, ↓reduceIte]
      go_step
      obtain ⟨AR, cR, hvR, hcR, hreg⟩ := rowc_regs hrowR
      obtain ⟨_, _, -, -, hltR⟩ := hrowR.shape
      rw [regsP_len] at hvR hcR
      subst hvR
      have hz5 := hmS.size
      have hbc5 := hbxR.lt
      have hdr5 := HDRr.out.move hmS (by omega) (by simp)
      have hown0 : w5.ownsRow w5.heap.size 3 1 (.slice none 0 0) 0 (iv []) := World.ownsRow_nil _ _ _ _
      refine dev2_any w wa wf wo w5 d n k bc _ _ _ v4 p2 H AR cR HLT HKN hk96 hlt hn4 hMsz hgd hMz hgs hgsf hbc hbc5 hz5 (Lib.hid hdr5) (Lib.hid hmS) (Lib.hid hreg) (Lib.hid hneR) (Lib.hid hltR) hcR HROW HNE HBX HDRr HMb HLT4 HH (Lib.hid hbxR) (Lib.hid hown0) (Lib.hid (Moved.refl [bc] w5)) _ a' hF q2 q4 q6 q14 q15 q16 ?_
      clear hdr5 hmS hreg hneR hltR hbxR hown0 HROW HNE HBX HDRr HMb HLT4 HH HB3 HMW q2 q4 q6 q14 q15 q16 hrowR HKN
      intro a7 w7 v6 hF7 q2 q4 q6 q14 hp7
      have HP7 := Lib.hid hp7
      clear hp7
      simp only [Exit.then, Exit.inBlock]
      obtain ⟨G, rfl⟩ := hF7.open_
      rw [slT_listT (by omega)] at q2 q4 q6 q14
      rw [lit352, q2, q4, q6, q14]
      clear hF7 q2 q4 q6 q14
      go_wp2
      exact HR.out _ _ _ hlt ⟨rfl, rfl⟩ rfl rfl rfl (by go_num) HP7.out
  · have hge : ¬ n < 1 + d 4 % 4 := hlt
    have hnn : n = nDev d := by omega
    have HNN := Lib.hid hnn
    clear hnn hlt4 hv4
    go_wp2
    exact HQ.out _ ⟨rfl, rfl⟩ rfl rfl HNN.out

def I5 (w wa wf : World) (d : Nat → Nat) (H : List Nat) (A1 A2 A3 : Option Addr) (c1 c2 c3 : Nat) (p2 : Value) (a : Act) (wr : World) : Prop :=
  ∃ (n : Nat) (v4 : Value), n ≤ nDev d ∧ Fr a ∧ slT a 2 = p2 ∧ slT a 4 = .slice (some ⟨w.heap.size + 1, 0, none⟩) 120 120 ∧ slT a 6 = .pointer (some ⟨wa.heap.size + 1, 0, none⟩) ∧ slT a 14 = .int .i64 (n : Nat) ∧ P5 wr wf (w.heap.size + 1) (wa.heap.size + 1) d H (.slice A1 (nClk d + 1) c1) (.slice A2 (nDom d) c2) (.slice A3 (nRst d) c3) v4 n
def M5 (d : Nat → Nat) (a : Act) (_ : World) : Nat := nDev d - (intOf (slT a 14)).toNat
theorem loop5_any (w wa wf : World) (d : Nat → Nat) (H : List Nat) (A1 A2 A3 : Option Addr) (c1 c2 c3 : Nat) (p2 : Value) (HLT : Hid (∀ i, d i < 1000000)) (hMsz : w.heap.size + 1 + 1 ≤ wa.heap.size) (hgd : w.heap.size + 1 < wf.heap.size) (hgsf : wa.heap.size + 1 < wf.heap.size)
    (HH : Hid (∀ b, b ∈ H → b < wf.heap.size)) (hc1 : nClk d + 1 ≤ c1) (hc2 : nDom d ≤ c2) (hc3 : nRst d ≤ c3)
    (v4 : Value) (a : Act) (ha : Fr a) (h2 : slT a 2 = p2) (h4 : slT a 4 = .slice (some ⟨w.heap.size + 1, 0, none⟩) 120 120) (h6 : slT a 6 = .pointer (some ⟨wa.heap.size + 1, 0, none⟩)) (h14 : slT a 14 = .int .i64 0) (wi : World) (hp : P5 wi wf (w.heap.size + 1) (wa.heap.size + 1) d H (.slice A1 (nClk d + 1) c1) (.slice A2 (nDom d) c2) (.slice A3 (nRst d) c3) v4 0) (Q : Exit → Act → World → Prop)
    (hQ : ∀ a' wx v6, Fr a' → slT a' 2 = p2 → slT a' 6 = .pointer (some ⟨wa.heap.size + 1, 0, none⟩) → P5 wx wf (w.heap.size + 1) (wa.heap.size + 1) d H (.slice A1 (nClk d + 1) c1) (.slice A2 (nDom d) c2) (.slice A3 (nRst d) c3) v6 (nDev d) → Q (.exit 9) a' wx) :
    Code.wp Try.prog loop5 Q a wi := by
  show Code.wp Try.prog (Code.loop (lpC loop5)) Q a wi
  refine wp_loop (I5 w wa wf d H A1 A2 A3 c1 c2 c3 p2) (M5 d) ⟨0, v4, Nat.zero_le _, ha, h2, h4, h6, h14, hp⟩ ?_
  rintro a1 w1 ⟨n, v, hn, hf, g2, g4, g6, g14, hp1⟩
  refine round5_any w wa wf d H A1 A2 A3 c1 c2 c3 p2 HLT hMsz hgd hgsf HH hc1 hc2 hc3 w1 n v a1 hf g2 g4 g6 g14 hn hp1 _ _ ?_ ?_
  · intro a' wx v6 hlt hF e2 e4 e6 e14 hp6
    refine ⟨⟨n + 1, v6, hlt, hF, e2, e4, e6, e14, hp6⟩, ?_⟩
    unfold M5
    rw [e14, g14]
    simp [intOf]
    omega
  · intro a' hF e2 e6 hnn
    subst hnn
    exact hQ _ _ _ hF e2 e6 hp1

end Go.Proofs.Ytnfbhhgdibkbdaa
