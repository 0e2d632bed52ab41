/- The contract of catnaplaw4.chip, in parts: H2. (Written by wip/tools/h1.py.) -/
import Derived.Test.YtnfbhhgdibkbdaaH5
namespace Go.Proofs.Ytnfbhhgdibkbdaa
set_option linter.unusedSimpArgs false
set_option linter.unusedVariables false
open Go.RowKit Go.Maps

set_option maxRecDepth 1000000 in
set_option maxHeartbeats 8000000 in
theorem loop2_any (L : List Nat) (w wa : World) (hLL : Hid (∀ b, b ∈ w.heap.size :: L → b ≤ w.heap.size)) (d : Nat → Nat) (hltd : ∀ i, d i < 1000000) (hMsz : w.heap.size + 1 + 1 ≤ wa.heap.size) (p2 : Value)
    (Q : Exit → Act → World → Prop) (a : Act) (wi : World) (v0 : Value) (ha : Fr a) (h2 : slT a 2 = p2) (h3 : slT a 3 = .int .i64 1) (h4 : slT a 4 = .slice (some ⟨w.heap.size + 1, 0, none⟩) 120 120) (h6 : slT a 6 = .pointer (some ⟨wa.heap.size + 1, 0, none⟩)) (h7 : slT a 7 = .string { data := #[112, 100, 103, 109, 103] }) (h8 : slT a 8 = .int .i64 0)
    (hph : P2 wi (w.heap.size + 1) (wa.heap.size + 1) wa.heap.size d (w.heap.size :: L) v0 0) (hm0 : Moved [w.heap.size + 1] ((w.alloc (.cells #[.slice none 0 0, .slice none 0 0, .slice none 0 0, .slice none 0 0] 27)).alloc (.cells (madeCells #[.int .i64 0] 120) 3)) wi)
    (hQ : ∀ a' wx v1, Fr a' → slT a' 2 = p2 → slT a' 4 = .slice (some ⟨w.heap.size + 1, 0, none⟩) 120 120 → slT a' 6 = .pointer (some ⟨wa.heap.size + 1, 0, none⟩) → P2 wx (w.heap.size + 1) (wa.heap.size + 1) wa.heap.size d (w.heap.size :: L) v1 (nClk d) → Moved [w.heap.size + 1] ((w.alloc (.cells #[.slice none 0 0, .slice none 0 0, .slice none 0 0, .slice none 0 0] 27)).alloc (.cells (madeCells #[.int .i64 0] 120) 3)) wx → Q (.exit 2) a' wx) :
    Code.wp Try.prog loop2 Q a wi := by
  have HLT := Lib.hid hltd
  have HPH := Lib.hid hph
  have HM0 := Lib.hid hm0
  have HQ := Lib.hid hQ
  clear hltd hph hQ hm0
  obtain ⟨F, rfl⟩ := ha.open_
  rw [slT_listT (by omega)] at h2
  rw [slT_listT (by omega)] at h3
  rw [slT_listT (by omega)] at h4
  rw [slT_listT (by omega)] at h6
  rw [slT_listT (by omega)] at h7
  rw [slT_listT (by omega)] at h8
  rw [lit352, h2, h3, h4, h6, h7, h8]
  clear ha h2 h3 h4 h6 h7 h8
  conv => arg 2; whnf
  go_loopw [8] (fun i wr => ∃ n v1, n ≤ nClk d ∧ i = .int .i64 (n : Nat) ∧ P2 wr (w.heap.size + 1) (wa.heap.size + 1) wa.heap.size d (w.heap.size :: L) v1 n ∧ Moved [w.heap.size + 1] ((w.alloc (.cells #[.slice none 0 0, .slice none 0 0, .slice none 0 0, .slice none 0 0] 27)).alloc (.cells (madeCells #[.int .i64 0] 120) 3)) wr) (fun i _ => nClk d - (intOf i).toNat)
  case atStart => exact ⟨0, _, Nat.zero_le _, rfl, HPH.out, HM0.out⟩
  case round =>
    obtain ⟨n, v1, hn, rfl, ⟨hrow, hne1, hbx, hdr⟩, hM⟩ := hrel
    obtain ⟨A1, c1, hv1, hc1, hlt1⟩ := hrow.shape
    rw [clksP_len] at hv1
    subst hv1
    have hgs := hbx.lt
    have hMz := hM.size
    simp only [World.size_alloc] at hMz
    have c1d := (hdr 1 (by omega)).2
    rw [if_pos (by omega)] at c1d
    have b1 := HLT.out 1
    have hn9 : nClk d ≤ 8 := by unfold nClk; omega
    by_cases hlt : n < nClk d
    · have hlt9 : n < d 1 % 9 := hlt
      obtain ⟨k, hk⟩ : ∃ k, k = 10 + 3 * n := ⟨_, rfl⟩
      have e9 : (10 : Int) + 3 * (n : Int) = (k : Int) := by omega
      have hk34 : k ≤ 34 := by omega
      have HKN := Lib.hid hk
      have hC : ∀ W, wr.grownBy W none → (∀ i, i < 120 → W.cell? ⟨w.heap.size + 1, i, none⟩ = some (.int .i64 (d i : Nat))) ∧ BoxAt W (wa.heap.size + 1) [.slice A1 (n + 1) c1, .slice none 0 0, .slice none 0 0, .slice none 0 0] := fun W hW =>
        ⟨fun i hi => by have := ((hdr.grown hW (by omega) (by simp)) i hi).2; rwa [if_pos hi] at this, hbx.move (Moved.of_grown (hot := []) hW (fun k h => by cases h)) (by simp)⟩
      have HC := Lib.hid hC
      have HROW := Lib.hid hrow
      have HBX := Lib.hid hbx
      have HDRr := Lib.hid hdr
      have HMr := Lib.hid hM
      have HNE1 := Lib.hid hne1
      have HLT1 := Lib.hid hlt1
      clear hk hC hrow hbx hdr hM hne1 hlt1
      go_wp2
      refine region_then [⟨IsV (.string { data := #[112, 100, 103, 109, 103] }), true, false⟩,
        ⟨IsV (.slice (some ⟨w.heap.size + 1, 0, none⟩) 120 120), true, false⟩,
        ⟨IsV (.int .i64 (k : Nat)), true, false⟩,
        ⟨IsV (.pointer (some ⟨w.heap.size + 1, k, none⟩)), true, false⟩,
        ⟨IsV (.int .i64 ((d k : Nat) : Int)), true, false⟩,
        ⟨IsV (.int .i64 ((d k % 5 : Nat) : Int)), true, false⟩,
        ⟨IsV (.int .u8 (kindP (d k % 5))), true, false⟩,
        ⟨IsV (.slice (some ⟨w.heap.size + 1, 0, none⟩) 120 120), true, false⟩,
        ⟨IsV (.int .i64 (k : Nat)), true, false⟩,
        ⟨IsV (.int .i64 ((k + 1 : Nat) : Int)), true, false⟩,
        ⟨IsV (.pointer (some ⟨w.heap.size + 1, k + 1, none⟩)), true, false⟩,
        ⟨IsV (.int .i64 ((d (k + 1) : Nat) : Int)), true, false⟩,
        ⟨IsV (.pointer (some ⟨wa.heap.size + 1, 0, none⟩)), true, false⟩,
        ⟨IsV (.slice A1 (n + 1) c1), true, false⟩,
        ⟨IsV (.int .i64 ((n + 1 : Nat) : Int)), true, false⟩,
        ⟨IsV (.int .i64 ((d (k + 1) % (n + 1) : Nat) : Int)), true, false⟩,
        ⟨IsBlk (wr.heap.size) (mkRow 1) [.int .i64 ((d (k + 1) % (n + 1) : Nat) : Int)] 3, false, false⟩,
        ⟨IsBlk (wr.heap.size) (fun b => .agg #[.int .u8 (kindP (d k % 5)), mkRow 1 b, .int .u64 0, .int .i64 0, .int .i64 0, .int .i64 0]) [.int .i64 ((d (k + 1) % (n + 1) : Nat) : Int)] 3, true, false⟩,
        ⟨IsBlk (wr.heap.size) mkPtr [.int .u8 0, .slice none 0 0, .int .u64 0, .int .i64 0, .int .i64 0, .int .i64 0] 46, false, false⟩] none 352 (by kernel_rfl) rfl (by kernel_rfl) ⟨fun _ => stbR_V _ _, fun _ => stbR_V _ _, fun _ => stbR_V _ _, fun _ => stbR_V _ _, fun _ => stbR_V _ _, fun _ => stbR_V _ _, fun _ => stbR_V _ _, fun _ => stbR_V _ _, fun _ => stbR_V _ _, fun _ => stbR_V _ _, fun _ => stbR_V _ _, fun _ => stbR_V _ _, fun _ => stbR_V _ _, fun _ => stbR_V _ _, fun _ => stbR_V _ _, fun _ => stbR_V _ _, fun _ => stbR_blk (by simp), fun _ => stbR_blk (by simp), fun _ => stbR_blk (by simp), trivial⟩ ⟨?s0, ?s1, ?s2, ?s3, ?s4, ?s5, ?s6, ?s7, ?s8, ?s9, ?s10, ?s11, ?s12, ?s13, ?s14, ?s15, ?s16, ?s17, ?s18, trivial⟩ ?fin
      case s0 =>
        refine ⟨rfl, fun T w1 hT hb ha0 hd => ?_⟩
        have ec := evT_const T
        have ef := evT_func T
        have d7 : evT T (.tmp 7) = .string { data := #[112, 100, 103, 109, 103] } := hT 7 (by kernel_rfl)
        exact gr_pure (ar_move d7) rfl
      case s1 =>
        refine ⟨rfl, fun T w1 hT hb ha0 hd => ?_⟩
        have ec := evT_const T
        have ef := evT_func T
        have d4 : evT T (.tmp 4) = .slice (some ⟨w.heap.size + 1, 0, none⟩) 120 120 := hT 4 (by kernel_rfl)
        exact gr_pure (ar_move d4) rfl
      case s2 =>
        refine ⟨rfl, fun T w1 hT hb ha0 hd => ?_⟩
        have ec := evT_const T
        have ef := evT_func T
        have d9 : evT T (.tmp 9) = .int .i64 (k : Nat) := hT 9 (by kernel_rfl)
        exact gr_pure (ar_move d9) rfl
      case s3 =>
        refine ⟨rfl, fun T w1 hT hb ha0 hd => ?_⟩
        have ec := evT_const T
        have ef := evT_func T
        have d68 : evT T (.tmp 68) = .slice (some ⟨w.heap.size + 1, 0, none⟩) 120 120 := (by first | exact hd.1 | exact hd.2.1 | exact hd.2.2.1 | exact hd.2.2.2.1 | exact hd.2.2.2.2.1 | exact hd.2.2.2.2.2.1 | exact hd.2.2.2.2.2.2.1 | exact hd.2.2.2.2.2.2.2.1)
        have d69 : evT T (.tmp 69) = .int .i64 (k : Nat) := (by first | exact hd.1 | exact hd.2.1 | exact hd.2.2.1 | exact hd.2.2.2.1 | exact hd.2.2.2.2.1 | exact hd.2.2.2.2.2.1 | exact hd.2.2.2.2.2.2.1 | exact hd.2.2.2.2.2.2.2.1)
        have g1 : (k : Int) < 120 := by omega
        clear hT hd hb ha0
        refine gr_pure (v := .pointer (some ⟨w.heap.size + 1, k, none⟩)) ?_ rfl
        simp only [execOp]
        go_simp
      case s4 =>
        refine ⟨rfl, fun T w1 hT hb ha0 hd => ?_⟩
        have ec := evT_const T
        have ef := evT_func T
        have d70 : evT T (.tmp 70) = .pointer (some ⟨w.heap.size + 1, k, none⟩) := (by first | exact hd.1 | exact hd.2.1 | exact hd.2.2.1 | exact hd.2.2.2.1 | exact hd.2.2.2.2.1 | exact hd.2.2.2.2.2.1 | exact hd.2.2.2.2.2.2.1 | exact hd.2.2.2.2.2.2.2.1)
        have f0 := (HC.out w1 hb).1 k (by omega)
        clear hT hd hb ha0
        refine gr_pure (v := .int .i64 ((d k : Nat) : Int)) ?_ rfl
        simp only [execOp]
        go_simp
      case s5 =>
        refine ⟨rfl, fun T w1 hT hb ha0 hd => ?_⟩
        have ec := evT_const T
        have ef := evT_func T
        have d71 : evT T (.tmp 71) = .int .i64 ((d k : Nat) : Int) := (by first | exact hd.1 | exact hd.2.1 | exact hd.2.2.1 | exact hd.2.2.2.1 | exact hd.2.2.2.2.1 | exact hd.2.2.2.2.2.1 | exact hd.2.2.2.2.2.2.1 | exact hd.2.2.2.2.2.2.2.1)
        exact gr_pure (ar_rem (b := 5) d71 (ec _) (by have := HLT.out k; omega) (by omega)) (rfl)
      case s6 =>
        refine ⟨rfl, fun T w1 hT hb ha0 hd => ?_⟩
        have ec := evT_const T
        have ef := evT_func T
        have d67 : evT T (.tmp 67) = .string { data := #[112, 100, 103, 109, 103] } := (by first | exact hd.1 | exact hd.2.1 | exact hd.2.2.1 | exact hd.2.2.2.1 | exact hd.2.2.2.2.1 | exact hd.2.2.2.2.2.1 | exact hd.2.2.2.2.2.2.1 | exact hd.2.2.2.2.2.2.2.1)
        have d72 : evT T (.tmp 72) = .int .i64 ((d k % 5 : Nat) : Int) := (by first | exact hd.1 | exact hd.2.1 | exact hd.2.2.1 | exact hd.2.2.2.1 | exact hd.2.2.2.2.1 | exact hd.2.2.2.2.2.1 | exact hd.2.2.2.2.2.2.1 | exact hd.2.2.2.2.2.2.2.1)
        have hj : d k % 5 < 5 := Nat.mod_lt _ (by omega)
        clear hT hd hb ha0
        refine gr_pure (v := .int .u8 (kindP (d k % 5))) ?_ rfl
        generalize d k % 5 = j at d72 hj ⊢
        rcases j with _ | _ | _ | _ | _ | j
        all_goals first | omega | (simp only [execOp]; go_simp; done) | (simp only [execOp]; go_simp; rfl)
      case s7 =>
        refine ⟨rfl, fun T w1 hT hb ha0 hd => ?_⟩
        have ec := evT_const T
        have ef := evT_func T
        have d4 : evT T (.tmp 4) = .slice (some ⟨w.heap.size + 1, 0, none⟩) 120 120 := hT 4 (by kernel_rfl)
        exact gr_pure (ar_move d4) rfl
      case s8 =>
        refine ⟨rfl, fun T w1 hT hb ha0 hd => ?_⟩
        have ec := evT_const T
        have ef := evT_func T
        have d9 : evT T (.tmp 9) = .int .i64 (k : Nat) := hT 9 (by kernel_rfl)
        exact gr_pure (ar_move d9) rfl
      case s9 =>
        refine ⟨rfl, fun T w1 hT hb ha0 hd => ?_⟩
        have ec := evT_const T
        have ef := evT_func T
        have d75 : evT T (.tmp 75) = .int .i64 (k : Nat) := (by first | exact hd.1 | exact hd.2.1 | exact hd.2.2.1 | exact hd.2.2.2.1 | exact hd.2.2.2.2.1 | exact hd.2.2.2.2.2.1 | exact hd.2.2.2.2.2.2.1 | exact hd.2.2.2.2.2.2.2.1)
        exact gr_pure (ar_add (b := 1) d75 (ec _) (by omega)) (rfl)
      case s10 =>
        refine ⟨rfl, fun T w1 hT hb ha0 hd => ?_⟩
        have ec := evT_const T
        have ef := evT_func T
        have d74 : evT T (.tmp 74) = .slice (some ⟨w.heap.size + 1, 0, none⟩) 120 120 := (by first | exact hd.1 | exact hd.2.1 | exact hd.2.2.1 | exact hd.2.2.2.1 | exact hd.2.2.2.2.1 | exact hd.2.2.2.2.2.1 | exact hd.2.2.2.2.2.2.1 | exact hd.2.2.2.2.2.2.2.1)
        have d76 : evT T (.tmp 76) = .int .i64 ((k + 1 : Nat) : Int) := (by first | exact hd.1 | exact hd.2.1 | exact hd.2.2.1 | exact hd.2.2.2.1 | exact hd.2.2.2.2.1 | exact hd.2.2.2.2.2.1 | exact hd.2.2.2.2.2.2.1 | exact hd.2.2.2.2.2.2.2.1)
        have g0 : (0 : Int) ≤ (k : Int) + 1 := by omega
        have g1 : (k : Int) + 1 < 120 := by omega
        have g2 : ((k : Int) + 1).toNat = k + 1 := by omega
        clear hT hd hb ha0
        refine gr_pure (v := .pointer (some ⟨w.heap.size + 1, k + 1, none⟩)) ?_ rfl
        simp only [execOp]
        go_simp
      case s11 =>
        refine ⟨rfl, fun T w1 hT hb ha0 hd => ?_⟩
        have ec := evT_const T
        have ef := evT_func T
        have d77 : evT T (.tmp 77) = .pointer (some ⟨w.heap.size + 1, k + 1, none⟩) := (by first | exact hd.1 | exact hd.2.1 | exact hd.2.2.1 | exact hd.2.2.2.1 | exact hd.2.2.2.2.1 | exact hd.2.2.2.2.2.1 | exact hd.2.2.2.2.2.2.1 | exact hd.2.2.2.2.2.2.2.1)
        have f0 := (HC.out w1 hb).1 (k + 1) (by omega)
        clear hT hd hb ha0
        refine gr_pure (v := .int .i64 ((d (k + 1) : Nat) : Int)) ?_ rfl
        simp only [execOp]
        go_simp
      case s12 =>
        refine ⟨rfl, fun T w1 hT hb ha0 hd => ?_⟩
        have ec := evT_const T
        have ef := evT_func T
        have d6 : evT T (.tmp 6) = .pointer (some ⟨wa.heap.size + 1, 0, none⟩) := hT 6 (by kernel_rfl)
        clear hT hd hb ha0
        refine gr_pure (v := .pointer (some ⟨wa.heap.size + 1, 0, none⟩)) ?_ rfl
        simp only [execOp]
        go_simp
      case s13 =>
        refine ⟨rfl, fun T w1 hT hb ha0 hd => ?_⟩
        have ec := evT_const T
        have ef := evT_func T
        have d79 : evT T (.tmp 79) = .pointer (some ⟨wa.heap.size + 1, 0, none⟩) := (by first | exact hd.1 | exact hd.2.1 | exact hd.2.2.1 | exact hd.2.2.2.1 | exact hd.2.2.2.2.1 | exact hd.2.2.2.2.2.1 | exact hd.2.2.2.2.2.2.1 | exact hd.2.2.2.2.2.2.2.1)
        have f0 := ((HC.out w1 hb).2 0 _ rfl).1
        clear hT hd hb ha0
        refine gr_pure (v := .slice A1 (n + 1) c1) ?_ rfl
        simp only [execOp]
        go_simp
      case s14 =>
        refine ⟨rfl, fun T w1 hT hb ha0 hd => ?_⟩
        have ec := evT_const T
        have ef := evT_func T
        have d80 : evT T (.tmp 80) = .slice A1 (n + 1) c1 := (by first | exact hd.1 | exact hd.2.1 | exact hd.2.2.1 | exact hd.2.2.2.1 | exact hd.2.2.2.2.1 | exact hd.2.2.2.2.2.1 | exact hd.2.2.2.2.2.2.1 | exact hd.2.2.2.2.2.2.2.1)
        clear hT hd hb ha0
        refine gr_pure (v := .int .i64 ((n + 1 : Nat) : Int)) ?_ rfl
        simp only [execOp]
        go_simp
      case s15 =>
        refine ⟨rfl, fun T w1 hT hb ha0 hd => ?_⟩
        have ec := evT_const T
        have ef := evT_func T
        have d78 : evT T (.tmp 78) = .int .i64 ((d (k + 1) : Nat) : Int) := (by first | exact hd.1 | exact hd.2.1 | exact hd.2.2.1 | exact hd.2.2.2.1 | exact hd.2.2.2.2.1 | exact hd.2.2.2.2.2.1 | exact hd.2.2.2.2.2.2.1 | exact hd.2.2.2.2.2.2.2.1)
        have d81 : evT T (.tmp 81) = .int .i64 ((n + 1 : Nat) : Int) := (by first | exact hd.1 | exact hd.2.1 | exact hd.2.2.1 | exact hd.2.2.2.1 | exact hd.2.2.2.2.1 | exact hd.2.2.2.2.2.1 | exact hd.2.2.2.2.2.2.1 | exact hd.2.2.2.2.2.2.2.1)
        exact gr_pure (ar_rem d78 d81 (by have := HLT.out (k + 1); omega) (by omega)) (rfl)
      case s16 =>
        refine ⟨rfl, fun T w1 hT hb ha0 hd => ?_⟩
        have ec := evT_const T
        have ef := evT_func T
        have d82 : evT T (.tmp 82) = .int .i64 ((d (k + 1) % (n + 1) : Nat) : Int) := (by first | exact hd.1 | exact hd.2.1 | exact hd.2.2.1 | exact hd.2.2.2.1 | exact hd.2.2.2.2.1 | exact hd.2.2.2.2.2.1 | exact hd.2.2.2.2.2.2.1 | exact hd.2.2.2.2.2.2.2.1)
        have hz := hb.size
        refine gr_made (v := mkRow 1 w1.heap.size) (w' := w1.alloc (.cells [.int .i64 ((d (k + 1) % (n + 1) : Nat) : Int)].toArray 3)) ?_ (World.grownBy_alloc _ _ _) (show IsBlk (wr.heap.size) (mkRow 1) [.int .i64 ((d (k + 1) % (n + 1) : Nat) : Int)] 3 (mkRow 1 w1.heap.size) _ from isBlk_new hz)
        clear hT hd hb ha0
        simp only [execOp, mkRow]
        go_simp
      case s17 =>
        refine ⟨rfl, fun T w1 hT hb ha0 hd => ?_⟩
        have ec := evT_const T
        have ef := evT_func T
        have d73 : evT T (.tmp 73) = .int .u8 (kindP (d k % 5)) := (by first | exact hd.1 | exact hd.2.1 | exact hd.2.2.1 | exact hd.2.2.2.1 | exact hd.2.2.2.2.1 | exact hd.2.2.2.2.2.1 | exact hd.2.2.2.2.2.2.1 | exact hd.2.2.2.2.2.2.2.1)
        obtain ⟨b, d83, hbb, hbh⟩ : IsBlk (wr.heap.size) (mkRow 1) [.int .i64 ((d (k + 1) % (n + 1) : Nat) : Int)] 3 (evT T (.tmp 83)) w1 := (by first | exact hd.1 | exact hd.2.1 | exact hd.2.2.1 | exact hd.2.2.2.1 | exact hd.2.2.2.2.1 | exact hd.2.2.2.2.2.1 | exact hd.2.2.2.2.2.2.1 | exact hd.2.2.2.2.2.2.2.1)
        refine gr_pure ?_ ⟨b, rfl, hbb, hbh⟩
        clear hT hd hb hbb hbh
        simp only [mkRow] at d83 ⊢
        simp only [execOp]
        go_simp
      case s18 =>
        refine ⟨rfl, fun T w1 hT hb ha0 hd => ?_⟩
        have ec := evT_const T
        have ef := evT_func T
        have hz := hb.size
        refine gr_made (v := mkPtr w1.heap.size) (w' := w1.alloc (.cells [.int .u8 0, .slice none 0 0, .int .u64 0, .int .i64 0, .int .i64 0, .int .i64 0].toArray 46)) ?_ (World.grownBy_alloc _ _ _) (show IsBlk (wr.heap.size) mkPtr [.int .u8 0, .slice none 0 0, .int .u64 0, .int .i64 0, .int .i64 0, .int .i64 0] 46 (mkPtr w1.heap.size) _ from isBlk_new hz)
        clear hT hd hb ha0
        simp only [execOp, mkPtr]
        go_simp
      case fin =>
        intro T w1 o ho hT hb hd
        obtain rfl : _ = o := Option.some.inj ho
        clear ho
        have ec := evT_const T
        simp only [putL, Act.put, Option.getD_some, List.setIfInBounds_toArray, List.set_cons_zero, List.set_cons_succ]
        obtain ⟨bc, d10, hbc, hbch⟩ : IsBlk (wr.heap.size) mkPtr [.int .u8 0, .slice none 0 0, .int .u64 0, .int .i64 0, .int .i64 0, .int .i64 0] 46 (evT T (.tmp 10)) w1 := hd.2.2.2.2.2.2.2.2.2.2.2.2.2.2.2.2.2.2.1
        obtain ⟨bf, d84, hbf, hbfh⟩ : IsBlk (wr.heap.size) (fun b => .agg #[.int .u8 (kindP (d k % 5)), mkRow 1 b, .int .u64 0, .int .i64 0, .int .i64 0, .int .i64 0]) [.int .i64 ((d (k + 1) % (n + 1) : Nat) : Int)] 3 (evT T (.tmp 84)) w1 := hd.2.2.2.2.2.2.2.2.2.2.2.2.2.2.2.2.2.1
        have hne : bf ≠ bc := by
          rintro rfl
          rw [hbch] at hbfh
          simp at hbfh
        obtain ⟨w3, hrun, hbox, hmv3⟩ := store49 d10 d84 (BoxAt.of_blk hbch)
        refine ⟨undef, w3, .inr (hrun _ _ _), ?_⟩
        have hbf3 : w3.heap[bf]? = some (.cells [.int .i64 ((d (k + 1) % (n + 1) : Nat) : Int)].toArray 3 (0, 0)) := (hmv3.block bf (by
          rcases Nat.lt_or_ge bf w1.heap.size with h | h
          · exact h
          · rw [Array.getElem?_eq_none h] at hbfh; cases hbfh) (by simpa using hne)).trans hbfh
        have hmw : Moved [] wr w3 := (Moved.of_grown hb (fun k h => by cases h)).trans' hmv3 (fun k hk => .inr (by have := List.mem_singleton.1 hk; omega))
        have e10 : T 10 = .pointer (some ⟨bc, 0, none⟩) := d10
        rw [e10]
        have HBF := Lib.hid hbf3
        have HBOX := Lib.hid hbox
        have HMW := Lib.hid hmw
        clear hT hb hd d10 d84 e10 hbch hbfh hbf3 hbox hmw hmv3 hrun ec HC
        obtain ⟨kd, hkd⟩ : ∃ kd, kd = kindP (d k % 5) := ⟨_, rfl⟩
        have hbox := HBOX.out
        rw [← hkd] at hbox
        have HKD := Lib.hid hkd
        clear hkd
        have hdr3 := HDRr.out.move HMW.out (by omega) (by simp)
        have dk2 := (hdr3 (k + 2) (by omega)).2
        rw [if_pos (by omega)] at dk2
        have b2 := HLT.out (k + 2)
        have hbx3 := HBX.out.move HMW.out (by simp)
        obtain ⟨x0, y0⟩ := hbx3 0 _ rfl
        obtain ⟨z0, y1⟩ := hbox 0 _ rfl
        obtain ⟨z1, y2⟩ := hbox 1 _ rfl
        obtain ⟨z2, y3⟩ := hbox 2 _ rfl
        obtain ⟨z3, y4⟩ := hbox 3 _ rfl
        obtain ⟨z4, y5⟩ := hbox 4 _ rfl
        obtain ⟨z5, y6⟩ := hbox 5 _ rfl
        have HBOX3 := Lib.hid hbox
        have HBX3 := Lib.hid hbx3
        have HDR3 := Lib.hid hdr3
        have i1 : w.heap.size + 1 ≠ bc := by omega
        have i2 : wa.heap.size + 1 ≠ bc := by omega
        have i3 : bc ≠ w.heap.size + 1 := by omega
        have i4 : bc ≠ wa.heap.size + 1 := by omega
        have g0 : (0 : Int) ≤ (k : Int) + 2 := by omega
        have g1' : (k : Int) + 2 < 120 := by omega
        have g2 : ((k : Int) + 2).toNat = k + 2 := by omega
        have i5 := hne
        have hz3 := HMW.out.size
        have i6 : bc ≠ bf := Ne.symm hne
        clear hbox hbx3 hdr3 HBOX hne
        by_cases k112 : kd = 112
        · subst k112
          have hcl : clkP d n = ⟨112, [((d (k + 1) % (n + 1) : Nat) : Int)], 0, 1 + (d (k + 2) : Int) % 8, 1 + (d (k + 2) : Int) / 8 % 4, (d (k + 2) : Int) / 32 % 4⟩ := by
            unfold clkP
            simp only [← HKN.out, ← HKD.out]
            simp [Int.add_comm]
          have hW4 : Moved [] wr (((w3.setCell ⟨bc, 3, none⟩ (.int .i64 (1 + (d (k + 2) : Int) % 8))).setCell ⟨bc, 4, none⟩ (.int .i64 (1 + (d (k + 2) : Int) / 8 % 4))).setCell ⟨bc, 5, none⟩ (.int .i64 ((d (k + 2) : Int) / 32 % 4))) := HMW.out.trans' ((((Moved.refl [bc] w3).trans (Moved.setCell _ (by simp) _)).trans (Moved.setCell _ (by simp) _)).trans (Moved.setCell _ (by simp) _)) (fun j hj => .inr (by have := List.mem_singleton.1 hj; omega))
          have hW5 : Moved [] wr ((((w3.setCell ⟨bc, 3, none⟩ (.int .i64 (1 + (d (k + 2) : Int) % 8))).setCell ⟨bc, 4, none⟩ (.int .i64 (1 + (d (k + 2) : Int) / 8 % 4))).setCell ⟨bc, 5, none⟩ (.int .i64 ((d (k + 2) : Int) / 32 % 4))).alloc (.cells [.int .u8 112, .slice (some ⟨bf, 0, none⟩) 1 1, .int .u64 0, .int .i64 (1 + (d (k + 2) : Int) % 8), .int .i64 (1 + (d (k + 2) : Int) / 8 % 4), .int .i64 ((d (k + 2) : Int) / 32 % 4)].toArray 46)) := hW4.trans (Moved.alloc _ _)
          have hcell : (((w3.setCell ⟨bc, 3, none⟩ (.int .i64 (1 + (d (k + 2) : Int) % 8))).setCell ⟨bc, 4, none⟩ (.int .i64 (1 + (d (k + 2) : Int) / 8 % 4))).setCell ⟨bc, 5, none⟩ (.int .i64 ((d (k + 2) : Int) / 32 % 4))).heap[bf]? = some (.cells [.int .i64 ((d (k + 1) % (n + 1) : Nat) : Int)].toArray 3 (0, 0)) := (((((Moved.refl [bc] w3).trans (Moved.setCell _ (by simp) _)).trans (Moved.setCell _ (by simp) _)).trans (Moved.setCell _ (by simp) _)).block bf (blk_lt HBF.out) (by simpa using i5)).trans HBF.out
          have hx : ClkC ((wa.heap.size + 1) :: (Value.slice A1 (n + 1) c1).ownBlock.toList ++ (w.heap.size :: L)) ((((w3.setCell ⟨bc, 3, none⟩ (.int .i64 (1 + (d (k + 2) : Int) % 8))).setCell ⟨bc, 4, none⟩ (.int .i64 (1 + (d (k + 2) : Int) / 8 % 4))).setCell ⟨bc, 5, none⟩ (.int .i64 ((d (k + 2) : Int) / 32 % 4))).alloc (.cells [.int .u8 112, .slice (some ⟨bf, 0, none⟩) 1 1, .int .u64 0, .int .i64 (1 + (d (k + 2) : Int) % 8), .int .i64 (1 + (d (k + 2) : Int) / 8 % 4), .int .i64 ((d (k + 2) : Int) / 32 % 4)].toArray 46)) (clkP d n) [.int .u8 112, .slice (some ⟨bf, 0, none⟩) 1 1, .int .u64 0, .int .i64 (1 + (d (k + 2) : Int) % 8), .int .i64 (1 + (d (k + 2) : Int) / 8 % 4), .int .i64 ((d (k + 2) : Int) / 32 % 4)] := by
            refine ⟨some ⟨bf, 0, none⟩, 1, by rw [hcl]; simp, by rw [hcl]; simp, ?_⟩
            rw [hcl]
            exact ints_blk hcell _ _ (fun hm => by
              rcases List.mem_append.1 hm with hm | hm
              · rcases List.mem_cons.1 hm with e | e
                · omega
                · have := (HLT1.out bf (by simpa using e)).2
                  omega
              · have := hLL.out _ hm
                omega)
          obtain ⟨vss, hown, hstep⟩ := row_stepH HROW.out hgs HNE1.out hW5 hx rfl
          rw [clksP_len] at hown hstep
          have HOWN := Lib.hid hown
          have HSTEP := Lib.hid hstep
          have HW5 := Lib.hid hW5
          clear hcl hW4 hW5 hcell hx hown hstep HBF
          obtain ⟨i49, hi, hz0, hz1, hz2⟩ := info_parts Try.info46
          go_wp2_with (at_builtin; refine wpList_append_own_at _ rfl _ _ 22 rfl wa.heap.size 46 i49 (.agg #[.int .u8 0, .slice none 0 0, .int .u64 0, .int .i64 0, .int .i64 0, .int .i64 0]) 6 64 Try.underlying22 hi hz0 hz1 hz2 rfl (by decide) _ _ _ rfl HOWN.out ⟨w3.heap.size, 0, none⟩ 1 1 [.int .u8 112, .slice (some ⟨bf, 0, none⟩) 1 1, .int .u64 0, .int .i64 (1 + (d (k + 2) : Int) % 8), .int .i64 (1 + (d (k + 2) : Int) / 8 % 4), .int .i64 ((d (k + 2) : Int) / 32 % 4)] rfl rfl (cells_new (((w3.setCell ⟨bc, 3, none⟩ (.int .i64 (1 + (d (k + 2) : Int) % 8))).setCell ⟨bc, 4, none⟩ (.int .i64 (1 + (d (k + 2) : Int) / 8 % 4))).setCell ⟨bc, 5, none⟩ (.int .i64 ((d (k + 2) : Int) / 32 % 4))) w3.heap.size (by simp [size_setCell]) _ 46) (by intro u hu; simp at hu; rcases hu with rfl | rfl | rfl | rfl | rfl | rfl <;> rfl) (by unfold maxLen; omega) (by omega) (by simp [size_setCell]; omega) ?_; intro v6 w6 hown6 hg6 _ hob6; obtain ⟨A6, c6, rfl⟩ := own_shape' hown6; obtain ⟨hne6, hmv6, hfin⟩ := HSTEP.out _ _ hown6 hg6 hob6; have hbx6 := (HBX.out.move HW5.out (by simp)).move (Moved.of_grown (hot := (Value.slice A1 (n + 1) c1).ownBlock.toList) (row := (Value.slice A1 (n + 1) c1).ownBlock) hg6 (by simp)) (by simpa using HNE1.out); obtain ⟨q0, q1⟩ := hbx6 0 _ rfl; have HBX6 := Lib.hid hbx6; have HFIN := Lib.hid (hfin 0 (.slice A6 (n + 1 + 1) c6)); have HNE6 := Lib.hid hne6; clear hown6 hg6 hob6 hmv6 hfin hbx6 hne6)
          go_roundw
          case measure => simp [intOf]; omega
          case rel =>
            refine ⟨n + 1, _, by omega, by go_num, ⟨?_, HNE6.out, HBX6.out.set (by simp) _, HDRr.out.move HFIN.out.2 (by omega) ?_⟩, HMr.out.trans' HFIN.out.2 ?_⟩
            · have := HFIN.out.1
              rwa [← range_clks] at this
            · intro hm
              rcases List.mem_cons.1 hm with e | e
              · omega
              · have := (HLT1.out (w.heap.size + 1) (by simpa using e)).1
                omega
            · intro j hj
              rcases List.mem_cons.1 hj with e | e
              · exact .inr (by simp only [World.size_alloc]; omega)
              · exact .inr (by have := (HLT1.out j (by simpa using e)).1; simp only [World.size_alloc]; omega)
        have e112 : (kd == 112) = false := by simpa using k112
        by_cases k100 : kd = 100
        · subst k100
          clear k112
          have hcl : clkP d n = ⟨100, [((d (k + 1) % (n + 1) : Nat) : Int)], 0, 0, 1 + (d (k + 2) : Int) % 8, 0⟩ := by
            unfold clkP
            simp only [← HKN.out, ← HKD.out]
            simp [Int.add_comm]
          have hW4 : Moved [] wr (w3.setCell ⟨bc, 4, none⟩ (.int .i64 (1 + (d (k + 2) : Int) % 8))) := HMW.out.trans' ((Moved.refl [bc] w3).trans (Moved.setCell _ (by simp) _)) (fun j hj => .inr (by have := List.mem_singleton.1 hj; omega))
          have hW5 : Moved [] wr ((w3.setCell ⟨bc, 4, none⟩ (.int .i64 (1 + (d (k + 2) : Int) % 8))).alloc (.cells [.int .u8 100, .slice (some ⟨bf, 0, none⟩) 1 1, .int .u64 0, .int .i64 (0), .int .i64 (1 + (d (k + 2) : Int) % 8), .int .i64 (0)].toArray 46)) := hW4.trans (Moved.alloc _ _)
          have hcell : (w3.setCell ⟨bc, 4, none⟩ (.int .i64 (1 + (d (k + 2) : Int) % 8))).heap[bf]? = some (.cells [.int .i64 ((d (k + 1) % (n + 1) : Nat) : Int)].toArray 3 (0, 0)) := (((Moved.refl [bc] w3).trans (Moved.setCell _ (by simp) _)).block bf (blk_lt HBF.out) (by simpa using i5)).trans HBF.out
          have hx : ClkC ((wa.heap.size + 1) :: (Value.slice A1 (n + 1) c1).ownBlock.toList ++ (w.heap.size :: L)) ((w3.setCell ⟨bc, 4, none⟩ (.int .i64 (1 + (d (k + 2) : Int) % 8))).alloc (.cells [.int .u8 100, .slice (some ⟨bf, 0, none⟩) 1 1, .int .u64 0, .int .i64 (0), .int .i64 (1 + (d (k + 2) : Int) % 8), .int .i64 (0)].toArray 46)) (clkP d n) [.int .u8 100, .slice (some ⟨bf, 0, none⟩) 1 1, .int .u64 0, .int .i64 (0), .int .i64 (1 + (d (k + 2) : Int) % 8), .int .i64 (0)] := by
            refine ⟨some ⟨bf, 0, none⟩, 1, by rw [hcl]; simp, by rw [hcl]; simp, ?_⟩
            rw [hcl]
            exact ints_blk hcell _ _ (fun hm => by
              rcases List.mem_append.1 hm with hm | hm
              · rcases List.mem_cons.1 hm with e | e
                · omega
                · have := (HLT1.out bf (by simpa using e)).2
                  omega
              · have := hLL.out _ hm
                omega)
          obtain ⟨vss, hown, hstep⟩ := row_stepH HROW.out hgs HNE1.out hW5 hx rfl
          rw [clksP_len] at hown hstep
          have HOWN := Lib.hid hown
          have HSTEP := Lib.hid hstep
          have HW5 := Lib.hid hW5
          clear hcl hW4 hW5 hcell hx hown hstep HBF
          obtain ⟨i49, hi, hz0, hz1, hz2⟩ := info_parts Try.info46
          go_wp2_with (at_builtin; refine wpList_append_own_at _ rfl _ _ 22 rfl wa.heap.size 46 i49 (.agg #[.int .u8 0, .slice none 0 0, .int .u64 0, .int .i64 0, .int .i64 0, .int .i64 0]) 6 64 Try.underlying22 hi hz0 hz1 hz2 rfl (by decide) _ _ _ rfl HOWN.out ⟨w3.heap.size, 0, none⟩ 1 1 [.int .u8 100, .slice (some ⟨bf, 0, none⟩) 1 1, .int .u64 0, .int .i64 (0), .int .i64 (1 + (d (k + 2) : Int) % 8), .int .i64 (0)] rfl rfl (cells_new (w3.setCell ⟨bc, 4, none⟩ (.int .i64 (1 + (d (k + 2) : Int) % 8))) w3.heap.size (by simp [size_setCell]) _ 46) (by intro u hu; simp at hu; rcases hu with rfl | rfl | rfl | rfl | rfl | rfl <;> rfl) (by unfold maxLen; omega) (by omega) (by simp [size_setCell]; omega) ?_; intro v6 w6 hown6 hg6 _ hob6; obtain ⟨A6, c6, rfl⟩ := own_shape' hown6; obtain ⟨hne6, hmv6, hfin⟩ := HSTEP.out _ _ hown6 hg6 hob6; have hbx6 := (HBX.out.move HW5.out (by simp)).move (Moved.of_grown (hot := (Value.slice A1 (n + 1) c1).ownBlock.toList) (row := (Value.slice A1 (n + 1) c1).ownBlock) hg6 (by simp)) (by simpa using HNE1.out); obtain ⟨q0, q1⟩ := hbx6 0 _ rfl; have HBX6 := Lib.hid hbx6; have HFIN := Lib.hid (hfin 0 (.slice A6 (n + 1 + 1) c6)); have HNE6 := Lib.hid hne6; clear hown6 hg6 hob6 hmv6 hfin hbx6 hne6)
          go_roundw
          case measure => simp [intOf]; omega
          case rel =>
            refine ⟨n + 1, _, by omega, by go_num, ⟨?_, HNE6.out, HBX6.out.set (by simp) _, HDRr.out.move HFIN.out.2 (by omega) ?_⟩, HMr.out.trans' HFIN.out.2 ?_⟩
            · have := HFIN.out.1
              rwa [← range_clks] at this
            · intro hm
              rcases List.mem_cons.1 hm with e | e
              · omega
              · have := (HLT1.out (w.heap.size + 1) (by simpa using e)).1
                omega
            · intro j hj
              rcases List.mem_cons.1 hj with e | e
              · exact .inr (by simp only [World.size_alloc]; omega)
              · exact .inr (by have := (HLT1.out j (by simpa using e)).1; simp only [World.size_alloc]; omega)
        have e100 : (kd == 100) = false := by simpa using k100
        by_cases k109 : kd = 109
        · subst k109
          clear k112 k100
          have hC3 : ∀ W, w3.grownBy W (some bf) → (∀ i, i < 120 → W.cell? ⟨w.heap.size + 1, i, none⟩ = some (.int .i64 (d i : Nat))) ∧ BoxAt W bc [.int .u8 109, .slice (some ⟨bf, 0, none⟩) 1 1, .int .u64 0, .int .i64 0, .int .i64 0, .int .i64 0] ∧ BoxAt W (wa.heap.size + 1) [.slice A1 (n + 1) c1, .slice none 0 0, .slice none 0 0, .slice none 0 0] := fun W hW =>
            ⟨fun i hi => by have := ((HDR3.out.grown hW (by omega) (by intro e; injection e with e; omega)) i hi).2; rwa [if_pos hi] at this, HBOX3.out.move (Moved.of_grown (hot := [bf]) hW (by intro k hk; injection hk with hk; simp [hk])) (by simpa using i6), HBX3.out.move (Moved.of_grown (hot := [bf]) hW (by intro k hk; injection hk with hk; simp [hk])) (by simp; omega)⟩
          have HC3 := Lib.hid hC3
          have hbl := blk_lt HBF.out
          clear hC3
          go_wp2
          refine region_then [⟨IsV (.pointer (some ⟨bc, 1, none⟩)), true, false⟩,
            ⟨IsV (.slice (some ⟨bf, 0, none⟩) 1 1), true, false⟩,
            ⟨IsV (.slice (some ⟨w.heap.size + 1, 0, none⟩) 120 120), true, false⟩,
            ⟨IsV (.int .i64 (k : Nat)), true, false⟩,
            ⟨IsV (.int .i64 ((k + 2 : Nat) : Int)), true, false⟩,
            ⟨IsV (.pointer (some ⟨w.heap.size + 1, k + 2, none⟩)), true, false⟩,
            ⟨IsV (.int .i64 ((d (k + 2) : Nat) : Int)), true, false⟩,
            ⟨IsV (.pointer (some ⟨wa.heap.size + 1, 0, none⟩)), true, false⟩,
            ⟨IsV (.slice A1 (n + 1) c1), true, false⟩,
            ⟨IsV (.int .i64 ((n + 1 : Nat) : Int)), true, false⟩,
            ⟨IsV (.int .i64 ((d (k + 2) % (n + 1) : Nat) : Int)), true, false⟩,
            ⟨IsBlk (w3.heap.size) (mkRow 1) [.int .i64 ((d (k + 2) % (n + 1) : Nat) : Int)] 3, false, false⟩,
            ⟨fun v w => w.ownsRow wr.heap.size 3 1 v 2 [.int .i64 ((d (k + 1) % (n + 1) : Nat) : Int), .int .i64 ((d (k + 2) % (n + 1) : Nat) : Int)], false, true⟩,
            ⟨IsV (.pointer (some ⟨bc, 1, none⟩)), true, false⟩] (some bf) 352 (by kernel_rfl) rfl (by kernel_rfl) ⟨fun _ => stbR_V _ _, fun _ => stbR_V _ _, fun _ => stbR_V _ _, fun _ => stbR_V _ _, fun _ => stbR_V _ _, fun _ => stbR_V _ _, fun _ => stbR_V _ _, fun _ => stbR_V _ _, fun _ => stbR_V _ _, fun _ => stbR_V _ _, fun _ => stbR_V _ _, fun _ => stbR_blk (by intro k hk; injection hk with hk; omega), (fun h => by cases h), fun _ => stbR_V _ _, trivial⟩ ⟨?s0, ?s1, ?s2, ?s3, ?s4, ?s5, ?s6, ?s7, ?s8, ?s9, ?s10, ?s11, ?s12, ?s13, trivial⟩ ?fin
          case s0 =>
            refine ⟨rfl, fun T w1 hT hb ha0 hd => ?_⟩
            have ec := evT_const T
            have ef := evT_func T
            have d10 : evT T (.tmp 10) = .pointer (some ⟨bc, 0, none⟩) := hT 10 (by kernel_rfl)
            clear hT hd hb ha0
            refine gr_pure (v := .pointer (some ⟨bc, 1, none⟩)) ?_ rfl
            simp only [execOp]
            go_simp
          case s1 =>
            refine ⟨rfl, fun T w1 hT hb ha0 hd => ?_⟩
            have ec := evT_const T
            have ef := evT_func T
            have d126 : evT T (.tmp 126) = .pointer (some ⟨bc, 1, none⟩) := (by first | exact hd.1 | exact hd.2.1 | exact hd.2.2.1 | exact hd.2.2.2.1 | exact hd.2.2.2.2.1 | exact hd.2.2.2.2.2.1 | exact hd.2.2.2.2.2.2.1 | exact hd.2.2.2.2.2.2.2.1)
            have f0 := ((HC3.out w1 hb).2.1 1 _ rfl).1
            clear hT hd hb ha0
            refine gr_pure (v := .slice (some ⟨bf, 0, none⟩) 1 1) ?_ rfl
            simp only [execOp]
            go_simp
          case s2 =>
            refine ⟨rfl, fun T w1 hT hb ha0 hd => ?_⟩
            have ec := evT_const T
            have ef := evT_func T
            have d4 : evT T (.tmp 4) = .slice (some ⟨w.heap.size + 1, 0, none⟩) 120 120 := hT 4 (by kernel_rfl)
            exact gr_pure (ar_move d4) rfl
          case s3 =>
            refine ⟨rfl, fun T w1 hT hb ha0 hd => ?_⟩
            have ec := evT_const T
            have ef := evT_func T
            have d9 : evT T (.tmp 9) = .int .i64 (k : Nat) := hT 9 (by kernel_rfl)
            exact gr_pure (ar_move d9) rfl
          case s4 =>
            refine ⟨rfl, fun T w1 hT hb ha0 hd => ?_⟩
            have ec := evT_const T
            have ef := evT_func T
            have d129 : evT T (.tmp 129) = .int .i64 (k : Nat) := (by first | exact hd.1 | exact hd.2.1 | exact hd.2.2.1 | exact hd.2.2.2.1 | exact hd.2.2.2.2.1 | exact hd.2.2.2.2.2.1 | exact hd.2.2.2.2.2.2.1 | exact hd.2.2.2.2.2.2.2.1)
            exact gr_pure (ar_add (b := 2) d129 (ec _) (by omega)) (rfl)
          case s5 =>
            refine ⟨rfl, fun T w1 hT hb ha0 hd => ?_⟩
            have ec := evT_const T
            have ef := evT_func T
            have d128 : evT T (.tmp 128) = .slice (some ⟨w.heap.size + 1, 0, none⟩) 120 120 := (by first | exact hd.1 | exact hd.2.1 | exact hd.2.2.1 | exact hd.2.2.2.1 | exact hd.2.2.2.2.1 | exact hd.2.2.2.2.2.1 | exact hd.2.2.2.2.2.2.1 | exact hd.2.2.2.2.2.2.2.1)
            have d130 : evT T (.tmp 130) = .int .i64 ((k + 2 : Nat) : Int) := (by first | exact hd.1 | exact hd.2.1 | exact hd.2.2.1 | exact hd.2.2.2.1 | exact hd.2.2.2.2.1 | exact hd.2.2.2.2.2.1 | exact hd.2.2.2.2.2.2.1 | exact hd.2.2.2.2.2.2.2.1)
            clear hT hd hb ha0
            refine gr_pure (v := .pointer (some ⟨w.heap.size + 1, k + 2, none⟩)) ?_ rfl
            simp only [execOp]
            go_simp
          case s6 =>
            refine ⟨rfl, fun T w1 hT hb ha0 hd => ?_⟩
            have ec := evT_const T
            have ef := evT_func T
            have d131 : evT T (.tmp 131) = .pointer (some ⟨w.heap.size + 1, k + 2, none⟩) := (by first | exact hd.1 | exact hd.2.1 | exact hd.2.2.1 | exact hd.2.2.2.1 | exact hd.2.2.2.2.1 | exact hd.2.2.2.2.2.1 | exact hd.2.2.2.2.2.2.1 | exact hd.2.2.2.2.2.2.2.1)
            have f0 := (HC3.out w1 hb).1 (k + 2) (by omega)
            clear hT hd hb ha0
            refine gr_pure (v := .int .i64 ((d (k + 2) : Nat) : Int)) ?_ rfl
            simp only [execOp]
            go_simp
          case s7 =>
            refine ⟨rfl, fun T w1 hT hb ha0 hd => ?_⟩
            have ec := evT_const T
            have ef := evT_func T
            have d6 : evT T (.tmp 6) = .pointer (some ⟨wa.heap.size + 1, 0, none⟩) := hT 6 (by kernel_rfl)
            clear hT hd hb ha0
            refine gr_pure (v := .pointer (some ⟨wa.heap.size + 1, 0, none⟩)) ?_ rfl
            simp only [execOp]
            go_simp
          case s8 =>
            refine ⟨rfl, fun T w1 hT hb ha0 hd => ?_⟩
            have ec := evT_const T
            have ef := evT_func T
            have d133 : evT T (.tmp 133) = .pointer (some ⟨wa.heap.size + 1, 0, none⟩) := (by first | exact hd.1 | exact hd.2.1 | exact hd.2.2.1 | exact hd.2.2.2.1 | exact hd.2.2.2.2.1 | exact hd.2.2.2.2.2.1 | exact hd.2.2.2.2.2.2.1 | exact hd.2.2.2.2.2.2.2.1)
            have f0 := ((HC3.out w1 hb).2.2 0 _ rfl).1
            clear hT hd hb ha0
            refine gr_pure (v := .slice A1 (n + 1) c1) ?_ rfl
            simp only [execOp]
            go_simp
          case s9 =>
            refine ⟨rfl, fun T w1 hT hb ha0 hd => ?_⟩
            have ec := evT_const T
            have ef := evT_func T
            have d134 : evT T (.tmp 134) = .slice A1 (n + 1) c1 := (by first | exact hd.1 | exact hd.2.1 | exact hd.2.2.1 | exact hd.2.2.2.1 | exact hd.2.2.2.2.1 | exact hd.2.2.2.2.2.1 | exact hd.2.2.2.2.2.2.1 | exact hd.2.2.2.2.2.2.2.1)
            clear hT hd hb ha0
            refine gr_pure (v := .int .i64 ((n + 1 : Nat) : Int)) ?_ rfl
            simp only [execOp]
            go_simp
          case s10 =>
            refine ⟨rfl, fun T w1 hT hb ha0 hd => ?_⟩
            have ec := evT_const T
            have ef := evT_func T
            have d132 : evT T (.tmp 132) = .int .i64 ((d (k + 2) : Nat) : Int) := (by first | exact hd.1 | exact hd.2.1 | exact hd.2.2.1 | exact hd.2.2.2.1 | exact hd.2.2.2.2.1 | exact hd.2.2.2.2.2.1 | exact hd.2.2.2.2.2.2.1 | exact hd.2.2.2.2.2.2.2.1)
            have d135 : evT T (.tmp 135) = .int .i64 ((n + 1 : Nat) : Int) := (by first | exact hd.1 | exact hd.2.1 | exact hd.2.2.1 | exact hd.2.2.2.1 | exact hd.2.2.2.2.1 | exact hd.2.2.2.2.2.1 | exact hd.2.2.2.2.2.2.1 | exact hd.2.2.2.2.2.2.2.1)
            exact gr_pure (ar_rem d132 d135 (by omega) (by omega)) (rfl)
          case s11 =>
            refine ⟨rfl, fun T w1 hT hb ha0 hd => ?_⟩
            have ec := evT_const T
            have ef := evT_func T
            have d136 : evT T (.tmp 136) = .int .i64 ((d (k + 2) % (n + 1) : Nat) : Int) := (by first | exact hd.1 | exact hd.2.1 | exact hd.2.2.1 | exact hd.2.2.2.1 | exact hd.2.2.2.2.1 | exact hd.2.2.2.2.2.1 | exact hd.2.2.2.2.2.2.1 | exact hd.2.2.2.2.2.2.2.1)
            have hz := hb.size
            refine gr_made (v := mkRow 1 w1.heap.size) (w' := w1.alloc (.cells [.int .i64 ((d (k + 2) % (n + 1) : Nat) : Int)].toArray 3)) ?_ (World.grownBy_alloc _ _ _) (show IsBlk (w3.heap.size) (mkRow 1) [.int .i64 ((d (k + 2) % (n + 1) : Nat) : Int)] 3 (mkRow 1 w1.heap.size) _ from isBlk_new hz)
            clear hT hd hb ha0
            simp only [execOp, mkRow]
            go_simp
          case s12 =>
            refine ⟨rfl, fun T w1 hT hb ha0 hd => ?_⟩
            have ec := evT_const T
            have ef := evT_func T
            have d127 : evT T (.tmp 127) = .slice (some ⟨bf, 0, none⟩) 1 1 := (by first | exact hd.1 | exact hd.2.1 | exact hd.2.2.1 | exact hd.2.2.2.1 | exact hd.2.2.2.2.1 | exact hd.2.2.2.2.2.1 | exact hd.2.2.2.2.2.2.1 | exact hd.2.2.2.2.2.2.2.1)
            obtain ⟨b, d137, hbb, hbh⟩ : IsBlk (w3.heap.size) (mkRow 1) [.int .i64 ((d (k + 2) % (n + 1) : Nat) : Int)] 3 (evT T (.tmp 137)) w1 := (by first | exact hd.1 | exact hd.2.1 | exact hd.2.2.1 | exact hd.2.2.2.1 | exact hd.2.2.2.2.1 | exact hd.2.2.2.2.2.1 | exact hd.2.2.2.2.2.2.1 | exact hd.2.2.2.2.2.2.2.1)
            have hbf1 : w1.heap[bf]? = some (.cells [.int .i64 ((d (k + 1) % (n + 1) : Nat) : Int)].toArray 3 (0, 0)) := ((ha0 rfl).block bf (blk_lt HBF.out) (by simp)).trans HBF.out
            obtain ⟨i3, hi, hz0, hz1, hz2⟩ := info_parts Try.info3
            have hz := hb.size
            obtain ⟨v', w', hrun, hown', hg', _, _⟩ := run_append_own_at (P := Try.prog) w1 wr.heap.size 35 35 3 i3 (.int .i64 0) 1 8 Try.underlying35 hi hz0 hz1 hz2 rfl (by decide) (.slice (some ⟨bf, 0, none⟩) 1 1) 1 [.int .i64 ((d (k + 1) % (n + 1) : Nat) : Int)]
              ⟨rfl, .inr ⟨bf, 1, _, rfl, hbf, hbf1, Nat.le_refl _, by unfold maxLen; omega, rfl, rfl⟩⟩ ⟨b, 0, none⟩ 1 1 [.int .i64 ((d (k + 2) % (n + 1) : Nat) : Int)] rfl (fun j u hj => by
                cases j with
                | zero => simp at hj; subst hj; rw [Addr.add_lit, cell_of_row _ _ _ _ _ _ hbh]; rfl
                | succ j => simp at hj) (by intro u hu; rw [List.mem_singleton.1 hu]; rfl) (by unfold maxLen; omega) (by omega) (by omega)
            refine gr_made (v := v') (w' := w') ?_ hg' hown'
            clear hT hd hb ha0 hown' hg' hbf1 hbh
            simp only [mkRow] at d137
            unfold execOp
            simp only [resolve, invoke, builtin, Sem.run_bind, Sem.run_pure, Result.andThen_ok, List.map_toArray, List.map_cons, List.map_nil, d127, d137, hrun]
          case s13 =>
            refine ⟨rfl, fun T w1 hT hb ha0 hd => ?_⟩
            have ec := evT_const T
            have ef := evT_func T
            have d10 : evT T (.tmp 10) = .pointer (some ⟨bc, 0, none⟩) := hT 10 (by kernel_rfl)
            clear hT hd hb ha0
            refine gr_pure (v := .pointer (some ⟨bc, 1, none⟩)) ?_ rfl
            simp only [execOp]
            go_simp
          case fin =>
            intro T w1 o ho hT hb hd
            obtain rfl : _ = o := Option.some.inj ho
            clear ho
            have ec := evT_const T
            simp only [putL, Act.put, Option.getD_some, List.setIfInBounds_toArray, List.set_cons_zero, List.set_cons_succ]
            have d139 : evT T (.tmp 139) = .pointer (some ⟨bc, 1, none⟩) := hd.2.2.2.2.2.2.2.2.2.2.2.2.2.1
            have hown : w1.ownsRow wr.heap.size 3 1 (evT T (.tmp 138)) 2 [.int .i64 ((d (k + 1) % (n + 1) : Nat) : Int), .int .i64 ((d (k + 2) % (n + 1) : Nat) : Int)] := hd.2.2.2.2.2.2.2.2.2.2.2.2.1
            obtain ⟨A9, c9, d138⟩ := own_shape' hown
            rw [d138] at hown
            obtain ⟨w4, hrun, hbox4, hmv4⟩ := storeSl (j := 1) (by simp) Try.sizeOf35 d139 d138 (HC3.out w1 hb).2.1
            refine ⟨undef, w4, .inr (hrun _ _ _), ?_⟩
            have hbcb := (HC3.out w1 hb).2.1
            have hcap9 := own_cap hown
            obtain ⟨g9, rfl⟩ : ∃ g9, A9 = some ⟨g9, 0, none⟩ := by
              rcases hown.2 with ⟨_, h0⟩ | ⟨g9, cap, cur, h1, _⟩
              · cases h0
              · injection h1 with h1 _ _; exact ⟨g9, h1⟩
            have hg9 := hown.lt g9 rfl
            have hcs := hown.cells (g := g9) rfl
            have hg9c : g9 ≠ bc := by
              rintro rfl
              have h1 := hcs 0 _ rfl
              have h2 := (hbcb 0 _ rfl).1
              rw [Addr.add_lit, Nat.zero_add] at h1
              rw [h1] at h2
              injection h2 with h2
              cases h2
            have hW4 : Moved [] wr w4 := HMW.out.trans' ((Moved.of_grown (hot := [bf, bc]) hb (by intro k hk; injection hk with hk; simp [hk])).trans (hmv4.mono (by simp))) (fun j hj => .inr (by
              simp at hj
              rcases hj with rfl | rfl <;> omega))
            have hints : ∀ (o : Obj) (hot : List Nat), g9 ∉ hot → IntsC hot (w4.alloc o) (some ⟨g9, 0, none⟩) [((d (k + 1) % (n + 1) : Nat) : Int), ((d (k + 2) % (n + 1) : Nat) : Int)] := fun o hot hn _ => ⟨_, rfl, by have := hmv4.size; simp; omega, hn, fun j x hj => Lib.cell?_alloc_some _ (hmv4.cell (hcs j (.int .i64 x) (by
              match j, hj with
              | 0, hj => simp at hj; subst hj; rfl
              | 1, hj => simp at hj; subst hj; rfl
              | j + 2, hj => simp at hj)) (by rw [block_add]; simpa using hg9c))⟩
            have HINTS := Lib.hid hints
            have HW4 := Lib.hid hW4
            obtain ⟨q0', y0'⟩ := (HBX.out.move hW4 (by simp)) 0 _ rfl
            have hb4 : BoxAt w4 bc [.int .u8 109, .slice (some ⟨g9, 0, none⟩) 2 c9, .int .u64 0, .int .i64 0, .int .i64 0, .int .i64 0] := hbox4
            obtain ⟨u0, v0⟩ := hb4 0 _ rfl
            obtain ⟨u1, v1⟩ := hb4 1 _ rfl
            obtain ⟨u2, v2⟩ := hb4 2 _ rfl
            obtain ⟨u3, v3⟩ := hb4 3 _ rfl
            obtain ⟨u4, v4⟩ := hb4 4 _ rfl
            obtain ⟨u5x, v5⟩ := hb4 5 _ rfl
            have hcl : clkP d n = ⟨109, [((d (k + 1) % (n + 1) : Nat) : Int), ((d (k + 2) % (n + 1) : Nat) : Int)], 0, 0, 0, 0⟩ := by
              unfold clkP
              simp only [← HKN.out, ← HKD.out]
              simp
            have hW5 : Moved [] wr (w4.alloc (.cells [.int .u8 109, .slice (some ⟨g9, 0, none⟩) 2 c9, .int .u64 0, .int .i64 0, .int .i64 0, .int .i64 0].toArray 46)) := hW4.trans (Moved.alloc _ _)
            have hx : ClkC ((wa.heap.size + 1) :: (Value.slice A1 (n + 1) c1).ownBlock.toList ++ (w.heap.size :: L)) (w4.alloc (.cells [.int .u8 109, .slice (some ⟨g9, 0, none⟩) 2 c9, .int .u64 0, .int .i64 0, .int .i64 0, .int .i64 0].toArray 46)) (clkP d n) [.int .u8 109, .slice (some ⟨g9, 0, none⟩) 2 c9, .int .u64 0, .int .i64 0, .int .i64 0, .int .i64 0] := by
              refine ⟨some ⟨g9, 0, none⟩, c9, by rw [hcl]; simp, by rw [hcl]; simpa using hcap9, ?_⟩
              rw [hcl]
              exact HINTS.out _ _ (fun hm => by
                rcases List.mem_append.1 hm with hm | hm
                · rcases List.mem_cons.1 hm with e | e
                  · omega
                  · have := (HLT1.out g9 (by simpa using e)).2
                    omega
                · have := hLL.out _ hm
                  omega)
            obtain ⟨vss, hown5, hstep⟩ := row_stepH HROW.out hgs HNE1.out hW5 hx rfl
            rw [clksP_len] at hown5 hstep
            have HOWN := Lib.hid hown5
            have HSTEP := Lib.hid hstep
            have HW5 := Lib.hid hW5
            have hz4 := hW4.size
            clear hT hb hd d139 d138 hown hbox4 hmv4 hrun ec hbcb hcs hW4 hints hb4 hcl hW5 hx hown5 hstep HC3
            obtain ⟨i49, hi, hz0, hz1, hz2⟩ := info_parts Try.info46
            go_wp2_with (at_builtin; refine wpList_append_own_at _ rfl _ _ 22 rfl wa.heap.size 46 i49 (.agg #[.int .u8 0, .slice none 0 0, .int .u64 0, .int .i64 0, .int .i64 0, .int .i64 0]) 6 64 Try.underlying22 hi hz0 hz1 hz2 rfl (by decide) _ _ _ rfl HOWN.out ⟨w4.heap.size, 0, none⟩ 1 1 [.int .u8 109, .slice (some ⟨g9, 0, none⟩) 2 c9, .int .u64 0, .int .i64 0, .int .i64 0, .int .i64 0] rfl rfl (cells_new w4 w4.heap.size rfl _ 46) (by intro u hu; simp at hu; rcases hu with rfl | rfl | rfl | rfl | rfl | rfl <;> rfl) (by unfold maxLen; omega) (by omega) (by simp; omega) ?_; intro v6 w6 hown6 hg6 _ hob6; obtain ⟨A6, c6, rfl⟩ := own_shape' hown6; obtain ⟨hne6, hmv6, hfin⟩ := HSTEP.out _ _ hown6 hg6 hob6; have hbx6 := (HBX.out.move HW5.out (by simp)).move (Moved.of_grown (hot := (Value.slice A1 (n + 1) c1).ownBlock.toList) (row := (Value.slice A1 (n + 1) c1).ownBlock) hg6 (by simp)) (by simpa using HNE1.out); obtain ⟨q0, q1⟩ := hbx6 0 _ rfl; have HBX6 := Lib.hid hbx6; have HFIN := Lib.hid (hfin 0 (.slice A6 (n + 1 + 1) c6)); have HNE6 := Lib.hid hne6; clear hown6 hg6 hob6 hmv6 hfin hbx6 hne6)
            go_roundw
            case measure => simp [intOf]; omega
            case rel =>
              refine ⟨n + 1, _, by omega, by go_num, ⟨?_, HNE6.out, HBX6.out.set (by simp) _, HDRr.out.move HFIN.out.2 (by omega) ?_⟩, HMr.out.trans' HFIN.out.2 ?_⟩
              · have := HFIN.out.1
                rwa [← range_clks] at this
              · intro hm
                rcases List.mem_cons.1 hm with e | e
                · omega
                · have := (HLT1.out (w.heap.size + 1) (by simpa using e)).1
                  omega
              · intro j hj
                rcases List.mem_cons.1 hj with e | e
                · exact .inr (by simp only [World.size_alloc]; omega)
                · exact .inr (by have := (HLT1.out j (by simpa using e)).1; simp only [World.size_alloc]; omega)
        have e109 : (kd == 109) = false := by simpa using k109
        have hcl : clkP d n = ⟨kd, [((d (k + 1) % (n + 1) : Nat) : Int)], 0, 0, 0, 0⟩ := by
          unfold clkP
          simp only [← HKN.out, ← HKD.out]
          simp [k112, k100, k109]
        have hW4 : Moved [] wr w3 := HMW.out.trans' (Moved.refl [bc] w3) (fun j hj => .inr (by have := List.mem_singleton.1 hj; omega))
        have hW5 : Moved [] wr (w3.alloc (.cells [.int .u8 kd, .slice (some ⟨bf, 0, none⟩) 1 1, .int .u64 0, .int .i64 (0), .int .i64 (0), .int .i64 (0)].toArray 46)) := hW4.trans (Moved.alloc _ _)
        have hcell : w3.heap[bf]? = some (.cells [.int .i64 ((d (k + 1) % (n + 1) : Nat) : Int)].toArray 3 (0, 0)) := ((Moved.refl [bc] w3).block bf (blk_lt HBF.out) (by simpa using i5)).trans HBF.out
        have hx : ClkC ((wa.heap.size + 1) :: (Value.slice A1 (n + 1) c1).ownBlock.toList ++ (w.heap.size :: L)) (w3.alloc (.cells [.int .u8 kd, .slice (some ⟨bf, 0, none⟩) 1 1, .int .u64 0, .int .i64 (0), .int .i64 (0), .int .i64 (0)].toArray 46)) (clkP d n) [.int .u8 kd, .slice (some ⟨bf, 0, none⟩) 1 1, .int .u64 0, .int .i64 (0), .int .i64 (0), .int .i64 (0)] := by
          refine ⟨some ⟨bf, 0, none⟩, 1, by rw [hcl]; simp, by rw [hcl]; simp, ?_⟩
          rw [hcl]
          exact ints_blk hcell _ _ (fun hm => by
            rcases List.mem_append.1 hm with hm | hm
            · rcases List.mem_cons.1 hm with e | e
              · omega
              · have := (HLT1.out bf (by simpa using e)).2
                omega
            · have := hLL.out _ hm
              omega)
        obtain ⟨vss, hown, hstep⟩ := row_stepH HROW.out hgs HNE1.out hW5 hx rfl
        rw [clksP_len] at hown hstep
        have HOWN := Lib.hid hown
        have HSTEP := Lib.hid hstep
        have HW5 := Lib.hid hW5
        clear k112 k100 k109 hcl hW4 hW5 hcell hx hown hstep HBF
        obtain ⟨i49, hi, hz0, hz1, hz2⟩ := info_parts Try.info46
        go_wp2_with (at_builtin; refine wpList_append_own_at _ rfl _ _ 22 rfl wa.heap.size 46 i49 (.agg #[.int .u8 0, .slice none 0 0, .int .u64 0, .int .i64 0, .int .i64 0, .int .i64 0]) 6 64 Try.underlying22 hi hz0 hz1 hz2 rfl (by decide) _ _ _ rfl HOWN.out ⟨w3.heap.size, 0, none⟩ 1 1 [.int .u8 kd, .slice (some ⟨bf, 0, none⟩) 1 1, .int .u64 0, .int .i64 (0), .int .i64 (0), .int .i64 (0)] rfl rfl (cells_new w3 w3.heap.size (by simp [size_setCell]) _ 46) (by intro u hu; simp at hu; rcases hu with rfl | rfl | rfl | rfl | rfl | rfl <;> rfl) (by unfold maxLen; omega) (by omega) (by simp [size_setCell]; omega) ?_; intro v6 w6 hown6 hg6 _ hob6; obtain ⟨A6, c6, rfl⟩ := own_shape' hown6; obtain ⟨hne6, hmv6, hfin⟩ := HSTEP.out _ _ hown6 hg6 hob6; have hbx6 := (HBX.out.move HW5.out (by simp)).move (Moved.of_grown (hot := (Value.slice A1 (n + 1) c1).ownBlock.toList) (row := (Value.slice A1 (n + 1) c1).ownBlock) hg6 (by simp)) (by simpa using HNE1.out); obtain ⟨q0, q1⟩ := hbx6 0 _ rfl; have HBX6 := Lib.hid hbx6; have HFIN := Lib.hid (hfin 0 (.slice A6 (n + 1 + 1) c6)); have HNE6 := Lib.hid hne6; clear hown6 hg6 hob6 hmv6 hfin hbx6 hne6)
        go_roundw
        case measure => simp [intOf]; omega
        case rel =>
          refine ⟨n + 1, _, by omega, by go_num, ⟨?_, HNE6.out, HBX6.out.set (by simp) _, HDRr.out.move HFIN.out.2 (by omega) ?_⟩, HMr.out.trans' HFIN.out.2 ?_⟩
          · have := HFIN.out.1
            rwa [← range_clks] at this
          · intro hm
            rcases List.mem_cons.1 hm with e | e
            · omega
            · have := (HLT1.out (w.heap.size + 1) (by simpa using e)).1
              omega
          · intro j hj
            rcases List.mem_cons.1 hj with e | e
            · exact .inr (by simp only [World.size_alloc]; omega)
            · exact .inr (by have := (HLT1.out j (by simpa using e)).1; simp only [World.size_alloc]; omega)

    · have hge : ¬ n < d 1 % 9 := hlt
      have hnn : n = nClk d := by omega
      have HNN := Lib.hid hnn
      clear hnn hlt1
      go_wp2
      exact HQ.out _ _ _ ⟨rfl, rfl⟩ rfl rfl rfl (by rw [← HNN.out]; exact ⟨hrow, hne1, hbx, hdr⟩) hM

end Go.Proofs.Ytnfbhhgdibkbdaa
