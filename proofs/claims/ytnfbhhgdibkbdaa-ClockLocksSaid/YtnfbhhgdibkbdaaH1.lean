/- The contract of catnaplaw4.chip, in parts: H1. (Written by wip/tools/h1.py.) -/
import Derived.Test.YtnfbhhgdibkbdaaH0
namespace Go.Proofs.Ytnfbhhgdibkbdaa
set_option linter.unusedSimpArgs false
set_option linter.unusedVariables false
open Go.RowKit Go.Maps

set_option maxRecDepth 1000000 in
set_option maxHeartbeats 8000000 in
theorem loop1_any (A : Option Addr) (c : Nat) (l : List Int) (w : World) (hl : l.length ≤ maxLen) (hwf : ∀ x, x ∈ l → wfI x) (h : IntsAt w w.heap.size A l) (p2 : Value)
    (Q : Exit → Act → World → Prop) (a : Act) (wi : World) (ha : Fr a) (h0 : slT a 0 = .slice A l.length c) (h2 : slT a 2 = p2) (h4 : slT a 4 = .slice (some ⟨w.heap.size + 1, 0, none⟩) 120 120) (h5 : slT a 5 = .int .i64 0) (hd0 : DrawsTo wi (w.heap.size + 1) (drawP l) 0) (hm0 : Moved [w.heap.size + 1] ((w.alloc (.cells #[.slice none 0 0, .slice none 0 0, .slice none 0 0, .slice none 0 0] 27)).alloc (.cells (madeCells #[.int .i64 0] 120) 3)) wi)
    (hQ : ∀ a' wx, Fr a' → slT a' 2 = p2 → slT a' 4 = .slice (some ⟨w.heap.size + 1, 0, none⟩) 120 120 → DrawsTo wx (w.heap.size + 1) (drawP l) 120 → Moved [w.heap.size + 1] ((w.alloc (.cells #[.slice none 0 0, .slice none 0 0, .slice none 0 0, .slice none 0 0] 27)).alloc (.cells (madeCells #[.int .i64 0] 120) 3)) wx → Q (.exit 0) a' wx) :
    Code.wp Try.prog loop1 Q a wi := by
  unfold maxLen at hl
  have HI := Lib.hid h
  have HWF := Lib.hid hwf
  have HB2 := Lib.hid ((((Below.refl w.heap.size w).alloc (Nat.le_refl _) (.cells #[.slice none 0 0, .slice none 0 0, .slice none 0 0, .slice none 0 0] 27)).alloc (by simp) (.cells (madeCells #[.int .i64 0] 120) 3)))
  have HD0 := Lib.hid hd0
  have HM0 := Lib.hid hm0
  have HQ := Lib.hid hQ
  clear h hwf hd0 hQ hm0
  obtain ⟨F, rfl⟩ := ha.open_
  rw [slT_listT (by omega)] at h0
  rw [slT_listT (by omega)] at h2
  rw [slT_listT (by omega)] at h4
  rw [slT_listT (by omega)] at h5
  rw [lit352, h0, h2, h4, h5]
  clear ha h0 h2 h4 h5
  conv => arg 2; whnf
  go_loopw [5] (fun i wr => ∃ k : Nat, k ≤ 120 ∧ i = .int .i64 k ∧ DrawsTo wr (w.heap.size + 1) (drawP l) k ∧ Moved [w.heap.size + 1] ((w.alloc (.cells #[.slice none 0 0, .slice none 0 0, .slice none 0 0, .slice none 0 0] 27)).alloc (.cells (madeCells #[.int .i64 0] 120) 3)) wr) (fun i _ => 120 - (intOf i).toNat)
  case atStart => exact ⟨0, by omega, rfl, HD0.out, HM0.out⟩
  case round =>
    obtain ⟨k, hk, rfl, hdr, hM⟩ := hrel
    have HDR := Lib.hid hdr
    clear hdr
    have hsz := hM.size
    simp only [World.size_alloc] at hsz
    by_cases hlt : k < 120
    · by_cases h0 : 0 < l.length
      · obtain ⟨m, hm⟩ : ∃ m, m = k % l.length := ⟨_, rfl⟩
        obtain ⟨q, hq⟩ : ∃ q, q = k / l.length := ⟨_, rfl⟩
        have hmod : m < l.length := by rw [hm]; exact Nat.mod_lt k h0
        have hdv : q ≤ k := by rw [hq]; exact Nat.div_le_self k l.length
        have HMD := Lib.hid hm
        have HQD := Lib.hid hq
        clear hm hq
        have hbel := HB2.out.trans (hM.below (B := w.heap.size) (by simp) (by simp; omega))
        obtain ⟨ad, hA, hab, hc⟩ := (HI.out.below hbel (Nat.le_refl _)).at_ hmod
        obtain ⟨x, hx⟩ : ∃ x, x = l[m] := ⟨_, rfl⟩
        rw [← hx] at hc
        have hxw : wfI x := HWF.out x (by rw [hx]; exact List.getElem_mem _)
        have hD : ((drawP l k : Nat) : Int) = pickP (x.tdiv ((1 + q : Nat) : Int)) 1000000 := by
          unfold drawP
          rw [if_neg (by intro e; rw [e] at h0; simp at h0), List.getD_eq_getElem?_getD, ← HMD.out, ← HQD.out, List.getElem?_eq_getElem hmod, Option.getD_some, ← hx]
          have := pickP_lo (c := x.tdiv (1 + ((q : Nat) : Int))) (n := 1000000) (by omega)
          rw [Int.toNat_of_nonneg this]
          congr 1
        have HD := Lib.hid hD
        have HX := Lib.hid hx
        have hC : ∀ W, wr.grownBy W none → W.cell? (ad.add (m)) = some (.int .i64 x) := fun W hW => hW.cell hc (by simp)
        have HC := Lib.hid hC
        have HBEL := Lib.hid hbel
        clear hD hx hC hbel hc
        subst hA
        go_wp2
        refine region_then [⟨IsV (.slice (some ⟨w.heap.size + 1, 0, none⟩) 120 120), true, false⟩,
          ⟨IsV (.int .i64 (k : Nat)), true, false⟩,
          ⟨IsV (.slice (some ad) l.length c), true, false⟩,
          ⟨IsV (.int .i64 (k : Nat)), true, false⟩,
          ⟨IsV (.slice (some ad) l.length c), true, false⟩,
          ⟨IsV (.int .i64 (l.length : Nat)), true, false⟩,
          ⟨IsV (.int .i64 ((m : Nat) : Int)), true, false⟩,
          ⟨IsV (.pointer (some (ad.add (m)))), true, false⟩,
          ⟨IsV (.int .i64 x), true, false⟩,
          ⟨IsV (.int .i64 (k : Nat)), true, false⟩,
          ⟨IsV (.slice (some ad) l.length c), true, false⟩,
          ⟨IsV (.int .i64 (l.length : Nat)), true, false⟩,
          ⟨IsV (.int .i64 ((q : Nat) : Int)), true, false⟩,
          ⟨IsV (.int .i64 ((1 + q : Nat) : Int)), true, false⟩,
          ⟨IsV (.int .i64 (x.tdiv ((1 + q : Nat) : Int))), true, false⟩,
          ⟨IsV (.int .i64 ((drawP l k : Nat) : Int)), true, false⟩,
          ⟨IsV (.pointer (some ⟨w.heap.size + 1, k, none⟩)), true, false⟩] none 352 (by kernel_rfl) rfl (by kernel_rfl) ⟨fun _ => stbR_V _ _, fun _ => stbR_V _ _, fun _ => stbR_V _ _, fun _ => stbR_V _ _, fun _ => stbR_V _ _, fun _ => stbR_V _ _, fun _ => stbR_V _ _, fun _ => stbR_V _ _, fun _ => stbR_V _ _, fun _ => stbR_V _ _, fun _ => stbR_V _ _, fun _ => stbR_V _ _, fun _ => stbR_V _ _, fun _ => stbR_V _ _, fun _ => stbR_V _ _, fun _ => stbR_V _ _, fun _ => stbR_V _ _, trivial⟩ ⟨?s0, ?s1, ?s2, ?s3, ?s4, ?s5, ?s6, ?s7, ?s8, ?s9, ?s10, ?s11, ?s12, ?s13, ?s14, ?s15, ?s16, trivial⟩ ?fin
        case s0 =>
          refine ⟨rfl, fun T w1 hT hb ha0 hd => ?_⟩
          have ec := evT_const T
          have ef := evT_func T
          have d4 : evT T (.tmp 4) = .slice (some ⟨w.heap.size + 1, 0, none⟩) 120 120 := hT 4 (by kernel_rfl)
          exact gr_pure (ar_move d4) rfl
        case s1 =>
          refine ⟨rfl, fun T w1 hT hb ha0 hd => ?_⟩
          have ec := evT_const T
          have ef := evT_func T
          have d5 : evT T (.tmp 5) = .int .i64 (k : Nat) := hT 5 (by kernel_rfl)
          exact gr_pure (ar_move d5) rfl
        case s2 =>
          refine ⟨rfl, fun T w1 hT hb ha0 hd => ?_⟩
          have ec := evT_const T
          have ef := evT_func T
          have d0 : evT T (.tmp 0) = .slice (some ad) l.length c := hT 0 (by kernel_rfl)
          exact gr_pure (ar_move d0) rfl
        case s3 =>
          refine ⟨rfl, fun T w1 hT hb ha0 hd => ?_⟩
          have ec := evT_const T
          have ef := evT_func T
          have d5 : evT T (.tmp 5) = .int .i64 (k : Nat) := hT 5 (by kernel_rfl)
          exact gr_pure (ar_move d5) rfl
        case s4 =>
          refine ⟨rfl, fun T w1 hT hb ha0 hd => ?_⟩
          have ec := evT_const T
          have ef := evT_func T
          have d0 : evT T (.tmp 0) = .slice (some ad) l.length c := hT 0 (by kernel_rfl)
          exact gr_pure (ar_move d0) rfl
        case s5 =>
          refine ⟨rfl, fun T w1 hT hb ha0 hd => ?_⟩
          have ec := evT_const T
          have ef := evT_func T
          have d34 : evT T (.tmp 34) = .slice (some ad) l.length c := (by first | exact hd.1 | exact hd.2.1 | exact hd.2.2.1 | exact hd.2.2.2.1 | exact hd.2.2.2.2.1 | exact hd.2.2.2.2.2.1 | exact hd.2.2.2.2.2.2.1 | exact hd.2.2.2.2.2.2.2.1)
          clear hT hd hb ha0
          refine gr_pure (v := .int .i64 (l.length : Nat)) ?_ rfl
          simp only [execOp]
          go_simp
        case s6 =>
          refine ⟨rfl, fun T w1 hT hb ha0 hd => ?_⟩
          have ec := evT_const T
          have ef := evT_func T
          have d33 : evT T (.tmp 33) = .int .i64 (k : Nat) := (by first | exact hd.1 | exact hd.2.1 | exact hd.2.2.1 | exact hd.2.2.2.1 | exact hd.2.2.2.2.1 | exact hd.2.2.2.2.2.1 | exact hd.2.2.2.2.2.2.1 | exact hd.2.2.2.2.2.2.2.1)
          have d35 : evT T (.tmp 35) = .int .i64 (l.length : Nat) := (by first | exact hd.1 | exact hd.2.1 | exact hd.2.2.1 | exact hd.2.2.2.1 | exact hd.2.2.2.2.1 | exact hd.2.2.2.2.2.1 | exact hd.2.2.2.2.2.2.1 | exact hd.2.2.2.2.2.2.2.1)
          exact gr_pure (by rw [HMD.out]; exact ar_rem d33 d35 (by omega) (by omega)) (rfl)
        case s7 =>
          refine ⟨rfl, fun T w1 hT hb ha0 hd => ?_⟩
          have ec := evT_const T
          have ef := evT_func T
          have d32 : evT T (.tmp 32) = .slice (some ad) l.length c := (by first | exact hd.1 | exact hd.2.1 | exact hd.2.2.1 | exact hd.2.2.2.1 | exact hd.2.2.2.2.1 | exact hd.2.2.2.2.2.1 | exact hd.2.2.2.2.2.2.1 | exact hd.2.2.2.2.2.2.2.1)
          have d36 : evT T (.tmp 36) = .int .i64 ((m : Nat) : Int) := (by first | exact hd.1 | exact hd.2.1 | exact hd.2.2.1 | exact hd.2.2.2.1 | exact hd.2.2.2.2.1 | exact hd.2.2.2.2.2.1 | exact hd.2.2.2.2.2.2.1 | exact hd.2.2.2.2.2.2.2.1)
          clear hT hd hb ha0
          refine gr_pure (v := .pointer (some (ad.add (m)))) ?_ rfl
          simp only [execOp]
          go_simp
        case s8 =>
          refine ⟨rfl, fun T w1 hT hb ha0 hd => ?_⟩
          have ec := evT_const T
          have ef := evT_func T
          have d37 : evT T (.tmp 37) = .pointer (some (ad.add (m))) := (by first | exact hd.1 | exact hd.2.1 | exact hd.2.2.1 | exact hd.2.2.2.1 | exact hd.2.2.2.2.1 | exact hd.2.2.2.2.2.1 | exact hd.2.2.2.2.2.2.1 | exact hd.2.2.2.2.2.2.2.1)
          have f0 := HC.out w1 hb
          clear hT hd hb ha0
          refine gr_pure (v := .int .i64 x) ?_ rfl
          simp only [execOp]
          go_simp
        case s9 =>
          refine ⟨rfl, fun T w1 hT hb ha0 hd => ?_⟩
          have ec := evT_const T
          have ef := evT_func T
          have d5 : evT T (.tmp 5) = .int .i64 (k : Nat) := hT 5 (by kernel_rfl)
          exact gr_pure (ar_move d5) rfl
        case s10 =>
          refine ⟨rfl, fun T w1 hT hb ha0 hd => ?_⟩
          have ec := evT_const T
          have ef := evT_func T
          have d0 : evT T (.tmp 0) = .slice (some ad) l.length c := hT 0 (by kernel_rfl)
          exact gr_pure (ar_move d0) rfl
        case s11 =>
          refine ⟨rfl, fun T w1 hT hb ha0 hd => ?_⟩
          have ec := evT_const T
          have ef := evT_func T
          have d40 : evT T (.tmp 40) = .slice (some ad) l.length c := (by first | exact hd.1 | exact hd.2.1 | exact hd.2.2.1 | exact hd.2.2.2.1 | exact hd.2.2.2.2.1 | exact hd.2.2.2.2.2.1 | exact hd.2.2.2.2.2.2.1 | exact hd.2.2.2.2.2.2.2.1)
          clear hT hd hb ha0
          refine gr_pure (v := .int .i64 (l.length : Nat)) ?_ rfl
          simp only [execOp]
          go_simp
        case s12 =>
          refine ⟨rfl, fun T w1 hT hb ha0 hd => ?_⟩
          have ec := evT_const T
          have ef := evT_func T
          have d39 : evT T (.tmp 39) = .int .i64 (k : Nat) := (by first | exact hd.1 | exact hd.2.1 | exact hd.2.2.1 | exact hd.2.2.2.1 | exact hd.2.2.2.2.1 | exact hd.2.2.2.2.2.1 | exact hd.2.2.2.2.2.2.1 | exact hd.2.2.2.2.2.2.2.1)
          have d41 : evT T (.tmp 41) = .int .i64 (l.length : Nat) := (by first | exact hd.1 | exact hd.2.1 | exact hd.2.2.1 | exact hd.2.2.2.1 | exact hd.2.2.2.2.1 | exact hd.2.2.2.2.2.1 | exact hd.2.2.2.2.2.2.1 | exact hd.2.2.2.2.2.2.2.1)
          exact gr_pure (by rw [HQD.out]; exact ar_quo d39 d41 (by omega) (by omega)) (rfl)
        case s13 =>
          refine ⟨rfl, fun T w1 hT hb ha0 hd => ?_⟩
          have ec := evT_const T
          have ef := evT_func T
          have d42 : evT T (.tmp 42) = .int .i64 ((q : Nat) : Int) := (by first | exact hd.1 | exact hd.2.1 | exact hd.2.2.1 | exact hd.2.2.2.1 | exact hd.2.2.2.2.1 | exact hd.2.2.2.2.2.1 | exact hd.2.2.2.2.2.2.1 | exact hd.2.2.2.2.2.2.2.1)
          exact gr_pure (ar_add (a := 1) (ec _) d42 (by omega)) (rfl)
        case s14 =>
          refine ⟨rfl, fun T w1 hT hb ha0 hd => ?_⟩
          have ec := evT_const T
          have ef := evT_func T
          have d38 : evT T (.tmp 38) = .int .i64 x := (by first | exact hd.1 | exact hd.2.1 | exact hd.2.2.1 | exact hd.2.2.2.1 | exact hd.2.2.2.2.1 | exact hd.2.2.2.2.2.1 | exact hd.2.2.2.2.2.2.1 | exact hd.2.2.2.2.2.2.2.1)
          have d43 : evT T (.tmp 43) = .int .i64 ((1 + q : Nat) : Int) := (by first | exact hd.1 | exact hd.2.1 | exact hd.2.2.1 | exact hd.2.2.2.1 | exact hd.2.2.2.2.1 | exact hd.2.2.2.2.2.1 | exact hd.2.2.2.2.2.2.1 | exact hd.2.2.2.2.2.2.2.1)
          exact gr_pure (ar_quoI d38 d43 hxw (by omega)) (rfl)
        case s15 =>
          refine ⟨rfl, fun T w1 hT hb ha0 hd => ?_⟩
          have ec := evT_const T
          have ef := evT_func T
          have d44 : evT T (.tmp 44) = .int .i64 (x.tdiv ((1 + q : Nat) : Int)) := (by first | exact hd.1 | exact hd.2.1 | exact hd.2.2.1 | exact hd.2.2.2.1 | exact hd.2.2.2.2.1 | exact hd.2.2.2.2.2.1 | exact hd.2.2.2.2.2.2.1 | exact hd.2.2.2.2.2.2.2.1)
          refine gr_same (f := 15) (args := #[.int .i64 (x.tdiv ((1 + q : Nat) : Int)), .int .i64 1000000]) ?_ (by rw [HD.out]; exact pick_any _ _ _ (tdiv_wf hxw (by omega)) (by omega) (by omega)) rfl
          clear hT hd hb ha0
          simp only [execOp, resolve]
          go_simp
        case s16 =>
          refine ⟨rfl, fun T w1 hT hb ha0 hd => ?_⟩
          have ec := evT_const T
          have ef := evT_func T
          have d30 : evT T (.tmp 30) = .slice (some ⟨w.heap.size + 1, 0, none⟩) 120 120 := (by first | exact hd.1 | exact hd.2.1 | exact hd.2.2.1 | exact hd.2.2.2.1 | exact hd.2.2.2.2.1 | exact hd.2.2.2.2.2.1 | exact hd.2.2.2.2.2.2.1 | exact hd.2.2.2.2.2.2.2.1)
          have d31 : evT T (.tmp 31) = .int .i64 (k : Nat) := (by first | exact hd.1 | exact hd.2.1 | exact hd.2.2.1 | exact hd.2.2.2.1 | exact hd.2.2.2.2.1 | exact hd.2.2.2.2.2.1 | exact hd.2.2.2.2.2.2.1 | exact hd.2.2.2.2.2.2.2.1)
          clear hT hd hb ha0
          refine gr_pure (v := .pointer (some ⟨w.heap.size + 1, k, none⟩)) ?_ rfl
          simp only [execOp]
          go_simp
        case fin =>
          intro T w1 o ho hT hb hd
          obtain rfl : _ = o := Option.some.inj ho
          clear ho
          have ec := evT_const T
          simp only [putL, Act.put, Option.getD_some, List.setIfInBounds_toArray, List.set_cons_zero, List.set_cons_succ]
          have d46 : evT T (.tmp 46) = .pointer (some ⟨w.heap.size + 1, k, none⟩) := hd.2.2.2.2.2.2.2.2.2.2.2.2.2.2.2.2.1
          have d45 : evT T (.tmp 45) = .int .i64 ((drawP l k : Nat) : Int) := hd.2.2.2.2.2.2.2.2.2.2.2.2.2.2.2.1
          have hD := HDR.out.grown hb (by omega) (by simp)
          obtain ⟨hfr, hck⟩ := hD k hlt
          refine ⟨undef, w1.setCell ⟨w.heap.size + 1, k, none⟩ (.int .i64 ((drawP l k : Nat) : Int)), ?_, ?_⟩
          · clear hT hd hb hD
            simp only [execOp]
            first | (left; go_simp; done) | (right; go_simp; done)
          · have hset := hD.set hlt
            have hmv : Moved [w.heap.size + 1] wr (w1.setCell ⟨w.heap.size + 1, k, none⟩ (.int .i64 ((drawP l k : Nat) : Int))) := (Moved.of_grown hb (fun k h => by cases h)).trans (Moved.setCell _ (by simp) _)
            have HSET := Lib.hid hset
            have HMV := Lib.hid hmv
            clear hset hmv hT hd hb hD hfr hck
            go_wp2
            go_roundw
            case rel => exact ⟨k + 1, by omega, by go_num, HSET.out, hM.trans HMV.out⟩
            case measure => simp [intOf]; omega

      · have hl0 : l = [] := List.eq_nil_of_length_eq_zero (by omega)
        have hfin : DrawsTo wr (w.heap.size + 1) (drawP l) 120 := fun i hi => by
          have hz : drawP l i = 0 := by unfold drawP; rw [if_pos hl0]
          have := HDR.out i hi
          rw [hz] at this ⊢
          simpa using this
        have hlen : l.length = 0 := by rw [hl0]; rfl
        have HF := Lib.hid hfin
        have HL0 := Lib.hid hlen
        have hlz : ((l.length : Int)) = 0 := by omega
        clear hfin hl0 hlen h0
        go_wp2
        exact HQ.out _ _ ⟨rfl, rfl⟩ rfl rfl HF.out hM
    · obtain rfl : k = 120 := by omega
      go_wp2
      exact HQ.out _ _ ⟨rfl, rfl⟩ rfl rfl HDR.out hM

end Go.Proofs.Ytnfbhhgdibkbdaa
