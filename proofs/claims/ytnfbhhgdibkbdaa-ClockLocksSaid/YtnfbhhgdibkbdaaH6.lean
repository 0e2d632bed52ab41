/- The contract of catnaplaw4.chip, in parts: H6. (Written by wip/tools/h1.py.) -/
import Derived.Test.YtnfbhhgdibkbdaaH5
namespace Go.Proofs.Ytnfbhhgdibkbdaa
set_option linter.unusedSimpArgs false
set_option linter.unusedVariables false
open Go.RowKit Go.Maps

set_option maxRecDepth 1000000 in
set_option maxHeartbeats 8000000 in
theorem dev4_any (w wa wf wo w5 : World) (d : Nat → Nat) (n k bc : Nat) (v1 v2 v3 v4 p2 : Value) (H : List Nat) (AR : Option Addr) (cR : Nat) (wq2 : World) (AN : Option Addr) (m cN : Nat) (HLT : Hid (∀ i, d i < 1000000)) (HKN : Hid (k = 60 + 12 * n)) (hk96 : k ≤ 96) (hlt : n < nDev d) (hn4 : nDev d ≤ 4) (hMsz : w.heap.size + 1 + 1 ≤ wa.heap.size) (hgd : w.heap.size + 1 < wf.heap.size)
    (hMz : wf.heap.size ≤ wo.heap.size) (hgs : wa.heap.size + 1 < wo.heap.size) (hgsf : wa.heap.size + 1 < wf.heap.size) (hbc : wo.heap.size ≤ bc) (hbc5 : bc < w5.heap.size) (hz5 : wo.heap.size ≤ w5.heap.size) (HDR5 : Hid (DrawsTo w5 (w.heap.size + 1) d 120)) (HM5 : Hid (Moved [] wo w5))
    (HREG : Hid (∀ hot : List Nat, (∀ g, (Value.slice AR (d (k + 4) % 5) cR).ownBlock = some g → g ∉ hot) → RegsC hot w5 AR (regsP d k (d (k + 4) % 5)))) (HNER : Hid ((Value.slice AR (d (k + 4) % 5) cR).ownBlock ≠ some bc)) (HLTR : Hid (∀ g, (Value.slice AR (d (k + 4) % 5) cR).ownBlock = some g → wo.heap.size ≤ g ∧ g < w5.heap.size)) (hcR : (d (k + 4) % 5) ≤ cR)
    (HROW : Hid (RowC DevC 6 86 ((wa.heap.size + 1) :: v4.ownBlock.toList ++ H) wo wf.heap.size v4 (devsP d (nClk d + 1) (nDom d) (nRst d) n))) (HNE : Hid (v4.ownBlock ≠ some (wa.heap.size + 1))) (HBX : Hid (BoxAt wo (wa.heap.size + 1) [v1, v2, v3, v4])) (HDRr : Hid (DrawsTo wo (w.heap.size + 1) d 120))
    (HMb : Hid (Moved [wa.heap.size + 1] wf wo)) (HLT4 : Hid (∀ g, v4.ownBlock = some g → wf.heap.size ≤ g ∧ g < wo.heap.size)) (HH : Hid (∀ b, b ∈ H → b < wf.heap.size))
    (HBXX : Hid (BoxAt wq2 bc [.int .i64 ((d k % (nClk d + 1) : Nat) : Int), .int .i64 ((d (k + 1) % (nDom d) : Nat) : Int), .int .i64 ((d (k + 2) % (nRst d) : Nat) : Int), .int .u32 ((d (k + 3) % 3 : Nat) : Int), .slice AR (d (k + 4) % 5) cR, .slice AN m cN])) (HOWNN : Hid (wq2.ownsRow w5.heap.size 3 1 (.slice AN m cN) m (iv (need1 d k n ++ need2 d k n)))) (HMX : Hid (Moved [bc] w5 wq2)) (hml : m ≤ 2)
    (Q : Exit → Act → World → Prop) (a : Act) (ha : Fr a) (h2 : slT a 2 = p2) (h4 : slT a 4 = .slice (some ⟨w.heap.size + 1, 0, none⟩) 120 120) (h6 : slT a 6 = .pointer (some ⟨wa.heap.size + 1, 0, none⟩)) (h14 : slT a 14 = .int .i64 (n : Nat)) (h15 : slT a 15 = .int .i64 (k : Nat)) (h16 : slT a 16 = .pointer (some ⟨bc, 0, none⟩))
    (hQ : ∀ a' wx v6, Fr a' → slT a' 2 = p2 → slT a' 4 = .slice (some ⟨w.heap.size + 1, 0, none⟩) 120 120 → slT a' 6 = .pointer (some ⟨wa.heap.size + 1, 0, none⟩) → slT a' 14 = .int .i64 (n : Nat) → P5 wx wf (w.heap.size + 1) (wa.heap.size + 1) d H v1 v2 v3 v6 (n + 1) → Q .normal a' wx) :
    Code.wp Try.prog dev4 Q a wq2 := by
  have HQ := Lib.hid hQ
  clear hQ
  obtain ⟨F, rfl⟩ := ha.open_
  rw [slT_listT (by omega)] at h2
  rw [slT_listT (by omega)] at h4
  rw [slT_listT (by omega)] at h6
  rw [slT_listT (by omega)] at h14
  rw [slT_listT (by omega)] at h15
  rw [slT_listT (by omega)] at h16
  rw [lit352, h2, h4, h6, h14, h15, h16]
  clear ha h2 h4 h6 h14 h15 h16
  conv => arg 2; whnf
  obtain ⟨z0, y0⟩ := HBXX.out 0 _ rfl
  obtain ⟨z1, y1⟩ := HBXX.out 1 _ rfl
  obtain ⟨z2, y2⟩ := HBXX.out 2 _ rfl
  obtain ⟨z3, y3⟩ := HBXX.out 3 _ rfl
  obtain ⟨z4, y4⟩ := HBXX.out 4 _ rfl
  obtain ⟨z5, y5⟩ := HBXX.out 5 _ rfl
  have hMz : Moved [] wo wq2 := HM5.out.trans' HMX.out (fun j hj => .inr (by have := List.mem_singleton.1 hj; omega))
  have hbg := HBX.out.move hMz (by simp)
  obtain ⟨x3, t3⟩ := hbg 3 _ rfl
  have hzz := hMz.size
  have hz5x := HMX.out.size
  have hMa : Moved [] wo (wq2.alloc (.cells [.int .i64 ((d k : Int) % ((nClk d : Int) + 1)), .int .i64 ((d (k + 1) : Int) % (nDom d : Int)), .int .i64 ((d (k + 2) : Int) % (nRst d : Int)), .int .u32 ((d (k + 3) : Int) % 3), .slice AR (d (k + 4) % 5) cR, .slice AN m cN].toArray 86)) := hMz.trans (Moved.alloc _ _)
  have hx : DevC ((wa.heap.size + 1) :: v4.ownBlock.toList ++ H) (wq2.alloc (.cells [.int .i64 ((d k : Int) % ((nClk d : Int) + 1)), .int .i64 ((d (k + 1) : Int) % (nDom d : Int)), .int .i64 ((d (k + 2) : Int) % (nRst d : Int)), .int .u32 ((d (k + 3) : Int) % 3), .slice AR (d (k + 4) % 5) cR, .slice AN m cN].toArray 86)) (devP d (nClk d + 1) (nDom d) (nRst d) n) [.int .i64 ((d k : Int) % ((nClk d : Int) + 1)), .int .i64 ((d (k + 1) : Int) % (nDom d : Int)), .int .i64 ((d (k + 2) : Int) % (nRst d : Int)), .int .u32 ((d (k + 3) : Int) % 3), .slice AR (d (k + 4) % 5) cR, .slice AN m cN] := by
    refine devC_mk HKN.out rfl (by have := HOWNN.out.1; simpa [iv] using this) hcR (own_cap HOWNN.out) ?_ ?_
    · exact ((((HREG.out (bc :: ((wa.heap.size + 1) :: v4.ownBlock.toList ++ H)) (fun g hg => by
        intro hm
        have hgl := (HLTR.out g hg).1
        rcases List.mem_cons.1 hm with e | hm
        · subst e; exact HNER.out hg
        · rcases List.mem_append.1 hm with hm | hm
          · rcases List.mem_cons.1 hm with e | e
            · omega
            · have := (HLT4.out g (by simpa using e)).2; omega
          · have := HH.out g hm; omega)).move (HMX.out.mono (by simp))).move (Moved.alloc _ _)).less (by intro k hk; exact List.mem_cons_of_mem _ hk))
    · exact (ints_own HOWNN.out _ (fun g hg => by
        intro hm
        have hgl := (HOWNN.out.lt g hg).1
        rcases List.mem_append.1 hm with hm | hm
        · rcases List.mem_cons.1 hm with e | e
          · omega
          · have := (HLT4.out g (by simpa using e)).2; omega
        · have := HH.out g hm; omega)).move (Moved.alloc _ _)
  obtain ⟨vss, hown, hstep⟩ := row_stepH HROW.out hgs HNE.out hMa hx rfl
  rw [devsP_len] at hown hstep
  have HOWN := Lib.hid hown
  have HSTEP := Lib.hid hstep
  have HMA := Lib.hid hMa
  clear hMz hMa hx hown hstep hbg HREG
  obtain ⟨i44, hi, hz0, hz1, hz2⟩ := info_parts Try.info86
  have hd44 : n ≤ 4 := by omega
  go_wp2_with (at_builtin; refine wpList_append_own_at _ rfl _ _ 25 rfl wf.heap.size 86 i44 (.agg #[.int .i64 0, .int .i64 0, .int .i64 0, .int .u32 0, .slice none 0 0, .slice none 0 0]) 6 80 Try.underlying25 hi hz0 hz1 hz2 rfl (by decide) _ _ _ rfl HOWN.out ⟨wq2.heap.size, 0, none⟩ 1 1 [.int .i64 ((d k : Int) % ((nClk d : Int) + 1)), .int .i64 ((d (k + 1) : Int) % (nDom d : Int)), .int .i64 ((d (k + 2) : Int) % (nRst d : Int)), .int .u32 ((d (k + 3) : Int) % 3), .slice AR (d (k + 4) % 5) cR, .slice AN m cN] rfl rfl (cells_new wq2 wq2.heap.size rfl _ 86) (by intro u hu; simp at hu; rcases hu with rfl | rfl | rfl | rfl | rfl | rfl <;> rfl) (by unfold maxLen; omega) (by omega) (by simp; omega) ?_; intro v6 w6 hown6 hg6 _ hob6; obtain ⟨A6, c6, rfl⟩ := own_shape' hown6; obtain ⟨hne6, hmv6, hfin⟩ := HSTEP.out _ _ hown6 hg6 hob6; have hbx6 := (HBX.out.move HMA.out (by simp)).move (Moved.of_grown (hot := v4.ownBlock.toList) (row := v4.ownBlock) hg6 (by simp)) (by simpa using HNE.out); obtain ⟨q0, q1⟩ := hbx6 3 _ rfl; have HBX6 := Lib.hid hbx6; have HFIN := Lib.hid (hfin 3 (.slice A6 (n + 1) c6)); have HNE6 := Lib.hid hne6; clear hown6 hg6 hob6 hmv6 hfin hbx6 hne6)
  refine HQ.out _ _ _ ⟨rfl, rfl⟩ rfl rfl rfl rfl ⟨?_, HNE6.out, HBX6.out.set (by simp) _, HDRr.out.move HFIN.out.2 (by omega) ?_, HMb.out.trans' HFIN.out.2 ?_⟩
  · have := HFIN.out.1
    rwa [show devsP d (nClk d + 1) (nDom d) (nRst d) n ++ [devP d (nClk d + 1) (nDom d) (nRst d) n] = devsP d (nClk d + 1) (nDom d) (nRst d) (n + 1) from (range_snoc _ _).symm] at this
  · intro hm
    rcases List.mem_cons.1 hm with e | e
    · omega
    · have := (HLT4.out (w.heap.size + 1) (by simpa using e)).1
      omega
  · intro j hj
    rcases List.mem_cons.1 hj with e | e
    · exact .inl (by simp [e])
    · exact .inr (HLT4.out j (by simpa using e)).1

end Go.Proofs.Ytnfbhhgdibkbdaa
