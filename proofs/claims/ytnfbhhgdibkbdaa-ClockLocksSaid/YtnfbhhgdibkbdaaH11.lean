/- The contract of catnaplaw4.chip, in parts: H11. (Written by wip/tools/h1.py.) -/
import Derived.Test.YtnfbhhgdibkbdaaH1
import Derived.Test.YtnfbhhgdibkbdaaH2
import Derived.Test.YtnfbhhgdibkbdaaH3
import Derived.Test.YtnfbhhgdibkbdaaH4
import Derived.Test.YtnfbhhgdibkbdaaH10
namespace Go.Proofs.Ytnfbhhgdibkbdaa
set_option linter.unusedSimpArgs false
set_option linter.unusedVariables false
open Go.RowKit Go.Maps

/-- a chip all of whose rows the call owns; none of what lies inside is in a block of L -/
structure OwnL (L : List Nat) (w : World) (B : Nat) (s : Chip) (v1 v2 v3 v4 : Value) : Prop where
  own : Own4 w B s v1 v2 v3 v4
  clks : RowC ClkC 6 46 (hot4 v1 v2 v3 v4 ++ L) w B v1 s.clks
  devs : RowC DevC 6 86 (hot4 v1 v2 v3 v4 ++ L) w B v4 s.devs
def ChipPostL (L : List Nat) (w : World) (s : Chip) (e : Ending) (w' : World) : Prop :=
  ∃ v1 v2 v3 v4, e = .returned (.agg #[v1, v2, v3, v4]) ∧ OwnL L w' w.heap.size s v1 v2 v3 v4 ∧ Below w.heap.size w w'
def ChipPost (w : World) (s : Chip) (e : Ending) (w' : World) : Prop :=
  ∃ v1 v2 v3 v4, e = .returned (.agg #[v1, v2, v3, v4]) ∧ Own4 w' w.heap.size s v1 v2 v3 v4 ∧ Below w.heap.size w w'
theorem toList_mem {g : Nat} {v : Value} (h : g ∈ v.ownBlock.toList) : v.ownBlock = some g := by simpa using h
/-- what stands at the end, the result stored in its cell -/
theorem chip_fin (L : List Nat) (w wa wb wd wf wg : World) (d : Nat → Nat) {v1 v2 v3 v4 : Value} (r1 : RowC ClkC 6 46 ((wa.heap.size + 1) :: v1.ownBlock.toList ++ (w.heap.size :: L)) wb wa.heap.size v1 (clksP d (nClk d))) (r2 : RowC DomC 3 75 ((wa.heap.size + 1) :: v2.ownBlock.toList) wd wb.heap.size v2 (domsP d (nDom d)))
    (r3 : RowC RstC 1 80 ((wa.heap.size + 1) :: v3.ownBlock.toList) wf wd.heap.size v3 (rstsP d (nRst d))) (r4 : RowC DevC 6 86 ((wa.heap.size + 1) :: v4.ownBlock.toList ++ (w.heap.size :: (v1.ownBlock.toList ++ v2.ownBlock.toList ++ v3.ownBlock.toList ++ L))) wg wf.heap.size v4 (devsP d (nClk d + 1) (nDom d) (nRst d) (nDev d)))
    (n1 : v1.ownBlock ≠ some (wa.heap.size + 1)) (n2 : v2.ownBlock ≠ some (wa.heap.size + 1)) (n3 : v3.ownBlock ≠ some (wa.heap.size + 1)) (n4 : v4.ownBlock ≠ some (wa.heap.size + 1))
    (m2 : Moved [w.heap.size + 1] ((w.alloc (.cells #[.slice none 0 0, .slice none 0 0, .slice none 0 0, .slice none 0 0] 27)).alloc (.cells (madeCells #[.int .i64 0] 120) 3)) wb) (m3 : Moved [wa.heap.size + 1] wb wd) (m5 : Moved [wa.heap.size + 1] wd wf) (m6 : Moved [wa.heap.size + 1] wf wg) (ha : w.heap.size + 1 + 1 ≤ wa.heap.size) (hab : wa.heap.size + 1 < wb.heap.size) :
    ∀ wz, Moved [w.heap.size] wg wz → OwnL L wz w.heap.size (chipD d) v1 v2 v3 v4 ∧ Below w.heap.size w wz := by
  intro wz mz
  obtain ⟨A1, c1, e1, l1, b1⟩ := r1.shape
  obtain ⟨A2, c2, e2, l2, b2⟩ := r2.shape
  obtain ⟨A3, c3, e3, l3, b3⟩ := r3.shape
  obtain ⟨A4, c4, e4, l4, b4⟩ := r4.shape
  clear e1 e2 e3 e4 l1 l2 l3 l4
  have s2 := m3.size
  have s3 := m5.size
  have s4 := m6.size
  have s5 := mz.size
  have k1 : ∀ g, v1.ownBlock = some g → wa.heap.size ≤ g ∧ g < wb.heap.size ∧ g ≠ wa.heap.size + 1 := fun g h => ⟨(b1 g h).1, (b1 g h).2, fun e => n1 (e ▸ h)⟩
  have k2 : ∀ g, v2.ownBlock = some g → wb.heap.size ≤ g ∧ g < wd.heap.size ∧ g ≠ wa.heap.size + 1 := fun g h => ⟨(b2 g h).1, (b2 g h).2, fun e => n2 (e ▸ h)⟩
  have k3 : ∀ g, v3.ownBlock = some g → wd.heap.size ≤ g ∧ g < wf.heap.size ∧ g ≠ wa.heap.size + 1 := fun g h => ⟨(b3 g h).1, (b3 g h).2, fun e => n3 (e ▸ h)⟩
  have k4 : ∀ g, v4.ownBlock = some g → wf.heap.size ≤ g ∧ g < wg.heap.size ∧ g ≠ wa.heap.size + 1 := fun g h => ⟨(b4 g h).1, (b4 g h).2, fun e => n4 (e ▸ h)⟩
  have M4z : Moved [wa.heap.size + 1, w.heap.size] wf wz := (m6.mono (by simp)).trans (mz.mono (by simp))
  have M3z : Moved [wa.heap.size + 1, w.heap.size] wd wz := (m5.mono (by simp)).trans M4z
  have M2z : Moved [wa.heap.size + 1, w.heap.size] wb wz := (m3.mono (by simp)).trans M3z
  have R1 : RowC ClkC 6 46 (hot4 v1 v2 v3 v4 ++ L) wz wa.heap.size v1 (clksP d (nClk d)) := by
    have r1' := r1.mores (L := v2.ownBlock.toList ++ v3.ownBlock.toList ++ v4.ownBlock.toList) fun b hb => by
      rcases List.mem_append.1 hb with hb | hb
      · rcases List.mem_append.1 hb with hb | hb
        · exact (k2 b (toList_mem hb)).1
        · have := (k3 b (toList_mem hb)).1; omega
      · have := (k4 b (toList_mem hb)).1; omega
    refine (r1'.move (M2z.mono (by simp)) fun g hg => M2z.block g (k1 g hg).2.1 ?_).less ?_
    · have := k1 g hg
      simp
      omega
    · intro k hk
      unfold hot4 at hk
      simp only [List.mem_append, List.mem_cons] at hk ⊢
      rcases hk with (((hk | hk) | hk) | hk) | hk
      · exact .inr (.inl (.inr hk))
      · exact .inl (.inl (.inl hk))
      · exact .inl (.inl (.inr hk))
      · exact .inl (.inr hk)
      · exact .inr (.inr (.inr hk))
  have R2 : RowC DomC 3 75 (hot4 v1 v2 v3 v4) wz wb.heap.size v2 (domsP d (nDom d)) :=
    (RowC.doms (hot' := [wa.heap.size + 1, w.heap.size]) r2).move M3z (fun g hg => M3z.block g (k2 g hg).2.1 (by have := k2 g hg; simp; omega)) |>.doms
  have R3 : RowC RstC 1 80 (hot4 v1 v2 v3 v4) wz wd.heap.size v3 (rstsP d (nRst d)) :=
    (RowC.rsts (hot' := [wa.heap.size + 1, w.heap.size]) r3).move M4z (fun g hg => M4z.block g (k3 g hg).2.1 (by have := k3 g hg; simp; omega)) |>.rsts
  have R4 : RowC DevC 6 86 (hot4 v1 v2 v3 v4 ++ L) wz wf.heap.size v4 (devsP d (nClk d + 1) (nDom d) (nRst d) (nDev d)) := by
    refine (r4.move (mz.mono (by intro k hk; rw [List.mem_singleton.1 hk]; simp)) fun g hg => mz.block g (k4 g hg).2.1 ?_).less ?_
    · have := k4 g hg
      simp
      omega
    · intro k hk
      unfold hot4 at hk
      simp only [List.mem_append, List.mem_cons] at hk ⊢
      rcases hk with (((hk | hk) | hk) | hk) | hk
      · exact .inr (.inr (.inl (.inl (.inl hk))))
      · exact .inr (.inr (.inl (.inl (.inr hk))))
      · exact .inr (.inr (.inl (.inr hk)))
      · exact .inl (.inr hk)
      · exact .inr (.inr (.inr hk))
  refine ⟨⟨⟨(R1.less (fun k hk => List.mem_append_left _ hk)).base (by omega), R2.base (by omega), R3.base (by omega), (R4.less (fun k hk => List.mem_append_left _ hk)).base (by omega), ?_, ?_, ?_, ?_, ?_, ?_⟩, R1.base (by omega), R4.base (by omega)⟩, ?_⟩
  · intro g h e; have := k1 g h; have := k2 g e; omega
  · intro g h e; have := k1 g h; have := k3 g e; omega
  · intro g h e; have := k1 g h; have := k4 g e; omega
  · intro g h e; have := k2 g h; have := k3 g e; omega
  · intro g h e; have := k2 g h; have := k4 g e; omega
  · intro g h e; have := k3 g h; have := k4 g e; omega
  · have hb2 : Below w.heap.size w ((w.alloc (.cells #[.slice none 0 0, .slice none 0 0, .slice none 0 0, .slice none 0 0] 27)).alloc (.cells (madeCells #[.int .i64 0] 120) 3)) := ((Below.refl w.heap.size w).alloc (Nat.le_refl _) _).alloc (by simp) _
    exact (hb2.trans (m2.below (by simp) (by simp; omega))).trans (M2z.below (by simp; omega) (by omega))
set_option maxRecDepth 1000000 in
set_option maxHeartbeats 8000000 in
theorem chip_own (L : List Nat) (A : Option Addr) (c : Nat) (l : List Int) (w : World) (hLL : Hid (∀ b, b ∈ L → b < w.heap.size)) (hl : l.length ≤ maxLen) (hwf : ∀ x, x ∈ l → wfI x) (h : IntsAt w w.heap.size A l) :
    Calls Try.prog 14 #[.slice A l.length c] w (ChipPostL L w (chipP l)) := by
  have hmk := make_120
  have HI := Lib.hid h
  have HWF := Lib.hid hwf
  have HL := Lib.hid hl
  have hd0 := draws_new (w.alloc (.cells #[.slice none 0 0, .slice none 0 0, .slice none 0 0, .slice none 0 0] 27)) (drawP l)
  simp only [World.size_alloc] at hd0
  have HD0 := Lib.hid hd0
  clear h hwf hd0 hl
  go_enter Try.func14, Try.ntmps14
  go_wp2
  refine loop1_any A c l w HL.out HWF.out HI.out (.pointer (some ⟨w.heap.size, 0, none⟩)) _ _ _ ⟨rfl, rfl⟩ rfl rfl rfl rfl HD0.out (Moved.refl _ _) ?_
  clear HI HWF HD0 HL
  intro a1 wa hF1 q2 q4 hdr hM
  simp only [Exit.then, Exit.inBlock, ↓reduceIte]
  obtain ⟨F1, rfl⟩ := hF1.open_
  rw [slT_listT (by omega)] at q2 q4
  rw [lit352, q2, q4]
  clear hF1 q2 q4
  obtain ⟨d, hdd⟩ : ∃ d, d = drawP l := ⟨_, rfl⟩
  rw [← hdd] at hdr
  have hlt : ∀ i, d i < 1000000 := fun i => by rw [hdd]; exact drawP_lt l i
  have hcp : chipP l = chipD d := by unfold chipP; rw [hdd]
  have HCP := Lib.hid hcp
  clear hdd hcp hmk
  have HDR := Lib.hid hdr
  have HLT := Lib.hid hlt
  have c0 := (hdr 0 (by omega)).2
  rw [if_pos (by omega)] at c0
  have b0 := hlt 0
  have hMsz := hM.size
  simp only [World.size_alloc] at hMsz
  have hP2 : P2 (wa4 wa d) (w.heap.size + 1) (wa.heap.size + 1) wa.heap.size d (w.heap.size :: L) (.slice (some ⟨wa.heap.size, 0, none⟩) 1 1) 0 := ⟨startP2 wa d _, (start2 wa d).2.1, (start2 wa d).2.2, HDR.out.grown (start_grown wa d) (by omega) (by simp)⟩
  have HP2 := Lib.hid hP2
  have hM4 : Moved [w.heap.size + 1] ((w.alloc (.cells #[.slice none 0 0, .slice none 0 0, .slice none 0 0, .slice none 0 0] 27)).alloc (.cells (madeCells #[.int .i64 0] 120) 3)) (wa4 wa d) := hM.trans (Moved.of_grown (start_grown wa d) (fun k h => by cases h))
  have HM4 := Lib.hid hM4
  clear hdr hlt hM hP2 hM4
  go_wp2
  refine loop2_any L w wa (Lib.hid (fun b hb => by rcases List.mem_cons.1 hb with e | hb; omega; exact Nat.le_of_lt (hLL.out b hb))) d HLT.out hMsz (.pointer (some ⟨w.heap.size, 0, none⟩)) _ _ _ _ ⟨rfl, rfl⟩ rfl rfl rfl rfl rfl rfl HP2.out HM4.out ?_
  clear HP2 HM4 c0
  intro a2 wb v1 hF2 q2 q4 q6 hp2 hM2
  obtain ⟨hrow1, hne1, hbx1, hdr1⟩ := hp2
  have HROW1 := Lib.hid hrow1
  have HNE1 := Lib.hid hne1
  have HBX1 := Lib.hid hbx1
  have HDR1 := Lib.hid hdr1
  have HM2 := Lib.hid hM2
  have hgs0 := hbx1.lt
  have hz2 := hM2.size
  simp only [World.size_alloc] at hz2
  clear hrow1 hne1 hbx1 hdr1 hM2
  simp only [Exit.then, Exit.inBlock, ↓reduceIte]
  obtain ⟨F2, rfl⟩ := hF2.open_
  rw [slT_listT (by omega)] at q2 q4 q6
  rw [lit352, q2, q4, q6]
  clear hF2 q2 q4 q6
  go_wp2
  refine loop3_any w wa d HLT.out hMsz wb (by omega) hgs0 (.pointer (some ⟨w.heap.size, 0, none⟩)) _ _ v1 ⟨rfl, rfl⟩ rfl rfl rfl rfl HBX1.out HDR1.out ?_
  intro a3 wd v2 hF3 q2 q4 q6 hp3
  obtain ⟨hrow2, hne2, hbx2, hdr2, hM3⟩ := hp3
  have HROW2 := Lib.hid hrow2
  have HNE2 := Lib.hid hne2
  have HBX2 := Lib.hid hbx2
  have HDR2 := Lib.hid hdr2
  have HM3 := Lib.hid hM3
  have hz3 := hM3.size
  clear hrow2 hne2 hbx2 hdr2 hM3
  simp only [Exit.then, Exit.inBlock, ↓reduceIte]
  obtain ⟨F3, rfl⟩ := hF3.open_
  rw [slT_listT (by omega)] at q2 q4 q6
  rw [lit352, q2, q4, q6]
  clear hF3 q2 q4 q6
  go_wp2
  refine loop4_any w wa d HLT.out hMsz wd (by omega) (by omega) (.pointer (some ⟨w.heap.size, 0, none⟩)) _ _ v1 v2 ⟨rfl, rfl⟩ rfl rfl rfl rfl HBX2.out HDR2.out ?_
  intro a4 wf v3 hF4 q2 q4 q6 hp4
  obtain ⟨hrow3, hne3, hbx3, hdr3, hM5⟩ := hp4
  have HROW3 := Lib.hid hrow3
  have HNE3 := Lib.hid hne3
  have HBX3 := Lib.hid hbx3
  have HDR3 := Lib.hid hdr3
  have HM5 := Lib.hid hM5
  have hz4 := hM5.size
  clear hrow3 hne3 hbx3 hdr3 hM5
  simp only [Exit.then, Exit.inBlock, ↓reduceIte]
  obtain ⟨F4, rfl⟩ := hF4.open_
  rw [slT_listT (by omega)] at q2 q4 q6
  rw [lit352, q2, q4, q6]
  clear hF4 q2 q4 q6
  go_wp2
  obtain ⟨A1, c1, e1, l1, b1⟩ := HROW1.out.shape
  obtain ⟨A2, c2, e2, l2, b2⟩ := HROW2.out.shape
  obtain ⟨A3, c3, e3, l3, b3⟩ := HROW3.out.shape
  rw [clksP_len] at e1 l1
  rw [domsP_len] at e2 l2
  rw [rstsP_len] at e3 l3
  subst e1
  subst e2
  subst e3
  have hH : ∀ b, b ∈ w.heap.size :: ((Value.slice A1 (nClk d + 1) c1).ownBlock.toList ++ (Value.slice A2 (nDom d) c2).ownBlock.toList ++ (Value.slice A3 (nRst d) c3).ownBlock.toList ++ L) → b < wf.heap.size := fun b hb => by
    rcases List.mem_cons.1 hb with e | hb
    · omega
    · rcases List.mem_append.1 hb with hb | hb
      · rcases List.mem_append.1 hb with hb | hb
        · rcases List.mem_append.1 hb with hb | hb
          · have := (b1 b (by simpa using hb)).2; omega
          · have := (b2 b (by simpa using hb)).2; omega
        · have := (b3 b (by simpa using hb)).2; omega
      · have := hLL.out b hb; omega
  have hp5 : P5 wf wf (w.heap.size + 1) (wa.heap.size + 1) d (w.heap.size :: ((Value.slice A1 (nClk d + 1) c1).ownBlock.toList ++ (Value.slice A2 (nDom d) c2).ownBlock.toList ++ (Value.slice A3 (nRst d) c3).ownBlock.toList ++ L)) (.slice A1 (nClk d + 1) c1) (.slice A2 (nDom d) c2) (.slice A3 (nRst d) c3) (.slice none 0 0) 0 :=
    ⟨RowC.nil DevC _ _ _ _ _, by simp [Value.ownBlock], HBX3.out, HDR3.out, Moved.refl _ _⟩
  refine loop5_any w wa wf d _ A1 A2 A3 c1 c2 c3 (.pointer (some ⟨w.heap.size, 0, none⟩)) HLT hMsz (by omega) (by omega) (Lib.hid hH) l1 l2 l3 _ _ ⟨rfl, rfl⟩ rfl rfl rfl rfl _ hp5 _ ?_
  clear hp5 HDR HDR1 HDR2 HDR3 HBX1 HBX2 HBX3 HLT
  intro a5 wg v4 hF5 q2 q6 hp6
  obtain ⟨hrow4, hne4, hbx4, -, hM6⟩ := hp6
  have HROW4 := Lib.hid hrow4
  have HBX4 := Lib.hid hbx4
  have HM6 := Lib.hid hM6
  have hz5 := hM6.size
  obtain ⟨A4, c4, e4, l4, b4⟩ := hrow4.shape
  rw [devsP_len] at e4 l4
  subst e4
  have HH := Lib.hid hH
  have hbr : BoxAt wg w.heap.size [.slice none 0 0, .slice none 0 0, .slice none 0 0, .slice none 0 0] :=
    ((((BoxAt.of_blk (t := 27) (by rw [heap_alloc_old _ _ (by simp), heap_alloc_new])).move HM2.out (by simp)).move HM3.out (by simp; omega)).move HM5.out (by simp; omega)).move HM6.out (by simp; omega)
  obtain ⟨x0, y0⟩ := hbr 0 _ rfl
  obtain ⟨x1, y1⟩ := hbr 1 _ rfl
  obtain ⟨x2, y2⟩ := hbr 2 _ rfl
  obtain ⟨x3, y3⟩ := hbr 3 _ rfl
  obtain ⟨z0, t0⟩ := hbx4 0 _ rfl
  obtain ⟨z1, t1⟩ := hbx4 1 _ rfl
  obtain ⟨z2, t2⟩ := hbx4 2 _ rfl
  obtain ⟨z3, t3⟩ := hbx4 3 _ rfl
  have hfin := chip_fin L w wa wb wd wf wg d HROW1.out HROW2.out HROW3.out HROW4.out HNE1.out HNE2.out HNE3.out hne4 HM2.out HM3.out HM5.out HM6.out (by omega) (by omega)
  have HFIN := Lib.hid hfin
  clear hfin hrow4 hne4 hbx4 hM6 hbr HROW1 HROW2 HROW3 HROW4 HNE1 HNE2 HNE3 HM2 HM3 HM5 HM6 hH HH b1 b2 b3 b4 HBX4
  simp only [Exit.then, Exit.inBlock, ↓reduceIte]
  obtain ⟨F5, rfl⟩ := hF5.open_
  rw [slT_listT (by omega)] at q2 q6
  rw [lit352, q2, q6]
  clear hF5 q2 q6
  go_wp2
  have hfin := HFIN.out _ ((((Moved.setCell wg (p := ⟨w.heap.size, 0, none⟩) (hot := [w.heap.size]) (by simp) (.slice A1 (nClk d + 1) c1)).trans (Moved.setCell _ (p := ⟨w.heap.size, 1, none⟩) (by simp) (.slice A2 (nDom d) c2))).trans (Moved.setCell _ (p := ⟨w.heap.size, 2, none⟩) (by simp) (.slice A3 (nRst d) c3))).trans (Moved.setCell _ (p := ⟨w.heap.size, 3, none⟩) (by simp) (.slice A4 (nDev d) c4)))
  refine bodyPost_ret (v := .agg #[.slice A1 (nClk d + 1) c1, .slice A2 (nDom d) c2, .slice A3 (nRst d) c3, .slice A4 (nDev d) c4]) (by simp [results, Try.results14, go_sem, x0, x1, x2, x3, y0, y1, y2, y3]) rfl ⟨_, _, _, _, rfl, ?_⟩
  rw [HCP.out]
  exact hfin

theorem chip_any (A : Option Addr) (c : Nat) (l : List Int) (w : World) (hl : l.length ≤ maxLen) (hwf : ∀ x, x ∈ l → wfI x) (h : IntsAt w w.heap.size A l) :
    Calls Try.prog 14 #[.slice A l.length c] w (ChipPost w (chipP l)) :=
  (chip_own [] A c l w (Lib.hid (fun b hb => absurd hb (by simp))) hl hwf h).mono fun e w' ⟨v1, v2, v3, v4, he, ho, hb⟩ => ⟨v1, v2, v3, v4, he, ho.own, hb⟩

end Go.Proofs.Ytnfbhhgdibkbdaa
