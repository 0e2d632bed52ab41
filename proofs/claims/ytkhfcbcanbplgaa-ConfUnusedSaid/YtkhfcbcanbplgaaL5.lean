/- The walk of catnaplaw4.ConfUnused, whole. -/
import Derived.Test.YtkhfcbcanbplgaaL4
namespace Go.Proofs.Ytkhfcbcanbplgaa
set_option linter.unusedSimpArgs false
set_option linter.unusedVariables false
open Go.RowKit Go.Maps

set_option maxRecDepth 1000000 in
set_option maxHeartbeats 8000000 in
theorem unused_tail (A : Option Addr) (c : Nat) (l : List Int) (w W : World) (g0 B : Nat) (g1 c1 nC g2 c2 nD g3 c3 nR g4 c4 nV : Nat) (ua ub uc ur : Int) (hl : l.length ≤ maxLen) (hwf : ∀ x, x ∈ l → wfI x) (h : IntsAt w w.heap.size A l)
    (hs : StF w W g0 B { chipP l with clks := (chipP l).clks.map (unC ua ub uc ur) } g1 c1 nC g2 c2 nD g3 c3 nR g4 c4 nV) (a : Act) (ha : FrN 101 a) (h0 : slT a 0 = .slice A l.length c) (h1 : slT a 1 = .int .i64 ua) (h2 : slT a 2 = .int .i64 ub) (h3 : slT a 3 = .int .i64 uc) (h4 : slT a 4 = .int .u64 ur) (h12 : slT a 12 = .pointer (some ⟨g0, 0, none⟩)) : Code.wp Try.prog tail9 (bodyPost Try.prog Try.f9 (TellsB true w)) a W := by
  have hpl := plain_of l
  have HPL := Lib.hid hpl
  have HL := Lib.hid hl
  have HWF := Lib.hid hwf
  have HI := Lib.hid ((h.below hs.bl (Nat.le_refl _)).more hs.bl.size)
  have HS := Lib.hid hs
  clear hl hwf h hs hpl
  obtain ⟨F, rfl⟩ := ha.open_
  rw [slT_listT (by omega)] at h0 h1 h2 h3 h4 h12
  rw [lit101, h0, h1, h2, h3, h4, h12]
  clear ha h0 h1 h2 h3 h4 h12
  conv => arg 2; whnf
  go_wp2_with fail
  refine (chip_any A c l W HL.out HWF.out HI.out).mono ?_
  rintro e w2 ⟨u1, u2, u3, u4, rfl, hown, hb2⟩
  obtain ⟨f1, d1, rfl, -, -⟩ := Own5.form hown.clks (by have := HPL.out.nc; omega)
  obtain ⟨f2, d2, rfl, -, -⟩ := Own5.form hown.doms (by have := HPL.out.nd; omega)
  obtain ⟨f3, d3, rfl, -, -⟩ := Own5.form hown.rsts (by have := HPL.out.nr; omega)
  obtain ⟨f4, d4, rfl, -, -⟩ := Own5.form hown.devs (by have := HPL.out.nv; omega)
  have hb3 : Below W.heap.size W (w2.alloc (.cells #[.slice (some ⟨f1, 0, none⟩) (chipP l).clks.length d1, .slice (some ⟨f2, 0, none⟩) (chipP l).doms.length d2, .slice (some ⟨f3, 0, none⟩) (chipP l).rsts.length d3, .slice (some ⟨f4, 0, none⟩) (chipP l).devs.length d4] 27)) := hb2.alloc hb2.size _
  have hA := HS.out.bx.move (Moved.of_below hb3 (hot := [])) (by simp)
  have hcA := Steady.later HS.out.own.chip hb3
  have hB := BoxAt.new w2 [.slice (some ⟨f1, 0, none⟩) (chipP l).clks.length d1, .slice (some ⟨f2, 0, none⟩) (chipP l).doms.length d2, .slice (some ⟨f3, 0, none⟩) (chipP l).rsts.length d3, .slice (some ⟨f4, 0, none⟩) (chipP l).devs.length d4] 27
  have hcB := Steady.later hown.chip ((Below.refl w2.heap.size w2).alloc (Nat.le_refl _) (.cells #[.slice (some ⟨f1, 0, none⟩) (chipP l).clks.length d1, .slice (some ⟨f2, 0, none⟩) (chipP l).doms.length d2, .slice (some ⟨f3, 0, none⟩) (chipP l).rsts.length d3, .slice (some ⟨f4, 0, none⟩) (chipP l).devs.length d4] 27))
  have hbl := HS.out.bl.trans (hb3.mono HS.out.bl.size)
  have HA := Lib.hid hA
  have HCA := Lib.hid hcA
  have HB := Lib.hid hB
  have HCB := Lib.hid hcB
  have HBL := Lib.hid hbl
  have hok0 : ChipOk (chipP l) := HPL.out.ok
  have HOK0 := Lib.hid hok0
  have hE := HPL.out.unused ua ub uc ur
  have HE := Lib.hid hE
  have htold : (ua ≠ 0 ∨ ub ≠ 0 ∨ uc ≠ 0) → eqP { chipP l with clks := (chipP l).clks.map (unC ua ub uc ur) } (chipP l) = false := fun ho => HPL.out.told ho
  have HTOLD := Lib.hid htold
  clear hA hcA hB hcB hbl hok0 hE htold hb2 hb3 hown HI HL HWF HS HPL
  go_upto_region 17 with fail
  generalize w2.alloc (.cells #[.slice (some ⟨f1, 0, none⟩) (chipP l).clks.length d1, .slice (some ⟨f2, 0, none⟩) (chipP l).doms.length d2, .slice (some ⟨f3, 0, none⟩) (chipP l).rsts.length d3, .slice (some ⟨f4, 0, none⟩) (chipP l).devs.length d4] 27) = W2 at HA HCA HB HCB HBL ⊢
  rename_i K hK
  have HK := Lib.hid hK
  clear hK
  by_cases ha0 : ua = 0
  · by_cases hb0 : ub = 0
    · by_cases hc0 : uc = 0
      · have HZ := Lib.hid ha0
        have HZ' := Lib.hid hb0
        have HZ'' := Lib.hid hc0
        have n1 : (ua == 0) = true := by simpa using ha0
        have n1' : (ua != 0) = false := by simpa using ha0
        have n2 : (ub == 0) = true := by simpa using hb0
        have n2' : (ub != 0) = false := by simpa using hb0
        have n3 : (uc == 0) = true := by simpa using hc0
        have n3' : (uc != 0) = false := by simpa using hc0
        clear ha0 hb0 hc0
        go_wp2
        refine HK.out _ _ ?_
        exact unused_lastF w W2 g0 w2.heap.size _ (chipP l) _ _ _ _ _ _ _ _ (ok_unused HOK0.out ua ub uc ur) HOK0.out HE.out HA.out HB.out HCA.out HCB.out HBL.out _ ⟨rfl, rfl⟩ rfl rfl rfl
      · have n1 : (ua == 0) = true := by simpa using ha0
        have n1' : (ua != 0) = false := by simpa using ha0
        have n2 : (ub == 0) = true := by simpa using hb0
        have n2' : (ub != 0) = false := by simpa using hb0
        have n3 : (uc == 0) = false := by simpa using hc0
        have n3' : (uc != 0) = true := by simpa using hc0
        have HZ := Lib.hid hc0
        clear ha0 hb0 hc0
        go_wp2
        refine HK.out _ _ ?_
        exact unused_lastT w W2 g0 w2.heap.size _ (chipP l) _ _ _ _ _ _ _ _ (ok_unused HOK0.out ua ub uc ur) HOK0.out HE.out (HTOLD.out (by exact .inr (.inr HZ.out))) HA.out HB.out HCA.out HCB.out HBL.out _ ⟨rfl, rfl⟩ rfl rfl rfl
    · have n1 : (ua == 0) = true := by simpa using ha0
      have n1' : (ua != 0) = false := by simpa using ha0
      have n2 : (ub == 0) = false := by simpa using hb0
      have n2' : (ub != 0) = true := by simpa using hb0
      have HZ := Lib.hid hb0
      clear ha0 hb0
      go_wp2
      refine HK.out _ _ ?_
      exact unused_lastT w W2 g0 w2.heap.size _ (chipP l) _ _ _ _ _ _ _ _ (ok_unused HOK0.out ua ub uc ur) HOK0.out HE.out (HTOLD.out (by exact .inr (.inl HZ.out))) HA.out HB.out HCA.out HCB.out HBL.out _ ⟨rfl, rfl⟩ rfl rfl rfl
  · have n1 : (ua == 0) = false := by simpa using ha0
    have n1' : (ua != 0) = true := by simpa using ha0
    have HZ := Lib.hid ha0
    clear ha0
    go_wp2
    refine HK.out _ _ ?_
    exact unused_lastT w W2 g0 w2.heap.size _ (chipP l) _ _ _ _ _ _ _ _ (ok_unused HOK0.out ua ub uc ur) HOK0.out HE.out (HTOLD.out (by exact .inl HZ.out)) HA.out HB.out HCA.out HCB.out HBL.out _ ⟨rfl, rfl⟩ rfl rfl rfl

set_option maxRecDepth 1000000 in
set_option maxHeartbeats 8000000 in
theorem unused_any (A : Option Addr) (c : Nat) (l : List Int) (ua ub uc ur : Int) (w : World) (hm : l.length ≤ 9223372036854775807) (h : IntsAt w w.heap.size A l) (hwf : ∀ x, x ∈ l → wfI x) :
    Calls Try.prog 9 #[.slice A l.length c, .int .i64 ua, .int .i64 ub, .int .i64 uc, .int .u64 ur] w (TellsB true w) := by
  have hl : l.length ≤ maxLen := by unfold maxLen; omega
  have HL := Lib.hid hl
  have HWF := Lib.hid hwf
  have HI := Lib.hid h
  clear hl hwf h hm
  go_enter Try.func9, Try.ntmps9
  go_wp2_with fail
  refine (shown_any _).mono ?_
  rintro e w1 ⟨rfl, hb1⟩
  have HB1 := Lib.hid hb1
  have hz1 := hb1.size
  clear hb1
  go_wp2_with fail
  refine (chip_any A c l w1 HL.out HWF.out ((HI.out.below HB1.out (Nat.le_refl _)).more hz1)).mono ?_
  rintro e w2 ⟨x1, x2, x3, x4, rfl, hown0, hb2⟩
  have hpl := plain_of l
  obtain ⟨s, hs⟩ : ∃ s, s = chipP l := ⟨_, rfl⟩
  rw [← hs] at hown0 hpl
  have HSE := Lib.hid hs
  have HPL := Lib.hid hpl
  have HCV := Lib.hid hown0.chip
  have HB2 := Lib.hid (HB1.out.trans (hb2.mono hz1))
  have hz2 := hb2.size
  clear hs hpl hown0 hb2
  go_wp2_with fail
  refine (copy_any s [x1, x2, x3, x4] w2 HPL.out.ok HCV.out).mono ?_
  rintro e w3 ⟨v1, v2, v3, v4, rfl, hown, hb3⟩
  obtain ⟨g1, c1, rfl, f1, t1⟩ := Own5.form hown.clks (by have := HPL.out.nc; omega)
  obtain ⟨g2, c2, rfl, f2, t2⟩ := Own5.form hown.doms (by have := HPL.out.nd; omega)
  obtain ⟨g3, c3, rfl, f3, t3⟩ := Own5.form hown.rsts (by have := HPL.out.nr; omega)
  obtain ⟨g4, c4, rfl, f4, t4⟩ := Own5.form hown.devs (by have := HPL.out.nv; omega)
  have hz3 := hb3.size
  have hst : StF w (w3.alloc (.cells #[.slice (some ⟨g1, 0, none⟩) s.clks.length c1, .slice (some ⟨g2, 0, none⟩) s.doms.length c2, .slice (some ⟨g3, 0, none⟩) s.rsts.length c3, .slice (some ⟨g4, 0, none⟩) s.devs.length c4] 27)) w3.heap.size w2.heap.size s g1 c1 s.clks.length g2 c2 s.doms.length g3 c3 s.rsts.length g4 c4 s.devs.length :=
    ⟨rfl, rfl, rfl, rfl, hown.box _, BoxAt.new w3 _ 27, HB2.out.trans ((hb3.mono HB2.out.size).alloc (by have := HB2.out.size; omega) _), HB2.out.size, by simp, hz3⟩
  have HST := Lib.hid hst
  clear hb3 hst hown HB1 HCV HB2
  go_upto_region 5 with fail
  generalize w3.alloc (.cells #[.slice (some ⟨g1, 0, none⟩) s.clks.length c1, .slice (some ⟨g2, 0, none⟩) s.doms.length c2, .slice (some ⟨g3, 0, none⟩) s.rsts.length c3, .slice (some ⟨g4, 0, none⟩) s.devs.length c4] 27) = W at HST ⊢
  obtain ⟨x0, y0⟩ := HST.out.bx 0 _ rfl
  go_wp2
  clear x0 y0
  refine unused_loop w W w3.heap.size w2.heap.size s g1 c1 _ g2 c2 _ g3 c3 _ g4 c4 _ ua ub uc ur (.slice A l.length c) rfl HST.out HPL.out.nc _ ⟨rfl, rfl⟩ rfl rfl rfl rfl rfl rfl rfl _ ?_
  intro a' W' hF q0 q1 q2 q3 q4 q12 hs'
  simp only [Exit.then, Exit.inBlock, ↓reduceIte]
  go_step
  rw [HSE.out] at hs'
  exact unused_tail A c l w W' w3.heap.size w2.heap.size g1 c1 _ g2 c2 _ g3 c3 _ g4 c4 _ ua ub uc ur HL.out HWF.out HI.out hs' a' hF q0 q1 q2 q3 q4 q12
theorem unused_arg (A : Option Addr) (c : Nat) (l : List Int) (ua ub uc ur : Int) (w : World) (hm : l.length ≤ 9223372036854775807) (h : IntsAt w w.heap.size A l) (hwf : ∀ x, x ∈ l → wfI x) :
    Calls Try.prog 9 #[.slice A l.length c, .int .i64 ua, .int .i64 ub, .int .i64 uc, .int .u64 ur] w fun e w' => e = .returned (.bool true) ∧ Below w.heap.size w w' :=
  unused_any A c l ua ub uc ur w hm h hwf

end Go.Proofs.Ytkhfcbcanbplgaa
