/- The contract of New; same. -/
import Derived.Test.YtpieihjipdgplaaR5
namespace Go.Proofs.Ytpieihjipdgplaa
set_option linter.unusedSimpArgs false
set_option linter.unusedVariables false
open Go.RowKit Go.Maps

def rLs (rs : List Rst) : List Ln := rs.map newL
theorem rLs_snoc (rs : List Rst) (r : Rst) : rLs (rs ++ [r]) = rLs rs ++ [newL r] := by simp [rLs]
/-- lines under way -/
structure NewS (W1 wr : World) (b bl bh : Nat) (xs : List Ln) : Prop where
  lines : LinesIs wr b bl bh xs
  mv : Moved [] W1 wr
def NewOk (s : Chip) (w : World) (e : Ending) (w' : World) : Prop :=
  ∃ b bl bh, e = .returned (.tuple #[.pointer (some ⟨b, 0, none⟩), .int .i64 0]) ∧ w.heap.size ≤ b ∧ w.heap.size ≤ bl ∧ w.heap.size ≤ bh ∧ LinesIs w' b bl bh (rLs s.rsts) ∧ Below w.heap.size w w'

set_option maxRecDepth 100000 in
set_option maxHeartbeats 8000000 in
theorem new_ok (s : Chip) (vs : List Value) (w : World) (hok : ChipOk s) (h : ChipV w w.heap.size s vs) (hE : chipE s = 0) (hr : ∀ r, r ∈ s.rsts → 0 ≤ r.least ∧ r.least ≤ 20) : Calls Try.prog 11 #[.agg vs.toArray] w (NewOk s w) := by
  have HE := Lib.hid hE
  have HR := Lib.hid hr
  have HCV := Lib.hid h
  obtain ⟨A1, c1, A2, c2, A3, c3, A4, c4, rfl, -, -, -, -, -, -, hrsts, -⟩ := h
  have HRS := Lib.hid hrsts
  have HOK := Lib.hid hok
  have hst := Bx.start w [.slice A1 s.clks.length c1, .slice A2 s.doms.length c2, .slice A3 s.rsts.length c3, .slice A4 s.devs.length c4]
  have HST := Lib.hid hst
  have HC0 := Lib.hid (hst.chip HCV.out)
  have hn := hok.n3
  obtain ⟨N, hN⟩ : ∃ N, N = s.rsts.length := ⟨_, rfl⟩
  rw [← hN] at hn
  have HNN := Lib.hid hN
  have hmm := @run_makeMap Try.prog
  clear hE hok hst hrsts hr
  go_enter Try.func11, Try.ntmps11
  go_wp2_with fail
  refine (chip_check s _ _ HOK.out HC0.out).mono ?_
  rintro e w1 ⟨rfl, hb⟩
  rw [HE.out]
  have hb1 := HST.out.step hb
  have hz1 := hb1.size
  have hl0 := lines_new w1
  have hm0 : Moved [] w1 (((w1.alloc (.map #[] 0)).alloc (.map #[] 0)).alloc (.cells #[.map (some w1.heap.size), .map (some (w1.heap.size + 1))] 57)) := ((Moved.alloc _ _).trans (Moved.alloc _ _)).trans (Moved.alloc _ _)
  have hb2 := hb1.moved hm0
  have HB1 := Lib.hid hb1
  have HB2 := Lib.hid hb2
  have x0 := hb2.box 0 _ rfl
  have x1 := hb2.box 1 _ rfl
  have x2 := hb2.box 2 _ rfl
  have x3 := hb2.box 3 _ rfl
  rw [← hN] at x2
  have HS0 : RowKit.Hid (NewS w1 (((w1.alloc (.map #[] 0)).alloc (.map #[] 0)).alloc (.cells #[.map (some w1.heap.size), .map (some (w1.heap.size + 1))] 57)) (w1.heap.size + 1 + 1) w1.heap.size (w1.heap.size + 1) []) := Lib.hid ⟨hl0, hm0⟩
  clear hb hb1 hb2 HC0 HST hl0 hm0 HE hN
  go_wp2
  go_loopw [20] (fun i wr => ∃ k : Nat, k ≤ N ∧ i = .int .i64 k ∧ RowKit.Hid (NewS w1 wr (w1.heap.size + 1 + 1) w1.heap.size (w1.heap.size + 1) (rLs (s.rsts.take k)))) (fun i _ => N - (intOf i).toNat)
  case atStart => exact ⟨0, Nat.zero_le _, rfl, HS0⟩
  case round =>
    clear HS0 x0 x1 x2 x3
    obtain ⟨k, hk, rfl, HN⟩ := hrel
    by_cases hlt : k < N
    · have hlt' : k < s.rsts.length := by rw [← HNN.out]; exact hlt
      obtain ⟨x, hxk⟩ : ∃ x, x = s.rsts[k] := ⟨_, rfl⟩
      have hwr : Below w.heap.size w wr := HB1.out.low.trans (HN.out.mv.below (by simp) (by omega))
      obtain ⟨ad, us, hA, hab, hV, hAg⟩ := (HRS.out.below hwr (Nat.le_refl _)).at_ hlt'
      rw [← hxk] at hV
      have hxr := HR.out x (by rw [hxk]; exact List.getElem_mem _)
      rw [Nat.mul_one] at hAg
      have hus : us = [.int .i64 x.least] := hV
      subst hus
      have h0 := hAg.zero
      have hx : s.rsts[k]? = some x := by rw [List.getElem?_eq_getElem hlt', hxk]
      have HX := Lib.hid hx
      obtain ⟨lv⟩ := x
      simp only at h0 hxr
      have hln : (rLs (s.rsts.take k)).length = k := by simp [rLs]; omega
      have hm1 : Moved [] wr (wr.alloc (.cells #[.int .i64 lv] 49)).drew := (Moved.alloc wr _).trans ⟨rfl, rfl, rfl, Nat.le_refl _, fun _ _ _ => rfl⟩
      obtain ⟨w5, hrun5, hm5, hbx5, w6, hrun6, hl6, hm6⟩ := (HN.out.lines.move hm1).push (by rw [hln]; omega) lv hxr
      rw [hln] at hrun5 hrun6
      have r0 := (HN.out.lines.box 0 _ rfl).1
      have r0' := ((HN.out.lines.move hm1).box 0 _ rfl).1
      have r1' := (hbx5 1 _ rfl).1
      have HL6 := Lib.hid hl6
      have HM6 := Lib.hid (HN.out.mv.trans' ((hm1.mono (hot' := [w1.heap.size, w1.heap.size + 1]) (by simp)).trans hm6) (fun q hq => .inr (by simp at hq; omega)))
      have i0 : (0 : Int) ≤ (k : Int) := by omega
      have i1 : (k : Int) < (N : Int) := by omega
      subst hA
      clear hx hxk hAg hV hwr hm1 hm5 hbx5 hl6 hm6 hln hxr
      go_wp2
      go_region
      all_goals
        go_wp2
        go_roundw
        case measure => simp [intOf]; omega
        case rel =>
          refine ⟨k + 1, hlt, by go_num, Lib.hid ⟨?_, HM6.out⟩⟩
          rw [List.take_add_one, HX.out]
          show LinesIs _ _ _ _ (rLs (s.rsts.take k ++ [⟨lv⟩]))
          rw [rLs_snoc]
          exact HL6.out
    · have hke : k = N := by omega
      subst hke
      have i1 : ¬ ((k : Int) < (k : Int)) := by omega
      go_wp2
      go_ret2
      have hl := HN.out.lines
      rw [HNN.out, List.take_length] at hl
      exact ⟨w1.heap.size + 1 + 1, w1.heap.size, w1.heap.size + 1, rfl, by omega, by omega, by omega, hl, HB1.out.low.trans (HN.out.mv.below (by simp) (by omega))⟩

end Go.Proofs.Ytpieihjipdgplaa
