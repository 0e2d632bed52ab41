/- power.New: of a description that is not right there is no grid; else all domains are as they are at first. -/
import Derived.Test.YtlhmcpkfmnmhfaaZ5
import Derived.Test.YtlhmcpkfmnmhfaaW13
import Derived.Deep.AppendLies
namespace Go.Proofs.Ytlhmcpkfmnmhfaa
set_option linter.unusedSimpArgs false
set_option linter.unusedVariables false
open Go.RowKit Go.Maps

/-- the box of a description stands -/
def Bx (w : World) (vs : List Value) (W : World) : Prop := Below (w.heap.size + 1) (w.alloc (.cells vs.toArray 30)) W
namespace Bx
variable {w W W' : World} {vs : List Value}
theorem start (w : World) (vs : List Value) : Bx w vs (w.alloc (.cells vs.toArray 30)) := Below.refl _ _
theorem box (h : Bx w vs W) : ∀ j u, vs[j]? = some u → W.cell? ⟨w.heap.size, j, none⟩ = some u := fun j u hj =>
  (Below.cell h (p := ⟨w.heap.size, j, none⟩) (by show w.heap.size < w.heap.size + 1; omega)).trans ((BoxAt.new w vs 30) j u hj).1
theorem low (h : Bx w vs W) : Below w.heap.size w W := ((Below.refl w.heap.size w).alloc (Nat.le_refl _) (.cells vs.toArray 30)).trans (Below.mono h (Nat.le_succ _))
theorem size (h : Bx w vs W) : w.heap.size + 1 ≤ W.heap.size := by
  have := Below.size h
  simpa using this
theorem chip {s : Chip} (h : Bx w vs W) (hx : ChipV w w.heap.size s vs) : ChipV W W.heap.size s vs := Steady.later hx h.low
theorem step (h : Bx w vs W) (hb : Below W.heap.size W W') : Bx w vs W' := Below.trans h (hb.mono h.size)
theorem moved (h : Bx w vs W) (hm : Moved [] W W') : Bx w vs W' := Below.trans h (hm.below (by simp) h.size)
end Bx
def NewErr (E : Int) (w : World) (e : Ending) (w' : World) : Prop := e = .returned (.tuple #[.pointer none, .int .i64 E]) ∧ Below w.heap.size w w'
set_option maxRecDepth 100000 in
set_option maxHeartbeats 4000000 in
theorem new_err (s : Chip) (vs : List Value) (w : World) (hok : ChipOk s) (h : ChipV w w.heap.size s vs) (hE : chipE s ≠ 0) : Calls Try.prog 11 #[.agg vs.toArray] w (NewErr (chipE s) w) := by
  obtain ⟨E, hEE⟩ : ∃ E, chipE s = E := ⟨_, rfl⟩
  rw [hEE] at hE ⊢
  have HE := Lib.hid hEE
  have hz : (E != 0) = true := by simpa using hE
  have HCV := Lib.hid h
  obtain ⟨A1, c1, A2, c2, A3, c3, A4, c4, rfl, -, -, -, -, -, -, -, -⟩ := h
  have HOK := Lib.hid hok
  have hst := Bx.start w [.slice A1 s.clks.length c1, .slice A2 s.doms.length c2, .slice A3 s.rsts.length c3, .slice A4 s.devs.length c4]
  have HST := Lib.hid hst
  have HC0 := Lib.hid (hst.chip HCV.out)
  clear hE hEE hok hst
  go_enter Try.func11, Try.ntmps11
  go_wp2_with fail
  refine (chip_check s _ _ HOK.out HC0.out).mono ?_
  rintro e w1 ⟨rfl, hb⟩
  rw [HE.out]
  have HB1 := Lib.hid (HST.out.step hb)
  clear hb
  go_wp2
  go_ret2
  exact ⟨rfl, HB1.out.low⟩

def pstVs (sts : List Pst) : List Value := sts.flatMap pstL
theorem pstVs_snoc (sts : List Pst) (x : Pst) : pstVs (sts ++ [x]) = pstVs sts ++ pstL x := by simp [pstVs]
theorem rowC_of_own {w : World} {B n : Nat} {v : Value} {sts : List Pst} {hot : List Nat} (hn : sts.length = n) (h : w.ownsRow B 75 6 v n (pstVs sts)) : RowC PstC 6 75 hot w B v sts := by
  subst hn
  refine ⟨sts.map pstL, by simp, fun k x vs hx hv => ?_, by rw [← List.flatMap_def]; exact h⟩
  rw [List.getElem?_map, hx] at hv
  obtain rfl := Option.some.inj hv
  exact ⟨rfl, rfl⟩
theorem Try.info75 : (Try.prog.info? 75).map (fun i => (i.zero, i.size, i.bytes)) = some (some (.agg #[.int .i64 0, .int .i64 0, .bool false, .int .u8 0, .int .i64 0, .bool false]), 6, 48) := by kernel_rfl

/-- a grid under way: its box, and the row that the call owns -/
structure NewS (W1 wr : World) (gt : Nat) (C : Option Addr) (n d : Nat) (sts : List Pst) : Prop where
  box : BoxAt wr gt [.slice C n d]
  own : wr.ownsRow (gt + 1) 75 6 (.slice C n d) n (pstVs sts)
  len : sts.length = n
  mv : Moved [gt] W1 wr
def NewOk (s : Chip) (w : World) (e : Ending) (w' : World) : Prop :=
  ∃ gt g c, e = .returned (.tuple #[.pointer (some ⟨gt, 0, none⟩), .int .i64 0]) ∧ w.heap.size ≤ gt ∧ w.heap.size ≤ g ∧ GridIs w' gt g c (s.doms.map newP) ∧ Below w.heap.size w w'

set_option maxRecDepth 100000 in
set_option maxHeartbeats 8000000 in
theorem new_ok (s : Chip) (vs : List Value) (w : World) (hok : ChipOk s) (h : ChipV w w.heap.size s vs) (hE : chipE s = 0) (hp : 0 < s.doms.length) : Calls Try.prog 11 #[.agg vs.toArray] w (NewOk s w) := by
  have HE := Lib.hid hE
  have HCV := Lib.hid h
  obtain ⟨A1, c1, A2, c2, A3, c3, A4, c4, rfl, -, -, -, -, -, hdoms, -, -⟩ := h
  have HDOM := Lib.hid hdoms
  have HOK := Lib.hid hok
  have hst := Bx.start w [.slice A1 s.clks.length c1, .slice A2 s.doms.length c2, .slice A3 s.rsts.length c3, .slice A4 s.devs.length c4]
  have HST := Lib.hid hst
  have HC0 := Lib.hid (hst.chip HCV.out)
  have hn := hok.n2
  obtain ⟨N, hN⟩ : ∃ N, N = s.doms.length := ⟨_, rfl⟩
  rw [← hN] at hp hn
  have HNN := Lib.hid hN
  clear hE hok hst hdoms
  go_enter Try.func11, Try.ntmps11
  go_wp2_with fail
  refine (chip_check s _ _ HOK.out HC0.out).mono ?_
  rintro e w1 ⟨rfl, hb⟩
  rw [HE.out]
  have hb1 := HST.out.step hb
  have hb2 := hb1.moved (Moved.alloc w1 (.cells #[.slice none 0 0] 73))
  have HB2 := Lib.hid hb2
  have x0 := hb2.box 0 _ rfl
  have x1 := hb2.box 1 _ rfl
  have x2 := hb2.box 2 _ rfl
  have x3 := hb2.box 3 _ rfl
  rw [← hN] at x1
  have hz1 := hb1.size
  have hbt : BoxAt (w1.alloc (.cells #[.slice none 0 0] 73)) w1.heap.size [.slice none 0 0] := BoxAt.new w1 [.slice none 0 0] 73
  have hn0 : NewS (w1.alloc (.cells #[.slice none 0 0] 73)) (w1.alloc (.cells #[.slice none 0 0] 73)) w1.heap.size none 0 0 [] := ⟨hbt, World.ownsRow_nil _ _ _ _, rfl, Moved.refl _ _⟩
  have HN0 := Lib.hid hn0
  clear hb hb1 hb2 HC0 HST hbt hn0 HE hN
  go_wp2
  go_loopw [18] (fun i wr => ∃ (k : Nat) (C : Option Addr) (n d : Nat), k ≤ N ∧ i = .int .i64 k ∧ RowKit.Hid (NewS (w1.alloc (.cells #[.slice none 0 0] 73)) wr w1.heap.size C n d ((s.doms.take k).map newP))) (fun i _ => N - (intOf i).toNat)
  case atStart => exact ⟨0, none, 0, 0, Nat.zero_le _, rfl, Lib.hid (by rw [List.take_zero]; exact HN0.out)⟩
  case round =>
    clear HN0
    obtain ⟨k, C, n, d, hk, rfl, HN⟩ := hrel
    by_cases hlt : k < N
    · have hlt' : k < s.doms.length := by rw [← HNN.out]; exact hlt
      obtain ⟨x, hxk⟩ : ∃ x, x = s.doms[k] := ⟨_, rfl⟩
      have hwr : Below w.heap.size w wr := HB2.out.low.trans (HN.out.mv.below (by simp; omega) (by simp; omega))
      obtain ⟨ad, us, hA, hab, hV, hAg⟩ := (HDOM.out.below hwr (Nat.le_refl _)).at_ hlt'
      rw [← hxk] at hV
      have hus : us = [.int .i64 x.above, .int .i64 x.delay, .bool x.ret] := hV
      subst hus
      have h0 := hAg.zero
      have h1 := hAg.at_ 0 rfl
      have h2 := hAg.at_ 1 rfl
      have hx : s.doms[k]? = some x := by rw [List.getElem?_eq_getElem hlt', hxk]
      have HX := Lib.hid hx
      obtain ⟨a, ha⟩ : ∃ a, x.above = a := ⟨_, rfl⟩
      obtain ⟨dl, hdl⟩ : ∃ dl, x.delay = dl := ⟨_, rfl⟩
      obtain ⟨rt, hrt⟩ : ∃ rt, x.ret = rt := ⟨_, rfl⟩
      rw [ha] at h0
      rw [hdl] at h1
      rw [hrt] at h2
      have hsz := HN.out.mv.size
      simp only [World.size_alloc] at hsz
      have i0 : (0 : Int) ≤ (k : Int) := by omega
      have i1 : (k : Int) < (N : Int) := by omega
      have hM1 : Moved [] wr (wr.alloc (.cells #[.int .i64 a, .int .i64 dl, .bool rt] 46)) := Moved.alloc _ _
      have hM2 : Moved [] wr ((wr.alloc (.cells #[.int .i64 a, .int .i64 dl, .bool rt] 46)).alloc (.cells #[.int .i64 a, .int .i64 dl, .bool rt, .int .u8 48, .int .i64 0, .bool false] 75)) := hM1.trans (Moved.alloc _ _)
      have hbt := HN.out.box.move hM1 (by simp)
      have hbt2 := HN.out.box.move hM2 (by simp)
      obtain ⟨z0, z1⟩ := hbt2 0 _ rfl
      obtain ⟨y0, y1⟩ := hbt 0 _ rfl
      have HBT2 := Lib.hid hbt2
      have HM2 := Lib.hid hM2
      have hown : ((wr.alloc (.cells #[.int .i64 a, .int .i64 dl, .bool rt] 46)).alloc (.cells #[.int .i64 a, .int .i64 dl, .bool rt, .int .u8 48, .int .i64 0, .bool false] 75)).ownsRow (w1.heap.size + 1) 75 6 (.slice C n d) n (pstVs ((s.doms.take k).map newP)) :=
        own_move HN.out.own fun g hg => hM2.block g (HN.out.own.lt g hg).2 (by simp)
      have HOWN := Lib.hid hown
      have hblk : ((wr.alloc (.cells #[.int .i64 a, .int .i64 dl, .bool rt] 46)).alloc (.cells #[.int .i64 a, .int .i64 dl, .bool rt, .int .u8 48, .int .i64 0, .bool false] 75)).heap[wr.heap.size + 1]? = some (.cells #[.int .i64 a, .int .i64 dl, .bool rt, .int .u8 48, .int .i64 0, .bool false] 75) := by
        have := heap_alloc_new (wr.alloc (.cells #[.int .i64 a, .int .i64 dl, .bool rt] 46)) (.cells #[.int .i64 a, .int .i64 dl, .bool rt, .int .u8 48, .int .i64 0, .bool false] 75)
        rwa [World.size_alloc] at this
      have HBLK := Lib.hid hblk
      clear hblk
      have hln := HN.out.len
      rw [List.length_map, List.length_take] at hln
      have hnk : n = k := by omega
      subst hnk
      have hnm : newP x = ⟨⟨a, dl, rt⟩, 48, 0, false⟩ := by rw [← ha, ← hdl, ← hrt]; rfl
      have HNM := Lib.hid hnm
      obtain ⟨i75, hi, hz0, hzs, hzb⟩ := info_parts Try.info75
      subst hA
      clear hx hxk hAg hV ha hdl hrt hbt hbt2 hM1 hM2 hown hln hnm hwr
      go_wp2
      go_region_law (refine step_append_lies _ (by rfl) (.tmp 26) (.tmp 29) _ (by rfl) (w1.heap.size + 1) 75 i75 _ 6 48 Try.underlying71 hi hz0 hzs hzb rfl (by omega) (.slice C n d) n _ (by rfl) (HOWN.out.drew) ⟨wr.heap.size + 1, 0, none⟩ 1 1 [.int .i64 a, .int .i64 dl, .bool rt, .int .u8 48, .int .i64 0, .bool false] (by rfl) (by rfl) (World.news_of_block (cs := #[.int .i64 a, .int .i64 dl, .bool rt, .int .u8 48, .int .i64 0, .bool false]) (t := 75) (fr := (0, 0)) HBLK.out) (by intro u hu; simp at hu; rcases hu with rfl | rfl | rfl | rfl | rfl | rfl <;> rfl) (by omega) (by unfold maxLen; omega) (by omega) (by simp; omega) (wr.heap.size + 2) (by simp) ?_; intro g7 cap7 w7 hown7 hg7 hat7 hlt7; have hg8 : ((wr.alloc (.cells #[.int .i64 a, .int .i64 dl, .bool rt] 46)).alloc (.cells #[.int .i64 a, .int .i64 dl, .bool rt, .int .u8 48, .int .i64 0, .bool false] 75)).grownBy w7 (Value.slice C n d).ownBlock := (grown_of_below ((Below.refl ((wr.alloc (.cells #[.int .i64 a, .int .i64 dl, .bool rt] 46)).alloc (.cells #[.int .i64 a, .int .i64 dl, .bool rt, .int .u8 48, .int .i64 0, .bool false] 75)).heap.size ((wr.alloc (.cells #[.int .i64 a, .int .i64 dl, .bool rt] 46)).alloc (.cells #[.int .i64 a, .int .i64 dl, .bool rt, .int .u8 48, .int .i64 0, .bool false] 75))).drew) _).trans hg7; have hm7 : Moved (Value.slice C n d).ownBlock.toList wr w7 := (HM2.out.mono (by simp)).trans (Moved.of_grown (hot := (Value.slice C n d).ownBlock.toList) (row := (Value.slice C n d).ownBlock) hg8 (by simp)); have hbx7 := HN.out.box.move hm7 (by intro hb; have := (HOWN.out.lt _ (by simpa using hb)).1; omega); have hd7 := (hbx7 0 _ rfl).1; have hf7 := (hbx7 0 _ rfl).2)
      all_goals
        go_wp2_with fail
        go_roundw
        case measure => simp [intOf]; omega
        case rel =>
          refine ⟨n + 1, some ⟨g7, 0, none⟩, n + 1, cap7, hlt, by go_num, Lib.hid ⟨hbx7.set (j := 0) (by simp) _, ?_, ?_, ?_⟩⟩
          · have ht : (s.doms.take (n + 1)).map newP = (s.doms.take n).map newP ++ [newP x] := by rw [List.take_add_one, HX.out, List.map_append]; rfl
            rw [ht, pstVs_snoc, HNM.out]
            refine own_move hown7 fun g hg => ?_
            injection hg with hg
            subst hg
            exact Below.heap_setCell w7 _ _ _ (by
              rcases hat7 with h | h
              · have := (HOWN.out.lt _ h).1; show g7 ≠ w1.heap.size; omega
              · show g7 ≠ w1.heap.size; omega)
          · simp [← HNN.out]; omega
          · exact (HN.out.mv.trans' hm7 (fun b hb => by
              have := (HOWN.out.lt b (by simpa using hb)).1
              exact .inr (by simpa using this))).trans (Moved.setCell _ (by simp) _)
    · have hke : k = N := by omega
      subst hke
      have i1 : ¬ ((k : Int) < (k : Int)) := by omega
      go_wp2_with fail
      go_ret2
      have hown := HN.out.own
      have hbox := HN.out.box
      have hln := HN.out.len
      rw [HNN.out] at hown hln
      rw [List.take_length] at hown hln
      obtain ⟨g, cap, e, hg1, hg2⟩ := World.ownsRow.form hown (by rw [← hln]; simp; rw [← HNN.out]; exact hp)
      injection e with e1 e2 e3
      subst e1 e3
      have hln' := hln
      refine ⟨w1.heap.size, g, d, rfl, by omega, by omega, ⟨by omega, ?_, ?_⟩, HB2.out.low.trans (HN.out.mv.below (by simp; omega) (by simp; omega))⟩
      · rw [hln]; exact hbox
      · rw [hln]; exact (rowC_of_own hln hown).base (Nat.zero_le _)

end Go.Proofs.Ytlhmcpkfmnmhfaa
