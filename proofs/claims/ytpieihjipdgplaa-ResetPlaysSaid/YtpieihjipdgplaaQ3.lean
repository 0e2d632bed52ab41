/- The document's own New. -/
import Derived.Test.YtpieihjipdgplaaQ2
import Derived.Test.YtpieihjipdgplaaU1
namespace Go.Proofs.Ytpieihjipdgplaa
set_option linter.unusedSimpArgs false
set_option linter.unusedVariables false
open Go.RowKit Go.Maps

theorem Try.info64 : (Try.prog.info? 64).map (fun i => (i.zero, i.size, i.bytes)) = some (some (.agg #[.bool false, .bool false, .int .i64 0]), 3, 16) := by kernel_rfl
def lnVs (xs : List Ln) : List Value := xs.flatMap lnL
theorem lnVs_snoc (xs : List Ln) (x : Ln) : lnVs (xs ++ [x]) = lnVs xs ++ lnL x := by simp [lnVs]
theorem lnRow {w : World} {B n : Nat} {v : Value} {xs : List Ln} {hot : List Nat} (hn : xs.length = n) (h : w.ownsRow B 64 3 v n (lnVs xs)) : RowC LnC 3 64 hot w B v xs := by
  subst hn
  refine ⟨xs.map lnL, by simp, fun k x vs hx hv => ?_, by rw [← List.flatMap_def]; exact h⟩
  rw [List.getElem?_map, hx] at hv
  obtain rfl := Option.some.inj hv
  exact ⟨rfl, rfl⟩
/-- the document's lines under way -/
structure NewR (W3 wr : World) (gr : Nat) (v1 v2 : Value) (ls : List Int) (xs : List Ln) : Prop where
  box : BoxAt wr gr [v1, v2]
  d : wr.ownsRow (gr + 1) 3 1 v1 ls.length (iv ls)
  s : wr.ownsRow (gr + 1) 64 3 v2 xs.length (lnVs xs)
  ne : ∀ g, v1.ownBlock = some g → v2.ownBlock ≠ some g
  mv : Moved [gr] W3 wr
section
variable {W3 wr wa w7 : World} {gr : Nat} {v1 v2 v' : Value} {ls : List Int} {xs : List Ln}
theorem NewR.calm (h : NewR W3 wr gr v1 v2 ls xs) (hm : Moved [] wr wa) : NewR W3 wa gr v1 v2 ls xs :=
  ⟨h.box.move hm (by simp), own_move h.d fun g hg => hm.block g (h.d.lt g hg).2 (by simp), own_move h.s fun g hg => hm.block g (h.s.lt g hg).2 (by simp), h.ne, h.mv.trans (hm.mono (by simp))⟩
theorem NewR.push1 (h : NewR W3 wr gr v1 v2 ls xs) (hw3 : ∀ g, v1.ownBlock = some g → W3.heap.size ≤ g) (x : Int) (ho : w7.ownsRow (gr + 1) 3 1 v' (ls.length + 1) (iv (ls ++ [x]))) (hg : wr.grownBy w7 v1.ownBlock) (hb : v'.ownBlock = v1.ownBlock ∨ ∃ q, v'.ownBlock = some q ∧ wr.heap.size ≤ q) : NewR W3 (w7.setCell ⟨gr, 0, none⟩ v') gr v' v2 (ls ++ [x]) xs := by
  have hm : Moved v1.ownBlock.toList wr w7 := Moved.of_grown hg (by simp)
  have hm2 : Moved [gr] w7 (w7.setCell ⟨gr, 0, none⟩ v') := Moved.setCell _ (by simp) _
  have hgr : gr ∉ v1.ownBlock.toList := fun hh => by have := (h.d.lt gr (by simpa using hh)).1; omega
  have hs7 : w7.ownsRow (gr + 1) 64 3 v2 xs.length (lnVs xs) := own_move h.s fun g hg' => hm.block g (h.s.lt g hg').2 (fun hh => h.ne g (by simpa using hh) hg')
  refine ⟨(h.box.move hm hgr).set (j := 0) (by simp) _, ?_, own_move hs7 fun g hg' => hm2.block g (hs7.lt g hg').2 (fun hh => by simp at hh; have := (hs7.lt g hg').1; omega), fun g h1 h2 => ?_, (h.mv.trans' hm fun b hb' => .inr (hw3 b (by simpa using hb'))).trans hm2⟩
  · rw [List.length_append]
    exact own_move ho fun g hg' => hm2.block g (ho.lt g hg').2 (fun hh => by simp at hh; have := (ho.lt g hg').1; omega)
  · rcases hb with hb | ⟨q, hb, hq⟩
    · rw [hb] at h1; exact h.ne g h1 h2
    · rw [hb] at h1
      injection h1 with h1
      have := (h.s.lt g h2).2
      omega
theorem NewR.push2 (h : NewR W3 wr gr v1 v2 ls xs) (hw3 : ∀ g, v2.ownBlock = some g → W3.heap.size ≤ g) (x : Ln) (ho : w7.ownsRow (gr + 1) 64 3 v' (xs.length + 1) (lnVs (xs ++ [x]))) (hg : wr.grownBy w7 v2.ownBlock) (hb : v'.ownBlock = v2.ownBlock ∨ ∃ q, v'.ownBlock = some q ∧ wr.heap.size ≤ q) : NewR W3 (w7.setCell ⟨gr, 1, none⟩ v') gr v1 v' ls (xs ++ [x]) := by
  have hm : Moved v2.ownBlock.toList wr w7 := Moved.of_grown hg (by simp)
  have hm2 : Moved [gr] w7 (w7.setCell ⟨gr, 1, none⟩ v') := Moved.setCell _ (by simp) _
  have hgr : gr ∉ v2.ownBlock.toList := fun hh => by have := (h.s.lt gr (by simpa using hh)).1; omega
  have hs7 : w7.ownsRow (gr + 1) 3 1 v1 ls.length (iv ls) := own_move h.d fun g hg' => hm.block g (h.d.lt g hg').2 (fun hh => h.ne g hg' (by simpa using hh))
  refine ⟨(h.box.move hm hgr).set (j := 1) (by simp) _, own_move hs7 fun g hg' => hm2.block g (hs7.lt g hg').2 (fun hh => by simp at hh; have := (hs7.lt g hg').1; omega), ?_, fun g h1 h2 => ?_, (h.mv.trans' hm fun b hb' => .inr (hw3 b (by simpa using hb'))).trans hm2⟩
  · rw [List.length_append]
    exact own_move ho fun g hg' => hm2.block g (ho.lt g hg').2 (fun hh => by simp at hh; have := (ho.lt g hg').1; omega)
  · rcases hb with hb | ⟨q, hb, hq⟩
    · rw [hb] at h2; exact h.ne g h1 h2
    · rw [hb] at h2
      injection h2 with h2
      have := (h.d.lt g h1).2
      omega
end
def RNewOk (s : Chip) (w : World) (e : Ending) (w' : World) : Prop :=
  ∃ gr A C cd cs, e = .returned (.tuple #[.pointer (some ⟨gr, 0, none⟩), .int .i64 0]) ∧ w.heap.size ≤ gr ∧ RefIs w' gr A C cd cs (rLs s.rsts) ∧ Below w.heap.size w w'

set_option maxRecDepth 100000 in
set_option maxHeartbeats 8000000 in
theorem rnew_ok (s : Chip) (vs : List Value) (w : World) (hok : ChipOk s) (h : ChipV w w.heap.size s vs) (hE : chipE s = 0) : Calls Try.prog 12 #[.agg vs.toArray] w (RNewOk s w) := by
  have HE := Lib.hid hE
  have HCV := Lib.hid h
  obtain ⟨A1, c1, A2, c2, A3, c3, A4, c4, rfl, -, -, -, -, -, -, hrsts, -⟩ := h
  have HRS := Lib.hid hrsts
  have HOK := Lib.hid hok
  have hst := Bx.start w [.slice A1 s.clks.length c1, .slice A2 s.doms.length c2, .slice A3 s.rsts.length c3, .slice A4 s.devs.length c4]
  have HST := Lib.hid hst
  have HC0 := Lib.hid (hst.chip HCV.out)
  have hn := hok.n3
  obtain ⟨N, hN⟩ : ∃ N, N = s.rsts.length := ⟨_, rfl⟩
  rw [← hN] at hn
  have HNN := Lib.hid hN
  clear hE hok hst hrsts
  go_enter Try.func12, Try.ntmps12
  go_wp2_with fail
  refine (rchip_check s _ _ HOK.out HC0.out).mono ?_
  rintro e w1 ⟨rfl, hb⟩
  rw [HE.out]
  have hb1 := HST.out.step hb
  have hz1 := hb1.size
  have hm0 : Moved [] w1 (w1.alloc (.cells #[.slice none 0 0, .slice none 0 0] 62)) := Moved.alloc _ _
  have hb2 := hb1.moved hm0
  have HB1 := Lib.hid hb1
  have x2 := hb2.box 2 _ rfl
  rw [← hN] at x2
  have hbt : BoxAt (w1.alloc (.cells #[.slice none 0 0, .slice none 0 0] 62)) w1.heap.size [.slice none 0 0, .slice none 0 0] := BoxAt.new w1 [.slice none 0 0, .slice none 0 0] 62
  have HN0 : RowKit.Hid (NewR (w1.alloc (.cells #[.slice none 0 0, .slice none 0 0] 62)) (w1.alloc (.cells #[.slice none 0 0, .slice none 0 0] 62)) w1.heap.size (.slice none 0 0) (.slice none 0 0) [] []) := Lib.hid ⟨hbt, World.ownsRow_nil _ _ _ _, World.ownsRow_nil _ _ _ _, by simp [Value.ownBlock], Moved.refl _ _⟩
  have HB2 := Lib.hid hb2
  clear hb hb1 hb2 HC0 HST hm0 HE hN hbt
  go_wp2
  clear x2
  go_loopw [6] (fun i wr => ∃ (k : Nat) (A C : Option Addr) (cd cs : Nat), k ≤ N ∧ i = .int .i64 k ∧ RowKit.Hid (NewR (w1.alloc (.cells #[.slice none 0 0, .slice none 0 0] 62)) wr w1.heap.size (.slice A k cd) (.slice C k cs) ((s.rsts.take k).map Rst.least) (rLs (s.rsts.take k)))) (fun i _ => N - (intOf i).toNat)
  case atStart => exact ⟨0, none, none, 0, 0, Nat.zero_le _, rfl, HN0⟩
  case round =>
    clear HN0
    obtain ⟨k, A, C, cd, cs, hk, rfl, HN⟩ := hrel
    have hlen : (rLs (s.rsts.take k)).length = k := by simp [rLs]; have := HNN.out; omega
    have hsz := HN.out.mv.size
    simp only [World.size_alloc] at hsz
    have x2 := HN.out.mv.cell (HB2.out.box 2 _ rfl) (by simp; omega)
    rw [← HNN.out] at x2
    have hlen2 : ((s.rsts.take k).map Rst.least).length = k := by simp; have := HNN.out; omega
    have b0 := (HN.out.box 0 _ rfl).1
    have b1 := (HN.out.box 1 _ rfl).1
    by_cases hlt : k < N
    · have hlt' : k < s.rsts.length := by rw [← HNN.out]; exact hlt
      obtain ⟨x, hxk⟩ : ∃ x, x = s.rsts[k] := ⟨_, rfl⟩
      have hwr : Below w.heap.size w wr := HB1.out.low.trans (((Moved.alloc w1 _).trans HN.out.mv).below (by simp; omega) (by omega))
      obtain ⟨ad, us, hA, hab, hV, hAg⟩ := (HRS.out.below hwr (Nat.le_refl _)).at_ hlt'
      rw [← hxk] at hV
      rw [Nat.mul_one] at hAg
      have hus : us = [.int .i64 x.least] := hV
      subst hus
      have h0 := hAg.zero
      have hx : s.rsts[k]? = some x := by rw [List.getElem?_eq_getElem hlt', hxk]
      have HX := Lib.hid hx
      obtain ⟨lv⟩ := x
      simp only at h0
      have i0 : (0 : Int) ≤ (k : Int) := by omega
      have i1 : (k : Int) < (N : Int) := by omega
      subst hA
      have hq1 : Moved [] wr (wr.alloc (.cells #[.int .i64 lv] 3)).drew := Moved.trans (Moved.alloc wr (.cells #[.int .i64 lv] 3)) ⟨rfl, rfl, rfl, Nat.le_refl _, fun _ _ _ => rfl⟩
      have HNa := Lib.hid (HN.out.calm hq1)
      have hown := HNa.out.d
      rw [hlen2] at hown
      have HOWN := Lib.hid hown
      obtain ⟨r0, r0'⟩ := HNa.out.box 0 _ rfl
      have x2' := HNa.out.mv.cell (HB2.out.box 2 _ rfl) (by simp; omega)
      rw [← HNN.out] at x2'
      have h0d : wr.drew.cell? (ad.add k) = some (.int .i64 lv) := h0
      have hbk : (wr.alloc (.cells #[.int .i64 lv] 3)).drew.heap[wr.heap.size]? = some (.cells #[.int .i64 lv] 3) := heap_alloc_new wr _
      have HBLK := Lib.hid hbk
      have HD := Lib.hid (fun g (hg : (Value.slice A k cd).ownBlock = some g) => (HN.out.d.lt g hg).1)
      have HSb := Lib.hid (fun g (hg : (Value.slice C k cs).ownBlock = some g) => (HN.out.s.lt g hg).1)
      obtain ⟨i3, hi, hz0, hzs, hzb⟩ := info_parts Try.info3
      obtain ⟨i64, ji, jz0, jzs, jzb⟩ := info_parts Try.info64
      clear hx hxk hAg hV hwr hq1 hown hbk
      go_wp2
      go_region_law (refine step_append_lies _ (by rfl) (.tmp 25) (.tmp 32) _ (by rfl) (w1.heap.size + 1) 3 i3 _ 1 8 Try.underlying22 hi hz0 hzs hzb rfl (by omega) (.slice A k cd) k _ (by rfl) (HOWN.out) ⟨wr.heap.size, 0, none⟩ 1 1 [.int .i64 lv] (by rfl) (by rfl) (World.news_of_block (cs := #[.int .i64 lv]) (t := 3) (fr := (0, 0)) HBLK.out) (by intro u hu; simp at hu; rcases hu with rfl; rfl) (by omega) (by unfold maxLen; omega) (by omega) (by simp; omega) (wr.heap.size + 1) (by simp) ?_; intro g7 cap7 w7 hown7 hg7 hat7 hlt7; have HQ := Lib.hid (HNa.out.push1 (fun g hg => by have := HD.out g hg; simp; omega) lv (by rw [hlen2, iv_snoc]; exact hown7) hg7 (by rcases hat7 with h | h; exact .inl (by rw [h]; rfl); exact .inr ⟨g7, rfl, by simp; omega⟩)); have hbx7 := (HNa.out.box.move (Moved.of_grown (hot := (Value.slice A k cd).ownBlock.toList) hg7 (by simp)) (by intro hh; have := HD.out _ (by simpa using hh); omega)); have hd7 := (hbx7 0 _ rfl).1; have hf7 := (hbx7 0 _ rfl).2; clear hown7 hg7 hat7 hlt7 hbx7)
      all_goals
        obtain ⟨w8, hw8⟩ : ∃ w8, w8 = w7.setCell ⟨w1.heap.size, 0, none⟩ (.slice (some ⟨g7, 0, none⟩) (k + 1) cap7) := ⟨_, rfl⟩
        have hq8 := HQ.out
        rw [← hw8] at hq8
        rw [← hw8]
        have hq9 := hq8.calm (Moved.alloc w8 (.cells #[.bool true, .bool false, .int .i64 0] 64))
        have c81 := (hq8.box 1 _ rfl).1
        have hown9 := hq9.s
        rw [hlen] at hown9
        have HOWN9 := Lib.hid hown9
        have HQ9 := Lib.hid hq9
        clear hw8 hq8 hq9 hown9 HQ hd7 hf7
        go_wp2_with (at_builtin; refine wpList_append_own_at _ rfl _ _ 60 rfl (w1.heap.size + 1) 64 i64 (.agg #[.bool false, .bool false, .int .i64 0]) 3 16 Try.underlying60 ji jz0 jzs jzb rfl (by decide) _ k _ rfl HOWN9.out ⟨w8.heap.size, 0, none⟩ 1 1 [.bool true, .bool false, .int .i64 0] rfl rfl (cells_new w8 w8.heap.size rfl _ 64) (by intro u hu; simp at hu; rcases hu with rfl | rfl | rfl <;> rfl) (by unfold maxLen; omega) (by omega) (by simp; have := HQ9.out.mv.size; simp at this; omega) ?_; intro v9 w9 hown9 hg9 _ hob9; obtain ⟨C9, c9, rfl⟩ := own_shape' hown9; have HQA := Lib.hid (HQ9.out.push2 (fun g hg => by have := HSb.out g hg; simp; omega) (newL ⟨lv⟩) (by rw [hlen, lnVs_snoc]; exact hown9) hg9 (hob9.imp id fun e => ⟨_, e, Nat.le_refl _⟩)); have hbx9 := (HQ9.out.box.move (Moved.of_grown (hot := (Value.slice C k cs).ownBlock.toList) (row := (Value.slice C k cs).ownBlock) hg9 (by simp)) (by intro hh; have := HSb.out _ (by simpa using hh); omega)); have hd9 := (hbx9 1 _ rfl).1; have hf9 := (hbx9 1 _ rfl).2; clear hown9 hg9 hob9 hbx9)
        go_roundw
        case measure => simp [intOf]; omega
        case rel =>
          refine ⟨k + 1, some ⟨g7, 0, none⟩, C9, cap7, c9, hlt, by go_num, Lib.hid ?_⟩
          have ht : s.rsts.take (k + 1) = s.rsts.take k ++ [⟨lv⟩] := by rw [List.take_add_one, HX.out]; rfl
          rw [ht, rLs_snoc, List.map_append]
          exact HQA.out
    · have hke : k = N := by omega
      have i1 : ¬ ((k : Int) < (N : Int)) := by omega
      go_wp2_with fail
      go_ret2
      have hh := HN.out
      rw [hke, HNN.out, List.take_length] at hh
      have hl1 : (rLs s.rsts).length = s.rsts.length := by unfold rLs; rw [List.length_map]
      have hl2 : (s.rsts.map Rst.least).length = s.rsts.length := by rw [List.length_map]
      have e1 : (rLs s.rsts).map Ln.least = s.rsts.map Rst.least := by unfold rLs; rw [List.map_map]; rfl
      refine ⟨w1.heap.size, A, C, cd, cs, rfl, by omega, ⟨?_, ?_, lnRow rfl ?_, ?_⟩, HB1.out.low.trans (((Moved.alloc w1 _).trans HN.out.mv).below (by simp; omega) (by omega))⟩
      · rw [hl1]; exact hh.box
      · have := hh.d
        rw [hl2] at this
        rw [hl1, e1]; exact this
      · have := hh.s
        rw [hl1] at this
        rw [hl1]; exact this
      · rw [hl1]; exact hh.ne

end Go.Proofs.Ytpieihjipdgplaa
