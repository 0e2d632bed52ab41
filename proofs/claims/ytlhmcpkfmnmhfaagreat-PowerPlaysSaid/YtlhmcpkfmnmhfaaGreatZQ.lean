/- power.New: of a description that is not right there is no grid; else all domains are as they are at first. -/
import Derived.Test.YtlhmcpkfmnmhfaaGreatZP
import Derived.Test.YtlhmcpkfmnmhfaaGreatW13
import Derived.Deep.AppendLies
import Derived.Test.YtlhmcpkfmnmhfaaGreatH11
namespace Go.Proofs.YtlhmcpkfmnmhfaaGreat
section
set_option linter.unusedSimpArgs false
set_option linter.unusedVariables false
open Go.RowKit Go.Maps

/-- the box of a description stands -/
def Bx (w : World) (vs : List Value) (W : World) : Prop := Below (w.heap.size + 1) (w.alloc (.cells vs.toArray 30)) W
namespace Bx
variable {w W W' : World} {vs : List Value}
theorem start (w : World) (vs : List Value) : Bx w vs (w.alloc (.cells vs.toArray 30)) := Below.refl _ _
theorem box (h : Bx w vs W) : ∀ j u, vs[j]? = some u → W.cell? ⟨w.heap.size, j, none⟩ = some u := fun j u hj =>
  (Below.cell h (p := ⟨w.heap.size, j, none⟩) (by show w.heap.size < w.heap.size + 1; omega)).trans ((BoxAt.new w vs 30) j u hj).1
theorem low (h : Bx w vs W) : Below w.heap.size w W := ((Below.refl w.heap.size w).alloc (Nat.le_refl _) (.cells vs.toArray 30)).trans (Below.mono h (Nat.le_succ _))
theorem size (h : Bx w vs W) : w.heap.size + 1 ≤ W.heap.size := by
  have := Below.size h
  simpa using this
theorem chip {s : Chip} (h : Bx w vs W) (hx : ChipV w w.heap.size s vs) : ChipV W W.heap.size s vs := Steady.later hx h.low
theorem step (h : Bx w vs W) (hb : Below W.heap.size W W') : Bx w vs W' := Below.trans h (hb.mono h.size)
theorem moved (h : Bx w vs W) (hm : Moved [] W W') : Bx w vs W' := Below.trans h (hm.below (by simp) h.size)
end Bx
def NewErr (E : Int) (w : World) (e : Ending) (w' : World) : Prop := e = .returned (.tuple #[.pointer none, .int .i64 E]) ∧ Below w.heap.size w w'
set_option maxRecDepth 100000 in
set_option maxHeartbeats 4000000 in
theorem new_err (s : Chip) (vs : List Value) (w : World) (hok : ChipOk s) (h : ChipV w w.heap.size s vs) (hE : chipE s ≠ 0) : Calls Tryz.prog 6 #[.agg vs.toArray] w (NewErr (chipE s) w) := by
  obtain ⟨E, hEE⟩ : ∃ E, chipE s = E := ⟨_, rfl⟩
  rw [hEE] at hE ⊢
  have HE := Lib.hid hEE
  have hz : (E != 0) = true := by simpa using hE
  have HCV := Lib.hid h
  obtain ⟨A1, c1, A2, c2, A3, c3, A4, c4, rfl, -, -, -, -, -, -, -, -⟩ := h
  have HOK := Lib.hid hok
  have hst := Bx.start w [.slice A1 s.clks.length c1, .slice A2 s.doms.length c2, .slice A3 s.rsts.length c3, .slice A4 s.devs.length c4]
  have HST := Lib.hid hst
  have HC0 := Lib.hid (hst.chip HCV.out)
  clear hE hEE hok hst
  go_enter Tryz.func6, Tryz.ntmps6
  go_wp2_with fail
  refine (chip_check s _ _ HOK.out HC0.out).mono ?_
  rintro e w1 ⟨rfl, hb⟩
  rw [HE.out]
  have HB1 := Lib.hid (HST.out.step hb)
  clear hb
  go_wp2
  go_ret2
  exact ⟨rfl, HB1.out.low⟩

def pstVs (sts : List Pst) : List Value := sts.flatMap pstL
theorem pstVs_snoc (sts : List Pst) (x : Pst) : pstVs (sts ++ [x]) = pstVs sts ++ pstL x := by simp [pstVs]
theorem rowC_of_own {w : World} {B n : Nat} {v : Value} {sts : List Pst} {hot : List Nat} (hn : sts.length = n) (h : w.ownsRow B 75 6 v n (pstVs sts)) : RowC PstC 6 75 hot w B v sts := by
  subst hn
  refine ⟨sts.map pstL, by simp, fun k x vs hx hv => ?_, by rw [← List.flatMap_def]; exact h⟩
  rw [List.getElem?_map, hx] at hv
  obtain rfl := Option.some.inj hv
  exact ⟨rfl, rfl⟩
theorem Tryz.info75 : (Tryz.prog.info? 75).map (fun i => (i.zero, i.size, i.bytes)) = some (some (.agg #[.int .i64 0, .int .i64 0, .bool false, .int .u8 0, .int .i64 0, .bool false]), 6, 48) := by kernel_rfl

/-- a grid under way: its box, and the row that the call owns -/
structure NewS (W1 wr : World) (gt : Nat) (C : Option Addr) (n d : Nat) (sts : List Pst) : Prop where
  box : BoxAt wr gt [.slice C n d]
  own : wr.ownsRow (gt + 1) 75 6 (.slice C n d) n (pstVs sts)
  len : sts.length = n
  mv : Moved [gt] W1 wr
def NewOk (s : Chip) (w : World) (e : Ending) (w' : World) : Prop :=
  ∃ gt g c, e = .returned (.tuple #[.pointer (some ⟨gt, 0, none⟩), .int .i64 0]) ∧ w.heap.size ≤ gt ∧ w.heap.size ≤ g ∧ GridIs w' gt g c (s.doms.map newP) ∧ Below w.heap.size w w'

set_option maxRecDepth 100000 in
set_option maxHeartbeats 8000000 in
theorem new_ok (s : Chip) (vs : List Value) (w : World) (hok : ChipOk s) (h : ChipV w w.heap.size s vs) (hE : chipE s = 0) (hp : 0 < s.doms.length) : Calls Tryz.prog 6 #[.agg vs.toArray] w (NewOk s w) := by
  have HE := Lib.hid hE
  have HCV := Lib.hid h
  obtain ⟨A1, c1, A2, c2, A3, c3, A4, c4, rfl, -, -, -, -, -, hdoms, -, -⟩ := h
  have HDOM := Lib.hid hdoms
  have HOK := Lib.hid hok
  have hst := Bx.start w [.slice A1 s.clks.length c1, .slice A2 s.doms.length c2, .slice A3 s.rsts.length c3, .slice A4 s.devs.length c4]
  have HST := Lib.hid hst
  have HC0 := Lib.hid (hst.chip HCV.out)
  have hn := hok.n2
  obtain ⟨N, hN⟩ : ∃ N, N = s.doms.length := ⟨_, rfl⟩
  rw [← hN] at hp hn
  have HNN := Lib.hid hN
  clear hE hok hst hdoms
  go_enter Tryz.func6, Tryz.ntmps6
  go_wp2_with fail
  refine (chip_check s _ _ HOK.out HC0.out).mono ?_
  rintro e w1 ⟨rfl, hb⟩
  rw [HE.out]
  have hb1 := HST.out.step hb
  have hb2 := hb1.moved (Moved.alloc w1 (.cells #[.slice none 0 0] 73))
  have HB2 := Lib.hid hb2
  have x0 := hb2.box 0 _ rfl
  have x1 := hb2.box 1 _ rfl
  have x2 := hb2.box 2 _ rfl
  have x3 := hb2.box 3 _ rfl
  rw [← hN] at x1
  have hz1 := hb1.size
  have hbt : BoxAt (w1.alloc (.cells #[.slice none 0 0] 73)) w1.heap.size [.slice none 0 0] := BoxAt.new w1 [.slice none 0 0] 73
  have hn0 : NewS (w1.alloc (.cells #[.slice none 0 0] 73)) (w1.alloc (.cells #[.slice none 0 0] 73)) w1.heap.size none 0 0 [] := ⟨hbt, World.ownsRow_nil _ _ _ _, rfl, Moved.refl _ _⟩
  have HN0 := Lib.hid hn0
  clear hb hb1 hb2 HC0 HST hbt hn0 HE hN
  go_wp2
  go_loopw [18] (fun i wr => ∃ (k : Nat) (C : Option Addr) (n d : Nat), k ≤ N ∧ i = .int .i64 k ∧ RowKit.Hid (NewS (w1.alloc (.cells #[.slice none 0 0] 73)) wr w1.heap.size C n d ((s.doms.take k).map newP))) (fun i _ => N - (intOf i).toNat)
  case atStart => exact ⟨0, none, 0, 0, Nat.zero_le _, rfl, Lib.hid (by rw [List.take_zero]; exact HN0.out)⟩
  case round =>
    clear HN0
    obtain ⟨k, C, n, d, hk, rfl, HN⟩ := hrel
    by_cases hlt : k < N
    · have hlt' : k < s.doms.length := by rw [← HNN.out]; exact hlt
      obtain ⟨x, hxk⟩ : ∃ x, x = s.doms[k] := ⟨_, rfl⟩
      have hwr : Below w.heap.size w wr := HB2.out.low.trans (HN.out.mv.below (by simp; omega) (by simp; omega))
      obtain ⟨ad, us, hA, hab, hV, hAg⟩ := (HDOM.out.below hwr (Nat.le_refl _)).at_ hlt'
      rw [← hxk] at hV
      have hus : us = [.int .i64 x.above, .int .i64 x.delay, .bool x.ret] := hV
      subst hus
      have h0 := hAg.zero
      have h1 := hAg.at_ 0 rfl
      have h2 := hAg.at_ 1 rfl
      have hx : s.doms[k]? = some x := by rw [List.getElem?_eq_getElem hlt', hxk]
      have HX := Lib.hid hx
      obtain ⟨a, ha⟩ : ∃ a, x.above = a := ⟨_, rfl⟩
      obtain ⟨dl, hdl⟩ : ∃ dl, x.delay = dl := ⟨_, rfl⟩
      obtain ⟨rt, hrt⟩ : ∃ rt, x.ret = rt := ⟨_, rfl⟩
      rw [ha] at h0
      rw [hdl] at h1
      rw [hrt] at h2
      have hsz := HN.out.mv.size
      simp only [World.size_alloc] at hsz
      have i0 : (0 : Int) ≤ (k : Int) := by omega
      have i1 : (k : Int) < (N : Int) := by omega
      have hM1 : Moved [] wr (wr.alloc (.cells #[.int .i64 a, .int .i64 dl, .bool rt] 56)) := Moved.alloc _ _
      have hM2 : Moved [] wr ((wr.alloc (.cells #[.int .i64 a, .int .i64 dl, .bool rt] 56)).alloc (.cells #[.int .i64 a, .int .i64 dl, .bool rt, .int .u8 48, .int .i64 0, .bool false] 75)) := hM1.trans (Moved.alloc _ _)
      have hbt := HN.out.box.move hM1 (by simp)
      have hbt2 := HN.out.box.move hM2 (by simp)
      obtain ⟨z0, z1⟩ := hbt2 0 _ rfl
      obtain ⟨y0, y1⟩ := hbt 0 _ rfl
      have HBT2 := Lib.hid hbt2
      have HM2 := Lib.hid hM2
      have hown : ((wr.alloc (.cells #[.int .i64 a, .int .i64 dl, .bool rt] 56)).alloc (.cells #[.int .i64 a, .int .i64 dl, .bool rt, .int .u8 48, .int .i64 0, .bool false] 75)).ownsRow (w1.heap.size + 1) 75 6 (.slice C n d) n (pstVs ((s.doms.take k).map newP)) :=
        own_move HN.out.own fun g hg => hM2.block g (HN.out.own.lt g hg).2 (by simp)
      have HOWN := Lib.hid hown
      have hblk : ((wr.alloc (.cells #[.int .i64 a, .int .i64 dl, .bool rt] 56)).alloc (.cells #[.int .i64 a, .int .i64 dl, .bool rt, .int .u8 48, .int .i64 0, .bool false] 75)).heap[wr.heap.size + 1]? = some (.cells #[.int .i64 a, .int .i64 dl, .bool rt, .int .u8 48, .int .i64 0, .bool false] 75) := by
        have := heap_alloc_new (wr.alloc (.cells #[.int .i64 a, .int .i64 dl, .bool rt] 56)) (.cells #[.int .i64 a, .int .i64 dl, .bool rt, .int .u8 48, .int .i64 0, .bool false] 75)
        rwa [World.size_alloc] at this
      have HBLK := Lib.hid hblk
      clear hblk
      have hln := HN.out.len
      rw [List.length_map, List.length_take] at hln
      have hnk : n = k := by omega
      subst hnk
      have hnm : newP x = ⟨⟨a, dl, rt⟩, 48, 0, false⟩ := by rw [← ha, ← hdl, ← hrt]; rfl
      have HNM := Lib.hid hnm
      obtain ⟨i75, hi, hz0, hzs, hzb⟩ := info_parts Tryz.info75
      subst hA
      clear hx hxk hAg hV ha hdl hrt hbt hbt2 hM1 hM2 hown hln hnm hwr
      go_wp2
      go_region_law (refine step_append_lies _ (by rfl) (.tmp 26) (.tmp 29) _ (by rfl) (w1.heap.size + 1) 75 i75 _ 6 48 Tryz.underlying71 hi hz0 hzs hzb rfl (by omega) (.slice C n d) n _ (by rfl) (HOWN.out.drew) ⟨wr.heap.size + 1, 0, none⟩ 1 1 [.int .i64 a, .int .i64 dl, .bool rt, .int .u8 48, .int .i64 0, .bool false] (by rfl) (by rfl) (World.news_of_block (cs := #[.int .i64 a, .int .i64 dl, .bool rt, .int .u8 48, .int .i64 0, .bool false]) (t := 75) (fr := (0, 0)) HBLK.out) (by intro u hu; simp at hu; rcases hu with rfl | rfl | rfl | rfl | rfl | rfl <;> rfl) (by omega) (by unfold maxLen; omega) (by omega) (by simp; omega) (wr.heap.size + 2) (by simp) ?_; intro g7 cap7 w7 hown7 hg7 hat7 hlt7; have hg8 : ((wr.alloc (.cells #[.int .i64 a, .int .i64 dl, .bool rt] 56)).alloc (.cells #[.int .i64 a, .int .i64 dl, .bool rt, .int .u8 48, .int .i64 0, .bool false] 75)).grownBy w7 (Value.slice C n d).ownBlock := (grown_of_below ((Below.refl ((wr.alloc (.cells #[.int .i64 a, .int .i64 dl, .bool rt] 56)).alloc (.cells #[.int .i64 a, .int .i64 dl, .bool rt, .int .u8 48, .int .i64 0, .bool false] 75)).heap.size ((wr.alloc (.cells #[.int .i64 a, .int .i64 dl, .bool rt] 56)).alloc (.cells #[.int .i64 a, .int .i64 dl, .bool rt, .int .u8 48, .int .i64 0, .bool false] 75))).drew) _).trans hg7; have hm7 : Moved (Value.slice C n d).ownBlock.toList wr w7 := (HM2.out.mono (by simp)).trans (Moved.of_grown (hot := (Value.slice C n d).ownBlock.toList) (row := (Value.slice C n d).ownBlock) hg8 (by simp)); have hbx7 := HN.out.box.move hm7 (by intro hb; have := (HOWN.out.lt _ (by simpa using hb)).1; omega); have hd7 := (hbx7 0 _ rfl).1; have hf7 := (hbx7 0 _ rfl).2)
      all_goals
        go_wp2_with fail
        go_roundw
        case measure => simp [intOf]; omega
        case rel =>
          refine ⟨n + 1, some ⟨g7, 0, none⟩, n + 1, cap7, hlt, by go_num, Lib.hid ⟨hbx7.set (j := 0) (by simp) _, ?_, ?_, ?_⟩⟩
          · have ht : (s.doms.take (n + 1)).map newP = (s.doms.take n).map newP ++ [newP x] := by rw [List.take_add_one, HX.out, List.map_append]; rfl
            rw [ht, pstVs_snoc, HNM.out]
            refine own_move hown7 fun g hg => ?_
            injection hg with hg
            subst hg
            exact Below.heap_setCell w7 _ _ _ (by
              rcases hat7 with h | h
              · have := (HOWN.out.lt _ h).1; show g7 ≠ w1.heap.size; omega
              · show g7 ≠ w1.heap.size; omega)
          · simp [← HNN.out]; omega
          · exact (HN.out.mv.trans' hm7 (fun b hb => by
              have := (HOWN.out.lt b (by simpa using hb)).1
              exact .inr (by simpa using this))).trans (Moved.setCell _ (by simp) _)
    · have hke : k = N := by omega
      subst hke
      have i1 : ¬ ((k : Int) < (k : Int)) := by omega
      go_wp2_with fail
      go_ret2
      have hown := HN.out.own
      have hbox := HN.out.box
      have hln := HN.out.len
      rw [HNN.out] at hown hln
      rw [List.take_length] at hown hln
      obtain ⟨g, cap, e, hg1, hg2⟩ := World.ownsRow.form hown (by rw [← hln]; simp; rw [← HNN.out]; exact hp)
      injection e with e1 e2 e3
      subst e1 e3
      have hln' := hln
      refine ⟨w1.heap.size, g, d, rfl, by omega, by omega, ⟨by omega, ?_, ?_⟩, HB2.out.low.trans (HN.out.mv.below (by simp; omega) (by simp; omega))⟩
      · rw [hln]; exact hbox
      · rw [hln]; exact (rowC_of_own hln hown).base (Nat.zero_le _)
end

section
set_option linter.unusedSimpArgs false
set_option linter.unusedVariables false
open Go.RowKit Go.Maps

def RevTo (xs : List Int) (k : Nat) (ys : List Int) : Prop := ys.length = xs.length ∧ ∀ j, j < xs.length → ys[j]? = if j < k ∨ xs.length ≤ j + k then xs[xs.length - 1 - j]? else xs[j]?
theorem RevTo.zero (xs : List Int) : RevTo xs 0 xs := ⟨rfl, fun j hj => by rw [if_neg (by omega)]⟩
theorem RevTo.done {xs ys : List Int} {k : Nat} (h : RevTo xs k ys) (hk : xs.length ≤ k + k + 1) : ys = xs.reverse := by
  refine List.ext_getElem? fun j => ?_
  rcases Nat.lt_or_ge j xs.length with hj | hj
  · rw [h.2 j hj, List.getElem?_reverse hj]
    by_cases hc : j < k ∨ xs.length ≤ j + k
    · rw [if_pos hc]
    · rw [if_neg hc]
      congr 1
      omega
  · rw [List.getElem?_eq_none (by have := h.1; omega), List.getElem?_eq_none (by simpa using hj)]
theorem RevTo.step {xs ys : List Int} {k m : Nat} {a b : Int} (h : RevTo xs k ys) (hm : k + m + 1 = xs.length) (hlt : k < m) (ha : ys[k]? = some a) (hb : ys[m]? = some b) : RevTo xs (k + 1) ((ys.set k b).set m a) := by
  have hl := h.1
  refine ⟨by simp [hl], fun j hj => ?_⟩
  have ea := h.2 k (by omega)
  have eb := h.2 m (by omega)
  rw [if_neg (by omega), ha] at ea
  rw [if_neg (by omega), hb] at eb
  by_cases e1 : j = m
  · subst e1
    rw [List.getElem?_set_self (by simp; omega), if_pos (by omega), ea]
    congr 1
    omega
  · rw [List.getElem?_set_ne (Ne.symm e1)]
    by_cases e2 : j = k
    · subst e2
      rw [List.getElem?_set_self (by omega), if_pos (by omega), eb]
      congr 1
      omega
    · rw [List.getElem?_set_ne (Ne.symm e2), h.2 j hj]
      by_cases hc : j < k ∨ xs.length ≤ j + k
      · rw [if_pos hc, if_pos (by omega)]
      · rw [if_neg hc, if_neg (by omega)]

/-- what Reverse leaves -/
def Reverses (B : Nat) (v : Value) (n : Nat) (xs : List Int) (w : World) (e : Ending) (w' : World) : Prop := (∃ r, e = .returned r) ∧ w'.ownsRow B 3 1 v n (iv xs.reverse) ∧ Moved v.ownBlock.toList w w'
theorem iv_set (xs : List Int) (k : Nat) (b : Int) : (iv xs).set k (.int .i64 b) = iv (xs.set k b) := by simp [iv, List.map_set]

theorem Moved.drew {H : List Nat} {w w' : World} (h : Moved H w w') : Moved H w w'.drew := ⟨h.os, h.tape, h.output, h.size, h.block⟩
set_option maxRecDepth 100000 in
set_option maxHeartbeats 2000000 in
theorem reverse_any (B n c : Nat) (A : Option Addr) (xs : List Int) (w : World) (hn : n ≤ 1000) (hx : xs.length = n) (h : w.ownsRow B 3 1 (.slice A n c) n (iv xs)) :
    Calls Tryz.prog 32 #[.slice A n c] w (Reverses B (.slice A n c) n xs w) := by
  by_cases h0 : n = 0
  · subst h0
    have hxs : xs = [] := List.length_eq_zero_iff.1 hx
    subst hxs
    have H := Lib.hid h
    clear h hx
    go_enter Tryz.func32, Tryz.ntmps32
    go_wp2
    go_loopw [2, 3] (fun i j wr => i = .int .i64 0 ∧ j = .int .i64 (-1) ∧ wr = w) (fun _ _ _ => 0)
    case atStart => exact ⟨rfl, rfl, rfl⟩
    case round =>
      obtain ⟨rfl, rfl, rfl⟩ := hrel
      go_wp2
      go_end0
      exact ⟨⟨_, rfl⟩, H.out, Moved.refl _ _⟩
  · have hp : 0 < n := by omega
    obtain ⟨g, cap, e, hg1, hg2⟩ := World.ownsRow.form h hp
    injection e with e1 _ e3
    subst e1 e3
    have H := Lib.hid h
    have HX := Lib.hid hx
    clear h hx h0
    go_enter Tryz.func32, Tryz.ntmps32
    go_wp2
    go_loopw [2, 3] (fun i j wr => ∃ (k m : Nat) (ys : List Int), k + m + 1 = n ∧ i = .int .i64 k ∧ j = .int .i64 m ∧ RowKit.Hid (RevTo xs k ys) ∧ RowKit.Hid (wr.ownsRow B 3 1 (.slice (some ⟨g, 0, none⟩) n c) n (iv ys)) ∧ RowKit.Hid (Moved [g] w wr)) (fun i _ _ => n - (intOf i).toNat)
    case atStart => exact ⟨0, n - 1, xs, by omega, rfl, by rw [show ((n - 1 : Nat) : Int) = (n : Int) - 1 by omega], Lib.hid (RevTo.zero xs), H, Lib.hid (Moved.refl _ _)⟩
    case round =>
      obtain ⟨k, m, ys, hkm, rfl, rfl, HR, HO, HM⟩ := hrel
      by_cases hlt : k < m
      · have hyl : ys.length = n := HR.out.1.trans HX.out
        have hka := List.getElem?_eq_getElem (l := ys) (i := k) (by omega)
        have hma := List.getElem?_eq_getElem (l := ys) (i := m) (by omega)
        generalize ys[k] = a at hka
        generalize ys[m] = b at hma
        have ck : wr.cell? ⟨g, k, none⟩ = some (.int .i64 a) := by
          rw [HO.out.cellAt _ (by omega)]
          exact iv_get hka
        have cm : wr.cell? ⟨g, m, none⟩ = some (.int .i64 b) := by
          rw [HO.out.cellAt _ (by omega)]
          exact iv_get hma
        have fk : wr.frozen? ⟨g, k, none⟩ = false := HO.out.frozenAt _
        have fm : wr.frozen? ⟨g, m, none⟩ = false := HO.out.frozenAt _
        have o1 := (HO.out.stored k (.int .i64 b)).1
        rw [iv_set] at o1
        have o2 := (o1.stored m (.int .i64 a)).1
        rw [iv_set] at o2
        have HO2 := Lib.hid o2
        have HR2 := Lib.hid (HR.out.step (by rw [HX.out]; exact hkm) hlt hka hma)
        have i0 : (0 : Int) ≤ (k : Int) := by omega
        have i1 : (k : Int) < (n : Int) := by omega
        have j0 : (0 : Int) ≤ (m : Int) := by omega
        have j1 : (m : Int) < (n : Int) := by omega
        have hne : k ≠ m := by omega
        have hne' : m ≠ k := by omega
        clear o1 o2 hka hma hyl HO HR
        go_wp2
        go_region
        all_goals
          go_wp2
          go_roundw
          case measure => simp [intOf]; omega
          case rel => exact ⟨k + 1, m - 1, _, by omega, by go_num, by rw [show ((m - 1 : Nat) : Int) = (m : Int) - 1 by omega], HR2, Lib.hid HO2.out.drew, Lib.hid (HM.out.trans ((Moved.setCell (hot := [g]) _ (p := ⟨g, k, none⟩) (by simp) _).trans (Moved.setCell (hot := [g]) _ (p := ⟨g, m, none⟩) (by simp) _))).drew⟩
      · go_wp2
        go_end0
        refine ⟨⟨_, rfl⟩, ?_, HM.out⟩
        have hd := HR.out.done (by rw [HX.out]; omega)
        have ho := HO.out
        rw [hd] at ho
        exact ho

/-- each domain is below a lesser one, or none -/
def Desc (sts : List Pst) : Prop := ∀ (k : Nat) (x : Pst), sts[k]? = some x → x.dom.above = -1 ∨ (0 ≤ x.dom.above ∧ x.dom.above < (k : Int))
def aboveI (sts : List Pst) (i : Int) : Int := atP sts i (fun x => x.dom.above) (-1)
def upsP (sts : List Pst) : Nat → Int → List Int
  | 0, _ => []
  | f + 1, i => if hasB sts.length i = true then i :: upsP sts f (aboveI sts i) else []
/-- a domain, and all above it, one behind the other -/
def upsF (sts : List Pst) (i : Int) : List Int := upsP sts (i.toNat + 1) i
theorem upsF_no {sts : List Pst} {i : Int} (h : hasB sts.length i = false) : upsF sts i = [] := by unfold upsF upsP; simp [h]
theorem upsP_more {sts : List Pst} (hd : Desc sts) : ∀ (f : Nat) (i : Int), i.toNat + 1 ≤ f → upsP sts f i = upsF sts i := by
  intro f
  induction f using Nat.strongRecOn with
  | _ f ih =>
    intro i hf
    cases hb : hasB sts.length i with
    | false =>
      rw [upsF_no hb]
      cases f with
      | zero => rfl
      | succ f => unfold upsP; simp [hb]
    | true =>
      obtain ⟨k, x, rfl, hx⟩ := hasB_ex hb
      cases f with
      | zero => omega
      | succ f =>
        unfold upsF
        unfold upsP
        rw [if_pos hb, if_pos hb]
        congr 1
        have ha : aboveI sts (k : Int) = x.dom.above := atP_at hx _ _
        rw [ha]
        rcases hd k x hx with h | ⟨h1, h2⟩
        · have hn : hasB sts.length x.dom.above = false := by unfold hasB; simp; omega
          have e : ∀ f, upsP sts f x.dom.above = [] := by
            intro f
            cases f with
            | zero => rfl
            | succ f => unfold upsP; simp [hn]
          rw [e, e]
        · have hk : (k : Int).toNat = k := by omega
          rw [hk] at hf ⊢
          rw [ih f (by omega) x.dom.above (by omega)]
          cases k with
          | zero => omega
          | succ k => exact (ih (k + 1) (by omega) x.dom.above (by omega)).symm
theorem upsF_yes {sts : List Pst} (hd : Desc sts) {k : Nat} {x : Pst} (hx : sts[k]? = some x) : upsF sts (k : Int) = (k : Int) :: upsF sts x.dom.above := by
  have ha : aboveI sts (k : Int) = x.dom.above := atP_at hx _ _
  have hk : (k : Int).toNat = k := by omega
  conv => lhs; unfold upsF upsP
  rw [if_pos (hasB_at hx), ha, hk]
  congr 1
  rcases hd k x hx with h | ⟨h1, h2⟩
  · have hn : hasB sts.length x.dom.above = false := by unfold hasB; simp; omega
    rw [upsF_no hn]
    cases k with
    | zero => rfl
    | succ k => unfold upsP; simp [hn]
  · exact upsP_more hd k x.dom.above (by omega)
theorem upsP_len (sts : List Pst) : ∀ (f : Nat) (i : Int), (upsP sts f i).length ≤ f := by
  intro f
  induction f with
  | zero => intro i; simp [upsP]
  | succ f ih =>
    intro i
    unfold upsP
    split
    · simp; exact ih _
    · simp
theorem upsF_len (sts : List Pst) (i : Int) : (upsF sts i).length ≤ sts.length := by
  cases hb : hasB sts.length i with
  | false => rw [upsF_no hb]; simp
  | true =>
    have h := upsP_len sts (i.toNat + 1) i
    unfold hasB at hb
    simp at hb
    unfold upsF
    omega
def chainP (sts : List Pst) (i : Int) : List Int := (upsF sts i).reverse
def ChainIs (w : World) (l : List Int) (e : Ending) (w' : World) : Prop := ∃ A c, e = .returned (.slice A l.length c) ∧ w'.ownsRow w.heap.size 3 1 (.slice A l.length c) l.length (iv l) ∧ Below w.heap.size w w'

structure ChS (w wr : World) (sts : List Pst) (i cur : Int) (A : Option Addr) (m c : Nat) (acc : List Int) : Prop where
  len : acc.length = m
  own : wr.ownsRow w.heap.size 3 1 (.slice A m c) m (iv acc)
  eq : acc ++ upsF sts cur = upsF sts i
  bel : Below w.heap.size w wr

set_option maxRecDepth 100000 in
set_option maxHeartbeats 2000000 in
theorem chain_any (gt g c : Nat) (sts : List Pst) (i : Int) (w : World) (hn : sts.length ≤ 500) (hi : wfI i) (h : GridIs w gt g c sts) (hd : Desc sts) :
    Calls Tryz.prog 22 #[.pointer (some ⟨gt, 0, none⟩), .int .i64 i] w (ChainIs w (chainP sts i)) := by
  have H := Lib.hid h
  have HD := Lib.hid hd
  obtain ⟨N, hN⟩ : ∃ N, N = sts.length := ⟨_, rfl⟩
  have HN := Lib.hid hN
  rw [hN.symm] at hn
  clear h hd hN
  go_enter Tryz.func22, Tryz.ntmps22
  go_wp2
  go_loopw [1, 5] (fun d v wr => ∃ (cur : Int) (acc : List Int) (A : Option Addr) (m c : Nat), d = .int .i64 cur ∧ v = .slice A m c ∧ RowKit.Hid (ChS w wr sts i cur A m c acc)) (fun d _ _ => (intOf d + 1).toNat)
  case atStart => exact ⟨i, [], none, 0, 0, rfl, rfl, Lib.hid ⟨rfl, World.ownsRow_nil _ _ _ _, by simp, Below.refl _ _⟩⟩
  case round =>
    obtain ⟨cur, acc, A, m, cm, rfl, rfl, HC⟩ := hrel
    have hlen : m ≤ N := by
      have h1 := congrArg List.length HC.out.eq
      have h2 := upsF_len sts i
      rw [List.length_append, HC.out.len] at h1
      rw [HN.out]
      omega
    have HGR := Lib.hid (H.out.move (Moved.of_below HC.out.bel))
    cases hb : hasB sts.length cur with
    | true =>
      obtain ⟨k, x, rfl, hx⟩ := hasB_ex hb
      have hlt := (List.getElem?_eq_some_iff.1 hx).1
      rw [← HN.out] at hlt
      have hup := upsF_yes HD.out hx
      have hac := HC.out.eq
      have ha := HD.out k x hx
      have v0 : ∀ W, Below wr.heap.size wr W → W.cell? ⟨g, k * 6, none⟩ = some (.int .i64 x.dom.above) := fun W hW => ((HGR.out.move (Moved.of_below hW)).at_ hx 0 _ rfl).1
      have b0 : ∀ W, Below wr.heap.size wr W → W.cell? ⟨gt, 0, none⟩ = some (.slice (some ⟨g, 0, none⟩) N c) := fun W hW => by rw [HN.out]; exact ((HGR.out.move (Moved.of_below hW)).box 0 _ rfl).1
      have HV := Lib.hid v0
      have HB0 := Lib.hid b0
      obtain ⟨a, haa⟩ : ∃ a, x.dom.above = a := ⟨_, rfl⟩
      rw [haa] at hup ha
      have HAA := Lib.hid haa
      have HXX := Lib.hid hx
      have HUP := Lib.hid hup
      have HAC := Lib.hid hac
      have HA := Lib.hid ha
      have HBB := Lib.hid hb
      have i0 : (0 : Int) ≤ (k : Int) := by omega
      have i1 : (k : Int) < (N : Int) := by omega
      have hown : (wr.alloc (.cells #[.int .i64 (k : Int)] 3)).ownsRow w.heap.size 3 1 (.slice A m cm) m (iv acc) := own_move HC.out.own fun g hg => (Moved.alloc (hot := []) wr _).block g (HC.out.own.lt g hg).2 (by simp)
      have HOWN := Lib.hid hown
      have hsz := HC.out.bel.size
      obtain ⟨i3, hi3, hz0, hzs, hzb⟩ := info_parts Tryz.info3
      clear hb hx hup hac ha haa v0 b0 hown
      go_wp2_with fail
      refine (has_any gt _ _ _ (k : Int) wr HGR.out.box).mono ?_
      rintro e w' ⟨rfl, rfl⟩
      rw [HBB.out]
      go_wp2_with (at_builtin; refine wpList_append_own_at _ rfl _ _ 22 rfl w.heap.size 3 i3 (.int .i64 0) 1 8 Tryz.underlying22 hi3 hz0 hzs hzb rfl (by decide) _ _ _ rfl HOWN.out ⟨wr.heap.size, 0, none⟩ 1 1 [.int .i64 (k : Int)] rfl rfl (cells_new wr wr.heap.size rfl _ 3) (by intro u hu; simp at hu; subst hu; rfl) (by unfold maxLen; omega) (by omega) (by simp; omega) ?_; intro v6 w6 hown6 hg6 _ hob6; obtain ⟨A6, c6, rfl⟩ := own_shape' hown6; have hmg : Moved (Value.slice A m cm).ownBlock.toList wr w6 := (Moved.alloc wr _).trans (Moved.of_grown (hot := (Value.slice A m cm).ownBlock.toList) (row := (Value.slice A m cm).ownBlock) hg6 (by simp)); have HOWN6 := Lib.hid hown6; have HMG := Lib.hid hmg; have hg7 := H.out.move (Moved.of_below (HC.out.bel.trans (hmg.below (B := w.heap.size) (fun b hb => (HOWN.out.lt b (by simpa using hb)).1) hsz))); have y0 := (hg7.box 0 _ rfl).1; rw [← HN.out] at y0; have y1 : w6.cell? ⟨g, k * 6, none⟩ = some (.int .i64 a) := (by rw [← HAA.out]; exact (hg7.at_ HXX.out 0 _ rfl).1); clear hown6 hg6 hob6 hmg hg7)
      go_roundw
      case rel =>
        refine ⟨a, acc ++ [(k : Int)], A6, m + 1, c6, rfl, rfl, Lib.hid ⟨?_, ?_, ?_, ?_⟩⟩
        · rw [List.length_append, HC.out.len]; rfl
        · rw [iv_snoc]; exact HOWN6.out
        · rw [List.append_assoc, ← HAC.out, HUP.out]; rfl
        · exact HC.out.bel.trans (HMG.out.below (B := w.heap.size) (fun b hb => (HOWN.out.lt b (by simpa using hb)).1) hsz)
      case measure =>
        have := HA.out
        simp [intOf]
        omega
    | false =>
      have HBB := Lib.hid hb
      have hac := HC.out.eq
      rw [upsF_no hb, List.append_nil] at hac
      have HAC := Lib.hid hac
      clear hb hac
      go_wp2_with fail
      refine (has_any gt _ _ _ cur wr HGR.out.box).mono ?_
      rintro e w' ⟨rfl, rfl⟩
      rw [HBB.out]
      go_wp2_with fail
      refine (reverse_any w.heap.size m cm A acc wr (by omega) HC.out.len HC.out.own).mono ?_
      rintro e w6 ⟨⟨r, rfl⟩, ho6, hm6⟩
      have HO6 := Lib.hid ho6
      have HM6 := Lib.hid hm6
      clear ho6 hm6
      go_wp2
      go_ret
      have hl : (chainP sts i).length = m := by unfold chainP; rw [List.length_reverse, ← HAC.out, HC.out.len]
      have hc : chainP sts i = acc.reverse := by unfold chainP; rw [HAC.out]
      refine ⟨A, cm, by rw [hl]; rfl, ?_, ?_⟩
      · rw [hl, hc]; exact HO6.out
      · exact HC.out.bel.trans (HM6.out.below (B := w.heap.size) (fun b hb => (HC.out.own.lt b (by simpa using hb)).1) HC.out.bel.size)
end

section
set_option linter.unusedSimpArgs false
set_option linter.unusedVariables false
open Go.RowKit Go.Maps

def s0 : Chip := ⟨[], [⟨-1, 0, false⟩], [], []⟩
theorem s0_ok : ChipOk s0 := ⟨by simp [s0], by simp [s0], by simp [s0], by simp [s0], by simp [s0], by simp [s0, wfI], by simp [s0]⟩
theorem s0_right : chipE s0 = 0 := by
  have g0 : graphE [] = 0 := graphE_down (by simp) (by intro i r h; simp at h)
  have g1 : graphE [[]] = 0 := graphE_down (by simp) (by
    intro i r h
    cases i with
    | zero => simp at h; subst h; simp
    | succ i => simp at h)
  have e : chipE s0 = firstE [orE (fitsB s0) 8, firstE ([] : List Int), graphE [], firstE [domE 1 ⟨-1, 0, false⟩], graphE [[]], firstE ([] : List Int), firstE ([] : List Int), graphE []] := rfl
  rw [e, g0, g1]
  rfl
theorem s0_chip (w : World) (g : Nat) (hg : g < w.heap.size) (h : AggAt w ⟨g, 0, none⟩ [.int .i64 (-1), .int .i64 0, .bool false]) : ChipV w w.heap.size s0 [.slice none 0 0, .slice (some ⟨g, 0, none⟩) 1 1, .slice none 0 0, .slice none 0 0] := by
  refine ⟨none, 0, some ⟨g, 0, none⟩, 1, none, 0, none, 0, rfl, Nat.le_refl _, Nat.le_refl _, Nat.le_refl _, Nat.le_refl _, fun h => absurd h (by simp [s0]), fun _ => ⟨_, rfl, hg, fun k x hx => ?_⟩, fun h => absurd h (by simp [s0]), fun h => absurd h (by simp [s0])⟩
  cases k with
  | zero =>
    simp [s0] at hx
    subst hx
    refine ⟨_, rfl, ?_⟩
    have e : (⟨g, 0, none⟩ : Addr).add (0 * 3) = ⟨g, 0, none⟩ := rfl
    rw [e]
    exact h
  | succ k => simp [s0] at hx

theorem EvRow.one {w : World} {B : Nat} {v : Value} {a b : Int} (h : EvRow w B v [⟨a, b⟩]) : ∃ g c, v = .slice (some ⟨g, 0, none⟩) 1 c ∧ B ≤ g ∧ w.cell? ⟨g, 0, none⟩ = some (.int .u8 a) ∧ w.cell? ⟨g, 1, none⟩ = some (.int .i64 b) := by
  obtain ⟨g, c, rfl, hg, hl⟩ := World.ownsRow.form h (by simp)
  refine ⟨g, c, rfl, hg, ?_, ?_⟩
  · rw [World.ownsRow.cellAt h 0 (by simp)]; rfl
  · rw [World.ownsRow.cellAt h 1 (by simp)]; rfl

def st1 (p : Int) : List Pst := [⟨⟨-1, 0, false⟩, p, 0, false⟩]
theorem st1_above (p : Int) : ∀ (k : Nat) (x : Pst), (st1 p)[k]? = some x → aboveOk (st1 p).length x.dom.above := by
  intro k x h
  cases k with
  | zero => simp [st1] at h; subst h; exact .inl rfl
  | succ k => simp [st1] at h
theorem st1_left (p : Int) : ∀ (k : Nat) (x : Pst), (st1 p)[k]? = some x → x.left ≤ 1000000 := by
  intro k x h
  cases k with
  | zero => simp [st1] at h; subst h; simp
  | succ k => simp [st1] at h

set_option maxRecDepth 100000 in
set_option maxHeartbeats 4000000 in
theorem shown_any (w : World) : Calls Tryz.prog 4 #[] w (TellsB true w) := by
  have hb1 := (Below.refl w.heap.size w).alloc (Nat.le_refl _) (.cells #[.int .i64 (-1), .int .i64 0, .bool false] 56)
  have hcv := s0_chip (w.alloc (.cells #[.int .i64 (-1), .int .i64 0, .bool false] 56)) w.heap.size (by simp) (agg_new w [.int .i64 (-1), .int .i64 0, .bool false] 56)
  have HB1 := Lib.hid hb1
  have HCV := Lib.hid hcv
  clear hb1 hcv
  go_enter Tryz.func4, Tryz.ntmps4
  go_wp2_with fail
  refine (new_ok s0 _ _ s0_ok HCV.out s0_right (by simp [s0])).mono ?_
  rintro e w1 ⟨gt, g, c, rfl, hgt, hg, hgr, hb⟩
  have hg1 : GridIs w1 gt g c (st1 48) := hgr
  have HG1 := Lib.hid hg1
  have hb1' := HB1.out.trans (hb.mono (by simp))
  have HB2 := Lib.hid hb1'
  have hz1 : w.heap.size + 1 ≤ w1.heap.size := by have := hb.size; simp at this; omega
  simp only [World.size_alloc] at hgt hg
  clear hgr hb hg1 hb1' HB1 HCV
  go_wp2_with fail
  refine (phase_any gt g c (st1 48) 0 _ (by simp [st1]) HG1.out).mono ?_
  rintro e w' ⟨rfl, rfl⟩
  rw [show phaseP (st1 48) 0 = 48 from rfl]
  go_wp2_with fail
  refine (up_any gt g c (st1 48) 0 _ (by simp [st1]) HG1.out (st1_above 48)).mono ?_
  rintro e w2 ⟨rfl, hg2, hm2⟩
  rw [show upE (st1 48) 0 = 0 from rfl]
  have hg2' : GridIs w2 gt g c (st1 114) := hg2
  have HG2 := Lib.hid hg2'
  have HM2 := Lib.hid hm2
  have hz2 := hm2.size
  clear hg2 hg2' hm2
  go_wp2_with fail
  refine (tick_any gt g c (st1 114) _ (by simp [st1]) HG2.out (st1_left 114)).mono ?_
  rintro e w3 ⟨v3, rfl, he3, hg3, hm3⟩
  have he3' : EvRow w3 w2.heap.size v3 [⟨110, 0⟩] := he3
  have hg3' : GridIs w3 gt g c (st1 104) := hg3
  obtain ⟨g3, c3, rfl, hgl3, e0, e1⟩ := he3'.one
  have HG3 := Lib.hid hg3'
  have HM3 := Lib.hid (HM2.out.trans hm3)
  have hz3 := hm3.size
  have hne3 : g3 ≠ g := by have := HG2.out.lt; omega
  clear he3 he3' hg3 hg3' hm3
  go_wp2_with fail
  refine (tick_any gt g c (st1 104) _ (by simp [st1]) HG3.out (st1_left 104)).mono ?_
  rintro e w4 ⟨v4, rfl, he4, hg4, hm4⟩
  have he4' : EvRow w4 w3.heap.size v4 [⟨111, 0⟩] := he4
  have hg4' : GridIs w4 gt g c (st1 49) := hg4
  obtain ⟨g4, c4, rfl, hgl4, f0, f1⟩ := he4'.one
  have HG4 := Lib.hid hg4'
  have HM4 := Lib.hid (HM3.out.trans hm4)
  have e0' := hm4.cell e0 (by simpa using hne3)
  clear he4 he4' hg4 hg4' hm4 e0 e1 f1
  go_wp2_with fail
  refine (phase_any gt g c (st1 49) 0 _ (by simp [st1]) HG4.out).mono ?_
  rintro e w' ⟨rfl, rfl⟩
  rw [show phaseP (st1 49) 0 = 49 from rfl]
  go_wp2
  go_ret
  exact ⟨rfl, HB2.out.trans (HM4.out.below (by simp; omega) (by omega))⟩
end

end Go.Proofs.YtlhmcpkfmnmhfaaGreat
