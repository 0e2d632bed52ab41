/- The document's own grid: New (of a description that is not right there is no grid). -/
import Derived.Test.YtlhmcpkfmnmhfaaGreatY8
import Derived.DataElems
namespace Go.Proofs.YtlhmcpkfmnmhfaaGreat
section
set_option linter.unusedSimpArgs false
set_option linter.unusedVariables false
open Go.RowKit Go.Maps

set_option maxRecDepth 100000 in
set_option maxHeartbeats 4000000 in
theorem rnew_err (s : Chip) (vs : List Value) (w : World) (hok : ChipOk s) (h : ChipV w w.heap.size s vs) (hE : chipE s ≠ 0) : Calls Tryz.prog 7 #[.agg vs.toArray] w (NewErr (chipE s) w) := by
  obtain ⟨E, hEE⟩ : ∃ E, chipE s = E := ⟨_, rfl⟩
  rw [hEE] at hE ⊢
  have HE := Lib.hid hEE
  have hz : (E != 0) = true := by simpa using hE
  have HCV := Lib.hid h
  obtain ⟨A1, c1, A2, c2, A3, c3, A4, c4, rfl, -, -, -, -, -, -, -, -⟩ := h
  have HOK := Lib.hid hok
  have hst := Bx.start w [.slice A1 s.clks.length c1, .slice A2 s.doms.length c2, .slice A3 s.rsts.length c3, .slice A4 s.devs.length c4]
  have HST := Lib.hid hst
  have HC0 := Lib.hid (hst.chip HCV.out)
  clear hE hEE hok hst
  go_enter Tryz.func7, Tryz.ntmps7
  go_wp2_with fail
  refine (rchip_check s _ _ HOK.out HC0.out).mono ?_
  rintro e w1 ⟨rfl, hb⟩
  rw [HE.out]
  have HB1 := Lib.hid (HST.out.step hb)
  clear hb
  go_wp2
  go_ret2
  exact ⟨rfl, HB1.out.low⟩
end

section
set_option linter.unusedSimpArgs false
set_option linter.unusedVariables false
open Go.RowKit Go.Maps

theorem flat_at {vss : List (List Value)} {sz : Nat} (h : ∀ vs, vs ∈ vss → vs.length = sz) : ∀ {i : Nat} {u : Value}, vss.flatten[i]? = some u → ∃ k j vs, vss[k]? = some vs ∧ vs[j]? = some u ∧ i = k * sz + j := by
  induction vss with
  | nil => intro i u hi; simp at hi
  | cons x l ih =>
    intro i u hi
    have hx : x.length = sz := h x (by simp)
    rw [List.flatten_cons] at hi
    rcases Nat.lt_or_ge i x.length with hl | hl
    · rw [List.getElem?_append_left hl] at hi
      exact ⟨0, i, x, rfl, hi, by omega⟩
    · rw [List.getElem?_append_right hl] at hi
      obtain ⟨k, j, vs, h1, h2, h3⟩ := ih (fun vs hv => h vs (by simp [hv])) hi
      exact ⟨k + 1, j, vs, by simpa using h1, h2, by rw [Nat.add_mul]; omega⟩
theorem flat_len' {vss : List (List Value)} {sz : Nat} (h : ∀ vs, vs ∈ vss → vs.length = sz) : vss.flatten.length = vss.length * sz := by
  induction vss with
  | nil => simp
  | cons x l ih =>
    rw [List.flatten_cons, List.length_append, ih (fun vs hv => h vs (by simp [hv])), h x (by simp), List.length_cons, Nat.add_mul]
    omega
theorem strs_list {α : Type} {V : Reads α} {sz : Nat} {w0 : World} {ad : Addr} {xs : List α} (hV : ∀ (x : α) (vs : List Value), V w0 w0.heap.size x vs → vs.length = sz ∧ ∀ u, u ∈ vs → u.oneCell' = true)
    (h : ∀ k x, xs[k]? = some x → ∃ vs, V w0 w0.heap.size x vs ∧ AggAt w0 (ad.add (k * sz)) vs) :
    ∃ vss : List (List Value), vss.length = xs.length ∧ (∀ (k : Nat) (x : α) (vs : List Value), xs[k]? = some x → vss[k]? = some vs → vs.length = sz ∧ V w0 w0.heap.size x vs) ∧ vss.flatten.length = xs.length * sz ∧ (∀ j u, vss.flatten[j]? = some u → w0.cell? (ad.add j) = some u) ∧ ∀ u, u ∈ vss.flatten → u.oneCell' = true := by
  have h' : ∀ k : Nat, ∃ vs, ∀ x, xs[k]? = some x → V w0 w0.heap.size x vs ∧ AggAt w0 (ad.add (k * sz)) vs := fun k => by
    cases hx : xs[k]? with
    | none => exact ⟨[], fun x e => by cases e⟩
    | some x => obtain ⟨vs, hv⟩ := h k x hx; exact ⟨vs, fun y e => by cases e; exact hv⟩
  obtain ⟨f, hf⟩ := Classical.axiomOfChoice h'
  have hat : ∀ (k : Nat) (x : α) (vs : List Value), xs[k]? = some x → ((List.range xs.length).map f)[k]? = some vs → V w0 w0.heap.size x vs ∧ AggAt w0 (ad.add (k * sz)) vs := fun k x vs hx hv => by
    obtain ⟨_, rfl⟩ := range_at hv
    exact hf k x hx
  have hlen : ∀ vs, vs ∈ (List.range xs.length).map f → vs.length = sz ∧ ∀ u, u ∈ vs → u.oneCell' = true := fun vs hv => by
    obtain ⟨k, hk⟩ := List.mem_iff_getElem?.1 hv
    obtain ⟨hkl, rfl⟩ := range_at hk
    exact hV _ _ (hf k _ (List.getElem?_eq_getElem hkl)).1
  refine ⟨(List.range xs.length).map f, by simp, fun k x vs hx hv => ⟨(hV x vs (hat k x vs hx hv).1).1, (hat k x vs hx hv).1⟩, by rw [flat_len' (sz := sz) (fun vs hv => (hlen vs hv).1), List.length_map, List.length_range], fun j u hj => ?_, fun u hu => ?_⟩
  · obtain ⟨k, i, vs, h1, h2, rfl⟩ := flat_at (fun vs hv => (hlen vs hv).1) hj
    have hkl : k < xs.length := (range_at h1).1
    have := (hat k _ vs (List.getElem?_eq_getElem hkl) h1).2 i u h2
    rwa [Addr.add_add] at this
  · obtain ⟨vs, h1, h2⟩ := List.mem_flatten.1 hu
    exact (hlen vs h1).2 u h2

theorem DomV_cells (w : World) (B : Nat) (x : Dom) (vs : List Value) (h : DomV w B x vs) : vs.length = 3 ∧ ∀ u, u ∈ vs → u.oneCell' = true := by
  have h' : vs = _ := h
  subst h'
  refine ⟨rfl, fun u hu => ?_⟩
  simp at hu
  rcases hu with rfl | rfl | rfl <;> rfl

theorem Tryz.info80 : (Tryz.prog.info? 80).map (fun i => (i.zero, i.size, i.bytes)) = some (some (.agg #[.int .u8 0, .int .i64 0, .bool false]), 3, 24) := by kernel_rfl
def rstVs (sts : List Pst) : List Value := sts.flatMap rstL
theorem rstVs_snoc (sts : List Pst) (x : Pst) : rstVs (sts ++ [x]) = rstVs sts ++ rstL x := by simp [rstVs]
theorem rrowC_of_own {w : World} {B n : Nat} {v : Value} {sts : List Pst} {hot : List Nat} (hn : sts.length = n) (h : w.ownsRow B 80 3 v n (rstVs sts)) : RowC RstateC 3 80 hot w B v sts := by
  subst hn
  refine ⟨sts.map rstL, by simp, fun k x vs hx hv => ?_, by rw [← List.flatMap_def]; exact h⟩
  rw [List.getElem?_map, hx] at hv
  obtain rfl := Option.some.inj hv
  exact ⟨rfl, rfl⟩
/-- a grid of the document's, under way -/
structure NewR (W3 wr : World) (gr : Nat) (D : Value) (C : Option Addr) (n d : Nat) (sts : List Pst) : Prop where
  box : BoxAt wr gr [D, .slice C n d]
  own : wr.ownsRow (gr + 1) 80 3 (.slice C n d) n (rstVs sts)
  len : sts.length = n
  mv : Moved [gr] W3 wr
def RNewOk (s : Chip) (w : World) (e : Ending) (w' : World) : Prop :=
  ∃ gr gd gs cd cs, e = .returned (.tuple #[.pointer (some ⟨gr, 0, none⟩), .int .i64 0]) ∧ w.heap.size ≤ gr ∧ w.heap.size ≤ gd ∧ w.heap.size ≤ gs ∧ RefIs w' gr gd gs cd cs (s.doms.map newP) ∧ Below w.heap.size w w'

set_option maxRecDepth 100000 in
set_option maxHeartbeats 8000000 in
theorem rnew_ok (s : Chip) (vs : List Value) (w : World) (hok : ChipOk s) (h : ChipV w w.heap.size s vs) (hE : chipE s = 0) (hp : 0 < s.doms.length) : Calls Tryz.prog 7 #[.agg vs.toArray] w (RNewOk s w) := by
  have HE := Lib.hid hE
  have HCV := Lib.hid h
  obtain ⟨A1, c1, A2, c2, A3, c3, A4, c4, rfl, -, -, -, -, -, hdoms, -, -⟩ := h
  obtain ⟨ad, rfl, had, hcells⟩ := hdoms hp
  obtain ⟨vss, hv1, hv2, hv3, hv4, hv5⟩ := strs_list (DomV_cells _ _) hcells
  have HOK := Lib.hid hok
  have hst := Bx.start w [.slice A1 s.clks.length c1, .slice (some ad) s.doms.length c2, .slice A3 s.rsts.length c3, .slice A4 s.devs.length c4]
  have HST := Lib.hid hst
  have HC0 := Lib.hid (hst.chip HCV.out)
  have hn := hok.n2
  obtain ⟨N, hN⟩ : ∃ N, N = s.doms.length := ⟨_, rfl⟩
  rw [← hN] at hp hn hv1 hv3
  have HNN := Lib.hid hN
  have HV2 := Lib.hid hv2
  have HV4 := Lib.hid hv4
  have HV5 := Lib.hid hv5
  clear hE hok hst hcells hv2 hv4 hv5
  go_enter Tryz.func7, Tryz.ntmps7
  go_wp2_with fail
  refine (rchip_check s _ _ HOK.out HC0.out).mono ?_
  rintro e w1 ⟨rfl, hb⟩
  rw [HE.out]
  have hb1 := HST.out.step hb
  have hb2 := hb1.moved (Moved.alloc w1 (.cells #[] 56))
  have HB1 := Lib.hid hb1
  have x0 := hb2.box 0 _ rfl
  have x1 := hb2.box 1 _ rfl
  have x2 := hb2.box 2 _ rfl
  have x3 := hb2.box 3 _ rfl
  rw [← hN] at x1
  have hz1 := hb1.size
  have hnews : ∀ j u, vss.flatten[j]? = some u → (w1.alloc (.cells #[] 56)).cell? (ad.add j) = some u := fun j u hj => by
    have h0 := HV4.out j u hj
    exact (hb2.low.cell (by rw [block_add]; exact had)).trans h0
  have HNEWS := Lib.hid hnews
  obtain ⟨i56, hi, hz0, hzs, hzb⟩ := info_parts Tryz.info56
  clear hb hb1 hb2 HC0 HST HE hN hnews
  go_wp2_with (at_builtin; refine wpList_append_own_at _ rfl _ _ 26 rfl w1.heap.size 56 i56 (.agg #[.int .i64 0, .int .i64 0, .bool false]) 3 24 Tryz.underlying26 hi hz0 hzs hzb rfl (by decide) _ 0 [] rfl (World.ownsRow_made w1 #[] 0 (Nat.le_refl _) (Nat.zero_le _) (by simp)) ad N c2 vss.flatten rfl hv3 HNEWS.out HV5.out (by unfold maxLen; omega) (by omega) (by simp) ?_; intro v6 w6 hown6 hg6 _ _; simp only [Nat.zero_add, List.nil_append] at hown6; obtain ⟨gd, c6, rfl, hgd1, hgd2⟩ := World.ownsRow.form hown6 hp; have hm6 := moved_fresh hg6; have HOWN6 := Lib.hid hown6; have HM6 := Lib.hid hm6; have hz6 := hm6.size; clear hown6 hg6 hm6)
  have hbt : BoxAt (w6.alloc (.cells #[.slice (some ⟨gd, 0, none⟩) N c6, .slice none 0 0] 78)) w6.heap.size [.slice (some ⟨gd, 0, none⟩) N c6, .slice none 0 0] := BoxAt.new w6 [.slice (some ⟨gd, 0, none⟩) N c6, .slice none 0 0] 78
  have hn0 : NewR (w6.alloc (.cells #[.slice (some ⟨gd, 0, none⟩) N c6, .slice none 0 0] 78)) (w6.alloc (.cells #[.slice (some ⟨gd, 0, none⟩) N c6, .slice none 0 0] 78)) w6.heap.size (.slice (some ⟨gd, 0, none⟩) N c6) none 0 0 [] := ⟨hbt, World.ownsRow_nil _ _ _ _, rfl, Moved.refl _ _⟩
  have HN0 := Lib.hid hn0
  obtain ⟨i80, ji, jz0, jzs, jzb⟩ := info_parts Tryz.info80
  clear hbt hn0
  go_loopw [6] (fun i wr => ∃ (k : Nat) (C : Option Addr) (n d : Nat), k ≤ N ∧ i = .int .i64 k ∧ RowKit.Hid (NewR (w6.alloc (.cells #[.slice (some ⟨gd, 0, none⟩) N c6, .slice none 0 0] 78)) wr w6.heap.size (.slice (some ⟨gd, 0, none⟩) N c6) C n d ((s.doms.take k).map newP))) (fun i _ => N - (intOf i).toNat)
  case atStart => exact ⟨0, none, 0, 0, Nat.zero_le _, rfl, Lib.hid (by rw [List.take_zero]; exact HN0.out)⟩
  case round =>
    clear HN0
    obtain ⟨k, C, n, d, hk, rfl, HN⟩ := hrel
    have r0 := (HN.out.box 0 _ rfl).1
    have hsz := HN.out.mv.size
    simp only [World.size_alloc] at hsz
    by_cases hlt : k < N
    · have hlt' : k < s.doms.length := by rw [← HNN.out]; exact hlt
      obtain ⟨x, hxk⟩ : ∃ x, x = s.doms[k] := ⟨_, rfl⟩
      have hx : s.doms[k]? = some x := by rw [List.getElem?_eq_getElem hlt', hxk]
      have HX := Lib.hid hx
      have i0 : (0 : Int) ≤ (k : Int) := by omega
      have i1 : (k : Int) < (N : Int) := by omega
      have r1 := (HN.out.box 1 _ rfl).1
      have hln := HN.out.len
      rw [List.length_map, List.length_take] at hln
      have hnk : n = k := by omega
      subst hnk
      have HOWN := Lib.hid (HN.out.own.alloc (.cells #[.int .u8 48, .int .i64 0, .bool false] 80))
      have hbl : ∀ b, b ∈ (Value.slice C n d).ownBlock.toList → w6.heap.size + 1 ≤ b := fun b hb => (HN.out.own.lt b (by simpa using hb)).1
      have HBL := Lib.hid hbl
      clear hx hxk hln hbl
      go_wp2_with (at_builtin; refine wpList_append_own_at _ rfl _ _ 76 rfl (w6.heap.size + 1) 80 i80 (.agg #[.int .u8 0, .int .i64 0, .bool false]) 3 24 Tryz.underlying76 ji jz0 jzs jzb rfl (by decide) _ n _ rfl HOWN.out ⟨wr.heap.size, 0, none⟩ 1 1 [.int .u8 48, .int .i64 0, .bool false] rfl rfl (cells_new wr wr.heap.size rfl _ 80) (by intro u hu; simp at hu; rcases hu with rfl | rfl | rfl <;> rfl) (by unfold maxLen; omega) (by omega) (by simp; omega) ?_; intro v7 w7 hown7 hg7 _ _; obtain ⟨C7, c7, rfl⟩ := own_shape' hown7; have hm7 : Moved (Value.slice C n d).ownBlock.toList wr w7 := (Moved.alloc wr _).trans (Moved.of_grown (hot := (Value.slice C n d).ownBlock.toList) (row := (Value.slice C n d).ownBlock) hg7 (by simp)); have hbx7 := HN.out.box.move hm7 (by intro hb; have := HBL.out _ hb; omega); have p1 := (hbx7 1 _ rfl).1; have p2 := (hbx7 1 _ rfl).2; have HOWN7 := Lib.hid hown7; have HM7 := Lib.hid hm7; have HBX7 := Lib.hid hbx7; clear hown7 hg7 hm7 hbx7)
      go_roundw
      case measure => simp [intOf]; omega
      case rel =>
        refine ⟨n + 1, C7, n + 1, c7, hlt, by go_num, Lib.hid ⟨HBX7.out.set (j := 1) (by simp) _, ?_, ?_, ?_⟩⟩
        · have ht : (s.doms.take (n + 1)).map newP = (s.doms.take n).map newP ++ [newP x] := by rw [List.take_add_one, HX.out, List.map_append]; rfl
          rw [ht, rstVs_snoc]
          refine own_move HOWN7.out fun g hg => ?_
          have hge := (HOWN7.out.lt g hg).1
          exact Below.heap_setCell w7 _ _ _ (by show g ≠ w6.heap.size; omega)
        · simp [← HNN.out]; omega
        · exact (HN.out.mv.trans' HM7.out (fun b hb => by
            have := HBL.out b hb
            exact .inr (by simpa using this))).trans (Moved.setCell _ (by simp) _)
    · have hke : k = N := by omega
      subst hke
      have i1 : ¬ ((k : Int) < (k : Int)) := by omega
      go_wp2_with fail
      go_ret2
      have hown := HN.out.own
      have hbox := HN.out.box
      have hln := HN.out.len
      rw [HNN.out] at hown hln
      rw [List.take_length] at hown hln
      obtain ⟨g, cap, e, hg1, hg2⟩ := World.ownsRow.form hown (by rw [← hln]; simp; rw [← HNN.out]; exact hp)
      injection e with e1 e2 e3
      subst e1 e3
      have hmA : Moved [w6.heap.size] w6 wr := (Moved.alloc w6 _).trans HN.out.mv
      refine ⟨w6.heap.size, gd, g, c6, d, rfl, by omega, by omega, by omega, ⟨by omega, by omega, by omega, by have := hmA.size; omega, ?_, ?_, ?_⟩, HB1.out.low.trans ((HM6.out.below (by simp) (by omega)).trans (hmA.below (by simp; omega) (by omega)))⟩
      · have hkn : k = n := by rw [HNN.out]; simpa using hln
        rw [hln]
        rw [hkn] at hbox
        exact hbox
      · intro j y hy i v hv
        rw [List.getElem?_map] at hy
        obtain ⟨dd, hdd, rfl⟩ : ∃ dd, s.doms[j]? = some dd ∧ newP dd = y := by
          cases hj : s.doms[j]? with
          | none => rw [hj] at hy; cases hy
          | some dd => rw [hj] at hy; injection hy with hy; exact ⟨dd, rfl, hy⟩
        have hjl := (List.getElem?_eq_some_iff.1 hdd).1
        have hvs := List.getElem?_eq_getElem (l := vss) (i := j) (by rw [hv1, HNN.out]; exact hjl)
        obtain ⟨hl3, hV⟩ := HV2.out j dd _ hdd hvs
        have hVe : vss[j]'(by rw [hv1, HNN.out]; exact hjl) = domL dd := hV
        rw [hVe] at hvs
        have hall : ∀ us, us ∈ vss → us.length = 3 := fun us hus => by
          obtain ⟨q, hq⟩ := List.mem_iff_getElem?.1 hus
          have hql := (List.getElem?_eq_some_iff.1 hq).1
          have hqd := List.getElem?_eq_getElem (l := s.doms) (i := q) (by rw [← HNN.out, ← hv1]; exact hql)
          exact (HV2.out q _ us hqd hq).1
        have hget := flat_get hall hvs hv
        have hi3 : i < 3 := (List.getElem?_eq_some_iff.1 hv).1
        have hc6 := HOWN6.out.cellAt (j * 3 + i) (by rw [HNN.out]; omega)
        exact hmA.cell (hc6.trans hget) (by simp; omega)
      · rw [hln]; exact (rrowC_of_own hln hown).base (Nat.zero_le _)
end

section
set_option linter.unusedSimpArgs false
set_option linter.unusedVariables false
open Go.RowKit Go.Maps

theorem KeepIs.start (ds : List Dom) : KeepIs (ds.map newP) := fun k x hx _ => by
  rw [List.getElem?_map] at hx
  cases hd : ds[k]? with
  | none => rw [hd] at hx; cases hx
  | some d =>
    rw [hd] at hx
    obtain rfl := Option.some.inj hx
    simp [newP]
theorem KeepIs.set {sts : List Pst} (h : KeepIs sts) (i : Nat) (y : Pst) (hy : restsB y.phase = false) : KeepIs (sts.set i y) := fun k x hx hr => by
  rcases set_at' hx with ⟨_, rfl⟩ | ⟨_, hx'⟩
  · rw [hy] at hr; cases hr
  · exact h k x hx' hr
theorem KeepIs.tick {sts : List Pst} (h : KeepIs sts) : KeepIs (tickT sts) := fun k x hx hr => by
  unfold tickT at hx
  rw [List.getElem?_map] at hx
  cases hd : sts[k]? with
  | none => rw [hd] at hx; cases hx
  | some y =>
    rw [hd] at hx
    obtain rfl := Option.some.inj hx
    have hy := h k y hd
    obtain ⟨dm, p, l, kp⟩ := y
    simp only at hy
    by_cases h1 : p = 114
    · subst h1
      by_cases h2 : 0 < l
      · simp [passT, h2, restsB] at hr
      · simp [passT, h2, restsB] at hr
    · by_cases h3 : p = 104
      · subst h3
        simp [passT, restsB] at hr
      · by_cases h4 : p = 99
        · subst h4
          cases kp <;> simp [passT]
        · have e : passT ⟨dm, p, l, kp⟩ = ⟨dm, p, l, kp⟩ := by simp [passT, h1, h3, h4]
          rw [e] at hr ⊢
          exact hy hr
theorem KeepIs.up {sts : List Pst} (h : KeepIs sts) (i : Int) : KeepIs (upT sts i) := by
  unfold upT
  split
  · unfold setT
    split
    · exact h.set _ _ (by simp [upS, restsB])
    · exact h
  · exact h
theorem KeepIs.down {sts : List Pst} (h : KeepIs sts) (i : Int) (kp : Bool) : KeepIs (downT sts i kp) := by
  unfold downT
  split
  · unfold setT
    split
    · exact h.set _ _ (by simp [downS, restsB])
    · exact h
  · exact h
end

end Go.Proofs.YtlhmcpkfmnmhfaaGreat
