/- The contract of Tick. -/
import Derived.Test.YtnfbhhgdibkbdaaK15
import Derived.Test.YtnfbhhgdibkbdaaRS
namespace Go.Proofs.Ytnfbhhgdibkbdaa
set_option linter.unusedSimpArgs false
set_option linter.unusedVariables false
open Go.RowKit Go.Maps

/-- in the midst of a tick: the tree as it was, and the new row -/
structure TickIs (w wr : World) (gt g c g' c' : Nat) (sts xs : List Sta) : Prop where
  mv : Moved [] w wr
  tree : TreeIs wr gt g c sts
  row : RowC StaC 10 63 [gt, g'] wr 0 (.slice (some ⟨g', 0, none⟩) xs.length c') xs
  lo : w.heap.size ≤ g'
  hi : g' < wr.heap.size
section
variable {w wr w' : World} {gt g c g' c' : Nat} {sts xs : List Sta}
theorem TickIs.calm (h : TickIs w wr gt g c g' c' sts xs) (hm : Moved [] wr w') : TickIs w w' gt g c g' c' sts xs :=
  ⟨h.mv.trans hm, h.tree.move hm, h.row.move (hm.mono (by simp)) (fun b hb => by injection hb with hb; subst hb; exact hm.block _ h.hi (by simp)), h.lo, Nat.lt_of_lt_of_le h.hi hm.size⟩
theorem TickIs.set {k j : Nat} {x x' : Sta} {u : Value} (h : TickIs w wr gt g c g' c' sts xs) (h0 : TreeIs w gt g c sts) (hx : xs[k]? = some x) (hj : j < 10) (hc : ∀ A cc, (staL x A cc).set j u = staL x' A cc) (hf : x'.clk.frm = x.clk.frm) :
    TickIs w (wr.setCell ⟨g', k * 10 + j, none⟩ u) gt g c g' c' sts (xs.set k x') := by
  have hm1 : Moved [g'] wr (wr.setCell ⟨g', k * 10 + j, none⟩ u) := Moved.setCell _ (by simp) _
  have hm : Moved [] w (wr.setCell ⟨g', k * 10 + j, none⟩ u) := h.mv.trans' hm1 fun q hq => .inr (by simp at hq; subst hq; exact h.lo)
  refine ⟨hm, h0.move hm, ?_, h.lo, Nat.lt_of_lt_of_le h.hi hm1.size⟩
  rw [List.length_set]
  exact h.row.set rfl hx hj (by simp) (fun vs hv _ => by
    obtain ⟨A, cc, rfl, h1, h2⟩ := hv
    exact ⟨A, cc, hc A cc, by rw [hf]; exact h1, by rw [hf]; exact h2⟩)
end
/-- .. at the k-th clock -/
def TickK (w wr : World) (gt g c g' c' : Nat) (sts : List Sta) (k : Nat) : Prop := TickIs w wr gt g c g' c' sts (partT sts k) ∧ TreeIs w gt g c sts
section
variable {w wr w' : World} {gt g c g' c' : Nat} {sts : List Sta} {k : Nat} {x x' : Sta}
theorem TickK.tick0 (h : TickK w wr gt g c g' c' sts k) (hm : Moved [] wr w') (hx : sts[k]? = some x) (hs : tickS sts x = x) : TickK w w' gt g c g' c' sts (k + 1) := by
  have e : partT sts (k + 1) = partT sts k := by
    rw [partT_succ hx, hs]
    refine List.ext_getElem? fun m => ?_
    rw [List.getElem?_set]
    by_cases e : k = m
    · subst e
      rw [if_pos rfl, if_pos (get_lt (partT_at hx)), partT_at hx]
    · rw [if_neg e]
  exact ⟨by rw [e]; exact h.1.calm hm, h.2⟩
theorem TickK.tick1 {j : Nat} {u : Value} (h : TickK w wr gt g c g' c' sts k) (hm : Moved [] wr w') (hx : sts[k]? = some x) (hs : tickS sts x = x') (hj : j < 10) (hc : ∀ A cc, (staL x A cc).set j u = staL x' A cc) (hf : x'.clk.frm = x.clk.frm) :
    TickK w (w'.setCell ⟨g', k * 10 + j, none⟩ u) gt g c g' c' sts (k + 1) :=
  ⟨by rw [partT_succ hx, hs]; exact (h.1.calm hm).set h.2 (partT_at hx) hj hc hf, h.2⟩
end
theorem runI_at {sts : List Sta} {k : Nat} (h : k < sts.length) : runI sts (k : Int) = runP sts k := by
  unfold runI hasB
  simp [h]
theorem Moved.drewN {hot : List Nat} (w : World) (n : Nat) : Moved hot w (w.drewN n) := ⟨rfl, rfl, rfl, Nat.le_refl _, fun _ _ _ => rfl⟩
theorem Below.drew {B : Nat} {a w : World} (h : Below B a w) : Below B a w.drew := h.trans ⟨rfl, rfl, rfl, Nat.le_refl _, fun _ _ => rfl⟩
theorem source_b (g o : Nat) (A : Option Addr) (cc B m : Nat) (fs : List Int) (y : Int) (w : World) (hn : fs.length ≤ 1000) (hc : fs.length ≤ cc) (h1 : w.cell? ⟨g, o + 1, none⟩ = some (.slice A fs.length cc)) (h8 : w.cell? ⟨g, o + 8, none⟩ = some (.int .i64 (m : Int))) (hI : IntsAt w B A fs) (hy : fs[m]? = some y) :
    Calls Try.prog 48 #[.pointer (some ⟨g, o, none⟩)] w fun e w' => e = .returned (.int .i64 y) ∧ Below w.heap.size w w' :=
  (source_any g o A cc B m fs y w hn hc h1 h8 hI hy).mono fun e w' ⟨he, n, hw⟩ => ⟨he, by rw [hw]; exact below_drewN (Below.refl _ _) n⟩
/-- what a tick leaves -/
def Ticks (w : World) (gt : Nat) (sts : List Sta) (e : Ending) (w' : World) : Prop := ∃ g c, e = .returned (.tuple #[]) ∧ TreeIs w' gt g c (tickT sts) ∧ Moved [gt] w w' ∧ w.heap.size ≤ g

set_option maxRecDepth 100000 in
set_option maxHeartbeats 16000000 in
theorem tick_any (gt g c : Nat) (sts : List Sta) (w : World) (hn : sts.length ≤ 1000) (h0 : 0 < sts.length) (hinv : InvT sts) (h : TreeIs w gt g c sts) :
    Calls Try.prog 18 #[.pointer (some ⟨gt, 0, none⟩)] w (Ticks w gt sts) := by
  have H := Lib.hid h
  have HI := Lib.hid hinv
  have t0 := (h.box 0 _ rfl).1
  have HR0 := Lib.hid hinv.right
  clear h hinv
  go_enter Try.func18, Try.ntmps18
  go_wp2_with fail
  refine (clone46_any gt g c sts w hn h0 H.out).mono ?_
  rintro e w2 ⟨g', c', rfl, hg1, hg2, hrow, hb⟩
  have HK : RowKit.Hid (TickK w w2 gt g c g' c' sts 0) := Lib.hid ⟨⟨Moved.of_below hb, H.out.move (Moved.of_below hb), by rw [partT_zero]; exact hrow, hg1, hg2⟩, H.out⟩
  clear hrow hb t0
  go_wp2
  go_loopw [12] (fun i wr => ∃ k : Nat, k ≤ sts.length ∧ i = .int .i64 k ∧ RowKit.Hid (TickK w wr gt g c g' c' sts k)) (fun i _ => sts.length - (intOf i).toNat)
  case atStart => exact ⟨0, Nat.zero_le _, rfl, HK⟩
  case round =>
    clear HK
    obtain ⟨k, hk, rfl, HR⟩ := hrel
    by_cases hlt : k < sts.length
    · have hx := List.getElem?_eq_getElem hlt
      generalize sts[k] = x at hx
      have HX := Lib.hid hx
      have hok := HI.out k x hx
      obtain ⟨vs, -, ⟨A, cc, rfl, hcc, hI⟩, hv⟩ := HR.out.1.row.cell rfl (partT_at hx)
      have v0 : wr.cell? ⟨g', k * 10, none⟩ = some (.int .u8 x.clk.kind) := (hv 0 _ rfl).1
      have v1 : wr.cell? ⟨g', k * 10 + 1, none⟩ = some (.slice A x.clk.frm.length cc) := (hv 1 _ rfl).1
      have v5 : wr.cell? ⟨g', k * 10 + 5, none⟩ = some (.int .i64 x.clk.lock) := (hv 5 _ rfl).1
      have v6 : wr.cell? ⟨g', k * 10 + 6, none⟩ = some (.bool x.on) := (hv 6 _ rfl).1
      obtain ⟨v7, f7⟩ : wr.cell? ⟨g', k * 10 + 7, none⟩ = some (.int .i64 x.left) ∧ wr.frozen? ⟨g', k * 10 + 7, none⟩ = false := hv 7 _ rfl
      obtain ⟨v8, f8⟩ : wr.cell? ⟨g', k * 10 + 8, none⟩ = some (.int .i64 x.set) ∧ wr.frozen? ⟨g', k * 10 + 8, none⟩ = false := hv 8 _ rfl
      have v9 : wr.cell? ⟨g', k * 10 + 9, none⟩ = some (.int .i64 x.want) := (hv 9 _ rfl).1
      have hints := hI.ints
      have HINT := Lib.hid hints
      have HRUN := Lib.hid (fun W (hW : Below wr.heap.size wr W) (i : Int) => running_any gt g c sts i W hn HR0.out (HR.out.1.tree.move (Moved.of_below hW)))
      have i0 : (0 : Int) ≤ (k : Int) := by omega
      have i1 : (k : Int) < (sts.length : Int) := by omega
      have hlen : (partT sts k).length = sts.length := partT_len sts hk
      clear hv hI hints hx
      by_cases hsrc : x.clk.kind = 112 ∧ x.on = true ∨ x.clk.kind = 109
      · have hno : x.clk.kind ≠ 111 := by rcases hsrc with h | h <;> omega
        obtain ⟨s0, s1⟩ := hok.set hno
        obtain ⟨t0, t1⟩ := hok.want hno
        obtain ⟨m, hm⟩ : ∃ m : Nat, x.set = (m : Int) := ⟨x.set.toNat, by omega⟩
        obtain ⟨q, hq⟩ : ∃ q : Nat, x.want = (q : Int) := ⟨x.want.toNat, by omega⟩
        have hz := List.getElem?_eq_getElem (l := x.clk.frm) (i := m) (by omega)
        generalize x.clk.frm[m]'(by omega) = z at hz
        have hy := List.getElem?_eq_getElem (l := x.clk.frm) (i := q) (by omega)
        generalize x.clk.frm[q]'(by omega) = y at hy
        have hsz : srcP x = z := by unfold srcP; rw [hm, Int.toNat_natCast, List.getD_eq_getElem?_getD, hz]; rfl
        have hwy : wantP x = y := by unfold wantP; rw [hq, Int.toNat_natCast, List.getD_eq_getElem?_getD, hy]; rfl
        have hcl := hok.len
        rw [hm] at v8
        rw [hq] at v9
        have HSRC := Lib.hid (fun W (hW : Below wr.heap.size wr W) => source_b g' (k * 10) A cc wr.heap.size m x.clk.frm z W hcl hcc ((Moved.of_below (hot := []) hW).cell v1 (by simp)) ((Moved.of_below (hot := []) hW).cell v8 (by simp)) (HINT.out.below hW (Nat.le_refl _)) hz)
        rcases hsrc with ⟨h1, h2⟩ | h1
        · have hts : tickS sts x = { x with left := lockP 112 x.clk.lock x.left (runI sts z) } := by unfold tickS; rw [if_pos h1, if_pos h2, hsz]
          obtain ⟨fed, hfed⟩ : ∃ fed, runI sts z = fed := ⟨_, rfl⟩
          rw [hfed] at hts
          have HFED := Lib.hid hfed
          have HTS := Lib.hid hts
          have hlr := hok.left
          have h01 : 0 ≤ x.left ∧ x.left ≤ 1000000 := by omega
          rw [h1] at v0
          rw [h2] at v6
          clear hts hfed hz hy hsz hwy hm hq hok h1 h2 s0 s1 t0 t1
          go_wp2_with fail
          refine (HSRC.out _ (Below.refl _ _)).mono ?_
          rintro e w5 ⟨rfl, hb5⟩
          have HB5 := Lib.hid hb5
          clear hb5
          go_wp2_with fail
          refine (HRUN.out _ HB5.out z).mono ?_
          rintro e w6 ⟨rfl, hb6⟩
          rw [HFED.out]
          have hb7 := HB5.out.trans (hb6.mono HB5.out.size)
          have hm7 := Moved.of_below (hot := []) hb7
          have HM7 := Lib.hid hm7
          have HLK := Lib.hid (lock_any g' (k * 10) 112 x.clk.lock x.left fed w6 h01 (hm7.cell v0 (by simp)) (hm7.cell v5 (by simp)) (hm7.cell v7 (by simp)) ((hm7.frozen (p := ⟨g', k * 10 + 7, none⟩) (World.block_lt_of_cell? _ _ v7) (by simp)).trans f7))
          clear hb6 hb7 hm7
          go_wp2_with fail
          refine (HLK.out).mono ?_
          rintro e w8 ⟨⟨v, rfl⟩, hw8⟩
          have HT8 : RowKit.Hid (TickK w w8 gt g c g' c' sts (k + 1)) := Lib.hid (by
            rcases hw8 with rfl | ⟨rfl, hq⟩
            · exact HR.out.tick1 HM7.out HX.out HTS.out (by omega) (fun _ _ => rfl) rfl
            · refine HR.out.tick0 HM7.out HX.out ?_
              rw [HTS.out, hq])
          clear hw8
          go_wp2
          go_roundw
          case rel => exact ⟨k + 1, hlt, by go_num, HT8⟩
          case measure => simp [intOf]; omega
        · obtain ⟨ad, rfl, -, hcell⟩ := HINT.out (by omega)
          have vy := hcell q y hy
          obtain ⟨n, hnn⟩ : ∃ n, n = x.clk.frm.length := ⟨_, rfl⟩
          rw [← hnn] at v1
          have j1 : (q : Int) < (n : Int) := by omega
          have hts : tickS sts x = if (runI sts y || !runI sts z) = true then { x with set := x.want } else x := by unfold tickS; rw [if_neg (by omega), if_pos h1, hsz, hwy]
          rw [h1] at v0
          have hxc : ∀ A cc, (staL x A cc).set 8 (.int .i64 (q : Int)) = staL { x with set := x.want } A cc := fun A cc => by rw [← hq]; rfl
          have HXC := Lib.hid hxc
          clear hz hy hsz hwy hm hok h1 s0 s1 t0 t1 hcell hxc hnn
          cases hrw : runI sts y with
          | true =>
            have HXS := Lib.hid (show tickS sts x = { x with set := x.want } by rw [hts, hrw]; rfl)
            have HRW := Lib.hid hrw
            clear hts hrw hq
            go_wp2
            refine region_stagedP 3 (fun t => match t with | 0 => 19 | 1 => 23 | _ => 24) (fun i => if i = 19 then some 0 else if i = 23 then some 1 else if i = 24 then some 2 else none) (GPL [isV (.pointer (some ⟨g', k * 10, none⟩)), isV (.pointer (some ⟨g', k * 10, none⟩)), isV (.pointer (some ⟨g', k * 10, none⟩)), isV (.pointer (some ⟨g', k * 10, none⟩)), isV (.int .u8 109), isV (.bool true), isV (.bool true), isV (.pointer (some ⟨gt, 0, none⟩)), isV (.pointer (some ⟨g', k * 10, none⟩)), isV (.pointer (some ⟨g', k * 10, none⟩)), isV (.pointer (some ⟨g', k * 10, none⟩)), isV (.pointer (some ⟨g', k * 10 + 1, none⟩)), isV (.slice (some ad) n cc), isV (.pointer (some ⟨g', k * 10, none⟩)), isV (.pointer (some ⟨g', k * 10, none⟩)), isV (.pointer (some ⟨g', k * 10 + 9, none⟩)), isV (.int .i64 (q : Int)), isV (.pointer (some (ad.add q))), isV (.int .i64 y), isV (.bool true), isV (.bool true), isV (undef), isV (undef), isV (undef), isV (undef), isV (undef), isV (.bool true), isV (.bool true), isV (.bool true)]) (fun u w9 => Below wr.heap.size wr w9) 78 (by kernel_rfl) rfl (by kernel_rfl) ⟨?ca, ?cb, ?cp⟩ ?cs ?c0 ⟨?s0, ?s1, ?s2, ?s3, ?s4, ?s5, ?s6, ?s7, ?s8, ?s9, ?s10, ?s11, ?s12, ?s13, ?s14, ?s15, ?s16, ?s17, ?s18, ?s19, ?s20, ?s21, ?s22, ?s23, ?s24, ?s25, ?s26, ?s27, ?s28, trivial⟩ ?fin
            case ca =>
              intro i t h
              split at h
              · injection h with h; subst h; rename_i e; exact ⟨by omega, e.symm⟩
              · skip
                split at h
                · injection h with h; subst h; rename_i e; exact ⟨by omega, e.symm⟩
                · skip
                  split at h
                  · injection h with h; subst h; rename_i e; exact ⟨by omega, e.symm⟩
                  · cases h
            case cb =>
              intro t ht
              match t, ht with
              | 0, _ => rfl
              | 1, _ => rfl
              | 2, _ => rfl
            case cp =>
              intro t ht
              match t, ht with
              | 0, _ => exact ⟨[20, 19], by kernel_rfl, by simp, rfl⟩
              | 1, _ => exact ⟨[23], by kernel_rfl, by simp, rfl⟩
            case cs =>
              intro t ht
              match t, ht with
              | 0, _ => exact (by decide : 19 < 29)
              | 1, _ => exact (by decide : 23 < 29)
              | 2, _ => exact (by decide : 24 < 29)
            case c0 => exact (Below.refl _ _).drew
            case s0 =>
              refine stepS_plain rfl rfl (fun T w1 s hT hd hs hW => ?_)
              have ec := evT_const T
              have ef := evT_func T
              have d4 : evT T (.tmp 4) = .pointer (some ⟨g', k * 10, none⟩) := hT 4 (by kernel_rfl)
              clear hT hd hW
              refine ⟨.pointer (some ⟨g', k * 10, none⟩), ?_, rfl⟩
              simp only [execOp]
              go_simp
            case s1 =>
              refine stepS_plain rfl rfl (fun T w1 s hT hd hs hW => ?_)
              have ec := evT_const T
              have ef := evT_func T
              have d38 : evT T (.tmp 38) = .pointer (some ⟨g', k * 10, none⟩) := (by first | exact hd.1 | exact hd.2.1 | exact hd.2.2.1 | exact hd.2.2.2.1 | exact hd.2.2.2.2.1 | exact hd.2.2.2.2.2.1 | exact hd.2.2.2.2.2.2.1 | exact hd.2.2.2.2.2.2.2.1)
              clear hT hd hW
              refine ⟨.pointer (some ⟨g', k * 10, none⟩), ?_, rfl⟩
              simp only [execOp]
              go_simp
            case s2 =>
              refine stepS_plain rfl rfl (fun T w1 s hT hd hs hW => ?_)
              have ec := evT_const T
              have ef := evT_func T
              have d39 : evT T (.tmp 39) = .pointer (some ⟨g', k * 10, none⟩) := (by first | exact hd.1 | exact hd.2.1 | exact hd.2.2.1 | exact hd.2.2.2.1 | exact hd.2.2.2.2.1 | exact hd.2.2.2.2.2.1 | exact hd.2.2.2.2.2.2.1 | exact hd.2.2.2.2.2.2.2.1)
              clear hT hd hW
              refine ⟨.pointer (some ⟨g', k * 10, none⟩), ?_, rfl⟩
              simp only [execOp]
              go_simp
            case s3 =>
              refine stepS_plain rfl rfl (fun T w1 s hT hd hs hW => ?_)
              have ec := evT_const T
              have ef := evT_func T
              have d40 : evT T (.tmp 40) = .pointer (some ⟨g', k * 10, none⟩) := (by first | exact hd.1 | exact hd.2.1 | exact hd.2.2.1 | exact hd.2.2.2.1 | exact hd.2.2.2.2.1 | exact hd.2.2.2.2.2.1 | exact hd.2.2.2.2.2.2.1 | exact hd.2.2.2.2.2.2.2.1)
              clear hT hd hW
              refine ⟨.pointer (some ⟨g', k * 10, none⟩), ?_, rfl⟩
              simp only [execOp]
              go_simp
            case s4 =>
              refine stepS_plain rfl rfl (fun T w1 s hT hd hs hW => ?_)
              have ec := evT_const T
              have ef := evT_func T
              have d41 : evT T (.tmp 41) = .pointer (some ⟨g', k * 10, none⟩) := (by first | exact hd.1 | exact hd.2.1 | exact hd.2.2.1 | exact hd.2.2.2.1 | exact hd.2.2.2.2.1 | exact hd.2.2.2.2.2.1 | exact hd.2.2.2.2.2.2.1 | exact hd.2.2.2.2.2.2.2.1)
              have hc := (Moved.of_below (hot := []) hW).cell v0 (by simp)
              clear hT hd hW
              refine ⟨.int .u8 109, ?_, rfl⟩
              simp only [execOp]
              go_simp
            case s5 =>
              refine stepS_plain rfl rfl (fun T w1 s hT hd hs hW => ?_)
              have ec := evT_const T
              have ef := evT_func T
              have d42 : evT T (.tmp 42) = .int .u8 109 := (by first | exact hd.1 | exact hd.2.1 | exact hd.2.2.1 | exact hd.2.2.2.1 | exact hd.2.2.2.2.1 | exact hd.2.2.2.2.2.1 | exact hd.2.2.2.2.2.2.1 | exact hd.2.2.2.2.2.2.2.1)
              clear hT hd hW
              refine ⟨.bool true, ?_, rfl⟩
              simp only [execOp]
              go_simp
            case s6 =>
              refine stepS_plain rfl rfl (fun T w1 s hT hd hs hW => ?_)
              have ec := evT_const T
              have ef := evT_func T
              have d43 : evT T (.tmp 43) = .bool true := (by first | exact hd.1 | exact hd.2.1 | exact hd.2.2.1 | exact hd.2.2.2.1 | exact hd.2.2.2.2.1 | exact hd.2.2.2.2.2.1 | exact hd.2.2.2.2.2.2.1 | exact hd.2.2.2.2.2.2.2.1)
              clear hT hd hW
              refine ⟨.bool true, ?_, rfl⟩
              simp only [execOp]
              go_simp
            case s7 =>
              refine stepS_on 6 44 true rfl rfl rfl (fun T w1 s hT hd hs hW => ⟨(by first | exact hd.1 | exact hd.2.1 | exact hd.2.2.1 | exact hd.2.2.2.1 | exact hd.2.2.2.2.1 | exact hd.2.2.2.2.2.1 | exact hd.2.2.2.2.2.2.1 | exact hd.2.2.2.2.2.2.2.1), ?_⟩)
              have ec := evT_const T
              have ef := evT_func T
              have d0 : evT T (.tmp 0) = .pointer (some ⟨gt, 0, none⟩) := hT 0 (by kernel_rfl)
              clear hT hd hW
              refine ⟨.pointer (some ⟨gt, 0, none⟩), ?_, rfl⟩
              simp only [execOp]
              go_simp
            case s8 =>
              refine stepS_on 6 44 true rfl rfl rfl (fun T w1 s hT hd hs hW => ⟨(by first | exact hd.1 | exact hd.2.1 | exact hd.2.2.1 | exact hd.2.2.2.1 | exact hd.2.2.2.2.1 | exact hd.2.2.2.2.2.1 | exact hd.2.2.2.2.2.2.1 | exact hd.2.2.2.2.2.2.2.1), ?_⟩)
              have ec := evT_const T
              have ef := evT_func T
              have d4 : evT T (.tmp 4) = .pointer (some ⟨g', k * 10, none⟩) := hT 4 (by kernel_rfl)
              clear hT hd hW
              refine ⟨.pointer (some ⟨g', k * 10, none⟩), ?_, rfl⟩
              simp only [execOp]
              go_simp
            case s9 =>
              refine stepS_on 6 44 true rfl rfl rfl (fun T w1 s hT hd hs hW => ⟨(by first | exact hd.1 | exact hd.2.1 | exact hd.2.2.1 | exact hd.2.2.2.1 | exact hd.2.2.2.2.1 | exact hd.2.2.2.2.2.1 | exact hd.2.2.2.2.2.2.1 | exact hd.2.2.2.2.2.2.2.1), ?_⟩)
              have ec := evT_const T
              have ef := evT_func T
              have d46 : evT T (.tmp 46) = .pointer (some ⟨g', k * 10, none⟩) := (by first | exact hd.1 | exact hd.2.1 | exact hd.2.2.1 | exact hd.2.2.2.1 | exact hd.2.2.2.2.1 | exact hd.2.2.2.2.2.1 | exact hd.2.2.2.2.2.2.1 | exact hd.2.2.2.2.2.2.2.1)
              clear hT hd hW
              refine ⟨.pointer (some ⟨g', k * 10, none⟩), ?_, rfl⟩
              simp only [execOp]
              go_simp
            case s10 =>
              refine stepS_on 6 44 true rfl rfl rfl (fun T w1 s hT hd hs hW => ⟨(by first | exact hd.1 | exact hd.2.1 | exact hd.2.2.1 | exact hd.2.2.2.1 | exact hd.2.2.2.2.1 | exact hd.2.2.2.2.2.1 | exact hd.2.2.2.2.2.2.1 | exact hd.2.2.2.2.2.2.2.1), ?_⟩)
              have ec := evT_const T
              have ef := evT_func T
              have d47 : evT T (.tmp 47) = .pointer (some ⟨g', k * 10, none⟩) := (by first | exact hd.1 | exact hd.2.1 | exact hd.2.2.1 | exact hd.2.2.2.1 | exact hd.2.2.2.2.1 | exact hd.2.2.2.2.2.1 | exact hd.2.2.2.2.2.2.1 | exact hd.2.2.2.2.2.2.2.1)
              clear hT hd hW
              refine ⟨.pointer (some ⟨g', k * 10, none⟩), ?_, rfl⟩
              simp only [execOp]
              go_simp
            case s11 =>
              refine stepS_on 6 44 true rfl rfl rfl (fun T w1 s hT hd hs hW => ⟨(by first | exact hd.1 | exact hd.2.1 | exact hd.2.2.1 | exact hd.2.2.2.1 | exact hd.2.2.2.2.1 | exact hd.2.2.2.2.2.1 | exact hd.2.2.2.2.2.2.1 | exact hd.2.2.2.2.2.2.2.1), ?_⟩)
              have ec := evT_const T
              have ef := evT_func T
              have d48 : evT T (.tmp 48) = .pointer (some ⟨g', k * 10, none⟩) := (by first | exact hd.1 | exact hd.2.1 | exact hd.2.2.1 | exact hd.2.2.2.1 | exact hd.2.2.2.2.1 | exact hd.2.2.2.2.2.1 | exact hd.2.2.2.2.2.2.1 | exact hd.2.2.2.2.2.2.2.1)
              clear hT hd hW
              refine ⟨.pointer (some ⟨g', k * 10 + 1, none⟩), ?_, rfl⟩
              simp only [execOp]
              go_simp
            case s12 =>
              refine stepS_on 6 44 true rfl rfl rfl (fun T w1 s hT hd hs hW => ⟨(by first | exact hd.1 | exact hd.2.1 | exact hd.2.2.1 | exact hd.2.2.2.1 | exact hd.2.2.2.2.1 | exact hd.2.2.2.2.2.1 | exact hd.2.2.2.2.2.2.1 | exact hd.2.2.2.2.2.2.2.1), ?_⟩)
              have ec := evT_const T
              have ef := evT_func T
              have d49 : evT T (.tmp 49) = .pointer (some ⟨g', k * 10 + 1, none⟩) := (by first | exact hd.1 | exact hd.2.1 | exact hd.2.2.1 | exact hd.2.2.2.1 | exact hd.2.2.2.2.1 | exact hd.2.2.2.2.2.1 | exact hd.2.2.2.2.2.2.1 | exact hd.2.2.2.2.2.2.2.1)
              have hc := (Moved.of_below (hot := []) hW).cell v1 (by simp)
              clear hT hd hW
              refine ⟨.slice (some ad) n cc, ?_, rfl⟩
              simp only [execOp]
              go_simp
            case s13 =>
              refine stepS_on 6 44 true rfl rfl rfl (fun T w1 s hT hd hs hW => ⟨(by first | exact hd.1 | exact hd.2.1 | exact hd.2.2.1 | exact hd.2.2.2.1 | exact hd.2.2.2.2.1 | exact hd.2.2.2.2.2.1 | exact hd.2.2.2.2.2.2.1 | exact hd.2.2.2.2.2.2.2.1), ?_⟩)
              have ec := evT_const T
              have ef := evT_func T
              have d4 : evT T (.tmp 4) = .pointer (some ⟨g', k * 10, none⟩) := hT 4 (by kernel_rfl)
              clear hT hd hW
              refine ⟨.pointer (some ⟨g', k * 10, none⟩), ?_, rfl⟩
              simp only [execOp]
              go_simp
            case s14 =>
              refine stepS_on 6 44 true rfl rfl rfl (fun T w1 s hT hd hs hW => ⟨(by first | exact hd.1 | exact hd.2.1 | exact hd.2.2.1 | exact hd.2.2.2.1 | exact hd.2.2.2.2.1 | exact hd.2.2.2.2.2.1 | exact hd.2.2.2.2.2.2.1 | exact hd.2.2.2.2.2.2.2.1), ?_⟩)
              have ec := evT_const T
              have ef := evT_func T
              have d51 : evT T (.tmp 51) = .pointer (some ⟨g', k * 10, none⟩) := (by first | exact hd.1 | exact hd.2.1 | exact hd.2.2.1 | exact hd.2.2.2.1 | exact hd.2.2.2.2.1 | exact hd.2.2.2.2.2.1 | exact hd.2.2.2.2.2.2.1 | exact hd.2.2.2.2.2.2.2.1)
              clear hT hd hW
              refine ⟨.pointer (some ⟨g', k * 10, none⟩), ?_, rfl⟩
              simp only [execOp]
              go_simp
            case s15 =>
              refine stepS_on 6 44 true rfl rfl rfl (fun T w1 s hT hd hs hW => ⟨(by first | exact hd.1 | exact hd.2.1 | exact hd.2.2.1 | exact hd.2.2.2.1 | exact hd.2.2.2.2.1 | exact hd.2.2.2.2.2.1 | exact hd.2.2.2.2.2.2.1 | exact hd.2.2.2.2.2.2.2.1), ?_⟩)
              have ec := evT_const T
              have ef := evT_func T
              have d52 : evT T (.tmp 52) = .pointer (some ⟨g', k * 10, none⟩) := (by first | exact hd.1 | exact hd.2.1 | exact hd.2.2.1 | exact hd.2.2.2.1 | exact hd.2.2.2.2.1 | exact hd.2.2.2.2.2.1 | exact hd.2.2.2.2.2.2.1 | exact hd.2.2.2.2.2.2.2.1)
              clear hT hd hW
              refine ⟨.pointer (some ⟨g', k * 10 + 9, none⟩), ?_, rfl⟩
              simp only [execOp]
              go_simp
            case s16 =>
              refine stepS_on 6 44 true rfl rfl rfl (fun T w1 s hT hd hs hW => ⟨(by first | exact hd.1 | exact hd.2.1 | exact hd.2.2.1 | exact hd.2.2.2.1 | exact hd.2.2.2.2.1 | exact hd.2.2.2.2.2.1 | exact hd.2.2.2.2.2.2.1 | exact hd.2.2.2.2.2.2.2.1), ?_⟩)
              have ec := evT_const T
              have ef := evT_func T
              have d53 : evT T (.tmp 53) = .pointer (some ⟨g', k * 10 + 9, none⟩) := (by first | exact hd.1 | exact hd.2.1 | exact hd.2.2.1 | exact hd.2.2.2.1 | exact hd.2.2.2.2.1 | exact hd.2.2.2.2.2.1 | exact hd.2.2.2.2.2.2.1 | exact hd.2.2.2.2.2.2.2.1)
              have hc := (Moved.of_below (hot := []) hW).cell v9 (by simp)
              clear hT hd hW
              refine ⟨.int .i64 (q : Int), ?_, rfl⟩
              simp only [execOp]
              go_simp
            case s17 =>
              refine stepS_on 6 44 true rfl rfl rfl (fun T w1 s hT hd hs hW => ⟨(by first | exact hd.1 | exact hd.2.1 | exact hd.2.2.1 | exact hd.2.2.2.1 | exact hd.2.2.2.2.1 | exact hd.2.2.2.2.2.1 | exact hd.2.2.2.2.2.2.1 | exact hd.2.2.2.2.2.2.2.1), ?_⟩)
              have ec := evT_const T
              have ef := evT_func T
              have d50 : evT T (.tmp 50) = .slice (some ad) n cc := (by first | exact hd.1 | exact hd.2.1 | exact hd.2.2.1 | exact hd.2.2.2.1 | exact hd.2.2.2.2.1 | exact hd.2.2.2.2.2.1 | exact hd.2.2.2.2.2.2.1 | exact hd.2.2.2.2.2.2.2.1)
              have d54 : evT T (.tmp 54) = .int .i64 (q : Int) := (by first | exact hd.1 | exact hd.2.1 | exact hd.2.2.1 | exact hd.2.2.2.1 | exact hd.2.2.2.2.1 | exact hd.2.2.2.2.2.1 | exact hd.2.2.2.2.2.2.1 | exact hd.2.2.2.2.2.2.2.1)
              have i0 : (0 : Int) ≤ (q : Int) := by omega
              have i1 : (q : Int) < (n : Int) := by omega
              clear hT hd hW
              refine ⟨.pointer (some (ad.add q)), ?_, rfl⟩
              simp only [execOp]
              go_simp
            case s18 =>
              refine stepS_on 6 44 true rfl rfl rfl (fun T w1 s hT hd hs hW => ⟨(by first | exact hd.1 | exact hd.2.1 | exact hd.2.2.1 | exact hd.2.2.2.1 | exact hd.2.2.2.2.1 | exact hd.2.2.2.2.2.1 | exact hd.2.2.2.2.2.2.1 | exact hd.2.2.2.2.2.2.2.1), ?_⟩)
              have ec := evT_const T
              have ef := evT_func T
              have d55 : evT T (.tmp 55) = .pointer (some (ad.add q)) := (by first | exact hd.1 | exact hd.2.1 | exact hd.2.2.1 | exact hd.2.2.2.1 | exact hd.2.2.2.2.1 | exact hd.2.2.2.2.2.1 | exact hd.2.2.2.2.2.2.1 | exact hd.2.2.2.2.2.2.2.1)
              have hc := (Moved.of_below (hot := []) hW).cell vy (by simp)
              clear hT hd hW
              refine ⟨.int .i64 y, ?_, rfl⟩
              simp only [execOp]
              go_simp
            case s19 =>
              refine stepC_on 0 6 44 true rfl rfl rfl (fun T w1 hT hd hW => ⟨(by first | exact hd.1 | exact hd.2.1 | exact hd.2.2.1 | exact hd.2.2.2.1 | exact hd.2.2.2.2.1 | exact hd.2.2.2.2.2.1 | exact hd.2.2.2.2.2.2.1 | exact hd.2.2.2.2.2.2.2.1), ?_⟩)
              have ec := evT_const T
              have ef := evT_func T
              have d45 : evT T (.tmp 45) = .pointer (some ⟨gt, 0, none⟩) := (by first | exact hd.1 | exact hd.2.1 | exact hd.2.2.1 | exact hd.2.2.2.1 | exact hd.2.2.2.2.1 | exact hd.2.2.2.2.2.1 | exact hd.2.2.2.2.2.2.1 | exact hd.2.2.2.2.2.2.2.1)
              have d56 : evT T (.tmp 56) = .int .i64 y := (by first | exact hd.1 | exact hd.2.1 | exact hd.2.2.1 | exact hd.2.2.2.1 | exact hd.2.2.2.2.1 | exact hd.2.2.2.2.2.1 | exact hd.2.2.2.2.2.2.1 | exact hd.2.2.2.2.2.2.2.1)
              refine ⟨20, #[.pointer (some ⟨gt, 0, none⟩), .int .i64 y], ?_, ?_⟩
              · clear hT hd hW
                simp only [execOp, resolve]
                go_simp
              · have hX : Below wr.heap.size wr w1 := hW
                refine (HRUN.out w1 hX y).mono ?_
                rintro e w2 ⟨rfl, h2⟩
                exact ⟨_, rfl, by rw [HRW.out]; rfl, hX.trans (h2.mono hX.size)⟩
            case s20 =>
              refine stepS_on 6 44 true rfl rfl rfl (fun T w1 s hT hd hs hW => ⟨(by first | exact hd.1 | exact hd.2.1 | exact hd.2.2.1 | exact hd.2.2.2.1 | exact hd.2.2.2.2.1 | exact hd.2.2.2.2.2.1 | exact hd.2.2.2.2.2.2.1 | exact hd.2.2.2.2.2.2.2.1), ?_⟩)
              have ec := evT_const T
              have ef := evT_func T
              have d57 : evT T (.tmp 57) = .bool true := (by first | exact hd.1 | exact hd.2.1 | exact hd.2.2.1 | exact hd.2.2.2.1 | exact hd.2.2.2.2.1 | exact hd.2.2.2.2.2.1 | exact hd.2.2.2.2.2.2.1 | exact hd.2.2.2.2.2.2.2.1)
              clear hT hd hW
              refine ⟨.bool true, ?_, rfl⟩
              simp only [execOp]
              go_simp
            case s21 =>
              exact stepS_off 20 58 false rfl rfl rfl (fun T hT hd => ⟨(by first | exact hd.1 | exact hd.2.1 | exact hd.2.2.1 | exact hd.2.2.2.1 | exact hd.2.2.2.2.1 | exact hd.2.2.2.2.2.1 | exact hd.2.2.2.2.2.2.1 | exact hd.2.2.2.2.2.2.2.1), rfl⟩)
            case s22 =>
              exact stepS_off 20 58 false rfl rfl rfl (fun T hT hd => ⟨(by first | exact hd.1 | exact hd.2.1 | exact hd.2.2.1 | exact hd.2.2.2.1 | exact hd.2.2.2.2.1 | exact hd.2.2.2.2.2.1 | exact hd.2.2.2.2.2.2.1 | exact hd.2.2.2.2.2.2.2.1), rfl⟩)
            case s23 =>
              exact stepC_off 1 20 58 false rfl rfl rfl (fun T hT hd => ⟨(by first | exact hd.1 | exact hd.2.1 | exact hd.2.2.1 | exact hd.2.2.2.1 | exact hd.2.2.2.2.1 | exact hd.2.2.2.2.2.1 | exact hd.2.2.2.2.2.2.1 | exact hd.2.2.2.2.2.2.2.1), rfl⟩) (fun w hW => hW)
            case s24 =>
              exact stepC_off 2 20 58 false rfl rfl rfl (fun T hT hd => ⟨(by first | exact hd.1 | exact hd.2.1 | exact hd.2.2.1 | exact hd.2.2.2.1 | exact hd.2.2.2.2.1 | exact hd.2.2.2.2.2.1 | exact hd.2.2.2.2.2.2.1 | exact hd.2.2.2.2.2.2.2.1), rfl⟩) (fun w hW => hW)
            case s25 =>
              exact stepS_off 20 58 false rfl rfl rfl (fun T hT hd => ⟨(by first | exact hd.1 | exact hd.2.1 | exact hd.2.2.1 | exact hd.2.2.2.1 | exact hd.2.2.2.2.1 | exact hd.2.2.2.2.2.1 | exact hd.2.2.2.2.2.2.1 | exact hd.2.2.2.2.2.2.2.1), rfl⟩)
            case s26 =>
              refine stepS_on 6 44 true rfl rfl rfl (fun T w1 s hT hd hs hW => ⟨(by first | exact hd.1 | exact hd.2.1 | exact hd.2.2.1 | exact hd.2.2.2.1 | exact hd.2.2.2.2.1 | exact hd.2.2.2.2.2.1 | exact hd.2.2.2.2.2.2.1 | exact hd.2.2.2.2.2.2.2.1), ?_⟩)
              have ec := evT_const T
              have ef := evT_func T
              have d58 : evT T (.tmp 58) = .bool true := (by first | exact hd.1 | exact hd.2.1 | exact hd.2.2.1 | exact hd.2.2.2.1 | exact hd.2.2.2.2.1 | exact hd.2.2.2.2.2.1 | exact hd.2.2.2.2.2.2.1 | exact hd.2.2.2.2.2.2.2.1)
              have d63 : evT T (.tmp 63) = undef := (by first | exact hd.1 | exact hd.2.1 | exact hd.2.2.1 | exact hd.2.2.2.1 | exact hd.2.2.2.2.1 | exact hd.2.2.2.2.2.1 | exact hd.2.2.2.2.2.2.1 | exact hd.2.2.2.2.2.2.2.1)
              clear hT hd hW
              refine ⟨.bool true, ?_, rfl⟩
              simp only [execOp]
              go_simp
            case s27 =>
              refine stepS_plain rfl rfl (fun T w1 s hT hd hs hW => ?_)
              have ec := evT_const T
              have ef := evT_func T
              have d44 : evT T (.tmp 44) = .bool true := (by first | exact hd.1 | exact hd.2.1 | exact hd.2.2.1 | exact hd.2.2.2.1 | exact hd.2.2.2.2.1 | exact hd.2.2.2.2.2.1 | exact hd.2.2.2.2.2.2.1 | exact hd.2.2.2.2.2.2.2.1)
              have d64 : evT T (.tmp 64) = .bool true := (by first | exact hd.1 | exact hd.2.1 | exact hd.2.2.1 | exact hd.2.2.2.1 | exact hd.2.2.2.2.1 | exact hd.2.2.2.2.2.1 | exact hd.2.2.2.2.2.2.1 | exact hd.2.2.2.2.2.2.2.1)
              clear hT hd hW
              refine ⟨.bool true, ?_, rfl⟩
              simp only [execOp]
              go_simp
            case s28 =>
              refine stepS_plain rfl rfl (fun T w1 s hT hd hs hW => ?_)
              have ec := evT_const T
              have ef := evT_func T
              have d65 : evT T (.tmp 65) = .bool true := (by first | exact hd.1 | exact hd.2.1 | exact hd.2.2.1 | exact hd.2.2.2.1 | exact hd.2.2.2.2.1 | exact hd.2.2.2.2.2.1 | exact hd.2.2.2.2.2.2.1 | exact hd.2.2.2.2.2.2.2.1)
              clear hT hd hW
              refine ⟨.bool true, ?_, rfl⟩
              simp only [execOp]
              go_simp
            case fin =>
              intro T w1 hT hW hd
              have e37 : T 37 = .bool true := hd.2.2.2.2.2.2.2.2.2.2.2.2.2.2.2.2.2.2.2.2.2.2.2.2.2.2.2.2.1
              simp only [putL, Act.put, Option.getD_some, List.setIfInBounds_toArray, List.set_cons_zero, List.set_cons_succ]
              have HWW : RowKit.Hid (Below wr.heap.size wr w1) := Lib.hid hW
              clear hT hd hW
              rw [e37]
              clear e37
              have hm9 := Moved.of_below (hot := []) HWW.out
              have u8 := hm9.cell v8 (by simp)
              have u9 := hm9.cell v9 (by simp)
              have f8' := (hm9.frozen (p := ⟨g', k * 10 + 8, none⟩) (World.block_lt_of_cell? _ _ v8) (by simp)).trans f8
              have HT8 := Lib.hid (HR.out.tick1 hm9 HX.out (j := 8) (u := .int .i64 (q : Int)) HXS.out (by omega) (fun _ _ => HXC.out _ _) rfl)
              clear hm9
              go_wp2
              go_roundw
              case rel => exact ⟨k + 1, hlt, by go_num, HT8⟩
              case measure => simp [intOf]; omega
          | false =>
            have HRW := Lib.hid hrw
            cases hrs : runI sts z with
            | false =>
              have HXS := Lib.hid (show tickS sts x = { x with set := x.want } by rw [hts, hrw, hrs]; rfl)
              have HRS := Lib.hid hrs
              clear hts hrw hrs hq
              go_wp2
              refine region_stagedP 3 (fun t => match t with | 0 => 19 | 1 => 23 | _ => 24) (fun i => if i = 19 then some 0 else if i = 23 then some 1 else if i = 24 then some 2 else none) (GPL [isV (.pointer (some ⟨g', k * 10, none⟩)), isV (.pointer (some ⟨g', k * 10, none⟩)), isV (.pointer (some ⟨g', k * 10, none⟩)), isV (.pointer (some ⟨g', k * 10, none⟩)), isV (.int .u8 109), isV (.bool true), isV (.bool true), isV (.pointer (some ⟨gt, 0, none⟩)), isV (.pointer (some ⟨g', k * 10, none⟩)), isV (.pointer (some ⟨g', k * 10, none⟩)), isV (.pointer (some ⟨g', k * 10, none⟩)), isV (.pointer (some ⟨g', k * 10 + 1, none⟩)), isV (.slice (some ad) n cc), isV (.pointer (some ⟨g', k * 10, none⟩)), isV (.pointer (some ⟨g', k * 10, none⟩)), isV (.pointer (some ⟨g', k * 10 + 9, none⟩)), isV (.int .i64 (q : Int)), isV (.pointer (some (ad.add q))), isV (.int .i64 y), isV (.bool false), isV (.bool false), isV (.pointer (some ⟨gt, 0, none⟩)), isV (.pointer (some ⟨g', k * 10, none⟩)), isV (.int .i64 z), isV (.bool false), isV (.bool true), isV (.bool true), isV (.bool true), isV (.bool true)]) (fun u w9 => Below wr.heap.size wr w9) 78 (by kernel_rfl) rfl (by kernel_rfl) ⟨?ca, ?cb, ?cp⟩ ?cs ?c0 ⟨?s0, ?s1, ?s2, ?s3, ?s4, ?s5, ?s6, ?s7, ?s8, ?s9, ?s10, ?s11, ?s12, ?s13, ?s14, ?s15, ?s16, ?s17, ?s18, ?s19, ?s20, ?s21, ?s22, ?s23, ?s24, ?s25, ?s26, ?s27, ?s28, trivial⟩ ?fin
              case ca =>
                intro i t h
                split at h
                · injection h with h; subst h; rename_i e; exact ⟨by omega, e.symm⟩
                · skip
                  split at h
                  · injection h with h; subst h; rename_i e; exact ⟨by omega, e.symm⟩
                  · skip
                    split at h
                    · injection h with h; subst h; rename_i e; exact ⟨by omega, e.symm⟩
                    · cases h
              case cb =>
                intro t ht
                match t, ht with
                | 0, _ => rfl
                | 1, _ => rfl
                | 2, _ => rfl
              case cp =>
                intro t ht
                match t, ht with
                | 0, _ => exact ⟨[20, 19], by kernel_rfl, by simp, rfl⟩
                | 1, _ => exact ⟨[23], by kernel_rfl, by simp, rfl⟩
              case cs =>
                intro t ht
                match t, ht with
                | 0, _ => exact (by decide : 19 < 29)
                | 1, _ => exact (by decide : 23 < 29)
                | 2, _ => exact (by decide : 24 < 29)
              case c0 => exact (Below.refl _ _).drew
              case s0 =>
                refine stepS_plain rfl rfl (fun T w1 s hT hd hs hW => ?_)
                have ec := evT_const T
                have ef := evT_func T
                have d4 : evT T (.tmp 4) = .pointer (some ⟨g', k * 10, none⟩) := hT 4 (by kernel_rfl)
                clear hT hd hW
                refine ⟨.pointer (some ⟨g', k * 10, none⟩), ?_, rfl⟩
                simp only [execOp]
                go_simp
              case s1 =>
                refine stepS_plain rfl rfl (fun T w1 s hT hd hs hW => ?_)
                have ec := evT_const T
                have ef := evT_func T
                have d38 : evT T (.tmp 38) = .pointer (some ⟨g', k * 10, none⟩) := (by first | exact hd.1 | exact hd.2.1 | exact hd.2.2.1 | exact hd.2.2.2.1 | exact hd.2.2.2.2.1 | exact hd.2.2.2.2.2.1 | exact hd.2.2.2.2.2.2.1 | exact hd.2.2.2.2.2.2.2.1)
                clear hT hd hW
                refine ⟨.pointer (some ⟨g', k * 10, none⟩), ?_, rfl⟩
                simp only [execOp]
                go_simp
              case s2 =>
                refine stepS_plain rfl rfl (fun T w1 s hT hd hs hW => ?_)
                have ec := evT_const T
                have ef := evT_func T
                have d39 : evT T (.tmp 39) = .pointer (some ⟨g', k * 10, none⟩) := (by first | exact hd.1 | exact hd.2.1 | exact hd.2.2.1 | exact hd.2.2.2.1 | exact hd.2.2.2.2.1 | exact hd.2.2.2.2.2.1 | exact hd.2.2.2.2.2.2.1 | exact hd.2.2.2.2.2.2.2.1)
                clear hT hd hW
                refine ⟨.pointer (some ⟨g', k * 10, none⟩), ?_, rfl⟩
                simp only [execOp]
                go_simp
              case s3 =>
                refine stepS_plain rfl rfl (fun T w1 s hT hd hs hW => ?_)
                have ec := evT_const T
                have ef := evT_func T
                have d40 : evT T (.tmp 40) = .pointer (some ⟨g', k * 10, none⟩) := (by first | exact hd.1 | exact hd.2.1 | exact hd.2.2.1 | exact hd.2.2.2.1 | exact hd.2.2.2.2.1 | exact hd.2.2.2.2.2.1 | exact hd.2.2.2.2.2.2.1 | exact hd.2.2.2.2.2.2.2.1)
                clear hT hd hW
                refine ⟨.pointer (some ⟨g', k * 10, none⟩), ?_, rfl⟩
                simp only [execOp]
                go_simp
              case s4 =>
                refine stepS_plain rfl rfl (fun T w1 s hT hd hs hW => ?_)
                have ec := evT_const T
                have ef := evT_func T
                have d41 : evT T (.tmp 41) = .pointer (some ⟨g', k * 10, none⟩) := (by first | exact hd.1 | exact hd.2.1 | exact hd.2.2.1 | exact hd.2.2.2.1 | exact hd.2.2.2.2.1 | exact hd.2.2.2.2.2.1 | exact hd.2.2.2.2.2.2.1 | exact hd.2.2.2.2.2.2.2.1)
                have hc := (Moved.of_below (hot := []) hW).cell v0 (by simp)
                clear hT hd hW
                refine ⟨.int .u8 109, ?_, rfl⟩
                simp only [execOp]
                go_simp
              case s5 =>
                refine stepS_plain rfl rfl (fun T w1 s hT hd hs hW => ?_)
                have ec := evT_const T
                have ef := evT_func T
                have d42 : evT T (.tmp 42) = .int .u8 109 := (by first | exact hd.1 | exact hd.2.1 | exact hd.2.2.1 | exact hd.2.2.2.1 | exact hd.2.2.2.2.1 | exact hd.2.2.2.2.2.1 | exact hd.2.2.2.2.2.2.1 | exact hd.2.2.2.2.2.2.2.1)
                clear hT hd hW
                refine ⟨.bool true, ?_, rfl⟩
                simp only [execOp]
                go_simp
              case s6 =>
                refine stepS_plain rfl rfl (fun T w1 s hT hd hs hW => ?_)
                have ec := evT_const T
                have ef := evT_func T
                have d43 : evT T (.tmp 43) = .bool true := (by first | exact hd.1 | exact hd.2.1 | exact hd.2.2.1 | exact hd.2.2.2.1 | exact hd.2.2.2.2.1 | exact hd.2.2.2.2.2.1 | exact hd.2.2.2.2.2.2.1 | exact hd.2.2.2.2.2.2.2.1)
                clear hT hd hW
                refine ⟨.bool true, ?_, rfl⟩
                simp only [execOp]
                go_simp
              case s7 =>
                refine stepS_on 6 44 true rfl rfl rfl (fun T w1 s hT hd hs hW => ⟨(by first | exact hd.1 | exact hd.2.1 | exact hd.2.2.1 | exact hd.2.2.2.1 | exact hd.2.2.2.2.1 | exact hd.2.2.2.2.2.1 | exact hd.2.2.2.2.2.2.1 | exact hd.2.2.2.2.2.2.2.1), ?_⟩)
                have ec := evT_const T
                have ef := evT_func T
                have d0 : evT T (.tmp 0) = .pointer (some ⟨gt, 0, none⟩) := hT 0 (by kernel_rfl)
                clear hT hd hW
                refine ⟨.pointer (some ⟨gt, 0, none⟩), ?_, rfl⟩
                simp only [execOp]
                go_simp
              case s8 =>
                refine stepS_on 6 44 true rfl rfl rfl (fun T w1 s hT hd hs hW => ⟨(by first | exact hd.1 | exact hd.2.1 | exact hd.2.2.1 | exact hd.2.2.2.1 | exact hd.2.2.2.2.1 | exact hd.2.2.2.2.2.1 | exact hd.2.2.2.2.2.2.1 | exact hd.2.2.2.2.2.2.2.1), ?_⟩)
                have ec := evT_const T
                have ef := evT_func T
                have d4 : evT T (.tmp 4) = .pointer (some ⟨g', k * 10, none⟩) := hT 4 (by kernel_rfl)
                clear hT hd hW
                refine ⟨.pointer (some ⟨g', k * 10, none⟩), ?_, rfl⟩
                simp only [execOp]
                go_simp
              case s9 =>
                refine stepS_on 6 44 true rfl rfl rfl (fun T w1 s hT hd hs hW => ⟨(by first | exact hd.1 | exact hd.2.1 | exact hd.2.2.1 | exact hd.2.2.2.1 | exact hd.2.2.2.2.1 | exact hd.2.2.2.2.2.1 | exact hd.2.2.2.2.2.2.1 | exact hd.2.2.2.2.2.2.2.1), ?_⟩)
                have ec := evT_const T
                have ef := evT_func T
                have d46 : evT T (.tmp 46) = .pointer (some ⟨g', k * 10, none⟩) := (by first | exact hd.1 | exact hd.2.1 | exact hd.2.2.1 | exact hd.2.2.2.1 | exact hd.2.2.2.2.1 | exact hd.2.2.2.2.2.1 | exact hd.2.2.2.2.2.2.1 | exact hd.2.2.2.2.2.2.2.1)
                clear hT hd hW
                refine ⟨.pointer (some ⟨g', k * 10, none⟩), ?_, rfl⟩
                simp only [execOp]
                go_simp
              case s10 =>
                refine stepS_on 6 44 true rfl rfl rfl (fun T w1 s hT hd hs hW => ⟨(by first | exact hd.1 | exact hd.2.1 | exact hd.2.2.1 | exact hd.2.2.2.1 | exact hd.2.2.2.2.1 | exact hd.2.2.2.2.2.1 | exact hd.2.2.2.2.2.2.1 | exact hd.2.2.2.2.2.2.2.1), ?_⟩)
                have ec := evT_const T
                have ef := evT_func T
                have d47 : evT T (.tmp 47) = .pointer (some ⟨g', k * 10, none⟩) := (by first | exact hd.1 | exact hd.2.1 | exact hd.2.2.1 | exact hd.2.2.2.1 | exact hd.2.2.2.2.1 | exact hd.2.2.2.2.2.1 | exact hd.2.2.2.2.2.2.1 | exact hd.2.2.2.2.2.2.2.1)
                clear hT hd hW
                refine ⟨.pointer (some ⟨g', k * 10, none⟩), ?_, rfl⟩
                simp only [execOp]
                go_simp
              case s11 =>
                refine stepS_on 6 44 true rfl rfl rfl (fun T w1 s hT hd hs hW => ⟨(by first | exact hd.1 | exact hd.2.1 | exact hd.2.2.1 | exact hd.2.2.2.1 | exact hd.2.2.2.2.1 | exact hd.2.2.2.2.2.1 | exact hd.2.2.2.2.2.2.1 | exact hd.2.2.2.2.2.2.2.1), ?_⟩)
                have ec := evT_const T
                have ef := evT_func T
                have d48 : evT T (.tmp 48) = .pointer (some ⟨g', k * 10, none⟩) := (by first | exact hd.1 | exact hd.2.1 | exact hd.2.2.1 | exact hd.2.2.2.1 | exact hd.2.2.2.2.1 | exact hd.2.2.2.2.2.1 | exact hd.2.2.2.2.2.2.1 | exact hd.2.2.2.2.2.2.2.1)
                clear hT hd hW
                refine ⟨.pointer (some ⟨g', k * 10 + 1, none⟩), ?_, rfl⟩
                simp only [execOp]
                go_simp
              case s12 =>
                refine stepS_on 6 44 true rfl rfl rfl (fun T w1 s hT hd hs hW => ⟨(by first | exact hd.1 | exact hd.2.1 | exact hd.2.2.1 | exact hd.2.2.2.1 | exact hd.2.2.2.2.1 | exact hd.2.2.2.2.2.1 | exact hd.2.2.2.2.2.2.1 | exact hd.2.2.2.2.2.2.2.1), ?_⟩)
                have ec := evT_const T
                have ef := evT_func T
                have d49 : evT T (.tmp 49) = .pointer (some ⟨g', k * 10 + 1, none⟩) := (by first | exact hd.1 | exact hd.2.1 | exact hd.2.2.1 | exact hd.2.2.2.1 | exact hd.2.2.2.2.1 | exact hd.2.2.2.2.2.1 | exact hd.2.2.2.2.2.2.1 | exact hd.2.2.2.2.2.2.2.1)
                have hc := (Moved.of_below (hot := []) hW).cell v1 (by simp)
                clear hT hd hW
                refine ⟨.slice (some ad) n cc, ?_, rfl⟩
                simp only [execOp]
                go_simp
              case s13 =>
                refine stepS_on 6 44 true rfl rfl rfl (fun T w1 s hT hd hs hW => ⟨(by first | exact hd.1 | exact hd.2.1 | exact hd.2.2.1 | exact hd.2.2.2.1 | exact hd.2.2.2.2.1 | exact hd.2.2.2.2.2.1 | exact hd.2.2.2.2.2.2.1 | exact hd.2.2.2.2.2.2.2.1), ?_⟩)
                have ec := evT_const T
                have ef := evT_func T
                have d4 : evT T (.tmp 4) = .pointer (some ⟨g', k * 10, none⟩) := hT 4 (by kernel_rfl)
                clear hT hd hW
                refine ⟨.pointer (some ⟨g', k * 10, none⟩), ?_, rfl⟩
                simp only [execOp]
                go_simp
              case s14 =>
                refine stepS_on 6 44 true rfl rfl rfl (fun T w1 s hT hd hs hW => ⟨(by first | exact hd.1 | exact hd.2.1 | exact hd.2.2.1 | exact hd.2.2.2.1 | exact hd.2.2.2.2.1 | exact hd.2.2.2.2.2.1 | exact hd.2.2.2.2.2.2.1 | exact hd.2.2.2.2.2.2.2.1), ?_⟩)
                have ec := evT_const T
                have ef := evT_func T
                have d51 : evT T (.tmp 51) = .pointer (some ⟨g', k * 10, none⟩) := (by first | exact hd.1 | exact hd.2.1 | exact hd.2.2.1 | exact hd.2.2.2.1 | exact hd.2.2.2.2.1 | exact hd.2.2.2.2.2.1 | exact hd.2.2.2.2.2.2.1 | exact hd.2.2.2.2.2.2.2.1)
                clear hT hd hW
                refine ⟨.pointer (some ⟨g', k * 10, none⟩), ?_, rfl⟩
                simp only [execOp]
                go_simp
              case s15 =>
                refine stepS_on 6 44 true rfl rfl rfl (fun T w1 s hT hd hs hW => ⟨(by first | exact hd.1 | exact hd.2.1 | exact hd.2.2.1 | exact hd.2.2.2.1 | exact hd.2.2.2.2.1 | exact hd.2.2.2.2.2.1 | exact hd.2.2.2.2.2.2.1 | exact hd.2.2.2.2.2.2.2.1), ?_⟩)
                have ec := evT_const T
                have ef := evT_func T
                have d52 : evT T (.tmp 52) = .pointer (some ⟨g', k * 10, none⟩) := (by first | exact hd.1 | exact hd.2.1 | exact hd.2.2.1 | exact hd.2.2.2.1 | exact hd.2.2.2.2.1 | exact hd.2.2.2.2.2.1 | exact hd.2.2.2.2.2.2.1 | exact hd.2.2.2.2.2.2.2.1)
                clear hT hd hW
                refine ⟨.pointer (some ⟨g', k * 10 + 9, none⟩), ?_, rfl⟩
                simp only [execOp]
                go_simp
              case s16 =>
                refine stepS_on 6 44 true rfl rfl rfl (fun T w1 s hT hd hs hW => ⟨(by first | exact hd.1 | exact hd.2.1 | exact hd.2.2.1 | exact hd.2.2.2.1 | exact hd.2.2.2.2.1 | exact hd.2.2.2.2.2.1 | exact hd.2.2.2.2.2.2.1 | exact hd.2.2.2.2.2.2.2.1), ?_⟩)
                have ec := evT_const T
                have ef := evT_func T
                have d53 : evT T (.tmp 53) = .pointer (some ⟨g', k * 10 + 9, none⟩) := (by first | exact hd.1 | exact hd.2.1 | exact hd.2.2.1 | exact hd.2.2.2.1 | exact hd.2.2.2.2.1 | exact hd.2.2.2.2.2.1 | exact hd.2.2.2.2.2.2.1 | exact hd.2.2.2.2.2.2.2.1)
                have hc := (Moved.of_below (hot := []) hW).cell v9 (by simp)
                clear hT hd hW
                refine ⟨.int .i64 (q : Int), ?_, rfl⟩
                simp only [execOp]
                go_simp
              case s17 =>
                refine stepS_on 6 44 true rfl rfl rfl (fun T w1 s hT hd hs hW => ⟨(by first | exact hd.1 | exact hd.2.1 | exact hd.2.2.1 | exact hd.2.2.2.1 | exact hd.2.2.2.2.1 | exact hd.2.2.2.2.2.1 | exact hd.2.2.2.2.2.2.1 | exact hd.2.2.2.2.2.2.2.1), ?_⟩)
                have ec := evT_const T
                have ef := evT_func T
                have d50 : evT T (.tmp 50) = .slice (some ad) n cc := (by first | exact hd.1 | exact hd.2.1 | exact hd.2.2.1 | exact hd.2.2.2.1 | exact hd.2.2.2.2.1 | exact hd.2.2.2.2.2.1 | exact hd.2.2.2.2.2.2.1 | exact hd.2.2.2.2.2.2.2.1)
                have d54 : evT T (.tmp 54) = .int .i64 (q : Int) := (by first | exact hd.1 | exact hd.2.1 | exact hd.2.2.1 | exact hd.2.2.2.1 | exact hd.2.2.2.2.1 | exact hd.2.2.2.2.2.1 | exact hd.2.2.2.2.2.2.1 | exact hd.2.2.2.2.2.2.2.1)
                have i0 : (0 : Int) ≤ (q : Int) := by omega
                have i1 : (q : Int) < (n : Int) := by omega
                clear hT hd hW
                refine ⟨.pointer (some (ad.add q)), ?_, rfl⟩
                simp only [execOp]
                go_simp
              case s18 =>
                refine stepS_on 6 44 true rfl rfl rfl (fun T w1 s hT hd hs hW => ⟨(by first | exact hd.1 | exact hd.2.1 | exact hd.2.2.1 | exact hd.2.2.2.1 | exact hd.2.2.2.2.1 | exact hd.2.2.2.2.2.1 | exact hd.2.2.2.2.2.2.1 | exact hd.2.2.2.2.2.2.2.1), ?_⟩)
                have ec := evT_const T
                have ef := evT_func T
                have d55 : evT T (.tmp 55) = .pointer (some (ad.add q)) := (by first | exact hd.1 | exact hd.2.1 | exact hd.2.2.1 | exact hd.2.2.2.1 | exact hd.2.2.2.2.1 | exact hd.2.2.2.2.2.1 | exact hd.2.2.2.2.2.2.1 | exact hd.2.2.2.2.2.2.2.1)
                have hc := (Moved.of_below (hot := []) hW).cell vy (by simp)
                clear hT hd hW
                refine ⟨.int .i64 y, ?_, rfl⟩
                simp only [execOp]
                go_simp
              case s19 =>
                refine stepC_on 0 6 44 true rfl rfl rfl (fun T w1 hT hd hW => ⟨(by first | exact hd.1 | exact hd.2.1 | exact hd.2.2.1 | exact hd.2.2.2.1 | exact hd.2.2.2.2.1 | exact hd.2.2.2.2.2.1 | exact hd.2.2.2.2.2.2.1 | exact hd.2.2.2.2.2.2.2.1), ?_⟩)
                have ec := evT_const T
                have ef := evT_func T
                have d45 : evT T (.tmp 45) = .pointer (some ⟨gt, 0, none⟩) := (by first | exact hd.1 | exact hd.2.1 | exact hd.2.2.1 | exact hd.2.2.2.1 | exact hd.2.2.2.2.1 | exact hd.2.2.2.2.2.1 | exact hd.2.2.2.2.2.2.1 | exact hd.2.2.2.2.2.2.2.1)
                have d56 : evT T (.tmp 56) = .int .i64 y := (by first | exact hd.1 | exact hd.2.1 | exact hd.2.2.1 | exact hd.2.2.2.1 | exact hd.2.2.2.2.1 | exact hd.2.2.2.2.2.1 | exact hd.2.2.2.2.2.2.1 | exact hd.2.2.2.2.2.2.2.1)
                refine ⟨20, #[.pointer (some ⟨gt, 0, none⟩), .int .i64 y], ?_, ?_⟩
                · clear hT hd hW
                  simp only [execOp, resolve]
                  go_simp
                · have hX : Below wr.heap.size wr w1 := hW
                  refine (HRUN.out w1 hX y).mono ?_
                  rintro e w2 ⟨rfl, h2⟩
                  exact ⟨_, rfl, by rw [HRW.out]; rfl, hX.trans (h2.mono hX.size)⟩
              case s20 =>
                refine stepS_on 6 44 true rfl rfl rfl (fun T w1 s hT hd hs hW => ⟨(by first | exact hd.1 | exact hd.2.1 | exact hd.2.2.1 | exact hd.2.2.2.1 | exact hd.2.2.2.2.1 | exact hd.2.2.2.2.2.1 | exact hd.2.2.2.2.2.2.1 | exact hd.2.2.2.2.2.2.2.1), ?_⟩)
                have ec := evT_const T
                have ef := evT_func T
                have d57 : evT T (.tmp 57) = .bool false := (by first | exact hd.1 | exact hd.2.1 | exact hd.2.2.1 | exact hd.2.2.2.1 | exact hd.2.2.2.2.1 | exact hd.2.2.2.2.2.1 | exact hd.2.2.2.2.2.2.1 | exact hd.2.2.2.2.2.2.2.1)
                clear hT hd hW
                refine ⟨.bool false, ?_, rfl⟩
                simp only [execOp]
                go_simp
              case s21 =>
                refine stepS_on 20 58 false rfl rfl rfl (fun T w1 s hT hd hs hW => ⟨(by first | exact hd.1 | exact hd.2.1 | exact hd.2.2.1 | exact hd.2.2.2.1 | exact hd.2.2.2.2.1 | exact hd.2.2.2.2.2.1 | exact hd.2.2.2.2.2.2.1 | exact hd.2.2.2.2.2.2.2.1), ?_⟩)
                have ec := evT_const T
                have ef := evT_func T
                have d0 : evT T (.tmp 0) = .pointer (some ⟨gt, 0, none⟩) := hT 0 (by kernel_rfl)
                clear hT hd hW
                refine ⟨.pointer (some ⟨gt, 0, none⟩), ?_, rfl⟩
                simp only [execOp]
                go_simp
              case s22 =>
                refine stepS_on 20 58 false rfl rfl rfl (fun T w1 s hT hd hs hW => ⟨(by first | exact hd.1 | exact hd.2.1 | exact hd.2.2.1 | exact hd.2.2.2.1 | exact hd.2.2.2.2.1 | exact hd.2.2.2.2.2.1 | exact hd.2.2.2.2.2.2.1 | exact hd.2.2.2.2.2.2.2.1), ?_⟩)
                have ec := evT_const T
                have ef := evT_func T
                have d4 : evT T (.tmp 4) = .pointer (some ⟨g', k * 10, none⟩) := hT 4 (by kernel_rfl)
                clear hT hd hW
                refine ⟨.pointer (some ⟨g', k * 10, none⟩), ?_, rfl⟩
                simp only [execOp]
                go_simp
              case s23 =>
                refine stepC_on 1 20 58 false rfl rfl rfl (fun T w1 hT hd hW => ⟨(by first | exact hd.1 | exact hd.2.1 | exact hd.2.2.1 | exact hd.2.2.2.1 | exact hd.2.2.2.2.1 | exact hd.2.2.2.2.2.1 | exact hd.2.2.2.2.2.2.1 | exact hd.2.2.2.2.2.2.2.1), ?_⟩)
                have ec := evT_const T
                have ef := evT_func T
                have d60 : evT T (.tmp 60) = .pointer (some ⟨g', k * 10, none⟩) := (by first | exact hd.1 | exact hd.2.1 | exact hd.2.2.1 | exact hd.2.2.2.1 | exact hd.2.2.2.2.1 | exact hd.2.2.2.2.2.1 | exact hd.2.2.2.2.2.2.1 | exact hd.2.2.2.2.2.2.2.1)
                refine ⟨48, #[.pointer (some ⟨g', k * 10, none⟩)], ?_, ?_⟩
                · clear hT hd hW
                  simp only [execOp, resolve]
                  go_simp
                · have hX : Below wr.heap.size wr w1 := hW
                  refine (HSRC.out w1 hX).mono ?_
                  rintro e w2 ⟨rfl, h2⟩
                  exact ⟨_, rfl, rfl, hX.trans (h2.mono hX.size)⟩
              case s24 =>
                refine stepC_on 2 20 58 false rfl rfl rfl (fun T w1 hT hd hW => ⟨(by first | exact hd.1 | exact hd.2.1 | exact hd.2.2.1 | exact hd.2.2.2.1 | exact hd.2.2.2.2.1 | exact hd.2.2.2.2.2.1 | exact hd.2.2.2.2.2.2.1 | exact hd.2.2.2.2.2.2.2.1), ?_⟩)
                have ec := evT_const T
                have ef := evT_func T
                have d59 : evT T (.tmp 59) = .pointer (some ⟨gt, 0, none⟩) := (by first | exact hd.1 | exact hd.2.1 | exact hd.2.2.1 | exact hd.2.2.2.1 | exact hd.2.2.2.2.1 | exact hd.2.2.2.2.2.1 | exact hd.2.2.2.2.2.2.1 | exact hd.2.2.2.2.2.2.2.1)
                have d61 : evT T (.tmp 61) = .int .i64 z := (by first | exact hd.1 | exact hd.2.1 | exact hd.2.2.1 | exact hd.2.2.2.1 | exact hd.2.2.2.2.1 | exact hd.2.2.2.2.2.1 | exact hd.2.2.2.2.2.2.1 | exact hd.2.2.2.2.2.2.2.1)
                refine ⟨20, #[.pointer (some ⟨gt, 0, none⟩), .int .i64 z], ?_, ?_⟩
                · clear hT hd hW
                  simp only [execOp, resolve]
                  go_simp
                · have hX : Below wr.heap.size wr w1 := hW
                  refine (HRUN.out w1 hX z).mono ?_
                  rintro e w2 ⟨rfl, h2⟩
                  exact ⟨_, rfl, by rw [HRS.out]; rfl, hX.trans (h2.mono hX.size)⟩
              case s25 =>
                refine stepS_on 20 58 false rfl rfl rfl (fun T w1 s hT hd hs hW => ⟨(by first | exact hd.1 | exact hd.2.1 | exact hd.2.2.1 | exact hd.2.2.2.1 | exact hd.2.2.2.2.1 | exact hd.2.2.2.2.2.1 | exact hd.2.2.2.2.2.2.1 | exact hd.2.2.2.2.2.2.2.1), ?_⟩)
                have ec := evT_const T
                have ef := evT_func T
                have d62 : evT T (.tmp 62) = .bool false := (by first | exact hd.1 | exact hd.2.1 | exact hd.2.2.1 | exact hd.2.2.2.1 | exact hd.2.2.2.2.1 | exact hd.2.2.2.2.2.1 | exact hd.2.2.2.2.2.2.1 | exact hd.2.2.2.2.2.2.2.1)
                clear hT hd hW
                refine ⟨.bool true, ?_, rfl⟩
                simp only [execOp]
                go_simp
              case s26 =>
                refine stepS_on 6 44 true rfl rfl rfl (fun T w1 s hT hd hs hW => ⟨(by first | exact hd.1 | exact hd.2.1 | exact hd.2.2.1 | exact hd.2.2.2.1 | exact hd.2.2.2.2.1 | exact hd.2.2.2.2.2.1 | exact hd.2.2.2.2.2.2.1 | exact hd.2.2.2.2.2.2.2.1), ?_⟩)
                have ec := evT_const T
                have ef := evT_func T
                have d58 : evT T (.tmp 58) = .bool false := (by first | exact hd.1 | exact hd.2.1 | exact hd.2.2.1 | exact hd.2.2.2.1 | exact hd.2.2.2.2.1 | exact hd.2.2.2.2.2.1 | exact hd.2.2.2.2.2.2.1 | exact hd.2.2.2.2.2.2.2.1)
                have d63 : evT T (.tmp 63) = .bool true := (by first | exact hd.1 | exact hd.2.1 | exact hd.2.2.1 | exact hd.2.2.2.1 | exact hd.2.2.2.2.1 | exact hd.2.2.2.2.2.1 | exact hd.2.2.2.2.2.2.1 | exact hd.2.2.2.2.2.2.2.1)
                clear hT hd hW
                refine ⟨.bool true, ?_, rfl⟩
                simp only [execOp]
                go_simp
              case s27 =>
                refine stepS_plain rfl rfl (fun T w1 s hT hd hs hW => ?_)
                have ec := evT_const T
                have ef := evT_func T
                have d44 : evT T (.tmp 44) = .bool true := (by first | exact hd.1 | exact hd.2.1 | exact hd.2.2.1 | exact hd.2.2.2.1 | exact hd.2.2.2.2.1 | exact hd.2.2.2.2.2.1 | exact hd.2.2.2.2.2.2.1 | exact hd.2.2.2.2.2.2.2.1)
                have d64 : evT T (.tmp 64) = .bool true := (by first | exact hd.1 | exact hd.2.1 | exact hd.2.2.1 | exact hd.2.2.2.1 | exact hd.2.2.2.2.1 | exact hd.2.2.2.2.2.1 | exact hd.2.2.2.2.2.2.1 | exact hd.2.2.2.2.2.2.2.1)
                clear hT hd hW
                refine ⟨.bool true, ?_, rfl⟩
                simp only [execOp]
                go_simp
              case s28 =>
                refine stepS_plain rfl rfl (fun T w1 s hT hd hs hW => ?_)
                have ec := evT_const T
                have ef := evT_func T
                have d65 : evT T (.tmp 65) = .bool true := (by first | exact hd.1 | exact hd.2.1 | exact hd.2.2.1 | exact hd.2.2.2.1 | exact hd.2.2.2.2.1 | exact hd.2.2.2.2.2.1 | exact hd.2.2.2.2.2.2.1 | exact hd.2.2.2.2.2.2.2.1)
                clear hT hd hW
                refine ⟨.bool true, ?_, rfl⟩
                simp only [execOp]
                go_simp
              case fin =>
                intro T w1 hT hW hd
                have e37 : T 37 = .bool true := hd.2.2.2.2.2.2.2.2.2.2.2.2.2.2.2.2.2.2.2.2.2.2.2.2.2.2.2.2.1
                simp only [putL, Act.put, Option.getD_some, List.setIfInBounds_toArray, List.set_cons_zero, List.set_cons_succ]
                have HWW : RowKit.Hid (Below wr.heap.size wr w1) := Lib.hid hW
                clear hT hd hW
                rw [e37]
                clear e37
                have hm9 := Moved.of_below (hot := []) HWW.out
                have u8 := hm9.cell v8 (by simp)
                have u9 := hm9.cell v9 (by simp)
                have f8' := (hm9.frozen (p := ⟨g', k * 10 + 8, none⟩) (World.block_lt_of_cell? _ _ v8) (by simp)).trans f8
                have HT8 := Lib.hid (HR.out.tick1 hm9 HX.out (j := 8) (u := .int .i64 (q : Int)) HXS.out (by omega) (fun _ _ => HXC.out _ _) rfl)
                clear hm9
                go_wp2
                go_roundw
                case rel => exact ⟨k + 1, hlt, by go_num, HT8⟩
                case measure => simp [intOf]; omega
            | true =>
              have HXS := Lib.hid (show tickS sts x = x by rw [hts, hrw, hrs]; rfl)
              have HRS := Lib.hid hrs
              clear hts hrw hrs hq
              go_wp2
              refine region_stagedP 3 (fun t => match t with | 0 => 19 | 1 => 23 | _ => 24) (fun i => if i = 19 then some 0 else if i = 23 then some 1 else if i = 24 then some 2 else none) (GPL [isV (.pointer (some ⟨g', k * 10, none⟩)), isV (.pointer (some ⟨g', k * 10, none⟩)), isV (.pointer (some ⟨g', k * 10, none⟩)), isV (.pointer (some ⟨g', k * 10, none⟩)), isV (.int .u8 109), isV (.bool true), isV (.bool true), isV (.pointer (some ⟨gt, 0, none⟩)), isV (.pointer (some ⟨g', k * 10, none⟩)), isV (.pointer (some ⟨g', k * 10, none⟩)), isV (.pointer (some ⟨g', k * 10, none⟩)), isV (.pointer (some ⟨g', k * 10 + 1, none⟩)), isV (.slice (some ad) n cc), isV (.pointer (some ⟨g', k * 10, none⟩)), isV (.pointer (some ⟨g', k * 10, none⟩)), isV (.pointer (some ⟨g', k * 10 + 9, none⟩)), isV (.int .i64 (q : Int)), isV (.pointer (some (ad.add q))), isV (.int .i64 y), isV (.bool false), isV (.bool false), isV (.pointer (some ⟨gt, 0, none⟩)), isV (.pointer (some ⟨g', k * 10, none⟩)), isV (.int .i64 z), isV (.bool true), isV (.bool false), isV (.bool false), isV (.bool false), isV (.bool false)]) (fun u w9 => Below wr.heap.size wr w9) 78 (by kernel_rfl) rfl (by kernel_rfl) ⟨?ca, ?cb, ?cp⟩ ?cs ?c0 ⟨?s0, ?s1, ?s2, ?s3, ?s4, ?s5, ?s6, ?s7, ?s8, ?s9, ?s10, ?s11, ?s12, ?s13, ?s14, ?s15, ?s16, ?s17, ?s18, ?s19, ?s20, ?s21, ?s22, ?s23, ?s24, ?s25, ?s26, ?s27, ?s28, trivial⟩ ?fin
              case ca =>
                intro i t h
                split at h
                · injection h with h; subst h; rename_i e; exact ⟨by omega, e.symm⟩
                · skip
                  split at h
                  · injection h with h; subst h; rename_i e; exact ⟨by omega, e.symm⟩
                  · skip
                    split at h
                    · injection h with h; subst h; rename_i e; exact ⟨by omega, e.symm⟩
                    · cases h
              case cb =>
                intro t ht
                match t, ht with
                | 0, _ => rfl
                | 1, _ => rfl
                | 2, _ => rfl
              case cp =>
                intro t ht
                match t, ht with
                | 0, _ => exact ⟨[20, 19], by kernel_rfl, by simp, rfl⟩
                | 1, _ => exact ⟨[23], by kernel_rfl, by simp, rfl⟩
              case cs =>
                intro t ht
                match t, ht with
                | 0, _ => exact (by decide : 19 < 29)
                | 1, _ => exact (by decide : 23 < 29)
                | 2, _ => exact (by decide : 24 < 29)
              case c0 => exact (Below.refl _ _).drew
              case s0 =>
                refine stepS_plain rfl rfl (fun T w1 s hT hd hs hW => ?_)
                have ec := evT_const T
                have ef := evT_func T
                have d4 : evT T (.tmp 4) = .pointer (some ⟨g', k * 10, none⟩) := hT 4 (by kernel_rfl)
                clear hT hd hW
                refine ⟨.pointer (some ⟨g', k * 10, none⟩), ?_, rfl⟩
                simp only [execOp]
                go_simp
              case s1 =>
                refine stepS_plain rfl rfl (fun T w1 s hT hd hs hW => ?_)
                have ec := evT_const T
                have ef := evT_func T
                have d38 : evT T (.tmp 38) = .pointer (some ⟨g', k * 10, none⟩) := (by first | exact hd.1 | exact hd.2.1 | exact hd.2.2.1 | exact hd.2.2.2.1 | exact hd.2.2.2.2.1 | exact hd.2.2.2.2.2.1 | exact hd.2.2.2.2.2.2.1 | exact hd.2.2.2.2.2.2.2.1)
                clear hT hd hW
                refine ⟨.pointer (some ⟨g', k * 10, none⟩), ?_, rfl⟩
                simp only [execOp]
                go_simp
              case s2 =>
                refine stepS_plain rfl rfl (fun T w1 s hT hd hs hW => ?_)
                have ec := evT_const T
                have ef := evT_func T
                have d39 : evT T (.tmp 39) = .pointer (some ⟨g', k * 10, none⟩) := (by first | exact hd.1 | exact hd.2.1 | exact hd.2.2.1 | exact hd.2.2.2.1 | exact hd.2.2.2.2.1 | exact hd.2.2.2.2.2.1 | exact hd.2.2.2.2.2.2.1 | exact hd.2.2.2.2.2.2.2.1)
                clear hT hd hW
                refine ⟨.pointer (some ⟨g', k * 10, none⟩), ?_, rfl⟩
                simp only [execOp]
                go_simp
              case s3 =>
                refine stepS_plain rfl rfl (fun T w1 s hT hd hs hW => ?_)
                have ec := evT_const T
                have ef := evT_func T
                have d40 : evT T (.tmp 40) = .pointer (some ⟨g', k * 10, none⟩) := (by first | exact hd.1 | exact hd.2.1 | exact hd.2.2.1 | exact hd.2.2.2.1 | exact hd.2.2.2.2.1 | exact hd.2.2.2.2.2.1 | exact hd.2.2.2.2.2.2.1 | exact hd.2.2.2.2.2.2.2.1)
                clear hT hd hW
                refine ⟨.pointer (some ⟨g', k * 10, none⟩), ?_, rfl⟩
                simp only [execOp]
                go_simp
              case s4 =>
                refine stepS_plain rfl rfl (fun T w1 s hT hd hs hW => ?_)
                have ec := evT_const T
                have ef := evT_func T
                have d41 : evT T (.tmp 41) = .pointer (some ⟨g', k * 10, none⟩) := (by first | exact hd.1 | exact hd.2.1 | exact hd.2.2.1 | exact hd.2.2.2.1 | exact hd.2.2.2.2.1 | exact hd.2.2.2.2.2.1 | exact hd.2.2.2.2.2.2.1 | exact hd.2.2.2.2.2.2.2.1)
                have hc := (Moved.of_below (hot := []) hW).cell v0 (by simp)
                clear hT hd hW
                refine ⟨.int .u8 109, ?_, rfl⟩
                simp only [execOp]
                go_simp
              case s5 =>
                refine stepS_plain rfl rfl (fun T w1 s hT hd hs hW => ?_)
                have ec := evT_const T
                have ef := evT_func T
                have d42 : evT T (.tmp 42) = .int .u8 109 := (by first | exact hd.1 | exact hd.2.1 | exact hd.2.2.1 | exact hd.2.2.2.1 | exact hd.2.2.2.2.1 | exact hd.2.2.2.2.2.1 | exact hd.2.2.2.2.2.2.1 | exact hd.2.2.2.2.2.2.2.1)
                clear hT hd hW
                refine ⟨.bool true, ?_, rfl⟩
                simp only [execOp]
                go_simp
              case s6 =>
                refine stepS_plain rfl rfl (fun T w1 s hT hd hs hW => ?_)
                have ec := evT_const T
                have ef := evT_func T
                have d43 : evT T (.tmp 43) = .bool true := (by first | exact hd.1 | exact hd.2.1 | exact hd.2.2.1 | exact hd.2.2.2.1 | exact hd.2.2.2.2.1 | exact hd.2.2.2.2.2.1 | exact hd.2.2.2.2.2.2.1 | exact hd.2.2.2.2.2.2.2.1)
                clear hT hd hW
                refine ⟨.bool true, ?_, rfl⟩
                simp only [execOp]
                go_simp
              case s7 =>
                refine stepS_on 6 44 true rfl rfl rfl (fun T w1 s hT hd hs hW => ⟨(by first | exact hd.1 | exact hd.2.1 | exact hd.2.2.1 | exact hd.2.2.2.1 | exact hd.2.2.2.2.1 | exact hd.2.2.2.2.2.1 | exact hd.2.2.2.2.2.2.1 | exact hd.2.2.2.2.2.2.2.1), ?_⟩)
                have ec := evT_const T
                have ef := evT_func T
                have d0 : evT T (.tmp 0) = .pointer (some ⟨gt, 0, none⟩) := hT 0 (by kernel_rfl)
                clear hT hd hW
                refine ⟨.pointer (some ⟨gt, 0, none⟩), ?_, rfl⟩
                simp only [execOp]
                go_simp
              case s8 =>
                refine stepS_on 6 44 true rfl rfl rfl (fun T w1 s hT hd hs hW => ⟨(by first | exact hd.1 | exact hd.2.1 | exact hd.2.2.1 | exact hd.2.2.2.1 | exact hd.2.2.2.2.1 | exact hd.2.2.2.2.2.1 | exact hd.2.2.2.2.2.2.1 | exact hd.2.2.2.2.2.2.2.1), ?_⟩)
                have ec := evT_const T
                have ef := evT_func T
                have d4 : evT T (.tmp 4) = .pointer (some ⟨g', k * 10, none⟩) := hT 4 (by kernel_rfl)
                clear hT hd hW
                refine ⟨.pointer (some ⟨g', k * 10, none⟩), ?_, rfl⟩
                simp only [execOp]
                go_simp
              case s9 =>
                refine stepS_on 6 44 true rfl rfl rfl (fun T w1 s hT hd hs hW => ⟨(by first | exact hd.1 | exact hd.2.1 | exact hd.2.2.1 | exact hd.2.2.2.1 | exact hd.2.2.2.2.1 | exact hd.2.2.2.2.2.1 | exact hd.2.2.2.2.2.2.1 | exact hd.2.2.2.2.2.2.2.1), ?_⟩)
                have ec := evT_const T
                have ef := evT_func T
                have d46 : evT T (.tmp 46) = .pointer (some ⟨g', k * 10, none⟩) := (by first | exact hd.1 | exact hd.2.1 | exact hd.2.2.1 | exact hd.2.2.2.1 | exact hd.2.2.2.2.1 | exact hd.2.2.2.2.2.1 | exact hd.2.2.2.2.2.2.1 | exact hd.2.2.2.2.2.2.2.1)
                clear hT hd hW
                refine ⟨.pointer (some ⟨g', k * 10, none⟩), ?_, rfl⟩
                simp only [execOp]
                go_simp
              case s10 =>
                refine stepS_on 6 44 true rfl rfl rfl (fun T w1 s hT hd hs hW => ⟨(by first | exact hd.1 | exact hd.2.1 | exact hd.2.2.1 | exact hd.2.2.2.1 | exact hd.2.2.2.2.1 | exact hd.2.2.2.2.2.1 | exact hd.2.2.2.2.2.2.1 | exact hd.2.2.2.2.2.2.2.1), ?_⟩)
                have ec := evT_const T
                have ef := evT_func T
                have d47 : evT T (.tmp 47) = .pointer (some ⟨g', k * 10, none⟩) := (by first | exact hd.1 | exact hd.2.1 | exact hd.2.2.1 | exact hd.2.2.2.1 | exact hd.2.2.2.2.1 | exact hd.2.2.2.2.2.1 | exact hd.2.2.2.2.2.2.1 | exact hd.2.2.2.2.2.2.2.1)
                clear hT hd hW
                refine ⟨.pointer (some ⟨g', k * 10, none⟩), ?_, rfl⟩
                simp only [execOp]
                go_simp
              case s11 =>
                refine stepS_on 6 44 true rfl rfl rfl (fun T w1 s hT hd hs hW => ⟨(by first | exact hd.1 | exact hd.2.1 | exact hd.2.2.1 | exact hd.2.2.2.1 | exact hd.2.2.2.2.1 | exact hd.2.2.2.2.2.1 | exact hd.2.2.2.2.2.2.1 | exact hd.2.2.2.2.2.2.2.1), ?_⟩)
                have ec := evT_const T
                have ef := evT_func T
                have d48 : evT T (.tmp 48) = .pointer (some ⟨g', k * 10, none⟩) := (by first | exact hd.1 | exact hd.2.1 | exact hd.2.2.1 | exact hd.2.2.2.1 | exact hd.2.2.2.2.1 | exact hd.2.2.2.2.2.1 | exact hd.2.2.2.2.2.2.1 | exact hd.2.2.2.2.2.2.2.1)
                clear hT hd hW
                refine ⟨.pointer (some ⟨g', k * 10 + 1, none⟩), ?_, rfl⟩
                simp only [execOp]
                go_simp
              case s12 =>
                refine stepS_on 6 44 true rfl rfl rfl (fun T w1 s hT hd hs hW => ⟨(by first | exact hd.1 | exact hd.2.1 | exact hd.2.2.1 | exact hd.2.2.2.1 | exact hd.2.2.2.2.1 | exact hd.2.2.2.2.2.1 | exact hd.2.2.2.2.2.2.1 | exact hd.2.2.2.2.2.2.2.1), ?_⟩)
                have ec := evT_const T
                have ef := evT_func T
                have d49 : evT T (.tmp 49) = .pointer (some ⟨g', k * 10 + 1, none⟩) := (by first | exact hd.1 | exact hd.2.1 | exact hd.2.2.1 | exact hd.2.2.2.1 | exact hd.2.2.2.2.1 | exact hd.2.2.2.2.2.1 | exact hd.2.2.2.2.2.2.1 | exact hd.2.2.2.2.2.2.2.1)
                have hc := (Moved.of_below (hot := []) hW).cell v1 (by simp)
                clear hT hd hW
                refine ⟨.slice (some ad) n cc, ?_, rfl⟩
                simp only [execOp]
                go_simp
              case s13 =>
                refine stepS_on 6 44 true rfl rfl rfl (fun T w1 s hT hd hs hW => ⟨(by first | exact hd.1 | exact hd.2.1 | exact hd.2.2.1 | exact hd.2.2.2.1 | exact hd.2.2.2.2.1 | exact hd.2.2.2.2.2.1 | exact hd.2.2.2.2.2.2.1 | exact hd.2.2.2.2.2.2.2.1), ?_⟩)
                have ec := evT_const T
                have ef := evT_func T
                have d4 : evT T (.tmp 4) = .pointer (some ⟨g', k * 10, none⟩) := hT 4 (by kernel_rfl)
                clear hT hd hW
                refine ⟨.pointer (some ⟨g', k * 10, none⟩), ?_, rfl⟩
                simp only [execOp]
                go_simp
              case s14 =>
                refine stepS_on 6 44 true rfl rfl rfl (fun T w1 s hT hd hs hW => ⟨(by first | exact hd.1 | exact hd.2.1 | exact hd.2.2.1 | exact hd.2.2.2.1 | exact hd.2.2.2.2.1 | exact hd.2.2.2.2.2.1 | exact hd.2.2.2.2.2.2.1 | exact hd.2.2.2.2.2.2.2.1), ?_⟩)
                have ec := evT_const T
                have ef := evT_func T
                have d51 : evT T (.tmp 51) = .pointer (some ⟨g', k * 10, none⟩) := (by first | exact hd.1 | exact hd.2.1 | exact hd.2.2.1 | exact hd.2.2.2.1 | exact hd.2.2.2.2.1 | exact hd.2.2.2.2.2.1 | exact hd.2.2.2.2.2.2.1 | exact hd.2.2.2.2.2.2.2.1)
                clear hT hd hW
                refine ⟨.pointer (some ⟨g', k * 10, none⟩), ?_, rfl⟩
                simp only [execOp]
                go_simp
              case s15 =>
                refine stepS_on 6 44 true rfl rfl rfl (fun T w1 s hT hd hs hW => ⟨(by first | exact hd.1 | exact hd.2.1 | exact hd.2.2.1 | exact hd.2.2.2.1 | exact hd.2.2.2.2.1 | exact hd.2.2.2.2.2.1 | exact hd.2.2.2.2.2.2.1 | exact hd.2.2.2.2.2.2.2.1), ?_⟩)
                have ec := evT_const T
                have ef := evT_func T
                have d52 : evT T (.tmp 52) = .pointer (some ⟨g', k * 10, none⟩) := (by first | exact hd.1 | exact hd.2.1 | exact hd.2.2.1 | exact hd.2.2.2.1 | exact hd.2.2.2.2.1 | exact hd.2.2.2.2.2.1 | exact hd.2.2.2.2.2.2.1 | exact hd.2.2.2.2.2.2.2.1)
                clear hT hd hW
                refine ⟨.pointer (some ⟨g', k * 10 + 9, none⟩), ?_, rfl⟩
                simp only [execOp]
                go_simp
              case s16 =>
                refine stepS_on 6 44 true rfl rfl rfl (fun T w1 s hT hd hs hW => ⟨(by first | exact hd.1 | exact hd.2.1 | exact hd.2.2.1 | exact hd.2.2.2.1 | exact hd.2.2.2.2.1 | exact hd.2.2.2.2.2.1 | exact hd.2.2.2.2.2.2.1 | exact hd.2.2.2.2.2.2.2.1), ?_⟩)
                have ec := evT_const T
                have ef := evT_func T
                have d53 : evT T (.tmp 53) = .pointer (some ⟨g', k * 10 + 9, none⟩) := (by first | exact hd.1 | exact hd.2.1 | exact hd.2.2.1 | exact hd.2.2.2.1 | exact hd.2.2.2.2.1 | exact hd.2.2.2.2.2.1 | exact hd.2.2.2.2.2.2.1 | exact hd.2.2.2.2.2.2.2.1)
                have hc := (Moved.of_below (hot := []) hW).cell v9 (by simp)
                clear hT hd hW
                refine ⟨.int .i64 (q : Int), ?_, rfl⟩
                simp only [execOp]
                go_simp
              case s17 =>
                refine stepS_on 6 44 true rfl rfl rfl (fun T w1 s hT hd hs hW => ⟨(by first | exact hd.1 | exact hd.2.1 | exact hd.2.2.1 | exact hd.2.2.2.1 | exact hd.2.2.2.2.1 | exact hd.2.2.2.2.2.1 | exact hd.2.2.2.2.2.2.1 | exact hd.2.2.2.2.2.2.2.1), ?_⟩)
                have ec := evT_const T
                have ef := evT_func T
                have d50 : evT T (.tmp 50) = .slice (some ad) n cc := (by first | exact hd.1 | exact hd.2.1 | exact hd.2.2.1 | exact hd.2.2.2.1 | exact hd.2.2.2.2.1 | exact hd.2.2.2.2.2.1 | exact hd.2.2.2.2.2.2.1 | exact hd.2.2.2.2.2.2.2.1)
                have d54 : evT T (.tmp 54) = .int .i64 (q : Int) := (by first | exact hd.1 | exact hd.2.1 | exact hd.2.2.1 | exact hd.2.2.2.1 | exact hd.2.2.2.2.1 | exact hd.2.2.2.2.2.1 | exact hd.2.2.2.2.2.2.1 | exact hd.2.2.2.2.2.2.2.1)
                have i0 : (0 : Int) ≤ (q : Int) := by omega
                have i1 : (q : Int) < (n : Int) := by omega
                clear hT hd hW
                refine ⟨.pointer (some (ad.add q)), ?_, rfl⟩
                simp only [execOp]
                go_simp
              case s18 =>
                refine stepS_on 6 44 true rfl rfl rfl (fun T w1 s hT hd hs hW => ⟨(by first | exact hd.1 | exact hd.2.1 | exact hd.2.2.1 | exact hd.2.2.2.1 | exact hd.2.2.2.2.1 | exact hd.2.2.2.2.2.1 | exact hd.2.2.2.2.2.2.1 | exact hd.2.2.2.2.2.2.2.1), ?_⟩)
                have ec := evT_const T
                have ef := evT_func T
                have d55 : evT T (.tmp 55) = .pointer (some (ad.add q)) := (by first | exact hd.1 | exact hd.2.1 | exact hd.2.2.1 | exact hd.2.2.2.1 | exact hd.2.2.2.2.1 | exact hd.2.2.2.2.2.1 | exact hd.2.2.2.2.2.2.1 | exact hd.2.2.2.2.2.2.2.1)
                have hc := (Moved.of_below (hot := []) hW).cell vy (by simp)
                clear hT hd hW
                refine ⟨.int .i64 y, ?_, rfl⟩
                simp only [execOp]
                go_simp
              case s19 =>
                refine stepC_on 0 6 44 true rfl rfl rfl (fun T w1 hT hd hW => ⟨(by first | exact hd.1 | exact hd.2.1 | exact hd.2.2.1 | exact hd.2.2.2.1 | exact hd.2.2.2.2.1 | exact hd.2.2.2.2.2.1 | exact hd.2.2.2.2.2.2.1 | exact hd.2.2.2.2.2.2.2.1), ?_⟩)
                have ec := evT_const T
                have ef := evT_func T
                have d45 : evT T (.tmp 45) = .pointer (some ⟨gt, 0, none⟩) := (by first | exact hd.1 | exact hd.2.1 | exact hd.2.2.1 | exact hd.2.2.2.1 | exact hd.2.2.2.2.1 | exact hd.2.2.2.2.2.1 | exact hd.2.2.2.2.2.2.1 | exact hd.2.2.2.2.2.2.2.1)
                have d56 : evT T (.tmp 56) = .int .i64 y := (by first | exact hd.1 | exact hd.2.1 | exact hd.2.2.1 | exact hd.2.2.2.1 | exact hd.2.2.2.2.1 | exact hd.2.2.2.2.2.1 | exact hd.2.2.2.2.2.2.1 | exact hd.2.2.2.2.2.2.2.1)
                refine ⟨20, #[.pointer (some ⟨gt, 0, none⟩), .int .i64 y], ?_, ?_⟩
                · clear hT hd hW
                  simp only [execOp, resolve]
                  go_simp
                · have hX : Below wr.heap.size wr w1 := hW
                  refine (HRUN.out w1 hX y).mono ?_
                  rintro e w2 ⟨rfl, h2⟩
                  exact ⟨_, rfl, by rw [HRW.out]; rfl, hX.trans (h2.mono hX.size)⟩
              case s20 =>
                refine stepS_on 6 44 true rfl rfl rfl (fun T w1 s hT hd hs hW => ⟨(by first | exact hd.1 | exact hd.2.1 | exact hd.2.2.1 | exact hd.2.2.2.1 | exact hd.2.2.2.2.1 | exact hd.2.2.2.2.2.1 | exact hd.2.2.2.2.2.2.1 | exact hd.2.2.2.2.2.2.2.1), ?_⟩)
                have ec := evT_const T
                have ef := evT_func T
                have d57 : evT T (.tmp 57) = .bool false := (by first | exact hd.1 | exact hd.2.1 | exact hd.2.2.1 | exact hd.2.2.2.1 | exact hd.2.2.2.2.1 | exact hd.2.2.2.2.2.1 | exact hd.2.2.2.2.2.2.1 | exact hd.2.2.2.2.2.2.2.1)
                clear hT hd hW
                refine ⟨.bool false, ?_, rfl⟩
                simp only [execOp]
                go_simp
              case s21 =>
                refine stepS_on 20 58 false rfl rfl rfl (fun T w1 s hT hd hs hW => ⟨(by first | exact hd.1 | exact hd.2.1 | exact hd.2.2.1 | exact hd.2.2.2.1 | exact hd.2.2.2.2.1 | exact hd.2.2.2.2.2.1 | exact hd.2.2.2.2.2.2.1 | exact hd.2.2.2.2.2.2.2.1), ?_⟩)
                have ec := evT_const T
                have ef := evT_func T
                have d0 : evT T (.tmp 0) = .pointer (some ⟨gt, 0, none⟩) := hT 0 (by kernel_rfl)
                clear hT hd hW
                refine ⟨.pointer (some ⟨gt, 0, none⟩), ?_, rfl⟩
                simp only [execOp]
                go_simp
              case s22 =>
                refine stepS_on 20 58 false rfl rfl rfl (fun T w1 s hT hd hs hW => ⟨(by first | exact hd.1 | exact hd.2.1 | exact hd.2.2.1 | exact hd.2.2.2.1 | exact hd.2.2.2.2.1 | exact hd.2.2.2.2.2.1 | exact hd.2.2.2.2.2.2.1 | exact hd.2.2.2.2.2.2.2.1), ?_⟩)
                have ec := evT_const T
                have ef := evT_func T
                have d4 : evT T (.tmp 4) = .pointer (some ⟨g', k * 10, none⟩) := hT 4 (by kernel_rfl)
                clear hT hd hW
                refine ⟨.pointer (some ⟨g', k * 10, none⟩), ?_, rfl⟩
                simp only [execOp]
                go_simp
              case s23 =>
                refine stepC_on 1 20 58 false rfl rfl rfl (fun T w1 hT hd hW => ⟨(by first | exact hd.1 | exact hd.2.1 | exact hd.2.2.1 | exact hd.2.2.2.1 | exact hd.2.2.2.2.1 | exact hd.2.2.2.2.2.1 | exact hd.2.2.2.2.2.2.1 | exact hd.2.2.2.2.2.2.2.1), ?_⟩)
                have ec := evT_const T
                have ef := evT_func T
                have d60 : evT T (.tmp 60) = .pointer (some ⟨g', k * 10, none⟩) := (by first | exact hd.1 | exact hd.2.1 | exact hd.2.2.1 | exact hd.2.2.2.1 | exact hd.2.2.2.2.1 | exact hd.2.2.2.2.2.1 | exact hd.2.2.2.2.2.2.1 | exact hd.2.2.2.2.2.2.2.1)
                refine ⟨48, #[.pointer (some ⟨g', k * 10, none⟩)], ?_, ?_⟩
                · clear hT hd hW
                  simp only [execOp, resolve]
                  go_simp
                · have hX : Below wr.heap.size wr w1 := hW
                  refine (HSRC.out w1 hX).mono ?_
                  rintro e w2 ⟨rfl, h2⟩
                  exact ⟨_, rfl, rfl, hX.trans (h2.mono hX.size)⟩
              case s24 =>
                refine stepC_on 2 20 58 false rfl rfl rfl (fun T w1 hT hd hW => ⟨(by first | exact hd.1 | exact hd.2.1 | exact hd.2.2.1 | exact hd.2.2.2.1 | exact hd.2.2.2.2.1 | exact hd.2.2.2.2.2.1 | exact hd.2.2.2.2.2.2.1 | exact hd.2.2.2.2.2.2.2.1), ?_⟩)
                have ec := evT_const T
                have ef := evT_func T
                have d59 : evT T (.tmp 59) = .pointer (some ⟨gt, 0, none⟩) := (by first | exact hd.1 | exact hd.2.1 | exact hd.2.2.1 | exact hd.2.2.2.1 | exact hd.2.2.2.2.1 | exact hd.2.2.2.2.2.1 | exact hd.2.2.2.2.2.2.1 | exact hd.2.2.2.2.2.2.2.1)
                have d61 : evT T (.tmp 61) = .int .i64 z := (by first | exact hd.1 | exact hd.2.1 | exact hd.2.2.1 | exact hd.2.2.2.1 | exact hd.2.2.2.2.1 | exact hd.2.2.2.2.2.1 | exact hd.2.2.2.2.2.2.1 | exact hd.2.2.2.2.2.2.2.1)
                refine ⟨20, #[.pointer (some ⟨gt, 0, none⟩), .int .i64 z], ?_, ?_⟩
                · clear hT hd hW
                  simp only [execOp, resolve]
                  go_simp
                · have hX : Below wr.heap.size wr w1 := hW
                  refine (HRUN.out w1 hX z).mono ?_
                  rintro e w2 ⟨rfl, h2⟩
                  exact ⟨_, rfl, by rw [HRS.out]; rfl, hX.trans (h2.mono hX.size)⟩
              case s25 =>
                refine stepS_on 20 58 false rfl rfl rfl (fun T w1 s hT hd hs hW => ⟨(by first | exact hd.1 | exact hd.2.1 | exact hd.2.2.1 | exact hd.2.2.2.1 | exact hd.2.2.2.2.1 | exact hd.2.2.2.2.2.1 | exact hd.2.2.2.2.2.2.1 | exact hd.2.2.2.2.2.2.2.1), ?_⟩)
                have ec := evT_const T
                have ef := evT_func T
                have d62 : evT T (.tmp 62) = .bool true := (by first | exact hd.1 | exact hd.2.1 | exact hd.2.2.1 | exact hd.2.2.2.1 | exact hd.2.2.2.2.1 | exact hd.2.2.2.2.2.1 | exact hd.2.2.2.2.2.2.1 | exact hd.2.2.2.2.2.2.2.1)
                clear hT hd hW
                refine ⟨.bool false, ?_, rfl⟩
                simp only [execOp]
                go_simp
              case s26 =>
                refine stepS_on 6 44 true rfl rfl rfl (fun T w1 s hT hd hs hW => ⟨(by first | exact hd.1 | exact hd.2.1 | exact hd.2.2.1 | exact hd.2.2.2.1 | exact hd.2.2.2.2.1 | exact hd.2.2.2.2.2.1 | exact hd.2.2.2.2.2.2.1 | exact hd.2.2.2.2.2.2.2.1), ?_⟩)
                have ec := evT_const T
                have ef := evT_func T
                have d58 : evT T (.tmp 58) = .bool false := (by first | exact hd.1 | exact hd.2.1 | exact hd.2.2.1 | exact hd.2.2.2.1 | exact hd.2.2.2.2.1 | exact hd.2.2.2.2.2.1 | exact hd.2.2.2.2.2.2.1 | exact hd.2.2.2.2.2.2.2.1)
                have d63 : evT T (.tmp 63) = .bool false := (by first | exact hd.1 | exact hd.2.1 | exact hd.2.2.1 | exact hd.2.2.2.1 | exact hd.2.2.2.2.1 | exact hd.2.2.2.2.2.1 | exact hd.2.2.2.2.2.2.1 | exact hd.2.2.2.2.2.2.2.1)
                clear hT hd hW
                refine ⟨.bool false, ?_, rfl⟩
                simp only [execOp]
                go_simp
              case s27 =>
                refine stepS_plain rfl rfl (fun T w1 s hT hd hs hW => ?_)
                have ec := evT_const T
                have ef := evT_func T
                have d44 : evT T (.tmp 44) = .bool true := (by first | exact hd.1 | exact hd.2.1 | exact hd.2.2.1 | exact hd.2.2.2.1 | exact hd.2.2.2.2.1 | exact hd.2.2.2.2.2.1 | exact hd.2.2.2.2.2.2.1 | exact hd.2.2.2.2.2.2.2.1)
                have d64 : evT T (.tmp 64) = .bool false := (by first | exact hd.1 | exact hd.2.1 | exact hd.2.2.1 | exact hd.2.2.2.1 | exact hd.2.2.2.2.1 | exact hd.2.2.2.2.2.1 | exact hd.2.2.2.2.2.2.1 | exact hd.2.2.2.2.2.2.2.1)
                clear hT hd hW
                refine ⟨.bool false, ?_, rfl⟩
                simp only [execOp]
                go_simp
              case s28 =>
                refine stepS_plain rfl rfl (fun T w1 s hT hd hs hW => ?_)
                have ec := evT_const T
                have ef := evT_func T
                have d65 : evT T (.tmp 65) = .bool false := (by first | exact hd.1 | exact hd.2.1 | exact hd.2.2.1 | exact hd.2.2.2.1 | exact hd.2.2.2.2.1 | exact hd.2.2.2.2.2.1 | exact hd.2.2.2.2.2.2.1 | exact hd.2.2.2.2.2.2.2.1)
                clear hT hd hW
                refine ⟨.bool false, ?_, rfl⟩
                simp only [execOp]
                go_simp
              case fin =>
                intro T w1 hT hW hd
                have e37 : T 37 = .bool false := hd.2.2.2.2.2.2.2.2.2.2.2.2.2.2.2.2.2.2.2.2.2.2.2.2.2.2.2.2.1
                simp only [putL, Act.put, Option.getD_some, List.setIfInBounds_toArray, List.set_cons_zero, List.set_cons_succ]
                have HWW : RowKit.Hid (Below wr.heap.size wr w1) := Lib.hid hW
                clear hT hd hW
                rw [e37]
                clear e37
                have HT8 := Lib.hid (HR.out.tick0 (Moved.of_below HWW.out) HX.out HXS.out)
                go_wp2
                go_roundw
                case rel => exact ⟨k + 1, hlt, by go_num, HT8⟩
                case measure => simp [intOf]; omega
      · have HXS := Lib.hid (show tickS sts x = x by
          unfold tickS
          by_cases h1 : x.clk.kind = 112
          · rw [if_pos h1, if_neg (by intro h2; exact hsrc (.inl ⟨h1, h2⟩))]
          · rw [if_neg h1, if_neg (by intro h2; exact hsrc (.inr h2))])
        obtain ⟨kd, hkd⟩ : ∃ kd, kd = x.clk.kind := ⟨_, rfl⟩
        obtain ⟨on, hon⟩ : ∃ on, on = x.on := ⟨_, rfl⟩
        rw [← hkd] at v0 hsrc
        rw [← hon] at v6 hsrc
        have e2 : (kd == 109) = false := by simp; omega
        clear hok hkd hon
        cases e1 : (kd == 112) with
        | false =>
          clear hsrc
          go_wp2
          go_quiet (fail)
          have HT8 := Lib.hid (HR.out.tick0 (Moved.drewN _ nq) HX.out HXS.out)
          go_wp2
          go_roundw
          case rel => exact ⟨k + 1, hlt, by go_num, HT8⟩
          case measure => simp [intOf]; omega
        | true =>
          have ho : on = false := by
            have : kd = 112 := by simpa using e1
            cases on with
            | false => rfl
            | true => exact absurd (.inl ⟨this, rfl⟩) hsrc
          subst ho
          clear hsrc
          go_wp2
          go_quiet (fail)
          have HT8 := Lib.hid (HR.out.tick0 (Moved.drewN _ nq) HX.out HXS.out)
          go_wp2
          go_roundw
          case rel => exact ⟨k + 1, hlt, by go_num, HT8⟩
          case measure => simp [intOf]; omega
    · have hke : k = sts.length := by omega
      have i1 : ¬ ((k : Int) < (sts.length : Int)) := by omega
      obtain ⟨b0, f0⟩ := HR.out.1.tree.box 0 _ rfl
      have hgt := HR.out.1.tree.lt.1
      have hgtw := H.out.lt.1
      have hne : g' ≠ gt := by have := HR.out.1.lo; omega
      have hm1 : Moved [gt] wr (wr.setCell ⟨gt, 0, none⟩ (.slice (some ⟨g', 0, none⟩) sts.length c')) := Moved.setCell _ (by simp) _
      have hrow := HR.out.1.row
      rw [hke, partT_all] at hrow
      have HFIN : RowKit.Hid (Ticks w gt sts (.returned (.tuple #[])) (wr.setCell ⟨gt, 0, none⟩ (.slice (some ⟨g', 0, none⟩) sts.length c'))) := Lib.hid ⟨g', c', rfl, ⟨hne, by
          rw [tickT_len]
          exact HR.out.1.tree.box.set (j := 0) (by simp) _, hrow.move (hm1.mono (by simp)) (fun b hb => hm1.block b (by injection hb with hb; subst hb; exact HR.out.1.hi) (by injection hb with hb; subst hb; simpa using hne))⟩, (HR.out.1.mv.mono (by simp)).trans hm1, HR.out.1.lo⟩
      clear hm1 hrow hke
      go_wp2
      go_end0
      exact HFIN.out

end Go.Proofs.Ytnfbhhgdibkbdaa
