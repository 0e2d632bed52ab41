/- The contracts of slices.Clone of ints, of hangs of all three kinds, and of the three graphs. (Written by wip/tools/w10.py.) -/
import Derived.Test.YtnfbhhgdibkbdaaW7
import Derived.Test.YtnfbhhgdibkbdaaW9
import Derived.Laws.MakeOwn
namespace Go.Proofs.Ytnfbhhgdibkbdaa
set_option linter.unusedSimpArgs false
set_option linter.unusedVariables false
open Go.RowKit Go.Maps

/-- block gw holds n slices that may be stored anew; slice i holds G i, and lies elsewhere -/
def RowsOut (w : World) (gw n : Nat) (G : Nat → List Int) : Prop :=
  ∀ i, i < n → w.frozen? ⟨gw, i, none⟩ = false ∧ ∃ Ai ci, w.cell? ⟨gw, i, none⟩ = some (.slice Ai (G i).length ci) ∧ (G i).length ≤ ci ∧ IntsAt w w.heap.size Ai (G i) ∧ ∀ ad, Ai = some ad → ad.block ≠ gw

theorem RowsOut.rows {w : World} {gw n : Nat} {G : Nat → List Int} (h : RowsOut w gw n G) (hg : gw < w.heap.size) : RowsAt w w.heap.size (some ⟨gw, 0, none⟩) n G := by
  intro _
  refine ⟨_, rfl, hg, fun i hi => ?_⟩
  obtain ⟨_, Ai, ci, h1, h2, h3, _⟩ := h i hi
  exact ⟨Ai, ci, by rw [Addr.add_lit, Nat.zero_add]; exact h1, h2, h3⟩
theorem RowsOut.below {w w' : World} {gw n : Nat} {G : Nat → List Int} (h : RowsOut w gw n G) (hb : Below w.heap.size w w') (hg : gw < w.heap.size) : RowsOut w' gw n G := by
  intro i hi
  obtain ⟨h0, Ai, ci, h1, h2, h3, h4⟩ := h i hi
  exact ⟨(hb.frozen (p := ⟨gw, i, none⟩) hg).trans h0, Ai, ci, (hb.cell (p := ⟨gw, i, none⟩) hg).trans h1, h2, (h3.below hb (Nat.le_refl _)).more hb.size, h4⟩
theorem RowsOut.congr {w : World} {gw n : Nat} {G G' : Nat → List Int} (h : RowsOut w gw n G) (he : ∀ i, i < n → G i = G' i) : RowsOut w gw n G' := fun i hi => by rw [← he i hi]; exact h i hi
theorem IntsAt.far {w : World} {B : Nat} {A : Option Addr} {xs : List Int} (h : IntsAt w B A xs) {p : Addr} (hne : ∀ ad, A = some ad → ad.block ≠ p.block) (u : Value) : IntsAt (w.setCell p u) B A xs := by
  intro hl
  obtain ⟨ad, e, hb, hc⟩ := h hl
  refine ⟨ad, e, hb, fun j x hj => (World.cell?_setCell_other w p _ u (fun e' => ?_)).trans (hc j x hj)⟩
  have h1 := hne ad e
  apply h1
  rw [← block_add ad j]
  rw [e']
theorem size_setCell (w : World) (p : Addr) (u : Value) : (w.setCell p u).heap.size = w.heap.size := by simp [World.setCell]
theorem RowsOut.store {w : World} {gw n k ck : Nat} {G : Nat → List Int} {Ak : Option Addr} {l : List Int} (h : RowsOut w gw n G) (hk : k < n) (hl : l.length ≤ ck) (hI : IntsAt w w.heap.size Ak l) (hne : ∀ ad, Ak = some ad → ad.block ≠ gw) :
    RowsOut (w.setCell ⟨gw, k, none⟩ (.slice Ak l.length ck)) gw n (upd G k l) := by
  intro i hi
  obtain ⟨h0, Ai, ci, h1, h2, h3, h4⟩ := h i hi
  refine ⟨by rw [World.frozen?_setCell]; exact h0, ?_⟩
  rw [size_setCell]
  by_cases e : i = k
  · subst e
    rw [upd_same]
    exact ⟨Ak, ck, World.cell?_setCell_same' _ _ _ (by rw [h1]; rfl), hl, hI.far hne _, hne⟩
  · rw [upd_other e]
    exact ⟨Ai, ci, (World.cell?_setCell_other w _ _ _ (fun h => e (by cases h; rfl))).trans h1, h2, h3.far h4 _, h4⟩
theorem RowsOut.alloc {w : World} {gw n : Nat} {G : Nat → List Int} (h : RowsOut w gw n G) (hg : gw < w.heap.size) (o : Obj) : RowsOut (w.alloc o) gw n G := h.below ((Below.refl _ w).alloc (Nat.le_refl _) o) hg

theorem make_rows (n : Nat) (hn : n ≤ 1000000) (W : World) :
    (Instr.makeSlice 120 (.int .i64 (n : Int)) (.int .i64 (n : Int))).run Try.prog W = .ok (.slice (some ⟨W.heap.size, 0, none⟩) n n) (W.alloc (.cells (madeCells #[.slice none 0 0] n) 35)) := by
  obtain ⟨i0, hi, hz0, hz1, hz2⟩ := info_parts Try.info35
  have h := run_make (P := Try.prog) (w := W) 120 35 i0 (.slice none 0 0) Try.underlying120 hi hz0 .i64 .i64 (n : Int) (n : Int) (by omega) (by omega) (by rw [hz2]; omega) (by omega)
  simp only [Int.toNat_natCast, hz1, Nat.mul_one] at h
  exact h
theorem rows_new (n : Nat) (W : World) : RowsOut (W.alloc (.cells (madeCells #[.slice none 0 0] n) 35)) W.heap.size n (fun _ => []) := by
  intro i hi
  have hh : (W.alloc (.cells (madeCells #[.slice none 0 0] n) 35)).heap[W.heap.size]? = some (.cells (madeCells #[.slice none 0 0] n) 35 (0, 0)) := heap_alloc_new W _
  refine ⟨frozen_of_row _ _ _ _ _ hh, none, 0, ?_, Nat.le_refl _, fun hl => absurd hl (by simp), fun ad e => by cases e⟩
  rw [cell_of_row _ _ i _ _ _ hh]
  simp [madeCells, hi, Nat.mod_one]


/-- a slice of ints of its own, made since w -/
def IntsNew (xs : List Int) (w : World) (e : Ending) (w' : World) : Prop :=
  ∃ v, e = .returned v ∧ w'.ownsRow w.heap.size 3 1 v xs.length (iv xs) ∧ Below w.heap.size w w'

theorem own_cap {w : World} {base n c : Nat} {A : Option Addr} {e : TypeId} {size : Nat} {xs : List Value} (h : w.ownsRow base e size (.slice A n c) n xs) : n ≤ c := by
  rcases h.2 with ⟨h1, rfl⟩ | ⟨g, cap, cur, h1, _, _, hc, _⟩
  · omega
  · injection h1 with _ _ h1; omega

set_option maxRecDepth 100000 in
set_option maxHeartbeats 1000000 in
theorem cloneInts_any (A : Option Addr) (c : Nat) (xs : List Int) (w : World) (hn : xs.length ≤ 1000000) (h : IntsAt w w.heap.size A xs) :
    Calls Try.prog 62 #[.slice A xs.length c] w (IntsNew xs w) := by
  obtain ⟨i0, hi, hz0, hz1, hz2⟩ := info_parts Try.info3
  have q22 : ∀ (w : World) (a : Option Addr) (n c : Nat), (binOp .eql 35 (.slice a n c) (.slice none 0 0)).run Try.prog w = .ok (.bool a.isNone) w := fun w a n c => Lib.run_eql_slice_nil w _ _ a n c 0 0 Try.underlying35
  rcases A with _ | ad
  · have h0 : ¬ 0 < xs.length := fun hp => by obtain ⟨ad, e, _⟩ := h hp; cases e
    have h0' : xs = [] := List.eq_nil_of_length_eq_zero (by omega)
    subst h0'
    clear h h0
    go_enter Try.func62, Try.ntmps62
    go_wp2
    go_ret
    exact ⟨_, rfl, World.ownsRow_nil _ _ _ _, Below.refl _ _⟩
  · have hc : ∀ j x, xs[j]? = some x → w.cell? (ad.add j) = some (.int .i64 x) := fun j x hj => by
      obtain ⟨ad', e, _, hc⟩ := h (by have := (List.getElem?_eq_some_iff.1 hj).1; omega)
      injection e with e
      subst e
      exact hc j x hj
    have HC := Lib.hid hc
    clear hc h
    go_enter Try.func62, Try.ntmps62
    go_wp2_with (at_builtin; refine wpList_append_own _ rfl _ _ 35 rfl w.heap.size 3 i0 (.int .i64 0) 1 8 Try.underlying35 hi hz0 hz1 hz2 rfl (by decide) _ _ _ rfl (World.ownsRow_made w #[] 0 (Nat.le_refl _) (Nat.zero_le _) (by simp)) ad xs.length c (iv xs) rfl ?qc1 ?qc2 ?qc3 ?qc4 ?qc5 ?qc6 ?_)
    case qc1 => simp [iv]
    case qc2 =>
      intro j u hj
      unfold iv at hj
      rw [List.getElem?_map] at hj
      cases hx : xs[j]? with
      | none => rw [hx] at hj; simp at hj
      | some x =>
        rw [hx] at hj
        simp at hj
        subst hj
        exact Lib.cell?_alloc_some _ (HC.out j x hx)
    case qc3 => exact iv_one xs
    case qc4 => unfold maxLen; omega
    case qc5 => omega
    case qc6 => simp
    intro v' w1 hown hgrow hnil
    have HOWN := Lib.hid hown
    have HNIL := Lib.hid hnil
    clear hown hnil
    go_wp2
    go_ret
    have hB1 : Below w.heap.size w w1 := ((Below.refl _ w).alloc (Nat.le_refl _) _).grown hgrow (by simp) (by intro k hk; simp [Value.ownBlock] at hk; omega)
    exact ⟨_, rfl, by have := HOWN.out; simpa using this, hB1⟩

/-- a slice of ints, below the heap's size -/
def IntsOut (xs : List Int) (w : World) (e : Ending) (w' : World) : Prop :=
  ∃ A c, e = .returned (.slice A xs.length c) ∧ xs.length ≤ c ∧ IntsAt w' w'.heap.size A xs ∧ Below w.heap.size w w'

theorem on_clk (x : Clk) (vs : List Value) (w : World) (h : ClkV w w.heap.size x vs) : Calls Try.prog 75 #[.agg vs.toArray] w (IntsOut x.frm w) := by
  obtain ⟨A, c, rfl, hc, hI⟩ := h
  have HI := Lib.hid hI
  clear hI
  go_enter Try.func75, Try.ntmps75
  go_wp2
  go_ret
  have hb := (Below.refl _ w).alloc (Nat.le_refl _) (.cells #[.int .u8 x.kind, .slice A x.frm.length c, .int .u64 x.rate, .int .i64 x.mul, .int .i64 x.div, .int .i64 x.lock] 46)
  exact ⟨_, _, rfl, hc, (HI.out.below hb (Nat.le_refl _)).more hb.size, hb⟩
theorem on_dev (x : Dev) (vs : List Value) (w : World) (h : DevV w w.heap.size x vs) : Calls Try.prog 86 #[.agg vs.toArray] w (IntsOut x.needs w) := by
  obtain ⟨A, c, A', c', rfl, hc, hc', hI, hI'⟩ := h
  have HI := Lib.hid hI'
  clear hI hI'
  go_enter Try.func86, Try.ntmps86
  go_wp2
  go_ret
  have hb := (Below.refl _ w).alloc (Nat.le_refl _) (.cells #[.int .i64 x.clock, .int .i64 x.domain, .int .i64 x.rst, .int .u32 x.clamp, .slice A x.regs.length c, .slice A' x.needs.length c'] 86)
  exact ⟨_, _, rfl, hc', (HI.out.below hb (Nat.le_refl _)).more hb.size, hb⟩
def aboveL (d : Dom) : List Int := if d.above = -1 then [] else [d.above]
theorem on_dom (x : Dom) (vs : List Value) (w : World) (h : DomV w w.heap.size x vs) : Calls Try.prog 80 #[.agg vs.toArray] w (IntsOut (aboveL x) w) := by
  cases h
  have hb := (Below.refl _ w).alloc (Nat.le_refl _) (.cells #[.int .i64 x.above, .int .i64 x.delay, .bool x.ret] 75)
  have HB := Lib.hid hb
  clear hb
  by_cases e : x.above = -1
  · have e1 : (x.above == -1) = true := by simpa using e
    have hm : aboveL x = [] := by unfold aboveL; rw [if_pos e]
    have HM := Lib.hid hm
    rw [hm]
    clear hm e
    go_enter Try.func80, Try.ntmps80
    go_wp2
    go_ret
    exact ⟨none, 0, rfl, Nat.le_refl _, fun hp => absurd hp (by simp), HB.out⟩
  · have e1 : (x.above == -1) = false := by simpa using e
    have hm : aboveL x = [x.above] := by unfold aboveL; rw [if_neg e]
    have HM := Lib.hid hm
    rw [hm]
    clear hm e
    go_enter Try.func80, Try.ntmps80
    go_wp2
    go_ret
    refine ⟨_, _, rfl, Nat.le_refl _, ?_, HB.out.alloc (by simp) _⟩
    have := ints_new (w.alloc (.cells #[.int .i64 x.above, .int .i64 x.delay, .bool x.ret] 75)) x.above
    simpa using this

theorem gOf_at {rows : List (List Int)} {k : Nat} {l : List Int} (h : rows[k]? = some l) : gOf rows k = l := by unfold gOf; rw [List.getD_eq_getElem?_getD, h]; rfl
/-- the first k rows alone -/
def gUp (rows : List (List Int)) (k : Nat) : Nat → List Int := fun i => if i < k then gOf rows i else []
theorem gUp_step {rows : List (List Int)} {k : Nat} {l : List Int} (h : rows[k]? = some l) (i : Nat) : upd (gUp rows k) k l i = gUp rows (k + 1) i := by
  unfold upd gUp
  by_cases e : i = k
  · subst e; rw [if_pos rfl, if_pos (Nat.lt_succ_self _), gOf_at h]
  · rw [if_neg e]
    by_cases h1 : i < k
    · rw [if_pos h1, if_pos (by omega)]
    · rw [if_neg h1, if_neg (by omega)]

/-- rows below the heap's size, in a new block -/
def RowsNew (rows : List (List Int)) (w : World) (e : Ending) (w' : World) : Prop :=
  ∃ A c, e = .returned (.slice A rows.length c) ∧ RowsAt w' w'.heap.size A rows.length (gOf rows) ∧ Below w.heap.size w w'

set_option maxRecDepth 100000 in
set_option maxHeartbeats 2000000 in
theorem hangs_clk (A : Option Addr) (c : Nat) (xs : List Clk) (w : World) (hn : xs.length ≤ 1000000) (hg : ∀ x, x ∈ xs → (Clk.frm x).length ≤ 1000000) (h : StrsAt ClkV 6 w w.heap.size A xs) :
    Calls Try.prog 74 #[.slice A xs.length c, .func (.func 75) #[] #[]] w (RowsNew (xs.map (Clk.frm)) w) := by
  have hmk := make_rows xs.length (by omega)
  have HG := Lib.hid hg
  have HX := Lib.hid h
  have HNEW := Lib.hid (rows_new xs.length w)
  have HB1 := Lib.hid ((Below.refl _ w).alloc (Nat.le_refl _) (.cells (madeCells #[.slice none 0 0] xs.length) 35))
  clear hg h
  go_enter Try.func74, Try.ntmps74
  go_wp2
  go_loopw [13] (fun i wr => ∃ k : Nat, k ≤ xs.length ∧ i = .int .i64 k ∧ RowsOut wr w.heap.size xs.length (gUp (xs.map (Clk.frm)) k) ∧ Below w.heap.size w wr ∧ w.heap.size + 1 ≤ wr.heap.size) (fun i _ => xs.length - (intOf i).toNat)
  case atStart => exact ⟨0, Nat.zero_le _, rfl, HNEW.out.congr fun i _ => by unfold gUp; rw [if_neg (by omega)], HB1.out, by simp⟩
  case round =>
    obtain ⟨k, hk, rfl, hR, hB, hz⟩ := hrel
    have HR := Lib.hid hR
    clear hR
    by_cases hlt : k < xs.length
    · obtain ⟨ad, vs, hA, hab, hV, hAg⟩ := (HX.out.below hB (Nat.le_refl _)).at_ hlt
      obtain ⟨x, hx⟩ : ∃ x, x = xs[k] := ⟨_, rfl⟩
      rw [← hx] at hV
      have hgx := HG.out x (by rw [hx]; exact List.getElem_mem _)
      have hrow : (xs.map (Clk.frm))[k]? = some (Clk.frm x) := by rw [List.getElem?_map, List.getElem?_eq_getElem hlt, ← hx]; rfl
      have HROW := Lib.hid hrow
      clear hrow hx
      have hV2 := hV
      obtain ⟨Af, cf, rfl, hcf, hIf⟩ := hV
      have h0 := hAg.zero
      have h1 := hAg.at_ 0 rfl
      have h2 := hAg.at_ 1 rfl
      have h3 := hAg.at_ 2 rfl
      have h4 := hAg.at_ 3 rfl
      have h5 := hAg.at_ 4 rfl
      have hbx := (Below.refl _ wr).alloc (Nat.le_refl _) (.cells #[.int .u8 x.kind, .slice Af x.frm.length cf, .int .u64 x.rate, .int .i64 x.mul, .int .i64 x.div, .int .i64 x.lock] 46)
      have HVX := Lib.hid ((Steady.below hV2 (hbx.mono (by omega : w.heap.size ≤ wr.heap.size)) (Nat.le_refl _) |> fun h => Steady.more (V := ClkV) (C := wr.heap.size + 1) h (by omega)))
      have HBX := Lib.hid hbx
      clear hAg hV2 hbx
      subst hA
      go_wp2_with fail
      refine (on_clk x _ _ (by simpa using HVX.out)).mono ?_
      rintro e w2 ⟨A2, c2, rfl, hc2, hI2, hb2⟩
      have HI2 := Lib.hid hI2
      clear hI2
      have hz2 := hb2.size
      simp at hz2
      go_wp2_with fail
      refine (cloneInts_any A2 c2 (Clk.frm x) w2 hgx HI2.out).mono ?_
      rintro e w3 ⟨v3, rfl, hown3, hb3⟩
      obtain ⟨A3, c3, rfl⟩ := own_shape' hown3
      have HOWN3 := Lib.hid hown3
      clear hown3
      have hz3 := hb3.size
      have hb13 : Below wr.heap.size wr w3 := HBX.out.trans ((hb2.mono (by simp)).trans (hb3.mono (by omega)))
      have hR3 := HR.out.below hb13 (by omega)
      obtain ⟨hfr, Ai, ci, hck, _⟩ := hR3 k hlt
      have HR3 := Lib.hid hR3
      have HB13 := Lib.hid hb13
      clear hR3 hb13
      go_wp2
      have hst := HR3.out.store hlt (own_cap HOWN3.out) (IntsAt.of_own HOWN3.out) (fun ad he => by
        subst he
        have := (HOWN3.out.lt ad.block rfl).1
        omega)
      go_roundw
      case measure => simp [intOf]; omega
      case rel => exact ⟨k + 1, by omega, by go_num, hst.congr fun i _ => gUp_step HROW.out i, (hB.trans (HB13.out.mono (by omega))).setCell (by simp) _, by rw [size_setCell]; omega⟩
    · obtain rfl : k = xs.length := by omega
      go_wp2
      go_ret
      refine ⟨_, _, by rw [List.length_map]; rfl, ?_, hB⟩
      rw [List.length_map]
      refine (HR.out.congr (G' := gOf (xs.map (Clk.frm))) fun i hi => ?_).rows (by omega)
      unfold gUp
      rw [if_pos hi]

theorem graph_clk (s : Chip) (vs : List Value) (w : World) (hok : ChipOk s) (h : ChipV w w.heap.size s vs) :
    Calls Try.prog 34 #[.agg vs.toArray] w (RowsNew (clksG s) w) := by
  obtain ⟨A1, c1, A2, c2, A3, c3, A4, c4, rfl, l1, l2, l3, l4, h1, h2, h3, h4⟩ := h
  have HOK := Lib.hid hok
  have HX := Lib.hid h1
  clear hok h1 h2 h3 h4
  go_enter Try.func34, Try.ntmps34
  go_wp2_with fail
  refine (hangs_clk A1 c1 _ _ (by have := HOK.out.n1; omega) (fun x hx => Nat.le_trans (HOK.out.clks x hx).1 (by decide)) ((HX.out.below ((Below.refl _ w).alloc (Nat.le_refl _) _) (Nat.le_refl _)).more (by simp))).mono ?_
  rintro e w' ⟨A', c', rfl, hR, hb⟩
  have HR := Lib.hid hR
  clear hR
  go_wp2
  go_ret
  refine ⟨A', c', ?_, HR.out, ((Below.refl _ w).alloc (Nat.le_refl _) _).trans (hb.mono (by simp))⟩
  show _ = Ending.returned (.slice _ (List.length (List.map _ _)) _)
  rw [List.length_map]
  rfl

set_option maxRecDepth 100000 in
set_option maxHeartbeats 2000000 in
theorem hangs_dom (A : Option Addr) (c : Nat) (xs : List Dom) (w : World) (hn : xs.length ≤ 1000000) (hg : ∀ x, x ∈ xs → (aboveL x).length ≤ 1000000) (h : StrsAt DomV 3 w w.heap.size A xs) :
    Calls Try.prog 79 #[.slice A xs.length c, .func (.func 80) #[] #[]] w (RowsNew (xs.map (aboveL)) w) := by
  have hmk := make_rows xs.length (by omega)
  have HG := Lib.hid hg
  have HX := Lib.hid h
  have HNEW := Lib.hid (rows_new xs.length w)
  have HB1 := Lib.hid ((Below.refl _ w).alloc (Nat.le_refl _) (.cells (madeCells #[.slice none 0 0] xs.length) 35))
  clear hg h
  go_enter Try.func79, Try.ntmps79
  go_wp2
  go_loopw [13] (fun i wr => ∃ k : Nat, k ≤ xs.length ∧ i = .int .i64 k ∧ RowsOut wr w.heap.size xs.length (gUp (xs.map (aboveL)) k) ∧ Below w.heap.size w wr ∧ w.heap.size + 1 ≤ wr.heap.size) (fun i _ => xs.length - (intOf i).toNat)
  case atStart => exact ⟨0, Nat.zero_le _, rfl, HNEW.out.congr fun i _ => by unfold gUp; rw [if_neg (by omega)], HB1.out, by simp⟩
  case round =>
    obtain ⟨k, hk, rfl, hR, hB, hz⟩ := hrel
    have HR := Lib.hid hR
    clear hR
    by_cases hlt : k < xs.length
    · obtain ⟨ad, vs, hA, hab, hV, hAg⟩ := (HX.out.below hB (Nat.le_refl _)).at_ hlt
      obtain ⟨x, hx⟩ : ∃ x, x = xs[k] := ⟨_, rfl⟩
      rw [← hx] at hV
      have hgx := HG.out x (by rw [hx]; exact List.getElem_mem _)
      have hrow : (xs.map (aboveL))[k]? = some (aboveL x) := by rw [List.getElem?_map, List.getElem?_eq_getElem hlt, ← hx]; rfl
      have HROW := Lib.hid hrow
      clear hrow hx
      have hV2 := hV
      cases hV
      have h0 := hAg.zero
      have h1 := hAg.at_ 0 rfl
      have h2 := hAg.at_ 1 rfl
      have hbx := (Below.refl _ wr).alloc (Nat.le_refl _) (.cells #[.int .i64 x.above, .int .i64 x.delay, .bool x.ret] 75)
      have HVX := Lib.hid ((Steady.below hV2 (hbx.mono (by omega : w.heap.size ≤ wr.heap.size)) (Nat.le_refl _) |> fun h => Steady.more (V := DomV) (C := wr.heap.size + 1) h (by omega)))
      have HBX := Lib.hid hbx
      clear hAg hV2 hbx
      subst hA
      go_wp2_with fail
      refine (on_dom x _ _ (by simpa using HVX.out)).mono ?_
      rintro e w2 ⟨A2, c2, rfl, hc2, hI2, hb2⟩
      have HI2 := Lib.hid hI2
      clear hI2
      have hz2 := hb2.size
      simp at hz2
      go_wp2_with fail
      refine (cloneInts_any A2 c2 (aboveL x) w2 hgx HI2.out).mono ?_
      rintro e w3 ⟨v3, rfl, hown3, hb3⟩
      obtain ⟨A3, c3, rfl⟩ := own_shape' hown3
      have HOWN3 := Lib.hid hown3
      clear hown3
      have hz3 := hb3.size
      have hb13 : Below wr.heap.size wr w3 := HBX.out.trans ((hb2.mono (by simp)).trans (hb3.mono (by omega)))
      have hR3 := HR.out.below hb13 (by omega)
      obtain ⟨hfr, Ai, ci, hck, _⟩ := hR3 k hlt
      have HR3 := Lib.hid hR3
      have HB13 := Lib.hid hb13
      clear hR3 hb13
      go_wp2
      have hst := HR3.out.store hlt (own_cap HOWN3.out) (IntsAt.of_own HOWN3.out) (fun ad he => by
        subst he
        have := (HOWN3.out.lt ad.block rfl).1
        omega)
      go_roundw
      case measure => simp [intOf]; omega
      case rel => exact ⟨k + 1, by omega, by go_num, hst.congr fun i _ => gUp_step HROW.out i, (hB.trans (HB13.out.mono (by omega))).setCell (by simp) _, by rw [size_setCell]; omega⟩
    · obtain rfl : k = xs.length := by omega
      go_wp2
      go_ret
      refine ⟨_, _, by rw [List.length_map]; rfl, ?_, hB⟩
      rw [List.length_map]
      refine (HR.out.congr (G' := gOf (xs.map (aboveL))) fun i hi => ?_).rows (by omega)
      unfold gUp
      rw [if_pos hi]

theorem graph_dom (s : Chip) (vs : List Value) (w : World) (hok : ChipOk s) (h : ChipV w w.heap.size s vs) :
    Calls Try.prog 38 #[.agg vs.toArray] w (RowsNew (domsG s) w) := by
  obtain ⟨A1, c1, A2, c2, A3, c3, A4, c4, rfl, l1, l2, l3, l4, h1, h2, h3, h4⟩ := h
  have HOK := Lib.hid hok
  have HX := Lib.hid h2
  clear hok h1 h2 h3 h4
  go_enter Try.func38, Try.ntmps38
  go_wp2_with fail
  refine (hangs_dom A2 c2 _ _ (by have := HOK.out.n2; omega) (fun x hx => by unfold aboveL; split <;> simp) ((HX.out.below ((Below.refl _ w).alloc (Nat.le_refl _) _) (Nat.le_refl _)).more (by simp))).mono ?_
  rintro e w' ⟨A', c', rfl, hR, hb⟩
  have HR := Lib.hid hR
  clear hR
  go_wp2
  go_ret
  refine ⟨A', c', ?_, HR.out, ((Below.refl _ w).alloc (Nat.le_refl _) _).trans (hb.mono (by simp))⟩
  show _ = Ending.returned (.slice _ (List.length (List.map _ _)) _)
  rw [List.length_map]
  rfl

set_option maxRecDepth 100000 in
set_option maxHeartbeats 2000000 in
theorem hangs_dev (A : Option Addr) (c : Nat) (xs : List Dev) (w : World) (hn : xs.length ≤ 1000000) (hg : ∀ x, x ∈ xs → (Dev.needs x).length ≤ 1000000) (h : StrsAt DevV 6 w w.heap.size A xs) :
    Calls Try.prog 85 #[.slice A xs.length c, .func (.func 86) #[] #[]] w (RowsNew (xs.map (Dev.needs)) w) := by
  have hmk := make_rows xs.length (by omega)
  have HG := Lib.hid hg
  have HX := Lib.hid h
  have HNEW := Lib.hid (rows_new xs.length w)
  have HB1 := Lib.hid ((Below.refl _ w).alloc (Nat.le_refl _) (.cells (madeCells #[.slice none 0 0] xs.length) 35))
  clear hg h
  go_enter Try.func85, Try.ntmps85
  go_wp2
  go_loopw [13] (fun i wr => ∃ k : Nat, k ≤ xs.length ∧ i = .int .i64 k ∧ RowsOut wr w.heap.size xs.length (gUp (xs.map (Dev.needs)) k) ∧ Below w.heap.size w wr ∧ w.heap.size + 1 ≤ wr.heap.size) (fun i _ => xs.length - (intOf i).toNat)
  case atStart => exact ⟨0, Nat.zero_le _, rfl, HNEW.out.congr fun i _ => by unfold gUp; rw [if_neg (by omega)], HB1.out, by simp⟩
  case round =>
    obtain ⟨k, hk, rfl, hR, hB, hz⟩ := hrel
    have HR := Lib.hid hR
    clear hR
    by_cases hlt : k < xs.length
    · obtain ⟨ad, vs, hA, hab, hV, hAg⟩ := (HX.out.below hB (Nat.le_refl _)).at_ hlt
      obtain ⟨x, hx⟩ : ∃ x, x = xs[k] := ⟨_, rfl⟩
      rw [← hx] at hV
      have hgx := HG.out x (by rw [hx]; exact List.getElem_mem _)
      have hrow : (xs.map (Dev.needs))[k]? = some (Dev.needs x) := by rw [List.getElem?_map, List.getElem?_eq_getElem hlt, ← hx]; rfl
      have HROW := Lib.hid hrow
      clear hrow hx
      have hV2 := hV
      obtain ⟨Af, cf, Ag, cg, rfl, hcf, hcg, hIf, hIg⟩ := hV
      have h0 := hAg.zero
      have h1 := hAg.at_ 0 rfl
      have h2 := hAg.at_ 1 rfl
      have h3 := hAg.at_ 2 rfl
      have h4 := hAg.at_ 3 rfl
      have h5 := hAg.at_ 4 rfl
      have hbx := (Below.refl _ wr).alloc (Nat.le_refl _) (.cells #[.int .i64 x.clock, .int .i64 x.domain, .int .i64 x.rst, .int .u32 x.clamp, .slice Af x.regs.length cf, .slice Ag x.needs.length cg] 86)
      have HVX := Lib.hid ((Steady.below hV2 (hbx.mono (by omega : w.heap.size ≤ wr.heap.size)) (Nat.le_refl _) |> fun h => Steady.more (V := DevV) (C := wr.heap.size + 1) h (by omega)))
      have HBX := Lib.hid hbx
      clear hAg hV2 hbx
      subst hA
      go_wp2_with fail
      refine (on_dev x _ _ (by simpa using HVX.out)).mono ?_
      rintro e w2 ⟨A2, c2, rfl, hc2, hI2, hb2⟩
      have HI2 := Lib.hid hI2
      clear hI2
      have hz2 := hb2.size
      simp at hz2
      go_wp2_with fail
      refine (cloneInts_any A2 c2 (Dev.needs x) w2 hgx HI2.out).mono ?_
      rintro e w3 ⟨v3, rfl, hown3, hb3⟩
      obtain ⟨A3, c3, rfl⟩ := own_shape' hown3
      have HOWN3 := Lib.hid hown3
      clear hown3
      have hz3 := hb3.size
      have hb13 : Below wr.heap.size wr w3 := HBX.out.trans ((hb2.mono (by simp)).trans (hb3.mono (by omega)))
      have hR3 := HR.out.below hb13 (by omega)
      obtain ⟨hfr, Ai, ci, hck, _⟩ := hR3 k hlt
      have HR3 := Lib.hid hR3
      have HB13 := Lib.hid hb13
      clear hR3 hb13
      go_wp2
      have hst := HR3.out.store hlt (own_cap HOWN3.out) (IntsAt.of_own HOWN3.out) (fun ad he => by
        subst he
        have := (HOWN3.out.lt ad.block rfl).1
        omega)
      go_roundw
      case measure => simp [intOf]; omega
      case rel => exact ⟨k + 1, by omega, by go_num, hst.congr fun i _ => gUp_step HROW.out i, (hB.trans (HB13.out.mono (by omega))).setCell (by simp) _, by rw [size_setCell]; omega⟩
    · obtain rfl : k = xs.length := by omega
      go_wp2
      go_ret
      refine ⟨_, _, by rw [List.length_map]; rfl, ?_, hB⟩
      rw [List.length_map]
      refine (HR.out.congr (G' := gOf (xs.map (Dev.needs))) fun i hi => ?_).rows (by omega)
      unfold gUp
      rw [if_pos hi]

theorem graph_dev (s : Chip) (vs : List Value) (w : World) (hok : ChipOk s) (h : ChipV w w.heap.size s vs) :
    Calls Try.prog 44 #[.agg vs.toArray] w (RowsNew (devsG s) w) := by
  obtain ⟨A1, c1, A2, c2, A3, c3, A4, c4, rfl, l1, l2, l3, l4, h1, h2, h3, h4⟩ := h
  have HOK := Lib.hid hok
  have HX := Lib.hid h4
  clear hok h1 h2 h3 h4
  go_enter Try.func44, Try.ntmps44
  go_wp2_with fail
  refine (hangs_dev A4 c4 _ _ (by have := HOK.out.n4; omega) (fun x hx => Nat.le_trans (HOK.out.devs x hx).2.1 (by decide)) ((HX.out.below ((Below.refl _ w).alloc (Nat.le_refl _) _) (Nat.le_refl _)).more (by simp))).mono ?_
  rintro e w' ⟨A', c', rfl, hR, hb⟩
  have HR := Lib.hid hR
  clear hR
  go_wp2
  go_ret
  refine ⟨A', c', ?_, HR.out, ((Below.refl _ w).alloc (Nat.le_refl _) _).trans (hb.mono (by simp))⟩
  show _ = Ending.returned (.slice _ (List.length (List.map _ _)) _)
  rw [List.length_map]
  rfl

end Go.Proofs.Ytnfbhhgdibkbdaa
