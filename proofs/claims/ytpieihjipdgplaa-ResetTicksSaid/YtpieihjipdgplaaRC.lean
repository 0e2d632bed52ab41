/- Rows of values that the call made and fills; what ResetTicks keeps of the lines. -/
import Derived.Test.YtpieihjipdgplaaRB
namespace Go.Proofs.Ytpieihjipdgplaa
set_option linter.unusedSimpArgs false
set_option linter.unusedVariables false
open Go.RowKit Go.Maps

theorem Try.info4 : (Try.prog.info? 4).map (fun i => (i.zero, i.size, i.bytes)) = some (some (.bool false), 1, 1) := by kernel_rfl
/-- block g holds these n values, and may be written -/
def FillAt (w : World) (g n : Nat) (f : Nat → Value) : Prop := ∀ i, i < n → w.cell? ⟨g, i, none⟩ = some (f i) ∧ w.frozen? ⟨g, i, none⟩ = false
theorem FillAt.new (W : World) (n : Nat) (z : Value) (t : TypeId) : FillAt (W.alloc (.cells (madeCells #[z] n) t)) W.heap.size n (fun _ => z) := by
  intro i hi
  have hh : (W.alloc (.cells (madeCells #[z] n) t)).heap[W.heap.size]? = some (.cells (madeCells #[z] n) t (0, 0)) := heap_alloc_new W _
  refine ⟨?_, frozen_of_row _ _ _ _ _ hh⟩
  rw [cell_of_row _ _ i _ _ _ hh]
  simp [madeCells, hi, Nat.mod_one]
theorem FillAt.move {w w' : World} {g n : Nat} {f : Nat → Value} {hot : List Nat} (h : FillAt w g n f) (hm : Moved hot w w') (hg : g ∉ hot) : FillAt w' g n f := fun i hi => by
  obtain ⟨h1, h2⟩ := h i hi
  exact ⟨hm.cell h1 hg, (hm.frozen (p := ⟨g, i, none⟩) (World.block_lt_of_cell? w _ h1) hg).trans h2⟩
theorem FillAt.congr {w : World} {g n : Nat} {f f' : Nat → Value} (h : FillAt w g n f) (he : ∀ i, i < n → f i = f' i) : FillAt w g n f' := fun i hi => ⟨by rw [(h i hi).1, he i hi], (h i hi).2⟩
theorem FillAt.store {w : World} {g n k : Nat} {f f' : Nat → Value} (h : FillAt w g n f) (hk : k < n) (v : Value) (h1 : f' k = v) (h2 : ∀ i, i < n → i ≠ k → f' i = f i) : FillAt (w.setCell ⟨g, k, none⟩ v) g n f' := by
  intro i hi
  refine ⟨?_, by rw [World.frozen?_setCell]; exact (h i hi).2⟩
  by_cases e : i = k
  · subst e
    rw [h1]
    exact World.cell?_setCell_same' _ _ _ (by rw [(h i hi).1]; rfl)
  · rw [h2 i hi e]
    exact (World.cell?_setCell_other w _ _ _ (fun h => e (by cases h; rfl))).trans (h i hi).1
theorem make_bools (n : Nat) (hn : n ≤ 1000000) (W : World) :
    (Instr.makeSlice 51 (.int .i64 (n : Int)) (.int .i64 (n : Int))).run Try.prog W = .ok (.slice (some ⟨W.heap.size, 0, none⟩) n n) (W.alloc (.cells (madeCells #[.bool false] n) 4)) := by
  obtain ⟨i0, hi, hz0, hz1, hz2⟩ := info_parts Try.info4
  have h := run_make (P := Try.prog) (w := W) 51 4 i0 (.bool false) Try.underlying51 hi hz0 .i64 .i64 (n : Int) (n : Int) (by omega) (by omega) (by rw [hz2]; omega) (by omega)
  simp only [Int.toNat_natCast, hz1, Nat.mul_one] at h
  exact h
theorem make_ints (n : Nat) (hn : n ≤ 1000000) (W : World) :
    (Instr.makeSlice 22 (.int .i64 (n : Int)) (.int .i64 (n : Int))).run Try.prog W = .ok (.slice (some ⟨W.heap.size, 0, none⟩) n n) (W.alloc (.cells (madeCells #[.int .i64 0] n) 3)) := by
  obtain ⟨i0, hi, hz0, hz1, hz2⟩ := info_parts Try.info3
  have h := run_make (P := Try.prog) (w := W) 22 3 i0 (.int .i64 0) Try.underlying22 hi hz0 .i64 .i64 (n : Int) (n : Int) (by omega) (by omega) (by rw [hz2]; omega) (by omega)
  simp only [Int.toNat_natCast, hz1, Nat.mul_one] at h
  exact h

theorem acts_at {w w3 wr : World} {A : Option Addr} {xs : List Acts} (h : StrsAt ActV 2 w w.heap.size A xs) (h3 : Below w.heap.size w w3) (hb : Below w3.heap.size w3 wr) {k : Nat} (hk : k < xs.length) :
    ∃ ad, A = some ad ∧ wr.cell? (ad.add (k * 2)) = some (.int .i64 xs[k].op) ∧ wr.cell? ⟨(ad.add (k * 2)).block, (ad.add (k * 2)).off + (0 + 1), none⟩ = some (.int .i64 xs[k].i) := by
  obtain ⟨ad, us, hA, hab, hV, hAg⟩ := (h.below (h3.trans (hb.mono h3.size)) (Nat.le_refl _)).at_ hk
  have e : us = [.int .i64 xs[k].op, .int .i64 xs[k].i] := hV
  subst e
  exact ⟨ad, hA, hAg.zero, hAg.at_ 0 rfl⟩

/-- the first k values are those of f, the others nought -/
def upto (f : Nat → Value) (z : Value) (k : Nat) : Nat → Value := fun i => if i < k then f i else z
theorem upto_zero (f : Nat → Value) (z : Value) : upto f z 0 = fun _ => z := by funext i; unfold upto; rw [if_neg (by omega)]
theorem upto_same (f : Nat → Value) (z : Value) (k : Nat) : upto f z (k + 1) k = f k := if_pos (Nat.lt_succ_self k)
theorem upto_other (f : Nat → Value) (z : Value) {k i : Nat} (h : i ≠ k) : upto f z (k + 1) i = upto f z k i := by
  unfold upto
  by_cases h1 : i < k
  · rw [if_pos h1, if_pos (by omega)]
  · rw [if_neg h1, if_neg (by omega)]
theorem upto_all (f : Nat → Value) (z : Value) {n i : Nat} (h : i < n) : upto f z n i = f i := if_pos h

/-- wanted, behind q of those that were let go -/
def wqB (xs : List Ln) (T : List Int) (q : Nat) (k : Nat) : Bool := wantP xs (k : Int) && !decide ((k : Int) ∈ T.take q)
theorem wqB_zero (xs : List Ln) (T : List Int) (k : Nat) : wqB xs T 0 k = wantP xs (k : Int) := by unfold wqB; simp
theorem wqB_same {xs : List Ln} {T : List Int} {q m : Nat} (h : T[q]? = some (m : Int)) : wqB xs T (q + 1) m = false := by
  unfold wqB
  rw [List.take_add_one, h]
  simp
theorem wqB_other {xs : List Ln} {T : List Int} {q m i : Nat} (h : T[q]? = some (m : Int)) (hi : i ≠ m) : wqB xs T (q + 1) i = wqB xs T q i := by
  unfold wqB
  rw [List.take_add_one, h]
  have hne : ¬ ((i : Int) = (m : Int)) := by omega
  simp [hne]
theorem told_mem {xs : List Ln} {k : Nat} {x : Ln} (hx : xs[k]? = some x) : (k : Int) ∈ tickE xs ↔ goB x = true := by
  constructor
  · intro h
    obtain ⟨m, y, e, _, hy, hg⟩ := goesP_mem h
    have : k = m := by omega
    subst this
    rw [hx] at hy
    rw [Option.some.inj hy]
    exact hg
  · intro h
    unfold tickE goesP
    rw [List.mem_filterMap]
    refine ⟨k, List.mem_range.2 (get_lt hx), ?_⟩
    unfold goAt
    rw [hx]
    simp only
    rw [if_pos h]
theorem wqB_end {xs : List Ln} (hid : Idle xs) {k : Nat} {x : Ln} (hx : xs[k]? = some x) : wqB xs (tickE xs) (tickE xs).length k = wantP (tickT xs) (k : Int) := by
  unfold wqB
  rw [List.take_length, wantP_at hx, wantP_at (tick_get hx)]
  have hm := told_mem hx
  obtain ⟨ls, hd, lf, wt⟩ := x
  have hi := hid k _ hx
  unfold passL
  unfold goB at hm
  cases hd <;> cases wt <;> simp at hm hi ⊢
  · split <;> rfl
  · by_cases h : 0 < lf
    · rw [if_pos h]
      have : ¬ lf ≤ 0 := by omega
      simp [hm, this]
    · rw [if_neg h]
      simp [hm]
      omega

/-- one that is let go -/
theorem told_at {xs : List Ln} {q : Nat} {t : Int} (h : (tickE xs)[q]? = some t) : ∃ (m : Nat) (x : Ln), t = (m : Int) ∧ xs[m]? = some x ∧ goB x = true := by
  obtain ⟨m, x, e, _, hx, hg⟩ := goesP_mem (List.mem_of_getElem? h)
  exact ⟨m, x, e, hx, hg⟩
theorem told_lt {xs : List Ln} {p q : Nat} {s t : Int} (hpq : p < q) (hp : (tickE xs)[p]? = some s) (hq : (tickE xs)[q]? = some t) : s < t := by
  obtain ⟨h1, e1⟩ := List.getElem?_eq_some_iff.1 hp
  obtain ⟨h2, e2⟩ := List.getElem?_eq_some_iff.1 hq
  have hpw : (tickE xs).Pairwise (fun a b => a < b) := goesP_pair xs xs.length
  have := List.pairwise_iff_getElem.1 hpw p q h1 h2 hpq
  rwa [e1, e2] at this
theorem told_new {xs : List Ln} {q : Nat} {t : Int} (h : (tickE xs)[q]? = some t) : t ∉ (tickE xs).take q := by
  intro hm
  obtain ⟨p, hp, e⟩ := List.mem_take_iff_getElem.1 hm
  have hp' : (tickE xs)[p]? = some t := by rw [List.getElem?_eq_getElem (by omega), e]
  have := told_lt (by omega) hp' h
  omega
theorem go_parts {x : Ln} (h : goB x = true) (hl : 0 ≤ x.left) : x.held = true ∧ x.want = true ∧ x.left = 0 ∧ (passL x).held = false := by
  unfold goB at h
  simp at h
  obtain ⟨⟨h1, h2⟩, h3⟩ := h
  refine ⟨h1, h3, by omega, ?_⟩
  unfold passL
  rw [if_pos h1, if_neg (by omega), if_pos h3]
theorem pass_left {x : Ln} (hl : 0 ≤ x.left) (hi : x.held = false → x.left = 0 ∧ x.want = false) : (passL x).left = if x.left - 1 < 0 then 0 else x.left - 1 := by
  unfold passL
  cases hh : x.held with
  | false => rw [if_neg (by simp), (hi hh).1]; rfl
  | true =>
    rw [if_pos rfl]
    by_cases h : 0 < x.left
    · rw [if_pos h, if_neg (show ¬ x.left - 1 < 0 by omega)]
    · rw [if_neg h, if_pos (show x.left - 1 < 0 by omega)]
      split
      · rfl
      · omega
theorem pass_held {x : Ln} (h : x.held = false) : (passL x).held = false := by unfold passL; rw [if_neg (by simp [h])]; exact h

theorem assert_want (xs : List Ln) {i k : Nat} {x : Ln} (hx : xs[i]? = some x) : wantP (assertT xs (i : Int)) (k : Int) = if k = i then false else wantP xs (k : Int) := by
  have e : assertT xs (i : Int) = xs.set i (assertL x) := setT_at _ hx
  rw [e]
  by_cases h : k = i
  · subst h
    rw [if_pos rfl, wantP_at (List.getElem?_set_self (get_lt hx))]
    rfl
  · rw [if_neg h]
    cases hb : hasB xs.length (k : Int) with
    | false => rw [show wantP xs (k : Int) = false from atP_no hb _ _]; exact atP_no (by simpa using hb) _ _
    | true =>
      obtain ⟨m, y, e, hy⟩ := hasB_ex hb
      have : k = m := by omega
      subst this
      rw [wantP_at hy, wantP_at (by rw [List.getElem?_set_ne (Ne.symm h)]; exact hy)]
theorem release_want (xs : List Ln) {i k : Nat} {x : Ln} (hx : xs[i]? = some x) : wantP (releaseT xs (i : Int)) (k : Int) = if k = i then (x.want || x.held) else wantP xs (k : Int) := by
  have e : releaseT xs (i : Int) = xs.set i (wantL x) := setT_at _ hx
  rw [e]
  by_cases h : k = i
  · subst h
    rw [if_pos rfl, wantP_at (List.getElem?_set_self (get_lt hx))]
    unfold wantL
    cases hh : x.held <;> simp
  · rw [if_neg h]
    cases hb : hasB xs.length (k : Int) with
    | false => rw [show wantP xs (k : Int) = false from atP_no hb _ _]; exact atP_no (by simpa using hb) _ _
    | true =>
      obtain ⟨m, y, e, hy⟩ := hasB_ex hb
      have : k = m := by omega
      subst this
      rw [wantP_at hy, wantP_at (by rw [List.getElem?_set_ne (Ne.symm h)]; exact hy)]

/-- the lines, and the row of those that are wanted -/
structure Tl (w3 wr : World) (b bl bh : Nat) (L : List Int) (xs : List Ln) (gw n : Nat) : Prop where
  lw : Lw w3 wr b bl bh L xs
  wt : FillAt wr gw n (fun k => .bool (wantP xs (k : Int)))
  n1 : gw ≠ b
  n2 : gw ≠ bl
  n3 : gw ≠ bh
  lo : w3.heap.size ≤ gw
  hi : gw < wr.heap.size
section
variable {w3 wr w' : World} {b bl bh : Nat} {L : List Int} {xs xs' : List Ln} {gw n : Nat}
theorem Tl.calm (h : Tl w3 wr b bl bh L xs gw n) (hm : Moved [] wr w') : Tl w3 w' b bl bh L xs gw n := ⟨h.lw.calm hm, h.wt.move hm (by simp), h.n1, h.n2, h.n3, h.lo, Nat.lt_of_lt_of_le h.hi hm.size⟩
theorem Tl.drewN (h : Tl w3 wr b bl bh L xs gw n) (m : Nat) : Tl w3 (wr.drewN m) b bl bh L xs gw n := h.calm ⟨rfl, rfl, rfl, Nat.le_refl _, fun _ _ _ => rfl⟩
end
theorem Tl.assertS {w3 wr w5 : World} {b bl bh : Nat} {L : List Int} {xs : List Ln} {gw n i : Nat} {x : Ln} (h : Tl w3 wr b bl bh L xs gw n) (hx : xs[i]? = some x) (hi : i < n) (hl : Lw w3 w5 b bl bh L (assertT xs (i : Int))) (hm : Moved [bh] wr w5) :
    Tl w3 (w5.setCell ⟨gw, i, none⟩ (.bool false)) b bl bh L (assertT xs (i : Int)) gw n := by
  have hmv : Moved [gw] w5 (w5.setCell ⟨gw, i, none⟩ (.bool false)) := Moved.setCell _ (by simp) _
  refine ⟨hl.calm' hmv (by simpa using Ne.symm h.n1) (by simpa using Ne.symm h.n2) (by simpa using Ne.symm h.n3) (by simp; exact h.lo), ?_, h.n1, h.n2, h.n3, h.lo, Nat.lt_of_lt_of_le h.hi (Nat.le_trans hm.size hmv.size)⟩
  refine (h.wt.move hm (by simpa using h.n3)).store hi _ ?_ fun k _ hk => ?_
  · rw [assert_want xs hx, if_pos rfl]
  · rw [assert_want xs hx, if_neg hk]
theorem Tl.releaseS {w3 wr w5 : World} {b bl bh : Nat} {L : List Int} {xs : List Ln} {gw n i : Nat} {x : Ln} {u : Bool} (h : Tl w3 wr b bl bh L xs gw n) (hx : xs[i]? = some x) (hi : i < n) (hu : u = (x.want || x.held)) (hl : Lw w3 w5 b bl bh L (releaseT xs (i : Int))) (hm : Moved [bh] wr w5) :
    Tl w3 (w5.setCell ⟨gw, i, none⟩ (.bool u)) b bl bh L (releaseT xs (i : Int)) gw n := by
  have hmv : Moved [gw] w5 (w5.setCell ⟨gw, i, none⟩ (.bool u)) := Moved.setCell _ (by simp) _
  refine ⟨hl.calm' hmv (by simpa using Ne.symm h.n1) (by simpa using Ne.symm h.n2) (by simpa using Ne.symm h.n3) (by simp; exact h.lo), ?_, h.n1, h.n2, h.n3, h.lo, Nat.lt_of_lt_of_le h.hi (Nat.le_trans hm.size hmv.size)⟩
  refine (h.wt.move hm (by simpa using h.n3)).store hi _ ?_ fun k _ hk => ?_
  · rw [release_want xs hx, if_pos rfl, hu]
  · rw [release_want xs hx, if_neg hk]

/-- .. while it is asked how they stand -/
structure Da (w3 wr : World) (b bl bh : Nat) (L : List Int) (xs : List Ln) (gw gh gl n j : Nat) : Prop where
  tl : Tl w3 wr b bl bh L xs gw n
  hd : FillAt wr gh n (upto (fun k => .bool (heldP xs (k : Int))) (.bool false) j)
  lf : FillAt wr gl n (upto (fun k => .int .i64 (leftP xs (k : Int))) (.int .i64 0) j)
  o1 : b < gh ∧ bl < gh ∧ bh < gh ∧ gw < gh
  o2 : gh < gl
  o3 : gl < wr.heap.size
  o4 : w3.heap.size ≤ gh
section
variable {w3 wr w' : World} {b bl bh : Nat} {L : List Int} {xs : List Ln} {gw gh gl n j : Nat}
theorem Da.calm (h : Da w3 wr b bl bh L xs gw gh gl n j) (hm : Moved [] wr w') : Da w3 w' b bl bh L xs gw gh gl n j := ⟨h.tl.calm hm, h.hd.move hm (by simp), h.lf.move hm (by simp), h.o1, h.o2, Nat.lt_of_lt_of_le h.o3 hm.size, h.o4⟩
theorem Da.far {q : Nat} (h : Da w3 wr b bl bh L xs gw gh gl n j) (hm : Moved [q] wr w') (hq : q = gh ∨ q = gl) : Tl w3 w' b bl bh L xs gw n := by
  obtain ⟨a1, a2, a3, a4⟩ := h.o1
  have a5 := h.o2
  have a6 := h.o4
  exact ⟨h.tl.lw.calm' hm (by simp; omega) (by simp; omega) (by simp; omega) (by simp; omega), h.tl.wt.move hm (by simp; omega), h.tl.n1, h.tl.n2, h.tl.n3, h.tl.lo, Nat.lt_of_lt_of_le h.tl.hi hm.size⟩
/-- one more was asked of -/
theorem Da.put (h : Da w3 wr b bl bh L xs gw gh gl n j) (hj : j < n) {u : Bool} {v : Int} (hu : heldP xs (j : Int) = u) (hv : leftP xs (j : Int) = v) :
    Da w3 ((wr.setCell ⟨gh, j, none⟩ (.bool u)).setCell ⟨gl, j, none⟩ (.int .i64 v)) b bl bh L xs gw gh gl n (j + 1) := by
  have hm1 : Moved [gh] wr (wr.setCell ⟨gh, j, none⟩ (.bool u)) := Moved.setCell _ (by simp) _
  have hm2 : Moved [gl] (wr.setCell ⟨gh, j, none⟩ (.bool u)) ((wr.setCell ⟨gh, j, none⟩ (.bool u)).setCell ⟨gl, j, none⟩ (.int .i64 v)) := Moved.setCell _ (by simp) _
  have a5 := h.o2
  obtain ⟨a1, a2, a3, a4⟩ := h.o1
  have t1 := h.far hm1 (.inl rfl)
  have h1 : FillAt (wr.setCell ⟨gh, j, none⟩ (.bool u)) gh n (upto (fun k => .bool (heldP xs (k : Int))) (.bool false) (j + 1)) := h.hd.store hj _ (by rw [upto_same, hu]) fun i _ hi => upto_other _ _ hi
  have h2 := h.lf.move hm1 (by simp; omega)
  refine ⟨⟨t1.lw.calm' hm2 (by simp; omega) (by simp; omega) (by simp; omega) (by simp; have := h.o4; omega), t1.wt.move hm2 (by simp; omega), t1.n1, t1.n2, t1.n3, t1.lo, Nat.lt_of_lt_of_le t1.hi hm2.size⟩, h1.move hm2 (by simp; omega), ?_, h.o1, h.o2, Nat.lt_of_lt_of_le h.o3 (Nat.le_trans hm1.size hm2.size), h.o4⟩
  exact h2.store hj _ (by rw [upto_same, hv]) fun i _ hi => upto_other _ _ hi
end
/-- .. in the midst of a tick -/
structure Dd (w3 wr : World) (b bl bh : Nat) (L : List Int) (xs ys : List Ln) (gw gh gl n : Nat) (B : Nat) (v : Value) (T : List Int) (q : Nat) : Prop where
  lw : Lw w3 wr b bl bh L ys
  wt : FillAt wr gw n (fun k => .bool (wqB xs T q k))
  hd : FillAt wr gh n (fun k => .bool (heldP xs (k : Int)))
  lf : FillAt wr gl n (fun k => .int .i64 (leftP xs (k : Int)))
  tt : OwnI wr B v T
  n1 : gw ≠ b ∧ gw ≠ bl ∧ gw ≠ bh ∧ gw ≠ gh ∧ gw ≠ gl
  lo : w3.heap.size ≤ gw ∧ gw < B ∧ B ≤ wr.heap.size
section
variable {w3 wr w' : World} {b bl bh : Nat} {L : List Int} {xs ys : List Ln} {gw gh gl n B q : Nat} {v : Value} {T : List Int}
theorem Dd.calm (h : Dd w3 wr b bl bh L xs ys gw gh gl n B v T q) (hm : Moved [] wr w') : Dd w3 w' b bl bh L xs ys gw gh gl n B v T q :=
  ⟨h.lw.calm hm, h.wt.move hm (by simp), h.hd.move hm (by simp), h.lf.move hm (by simp), h.tt.moved hm (by simp), h.n1, h.lo.1, h.lo.2.1, Nat.le_trans h.lo.2.2 hm.size⟩
theorem Dd.drew (h : Dd w3 wr b bl bh L xs ys gw gh gl n B v T q) : Dd w3 wr.drew b bl bh L xs ys gw gh gl n B v T q := h.calm ⟨rfl, rfl, rfl, Nat.le_refl _, fun _ _ _ => rfl⟩
theorem Dd.held (h : Dd w3 wr b bl bh L xs ys gw gh gl n B v T q) {i : Int} (hi : wfI i) : Calls Try.prog 21 #[.pointer (some ⟨b, 0, none⟩), .int .i64 i] wr fun e w' => e = .returned (.bool (heldP ys i)) ∧ Dd w3 w' b bl bh L xs ys gw gh gl n B v T q :=
  (h.lw.held hi).mono fun e w' ⟨he, _, hb⟩ => ⟨he, h.calm (Moved.of_below hb)⟩
theorem Dd.left (h : Dd w3 wr b bl bh L xs ys gw gh gl n B v T q) {i : Int} (hi : wfI i) : Calls Try.prog 23 #[.pointer (some ⟨b, 0, none⟩), .int .i64 i] wr fun e w' => e = .returned (.int .i64 (leftP ys i)) ∧ wr = w' := h.lw.left hi
theorem Dd.step (h : Dd w3 wr b bl bh L xs ys gw gh gl n B v T q) {m : Nat} (hm : m < n) (ht : T[q]? = some (m : Int)) : Dd w3 (wr.setCell ⟨gw, m, none⟩ (.bool false)) b bl bh L xs ys gw gh gl n B v T (q + 1) := by
  have hmv : Moved [gw] wr (wr.setCell ⟨gw, m, none⟩ (.bool false)) := Moved.setCell _ (by simp) _
  obtain ⟨a1, a2, a3, a4, a5⟩ := h.n1
  refine ⟨h.lw.calm' hmv (by simpa using Ne.symm a1) (by simpa using Ne.symm a2) (by simpa using Ne.symm a3) (by simp; exact h.lo.1), ?_, h.hd.move hmv (by simpa using Ne.symm a4), h.lf.move hmv (by simpa using Ne.symm a5), h.tt.moved hmv (by simp; exact h.lo.2.1), h.n1, h.lo.1, h.lo.2.1, Nat.le_trans h.lo.2.2 hmv.size⟩
  exact h.wt.store hm _ (by rw [wqB_same ht]) fun i _ hi => by rw [wqB_other ht hi]
theorem Dd.tcell {A : Addr} {m' c' : Nat} (h : Dd w3 wr b bl bh L xs ys gw gh gl n B (.slice (some A) m' c') T q) {k : Nat} {t : Int} (ht : T[k]? = some t) : wr.cell? (A.add k) = some (.int .i64 t) := by
  obtain ⟨ad, e, _, hc⟩ := h.tt.ints.2 (by have := get_lt ht; omega)
  injection e with e
  subst e
  exact hc k t ht
end

theorem Da.tick {w3 wr w7 : World} {b bl bh : Nat} {L : List Int} {xs : List Ln} {gw gh gl n : Nat} {v : Value} (h : Da w3 wr b bl bh L xs gw gh gl n n) (hl : Lw w3 w7 b bl bh L (tickT xs)) (ho : OwnI w7 wr.heap.size v (tickE xs)) (hm : Moved [bh] wr w7) :
    Dd w3 w7 b bl bh L xs (tickT xs) gw gh gl n wr.heap.size v (tickE xs) 0 := by
  obtain ⟨a1, a2, a3, a4⟩ := h.o1
  have a5 := h.o2
  have a6 := h.o3
  have m1 := h.tl.wt.move hm (by simpa using h.tl.n3)
  have m2 := h.hd.move hm (by simp; omega)
  have m3 := h.lf.move hm (by simp; omega)
  exact ⟨hl, m1.congr fun i _ => by rw [wqB_zero], m2.congr fun i hi => by rw [upto_all _ _ hi], m3.congr fun i hi => by rw [upto_all _ _ hi], ho, ⟨h.tl.n1, h.tl.n2, h.tl.n3, by omega, by omega⟩, h.tl.lo, h.tl.hi, hm.size⟩
theorem Dd.done {w3 wr : World} {b bl bh : Nat} {L : List Int} {xs : List Ln} {gw gh gl n B : Nat} {v : Value} (h : Dd w3 wr b bl bh L xs (tickT xs) gw gh gl n B v (tickE xs) (tickE xs).length) (hid : Idle xs) (hn : xs.length = n) : Tl w3 wr b bl bh L (tickT xs) gw n :=
  ⟨h.lw, h.wt.congr fun i hi => by rw [wqB_end hid (List.getElem?_eq_getElem (l := xs) (i := i) (by omega))], h.n1.1, h.n1.2.1, h.n1.2.2.1, h.lo.1, Nat.lt_of_lt_of_le h.lo.2.1 h.lo.2.2⟩

end Go.Proofs.Ytpieihjipdgplaa
