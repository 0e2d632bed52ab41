/- How the lines stand in a statement's loop; acts that came in as an argument. -/
import Derived.Test.YtpieihjipdgplaaR8
import Derived.Test.YtpieihjipdgplaaF1
namespace Go.Proofs.Ytpieihjipdgplaa
set_option linter.unusedSimpArgs false
set_option linter.unusedVariables false
open Go.ChangeShapes Go.WideShapes Go.ChangeAt Go.RowKit Go.Deep Go.Joins Go.Maps

/-- what is least of the lines of a chip of raw numbers -/
def lsL (l : List Int) : List Int := (l.take (min l.length 6)).map fun x => pickP x 21
theorem lsL_ok (l : List Int) : ∀ x, x ∈ lsL l → 0 ≤ x ∧ x ≤ 20 := fun x hx => by
  unfold lsL at hx
  obtain ⟨y, _, rfl⟩ := List.mem_map.1 hx
  exact pick21 y
theorem lsL_len (l : List Int) : (lsL l).length ≤ 6 := by unfold lsL; simp; omega
theorem rsts_ls (l : List Int) : (chipL l).rsts = (lsL l).map Rst.mk := by
  show rstsL l (min l.length 6) = _
  unfold rstsL lsL
  rw [List.map_map]
  rfl
def startL (L : List Int) : List Ln := L.map fun x => newL ⟨x⟩
theorem rLs_ls (l : List Int) : rLs (chipL l).rsts = startL (lsL l) := by
  rw [rsts_ls]
  unfold rLs startL
  rw [List.map_map]
  rfl

/-- the lines in a statement: all that was ahead of them is as it was -/
structure Lw (w3 wr : World) (b bl bh : Nat) (L : List Int) (xs : List Ln) : Prop where
  lines : LinesIs wr b bl bh xs
  inv : LInv L xs
  len : L.length ≤ 6
  bel : Below w3.heap.size w3 wr
  lo : w3.heap.size ≤ b ∧ w3.heap.size ≤ bl ∧ w3.heap.size ≤ bh
namespace Lw
variable {w3 wr w' : World} {b bl bh : Nat} {L : List Int} {xs xs' : List Ln}
theorem xlen (h : Lw w3 wr b bl bh L xs) : xs.length = L.length := h.inv.len
theorem small (h : Lw w3 wr b bl bh L xs) : xs.length ≤ 1000 := by have := h.inv.len; have := h.len; omega
theorem size (h : Lw w3 wr b bl bh L xs) : w3.heap.size ≤ wr.heap.size := h.bel.size
theorem next (h : Lw w3 wr b bl bh L xs) (hl : LinesIs w' b bl bh xs') (hi : LInv L xs') (hm : Moved [bh] wr w') : Lw w3 w' b bl bh L xs' := ⟨hl, hi, h.len, h.bel.trans (hm.below (by simp; exact h.lo.2.2) h.bel.size), h.lo⟩
theorem calm (h : Lw w3 wr b bl bh L xs) (hm : Moved [] wr w') : Lw w3 w' b bl bh L xs := ⟨h.lines.move hm, h.inv, h.len, h.bel.trans (hm.below (by simp) h.bel.size), h.lo⟩
theorem calm' {H : List Nat} (h : Lw w3 wr b bl bh L xs) (hm : Moved H wr w') (h1 : b ∉ H) (h2 : bl ∉ H) (h3 : bh ∉ H) (h4 : ∀ q, q ∈ H → w3.heap.size ≤ q) : Lw w3 w' b bl bh L xs := ⟨h.lines.far hm h1 h2 h3, h.inv, h.len, h.bel.trans (hm.below h4 h.bel.size), h.lo⟩
theorem drewN (h : Lw w3 wr b bl bh L xs) (n : Nat) : Lw w3 (wr.drewN n) b bl bh L xs := h.calm ⟨rfl, rfl, rfl, Nat.le_refl _, fun _ _ _ => rfl⟩
theorem box (h : Lw w3 wr b bl bh L xs) {g : Nat} {v : Value} {vs : List Value} (hB : BoxAt w3 g (v :: vs)) : BoxAt wr g (v :: vs) := hB.move (Moved.of_below (hot := []) h.bel) (by simp)
theorem rst (h : Lw w3 wr b bl bh L xs) {A : Option Addr} {k : Nat} {x : Int} (hR : StrsAt RstV 1 w3 w3.heap.size A (L.map Rst.mk)) (hx : L[k]? = some x) : ∃ ad, A = some ad ∧ wr.cell? (ad.add k) = some (.int .i64 x) := by
  have hk := get_lt hx
  obtain ⟨ad, us, hA, hab, hV, hAg⟩ := (hR.below h.bel (Nat.le_refl _)).at_ (k := k) (by simpa using hk)
  have e : (L.map Rst.mk)[k]'(by simpa using hk) = ⟨x⟩ := by
    have := List.getElem?_eq_getElem hk
    rw [hx] at this
    have := Option.some.inj this
    simp [this]
  rw [e] at hV
  have hus : us = [.int .i64 x] := hV
  subst hus
  rw [Nat.mul_one] at hAg
  exact ⟨ad, hA, hAg.zero⟩
theorem assert (h : Lw w3 wr b bl bh L xs) {i : Int} (hi : wfI i) : Calls Try.prog 14 #[.pointer (some ⟨b, 0, none⟩), .int .i64 i] wr fun e w' => e = .returned (.int .i64 (assertE xs i)) ∧ Lw w3 w' b bl bh L (assertT xs i) ∧ Moved [bh] wr w' :=
  (assert_any b bl bh xs i wr hi h.small h.lines).mono fun e w' ⟨he, hl, hm⟩ => ⟨he, h.next hl (h.inv.assertI i) hm, hm⟩
theorem release (h : Lw w3 wr b bl bh L xs) {i : Int} (hi : wfI i) : Calls Try.prog 16 #[.pointer (some ⟨b, 0, none⟩), .int .i64 i] wr fun e w' => e = .returned (.int .i64 (releaseE xs i)) ∧ Lw w3 w' b bl bh L (releaseT xs i) ∧ Moved [bh] wr w' :=
  (release_any b bl bh xs i wr hi h.small h.inv.idle h.lines).mono fun e w' ⟨he, hl, hm⟩ => ⟨he, h.next hl (h.inv.releaseI i) hm, hm⟩
theorem tick (h : Lw w3 wr b bl bh L xs) : Calls Try.prog 19 #[.pointer (some ⟨b, 0, none⟩)] wr fun e w' => ∃ A c, e = .returned (.slice A (tickE xs).length c) ∧ OwnI w' wr.heap.size (.slice A (tickE xs).length c) (tickE xs) ∧ Lw w3 w' b bl bh L (tickT xs) ∧ Moved [bh] wr w' :=
  (tick_any b bl bh xs wr h.small h.inv.idle h.inv.left h.lines).mono fun e w' ⟨v, he, ho, hl, hm⟩ => by
    obtain ⟨A, c, rfl⟩ := own_shape' ho
    exact ⟨A, c, he, ho, h.next hl h.inv.tickI hm, hm⟩
theorem held (h : Lw w3 wr b bl bh L xs) {i : Int} (hi : wfI i) : Calls Try.prog 21 #[.pointer (some ⟨b, 0, none⟩), .int .i64 i] wr fun e w' => e = .returned (.bool (heldP xs i)) ∧ Lw w3 w' b bl bh L xs ∧ Below wr.heap.size wr w' :=
  (held_any b bl bh xs i wr hi h.inv.idle h.lines).mono fun e w' ⟨he, hb⟩ => ⟨he, h.calm (Moved.of_below hb), hb⟩
theorem left (h : Lw w3 wr b bl bh L xs) {i : Int} (hi : wfI i) : Calls Try.prog 23 #[.pointer (some ⟨b, 0, none⟩), .int .i64 i] wr fun e w' => e = .returned (.int .i64 (leftP xs i)) ∧ wr = w' :=
  left_any b bl bh xs i wr hi h.inv.idle h.lines
end Lw
theorem Lw.start {w3 w4 : World} {b bl bh : Nat} {l : List Int} (hl : LinesIs w4 b bl bh (startL (lsL l))) (h1 : w3.heap.size ≤ b) (h2 : w3.heap.size ≤ bl) (h3 : w3.heap.size ≤ bh) (hb : Below w3.heap.size w3 w4) : Lw w3 w4 b bl bh (lsL l) (startL (lsL l)) :=
  ⟨hl, LInv.start (lsL_ok l), lsL_len l, hb, h1, h2, h3⟩
theorem pickQ (c n : Int) (w : World) (m : Nat) (hc : wfI c) (h0 : 0 < n) (h1 : n ≤ 1000000) {q : Int} (hq : pickP c n = q) : Calls Try.prog 13 #[.int .i64 c, .int .i64 n] (w.drewN m) fun e w'' => e = .returned (.int .i64 q) ∧ ∃ m, w'' = w.drewN m :=
  (pick_any c n _ hc h0 h1).mono fun e w' ⟨he, hw⟩ => ⟨by rw [he, hq], m, hw.symm⟩

theorem chip_parts {w2 : World} {l : List Int} {v1 v2 v3 v4 : Value} (h : ChipV w2 w2.heap.size (chipL l) [v1, v2, v3, v4]) :
    ∃ A1 c1 A2 c2 A3 c3 A4 c4, v1 = .slice A1 0 c1 ∧ v2 = .slice A2 0 c2 ∧ v3 = .slice A3 (lsL l).length c3 ∧ v4 = .slice A4 0 c4 ∧ StrsAt RstV 1 w2 w2.heap.size A3 ((lsL l).map Rst.mk) := by
  obtain ⟨A1, c1, A2, c2, A3, c3, A4, c4, e, -, -, -, -, -, -, h3, -⟩ := h
  rw [rsts_ls] at h3 e
  injection e with e1 e
  injection e with e2 e
  injection e with e3 e
  injection e with e4 e
  exact ⟨A1, c1, A2, c2, A3, c3, A4, c4, e1, e2, by rw [e3]; simp, e4, h3⟩
theorem Lw.drew {w3 wr : World} {b bl bh : Nat} {L : List Int} {xs : List Ln} (h : Lw w3 wr b bl bh L xs) : Lw w3 wr.drew b bl bh L xs := h.calm ⟨rfl, rfl, rfl, Nat.le_refl _, fun _ _ _ => rfl⟩

structure Acts where
  op : Int
  i : Int
instance : Inhabited Acts := ⟨⟨0, 0⟩⟩
def ActV : Reads Acts := fun _ _ x vs => vs = [.int .i64 x.op, .int .i64 x.i]
instance : Steady ActV := ⟨fun h _ => h, fun h _ => h⟩
structure ActW (x : Acts) : Prop where
  op : wfI x.op
  i : wfI x.i
theorem Try.cells41 : Try.prog.cellsOf 41 = 2 := by kernel_rfl
section
variable {H : Type} {enc : TypeId × Value → H} {W : World}
set_option maxRecDepth 100000 in
theorem act_read (m : Nat) (cs : List Value) (z : DataW H × List MemPlace) (hl : cs.length = 2) (h : DataW.trod enc Try.prog W 0 (fun _ => true) true m 41 cs = some z) : ∃ x : Acts, ActW x ∧ ActV W W.heap.size x cs := by
  obtain ⟨ys, n, -, -, -, hyl, hf⟩ := DataW.trod_struct Try.underlying41 h
  match cs, hl with
  | [c0, c1], _ =>
    obtain ⟨y0, g0⟩ := fld_read (hf 0 _ rfl) Try.cellsN3 rfl (by rw [hyl]; decide)
    obtain ⟨y1, g1⟩ := fld_read (hf 1 _ rfl) Try.cellsN3 rfl (by rw [hyl]; decide)
    obtain ⟨a, rfl, w0⟩ := int_read Try.underlying3 g0
    obtain ⟨b, rfl, w1⟩ := int_read Try.underlying3 g1
    exact ⟨⟨a, b⟩, ⟨wf_bounds w0, wf_bounds w1⟩, rfl⟩
theorem acts_arg {a0 : Option Addr} {len cap : Nat} {d : DataW H} {p : List MemPlace} (h : DataW.Trod enc Try.prog W 0 (fun _ => true) true 23 (.slice a0 len cap) d p) :
    ∃ xs : List Acts, xs.length = len ∧ len ≤ maxLen ∧ StrsAt ActV 2 W W.heap.size a0 xs ∧ ∀ x, x ∈ xs → ActW x := by
  obtain ⟨n, hn⟩ := h
  have hn' : DataW.trod enc Try.prog W 0 (fun _ => true) true n 23 [.slice a0 len cap] = some (d, p) := by simpa [Value.cells] using hn
  obtain ⟨A, len', cap', xs, e, hl, hc, hm, hs, hw⟩ := strs_read (V := ActV) (Q := ActW) Try.underlying23 Try.cells41 (by omega) act_read hn'
  injection e with e1 e2 e3
  subst e1 e2 e3
  exact ⟨xs, hl, hm, hs, hw⟩
end

/-! ### the lines of ResetAll -/
theorem startL_at {L : List Int} {k : Nat} {x : Int} (h : L[k]? = some x) : (startL L)[k]? = some (newL ⟨x⟩) := by unfold startL; rw [List.getElem?_map, h]; rfl
/-- behind k ticks -/
def stK (L : List Int) (k : Nat) : List Ln := L.map fun l => if (k : Int) ≤ l then ⟨l, true, l - k, true⟩ else ⟨l, false, 0, false⟩
theorem stK_tick (L : List Int) (k : Nat) : tickT (stK L k) = stK L (k + 1) := by
  unfold tickT stK
  rw [List.map_map]
  refine List.map_congr_left fun l _ => ?_
  show passL (if (k : Int) ≤ l then ⟨l, true, l - k, true⟩ else ⟨l, false, 0, false⟩) = _
  by_cases h : (k : Int) ≤ l
  · rw [if_pos h]
    unfold passL
    by_cases h2 : 0 < l - k
    · rw [if_pos rfl, if_pos h2, if_pos (by omega)]
      congr 1
      push_cast
      omega
    · rw [if_pos rfl, if_neg h2, if_pos rfl, if_neg (by omega)]
  · rw [if_neg h, if_neg (by omega)]
    rfl
theorem stK_at {L : List Int} {k i : Nat} {l : Int} (h : L[i]? = some l) : (stK L k)[i]? = some (if (k : Int) ≤ l then ⟨l, true, l - k, true⟩ else ⟨l, false, 0, false⟩) := by unfold stK; rw [List.getElem?_map, h]; rfl
theorem stK_go {L : List Int} {k i : Nat} {l : Int} (h : L[i]? = some l) : goesP (stK L k) (i + 1) = goesP (stK L k) i ++ if l = (k : Int) then [(i : Int)] else [] := by
  rw [goesP_succ (stK_at h)]
  congr 1
  by_cases h1 : (k : Int) ≤ l
  · rw [if_pos h1]
    by_cases h2 : l = (k : Int)
    · have : goB ⟨l, true, l - k, true⟩ = true := by unfold goB; simp; omega
      rw [this, if_pos rfl, if_pos h2]
    · have : goB ⟨l, true, l - k, true⟩ = false := by unfold goB; simp; omega
      rw [this, if_neg (by simp), if_neg h2]
  · rw [if_neg h1]
    have : goB ⟨l, false, 0, false⟩ = false := rfl
    rw [this, if_neg (by simp), if_neg (by omega)]
/-- the first i are asserted, and wanted -/
def asL (L : List Int) (i : Nat) : List Ln := (L.take i).map (fun l => ⟨l, true, l, true⟩) ++ (L.drop i).map fun l => newL ⟨l⟩
theorem asL_zero (L : List Int) : asL L 0 = startL L := by simp [asL, startL]
theorem asL_all {L : List Int} (h : ∀ x, x ∈ L → 0 ≤ x ∧ x ≤ 20) : asL L L.length = stK L 0 := by
  unfold asL stK
  rw [List.take_length, List.drop_length, List.map_nil, List.append_nil]
  refine List.map_congr_left fun l hl => ?_
  rw [if_pos (by simpa using (h l hl).1)]
  simp
theorem asL_at {L : List Int} {i : Nat} {l : Int} (h : L[i]? = some l) : (asL L i)[i]? = some (newL ⟨l⟩) := by
  have hk := get_lt h
  unfold asL
  rw [List.getElem?_append_right (by simp; omega)]
  simp
  rw [show i + (i - min i L.length) = i by omega, h]
  exact ⟨l, rfl, rfl⟩
theorem asL_succ {L : List Int} {i : Nat} {l : Int} (h : L[i]? = some l) : asL L (i + 1) = (asL L i).set i ⟨l, true, l, true⟩ := by
  have hk := get_lt h
  refine List.ext_getElem? fun m => ?_
  unfold asL
  rw [List.getElem?_set]
  by_cases e : i = m
  · subst e
    rw [if_pos rfl, if_pos (by simp; omega), List.getElem?_append_left (by simp; omega)]
    simp [List.getElem?_take, h]
  · rw [if_neg e]
    by_cases hl : m < i
    · rw [List.getElem?_append_left (by simp; omega), List.getElem?_append_left (by simp; omega)]
      simp [List.getElem?_take, hl, show m < i + 1 by omega]
    · rw [List.getElem?_append_right (by simp; omega), List.getElem?_append_right (by simp; omega)]
      simp only [List.getElem?_map, List.getElem?_drop, List.length_map, List.length_take]
      rw [show i + 1 + (m - min (i + 1) L.length) = i + (m - min i L.length) by omega]
theorem asL_step {L : List Int} {i : Nat} {l : Int} (h : L[i]? = some l) : assertE (asL L i) (i : Int) = 0 ∧ releaseE (assertT (asL L i) (i : Int)) (i : Int) = 0 ∧ releaseT (assertT (asL L i) (i : Int)) (i : Int) = asL L (i + 1) ∧ leftP (asL L (i + 1)) (i : Int) = l := by
  have h0 := asL_at h
  have hb := hasB_at h0
  have hA : assertT (asL L i) (i : Int) = (asL L i).set i ⟨l, true, l, false⟩ := setT_at _ h0
  have h1 : (assertT (asL L i) (i : Int))[i]? = some ⟨l, true, l, false⟩ := by rw [hA, List.getElem?_set_self (get_lt h0)]
  have hR : releaseT (assertT (asL L i) (i : Int)) (i : Int) = asL L (i + 1) := by
    have e : releaseT (assertT (asL L i) (i : Int)) (i : Int) = (assertT (asL L i) (i : Int)).set i ⟨l, true, l, true⟩ := setT_at _ h1
    rw [e, hA, List.set_set, asL_succ h]
  refine ⟨by unfold assertE; rw [hb]; rfl, atP_at h1 _ _, hR, ?_⟩
  have h2 : (asL L (i + 1))[i]? = some ⟨l, true, l, true⟩ := by rw [asL_succ h, List.getElem?_set_self (get_lt h0)]
  exact atP_at h2 _ _
theorem stK_end {L : List Int} {i : Nat} {l : Int} (h : L[i]? = some l) (hl : l ≤ 20) : heldP (stK L 22) (i : Int) = false ∧ releaseE (stK L 22) (i : Int) = 6 ∧ releaseT (stK L 22) (i : Int) = stK L 22 := by
  have h0 := stK_at (k := 22) h
  rw [if_neg (by push_cast; omega)] at h0
  refine ⟨atP_at h0 _ _, atP_at h0 _ _, ?_⟩
  have e : releaseT (stK L 22) (i : Int) = (stK L 22).set i (wantL ⟨l, false, 0, false⟩) := setT_at _ h0
  rw [e]
  exact set_self h0

end Go.Proofs.Ytpieihjipdgplaa
