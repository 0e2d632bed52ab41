/- Boxes: blocks of known cells that may be written; what an append gives in a drawn region. -/
import Derived.Test.YtnfbhhgdibkbdaaA
namespace Go.Proofs.Ytnfbhhgdibkbdaa
set_option linter.unusedSimpArgs false
set_option linter.unusedVariables false
open Go.RowKit Go.Maps

/-- block g holds these values, and may be written -/
def BoxAt (w : World) (g : Nat) (vs : List Value) : Prop := ∀ j v, vs[j]? = some v → w.cell? ⟨g, j, none⟩ = some v ∧ w.frozen? ⟨g, j, none⟩ = false
theorem BoxAt.of_blk {w : World} {g : Nat} {vs : List Value} {t : TypeId} (h : w.heap[g]? = some (.cells vs.toArray t (0, 0))) : BoxAt w g vs := fun j v hj =>
  ⟨by rw [cell_of_row _ _ j _ _ _ h]; simpa using hj, frozen_of_row _ _ _ _ _ h⟩
theorem BoxAt.new (w : World) (vs : List Value) (t : TypeId) : BoxAt (w.alloc (.cells vs.toArray t)) w.heap.size vs := .of_blk (t := t) (heap_alloc_new w _)
theorem BoxAt.lt {w : World} {g : Nat} {v : Value} {vs : List Value} (h : BoxAt w g (v :: vs)) : g < w.heap.size := World.block_lt_of_cell? w ⟨g, 0, none⟩ (h 0 v rfl).1
theorem BoxAt.move {w w' : World} {g : Nat} {v : Value} {vs : List Value} {hot : List Nat} (h : BoxAt w g (v :: vs)) (hm : Moved hot w w') (hg : g ∉ hot) : BoxAt w' g (v :: vs) := fun j u hj =>
  ⟨hm.cell (h j u hj).1 hg, (hm.frozen (p := ⟨g, j, none⟩) h.lt hg).trans (h j u hj).2⟩
theorem BoxAt.set {w : World} {g j : Nat} {vs : List Value} (h : BoxAt w g vs) (hj : j < vs.length) (u : Value) : BoxAt (w.setCell ⟨g, j, none⟩ u) g (vs.set j u) := by
  intro i v hi
  by_cases e : i = j
  · subst e
    rw [List.getElem?_set_self hj] at hi
    injection hi with hi
    subst hi
    obtain ⟨h1, h2⟩ := h i _ (List.getElem?_eq_getElem hj)
    exact ⟨World.cell?_setCell_same' _ _ _ (by rw [h1]; rfl), by rw [World.frozen?_setCell]; exact h2⟩
  · rw [List.getElem?_set_ne (Ne.symm e)] at hi
    obtain ⟨h1, h2⟩ := h i v hi
    exact ⟨(World.cell?_setCell_other w _ _ _ (fun h => e (by cases h; rfl))).trans h1, by rw [World.frozen?_setCell]; exact h2⟩

theorem Moved.trans' {hot hot' : List Nat} {w w' w'' : World} (h : Moved hot w w') (k : Moved hot' w' w'') (hs : ∀ k, k ∈ hot' → k ∈ hot ∨ w.heap.size ≤ k) : Moved hot w w'' :=
  ⟨k.os.trans h.os, k.tape.trans h.tape, k.output.trans h.output, Nat.le_trans h.size k.size, fun i hi hn => (k.block i (Nat.lt_of_lt_of_le hi h.size) fun hh => (hs i hh).elim hn fun hl => by omega).trans (h.block i hi hn)⟩

/-- a block made in the region -/
def IsBlk (base : Nat) (mk : Nat → Value) (cs : List Value) (t : TypeId) : Gv := fun v w => ∃ b, v = mk b ∧ base ≤ b ∧ w.heap[b]? = some (.cells cs.toArray t (0, 0))
theorem stbR_blk {row : Option Nat} {base : Nat} {mk : Nat → Value} {cs : List Value} {t : TypeId} (hr : ∀ k, row = some k → k < base) : StbR row (IsBlk base mk cs t) := fun _ w _ ⟨b, e, hb, hh⟩ hg =>
  ⟨b, e, hb, (hg.block b (by
    rcases Nat.lt_or_ge b w.heap.size with h | h
    · exact h
    · rw [Array.getElem?_eq_none h] at hh; cases hh) fun e => by have := hr b e.symm; omega).trans hh⟩
def mkRow (n : Nat) (b : Nat) : Value := .slice (some ⟨b, 0, none⟩) n n
def mkPtr (b : Nat) : Value := .pointer (some ⟨b, 0, none⟩)
theorem isBlk_new {w : World} {base : Nat} {mk : Nat → Value} {cs : List Value} {t : TypeId} (hb : base ≤ w.heap.size) : IsBlk base mk cs t (mk w.heap.size) (w.alloc (.cells cs.toArray t)) := ⟨_, rfl, hb, heap_alloc_new w _⟩

section
variable {T : Nat → Value} {w : World} {x y : Operand} {ty : TypeId} {pos : String} {after : Array Edge} {b : Nat} {p0 p1 p2 p3 p4 p5 : Value}
theorem store49 {a r m d l : Int} {A : Option Addr} {n c : Nat} (hx : evT T x = .pointer (some ⟨b, 0, none⟩)) (hy : evT T y = .agg #[.int .u8 a, .slice A n c, .int .u64 r, .int .i64 m, .int .i64 d, .int .i64 l]) (hB : BoxAt w b [p0, p1, p2, p3, p4, p5]) :
    ∃ w', (∀ (ty : TypeId) (pos : String) (after : Array Edge), (execOp (evT T) { dst := none, op := .store 46 x y, type := ty, pos := pos, after := after, guard := none }).run Try.prog w = .ok .skip w') ∧ BoxAt w' b [.int .u8 a, .slice A n c, .int .u64 r, .int .i64 m, .int .i64 d, .int .i64 l] ∧ Moved [b] w w' := by
  obtain ⟨c0, f0⟩ := hB 0 _ rfl
  obtain ⟨c1, f1⟩ := hB 1 _ rfl
  obtain ⟨c2, f2⟩ := hB 2 _ rfl
  obtain ⟨c3, f3⟩ := hB 3 _ rfl
  obtain ⟨c4, f4⟩ := hB 4 _ rfl
  obtain ⟨c5, f5⟩ := hB 5 _ rfl
  have hm : ∀ (W : World) (j : Nat) (u : Value), Moved [b] W (W.setCell ⟨b, j, none⟩ u) := fun W j u => Moved.setCell W (by simp) u
  refine ⟨_, ?_, ((((((hB.set (j := 0) (by simp) _).set (j := 1) (by simp) _).set (j := 2) (by simp) _).set (j := 3) (by simp) _).set (j := 4) (by simp) _).set (j := 5) (by simp) _), (((((hm _ _ _).trans (hm _ _ _)).trans (hm _ _ _)).trans (hm _ _ _)).trans (hm _ _ _)).trans (hm _ _ _)⟩
  intro ty pos after
  simp only [execOp, hx, hy]
  go_simp
theorem store44 {a r m : Int} {d : Int} {A A' : Option Addr} {n c n' c' : Nat} (hx : evT T x = .pointer (some ⟨b, 0, none⟩)) (hy : evT T y = .agg #[.int .i64 a, .int .i64 r, .int .i64 m, .int .u32 d, .slice A n c, .slice A' n' c']) (hB : BoxAt w b [p0, p1, p2, p3, p4, p5]) :
    ∃ w', (∀ (ty : TypeId) (pos : String) (after : Array Edge), (execOp (evT T) { dst := none, op := .store 86 x y, type := ty, pos := pos, after := after, guard := none }).run Try.prog w = .ok .skip w') ∧ BoxAt w' b [.int .i64 a, .int .i64 r, .int .i64 m, .int .u32 d, .slice A n c, .slice A' n' c'] ∧ Moved [b] w w' := by
  obtain ⟨c0, f0⟩ := hB 0 _ rfl
  obtain ⟨c1, f1⟩ := hB 1 _ rfl
  obtain ⟨c2, f2⟩ := hB 2 _ rfl
  obtain ⟨c3, f3⟩ := hB 3 _ rfl
  obtain ⟨c4, f4⟩ := hB 4 _ rfl
  obtain ⟨c5, f5⟩ := hB 5 _ rfl
  have hm : ∀ (W : World) (j : Nat) (u : Value), Moved [b] W (W.setCell ⟨b, j, none⟩ u) := fun W j u => Moved.setCell W (by simp) u
  refine ⟨_, ?_, ((((((hB.set (j := 0) (by simp) _).set (j := 1) (by simp) _).set (j := 2) (by simp) _).set (j := 3) (by simp) _).set (j := 4) (by simp) _).set (j := 5) (by simp) _), (((((hm _ _ _).trans (hm _ _ _)).trans (hm _ _ _)).trans (hm _ _ _)).trans (hm _ _ _)).trans (hm _ _ _)⟩
  intro ty pos after
  simp only [execOp, hx, hy]
  go_simp
theorem store51 {a r : Int} {m : Bool} (hx : evT T x = .pointer (some ⟨b, 0, none⟩)) (hy : evT T y = .agg #[.int .i64 a, .int .i64 r, .bool m]) (hB : BoxAt w b [p0, p1, p2]) :
    ∃ w', (∀ (ty : TypeId) (pos : String) (after : Array Edge), (execOp (evT T) { dst := none, op := .store 75 x y, type := ty, pos := pos, after := after, guard := none }).run Try.prog w = .ok .skip w') ∧ BoxAt w' b [.int .i64 a, .int .i64 r, .bool m] ∧ Moved [b] w w' := by
  obtain ⟨c0, f0⟩ := hB 0 _ rfl
  obtain ⟨c1, f1⟩ := hB 1 _ rfl
  obtain ⟨c2, f2⟩ := hB 2 _ rfl
  have hm : ∀ (W : World) (j : Nat) (u : Value), Moved [b] W (W.setCell ⟨b, j, none⟩ u) := fun W j u => Moved.setCell W (by simp) u
  refine ⟨_, ?_, (((hB.set (j := 0) (by simp) _).set (j := 1) (by simp) _).set (j := 2) (by simp) _), ((hm _ _ _).trans (hm _ _ _)).trans (hm _ _ _)⟩
  intro ty pos after
  simp only [execOp, hx, hy]
  go_simp
theorem storeSl_run {e g j : Nat} {A : Option Addr} {n c : Nat} {vs : List Value} (hj : j < vs.length) (hs : ∀ (w : World), (sizeOf e).run Try.prog w = .ok 1 w) (hx : evT T x = .pointer (some ⟨g, j, none⟩)) (hy : evT T y = .slice A n c) (hB : BoxAt w g vs) :
    (execOp (evT T) { dst := none, op := .store e x y, type := ty, pos := pos, after := after, guard := none }).run Try.prog w = .ok .skip (w.setCell ⟨g, j, none⟩ (.slice A n c)) := by
  obtain ⟨c0, f0⟩ := hB j _ (List.getElem?_eq_getElem hj)
  simp only [execOp, hx, hy]
  go_simp
/-- a slice stored in one cell of a box -/
theorem storeSl {e g j : Nat} {A : Option Addr} {n c : Nat} {vs : List Value} (hj : j < vs.length) (hs : ∀ (w : World), (sizeOf e).run Try.prog w = .ok 1 w) (hx : evT T x = .pointer (some ⟨g, j, none⟩)) (hy : evT T y = .slice A n c) (hB : BoxAt w g vs) :
    ∃ w', (∀ (ty : TypeId) (pos : String) (after : Array Edge), (execOp (evT T) { dst := none, op := .store e x y, type := ty, pos := pos, after := after, guard := none }).run Try.prog w = .ok .skip w') ∧ BoxAt w' g (vs.set j (.slice A n c)) ∧ Moved [g] w w' := by
  obtain ⟨c0, f0⟩ := hB j _ (List.getElem?_eq_getElem hj)
  refine ⟨_, ?_, hB.set hj _, Moved.setCell w (by simp) _⟩
  intro ty pos after
  simp only [execOp, hx, hy]
  go_simp
end

theorem run_inj {w w' : World} (h : (Result.ok Next.skip w : Result Next) = .ok .skip w') : w = w' := by injection h

/-- one struct more behind a row that the call owns, whose slice is kept in cell j of block gs -/
theorem row_step {α : Type} {C : ReadsC α} {V : Reads α} [sc : SteadyC C V] {sz : Nat} {e : TypeId} {wr W5 : World} {B gs : Nat} {v : Value} {xs : List α} {x : α} {lits : List Value}
    (hrow : RowC C sz e (gs :: v.ownBlock.toList) wr B v xs) (hgs : gs < wr.heap.size) (hne : v.ownBlock ≠ some gs) (hM : Moved [] wr W5) (hx : C (gs :: v.ownBlock.toList) W5 x lits) (hl : lits.length = sz) :
    ∃ vss : List (List Value), W5.ownsRow B e sz v xs.length vss.flatten ∧ ∀ (v6 : Value) (w6 : World), w6.ownsRow B e sz v6 (xs.length + 1) (vss.flatten ++ lits) → W5.grownBy w6 v.ownBlock → (v6.ownBlock = v.ownBlock ∨ v6.ownBlock = some W5.heap.size) →
      v6.ownBlock ≠ some gs ∧ Moved (gs :: v.ownBlock.toList) wr w6 ∧ ∀ j u, RowC C sz e (gs :: v6.ownBlock.toList) (w6.setCell ⟨gs, j, none⟩ u) B v6 (xs ++ [x]) ∧ Moved (gs :: v.ownBlock.toList) wr (w6.setCell ⟨gs, j, none⟩ u) := by
  have hlt : ∀ g, v.ownBlock = some g → g < wr.heap.size := fun g hg => by
    obtain ⟨_, _, _, _, h⟩ := hrow.shape
    exact (h g hg).2
  have hrow5 := hrow.move (hM.mono (by simp)) (fun g hg => hM.block g (hlt g hg) (by simp))
  obtain ⟨vss, hvl, hvc, ho⟩ := hrow5
  refine ⟨vss, ho, fun v6 w6 ho6 hg6 hb6 => ?_⟩
  have hsz := hM.size
  have hne6 : v6.ownBlock ≠ some gs := by
    rcases hb6 with h | h
    · rw [h]; exact hne
    · rw [h]; intro e; injection e with e; omega
  have hmg : Moved (gs :: v.ownBlock.toList) W5 w6 := Moved.of_grown hg6 (fun k hk => by simp [hk])
  have hmv : Moved (gs :: v.ownBlock.toList) wr w6 := (hM.mono (by simp)).trans hmg
  refine ⟨hne6, hmv, fun j u => ⟨?_, hmv.trans (Moved.setCell _ (by simp) _)⟩⟩
  -- all that is hot now
  have hup : ∀ {y : α} {us : List Value}, C (gs :: v.ownBlock.toList) W5 y us → C (v6.ownBlock.toList ++ (gs :: v.ownBlock.toList)) W5 y us := by
    intro y us h
    rcases hb6 with hb | hb
    · refine sc.less h fun k hk => ?_
      rw [hb] at hk
      simp at hk ⊢
      rcases hk with hk | hk | hk
      · exact .inr hk
      · exact .inl hk
      · exact .inr hk
    · rw [hb]
      exact sc.more h (Nat.le_refl _)
  have hmg' : Moved (v6.ownBlock.toList ++ (gs :: v.ownBlock.toList)) W5 w6 := hmg.mono fun k hk => List.mem_append_right _ hk
  have hr6 : RowC C sz e (v6.ownBlock.toList ++ (gs :: v.ownBlock.toList)) w6 B v6 (xs ++ [x]) :=
    RowC.push (hot := v6.ownBlock.toList ++ (gs :: v.ownBlock.toList)) hvl (fun k y us h1 h2 => ⟨(hvc k y us h1 h2).1, hup (hvc k y us h1 h2).2⟩) hl (hup hx) hmg' ho6
  have hr7 := hr6.move (w' := w6.setCell ⟨gs, j, none⟩ u) (Moved.setCell _ (by simp) _) (fun g hg => Below.heap_setCell w6 _ u g (fun e => hne6 (by rw [hg, e])))
  exact hr7.less fun k hk => by
    rcases List.mem_cons.1 hk with hk | hk
    · subst hk; simp
    · exact List.mem_append_left _ hk

theorem rowc_regs {hot0 : List Nat} {w : World} {B : Nat} {v : Value} {rs : List Rgs} (h : RowC RgsC 2 90 hot0 w B v rs) : ∃ A c, v = .slice A rs.length c ∧ rs.length ≤ c ∧ ∀ hot : List Nat, (∀ g, v.ownBlock = some g → g ∉ hot) → RegsC hot w A rs := by
  obtain ⟨vss, hl, hc, ho⟩ := h
  obtain ⟨A, c, rfl⟩ := own_shape' ho
  refine ⟨A, c, rfl, own_cap ho, fun hot hh hp => ?_⟩
  rcases ho.2 with ⟨_, h0⟩ | ⟨g, cap, cur, h1, h2, h3, r⟩
  · omega
  · injection h1 with h1 _ _
    subst h1
    refine ⟨_, rfl, ?_, hh g rfl, fun k x hk => ?_⟩
    · rcases Nat.lt_or_ge g w.heap.size with hlt | hge
      · exact hlt
      · rw [Array.getElem?_eq_none hge] at h3; cases h3
    · have hkl : k < vss.length := by rw [hl]; exact (List.getElem?_eq_some_iff.1 hk).1
      have hvs : vss[k]? = some vss[k] := List.getElem?_eq_getElem hkl
      obtain ⟨_, hx⟩ := hc k x _ hk hvs
      intro j v hj
      have := ho.cells (g := g) rfl (k * 2 + j) v (flat_get (RowC.len (e := 56) (B := B) (v := .slice (some ⟨g, 0, none⟩) rs.length c) hl hc) hvs (by rw [show vss[k] = _ from hx]; exact hj))
      rw [Addr.add_lit, Nat.zero_add] at this
      rw [Addr.add_lit, Addr.add_lit, Nat.zero_add]
      exact this
theorem ints_own {w : World} {B m c : Nat} {A : Option Addr} {L : List Int} (h : w.ownsRow B 3 1 (.slice A m c) m (iv L)) (hot : List Nat) (hh : ∀ g, (Value.slice A m c).ownBlock = some g → g ∉ hot) : IntsC hot w A L := fun hp => by
  obtain ⟨ad, e, h1, h3⟩ := IntsAt.of_own h hp
  subst e
  exact ⟨ad, rfl, h1, hh ad.block rfl, h3⟩

theorem iv_snoc (L : List Int) (x : Int) : iv (L ++ [x]) = iv L ++ [.int .i64 x] := by simp [iv]
theorem need1_len (d : Nat → Nat) (k i : Nat) : (need1 d k i).length ≤ 1 := by unfold need1; split <;> simp
theorem need2_len (d : Nat → Nat) (k i : Nat) : (need2 d k i).length ≤ 1 := by unfold need2; split <;> simp
theorem own_len {w : World} {B m : Nat} {v : Value} {L : List Int} (h : w.ownsRow B 3 1 v m (iv L)) : L.length = m := by have := h.1; simpa [iv] using this
theorem need1_yes {d : Nat → Nat} {k i : Nat} (h : 0 < i ∧ d (k + 9) % 2 = 1) : need1 d k i = [((d (k + 10) % i : Nat) : Int)] := if_pos h
theorem need1_no {d : Nat → Nat} {k i : Nat} (h : ¬ (0 < i ∧ d (k + 9) % 2 = 1)) : need1 d k i = [] := if_neg h
theorem need2_yes {d : Nat → Nat} {k i : Nat} (h : 1 < i ∧ d (k + 11) % 3 = 1) : need2 d k i = [((d (k + 11) / 3 % i : Nat) : Int)] := if_pos h
theorem need2_no {d : Nat → Nat} {k i : Nat} (h : ¬ (1 < i ∧ d (k + 11) % 3 = 1)) : need2 d k i = [] := if_neg h
theorem devC_mk {hot : List Nat} {W : World} {d : Nat → Nat} {c0 nd nr n k m cR cN : Nat} {L : List Int} {AR AN : Option Addr} (hk : k = 60 + 12 * n) (hL : need1 d k n ++ need2 d k n = L) (hm : L.length = m) (hcR : d (k + 4) % 5 ≤ cR) (hcN : m ≤ cN)
    (h1 : RegsC hot W AR (regsP d k (d (k + 4) % 5))) (h2 : IntsC hot W AN L) :
    DevC hot W (devP d (c0 + 1) nd nr n) [.int .i64 ((d k : Int) % ((c0 : Int) + 1)), .int .i64 ((d (k + 1) : Int) % (nd : Int)), .int .i64 ((d (k + 2) : Int) % (nr : Int)), .int .u32 ((d (k + 3) : Int) % 3), .slice AR (d (k + 4) % 5) cR, .slice AN m cN] := by
  have he : devP d (c0 + 1) nd nr n = ⟨((d k % (c0 + 1) : Nat) : Int), ((d (k + 1) % nd : Nat) : Int), ((d (k + 2) % nr : Nat) : Int), ((d (k + 3) % 3 : Nat) : Int), regsP d k (d (k + 4) % 5), L⟩ := by
    subst hL
    subst hk
    rfl
  rw [he]
  subst hm
  have hr : (regsP d k (d (k + 4) % 5)).length = d (k + 4) % 5 := by simp [regsP]
  refine ⟨AR, cR, AN, cN, ?_, by rw [hr]; exact hcR, hcN, h1, h2⟩
  simp only [hr]
  rfl

theorem Try.info46 : (Try.prog.info? 46).map (fun i => (i.zero, i.size, i.bytes)) = some (some (.agg #[.int .u8 0, .slice none 0 0, .int .u64 0, .int .i64 0, .int .i64 0, .int .i64 0]), 6, 64) := by kernel_rfl
theorem Try.info75 : (Try.prog.info? 75).map (fun i => (i.zero, i.size, i.bytes)) = some (some (.agg #[.int .i64 0, .int .i64 0, .bool false]), 3, 24) := by kernel_rfl
theorem Try.info80 : (Try.prog.info? 80).map (fun i => (i.zero, i.size, i.bytes)) = some (some (.agg #[.int .i64 0]), 1, 8) := by kernel_rfl
theorem Try.info90 : (Try.prog.info? 90).map (fun i => (i.zero, i.size, i.bytes)) = some (some (.agg #[.int .u32 0, .bool false]), 2, 8) := by kernel_rfl
theorem Try.info86 : (Try.prog.info? 86).map (fun i => (i.zero, i.size, i.bytes)) = some (some (.agg #[.int .i64 0, .int .i64 0, .int .i64 0, .int .u32 0, .slice none 0 0, .slice none 0 0]), 6, 80) := by kernel_rfl
theorem cells_new (w : World) (H : Nat) (hH : w.heap.size = H) (vs : List Value) (t : TypeId) : ∀ (j : Nat) (u : Value), vs[j]? = some u → (w.alloc (.cells vs.toArray t)).cell? ((⟨H, 0, none⟩ : Addr).add j) = some u := by
  subst hH
  exact agg_new w vs t

end Go.Proofs.Ytnfbhhgdibkbdaa
