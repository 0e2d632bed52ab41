/- A chip all of whose rows, those inside its structs too, the call owns, each in a block of its own. -/
import Derived.Test.YtkhfcbcanbplgaaV1
import Derived.Test.YtkhfcbcanbplgaaN6
import Derived.Deep.AppendLies
namespace Go.Proofs.Ytkhfcbcanbplgaa
set_option linter.unusedSimpArgs false
set_option linter.unusedVariables false
open Go.RowKit Go.Maps

def ClkN : ReadsC Clk := fun _ _ x vs => ∃ A c, vs = [.int .u8 x.kind, .slice A x.frm.length c, .int .u64 x.rate, .int .i64 x.mul, .int .i64 x.div, .int .i64 x.lock]
def ClkNV : Reads Clk := fun _ _ x vs => ∃ A c, vs = [.int .u8 x.kind, .slice A x.frm.length c, .int .u64 x.rate, .int .i64 x.mul, .int .i64 x.div, .int .i64 x.lock]
def DevN : ReadsC Dev := fun _ _ x vs => ∃ A c A' c', vs = [.int .i64 x.clock, .int .i64 x.domain, .int .i64 x.rst, .int .u32 x.clamp, .slice A x.regs.length c, .slice A' x.needs.length c']
def DevNV : Reads Dev := fun _ _ x vs => ∃ A c A' c', vs = [.int .i64 x.clock, .int .i64 x.domain, .int .i64 x.rst, .int .u32 x.clamp, .slice A x.regs.length c, .slice A' x.needs.length c']
instance : SteadyC ClkN ClkNV := ⟨fun h _ => h, fun h _ => h, fun h _ => h, fun h => h⟩
instance : SteadyC DevN DevNV := ⟨fun h _ => h, fun h _ => h, fun h _ => h, fun h => h⟩
/-- what is said of a struct's cells says nothing of the world -/
class FreeC {α : Type} (C : ReadsC α) : Prop where
  any : ∀ {hot hot' : List Nat} {w w' : World} {x : α} {vs : List Value}, C hot w x vs → C hot' w' x vs
instance : FreeC ClkN := ⟨fun h => h⟩
instance : FreeC DomC := ⟨fun h => h⟩
instance : FreeC RstC := ⟨fun h => h⟩
instance : FreeC DevN := ⟨fun h => h⟩
theorem RowC.free {α : Type} {C : ReadsC α} [fc : FreeC C] {sz : Nat} {e : TypeId} {hot hot' : List Nat} {w w' : World} {B : Nat} {v : Value} {xs : List α} (h : RowC C sz e hot w B v xs) (hk : ∀ g, v.ownBlock = some g → w'.heap[g]? = w.heap[g]?) : RowC C sz e hot' w' B v xs := by
  obtain ⟨vss, hl, hc, ho⟩ := h
  exact ⟨vss, hl, fun k x vs h1 h2 => ⟨(hc k x vs h1 h2).1, fc.any (hc k x vs h1 h2).2⟩, own_move ho hk⟩
theorem RowC.weak {α : Type} {C D : ReadsC α} {sz : Nat} {e : TypeId} {hot hot' : List Nat} {w : World} {B : Nat} {v : Value} {xs : List α} (h : RowC C sz e hot w B v xs) (hcd : ∀ x vs, C hot w x vs → D hot' w x vs) : RowC D sz e hot' w B v xs := by
  obtain ⟨vss, hl, hc, ho⟩ := h
  exact ⟨vss, hl, fun k x vs h1 h2 => ⟨(hc k x vs h1 h2).1, hcd _ _ (hc k x vs h1 h2).2⟩, ho⟩

section
variable {W W' : World} {hot : List Nat} {g j : Nat} {e : TypeId} {sz n : Nat} {xs : List Value} {lo hi : Nat}
theorem CellAt.far (h : CellAt W hot g j e sz n xs lo hi) {b : Nat} (hm : Moved [b] W W') (hg : g ≠ b) (hb : b < lo ∨ hi ≤ b) : CellAt W' hot g j e sz n xs lo hi := by
  obtain ⟨v, h1, h2, h3, h4⟩ := h
  have hl : g < W.heap.size := World.block_lt_of_cell? W ⟨g, j, none⟩ h1
  refine ⟨v, hm.cell h1 (by simpa using hg), (hm.frozen (p := ⟨g, j, none⟩) hl (by simpa using hg)).trans h2, own_move h3 (fun g' hg' => hm.block g' (h3.lt g' hg').2 ?_), h4⟩
  have := (h3.lt g' hg').1
  have := (h4 g' hg').1
  simp
  omega
theorem CellAt.turn (h : CellAt W hot g j e sz n xs lo hi) {hot' : List Nat} (hh : ∀ b, b ∈ hot' → b ∈ hot ∨ hi ≤ b ∨ b < lo) : CellAt W hot' g j e sz n xs lo hi := by
  obtain ⟨v, h1, h2, h3, h4⟩ := h
  refine ⟨v, h1, h2, h3, fun g' hg' => ⟨(h4 g' hg').1, fun hm => ?_⟩⟩
  have := (h3.lt g' hg').1
  have := (h4 g' hg').1
  rcases hh g' hm with h | h | h
  · exact (h4 g' hg').2 h
  · omega
  · omega
/-- the same, its block named -/
structure CellIn (W : World) (hot : List Nat) (g j : Nat) (e : TypeId) (sz n : Nat) (xs : List Value) (lo hi gi cap : Nat) : Prop where
  cell : W.cell? ⟨g, j, none⟩ = some (.slice (some ⟨gi, 0, none⟩) n cap)
  frz : W.frozen? ⟨g, j, none⟩ = false
  own : W.ownsRow lo e sz (.slice (some ⟨gi, 0, none⟩) n cap) n xs
  lt : gi < hi
  cold : gi ∉ hot
theorem CellAt.named (h : CellAt W hot g j e sz n xs lo hi) (hn : 0 < n) : ∃ gi cap, CellIn W hot g j e sz n xs lo hi gi cap := by
  obtain ⟨v, h1, h2, h3, h4⟩ := h
  obtain ⟨gi, cap, rfl, -, -⟩ := h3.form hn
  exact ⟨gi, cap, h1, h2, h3, (h4 gi rfl).1, (h4 gi rfl).2⟩
theorem CellIn.shut {gi cap : Nat} (h : CellIn W hot g j e sz n xs lo hi gi cap) : CellAt W hot g j e sz n xs lo hi :=
  ⟨_, h.cell, h.frz, h.own, fun g' hg' => by
    have : gi = g' := by simpa [Value.ownBlock] using hg'
    subst this
    exact ⟨h.lt, h.cold⟩⟩
theorem CellIn.low {gi cap : Nat} (h : CellIn W hot g j e sz n xs lo hi gi cap) : lo ≤ gi ∧ gi < W.heap.size := h.own.lt gi rfl
theorem CellIn.put {gi cap : Nat} (h : CellIn W hot g j e sz n xs lo hi gi cap) (hg : g ∈ hot) (i : Nat) (y : Value) : CellIn (W.setCell ⟨gi, i, none⟩ y) hot g j e sz n (xs.set i y) lo hi gi cap := by
  have hm : Moved [gi] W (W.setCell ⟨gi, i, none⟩ y) := Moved.setCell W (by simp) y
  have hne : g ≠ gi := fun e => h.cold (e ▸ hg)
  have hl : g < W.heap.size := World.block_lt_of_cell? W ⟨g, j, none⟩ h.cell
  exact ⟨hm.cell h.cell (by simpa using hne), (hm.frozen (p := ⟨g, j, none⟩) hl (by simpa using hne)).trans h.frz, (h.own.stored i y).1, h.lt, h.cold⟩
theorem CellIn.get {gi cap : Nat} (h : CellIn W hot g j e sz n xs lo hi gi cap) {i : Nat} {v : Value} (hi : xs[i]? = some v) : W.cell? ⟨gi, i, none⟩ = some v ∧ W.frozen? ⟨gi, i, none⟩ = false := by
  refine ⟨?_, h.own.frozenAt _⟩
  have := h.own.cells (g := gi) rfl i v hi
  rwa [Addr.add_lit, Nat.zero_add] at this
end

/-- where a chip's rows lie, how long they are, and what room they have -/
structure Sh where
  g0 : Nat
  g1 : Nat
  g2 : Nat
  g3 : Nat
  g4 : Nat
  n1 : Nat
  n2 : Nat
  n3 : Nat
  n4 : Nat
  c1 : Nat
  c2 : Nat
  c3 : Nat
  c4 : Nat
namespace Sh
abbrev hs (p : Sh) : List Nat := [p.g0, p.g1, p.g2, p.g3, p.g4]
abbrev v1 (p : Sh) : Value := .slice (some ⟨p.g1, 0, none⟩) p.n1 p.c1
abbrev v2 (p : Sh) : Value := .slice (some ⟨p.g2, 0, none⟩) p.n2 p.c2
abbrev v3 (p : Sh) : Value := .slice (some ⟨p.g3, 0, none⟩) p.n3 p.c3
abbrev v4 (p : Sh) : Value := .slice (some ⟨p.g4, 0, none⟩) p.n4 p.c4
end Sh

structure Flat (p : Sh) (W : World) (B : Nat) (s : Chip) (t u : Nat → Nat) : Prop where
  e1 : s.clks.length = p.n1
  e2 : s.doms.length = p.n2
  e3 : s.rsts.length = p.n3
  e4 : s.devs.length = p.n4
  clks : RowC ClkN 6 49 [] W B p.v1 s.clks
  doms : RowC DomC 3 51 [] W B p.v2 s.doms
  rsts : RowC RstC 1 53 [] W B p.v3 s.rsts
  devs : RowC DevN 6 44 [] W B p.v4 s.devs
  n01 : p.g0 ≠ p.g1
  n02 : p.g0 ≠ p.g2
  n03 : p.g0 ≠ p.g3
  n04 : p.g0 ≠ p.g4
  n12 : p.g1 ≠ p.g2
  n13 : p.g1 ≠ p.g3
  n14 : p.g1 ≠ p.g4
  n23 : p.g2 ≠ p.g3
  n24 : p.g2 ≠ p.g4
  n34 : p.g3 ≠ p.g4
  frm : ∀ (k : Nat) (x : Clk), s.clks[k]? = some x → CellAt W p.hs p.g1 (k * 6 + 1) 3 1 x.frm.length (iv x.frm) (t k) (t (k + 1))
  regs : ∀ (k : Nat) (x : Dev), s.devs[k]? = some x → CellAt W p.hs p.g4 (k * 6 + 4) 56 2 x.regs.length (rv x.regs) (u (2 * k)) (u (2 * k + 1))
  needs : ∀ (k : Nat) (x : Dev), s.devs[k]? = some x → CellAt W p.hs p.g4 (k * 6 + 5) 3 1 x.needs.length (iv x.needs) (u (2 * k + 1)) (u (2 * k + 2))
  tup : ∀ k, k < p.n1 → t k ≤ t (k + 1)
  uup : ∀ k, k < 2 * p.n4 → u k ≤ u (k + 1)
  tu : t p.n1 ≤ u 0
  base : B ≤ t 0

theorem up_mono {f : Nat → Nat} {n : Nat} (h : ∀ k, k < n → f k ≤ f (k + 1)) {i : Nat} : ∀ {j : Nat}, i ≤ j → j ≤ n → f i ≤ f j
  | 0, hi, _ => by
    have : i = 0 := by omega
    subst this; exact Nat.le_refl _
  | j + 1, hi, hj => by
    rcases Nat.eq_or_lt_of_le hi with e | hlt
    · subst e; exact Nat.le_refl _
    · exact Nat.le_trans (up_mono h (j := j) (by omega) (by omega)) (h j (by omega))

namespace Flat
variable {p : Sh} {W W' : World} {B : Nat} {s : Chip} {t u : Nat → Nat}
theorem row_set {α : Type} {C : ReadsC α} {V : Reads α} [sc : SteadyC C V] [fc : FreeC C] {sz : Nat} {e : TypeId} {g n cap k j : Nat} {x x' : α} {y : Value} {xs : List α} (h : RowC C sz e [] W B (.slice (some ⟨g, 0, none⟩) n cap) xs) (hn : n = xs.length) (hk : xs[k]? = some x) (hj : j < sz)
    (hx : ∀ vs, C [] W x vs → vs.length = sz → C [] W x' (vs.set j y)) : RowC C sz e [] (W.setCell ⟨g, k * sz + j, none⟩ y) B (.slice (some ⟨g, 0, none⟩) n cap) (xs.set k x') := by
  have h' : RowC C sz e [g] W B (.slice (some ⟨g, 0, none⟩) n cap) xs := h.free (fun _ _ => rfl)
  exact (h'.set hn hk hj (by simp) (fun vs hv hl => fc.any (hx vs (fc.any hv) hl))).free (fun _ _ => rfl)
theorem row_far {α : Type} {C : ReadsC α} [fc : FreeC C] {sz : Nat} {e : TypeId} {g n cap : Nat} {xs : List α} (h : RowC C sz e [] W B (.slice (some ⟨g, 0, none⟩) n cap) xs) {b : Nat} (hm : Moved [b] W W') (hb : g ≠ b) : RowC C sz e [] W' B (.slice (some ⟨g, 0, none⟩) n cap) xs :=
  h.free fun g' hg' => by
    have : g = g' := by simpa [Value.ownBlock] using hg'
    subst this
    obtain ⟨_, _, _, _, hl⟩ := h.shape
    exact hm.block g (hl g rfl).2 (by simpa using hb)
theorem row_calm {α : Type} {C : ReadsC α} [fc : FreeC C] {sz : Nat} {e : TypeId} {g n cap : Nat} {xs : List α} (h : RowC C sz e [] W B (.slice (some ⟨g, 0, none⟩) n cap) xs) (hm : Moved [] W W') : RowC C sz e [] W' B (.slice (some ⟨g, 0, none⟩) n cap) xs :=
  h.free fun g' hg' => by
    obtain ⟨_, _, _, _, hl⟩ := h.shape
    exact hm.block g' (hl g' hg').2 (by simp)
theorem calm (h : Flat p W B s t u) (hm : Moved [] W W') : Flat p W' B s t u :=
  { h with clks := row_calm h.clks hm, doms := row_calm h.doms hm, rsts := row_calm h.rsts hm, devs := row_calm h.devs hm,
           frm := fun k x hx => (h.frm k x hx).calm hm, regs := fun k x hx => (h.regs k x hx).calm hm, needs := fun k x hx => (h.needs k x hx).calm hm }
theorem t0 (h : Flat p W B s t u) {k : Nat} (hk : k ≤ p.n1) : B ≤ t k := Nat.le_trans h.base (up_mono h.tup (Nat.zero_le k) hk)
theorem u0 (h : Flat p W B s t u) {k : Nat} (hk : k ≤ 2 * p.n4) : t p.n1 ≤ u k := Nat.le_trans h.tu (up_mono h.uup (Nat.zero_le k) hk)
/-- it reads as the chip -/
theorem chip (h : Flat p W B s t u) : ChipV W W.heap.size s [p.v1, p.v2, p.v3, p.v4] := by
  obtain ⟨A1, c1, e1, l1, h1⟩ := h.clks.strs
  obtain ⟨A2, c2, e2, l2, h2⟩ := h.doms.strs
  obtain ⟨A3, c3, e3, l3, h3⟩ := h.rsts.strs
  obtain ⟨A4, c4, e4, l4, h4⟩ := h.devs.strs
  rw [h.e1] at e1; rw [h.e2] at e2; rw [h.e3] at e3; rw [h.e4] at e4
  injection e1 with a1 _ b1; injection e2 with a2 _ b2; injection e3 with a3 _ b3; injection e4 with a4 _ b4
  subst a1 b1 a2 b2 a3 b3 a4 b4
  refine ⟨_, _, _, _, _, _, _, _, by rw [h.e1, h.e2, h.e3, h.e4], l1, l2, l3, l4, fun hl => ?_, h2, h3, fun hl => ?_⟩
  · obtain ⟨ad, ea, hb, hc⟩ := h1 hl
    injection ea with ea
    subst ea
    refine ⟨_, rfl, hb, fun k x hx => ?_⟩
    obtain ⟨vs, ⟨A, c, rfl⟩, hat⟩ := hc k x hx
    refine ⟨_, ⟨A, c, rfl, ?_⟩, hat⟩
    obtain ⟨v, k1, k2, k3, k4⟩ := h.frm k x hx
    have k5 := hat 1 _ rfl
    rw [Addr.add_lit, Addr.add_lit, Nat.zero_add, k1] at k5
    obtain rfl := Option.some.inj k5
    exact ⟨own_cap k3, (ints_own k3 [] (fun _ _ => by simp)).ints⟩
  · obtain ⟨ad, ea, hb, hc⟩ := h4 hl
    injection ea with ea
    subst ea
    refine ⟨_, rfl, hb, fun k x hx => ?_⟩
    obtain ⟨vs, ⟨A, c, A', c', rfl⟩, hat⟩ := hc k x hx
    obtain ⟨v, k1, k2, k3, k4⟩ := h.regs k x hx
    obtain ⟨v', j1, j2, j3, j4⟩ := h.needs k x hx
    have k5 := hat 4 _ rfl
    have j5 := hat 5 _ rfl
    rw [Addr.add_lit, Addr.add_lit, Nat.zero_add, k1] at k5
    rw [Addr.add_lit, Addr.add_lit, Nat.zero_add, j1] at j5
    obtain rfl := Option.some.inj k5
    obtain rfl := Option.some.inj j5
    refine ⟨_, ⟨A, c, A', c', rfl, own_cap k3, own_cap j3, ?_, (ints_own j3 [] (fun _ _ => by simp)).ints⟩, hat⟩
    have hrow : RowC RgsC 2 56 [] W (u (2 * k)) (.slice A x.regs.length c) x.regs :=
      ⟨x.regs.map fun (r : Rgs) => [Value.int .u32 r.reset, Value.bool r.kept], by simp, fun i y vs hy hv => by
        rw [List.getElem?_map, hy] at hv
        have := Option.some.inj hv
        subst this
        exact ⟨rfl, rfl⟩, k3⟩
    obtain ⟨A9, c9, e9, -, hr⟩ := hrow.strs
    injection e9 with e9 _ _
    subst e9
    exact hr

/-! stores -/
theorem outs {g : Nat} (hg : g ∈ p.hs) {k j : Nat} (y : Value) (h : Flat p W B s t u) :
    (∀ (k' : Nat) (x : Clk), s.clks[k']? = some x → (g = p.g1 → k * 6 + j ≠ k' * 6 + 1) → CellAt (W.setCell ⟨g, k * 6 + j, none⟩ y) p.hs p.g1 (k' * 6 + 1) 3 1 x.frm.length (iv x.frm) (t k') (t (k' + 1))) ∧
    (∀ (k' : Nat) (x : Dev), s.devs[k']? = some x → (g = p.g4 → k * 6 + j ≠ k' * 6 + 4) → CellAt (W.setCell ⟨g, k * 6 + j, none⟩ y) p.hs p.g4 (k' * 6 + 4) 56 2 x.regs.length (rv x.regs) (u (2 * k')) (u (2 * k' + 1))) ∧
    (∀ (k' : Nat) (x : Dev), s.devs[k']? = some x → (g = p.g4 → k * 6 + j ≠ k' * 6 + 5) → CellAt (W.setCell ⟨g, k * 6 + j, none⟩ y) p.hs p.g4 (k' * 6 + 5) 3 1 x.needs.length (iv x.needs) (u (2 * k' + 1)) (u (2 * k' + 2))) :=
  ⟨fun k' x hx hne => (h.frm k' x hx).set hg (fun e => by injection e with e1 e2; exact hne e1 e2) y,
   fun k' x hx hne => (h.regs k' x hx).set hg (fun e => by injection e with e1 e2; exact hne e1 e2) y,
   fun k' x hx hne => (h.needs k' x hx).set hg (fun e => by injection e with e1 e2; exact hne e1 e2) y⟩
theorem setClk (h : Flat p W B s t u) {k j : Nat} {x x' : Clk} {y : Value} (hx : s.clks[k]? = some x) (hj : j < 6) (hj1 : j ≠ 1) (hf : x'.frm = x.frm)
    (hs : ∀ A c, ([.int .u8 x.kind, .slice A x.frm.length c, .int .u64 x.rate, .int .i64 x.mul, .int .i64 x.div, .int .i64 x.lock] : List Value).set j y = [.int .u8 x'.kind, .slice A x'.frm.length c, .int .u64 x'.rate, .int .i64 x'.mul, .int .i64 x'.div, .int .i64 x'.lock]) :
    Flat p (W.setCell ⟨p.g1, k * 6 + j, none⟩ y) B { s with clks := s.clks.set k x' } t u := by
  have hm : Moved [p.g1] W (W.setCell ⟨p.g1, k * 6 + j, none⟩ y) := Moved.setCell W (by simp) y
  obtain ⟨q1, q2, q3⟩ := outs (p := p) (g := p.g1) (by simp) (k := k) (j := j) y h
  exact { h with
    e1 := by simpa using h.e1
    clks := row_set h.clks h.e1.symm hx hj (fun vs ⟨A, c, e⟩ _ => ⟨A, c, by rw [e]; exact hs A c⟩)
    doms := row_far h.doms hm h.n12.symm
    rsts := row_far h.rsts hm h.n13.symm
    devs := row_far h.devs hm h.n14.symm
    frm := fun k' x1 hx1 => by
      rcases set_at hx1 with ⟨rfl, rfl⟩ | ⟨hne, hx1⟩
      · rw [hf]; exact q1 _ x hx (fun _ => by omega)
      · exact q1 k' x1 hx1 (fun _ => by omega)
    regs := fun k' x1 hx1 => q2 k' x1 hx1 (fun e => absurd e h.n14)
    needs := fun k' x1 hx1 => q3 k' x1 hx1 (fun e => absurd e h.n14) }
theorem setDev (h : Flat p W B s t u) {k j : Nat} {x x' : Dev} {y : Value} (hx : s.devs[k]? = some x) (hj : j < 6) (hj4 : j < 4) (hf : x'.regs = x.regs) (hf' : x'.needs = x.needs)
    (hs : ∀ A c A' c', ([.int .i64 x.clock, .int .i64 x.domain, .int .i64 x.rst, .int .u32 x.clamp, .slice A x.regs.length c, .slice A' x.needs.length c'] : List Value).set j y = [.int .i64 x'.clock, .int .i64 x'.domain, .int .i64 x'.rst, .int .u32 x'.clamp, .slice A x'.regs.length c, .slice A' x'.needs.length c']) :
    Flat p (W.setCell ⟨p.g4, k * 6 + j, none⟩ y) B { s with devs := s.devs.set k x' } t u := by
  have hm : Moved [p.g4] W (W.setCell ⟨p.g4, k * 6 + j, none⟩ y) := Moved.setCell W (by simp) y
  obtain ⟨q1, q2, q3⟩ := outs (p := p) (g := p.g4) (by simp) (k := k) (j := j) y h
  exact { h with
    e4 := by simpa using h.e4
    devs := row_set h.devs h.e4.symm hx hj (fun vs ⟨A, c, A', c', e⟩ _ => ⟨A, c, A', c', by rw [e]; exact hs A c A' c'⟩)
    doms := row_far h.doms hm h.n24
    rsts := row_far h.rsts hm h.n34
    clks := row_far h.clks hm h.n14
    frm := fun k' x1 hx1 => q1 k' x1 hx1 (fun e => absurd e.symm h.n14)
    regs := fun k' x1 hx1 => by
      rcases set_at hx1 with ⟨rfl, rfl⟩ | ⟨hne, hx1⟩
      · rw [hf]; exact q2 _ x hx (fun _ => by omega)
      · exact q2 k' x1 hx1 (fun _ => by omega)
    needs := fun k' x1 hx1 => by
      rcases set_at hx1 with ⟨rfl, rfl⟩ | ⟨hne, hx1⟩
      · rw [hf']; exact q3 _ x hx (fun _ => by omega)
      · exact q3 k' x1 hx1 (fun _ => by omega) }
theorem setDom (h : Flat p W B s t u) {k j : Nat} {x x' : Dom} {y : Value} (hx : s.doms[k]? = some x) (hj : j < 3)
    (hs : ([.int .i64 x.above, .int .i64 x.delay, .bool x.ret] : List Value).set j y = [.int .i64 x'.above, .int .i64 x'.delay, .bool x'.ret]) :
    Flat p (W.setCell ⟨p.g2, k * 3 + j, none⟩ y) B { s with doms := s.doms.set k x' } t u := by
  have hm : Moved [p.g2] W (W.setCell ⟨p.g2, k * 3 + j, none⟩ y) := Moved.setCell W (by simp) y
  have hg : p.g2 ∈ p.hs := by simp
  exact { h with
    e2 := by simpa using h.e2
    doms := row_set h.doms h.e2.symm hx hj (fun vs e _ => by have e' : vs = _ := e; subst e'; exact hs)
    clks := row_far h.clks hm h.n12
    rsts := row_far h.rsts hm h.n23.symm
    devs := row_far h.devs hm h.n24.symm
    frm := fun k' x1 hx1 => (h.frm k' x1 hx1).set hg (fun e => by injection e with e1; exact h.n12 e1.symm) y
    regs := fun k' x1 hx1 => (h.regs k' x1 hx1).set hg (fun e => by injection e with e1; exact h.n24 e1) y
    needs := fun k' x1 hx1 => (h.needs k' x1 hx1).set hg (fun e => by injection e with e1; exact h.n24 e1) y }
theorem setRst (h : Flat p W B s t u) {k j : Nat} {x x' : Rst} {y : Value} (hx : s.rsts[k]? = some x) (hj : j < 1)
    (hs : ([.int .i64 x.least] : List Value).set j y = [.int .i64 x'.least]) :
    Flat p (W.setCell ⟨p.g3, k * 1 + j, none⟩ y) B { s with rsts := s.rsts.set k x' } t u := by
  have hm : Moved [p.g3] W (W.setCell ⟨p.g3, k * 1 + j, none⟩ y) := Moved.setCell W (by simp) y
  have hg : p.g3 ∈ p.hs := by simp
  exact { h with
    e3 := by simpa using h.e3
    rsts := row_set h.rsts h.e3.symm hx hj (fun vs e _ => by have e' : vs = _ := e; subst e'; exact hs)
    clks := row_far h.clks hm h.n13
    doms := row_far h.doms hm h.n23
    devs := row_far h.devs hm h.n34.symm
    frm := fun k' x1 hx1 => (h.frm k' x1 hx1).set hg (fun e => by injection e with e1; exact h.n13 e1.symm) y
    regs := fun k' x1 hx1 => (h.regs k' x1 hx1).set hg (fun e => by injection e with e1; exact h.n34 e1) y
    needs := fun k' x1 hx1 => (h.needs k' x1 hx1).set hg (fun e => by injection e with e1; exact h.n34 e1) y }
theorem rows_far (h : Flat p W B s t u) {b : Nat} (hm : Moved [b] W W') (hb : b ∉ p.hs) :
    RowC ClkN 6 49 [] W' B p.v1 s.clks ∧ RowC DomC 3 51 [] W' B p.v2 s.doms ∧ RowC RstC 1 53 [] W' B p.v3 s.rsts ∧ RowC DevN 6 44 [] W' B p.v4 s.devs ∧ p.g1 ≠ b ∧ p.g4 ≠ b := by
  simp at hb
  exact ⟨row_far h.clks hm (by omega), row_far h.doms hm (by omega), row_far h.rsts hm (by omega), row_far h.devs hm (by omega), by omega, by omega⟩
theorem same_clk {k : Nat} {x x' : Clk} (h : RowC ClkN 6 49 [] W B p.v1 s.clks) (hx : s.clks[k]? = some x) (hw : ∀ vs, ClkN [] W x vs → ClkN [] W x' vs) : RowC ClkN 6 49 [] W B p.v1 (s.clks.set k x') := by
  obtain ⟨vss, hl, hc, ho⟩ := h
  refine ⟨vss, by simpa using hl, fun i y vs hy hv => ?_, by simpa using ho⟩
  rcases set_at hy with ⟨rfl, rfl⟩ | ⟨hne, hy⟩
  · exact ⟨(hc _ x vs hx hv).1, hw _ (hc _ x vs hx hv).2⟩
  · exact hc i y vs hy hv
theorem same_dev {k : Nat} {x x' : Dev} (h : RowC DevN 6 44 [] W B p.v4 s.devs) (hx : s.devs[k]? = some x) (hw : ∀ vs, DevN [] W x vs → DevN [] W x' vs) : RowC DevN 6 44 [] W B p.v4 (s.devs.set k x') := by
  obtain ⟨vss, hl, hc, ho⟩ := h
  refine ⟨vss, by simpa using hl, fun i y vs hy hv => ?_, by simpa using ho⟩
  rcases set_at hy with ⟨rfl, rfl⟩ | ⟨hne, hy⟩
  · exact ⟨(hc _ x vs hx hv).1, hw _ (hc _ x vs hx hv).2⟩
  · exact hc i y vs hy hv
theorem iv_set (xs : List Int) (i : Nat) (y : Int) : iv (xs.set i y) = (iv xs).set i (.int .i64 y) := by unfold iv; rw [List.map_set]
theorem rv_set {rs : List Rgs} {i : Nat} {r : Rgs} (h : rs[i]? = some r) (b : Bool) : rv (rs.set i { r with kept := b }) = (rv rs).set (i * 2 + 1) (.bool b) := by
  unfold rv
  rw [flat_set (sz := 2) (k := i) (j := 1) (vs := [Value.int .u32 r.reset, Value.bool r.kept]) (by intro vs hv; obtain ⟨_, _, rfl⟩ := List.mem_map.1 hv; rfl) (by rw [List.getElem?_map, h]; rfl) (by omega), List.map_set]
  rfl
/-- one input of one clock -/
theorem setFrm (h : Flat p W B s t u) {k i gi cap : Nat} {x : Clk} (y : Int) (hx : s.clks[k]? = some x) (hc : CellIn W p.hs p.g1 (k * 6 + 1) 3 1 x.frm.length (iv x.frm) (t k) (t (k + 1)) gi cap) :
    Flat p (W.setCell ⟨gi, i, none⟩ (.int .i64 y)) B { s with clks := s.clks.set k { x with frm := x.frm.set i y } } t u := by
  have hm : Moved [gi] W (W.setCell ⟨gi, i, none⟩ (.int .i64 y)) := Moved.setCell W (by simp) _
  obtain ⟨r1, r2, r3, r4, f1, f4⟩ := h.rows_far hm hc.cold
  have hk : k < p.n1 := by rw [← h.e1]; exact (List.getElem?_eq_some_iff.1 hx).1
  have b1 := hc.low.1
  have b2 := hc.lt
  have hd : ∀ {i : Nat}, i ≤ 2 * p.n4 → gi < u i := fun hi => by
    have := h.u0 hi
    have := up_mono h.tup (i := k + 1) (j := p.n1) (by omega) (by omega)
    omega
  have hl : ∀ {k' : Nat} {x1 : Dev}, s.devs[k']? = some x1 → k' < p.n4 := fun hx1 => by rw [← h.e4]; exact (List.getElem?_eq_some_iff.1 hx1).1
  exact { h with
    e1 := by simpa using h.e1
    clks := same_clk r1 hx (fun vs ⟨A, c, e⟩ => ⟨A, c, by rw [e]; simp⟩)
    doms := r2
    rsts := r3
    devs := r4
    frm := fun k' x1 hx1 => by
      rcases set_at hx1 with ⟨rfl, rfl⟩ | ⟨hne, hx1⟩
      · have := (hc.put (by simp) i (.int .i64 y)).shut
        rw [← iv_set] at this
        simpa using this
      · have hk' : k' < p.n1 := by rw [← h.e1]; exact (List.getElem?_eq_some_iff.1 hx1).1
        refine (h.frm k' x1 hx1).far hm f1 ?_
        rcases Nat.lt_or_ge k' k with hlt | hge
        · have := up_mono h.tup (i := k' + 1) (j := k) (by omega) (by omega)
          omega
        · have := up_mono h.tup (i := k + 1) (j := k') (by omega) (by omega)
          omega
    regs := fun k' x1 hx1 => (h.regs k' x1 hx1).far hm f4 (.inl (hd (by have := hl hx1; omega)))
    needs := fun k' x1 hx1 => (h.needs k' x1 hx1).far hm f4 (.inl (hd (by have := hl hx1; omega))) }
/-- one register of one device -/
theorem setReg (h : Flat p W B s t u) {k i gi cap : Nat} {x : Dev} {r : Rgs} (b : Bool) (hx : s.devs[k]? = some x) (hr : x.regs[i]? = some r) (hc : CellIn W p.hs p.g4 (k * 6 + 4) 56 2 x.regs.length (rv x.regs) (u (2 * k)) (u (2 * k + 1)) gi cap) :
    Flat p (W.setCell ⟨gi, i * 2 + 1, none⟩ (.bool b)) B { s with devs := s.devs.set k { x with regs := x.regs.set i { r with kept := b } } } t u := by
  have hm : Moved [gi] W (W.setCell ⟨gi, i * 2 + 1, none⟩ (.bool b)) := Moved.setCell W (by simp) _
  obtain ⟨r1, r2, r3, r4, f1, f4⟩ := h.rows_far hm hc.cold
  have hl : ∀ {k' : Nat} {x1 : Dev}, s.devs[k']? = some x1 → k' < p.n4 := fun hx1 => by rw [← h.e4]; exact (List.getElem?_eq_some_iff.1 hx1).1
  have hk := hl hx
  have b1 := hc.low.1
  have b2 := hc.lt
  have hd : ∀ {i : Nat}, i ≤ p.n1 → t i ≤ gi := fun hi => by
    have := h.u0 (k := 2 * k) (by omega)
    have := up_mono h.tup hi (Nat.le_refl _)
    omega
  have hu : ∀ {a c : Nat}, (c ≤ 2 * k ∧ a < c) ∨ (2 * k + 1 ≤ a ∧ a ≤ 2 * p.n4) → gi < u a ∨ u c ≤ gi := fun hac => by
    rcases hac with ⟨h1, h2⟩ | ⟨h1, h2⟩
    · have := up_mono h.uup h1 (by omega); omega
    · have := up_mono h.uup h1 h2; omega
  exact { h with
    e4 := by simpa using h.e4
    clks := r1
    doms := r2
    rsts := r3
    devs := same_dev r4 hx (fun vs ⟨A, c, A', c', e⟩ => ⟨A, c, A', c', by rw [e]; simp⟩)
    frm := fun k' x1 hx1 => by
      have hk' : k' < p.n1 := by rw [← h.e1]; exact (List.getElem?_eq_some_iff.1 hx1).1
      exact (h.frm k' x1 hx1).far hm f1 (.inr (hd (by omega)))
    regs := fun k' x1 hx1 => by
      rcases set_at hx1 with ⟨rfl, rfl⟩ | ⟨hne, hx1⟩
      · have := (hc.put (by simp) (i * 2 + 1) (.bool b)).shut
        rw [← rv_set hr] at this
        simpa using this
      · have := hl hx1
        exact (h.regs k' x1 hx1).far hm f4 (hu (by omega))
    needs := fun k' x1 hx1 => by
      rcases set_at hx1 with ⟨rfl, rfl⟩ | ⟨hne, hx1⟩
      · exact (h.needs _ x hx).far hm f4 (hu (by omega))
      · have := hl hx1
        exact (h.needs k' x1 hx1).far hm f4 (hu (by omega)) }

/-- the world moved beside one inner row of the device k, or nowhere -/
theorem beside (h : Flat p W B s t u) {k : Nat} {o : Option Nat} (hk : k < p.n4) (hm : Moved o.toList W W') (hf : ∀ b, o = some b → u (2 * k + 1) ≤ b ∧ b < u (2 * k + 2) ∧ b ∉ p.hs) :
    RowC ClkN 6 49 [] W' B p.v1 s.clks ∧ RowC DomC 3 51 [] W' B p.v2 s.doms ∧ RowC RstC 1 53 [] W' B p.v3 s.rsts ∧ RowC DevN 6 44 [] W' B p.v4 s.devs ∧
    (∀ (k' : Nat) (x : Clk), s.clks[k']? = some x → CellAt W' p.hs p.g1 (k' * 6 + 1) 3 1 x.frm.length (iv x.frm) (t k') (t (k' + 1))) ∧
    (∀ (k' : Nat) (x : Dev), s.devs[k']? = some x → CellAt W' p.hs p.g4 (k' * 6 + 4) 56 2 x.regs.length (rv x.regs) (u (2 * k')) (u (2 * k' + 1))) ∧
    (∀ (k' : Nat) (x : Dev), k' ≠ k → s.devs[k']? = some x → CellAt W' p.hs p.g4 (k' * 6 + 5) 3 1 x.needs.length (iv x.needs) (u (2 * k' + 1)) (u (2 * k' + 2))) := by
  cases o with
  | none =>
    have h' := h.calm hm
    exact ⟨h'.clks, h'.doms, h'.rsts, h'.devs, h'.frm, h'.regs, fun k' x _ hx => h'.needs k' x hx⟩
  | some b =>
    obtain ⟨b1, b2, b3⟩ := hf b rfl
    have hm' : Moved [b] W W' := hm
    obtain ⟨r1, r2, r3, r4, f1, f4⟩ := h.rows_far hm' b3
    have hl : ∀ {k' : Nat} {x1 : Dev}, s.devs[k']? = some x1 → k' < p.n4 := fun hx1 => by rw [← h.e4]; exact (List.getElem?_eq_some_iff.1 hx1).1
    refine ⟨r1, r2, r3, r4, fun k' x hx => ?_, fun k' x hx => ?_, fun k' x hne hx => ?_⟩
    · have hk' : k' < p.n1 := by rw [← h.e1]; exact (List.getElem?_eq_some_iff.1 hx).1
      refine (h.frm k' x hx).far hm' f1 (.inr ?_)
      have := h.u0 (k := 2 * k + 1) (by omega)
      have := up_mono h.tup (i := k' + 1) (j := p.n1) (by omega) (by omega)
      omega
    · have := hl hx
      refine (h.regs k' x hx).far hm' f4 ?_
      rcases Nat.lt_or_ge k k' with hlt | hge
      · have := up_mono h.uup (i := 2 * k + 2) (j := 2 * k') (by omega) (by omega); omega
      · have := up_mono h.uup (i := 2 * k' + 1) (j := 2 * k + 1) (by omega) (by omega); omega
    · have := hl hx
      refine (h.needs k' x hx).far hm' f4 ?_
      rcases Nat.lt_or_ge k k' with hlt | hge
      · have := up_mono h.uup (i := 2 * k + 2) (j := 2 * k' + 1) (by omega) (by omega); omega
      · have := up_mono h.uup (i := 2 * k' + 2) (j := 2 * k + 1) (by omega) (by omega); omega
theorem pushNeed (h : Flat p W B s t u) {k : Nat} {x : Dev} {v v6 : Value} {W5 w6 : World} {y : Int} (hx : s.devs[k]? = some x) (hk : k + 1 = p.n4)
    (h0 : W.cell? ⟨p.g4, k * 6 + 5, none⟩ = some v) (h1 : W.frozen? ⟨p.g4, k * 6 + 5, none⟩ = false) (hr : W.ownsRow (u (2 * k + 1)) 3 1 v x.needs.length (iv x.needs)) (hf : ∀ g', v.ownBlock = some g' → g' < u (2 * k + 2) ∧ g' ∉ p.hs)
    (hM : Moved [] W W5) (ho6 : w6.ownsRow (u (2 * k + 1)) 3 1 v6 (x.needs.length + 1) (iv x.needs ++ [.int .i64 y])) (hg6 : W5.grownBy w6 v.ownBlock) (hb6 : v6.ownBlock = v.ownBlock ∨ v6.ownBlock = some W5.heap.size) (hl : ∀ b, b ∈ p.hs → b < W5.heap.size) :
    ∃ u', Flat p (w6.setCell ⟨p.g4, k * 6 + 5, none⟩ v6) B { s with devs := s.devs.set k { x with needs := x.needs ++ [y] } } t u' := by
  have hmv : Moved v.ownBlock.toList W w6 := (hM.mono (by simp)).trans (Moved.of_grown hg6 (fun b hb => by simp [hb]))
  have hfb : ∀ b, v.ownBlock = some b → u (2 * k + 1) ≤ b ∧ b < u (2 * k + 2) ∧ b ∉ p.hs := fun b hb => ⟨(hr.lt b hb).1, (hf b hb).1, (hf b hb).2⟩
  obtain ⟨r1, r2, r3, r4, q1, q2, q3⟩ := h.beside (by omega) hmv hfb
  have hlt : ∀ {k' : Nat} {x1 : Dev}, s.devs[k']? = some x1 → k' < p.n4 := fun hx1 => by rw [← h.e4]; exact (List.getElem?_eq_some_iff.1 hx1).1
  have hcold : p.g4 ∉ v.ownBlock.toList := fun hm => (hf p.g4 (by simpa using hm)).2 (by simp)
  have hl4 : p.g4 < W.heap.size := World.block_lt_of_cell? W ⟨p.g4, k * 6 + 5, none⟩ h0
  have c0 : w6.cell? ⟨p.g4, k * 6 + 5, none⟩ = some v := hmv.cell h0 hcold
  have c1 : w6.frozen? ⟨p.g4, k * 6 + 5, none⟩ = false := (hmv.frozen (p := ⟨p.g4, k * 6 + 5, none⟩) hl4 hcold).trans h1
  have hm : Moved [p.g4] w6 (w6.setCell ⟨p.g4, k * 6 + 5, none⟩ v6) := Moved.setCell w6 (by simp) v6
  obtain ⟨A6, c6, rfl⟩ := own_shape' ho6
  have hc6 : ∀ g', (Value.slice A6 (x.needs.length + 1) c6).ownBlock = some g' → g' ∉ p.hs := fun g' hg' hm => by
    rcases hb6 with e | e
    · exact (hf g' (e ▸ hg')).2 hm
    · rw [hg'] at e
      injection e with e
      have := hl g' hm
      omega
  have hg4 : p.g4 ∈ p.hs := by simp
  refine ⟨fun i => if i = 2 * p.n4 then max (u (2 * p.n4)) w6.heap.size else u i, ?_⟩
  exact { h with
    e4 := by simpa using h.e4
    clks := row_far r1 hm h.n14
    doms := row_far r2 hm h.n24
    rsts := row_far r3 hm h.n34
    devs := row_set r4 h.e4.symm hx (by omega) (fun vs ⟨A, c, A', c', e⟩ _ => ⟨A, c, A6, c6, by rw [e]; simp⟩)
    frm := fun k' x1 hx1 => (q1 k' x1 hx1).set hg4 (fun e => by injection e with e1; exact h.n14 e1.symm) _
    regs := fun k' x1 hx1 => by
      have key : ∀ y1 : Dev, s.devs[k']? = some y1 → CellAt (w6.setCell ⟨p.g4, k * 6 + 5, none⟩ (.slice A6 (x.needs.length + 1) c6)) p.hs p.g4 (k' * 6 + 4) 56 2 y1.regs.length (rv y1.regs) (if 2 * k' = 2 * p.n4 then max (u (2 * p.n4)) w6.heap.size else u (2 * k')) (if 2 * k' + 1 = 2 * p.n4 then max (u (2 * p.n4)) w6.heap.size else u (2 * k' + 1)) := fun y1 hy1 => by
        have := hlt hy1
        rw [if_neg (by omega), if_neg (by omega)]
        exact (q2 k' y1 hy1).set hg4 (fun e => by injection e with _ e2; omega) _
      rcases set_at hx1 with ⟨rfl, rfl⟩ | ⟨hne, hx1⟩
      · exact key x hx
      · exact key x1 hx1
    needs := fun k' x1 hx1 => by
      rcases set_at hx1 with ⟨rfl, rfl⟩ | ⟨hne, hx1⟩
      · have e5 : 2 * k' + 2 = 2 * p.n4 := by omega
        show CellAt _ p.hs p.g4 (k' * 6 + 5) 3 1 (x.needs ++ [y]).length (iv (x.needs ++ [y])) (if 2 * k' + 1 = 2 * p.n4 then _ else _) (if 2 * k' + 2 = 2 * p.n4 then _ else _)
        rw [if_neg (by omega), if_pos e5, iv_snoc, List.length_append]
        exact CellAt.new c0 c1 ho6 (Nat.le_refl _) (Nat.le_max_right _ _) hc6 hg4
      · have := hlt hx1
        show CellAt _ p.hs p.g4 (k' * 6 + 5) 3 1 _ _ (if 2 * k' + 1 = 2 * p.n4 then _ else _) (if 2 * k' + 2 = 2 * p.n4 then _ else _)
        rw [if_neg (by omega), if_neg (by omega)]
        exact (q3 k' x1 hne hx1).set hg4 (fun e => by injection e with _ e2; omega) _
    uup := fun i hi => by
      show (if i = 2 * p.n4 then _ else u i) ≤ (if i + 1 = 2 * p.n4 then _ else u (i + 1))
      rw [if_neg (by omega)]
      have := h.uup i hi
      by_cases he : i + 1 = 2 * p.n4
      · rw [if_pos he, ← he]; exact Nat.le_trans this (Nat.le_max_left _ _)
      · rw [if_neg he]; exact this
    tu := by
      show t p.n1 ≤ (if 0 = 2 * p.n4 then _ else u 0)
      rw [if_neg (by omega)]; exact h.tu }
/-- what conf.Copy leaves, boxed -/
theorem make {w w' : World} {s : Chip} {g1 g2 g3 g4 n1 n2 n3 n4 c1 c2 c3 c4 : Nat} (h1 : n1 = s.clks.length) (h2 : n2 = s.doms.length) (h3 : n3 = s.rsts.length) (h4 : n4 = s.devs.length)
    (ho : Own4 w' w.heap.size s (.slice (some ⟨g1, 0, none⟩) n1 c1) (.slice (some ⟨g2, 0, none⟩) n2 c2) (.slice (some ⟨g3, 0, none⟩) n3 c3) (.slice (some ⟨g4, 0, none⟩) n4 c4))
    (hr : ∃ b2 b3 t u, FromsAt w w' b2 b3 s (.slice (some ⟨g1, 0, none⟩) n1 c1) (.slice (some ⟨g2, 0, none⟩) n2 c2) (.slice (some ⟨g3, 0, none⟩) n3 c3) (.slice (some ⟨g4, 0, none⟩) n4 c4) t s.clks.length ∧ DevsAt w' b2 b3 s (.slice (some ⟨g1, 0, none⟩) n1 c1) (.slice (some ⟨g2, 0, none⟩) n2 c2) (.slice (some ⟨g3, 0, none⟩) n3 c3) (.slice (some ⟨g4, 0, none⟩) n4 c4) (t s.clks.length) u (2 * s.devs.length)) (o : Obj) :
    ∃ t u, Flat ⟨w'.heap.size, g1, g2, g3, g4, n1, n2, n3, n4, c1, c2, c3, c4⟩ (w'.alloc o) w.heap.size s t u ∧ u (2 * n4) ≤ w'.heap.size := by
  obtain ⟨b2, b3, t, u, hf, hd⟩ := hr
  have hm : Moved [] w' (w'.alloc o) := Moved.alloc w' o
  obtain ⟨_, _, _, _, l1⟩ := ho.clks.shape
  obtain ⟨_, _, _, _, l2⟩ := ho.doms.shape
  obtain ⟨_, _, _, _, l3⟩ := ho.rsts.shape
  obtain ⟨_, _, _, _, l4⟩ := ho.devs.shape
  have m1 := (l1 g1 rfl).2
  have m2 := (l2 g2 rfl).2
  have m3 := (l3 g3 rfl).2
  have m4 := (l4 g4 rfl).2
  have tl := hf.last
  have ul := hd.last
  have hot : ∀ {hi lo : Nat}, hi ≤ w'.heap.size → ∀ b, b ∈ [w'.heap.size, g1, g2, g3, g4] → b ∈ b2 :: b3 :: hot4 (.slice (some ⟨g1, 0, none⟩) n1 c1) (.slice (some ⟨g2, 0, none⟩) n2 c2) (.slice (some ⟨g3, 0, none⟩) n3 c3) (.slice (some ⟨g4, 0, none⟩) n4 c4) ∨ hi ≤ b ∨ b < lo := fun hle b hb => by
    rcases List.mem_cons.1 hb with e | hb
    · exact .inr (.inl (by omega))
    · left
      simp [hot4, Value.ownBlock] at hb ⊢
      omega
  refine ⟨t, u, ⟨h1.symm, h2.symm, h3.symm, h4.symm, ?_, row_calm (ho.doms.free (fun _ _ => rfl)) hm, row_calm (ho.rsts.free (fun _ _ => rfl)) hm, ?_, by simp only; omega, by simp only; omega, by simp only; omega, by simp only; omega,
    fun e => ho.n12 g1 rfl (by show some g2 = some g1; exact congrArg some e.symm), fun e => ho.n13 g1 rfl (by show some g3 = some g1; exact congrArg some e.symm), fun e => ho.n14 g1 rfl (by show some g4 = some g1; exact congrArg some e.symm), fun e => ho.n23 g2 rfl (by show some g3 = some g2; exact congrArg some e.symm), fun e => ho.n24 g2 rfl (by show some g4 = some g2; exact congrArg some e.symm), fun e => ho.n34 g3 rfl (by show some g4 = some g3; exact congrArg some e.symm),
    fun k x hx => ?_, fun k x hx => ?_, fun k x hx => ?_, fun k hk => hf.up k (by rw [← h1]; exact hk), fun k hk => hd.up k (by rw [← h4]; exact hk), by show t n1 ≤ u 0; rw [h1]; exact hd.zero, hf.zero⟩, by rw [h4]; exact ul⟩
  · exact row_calm (ho.clks.weak (D := ClkN) (hot' := []) (fun x vs ⟨A, c, e, _⟩ => ⟨A, c, e⟩)) hm
  · exact row_calm (ho.devs.weak (D := DevN) (hot' := []) (fun x vs ⟨A, c, A', c', e, _⟩ => ⟨A, c, A', c', e⟩)) hm
  · have hk := (List.getElem?_eq_some_iff.1 hx).1
    exact ((hf.row k hk x g1 hx rfl).turn (hot (Nat.le_trans (up_mono (n := s.clks.length) hf.up (i := k + 1) (by omega) (Nat.le_refl _)) tl))).calm hm
  · have hk := (List.getElem?_eq_some_iff.1 hx).1
    exact ((hd.regs k (by omega) x g4 hx rfl).turn (hot (Nat.le_trans (up_mono (n := 2 * s.devs.length) hd.up (i := 2 * k + 1) (by omega) (Nat.le_refl _)) ul))).calm hm
  · have hk := (List.getElem?_eq_some_iff.1 hx).1
    exact ((hd.needs k (by omega) x g4 hx rfl).turn (hot (Nat.le_trans (up_mono (n := 2 * s.devs.length) hd.up (i := 2 * k + 2) (by omega) (Nat.le_refl _)) ul))).calm hm
end Flat

end Go.Proofs.Ytkhfcbcanbplgaa
