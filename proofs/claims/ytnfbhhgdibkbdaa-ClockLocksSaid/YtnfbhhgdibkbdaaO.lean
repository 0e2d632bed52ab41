/- Rows of structs that the call owns, and what they lead to, while some blocks are written. -/
import Derived.Test.YtnfbhhgdibkbdaaW10
namespace Go.Proofs.Ytnfbhhgdibkbdaa
set_option linter.unusedSimpArgs false
set_option linter.unusedVariables false
open Go.RowKit

/-- of all blocks that were, only the hot ones may have turned -/
structure Moved (hot : List Nat) (w w' : World) : Prop where
  os : w'.os = w.os
  tape : w'.tape = w.tape
  output : w'.output = w.output
  size : w.heap.size ≤ w'.heap.size
  block : ∀ k, k < w.heap.size → k ∉ hot → w'.heap[k]? = w.heap[k]?
namespace Moved
variable {hot hot' : List Nat} {w w' w'' : World} {B b : Nat}
theorem refl (hot : List Nat) (w : World) : Moved hot w w := ⟨rfl, rfl, rfl, Nat.le_refl _, fun _ _ _ => rfl⟩
theorem trans (h : Moved hot w w') (k : Moved hot w' w'') : Moved hot w w'' :=
  ⟨k.os.trans h.os, k.tape.trans h.tape, k.output.trans h.output, Nat.le_trans h.size k.size, fun i hi hn => (k.block i (Nat.lt_of_lt_of_le hi h.size) hn).trans (h.block i hi hn)⟩
theorem mono (h : Moved hot w w') (hs : ∀ k, k ∈ hot → k ∈ hot') : Moved hot' w w' := ⟨h.os, h.tape, h.output, h.size, fun k hk hn => h.block k hk fun hh => hn (hs k hh)⟩
theorem of_below (h : Below w.heap.size w w') : Moved hot w w' := ⟨h.os, h.tape, h.output, h.size, fun k hk _ => h.block k hk⟩
theorem of_grown {row : Option Nat} (h : w.grownBy w' row) (hr : ∀ k, row = some k → k ∈ hot) : Moved hot w w' :=
  ⟨h.os, h.tape, h.output, h.size, fun k hk hn => h.block k hk fun e => hn (hr k e.symm)⟩
theorem alloc (w : World) (o : Obj) : Moved hot w (w.alloc o) := of_below ((Below.refl _ _).alloc (Nat.le_refl _) o)
theorem setCell (w : World) {p : Addr} (hp : p.block ∈ hot) (u : Value) : Moved hot w (w.setCell p u) :=
  ⟨rfl, rfl, rfl, by rw [size_setCell]; exact Nat.le_refl _, fun k _ hn => Below.heap_setCell w p u k fun e => hn (e ▸ hp)⟩
theorem drop (h : Moved (b :: hot) w w') (hb : w.heap.size ≤ b) : Moved hot w w' :=
  ⟨h.os, h.tape, h.output, h.size, fun k hk hn => h.block k hk fun hh => (List.mem_cons.1 hh).elim (fun e => by omega) hn⟩
theorem below (h : Moved hot w w') (hh : ∀ k, k ∈ hot → B ≤ k) (hB : B ≤ w.heap.size) : Below B w w' :=
  ⟨h.os, h.tape, h.output, h.size, fun k hk => h.block k (by omega) fun hm => by have := hh k hm; omega⟩
theorem cell (h : Moved hot w w') {p : Addr} {v : Value} (hc : w.cell? p = some v) (hp : p.block ∉ hot) : w'.cell? p = some v :=
  (World.cell?_of_block (h.block p.block (World.block_lt_of_cell? w p hc) hp)).trans hc
theorem frozen (h : Moved hot w w') {p : Addr} (hl : p.block < w.heap.size) (hp : p.block ∉ hot) : w'.frozen? p = w.frozen? p :=
  World.frozen?_of_block (h.block p.block hl hp)
end Moved

/-- ints that lie in no hot block -/
def IntsC (hot : List Nat) (w : World) (A : Option Addr) (xs : List Int) : Prop :=
  0 < xs.length → ∃ ad, A = some ad ∧ ad.block < w.heap.size ∧ ad.block ∉ hot ∧ ∀ j x, xs[j]? = some x → w.cell? (ad.add j) = some (.int .i64 x)
def RegsC (hot : List Nat) (w : World) (A : Option Addr) (rs : List Rgs) : Prop :=
  0 < rs.length → ∃ ad, A = some ad ∧ ad.block < w.heap.size ∧ ad.block ∉ hot ∧ ∀ k x, rs[k]? = some x → AggAt w (ad.add (k * 2)) [.int .u32 x.reset, .bool x.kept]
section
variable {hot hot' : List Nat} {w w' : World} {A : Option Addr} {xs : List Int} {rs : List Rgs} {b : Nat}
theorem IntsC.move (h : IntsC hot w A xs) (hm : Moved hot w w') : IntsC hot w' A xs := fun hl => by
  obtain ⟨ad, e, h1, h2, h3⟩ := h hl
  exact ⟨ad, e, Nat.lt_of_lt_of_le h1 hm.size, h2, fun j x hj => hm.cell (h3 j x hj) (by rw [block_add]; exact h2)⟩
theorem IntsC.less (h : IntsC hot w A xs) (hs : ∀ k, k ∈ hot' → k ∈ hot) : IntsC hot' w A xs := fun hl => by
  obtain ⟨ad, e, h1, h2, h3⟩ := h hl
  exact ⟨ad, e, h1, fun hh => h2 (hs _ hh), h3⟩
theorem IntsC.more (h : IntsC hot w A xs) (hb : w.heap.size ≤ b) : IntsC (b :: hot) w A xs := fun hl => by
  obtain ⟨ad, e, h1, h2, h3⟩ := h hl
  exact ⟨ad, e, h1, fun hh => (List.mem_cons.1 hh).elim (fun e => by omega) h2, h3⟩
theorem IntsC.ints (h : IntsC hot w A xs) : IntsAt w w.heap.size A xs := fun hl => by
  obtain ⟨ad, e, h1, h2, h3⟩ := h hl
  exact ⟨ad, e, h1, h3⟩
theorem RegsC.move (h : RegsC hot w A rs) (hm : Moved hot w w') : RegsC hot w' A rs := fun hl => by
  obtain ⟨ad, e, h1, h2, h3⟩ := h hl
  exact ⟨ad, e, Nat.lt_of_lt_of_le h1 hm.size, h2, fun k x hk j v hj => hm.cell (h3 k x hk j v hj) (by rw [block_add, block_add]; exact h2)⟩
theorem RegsC.less (h : RegsC hot w A rs) (hs : ∀ k, k ∈ hot' → k ∈ hot) : RegsC hot' w A rs := fun hl => by
  obtain ⟨ad, e, h1, h2, h3⟩ := h hl
  exact ⟨ad, e, h1, fun hh => h2 (hs _ hh), h3⟩
theorem RegsC.more (h : RegsC hot w A rs) (hb : w.heap.size ≤ b) : RegsC (b :: hot) w A rs := fun hl => by
  obtain ⟨ad, e, h1, h2, h3⟩ := h hl
  exact ⟨ad, e, h1, fun hh => (List.mem_cons.1 hh).elim (fun e => by omega) h2, h3⟩
theorem RegsC.strs (h : RegsC hot w A rs) : StrsAt RgsV 2 w w.heap.size A rs := fun hl => by
  obtain ⟨ad, e, h1, h2, h3⟩ := h hl
  exact ⟨ad, e, h1, fun k x hk => ⟨_, rfl, h3 k x hk⟩⟩
end

abbrev ReadsC (α : Type) := List Nat → World → α → List Value → Prop
class SteadyC {α : Type} (C : ReadsC α) (V : outParam (Reads α)) : Prop where
  move : ∀ {hot : List Nat} {w w' : World} {x : α} {vs : List Value}, C hot w x vs → Moved hot w w' → C hot w' x vs
  less : ∀ {hot hot' : List Nat} {w : World} {x : α} {vs : List Value}, C hot w x vs → (∀ k, k ∈ hot' → k ∈ hot) → C hot' w x vs
  more : ∀ {hot : List Nat} {w : World} {b : Nat} {x : α} {vs : List Value}, C hot w x vs → w.heap.size ≤ b → C (b :: hot) w x vs
  reads : ∀ {hot : List Nat} {w : World} {x : α} {vs : List Value}, C hot w x vs → V w w.heap.size x vs
def ClkC : ReadsC Clk := fun hot w x vs => ∃ A c, vs = [.int .u8 x.kind, .slice A x.frm.length c, .int .u64 x.rate, .int .i64 x.mul, .int .i64 x.div, .int .i64 x.lock] ∧ x.frm.length ≤ c ∧ IntsC hot w A x.frm
def DomC : ReadsC Dom := fun _ _ x vs => vs = [.int .i64 x.above, .int .i64 x.delay, .bool x.ret]
def RstC : ReadsC Rst := fun _ _ x vs => vs = [.int .i64 x.least]
def RgsC : ReadsC Rgs := fun _ _ x vs => vs = [.int .u32 x.reset, .bool x.kept]
def DevC : ReadsC Dev := fun hot w x vs => ∃ A c A' c', vs = [.int .i64 x.clock, .int .i64 x.domain, .int .i64 x.rst, .int .u32 x.clamp, .slice A x.regs.length c, .slice A' x.needs.length c'] ∧ x.regs.length ≤ c ∧ x.needs.length ≤ c' ∧
  RegsC hot w A x.regs ∧ IntsC hot w A' x.needs
instance : SteadyC ClkC ClkV := ⟨fun ⟨A, c, e, h1, h2⟩ hm => ⟨A, c, e, h1, h2.move hm⟩, fun ⟨A, c, e, h1, h2⟩ hs => ⟨A, c, e, h1, h2.less hs⟩, fun ⟨A, c, e, h1, h2⟩ hb => ⟨A, c, e, h1, h2.more hb⟩, fun ⟨A, c, e, h1, h2⟩ => ⟨A, c, e, h1, h2.ints⟩⟩
instance : SteadyC DomC DomV := ⟨fun h _ => h, fun h _ => h, fun h _ => h, fun h => h⟩
instance : SteadyC RstC RstV := ⟨fun h _ => h, fun h _ => h, fun h _ => h, fun h => h⟩
instance : SteadyC RgsC RgsV := ⟨fun h _ => h, fun h _ => h, fun h _ => h, fun h => h⟩
instance : SteadyC DevC DevV := ⟨fun ⟨A, c, A', c', e, h1, h2, h3, h4⟩ hm => ⟨A, c, A', c', e, h1, h2, h3.move hm, h4.move hm⟩, fun ⟨A, c, A', c', e, h1, h2, h3, h4⟩ hs => ⟨A, c, A', c', e, h1, h2, h3.less hs, h4.less hs⟩,
  fun ⟨A, c, A', c', e, h1, h2, h3, h4⟩ hb => ⟨A, c, A', c', e, h1, h2, h3.more hb, h4.more hb⟩, fun ⟨A, c, A', c', e, h1, h2, h3, h4⟩ => ⟨A, c, A', c', e, h1, h2, h3.strs, h4.ints⟩⟩

/-- a row of structs that the call owns, block B or later; what they lead to lies in no hot block -/
def RowC {α : Type} (C : ReadsC α) (sz : Nat) (e : TypeId) (hot : List Nat) (w : World) (B : Nat) (v : Value) (xs : List α) : Prop :=
  ∃ vss : List (List Value), vss.length = xs.length ∧ (∀ (k : Nat) (x : α) (vs : List Value), xs[k]? = some x → vss[k]? = some vs → vs.length = sz ∧ C hot w x vs) ∧ w.ownsRow B e sz v xs.length vss.flatten

theorem flat_get {vss : List (List Value)} {sz : Nat} (h : ∀ vs, vs ∈ vss → vs.length = sz) : ∀ {k j : Nat} {vs : List Value} {v : Value}, vss[k]? = some vs → vs[j]? = some v → vss.flatten[k * sz + j]? = some v := by
  induction vss with
  | nil => intro k j vs v hk; simp at hk
  | cons x l ih =>
    intro k j vs v hk hj
    have hx : x.length = sz := h x (by simp)
    cases k with
    | zero =>
      simp at hk
      subst hk
      have hjl := (List.getElem?_eq_some_iff.1 hj).1
      rw [List.flatten_cons, Nat.zero_mul, Nat.zero_add, List.getElem?_append_left hjl]
      exact hj
    | succ k =>
      have := ih (fun vs hv => h vs (by simp [hv])) (k := k) (j := j) (by simpa using hk) hj
      rw [List.flatten_cons, List.getElem?_append_right (by rw [hx]; simp [Nat.add_mul]; omega), hx]
      rwa [show (k + 1) * sz + j - sz = k * sz + j by rw [Nat.add_mul]; omega]

theorem own_move {w w' : World} {B n sz : Nat} {e : TypeId} {v : Value} {xs : List Value} (h : w.ownsRow B e sz v n xs) (hk : ∀ g, v.ownBlock = some g → w'.heap[g]? = w.heap[g]?) : w'.ownsRow B e sz v n xs := by
  refine ⟨h.1, ?_⟩
  rcases h.2 with h | ⟨g, cap, cur, rfl, h2, h3, r⟩
  · exact .inl h
  · exact .inr ⟨g, cap, cur, rfl, h2, (hk g rfl).trans h3, r⟩
theorem own_base' {w : World} {base base' n sz : Nat} {e : TypeId} {v : Value} {xs : List Value} (h : w.ownsRow base e sz v n xs) (hb : base' ≤ base) : w.ownsRow base' e sz v n xs := by
  refine ⟨h.1, ?_⟩
  rcases h.2 with h | ⟨g, cap, cur, h1, h2, r⟩
  · exact .inl h
  · exact .inr ⟨g, cap, cur, h1, by omega, r⟩

section
variable {α : Type} {C : ReadsC α} {sz : Nat} {e : TypeId} {hot hot' : List Nat} {w w' : World} {B b : Nat} {v : Value} {xs : List α}
theorem RowC.len {α : Type} {C : ReadsC α} {sz : Nat} {e : TypeId} {hot : List Nat} {w : World} {B : Nat} {v : Value} {xs : List α} {vss : List (List Value)} (hl : vss.length = xs.length)
    (h : ∀ (k : Nat) (x : α) (vs : List Value), xs[k]? = some x → vss[k]? = some vs → vs.length = sz ∧ C hot w x vs) : ∀ vs, vs ∈ vss → vs.length = sz := by
  intro vs hv
  obtain ⟨k, hk, rfl⟩ := List.mem_iff_getElem.1 hv
  exact (h k xs[k] _ (List.getElem?_eq_getElem (by omega)) (List.getElem?_eq_getElem hk)).1
theorem RowC.shape {α : Type} {C : ReadsC α} {sz : Nat} {e : TypeId} {hot : List Nat} {w : World} {B : Nat} {v : Value} {xs : List α} (h : RowC C sz e hot w B v xs) : ∃ A c, v = .slice A xs.length c ∧ xs.length ≤ c ∧ ∀ g, v.ownBlock = some g → B ≤ g ∧ g < w.heap.size := by
  obtain ⟨vss, _, _, ho⟩ := h
  obtain ⟨A, c, rfl⟩ := own_shape' ho
  exact ⟨A, c, rfl, own_cap ho, fun g hg => ho.lt g hg⟩
theorem RowC.strs {V : Reads α} [sc : SteadyC C V] (h : RowC C sz e hot w B v xs) : ∃ A c, v = .slice A xs.length c ∧ xs.length ≤ c ∧ StrsAt V sz w w.heap.size A xs := by
  obtain ⟨vss, hl, hc, ho⟩ := h
  obtain ⟨A, c, rfl⟩ := own_shape' ho
  refine ⟨A, c, rfl, own_cap ho, fun hp => ?_⟩
  rcases ho.2 with ⟨_, h0⟩ | ⟨g, cap, cur, h1, h2, h3, r⟩
  · omega
  · injection h1 with h1 _ _
    subst h1
    refine ⟨_, rfl, ?_, fun k x hk => ?_⟩
    · rcases Nat.lt_or_ge g w.heap.size with hlt | hge
      · exact hlt
      · rw [Array.getElem?_eq_none hge] at h3; cases h3
    · have hkl : k < vss.length := by rw [hl]; exact (List.getElem?_eq_some_iff.1 hk).1
      have hvs : vss[k]? = some vss[k] := List.getElem?_eq_getElem hkl
      refine ⟨vss[k], sc.reads (hc k x _ hk hvs).2, fun j v hj => ?_⟩
      have := ho.cells (g := g) rfl (k * sz + j) v (flat_get (RowC.len (e := e) (B := B) (v := v) hl hc) hvs hj)
      rw [Addr.add_lit, Nat.zero_add] at this
      rw [Addr.add_lit, Addr.add_lit, Nat.zero_add]
      exact this
theorem RowC.move {V : Reads α} [sc : SteadyC C V] (h : RowC C sz e hot w B v xs) (hm : Moved hot w w') (hk : ∀ g, v.ownBlock = some g → w'.heap[g]? = w.heap[g]?) : RowC C sz e hot w' B v xs := by
  obtain ⟨vss, hl, hc, ho⟩ := h
  exact ⟨vss, hl, fun k x vs h1 h2 => ⟨(hc k x vs h1 h2).1, sc.move (hc k x vs h1 h2).2 hm⟩, own_move ho hk⟩
theorem RowC.less {V : Reads α} [sc : SteadyC C V] (h : RowC C sz e hot w B v xs) (hs : ∀ k, k ∈ hot' → k ∈ hot) : RowC C sz e hot' w B v xs := by
  obtain ⟨vss, hl, hc, ho⟩ := h
  exact ⟨vss, hl, fun k x vs h1 h2 => ⟨(hc k x vs h1 h2).1, sc.less (hc k x vs h1 h2).2 hs⟩, ho⟩
theorem RowC.more {V : Reads α} [sc : SteadyC C V] (h : RowC C sz e hot w B v xs) (hb : w.heap.size ≤ b) : RowC C sz e (b :: hot) w B v xs := by
  obtain ⟨vss, hl, hc, ho⟩ := h
  exact ⟨vss, hl, fun k x vs h1 h2 => ⟨(hc k x vs h1 h2).1, sc.more (hc k x vs h1 h2).2 hb⟩, ho⟩
theorem RowC.base {α : Type} {C : ReadsC α} {sz : Nat} {e : TypeId} {hot : List Nat} {w : World} {B B' : Nat} {v : Value} {xs : List α} (h : RowC C sz e hot w B v xs) (hb : B' ≤ B) : RowC C sz e hot w B' v xs := by
  obtain ⟨vss, hl, hc, ho⟩ := h
  exact ⟨vss, hl, hc, own_base' ho hb⟩
theorem RowC.nil (C : ReadsC α) (sz : Nat) (e : TypeId) (hot : List Nat) (w : World) (B : Nat) : RowC C sz e hot w B (.slice none 0 0) [] :=
  ⟨[], rfl, fun k x vs hk => by simp at hk, World.ownsRow_nil _ _ _ _⟩
/-- one more struct -/
theorem RowC.push {V : Reads α} [sc : SteadyC C V] {vss : List (List Value)} {v' : Value} {x : α} {vs : List Value} (hl : vss.length = xs.length) (hc : ∀ (k : Nat) (x : α) (vs : List Value), xs[k]? = some x → vss[k]? = some vs → vs.length = sz ∧ C hot w x vs)
    (hvs : vs.length = sz) (hx : C hot w x vs) (hm : Moved hot w w') (ho : w'.ownsRow B e sz v' (xs.length + 1) (vss.flatten ++ vs)) : RowC C sz e hot w' B v' (xs ++ [x]) := by
  refine ⟨vss ++ [vs], by simp [hl], fun k y us hk hu => ?_, ?_⟩
  · by_cases hlt : k < xs.length
    · rw [List.getElem?_append_left hlt] at hk
      rw [List.getElem?_append_left (by omega)] at hu
      exact ⟨(hc k y us hk hu).1, sc.move (hc k y us hk hu).2 hm⟩
    · have : k = xs.length := by have := (List.getElem?_eq_some_iff.1 hk).1; simp at this; omega
      subst this
      rw [List.getElem?_append_right (by omega)] at hk
      rw [List.getElem?_append_right (by omega)] at hu
      simp at hk
      simp [hl] at hu
      subst hk
      subst hu
      exact ⟨hvs, sc.move hx hm⟩
  · rw [List.length_append, List.flatten_append]
    simpa using ho
end

end Go.Proofs.Ytnfbhhgdibkbdaa
