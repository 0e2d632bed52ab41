/- What a chip is, plainly, and that it lies in memory: slices of structs, cell by cell. -/
import Derived.Test.YtnfbhhgdibkbdaaW5
namespace Go.Proofs.Ytnfbhhgdibkbdaa
set_option linter.unusedSimpArgs false
set_option linter.unusedVariables false
open Go.RowKit

structure Clk where
  kind : Int
  frm : List Int
  rate : Int
  mul : Int
  div : Int
  lock : Int
structure Dom where
  above : Int
  delay : Int
  ret : Bool
structure Rst where
  least : Int
structure Rgs where
  reset : Int
  kept : Bool
structure Dev where
  clock : Int
  domain : Int
  rst : Int
  clamp : Int
  regs : List Rgs
  needs : List Int
structure Chip where
  clks : List Clk
  doms : List Dom
  rsts : List Rst
  devs : List Dev

/-- the cells from p on hold these values -/
def AggAt (w : World) (p : Addr) (vs : List Value) : Prop := ∀ j v, vs[j]? = some v → w.cell? (p.add j) = some v

theorem AggAt.keep {w w' : World} {B : Nat} {p : Addr} {vs : List Value} (h : AggAt w p vs) (hp : p.block < B) (hk : ∀ p : Addr, p.block < B → w'.cell? p = w.cell? p) : AggAt w' p vs :=
  fun j v hj => (hk _ (by rw [block_add]; exact hp)).trans (h j v hj)
theorem AggAt.zero {w : World} {p : Addr} {v : Value} {vs : List Value} (h : AggAt w p (v :: vs)) : w.cell? p = some v := by
  have := h 0 v rfl
  simpa [Addr.add] using this
theorem AggAt.at_ {w : World} {p : Addr} {vs : List Value} (h : AggAt w p vs) (j : Nat) {v : Value} (hj : vs[j + 1]? = some v) : w.cell? ⟨p.block, p.off + (j + 1), none⟩ = some v := by
  have := h (j + 1) v hj
  simpa [Addr.add] using this

/-- how a struct's cells read, in a world, below a block -/
abbrev Reads (α : Type) := World → Nat → α → List Value → Prop
class Steady {α : Type} (V : Reads α) : Prop where
  keep : ∀ {w w' : World} {B : Nat} {x : α} {vs : List Value}, V w B x vs → (∀ p : Addr, p.block < B → w'.cell? p = w.cell? p) → V w' B x vs
  more : ∀ {w : World} {B C : Nat} {x : α} {vs : List Value}, V w B x vs → B ≤ C → V w C x vs

def ClkV : Reads Clk := fun w B x vs => ∃ A c, vs = [.int .u8 x.kind, .slice A x.frm.length c, .int .u64 x.rate, .int .i64 x.mul, .int .i64 x.div, .int .i64 x.lock] ∧ x.frm.length ≤ c ∧ IntsAt w B A x.frm
def DomV : Reads Dom := fun _ _ x vs => vs = [.int .i64 x.above, .int .i64 x.delay, .bool x.ret]
def RstV : Reads Rst := fun _ _ x vs => vs = [.int .i64 x.least]
def RgsV : Reads Rgs := fun _ _ x vs => vs = [.int .u32 x.reset, .bool x.kept]

/-- the slice address A leads to structs of sz cells each -/
def StrsAt {α : Type} (V : Reads α) (sz : Nat) (w : World) (B : Nat) (A : Option Addr) (xs : List α) : Prop :=
  0 < xs.length → ∃ ad, A = some ad ∧ ad.block < B ∧ ∀ k x, xs[k]? = some x → ∃ vs, V w B x vs ∧ AggAt w (ad.add (k * sz)) vs

def DevV : Reads Dev := fun w B x vs => ∃ A c A' c', vs = [.int .i64 x.clock, .int .i64 x.domain, .int .i64 x.rst, .int .u32 x.clamp, .slice A x.regs.length c, .slice A' x.needs.length c'] ∧ x.regs.length ≤ c ∧ x.needs.length ≤ c' ∧
  StrsAt RgsV 2 w B A x.regs ∧ IntsAt w B A' x.needs

section
variable {α : Type} {V : Reads α} [sv : Steady V] {sz : Nat} {w w' : World} {B C : Nat} {A : Option Addr} {xs : List α}
theorem StrsAt.keep (h : StrsAt V sz w B A xs) (hk : ∀ p : Addr, p.block < B → w'.cell? p = w.cell? p) : StrsAt V sz w' B A xs := by
  intro hl
  obtain ⟨ad, e, hb, hc⟩ := h hl
  refine ⟨ad, e, hb, fun k x hx => ?_⟩
  obtain ⟨vs, h1, h2⟩ := hc k x hx
  exact ⟨vs, sv.keep h1 hk, h2.keep (by rw [block_add]; exact hb) hk⟩
theorem StrsAt.below (h : StrsAt V sz w B A xs) (hb : Below C w w') (hC : B ≤ C) : StrsAt V sz w' B A xs :=
  h.keep fun _ hp => hb.cell (by omega)
theorem StrsAt.more (h : StrsAt V sz w B A xs) (hC : B ≤ C) : StrsAt V sz w C A xs := by
  intro hl
  obtain ⟨ad, e, hb, hc⟩ := h hl
  refine ⟨ad, e, by omega, fun k x hx => ?_⟩
  obtain ⟨vs, h1, h2⟩ := hc k x hx
  exact ⟨vs, sv.more h1 hC, h2⟩
end

theorem StrsAt.at_ {α : Type} {V : Reads α} {sz : Nat} {w : World} {B : Nat} {A : Option Addr} {xs : List α} (h : StrsAt V sz w B A xs) {k : Nat} (hk : k < xs.length) : ∃ ad vs, A = some ad ∧ ad.block < B ∧ V w B xs[k] vs ∧ AggAt w (ad.add (k * sz)) vs := by
  obtain ⟨ad, e, hb, hc⟩ := h (by omega)
  obtain ⟨vs, h1, h2⟩ := hc k _ (List.getElem?_eq_getElem hk)
  exact ⟨ad, vs, e, hb, h1, h2⟩

instance : Steady ClkV := ⟨fun ⟨A, c, e, hc, h⟩ hk => ⟨A, c, e, hc, h.keep hk⟩, fun ⟨A, c, e, hc, h⟩ hC => ⟨A, c, e, hc, h.more hC⟩⟩
instance : Steady DomV := ⟨fun h _ => h, fun h _ => h⟩
instance : Steady RstV := ⟨fun h _ => h, fun h _ => h⟩
instance : Steady RgsV := ⟨fun h _ => h, fun h _ => h⟩
instance : Steady DevV := ⟨fun ⟨A, c, A', c', e, h1, h2, h3, h4⟩ hk => ⟨A, c, A', c', e, h1, h2, h3.keep hk, h4.keep hk⟩, fun ⟨A, c, A', c', e, h1, h2, h3, h4⟩ hC => ⟨A, c, A', c', e, h1, h2, h3.more hC, h4.more hC⟩⟩

/-- a chip, as its four slices -/
def ChipV : Reads Chip := fun w B s vs => ∃ A1 c1 A2 c2 A3 c3 A4 c4, vs = [.slice A1 s.clks.length c1, .slice A2 s.doms.length c2, .slice A3 s.rsts.length c3, .slice A4 s.devs.length c4] ∧
  s.clks.length ≤ c1 ∧ s.doms.length ≤ c2 ∧ s.rsts.length ≤ c3 ∧ s.devs.length ≤ c4 ∧
  StrsAt ClkV 6 w B A1 s.clks ∧ StrsAt DomV 3 w B A2 s.doms ∧ StrsAt RstV 1 w B A3 s.rsts ∧ StrsAt DevV 6 w B A4 s.devs
instance : Steady ChipV := ⟨fun ⟨A1, c1, A2, c2, A3, c3, A4, c4, e, l1, l2, l3, l4, h1, h2, h3, h4⟩ hk => ⟨A1, c1, A2, c2, A3, c3, A4, c4, e, l1, l2, l3, l4, h1.keep hk, h2.keep hk, h3.keep hk, h4.keep hk⟩,
  fun ⟨A1, c1, A2, c2, A3, c3, A4, c4, e, l1, l2, l3, l4, h1, h2, h3, h4⟩ hC => ⟨A1, c1, A2, c2, A3, c3, A4, c4, e, l1, l2, l3, l4, h1.more hC, h2.more hC, h3.more hC, h4.more hC⟩⟩
theorem Steady.below {α : Type} {V : Reads α} [sv : Steady V] {w w' : World} {B C : Nat} {x : α} {vs : List Value} (h : V w B x vs) (hb : Below C w w') (hC : B ≤ C) : V w' B x vs :=
  sv.keep h fun _ hp => hb.cell (by omega)
/-- below the heap's size, in a later world -/
theorem Steady.later {α : Type} {V : Reads α} [sv : Steady V] {w w' : World} {x : α} {vs : List Value} (h : V w w.heap.size x vs) (hb : Below w.heap.size w w') : V w' w'.heap.size x vs :=
  sv.more (Steady.below h hb (Nat.le_refl _)) hb.size

/-! the chapter's check, plainly -/
def firstE : List Int → Int
  | [] => 0
  | e :: l => if e = 0 then firstE l else e
theorem firstE_nil : firstE [] = 0 := rfl
theorem firstE_cons (e : Int) (l : List Int) : firstE (e :: l) = if e = 0 then firstE l else e := rfl
theorem firstE_append (l m : List Int) : firstE (l ++ m) = if firstE l = 0 then firstE m else firstE l := by
  induction l with
  | nil => simp [firstE]
  | cons e l ih => by_cases h : e = 0 <;> simp [firstE, h, ih]
def orE (b : Bool) (e : Int) : Int := if b then 0 else e
theorem orE_true (e : Int) : orE true e = 0 := rfl
theorem orE_false (e : Int) : orE false e = e := rfl
def betw (n a b : Int) : Bool := decide (a ≤ n ∧ n ≤ b)
theorem betw_yes {n a b : Int} (h : a ≤ n) (h' : n ≤ b) : betw n a b = true := by unfold betw; simp [h, h']
theorem betw_no {n a b : Int} (h : n < a ∨ b < n) : betw n a b = false := by unfold betw; simp; omega
theorem betw_iff {n a b : Int} : betw n a b = true ↔ a ≤ n ∧ n ≤ b := by unfold betw; simp
/-- all numbers are those of some of n parts -/
def nodesB (n : Nat) (xs : List Int) : Bool := xs.all fun x => betw x 0 (n - 1)
def joinedB (c : Clk) : Bool :=
  if c.kind = 111 then decide (c.frm.length = 0) else if c.kind = 112 ∨ c.kind = 100 ∨ c.kind = 103 then decide (c.frm.length = 1) else if c.kind = 109 then betw c.frm.length 1 4 else false
def rangeB (c : Clk) : Bool :=
  if c.kind = 111 then betw c.rate 1 1099511627776 else if c.kind = 112 then betw c.mul 1 1000 && betw c.div 1 1000 && betw c.lock 0 20 else if c.kind = 100 then betw c.div 1 1000 else true
def clkE (n : Nat) (c : Clk) : Int := firstE [orE (joinedB c) 1, orE (nodesB n c.frm) 4, orE (rangeB c) 3]
def domE (n : Nat) (d : Dom) : Int := firstE [orE (d.above == -1 || nodesB n [d.above]) 4, orE (betw d.delay 0 20) 3]
def rstE (r : Rst) : Int := firstE [orE (betw r.least 0 20) 3]
def devE (s : Chip) (d : Dev) : Int :=
  firstE [orE (nodesB s.clks.length [d.clock]) 4, orE (nodesB s.doms.length [d.domain]) 4, orE (nodesB s.rsts.length [d.rst]) 4, orE (nodesB s.devs.length d.needs) 4]
def overB (d : Dev) : Bool := decide (8 < d.regs.length) || decide (6 < d.needs.length)
def fitsB (s : Chip) : Bool := decide (s.clks.length ≤ 12) && decide (s.doms.length ≤ 6) && decide (s.rsts.length ≤ 6) && decide (s.devs.length ≤ 6) && !s.devs.any overB

/-- the graph of rows, as a function -/
def gOf (rows : List (List Int)) : Nat → List Int := fun i => rows.getD i []
def clksG (s : Chip) : List (List Int) := s.clks.map Clk.frm
def domsG (s : Chip) : List (List Int) := s.doms.map fun d => if d.above = -1 then [] else [d.above]
def devsG (s : Chip) : List (List Int) := s.devs.map Dev.needs
open Classical in
/-- what graph.Check tells of it -/
noncomputable def graphE (rows : List (List Int)) : Int := if h : ∃ E o, OrderSays rows.length (gOf rows) E o then h.choose else 0
theorem graphE_eq {rows : List (List Int)} {E : Int} {o : List Nat} (h : OrderSays rows.length (gOf rows) E o) : graphE rows = E := by
  have hx : ∃ E o, OrderSays rows.length (gOf rows) E o := ⟨E, o, h⟩
  unfold graphE
  rw [dif_pos hx]
  obtain ⟨o', h'⟩ := hx.choose_spec
  exact (h'.unique h).1

noncomputable def chipE (s : Chip) : Int :=
  firstE [orE (fitsB s) 8, firstE (s.clks.map (clkE s.clks.length)), graphE (clksG s), firstE (s.doms.map (domE s.doms.length)), graphE (domsG s), firstE (s.rsts.map rstE), firstE (s.devs.map (devE s)), graphE (devsG s)]

/-- no more is there than ints and memory have room for -/
structure ChipOk (s : Chip) : Prop where
  n1 : s.clks.length ≤ 1000
  n2 : s.doms.length ≤ 1000
  n3 : s.rsts.length ≤ 1000
  n4 : s.devs.length ≤ 1000
  clks : ∀ c, c ∈ s.clks → c.frm.length ≤ 1000 ∧ ∀ x, x ∈ c.frm → wfI x
  doms : ∀ d, d ∈ s.doms → wfI d.above
  devs : ∀ d, d ∈ s.devs → d.regs.length ≤ 1000 ∧ d.needs.length ≤ 1000 ∧ ∀ x, x ∈ d.needs → wfI x

end Go.Proofs.Ytnfbhhgdibkbdaa
