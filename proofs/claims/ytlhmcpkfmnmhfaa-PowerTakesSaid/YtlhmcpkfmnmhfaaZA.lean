/- How a grid stands in a statement's loop; acts that came in as an argument. -/
import Derived.Test.YtlhmcpkfmnmhfaaZ9
import Derived.Test.YtlhmcpkfmnmhfaaZ8
import Derived.Test.YtlhmcpkfmnmhfaaF1
namespace Go.Proofs.Ytlhmcpkfmnmhfaa
set_option linter.unusedSimpArgs false
set_option linter.unusedVariables false
open Go.ChangeShapes Go.WideShapes Go.ChangeAt Go.RowKit Go.Deep Go.Joins Go.Maps

theorem plain_doms {s : Chip} (h : Plain s) : DomsOk s.doms := ⟨h.nd, h.domA, h.domD⟩

/-- a grid in a statement: all that was ahead of it is as it was -/
structure Lw (w3 wr : World) (gt g c : Nat) (doms : List Dom) (sts : List Pst) : Prop where
  grid : GridIs wr gt g c sts
  inv : GInv doms sts
  ok : DomsOk doms
  bel : Below w3.heap.size w3 wr
  lo : w3.heap.size ≤ gt ∧ w3.heap.size ≤ g
namespace Lw
variable {w3 wr w' : World} {gt g c : Nat} {doms : List Dom} {sts sts' : List Pst}
theorem len (h : Lw w3 wr gt g c doms sts) : sts.length ≤ 4 := by have := h.ok.len; have := h.inv.len; omega
theorem size (h : Lw w3 wr gt g c doms sts) : w3.heap.size ≤ wr.heap.size := h.bel.size
theorem below (h : Lw w3 wr gt g c doms sts) (hm : Moved [g] wr w') : Below w3.heap.size w3 w' := h.bel.trans (hm.below (by simp; exact h.lo.2) h.bel.size)
theorem next (h : Lw w3 wr gt g c doms sts) (hg : GridIs w' gt g c sts') (hi : GInv doms sts') (hm : Moved [g] wr w') : Lw w3 w' gt g c doms sts' := ⟨hg, hi, h.ok, h.below hm, h.lo⟩
theorem calm (h : Lw w3 wr gt g c doms sts) (hm : Moved [] wr w') : Lw w3 w' gt g c doms sts := ⟨h.grid.move hm, h.inv, h.ok, h.bel.trans (hm.below (by simp) h.bel.size), h.lo⟩
theorem drewN (h : Lw w3 wr gt g c doms sts) (n : Nat) : Lw w3 (wr.drewN n) gt g c doms sts := h.calm ⟨rfl, rfl, rfl, Nat.le_refl _, fun _ _ _ => rfl⟩
theorem above (h : Lw w3 wr gt g c doms sts) : ∀ (k : Nat) (x : Pst), sts[k]? = some x → aboveOk sts.length x.dom.above := fun k x hx => by
  have h1 := h.inv.desc h.ok k x hx
  have h2 := get_lt' hx
  rcases h1 with h | h
  · exact .inl h
  · exact .inr (by omega)
theorem desc (h : Lw w3 wr gt g c doms sts) : Desc sts := h.inv.desc h.ok
theorem up (h : Lw w3 wr gt g c doms sts) (i : Int) : Calls Try.prog 13 #[.pointer (some ⟨gt, 0, none⟩), .int .i64 i] wr fun e w' => e = .returned (.int .i64 (upE sts i)) ∧ Lw w3 w' gt g c doms (upT sts i) ∧ Moved [g] wr w' :=
  (up_any gt g c sts i wr (by have := h.len; omega) h.grid h.above).mono fun e w' ⟨he, hg, hm⟩ => ⟨he, h.next hg (h.inv.up h.ok i) hm, hm⟩
theorem down (h : Lw w3 wr gt g c doms sts) (i : Int) (kp : Bool) : Calls Try.prog 14 #[.pointer (some ⟨gt, 0, none⟩), .int .i64 i, .bool kp] wr fun e w' => e = .returned (.int .i64 (downE sts i kp)) ∧ Lw w3 w' gt g c doms (downT sts i kp) ∧ Moved [g] wr w' :=
  (down_any gt g c sts i kp wr (by have := h.len; omega) h.grid).mono fun e w' ⟨he, hg, hm⟩ => ⟨he, h.next hg (h.inv.down h.ok i kp) hm, hm⟩
/-- what a tick leaves -/
def Told (w3 wr : World) (gt g c : Nat) (doms : List Dom) (sts : List Pst) (e : Ending) (w' : World) : Prop := ∃ v, e = .returned v ∧ EvRow w' wr.heap.size v (tickE sts) ∧ Lw w3 w' gt g c doms (tickT sts) ∧ Moved [g] wr w'
theorem tick (h : Lw w3 wr gt g c doms sts) : Calls Try.prog 15 #[.pointer (some ⟨gt, 0, none⟩)] wr (Told w3 wr gt g c doms sts) :=
  (tick_any gt g c sts wr (by have := h.len; omega) h.grid h.inv.lefts).mono fun e w' ⟨v, he, hv, hg, hm⟩ => ⟨v, he, hv, h.next hg h.inv.tick hm, hm⟩
theorem phase (h : Lw w3 wr gt g c doms sts) (i : Int) : Calls Try.prog 16 #[.pointer (some ⟨gt, 0, none⟩), .int .i64 i] wr fun e w' => e = .returned (.int .u8 (phaseP sts i)) ∧ wr = w' :=
  phase_any gt g c sts i wr (by have := h.len; omega) h.grid
theorem left (h : Lw w3 wr gt g c doms sts) (i : Int) : Calls Try.prog 28 #[.pointer (some ⟨gt, 0, none⟩), .int .i64 i] wr fun e w' => e = .returned (.int .i64 (leftP sts i)) ∧ wr = w' :=
  left_any gt g c sts i wr (by have := h.len; omega) h.grid
/-- what Chain leaves -/
def Chained (w3 wr : World) (gt g c : Nat) (doms : List Dom) (sts : List Pst) (l : List Int) (e : Ending) (w' : World) : Prop := ∃ A d, e = .returned (.slice A l.length d) ∧ IntsAt w' w'.heap.size A l ∧ Lw w3 w' gt g c doms sts ∧ Below wr.heap.size wr w'
theorem chain (h : Lw w3 wr gt g c doms sts) (i : Int) (hi : wfI i) : Calls Try.prog 17 #[.pointer (some ⟨gt, 0, none⟩), .int .i64 i] wr (Chained w3 wr gt g c doms sts (chainP sts i)) :=
  (chain_any gt g c sts i wr (by have := h.len; omega) hi h.grid h.desc).mono fun e w' ⟨A, d, he, ho, hb⟩ => ⟨A, d, he, IntsAt.of_own ho, h.calm (Moved.of_below hb), hb⟩
end Lw
theorem Lw.start {w3 w4 : World} {gt g c : Nat} {s : Chip} (h : Plain s) (hg : GridIs w4 gt g c (s.doms.map newP)) (h1 : w3.heap.size ≤ gt) (h2 : w3.heap.size ≤ g) (hb : Below w3.heap.size w3 w4) : Lw w3 w4 gt g c s.doms (s.doms.map newP) :=
  ⟨hg, GInv.start _, plain_doms h, hb, h1, h2⟩

structure Acts where
  op : Int
  d : Int
instance : Inhabited Acts := ⟨⟨0, 0⟩⟩
def ActV : Reads Acts := fun _ _ x vs => vs = [.int .i64 x.op, .int .i64 x.d]
instance : Steady ActV := ⟨fun h _ => h, fun h _ => h⟩
structure ActW (x : Acts) : Prop where
  op : wfI x.op
  d : wfI x.d
theorem Try.cells38 : Try.prog.cellsOf 38 = 2 := by kernel_rfl
section
variable {H : Type} {enc : TypeId × Value → H} {W : World}
set_option maxRecDepth 100000 in
theorem act_read (m : Nat) (cs : List Value) (z : DataW H × List MemPlace) (hl : cs.length = 2) (h : DataW.trod enc Try.prog W 0 (fun _ => true) true m 38 cs = some z) : ∃ x : Acts, ActW x ∧ ActV W W.heap.size x cs := by
  obtain ⟨ys, n, -, -, -, hyl, hf⟩ := DataW.trod_struct Try.underlying38 h
  match cs, hl with
  | [c0, c1], _ =>
    obtain ⟨y0, g0⟩ := fld_read (hf 0 _ rfl) Try.cellsN3 rfl (by rw [hyl]; decide)
    obtain ⟨y1, g1⟩ := fld_read (hf 1 _ rfl) Try.cellsN3 rfl (by rw [hyl]; decide)
    obtain ⟨a, rfl, w0⟩ := int_read Try.underlying3 g0
    obtain ⟨b, rfl, w1⟩ := int_read Try.underlying3 g1
    exact ⟨⟨a, b⟩, ⟨wf_bounds w0, wf_bounds w1⟩, rfl⟩
theorem acts_arg {a0 : Option Addr} {len cap : Nat} {d : DataW H} {p : List MemPlace} (h : DataW.Trod enc Try.prog W 0 (fun _ => true) true 23 (.slice a0 len cap) d p) :
    ∃ xs : List Acts, xs.length = len ∧ len ≤ maxLen ∧ StrsAt ActV 2 W W.heap.size a0 xs ∧ ∀ x, x ∈ xs → ActW x := by
  obtain ⟨n, hn⟩ := h
  have hn' : DataW.trod enc Try.prog W 0 (fun _ => true) true n 23 [.slice a0 len cap] = some (d, p) := by simpa [Value.cells] using hn
  obtain ⟨A, len', cap', xs, e, hl, hc, hm, hs, hw⟩ := strs_read (V := ActV) (Q := ActW) Try.underlying23 Try.cells38 (by omega) act_read hn'
  injection e with e1 e2 e3
  subst e1 e2 e3
  exact ⟨xs, hl, hm, hs, hw⟩
end

end Go.Proofs.Ytlhmcpkfmnmhfaa
