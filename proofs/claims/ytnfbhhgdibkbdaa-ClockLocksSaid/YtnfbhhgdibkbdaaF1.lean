/- What a description that came in as an argument holds. -/
import Derived.Test.YtnfbhhgdibkbdaaF0
import Derived.Lib.SmallJoins
import Derived.Deep.Slices
namespace Go.Proofs.Ytnfbhhgdibkbdaa
set_option linter.unusedSimpArgs false
set_option linter.unusedVariables false
open Go.ChangeShapes Go.WideShapes Go.ChangeAt Go.RowKit Go.Deep Go.Joins

instance : Inhabited Clk := ⟨⟨0, [], 0, 0, 0, 0⟩⟩
instance : Inhabited Dom := ⟨⟨0, 0, false⟩⟩
instance : Inhabited Rst := ⟨⟨0⟩⟩
instance : Inhabited Rgs := ⟨⟨0, false⟩⟩
instance : Inhabited Dev := ⟨⟨0, 0, 0, 0, [], []⟩⟩
/-! what numbers and lengths there may be -/
def u32I (x : Int) : Prop := 0 ≤ x ∧ x ≤ 4294967295
def u64I (x : Int) : Prop := 0 ≤ x ∧ x ≤ 18446744073709551615
structure ClkW (x : Clk) : Prop where
  kind : 0 ≤ x.kind ∧ x.kind ≤ 255
  rate : u64I x.rate
  mul : wfI x.mul
  div : wfI x.div
  lock : wfI x.lock
  len : x.frm.length ≤ maxLen
  frm : ∀ y, y ∈ x.frm → wfI y
structure DomW (x : Dom) : Prop where
  above : wfI x.above
  delay : wfI x.delay
structure RstW (x : Rst) : Prop where
  least : wfI x.least
structure RgsW (x : Rgs) : Prop where
  reset : u32I x.reset
structure DevW (x : Dev) : Prop where
  clock : wfI x.clock
  domain : wfI x.domain
  rst : wfI x.rst
  clamp : u32I x.clamp
  rlen : x.regs.length ≤ maxLen
  regs : ∀ y, y ∈ x.regs → RgsW y
  nlen : x.needs.length ≤ maxLen
  needs : ∀ y, y ∈ x.needs → wfI y
structure ChipW (s : Chip) : Prop where
  l1 : s.clks.length ≤ maxLen
  l2 : s.doms.length ≤ maxLen
  l3 : s.rsts.length ≤ maxLen
  l4 : s.devs.length ≤ maxLen
  clks : ∀ x, x ∈ s.clks → ClkW x
  doms : ∀ x, x ∈ s.doms → DomW x
  rsts : ∀ x, x ∈ s.rsts → RstW x
  devs : ∀ x, x ∈ s.devs → DevW x

theorem wf_u32 {x : Int} (h : (Lit.int .u32 x).wf = true) : u32I x := by
  have h1 : IntKind.u32.min = 0 := rfl
  have h2 : IntKind.u32.max = 4294967295 := rfl
  simp only [Lit.wf, Bool.and_eq_true, decide_eq_true_eq] at h
  unfold u32I
  omega
theorem wf_u64 {x : Int} (h : (Lit.int .u64 x).wf = true) : u64I x := by
  have h1 : IntKind.u64.min = 0 := rfl
  have h2 : IntKind.u64.max = 18446744073709551615 := rfl
  simp only [Lit.wf, Bool.and_eq_true, decide_eq_true_eq] at h
  unfold u64I
  omega
theorem wf_u8 {x : Int} (h : (Lit.int .u8 x).wf = true) : 0 ≤ x ∧ x ≤ 255 := by
  have h1 : IntKind.u8.min = 0 := rfl
  have h2 : IntKind.u8.max = 255 := rfl
  simp only [Lit.wf, Bool.and_eq_true, decide_eq_true_eq] at h
  omega

section
variable {H : Type} {enc : TypeId × Value → H} {W : World}
theorem ints_read {n : Nat} {v : Value} {y : DataW H × List MemPlace} (h : DataW.trod enc Try.prog W 0 (fun _ => true) true n 35 [v] = some y) :
    ∃ A len cap, ∃ xs : List Int, v = .slice A len cap ∧ xs.length = len ∧ len ≤ cap ∧ len ≤ maxLen ∧ IntsAt W W.heap.size A xs ∧ ∀ x, x ∈ xs → wfI x := by
  have hv : ∃ A len cap, v = .slice A len cap ∧ len ≤ cap := by
    rcases open_ints Try.underlying35 Try.underlying3 Try.cellsN3 h with ⟨hcs, _⟩ | ⟨a, len', cap', zs, hcs, _, hl, _⟩
    · exact ⟨_, _, _, by simpa using hcs, Nat.le_refl _⟩
    · exact ⟨_, _, _, by simpa using hcs, hl⟩
  obtain ⟨A, len, cap, rfl, hc⟩ := hv
  obtain ⟨xs, h1, h2, h3, h4⟩ := ints_arg (d := y.1) (p := y.2) ⟨n, h⟩
  exact ⟨A, len, cap, xs, rfl, h1, hc, by unfold maxLen; omega, h3, h4⟩

/-- a slice of structs, its elements read one by one -/
theorem strs_read {α : Type} [Inhabited α] {V : Reads α} {Q : α → Prop} {t e sz n : Nat} {v : Value} {y : DataW H × List MemPlace} (ht : Try.prog.underlying t = some (.slice e)) (hC : Try.prog.cellsOf e = sz) (hsz : 0 < sz)
    (hr : ∀ (m : Nat) (cs : List Value) (z : DataW H × List MemPlace), cs.length = sz → DataW.trod enc Try.prog W 0 (fun _ => true) true m e cs = some z → ∃ x : α, Q x ∧ V W W.heap.size x cs)
    (h : DataW.trod enc Try.prog W 0 (fun _ => true) true n t [v] = some y) :
    ∃ A len cap, ∃ xs : List α, v = .slice A len cap ∧ xs.length = len ∧ len ≤ cap ∧ len ≤ maxLen ∧ StrsAt V sz W W.heap.size A xs ∧ ∀ x, x ∈ xs → Q x := by
  rcases open_slice ht h with ⟨hcs, _⟩ | ⟨a, len, cap, m, k, D, Pl, hcs, _, hl, hm, hmm, _, hx⟩
  · exact ⟨none, 0, 0, [], by simpa using hcs, rfl, Nat.le_refl _, Nat.zero_le _, fun h0 => absurd h0 (by simp), by simp⟩
  · simp only [if_true] at hmm
    subst hmm
    have each : ∀ i, i < m → ∃ x : α, Q x ∧ ∃ vs, V W W.heap.size x vs ∧ AggAt W (a.add (i * sz)) vs ∧ vs.length = sz := fun i hi => by
      obtain ⟨cs', h1, h2⟩ := hx i hi
      rw [hC] at h1
      obtain ⟨_, hlen, hat⟩ := World.cells?_some h1
      obtain ⟨x, hq, hv⟩ := hr _ cs' _ hlen h2
      refine ⟨x, hq, cs', hv, fun j u hj => ?_, hlen⟩
      have hjl := (List.getElem?_eq_some_iff.1 hj).1
      rw [hat j (by omega), hj]
    obtain ⟨f, hf⟩ := choose_lt each
    refine ⟨some a, len, m, (List.range len).map f, by simpa using hcs, by simp, hl, by omega, fun h0 => ?_, fun x hx' => ?_⟩
    · simp at h0
      refine ⟨a, rfl, ?_, fun i x hi => ?_⟩
      · obtain ⟨_, vs, _, hat, hvl⟩ := hf 0 (by omega)
        have := cell_lt (hat 0 _ (List.getElem?_eq_getElem (by omega)))
        rwa [block_add, block_add] at this
      · rw [List.getElem?_map] at hi
        have hil : i < len := by
          rcases Nat.lt_or_ge i len with hlt | hge
          · exact hlt
          · rw [List.getElem?_eq_none (by simpa using hge)] at hi; cases hi
        rw [List.getElem?_range hil] at hi
        obtain rfl : f i = x := Option.some.inj hi
        obtain ⟨_, vs, hv, hat, _⟩ := hf i (by omega)
        exact ⟨vs, hv, hat⟩
    · obtain ⟨i, hi, rfl⟩ := List.mem_map.1 hx'
      exact (hf i (by have := List.mem_range.1 hi; omega)).1
theorem Try.cells46 : Try.prog.cellsOf 46 = 6 := by kernel_rfl
theorem Try.cells75 : Try.prog.cellsOf 75 = 3 := by kernel_rfl
theorem Try.cells80 : Try.prog.cellsOf 80 = 1 := by kernel_rfl
theorem Try.cells86 : Try.prog.cellsOf 86 = 6 := by kernel_rfl
theorem Try.cells90 : Try.prog.cellsOf 90 = 2 := by kernel_rfl
theorem Try.cells5 : Try.prog.cellsOf 5 = 1 := by kernel_rfl
theorem Try.cells44 : Try.prog.cellsOf 44 = 1 := by kernel_rfl
theorem Try.cells4 : Try.prog.cellsOf 4 = 1 := by kernel_rfl
theorem Try.cells83 : Try.prog.cellsOf 83 = 1 := by kernel_rfl
theorem Try.cells84 : Try.prog.cellsOf 84 = 1 := by kernel_rfl
/-- one field of a struct -/
theorem fld_read {m : Nat} {t : TypeId} {cs : List Value} {xs : List (DataW H × List MemPlace)} {i : Nat} {v : Value} (h : DataW.trod enc Try.prog W 0 (fun _ => true) true m t ((cs.drop i).take (Try.prog.cellsOf t)) = xs[i]?) (hc : Try.prog.cellsOf t = 1) (hv : cs[i]? = some v) (hl : i < xs.length) :
    ∃ y, DataW.trod enc Try.prog W 0 (fun _ => true) true m t [v] = some y := by
  obtain ⟨hi, e⟩ := List.getElem?_eq_some_iff.1 hv
  rw [hc, List.drop_eq_getElem_cons hi, List.getElem?_eq_getElem hl, e] at h
  exact ⟨_, h⟩
theorem int_read {m : Nat} {t : TypeId} {k : IntKind} {v : Value} {y : DataW H × List MemPlace} (ht : Try.prog.underlying t = some (.int k)) (h : DataW.trod enc Try.prog W 0 (fun _ => true) true m t [v] = some y) : ∃ n, v = .int k n ∧ (Lit.int k n).wf = true := by
  obtain ⟨n, e, -, hw⟩ := DataW.trod_int ht h
  exact ⟨n, by simpa using e, hw⟩
theorem bool_read {m : Nat} {v : Value} {y : DataW H × List MemPlace} (h : DataW.trod enc Try.prog W 0 (fun _ => true) true m 4 [v] = some y) : ∃ b, v = .bool b := by
  obtain ⟨b, e, -⟩ := DataW.trod_bool Try.underlying4 h
  exact ⟨b, by simpa using e⟩
set_option maxRecDepth 100000 in
theorem clk_read (m : Nat) (cs : List Value) (z : DataW H × List MemPlace) (hl : cs.length = 6) (h : DataW.trod enc Try.prog W 0 (fun _ => true) true m 46 cs = some z) : ∃ x : Clk, ClkW x ∧ ClkV W W.heap.size x cs := by
  obtain ⟨ys, n, -, -, -, hyl, hf⟩ := DataW.trod_struct Try.underlying46 h
  match cs, hl with
  | [c0, c1, c2, c3, c4, c5], _ =>
    obtain ⟨y0, g0⟩ := fld_read (hf 0 _ rfl) Try.cells5 rfl (by rw [hyl]; decide)
    obtain ⟨y1, g1⟩ := fld_read (hf 1 _ rfl) Try.cellsN35 rfl (by rw [hyl]; decide)
    obtain ⟨y2, g2⟩ := fld_read (hf 2 _ rfl) Try.cells44 rfl (by rw [hyl]; decide)
    obtain ⟨y3, g3⟩ := fld_read (hf 3 _ rfl) Try.cellsN3 rfl (by rw [hyl]; decide)
    obtain ⟨y4, g4⟩ := fld_read (hf 4 _ rfl) Try.cellsN3 rfl (by rw [hyl]; decide)
    obtain ⟨y5, g5⟩ := fld_read (hf 5 _ rfl) Try.cellsN3 rfl (by rw [hyl]; decide)
    obtain ⟨k, rfl, w0⟩ := int_read Try.underlying5 g0
    obtain ⟨A, len, cap, xs, rfl, rfl, hc, hm, hi, hw⟩ := ints_read g1
    obtain ⟨r, rfl, w2⟩ := int_read Try.underlying44 g2
    obtain ⟨a, rfl, w3⟩ := int_read Try.underlying3 g3
    obtain ⟨b, rfl, w4⟩ := int_read Try.underlying3 g4
    obtain ⟨c, rfl, w5⟩ := int_read Try.underlying3 g5
    exact ⟨⟨k, xs, r, a, b, c⟩, ⟨wf_u8 w0, wf_u64 w2, wf_bounds w3, wf_bounds w4, wf_bounds w5, hm, hw⟩, A, cap, rfl, hc, hi⟩
set_option maxRecDepth 100000 in
theorem dom_read (m : Nat) (cs : List Value) (z : DataW H × List MemPlace) (hl : cs.length = 3) (h : DataW.trod enc Try.prog W 0 (fun _ => true) true m 75 cs = some z) : ∃ x : Dom, DomW x ∧ DomV W W.heap.size x cs := by
  obtain ⟨ys, n, -, -, -, hyl, hf⟩ := DataW.trod_struct Try.underlying75 h
  match cs, hl with
  | [c0, c1, c2], _ =>
    obtain ⟨y0, g0⟩ := fld_read (hf 0 _ rfl) Try.cellsN3 rfl (by rw [hyl]; decide)
    obtain ⟨y1, g1⟩ := fld_read (hf 1 _ rfl) Try.cellsN3 rfl (by rw [hyl]; decide)
    obtain ⟨y2, g2⟩ := fld_read (hf 2 _ rfl) Try.cells4 rfl (by rw [hyl]; decide)
    obtain ⟨a, rfl, w0⟩ := int_read Try.underlying3 g0
    obtain ⟨b, rfl, w1⟩ := int_read Try.underlying3 g1
    obtain ⟨c, rfl⟩ := bool_read g2
    exact ⟨⟨a, b, c⟩, ⟨wf_bounds w0, wf_bounds w1⟩, rfl⟩
set_option maxRecDepth 100000 in
theorem rst_read (m : Nat) (cs : List Value) (z : DataW H × List MemPlace) (hl : cs.length = 1) (h : DataW.trod enc Try.prog W 0 (fun _ => true) true m 80 cs = some z) : ∃ x : Rst, RstW x ∧ RstV W W.heap.size x cs := by
  obtain ⟨ys, n, -, -, -, hyl, hf⟩ := DataW.trod_struct Try.underlying80 h
  match cs, hl with
  | [c0], _ =>
    obtain ⟨y0, g0⟩ := fld_read (hf 0 _ rfl) Try.cellsN3 rfl (by rw [hyl]; decide)
    obtain ⟨a, rfl, w0⟩ := int_read Try.underlying3 g0
    exact ⟨⟨a⟩, ⟨wf_bounds w0⟩, rfl⟩
set_option maxRecDepth 100000 in
theorem rgs_read (m : Nat) (cs : List Value) (z : DataW H × List MemPlace) (hl : cs.length = 2) (h : DataW.trod enc Try.prog W 0 (fun _ => true) true m 90 cs = some z) : ∃ x : Rgs, RgsW x ∧ RgsV W W.heap.size x cs := by
  obtain ⟨ys, n, -, -, -, hyl, hf⟩ := DataW.trod_struct Try.underlying90 h
  match cs, hl with
  | [c0, c1], _ =>
    obtain ⟨y0, g0⟩ := fld_read (hf 0 _ rfl) Try.cells83 rfl (by rw [hyl]; decide)
    obtain ⟨y1, g1⟩ := fld_read (hf 1 _ rfl) Try.cells4 rfl (by rw [hyl]; decide)
    obtain ⟨a, rfl, w0⟩ := int_read Try.underlying83 g0
    obtain ⟨c, rfl⟩ := bool_read g1
    exact ⟨⟨a, c⟩, ⟨wf_u32 w0⟩, rfl⟩
set_option maxRecDepth 100000 in
theorem dev_read (m : Nat) (cs : List Value) (z : DataW H × List MemPlace) (hl : cs.length = 6) (h : DataW.trod enc Try.prog W 0 (fun _ => true) true m 86 cs = some z) : ∃ x : Dev, DevW x ∧ DevV W W.heap.size x cs := by
  obtain ⟨ys, n, -, -, -, hyl, hf⟩ := DataW.trod_struct Try.underlying86 h
  match cs, hl with
  | [c0, c1, c2, c3, c4, c5], _ =>
    obtain ⟨y0, g0⟩ := fld_read (hf 0 _ rfl) Try.cellsN3 rfl (by rw [hyl]; decide)
    obtain ⟨y1, g1⟩ := fld_read (hf 1 _ rfl) Try.cellsN3 rfl (by rw [hyl]; decide)
    obtain ⟨y2, g2⟩ := fld_read (hf 2 _ rfl) Try.cellsN3 rfl (by rw [hyl]; decide)
    obtain ⟨y3, g3⟩ := fld_read (hf 3 _ rfl) Try.cells83 rfl (by rw [hyl]; decide)
    obtain ⟨y4, g4⟩ := fld_read (hf 4 _ rfl) Try.cells84 rfl (by rw [hyl]; decide)
    obtain ⟨y5, g5⟩ := fld_read (hf 5 _ rfl) Try.cellsN35 rfl (by rw [hyl]; decide)
    obtain ⟨a, rfl, w0⟩ := int_read Try.underlying3 g0
    obtain ⟨b, rfl, w1⟩ := int_read Try.underlying3 g1
    obtain ⟨c, rfl, w2⟩ := int_read Try.underlying3 g2
    obtain ⟨d, rfl, w3⟩ := int_read Try.underlying83 g3
    obtain ⟨A, len, cap, rs, rfl, rfl, hc, hm, hi, hw⟩ := strs_read (V := RgsV) (Q := RgsW) Try.underlying84 Try.cells90 (by omega) rgs_read g4
    obtain ⟨A', len', cap', xs, rfl, rfl, hc', hm', hi', hw'⟩ := ints_read g5
    exact ⟨⟨a, b, c, d, rs, xs⟩, ⟨wf_bounds w0, wf_bounds w1, wf_bounds w2, wf_u32 w3, hm, hw, hm', hw'⟩, A, cap, A', cap', rfl, hc, hc', hi, hi'⟩
set_option maxRecDepth 100000 in
theorem soc_arg {b0 : Nat} {v : Value} {d : DataW H} {p : List MemPlace} (hv : Value.okWide Try.prog W .any b0 27 v) (h : DataW.Trod enc Try.prog W 0 (fun _ => true) true 27 v d p) :
    ∃ (s : Chip) (vs : List Value), v = .agg vs.toArray ∧ ChipW s ∧ ChipV W W.heap.size s vs := by
  obtain ⟨v0, v1, v2, v3, y0, y1, y2, y3, n, rfl, -, -, g0, g1, g2, g3⟩ := open_agg4 Try.underlying27 (by kernel_rfl) (by kernel_rfl) hv h
  obtain ⟨A1, n1, c1, l1, rfl, rfl, k1, m1, h1, w1⟩ := strs_read (V := ClkV) (Q := ClkW) Try.underlying22 Try.cells46 (by omega) clk_read g0
  obtain ⟨A2, n2, c2, l2, rfl, rfl, k2, m2, h2, w2⟩ := strs_read (V := DomV) (Q := DomW) Try.underlying23 Try.cells75 (by omega) dom_read g1
  obtain ⟨A3, n3, c3, l3, rfl, rfl, k3, m3, h3, w3⟩ := strs_read (V := RstV) (Q := RstW) Try.underlying24 Try.cells80 (by omega) rst_read g2
  obtain ⟨A4, n4, c4, l4, rfl, rfl, k4, m4, h4, w4⟩ := strs_read (V := DevV) (Q := DevW) Try.underlying25 Try.cells86 (by omega) dev_read g3
  exact ⟨⟨l1, l2, l3, l4⟩, _, rfl, ⟨m1, m2, m3, m4, w1, w2, w3, w4⟩, A1, c1, A2, c2, A3, c3, A4, c4, rfl, k1, k2, k3, k4, h1, h2, h3, h4⟩
end

end Go.Proofs.Ytnfbhhgdibkbdaa
