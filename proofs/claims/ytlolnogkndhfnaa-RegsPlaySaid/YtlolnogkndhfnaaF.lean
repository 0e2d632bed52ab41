/- What slices of ints, of words, and of structs, that came in as arguments hold. -/
import Derived.Test.YtlolnogkndhfnaaR6
import Derived.Deep.Matrix
import Derived.Deep.Slices
import Derived.Lib.SmallJoins
import Derived.ProofKit
namespace Go.Proofs.Ytlolnogkndhfnaa
set_option linter.unusedSimpArgs false
set_option linter.unusedVariables false
open Go.ChangeShapes Go.WideShapes Go.ChangeAt Go.RowKit Go.Deep Go.Joins

theorem Try.laidOut0 : laidOutB Try.prog = true := by kernel_rfl
theorem Try.cellsN3 : Try.prog.cellsOf 3 = 1 := by kernel_rfl
theorem Try.cells33 : Try.prog.cellsOf 33 = 1 := by kernel_rfl
theorem Try.cells4 : Try.prog.cellsOf 4 = 1 := by kernel_rfl
theorem Try.cells43 : Try.prog.cellsOf 43 = 2 := by kernel_rfl
theorem Try.cells35 : Try.prog.cellsOf 35 = 3 := by kernel_rfl
theorem wf_i64 {x : Int} (h : (Lit.int .i64 x).wf = true) : wfI x := by
  have h1 : IntKind.i64.min = -9223372036854775808 := rfl
  have h2 : IntKind.i64.max = 9223372036854775807 := rfl
  simp only [Lit.wf, Bool.and_eq_true, decide_eq_true_eq] at h
  unfold wfI
  omega
theorem wf_u32 {x : Int} (h : (Lit.int .u32 x).wf = true) : u32I x := by
  have h1 : IntKind.u32.min = 0 := rfl
  have h2 : IntKind.u32.max = 4294967295 := rfl
  simp only [Lit.wf, Bool.and_eq_true, decide_eq_true_eq] at h
  unfold u32I
  omega
structure RgsW (x : Rgs) : Prop where
  reset : u32I x.reset
section
variable {H : Type} {enc : TypeId × Value → H} {W : World}
/-- a slice of structs, its elements read one by one -/
theorem strs_read {α : Type} [Inhabited α] {V : Reads α} {Q : α → Prop} {t e sz n : Nat} {v : Value} {y : DataW H × List MemPlace} (ht : Try.prog.underlying t = some (.slice e)) (hC : Try.prog.cellsOf e = sz) (hsz : 0 < sz)
    (hr : ∀ (m : Nat) (cs : List Value) (z : DataW H × List MemPlace), cs.length = sz → DataW.trod enc Try.prog W 0 (fun _ => true) true m e cs = some z → ∃ x : α, Q x ∧ cs = V x)
    (h : DataW.trod enc Try.prog W 0 (fun _ => true) true n t [v] = some y) :
    ∃ A len cap, ∃ xs : List α, v = .slice A len cap ∧ xs.length = len ∧ len ≤ cap ∧ len ≤ maxLen ∧ StrsAt V sz W W.heap.size A xs ∧ ∀ x, x ∈ xs → Q x := by
  rcases open_slice ht h with ⟨hcs, _⟩ | ⟨a, len, cap, m, k, D, Pl, hcs, _, hl, hm, hmm, _, hx⟩
  · exact ⟨none, 0, 0, [], by simpa using hcs, rfl, Nat.le_refl _, Nat.zero_le _, fun h0 => absurd h0 (by simp), by simp⟩
  · simp only [if_true] at hmm
    subst hmm
    have each : ∀ i, i < m → ∃ x : α, Q x ∧ AggAt W (a.add (i * sz)) (V x) ∧ (V x).length = sz := fun i hi => by
      obtain ⟨cs', h1, h2⟩ := hx i hi
      rw [hC] at h1
      obtain ⟨_, hlen, hat⟩ := World.cells?_some h1
      obtain ⟨x, hq, hv⟩ := hr _ cs' _ hlen h2
      subst hv
      refine ⟨x, hq, fun j u hj => ?_, hlen⟩
      have hjl := (List.getElem?_eq_some_iff.1 hj).1
      rw [hat j (by omega), hj]
    obtain ⟨f, hf⟩ := choose_lt each
    refine ⟨some a, len, m, (List.range len).map f, by simpa using hcs, by simp, hl, by omega, fun h0 => ?_, fun x hx' => ?_⟩
    · simp at h0
      refine ⟨a, rfl, ?_, fun i x hi => ?_⟩
      · obtain ⟨_, hat, hvl⟩ := hf 0 (by omega)
        have := cell_lt (hat 0 _ (List.getElem?_eq_getElem (by omega)))
        rwa [block_add, block_add] at this
      · rw [List.getElem?_map] at hi
        have hil : i < len := by
          rcases Nat.lt_or_ge i len with hlt | hge
          · exact hlt
          · rw [List.getElem?_eq_none (by simpa using hge)] at hi; cases hi
        rw [List.getElem?_range hil] at hi
        obtain rfl : f i = x := Option.some.inj hi
        exact (hf i (by omega)).2.1
    · obtain ⟨i, hi, rfl⟩ := List.mem_map.1 hx'
      exact (hf i (by have := List.mem_range.1 hi; omega)).1
/-- one field of a struct -/
theorem fld_read {m : Nat} {t : TypeId} {cs : List Value} {xs : List (DataW H × List MemPlace)} {i : Nat} {v : Value} (h : DataW.trod enc Try.prog W 0 (fun _ => true) true m t ((cs.drop i).take (Try.prog.cellsOf t)) = xs[i]?) (hc : Try.prog.cellsOf t = 1) (hv : cs[i]? = some v) (hl : i < xs.length) :
    ∃ y, DataW.trod enc Try.prog W 0 (fun _ => true) true m t [v] = some y := by
  obtain ⟨hi, e⟩ := List.getElem?_eq_some_iff.1 hv
  rw [hc, List.drop_eq_getElem_cons hi, List.getElem?_eq_getElem hl, e] at h
  exact ⟨_, h⟩
theorem int_read {m : Nat} {t : TypeId} {k : IntKind} {v : Value} {y : DataW H × List MemPlace} (ht : Try.prog.underlying t = some (.int k)) (h : DataW.trod enc Try.prog W 0 (fun _ => true) true m t [v] = some y) : ∃ n, v = .int k n ∧ (Lit.int k n).wf = true := by
  obtain ⟨n, e, -, hw⟩ := DataW.trod_int ht h
  exact ⟨n, by simpa using e, hw⟩
theorem bool_read {m : Nat} {v : Value} {y : DataW H × List MemPlace} (h : DataW.trod enc Try.prog W 0 (fun _ => true) true m 4 [v] = some y) : ∃ b, v = .bool b := by
  obtain ⟨b, e, -⟩ := DataW.trod_bool Try.underlying4 h
  exact ⟨b, by simpa using e⟩
set_option maxRecDepth 100000 in
theorem rgs_read (m : Nat) (cs : List Value) (z : DataW H × List MemPlace) (hl : cs.length = 2) (h : DataW.trod enc Try.prog W 0 (fun _ => true) true m 43 cs = some z) : ∃ x : Rgs, RgsW x ∧ cs = RgsV x := by
  obtain ⟨ys, n, -, -, -, hyl, hf⟩ := DataW.trod_struct Try.underlying43 h
  match cs, hl with
  | [c0, c1], _ =>
    obtain ⟨y0, g0⟩ := fld_read (hf 0 _ rfl) Try.cells33 rfl (by rw [hyl]; decide)
    obtain ⟨y1, g1⟩ := fld_read (hf 1 _ rfl) Try.cells4 rfl (by rw [hyl]; decide)
    obtain ⟨a, rfl, w0⟩ := int_read Try.underlying33 g0
    obtain ⟨c, rfl⟩ := bool_read g1
    exact ⟨⟨a, c⟩, ⟨wf_u32 w0⟩, rfl⟩
set_option maxRecDepth 100000 in
theorem act_read (m : Nat) (cs : List Value) (z : DataW H × List MemPlace) (hl : cs.length = 3) (h : DataW.trod enc Try.prog W 0 (fun _ => true) true m 35 cs = some z) : ∃ x : Acts, ActW x ∧ cs = ActV x := by
  obtain ⟨ys, n, -, -, -, hyl, hf⟩ := DataW.trod_struct Try.underlying35 h
  match cs, hl with
  | [c0, c1, c2], _ =>
    obtain ⟨y0, g0⟩ := fld_read (hf 0 _ rfl) Try.cellsN3 rfl (by rw [hyl]; decide)
    obtain ⟨y1, g1⟩ := fld_read (hf 1 _ rfl) Try.cellsN3 rfl (by rw [hyl]; decide)
    obtain ⟨y2, g2⟩ := fld_read (hf 2 _ rfl) Try.cells33 rfl (by rw [hyl]; decide)
    obtain ⟨a, rfl, w0⟩ := int_read Try.underlying3 g0
    obtain ⟨b, rfl, w1⟩ := int_read Try.underlying3 g1
    obtain ⟨c, rfl, w2⟩ := int_read Try.underlying33 g2
    exact ⟨⟨a, b, c⟩, ⟨wf_i64 w0, wf_i64 w1, wf_u32 w2⟩, rfl⟩
def U32V : Reads Int := fun x => [.int .u32 x]
def I64V : Reads Int := fun x => [.int .i64 x]
theorem u32_read (m : Nat) (cs : List Value) (z : DataW H × List MemPlace) (hl : cs.length = 1) (h : DataW.trod enc Try.prog W 0 (fun _ => true) true m 33 cs = some z) : ∃ x : Int, u32I x ∧ cs = U32V x := by
  match cs, hl with
  | [c0], _ =>
    obtain ⟨a, rfl, w0⟩ := int_read Try.underlying33 h
    exact ⟨a, wf_u32 w0, rfl⟩
theorem i64_read (m : Nat) (cs : List Value) (z : DataW H × List MemPlace) (hl : cs.length = 1) (h : DataW.trod enc Try.prog W 0 (fun _ => true) true m 3 cs = some z) : ∃ x : Int, wfI x ∧ cs = I64V x := by
  match cs, hl with
  | [c0], _ =>
    obtain ⟨a, rfl, w0⟩ := int_read Try.underlying3 h
    exact ⟨a, wf_i64 w0, rfl⟩
theorem vals_of {f : Int → Value} {A : Option Addr} {xs : List Int} (h : StrsAt (fun x => [f x]) 1 W W.heap.size A xs) : ValsAt W W.heap.size A (xs.map f) := by
  intro hl
  obtain ⟨ad, e, hb, hc⟩ := h (by simpa using hl)
  refine ⟨ad, e, hb, fun j v hj => ?_⟩
  rw [List.getElem?_map] at hj
  cases hx : xs[j]? with
  | none => rw [hx] at hj; cases hj
  | some x =>
    rw [hx] at hj
    injection hj with hj
    subst hj
    have := (hc j x hx).zero
    rwa [Nat.mul_one] at this
theorem rgs_arg {a0 : Option Addr} {len cap : Nat} {d : DataW H} {p : List MemPlace} (h : DataW.Trod enc Try.prog W 0 (fun _ => true) true 22 (.slice a0 len cap) d p) :
    ∃ xs : List Rgs, xs.length = len ∧ len ≤ maxLen ∧ StrsAt RgsV 2 W W.heap.size a0 xs ∧ ∀ x, x ∈ xs → RgsW x := by
  obtain ⟨n, hn⟩ := h
  have hn' : DataW.trod enc Try.prog W 0 (fun _ => true) true n 22 [.slice a0 len cap] = some (d, p) := by simpa [Value.cells] using hn
  obtain ⟨A, len', cap', xs, e, hl, hc, hm, hs, hw⟩ := strs_read (V := RgsV) (Q := RgsW) Try.underlying22 Try.cells43 (by omega) rgs_read hn'
  injection e with e1 e2 e3
  subst e1 e2 e3
  exact ⟨xs, hl, hm, hs, hw⟩
theorem acts_arg {a0 : Option Addr} {len cap : Nat} {d : DataW H} {p : List MemPlace} (h : DataW.Trod enc Try.prog W 0 (fun _ => true) true 23 (.slice a0 len cap) d p) :
    ∃ xs : List Acts, xs.length = len ∧ len ≤ maxLen ∧ StrsAt ActV 3 W W.heap.size a0 xs ∧ ∀ x, x ∈ xs → ActW x := by
  obtain ⟨n, hn⟩ := h
  have hn' : DataW.trod enc Try.prog W 0 (fun _ => true) true n 23 [.slice a0 len cap] = some (d, p) := by simpa [Value.cells] using hn
  obtain ⟨A, len', cap', xs, e, hl, hc, hm, hs, hw⟩ := strs_read (V := ActV) (Q := ActW) Try.underlying23 Try.cells35 (by omega) act_read hn'
  injection e with e1 e2 e3
  subst e1 e2 e3
  exact ⟨xs, hl, hm, hs, hw⟩
theorem words_arg {a0 : Option Addr} {len cap : Nat} {d : DataW H} {p : List MemPlace} (h : DataW.Trod enc Try.prog W 0 (fun _ => true) true 41 (.slice a0 len cap) d p) :
    ∃ xs : List Int, xs.length = len ∧ len ≤ maxLen ∧ ValsAt W W.heap.size a0 (u32s xs) ∧ ∀ x, x ∈ xs → u32I x := by
  obtain ⟨n, hn⟩ := h
  have hn' : DataW.trod enc Try.prog W 0 (fun _ => true) true n 41 [.slice a0 len cap] = some (d, p) := by simpa [Value.cells] using hn
  obtain ⟨A, len', cap', xs, e, hl, hc, hm, hs, hw⟩ := strs_read (V := U32V) (Q := u32I) Try.underlying41 Try.cells33 (by omega) u32_read hn'
  injection e with e1 e2 e3
  subst e1 e2 e3
  exact ⟨xs, hl, hm, vals_of hs, hw⟩
theorem ints_arg {a0 : Option Addr} {len cap : Nat} {d : DataW H} {p : List MemPlace} (h : DataW.Trod enc Try.prog W 0 (fun _ => true) true 47 (.slice a0 len cap) d p) :
    ∃ xs : List Int, xs.length = len ∧ len ≤ maxLen ∧ ValsAt W W.heap.size a0 (i64s xs) ∧ ∀ x, x ∈ xs → wfI x := by
  obtain ⟨n, hn⟩ := h
  have hn' : DataW.trod enc Try.prog W 0 (fun _ => true) true n 47 [.slice a0 len cap] = some (d, p) := by simpa [Value.cells] using hn
  obtain ⟨A, len', cap', xs, e, hl, hc, hm, hs, hw⟩ := strs_read (V := I64V) (Q := wfI) Try.underlying47 Try.cellsN3 (by omega) i64_read hn'
  injection e with e1 e2 e3
  subst e1 e2 e3
  exact ⟨xs, hl, hm, vals_of hs, hw⟩
end

end Go.Proofs.Ytlolnogkndhfnaa
