/- The document's own file: contracts of its Save, Restore. -/
import Derived.Test.YtlolnogkndhfnaaQ1
import Derived.Laws.AppendOwnNone
namespace Go.Proofs.Ytlolnogkndhfnaa
set_option linter.unusedSimpArgs false
set_option linter.unusedVariables false
open Go.RowKit Go.Maps

theorem run_append_none_cap {P : Program} (w : World) (base : Nat) (t ty e : TypeId) (i : TypeInfo) (size c : Nat) (ht : P.underlying t = some (.slice e)) (hi : P.info? e = some i)
    (v : Value) (n : Nat) (xs : List Value) (hown : w.ownsRow base e size v n xs) :
    (Builtin.append_ #[t, t] ty #[v, .slice none 0 c]).run P w = .ok v w := by
  rcases hown.2 with ⟨rfl, rfl⟩ | ⟨g, cap, cur, rfl, _, _, hnc, _⟩
  · simp [Builtin.append_, run_underlying ht, sizeOf, typeInfo, hi, Builtin.lenOf, Builtin.firstCells]
  · simp [Builtin.append_, run_underlying ht, sizeOf, typeInfo, hi, Builtin.lenOf, Builtin.firstCells, hnc, storeCells]
/-- append of a slice that reads, nil or not, onto an own one -/
theorem wpList_append_any {w : World} {ops : Array Oper} {rest : List Oper} {o : Oper} {a : Act} {Q : Exit → Act → World → Prop} (hgd : o.guard = none) (s x : Operand) (t : TypeId)
    (ho : o.op = .call { callee := .builtin .append, args := #[s, x], argTypes := #[t, t] })
    (base : Nat) (e : TypeId) (i0 : TypeInfo) (z : Value) (size bytes : Nat) (ht : Try.prog.underlying t = some (.slice e)) (hi : Try.prog.info? e = some i0) (hz : i0.zero = some z) (hsize : i0.size = size) (hby : i0.bytes = bytes) (hzl : z.cells.size = size) (hs0 : 0 < size)
    (v : Value) (n : Nat) (xs : List Value) (hs : a.eval s = v) (hown : w.ownsRow base e size v n xs)
    (A : Option Addr) (m c : Nat) (ys : List Value) (hx : a.eval x = .slice A m c) (hl : ys.length = m * size) (hnone : A = none → m = 0) (hc : ∀ ad, A = some ad → ∀ j u, ys[j]? = some u → w.cell? (ad.add j) = some u) (hone : ∀ u, u ∈ ys → u.oneCell' = true)
    (h63 : n + m ≤ 1000000) (hbig : bytes ≤ 1000) (hbase : base ≤ w.heap.size)
    (h : ∀ v' w', w'.ownsRow base e size v' (n + m) (xs ++ ys) → w.grownBy w' v.ownBlock → wpList Try.prog ops Q rest (a.put o.dst v') w') : wpList Try.prog ops Q (o :: rest) a w := by
  cases A with
  | none =>
    have hm := hnone rfl
    subst hm
    have hys : ys = [] := List.eq_nil_of_length_eq_zero (by omega)
    subst hys
    refine wpList_plain hgd fun K hK => ?_
    have hrun := run_append_none_cap (P := Try.prog) w base t o.type e i0 size c ht hi v n xs hown
    unfold Oper.wp
    simp [execOp, ho, resolve, invoke, builtin, hs, hx, hrun, Result.andThen]
    exact hK _ _ (h v w (by simpa using hown) (World.grownBy.refl _ _))
  | some ad =>
    exact wpList_append_own w hgd s x t ho base e i0 z size bytes ht hi hz hsize hby hzl hs0 v n xs hs hown ad m c ys hx hl (hc ad rfl) hone (by unfold maxLen; omega) (by have : (n + m) * bytes ≤ 1000000 * 1000 := Nat.mul_le_mul h63 hbig; omega) hbase (fun v' w' h1 h2 _ => h v' w' h1 h2)

set_option maxRecDepth 100000 in
set_option maxHeartbeats 2000000 in
theorem rsave_any (Q : List Nat) (rb gv : Nat) (rs : List Rgs) (now S : List Int) (sv : Bool) (w : World) (h : RefIs w Q rb gv rs now sv S) :
    Calls Try.prog 16 #[.pointer (some ⟨rb, 0, none⟩)] w (RDoes w Q rb gv rs (.returned (.tuple #[])) now true now [rb]) := by
  have hl := h.len
  have h8 := h.few
  obtain ⟨A, c, AV, cV, AS, s, cS, hB, hRR, e3, e4⟩ := h.box
  obtain ⟨b1, -⟩ := hB 1 _ rfl
  obtain ⟨b2, f2⟩ := hB 2 _ rfl
  obtain ⟨b3, f3⟩ := hB 3 _ rfl
  have hnone : AV = none → rs.length = 0 := fun e => by
    rcases Nat.eq_zero_or_pos rs.length with h0 | h0
    · exact h0
    · have := e3 h0; rw [e] at this; cases this
  have hcell : ∀ ad, AV = some ad → ∀ j u, (u32s now)[j]? = some u → w.cell? (ad.add j) = some u := fun ad e j u hj => by
    have hjl := get_lt hj
    rw [u32s_len, hl] at hjl
    have e' := e3 (by omega)
    rw [e] at e'
    injection e' with e'
    subst e'
    rw [Addr.add_lit, Nat.zero_add]
    exact ((h.row (by omega)).2 j u hj).1
  obtain ⟨i33, hi, hz0, hzs, hzb⟩ := info_parts Try.info33
  have H := Lib.hid h
  have HB := Lib.hid hB
  have HL := Lib.hid hl
  have HC := Lib.hid (And.intro hnone hcell)
  have HE := Lib.hid e3
  have HR := Lib.hid hRR
  have hrb := hB.lt
  clear h hB hl hnone hcell e3 e4 hRR
  go_enter Try.func16, Try.ntmps16
  go_wp2_with (at_builtin; refine wpList_append_any rfl _ _ 41 rfl w.heap.size 33 i33 (.int .u32 0) 1 4 Try.underlying41 hi hz0 hzs hzb rfl (by decide) _ _ _ rfl (World.ownsRow_made w #[] 0 (Nat.le_refl _) (Nat.zero_le _) (by simp)) AV rs.length cV (u32s now) rfl ?qc1 HC.out.1 ?qc2 ?qc3 ?qc4 ?qc5 ?qc6 ?_)
  case qc1 => rw [u32s_len, HL.out]; omega
  case qc2 => exact fun ad e j u hj => Lib.cell?_alloc_some _ (HC.out.2 ad e j u hj)
  case qc3 => exact u32s_one now
  case qc4 => omega
  case qc5 => omega
  case qc6 => simp
  intro v' w1 hown hgrow
  have ho : w1.ownsRow w.heap.size 33 1 v' rs.length (u32s now) := by simpa using hown
  obtain ⟨A', c', rfl⟩ := own_shape' ho
  have hb : Below w.heap.size w w1 := ((Below.refl _ w).alloc (Nat.le_refl _) _).grown hgrow (by simp) (by intro k hk; simp [Value.ownBlock] at hk; omega)
  have hm1 : Moved [] w w1 := Moved.of_below hb
  have hvs : ValsC Q w1 A' (u32s now) := own_vals ho HL.out H.out.hQ
  have d2 := hm1.cell b2 (by simp)
  have g2 : w1.frozen? ⟨rb, 2, none⟩ = false := (hm1.frozen (p := ⟨rb, 2, none⟩) hrb (by simp)).trans f2
  have d3 := hm1.cell b3 (by simp)
  have g3 : w1.frozen? ⟨rb, 3, none⟩ = false := (hm1.frozen (p := ⟨rb, 3, none⟩) hrb (by simp)).trans f3
  have hB1 := HB.out.move hm1 (by simp)
  have m2 : Moved [rb] w1 (w1.setCell ⟨rb, 2, none⟩ (.slice A' rs.length c')) := Moved.setCell _ (by simp) _
  have m3 : Moved [rb] (w1.setCell ⟨rb, 2, none⟩ (.slice A' rs.length c')) ((w1.setCell ⟨rb, 2, none⟩ (.slice A' rs.length c')).setCell ⟨rb, 3, none⟩ (.bool true)) := Moved.setCell _ (by simp) _
  have hq : ∀ k, k ∈ [rb] → k ∈ Q := by simpa using H.out.hb
  have hF : RefIs ((w1.setCell ⟨rb, 2, none⟩ (.slice A' rs.length c')).setCell ⟨rb, 3, none⟩ (.bool true)) Q rb gv rs now true now := by
    have hm : Moved [rb] w ((w1.setCell ⟨rb, 2, none⟩ (.slice A' rs.length c')).setCell ⟨rb, 3, none⟩ (.bool true)) := (hm1.mono (by simp)).trans (m2.trans m3)
    have hm' : Moved Q w1 ((w1.setCell ⟨rb, 2, none⟩ (.slice A' rs.length c')).setCell ⟨rb, 3, none⟩ (.bool true)) := (m2.trans m3).mono hq
    refine ⟨HL.out, h8, H.out.ne, H.out.hb, H.out.hg, fun k hk => Nat.lt_of_lt_of_le (H.out.hQ k hk) hm.size, ⟨A, c, AV, cV, A', rs.length, c', (hB1.set (j := 2) (by simp) _).set (j := 3) (by simp) _, HR.out.move (hm.mono hq), HE.out, ⟨fun _ => ⟨rfl, HL.out, hvs.move hm'⟩⟩⟩, fun hp => (H.out.row hp).move hm (by simpa using Ne.symm H.out.ne)⟩
  have HF := Lib.hid hF
  have HM := Lib.hid ((hm1.mono (by simp)).trans (m2.trans m3))
  have d3' : (w1.setCell ⟨rb, 2, none⟩ (.slice A' rs.length c')).cell? ⟨rb, 3, none⟩ = some (.bool sv) := (World.cell?_setCell_other w1 _ _ _ (fun e => by have := congrArg Addr.off e; simp at this)).trans d3
  clear hown hgrow ho hb hm1 hvs hB1 m2 m3 hq hF
  go_wp2
  go_end0
  exact ⟨rfl, HF.out, HM.out⟩

end Go.Proofs.Ytlolnogkndhfnaa
