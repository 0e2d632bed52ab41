/- The document's own file: the contract of its New; both files side by side. -/
import Derived.Test.YtlolnogkndhfnaaQ4
namespace Go.Proofs.Ytlolnogkndhfnaa
set_option linter.unusedSimpArgs false
set_option linter.unusedVariables false
open Go.RowKit Go.Maps

theorem rnew_full (A : Option Addr) (n c : Nat) (w : World) (hn : 8 < n) (hm : n ≤ maxLen) :
    Calls Try.prog 11 #[.slice A n c] w fun e w' => e = .returned (.tuple #[.pointer none, .int .i64 8]) ∧ w = w' := by
  unfold maxLen at hm
  have i1 : (8 : Int) < (n : Int) := by omega
  go_enter Try.func11, Try.ntmps11
  go_wp2
  go_ret2
  exact ⟨rfl, rfl⟩
/-- a new file of the document's -/
def RNew (Q : List Nat) (rs : List Rgs) (w : World) (e : Ending) (w' : World) : Prop :=
  ∃ rb gv X, e = .returned (.tuple #[.pointer (some ⟨rb, 0, none⟩), .int .i64 0]) ∧ w.heap.size ≤ rb ∧ w.heap.size ≤ gv ∧ (∀ k, k ∈ X → w.heap.size ≤ k ∧ k < w'.heap.size) ∧ RefIs w' (X ++ Q) rb gv rs (resets rs) false [] ∧ Below w.heap.size w w'
set_option maxRecDepth 100000 in
set_option maxHeartbeats 2000000 in
theorem rnew_ok (Q : List Nat) (A : Option Addr) (c : Nat) (rs : List Rgs) (w : World) (hn : rs.length ≤ 8) (hQ : ∀ k, k ∈ Q → k < w.heap.size) (h : StrsAt RgsV 2 w w.heap.size A rs) : Calls Try.prog 11 #[.slice A rs.length c] w (RNew Q rs w) := by
  obtain ⟨i43, hi, hz0, hzs, hzb⟩ := info_parts Try.info43
  have HFL := Lib.hid (flatS_len RgsV_len rs)
  have hnone : A = none → rs.length = 0 := fun e => by
    rcases Nat.eq_zero_or_pos rs.length with h0 | h0
    · exact h0
    · obtain ⟨ad, e', -⟩ := h h0; rw [e] at e'; cases e'
  have HC := Lib.hid (And.intro hnone (fun ad (e : A = some ad) => h.flat RgsV_len e))
  have HQ := Lib.hid hQ
  have i1 : ¬ ((8 : Int) < (rs.length : Int)) := by omega
  clear h hnone hQ
  go_enter Try.func11, Try.ntmps11
  go_wp2_with (at_builtin; refine wpList_append_any rfl _ _ 22 rfl w.heap.size 43 i43 (.agg #[.int .u32 0, .bool false]) 2 8 Try.underlying22 hi hz0 hzs hzb rfl (by decide) _ _ _ rfl (World.ownsRow_made w #[] 0 (Nat.le_refl _) (Nat.zero_le _) (by simp)) A rs.length c (flatS RgsV rs) rfl ?qc1 HC.out.1 ?qc2 ?qc3 ?qc4 ?qc5 ?qc6 ?_)
  case qc1 => exact HFL.out
  case qc2 => exact fun ad e j u hj => Lib.cell?_alloc_some _ (HC.out.2 ad e j u hj)
  case qc3 => exact flat_one
  case qc4 => omega
  intro v' w1 hown hgrow
  have ho : w1.ownsRow w.heap.size 43 2 v' rs.length (flatS RgsV rs) := by simpa using hown
  obtain ⟨A', c', rfl⟩ := own_shape' ho
  have hb : Below w.heap.size w w1 := ((Below.refl _ w).alloc (Nat.le_refl _) _).grown hgrow (by simp) (by intro k hk; simp [Value.ownBlock] at hk; omega)
  have hz1 := hb.size
  have hm2 : Moved [] w1 (w1.alloc (.cells #[.slice A' rs.length c', .slice none 0 0, .slice none 0 0, .bool false] 57)) := Moved.alloc _ _
  have hR : StrsC RgsV 2 (w1.heap.size :: Q) w1 A' rs := own_strs RgsV_len ho rfl fun g hg hm => by
    have h1 := ho.lt g hg
    rcases List.mem_cons.1 hm with e | e
    · omega
    · have := HQ.out g e; omega
  have hbx := BoxAt.new w1 [.slice A' rs.length c', .slice none 0 0, .slice none 0 0, .bool false] 57
  have hcl := rclear_raw (w1.heap.size :: Q) w1.heap.size rs A' none none c' 0 0 0 0 false _ hn (by simp) (fun k hk => by
    simp
    rcases List.mem_cons.1 hk with e | e
    · omega
    · have := HQ.out k e; omega) hbx (hR.move (hm2.mono (by simp)))
  have HCL := Lib.hid hcl
  have HB := Lib.hid (hb.trans (hm2.below (B := w.heap.size) (by simp) hz1))
  clear hown hgrow ho hb hm2 hR hbx hcl
  go_wp2_with fail
  refine (HCL.out).mono ?_
  rintro e w2 ⟨rfl, gv, X, h1, h2, h3, h4⟩
  have h1' : w1.heap.size + 1 ≤ gv := by simpa using h1
  have HX : RowKit.Hid (RNew Q rs w (.returned (.tuple #[.pointer (some ⟨w1.heap.size, 0, none⟩), .int .i64 0])) w2) := Lib.hid (by
    refine ⟨w1.heap.size, gv, X ++ [w1.heap.size], rfl, hz1, by omega, fun k hk => ?_, by rw [List.append_assoc]; exact h3, HB.out.trans (h4.below (by simp; exact hz1) HB.out.size)⟩
    rcases List.mem_append.1 hk with hk | hk
    · have := h2 k hk
      simp at this
      omega
    · simp at hk
      have := h4.size
      simp at this
      omega)
  clear h1 h2 h3 h4 h1'
  go_wp2
  go_ret2
  exact HX.out

/-- both files, in a statement -/
structure Both (w3 wr : World) (Q : List Nat) (b gn rb gv : Nat) (rs : List Rgs) (now back nowR : List Int) (sv : Bool) (S : List Int) : Prop where
  f : Fw w3 wr Q b gn rs now back
  r : RefIs wr Q rb gv rs nowR sv S
  n1 : rb ∉ [b, gn]
  n2 : gv ∉ [b, gn]
  lo : w3.heap.size ≤ rb ∧ w3.heap.size ≤ gv
namespace Both
variable {w3 wr w' : World} {Q : List Nat} {b gn rb gv : Nat} {rs : List Rgs} {now back nowR S : List Int} {sv : Bool}
theorem calm (h : Both w3 wr Q b gn rb gv rs now back nowR sv S) (hm : Moved [] wr w') : Both w3 w' Q b gn rb gv rs now back nowR sv S := ⟨h.f.calm hm, h.r.move hm, h.n1, h.n2, h.lo⟩
theorem nF {now' back' : List Int} (h : Both w3 wr Q b gn rb gv rs now back nowR sv S) (hf : Fw w3 w' Q b gn rs now' back') (hm : Moved [b, gn] wr w') : Both w3 w' Q b gn rb gv rs now' back' nowR sv S :=
  ⟨hf, h.r.far hm h.f.file.hot h.n1 h.n2, h.n1, h.n2, h.lo⟩
theorem writeF (h : Both w3 wr Q b gn rb gv rs now back nowR sv S) {i : Int} (v : Int) (hi : wfI i) : Calls Try.prog 13 #[.pointer (some ⟨b, 0, none⟩), .int .i64 i, .int .u32 v] wr fun e w' => e = .returned (.int .i64 (errI rs.length i)) ∧ Both w3 w' Q b gn rb gv rs (writeT now i v) back nowR sv S :=
  (h.f.write v hi).mono fun e w' ⟨he, hf, hm⟩ => ⟨he, h.nF hf hm⟩
theorem saveF (h : Both w3 wr Q b gn rb gv rs now back nowR sv S) : Calls Try.prog 15 #[.pointer (some ⟨b, 0, none⟩)] wr fun e w' => e = .returned (.tuple #[]) ∧ Both w3 w' Q b gn rb gv rs now (saveB rs now) nowR sv S :=
  h.f.save.mono fun e w' ⟨he, hf, hm⟩ => ⟨he, h.nF hf hm⟩
theorem restoreF (h : Both w3 wr Q b gn rb gv rs now back nowR sv S) : Calls Try.prog 17 #[.pointer (some ⟨b, 0, none⟩)] wr fun e w' => e = .returned (.tuple #[]) ∧ Both w3 w' Q b gn rb gv rs back back nowR sv S :=
  h.f.restore.mono fun e w' ⟨he, hf, hm⟩ => ⟨he, h.nF hf hm⟩
theorem clearF (h : Both w3 wr Q b gn rb gv rs now back nowR sv S) : Calls Try.prog 19 #[.pointer (some ⟨b, 0, none⟩)] wr fun e w' => e = .returned (.tuple #[]) ∧ Both w3 w' Q b gn rb gv rs (resets rs) (resets rs) nowR sv S :=
  h.f.clear.mono fun e w' ⟨he, hf, hm⟩ => ⟨he, h.nF hf hm⟩
theorem farR {hot : List Nat} {x : Nat} {S' nowR' : List Int} {sv' : Bool} (h : Both w3 wr Q b gn rb gv rs now back nowR sv S) (hr : RefIs w' Q rb gv rs nowR' sv' S') (hm : Moved hot wr w') (hh : ∀ k, k ∈ hot → k = x ∧ k ∈ Q) (hx : x ∉ [b, gn]) (hlo : w3.heap.size ≤ x) : Both w3 w' Q b gn rb gv rs now back nowR' sv' S' := by
  refine ⟨h.f.far hm (fun k hk => (hh k hk).2) (fun hb => ?_) (fun hg => ?_) (fun q hq => by rw [(hh q hq).1]; exact hlo), hr, h.n1, h.n2, h.lo⟩
  · rw [← (hh b hb).1] at hx; simp at hx
  · rw [← (hh gn hg).1] at hx; simp at hx
theorem writeR (h : Both w3 wr Q b gn rb gv rs now back nowR sv S) {i : Int} (v : Int) (hi : wfI i) : Calls Try.prog 14 #[.pointer (some ⟨rb, 0, none⟩), .int .i64 i, .int .u32 v] wr fun e w' => e = .returned (.int .i64 (errI rs.length i)) ∧ Both w3 w' Q b gn rb gv rs now back (writeT nowR i v) sv S :=
  (rwrite_any Q rb gv rs nowR S sv i v wr hi h.r).mono fun e w' ⟨hot, hh, he, hr, hm⟩ => ⟨he, h.farR hr hm hh h.n2 h.lo.2⟩
theorem saveR (h : Both w3 wr Q b gn rb gv rs now back nowR sv S) : Calls Try.prog 16 #[.pointer (some ⟨rb, 0, none⟩)] wr fun e w' => e = .returned (.tuple #[]) ∧ Both w3 w' Q b gn rb gv rs now back nowR true nowR :=
  (rsave_any Q rb gv rs nowR S sv wr h.r).mono fun e w' ⟨he, hr, hm⟩ => ⟨he, h.farR (x := rb) hr hm (by intro k hk; simp at hk; subst hk; exact ⟨rfl, h.r.hb⟩) h.n1 h.lo.1⟩
theorem restoreR (h : Both w3 wr Q b gn rb gv rs now back nowR sv S) : Calls Try.prog 18 #[.pointer (some ⟨rb, 0, none⟩)] wr fun e w' => e = .returned (.tuple #[]) ∧ Both w3 w' Q b gn rb gv rs now back (backS rs sv S) sv S :=
  (rrestore_any Q rb gv rs nowR S sv wr h.r).mono fun e w' ⟨he, hr, hot, hh, hm⟩ => ⟨he, h.farR hr hm hh h.n2 h.lo.2⟩
theorem clearR (h : Both w3 wr Q b gn rb gv rs now back nowR sv S) : Calls Try.prog 20 #[.pointer (some ⟨rb, 0, none⟩)] wr fun e w' => e = .returned (.tuple #[]) ∧ ∃ Q' gv', Both w3 w' Q' b gn rb gv' rs now back (resets rs) false [] := by
  obtain ⟨A, c, AV, cV, AS, s, cS, e1, e2, e3, e4⟩ := h.r.box
  refine (rclear_raw Q rb rs A AV AS c rs.length cV s cS sv wr h.r.few h.r.hb h.r.hQ e1 e2).mono fun e w' ⟨he, gv', X, h1, h2, h3, h4⟩ => ⟨he, X ++ Q, gv', ?_⟩
  have hlt := h.f.file.lt
  have hb : b ∉ [rb] := by have := h.n1; simp at this ⊢; omega
  have hg : gn ∉ [rb] := by have := h.n1; simp at this ⊢; omega
  exact ⟨⟨h.f.file.grow h4 (by simpa using h.r.hb) hb hg h2, h.f.bel.trans (h4.below (by simp; exact h.lo.1) h.f.bel.size), h.f.lo⟩, h3, h.n1, by simp; omega, h.lo.1, Nat.le_trans h.f.bel.size h1⟩
theorem readR (h : Both w3 wr Q b gn rb gv rs now back nowR sv S) {i : Int} (hi : wfI i) : Calls Try.prog 22 #[.pointer (some ⟨rb, 0, none⟩), .int .i64 i] wr fun e w' => e = .returned (.tuple #[.int .u32 (readI nowR i), .int .i64 (errI rs.length i)]) ∧ wr = w' := rread_any Q rb gv rs nowR S sv i wr hi h.r
end Both
/-- .. that tell the same -/
def Alike (w3 wr : World) (b gn rb : Nat) (rs : List Rgs) : Prop := ∃ Q gv now sv S, Both w3 wr Q b gn rb gv rs now (backS rs sv S) now sv S

end Go.Proofs.Ytlolnogkndhfnaa
