/- The document's own file, in memory: contracts of its Read, Write, Save, Restore. -/
import Derived.Test.YtlolnogkndhfnaaL5
import Derived.Deep.AppendLies
namespace Go.Proofs.Ytlolnogkndhfnaa
set_option linter.unusedSimpArgs false
set_option linter.unusedVariables false
open Go.RowKit Go.Maps

/-- what is saved of it -/
structure SavedAt (w : World) (Q : List Nat) (n : Nat) (AS : Option Addr) (s : Nat) (sv : Bool) (S : List Int) : Prop where
  ok : sv = true → s = n ∧ S.length = n ∧ ValsC Q w AS (u32s S)
theorem SavedAt.move {w w' : World} {Q hot : List Nat} {n s : Nat} {AS : Option Addr} {sv : Bool} {S : List Int} (h : SavedAt w Q n AS s sv S) (hm : Moved hot w w') (hh : ∀ k, k ∈ hot → k ∈ Q) : SavedAt w' Q n AS s sv S :=
  ⟨fun e => ⟨(h.ok e).1, (h.ok e).2.1, (h.ok e).2.2.move (hm.mono hh)⟩⟩
/-- what Restore makes of it -/
def backS (rs : List Rgs) (sv : Bool) (S : List Int) : List Int := if sv then saveB rs S else resets rs
/-- the document's file: its box rb, the row of what its registers are gv, hot both -/
structure RefIs (w : World) (Q : List Nat) (rb gv : Nat) (rs : List Rgs) (now : List Int) (sv : Bool) (S : List Int) : Prop where
  len : now.length = rs.length
  few : rs.length ≤ 8
  ne : rb ≠ gv
  hb : rb ∈ Q
  hg : 0 < rs.length → gv ∈ Q
  hQ : ∀ k, k ∈ Q → k < w.heap.size
  box : ∃ A c AV cV AS s cS, BoxAt w rb [.slice A rs.length c, .slice AV rs.length cV, .slice AS s cS, .bool sv] ∧ StrsC RgsV 2 Q w A rs ∧ (0 < rs.length → AV = some ⟨gv, 0, none⟩) ∧ SavedAt w Q rs.length AS s sv S
  row : 0 < rs.length → RowAt w gv (u32s now)
theorem RefIs.far {w w' : World} {Q : List Nat} {rb gv : Nat} {rs : List Rgs} {now S : List Int} {sv : Bool} {hot : List Nat} (h : RefIs w Q rb gv rs now sv S) (hm : Moved hot w w') (hh : ∀ k, k ∈ hot → k ∈ Q) (h1 : rb ∉ hot) (h2 : gv ∉ hot) : RefIs w' Q rb gv rs now sv S := by
  obtain ⟨A, c, AV, cV, AS, s, cS, e1, e2, e3, e4⟩ := h.box
  exact ⟨h.len, h.few, h.ne, h.hb, h.hg, fun k hk => Nat.lt_of_lt_of_le (h.hQ k hk) hm.size, ⟨A, c, AV, cV, AS, s, cS, e1.move hm h1, e2.move (hm.mono hh), e3, e4.move hm hh⟩, fun hp => (h.row hp).move hm h2⟩
theorem RefIs.move {w w' : World} {Q : List Nat} {rb gv : Nat} {rs : List Rgs} {now S : List Int} {sv : Bool} (h : RefIs w Q rb gv rs now sv S) (hm : Moved [] w w') : RefIs w' Q rb gv rs now sv S := h.far hm (by simp) (by simp) (by simp)
theorem StrsC.more {α : Type} {V : Reads α} {sz : Nat} {Q Q' : List Nat} {w w' : World} {A : Option Addr} {xs : List α} (h : StrsC V sz Q w A xs) (hm : Moved [] w w') (hh : ∀ k, k ∈ Q' → w.heap.size ≤ k) : StrsC V sz (Q' ++ Q) w' A xs := fun hl => by
  obtain ⟨ad, k1, k2, k3, k4⟩ := h hl
  refine ⟨ad, k1, Nat.lt_of_lt_of_le k2 hm.size, fun hx => ?_, fun k x hk j v hj => hm.cell (k4 k x hk j v hj) (by simp)⟩
  rcases List.mem_append.1 hx with hx | hx
  · have := hh _ hx; omega
  · exact k3 hx
theorem ValsC.more {Q Q' : List Nat} {w w' : World} {A : Option Addr} {vs : List Value} (h : ValsC Q w A vs) (hm : Moved [] w w') (hh : ∀ k, k ∈ Q' → w.heap.size ≤ k) : ValsC (Q' ++ Q) w' A vs := fun hl => by
  obtain ⟨ad, k1, k2, k3, k4⟩ := h hl
  refine ⟨ad, k1, Nat.lt_of_lt_of_le k2 hm.size, fun hx => ?_, fun j v hj => hm.cell (k4 j v hj) (by simp)⟩
  rcases List.mem_append.1 hx with hx | hx
  · have := hh _ hx; omega
  · exact k3 hx
theorem RefIs.write {w : World} {Q : List Nat} {rb gv : Nat} {rs : List Rgs} {now S : List Int} {sv : Bool} (h : RefIs w Q rb gv rs now sv S) (hp : 0 < rs.length) (k : Nat) (v : Int) : RefIs (w.setCell ⟨gv, k, none⟩ (.int .u32 v)) Q rb gv rs (now.set k v) sv S := by
  obtain ⟨A, c, AV, cV, AS, s, cS, e1, e2, e3, e4⟩ := h.box
  have hm : Moved [gv] w (w.setCell ⟨gv, k, none⟩ (.int .u32 v)) := Moved.setCell _ (by simp) _
  have hh : ∀ q, q ∈ [gv] → q ∈ Q := by simpa using h.hg hp
  refine ⟨by rw [List.length_set]; exact h.len, h.few, h.ne, h.hb, h.hg, fun k hk => by rw [size_setCell]; exact h.hQ k hk, ⟨A, c, AV, cV, AS, s, cS, e1.move hm (by simpa using h.ne), e2.move (hm.mono hh), e3, e4.move hm hh⟩, fun hp => ?_⟩
  rw [u32s_set]
  exact (h.row hp).set _

theorem rread_any (Q : List Nat) (rb gv : Nat) (rs : List Rgs) (now S : List Int) (sv : Bool) (i : Int) (w : World) (hi : wfI i) (h : RefIs w Q rb gv rs now sv S) :
    Calls Try.prog 22 #[.pointer (some ⟨rb, 0, none⟩), .int .i64 i] w fun e w' => e = .returned (.tuple #[.int .u32 (readI now i), .int .i64 (errI rs.length i)]) ∧ w = w' := by
  have hl := h.len
  have h8 := h.few
  obtain ⟨A, c, AV, cV, AS, s, cS, hB, -, e3, -⟩ := h.box
  have b1 := (hB 1 _ rfl).1
  by_cases hneg : i < 0
  · have hb : hasB rs.length i = false := hasB_no (.inl hneg)
    have e1 : readI now i = 0 := by unfold readI; rw [hl, hb]; rfl
    have e2 : errI rs.length i = 4 := by unfold errI; rw [hb]; rfl
    rw [e1, e2]
    clear e1 e2 hb hB h hl e3
    go_enter Try.func22, Try.ntmps22
    go_wp2
    go_ret2
    exact ⟨rfl, rfl⟩
  · have hneg' : decide (i < 0) = false := by simpa using hneg
    by_cases hbig : (rs.length : Int) ≤ i
    · have hb : hasB rs.length i = false := hasB_no (.inr hbig)
      have e1 : readI now i = 0 := by unfold readI; rw [hl, hb]; rfl
      have e2 : errI rs.length i = 4 := by unfold errI; rw [hb]; rfl
      rw [e1, e2]
      clear e1 e2 hb hB h hl e3
      go_enter Try.func22, Try.ntmps22
      go_wp2
      go_ret2
      exact ⟨rfl, rfl⟩
    · obtain ⟨k, rfl⟩ : ∃ k : Nat, i = (k : Int) := ⟨i.toNat, by omega⟩
      have hk : k < rs.length := by omega
      have hp : 0 < rs.length := by omega
      have hx := List.getElem?_eq_getElem (l := now) (i := k) (by omega)
      generalize now[k]'(by omega) = x at hx
      have e1 := readI_at hx
      have e2 : errI rs.length (k : Int) = 0 := by unfold errI; rw [hasB_yes hk]; rfl
      have hc := ((h.row hp).2 k _ (u32s_at hx)).1
      have eV := e3 hp
      subst eV
      rw [e1, e2]
      have i0 : (0 : Int) ≤ (k : Int) := by omega
      have i1 : (k : Int) < (rs.length : Int) := by omega
      clear e1 e2 hB h hl hx e3 hneg hneg' hbig
      go_enter Try.func22, Try.ntmps22
      go_wp2
      go_ret2
      exact ⟨rfl, rfl⟩

/-- what an act of the document's file leaves -/
def RDoes (w : World) (Q : List Nat) (rb gv : Nat) (rs : List Rgs) (E : Ending) (now : List Int) (sv : Bool) (S : List Int) (hot : List Nat) (e : Ending) (w' : World) : Prop := e = E ∧ RefIs w' Q rb gv rs now sv S ∧ Moved hot w w'

theorem rwrite_any (Q : List Nat) (rb gv : Nat) (rs : List Rgs) (now S : List Int) (sv : Bool) (i v : Int) (w : World) (hi : wfI i) (h : RefIs w Q rb gv rs now sv S) :
    Calls Try.prog 14 #[.pointer (some ⟨rb, 0, none⟩), .int .i64 i, .int .u32 v] w (fun e w' => ∃ hot, (∀ k, k ∈ hot → k = gv ∧ k ∈ Q) ∧ RDoes w Q rb gv rs (.returned (.int .i64 (errI rs.length i))) (writeT now i v) sv S hot e w') := by
  have hl := h.len
  have h8 := h.few
  obtain ⟨A, c, AV, cV, AS, s, cS, hB, -, e3, -⟩ := h.box
  have b1 := (hB 1 _ rfl).1
  have H := Lib.hid h
  by_cases hneg : i < 0
  · have hb : hasB rs.length i = false := hasB_no (.inl hneg)
    have e1 : writeT now i v = now := by unfold writeT; rw [hl, hb]; rfl
    have e2 : errI rs.length i = 4 := by unfold errI; rw [hb]; rfl
    rw [e1, e2]
    clear e1 e2 hb hB h hl e3
    go_enter Try.func14, Try.ntmps14
    go_wp2
    go_ret
    exact ⟨[], by simp, rfl, H.out, Moved.refl _ _⟩
  · have hneg' : decide (i < 0) = false := by simpa using hneg
    by_cases hbig : (rs.length : Int) ≤ i
    · have hb : hasB rs.length i = false := hasB_no (.inr hbig)
      have e1 : writeT now i v = now := by unfold writeT; rw [hl, hb]; rfl
      have e2 : errI rs.length i = 4 := by unfold errI; rw [hb]; rfl
      rw [e1, e2]
      clear e1 e2 hb hB h hl e3
      go_enter Try.func14, Try.ntmps14
      go_wp2
      go_ret
      exact ⟨[], by simp, rfl, H.out, Moved.refl _ _⟩
    · obtain ⟨k, rfl⟩ : ∃ k : Nat, i = (k : Int) := ⟨i.toNat, by omega⟩
      have hk : k < rs.length := by omega
      have hp : 0 < rs.length := by omega
      have hx := List.getElem?_eq_getElem (l := now) (i := k) (by omega)
      generalize now[k]'(by omega) = x at hx
      have e1 := writeT_at v (show k < now.length by omega)
      have e2 : errI rs.length (k : Int) = 0 := by unfold errI; rw [hasB_yes hk]; rfl
      obtain ⟨hc, hf⟩ := (h.row hp).2 k _ (u32s_at hx)
      have eV := e3 hp
      subst eV
      rw [e1, e2]
      have HW := Lib.hid (h.write hp k v)
      have HG := Lib.hid (h.hg hp)
      have i0 : (0 : Int) ≤ (k : Int) := by omega
      have i1 : (k : Int) < (rs.length : Int) := by omega
      clear e1 e2 hB h hl hx e3 hneg hneg' hbig
      go_enter Try.func14, Try.ntmps14
      go_wp2
      go_ret
      exact ⟨[gv], by simpa using HG.out, rfl, HW.out, Moved.setCell _ (by simp) _⟩

end Go.Proofs.Ytlolnogkndhfnaa
