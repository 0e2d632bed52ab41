/- What the statements' walks share: quiet calls, rows of bytes. -/
import Derived.Test.YtlhmcpkfmnmhfaaZA
import Derived.Deep.QuietTactic
import Derived.BigQuiet
namespace Go.Proofs.Ytlhmcpkfmnmhfaa
set_option linter.unusedSimpArgs false
set_option linter.unusedVariables false
open Go.RowKit Go.Maps

theorem Lw.box {w3 wr : World} {gt g c : Nat} {doms : List Dom} {sts : List Pst} {b : Nat} {v : Value} {vs : List Value} (h : Lw w3 wr gt g c doms sts) (hB : BoxAt w3 b (v :: vs)) : BoxAt wr b (v :: vs) := hB.move (Moved.of_below (hot := []) h.bel) (by simp)
theorem Lw.calm' {w3 wr w' : World} {gt g c : Nat} {doms : List Dom} {sts : List Pst} {H : List Nat} (h : Lw w3 wr gt g c doms sts) (hm : Moved H wr w') (h1 : gt ∉ H) (h2 : g ∉ H) (h3 : ∀ b, b ∈ H → w3.heap.size ≤ b) : Lw w3 w' gt g c doms sts := ⟨h.grid.far hm h1 h2, h.inv, h.ok, h.bel.trans (hm.below h3 h.bel.size), h.lo⟩
theorem Lw.phaseQ {w3 wr : World} {gt g c : Nat} {doms : List Dom} {sts : List Pst} (h : Lw w3 wr gt g c doms sts) (n : Nat) (i : Int) {p : Int} (hp : phaseP sts i = p) : Calls Try.prog 16 #[.pointer (some ⟨gt, 0, none⟩), .int .i64 i] (wr.drewN n) fun e w'' => e = .returned (.int .u8 p) ∧ ∃ m, w'' = wr.drewN m :=
  ((h.drewN n).phase i).mono fun e w' ⟨he, hw⟩ => ⟨by rw [he, hp], n, hw.symm⟩
theorem pickQ (c n : Int) (w : World) (m : Nat) (hc : wfI c) (h0 : 0 < n) (h1 : n ≤ 1000000) {q : Int} (hq : pickP c n = q) : Calls Try.prog 12 #[.int .i64 c, .int .i64 n] (w.drewN m) fun e w'' => e = .returned (.int .i64 q) ∧ ∃ m, w'' = w.drewN m :=
  (pick_any c n _ hc h0 h1).mono fun e w' ⟨he, hw⟩ => ⟨by rw [he, hq], m, hw.symm⟩

theorem make_bytes (n : Nat) (hn : n ≤ 1000) (W : World) :
    (Instr.makeSlice 52 (.int .i64 (n : Int)) (.int .i64 (n : Int))).run Try.prog W = .ok (.slice (some ⟨W.heap.size, 0, none⟩) n n) (W.alloc (.cells (madeCells #[.int .u8 0] n) 5)) := by
  obtain ⟨i0, hi, hz0, hz1, hz2⟩ := info_parts (show (Try.prog.info? 5).map (fun i => (i.zero, i.size, i.bytes)) = some (some (.int .u8 0), 1, 1) by kernel_rfl)
  have h := run_make (P := Try.prog) (w := W) 52 5 i0 (.int .u8 0) Try.underlying52 hi hz0 .i64 .i64 n n (by omega) (by omega) (by rw [hz2]; omega) (by omega)
  simp only [hz1, Nat.mul_one] at h
  exact h
/-- the first k of n bytes are filled -/
def BytesTo (w : World) (g n : Nat) (f : Nat → Int) (k : Nat) : Prop := ∀ i, i < n → w.frozen? ⟨g, i, none⟩ = false ∧ w.cell? ⟨g, i, none⟩ = some (.int .u8 (if i < k then f i else 0))
theorem BytesTo.new (W : World) (n : Nat) (f : Nat → Int) : BytesTo (W.alloc (.cells (madeCells #[.int .u8 0] n) 5)) W.heap.size n f 0 := by
  intro i hi
  have hh : (W.alloc (.cells (madeCells #[.int .u8 0] n) 5)).heap[W.heap.size]? = some (.cells (madeCells #[.int .u8 0] n) 5 (0, 0)) := heap_alloc_new W _
  refine ⟨frozen_of_row _ _ _ _ _ hh, ?_⟩
  rw [cell_of_row _ _ i _ _ _ hh]
  simp [madeCells, hi, Nat.mod_one]
theorem BytesTo.move {w w' : World} {g n k : Nat} {f : Nat → Int} {hot : List Nat} (h : BytesTo w g n f k) (hm : Moved hot w w') (hl : g < w.heap.size) (hne : g ∉ hot) : BytesTo w' g n f k := fun i hi =>
  ⟨(hm.frozen (p := ⟨g, i, none⟩) hl hne).trans (h i hi).1, hm.cell (h i hi).2 hne⟩
theorem BytesTo.set {w : World} {g n k : Nat} {f : Nat → Int} (h : BytesTo w g n f k) (hk : k < n) : BytesTo (w.setCell ⟨g, k, none⟩ (.int .u8 (f k))) g n f (k + 1) := by
  intro i hi
  obtain ⟨h1, h2⟩ := h i hi
  refine ⟨by rw [World.frozen?_setCell]; exact h1, ?_⟩
  by_cases e : i = k
  · subst e
    rw [if_pos (Nat.lt_succ_self _)]
    exact World.cell?_setCell_same' _ _ _ (by rw [h2]; rfl)
  · rw [World.cell?_setCell_other w _ _ _ (fun h => e (by cases h; rfl)), h2]
    by_cases h3 : i < k
    · rw [if_pos h3, if_pos (by omega)]
    · rw [if_neg h3, if_neg (by omega)]

/-- an act leaves the phases of all others -/
theorem up_others {sts : List Pst} {x i : Int} (h : i ≠ x) : phaseP (upT sts x) i = phaseP sts i := by
  unfold upT
  split
  · cases hb : hasB sts.length x with
    | false => rename_i hE; rw [show upE sts x = 4 from atP_no hb _ _] at hE; omega
    | true =>
      obtain ⟨k, y, rfl, hy⟩ := hasB_ex hb
      rw [setT_at _ hy, phaseP_set hy, if_neg h]
  · rfl
theorem down_others {sts : List Pst} {x i : Int} {kp : Bool} (h : i ≠ x) : phaseP (downT sts x kp) i = phaseP sts i := by
  unfold downT
  split
  · cases hb : hasB sts.length x with
    | false => rename_i hE; rw [show downE sts x kp = 4 from atP_no hb _ _] at hE; omega
    | true =>
      obtain ⟨k, y, rfl, hy⟩ := hasB_ex hb
      rw [setT_at _ hy, phaseP_set hy, if_neg h]
  · rfl

def Alone (w3 wr : World) (gt g c : Nat) (doms : List Dom) (sts : List Pst) (x : Int) (e : Ending) (w' : World) : Prop := ∃ E sts', e = .returned (.int .i64 E) ∧ Lw w3 w' gt g c doms sts' ∧ Moved [g] wr w' ∧ ∀ i, i ≠ x → phaseP sts' i = phaseP sts i
theorem Lw.upA {w3 wr : World} {gt g c : Nat} {doms : List Dom} {sts : List Pst} (h : Lw w3 wr gt g c doms sts) (i : Int) : Calls Try.prog 13 #[.pointer (some ⟨gt, 0, none⟩), .int .i64 i] wr (Alone w3 wr gt g c doms sts i) :=
  (h.up i).mono fun e w' ⟨he, hl, hm⟩ => ⟨_, _, he, hl, hm, fun j hj => up_others hj⟩
theorem Lw.downA {w3 wr : World} {gt g c : Nat} {doms : List Dom} {sts : List Pst} (h : Lw w3 wr gt g c doms sts) (i : Int) (kp : Bool) : Calls Try.prog 14 #[.pointer (some ⟨gt, 0, none⟩), .int .i64 i, .bool kp] wr (Alone w3 wr gt g c doms sts i) :=
  (h.down i kp).mono fun e w' ⟨he, hl, hm⟩ => ⟨_, _, he, hl, hm, fun j hj => down_others hj⟩

end Go.Proofs.Ytlhmcpkfmnmhfaa
