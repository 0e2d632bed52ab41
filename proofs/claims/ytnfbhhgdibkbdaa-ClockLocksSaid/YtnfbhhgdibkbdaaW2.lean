/- Sets of nodes: the contracts of marks.has and marks.add. -/
import Derived.Test.YtnfbhhgdibkbdaaW1
import Derived.Maps.OwnSet
import Derived.Maps.OwnOps
import Derived.Maps.AppendAt
namespace Go.Proofs.Ytnfbhhgdibkbdaa
set_option linter.unusedSimpArgs false
set_option linter.unusedVariables false
open Go.RowKit Go.Maps

theorem key3 : Keyed Try.prog 3 := int_keyed Try.underlying3

def wfI (x : Int) : Prop := -9223372036854775808 ≤ x ∧ x ≤ 9223372036854775807

/-- block b is a set of at most N ints: those of the list met -/
def SetAt (w : World) (b N : Nat) (met : List Int) : Prop := ∃ D : DataW Unit, w.ownsMap Try.prog 3 unitElem b N D ∧ ∀ x, wfI x → Maps.has D (.int .i64 x) = memB x met

theorem SetAt.made (w : World) : SetAt (w.alloc (.map #[] 0)) w.heap.size 0 [] :=
  ⟨.map [], World.ownsMap_made _ _ _ _, fun x _ => by rw [memB_no (by simp)]; rfl⟩
theorem SetAt.lt {w : World} {b N : Nat} {met : List Int} (h : SetAt w b N met) : b < w.heap.size := let ⟨_, h, _⟩ := h; h.lt
theorem SetAt.mono {w : World} {b N M : Nat} {met : List Int} (h : SetAt w b N met) (hM : N ≤ M) : SetAt w b M met := let ⟨D, h, h'⟩ := h; ⟨D, h.mono hM, h'⟩
theorem SetAt.kept {w w' : World} {b N : Nat} {met : List Int} {row : Option Nat} (h : SetAt w b N met) (hg : w.grownBy w' row) (hne : some b ≠ row) : SetAt w' b N met :=
  let ⟨D, h, h'⟩ := h; ⟨D, h.kept hg hne, h'⟩
theorem SetAt.alloc {w : World} {b N : Nat} {met : List Int} (h : SetAt w b N met) (o : Obj) : SetAt (w.alloc o) b N met := let ⟨D, h, h'⟩ := h; ⟨D, h.alloc o, h'⟩
theorem SetAt.below {w w' : World} {b B N : Nat} {met : List Int} (h : SetAt w b N met) (hb : Below B w w') (hB : b < B) : SetAt w' b N met := by
  obtain ⟨D, ⟨es, clock, hh, r⟩, h'⟩ := h
  exact ⟨D, ⟨es, clock, (hb.block b hB).trans hh, r⟩, h'⟩
theorem SetAt.drewN {w : World} {b N : Nat} {met : List Int} (h : SetAt w b N met) (n : Nat) : SetAt (w.drewN n) b N met := h.below (below_drewN (Below.refl (b + 1) w) n) (Nat.lt_succ_self b)
theorem SetAt.ne {w : World} {b N : Nat} {met : List Int} (h : SetAt w b N met) {p : Addr} {v : Value} (hc : w.cell? p = some v) : p.block ≠ b := by
  obtain ⟨D, ⟨es, clock, hh, _⟩, _⟩ := h
  rintro rfl
  simp [World.cell?, hh] at hc
theorem SetAt.congr {w : World} {b N : Nat} {met met' : List Int} (h : SetAt w b N met) (he : ∀ x, x ∈ met ↔ x ∈ met') : SetAt w b N met' := by
  obtain ⟨D, h, h'⟩ := h
  refine ⟨D, h, fun x hx => (h' x hx).trans ?_⟩
  rw [Bool.eq_iff_iff, memB_iff, memB_iff]; exact he x
theorem SetAt.put {w w' : World} {b N : Nat} {met : List Int} {D : DataW Unit} (hD : w.ownsMap Try.prog 3 unitElem b N D) (h' : ∀ x, wfI x → Maps.has D (.int .i64 x) = memB x met) {x : Int}
    (hn : w'.ownsMap Try.prog 3 unitElem b (N + 1) (D.put (.int .i64 x) (.agg []))) : SetAt w' b (N + 1) (met ++ [x]) := by
  refine ⟨_, hn, fun y hy => ?_⟩
  by_cases e : y = x
  · subst e
    rw [has_put_same hD.isMap (by trivial), memB_yes (by simp)]
  · rw [has_put_other (by simpa using e), h' y hy]
    rw [Bool.eq_iff_iff, memB_iff, memB_iff]; simp [e]

set_option maxHeartbeats 1000000 in
theorem markHas (b N : Nat) (met : List Int) (x : Int) (w : World) (h : SetAt w b N met) (hx : wfI x) :
    Calls Try.prog 109 #[.map (some b), .int .i64 x] w fun e w' => e = .returned (.bool (memB x met)) ∧ w.alloc (.cells #[] 146) = w' := by
  obtain ⟨D, hown, hD⟩ := h
  have hkey : keyOf Try.prog 3 (.int .i64 x) = some (.int .i64 x) := keyOf_int_mk Try.underlying3 (WalkArith.wf_i64 hx)
  have hq := hD x hx
  obtain ⟨r, hr⟩ : ∃ r, r = memB x met := ⟨_, rfl⟩
  rw [← hr] at hq ⊢
  clear hD hr
  go_enter Try.func109, Try.ntmps109
  go_wp2_with (at_lookup; refine wpList_lookup_own_unit _ rfl _ _ 142 rfl 3 146 key3 Try.underlying142 (Try.zeroValue146 _) b N _ rfl hown _ _ rfl hkey ?_)
  go_ret
  exact ⟨by first | rfl | exact ret_bool hq, rfl⟩

theorem markHas' (b N : Nat) (met : List Int) (x : Int) (w : World) (h : SetAt w b N met) (hx : wfI x) :
    Calls Try.prog 109 #[.map (some b), .int .i64 x] w fun e w' => e = .returned (.bool (memB x met)) ∧ Below w.heap.size w w' :=
  (markHas b N met x w h hx).mono fun _ _ ⟨h1, h2⟩ => ⟨h1, h2 ▸ (Below.refl _ _).alloc (Nat.le_refl _) _⟩

theorem IntsAt.kept {w w' : World} {B : Nat} {A : Option Addr} {xs : List Int} {row : Option Nat} (h : IntsAt w B A xs) (hg : w.grownBy w' row) (hne : ∀ ad, A = some ad → some ad.block ≠ row) : IntsAt w' B A xs := by
  intro hl
  obtain ⟨ad, e, hb, hc⟩ := h hl
  exact ⟨ad, e, hb, fun j x hj => hg.cell (hc j x hj) (by rw [block_add]; exact hne ad e)⟩
theorem IntsAt.keptSet {w w' : World} {B b N : Nat} {met : List Int} {A : Option Addr} {xs : List Int} (h : IntsAt w B A xs) (hs : SetAt w b N met) (hg : w.grownBy w' (some b)) : IntsAt w' B A xs := by
  intro hl
  obtain ⟨ad, e, hb, hc⟩ := h hl
  refine ⟨ad, e, hb, fun j x hj => hg.cell (hc j x hj) ?_⟩
  intro e'
  injection e' with e'
  exact hs.ne (hc j x hj) e'
theorem RowsAt.keptSet {w w' : World} {B b N n : Nat} {met : List Int} {A : Option Addr} {g : Nat → List Int} (h : RowsAt w B A n g) (hs : SetAt w b N met) (hg : w.grownBy w' (some b)) : RowsAt w' B A n g := by
  intro hl
  obtain ⟨ad, e, hb, hc⟩ := h hl
  refine ⟨ad, e, hb, fun i hi => ?_⟩
  obtain ⟨Ai, ci, h1, h2, h3⟩ := hc i hi
  refine ⟨Ai, ci, hg.cell h1 ?_, h2, h3.keptSet hs hg⟩
  intro e'
  injection e' with e'
  exact hs.ne h1 e'

set_option maxHeartbeats 2000000 in
theorem markAdd (b N c B : Nat) (A : Option Addr) (met xs : List Int) (w : World) (h : SetAt w b N met) (hI : IntsAt w B A xs) (hx : ∀ x, x ∈ xs → wfI x) (hN : N + xs.length ≤ 1000000) :
    Calls Try.prog 108 #[.map (some b), .slice A xs.length c] w fun e w' => e = .returned (.tuple #[]) ∧ SetAt w' b (N + xs.length) (met ++ xs) ∧ w.grownBy w' (some b) := by
  go_enter Try.func108, Try.ntmps108
  go_wp2
  go_loopw [8] (fun i wr => ∃ k : Nat, k ≤ xs.length ∧ i = .int .i64 k ∧ SetAt wr b (N + k) (met ++ xs.take k) ∧ w.grownBy wr (some b)) (fun i _ => xs.length - (intOf i).toNat)
  case atStart => exact ⟨0, Nat.zero_le _, rfl, by simpa using h, World.grownBy.refl _ _⟩
  case round =>
    obtain ⟨k, hk, rfl, hs, hg⟩ := hrel
    by_cases hlt : k < xs.length
    · obtain ⟨ad, hA, _, hc⟩ := (hI.keptSet h hg).at_ hlt
      obtain ⟨x, hxk⟩ : ∃ x, x = xs[k] := ⟨_, rfl⟩
      rw [← hxk] at hc
      have HX := Lib.hid hxk
      have hwf : wfI x := hx x (by rw [hxk]; exact List.getElem_mem _)
      clear hxk
      subst hA
      obtain ⟨D, hown, hD⟩ := hs
      have HD := Lib.hid hD
      clear hD
      have hkey : keyOf Try.prog 3 (.int .i64 x) = some (.int .i64 x) := keyOf_int_mk Try.underlying3 (WalkArith.wf_i64 hwf)
      go_wp2_with (at_mapUpdate; refine wpList_mapUpdate_own _ rfl _ _ _ 142 rfl 3 146 key3 Try.underlying142 (unitElem (H := Unit)) b (N + k) _ rfl hown (by unfold maxLen; omega) _ _ _ rfl rfl hkey _ [] unitElem_mk ?_; intro w1 hown1 hgrow1)
      have hs1 := SetAt.put hown HD.out hown1
      go_roundw
      case rel =>
        refine ⟨k + 1, by omega, by go_num, ?_, hg.trans hgrow1⟩
        rw [List.take_succ_eq_append_getElem hlt, ← HX.out, ← List.append_assoc]
        exact hs1
      case measure => simp [intOf]; omega
    · obtain rfl : k = xs.length := by omega
      rw [List.take_length] at hs
      go_wp2
      go_end0
      exact ⟨rfl, hs, hg⟩

end Go.Proofs.Ytnfbhhgdibkbdaa
