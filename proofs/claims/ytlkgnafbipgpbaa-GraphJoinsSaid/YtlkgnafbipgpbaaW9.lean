/- The contracts of slices.Backward and of the function that it hands back. -/
import Derived.RangeFuncNested
import Derived.RangeFuncBound
import Derived.RangeFuncCalls
import Derived.RangeFuncLeaves
import Derived.Shelf.Abstract
import Derived.Shelf.RegionOpen
import Derived.OwnWalkIn
import Derived.TacticsInMore
import Derived.LoopNIn
import Derived.LoopIn
import Derived.Test.YtlkgnafbipgpbaaW8
namespace Go.Proofs.Ytlkgnafbipgpbaa
open Go.RowKit Go.Shelf

attribute [local go_sem] Oper.semAt_some

theorem back_any (A : Option Addr) (n c : Nat) (w : World) :
    Calls Try.prog 29 #[.slice A n c] w fun e w' => e = .returned (.func (.func 38) #[] #[.pointer (some ⟨w.heap.size, 0, none⟩)]) ∧ w.alloc (.cells #[.slice A n c] 25) = w' := by
  go_enter Try.func29, Try.ntmps29
  go_wp2
  go_ret
  exact ⟨rfl, rfl⟩

/-- what a round must keep for the iterator: all below n₀, and its own box -/
def KpB (n₀ Bs : Nat) (W W' : World) : Prop := Below n₀ W W' ∧ W'.heap[Bs]? = W.heap[Bs]?
theorem KpB.refl (n₀ Bs : Nat) (W : World) : KpB n₀ Bs W W := ⟨Below.refl _ _, rfl⟩
theorem KpB.trans {n₀ Bs : Nat} {A B C : World} (h : KpB n₀ Bs A B) (k : KpB n₀ Bs B C) : KpB n₀ Bs A C := ⟨h.1.trans k.1, k.2.trans h.2⟩
theorem kpB_b {n₀ Bs : Nat} {w : World} (hn : n₀ ≤ w.heap.size) (hB : Bs < w.heap.size) (W : World) (l : Nat) (o o' : Obj) (hl : w.heap.size ≤ l) (h : W.heap[l]? = some o) (h1 : o.isCells = false) (h2 : o.isWalk = false) : KpB n₀ Bs W (W.putObj l o') :=
  ⟨belowK_b hn W l o o' hl h h1 h2, World.putObj_heap_other (by omega)⟩
theorem KpB.cell {n₀ Bs : Nat} {W W' : World} (h : KpB n₀ Bs W W') : W'.cell? ⟨Bs, 0, none⟩ = W.cell? ⟨Bs, 0, none⟩ := World.cell?_of_block h.2

/-- what comes: a place and a node below N -/
abbrev Node (N : Nat) := { p : Int × Nat // p.2 < N }
def encN {N : Nat} (x : Node N) : Array Value := #[.int .i64 x.1.1, .int .i64 (x.1.2 : Nat)]
/-- the list of a slice's places and nodes, from its end on -/
def Backs {N : Nat} (o : List Nat) (L : List (Node N)) : Prop := L.length = o.length ∧ ∀ (k : Nat) (x : Node N), L[k]? = some x → ∃ r : Nat, r + k + 1 = o.length ∧ x.1.1 = (r : Int) ∧ o[r]? = some x.1.2

set_option maxRecDepth 100000 in
set_option maxHeartbeats 4000000 in
theorem back1_in {N : Nat} (F : Fence) (n : Nat) (h38 : F.fn 38) (hro : F.round = none) (hn : 1 ≤ n) (l Bs n₀ cap : Nat) (A : Option Addr) (o : List Nat) (L : List (Node N)) (hL : Backs o L) (hlen : o.length ≤ 1000) (J Jx : List (Node N) → World → Prop)
    (hY : ∀ pre x W, J pre W → pre.length < o.length → YieldAt F (n - 1) Try.prog l (encN x) W fun e W' =>
      (e = .returned (.bool true) ∧ J (pre ++ [x]) W' ∧ KpB n₀ Bs W W') ∨ (e = .returned (.bool false) ∧ Jx (pre ++ [x]) W'))
    (W : World) (hBs : W.cell? ⟨Bs, 0, none⟩ = some (.slice A o.length cap)) (hI : IntsAt W n₀ A (ci o)) (h0 : J [] W) :
    CallsIn F n Try.prog 38 #[.func (.yield l) #[] #[], .pointer (some ⟨Bs, 0, none⟩)] W fun e W' => (∃ v, e = .returned v) ∧
      ((∃ ys, ys = L ∧ J ys W') ∨ (∃ pre, True ∧ Jx pre W')) := by
  have HL := Lib.hid hL
  clear hL
  refine callsIn_of_wp Try.func38 rfl h38 ?_ hro
  simp only [Try.ntmps38, List.size_toArray, List.length_cons, List.length_nil, Nat.reduceAdd, Nat.reduceSub, Array.replicate_succ, Array.replicate_zero, List.push_toArray, List.append_toArray, List.nil_append, List.cons_append]
  gi_wp2
  gi_loopw [3] (fun i wr => ∃ (r : Nat) (z : Int), r ≤ o.length ∧ z = (r : Int) - 1 ∧ i = .int .i64 z ∧ J (L.take (o.length - r)) wr ∧ KpB n₀ Bs W wr) (fun i _ => (intOf i + 1).toNat)
  case atStart => exact ⟨o.length, _, Nat.le_refl _, rfl, rfl, by rw [Nat.sub_self, List.take_zero]; exact h0, KpB.refl _ _ _⟩
  case round =>
    obtain ⟨r, z, hr, hz, rfl, hJs, hK⟩ := hrel
    have hbs := hK.cell.trans hBs
    rcases r with _ | r
    · have hz0 : z < 0 := by omega
      clear hz
      have HJ : Hid (J (L.take (o.length - 0)) wr) := hJs
      clear hJs
      gi_wp2
      go_end0
      refine ⟨⟨_, rfl⟩, .inl ⟨_, rfl, ?_⟩⟩
      have := HJ.out
      rw [List.take_of_length_le (by have := HL.out.1; omega)] at this
      exact this
    · obtain rfl : z = (r : Int) := by omega
      clear hz
      have hlt : r < o.length := hr
      obtain ⟨x, hx⟩ : ∃ x, L[o.length - (r + 1)]? = some x := ⟨_, List.getElem?_eq_getElem (by have := HL.out.1; omega)⟩
      obtain ⟨r', e1, e2, e3⟩ := HL.out.2 _ x hx
      obtain rfl : r' = r := by omega
      obtain ⟨ad, hA, _, hc⟩ := (hI.below hK.1 (Nat.le_refl _)).at_ (k := r') (by rw [ci_length]; exact hlt)
      have e4 : (ci o)[r']'(by rw [ci_length]; exact hlt) = (x.1.2 : Int) := by
        have : (ci o)[r']? = some (x.1.2 : Int) := by simp [ci, e3]
        rw [List.getElem?_eq_getElem (by rw [ci_length]; exact hlt)] at this
        injection this
      rw [e4] at hc
      obtain ⟨fn, tmps, assign, body, hy, hR⟩ := hY _ x wr hJs (by rw [List.length_take]; have := HL.out.1; omega)
      unfold encN at hy
      rw [e2] at hy
      have HX := Lib.hid hx
      subst hA
      clear e4 e3 hx e1 e2
      have hJ' : Hid (J (L.take (o.length - (r' + 1))) wr) := hJs
      clear hJs
      gi_wp2
      refine hR.mono ?_
      rintro e W3 (⟨rfl, hJ3, hk3⟩ | ⟨rfl, hJx3⟩)
      · have HJ3 := Lib.hid hJ3
        clear hJ3
        gi_wp2
        go_roundw
        case rel =>
          refine ⟨r', (r' : Int) - 1, by omega, rfl, rfl, ?_, hK.trans hk3⟩
          have e5 : o.length - r' = o.length - (r' + 1) + 1 := by omega
          rw [e5, List.take_add_one, HX.out]
          exact HJ3.out
        case measure => simp [intOf]
      · have HJ3 := Lib.hid hJx3
        clear hJx3
        gi_wp2
        refine bodyPost_ret (results_none rfl _ _ _) rfl ?_
        exact ⟨⟨_, rfl⟩, .inr ⟨_, trivial, HJ3.out⟩⟩

theorem back_stops {N : Nat} (F : Fence) (n : Nat) (h38 : F.fn 38) (hro : F.round = none) (hn : 1 ≤ n) (Bs n₀ cap : Nat) (A : Option Addr) (o : List Nat) (L : List (Node N)) (hL : Backs o L) (hlen : o.length ≤ 1000) (w : World) (hBs : Bs < w.heap.size) (hn₀ : n₀ ≤ w.heap.size)
    (hc : w.cell? ⟨Bs, 0, none⟩ = some (.slice A o.length cap)) (hI : IntsAt w n₀ A (ci o)) :
    SeqStopsK F n Try.prog 38 #[.pointer (some ⟨Bs, 0, none⟩)] (encN (N := N)) (KpB n₀ Bs) (fun ys => ys = L) (fun _ => True) o.length w := fun l J Jx W hW _ _ hY h0 =>
  back1_in F n h38 hro hn l Bs n₀ cap A o L hL hlen J Jx hY W ((hW.cell (p := ⟨Bs, 0, none⟩) hBs).trans hc) (hI.below hW (by omega)) h0

theorem backs_ex {N : Nat} (o : List Nat) (h : ∀ x, x ∈ o → x < N) : ∃ L : List (Node N), Backs o L := by
  refine ⟨List.ofFn (fun k : Fin o.length => (⟨(((o.length - 1 - k.1 : Nat) : Int), o[o.length - 1 - k.1]'(by have := k.2; omega)), h _ (List.getElem_mem _)⟩ : Node N)), by simp, fun k x hx => ?_⟩
  obtain ⟨hk, e⟩ := List.getElem?_eq_some_iff.1 hx
  have hk' : k < o.length := by simpa using hk
  rw [List.getElem_ofFn] at e
  subst e
  exact ⟨o.length - 1 - k, by omega, rfl, List.getElem?_eq_getElem _⟩
def nodesOf {N : Nat} (pre : List (Node N)) : List Nat := pre.map fun x => x.1.2
theorem nodesOf_snoc {N : Nat} (pre : List (Node N)) (x : Node N) : nodesOf (pre ++ [x]) = nodesOf pre ++ [x.1.2] := by simp [nodesOf]
theorem backs_rev {N : Nat} {o : List Nat} {L : List (Node N)} (h : Backs o L) : nodesOf L = o.reverse := by
  unfold nodesOf
  apply List.ext_getElem?
  intro k
  by_cases hk : k < o.length
  · have hx : L[k]? = some (L[k]'(by rw [h.1]; exact hk)) := List.getElem?_eq_getElem _
    obtain ⟨r, e1, _, e3⟩ := h.2 k _ hx
    rw [List.getElem?_map, hx, List.getElem?_reverse hk, show o.length - 1 - k = r by omega, e3]
    rfl
  · rw [List.getElem?_eq_none (by rw [List.length_map, h.1]; omega), List.getElem?_eq_none (by rw [List.length_reverse]; omega)]

end Go.Proofs.Ytlkgnafbipgpbaa
