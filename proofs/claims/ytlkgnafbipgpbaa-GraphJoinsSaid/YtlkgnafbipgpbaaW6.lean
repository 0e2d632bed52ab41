/- The contracts of slices.IndexFunc and slices.ContainsFunc over a predicate, and of the two closures. -/
import Derived.Test.YtlkgnafbipgpbaaW5
import Derived.Shelf.Abstract
namespace Go.Proofs.Ytlkgnafbipgpbaa
open Go.RowKit Go.Maps

/-- the function value g over lb says p of each int, in w0 and whatever has grown from it (block row apart) -/
def Says (g : Nat) (lb : Array Value) (p : Int → Bool) (row : Option Nat) (w0 : World) : Prop :=
  ∀ W, w0.grownBy W row → ∀ x, wfI x → Calls Try.prog g (#[.int .i64 x] ++ lb) W fun e w' => e = .returned (.bool (p x)) ∧ Below W.heap.size W w'

theorem Says.later {g : Nat} {lb : Array Value} {p : Int → Bool} {row : Option Nat} {w0 w1 : World} (h : Says g lb p row w0) (hg : w0.grownBy w1 row) : Says g lb p row w1 := fun W hW => h W (hg.trans hW)
theorem enters40 (args : Array Value) (w : World) : (callFunc 40 args).run Try.prog w = .ok (.enter 40 args) w := enters_of Try.func40 (by kernel_rfl) rfl args w
theorem enters34 (args : Array Value) (w : World) : (callFunc 34 args).run Try.prog w = .ok (.enter 34 args) w := enters_of Try.func34 (by kernel_rfl) rfl args w

theorem only1 (b bm N : Nat) (met : List Int) (x : Int) (w : World) (h : SetAt w b N met) (hx : wfI x) (hc : w.cell? ⟨bm, 0, none⟩ = some (.map (some b))) :
    Calls Try.prog 40 #[.int .i64 x, .pointer (some ⟨bm, 0, none⟩)] w fun e w' => e = .returned (.bool (!memB x met)) ∧ Below w.heap.size w w' := by
  go_enter Try.func40, Try.ntmps40
  go_wp2_with (go_at_call 30; refine (markHas' b N met _ _ h hx).mono ?_; rintro e w1 ⟨rfl, hb1⟩)
  go_ret
  exact ⟨rfl, hb1⟩

theorem under1 (b bm bv N : Nat) (met : List Int) (x v : Int) (w : World) (h : SetAt w b N met) (hx : wfI x) (hv : w.cell? ⟨bv, 0, none⟩ = some (.int .i64 v)) (hc : w.cell? ⟨bm, 0, none⟩ = some (.map (some b))) :
    Calls Try.prog 34 #[.int .i64 x, .pointer (some ⟨bv, 0, none⟩), .pointer (some ⟨bm, 0, none⟩)] w fun e w' => e = .returned (.bool (memB x (v :: met))) ∧ Below w.heap.size w w' := by
  by_cases e : x = v
  · have hq : (x == v) = true := by simpa using e
    have hm : memB x (v :: met) = true := memB_yes (by simp [e])
    clear e
    go_enter Try.func34, Try.ntmps34
    go_wp2
    go_ret
    exact ⟨by first | rfl | exact ret_bool hm.symm, Below.refl _ _⟩
  · have hq : (x == v) = false := by simpa using e
    have hm : memB x (v :: met) = memB x met := by rw [Bool.eq_iff_iff, memB_iff, memB_iff]; simp [e]
    rw [hm]
    clear e hm
    go_enter Try.func34, Try.ntmps34
    go_wp2_with (go_at_call 30; refine (markHas' b N met _ _ h hx).mono ?_; rintro e w1 ⟨rfl, hb1⟩)
    go_ret
    exact ⟨rfl, hb1⟩

def IdxOut (p : Int → Bool) (xs : List Int) (w : World) (e : Ending) (w' : World) : Prop :=
  ((∃ k x, xs[k]? = some x ∧ p x = true ∧ (∀ j y, j < k → xs[j]? = some y → p y = false) ∧ e = .returned (.int .i64 (k : Nat))) ∨ ((∀ y, y ∈ xs → p y = false) ∧ e = .returned (.int .i64 (-1)))) ∧ Below w.heap.size w w'

set_option maxHeartbeats 1000000 in
theorem idx_any (g : Nat) (lb : Array Value) (eg : ∀ args w, (callFunc g args).run Try.prog w = .ok (.enter g args) w) (p : Int → Bool) (row : Option Nat) (A : Option Addr) (c : Nat) (xs : List Int) (w : World)
    (hp : Says g lb p row w) (hl : xs.length ≤ 1000000) (hx : ∀ x, x ∈ xs → wfI x) (h : IntsAt w w.heap.size A xs) :
    Calls Try.prog 41 #[.slice A xs.length c, .func (.func g) #[] lb] w (IdxOut p xs w) := by
  have HX := Lib.hid hx
  have HP := Lib.hid hp
  clear hx hp
  go_enter Try.func41, Try.ntmps41
  go_wp2
  go_loopw [8] (fun i wr => ∃ k : Nat, k ≤ xs.length ∧ i = .int .i64 k ∧ Below w.heap.size w wr ∧ ∀ j y, j < k → xs[j]? = some y → p y = false) (fun i _ => xs.length - (intOf i).toNat)
  case atStart => exact ⟨0, Nat.zero_le _, rfl, Below.refl _ _, fun j y hj => absurd hj (by omega)⟩
  case round =>
    obtain ⟨k, hk, rfl, hB, hno⟩ := hrel
    have HN := Lib.hid hno
    clear hno
    by_cases hlt : k < xs.length
    · obtain ⟨ad, hA, _, hc⟩ := (h.below hB (Nat.le_refl _)).at_ hlt
      obtain ⟨x, hxk⟩ : ∃ x, x = xs[k] := ⟨_, rfl⟩
      rw [← hxk] at hc
      have hk? : xs[k]? = some x := by rw [List.getElem?_eq_getElem hlt, hxk]
      have hwf := HX.out x (by rw [hxk]; exact List.getElem_mem _)
      have HK := Lib.hid hk?
      clear hxk hk?
      subst hA
      have hcall := HP.out wr (grown_of_below hB row) x hwf
      cases hq : p x with
      | true =>
        rw [hq] at hcall
        have HQ := Lib.hid hq
        go_wp2_with (go_at_fn g; refine hcall.mono ?_; rintro e w' ⟨rfl, hb'⟩)
        go_ret
        exact ⟨.inl ⟨k, x, HK.out, HQ.out, HN.out, rfl⟩, hB.trans (hb'.mono hB.size)⟩
      | false =>
        rw [hq] at hcall
        have HQ := Lib.hid hq
        go_wp2_with (go_at_fn g; refine hcall.mono ?_; rintro e w' ⟨rfl, hb'⟩)
        go_roundw
        case rel => exact ⟨k + 1, by omega, by go_num, hB.trans (hb'.mono hB.size), fun j y hj hy => by
          by_cases e : j = k
          · subst e; rw [HK.out] at hy; injection hy with hy; rw [← hy]; exact HQ.out
          · exact HN.out j y (by omega) hy⟩
        case measure => simp [intOf]; omega
    · go_wp2
      go_ret
      exact ⟨.inr ⟨fun y hy => by
        obtain ⟨j, hj, e⟩ := List.mem_iff_getElem.1 hy
        exact HN.out j y (by omega) (by rw [List.getElem?_eq_getElem hj, e]), rfl⟩, hB⟩

def anyB (p : Int → Bool) (xs : List Int) : Bool := xs.any p
theorem anyB_iff {p : Int → Bool} {xs : List Int} : anyB p xs = true ↔ ∃ x, x ∈ xs ∧ p x = true := by unfold anyB; simp

set_option maxHeartbeats 1000000 in
theorem contains_any (g : Nat) (lb : Array Value) (eg : ∀ args w, (callFunc g args).run Try.prog w = .ok (.enter g args) w) (p : Int → Bool) (row : Option Nat) (A : Option Addr) (c : Nat) (xs : List Int) (w : World)
    (hp : Says g lb p row w) (hl : xs.length ≤ 1000000) (hx : ∀ x, x ∈ xs → wfI x) (h : IntsAt w w.heap.size A xs) :
    Calls Try.prog 33 #[.slice A xs.length c, .func (.func g) #[] lb] w fun e w' => e = .returned (.bool (anyB p xs)) ∧ Below w.heap.size w w' := by
  have HX := Lib.hid hx
  have HP := Lib.hid hp
  clear hx hp
  go_enter Try.func33, Try.ntmps33
  go_wp2_with fail
  refine (idx_any g lb eg p row A c xs w HP.out hl HX.out h).mono ?_
  rintro e w' ⟨⟨k, x, h1, h2, h3, rfl⟩ | ⟨h1, rfl⟩, hb⟩
  · have hm : anyB p xs = true := anyB_iff.2 ⟨x, List.mem_of_getElem? h1, h2⟩
    clear h1 h2 h3
    go_wp2
    go_ret
    exact ⟨by first | rfl | exact ret_bool hm.symm, hb⟩
  · have hm : anyB p xs = false := by
      rw [Bool.eq_false_iff]
      intro hh
      obtain ⟨x, hx1, hx2⟩ := anyB_iff.1 hh
      rw [h1 x hx1] at hx2
      cases hx2
    clear h1
    go_wp2
    go_ret
    exact ⟨by first | rfl | exact ret_bool hm.symm, hb⟩

end Go.Proofs.Ytlkgnafbipgpbaa
