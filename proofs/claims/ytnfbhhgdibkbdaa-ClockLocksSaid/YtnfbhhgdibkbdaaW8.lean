/- The contracts of areNodes, isJoined, isInRange, overfull, fits. -/
import Derived.Test.YtnfbhhgdibkbdaaW6
namespace Go.Proofs.Ytnfbhhgdibkbdaa
set_option linter.unusedSimpArgs false
set_option linter.unusedVariables false
open Go.RowKit Go.Maps

/-- the function value g over lb says p of each int, in w0 and later -/
def Says (g : Nat) (lb : Array Value) (p : Int → Bool) (w0 : World) : Prop :=
  ∀ W, Below w0.heap.size w0 W → ∀ x, Calls Try.prog g (#[.int .i64 x] ++ lb) W fun e w' => e = .returned (.bool (p x)) ∧ Below W.heap.size W w'

theorem node1_any (n q : Nat) (x : Int) (w : World) (hn : n ≤ 1000000) (hq : w.cell? ⟨q, 0, none⟩ = some (.int .i64 (n : Nat))) :
    Calls Try.prog 97 #[.int .i64 x, .pointer (some ⟨q, 0, none⟩)] w fun e w' => e = .returned (.bool (!betw x 0 ((n : Int) - 1))) ∧ w = w' := by
  go_enter Try.func97, Try.ntmps97
  go_wp2_with (go_at_call 95; refine (within_any _ _ _ _).mono ?_; rintro e w' ⟨rfl, rfl⟩)
  go_ret
  exact ⟨rfl, rfl⟩
theorem enters98 (args : Array Value) (w : World) : (callFunc 97 args).run Try.prog w = .ok (.enter 97 args) w := enters_of Try.func97 (by kernel_rfl) rfl args w

def IdxOut {α : Type} (p : α → Bool) (xs : List α) (w : World) (e : Ending) (w' : World) : Prop :=
  (∃ z : Int, ((0 ≤ z ∧ xs.any p = true) ∨ (z < 0 ∧ xs.any p = false)) ∧ e = .returned (.int .i64 z)) ∧ Below w.heap.size w w'

theorem any_no {α : Type} {p : α → Bool} {xs : List α} (h : ∀ (j : Nat) y, j < xs.length → xs[j]? = some y → p y = false) : xs.any p = false := by
  rw [Bool.eq_false_iff]
  intro hh
  obtain ⟨x, hx1, hx2⟩ := List.any_eq_true.1 hh
  obtain ⟨j, hj, e⟩ := List.mem_iff_getElem.1 hx1
  rw [h j x hj (by rw [List.getElem?_eq_getElem hj, e])] at hx2
  cases hx2

set_option maxHeartbeats 1000000 in
theorem idx_any (g : Nat) (lb : Array Value) (eg : ∀ args w, (callFunc g args).run Try.prog w = .ok (.enter g args) w) (p : Int → Bool) (A : Option Addr) (c : Nat) (xs : List Int) (w : World)
    (hp : Says g lb p w) (hl : xs.length ≤ 1000000) (h : IntsAt w w.heap.size A xs) :
    Calls Try.prog 102 #[.slice A xs.length c, .func (.func g) #[] lb] w (IdxOut p xs w) := by
  have HP := Lib.hid hp
  clear hp
  go_enter Try.func102, Try.ntmps102
  go_wp2
  go_loopw [8] (fun i wr => ∃ k : Nat, k ≤ xs.length ∧ i = .int .i64 k ∧ Below w.heap.size w wr ∧ ∀ (j : Nat) y, j < k → xs[j]? = some y → p y = false) (fun i _ => xs.length - (intOf i).toNat)
  case atStart => exact ⟨0, Nat.zero_le _, rfl, Below.refl _ _, fun j y hj => absurd hj (by omega)⟩
  case round =>
    obtain ⟨k, hk, rfl, hB, hno⟩ := hrel
    have HN := Lib.hid hno
    clear hno
    by_cases hlt : k < xs.length
    · obtain ⟨ad, hA, _, hc⟩ := (h.below hB (Nat.le_refl _)).at_ hlt
      obtain ⟨x, hxk⟩ : ∃ x, x = xs[k] := ⟨_, rfl⟩
      rw [← hxk] at hc
      have hk? : xs[k]? = some x := by rw [List.getElem?_eq_getElem hlt, hxk]
      have HK := Lib.hid hk?
      clear hxk hk?
      subst hA
      have hcall := HP.out wr hB x
      cases hq : p x with
      | true =>
        rw [hq] at hcall
        have HQ := Lib.hid hq
        go_wp2_with (go_at_fn g; refine hcall.mono ?_; rintro e w' ⟨rfl, hb'⟩)
        go_ret
        exact ⟨⟨k, .inl ⟨by omega, List.any_eq_true.2 ⟨x, List.mem_of_getElem? HK.out, HQ.out⟩⟩, rfl⟩, hB.trans (hb'.mono hB.size)⟩
      | false =>
        rw [hq] at hcall
        have HQ := Lib.hid hq
        go_wp2_with (go_at_fn g; refine hcall.mono ?_; rintro e w' ⟨rfl, hb'⟩)
        go_roundw
        case rel => exact ⟨k + 1, by omega, by go_num, hB.trans (hb'.mono hB.size), fun j y hj hy => by
          by_cases e : j = k
          · subst e; rw [HK.out] at hy; injection hy with hy; rw [← hy]; exact HQ.out
          · exact HN.out j y (by omega) hy⟩
        case measure => simp [intOf]; omega
    · have hm := any_no (p := p) (xs := xs) fun j y hj => HN.out j y (by omega)
      have HM := Lib.hid hm
      clear hm
      go_wp2
      go_ret
      exact ⟨⟨-1, .inr ⟨by omega, HM.out⟩, rfl⟩, hB⟩

theorem contains_any (g : Nat) (lb : Array Value) (eg : ∀ args w, (callFunc g args).run Try.prog w = .ok (.enter g args) w) (p : Int → Bool) (A : Option Addr) (c : Nat) (xs : List Int) (w : World)
    (hp : Says g lb p w) (hl : xs.length ≤ 1000000) (h : IntsAt w w.heap.size A xs) :
    Calls Try.prog 96 #[.slice A xs.length c, .func (.func g) #[] lb] w fun e w' => e = .returned (.bool (xs.any p)) ∧ Below w.heap.size w w' := by
  have HP := Lib.hid hp
  clear hp
  go_enter Try.func96, Try.ntmps96
  go_wp2_with fail
  refine (idx_any g lb eg p A c xs w HP.out hl h).mono ?_
  rintro e w' ⟨⟨z, ⟨hz, hm⟩ | ⟨hz, hm⟩, rfl⟩, hb⟩
  · have hz' : decide (0 ≤ z) = true := by simpa using hz
    have HM := Lib.hid hm
    clear hm
    go_wp2
    go_ret
    exact ⟨by first | rfl | exact ret_bool HM.out.symm, hb⟩
  · have hz' : decide (0 ≤ z) = false := by simpa using hz
    have HM := Lib.hid hm
    clear hm
    go_wp2
    go_ret
    exact ⟨by first | rfl | exact ret_bool HM.out.symm, hb⟩

theorem nodes_not (n : Nat) (xs : List Int) : (!xs.any fun x => !betw x 0 ((n : Int) - 1)) = nodesB n xs := by
  unfold nodesB
  induction xs with
  | nil => rfl
  | cons x xs ih => simp only [List.any_cons, List.all_cons, Bool.not_or, Bool.not_not, ih]

theorem nodes_any (n c : Nat) (A : Option Addr) (xs : List Int) (w : World) (hn : n ≤ 1000000) (hl : xs.length ≤ 1000000) (h : IntsAt w w.heap.size A xs) :
    Calls Try.prog 70 #[.int .i64 (n : Nat), .slice A xs.length c] w fun e w' => e = .returned (.bool (nodesB n xs)) ∧ Below w.heap.size w w' := by
  rw [← nodes_not]
  have H := Lib.hid h
  clear h
  go_enter Try.func70, Try.ntmps70
  go_wp2_with fail
  refine (contains_any 97 _ enters98 (fun x => !betw x 0 ((n : Int) - 1)) A c xs _ (fun W hW x => ?_) hl ((H.out.below ((Below.refl _ w).alloc (Nat.le_refl _) _) (Nat.le_refl _)).more (by simp))).mono ?_
  · refine (node1_any n w.heap.size x W hn ?_).mono fun e w' ⟨he, hw⟩ => ⟨he, by subst hw; exact Below.refl _ _⟩
    rw [hW.cell (p := ⟨w.heap.size, 0, none⟩) (by simp)]
    simp [go_sem]
  · rintro e w' ⟨rfl, hb⟩
    go_wp2
    go_ret
    exact ⟨rfl, ((Below.refl _ w).alloc (Nat.le_refl _) _).trans (hb.mono (by simp))⟩

end Go.Proofs.Ytnfbhhgdibkbdaa
