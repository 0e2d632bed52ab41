/- The document's own answers: Above and Under; pick. -/
import Derived.Test.YtlkgnafbipgpbaaR4
namespace Go.Proofs.Ytlkgnafbipgpbaa
open Go.RowKit Go.Maps

set_option maxHeartbeats 1000000 in
theorem rabove_any (A : Option Addr) (n c : Nat) (g : Nat → List Int) (v : Int) (w : World) (hn : n ≤ 1000) (hl : ∀ i, i < n → (g i).length ≤ 1000000) (h : RowsAt w w.heap.size A n g) :
    Calls Try.prog 15 #[.slice A n c, .int .i64 v] w (SideOut (SideSays n g v (aboOf g)) w) := by
  have HL := Lib.hid hl
  clear hl
  go_enter Try.func15, Try.ntmps15
  go_wp2_with fail
  refine (some_above A n c g v w hn HL.out h).mono ?_
  rintro e w1 ⟨E, ys, A1, c1, hs, rfl, hI, hb, hA⟩
  have HS := Lib.hid hs
  have HI := Lib.hid hI
  clear hs hI
  go_wp2_with fail
  go_ret2
  exact ⟨E, ys, A1, c1, HS.out, rfl, HI.out, hb, hA⟩

set_option maxHeartbeats 1000000 in
theorem runder_any (A : Option Addr) (n c : Nat) (g : Nat → List Int) (v : Int) (w : World) (hn : n ≤ 1000) (hl : ∀ i, i < n → (g i).length ≤ 1000000) (h : RowsAt w w.heap.size A n g) :
    Calls Try.prog 17 #[.slice A n c, .int .i64 v] w (SideOut (SideSays n g v (undOf g)) w) := by
  have HL := Lib.hid hl
  clear hl
  go_enter Try.func17, Try.ntmps17
  go_wp2_with fail
  refine (some_under A n c g v w hn HL.out h).mono ?_
  rintro e w1 ⟨E, ys, A1, c1, hs, rfl, hI, hb, hA⟩
  have HS := Lib.hid hs
  have HI := Lib.hid hI
  clear hs hI
  go_wp2_with fail
  go_ret2
  exact ⟨E, ys, A1, c1, HS.out, rfl, HI.out, hb, hA⟩

theorem ForSays.unique {n : Nat} {g : Nat → List Int} {v E E' : Int} {o o' : List Nat} (h : ForSays n g v E o) (h' : ForSays n g v E' o') : E = E' ∧ o = o' := by
  rcases h with ⟨h, hv⟩ | ⟨rfl, rfl, hv, p, hp⟩ <;> rcases h' with ⟨h', hv'⟩ | ⟨rfl, rfl, hv', q, hq⟩
  · exact h.unique h'
  · have := (h.unique hq).1
    rcases hv with hv | hv
    · exact absurd this hv
    · exact absurd hv hv'
  · have := (h'.unique hp).1
    rcases hv' with hv' | hv'
    · exact absurd this hv'
    · exact absurd hv' hv
  · exact ⟨rfl, rfl⟩
theorem SideSays.unique {n : Nat} {g : Nat → List Int} {v E E' : Int} {f : Nat → List Nat → List Nat} {o o' : List Nat} (h : SideSays n g v f E o) (h' : SideSays n g v f E' o') : E = E' ∧ o = o' := by
  obtain ⟨p, hp, hr⟩ := h
  obtain ⟨q, hq, hr'⟩ := h'
  obtain ⟨rfl, rfl⟩ := hp.unique hq
  refine ⟨rfl, ?_⟩
  rcases hr with ⟨h1, rfl⟩ | ⟨h1, rfl⟩ <;> rcases hr' with ⟨h2, rfl⟩ | ⟨h2, rfl⟩
  · rfl
  · exact absurd h2 h1
  · exact absurd h1 h2
  · rfl

def PickIs (c n k : Int) : Prop := ∀ W : World, Calls Try.prog 21 #[.int .i64 c, .int .i64 n] W fun o w' => o = .returned (.int .i64 k) ∧ W = w'
theorem pick_any (c : Int) (n : Nat) (h : wfI c) (hn1 : 1 ≤ n) (hn2 : n ≤ 1000) : ∃ k : Nat, k < n ∧ PickIs c n k := by
  obtain ⟨h1, h2⟩ := h
  by_cases hc : c < 0
  · refine ⟨((-(c + 1)) % (n : Int)).toNat, by have := Int.emod_nonneg (-(c + 1)) (show (n : Int) ≠ 0 by omega); have := Int.emod_lt_of_pos (-(c + 1)) (show 0 < (n : Int) by omega); omega, ?_⟩
    intro W
    obtain ⟨k, hk⟩ : ∃ k : Nat, (-(c + 1)) % (n : Int) = (k : Int) := ⟨_, (Int.toNat_of_nonneg (Int.emod_nonneg _ (by omega))).symm⟩
    rw [hk, Int.toNat_natCast]
    obtain ⟨x, hx⟩ : ∃ x : Int, -(c + 1) = x := ⟨_, rfl⟩
    rw [hx] at hk
    have hx0 : 0 ≤ x := by omega
    go_enter Try.func21, Try.ntmps21
    go_wp2
    go_ret
    exact ⟨by first | rfl | exact ret_int hk, rfl⟩
  · refine ⟨(c % (n : Int)).toNat, by have := Int.emod_nonneg c (show (n : Int) ≠ 0 by omega); have := Int.emod_lt_of_pos c (show 0 < (n : Int) by omega); omega, ?_⟩
    intro W
    obtain ⟨k, hk⟩ : ∃ k : Nat, c % (n : Int) = (k : Int) := ⟨_, (Int.toNat_of_nonneg (Int.emod_nonneg _ (by omega))).symm⟩
    rw [hk, Int.toNat_natCast]
    go_enter Try.func21, Try.ntmps21
    go_wp2
    go_ret
    exact ⟨by first | rfl | exact ret_int hk, rfl⟩

end Go.Proofs.Ytlkgnafbipgpbaa
