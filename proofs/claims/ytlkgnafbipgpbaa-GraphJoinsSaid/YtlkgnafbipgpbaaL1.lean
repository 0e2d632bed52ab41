/- The walk of GraphTells: true, for any graph and any node. -/
import Derived.Test.YtlkgnafbipgpbaaL0
namespace Go.Proofs.Ytlkgnafbipgpbaa
open Go.RowKit Go.Maps

theorem same_ci (A A' : Option Addr) (c c' : Nat) (o : List Nat) (w : World) (hl : o.length ≤ 1000000) (h : IntsAt w w.heap.size A (ci o)) (h' : IntsAt w w.heap.size A' (ci o)) :
    Calls Try.prog 20 #[.slice A o.length c, .slice A' o.length c'] w fun e w' => e = .returned (.bool true) ∧ ∃ n, w' = w.drewN n := by
  have := same_any A A' c c' (ci o) (ci o) w.heap.size w (by rw [ci_length]; exact hl) (by rw [ci_length]; exact hl) h h'
  rw [ci_length, eqB_self] at this
  exact this
theorem IntsAt.drewN {w : World} {B : Nat} {A : Option Addr} {xs : List Int} (h : IntsAt w B A xs) (k : Nat) : IntsAt (w.drewN k) B A xs := h.below (below_drewN (Below.refl B w) k) (Nat.le_refl _)
theorem ListOut.shape {P : Int → List Nat → Prop} {w : World} {e : Ending} {w' : World} (h : ListOut P w e w') :
    ∃ E o A c, P E o ∧ e = .returned (.tuple #[.slice A o.length c, .int .i64 E]) ∧ IntsAt w' w'.heap.size A (ci o) ∧ Below w.heap.size w w' ∧ ∀ ad, A = some ad → w.heap.size ≤ ad.block := by
  obtain ⟨E, v, o, hP, rfl, hown, hb⟩ := h
  obtain ⟨A, c, rfl⟩ := own_shape hown
  exact ⟨E, o, A, c, hP, rfl, IntsAt.of_own hown, hb, own_from hown⟩
theorem OrderSays.length {n : Nat} {g : Nat → List Int} {E : Int} {o : List Nat} (h : OrderSays n g E o) : o.length ≤ n := by
  by_cases hE : E = 0
  · subst hE; have := h.zero.2.1; omega
  · rw [h.err hE]; simp
theorem ForSays.length {n : Nat} {g : Nat → List Int} {v E : Int} {o : List Nat} (h : ForSays n g v E o) : o.length ≤ n := by
  rcases h with ⟨h, _⟩ | ⟨_, rfl, _⟩
  · exact h.length
  · simp
theorem SideSays.lengthA {n : Nat} {g : Nat → List Int} {v E : Int} {o : List Nat} (h : SideSays n g v (aboOf g) E o) : o.length ≤ n := by
  obtain ⟨p, hp, ⟨_, rfl⟩ | ⟨_, rfl⟩⟩ := h
  · simp
  · exact Nat.le_trans (List.length_filter_le _ _) hp.length
theorem SideSays.lengthU {n : Nat} {g : Nat → List Int} {v E : Int} {o : List Nat} (h : SideSays n g v (undOf g) E o) : o.length ≤ n := by
  obtain ⟨p, hp, ⟨_, rfl⟩ | ⟨_, rfl⟩⟩ := h
  · simp
  · exact Nat.le_trans (List.length_filter_le _ _) hp.length

set_option maxRecDepth 100000 in
set_option maxHeartbeats 8000000 in
theorem tells_any (A : Option Addr) (n c : Nat) (g : Nat → List Int) (v : Int) (w : World) (hn : n ≤ 9223372036854775807) (hl : ∀ i, i < n → (g i).length ≤ 9223372036854775807) (hwf : ∀ i, i < n → ∀ x, x ∈ g i → wfI x) (hv : wfI v) (h : RowsAt w w.heap.size A n g) :
    Calls Try.prog 3 #[.slice A n c, .int .i64 v] w fun e w' => e = .returned (.bool true) ∧ Below w.heap.size w w' := by
  have HL := Lib.hid hl
  have HWF := Lib.hid hwf
  have HR := Lib.hid h
  clear hl hwf h
  go_enter Try.func3, Try.ntmps3
  go_wp2_with fail
  refine (shown_any w).mono ?_
  rintro e w1 ⟨rfl, hb1⟩
  have hz1 := hb1.size
  have HR1 := Lib.hid (HR.out.below hb1 (Nat.le_refl _))
  go_wp2_with fail
  refine (light_any A n c g _ w1 hn HL.out HR1.out).mono ?_
  rintro e w1' ⟨rfl, rfl⟩
  cases hlight : lightB n g with
  | false =>
    have HLT := Lib.hid hlight
    clear hlight
    go_wp2_with fail
    go_ret
    exact ⟨rfl, hb1⟩
  | true =>
    obtain ⟨hn120, hl20⟩ := lightB_iff.1 hlight
    have HL6 := Lib.hid (fun i hi => Nat.le_trans (hl20 i hi) (show 20 ≤ 1000000 by omega) : ∀ i, i < n → (g i).length ≤ 1000000)
    have HL3 := Lib.hid (fun i hi => Nat.le_trans (hl20 i hi) (show 20 ≤ 1000 by omega) : ∀ i, i < n → (g i).length ≤ 1000)
    have HLT := Lib.hid hlight
    clear hlight hl20
    go_wp2_with fail
    refine (order_any A n c g w1 (by omega) HL6.out HWF.out (HR1.out.more hz1)).mono ?_
    rintro e w2 hout
    obtain ⟨E1, o1, A1, c1, hs1, rfl, hI1, hb2, _⟩ := hout.shape
    clear hout
    have HS1 := Lib.hid hs1
    have HI1 := Lib.hid hI1
    have hz2 := hb2.size
    have hB2 := hb1.trans (hb2.mono hz1)
    have hlo1 := hs1.length
    clear hs1 hI1
    go_wp2_with fail
    refine (rorderO_any A n c g w2 (by omega) HL6.out ((HR.out.below hB2 (Nat.le_refl _)).more (by omega))).mono ?_
    rintro e w3 hout
    obtain ⟨E2, o2, A2, c2, hs2, rfl, hI2, hb3, _⟩ := hout.shape
    obtain ⟨rfl, rfl⟩ := HS1.out.unique hs2
    clear hout hs2
    have HI2 := Lib.hid hI2
    have hz3 := hb3.size
    have hB3 := hB2.trans (hb3.mono (by omega))
    clear hI2
    go_wp2_with fail
    refine (above_any A n c g v w3 (by omega) HL3.out HWF.out ((HR.out.below hB3 (Nat.le_refl _)).more (by omega)) hv).mono ?_
    rintro e w4 ⟨E3, o3, A3, c3, hs3, rfl, hI3, hb4, _⟩
    have HS3 := Lib.hid hs3
    have HI3 := Lib.hid hI3
    have hz4 := hb4.size
    have hB4 := hB3.trans (hb4.mono (by omega))
    have hlo3 := hs3.lengthA
    clear hs3 hI3
    go_wp2_with fail
    refine (rabove_any A n c g v w4 (by omega) HL6.out ((HR.out.below hB4 (Nat.le_refl _)).more (by omega))).mono ?_
    rintro e w5 ⟨E4, o4, A4, c4, hs4, rfl, hI4, hb5, _⟩
    obtain ⟨rfl, rfl⟩ := HS3.out.unique hs4
    have HI4 := Lib.hid hI4
    have hz5 := hb5.size
    have hB5 := hB4.trans (hb5.mono (by omega))
    clear hs4 hI4
    go_wp2_with fail
    refine (under_any A n c g v w5 (by omega) HL6.out HWF.out ((HR.out.below hB5 (Nat.le_refl _)).more (by omega)) hv).mono ?_
    rintro e w6 ⟨E5, o5, A5, c5, hs5, rfl, hI5, hb6, _⟩
    have HS5 := Lib.hid hs5
    have HI5 := Lib.hid hI5
    have hz6 := hb6.size
    have hB6 := hB5.trans (hb6.mono (by omega))
    have hlo5 := hs5.lengthU
    clear hs5 hI5
    go_wp2_with fail
    refine (runder_any A n c g v w6 (by omega) HL6.out ((HR.out.below hB6 (Nat.le_refl _)).more (by omega))).mono ?_
    rintro e w7 ⟨E6, o6, A6, c6, hs6, rfl, hI6, hb7, _⟩
    obtain ⟨rfl, rfl⟩ := HS5.out.unique hs6
    have HI6 := Lib.hid hI6
    have hz7 := hb7.size
    have hB7 := hB6.trans (hb7.mono (by omega))
    clear hs6 hI6
    go_wp2_with fail
    refine (check_any A n c g w7 (by omega) HL6.out HWF.out ((HR.out.below hB7 (Nat.le_refl _)).more (by omega))).mono ?_
    rintro e w8 ⟨E7, ⟨o7, hs7⟩, rfl, hb8⟩
    have HS7 := Lib.hid hs7
    have hz8 := hb8.size
    have hB8 := hB7.trans (hb8.mono (by omega))
    clear hs7
    go_wp2_with fail
    refine (rcheck_any A n c g w8 (by omega) HL6.out ((HR.out.below hB8 (Nat.le_refl _)).more (by omega))).mono ?_
    rintro e w9 ⟨E8, ⟨o8, hs8⟩, rfl, hb9⟩
    obtain ⟨rfl, _⟩ := HS7.out.unique hs8
    have hz9 := hb9.size
    have hB9 := hB8.trans (hb9.mono (by omega))
    clear hs8
    have b79 : Below w7.heap.size w7 w9 := hb8.trans (hb9.mono hz8)
    have b59 : Below w5.heap.size w5 w9 := hb6.trans ((hb7.trans (b79.mono hz7)).mono hz6)
    have b39 : Below w3.heap.size w3 w9 := hb4.trans ((hb5.trans (b59.mono hz5)).mono hz4)
    have HJ1 := Lib.hid (((HI1.out.below (hb3.trans (b39.mono hz3)) (Nat.le_refl _))).more (show w2.heap.size ≤ w9.heap.size by omega))
    have HJ2 := Lib.hid ((HI2.out.below b39 (Nat.le_refl _)).more (show w3.heap.size ≤ w9.heap.size by omega))
    have HJ3 := Lib.hid ((HI3.out.below (hb5.trans (b59.mono hz5)) (Nat.le_refl _)).more (show w4.heap.size ≤ w9.heap.size by omega))
    have HJ4 := Lib.hid ((HI4.out.below b59 (Nat.le_refl _)).more (show w5.heap.size ≤ w9.heap.size by omega))
    have HJ5 := Lib.hid ((HI5.out.below (hb7.trans (b79.mono hz7)) (Nat.le_refl _)).more (show w6.heap.size ≤ w9.heap.size by omega))
    have HJ6 := Lib.hid ((HI6.out.below b79 (Nat.le_refl _)).more (show w7.heap.size ≤ w9.heap.size by omega))
    have hq7 : (E7 == E7) = true := by simp
    have hq1 : (E1 == E1) = true := by simp
    have hq3 : (E3 == E3) = true := by simp
    have hq5 : (E5 == E5) = true := by simp
    go_wp2_with fail
    refine (same_ci A1 A2 c1 c2 o1 w9 (by omega) HJ1.out HJ2.out).mono ?_
    rintro e w10 ⟨rfl, k1, rfl⟩
    go_wp2_with fail
    refine (same_ci A3 A4 c3 c4 o3 (w9.drewN k1) (by omega) (HJ3.out.drewN k1) (HJ4.out.drewN k1)).mono ?_
    rintro e w11 ⟨rfl, k2, rfl⟩
    go_wp2_with fail
    refine (same_ci A5 A6 c5 c6 o5 (w9.drewN (k1 + k2)) (by omega) (HJ5.out.drewN _) (HJ6.out.drewN _)).mono ?_
    rintro e w12 ⟨rfl, k3, rfl⟩
    go_wp2_with fail
    go_ret
    exact ⟨rfl, below_drewN hB9 _⟩

end Go.Proofs.Ytlkgnafbipgpbaa
