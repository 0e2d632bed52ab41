/- The contracts as plain propositions, whatever the field; BitsTell and BitsBack out of them. -/
import Derived.Test.YtogeihfmbjjacaaL1
namespace Go.Proofs.Ytogeihfmbjjacaa
open Go.RowKit
def GetIs (w low m r e : Int) : Prop := ∀ W, Calls Try.prog 12 #[.int .u32 w, .int .i64 low, .int .i64 m] W fun en w' => en = .returned (.tuple #[.int .u32 r, .int .i64 e]) ∧ Below W.heap.size W w'
def PutIs (w low m v r e : Int) : Prop := ∀ W, Calls Try.prog 14 #[.int .u32 w, .int .i64 low, .int .i64 m, .int .u32 v] W fun en w' => en = .returned (.tuple #[.int .u32 r, .int .i64 e]) ∧ Below W.heap.size W w'
def SignedIs (w low m r e : Int) : Prop := ∀ W, Calls Try.prog 16 #[.int .u32 w, .int .i64 low, .int .i64 m] W fun en w' => en = .returned (.tuple #[.int .i32 r, .int .i64 e]) ∧ Below W.heap.size W w'
def RGetIs (w low m r e : Int) : Prop := ∀ W, Calls Try.prog 13 #[.int .u32 w, .int .i64 low, .int .i64 m] W fun en w' => en = .returned (.tuple #[.int .u32 r, .int .i64 e]) ∧ W = w'
def RPutIs (w low m v r e : Int) : Prop := ∀ W, Calls Try.prog 15 #[.int .u32 w, .int .i64 low, .int .i64 m, .int .u32 v] W fun en w' => en = .returned (.tuple #[.int .u32 r, .int .i64 e]) ∧ W = w'
def RSignedIs (w low m r e : Int) : Prop := ∀ W, Calls Try.prog 17 #[.int .u32 w, .int .i64 low, .int .i64 m] W fun en w' => en = .returned (.tuple #[.int .i32 r, .int .i64 e]) ∧ W = w'
def CountIs (w r : Int) : Prop := ∀ W, Calls Try.prog 18 #[.int .u32 w] W fun e w' => e = .returned (.int .i64 r) ∧ W = w'
def RCountIs (w r : Int) : Prop := ∀ W, Calls Try.prog 19 #[.int .u32 w] W fun e w' => e = .returned (.int .i64 r) ∧ W = w'
def TurnIs (w b r : Int) : Prop := ∀ W, Calls Try.prog 20 #[.int .u32 w, .int .i64 b] W fun e w' => e = .returned (.int .u32 r) ∧ W = w'
def RTurnIs (w b r : Int) : Prop := ∀ W, Calls Try.prog 21 #[.int .u32 w, .int .i64 b] W fun e w' => e = .returned (.int .u32 r) ∧ W = w'

set_option maxHeartbeats 1000000 in
theorem tell_core (w v low m by' r e p pe s se c t : Int) (h1 : GetIs w low m r e) (h2 : RGetIs w low m r e) (h3 : PutIs w low m v p pe) (h4 : RPutIs w low m v p pe) (h5 : SignedIs w low m s se) (h6 : RSignedIs w low m s se)
    (h7 : CountIs w c) (h8 : RCountIs w c) (h9 : TurnIs w by' t) (h10 : RTurnIs w by' t) (W : World) :
    Calls Try.prog 3 #[.int .u32 w, .int .u32 v, .int .i64 low, .int .i64 m, .int .i64 by'] W fun e w' => e = .returned (.bool true) ∧ Below W.heap.size W w' := by
  go_enter Try.func3, Try.ntmps3
  go_wp2_with fail
  refine (shown_any _).mono ?_
  rintro e w1 ⟨rfl, hb1⟩
  go_wp2_with fail
  refine (h1 _).mono ?_
  rintro e w2 ⟨rfl, hb2⟩
  go_wp2_with fail
  refine (h2 _).mono ?_
  rintro e w3 ⟨rfl, rfl⟩
  go_wp2_with fail
  refine (h3 _).mono ?_
  rintro e w4 ⟨rfl, hb4⟩
  go_wp2_with fail
  refine (h4 _).mono ?_
  rintro e w3 ⟨rfl, rfl⟩
  go_wp2_with fail
  refine (h5 _).mono ?_
  rintro e w5 ⟨rfl, hb5⟩
  go_wp2_with fail
  refine (h6 _).mono ?_
  rintro e w3 ⟨rfl, rfl⟩
  go_wp2_with fail
  refine (h7 _).mono ?_
  rintro e w3 ⟨rfl, rfl⟩
  go_wp2_with fail
  refine (h8 _).mono ?_
  rintro e w3 ⟨rfl, rfl⟩
  go_wp2_with fail
  refine (h9 _).mono ?_
  rintro e w3 ⟨rfl, rfl⟩
  go_wp2_with fail
  refine (h10 _).mono ?_
  rintro e w3 ⟨rfl, rfl⟩
  go_wp2
  go_ret
  exact ⟨rfl, hb1.trans ((hb2.mono hb1.size).trans ((hb4.mono (Nat.le_trans hb1.size hb2.size)).trans (hb5.mono (Nat.le_trans hb1.size (Nat.le_trans hb2.size hb4.size)))))⟩

def Fit (low m : Int) : Prop := 1 ≤ m ∧ 0 ≤ low ∧ low + m ≤ 32
theorem fit_or {low m : Int} : Fit low m ∨ Bad low m := by unfold Fit Bad; omega
theorem get_fit {w : Nat} {low m : Int} (hw : w < 4294967296) (h : Fit low m) : GetIs w low m (Bm.fld w low.toNat m.toNat : Nat) 0 := by
  intro W
  obtain ⟨h1, h2, h3⟩ := h
  have := get_ok w low.toNat m.toNat hw (by omega) (by omega) W
  rwa [Int.toNat_of_nonneg h2, Int.toNat_of_nonneg (show 0 ≤ m by omega)] at this
theorem rget_fit {w : Nat} {low m : Int} (hw : w < 4294967296) (h : Fit low m) : RGetIs w low m (Bm.fld w low.toNat m.toNat : Nat) 0 := by
  intro W
  obtain ⟨h1, h2, h3⟩ := h
  have := rget_ok w low.toNat m.toNat hw (by omega) (by omega) W
  rwa [Int.toNat_of_nonneg h2, Int.toNat_of_nonneg (show 0 ≤ m by omega)] at this
theorem signed_fit {w : Nat} {low m : Int} (hw : w < 4294967296) (h : Fit low m) : SignedIs w low m (Bm.sgn (Bm.fld w low.toNat m.toNat) m.toNat) 0 := by
  intro W
  obtain ⟨h1, h2, h3⟩ := h
  have := signed_ok w low.toNat m.toNat hw (by omega) (by omega) W
  rwa [Int.toNat_of_nonneg h2, Int.toNat_of_nonneg (show 0 ≤ m by omega)] at this
theorem rsigned_fit {w : Nat} {low m : Int} (hw : w < 4294967296) (h : Fit low m) : RSignedIs w low m (Bm.sgn (Bm.fld w low.toNat m.toNat) m.toNat) 0 := by
  intro W
  obtain ⟨h1, h2, h3⟩ := h
  have := rsigned_ok w low.toNat m.toNat hw (by omega) (by omega) W
  rwa [Int.toNat_of_nonneg h2, Int.toNat_of_nonneg (show 0 ≤ m by omega)] at this
theorem put_fit {w v : Nat} {low m : Int} (hw : w < 4294967296) (h : Fit low m) (hv : v < 2 ^ m.toNat) : PutIs w low m v (Bm.put w low.toNat m.toNat v : Nat) 0 := by
  intro W
  obtain ⟨h1, h2, h3⟩ := h
  have := put_ok w low.toNat m.toNat v hw (by omega) (by omega) hv W
  rwa [Int.toNat_of_nonneg h2, Int.toNat_of_nonneg (show 0 ≤ m by omega)] at this
theorem rput_fit {w v : Nat} {low m : Int} (hw : w < 4294967296) (h : Fit low m) (hv : v < 2 ^ m.toNat) : RPutIs w low m v (Bm.put w low.toNat m.toNat v : Nat) 0 := by
  intro W
  obtain ⟨h1, h2, h3⟩ := h
  have := rput_ok w low.toNat m.toNat v hw (by omega) (by omega) hv W
  rwa [Int.toNat_of_nonneg h2, Int.toNat_of_nonneg (show 0 ≤ m by omega)] at this
theorem put_unfit {w v : Nat} {low m : Int} (h : Fit low m) (h32 : v < 4294967296) (hv : ¬ v < 2 ^ m.toNat) : PutIs w low m v 0 1 := by
  intro W
  obtain ⟨h1, h2, h3⟩ := h
  have := put_arg w low.toNat m.toNat v (by omega) (by omega) h32 hv W
  rwa [Int.toNat_of_nonneg h2, Int.toNat_of_nonneg (show 0 ≤ m by omega)] at this
theorem rput_unfit {w v : Nat} {low m : Int} (h : Fit low m) (h32 : v < 4294967296) (hv : ¬ v < 2 ^ m.toNat) : RPutIs w low m v 0 1 := by
  intro W
  obtain ⟨h1, h2, h3⟩ := h
  have := rput_arg w low.toNat m.toNat v (by omega) (by omega) h32 hv W
  rwa [Int.toNat_of_nonneg h2, Int.toNat_of_nonneg (show 0 ≤ m by omega)] at this
def I64 (n : Int) : Prop := -9223372036854775808 ≤ n ∧ n ≤ 9223372036854775807
theorem tell_walk (w v : Nat) (low m by' : Int) (hw : w < 4294967296) (hv : v < 4294967296) (hl : I64 low) (hm : I64 m) (W : World) :
    Calls Try.prog 3 #[.int .u32 w, .int .u32 v, .int .i64 low, .int .i64 m, .int .i64 by'] W fun e w' => e = .returned (.bool true) ∧ Below W.heap.size W w' := by
  rcases fit_or (low := low) (m := m) with h | h
  · by_cases hf : v < 2 ^ m.toNat
    · exact tell_core w v low m by' _ _ _ _ _ _ _ _ (get_fit hw h) (rget_fit hw h) (put_fit hw h hf) (rput_fit hw h hf) (signed_fit hw h) (rsigned_fit hw h) (count_any w hw) (rcount w hw) (turn_any w by' hw) (rturn_any w by' hw) W
    · exact tell_core w v low m by' _ _ _ _ _ _ _ _ (get_fit hw h) (rget_fit hw h) (put_unfit h hv hf) (rput_unfit h hv hf) (signed_fit hw h) (rsigned_fit hw h) (count_any w hw) (rcount w hw) (turn_any w by' hw) (rturn_any w by' hw) W
  · exact tell_core w v low m by' _ _ _ _ _ _ _ _ (get_no w low m h hl.1 hl.2 hm.1 hm.2) (rget_no w low m h hl.1 hl.2 hm.1 hm.2) (put_no w v low m h hl.1 hl.2 hm.1 hm.2) (rput_no w v low m h hl.1 hl.2 hm.1 hm.2) (signed_no w low m h hl.1 hl.2 hm.1 hm.2) (rsigned_no w low m h hl.1 hl.2 hm.1 hm.2) (count_any w hw) (rcount w hw) (turn_any w by' hw) (rturn_any w by' hw) W
end Go.Proofs.Ytogeihfmbjjacaa
