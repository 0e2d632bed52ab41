/- The contracts of slices.Clone of registers, of New, pick. -/
import Derived.Test.YtlolnogkndhfnaaR4
namespace Go.Proofs.Ytlolnogkndhfnaa
set_option linter.unusedSimpArgs false
set_option linter.unusedVariables false
open Go.RowKit Go.Maps

def pickP (c n : Int) : Int := (if c < 0 then -(c + 1) else c) % n
theorem pickP_lo {c n : Int} (hn : 0 < n) : 0 ≤ pickP c n := Int.emod_nonneg _ (by omega)
theorem pickP_hi {c n : Int} (hn : 0 < n) : pickP c n < n := Int.emod_lt_of_pos _ hn
theorem pick_any (c n : Int) (w : World) (hc : wfI c) (h0 : 0 < n) (h1 : n ≤ 1000000) :
    Calls Try.prog 12 #[.int .i64 c, .int .i64 n] w fun e w' => e = .returned (.int .i64 (pickP c n)) ∧ w = w' := by
  unfold wfI at hc
  have hn0 : (n == 0) = false := by simp; omega
  by_cases hlt : c < 0
  · have hm : pickP c n = (-(c + 1)) % n := by unfold pickP; rw [if_pos hlt]
    have hp := pickP_lo (c := c) h0
    have hq := pickP_hi (c := c) h0
    have hk : -((c + 1).tmod n) = (-(c + 1)) % n := by rw [← Int.neg_tmod, Int.tmod_eq_emod_of_nonneg (by omega)]
    have HM := Lib.hid hm
    have HK := Lib.hid hk
    clear hm hk
    go_enter Try.func12, Try.ntmps12
    go_wp2
    go_ret
    exact ⟨by rw [HM.out, ← HK.out]; first | rfl | exact ret_int (by omega), rfl⟩
  · have hm : pickP c n = c % n := by unfold pickP; rw [if_neg hlt]
    have hp := pickP_lo (c := c) h0
    have hq := pickP_hi (c := c) h0
    have HM := Lib.hid hm
    clear hm
    go_enter Try.func12, Try.ntmps12
    go_wp2
    go_ret
    exact ⟨by rw [HM.out]; first | rfl | exact ret_int (by omega), rfl⟩

theorem flat_one {rs : List Rgs} : ∀ u, u ∈ flatS RgsV rs → u.oneCell' = true := by
  intro u hu
  unfold flatS at hu
  obtain ⟨vs, h1, h2⟩ := List.mem_flatten.1 hu
  obtain ⟨x, _, rfl⟩ := List.mem_map.1 h1
  simp [RgsV] at h2
  rcases h2 with rfl | rfl <;> rfl
/-- a row of registers of its own -/
def RowNew (rs : List Rgs) (w : World) (e : Ending) (w' : World) : Prop := ∃ A c, e = .returned (.slice A rs.length c) ∧ w'.ownsRow w.heap.size 43 2 (.slice A rs.length c) rs.length (flatS RgsV rs) ∧ Below w.heap.size w w'
set_option maxRecDepth 100000 in
set_option maxHeartbeats 1000000 in
theorem clone_any (A : Option Addr) (c : Nat) (rs : List Rgs) (w : World) (hn : rs.length ≤ 1000000) (h : StrsAt RgsV 2 w w.heap.size A rs) : Calls Try.prog 26 #[.slice A rs.length c] w (RowNew rs w) := by
  obtain ⟨i0, hi, hz0, hz1, hz2⟩ := info_parts Try.info43
  have q22 : ∀ (w : World) (a : Option Addr) (n c : Nat), (binOp .eql 22 (.slice a n c) (.slice none 0 0)).run Try.prog w = .ok (.bool a.isNone) w := fun w a n c => Lib.run_eql_slice_nil w _ _ a n c 0 0 Try.underlying22
  rcases A with _ | ad
  · have h0 : ¬ 0 < rs.length := fun hp => by obtain ⟨ad, e, _⟩ := h hp; cases e
    have h0' : rs = [] := List.eq_nil_of_length_eq_zero (by omega)
    subst h0'
    clear h h0
    go_enter Try.func26, Try.ntmps26
    go_wp2
    go_ret
    exact ⟨_, _, rfl, World.ownsRow_nil _ _ _ _, Below.refl _ _⟩
  · have HF := Lib.hid (h.flat RgsV_len rfl)
    have HL := Lib.hid (flatS_len RgsV_len rs)
    clear h
    go_enter Try.func26, Try.ntmps26
    go_wp2_with (at_builtin; refine wpList_append_own _ rfl _ _ 22 rfl w.heap.size 43 i0 (.agg #[.int .u32 0, .bool false]) 2 8 Try.underlying22 hi hz0 hz1 hz2 rfl (by decide) _ _ _ rfl (World.ownsRow_made w #[] 0 (Nat.le_refl _) (Nat.zero_le _) (by simp)) ad rs.length c (flatS RgsV rs) rfl ?qc1 ?qc2 ?qc3 ?qc4 ?qc5 ?qc6 ?_)
    case qc1 => exact HL.out
    case qc2 => exact fun j u hj => Lib.cell?_alloc_some _ (HF.out j u hj)
    case qc3 => exact flat_one
    case qc4 => unfold maxLen; omega
    case qc5 => omega
    case qc6 => simp
    intro v' w1 hown hgrow hnil
    have HOWN := Lib.hid hown
    clear hown hnil
    go_wp2
    go_ret
    have hB1 : Below w.heap.size w w1 := ((Below.refl _ w).alloc (Nat.le_refl _) _).grown hgrow (by simp) (by intro k hk; simp [Value.ownBlock] at hk; omega)
    have ho : w1.ownsRow w.heap.size 43 2 v' rs.length (flatS RgsV rs) := by have := HOWN.out; simpa using this
    obtain ⟨A', c', rfl⟩ := own_shape' ho
    exact ⟨A', c', rfl, ho, hB1⟩

theorem Try.info33 : (Try.prog.info? 33).map (fun i => (i.zero, i.size, i.bytes)) = some (some (.int .u32 0), 1, 4) := by kernel_rfl
theorem make_u32 (n : Nat) (hn : n ≤ 1000000) (W : World) :
    (Instr.makeSlice 41 (.int .i64 (n : Int)) (.int .i64 (n : Int))).run Try.prog W = .ok (.slice (some ⟨W.heap.size, 0, none⟩) n n) (W.alloc (.cells (madeCells #[.int .u32 0] n) 33)) := by
  obtain ⟨i0, hi, hz0, hz1, hz2⟩ := info_parts Try.info33
  have h := run_make (P := Try.prog) (w := W) 41 33 i0 (.int .u32 0) Try.underlying41 hi hz0 .i64 .i64 (n : Int) (n : Int) (by omega) (by omega) (by rw [hz2]; omega) (by omega)
  simp only [Int.toNat_natCast, hz1, Nat.mul_one] at h
  exact h

theorem new_full (A : Option Addr) (n c : Nat) (w : World) (hn : 8 < n) (hm : n ≤ maxLen) :
    Calls Try.prog 10 #[.slice A n c] w fun e w' => e = .returned (.tuple #[.pointer none, .int .i64 8]) ∧ w = w' := by
  unfold maxLen at hm
  have i1 : (8 : Int) < (n : Int) := by omega
  go_enter Try.func10, Try.ntmps10
  go_wp2
  go_ret2
  exact ⟨rfl, rfl⟩

/-- a new file; blocks Q that were hot ahead of it have nothing of it -/
def NewOk (Q : List Nat) (rs : List Rgs) (w : World) (e : Ending) (w' : World) : Prop :=
  ∃ b gn, e = .returned (.tuple #[.pointer (some ⟨b, 0, none⟩), .int .i64 0]) ∧ w.heap.size ≤ b ∧ w.heap.size ≤ gn ∧ FileIs w' (b :: gn :: Q) b gn rs (resets rs) (resets rs) ∧ Below w.heap.size w w'

theorem made_clear {w W : World} {Q : List Nat} {b gn : Nat} {A : Option Addr} {c : Nat} {fv : Value} {rs : List Rgs} (hn : rs.length ≤ 8) (hb : Below w.heap.size w W) (h1 : w.heap.size ≤ b) (h2 : w.heap.size ≤ gn) (h3 : b ≠ gn) (hQ : ∀ k, k ∈ Q → k < w.heap.size)
    (hB : BoxAt W b [.slice A rs.length c, .slice (some ⟨gn, 0, none⟩) rs.length rs.length, fv]) (hR : StrsC RgsV 2 (b :: gn :: Q) W A rs) (hrow : RowAt W gn (List.replicate rs.length (.int .u32 0))) :
    Calls Try.prog 19 #[.pointer (some ⟨b, 0, none⟩)] W fun e w' => e = .returned (.tuple #[]) ∧ FileIs w' (b :: gn :: Q) b gn rs (resets rs) (resets rs) ∧ Below w.heap.size w w' := by
  have hrep : u32s (List.replicate rs.length (0 : Int)) = List.replicate rs.length (.int .u32 0) := by simp [u32s]
  rw [← hrep] at hrow
  refine (clear_any (b :: gn :: Q) b gn rs (List.replicate rs.length 0) A c fv W (by simp) hn h3 (by simp) (by simp) (fun k hk => ?_) hB hR hrow fun _ _ _ _ => rfl).mono fun e w' ⟨h1', hF, hm⟩ => ⟨h1', hF, hb.trans (hm.below (by simp; omega) hb.size)⟩
  have := hb.size
  simp at hk
  rcases hk with rfl | rfl | hk
  · exact hB.lt
  · exact hrow.1
  · have := hQ k hk; omega
theorem below_drew {B : Nat} {a w : World} (h : Below B a w) : Below B a w.drew := h.trans ⟨rfl, rfl, rfl, Nat.le_refl _, fun _ _ => rfl⟩

set_option maxHeartbeats 4000000 in
theorem new_ok (Q : List Nat) (A : Option Addr) (c : Nat) (rs : List Rgs) (w : World) (hn : rs.length ≤ 8) (hQ : ∀ k, k ∈ Q → k < w.heap.size) (h : StrsAt RgsV 2 w w.heap.size A rs) : Calls Try.prog 10 #[.slice A rs.length c] w (NewOk Q rs w) := by
  have hcl : ∀ W, Moved [] w W → Calls Try.prog 26 #[.slice A rs.length c] W (RowNew rs W) := fun W hm => by
    have hb : Below w.heap.size w W := hm.below (by simp) (Nat.le_refl _)
    exact clone_any A c rs W (by omega) ((h.below hb (Nat.le_refl _)).more hb.size)
  have HC := Lib.hid hcl
  have i1 : ¬ ((8 : Int) < (rs.length : Int)) := by omega
  have hmk := make_u32 rs.length (by omega)
  have HQ := Lib.hid hQ
  clear h hcl hQ
  go_enter Try.func10, Try.ntmps10
  go_wp2
  go_region_with ((first | refine (HC.out _ (Moved.drew _)).mono ?_ | refine (HC.out _ ((Moved.alloc _ _).trans (Moved.drew _))).mono ?_)
                  rintro e w6 ⟨A6, c6, rfl, ho6, hb6⟩
                  have HO6 := Lib.hid ho6
                  have HB6 := Lib.hid hb6
                  clear ho6 hb6)
  · have hz := HB6.out.size
    have hz' : w.heap.size ≤ w6.heap.size := hz
    have q1 : Moved [] w6 (w6.alloc (.cells (madeCells #[.int .u32 0] rs.length) 33)) := Moved.alloc _ _
    have q2 : Moved [] (w6.alloc (.cells (madeCells #[.int .u32 0] rs.length) 33)) ((w6.alloc (.cells (madeCells #[.int .u32 0] rs.length) 33)).alloc (.cells #[.slice A6 rs.length c6, .slice (some ⟨w6.heap.size, 0, none⟩) rs.length rs.length, .nilFunc] 55)) := Moved.alloc _ _
    have hrow := (RowAt.new w6 rs.length (.int .u32 0) 33).move q2 (by simp)
    have hR : StrsC RgsV 2 ((w6.heap.size + 1) :: w6.heap.size :: Q) w6 A6 rs := own_strs RgsV_len HO6.out rfl fun g hg hm => by
      have h1 := (HO6.out.lt g hg).2
      have h2 := (HO6.out.lt g hg).1
      simp at hm h2
      rcases hm with rfl | rfl | hm
      · omega
      · omega
      · have := HQ.out g hm
        omega
    have hR2 := hR.move ((q1.trans q2).mono (by simp))
    have hB := BoxAt.new (w6.alloc (.cells (madeCells #[.int .u32 0] rs.length) 33)) [.slice A6 rs.length c6, .slice (some ⟨w6.heap.size, 0, none⟩) rs.length rs.length, .nilFunc] 55
    rw [World.size_alloc] at hB
    have hb : Below w.heap.size w ((w6.alloc (.cells (madeCells #[.int .u32 0] rs.length) 33)).alloc (.cells #[.slice A6 rs.length c6, .slice (some ⟨w6.heap.size, 0, none⟩) rs.length rs.length, .nilFunc] 55)) :=
      ((below_drew (Below.refl _ w)).trans HB6.out).trans ((q1.trans q2).below (by simp) hz')
    have HCL := Lib.hid (made_clear hn hb (by omega) (by omega) (by omega) HQ.out hB hR2 hrow)
    clear q1 q2 hrow hR hR2 hB hb hmk
    go_wp2_with fail
    refine (HCL.out).mono ?_
    rintro e w7 ⟨rfl, hF, hb⟩
    have HF := Lib.hid hF
    have HB := Lib.hid hb
    clear hF hb
    go_wp2
    go_ret2
    exact ⟨_, _, rfl, by omega, by omega, HF.out, HB.out⟩
  · have hz := HB6.out.size
    have hz' : w.heap.size + 1 ≤ w6.heap.size := by simpa using hz
    have q0 : Moved [] w (w.alloc (.cells (madeCells #[.int .u32 0] rs.length) 33)).drew := (Moved.alloc _ _).trans (Moved.drew _)
    have q1 : Moved [] (w.alloc (.cells (madeCells #[.int .u32 0] rs.length) 33)).drew w6 := Moved.of_below HB6.out
    have q2 : Moved [] w6 (w6.alloc (.cells #[.slice A6 rs.length c6, .slice (some ⟨w.heap.size, 0, none⟩) rs.length rs.length, .nilFunc] 55)) := Moved.alloc _ _
    have hrow := (((RowAt.new w rs.length (.int .u32 0) 33).move (Moved.drew (hot := []) _) (by simp)).move q1 (by simp)).move q2 (by simp)
    have hR : StrsC RgsV 2 (w6.heap.size :: w.heap.size :: Q) w6 A6 rs := own_strs RgsV_len HO6.out rfl fun g hg hm => by
      have h1 := HO6.out.lt g hg
      have h2 := h1.2
      have h3 := h1.1
      simp at hm h3
      rcases hm with rfl | rfl | hm
      · omega
      · omega
      · have := HQ.out g hm
        omega
    have hR2 := hR.move (q2.mono (by simp))
    have hB := BoxAt.new w6 [.slice A6 rs.length c6, .slice (some ⟨w.heap.size, 0, none⟩) rs.length rs.length, .nilFunc] 55
    have hb : Below w.heap.size w (w6.alloc (.cells #[.slice A6 rs.length c6, .slice (some ⟨w.heap.size, 0, none⟩) rs.length rs.length, .nilFunc] 55)) :=
      ((q0.trans q1).trans q2).below (by simp) (Nat.le_refl _)
    have HCL := Lib.hid (made_clear hn hb (by omega) (by omega) (by omega) HQ.out hB hR2 hrow)
    clear q1 q2 q0 hrow hR hR2 hB hb hmk
    go_wp2_with fail
    refine (HCL.out).mono ?_
    rintro e w7 ⟨rfl, hF, hb⟩
    have HF := Lib.hid hF
    have HB := Lib.hid hb
    clear hF hb
    go_wp2
    go_ret2
    exact ⟨_, _, rfl, by omega, by omega, HF.out, HB.out⟩

end Go.Proofs.Ytlolnogkndhfnaa
