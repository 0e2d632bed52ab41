/- The contracts of slices.Equal, of all four kinds. (Written by wip/tools/w14.py.) -/
import Derived.Test.YtkhfcbcanbplgaaQ
namespace Go.Proofs.Ytkhfcbcanbplgaa
set_option linter.unusedSimpArgs false
set_option linter.unusedVariables false
open Go.RowKit Go.Maps

open Classical in
noncomputable def eqP {α : Type} (x y : α) : Bool := decide (x = y)
theorem eqP_self {α : Type} (x : α) : eqP x x = true := by unfold eqP; simp
theorem eqP_no {α : Type} {x y : α} (h : x ≠ y) : eqP x y = false := by unfold eqP; simpa using h
theorem eqP_iff {α : Type} {x y : α} : eqP x y = true ↔ x = y := by unfold eqP; simp
theorem eqP_len {α : Type} {x y : List α} (h : ¬ x.length = y.length) : eqP x y = false := eqP_no fun e => h (by rw [e])

set_option maxHeartbeats 1000000 in
theorem eq_ints (A A' : Option Addr) (c c' : Nat) (xs ys : List Int) (B : Nat) (w : World) (hl : xs.length ≤ 1000000) (hl' : ys.length ≤ 1000000) (h : IntsAt w B A xs) (h' : IntsAt w B A' ys) :
    Calls Try.prog 89 #[.slice A xs.length c, .slice A' ys.length c'] w fun e w' => e = .returned (.bool (eqP xs ys)) ∧ ∃ n, w' = w.drewN n := by
  by_cases hne : xs.length = ys.length
  · have HL := Lib.hid hne
    have g1 : xs.length ≤ ys.length := by omega
    have g2 : ys.length ≤ xs.length := by omega
    have hn : ((xs.length : Int) != (ys.length : Int)) = false := by simp [hne]
    clear hne
    go_enter Try.func89, Try.ntmps89
    go_wp2
    go_loopw [13] (fun i wr => ∃ k m : Nat, k ≤ xs.length ∧ i = .int .i64 k ∧ wr = w.drewN m ∧ ∀ j, j < k → xs[j]? = ys[j]?) (fun i _ => xs.length - (intOf i).toNat)
    case atStart => exact ⟨0, 0, Nat.zero_le _, rfl, rfl, fun j hj => absurd hj (by omega)⟩
    case round =>
      obtain ⟨k, m, hk, rfl, rfl, hs⟩ := hrel
      have HS := Lib.hid hs
      clear hs
      by_cases hlt : k < xs.length
      · have hlt' : k < ys.length := by omega
        obtain ⟨x, hx⟩ : ∃ x, x = xs[k] := ⟨_, rfl⟩
        obtain ⟨y, hy⟩ : ∃ y, y = ys[k] := ⟨_, rfl⟩
        obtain ⟨ad, hA, _, hc⟩ := h.at_ hlt
        obtain ⟨ad', hA', _, hc'⟩ := h'.at_ hlt'
        rw [← hx] at hc
        rw [← hy] at hc'
        have HX := Lib.hid hx
        have HY := Lib.hid hy
        clear hx hy
        subst hA hA'
        by_cases he : x = y
        · subst he
          have hq : (x != x) = false := by simp
          go_wp2
          go_quiet (fail)
          go_wp2
          go_roundw
          case rel => exact ⟨k + 1, _, by omega, by go_num, rfl, fun j hj => by
            by_cases e : j = k
            · subst e; rw [List.getElem?_eq_getElem hlt, List.getElem?_eq_getElem hlt', ← HX.out, ← HY.out]
            · exact HS.out j (by omega)⟩
          case measure => simp [intOf]; omega
        · have hm : eqP xs ys = false := eqP_no (by
            intro e
            apply he
            rw [HX.out, HY.out]
            simp [e])
          have HM := Lib.hid hm
          clear hm
          have hq : (x != y) = true := by simpa using he
          go_wp2
          go_quiet (fail)
          go_wp2
          go_ret
          exact ⟨ret_bool HM.out.symm, _, World.drewN_drewN _ _ _⟩
      · have hm : eqP xs ys = true := by
          have e : xs = ys := List.ext_getElem? fun j => by
            by_cases hj : j < k
            · exact HS.out j hj
            · rw [List.getElem?_eq_none (by omega), List.getElem?_eq_none (by omega)]
          subst e; exact eqP_self _
        have HM := Lib.hid hm
        clear hm
        go_wp2
        go_ret
        exact ⟨ret_bool HM.out.symm, _, rfl⟩
  · have hn : ((xs.length : Int) != (ys.length : Int)) = true := by simp; omega
    have HM := Lib.hid (eqP_len hne)
    clear hne
    go_enter Try.func89, Try.ntmps89
    go_wp2
    go_ret
    exact ⟨ret_bool HM.out.symm, 0, rfl⟩

set_option maxHeartbeats 1000000 in
theorem eq_dom (A A' : Option Addr) (c c' : Nat) (xs ys : List Dom) (B : Nat) (w : World) (hl : xs.length ≤ 1000000) (hl' : ys.length ≤ 1000000) (h : StrsAt DomV 3 w B A xs) (h' : StrsAt DomV 3 w B A' ys) :
    Calls Try.prog 55 #[.slice A xs.length c, .slice A' ys.length c'] w fun e w' => e = .returned (.bool (eqP xs ys)) ∧ ∃ n, w' = w.drewN n := by
  by_cases hne : xs.length = ys.length
  · have HL := Lib.hid hne
    have g1 : xs.length ≤ ys.length := by omega
    have g2 : ys.length ≤ xs.length := by omega
    have hn : ((xs.length : Int) != (ys.length : Int)) = false := by simp [hne]
    clear hne
    go_enter Try.func55, Try.ntmps55
    go_wp2
    go_loopw [13] (fun i wr => ∃ k m : Nat, k ≤ xs.length ∧ i = .int .i64 k ∧ wr = w.drewN m ∧ ∀ j, j < k → xs[j]? = ys[j]?) (fun i _ => xs.length - (intOf i).toNat)
    case atStart => exact ⟨0, 0, Nat.zero_le _, rfl, rfl, fun j hj => absurd hj (by omega)⟩
    case round =>
      obtain ⟨k, m, hk, rfl, rfl, hs⟩ := hrel
      have HS := Lib.hid hs
      clear hs
      by_cases hlt : k < xs.length
      · have hlt' : k < ys.length := by omega
        obtain ⟨x, hx⟩ : ∃ x, x = xs[k] := ⟨_, rfl⟩
        obtain ⟨y, hy⟩ : ∃ y, y = ys[k] := ⟨_, rfl⟩
        obtain ⟨ad, vs, hA, _, hV, hAg⟩ := h.at_ hlt
        obtain ⟨ad', vs', hA', _, hV', hAg'⟩ := h'.at_ hlt'
        rw [← hx] at hV
        rw [← hy] at hV'
        cases hV
        cases hV'
        have c0 := hAg.zero
        have d0 := hAg'.zero
        have c1 := hAg.at_ 0 rfl
        have d1 := hAg'.at_ 0 rfl
        have c2 := hAg.at_ 1 rfl
        have d2 := hAg'.at_ 1 rfl
        clear hAg hAg'
        have HX := Lib.hid hx
        have HY := Lib.hid hy
        clear hx hy
        subst hA hA'
        by_cases he : x = y
        · subst he
          have q : ∀ W : World, (binOp .neq 51 (.agg #[.int .i64 x.above, .int .i64 x.delay, .bool x.ret]) (.agg #[.int .i64 x.above, .int .i64 x.delay, .bool x.ret])).run Try.prog W = .ok (.bool false) W := fun W => by rw [neq_dom]; simp
          have qg : Try.prog.eqGuardType Try.prog.depth 51 = false := by kernel_rfl
          go_wp2
          go_quiet (fail)
          go_wp2
          go_roundw
          case rel => exact ⟨k + 1, _, by omega, by go_num, rfl, fun j hj => by
            by_cases e : j = k
            · subst e; rw [List.getElem?_eq_getElem hlt, List.getElem?_eq_getElem hlt', ← HX.out, ← HY.out]
            · exact HS.out j (by omega)⟩
          case measure => simp [intOf]; omega
        · have hm : eqP xs ys = false := eqP_no (by
            intro e
            apply he
            rw [HX.out, HY.out]
            simp [e])
          have HM := Lib.hid hm
          clear hm
          have q : ∀ W : World, (binOp .neq 51 (.agg #[.int .i64 x.above, .int .i64 x.delay, .bool x.ret]) (.agg #[.int .i64 y.above, .int .i64 y.delay, .bool y.ret])).run Try.prog W = .ok (.bool true) W := fun W => by
            rw [neq_dom]
            congr 2
            cases hq : (x.above == y.above && (x.delay == y.delay && (x.ret == y.ret)))
            · rfl
            · exfalso; apply he; cases x; cases y; simpa using hq
          have qg : Try.prog.eqGuardType Try.prog.depth 51 = false := by kernel_rfl
          have HE := Lib.hid he
          clear he
          go_wp2
          go_quiet (fail)
          go_wp2
          go_ret
          exact ⟨ret_bool HM.out.symm, _, World.drewN_drewN _ _ _⟩
      · have hm : eqP xs ys = true := by
          have e : xs = ys := List.ext_getElem? fun j => by
            by_cases hj : j < k
            · exact HS.out j hj
            · rw [List.getElem?_eq_none (by omega), List.getElem?_eq_none (by omega)]
          subst e; exact eqP_self _
        have HM := Lib.hid hm
        clear hm
        go_wp2
        go_ret
        exact ⟨ret_bool HM.out.symm, _, rfl⟩
  · have hn : ((xs.length : Int) != (ys.length : Int)) = true := by simp; omega
    have HM := Lib.hid (eqP_len hne)
    clear hne
    go_enter Try.func55, Try.ntmps55
    go_wp2
    go_ret
    exact ⟨ret_bool HM.out.symm, 0, rfl⟩

set_option maxHeartbeats 1000000 in
theorem eq_rst (A A' : Option Addr) (c c' : Nat) (xs ys : List Rst) (B : Nat) (w : World) (hl : xs.length ≤ 1000000) (hl' : ys.length ≤ 1000000) (h : StrsAt RstV 1 w B A xs) (h' : StrsAt RstV 1 w B A' ys) :
    Calls Try.prog 56 #[.slice A xs.length c, .slice A' ys.length c'] w fun e w' => e = .returned (.bool (eqP xs ys)) ∧ ∃ n, w' = w.drewN n := by
  by_cases hne : xs.length = ys.length
  · have HL := Lib.hid hne
    have g1 : xs.length ≤ ys.length := by omega
    have g2 : ys.length ≤ xs.length := by omega
    have hn : ((xs.length : Int) != (ys.length : Int)) = false := by simp [hne]
    clear hne
    go_enter Try.func56, Try.ntmps56
    go_wp2
    go_loopw [13] (fun i wr => ∃ k m : Nat, k ≤ xs.length ∧ i = .int .i64 k ∧ wr = w.drewN m ∧ ∀ j, j < k → xs[j]? = ys[j]?) (fun i _ => xs.length - (intOf i).toNat)
    case atStart => exact ⟨0, 0, Nat.zero_le _, rfl, rfl, fun j hj => absurd hj (by omega)⟩
    case round =>
      obtain ⟨k, m, hk, rfl, rfl, hs⟩ := hrel
      have HS := Lib.hid hs
      clear hs
      by_cases hlt : k < xs.length
      · have hlt' : k < ys.length := by omega
        obtain ⟨x, hx⟩ : ∃ x, x = xs[k] := ⟨_, rfl⟩
        obtain ⟨y, hy⟩ : ∃ y, y = ys[k] := ⟨_, rfl⟩
        obtain ⟨ad, vs, hA, _, hV, hAg⟩ := h.at_ hlt
        obtain ⟨ad', vs', hA', _, hV', hAg'⟩ := h'.at_ hlt'
        rw [← hx] at hV
        rw [← hy] at hV'
        cases hV
        cases hV'
        have c0 := hAg.zero
        have d0 := hAg'.zero
        rw [Nat.mul_one] at c0 d0
        clear hAg hAg'
        have HX := Lib.hid hx
        have HY := Lib.hid hy
        clear hx hy
        subst hA hA'
        by_cases he : x = y
        · subst he
          have q : ∀ W : World, (binOp .neq 53 (.agg #[.int .i64 x.least]) (.agg #[.int .i64 x.least])).run Try.prog W = .ok (.bool false) W := fun W => by rw [neq_rst]; simp
          have qg : Try.prog.eqGuardType Try.prog.depth 53 = false := by kernel_rfl
          go_wp2
          go_quiet (fail)
          go_wp2
          go_roundw
          case rel => exact ⟨k + 1, _, by omega, by go_num, rfl, fun j hj => by
            by_cases e : j = k
            · subst e; rw [List.getElem?_eq_getElem hlt, List.getElem?_eq_getElem hlt', ← HX.out, ← HY.out]
            · exact HS.out j (by omega)⟩
          case measure => simp [intOf]; omega
        · have hm : eqP xs ys = false := eqP_no (by
            intro e
            apply he
            rw [HX.out, HY.out]
            simp [e])
          have HM := Lib.hid hm
          clear hm
          have q : ∀ W : World, (binOp .neq 53 (.agg #[.int .i64 x.least]) (.agg #[.int .i64 y.least])).run Try.prog W = .ok (.bool true) W := fun W => by
            rw [neq_rst]
            congr 2
            cases hq : (x.least == y.least)
            · rfl
            · exfalso; apply he; cases x; cases y; simpa using hq
          have qg : Try.prog.eqGuardType Try.prog.depth 53 = false := by kernel_rfl
          have HE := Lib.hid he
          clear he
          go_wp2
          go_quiet (fail)
          go_wp2
          go_ret
          exact ⟨ret_bool HM.out.symm, _, World.drewN_drewN _ _ _⟩
      · have hm : eqP xs ys = true := by
          have e : xs = ys := List.ext_getElem? fun j => by
            by_cases hj : j < k
            · exact HS.out j hj
            · rw [List.getElem?_eq_none (by omega), List.getElem?_eq_none (by omega)]
          subst e; exact eqP_self _
        have HM := Lib.hid hm
        clear hm
        go_wp2
        go_ret
        exact ⟨ret_bool HM.out.symm, _, rfl⟩
  · have hn : ((xs.length : Int) != (ys.length : Int)) = true := by simp; omega
    have HM := Lib.hid (eqP_len hne)
    clear hne
    go_enter Try.func56, Try.ntmps56
    go_wp2
    go_ret
    exact ⟨ret_bool HM.out.symm, 0, rfl⟩

set_option maxHeartbeats 1000000 in
theorem eq_rgs (A A' : Option Addr) (c c' : Nat) (xs ys : List Rgs) (B : Nat) (w : World) (hl : xs.length ≤ 1000000) (hl' : ys.length ≤ 1000000) (h : StrsAt RgsV 2 w B A xs) (h' : StrsAt RgsV 2 w B A' ys) :
    Calls Try.prog 90 #[.slice A xs.length c, .slice A' ys.length c'] w fun e w' => e = .returned (.bool (eqP xs ys)) ∧ ∃ n, w' = w.drewN n := by
  by_cases hne : xs.length = ys.length
  · have HL := Lib.hid hne
    have g1 : xs.length ≤ ys.length := by omega
    have g2 : ys.length ≤ xs.length := by omega
    have hn : ((xs.length : Int) != (ys.length : Int)) = false := by simp [hne]
    clear hne
    go_enter Try.func90, Try.ntmps90
    go_wp2
    go_loopw [13] (fun i wr => ∃ k m : Nat, k ≤ xs.length ∧ i = .int .i64 k ∧ wr = w.drewN m ∧ ∀ j, j < k → xs[j]? = ys[j]?) (fun i _ => xs.length - (intOf i).toNat)
    case atStart => exact ⟨0, 0, Nat.zero_le _, rfl, rfl, fun j hj => absurd hj (by omega)⟩
    case round =>
      obtain ⟨k, m, hk, rfl, rfl, hs⟩ := hrel
      have HS := Lib.hid hs
      clear hs
      by_cases hlt : k < xs.length
      · have hlt' : k < ys.length := by omega
        obtain ⟨x, hx⟩ : ∃ x, x = xs[k] := ⟨_, rfl⟩
        obtain ⟨y, hy⟩ : ∃ y, y = ys[k] := ⟨_, rfl⟩
        obtain ⟨ad, vs, hA, _, hV, hAg⟩ := h.at_ hlt
        obtain ⟨ad', vs', hA', _, hV', hAg'⟩ := h'.at_ hlt'
        rw [← hx] at hV
        rw [← hy] at hV'
        cases hV
        cases hV'
        have c0 := hAg.zero
        have d0 := hAg'.zero
        have c1 := hAg.at_ 0 rfl
        have d1 := hAg'.at_ 0 rfl
        clear hAg hAg'
        have HX := Lib.hid hx
        have HY := Lib.hid hy
        clear hx hy
        subst hA hA'
        by_cases he : x = y
        · subst he
          have q : ∀ W : World, (binOp .neq 56 (.agg #[.int .u32 x.reset, .bool x.kept]) (.agg #[.int .u32 x.reset, .bool x.kept])).run Try.prog W = .ok (.bool false) W := fun W => by rw [neq_rgs]; simp
          have qg : Try.prog.eqGuardType Try.prog.depth 56 = false := by kernel_rfl
          go_wp2
          go_quiet (fail)
          go_wp2
          go_roundw
          case rel => exact ⟨k + 1, _, by omega, by go_num, rfl, fun j hj => by
            by_cases e : j = k
            · subst e; rw [List.getElem?_eq_getElem hlt, List.getElem?_eq_getElem hlt', ← HX.out, ← HY.out]
            · exact HS.out j (by omega)⟩
          case measure => simp [intOf]; omega
        · have hm : eqP xs ys = false := eqP_no (by
            intro e
            apply he
            rw [HX.out, HY.out]
            simp [e])
          have HM := Lib.hid hm
          clear hm
          have q : ∀ W : World, (binOp .neq 56 (.agg #[.int .u32 x.reset, .bool x.kept]) (.agg #[.int .u32 y.reset, .bool y.kept])).run Try.prog W = .ok (.bool true) W := fun W => by
            rw [neq_rgs]
            congr 2
            cases hq : (x.reset == y.reset && (x.kept == y.kept))
            · rfl
            · exfalso; apply he; cases x; cases y; simpa using hq
          have qg : Try.prog.eqGuardType Try.prog.depth 56 = false := by kernel_rfl
          have HE := Lib.hid he
          clear he
          go_wp2
          go_quiet (fail)
          go_wp2
          go_ret
          exact ⟨ret_bool HM.out.symm, _, World.drewN_drewN _ _ _⟩
      · have hm : eqP xs ys = true := by
          have e : xs = ys := List.ext_getElem? fun j => by
            by_cases hj : j < k
            · exact HS.out j hj
            · rw [List.getElem?_eq_none (by omega), List.getElem?_eq_none (by omega)]
          subst e; exact eqP_self _
        have HM := Lib.hid hm
        clear hm
        go_wp2
        go_ret
        exact ⟨ret_bool HM.out.symm, _, rfl⟩
  · have hn : ((xs.length : Int) != (ys.length : Int)) = true := by simp; omega
    have HM := Lib.hid (eqP_len hne)
    clear hne
    go_enter Try.func90, Try.ntmps90
    go_wp2
    go_ret
    exact ⟨ret_bool HM.out.symm, 0, rfl⟩

end Go.Proofs.Ytkhfcbcanbplgaa
