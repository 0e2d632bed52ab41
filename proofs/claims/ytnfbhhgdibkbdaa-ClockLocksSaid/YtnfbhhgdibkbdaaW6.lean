/- The contracts of the numbers' tests, and of looks: unless, first. -/
import Derived.Test.YtnfbhhgdibkbdaaS
import Derived.Shelf.Abstract
namespace Go.Proofs.Ytnfbhhgdibkbdaa
set_option linter.unusedSimpArgs false
set_option linter.unusedVariables false
open Go.RowKit Go.Maps

theorem within_any (n a b : Int) (w : World) : Calls Try.prog 95 #[.int .i64 n, .int .i64 a, .int .i64 b] w fun e w' => e = .returned (.bool (betw n a b)) ∧ w = w' := by
  by_cases h0 : a ≤ n
  · have h0' : decide (a ≤ n) = true := by simpa using h0
    by_cases h1 : n ≤ b
    · have h1' : decide (n ≤ b) = true := by simpa using h1
      have hm := betw_yes h0 h1
      go_enter Try.func95, Try.ntmps95
      go_wp2
      go_ret
      exact ⟨by first | rfl | exact ret_bool hm.symm, rfl⟩
    · have h1' : decide (n ≤ b) = false := by simpa using h1
      have hm := betw_no (n := n) (a := a) (b := b) (.inr (by omega))
      go_enter Try.func95, Try.ntmps95
      go_wp2
      go_ret
      exact ⟨by first | rfl | exact ret_bool hm.symm, rfl⟩
  · have h0' : decide (a ≤ n) = false := by simpa using h0
    have hm := betw_no (n := n) (a := a) (b := b) (.inl (by omega))
    go_enter Try.func95, Try.ntmps95
    go_wp2
    go_ret
    exact ⟨by first | rfl | exact ret_bool hm.symm, rfl⟩
theorem within64_any (n a b : Int) (w : World) : Calls Try.prog 98 #[.int .u64 n, .int .u64 a, .int .u64 b] w fun e w' => e = .returned (.bool (betw n a b)) ∧ w = w' := by
  by_cases h0 : a ≤ n
  · have h0' : decide (a ≤ n) = true := by simpa using h0
    by_cases h1 : n ≤ b
    · have h1' : decide (n ≤ b) = true := by simpa using h1
      have hm := betw_yes h0 h1
      go_enter Try.func98, Try.ntmps98
      go_wp2
      go_ret
      exact ⟨by first | rfl | exact ret_bool hm.symm, rfl⟩
    · have h1' : decide (n ≤ b) = false := by simpa using h1
      have hm := betw_no (n := n) (a := a) (b := b) (.inr (by omega))
      go_enter Try.func98, Try.ntmps98
      go_wp2
      go_ret
      exact ⟨by first | rfl | exact ret_bool hm.symm, rfl⟩
  · have h0' : decide (a ≤ n) = false := by simpa using h0
    have hm := betw_no (n := n) (a := a) (b := b) (.inl (by omega))
    go_enter Try.func98, Try.ntmps98
    go_wp2
    go_ret
    exact ⟨by first | rfl | exact ret_bool hm.symm, rfl⟩
theorem factor_any (n : Int) (w : World) : Calls Try.prog 99 #[.int .i64 n] w fun e w' => e = .returned (.bool (betw n 1 1000)) ∧ w = w' := by
  go_enter Try.func99, Try.ntmps99
  go_wp2_with (go_at_call 95; refine (within_any _ _ _ _).mono ?_; rintro e w' ⟨rfl, rfl⟩)
  go_ret
  exact ⟨rfl, rfl⟩
theorem ticks_any (n : Int) (w : World) : Calls Try.prog 78 #[.int .i64 n] w fun e w' => e = .returned (.bool (betw n 0 20)) ∧ w = w' := by
  go_enter Try.func78, Try.ntmps78
  go_wp2_with (go_at_call 95; refine (within_any _ _ _ _).mono ?_; rintro e w' ⟨rfl, rfl⟩)
  go_ret
  exact ⟨rfl, rfl⟩

/-- the function value v, called without arguments in w0 or later, tells E -/
def Look (v : Value) (E : Int) (w0 : World) : Prop :=
  ∃ g lb, v = .func (.func g) #[] lb ∧ (∀ args w, (callFunc g args).run Try.prog w = .ok (.enter g args) w) ∧
    ∀ W, Below w0.heap.size w0 W → Calls Try.prog g lb W fun e w' => e = .returned (.int .i64 E) ∧ Below W.heap.size W w'
theorem Look.later {v : Value} {E : Int} {w w' : World} (h : Look v E w) (hb : Below w.heap.size w w') : Look v E w' := by
  obtain ⟨g, lb, e, he, hc⟩ := h
  exact ⟨g, lb, e, he, fun W hW => hc W (hb.trans (hW.mono hb.size))⟩

theorem unless1_any (b : Bool) (E : Int) (p q : Nat) (w : World) (h : w.cell? ⟨p, 0, none⟩ = some (.bool b)) (h' : w.cell? ⟨q, 0, none⟩ = some (.int .i64 E)) :
    Calls Try.prog 64 #[.pointer (some ⟨p, 0, none⟩), .pointer (some ⟨q, 0, none⟩)] w fun e w' => e = .returned (.int .i64 (orE b E)) ∧ w = w' := by
  cases b with
  | true =>
    go_enter Try.func64, Try.ntmps64
    go_wp2
    go_ret
    exact ⟨rfl, rfl⟩
  | false =>
    go_enter Try.func64, Try.ntmps64
    go_wp2
    go_ret
    exact ⟨rfl, rfl⟩
theorem enters69 (args : Array Value) (w : World) : (callFunc 64 args).run Try.prog w = .ok (.enter 64 args) w := enters_of Try.func64 (by kernel_rfl) rfl args w

def LookOut (E : Int) (w : World) (e : Ending) (w' : World) : Prop := ∃ v, e = .returned v ∧ Look v E w' ∧ Below w.heap.size w w'
theorem unless_any (b : Bool) (E : Int) (w : World) : Calls Try.prog 28 #[.bool b, .int .i64 E] w (LookOut (orE b E) w) := by
  go_enter Try.func28, Try.ntmps28
  go_wp2
  go_ret
  refine ⟨_, rfl, ⟨64, _, rfl, enters69, fun W hW => ?_⟩, ((Below.refl _ _).alloc (Nat.le_refl _) _).alloc (by simp) _⟩
  have h1 : W.cell? ⟨w.heap.size, 0, none⟩ = some (.bool b) := by
    rw [hW.cell (p := ⟨w.heap.size, 0, none⟩) (by simp; omega)]
    simp [go_sem]
  have h2 : W.cell? ⟨w.heap.size + 1, 0, none⟩ = some (.int .i64 E) := by
    rw [hW.cell (p := ⟨w.heap.size + 1, 0, none⟩) (by simp)]
    simp [go_sem]
  exact (unless1_any b E _ _ W h1 h2).mono fun e w' ⟨he, hw⟩ => ⟨he, by subst hw; exact Below.refl _ _⟩

/-- the slice address A leads to looks that tell Es -/
def LooksAt (w : World) (B : Nat) (A : Option Addr) (Es : List Int) : Prop :=
  0 < Es.length → ∃ ad, A = some ad ∧ ad.block < B ∧ ∀ k E, Es[k]? = some E → ∃ v, Look v E w ∧ w.cell? (ad.add k) = some v
theorem LooksAt.later {w w' : World} {A : Option Addr} {Es : List Int} (h : LooksAt w w.heap.size A Es) (hb : Below w.heap.size w w') : LooksAt w' w'.heap.size A Es := by
  intro hl
  obtain ⟨ad, e, hlt, hc⟩ := h hl
  have := hb.size
  refine ⟨ad, e, by omega, fun k E hk => ?_⟩
  obtain ⟨v, h1, h2⟩ := hc k E hk
  exact ⟨v, h1.later hb, (hb.cell (by rw [block_add]; exact hlt)).trans h2⟩

def ErrIs (E : Int) (w : World) (e : Ending) (w' : World) : Prop := e = .returned (.int .i64 E) ∧ Below w.heap.size w w'

set_option maxHeartbeats 1000000 in
theorem first_any (A : Option Addr) (c : Nat) (Es : List Int) (w : World) (hl : Es.length ≤ 1000000) (h : LooksAt w w.heap.size A Es) :
    Calls Try.prog 27 #[.slice A Es.length c] w (ErrIs (firstE Es) w) := by
  have HH := Lib.hid h
  clear h
  go_enter Try.func27, Try.ntmps27
  go_wp2
  go_loopw [8] (fun i wr => ∃ k : Nat, k ≤ Es.length ∧ i = .int .i64 k ∧ Below w.heap.size w wr ∧ firstE Es = firstE (Es.drop k)) (fun i _ => Es.length - (intOf i).toNat)
  case atStart => exact ⟨0, Nat.zero_le _, rfl, Below.refl _ _, rfl⟩
  case round =>
    obtain ⟨k, hk, rfl, hB, hf⟩ := hrel
    have HF := Lib.hid hf
    clear hf
    by_cases hlt : k < Es.length
    · obtain ⟨ad, hA, _, hc⟩ := (HH.out.later hB) (by omega)
      obtain ⟨E, hE⟩ : ∃ E, E = Es[k] := ⟨_, rfl⟩
      obtain ⟨v, hlk, hv⟩ := hc k E (by rw [List.getElem?_eq_getElem hlt, hE])
      clear hc
      have hd : Es.drop k = E :: Es.drop (k + 1) := by rw [hE]; exact List.drop_eq_getElem_cons hlt
      have HD := Lib.hid hd
      clear hd hE
      subst hA
      obtain ⟨g, lb, rfl, eg, hcall⟩ := hlk
      have hcall := hcall wr (Below.refl _ _)
      by_cases h0 : E = 0
      · have hE0 : firstE Es = firstE (Es.drop (k + 1)) := by rw [HF.out, HD.out, firstE_cons, if_pos h0]
        have HE0 := Lib.hid hE0
        clear hE0
        subst h0
        go_wp2_with (go_at_fn g; refine hcall.mono ?_; rintro e w' ⟨rfl, hb'⟩)
        go_roundw
        case rel => exact ⟨k + 1, by omega, by go_num, hB.trans (hb'.mono hB.size), HE0.out⟩
        case measure => simp [intOf]; omega
      · have hE0 : firstE Es = E := by rw [HF.out, HD.out, firstE_cons, if_neg h0]
        have HE0 := Lib.hid hE0
        clear hE0
        have hne : (E != 0) = true := by simpa using h0
        have H0 := Lib.hid h0
        clear h0
        go_wp2_with (go_at_fn g; refine hcall.mono ?_; rintro e w' ⟨rfl, hb'⟩)
        go_ret
        exact ⟨by rw [HE0.out]; rfl, hB.trans (hb'.mono hB.size)⟩
    · have hE0 : firstE Es = 0 := by rw [HF.out, List.drop_eq_nil_of_le (by omega)]; rfl
      go_wp2
      go_ret
      exact ⟨by rw [hE0]; rfl, hB⟩

end Go.Proofs.Ytnfbhhgdibkbdaa
