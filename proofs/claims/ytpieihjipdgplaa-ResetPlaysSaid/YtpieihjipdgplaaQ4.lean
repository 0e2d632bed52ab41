/- Our lines and the document's, side by side. -/
import Derived.Test.YtpieihjipdgplaaR9
import Derived.Test.YtpieihjipdgplaaQ3
namespace Go.Proofs.Ytpieihjipdgplaa
set_option linter.unusedSimpArgs false
set_option linter.unusedVariables false
open Go.RowKit Go.Maps

structure Bw (w3 wr : World) (b bl bh gr : Nat) (A C : Option Addr) (cd cs : Nat) (L : List Int) (xs ys : List Ln) : Prop where
  ours : Lw w3 wr b bl bh L xs
  theirs : RefIs wr gr A C cd cs ys
  inv : LInv L ys
  lt : b < gr ∧ bl < gr ∧ bh < gr ∧ w3.heap.size ≤ gr
namespace Bw
variable {w3 wr w' : World} {b bl bh gr cd cs : Nat} {A C : Option Addr} {L : List Int} {xs ys : List Ln}
theorem calm (h : Bw w3 wr b bl bh gr A C cd cs L xs ys) (hm : Moved [] wr w') : Bw w3 w' b bl bh gr A C cd cs L xs ys := ⟨h.ours.calm hm, h.theirs.move hm, h.inv, h.lt⟩
theorem drewN (h : Bw w3 wr b bl bh gr A C cd cs L xs ys) (m : Nat) : Bw w3 (wr.drewN m) b bl bh gr A C cd cs L xs ys := h.calm ⟨rfl, rfl, rfl, Nat.le_refl _, fun _ _ _ => rfl⟩
theorem mine {xs' : List Ln} (h : Bw w3 wr b bl bh gr A C cd cs L xs ys) (hl : Lw w3 w' b bl bh L xs') (hm : Moved [bh] wr w') : Bw w3 w' b bl bh gr A C cd cs L xs' ys := ⟨hl, h.theirs.far hm (by simp; exact h.lt.2.2.1), h.inv, h.lt⟩
theorem hotLo (h : Bw w3 wr b bl bh gr A C cd cs L xs ys) : ∀ g, g ∈ hotR C ys.length cs → gr + 1 ≤ g ∧ g < wr.heap.size := h.theirs.sLt
theorem other {ys' : List Ln} (h : Bw w3 wr b bl bh gr A C cd cs L xs ys) (hl : RefIs w' gr A C cd cs ys') (hi : LInv L ys') (hm : Moved (hotR C ys.length cs) wr w') : Bw w3 w' b bl bh gr A C cd cs L xs ys' := by
  obtain ⟨a1, a2, a3, a4⟩ := h.lt
  exact ⟨h.ours.calm' hm (fun hh => by have := (h.hotLo _ hh).1; omega) (fun hh => by have := (h.hotLo _ hh).1; omega) (fun hh => by have := (h.hotLo _ hh).1; omega) (fun q hq => by have := (h.hotLo q hq).1; omega), hl, hi, h.lt⟩
theorem small (h : Bw w3 wr b bl bh gr A C cd cs L xs ys) : ys.length ≤ 1000 := by have := h.inv.len; have := h.ours.len; omega
theorem assert (h : Bw w3 wr b bl bh gr A C cd cs L xs ys) {i : Int} (hi : wfI i) : Calls Try.prog 14 #[.pointer (some ⟨b, 0, none⟩), .int .i64 i] wr fun e w' => e = .returned (.int .i64 (assertE xs i)) ∧ Bw w3 w' b bl bh gr A C cd cs L (assertT xs i) ys :=
  (h.ours.assert hi).mono fun e w' ⟨he, hl, hm⟩ => ⟨he, h.mine hl hm⟩
theorem release (h : Bw w3 wr b bl bh gr A C cd cs L xs ys) {i : Int} (hi : wfI i) : Calls Try.prog 16 #[.pointer (some ⟨b, 0, none⟩), .int .i64 i] wr fun e w' => e = .returned (.int .i64 (releaseE xs i)) ∧ Bw w3 w' b bl bh gr A C cd cs L (releaseT xs i) ys :=
  (h.ours.release hi).mono fun e w' ⟨he, hl, hm⟩ => ⟨he, h.mine hl hm⟩
theorem rassert (h : Bw w3 wr b bl bh gr A C cd cs L xs ys) (i : Int) : Calls Try.prog 15 #[.pointer (some ⟨gr, 0, none⟩), .int .i64 i] wr fun e w' => e = .returned (.int .i64 (assertE ys i)) ∧ Bw w3 w' b bl bh gr A C cd cs L xs (assertT ys i) :=
  (rassert_any gr A C cd cs ys i wr h.theirs).mono fun e w' ⟨he, hl, hm⟩ => ⟨he, h.other hl (h.inv.assertI i) hm⟩
theorem rrelease (h : Bw w3 wr b bl bh gr A C cd cs L xs ys) (i : Int) : Calls Try.prog 17 #[.pointer (some ⟨gr, 0, none⟩), .int .i64 i] wr fun e w' => e = .returned (.int .i64 (releaseE ys i)) ∧ Bw w3 w' b bl bh gr A C cd cs L xs (releaseT ys i) :=
  (rrelease_any gr A C cd cs ys i wr h.theirs).mono fun e w' ⟨he, hl, hm⟩ => ⟨he, h.other hl (h.inv.releaseI i) hm⟩
theorem tick (h : Bw w3 wr b bl bh gr A C cd cs L xs ys) : Calls Try.prog 19 #[.pointer (some ⟨b, 0, none⟩)] wr fun e w' => ∃ At c, e = .returned (.slice At (tickE xs).length c) ∧ OwnI w' wr.heap.size (.slice At (tickE xs).length c) (tickE xs) ∧ Bw w3 w' b bl bh gr A C cd cs L (tickT xs) ys ∧ wr.heap.size ≤ w'.heap.size :=
  h.ours.tick.mono fun e w' ⟨At, c, he, ho, hl, hm⟩ => ⟨At, c, he, ho, h.mine hl hm, hm.size⟩
theorem rtick (h : Bw w3 wr b bl bh gr A C cd cs L xs ys) : Calls Try.prog 20 #[.pointer (some ⟨gr, 0, none⟩)] wr fun e w' => ∃ At c, e = .returned (.slice At (tickE ys).length c) ∧ OwnI w' wr.heap.size (.slice At (tickE ys).length c) (tickE ys) ∧ Bw w3 w' b bl bh gr A C cd cs L xs (tickT ys) ∧ Moved (hotR C ys.length cs) wr w' :=
  (rtick_any gr A C cd cs ys wr h.small h.inv.idle h.inv.left h.theirs).mono fun e w' ⟨v, he, ho, hl, hm⟩ => by
    obtain ⟨At, c, rfl⟩ := own_shape' ho
    exact ⟨At, c, he, ho, h.other hl h.inv.tickI hm, hm⟩
theorem held (h : Bw w3 wr b bl bh gr A C cd cs L xs ys) {i : Int} (hi : wfI i) : Calls Try.prog 21 #[.pointer (some ⟨b, 0, none⟩), .int .i64 i] wr fun e w' => e = .returned (.bool (heldP xs i)) ∧ Bw w3 w' b bl bh gr A C cd cs L xs ys :=
  (h.ours.held hi).mono fun e w' ⟨he, _, hb⟩ => ⟨he, h.calm (Moved.of_below hb)⟩
end Bw

end Go.Proofs.Ytpieihjipdgplaa
