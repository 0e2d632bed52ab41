/- Our grid and the document's, side by side. -/
import Derived.Test.YtlhmcpkfmnmhfaaGreatYC
import Derived.Test.YtlhmcpkfmnmhfaaGreatYA
import Derived.Test.YtlhmcpkfmnmhfaaGreatY5
import Derived.Test.YtlhmcpkfmnmhfaaGreatYB
namespace Go.Proofs.YtlhmcpkfmnmhfaaGreat
set_option linter.unusedSimpArgs false
set_option linter.unusedVariables false
open Go.RowKit Go.Maps

structure Bw (w3 wr : World) (gt g c gr gd gs cd cs : Nat) (doms : List Dom) (sts rts : List Pst) : Prop where
  lw : Lw w3 wr gt g c doms sts
  ref : RefIs wr gr gd gs cd cs rts
  low : w3.heap.size ≤ gr ∧ w3.heap.size ≤ gd ∧ w3.heap.size ≤ gs
  n1 : gt ≠ gs
  n2 : g ≠ gs
  n3 : g ≠ gr
  n4 : g ≠ gd
namespace Bw
variable {w3 wr w' : World} {gt g c gr gd gs cd cs : Nat} {doms : List Dom} {sts sts' rts rts' : List Pst}
theorem ours (h : Bw w3 wr gt g c gr gd gs cd cs doms sts rts) (hl : Lw w3 w' gt g c doms sts') (hm : Moved [g] wr w') : Bw w3 w' gt g c gr gd gs cd cs doms sts' rts :=
  ⟨hl, h.ref.far hm (by simpa using Ne.symm h.n3) (by simpa using Ne.symm h.n4) (by simpa using Ne.symm h.n2), h.low, h.n1, h.n2, h.n3, h.n4⟩
theorem theirs (h : Bw w3 wr gt g c gr gd gs cd cs doms sts rts) (hr : RefIs w' gr gd gs cd cs rts') (hm : Moved [gs] wr w') : Bw w3 w' gt g c gr gd gs cd cs doms sts rts' :=
  ⟨⟨h.lw.grid.far hm (by simpa using h.n1) (by simpa using h.n2), h.lw.inv, h.lw.ok, h.lw.bel.trans (hm.below (by simpa using h.low.2.2) h.lw.bel.size), h.lw.lo⟩, hr, h.low, h.n1, h.n2, h.n3, h.n4⟩
theorem calm (h : Bw w3 wr gt g c gr gd gs cd cs doms sts rts) (hm : Moved [] wr w') : Bw w3 w' gt g c gr gd gs cd cs doms sts rts :=
  ⟨h.lw.calm hm, h.ref.move hm, h.low, h.n1, h.n2, h.n3, h.n4⟩
theorem drewN (h : Bw w3 wr gt g c gr gd gs cd cs doms sts rts) (n : Nat) : Bw w3 (wr.drewN n) gt g c gr gd gs cd cs doms sts rts := h.calm ⟨rfl, rfl, rfl, Nat.le_refl _, fun _ _ _ => rfl⟩
/-- the document's acts beside ours -/
def Does2 (w3 wr : World) (gt g c gr gd gs cd cs : Nat) (doms : List Dom) (sts : List Pst) (E : Int) (rts' : List Pst) (e : Ending) (w' : World) : Prop := e = .returned (.int .i64 E) ∧ Bw w3 w' gt g c gr gd gs cd cs doms sts rts'
theorem rup (h : Bw w3 wr gt g c gr gd gs cd cs doms sts rts) (hk : KeepIs rts) (hl : rts.length ≤ 1000) (ha : ∀ (k : Nat) (x : Pst), rts[k]? = some x → aboveOk rts.length x.dom.above) (i : Int) :
    Calls Tryz.prog 10 #[.pointer (some ⟨gr, 0, none⟩), .int .i64 i] wr (Does2 w3 wr gt g c gr gd gs cd cs doms sts (upE rts i) (upT rts i)) :=
  (rup_any gr gd gs cd cs rts i wr hl h.ref hk ha).mono fun e w' ⟨he, hr, hm⟩ => ⟨he, h.theirs hr hm⟩
theorem rdown (h : Bw w3 wr gt g c gr gd gs cd cs doms sts rts) (hl : rts.length ≤ 1000) (i : Int) (kp : Bool) :
    Calls Tryz.prog 12 #[.pointer (some ⟨gr, 0, none⟩), .int .i64 i, .bool kp] wr (Does2 w3 wr gt g c gr gd gs cd cs doms sts (downE rts i kp) (downT rts i kp)) :=
  (rdown_any gr gd gs cd cs rts i kp wr hl h.ref).mono fun e w' ⟨he, hr, hm⟩ => ⟨he, h.theirs hr hm⟩
def Ticks2 (w3 wr : World) (gt g c gr gd gs cd cs : Nat) (doms : List Dom) (sts rts : List Pst) (e : Ending) (w' : World) : Prop := ∃ v, e = .returned v ∧ RevRow w' wr.heap.size v (tickE rts) ∧ Bw w3 w' gt g c gr gd gs cd cs doms sts (tickT rts) ∧ Moved [gs] wr w'
theorem rtick (h : Bw w3 wr gt g c gr gd gs cd cs doms sts rts) (hl : rts.length ≤ 1000) (hm : ∀ (k : Nat) (x : Pst), rts[k]? = some x → x.left ≤ 1000000) :
    Calls Tryz.prog 16 #[.pointer (some ⟨gr, 0, none⟩)] wr (Ticks2 w3 wr gt g c gr gd gs cd cs doms sts rts) :=
  (rtick_any gr gd gs cd cs rts wr hl h.ref hm).mono fun e w' ⟨v, he, hv, hr, hm⟩ => ⟨v, he, hv, h.theirs hr hm, hm⟩
end Bw

end Go.Proofs.YtlhmcpkfmnmhfaaGreat
