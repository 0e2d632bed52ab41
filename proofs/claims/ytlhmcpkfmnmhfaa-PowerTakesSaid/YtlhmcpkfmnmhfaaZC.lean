/- What lives above what has power, plainly; an act. -/
import Derived.Test.YtlhmcpkfmnmhfaaZB
import Derived.Deep.CutBlock
import Derived.Deep.DeepCutAuto
namespace Go.Proofs.Ytlhmcpkfmnmhfaa
set_option linter.unusedSimpArgs false
set_option linter.unusedVariables false
open Go.RowKit Go.Maps

section
variable {doms : List Dom} {sts : List Pst}
theorem GInv.dsc (h : GInv doms sts) (hd : DomsOk doms) : Desc sts := h.desc hd
theorem upsF_neg (sts : List Pst) : upsF sts (-1) = [] := upsF_no (by unfold hasB; simp)
theorem live_up (h : GInv doms sts) (hd : DomsOk doms) : ∀ (k : Nat), phaseP sts (k : Int) = 49 → ∀ a, a ∈ upsF sts (k : Int) → phaseP sts a = 49 := by
  intro k
  induction k using Nat.strongRecOn with
  | _ k ih =>
    intro hp a ha
    obtain ⟨m, x, e, hx, hpx⟩ := phaseP_ex (sts := sts) (i := (k : Int)) (by rw [hp]; decide)
    obtain rfl : k = m := by omega
    rw [upsF_yes (h.dsc hd) hx] at ha
    rcases List.mem_cons.1 ha with rfl | ha
    · exact hp
    · have hr : restsB x.phase = false := by rw [← hpx, hp]; rfl
      rcases GInv.fed49 (h.fed k x hx hr) with h1 | h1
      · rw [h1, upsF_neg] at ha
        simp at ha
      · rcases h.desc hd k x hx with h2 | ⟨h2, h3⟩
        · rw [h2, upsF_neg] at ha
          simp at ha
        · obtain ⟨q, hq⟩ : ∃ q : Nat, x.dom.above = (q : Int) := ⟨x.dom.above.toNat, by omega⟩
          rw [hq] at h1 ha
          exact ih q (by omega) h1 a ha
theorem live_above (h : GInv doms sts) (hd : DomsOk doms) {k : Nat} {x : Pst} (hx : sts[k]? = some x) (hr : restsB x.phase = false) : ∀ a, a ∈ upsF sts x.dom.above → phaseP sts a = 49 := by
  intro a ha
  rcases GInv.fed49 (h.fed k x hx hr) with h1 | h1
  · rw [h1, upsF_neg] at ha
    simp at ha
  · obtain ⟨m, y, e, hy, _⟩ := phaseP_ex (sts := sts) (i := x.dom.above) (by rw [h1]; decide)
    rw [e] at h1 ha
    exact live_up h hd m h1 a ha
theorem chainP_yes (h : GInv doms sts) (hd : DomsOk doms) {k : Nat} {x : Pst} (hx : sts[k]? = some x) : chainP sts (k : Int) = (upsF sts x.dom.above).reverse ++ [(k : Int)] := by
  unfold chainP
  rw [upsF_yes (h.dsc hd) hx, List.reverse_cons]
end

/-- what an act leaves: a grid -/
def Acted (w3 : World) (gt g c : Nat) (doms : List Dom) (w' : World) : Prop := ∃ sts', Lw w3 w' gt g c doms sts'
section
variable {w3 wr : World} {gt g c : Nat} {doms : List Dom} {sts : List Pst} (h : Lw w3 wr gt g c doms sts)
include h
theorem Lw.upX (i : Int) : Calls Try.prog 13 #[.pointer (some ⟨gt, 0, none⟩), .int .i64 i] wr (fun e w' => (∃ E, e = .returned (.int .i64 E)) ∧ Acted w3 gt g c doms w') := (h.up i).mono fun e w' ⟨he, hl, hm⟩ => ⟨⟨_, he⟩, _, hl⟩
theorem Lw.downX (i : Int) (kp : Bool) : Calls Try.prog 14 #[.pointer (some ⟨gt, 0, none⟩), .int .i64 i, .bool kp] wr (fun e w' => (∃ E, e = .returned (.int .i64 E)) ∧ Acted w3 gt g c doms w') := (h.down i kp).mono fun e w' ⟨he, hl, hm⟩ => ⟨⟨_, he⟩, _, hl⟩
theorem Lw.tickX : Calls Try.prog 15 #[.pointer (some ⟨gt, 0, none⟩)] wr (fun e w' => (∃ v, e = .returned v) ∧ Acted w3 gt g c doms w') := h.tick.mono fun e w' ⟨v, he, _, hl, _⟩ => ⟨⟨_, he⟩, _, hl⟩
end
/-- the acts read as they did -/
theorem acts_at {w w3 wr : World} {A : Option Addr} {xs : List Acts} (h : StrsAt ActV 2 w w.heap.size A xs) (h3 : Below w.heap.size w w3) (hb : Below w3.heap.size w3 wr) {k : Nat} (hk : k < xs.length) :
    ∃ ad, A = some ad ∧ wr.cell? (ad.add (k * 2)) = some (.int .i64 xs[k].op) ∧ wr.cell? ⟨(ad.add (k * 2)).block, (ad.add (k * 2)).off + (0 + 1), none⟩ = some (.int .i64 xs[k].d) := by
  obtain ⟨ad, us, hA, hab, hV, hAg⟩ := (h.below (h3.trans (hb.mono h3.size)) (Nat.le_refl _)).at_ hk
  have e : us = [.int .i64 xs[k].op, .int .i64 xs[k].d] := hV
  subst e
  exact ⟨ad, hA, hAg.zero, hAg.at_ 0 rfl⟩

/-- the domains of the description read as they did -/
theorem doms_cells {w3 wr : World} {A : Option Addr} {doms : List Dom} (h : StrsAt DomV 3 w3 w3.heap.size A doms) (hb : Below w3.heap.size w3 wr) {k : Nat} {d : Dom} (hd : doms[k]? = some d) :
    ∃ ad, A = some ad ∧ wr.cell? (ad.add (k * 3)) = some (.int .i64 d.above) ∧ wr.cell? ⟨(ad.add (k * 3)).block, (ad.add (k * 3)).off + (0 + 1), none⟩ = some (.int .i64 d.delay) ∧ wr.cell? ⟨(ad.add (k * 3)).block, (ad.add (k * 3)).off + (1 + 1), none⟩ = some (.bool d.ret) := by
  have hk := get_lt' hd
  obtain ⟨ad, us, hA, hab, hV, hAg⟩ := (h.below hb (Nat.le_refl _)).at_ hk
  have e : us = [.int .i64 doms[k].above, .int .i64 doms[k].delay, .bool doms[k].ret] := hV
  have e2 : doms[k] = d := by rw [List.getElem?_eq_getElem hk] at hd; injection hd
  rw [e2] at e
  subst e
  exact ⟨ad, hA, hAg.zero, hAg.at_ 0 rfl, hAg.at_ 1 rfl⟩
theorem any_take_succ {sts : List Pst} {k : Nat} {y : Pst} (h : sts[k]? = some y) (f : Pst → Bool) : (sts.take (k + 1)).any f = ((sts.take k).any f || f y) := by
  rw [List.take_add_one, h]
  simp

end Go.Proofs.Ytlhmcpkfmnmhfaa
