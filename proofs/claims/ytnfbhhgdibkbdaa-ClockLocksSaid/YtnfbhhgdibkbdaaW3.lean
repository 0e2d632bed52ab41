/- The contract of graph.next: the least node that is not met yet, and waits for none but those that are. -/
import Derived.Test.YtnfbhhgdibkbdaaW2
import Derived.Deep.LoopGhost
import Derived.Test.YtnfbhhgdibkbdaaM
namespace Go.Proofs.Ytnfbhhgdibkbdaa
set_option linter.unusedSimpArgs false
set_option linter.unusedVariables false
open Go.RowKit Go.Maps

/-- block gw holds n slices, slice i the ints cur i, which lie below block B -/
def OuterAt (w : World) (gw B n : Nat) (cur : Nat → List Int) : Prop :=
  ∀ i, i < n → w.frozen? ⟨gw, i, none⟩ = false ∧ ∃ Ai ci, w.cell? ⟨gw, i, none⟩ = some (.slice Ai (cur i).length ci) ∧ (cur i).length ≤ ci ∧ IntsAt w B Ai (cur i)

theorem OuterAt.below {w w' : World} {gw B C n : Nat} {cur : Nat → List Int} (h : OuterAt w gw B n cur) (hb : Below C w w') (hC : gw < C) (hB : B ≤ C) : OuterAt w' gw B n cur := by
  intro i hi
  obtain ⟨h1, Ai, ci, h2, h3, h4⟩ := h i hi
  exact ⟨(hb.frozen (p := ⟨gw, i, none⟩) hC).trans h1, Ai, ci, (hb.cell (p := ⟨gw, i, none⟩) hC).trans h2, h3, h4.below hb hB⟩
theorem OuterAt.rows {w : World} {gw B n : Nat} {cur : Nat → List Int} (h : OuterAt w gw B n cur) (hg : gw < w.heap.size) (hB : B ≤ w.heap.size) : RowsAt w w.heap.size (some ⟨gw, 0, none⟩) n cur := by
  intro hn
  refine ⟨_, rfl, hg, fun i hi => ?_⟩
  obtain ⟨_, Ai, ci, h2, h3, h4⟩ := h i hi
  refine ⟨Ai, ci, ?_, h3, h4.more hB⟩
  rw [← h2, Addr.add_lit, Nat.zero_add]

def upd (cur : Nat → List Int) (k : Nat) (l : List Int) : Nat → List Int := fun i => if i = k then l else cur i
theorem upd_same (cur : Nat → List Int) (k : Nat) (l : List Int) : upd cur k l k = l := by simp [upd]
theorem upd_other {cur : Nat → List Int} {k i : Nat} {l : List Int} (h : i ≠ k) : upd cur k l i = cur i := by simp [upd, h]

theorem IntsAt.setCell {w : World} {B : Nat} {A : Option Addr} {xs : List Int} (h : IntsAt w B A xs) {p : Addr} (hp : B ≤ p.block) (u : Value) : IntsAt (w.setCell p u) B A xs :=
  h.keep fun q hq => World.cell?_setCell_other w p q u (fun e => by subst e; omega)

theorem OuterAt.store {w : World} {gw B n k ck : Nat} {cur : Nat → List Int} {Ak : Option Addr} {l : List Int} (h : OuterAt w gw B n cur) (hg : B ≤ gw) (hk : k < n) (hl : l.length ≤ ck) (hI : IntsAt w B Ak l) :
    OuterAt (w.setCell ⟨gw, k, none⟩ (.slice Ak l.length ck)) gw B n (upd cur k l) := by
  intro i hi
  obtain ⟨h1, Ai, ci, h2, h3, h4⟩ := h i hi
  refine ⟨by rw [World.frozen?_setCell]; exact h1, ?_⟩
  by_cases e : i = k
  · subst e
    rw [upd_same]
    exact ⟨Ak, ck, World.cell?_setCell_same' _ _ _ (by rw [h2]; rfl), hl, hI.setCell hg _⟩
  · rw [upd_other e]
    exact ⟨Ai, ci, (World.cell?_setCell_other w _ _ _ (by simp [e])).trans h2, h3, h4.setCell hg _⟩

theorem IntsAt.cut1 {w : World} {B : Nat} {ad : Addr} {xs : List Int} (h : IntsAt w B (some ad) xs) (h0 : 0 < xs.length) : IntsAt w B (some ⟨ad.block, ad.off + 1, none⟩) (xs.drop 1) := by
  intro hl
  obtain ⟨ad', e, hb, hc⟩ := h h0
  injection e with e
  subst e
  refine ⟨_, rfl, hb, fun j x hj => ?_⟩
  rw [List.getElem?_drop] at hj
  have := hc _ x hj
  rw [Addr.add_lit]
  rw [show ad.add (1 + j) = ⟨ad.block, ad.off + 1 + j, none⟩ by unfold Addr.add; rw [if_neg (by omega)]; simp [Nat.add_assoc]] at this
  exact this

/-- what is left of each row: what was cut off is met -/
def CutTo (g cur : Nat → List Int) (met : List Int) (n : Nat) : Prop := ∀ v, v < n → ∃ c, cur v = (g v).drop c ∧ ∀ x, x ∈ (g v).take c → x ∈ met

theorem CutTo.tail {g cur : Nat → List Int} {met : List Int} {n k : Nat} {x : Int} (h : CutTo g cur met n) (hk : k < n) (hx : (cur k)[0]? = some x) (hm : x ∈ met) : CutTo g (upd cur k ((cur k).drop 1)) met n := by
  intro v hv
  by_cases e : v = k
  · subst e
    obtain ⟨c, h1, h2⟩ := h v hv
    refine ⟨c + 1, ?_, fun y hy => ?_⟩
    · rw [upd_same, h1, List.drop_drop]
    · rw [List.take_add_one, List.mem_append] at hy
      rcases hy with hy | hy
      · exact h2 y hy
      · rw [h1, List.getElem?_drop, Nat.add_zero] at hx
        rw [hx] at hy
        simp at hy
        rw [hy]; exact hm
  · rw [upd_other e]; exact h v hv
theorem CutTo.ready {g cur : Nat → List Int} {met : List Int} {n k : Nat} (h : CutTo g cur met n) (hk : k < n) (h0 : cur k = []) (hm : (k : Int) ∉ met) : ReadyI g met k := by
  refine ⟨hm, fun x hx => ?_⟩
  obtain ⟨c, h1, h2⟩ := h k hk
  rw [h0] at h1
  have := List.take_append_drop c (g k)
  rw [← h1, List.append_nil] at this
  exact h2 x (by rw [this]; exact hx)
theorem CutTo.mem {g cur : Nat → List Int} {met : List Int} {n k : Nat} {x : Int} (h : CutTo g cur met n) (hk : k < n) (hx : (cur k)[0]? = some x) : x ∈ g k := by
  obtain ⟨c, h1, h2⟩ := h k hk
  rw [h1, List.getElem?_drop] at hx
  exact List.mem_of_getElem? hx
theorem CutTo.more {g cur : Nat → List Int} {met met' : List Int} {n : Nat} (h : CutTo g cur met n) (hm : ∀ x, x ∈ met → x ∈ met') : CutTo g cur met' n := by
  intro v hv
  obtain ⟨c, h1, h2⟩ := h v hv
  exact ⟨c, h1, fun x hx => hm x (h2 x hx)⟩
theorem CutTo.start {g : Nat → List Int} {met : List Int} {n : Nat} : CutTo g g met n := fun v _ => ⟨0, rfl, by simp⟩

/-- what next answers -/
def NextVal (g : Nat → List Int) (met : List Int) (n : Nat) (s t : Value) : Prop :=
  (∃ v : Nat, v < n ∧ ReadyI g met v ∧ (∀ u, u < v → ¬ ReadyI g met u) ∧ s = .int .i64 v ∧ t = .bool true) ∨ ((∀ u, u < n → ¬ ReadyI g met u) ∧ s = .int .i64 0 ∧ t = .bool false)

def NextPost (g : Nat → List Int) (met : List Int) (gw B n b N : Nat) (w : World) (e : Ending) (w' : World) : Prop :=
  (∃ s t, NextVal g met n s t ∧ e = .returned (.tuple #[s, t])) ∧ (∃ cur, OuterAt w' gw B n cur ∧ CutTo g cur met n) ∧ SetAt w' b N met ∧ w.grownBy w' (some gw)

theorem grown_of_below {w w' : World} (h : Below w.heap.size w w') (row : Option Nat) : w.grownBy w' row := ⟨h.os, h.tape, h.output, h.size, fun i hi _ => h.block i hi⟩
theorem grown_setCell {w w' : World} {gw : Nat} (h : w.grownBy w' (some gw)) (p : Addr) (hp : p.block = gw) (u : Value) : w.grownBy (w'.setCell p u) (some gw) :=
  ⟨h.os, h.tape, h.output, by simpa [World.setCell] using h.size, fun i hi hne => (Below.heap_setCell w' p u i (by rintro rfl; exact hne (by rw [hp]))).trans (h.block i hi hne)⟩
theorem SetAt.setCell {w : World} {b N : Nat} {met : List Int} (h : SetAt w b N met) {p : Addr} (hp : b ≠ p.block) (u : Value) : SetAt (w.setCell p u) b N met := let ⟨D, h, h'⟩ := h; ⟨D, h.setCell hp u, h'⟩

theorem bcell {W w1 : World} (hb : Below W.heap.size W w1) : (∀ b o, b < W.heap.size → w1.cell? ⟨b, o, none⟩ = W.cell? ⟨b, o, none⟩) ∧ (∀ b o, b < W.heap.size → w1.frozen? ⟨b, o, none⟩ = W.frozen? ⟨b, o, none⟩) :=
  ⟨fun b o h => hb.cell (p := ⟨b, o, none⟩) h, fun b o h => hb.frozen (p := ⟨b, o, none⟩) h⟩

set_option maxHeartbeats 4000000 in
theorem next_any (gw B n cap b N : Nat) (g cur0 : Nat → List Int) (met : List Int) (w : World) (hn : n ≤ 1000000) (hl : ∀ i, i < n → (g i).length ≤ 1000000) (hwf : ∀ i, i < n → ∀ x, x ∈ g i → wfI x)
    (A : Option Addr) (hO : OuterAt w gw B n cur0) (hC : CutTo g cur0 met n) (hBw : B ≤ w.heap.size) (hp : 0 < n → A = some ⟨gw, 0, none⟩ ∧ B ≤ gw ∧ gw < w.heap.size ∧ b ≠ gw) (hS : SetAt w b N met) :
    Calls Try.prog 107 #[.slice A n cap, .map (some b)] w (NextPost g met gw B n b N w) := by
  have HP := Lib.hid hp
  have HL := Lib.hid hl
  have HWF := Lib.hid hwf
  have HO := Lib.hid hO
  have HC := Lib.hid hC
  clear hl hwf hO hC hp
  go_enter Try.func107, Try.ntmps107
  go_wp2
  go_loopw [9] (fun i wr => ∃ k : Nat, ∃ cur, k ≤ n ∧ i = .int .i64 k ∧ OuterAt wr gw B n cur ∧ CutTo g cur met n ∧ SetAt wr b N met ∧ w.grownBy wr (some gw) ∧ ∀ u, u < k → ¬ ReadyI g met u) (fun i _ => n - (intOf i).toNat)
  case atStart => exact ⟨0, cur0, Nat.zero_le _, rfl, HO.out, HC.out, hS, World.grownBy.refl _ _, fun u hu => absurd hu (by omega)⟩
  case round =>
    obtain ⟨k, cur, hk, rfl, hO, hC, hS', hg, hno⟩ := hrel
    have HO' := Lib.hid hO
    have HC' := Lib.hid hC
    have HN := Lib.hid hno
    clear hO hC hno HO HC
    have hsz := hg.size
    by_cases hlt : k < n
    · obtain ⟨hA, hB, hgw, hbg⟩ := HP.out (by omega)
      subst hA
      by_cases hm : (k : Int) ∈ met
      · have hmB := memB_yes hm
        go_wp2_with (go_at_call 109; refine (markHas' b N met _ _ hS' (by unfold wfI; omega)).mono ?_; rintro e w1 ⟨rfl, hb1⟩)
        have hz1 := hb1.size
        have HO1 := Lib.hid (HO'.out.below hb1 (by omega) (by omega))
        have hS1 := hS'.below hb1 hS'.lt
        have hg1 := hg.trans (grown_of_below hb1 _)
        go_roundw
        case rel => exact ⟨k + 1, cur, by omega, by go_num, HO1.out, HC'.out, hS1, hg1, fun u hu hr => by
          by_cases e : u = k
          · subst e; exact hr.1 hm
          · exact HN.out u (by omega) hr⟩
        case measure => simp [intOf]; omega
      · have hmB := memB_no hm
        go_wp2_with (go_at_call 109; refine (markHas' b N met _ _ hS' (by unfold wfI; omega)).mono ?_; rintro e w1 ⟨rfl, hb1⟩)
        have hz1 := hb1.size
        have HO1 := Lib.hid (HO'.out.below hb1 (by omega) (by omega))
        have hS1 := hS'.below hb1 hS'.lt
        have hg1 := hg.trans (grown_of_below hb1 _)
        go_loopg [15] (cur k).length (fun gg _ w2 => ∃ cur2, OuterAt w2 gw B n cur2 ∧ CutTo g cur2 met n ∧ SetAt w2 b N met ∧ w.grownBy w2 (some gw) ∧ (cur2 k).length ≤ gg)
        case atStart => exact ⟨cur, HO1.out, HC'.out, hS1, hg1, Nat.le_refl _⟩
        case round =>
          obtain ⟨cur2, hO2, hC2, hS2, hg2, hlen2⟩ := hrel
          have hz2 := hg2.size
          have hgl : gw < wr.heap.size := by omega
          obtain ⟨hfr, Ak, ck, hck, hle, hI⟩ := hO2 k hlt
          have HO2 := Lib.hid hO2
          have HC2 := Lib.hid hC2
          clear hO2 hC2 HO1 HO' HC'
          have hlk : (cur2 k).length ≤ 1000000 := by
            obtain ⟨c, h1, _⟩ := HC2.out k hlt
            rw [h1, List.length_drop]
            have := HL.out k hlt
            omega
          obtain ⟨m, hm'⟩ : ∃ m, m = (cur2 k).length := ⟨_, rfl⟩
          rw [← hm'] at hck hle hlk hlen2
          have HM := Lib.hid hm'
          clear hm'
          rcases Nat.eq_zero_or_pos m with h0 | h0
          · subst h0
            have h00 : cur2 k = [] := List.eq_nil_of_length_eq_zero HM.out.symm
            have hr := HC2.out.ready hlt h00 hm
            have HR := Lib.hid hr
            clear hr h00
            go_wp2
            go_ret2
            exact ⟨⟨_, _, .inl ⟨k, hlt, HR.out, HN.out, rfl, rfl⟩, rfl⟩, ⟨cur2, HO2.out, HC2.out⟩, hS2, hg2⟩
          · have h0' : 0 < (cur2 k).length := by rw [← HM.out]; exact h0
            obtain ⟨ad, hA, _, hx⟩ := hI.at_ h0'
            obtain ⟨x, hxe⟩ : ∃ x, x = (cur2 k)[0] := ⟨_, rfl⟩
            rw [← hxe] at hx
            have hx0 : (cur2 k)[0]? = some x := by rw [List.getElem?_eq_getElem h0', hxe]
            have HX := Lib.hid hx0
            have hwx : wfI x := HWF.out k hlt x (HC2.out.mem hlt hx0)
            clear hxe hx0
            subst hA
            have hxa : wr.cell? ad = some (.int .i64 x) := by simpa [Addr.add] using hx
            by_cases hmx : x ∈ met
            · have hq := memB_yes hmx
              by_cases hc1 : ck = 1
              · subst hc1
                go_wp2_with (go_at_call 109; refine (markHas' b N met _ _ hS2 hwx).mono ?_; rintro e w3 ⟨rfl, hb3⟩; have hck3 := (hb3.cell (p := ⟨gw, k, none⟩) hgl).trans hck; have hfr3 := (hb3.frozen (p := ⟨gw, k, none⟩) hgl).trans hfr)
                have hm1 : m = 1 := by omega
                have hz3 := hb3.size
                have hO3 := HO2.out.below hb3 hgl (by omega)
                have hl1 : ((cur2 k).drop 1).length = 0 := by rw [List.length_drop, ← HM.out, hm1]
                have hO4 := hO3.store (Ak := some ad) (ck := 0) (l := (cur2 k).drop 1) hB hlt (by omega) (fun h => absurd h (by omega))
                rw [hl1] at hO4
                go_roundg (m - 1)
                case measure => omega
                case rel => exact ⟨upd cur2 k ((cur2 k).drop 1), hO4, HC2.out.tail hlt HX.out hmx, (hS2.below hb3 hS2.lt).setCell hbg _, grown_setCell (hg2.trans (grown_of_below hb3 _)) _ rfl _, by rw [upd_same, hl1]; omega⟩
              · go_wp2_with (go_at_call 109; refine (markHas' b N met _ _ hS2 hwx).mono ?_; rintro e w3 ⟨rfl, hb3⟩; have hck3 := (hb3.cell (p := ⟨gw, k, none⟩) hgl).trans hck; have hfr3 := (hb3.frozen (p := ⟨gw, k, none⟩) hgl).trans hfr)
                have hz3 := hb3.size
                have hO3 := HO2.out.below hb3 hgl (by omega)
                have hl1 : ((cur2 k).drop 1).length = m - 1 := by rw [List.length_drop, ← HM.out]
                have hO4 := hO3.store (Ak := some ⟨ad.block, ad.off + 1, none⟩) (ck := ck - 1) (l := (cur2 k).drop 1) hB hlt (by omega) ((hI.below hb3 (by omega)).cut1 h0')
                rw [hl1] at hO4
                go_roundg (m - 1)
                case measure => omega
                case rel => exact ⟨upd cur2 k ((cur2 k).drop 1), hO4, HC2.out.tail hlt HX.out hmx, (hS2.below hb3 hS2.lt).setCell hbg _, grown_setCell (hg2.trans (grown_of_below hb3 _)) _ rfl _, by rw [upd_same, hl1]; omega⟩
            · have hq := memB_no hmx
              go_wp2_with (go_at_call 109; refine (markHas' b N met _ _ hS2 hwx).mono ?_; rintro e w3 ⟨rfl, hb3⟩; have hck3 := (hb3.cell (p := ⟨gw, k, none⟩) hgl).trans hck; have hfr3 := (hb3.frozen (p := ⟨gw, k, none⟩) hgl).trans hfr)
              have hz3 := hb3.size
              go_roundw
              case rel => exact ⟨k + 1, cur2, by omega, by go_num, HO2.out.below hb3 hgl (by omega), HC2.out, hS2.below hb3 hS2.lt, hg2.trans (grown_of_below hb3 _), fun u hu hr => by
                by_cases e : u = k
                · subst e; exact hmx (hr.2 x (HC2.out.mem hlt HX.out))
                · exact HN.out u (by omega) hr⟩
              case measure => simp [intOf]; omega
    · go_wp2
      go_ret2
      exact ⟨⟨_, _, .inr ⟨fun u hu => HN.out u (by omega), rfl, rfl⟩, rfl⟩, ⟨cur, HO'.out, HC'.out⟩, hS', hg⟩

end Go.Proofs.Ytnfbhhgdibkbdaa
