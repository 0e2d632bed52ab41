/- The document's own lines: how they lie in memory; the contracts of Held, Left, Assert, Release. -/
import Derived.Test.YtpieihjipdgplaaR6
import Derived.Deep.QuietTactic
namespace Go.Proofs.Ytpieihjipdgplaa
set_option linter.unusedSimpArgs false
set_option linter.unusedVariables false
open Go.RowKit Go.Maps

def lnL (x : Ln) : List Value := [.bool x.held, .bool x.want, .int .i64 x.left]
def LnC : ReadsC Ln := fun _ _ x vs => vs = lnL x
def LnV : Reads Ln := fun _ _ x vs => vs = lnL x
instance : Steady LnV := ⟨fun h _ => h, fun h _ => h⟩
instance : SteadyC LnC LnV := ⟨fun h _ => h, fun h _ => h, fun h _ => h, fun h => h⟩
/-- the document's lines: a box of two rows -/
structure RefIs (w : World) (gr : Nat) (A C : Option Addr) (cd cs : Nat) (xs : List Ln) : Prop where
  box : BoxAt w gr [.slice A xs.length cd, .slice C xs.length cs]
  d : w.ownsRow (gr + 1) 3 1 (.slice A xs.length cd) xs.length (iv (xs.map Ln.least))
  s : RowC LnC 3 64 [] w (gr + 1) (.slice C xs.length cs) xs
  ne : ∀ g, (Value.slice A xs.length cd).ownBlock = some g → (Value.slice C xs.length cs).ownBlock ≠ some g
def hotR (C : Option Addr) (n cs : Nat) : List Nat := (Value.slice C n cs).ownBlock.toList
theorem hot_mem {gs n cs : Nat} : gs ∈ hotR (some ⟨gs, 0, none⟩) n cs := List.mem_singleton.2 rfl
section
variable {w w' : World} {gr cd cs : Nat} {A C : Option Addr} {xs : List Ln}
theorem RefIs.sLt (h : RefIs w gr A C cd cs xs) : ∀ g, g ∈ hotR C xs.length cs → gr + 1 ≤ g ∧ g < w.heap.size := fun g hg => by
  obtain ⟨vss, _, _, ho⟩ := h.s
  exact ho.lt g (by unfold hotR at hg; simpa using hg)
theorem RefIs.far {hot : List Nat} (h : RefIs w gr A C cd cs xs) (hm : Moved hot w w') (h1 : ∀ g, g ∈ hot → g < gr) : RefIs w' gr A C cd cs xs := by
  refine ⟨h.box.move hm (fun hh => by have := h1 _ hh; omega), own_move h.d fun g hg => hm.block g (h.d.lt g hg).2 (fun hh => by have := h1 _ hh; have := (h.d.lt g hg).1; omega), ?_, h.ne⟩
  obtain ⟨vss, a, b, ho⟩ := h.s
  exact ⟨vss, a, fun k x vs h1 h2 => ⟨(b k x vs h1 h2).1, (b k x vs h1 h2).2⟩, own_move ho fun g hg => hm.block g (ho.lt g hg).2 (fun hh => by have := h1 _ hh; have := (ho.lt g hg).1; omega)⟩
theorem RefIs.move (h : RefIs w gr A C cd cs xs) (hm : Moved [] w w') : RefIs w' gr A C cd cs xs := h.far hm (by simp)
/-- where the k-th line lies -/
theorem RefIs.at_ {k : Nat} {x : Ln} (h : RefIs w gr A C cd cs xs) (hx : xs[k]? = some x) :
    ∃ gd gs, A = some ⟨gd, 0, none⟩ ∧ C = some ⟨gs, 0, none⟩ ∧ w.cell? ⟨gd, k, none⟩ = some (.int .i64 x.least) ∧ gs ≠ gr ∧ gs ≠ gd ∧ gd ≠ gr ∧
      (∀ j v, (lnL x)[j]? = some v → w.cell? ⟨gs, k * 3 + j, none⟩ = some v ∧ w.frozen? ⟨gs, k * 3 + j, none⟩ = false) := by
  have hk := get_lt hx
  obtain ⟨gd, c1, e1, hd1, hd2⟩ := World.ownsRow.form h.d (by omega)
  injection e1 with e1 _ _
  obtain ⟨vss, a, b, ho⟩ := id h.s
  have hvl : vss[k]? = some vss[k] := List.getElem?_eq_getElem (by omega)
  obtain ⟨gs, c2, e2, hs1, hs2⟩ := World.ownsRow.form ho (by omega)
  injection e2 with e2 _ _
  subst e1 e2
  have hne := h.ne gd rfl
  refine ⟨gd, gs, rfl, rfl, ?_, by omega, fun e => hne (by subst e; rfl), by omega, ?_⟩
  · have := h.d.cellAt k (by simp [iv]; omega)
    rw [this]
    have e : (iv (xs.map Ln.least))[k]? = some (.int .i64 x.least) := by unfold iv; rw [List.getElem?_map, List.getElem?_map, hx]; rfl
    exact e
  · have hc : RowC LnC 3 64 [gs] w (gr + 1) (.slice (some ⟨gs, 0, none⟩) xs.length cs) xs := h.s
    obtain ⟨vs, _, hv, hcc⟩ := hc.cell rfl hx
    have e : vs = lnL x := hv
    subst e
    exact hcc
/-- one cell of one line is written -/
theorem RefIs.set {gs k j : Nat} {x x' : Ln} {u : Value} (h : RefIs w gr A (some ⟨gs, 0, none⟩) cd cs xs) (hx : xs[k]? = some x) (hj : j < 3) (hl : x'.least = x.least) (hc : (lnL x).set j u = lnL x') : RefIs (w.setCell ⟨gs, k * 3 + j, none⟩ u) gr A (some ⟨gs, 0, none⟩) cd cs (xs.set k x') := by
  have hm : Moved [gs] w (w.setCell ⟨gs, k * 3 + j, none⟩ u) := Moved.setCell _ (by simp) _
  have hgs := h.sLt gs hot_mem
  have e : (xs.set k x').map Ln.least = xs.map Ln.least := by
    rw [List.map_set, hl]
    refine List.ext_getElem? fun m => ?_
    rw [List.getElem?_set]
    by_cases e : k = m
    · subst e
      rw [if_pos rfl, if_pos (by simpa using get_lt hx), List.getElem?_map, hx]
      rfl
    · rw [if_neg e]
  refine ⟨?_, ?_, ?_, ?_⟩
  · rw [List.length_set]
    exact h.box.move hm (by simp; omega)
  · rw [List.length_set, e]
    exact own_move h.d fun g hg => hm.block g (h.d.lt g hg).2 (fun hh => by simp at hh; subst hh; exact h.ne _ hg rfl)
  · have hs : RowC LnC 3 64 [gs] w (gr + 1) (.slice (some ⟨gs, 0, none⟩) xs.length cs) xs := h.s
    rw [List.length_set]
    exact hs.set rfl hx hj (by simp) (fun vs hv _ => by
      have e : vs = lnL x := hv
      subst e
      exact hc)
  · rw [List.length_set]
    exact h.ne
end

theorem set_self' {xs : List Ln} {k : Nat} {x : Ln} (hx : xs[k]? = some x) : xs.set k x = xs := set_self hx
def RDoes (w : World) (gr : Nat) (A C : Option Addr) (cd cs n : Nat) (E : Int) (xs' : List Ln) (e : Ending) (w' : World) : Prop := e = .returned (.int .i64 E) ∧ RefIs w' gr A C cd cs xs' ∧ Moved (hotR C n cs) w w'

theorem rheld_any (gr : Nat) (A C : Option Addr) (cd cs : Nat) (xs : List Ln) (i : Int) (w : World) (h : RefIs w gr A C cd cs xs) :
    Calls Try.prog 22 #[.pointer (some ⟨gr, 0, none⟩), .int .i64 i] w fun e w' => e = .returned (.bool (heldP xs i)) ∧ w = w' := by
  have b1 := (h.box 1 _ rfl).1
  by_cases hneg : i < 0
  · have hb : hasB xs.length i = false := by unfold hasB; simp; omega
    rw [show heldP xs i = true from atP_no hb _ _]
    clear hb h
    go_enter Try.func22, Try.ntmps22
    go_wp2
    go_ret
    exact ⟨rfl, rfl⟩
  · by_cases hge : (xs.length : Int) ≤ i
    · have hb : hasB xs.length i = false := by unfold hasB; simp; omega
      rw [show heldP xs i = true from atP_no hb _ _]
      clear hb h
      go_enter Try.func22, Try.ntmps22
      go_wp2
      go_ret
      exact ⟨rfl, rfl⟩
    · obtain ⟨k, rfl⟩ : ∃ k : Nat, i = (k : Int) := ⟨i.toNat, by omega⟩
      have hx := List.getElem?_eq_getElem (l := xs) (i := k) (by omega)
      generalize xs[k] = x at hx
      rw [show heldP xs (k : Int) = x.held from atP_at hx _ _]
      obtain ⟨gd, gs, rfl, rfl, -, -, -, -, hc⟩ := h.at_ hx
      have v0 : w.cell? ⟨gs, k * 3, none⟩ = some (.bool x.held) := (hc 0 _ rfl).1
      have i0 : (0 : Int) ≤ (k : Int) := by omega
      have i1 : (k : Int) < (xs.length : Int) := by omega
      have i2 : ¬ ((xs.length : Int) ≤ (k : Int)) := hge
      generalize x.held = hd at v0 ⊢
      clear hc hx h
      go_enter Try.func22, Try.ntmps22
      go_wp2
      go_ret
      exact ⟨rfl, rfl⟩

theorem rleft_any (gr : Nat) (A C : Option Addr) (cd cs : Nat) (xs : List Ln) (i : Int) (w : World) (h : RefIs w gr A C cd cs xs) :
    Calls Try.prog 24 #[.pointer (some ⟨gr, 0, none⟩), .int .i64 i] w fun e w' => e = .returned (.int .i64 (leftP xs i)) ∧ w = w' := by
  have b1 := (h.box 1 _ rfl).1
  by_cases hneg : i < 0
  · have hb : hasB xs.length i = false := by unfold hasB; simp; omega
    rw [show leftP xs i = 0 from atP_no hb _ _]
    clear hb h
    go_enter Try.func24, Try.ntmps24
    go_wp2
    go_ret
    exact ⟨rfl, rfl⟩
  · by_cases hge : (xs.length : Int) ≤ i
    · have hb : hasB xs.length i = false := by unfold hasB; simp; omega
      rw [show leftP xs i = 0 from atP_no hb _ _]
      clear hb h
      go_enter Try.func24, Try.ntmps24
      go_wp2
      go_ret
      exact ⟨rfl, rfl⟩
    · obtain ⟨k, rfl⟩ : ∃ k : Nat, i = (k : Int) := ⟨i.toNat, by omega⟩
      have hx := List.getElem?_eq_getElem (l := xs) (i := k) (by omega)
      generalize xs[k] = x at hx
      rw [show leftP xs (k : Int) = x.left from atP_at hx _ _]
      obtain ⟨gd, gs, rfl, rfl, -, -, -, -, hc⟩ := h.at_ hx
      have v0 := (hc 2 _ rfl).1
      have i0 : (0 : Int) ≤ (k : Int) := by omega
      have i1 : (k : Int) < (xs.length : Int) := by omega
      have i2 : ¬ ((xs.length : Int) ≤ (k : Int)) := hge
      generalize x.left = hd at v0 ⊢
      clear hc hx h
      go_enter Try.func24, Try.ntmps24
      go_wp2
      go_ret
      exact ⟨rfl, rfl⟩

theorem rassert_any (gr : Nat) (A C : Option Addr) (cd cs : Nat) (xs : List Ln) (i : Int) (w : World) (h : RefIs w gr A C cd cs xs) :
    Calls Try.prog 15 #[.pointer (some ⟨gr, 0, none⟩), .int .i64 i] w (RDoes w gr A C cd cs xs.length (assertE xs i) (assertT xs i)) := by
  have b0 := (h.box 0 _ rfl).1
  have b1 := (h.box 1 _ rfl).1
  have H := Lib.hid h
  by_cases hneg : i < 0
  · have hb : hasB xs.length i = false := by unfold hasB; simp; omega
    have hE : assertE xs i = 4 := by unfold assertE; rw [hb]; rfl
    have hT : assertT xs i = xs := setT_no _ hb
    rw [hE, hT]
    clear hb h hE hT
    go_enter Try.func15, Try.ntmps15
    go_wp2
    go_ret
    exact ⟨rfl, H.out, Moved.refl _ _⟩
  · by_cases hge : (xs.length : Int) ≤ i
    · have hb : hasB xs.length i = false := by unfold hasB; simp; omega
      have hE : assertE xs i = 4 := by unfold assertE; rw [hb]; rfl
      have hT : assertT xs i = xs := setT_no _ hb
      rw [hE, hT]
      clear hb h hE hT
      go_enter Try.func15, Try.ntmps15
      go_wp2
      go_ret
      exact ⟨rfl, H.out, Moved.refl _ _⟩
    · obtain ⟨k, rfl⟩ : ∃ k : Nat, i = (k : Int) := ⟨i.toNat, by omega⟩
      have hx := List.getElem?_eq_getElem (l := xs) (i := k) (by omega)
      generalize xs[k] = x at hx
      have hE : assertE xs (k : Int) = 0 := by unfold assertE; rw [hasB_at hx]; rfl
      have hT : assertT xs (k : Int) = xs.set k (assertL x) := setT_at _ hx
      rw [hE, hT]
      obtain ⟨gd, gs, rfl, rfl, hl, g1, g2, g3, hc⟩ := h.at_ hx
      have i0 : (0 : Int) ≤ (k : Int) := by omega
      have i1 : (k : Int) < (xs.length : Int) := by omega
      have i2 : ¬ ((xs.length : Int) ≤ (k : Int)) := hge
      have v0 : w.cell? ⟨gs, k * 3, none⟩ = some (.bool x.held) := (hc 0 _ rfl).1
      have f0 : w.frozen? ⟨gs, k * 3, none⟩ = false := (hc 0 _ rfl).2
      obtain ⟨v1, f1⟩ := hc 1 _ rfl
      obtain ⟨v2, f2⟩ := hc 2 _ rfl
      have m0 : Moved (hotR (some ⟨gs, 0, none⟩) xs.length cs) w w.drew := ⟨rfl, rfl, rfl, Nat.le_refl _, fun _ _ _ => rfl⟩
      have m1 := m0.trans (Moved.setCell w.drew (p := ⟨gs, k * 3, none⟩) hot_mem (.bool true))
      have m2 := m1.trans (Moved.setCell (w.drew.setCell ⟨gs, k * 3, none⟩ (.bool true)) (p := ⟨gs, k * 3 + 1, none⟩) hot_mem (.bool false))
      have m3 := m2.trans (Moved.setCell ((w.drew.setCell ⟨gs, k * 3, none⟩ (.bool true)).setCell ⟨gs, k * 3 + 1, none⟩ (.bool false)) (p := ⟨gs, k * 3 + 2, none⟩) hot_mem (.int .i64 x.least))
      have r0 : RefIs (w.drew.setCell ⟨gs, k * 3 + 0, none⟩ (.bool true)) gr (some ⟨gd, 0, none⟩) (some ⟨gs, 0, none⟩) cd cs (xs.set k ⟨x.least, true, x.left, x.want⟩) := (h.move (w' := w.drew) ⟨rfl, rfl, rfl, Nat.le_refl _, fun _ _ _ => rfl⟩).set (j := 0) hx (by omega) rfl rfl
      have hx1 : (xs.set k ⟨x.least, true, x.left, x.want⟩)[k]? = some ⟨x.least, true, x.left, x.want⟩ := List.getElem?_set_self (get_lt hx)
      have r1 := r0.set (j := 1) (u := .bool false) (x' := ⟨x.least, true, x.left, false⟩) hx1 (by omega) rfl rfl
      rw [List.set_set] at r1
      have hx2 : (xs.set k ⟨x.least, true, x.left, false⟩)[k]? = some ⟨x.least, true, x.left, false⟩ := List.getElem?_set_self (get_lt hx)
      have r2 := r1.set (j := 2) (u := .int .i64 x.least) (x' := assertL x) hx2 (by omega) rfl rfl
      rw [List.set_set] at r2
      have hfin : RDoes w gr (some ⟨gd, 0, none⟩) (some ⟨gs, 0, none⟩) cd cs xs.length 0 (xs.set k (assertL x)) (.returned (.int .i64 0)) (((w.drew.setCell ⟨gs, k * 3, none⟩ (.bool true)).setCell ⟨gs, k * 3 + 1, none⟩ (.bool false)).setCell ⟨gs, k * 3 + 2, none⟩ (.int .i64 x.least)) :=
        ⟨rfl, r2, m3⟩
      have HF := Lib.hid hfin
      generalize x.least = ls at *
      clear hc hx h H r0 r1 r2 hx1 hx2 hfin hE hT m0 m1 m2 m3 hge hneg
      go_enter Try.func15, Try.ntmps15
      go_wp2
      go_region
      all_goals
        go_wp2
        go_ret
        exact HF.out

theorem rrelease_any (gr : Nat) (A C : Option Addr) (cd cs : Nat) (xs : List Ln) (i : Int) (w : World) (h : RefIs w gr A C cd cs xs) :
    Calls Try.prog 17 #[.pointer (some ⟨gr, 0, none⟩), .int .i64 i] w (RDoes w gr A C cd cs xs.length (releaseE xs i) (releaseT xs i)) := by
  have b1 := (h.box 1 _ rfl).1
  have H := Lib.hid h
  by_cases hneg : i < 0
  · have hb : hasB xs.length i = false := by unfold hasB; simp; omega
    have hE : releaseE xs i = 4 := atP_no hb _ _
    have hT : releaseT xs i = xs := setT_no _ hb
    rw [hE, hT]
    clear hb h hE hT
    go_enter Try.func17, Try.ntmps17
    go_wp2
    go_ret
    exact ⟨rfl, H.out, Moved.refl _ _⟩
  · by_cases hge : (xs.length : Int) ≤ i
    · have hb : hasB xs.length i = false := by unfold hasB; simp; omega
      have hE : releaseE xs i = 4 := atP_no hb _ _
      have hT : releaseT xs i = xs := setT_no _ hb
      rw [hE, hT]
      clear hb h hE hT
      go_enter Try.func17, Try.ntmps17
      go_wp2
      go_ret
      exact ⟨rfl, H.out, Moved.refl _ _⟩
    · obtain ⟨k, rfl⟩ : ∃ k : Nat, i = (k : Int) := ⟨i.toNat, by omega⟩
      have hx := List.getElem?_eq_getElem (l := xs) (i := k) (by omega)
      generalize xs[k] = x at hx
      have hE : releaseE xs (k : Int) = if x.held = true then 0 else 6 := atP_at hx _ _
      have hT : releaseT xs (k : Int) = xs.set k (wantL x) := setT_at _ hx
      rw [hE, hT]
      obtain ⟨gd, gs, rfl, rfl, hl, g1, g2, g3, hc⟩ := h.at_ hx
      have i0 : (0 : Int) ≤ (k : Int) := by omega
      have i1 : (k : Int) < (xs.length : Int) := by omega
      have i2 : ¬ ((xs.length : Int) ≤ (k : Int)) := hge
      have v0 : w.cell? ⟨gs, k * 3, none⟩ = some (.bool x.held) := (hc 0 _ rfl).1
      obtain ⟨v1, f1⟩ := hc 1 _ rfl
      cases hh : x.held with
      | false =>
        have hw : wantL x = x := by unfold wantL; simp [hh]
        rw [hw, set_self' hx, if_neg Bool.false_ne_true]
        rw [hh] at v0
        clear hc hx h hE hT hw hh
        go_enter Try.func17, Try.ntmps17
        go_wp2
        go_ret
        exact ⟨rfl, H.out, Moved.refl _ _⟩
      | true =>
        have hw : wantL x = ⟨x.least, true, x.left, true⟩ := by unfold wantL; simp [hh]
        rw [hw, if_pos rfl]
        rw [hh] at v0
        have r1 : RefIs (w.setCell ⟨gs, k * 3 + 1, none⟩ (.bool true)) gr (some ⟨gd, 0, none⟩) (some ⟨gs, 0, none⟩) cd cs (xs.set k ⟨x.least, true, x.left, true⟩) := h.set (j := 1) hx (by omega) rfl (by unfold lnL; rw [hh]; rfl)
        have hfin : RDoes w gr (some ⟨gd, 0, none⟩) (some ⟨gs, 0, none⟩) cd cs xs.length 0 (xs.set k ⟨x.least, true, x.left, true⟩) (.returned (.int .i64 0)) (w.setCell ⟨gs, k * 3 + 1, none⟩ (.bool true)) := ⟨rfl, r1, Moved.setCell w (p := ⟨gs, k * 3 + 1, none⟩) hot_mem _⟩
        have HF := Lib.hid hfin
        generalize x.want = wt at *
        clear hc hx h H r1 hfin hE hT hge hneg hw hh
        go_enter Try.func17, Try.ntmps17
        go_wp2
        go_ret
        exact HF.out

end Go.Proofs.Ytpieihjipdgplaa
