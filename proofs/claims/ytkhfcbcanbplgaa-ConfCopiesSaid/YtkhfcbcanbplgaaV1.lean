/- conf.Copy: the rows inside the copy, each in blocks of its own. -/
import Derived.Test.YtkhfcbcanbplgaaW21
namespace Go.Proofs.Ytkhfcbcanbplgaa
section
set_option linter.unusedSimpArgs false
set_option linter.unusedVariables false
open Go.RowKit Go.Maps

/-- the cell leads to a row that the call owns, made behind block lo and ahead of block hi, in no hot block -/
def CellAt (W : World) (hot : List Nat) (g j : Nat) (e : TypeId) (sz n : Nat) (xs : List Value) (lo hi : Nat) : Prop :=
  ∃ v, W.cell? ⟨g, j, none⟩ = some v ∧ W.frozen? ⟨g, j, none⟩ = false ∧ W.ownsRow lo e sz v n xs ∧ ∀ g', v.ownBlock = some g' → g' < hi ∧ g' ∉ hot
section
variable {W W' : World} {hot : List Nat} {g j : Nat} {e : TypeId} {sz n : Nat} {xs : List Value} {lo hi : Nat}
theorem CellAt.calm (h : CellAt W hot g j e sz n xs lo hi) (hm : Moved [] W W') : CellAt W' hot g j e sz n xs lo hi := by
  obtain ⟨v, h1, h2, h3, h4⟩ := h
  have hl : g < W.heap.size := World.block_lt_of_cell? W ⟨g, j, none⟩ h1
  exact ⟨v, hm.cell h1 (by simp), (hm.frozen (p := ⟨g, j, none⟩) hl (by simp)).trans h2, own_move h3 (fun g' hg' => hm.block g' (h3.lt g' hg').2 (by simp)), h4⟩
theorem CellAt.set (h : CellAt W hot g j e sz n xs lo hi) {p : Addr} (hp : p.block ∈ hot) (hne : p ≠ ⟨g, j, none⟩) (u : Value) : CellAt (W.setCell p u) hot g j e sz n xs lo hi := by
  obtain ⟨v, h1, h2, h3, h4⟩ := h
  exact ⟨v, (World.cell?_setCell_other W _ _ _ (fun e => hne (by first | exact e | exact e.symm))).trans h1, by rw [World.frozen?_setCell]; exact h2, own_move h3 (fun g' hg' => Below.heap_setCell W p u g' (fun e => (h4 g' hg').2 (e ▸ hp))), h4⟩
theorem CellAt.new {w0 : Value} (h0 : W.cell? ⟨g, j, none⟩ = some w0) (h1 : W.frozen? ⟨g, j, none⟩ = false) {v : Value} {B : Nat} (hr : W.ownsRow B e sz v n xs) (hlo : lo ≤ B) (hhi : W.heap.size ≤ hi) (hf : ∀ g', v.ownBlock = some g' → g' ∉ hot) (hg : g ∈ hot) : CellAt (W.setCell ⟨g, j, none⟩ v) hot g j e sz n xs lo hi :=
  ⟨v, World.cell?_setCell_same' _ _ _ (by rw [h0]; rfl), by rw [World.frozen?_setCell]; exact h1, own_base' (own_move hr (fun g' hg' => Below.heap_setCell _ _ _ _ (fun e => hf g' hg' (e ▸ hg)))) hlo, fun g' hg' => ⟨by have := (hr.lt g' hg').2; omega, hf g' hg'⟩⟩
end
/-- the inputs of the first i clocks, each a row behind those before it -/
structure FromsAt (w W : World) (b2 b3 : Nat) (s : Chip) (v1 v2 v3 v4 : Value) (t : Nat → Nat) (i : Nat) : Prop where
  row : ∀ k, k < i → ∀ x g, s.clks[k]? = some x → v1.ownBlock = some g → CellAt W (b2 :: b3 :: hot4 v1 v2 v3 v4) g (k * 6 + 1) 3 1 x.frm.length (iv x.frm) (t k) (t (k + 1))
  up : ∀ k, k < i → t k ≤ t (k + 1)
  last : t i ≤ W.heap.size
  zero : w.heap.size ≤ t 0
theorem FromsAt.next {w W w1 : World} {b2 b3 : Nat} {s : Chip} {g cap : Nat} {v2 v3 v4 u : Value} {t : Nat → Nat} {i : Nat} {x : Clk} {v : Value} (h : FromsAt w W b2 b3 s (.slice (some ⟨g, 0, none⟩) s.clks.length cap) v2 v3 v4 t i) (hm : Moved [] W w1) (hx : s.clks[i]? = some x) (h0 : w1.cell? ⟨g, i * 6 + 1, none⟩ = some u) (h1 : w1.frozen? ⟨g, i * 6 + 1, none⟩ = false)
    (hr : w1.ownsRow W.heap.size 3 1 v x.frm.length (iv x.frm)) (hf : ∀ g', v.ownBlock = some g' → g' ∉ b2 :: b3 :: hot4 (.slice (some ⟨g, 0, none⟩) s.clks.length cap) v2 v3 v4) :
    FromsAt w (w1.setCell ⟨g, i * 6 + 1, none⟩ v) b2 b3 s (.slice (some ⟨g, 0, none⟩) s.clks.length cap) v2 v3 v4 (fun k => if k = i + 1 then w1.heap.size else t k) (i + 1) := by
  have hg : g ∈ b2 :: b3 :: hot4 (.slice (some ⟨g, 0, none⟩) s.clks.length cap) v2 v3 v4 := by simp [hot4, Value.ownBlock]
  refine ⟨fun k hk y g' hy hg' => ?_, fun k hk => ?_, ?_, ?_⟩
  · obtain rfl : g = g' := by simpa [Value.ownBlock] using hg'
    by_cases hki : k = i
    · subst hki
      rw [hx] at hy
      obtain rfl : x = y := Option.some.inj hy
      rw [if_neg (by omega), if_pos rfl]
      exact CellAt.new h0 h1 hr h.last (Nat.le_refl _) hf hg
    · rw [if_neg (by omega), if_neg (by omega)]
      exact ((h.row k (by omega) y g hy rfl).calm hm).set hg (fun e => by injection e with _ e; omega) _
  · by_cases hki : k = i
    · subst hki
      simp only [if_true, if_neg (show ¬ k = k + 1 by omega)]
      exact Nat.le_trans h.last hm.size
    · simp only [if_neg (show ¬ k = i + 1 by omega), if_neg (show ¬ k + 1 = i + 1 by omega)]
      exact h.up k (by omega)
  · simp
  · simp only [if_neg (show ¬ 0 = i + 1 by omega)]
    exact h.zero

set_option maxRecDepth 1000000 in
set_option maxHeartbeats 4000000 in
theorem copyF_round (w W : World) (b2 b3 : Nat) (s : Chip) (v1 v2 v3 v4 : Value) (i : Nat) (hok : ChipOk s) (hs : StC w W b2 b3 s v1 v2 v3 v4) (hfr : (∃ t, FromsAt w W b2 b3 s v1 v2 v3 v4 t i)) (hi : i ≤ s.clks.length)
    (a : Act) (ha : FrN 68 a) (h2 : slT a 2 = .pointer (some ⟨b2, 0, none⟩)) (h3 : slT a 3 = .pointer (some ⟨b3, 0, none⟩)) (h23 : slT a 23 = .int .i64 (s.clks.length : Nat)) (h24 : slT a 24 = .int .i64 (i : Nat)) (R : Act → World → Prop) (Q : Exit → Act → World → Prop)
    (hR : ∀ a' W', i < s.clks.length → FrN 68 a' → slT a' 2 = .pointer (some ⟨b2, 0, none⟩) → slT a' 3 = .pointer (some ⟨b3, 0, none⟩) → slT a' 23 = .int .i64 (s.clks.length : Nat) → slT a' 24 = .int .i64 ((i + 1 : Nat) : Int) → StC w W' b2 b3 s v1 v2 v3 v4 → (∃ t, FromsAt w W' b2 b3 s v1 v2 v3 v4 t (i + 1)) → R a' W')
    (hQ : ∀ a', FrN 68 a' → slT a' 2 = .pointer (some ⟨b2, 0, none⟩) → slT a' 3 = .pointer (some ⟨b3, 0, none⟩) → i = s.clks.length → Q (.exit 0) a' W) :
    Code.wp Try.prog (lpC loop23a) (Exit.then R Q) a W := by
  have HQ := Lib.hid hQ
  have HR := Lib.hid hR
  obtain ⟨t, hfr⟩ := hfr
  have HFR := Lib.hid hfr
  clear hQ hR hfr
  obtain ⟨F, rfl⟩ := ha.open_
  rw [slT_listT (by omega)] at h2 h3 h23 h24
  rw [lit68, h2, h3, h23, h24]
  clear ha h2 h3 h23 h24
  conv => arg 2; whnf
  have hn1 := hok.n1
  by_cases hlt : i < s.clks.length
  · obtain ⟨g, cap, rfl, -, hgl⟩ := Own5.form hs.own.clks (by omega)
    have hr := List.getElem?_eq_getElem (l := s.clks) (i := i) hlt
    generalize s.clks[i] = x at hr
    obtain ⟨n, hn⟩ : ∃ n, n = s.clks.length := ⟨_, rfl⟩
    have hxl := (hok.clks x (List.mem_of_getElem? hr)).1
    obtain ⟨vs, hvl, ⟨Ax, cx, rfl, hcx, hix⟩, hcells⟩ := hs.own.clks.cell rfl hr
    obtain ⟨e0, e1⟩ := hcells 1 _ rfl
    obtain ⟨x0, y0⟩ := hs.bx 0 _ rfl
    have hnil : Ax = none → x.frm.length = 0 := fun h => by
      rcases Nat.eq_zero_or_pos x.frm.length with h0 | h0
      · exact h0
      · obtain ⟨ad, e, _⟩ := hix h0
        rw [h] at e; cases e
    have HIX := Lib.hid hix.ints
    have HS := Lib.hid hs
    have HRR := Lib.hid hr
    have i0 : (0 : Int) ≤ (i : Int) := by omega
    have i1 : (i : Int) < (s.clks.length : Int) := by omega
    clear hcells hvl hix hs hr
    go_wp2_with fail
    refine (cloneInts_any Ax cx x.frm W (by omega) HIX.out).mono ?_
    rintro e w1 ⟨v, rfl, hown, hb1⟩
    obtain ⟨A9, c9, rfl⟩ := own_shape' hown
    have hm1 : Moved [] W w1 := Moved.of_below hb1
    have hs1 := HS.out.calm hm1
    obtain ⟨vs', -, ⟨Ax', cx', rfl, -, -⟩, hcells'⟩ := hs1.own.clks.cell rfl HRR.out
    obtain ⟨f0, f1⟩ := hcells' 1 _ rfl
    have hcap := own_cap hown
    have hset := hs1.own.setClk (j := 1) (u := .slice A9 x.frm.length c9) (x' := x) rfl HRR.out (by omega) (fun vs hv _ => by
      obtain ⟨A, c, rfl, q1, q2⟩ := hv
      exact ⟨A9, c9, rfl, hcap, ints_own hown _ (fun g hg hm => by
        have := (hown.lt g hg).1
        have := (HS.out.own.fresh HS.out.h2 HS.out.l2 g hm).2
        omega)⟩)
    have hss : ({ s with clks := s.clks.set i x } : Chip) = s := by
      have hxi := (List.getElem?_eq_some_iff.1 HRR.out).2
      rw [← hxi, List.set_getElem_self]
    rw [hss] at hset
    have ht := hs1.set (p := ⟨g, i * 6 + 1, none⟩) (.slice A9 x.frm.length c9) hset (by simp [hot4, Value.ownBlock])
    have HT := Lib.hid ht
    have hfar : ∀ g', (Value.slice A9 x.frm.length c9).ownBlock = some g' → g' ∉ b2 :: b3 :: hot4 (.slice (some ⟨g, 0, none⟩) s.clks.length cap) v2 v3 v4 := fun g' hg hm => by
      have h1 := (hown.lt g' hg).1
      rcases List.mem_cons.1 hm with e | hm
      · have := HS.out.l2; omega
      · rcases List.mem_cons.1 hm with e | hm
        · have := HS.out.bx.lt; omega
        · have := (HS.out.own.fresh HS.out.h2 HS.out.l2 g' (List.mem_cons_of_mem _ hm)).2; omega
    have hnew := HFR.out.next hm1 HRR.out f0 f1 hown hfar
    have HNEW := Lib.hid hnew
    clear hnew hfar
    clear hown hb1 hm1 hs1 hcells' hset hss ht hcap HIX HS
    go_wp2
    exact HR.out _ _ hlt ⟨rfl, rfl⟩ rfl rfl rfl (by go_num) HT.out ⟨_, HNEW.out⟩
  · obtain rfl : i = s.clks.length := by omega
    go_wp2
    exact HQ.out _ ⟨rfl, rfl⟩ rfl rfl (by trivial)

def IF (w : World) (b2 b3 : Nat) (s : Chip) (v1 v2 v3 v4 : Value) (a : Act) (W : World) : Prop :=
  ∃ i : Nat, i ≤ s.clks.length ∧ FrN 68 a ∧ slT a 2 = .pointer (some ⟨b2, 0, none⟩) ∧ slT a 3 = .pointer (some ⟨b3, 0, none⟩) ∧ slT a 23 = .int .i64 (s.clks.length : Nat) ∧ slT a 24 = .int .i64 (i : Nat) ∧ StC w W b2 b3 s v1 v2 v3 v4 ∧ ∃ t, FromsAt w W b2 b3 s v1 v2 v3 v4 t i
def MF (s : Chip) (a : Act) (_ : World) : Nat := s.clks.length - (intOf (slT a 24)).toNat
theorem copyF_any (w W : World) (b2 b3 : Nat) (s : Chip) (v1 v2 v3 v4 : Value) (hok : ChipOk s) (hs : StC w W b2 b3 s v1 v2 v3 v4) (hz : w.heap.size ≤ W.heap.size)
    (a : Act) (ha : FrN 68 a) (h2 : slT a 2 = .pointer (some ⟨b2, 0, none⟩)) (h3 : slT a 3 = .pointer (some ⟨b3, 0, none⟩)) (h23 : slT a 23 = .int .i64 (s.clks.length : Nat)) (h24 : slT a 24 = .int .i64 0) (Q : Exit → Act → World → Prop)
    (hQ : ∀ a' W', FrN 68 a' → slT a' 2 = .pointer (some ⟨b2, 0, none⟩) → slT a' 3 = .pointer (some ⟨b3, 0, none⟩) → StC w W' b2 b3 s v1 v2 v3 v4 → (∃ t, FromsAt w W' b2 b3 s v1 v2 v3 v4 t s.clks.length) → Q (.exit 0) a' W') : Code.wp Try.prog loop23a Q a W := by
  show Code.wp Try.prog (Code.loop (lpC loop23a)) Q a W
  refine wp_loop (IF w b2 b3 s v1 v2 v3 v4) (MF s) ⟨0, Nat.zero_le _, ha, h2, h3, h23, h24, hs, fun _ => W.heap.size, fun k hk => absurd hk (by omega), fun k hk => absurd hk (by omega), Nat.le_refl _, hz⟩ ?_
  rintro a1 W1 ⟨i, hi, hf, q2, q3, q23, q24, hs1, hn1⟩
  refine copyF_round w W1 b2 b3 s v1 v2 v3 v4 i hok hs1 hn1 hi a1 hf q2 q3 q23 q24 _ _ ?_ ?_
  · intro a' W' hlt hF e2 e3 e23 e24 hs' hn'
    refine ⟨⟨i + 1, hlt, hF, e2, e3, e23, e24, hs', hn'⟩, ?_⟩
    unfold MF
    rw [e24, q24]
    simp [intOf]
    omega
  · exact fun a' hF e2 e3 hin => hQ _ _ hF e2 e3 hs1 (by rw [← hin]; exact hn1)
end

section
set_option linter.unusedSimpArgs false
set_option linter.unusedVariables false
open Go.RowKit Go.Maps

theorem FromsAt.calm {w W W' : World} {b2 b3 : Nat} {s : Chip} {v1 v2 v3 v4 : Value} {t : Nat → Nat} {i : Nat} (h : FromsAt w W b2 b3 s v1 v2 v3 v4 t i) (hm : Moved [] W W') : FromsAt w W' b2 b3 s v1 v2 v3 v4 t i :=
  ⟨fun k hk x g hx hg => (h.row k hk x g hx hg).calm hm, h.up, Nat.le_trans h.last hm.size, h.zero⟩
theorem FromsAt.set {w W : World} {b2 b3 : Nat} {s : Chip} {v1 v2 v3 v4 : Value} {t : Nat → Nat} {i : Nat} (h : FromsAt w W b2 b3 s v1 v2 v3 v4 t i) {p : Addr} (hp : p.block ∈ b2 :: b3 :: hot4 v1 v2 v3 v4) (hne : v1.ownBlock ≠ some p.block) (u : Value) : FromsAt w (W.setCell p u) b2 b3 s v1 v2 v3 v4 t i :=
  ⟨fun k hk x g hx hg => (h.row k hk x g hx hg).set hp (fun e => hne (by rw [hg, e])) u, h.up, by rw [size_setCell]; exact h.last, h.zero⟩
/-- the cells of registers -/
def rv (rs : List Rgs) : List Value := (rs.map fun r => [Value.int .u32 r.reset, Value.bool r.kept]).flatten
theorem vss_rv {rs : List Rgs} {vss : List (List Value)} (hl : vss.length = rs.length) (h : ∀ (k : Nat) (x : Rgs) (us : List Value), rs[k]? = some x → vss[k]? = some us → us = [.int .u32 x.reset, .bool x.kept]) : vss.flatten = rv rs := by
  have : vss = rs.map fun r => [Value.int .u32 r.reset, Value.bool r.kept] := by
    refine List.ext_getElem? fun k => ?_
    rcases Nat.lt_or_ge k rs.length with hk | hk
    · rw [List.getElem?_map, List.getElem?_eq_getElem hk, List.getElem?_eq_getElem (by omega)]
      rw [h k _ _ (List.getElem?_eq_getElem hk) (List.getElem?_eq_getElem (by omega))]
      rfl
    · rw [List.getElem?_eq_none (by omega), List.getElem?_eq_none (by simpa using hk)]
  rw [this]; rfl
/-- the registers and needs of the first devices, c rows in all, each behind those before it -/
structure DevsAt (W : World) (b2 b3 : Nat) (s : Chip) (v1 v2 v3 v4 : Value) (m : Nat) (u : Nat → Nat) (c : Nat) : Prop where
  regs : ∀ k, 2 * k < c → ∀ x g, s.devs[k]? = some x → v4.ownBlock = some g → CellAt W (b2 :: b3 :: hot4 v1 v2 v3 v4) g (k * 6 + 4) 56 2 x.regs.length (rv x.regs) (u (2 * k)) (u (2 * k + 1))
  needs : ∀ k, 2 * k + 1 < c → ∀ x g, s.devs[k]? = some x → v4.ownBlock = some g → CellAt W (b2 :: b3 :: hot4 v1 v2 v3 v4) g (k * 6 + 5) 3 1 x.needs.length (iv x.needs) (u (2 * k + 1)) (u (2 * k + 2))
  up : ∀ k, k < c → u k ≤ u (k + 1)
  last : u c ≤ W.heap.size
  zero : m ≤ u 0
section
variable {W w1 : World} {b2 b3 : Nat} {s : Chip} {g cap m : Nat} {v1 v2 v3 z : Value} {u : Nat → Nat} {i : Nat} {x : Dev} {v : Value}
theorem DevsAt.more {c e : Nat} (h : ∀ k, k < c → u k ≤ u (k + 1)) (hl : u c ≤ e) : ∀ k, k < c + 1 → (if k = c + 1 then e else u k) ≤ (if k + 1 = c + 1 then e else u (k + 1)) := fun k hk => by
  rw [if_neg (by omega)]
  by_cases hkc : k = c
  · subst hkc
    rw [if_pos rfl]; exact hl
  · rw [if_neg (by omega)]; exact h k (by omega)
theorem DevsAt.next4 (h : DevsAt W b2 b3 s v1 v2 v3 (.slice (some ⟨g, 0, none⟩) s.devs.length cap) m u (2 * i)) (hm : Moved [] W w1) (hx : s.devs[i]? = some x) (h0 : w1.cell? ⟨g, i * 6 + 4, none⟩ = some z) (h1 : w1.frozen? ⟨g, i * 6 + 4, none⟩ = false)
    (hr : w1.ownsRow W.heap.size 56 2 v x.regs.length (rv x.regs)) (hf : ∀ g', v.ownBlock = some g' → g' ∉ b2 :: b3 :: hot4 v1 v2 v3 (.slice (some ⟨g, 0, none⟩) s.devs.length cap)) :
    DevsAt (w1.setCell ⟨g, i * 6 + 4, none⟩ v) b2 b3 s v1 v2 v3 (.slice (some ⟨g, 0, none⟩) s.devs.length cap) m (fun k => if k = 2 * i + 1 then w1.heap.size else u k) (2 * i + 1) := by
  have hg : g ∈ b2 :: b3 :: hot4 v1 v2 v3 (.slice (some ⟨g, 0, none⟩) s.devs.length cap) := by simp [hot4, Value.ownBlock]
  refine ⟨fun k hk y g' hy hg' => ?_, fun k hk y g' hy hg' => ?_, DevsAt.more h.up (Nat.le_trans h.last hm.size), by simp, by simp only [if_neg (show ¬ 0 = 2 * i + 1 by omega)]; exact h.zero⟩
  · obtain rfl : g = g' := by simpa [Value.ownBlock] using hg'
    by_cases hki : k = i
    · subst hki
      rw [hx] at hy
      obtain rfl : x = y := Option.some.inj hy
      rw [if_neg (by omega), if_pos rfl]
      exact CellAt.new h0 h1 hr h.last (Nat.le_refl _) hf hg
    · rw [if_neg (by omega), if_neg (by omega)]
      exact ((h.regs k (by omega) y g hy rfl).calm hm).set hg (fun e => by injection e with _ e; omega) _
  · obtain rfl : g = g' := by simpa [Value.ownBlock] using hg'
    rw [if_neg (by omega), if_neg (by omega)]
    exact ((h.needs k (by omega) y g hy rfl).calm hm).set hg (fun e => by injection e with _ e; omega) _
theorem DevsAt.next5 (h : DevsAt W b2 b3 s v1 v2 v3 (.slice (some ⟨g, 0, none⟩) s.devs.length cap) m u (2 * i + 1)) (hm : Moved [] W w1) (hx : s.devs[i]? = some x) (h0 : w1.cell? ⟨g, i * 6 + 5, none⟩ = some z) (h1 : w1.frozen? ⟨g, i * 6 + 5, none⟩ = false)
    (hr : w1.ownsRow W.heap.size 3 1 v x.needs.length (iv x.needs)) (hf : ∀ g', v.ownBlock = some g' → g' ∉ b2 :: b3 :: hot4 v1 v2 v3 (.slice (some ⟨g, 0, none⟩) s.devs.length cap)) :
    DevsAt (w1.setCell ⟨g, i * 6 + 5, none⟩ v) b2 b3 s v1 v2 v3 (.slice (some ⟨g, 0, none⟩) s.devs.length cap) m (fun k => if k = 2 * i + 1 + 1 then w1.heap.size else u k) (2 * (i + 1)) := by
  have hg : g ∈ b2 :: b3 :: hot4 v1 v2 v3 (.slice (some ⟨g, 0, none⟩) s.devs.length cap) := by simp [hot4, Value.ownBlock]
  refine ⟨fun k hk y g' hy hg' => ?_, fun k hk y g' hy hg' => ?_, DevsAt.more h.up (Nat.le_trans h.last hm.size), by simp [show 2 * (i + 1) = 2 * i + 1 + 1 by omega], by simp only [if_neg (show ¬ 0 = 2 * i + 1 + 1 by omega)]; exact h.zero⟩
  · obtain rfl : g = g' := by simpa [Value.ownBlock] using hg'
    rw [if_neg (by omega), if_neg (by omega)]
    exact ((h.regs k (by omega) y g hy rfl).calm hm).set hg (fun e => by injection e with _ e; omega) _
  · obtain rfl : g = g' := by simpa [Value.ownBlock] using hg'
    by_cases hki : k = i
    · subst hki
      rw [hx] at hy
      obtain rfl : x = y := Option.some.inj hy
      rw [if_neg (by omega), if_pos rfl]
      exact CellAt.new h0 h1 hr h.last (Nat.le_refl _) hf hg
    · rw [if_neg (by omega), if_neg (by omega)]
      exact ((h.needs k (by omega) y g hy rfl).calm hm).set hg (fun e => by injection e with _ e; omega) _
end

set_option maxRecDepth 1000000 in
set_option maxHeartbeats 4000000 in
theorem copyG_round (w W : World) (b2 b3 : Nat) (s : Chip) (v1 v2 v3 v4 : Value) (t : Nat → Nat) (m : Nat) (i : Nat) (hok : ChipOk s) (hs : StC w W b2 b3 s v1 v2 v3 v4) (hnd : FromsAt w W b2 b3 s v1 v2 v3 v4 t s.clks.length ∧ ∃ u, DevsAt W b2 b3 s v1 v2 v3 v4 m u (2 * i)) (hi : i ≤ s.devs.length)
    (a : Act) (ha : FrN 68 a) (h2 : slT a 2 = .pointer (some ⟨b2, 0, none⟩)) (h3 : slT a 3 = .pointer (some ⟨b3, 0, none⟩)) (h42 : slT a 42 = .int .i64 (s.devs.length : Nat)) (h43 : slT a 43 = .int .i64 (i : Nat)) (R : Act → World → Prop) (Q : Exit → Act → World → Prop)
    (hR : ∀ a' W', i < s.devs.length → FrN 68 a' → slT a' 2 = .pointer (some ⟨b2, 0, none⟩) → slT a' 3 = .pointer (some ⟨b3, 0, none⟩) → slT a' 42 = .int .i64 (s.devs.length : Nat) → slT a' 43 = .int .i64 ((i + 1 : Nat) : Int) → StC w W' b2 b3 s v1 v2 v3 v4 → (FromsAt w W' b2 b3 s v1 v2 v3 v4 t s.clks.length ∧ ∃ u, DevsAt W' b2 b3 s v1 v2 v3 v4 m u (2 * (i + 1))) → R a' W')
    (hQ : ∀ a', FrN 68 a' → slT a' 2 = .pointer (some ⟨b2, 0, none⟩) → slT a' 3 = .pointer (some ⟨b3, 0, none⟩) → i = s.devs.length → Q (.exit 2) a' W) :
    Code.wp Try.prog (lpC loop23b) (Exit.then R Q) a W := by
  have HQ := Lib.hid hQ
  have HR := Lib.hid hR
  obtain ⟨hfr, u, hdv⟩ := hnd
  have HFR := Lib.hid hfr
  have HDV := Lib.hid hdv
  clear hQ hR hfr hdv
  obtain ⟨F, rfl⟩ := ha.open_
  rw [slT_listT (by omega)] at h2 h3 h42 h43
  rw [lit68, h2, h3, h42, h43]
  clear ha h2 h3 h42 h43
  conv => arg 2; whnf
  have hn1 := hok.n4
  by_cases hlt : i < s.devs.length
  · obtain ⟨g, cap, rfl, -, hgl⟩ := Own5.form hs.own.devs (by omega)
    have hr := List.getElem?_eq_getElem (l := s.devs) (i := i) hlt
    generalize s.devs[i] = x at hr
    have hxr := (hok.devs x (List.mem_of_getElem? hr)).1
    have hxl := (hok.devs x (List.mem_of_getElem? hr)).2.1
    obtain ⟨vs, hvl, ⟨Ax, cx, Ay, cy, rfl, hcx, hcy, hix, hiy⟩, hcells⟩ := hs.own.devs.cell rfl hr
    obtain ⟨e0, e1⟩ := hcells 4 _ rfl
    obtain ⟨x0, y0⟩ := hs.bx 3 _ rfl
    have hss : ∀ x' : Dev, x' = x → ({ s with devs := s.devs.set i x' } : Chip) = s := fun x' hx' => by
      have hxi := (List.getElem?_eq_some_iff.1 hr).2
      rw [hx', ← hxi, List.set_getElem_self]
    have HIX := Lib.hid hix.strs
    have HS := Lib.hid hs
    have HRR := Lib.hid hr
    have HSS := Lib.hid hss
    have i0 : (0 : Int) ≤ (i : Int) := by omega
    have i1 : (i : Int) < (s.devs.length : Int) := by omega
    clear hcells hvl hix hiy hs hr hss
    go_wp2_with fail
    refine (clone66_any Ax cx x.regs W W (by omega) (Below.refl _ _) HIX.out).mono ?_
    rintro e w1 ⟨v, rfl, hcl, hb1⟩
    obtain ⟨vss9, h9l, h9c, hown⟩ := id hcl
    obtain ⟨A9, c9, rfl⟩ := own_shape' hown
    have hm1 : Moved [] W w1 := Moved.of_below hb1
    have hs1 := HS.out.calm hm1
    obtain ⟨vs', -, ⟨Ax', cx', Ay', cy', rfl, -, -, -, -⟩, hcells'⟩ := hs1.own.devs.cell rfl HRR.out
    obtain ⟨f0, f1⟩ := hcells' 4 _ rfl
    have hcap := own_cap hown
    have hregs : ∀ hot : List Nat, (∀ g, (Value.slice A9 x.regs.length c9).ownBlock = some g → g ∉ hot) → RegsC hot w1 A9 x.regs := by
      obtain ⟨A8, c8, e8, -, h8⟩ := rowc_regs (hot0 := []) (B := W.heap.size) (rs := x.regs) (v := .slice A9 x.regs.length c9) ⟨vss9, h9l, fun k y us hy hu => ⟨(h9c k y us hy hu).1, (h9c k y us hy hu).2⟩, hown⟩
      injection e8 with e8 _ _
      subst e8
      exact h8
    have hset := hs1.own.setDev (j := 4) (u := .slice A9 x.regs.length c9) (x' := x) rfl HRR.out (by omega) (fun vs hv _ => by
      obtain ⟨A, c, A', c', rfl, q1, q2, q3, q4⟩ := hv
      exact ⟨A9, c9, A', c', rfl, hcap, q2, hregs _ (fun g hg hm => by
        have := (hown.lt g hg).1
        have := (HS.out.own.fresh HS.out.h2 HS.out.l2 g hm).2
        omega), q4⟩)
    rw [HSS.out x rfl] at hset
    have ht := hs1.set (p := ⟨g, i * 6 + 4, none⟩) (.slice A9 x.regs.length c9) hset (by simp [hot4, Value.ownBlock])
    have hfarR : ∀ g', (Value.slice A9 x.regs.length c9).ownBlock = some g' → g' ∉ b2 :: b3 :: hot4 v1 v2 v3 (.slice (some ⟨g, 0, none⟩) s.devs.length cap) := fun g' hg hm => by
      have h1 := (hown.lt g' hg).1
      rcases List.mem_cons.1 hm with e | hm
      · have := HS.out.l2; omega
      · rcases List.mem_cons.1 hm with e | hm
        · have := HS.out.bx.lt; omega
        · have := (HS.out.own.fresh HS.out.h2 HS.out.l2 g' (List.mem_cons_of_mem _ hm)).2; omega
    have hdv1 := HDV.out.next4 hm1 HRR.out f0 f1 (by rw [← vss_rv h9l fun k y us hy hu => (h9c k y us hy hu).2]; exact hown) hfarR
    have hfr1 := (HFR.out.calm hm1).set (p := ⟨g, i * 6 + 4, none⟩) (by simp [hot4, Value.ownBlock]) (fun e => HS.out.own.n14 g e rfl) (.slice A9 x.regs.length c9)
    obtain ⟨W2, hW2⟩ : ∃ W2, W2 = w1.setCell ⟨g, i * 6 + 4, none⟩ (.slice A9 x.regs.length c9) := ⟨_, rfl⟩
    rw [← hW2] at ht hdv1 hfr1
    have HDV1 := Lib.hid hdv1
    have HFR1 := Lib.hid hfr1
    clear hdv1 hfr1 hfarR
    obtain ⟨vs2, -, ⟨Bx, dx, By, dy, rfl, -, hdy, -, hiy⟩, hcells2⟩ := ht.own.devs.cell rfl HRR.out
    obtain ⟨p0, p1⟩ := hcells2 5 _ rfl
    have HIY := Lib.hid hiy.ints
    have HT := Lib.hid ht
    have HW2 := Lib.hid hW2
    clear hown hb1 hm1 hs1 hcells' hset ht hcap HIX HS hcl h9l h9c hregs hcells2 hiy hW2 hdy
    go_upto_region 13 with fail
    rw [← HW2.out]
    clear HW2 f0 f1 e0 e1
    go_wp2_with fail
    refine (cloneInts2_any By dy x.needs W2 (by omega) HIY.out).mono ?_
    rintro e w3 ⟨v, rfl, hown, hb1, hem⟩
    obtain ⟨A7, c7, rfl⟩ := own_shape' hown
    have hm1 : Moved [] W2 w3 := Moved.of_below hb1
    have hs1 := HT.out.calm hm1
    obtain ⟨vs', -, ⟨Ax', cx', Ay', cy', rfl, -, -, -, -⟩, hcells'⟩ := hs1.own.devs.cell rfl HRR.out
    obtain ⟨f0, f1⟩ := hcells' 5 _ rfl
    have hcap := own_cap hown
    have hset := hs1.own.setDev (j := 5) (u := .slice A7 x.needs.length c7) (x' := x) rfl HRR.out (by omega) (fun vs hv _ => by
      obtain ⟨A, c, A', c', rfl, q1, q2, q3, q4⟩ := hv
      exact ⟨A, c, A7, c7, rfl, q1, hcap, q3, ints_own hown _ (fun g hg hm => by
        have := (hown.lt g hg).1
        have := (HT.out.own.fresh HT.out.h2 HT.out.l2 g hm).2
        omega)⟩)
    rw [HSS.out x rfl] at hset
    have ht := hs1.set (p := ⟨g, i * 6 + 5, none⟩) (.slice A7 x.needs.length c7) hset (by simp [hot4, Value.ownBlock])
    have HT3 := Lib.hid ht
    have hfarN : ∀ g', (Value.slice A7 x.needs.length c7).ownBlock = some g' → g' ∉ b2 :: b3 :: hot4 v1 v2 v3 (.slice (some ⟨g, 0, none⟩) s.devs.length cap) := fun g' hg hm => by
      have h1 := (hown.lt g' hg).1
      rcases List.mem_cons.1 hm with e | hm
      · have := HT.out.l2; omega
      · rcases List.mem_cons.1 hm with e | hm
        · have := HT.out.bx.lt; omega
        · have := (HT.out.own.fresh HT.out.h2 HT.out.l2 g' (List.mem_cons_of_mem _ hm)).2; omega
    have hdv2 := HDV1.out.next5 hm1 HRR.out f0 f1 hown hfarN
    have hfr2 := (HFR1.out.calm hm1).set (p := ⟨g, i * 6 + 5, none⟩) (by simp [hot4, Value.ownBlock]) (fun e => HT.out.own.n14 g e rfl) (.slice A7 x.needs.length c7)
    have HDV2 := Lib.hid hdv2
    have HFR2 := Lib.hid hfr2
    clear hdv2 hfr2 hfarN
    clear hown hb1 hm1 hs1 hcells' hset ht hcap HIY HT hem
    go_wp2
    exact HR.out _ _ hlt ⟨rfl, rfl⟩ rfl rfl rfl (by go_num) HT3.out ⟨HFR2.out, _, HDV2.out⟩
  · obtain rfl : i = s.devs.length := by omega
    go_wp2
    exact HQ.out _ ⟨rfl, rfl⟩ rfl rfl (by trivial)
def IG (w : World) (b2 b3 : Nat) (s : Chip) (v1 v2 v3 v4 : Value) (t : Nat → Nat) (m : Nat) (a : Act) (W : World) : Prop :=
  ∃ i : Nat, i ≤ s.devs.length ∧ FrN 68 a ∧ slT a 2 = .pointer (some ⟨b2, 0, none⟩) ∧ slT a 3 = .pointer (some ⟨b3, 0, none⟩) ∧ slT a 42 = .int .i64 (s.devs.length : Nat) ∧ slT a 43 = .int .i64 (i : Nat) ∧ StC w W b2 b3 s v1 v2 v3 v4 ∧ FromsAt w W b2 b3 s v1 v2 v3 v4 t s.clks.length ∧ ∃ u, DevsAt W b2 b3 s v1 v2 v3 v4 m u (2 * i)
def MG (s : Chip) (a : Act) (_ : World) : Nat := s.devs.length - (intOf (slT a 43)).toNat
theorem copyG_any (w W : World) (b2 b3 : Nat) (s : Chip) (v1 v2 v3 v4 : Value) (t : Nat → Nat) (m : Nat) (hok : ChipOk s) (hs : StC w W b2 b3 s v1 v2 v3 v4) (hfr0 : FromsAt w W b2 b3 s v1 v2 v3 v4 t s.clks.length) (hmz : m ≤ W.heap.size)
    (a : Act) (ha : FrN 68 a) (h2 : slT a 2 = .pointer (some ⟨b2, 0, none⟩)) (h3 : slT a 3 = .pointer (some ⟨b3, 0, none⟩)) (h42 : slT a 42 = .int .i64 (s.devs.length : Nat)) (h43 : slT a 43 = .int .i64 0) (Q : Exit → Act → World → Prop)
    (hQ : ∀ a' W', FrN 68 a' → slT a' 2 = .pointer (some ⟨b2, 0, none⟩) → slT a' 3 = .pointer (some ⟨b3, 0, none⟩) → StC w W' b2 b3 s v1 v2 v3 v4 → (FromsAt w W' b2 b3 s v1 v2 v3 v4 t s.clks.length ∧ ∃ u, DevsAt W' b2 b3 s v1 v2 v3 v4 m u (2 * s.devs.length)) → Q (.exit 2) a' W') : Code.wp Try.prog loop23b Q a W := by
  show Code.wp Try.prog (Code.loop (lpC loop23b)) Q a W
  refine wp_loop (IG w b2 b3 s v1 v2 v3 v4 t m) (MG s) ⟨0, Nat.zero_le _, ha, h2, h3, h42, h43, hs, hfr0, fun _ => W.heap.size, ⟨fun k hk => absurd hk (by omega), fun k hk => absurd hk (by omega), fun k hk => absurd hk (by omega), Nat.le_refl _, hmz⟩⟩ ?_
  rintro a1 W1 ⟨i, hi, hf, q2, q3, q42, q43, hs1, hn1⟩
  refine copyG_round w W1 b2 b3 s v1 v2 v3 v4 t m i hok hs1 hn1 hi a1 hf q2 q3 q42 q43 _ _ ?_ ?_
  · intro a' W' hlt hF e2 e3 e42 e43 hs' hn'
    refine ⟨⟨i + 1, hlt, hF, e2, e3, e42, e43, hs', hn'⟩, ?_⟩
    unfold MG
    rw [e43, q43]
    simp [intOf]
    omega
  · exact fun a' hF e2 e3 hin => hQ _ _ hF e2 e3 hs1 (by rw [← hin]; exact hn1)
end

section
set_option linter.unusedSimpArgs false
set_option linter.unusedVariables false
open Go.RowKit Go.Maps

theorem DevsAt.calm {W W' : World} {b2 b3 : Nat} {s : Chip} {v1 v2 v3 v4 : Value} {m : Nat} {u : Nat → Nat} {c : Nat} (h : DevsAt W b2 b3 s v1 v2 v3 v4 m u c) (hm : Moved [] W W') : DevsAt W' b2 b3 s v1 v2 v3 v4 m u c :=
  ⟨fun k hk x g hx hg => (h.regs k hk x g hx hg).calm hm, fun k hk x g hx hg => (h.needs k hk x g hx hg).calm hm, h.up, Nat.le_trans h.last hm.size, h.zero⟩
theorem DevsAt.set {W : World} {b2 b3 : Nat} {s : Chip} {v1 v2 v3 v4 : Value} {m : Nat} {u : Nat → Nat} {c : Nat} (h : DevsAt W b2 b3 s v1 v2 v3 v4 m u c) {p : Addr} (hp : p.block ∈ b2 :: b3 :: hot4 v1 v2 v3 v4) (hne : v4.ownBlock ≠ some p.block) (z : Value) : DevsAt (W.setCell p z) b2 b3 s v1 v2 v3 v4 m u c :=
  ⟨fun k hk x g hx hg => (h.regs k hk x g hx hg).set hp (fun e => hne (by rw [hg, e])) z, fun k hk x g hx hg => (h.needs k hk x g hx hg).set hp (fun e => hne (by rw [hg, e])) z, h.up, by rw [size_setCell]; exact h.last, h.zero⟩
def OwnPost (w : World) (s : Chip) (e : Ending) (w' : World) : Prop :=
  ∃ v1 v2 v3 v4, e = .returned (.agg #[v1, v2, v3, v4]) ∧ Own4 w' w.heap.size s v1 v2 v3 v4 ∧ (∃ b2 b3 t u, FromsAt w w' b2 b3 s v1 v2 v3 v4 t s.clks.length ∧ DevsAt w' b2 b3 s v1 v2 v3 v4 (t s.clks.length) u (2 * s.devs.length)) ∧ Below w.heap.size w w'

set_option maxRecDepth 1000000 in
set_option maxHeartbeats 4000000 in
theorem copy_own (s : Chip) (vs : List Value) (w : World) (hok : ChipOk s) (h : ChipV w w.heap.size s vs) : Calls Try.prog 23 #[.agg vs.toArray] w (OwnPost w s) := by
  obtain ⟨A1, c1, A2, c2, A3, c3, A4, c4, rfl, l1, l2, l3, l4, k1, k2, k3, k4⟩ := h
  have HCV : RowKit.Hid (StrsAt ClkV 6 w w.heap.size A1 s.clks ∧ StrsAt DomV 3 w w.heap.size A2 s.doms ∧ StrsAt RstV 1 w w.heap.size A3 s.rsts ∧ StrsAt DevV 6 w w.heap.size A4 s.devs) := ⟨k1, k2, k3, k4⟩
  have HOK := Lib.hid hok
  have hC : ∀ W, ((w.alloc (.cells #[.slice A1 s.clks.length c1, .slice A2 s.doms.length c2, .slice A3 s.rsts.length c3, .slice A4 s.devs.length c4] 27)).alloc (.cells #[.slice none 0 0, .slice none 0 0, .slice none 0 0, .slice none 0 0] 27)).grownBy W none → BoxAt W w.heap.size [.slice A1 s.clks.length c1, .slice A2 s.doms.length c2, .slice A3 s.rsts.length c3, .slice A4 s.devs.length c4] ∧ Below w.heap.size w W := fun W hW => by
    have hb0 : BoxAt (w.alloc (.cells #[.slice A1 s.clks.length c1, .slice A2 s.doms.length c2, .slice A3 s.rsts.length c3, .slice A4 s.devs.length c4] 27)) w.heap.size [.slice A1 s.clks.length c1, .slice A2 s.doms.length c2, .slice A3 s.rsts.length c3, .slice A4 s.devs.length c4] := BoxAt.new w _ 27
    have hm : Moved [] (w.alloc (.cells #[.slice A1 s.clks.length c1, .slice A2 s.doms.length c2, .slice A3 s.rsts.length c3, .slice A4 s.devs.length c4] 27)) W := (Moved.alloc _ _).trans (Moved.of_grown hW (fun k h => by cases h))
    exact ⟨hb0.move hm (by simp), ((Below.refl w.heap.size w).alloc (Nat.le_refl _) _).trans (hm.below (by simp) (by simp))⟩
  have HC := Lib.hid hC
  clear hok k1 k2 k3 k4 hC
  go_enter Try.func23, Try.ntmps23
  go_wp2
  refine region_then [⟨IsV (.pointer (some ⟨w.heap.size, 0, none⟩)), true, false⟩,
    ⟨IsV (.slice A1 s.clks.length c1), true, false⟩,
    ⟨Cloned ClkV 6 49 w s.clks, false, false⟩,
    ⟨IsV (.pointer (some ⟨w.heap.size, 1, none⟩)), true, false⟩,
    ⟨IsV (.slice A2 s.doms.length c2), true, false⟩,
    ⟨Cloned DomV 3 51 w s.doms, false, false⟩,
    ⟨IsV (.pointer (some ⟨w.heap.size, 2, none⟩)), true, false⟩,
    ⟨IsV (.slice A3 s.rsts.length c3), true, false⟩,
    ⟨Cloned RstV 1 53 w s.rsts, false, false⟩,
    ⟨IsV (.pointer (some ⟨w.heap.size, 3, none⟩)), true, false⟩,
    ⟨IsV (.slice A4 s.devs.length c4), true, false⟩,
    ⟨Cloned DevV 6 44 w s.devs, false, false⟩,
    ⟨Four s w, true, false⟩,
    ⟨IsBlk (w.heap.size + 2) mkPtr [.slice none 0 0, .slice none 0 0, .slice none 0 0, .slice none 0 0] 27, false, false⟩] none 68 (by kernel_rfl) rfl (by kernel_rfl) ⟨fun _ => stbR_V _ _, fun _ => stbR_V _ _, fun _ => stbR_cloned, fun _ => stbR_V _ _, fun _ => stbR_V _ _, fun _ => stbR_cloned, fun _ => stbR_V _ _, fun _ => stbR_V _ _, fun _ => stbR_cloned, fun _ => stbR_V _ _, fun _ => stbR_V _ _, fun _ => stbR_cloned, fun _ => stbR_four, fun _ => stbR_blk (by simp), trivial⟩ ⟨?s0, ?s1, ?s2, ?s3, ?s4, ?s5, ?s6, ?s7, ?s8, ?s9, ?s10, ?s11, ?s12, ?s13, trivial⟩ ?fin
  case s0 =>
    refine ⟨rfl, fun T w1 hT hb ha0 hd => ?_⟩
    have ec := evT_const T
    have ef := evT_func T
    have d1 : evT T (.tmp 1) = .pointer (some ⟨w.heap.size, 0, none⟩) := hT 1 (by kernel_rfl)
    clear hT hd hb ha0
    refine gr_pure (v := .pointer (some ⟨w.heap.size, 0, none⟩)) ?_ rfl
    simp only [execOp]
    go_simp
  case s1 =>
    refine ⟨rfl, fun T w1 hT hb ha0 hd => ?_⟩
    have ec := evT_const T
    have ef := evT_func T
    have d8 : evT T (.tmp 8) = .pointer (some ⟨w.heap.size, 0, none⟩) := (by first | exact hd.1 | exact hd.2.1 | exact hd.2.2.1 | exact hd.2.2.2.1 | exact hd.2.2.2.2.1 | exact hd.2.2.2.2.2.1 | exact hd.2.2.2.2.2.2.1 | exact hd.2.2.2.2.2.2.2.1)
    have f0 := ((HC.out w1 hb).1 0 _ rfl).1
    clear hT hd hb ha0
    refine gr_pure (v := .slice A1 s.clks.length c1) ?_ rfl
    simp only [execOp]
    go_simp
  case s2 =>
    refine ⟨rfl, fun T w1 hT hb ha0 hd => ?_⟩
    have ec := evT_const T
    have ef := evT_func T
    have d9 : evT T (.tmp 9) = .slice A1 s.clks.length c1 := (by first | exact hd.1 | exact hd.2.1 | exact hd.2.2.1 | exact hd.2.2.2.1 | exact hd.2.2.2.2.1 | exact hd.2.2.2.2.2.1 | exact hd.2.2.2.2.2.2.1 | exact hd.2.2.2.2.2.2.2.1)
    refine gr_callB (f := 61) (args := #[.slice A1 s.clks.length c1]) ?_ ?_
    · clear hT hd hb ha0
      simp only [execOp, resolve]
      go_simp
    · refine (clone61_any _ _ s.clks w w1 (by have := HOK.out.n1; omega) (HC.out w1 hb).2 HCV.out.1).mono ?_
      rintro en w2 ⟨v, he, h1, h2⟩
      exact ⟨v, he, h1, h2⟩
  case s3 =>
    refine ⟨rfl, fun T w1 hT hb ha0 hd => ?_⟩
    have ec := evT_const T
    have ef := evT_func T
    have d1 : evT T (.tmp 1) = .pointer (some ⟨w.heap.size, 0, none⟩) := hT 1 (by kernel_rfl)
    clear hT hd hb ha0
    refine gr_pure (v := .pointer (some ⟨w.heap.size, 1, none⟩)) ?_ rfl
    simp only [execOp]
    go_simp
  case s4 =>
    refine ⟨rfl, fun T w1 hT hb ha0 hd => ?_⟩
    have ec := evT_const T
    have ef := evT_func T
    have d11 : evT T (.tmp 11) = .pointer (some ⟨w.heap.size, 1, none⟩) := (by first | exact hd.1 | exact hd.2.1 | exact hd.2.2.1 | exact hd.2.2.2.1 | exact hd.2.2.2.2.1 | exact hd.2.2.2.2.2.1 | exact hd.2.2.2.2.2.2.1 | exact hd.2.2.2.2.2.2.2.1)
    have f0 := ((HC.out w1 hb).1 1 _ rfl).1
    clear hT hd hb ha0
    refine gr_pure (v := .slice A2 s.doms.length c2) ?_ rfl
    simp only [execOp]
    go_simp
  case s5 =>
    refine ⟨rfl, fun T w1 hT hb ha0 hd => ?_⟩
    have ec := evT_const T
    have ef := evT_func T
    have d12 : evT T (.tmp 12) = .slice A2 s.doms.length c2 := (by first | exact hd.1 | exact hd.2.1 | exact hd.2.2.1 | exact hd.2.2.2.1 | exact hd.2.2.2.2.1 | exact hd.2.2.2.2.2.1 | exact hd.2.2.2.2.2.2.1 | exact hd.2.2.2.2.2.2.2.1)
    refine gr_callB (f := 62) (args := #[.slice A2 s.doms.length c2]) ?_ ?_
    · clear hT hd hb ha0
      simp only [execOp, resolve]
      go_simp
    · refine (clone62_any _ _ s.doms w w1 (by have := HOK.out.n2; omega) (HC.out w1 hb).2 HCV.out.2.1).mono ?_
      rintro en w2 ⟨v, he, h1, h2⟩
      exact ⟨v, he, h1, h2⟩
  case s6 =>
    refine ⟨rfl, fun T w1 hT hb ha0 hd => ?_⟩
    have ec := evT_const T
    have ef := evT_func T
    have d1 : evT T (.tmp 1) = .pointer (some ⟨w.heap.size, 0, none⟩) := hT 1 (by kernel_rfl)
    clear hT hd hb ha0
    refine gr_pure (v := .pointer (some ⟨w.heap.size, 2, none⟩)) ?_ rfl
    simp only [execOp]
    go_simp
  case s7 =>
    refine ⟨rfl, fun T w1 hT hb ha0 hd => ?_⟩
    have ec := evT_const T
    have ef := evT_func T
    have d14 : evT T (.tmp 14) = .pointer (some ⟨w.heap.size, 2, none⟩) := (by first | exact hd.1 | exact hd.2.1 | exact hd.2.2.1 | exact hd.2.2.2.1 | exact hd.2.2.2.2.1 | exact hd.2.2.2.2.2.1 | exact hd.2.2.2.2.2.2.1 | exact hd.2.2.2.2.2.2.2.1)
    have f0 := ((HC.out w1 hb).1 2 _ rfl).1
    clear hT hd hb ha0
    refine gr_pure (v := .slice A3 s.rsts.length c3) ?_ rfl
    simp only [execOp]
    go_simp
  case s8 =>
    refine ⟨rfl, fun T w1 hT hb ha0 hd => ?_⟩
    have ec := evT_const T
    have ef := evT_func T
    have d15 : evT T (.tmp 15) = .slice A3 s.rsts.length c3 := (by first | exact hd.1 | exact hd.2.1 | exact hd.2.2.1 | exact hd.2.2.2.1 | exact hd.2.2.2.2.1 | exact hd.2.2.2.2.2.1 | exact hd.2.2.2.2.2.2.1 | exact hd.2.2.2.2.2.2.2.1)
    refine gr_callB (f := 63) (args := #[.slice A3 s.rsts.length c3]) ?_ ?_
    · clear hT hd hb ha0
      simp only [execOp, resolve]
      go_simp
    · refine (clone63_any _ _ s.rsts w w1 (by have := HOK.out.n3; omega) (HC.out w1 hb).2 HCV.out.2.2.1).mono ?_
      rintro en w2 ⟨v, he, h1, h2⟩
      exact ⟨v, he, h1, h2⟩
  case s9 =>
    refine ⟨rfl, fun T w1 hT hb ha0 hd => ?_⟩
    have ec := evT_const T
    have ef := evT_func T
    have d1 : evT T (.tmp 1) = .pointer (some ⟨w.heap.size, 0, none⟩) := hT 1 (by kernel_rfl)
    clear hT hd hb ha0
    refine gr_pure (v := .pointer (some ⟨w.heap.size, 3, none⟩)) ?_ rfl
    simp only [execOp]
    go_simp
  case s10 =>
    refine ⟨rfl, fun T w1 hT hb ha0 hd => ?_⟩
    have ec := evT_const T
    have ef := evT_func T
    have d17 : evT T (.tmp 17) = .pointer (some ⟨w.heap.size, 3, none⟩) := (by first | exact hd.1 | exact hd.2.1 | exact hd.2.2.1 | exact hd.2.2.2.1 | exact hd.2.2.2.2.1 | exact hd.2.2.2.2.2.1 | exact hd.2.2.2.2.2.2.1 | exact hd.2.2.2.2.2.2.2.1)
    have f0 := ((HC.out w1 hb).1 3 _ rfl).1
    clear hT hd hb ha0
    refine gr_pure (v := .slice A4 s.devs.length c4) ?_ rfl
    simp only [execOp]
    go_simp
  case s11 =>
    refine ⟨rfl, fun T w1 hT hb ha0 hd => ?_⟩
    have ec := evT_const T
    have ef := evT_func T
    have d18 : evT T (.tmp 18) = .slice A4 s.devs.length c4 := (by first | exact hd.1 | exact hd.2.1 | exact hd.2.2.1 | exact hd.2.2.2.1 | exact hd.2.2.2.2.1 | exact hd.2.2.2.2.2.1 | exact hd.2.2.2.2.2.2.1 | exact hd.2.2.2.2.2.2.2.1)
    refine gr_callB (f := 64) (args := #[.slice A4 s.devs.length c4]) ?_ ?_
    · clear hT hd hb ha0
      simp only [execOp, resolve]
      go_simp
    · refine (clone64_any _ _ s.devs w w1 (by have := HOK.out.n4; omega) (HC.out w1 hb).2 HCV.out.2.2.2).mono ?_
      rintro en w2 ⟨v, he, h1, h2⟩
      exact ⟨v, he, h1, h2⟩
  case s12 =>
    refine ⟨rfl, fun T w1 hT hb ha0 hd => ?_⟩
    have ec := evT_const T
    have ef := evT_func T
    have h1 : Cloned ClkV 6 49 w s.clks (evT T (.tmp 10)) w1 := (by first | exact hd.1 | exact hd.2.1 | exact hd.2.2.1 | exact hd.2.2.2.1 | exact hd.2.2.2.2.1 | exact hd.2.2.2.2.2.1 | exact hd.2.2.2.2.2.2.1 | exact hd.2.2.2.2.2.2.2.1)
    have h2 : Cloned DomV 3 51 w s.doms (evT T (.tmp 13)) w1 := (by first | exact hd.1 | exact hd.2.1 | exact hd.2.2.1 | exact hd.2.2.2.1 | exact hd.2.2.2.2.1 | exact hd.2.2.2.2.2.1 | exact hd.2.2.2.2.2.2.1 | exact hd.2.2.2.2.2.2.2.1)
    have h3 : Cloned RstV 1 53 w s.rsts (evT T (.tmp 16)) w1 := (by first | exact hd.1 | exact hd.2.1 | exact hd.2.2.1 | exact hd.2.2.2.1 | exact hd.2.2.2.2.1 | exact hd.2.2.2.2.2.1 | exact hd.2.2.2.2.2.2.1 | exact hd.2.2.2.2.2.2.2.1)
    have h4 : Cloned DevV 6 44 w s.devs (evT T (.tmp 19)) w1 := (by first | exact hd.1 | exact hd.2.1 | exact hd.2.2.1 | exact hd.2.2.2.1 | exact hd.2.2.2.2.1 | exact hd.2.2.2.2.2.1 | exact hd.2.2.2.2.2.2.1 | exact hd.2.2.2.2.2.2.2.1)
    obtain ⟨u1, d10⟩ : ∃ u, evT T (.tmp 10) = u := ⟨_, rfl⟩
    obtain ⟨u2, d13⟩ : ∃ u, evT T (.tmp 13) = u := ⟨_, rfl⟩
    obtain ⟨u3, d16⟩ : ∃ u, evT T (.tmp 16) = u := ⟨_, rfl⟩
    obtain ⟨u4, d19⟩ : ∃ u, evT T (.tmp 19) = u := ⟨_, rfl⟩
    rw [d10] at h1
    rw [d13] at h2
    rw [d16] at h3
    rw [d19] at h4
    refine gr_pure (v := .agg #[u1, u2, u3, u4]) ?_ ⟨u1, u2, u3, u4, rfl, h1, h2, h3, h4⟩
    obtain ⟨_, _, _, ho1⟩ := h1
    obtain ⟨_, _, _, ho2⟩ := h2
    obtain ⟨_, _, _, ho3⟩ := h3
    obtain ⟨_, _, _, ho4⟩ := h4
    obtain ⟨B1, e1, rfl⟩ := own_shape' ho1
    obtain ⟨B2, e2, rfl⟩ := own_shape' ho2
    obtain ⟨B3, e3, rfl⟩ := own_shape' ho3
    obtain ⟨B4, e4, rfl⟩ := own_shape' ho4
    clear hT hd hb ha0 ho1 ho2 ho3 ho4
    simp only [execOp]
    go_simp
  case s13 =>
    refine ⟨rfl, fun T w1 hT hb ha0 hd => ?_⟩
    have ec := evT_const T
    have ef := evT_func T
    have hz := hb.size
    simp only [World.size_alloc] at hz
    refine gr_made (v := mkPtr w1.heap.size) (w' := w1.alloc (.cells [.slice none 0 0, .slice none 0 0, .slice none 0 0, .slice none 0 0].toArray 27)) ?_ (World.grownBy_alloc _ _ _) (show IsBlk (w.heap.size + 2) mkPtr [.slice none 0 0, .slice none 0 0, .slice none 0 0, .slice none 0 0] 27 (mkPtr w1.heap.size) _ from isBlk_new (by omega))
    clear hT hd hb ha0
    simp only [execOp, mkPtr]
    go_simp
  case fin =>
    intro T w1 o ho hT hb hd
    obtain rfl : _ = o := Option.some.inj ho
    clear ho
    have ec := evT_const T
    simp only [putL, Act.put, Option.getD_some, List.setIfInBounds_toArray, List.set_cons_zero, List.set_cons_succ]
    obtain ⟨b3, d3, hb3, hbh3⟩ : IsBlk (w.heap.size + 2) mkPtr [.slice none 0 0, .slice none 0 0, .slice none 0 0, .slice none 0 0] 27 (evT T (.tmp 3)) w1 := hd.2.2.2.2.2.2.2.2.2.2.2.2.2.1
    obtain ⟨u1, u2, u3, u4, d20, h1, h2, h3, h4⟩ : Four s w (evT T (.tmp 20)) w1 := hd.2.2.2.2.2.2.2.2.2.2.2.2.1
    obtain ⟨B1, e1, rfl⟩ : ∃ A c, u1 = .slice A s.clks.length c := by obtain ⟨_, _, _, ho⟩ := h1; exact own_shape' ho
    obtain ⟨B2, e2, rfl⟩ : ∃ A c, u2 = .slice A s.doms.length c := by obtain ⟨_, _, _, ho⟩ := h2; exact own_shape' ho
    obtain ⟨B3, e3, rfl⟩ : ∃ A c, u3 = .slice A s.rsts.length c := by obtain ⟨_, _, _, ho⟩ := h3; exact own_shape' ho
    obtain ⟨B4, e4, rfl⟩ : ∃ A c, u4 = .slice A s.devs.length c := by obtain ⟨_, _, _, ho⟩ := h4; exact own_shape' ho
    obtain ⟨w3, hrun, hbox, hmv⟩ := store27 d3 d20 (BoxAt.of_blk hbh3)
    refine ⟨undef, w3, .inr (hrun _ _ _), ?_⟩
    have e3' : T 3 = .pointer (some ⟨b3, 0, none⟩) := d3
    rw [e3']
    have hst := copy_start hb hbh3 hb3 h1 h2 h3 h4 hmv hbox
    have HST := Lib.hid hst
    have HBX := Lib.hid hst.bx
    clear hT hd hb d3 d20 hbh3 h1 h2 h3 h4 hbox hmv hrun e3' hst ec HC
    obtain ⟨x0, y0⟩ := HBX.out 0 _ rfl
    obtain ⟨x3, y3⟩ := HBX.out 3 _ rfl
    go_wp2
    refine copyF_any w w3 (w.heap.size + 1) b3 s _ _ _ _ HOK.out HST.out HST.out.bl.size _ ⟨rfl, rfl⟩ rfl rfl rfl rfl _ ?_
    clear HST HBX x0 y0 x3 y3
    intro a1 w4 hF1 q2 q3 hs4 hfr4
    obtain ⟨t, hfr4⟩ := hfr4
    have HFR4 := Lib.hid hfr4
    clear hfr4
    have HS4 := Lib.hid hs4
    have HBX := Lib.hid hs4.bx
    clear hs4
    obtain ⟨x3, y3⟩ := HBX.out 3 _ rfl
    simp only [Exit.then, Exit.inBlock, ↓reduceIte]
    obtain ⟨F1, rfl⟩ := hF1.open_
    rw [slT_listT (by omega)] at q2 q3
    rw [lit68, q2, q3]
    clear hF1 q2 q3
    go_wp2
    refine copyG_any w w4 (w.heap.size + 1) b3 s _ _ _ _ t (t s.clks.length) HOK.out HS4.out HFR4.out HFR4.out.last _ ⟨rfl, rfl⟩ rfl rfl rfl rfl _ ?_
    clear HS4 HBX x3 y3
    intro a2 w5 hF2 q2 q3 hs5 hnd5
    obtain ⟨hfr5, u, hdv5⟩ := hnd5
    have HFR5 := Lib.hid hfr5
    have HDV5 := Lib.hid hdv5
    clear hfr5 hdv5
    have HS5 := Lib.hid hs5
    obtain ⟨x0, y0⟩ := hs5.bx 0 _ rfl
    obtain ⟨x1, y1⟩ := hs5.bx 1 _ rfl
    obtain ⟨x2, y2⟩ := hs5.bx 2 _ rfl
    obtain ⟨x3, y3⟩ := hs5.bx 3 _ rfl
    obtain ⟨z0, t0⟩ := hs5.br 0 _ rfl
    obtain ⟨z1, t1⟩ := hs5.br 1 _ rfl
    obtain ⟨z2, t2⟩ := hs5.br 2 _ rfl
    obtain ⟨z3, t3⟩ := hs5.br 3 _ rfl
    clear hs5
    simp only [Exit.then, Exit.inBlock, ↓reduceIte]
    obtain ⟨F2, rfl⟩ := hF2.open_
    rw [slT_listT (by omega)] at q2 q3
    rw [lit68, q2, q3]
    clear hF2 q2 q3
    go_wp2
    have hm : ∀ (W : World) (j : Nat) (u : Value), Moved [w.heap.size + 1] W (W.setCell ⟨w.heap.size + 1, j, none⟩ u) := fun W j u => Moved.setCell W (by simp) u
    have hend := HS5.out.done ((((hm w5 0 (.slice B1 s.clks.length e1)).trans (hm _ 1 (.slice B2 s.doms.length e2))).trans (hm _ 2 (.slice B3 s.rsts.length e3))).trans (hm _ 3 (.slice B4 s.devs.length e4)))
    exact bodyPost_ret (v := .agg #[.slice B1 s.clks.length e1, .slice B2 s.doms.length e2, .slice B3 s.rsts.length e3, .slice B4 s.devs.length e4]) (by simp [results, Try.results23, go_sem, z0, z1, z2, z3, t0, t1, t2, t3]) rfl ⟨_, _, _, _, rfl, hend.1, ⟨w.heap.size + 1, b3, t, u, ((((HFR5.out.set (p := ⟨w.heap.size + 1, 0, none⟩) (by simp) (HS5.out.own.z1) _).set (p := ⟨w.heap.size + 1, 1, none⟩) (by simp) (HS5.out.own.z1) _).set (p := ⟨w.heap.size + 1, 2, none⟩) (by simp) (HS5.out.own.z1) _).set (p := ⟨w.heap.size + 1, 3, none⟩) (by simp) (HS5.out.own.z1) _),
      ((((HDV5.out.set (p := ⟨w.heap.size + 1, 0, none⟩) (by simp) (HS5.out.own.z4) _).set (p := ⟨w.heap.size + 1, 1, none⟩) (by simp) (HS5.out.own.z4) _).set (p := ⟨w.heap.size + 1, 2, none⟩) (by simp) (HS5.out.own.z4) _).set (p := ⟨w.heap.size + 1, 3, none⟩) (by simp) (HS5.out.own.z4) _)⟩, hend.2⟩
end

end Go.Proofs.Ytkhfcbcanbplgaa
