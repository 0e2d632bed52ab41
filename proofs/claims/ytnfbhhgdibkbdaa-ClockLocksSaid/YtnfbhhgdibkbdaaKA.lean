/- A clock of the tree, and how it stands; unlock. -/
import Derived.Test.YtnfbhhgdibkbdaaW21
import Derived.Test.YtnfbhhgdibkbdaaW13
import Derived.RegionTactic
import Derived.Deep.AppendLies
import Derived.StillTailTactics
import Derived.Test.YtnfbhhgdibkbdaaN1
namespace Go.Proofs.Ytnfbhhgdibkbdaa
section
set_option linter.unusedSimpArgs false
set_option linter.unusedVariables false
open Go.RowKit Go.Maps

/-- a clock, and how it stands -/
structure Sta where
  clk : Clk
  on : Bool
  left : Int
  set : Int
  want : Int
def staL (x : Sta) (A : Option Addr) (c : Nat) : List Value :=
  [.int .u8 x.clk.kind, .slice A x.clk.frm.length c, .int .u64 x.clk.rate, .int .i64 x.clk.mul, .int .i64 x.clk.div, .int .i64 x.clk.lock, .bool x.on, .int .i64 x.left, .int .i64 x.set, .int .i64 x.want]
def StaC : ReadsC Sta := fun hot w x vs => ∃ A c, vs = staL x A c ∧ x.clk.frm.length ≤ c ∧ IntsC hot w A x.clk.frm
def StaV : Reads Sta := fun w B x vs => ∃ A c, vs = staL x A c ∧ x.clk.frm.length ≤ c ∧ IntsAt w B A x.clk.frm
instance : Steady StaV := ⟨fun ⟨A, c, e, hc, h⟩ hk => ⟨A, c, e, hc, h.keep hk⟩, fun ⟨A, c, e, hc, h⟩ hC => ⟨A, c, e, hc, h.more hC⟩⟩
instance : SteadyC StaC StaV := ⟨fun ⟨A, c, e, h1, h2⟩ hm => ⟨A, c, e, h1, h2.move hm⟩, fun ⟨A, c, e, h1, h2⟩ hs => ⟨A, c, e, h1, h2.less hs⟩, fun ⟨A, c, e, h1, h2⟩ hb => ⟨A, c, e, h1, h2.more hb⟩, fun ⟨A, c, e, h1, h2⟩ => ⟨A, c, e, h1, h2.ints⟩⟩
def lockL (c : Clk) : Int := if c.kind = 112 then c.lock else 0
/-- as it is at first -/
def freshS (c : Clk) : Sta := ⟨c, false, lockL c, 0, 0⟩

/-- unlock gives a PLL its ticks again -/
theorem unlock_any (g o : Nat) (kd lk l : Int) (w : World) (h0 : w.cell? ⟨g, o, none⟩ = some (.int .u8 kd)) (h5 : w.cell? ⟨g, o + 5, none⟩ = some (.int .i64 lk)) (h7 : w.cell? ⟨g, o + 7, none⟩ = some (.int .i64 l)) (f7 : w.frozen? ⟨g, o + 7, none⟩ = false) :
    Calls Try.prog 26 #[.pointer (some ⟨g, o, none⟩)] w fun e w' => (∃ v, e = .returned v) ∧ w' = if kd = 112 then w.setCell ⟨g, o + 7, none⟩ (.int .i64 lk) else w := by
  by_cases hk : kd = 112
  · subst hk
    rw [if_pos rfl]
    go_enter Try.func26, Try.ntmps26
    go_wp2
    go_end0
    exact ⟨⟨_, rfl⟩, rfl⟩
  · rw [if_neg hk]
    have hk' : (kd == 112) = false := by simpa using hk
    clear hk
    go_enter Try.func26, Try.ntmps26
    go_wp2
    go_end0
    exact ⟨⟨_, rfl⟩, rfl⟩
end

section
section
set_option linter.unusedSimpArgs false
set_option linter.unusedVariables false
open Go.RowKit Go.Maps

/-- the cell leads to a row that the call owns, made behind block lo and ahead of block hi, in no hot block -/
def CellAt (W : World) (hot : List Nat) (g j : Nat) (e : TypeId) (sz n : Nat) (xs : List Value) (lo hi : Nat) : Prop :=
  ∃ v, W.cell? ⟨g, j, none⟩ = some v ∧ W.frozen? ⟨g, j, none⟩ = false ∧ W.ownsRow lo e sz v n xs ∧ ∀ g', v.ownBlock = some g' → g' < hi ∧ g' ∉ hot
section
variable {W W' : World} {hot : List Nat} {g j : Nat} {e : TypeId} {sz n : Nat} {xs : List Value} {lo hi : Nat}
theorem CellAt.calm (h : CellAt W hot g j e sz n xs lo hi) (hm : Moved [] W W') : CellAt W' hot g j e sz n xs lo hi := by
  obtain ⟨v, h1, h2, h3, h4⟩ := h
  have hl : g < W.heap.size := World.block_lt_of_cell? W ⟨g, j, none⟩ h1
  exact ⟨v, hm.cell h1 (by simp), (hm.frozen (p := ⟨g, j, none⟩) hl (by simp)).trans h2, own_move h3 (fun g' hg' => hm.block g' (h3.lt g' hg').2 (by simp)), h4⟩
theorem CellAt.set (h : CellAt W hot g j e sz n xs lo hi) {p : Addr} (hp : p.block ∈ hot) (hne : p ≠ ⟨g, j, none⟩) (u : Value) : CellAt (W.setCell p u) hot g j e sz n xs lo hi := by
  obtain ⟨v, h1, h2, h3, h4⟩ := h
  exact ⟨v, (World.cell?_setCell_other W _ _ _ (fun e => hne (by first | exact e | exact e.symm))).trans h1, by rw [World.frozen?_setCell]; exact h2, own_move h3 (fun g' hg' => Below.heap_setCell W p u g' (fun e => (h4 g' hg').2 (e ▸ hp))), h4⟩
theorem CellAt.new {w0 : Value} (h0 : W.cell? ⟨g, j, none⟩ = some w0) (h1 : W.frozen? ⟨g, j, none⟩ = false) {v : Value} {B : Nat} (hr : W.ownsRow B e sz v n xs) (hlo : lo ≤ B) (hhi : W.heap.size ≤ hi) (hf : ∀ g', v.ownBlock = some g' → g' ∉ hot) (hg : g ∈ hot) : CellAt (W.setCell ⟨g, j, none⟩ v) hot g j e sz n xs lo hi :=
  ⟨v, World.cell?_setCell_same' _ _ _ (by rw [h0]; rfl), by rw [World.frozen?_setCell]; exact h1, own_base' (own_move hr (fun g' hg' => Below.heap_setCell _ _ _ _ (fun e => hf g' hg' (e ▸ hg)))) hlo, fun g' hg' => ⟨by have := (hr.lt g' hg').2; omega, hf g' hg'⟩⟩
end
/-- the inputs of the first i clocks, each a row behind those before it -/
structure FromsAt (w W : World) (b2 b3 : Nat) (s : Chip) (v1 v2 v3 v4 : Value) (t : Nat → Nat) (i : Nat) : Prop where
  row : ∀ k, k < i → ∀ x g, s.clks[k]? = some x → v1.ownBlock = some g → CellAt W (b2 :: b3 :: hot4 v1 v2 v3 v4) g (k * 6 + 1) 3 1 x.frm.length (iv x.frm) (t k) (t (k + 1))
  up : ∀ k, k < i → t k ≤ t (k + 1)
  last : t i ≤ W.heap.size
  zero : w.heap.size ≤ t 0
theorem FromsAt.next {w W w1 : World} {b2 b3 : Nat} {s : Chip} {g cap : Nat} {v2 v3 v4 u : Value} {t : Nat → Nat} {i : Nat} {x : Clk} {v : Value} (h : FromsAt w W b2 b3 s (.slice (some ⟨g, 0, none⟩) s.clks.length cap) v2 v3 v4 t i) (hm : Moved [] W w1) (hx : s.clks[i]? = some x) (h0 : w1.cell? ⟨g, i * 6 + 1, none⟩ = some u) (h1 : w1.frozen? ⟨g, i * 6 + 1, none⟩ = false)
    (hr : w1.ownsRow W.heap.size 3 1 v x.frm.length (iv x.frm)) (hf : ∀ g', v.ownBlock = some g' → g' ∉ b2 :: b3 :: hot4 (.slice (some ⟨g, 0, none⟩) s.clks.length cap) v2 v3 v4) :
    FromsAt w (w1.setCell ⟨g, i * 6 + 1, none⟩ v) b2 b3 s (.slice (some ⟨g, 0, none⟩) s.clks.length cap) v2 v3 v4 (fun k => if k = i + 1 then w1.heap.size else t k) (i + 1) := by
  have hg : g ∈ b2 :: b3 :: hot4 (.slice (some ⟨g, 0, none⟩) s.clks.length cap) v2 v3 v4 := by simp [hot4, Value.ownBlock]
  refine ⟨fun k hk y g' hy hg' => ?_, fun k hk => ?_, ?_, ?_⟩
  · obtain rfl : g = g' := by simpa [Value.ownBlock] using hg'
    by_cases hki : k = i
    · subst hki
      rw [hx] at hy
      obtain rfl : x = y := Option.some.inj hy
      rw [if_neg (by omega), if_pos rfl]
      exact CellAt.new h0 h1 hr h.last (Nat.le_refl _) hf hg
    · rw [if_neg (by omega), if_neg (by omega)]
      exact ((h.row k (by omega) y g hy rfl).calm hm).set hg (fun e => by injection e with _ e; omega) _
  · by_cases hki : k = i
    · subst hki
      simp only [if_true, if_neg (show ¬ k = k + 1 by omega)]
      exact Nat.le_trans h.last hm.size
    · simp only [if_neg (show ¬ k = i + 1 by omega), if_neg (show ¬ k + 1 = i + 1 by omega)]
      exact h.up k (by omega)
  · simp
  · simp only [if_neg (show ¬ 0 = i + 1 by omega)]
    exact h.zero

set_option maxRecDepth 1000000 in
set_option maxHeartbeats 4000000 in
theorem copyF_round (w W : World) (b2 b3 : Nat) (s : Chip) (v1 v2 v3 v4 : Value) (i : Nat) (hok : ChipOk s) (hs : StC w W b2 b3 s v1 v2 v3 v4) (hfr : (∃ t, FromsAt w W b2 b3 s v1 v2 v3 v4 t i)) (hi : i ≤ s.clks.length)
    (a : Act) (ha : FrN 68 a) (h2 : slT a 2 = .pointer (some ⟨b2, 0, none⟩)) (h3 : slT a 3 = .pointer (some ⟨b3, 0, none⟩)) (h23 : slT a 23 = .int .i64 (s.clks.length : Nat)) (h24 : slT a 24 = .int .i64 (i : Nat)) (R : Act → World → Prop) (Q : Exit → Act → World → Prop)
    (hR : ∀ a' W', i < s.clks.length → FrN 68 a' → slT a' 2 = .pointer (some ⟨b2, 0, none⟩) → slT a' 3 = .pointer (some ⟨b3, 0, none⟩) → slT a' 23 = .int .i64 (s.clks.length : Nat) → slT a' 24 = .int .i64 ((i + 1 : Nat) : Int) → StC w W' b2 b3 s v1 v2 v3 v4 → (∃ t, FromsAt w W' b2 b3 s v1 v2 v3 v4 t (i + 1)) → R a' W')
    (hQ : ∀ a', FrN 68 a' → slT a' 2 = .pointer (some ⟨b2, 0, none⟩) → slT a' 3 = .pointer (some ⟨b3, 0, none⟩) → i = s.clks.length → Q (.exit 0) a' W) :
    Code.wp Try.prog (lpC loop23a) (Exit.then R Q) a W := by
  have HQ := Lib.hid hQ
  have HR := Lib.hid hR
  obtain ⟨t, hfr⟩ := hfr
  have HFR := Lib.hid hfr
  clear hQ hR hfr
  obtain ⟨F, rfl⟩ := ha.open_
  rw [slT_listT (by omega)] at h2 h3 h23 h24
  rw [lit68, h2, h3, h23, h24]
  clear ha h2 h3 h23 h24
  conv => arg 2; whnf
  have hn1 := hok.n1
  by_cases hlt : i < s.clks.length
  · obtain ⟨g, cap, rfl, -, hgl⟩ := Own5.form hs.own.clks (by omega)
    have hr := List.getElem?_eq_getElem (l := s.clks) (i := i) hlt
    generalize s.clks[i] = x at hr
    obtain ⟨n, hn⟩ : ∃ n, n = s.clks.length := ⟨_, rfl⟩
    have hxl := (hok.clks x (List.mem_of_getElem? hr)).1
    obtain ⟨vs, hvl, ⟨Ax, cx, rfl, hcx, hix⟩, hcells⟩ := hs.own.clks.cell rfl hr
    obtain ⟨e0, e1⟩ := hcells 1 _ rfl
    obtain ⟨x0, y0⟩ := hs.bx 0 _ rfl
    have hnil : Ax = none → x.frm.length = 0 := fun h => by
      rcases Nat.eq_zero_or_pos x.frm.length with h0 | h0
      · exact h0
      · obtain ⟨ad, e, _⟩ := hix h0
        rw [h] at e; cases e
    have HIX := Lib.hid hix.ints
    have HS := Lib.hid hs
    have HRR := Lib.hid hr
    have i0 : (0 : Int) ≤ (i : Int) := by omega
    have i1 : (i : Int) < (s.clks.length : Int) := by omega
    clear hcells hvl hix hs hr
    go_wp2_with fail
    refine (cloneInts_any Ax cx x.frm W (by omega) HIX.out).mono ?_
    rintro e w1 ⟨v, rfl, hown, hb1⟩
    obtain ⟨A9, c9, rfl⟩ := own_shape' hown
    have hm1 : Moved [] W w1 := Moved.of_below hb1
    have hs1 := HS.out.calm hm1
    obtain ⟨vs', -, ⟨Ax', cx', rfl, -, -⟩, hcells'⟩ := hs1.own.clks.cell rfl HRR.out
    obtain ⟨f0, f1⟩ := hcells' 1 _ rfl
    have hcap := own_cap hown
    have hset := hs1.own.setClk (j := 1) (u := .slice A9 x.frm.length c9) (x' := x) rfl HRR.out (by omega) (fun vs hv _ => by
      obtain ⟨A, c, rfl, q1, q2⟩ := hv
      exact ⟨A9, c9, rfl, hcap, ints_own hown _ (fun g hg hm => by
        have := (hown.lt g hg).1
        have := (HS.out.own.fresh HS.out.h2 HS.out.l2 g hm).2
        omega)⟩)
    have hss : ({ s with clks := s.clks.set i x } : Chip) = s := by
      have hxi := (List.getElem?_eq_some_iff.1 HRR.out).2
      rw [← hxi, List.set_getElem_self]
    rw [hss] at hset
    have ht := hs1.set (p := ⟨g, i * 6 + 1, none⟩) (.slice A9 x.frm.length c9) hset (by simp [hot4, Value.ownBlock])
    have HT := Lib.hid ht
    have hfar : ∀ g', (Value.slice A9 x.frm.length c9).ownBlock = some g' → g' ∉ b2 :: b3 :: hot4 (.slice (some ⟨g, 0, none⟩) s.clks.length cap) v2 v3 v4 := fun g' hg hm => by
      have h1 := (hown.lt g' hg).1
      rcases List.mem_cons.1 hm with e | hm
      · have := HS.out.l2; omega
      · rcases List.mem_cons.1 hm with e | hm
        · have := HS.out.bx.lt; omega
        · have := (HS.out.own.fresh HS.out.h2 HS.out.l2 g' (List.mem_cons_of_mem _ hm)).2; omega
    have hnew := HFR.out.next hm1 HRR.out f0 f1 hown hfar
    have HNEW := Lib.hid hnew
    clear hnew hfar
    clear hown hb1 hm1 hs1 hcells' hset hss ht hcap HIX HS
    go_wp2
    exact HR.out _ _ hlt ⟨rfl, rfl⟩ rfl rfl rfl (by go_num) HT.out ⟨_, HNEW.out⟩
  · obtain rfl : i = s.clks.length := by omega
    go_wp2
    exact HQ.out _ ⟨rfl, rfl⟩ rfl rfl (by trivial)

def IF (w : World) (b2 b3 : Nat) (s : Chip) (v1 v2 v3 v4 : Value) (a : Act) (W : World) : Prop :=
  ∃ i : Nat, i ≤ s.clks.length ∧ FrN 68 a ∧ slT a 2 = .pointer (some ⟨b2, 0, none⟩) ∧ slT a 3 = .pointer (some ⟨b3, 0, none⟩) ∧ slT a 23 = .int .i64 (s.clks.length : Nat) ∧ slT a 24 = .int .i64 (i : Nat) ∧ StC w W b2 b3 s v1 v2 v3 v4 ∧ ∃ t, FromsAt w W b2 b3 s v1 v2 v3 v4 t i
def MF (s : Chip) (a : Act) (_ : World) : Nat := s.clks.length - (intOf (slT a 24)).toNat
theorem copyF_any (w W : World) (b2 b3 : Nat) (s : Chip) (v1 v2 v3 v4 : Value) (hok : ChipOk s) (hs : StC w W b2 b3 s v1 v2 v3 v4) (hz : w.heap.size ≤ W.heap.size)
    (a : Act) (ha : FrN 68 a) (h2 : slT a 2 = .pointer (some ⟨b2, 0, none⟩)) (h3 : slT a 3 = .pointer (some ⟨b3, 0, none⟩)) (h23 : slT a 23 = .int .i64 (s.clks.length : Nat)) (h24 : slT a 24 = .int .i64 0) (Q : Exit → Act → World → Prop)
    (hQ : ∀ a' W', FrN 68 a' → slT a' 2 = .pointer (some ⟨b2, 0, none⟩) → slT a' 3 = .pointer (some ⟨b3, 0, none⟩) → StC w W' b2 b3 s v1 v2 v3 v4 → (∃ t, FromsAt w W' b2 b3 s v1 v2 v3 v4 t s.clks.length) → Q (.exit 0) a' W') : Code.wp Try.prog loop23a Q a W := by
  show Code.wp Try.prog (Code.loop (lpC loop23a)) Q a W
  refine wp_loop (IF w b2 b3 s v1 v2 v3 v4) (MF s) ⟨0, Nat.zero_le _, ha, h2, h3, h23, h24, hs, fun _ => W.heap.size, fun k hk => absurd hk (by omega), fun k hk => absurd hk (by omega), Nat.le_refl _, hz⟩ ?_
  rintro a1 W1 ⟨i, hi, hf, q2, q3, q23, q24, hs1, hn1⟩
  refine copyF_round w W1 b2 b3 s v1 v2 v3 v4 i hok hs1 hn1 hi a1 hf q2 q3 q23 q24 _ _ ?_ ?_
  · intro a' W' hlt hF e2 e3 e23 e24 hs' hn'
    refine ⟨⟨i + 1, hlt, hF, e2, e3, e23, e24, hs', hn'⟩, ?_⟩
    unfold MF
    rw [e24, q24]
    simp [intOf]
    omega
  · exact fun a' hF e2 e3 hin => hQ _ _ hF e2 e3 hs1 (by rw [← hin]; exact hn1)
end

section
set_option linter.unusedSimpArgs false
set_option linter.unusedVariables false
open Go.RowKit Go.Maps

theorem FromsAt.calm {w W W' : World} {b2 b3 : Nat} {s : Chip} {v1 v2 v3 v4 : Value} {t : Nat → Nat} {i : Nat} (h : FromsAt w W b2 b3 s v1 v2 v3 v4 t i) (hm : Moved [] W W') : FromsAt w W' b2 b3 s v1 v2 v3 v4 t i :=
  ⟨fun k hk x g hx hg => (h.row k hk x g hx hg).calm hm, h.up, Nat.le_trans h.last hm.size, h.zero⟩
theorem FromsAt.set {w W : World} {b2 b3 : Nat} {s : Chip} {v1 v2 v3 v4 : Value} {t : Nat → Nat} {i : Nat} (h : FromsAt w W b2 b3 s v1 v2 v3 v4 t i) {p : Addr} (hp : p.block ∈ b2 :: b3 :: hot4 v1 v2 v3 v4) (hne : v1.ownBlock ≠ some p.block) (u : Value) : FromsAt w (W.setCell p u) b2 b3 s v1 v2 v3 v4 t i :=
  ⟨fun k hk x g hx hg => (h.row k hk x g hx hg).set hp (fun e => hne (by rw [hg, e])) u, h.up, by rw [size_setCell]; exact h.last, h.zero⟩
/-- the cells of registers -/
def rv (rs : List Rgs) : List Value := (rs.map fun r => [Value.int .u32 r.reset, Value.bool r.kept]).flatten
theorem vss_rv {rs : List Rgs} {vss : List (List Value)} (hl : vss.length = rs.length) (h : ∀ (k : Nat) (x : Rgs) (us : List Value), rs[k]? = some x → vss[k]? = some us → us = [.int .u32 x.reset, .bool x.kept]) : vss.flatten = rv rs := by
  have : vss = rs.map fun r => [Value.int .u32 r.reset, Value.bool r.kept] := by
    refine List.ext_getElem? fun k => ?_
    rcases Nat.lt_or_ge k rs.length with hk | hk
    · rw [List.getElem?_map, List.getElem?_eq_getElem hk, List.getElem?_eq_getElem (by omega)]
      rw [h k _ _ (List.getElem?_eq_getElem hk) (List.getElem?_eq_getElem (by omega))]
      rfl
    · rw [List.getElem?_eq_none (by omega), List.getElem?_eq_none (by simpa using hk)]
  rw [this]; rfl
/-- the registers and needs of the first devices, c rows in all, each behind those before it -/
structure DevsAt (W : World) (b2 b3 : Nat) (s : Chip) (v1 v2 v3 v4 : Value) (m : Nat) (u : Nat → Nat) (c : Nat) : Prop where
  regs : ∀ k, 2 * k < c → ∀ x g, s.devs[k]? = some x → v4.ownBlock = some g → CellAt W (b2 :: b3 :: hot4 v1 v2 v3 v4) g (k * 6 + 4) 90 2 x.regs.length (rv x.regs) (u (2 * k)) (u (2 * k + 1))
  needs : ∀ k, 2 * k + 1 < c → ∀ x g, s.devs[k]? = some x → v4.ownBlock = some g → CellAt W (b2 :: b3 :: hot4 v1 v2 v3 v4) g (k * 6 + 5) 3 1 x.needs.length (iv x.needs) (u (2 * k + 1)) (u (2 * k + 2))
  up : ∀ k, k < c → u k ≤ u (k + 1)
  last : u c ≤ W.heap.size
  zero : m ≤ u 0
section
variable {W w1 : World} {b2 b3 : Nat} {s : Chip} {g cap m : Nat} {v1 v2 v3 z : Value} {u : Nat → Nat} {i : Nat} {x : Dev} {v : Value}
theorem DevsAt.more {c e : Nat} (h : ∀ k, k < c → u k ≤ u (k + 1)) (hl : u c ≤ e) : ∀ k, k < c + 1 → (if k = c + 1 then e else u k) ≤ (if k + 1 = c + 1 then e else u (k + 1)) := fun k hk => by
  rw [if_neg (by omega)]
  by_cases hkc : k = c
  · subst hkc
    rw [if_pos rfl]; exact hl
  · rw [if_neg (by omega)]; exact h k (by omega)
theorem DevsAt.next4 (h : DevsAt W b2 b3 s v1 v2 v3 (.slice (some ⟨g, 0, none⟩) s.devs.length cap) m u (2 * i)) (hm : Moved [] W w1) (hx : s.devs[i]? = some x) (h0 : w1.cell? ⟨g, i * 6 + 4, none⟩ = some z) (h1 : w1.frozen? ⟨g, i * 6 + 4, none⟩ = false)
    (hr : w1.ownsRow W.heap.size 90 2 v x.regs.length (rv x.regs)) (hf : ∀ g', v.ownBlock = some g' → g' ∉ b2 :: b3 :: hot4 v1 v2 v3 (.slice (some ⟨g, 0, none⟩) s.devs.length cap)) :
    DevsAt (w1.setCell ⟨g, i * 6 + 4, none⟩ v) b2 b3 s v1 v2 v3 (.slice (some ⟨g, 0, none⟩) s.devs.length cap) m (fun k => if k = 2 * i + 1 then w1.heap.size else u k) (2 * i + 1) := by
  have hg : g ∈ b2 :: b3 :: hot4 v1 v2 v3 (.slice (some ⟨g, 0, none⟩) s.devs.length cap) := by simp [hot4, Value.ownBlock]
  refine ⟨fun k hk y g' hy hg' => ?_, fun k hk y g' hy hg' => ?_, DevsAt.more h.up (Nat.le_trans h.last hm.size), by simp, by simp only [if_neg (show ¬ 0 = 2 * i + 1 by omega)]; exact h.zero⟩
  · obtain rfl : g = g' := by simpa [Value.ownBlock] using hg'
    by_cases hki : k = i
    · subst hki
      rw [hx] at hy
      obtain rfl : x = y := Option.some.inj hy
      rw [if_neg (by omega), if_pos rfl]
      exact CellAt.new h0 h1 hr h.last (Nat.le_refl _) hf hg
    · rw [if_neg (by omega), if_neg (by omega)]
      exact ((h.regs k (by omega) y g hy rfl).calm hm).set hg (fun e => by injection e with _ e; omega) _
  · obtain rfl : g = g' := by simpa [Value.ownBlock] using hg'
    rw [if_neg (by omega), if_neg (by omega)]
    exact ((h.needs k (by omega) y g hy rfl).calm hm).set hg (fun e => by injection e with _ e; omega) _
theorem DevsAt.next5 (h : DevsAt W b2 b3 s v1 v2 v3 (.slice (some ⟨g, 0, none⟩) s.devs.length cap) m u (2 * i + 1)) (hm : Moved [] W w1) (hx : s.devs[i]? = some x) (h0 : w1.cell? ⟨g, i * 6 + 5, none⟩ = some z) (h1 : w1.frozen? ⟨g, i * 6 + 5, none⟩ = false)
    (hr : w1.ownsRow W.heap.size 3 1 v x.needs.length (iv x.needs)) (hf : ∀ g', v.ownBlock = some g' → g' ∉ b2 :: b3 :: hot4 v1 v2 v3 (.slice (some ⟨g, 0, none⟩) s.devs.length cap)) :
    DevsAt (w1.setCell ⟨g, i * 6 + 5, none⟩ v) b2 b3 s v1 v2 v3 (.slice (some ⟨g, 0, none⟩) s.devs.length cap) m (fun k => if k = 2 * i + 1 + 1 then w1.heap.size else u k) (2 * (i + 1)) := by
  have hg : g ∈ b2 :: b3 :: hot4 v1 v2 v3 (.slice (some ⟨g, 0, none⟩) s.devs.length cap) := by simp [hot4, Value.ownBlock]
  refine ⟨fun k hk y g' hy hg' => ?_, fun k hk y g' hy hg' => ?_, DevsAt.more h.up (Nat.le_trans h.last hm.size), by simp [show 2 * (i + 1) = 2 * i + 1 + 1 by omega], by simp only [if_neg (show ¬ 0 = 2 * i + 1 + 1 by omega)]; exact h.zero⟩
  · obtain rfl : g = g' := by simpa [Value.ownBlock] using hg'
    rw [if_neg (by omega), if_neg (by omega)]
    exact ((h.regs k (by omega) y g hy rfl).calm hm).set hg (fun e => by injection e with _ e; omega) _
  · obtain rfl : g = g' := by simpa [Value.ownBlock] using hg'
    by_cases hki : k = i
    · subst hki
      rw [hx] at hy
      obtain rfl : x = y := Option.some.inj hy
      rw [if_neg (by omega), if_pos rfl]
      exact CellAt.new h0 h1 hr h.last (Nat.le_refl _) hf hg
    · rw [if_neg (by omega), if_neg (by omega)]
      exact ((h.needs k (by omega) y g hy rfl).calm hm).set hg (fun e => by injection e with _ e; omega) _
end

set_option maxRecDepth 1000000 in
set_option maxHeartbeats 4000000 in
theorem copyG_round (w W : World) (b2 b3 : Nat) (s : Chip) (v1 v2 v3 v4 : Value) (t : Nat → Nat) (m : Nat) (i : Nat) (hok : ChipOk s) (hs : StC w W b2 b3 s v1 v2 v3 v4) (hnd : FromsAt w W b2 b3 s v1 v2 v3 v4 t s.clks.length ∧ ∃ u, DevsAt W b2 b3 s v1 v2 v3 v4 m u (2 * i)) (hi : i ≤ s.devs.length)
    (a : Act) (ha : FrN 68 a) (h2 : slT a 2 = .pointer (some ⟨b2, 0, none⟩)) (h3 : slT a 3 = .pointer (some ⟨b3, 0, none⟩)) (h42 : slT a 42 = .int .i64 (s.devs.length : Nat)) (h43 : slT a 43 = .int .i64 (i : Nat)) (R : Act → World → Prop) (Q : Exit → Act → World → Prop)
    (hR : ∀ a' W', i < s.devs.length → FrN 68 a' → slT a' 2 = .pointer (some ⟨b2, 0, none⟩) → slT a' 3 = .pointer (some ⟨b3, 0, none⟩) → slT a' 42 = .int .i64 (s.devs.length : Nat) → slT a' 43 = .int .i64 ((i + 1 : Nat) : Int) → StC w W' b2 b3 s v1 v2 v3 v4 → (FromsAt w W' b2 b3 s v1 v2 v3 v4 t s.clks.length ∧ ∃ u, DevsAt W' b2 b3 s v1 v2 v3 v4 m u (2 * (i + 1))) → R a' W')
    (hQ : ∀ a', FrN 68 a' → slT a' 2 = .pointer (some ⟨b2, 0, none⟩) → slT a' 3 = .pointer (some ⟨b3, 0, none⟩) → i = s.devs.length → Q (.exit 2) a' W) :
    Code.wp Try.prog (lpC loop23b) (Exit.then R Q) a W := by
  have HQ := Lib.hid hQ
  have HR := Lib.hid hR
  obtain ⟨hfr, u, hdv⟩ := hnd
  have HFR := Lib.hid hfr
  have HDV := Lib.hid hdv
  clear hQ hR hfr hdv
  obtain ⟨F, rfl⟩ := ha.open_
  rw [slT_listT (by omega)] at h2 h3 h42 h43
  rw [lit68, h2, h3, h42, h43]
  clear ha h2 h3 h42 h43
  conv => arg 2; whnf
  have hn1 := hok.n4
  by_cases hlt : i < s.devs.length
  · obtain ⟨g, cap, rfl, -, hgl⟩ := Own5.form hs.own.devs (by omega)
    have hr := List.getElem?_eq_getElem (l := s.devs) (i := i) hlt
    generalize s.devs[i] = x at hr
    have hxr := (hok.devs x (List.mem_of_getElem? hr)).1
    have hxl := (hok.devs x (List.mem_of_getElem? hr)).2.1
    obtain ⟨vs, hvl, ⟨Ax, cx, Ay, cy, rfl, hcx, hcy, hix, hiy⟩, hcells⟩ := hs.own.devs.cell rfl hr
    obtain ⟨e0, e1⟩ := hcells 4 _ rfl
    obtain ⟨x0, y0⟩ := hs.bx 3 _ rfl
    have hss : ∀ x' : Dev, x' = x → ({ s with devs := s.devs.set i x' } : Chip) = s := fun x' hx' => by
      have hxi := (List.getElem?_eq_some_iff.1 hr).2
      rw [hx', ← hxi, List.set_getElem_self]
    have HIX := Lib.hid hix.strs
    have HS := Lib.hid hs
    have HRR := Lib.hid hr
    have HSS := Lib.hid hss
    have i0 : (0 : Int) ≤ (i : Int) := by omega
    have i1 : (i : Int) < (s.devs.length : Int) := by omega
    clear hcells hvl hix hiy hs hr hss
    go_wp2_with fail
    refine (clone66_any Ax cx x.regs W W (by omega) (Below.refl _ _) HIX.out).mono ?_
    rintro e w1 ⟨v, rfl, hcl, hb1⟩
    obtain ⟨vss9, h9l, h9c, hown⟩ := id hcl
    obtain ⟨A9, c9, rfl⟩ := own_shape' hown
    have hm1 : Moved [] W w1 := Moved.of_below hb1
    have hs1 := HS.out.calm hm1
    obtain ⟨vs', -, ⟨Ax', cx', Ay', cy', rfl, -, -, -, -⟩, hcells'⟩ := hs1.own.devs.cell rfl HRR.out
    obtain ⟨f0, f1⟩ := hcells' 4 _ rfl
    have hcap := own_cap hown
    have hregs : ∀ hot : List Nat, (∀ g, (Value.slice A9 x.regs.length c9).ownBlock = some g → g ∉ hot) → RegsC hot w1 A9 x.regs := by
      obtain ⟨A8, c8, e8, -, h8⟩ := rowc_regs (hot0 := []) (B := W.heap.size) (rs := x.regs) (v := .slice A9 x.regs.length c9) ⟨vss9, h9l, fun k y us hy hu => ⟨(h9c k y us hy hu).1, (h9c k y us hy hu).2⟩, hown⟩
      injection e8 with e8 _ _
      subst e8
      exact h8
    have hset := hs1.own.setDev (j := 4) (u := .slice A9 x.regs.length c9) (x' := x) rfl HRR.out (by omega) (fun vs hv _ => by
      obtain ⟨A, c, A', c', rfl, q1, q2, q3, q4⟩ := hv
      exact ⟨A9, c9, A', c', rfl, hcap, q2, hregs _ (fun g hg hm => by
        have := (hown.lt g hg).1
        have := (HS.out.own.fresh HS.out.h2 HS.out.l2 g hm).2
        omega), q4⟩)
    rw [HSS.out x rfl] at hset
    have ht := hs1.set (p := ⟨g, i * 6 + 4, none⟩) (.slice A9 x.regs.length c9) hset (by simp [hot4, Value.ownBlock])
    have hfarR : ∀ g', (Value.slice A9 x.regs.length c9).ownBlock = some g' → g' ∉ b2 :: b3 :: hot4 v1 v2 v3 (.slice (some ⟨g, 0, none⟩) s.devs.length cap) := fun g' hg hm => by
      have h1 := (hown.lt g' hg).1
      rcases List.mem_cons.1 hm with e | hm
      · have := HS.out.l2; omega
      · rcases List.mem_cons.1 hm with e | hm
        · have := HS.out.bx.lt; omega
        · have := (HS.out.own.fresh HS.out.h2 HS.out.l2 g' (List.mem_cons_of_mem _ hm)).2; omega
    have hdv1 := HDV.out.next4 hm1 HRR.out f0 f1 (by rw [← vss_rv h9l fun k y us hy hu => (h9c k y us hy hu).2]; exact hown) hfarR
    have hfr1 := (HFR.out.calm hm1).set (p := ⟨g, i * 6 + 4, none⟩) (by simp [hot4, Value.ownBlock]) (fun e => HS.out.own.n14 g e rfl) (.slice A9 x.regs.length c9)
    obtain ⟨W2, hW2⟩ : ∃ W2, W2 = w1.setCell ⟨g, i * 6 + 4, none⟩ (.slice A9 x.regs.length c9) := ⟨_, rfl⟩
    rw [← hW2] at ht hdv1 hfr1
    have HDV1 := Lib.hid hdv1
    have HFR1 := Lib.hid hfr1
    clear hdv1 hfr1 hfarR
    obtain ⟨vs2, -, ⟨Bx, dx, By, dy, rfl, -, hdy, -, hiy⟩, hcells2⟩ := ht.own.devs.cell rfl HRR.out
    obtain ⟨p0, p1⟩ := hcells2 5 _ rfl
    have HIY := Lib.hid hiy.ints
    have HT := Lib.hid ht
    have HW2 := Lib.hid hW2
    clear hown hb1 hm1 hs1 hcells' hset ht hcap HIX HS hcl h9l h9c hregs hcells2 hiy hW2 hdy
    go_upto_region 13 with fail
    rw [← HW2.out]
    clear HW2 f0 f1 e0 e1
    go_wp2_with fail
    refine (cloneInts2_any By dy x.needs W2 (by omega) HIY.out).mono ?_
    rintro e w3 ⟨v, rfl, hown, hb1, hem⟩
    obtain ⟨A7, c7, rfl⟩ := own_shape' hown
    have hm1 : Moved [] W2 w3 := Moved.of_below hb1
    have hs1 := HT.out.calm hm1
    obtain ⟨vs', -, ⟨Ax', cx', Ay', cy', rfl, -, -, -, -⟩, hcells'⟩ := hs1.own.devs.cell rfl HRR.out
    obtain ⟨f0, f1⟩ := hcells' 5 _ rfl
    have hcap := own_cap hown
    have hset := hs1.own.setDev (j := 5) (u := .slice A7 x.needs.length c7) (x' := x) rfl HRR.out (by omega) (fun vs hv _ => by
      obtain ⟨A, c, A', c', rfl, q1, q2, q3, q4⟩ := hv
      exact ⟨A, c, A7, c7, rfl, q1, hcap, q3, ints_own hown _ (fun g hg hm => by
        have := (hown.lt g hg).1
        have := (HT.out.own.fresh HT.out.h2 HT.out.l2 g hm).2
        omega)⟩)
    rw [HSS.out x rfl] at hset
    have ht := hs1.set (p := ⟨g, i * 6 + 5, none⟩) (.slice A7 x.needs.length c7) hset (by simp [hot4, Value.ownBlock])
    have HT3 := Lib.hid ht
    have hfarN : ∀ g', (Value.slice A7 x.needs.length c7).ownBlock = some g' → g' ∉ b2 :: b3 :: hot4 v1 v2 v3 (.slice (some ⟨g, 0, none⟩) s.devs.length cap) := fun g' hg hm => by
      have h1 := (hown.lt g' hg).1
      rcases List.mem_cons.1 hm with e | hm
      · have := HT.out.l2; omega
      · rcases List.mem_cons.1 hm with e | hm
        · have := HT.out.bx.lt; omega
        · have := (HT.out.own.fresh HT.out.h2 HT.out.l2 g' (List.mem_cons_of_mem _ hm)).2; omega
    have hdv2 := HDV1.out.next5 hm1 HRR.out f0 f1 hown hfarN
    have hfr2 := (HFR1.out.calm hm1).set (p := ⟨g, i * 6 + 5, none⟩) (by simp [hot4, Value.ownBlock]) (fun e => HT.out.own.n14 g e rfl) (.slice A7 x.needs.length c7)
    have HDV2 := Lib.hid hdv2
    have HFR2 := Lib.hid hfr2
    clear hdv2 hfr2 hfarN
    clear hown hb1 hm1 hs1 hcells' hset ht hcap HIY HT hem
    go_wp2
    exact HR.out _ _ hlt ⟨rfl, rfl⟩ rfl rfl rfl (by go_num) HT3.out ⟨HFR2.out, _, HDV2.out⟩
  · obtain rfl : i = s.devs.length := by omega
    go_wp2
    exact HQ.out _ ⟨rfl, rfl⟩ rfl rfl (by trivial)
def IG (w : World) (b2 b3 : Nat) (s : Chip) (v1 v2 v3 v4 : Value) (t : Nat → Nat) (m : Nat) (a : Act) (W : World) : Prop :=
  ∃ i : Nat, i ≤ s.devs.length ∧ FrN 68 a ∧ slT a 2 = .pointer (some ⟨b2, 0, none⟩) ∧ slT a 3 = .pointer (some ⟨b3, 0, none⟩) ∧ slT a 42 = .int .i64 (s.devs.length : Nat) ∧ slT a 43 = .int .i64 (i : Nat) ∧ StC w W b2 b3 s v1 v2 v3 v4 ∧ FromsAt w W b2 b3 s v1 v2 v3 v4 t s.clks.length ∧ ∃ u, DevsAt W b2 b3 s v1 v2 v3 v4 m u (2 * i)
def MG (s : Chip) (a : Act) (_ : World) : Nat := s.devs.length - (intOf (slT a 43)).toNat
theorem copyG_any (w W : World) (b2 b3 : Nat) (s : Chip) (v1 v2 v3 v4 : Value) (t : Nat → Nat) (m : Nat) (hok : ChipOk s) (hs : StC w W b2 b3 s v1 v2 v3 v4) (hfr0 : FromsAt w W b2 b3 s v1 v2 v3 v4 t s.clks.length) (hmz : m ≤ W.heap.size)
    (a : Act) (ha : FrN 68 a) (h2 : slT a 2 = .pointer (some ⟨b2, 0, none⟩)) (h3 : slT a 3 = .pointer (some ⟨b3, 0, none⟩)) (h42 : slT a 42 = .int .i64 (s.devs.length : Nat)) (h43 : slT a 43 = .int .i64 0) (Q : Exit → Act → World → Prop)
    (hQ : ∀ a' W', FrN 68 a' → slT a' 2 = .pointer (some ⟨b2, 0, none⟩) → slT a' 3 = .pointer (some ⟨b3, 0, none⟩) → StC w W' b2 b3 s v1 v2 v3 v4 → (FromsAt w W' b2 b3 s v1 v2 v3 v4 t s.clks.length ∧ ∃ u, DevsAt W' b2 b3 s v1 v2 v3 v4 m u (2 * s.devs.length)) → Q (.exit 2) a' W') : Code.wp Try.prog loop23b Q a W := by
  show Code.wp Try.prog (Code.loop (lpC loop23b)) Q a W
  refine wp_loop (IG w b2 b3 s v1 v2 v3 v4 t m) (MG s) ⟨0, Nat.zero_le _, ha, h2, h3, h42, h43, hs, hfr0, fun _ => W.heap.size, ⟨fun k hk => absurd hk (by omega), fun k hk => absurd hk (by omega), fun k hk => absurd hk (by omega), Nat.le_refl _, hmz⟩⟩ ?_
  rintro a1 W1 ⟨i, hi, hf, q2, q3, q42, q43, hs1, hn1⟩
  refine copyG_round w W1 b2 b3 s v1 v2 v3 v4 t m i hok hs1 hn1 hi a1 hf q2 q3 q42 q43 _ _ ?_ ?_
  · intro a' W' hlt hF e2 e3 e42 e43 hs' hn'
    refine ⟨⟨i + 1, hlt, hF, e2, e3, e42, e43, hs', hn'⟩, ?_⟩
    unfold MG
    rw [e43, q43]
    simp [intOf]
    omega
  · exact fun a' hF e2 e3 hin => hQ _ _ hF e2 e3 hs1 (by rw [← hin]; exact hn1)
end

section
set_option linter.unusedSimpArgs false
set_option linter.unusedVariables false
open Go.RowKit Go.Maps

theorem DevsAt.calm {W W' : World} {b2 b3 : Nat} {s : Chip} {v1 v2 v3 v4 : Value} {m : Nat} {u : Nat → Nat} {c : Nat} (h : DevsAt W b2 b3 s v1 v2 v3 v4 m u c) (hm : Moved [] W W') : DevsAt W' b2 b3 s v1 v2 v3 v4 m u c :=
  ⟨fun k hk x g hx hg => (h.regs k hk x g hx hg).calm hm, fun k hk x g hx hg => (h.needs k hk x g hx hg).calm hm, h.up, Nat.le_trans h.last hm.size, h.zero⟩
theorem DevsAt.set {W : World} {b2 b3 : Nat} {s : Chip} {v1 v2 v3 v4 : Value} {m : Nat} {u : Nat → Nat} {c : Nat} (h : DevsAt W b2 b3 s v1 v2 v3 v4 m u c) {p : Addr} (hp : p.block ∈ b2 :: b3 :: hot4 v1 v2 v3 v4) (hne : v4.ownBlock ≠ some p.block) (z : Value) : DevsAt (W.setCell p z) b2 b3 s v1 v2 v3 v4 m u c :=
  ⟨fun k hk x g hx hg => (h.regs k hk x g hx hg).set hp (fun e => hne (by rw [hg, e])) z, fun k hk x g hx hg => (h.needs k hk x g hx hg).set hp (fun e => hne (by rw [hg, e])) z, h.up, by rw [size_setCell]; exact h.last, h.zero⟩
def OwnPost (w : World) (s : Chip) (e : Ending) (w' : World) : Prop :=
  ∃ v1 v2 v3 v4, e = .returned (.agg #[v1, v2, v3, v4]) ∧ Own4 w' w.heap.size s v1 v2 v3 v4 ∧ (∃ b2 b3 t u, FromsAt w w' b2 b3 s v1 v2 v3 v4 t s.clks.length ∧ DevsAt w' b2 b3 s v1 v2 v3 v4 (t s.clks.length) u (2 * s.devs.length)) ∧ Below w.heap.size w w'

set_option maxRecDepth 1000000 in
set_option maxHeartbeats 4000000 in
theorem copy_own (s : Chip) (vs : List Value) (w : World) (hok : ChipOk s) (h : ChipV w w.heap.size s vs) : Calls Try.prog 25 #[.agg vs.toArray] w (OwnPost w s) := by
  obtain ⟨A1, c1, A2, c2, A3, c3, A4, c4, rfl, l1, l2, l3, l4, k1, k2, k3, k4⟩ := h
  have HCV : RowKit.Hid (StrsAt ClkV 6 w w.heap.size A1 s.clks ∧ StrsAt DomV 3 w w.heap.size A2 s.doms ∧ StrsAt RstV 1 w w.heap.size A3 s.rsts ∧ StrsAt DevV 6 w w.heap.size A4 s.devs) := ⟨k1, k2, k3, k4⟩
  have HOK := Lib.hid hok
  have hC : ∀ W, ((w.alloc (.cells #[.slice A1 s.clks.length c1, .slice A2 s.doms.length c2, .slice A3 s.rsts.length c3, .slice A4 s.devs.length c4] 27)).alloc (.cells #[.slice none 0 0, .slice none 0 0, .slice none 0 0, .slice none 0 0] 27)).grownBy W none → BoxAt W w.heap.size [.slice A1 s.clks.length c1, .slice A2 s.doms.length c2, .slice A3 s.rsts.length c3, .slice A4 s.devs.length c4] ∧ Below w.heap.size w W := fun W hW => by
    have hb0 : BoxAt (w.alloc (.cells #[.slice A1 s.clks.length c1, .slice A2 s.doms.length c2, .slice A3 s.rsts.length c3, .slice A4 s.devs.length c4] 27)) w.heap.size [.slice A1 s.clks.length c1, .slice A2 s.doms.length c2, .slice A3 s.rsts.length c3, .slice A4 s.devs.length c4] := BoxAt.new w _ 27
    have hm : Moved [] (w.alloc (.cells #[.slice A1 s.clks.length c1, .slice A2 s.doms.length c2, .slice A3 s.rsts.length c3, .slice A4 s.devs.length c4] 27)) W := (Moved.alloc _ _).trans (Moved.of_grown hW (fun k h => by cases h))
    exact ⟨hb0.move hm (by simp), ((Below.refl w.heap.size w).alloc (Nat.le_refl _) _).trans (hm.below (by simp) (by simp))⟩
  have HC := Lib.hid hC
  clear hok k1 k2 k3 k4 hC
  go_enter Try.func25, Try.ntmps25
  go_wp2
  refine region_then [⟨IsV (.pointer (some ⟨w.heap.size, 0, none⟩)), true, false⟩,
    ⟨IsV (.slice A1 s.clks.length c1), true, false⟩,
    ⟨Cloned ClkV 6 46 w s.clks, false, false⟩,
    ⟨IsV (.pointer (some ⟨w.heap.size, 1, none⟩)), true, false⟩,
    ⟨IsV (.slice A2 s.doms.length c2), true, false⟩,
    ⟨Cloned DomV 3 75 w s.doms, false, false⟩,
    ⟨IsV (.pointer (some ⟨w.heap.size, 2, none⟩)), true, false⟩,
    ⟨IsV (.slice A3 s.rsts.length c3), true, false⟩,
    ⟨Cloned RstV 1 80 w s.rsts, false, false⟩,
    ⟨IsV (.pointer (some ⟨w.heap.size, 3, none⟩)), true, false⟩,
    ⟨IsV (.slice A4 s.devs.length c4), true, false⟩,
    ⟨Cloned DevV 6 86 w s.devs, false, false⟩,
    ⟨Four s w, true, false⟩,
    ⟨IsBlk (w.heap.size + 2) mkPtr [.slice none 0 0, .slice none 0 0, .slice none 0 0, .slice none 0 0] 27, false, false⟩] none 68 (by kernel_rfl) rfl (by kernel_rfl) ⟨fun _ => stbR_V _ _, fun _ => stbR_V _ _, fun _ => stbR_cloned, fun _ => stbR_V _ _, fun _ => stbR_V _ _, fun _ => stbR_cloned, fun _ => stbR_V _ _, fun _ => stbR_V _ _, fun _ => stbR_cloned, fun _ => stbR_V _ _, fun _ => stbR_V _ _, fun _ => stbR_cloned, fun _ => stbR_four, fun _ => stbR_blk (by simp), trivial⟩ ⟨?s0, ?s1, ?s2, ?s3, ?s4, ?s5, ?s6, ?s7, ?s8, ?s9, ?s10, ?s11, ?s12, ?s13, trivial⟩ ?fin
  case s0 =>
    refine ⟨rfl, fun T w1 hT hb ha0 hd => ?_⟩
    have ec := evT_const T
    have ef := evT_func T
    have d1 : evT T (.tmp 1) = .pointer (some ⟨w.heap.size, 0, none⟩) := hT 1 (by kernel_rfl)
    clear hT hd hb ha0
    refine gr_pure (v := .pointer (some ⟨w.heap.size, 0, none⟩)) ?_ rfl
    simp only [execOp]
    go_simp
  case s1 =>
    refine ⟨rfl, fun T w1 hT hb ha0 hd => ?_⟩
    have ec := evT_const T
    have ef := evT_func T
    have d8 : evT T (.tmp 8) = .pointer (some ⟨w.heap.size, 0, none⟩) := (by first | exact hd.1 | exact hd.2.1 | exact hd.2.2.1 | exact hd.2.2.2.1 | exact hd.2.2.2.2.1 | exact hd.2.2.2.2.2.1 | exact hd.2.2.2.2.2.2.1 | exact hd.2.2.2.2.2.2.2.1)
    have f0 := ((HC.out w1 hb).1 0 _ rfl).1
    clear hT hd hb ha0
    refine gr_pure (v := .slice A1 s.clks.length c1) ?_ rfl
    simp only [execOp]
    go_simp
  case s2 =>
    refine ⟨rfl, fun T w1 hT hb ha0 hd => ?_⟩
    have ec := evT_const T
    have ef := evT_func T
    have d9 : evT T (.tmp 9) = .slice A1 s.clks.length c1 := (by first | exact hd.1 | exact hd.2.1 | exact hd.2.2.1 | exact hd.2.2.2.1 | exact hd.2.2.2.2.1 | exact hd.2.2.2.2.2.1 | exact hd.2.2.2.2.2.2.1 | exact hd.2.2.2.2.2.2.2.1)
    refine gr_callB (f := 58) (args := #[.slice A1 s.clks.length c1]) ?_ ?_
    · clear hT hd hb ha0
      simp only [execOp, resolve]
      go_simp
    · refine (clone61_any _ _ s.clks w w1 (by have := HOK.out.n1; omega) (HC.out w1 hb).2 HCV.out.1).mono ?_
      rintro en w2 ⟨v, he, h1, h2⟩
      exact ⟨v, he, h1, h2⟩
  case s3 =>
    refine ⟨rfl, fun T w1 hT hb ha0 hd => ?_⟩
    have ec := evT_const T
    have ef := evT_func T
    have d1 : evT T (.tmp 1) = .pointer (some ⟨w.heap.size, 0, none⟩) := hT 1 (by kernel_rfl)
    clear hT hd hb ha0
    refine gr_pure (v := .pointer (some ⟨w.heap.size, 1, none⟩)) ?_ rfl
    simp only [execOp]
    go_simp
  case s4 =>
    refine ⟨rfl, fun T w1 hT hb ha0 hd => ?_⟩
    have ec := evT_const T
    have ef := evT_func T
    have d11 : evT T (.tmp 11) = .pointer (some ⟨w.heap.size, 1, none⟩) := (by first | exact hd.1 | exact hd.2.1 | exact hd.2.2.1 | exact hd.2.2.2.1 | exact hd.2.2.2.2.1 | exact hd.2.2.2.2.2.1 | exact hd.2.2.2.2.2.2.1 | exact hd.2.2.2.2.2.2.2.1)
    have f0 := ((HC.out w1 hb).1 1 _ rfl).1
    clear hT hd hb ha0
    refine gr_pure (v := .slice A2 s.doms.length c2) ?_ rfl
    simp only [execOp]
    go_simp
  case s5 =>
    refine ⟨rfl, fun T w1 hT hb ha0 hd => ?_⟩
    have ec := evT_const T
    have ef := evT_func T
    have d12 : evT T (.tmp 12) = .slice A2 s.doms.length c2 := (by first | exact hd.1 | exact hd.2.1 | exact hd.2.2.1 | exact hd.2.2.2.1 | exact hd.2.2.2.2.1 | exact hd.2.2.2.2.2.1 | exact hd.2.2.2.2.2.2.1 | exact hd.2.2.2.2.2.2.2.1)
    refine gr_callB (f := 59) (args := #[.slice A2 s.doms.length c2]) ?_ ?_
    · clear hT hd hb ha0
      simp only [execOp, resolve]
      go_simp
    · refine (clone62_any _ _ s.doms w w1 (by have := HOK.out.n2; omega) (HC.out w1 hb).2 HCV.out.2.1).mono ?_
      rintro en w2 ⟨v, he, h1, h2⟩
      exact ⟨v, he, h1, h2⟩
  case s6 =>
    refine ⟨rfl, fun T w1 hT hb ha0 hd => ?_⟩
    have ec := evT_const T
    have ef := evT_func T
    have d1 : evT T (.tmp 1) = .pointer (some ⟨w.heap.size, 0, none⟩) := hT 1 (by kernel_rfl)
    clear hT hd hb ha0
    refine gr_pure (v := .pointer (some ⟨w.heap.size, 2, none⟩)) ?_ rfl
    simp only [execOp]
    go_simp
  case s7 =>
    refine ⟨rfl, fun T w1 hT hb ha0 hd => ?_⟩
    have ec := evT_const T
    have ef := evT_func T
    have d14 : evT T (.tmp 14) = .pointer (some ⟨w.heap.size, 2, none⟩) := (by first | exact hd.1 | exact hd.2.1 | exact hd.2.2.1 | exact hd.2.2.2.1 | exact hd.2.2.2.2.1 | exact hd.2.2.2.2.2.1 | exact hd.2.2.2.2.2.2.1 | exact hd.2.2.2.2.2.2.2.1)
    have f0 := ((HC.out w1 hb).1 2 _ rfl).1
    clear hT hd hb ha0
    refine gr_pure (v := .slice A3 s.rsts.length c3) ?_ rfl
    simp only [execOp]
    go_simp
  case s8 =>
    refine ⟨rfl, fun T w1 hT hb ha0 hd => ?_⟩
    have ec := evT_const T
    have ef := evT_func T
    have d15 : evT T (.tmp 15) = .slice A3 s.rsts.length c3 := (by first | exact hd.1 | exact hd.2.1 | exact hd.2.2.1 | exact hd.2.2.2.1 | exact hd.2.2.2.2.1 | exact hd.2.2.2.2.2.1 | exact hd.2.2.2.2.2.2.1 | exact hd.2.2.2.2.2.2.2.1)
    refine gr_callB (f := 60) (args := #[.slice A3 s.rsts.length c3]) ?_ ?_
    · clear hT hd hb ha0
      simp only [execOp, resolve]
      go_simp
    · refine (clone63_any _ _ s.rsts w w1 (by have := HOK.out.n3; omega) (HC.out w1 hb).2 HCV.out.2.2.1).mono ?_
      rintro en w2 ⟨v, he, h1, h2⟩
      exact ⟨v, he, h1, h2⟩
  case s9 =>
    refine ⟨rfl, fun T w1 hT hb ha0 hd => ?_⟩
    have ec := evT_const T
    have ef := evT_func T
    have d1 : evT T (.tmp 1) = .pointer (some ⟨w.heap.size, 0, none⟩) := hT 1 (by kernel_rfl)
    clear hT hd hb ha0
    refine gr_pure (v := .pointer (some ⟨w.heap.size, 3, none⟩)) ?_ rfl
    simp only [execOp]
    go_simp
  case s10 =>
    refine ⟨rfl, fun T w1 hT hb ha0 hd => ?_⟩
    have ec := evT_const T
    have ef := evT_func T
    have d17 : evT T (.tmp 17) = .pointer (some ⟨w.heap.size, 3, none⟩) := (by first | exact hd.1 | exact hd.2.1 | exact hd.2.2.1 | exact hd.2.2.2.1 | exact hd.2.2.2.2.1 | exact hd.2.2.2.2.2.1 | exact hd.2.2.2.2.2.2.1 | exact hd.2.2.2.2.2.2.2.1)
    have f0 := ((HC.out w1 hb).1 3 _ rfl).1
    clear hT hd hb ha0
    refine gr_pure (v := .slice A4 s.devs.length c4) ?_ rfl
    simp only [execOp]
    go_simp
  case s11 =>
    refine ⟨rfl, fun T w1 hT hb ha0 hd => ?_⟩
    have ec := evT_const T
    have ef := evT_func T
    have d18 : evT T (.tmp 18) = .slice A4 s.devs.length c4 := (by first | exact hd.1 | exact hd.2.1 | exact hd.2.2.1 | exact hd.2.2.2.1 | exact hd.2.2.2.2.1 | exact hd.2.2.2.2.2.1 | exact hd.2.2.2.2.2.2.1 | exact hd.2.2.2.2.2.2.2.1)
    refine gr_callB (f := 61) (args := #[.slice A4 s.devs.length c4]) ?_ ?_
    · clear hT hd hb ha0
      simp only [execOp, resolve]
      go_simp
    · refine (clone64_any _ _ s.devs w w1 (by have := HOK.out.n4; omega) (HC.out w1 hb).2 HCV.out.2.2.2).mono ?_
      rintro en w2 ⟨v, he, h1, h2⟩
      exact ⟨v, he, h1, h2⟩
  case s12 =>
    refine ⟨rfl, fun T w1 hT hb ha0 hd => ?_⟩
    have ec := evT_const T
    have ef := evT_func T
    have h1 : Cloned ClkV 6 46 w s.clks (evT T (.tmp 10)) w1 := (by first | exact hd.1 | exact hd.2.1 | exact hd.2.2.1 | exact hd.2.2.2.1 | exact hd.2.2.2.2.1 | exact hd.2.2.2.2.2.1 | exact hd.2.2.2.2.2.2.1 | exact hd.2.2.2.2.2.2.2.1)
    have h2 : Cloned DomV 3 75 w s.doms (evT T (.tmp 13)) w1 := (by first | exact hd.1 | exact hd.2.1 | exact hd.2.2.1 | exact hd.2.2.2.1 | exact hd.2.2.2.2.1 | exact hd.2.2.2.2.2.1 | exact hd.2.2.2.2.2.2.1 | exact hd.2.2.2.2.2.2.2.1)
    have h3 : Cloned RstV 1 80 w s.rsts (evT T (.tmp 16)) w1 := (by first | exact hd.1 | exact hd.2.1 | exact hd.2.2.1 | exact hd.2.2.2.1 | exact hd.2.2.2.2.1 | exact hd.2.2.2.2.2.1 | exact hd.2.2.2.2.2.2.1 | exact hd.2.2.2.2.2.2.2.1)
    have h4 : Cloned DevV 6 86 w s.devs (evT T (.tmp 19)) w1 := (by first | exact hd.1 | exact hd.2.1 | exact hd.2.2.1 | exact hd.2.2.2.1 | exact hd.2.2.2.2.1 | exact hd.2.2.2.2.2.1 | exact hd.2.2.2.2.2.2.1 | exact hd.2.2.2.2.2.2.2.1)
    obtain ⟨u1, d10⟩ : ∃ u, evT T (.tmp 10) = u := ⟨_, rfl⟩
    obtain ⟨u2, d13⟩ : ∃ u, evT T (.tmp 13) = u := ⟨_, rfl⟩
    obtain ⟨u3, d16⟩ : ∃ u, evT T (.tmp 16) = u := ⟨_, rfl⟩
    obtain ⟨u4, d19⟩ : ∃ u, evT T (.tmp 19) = u := ⟨_, rfl⟩
    rw [d10] at h1
    rw [d13] at h2
    rw [d16] at h3
    rw [d19] at h4
    refine gr_pure (v := .agg #[u1, u2, u3, u4]) ?_ ⟨u1, u2, u3, u4, rfl, h1, h2, h3, h4⟩
    obtain ⟨_, _, _, ho1⟩ := h1
    obtain ⟨_, _, _, ho2⟩ := h2
    obtain ⟨_, _, _, ho3⟩ := h3
    obtain ⟨_, _, _, ho4⟩ := h4
    obtain ⟨B1, e1, rfl⟩ := own_shape' ho1
    obtain ⟨B2, e2, rfl⟩ := own_shape' ho2
    obtain ⟨B3, e3, rfl⟩ := own_shape' ho3
    obtain ⟨B4, e4, rfl⟩ := own_shape' ho4
    clear hT hd hb ha0 ho1 ho2 ho3 ho4
    simp only [execOp]
    go_simp
  case s13 =>
    refine ⟨rfl, fun T w1 hT hb ha0 hd => ?_⟩
    have ec := evT_const T
    have ef := evT_func T
    have hz := hb.size
    simp only [World.size_alloc] at hz
    refine gr_made (v := mkPtr w1.heap.size) (w' := w1.alloc (.cells [.slice none 0 0, .slice none 0 0, .slice none 0 0, .slice none 0 0].toArray 27)) ?_ (World.grownBy_alloc _ _ _) (show IsBlk (w.heap.size + 2) mkPtr [.slice none 0 0, .slice none 0 0, .slice none 0 0, .slice none 0 0] 27 (mkPtr w1.heap.size) _ from isBlk_new (by omega))
    clear hT hd hb ha0
    simp only [execOp, mkPtr]
    go_simp
  case fin =>
    intro T w1 o ho hT hb hd
    obtain rfl : _ = o := Option.some.inj ho
    clear ho
    have ec := evT_const T
    simp only [putL, Act.put, Option.getD_some, List.setIfInBounds_toArray, List.set_cons_zero, List.set_cons_succ]
    obtain ⟨b3, d3, hb3, hbh3⟩ : IsBlk (w.heap.size + 2) mkPtr [.slice none 0 0, .slice none 0 0, .slice none 0 0, .slice none 0 0] 27 (evT T (.tmp 3)) w1 := hd.2.2.2.2.2.2.2.2.2.2.2.2.2.1
    obtain ⟨u1, u2, u3, u4, d20, h1, h2, h3, h4⟩ : Four s w (evT T (.tmp 20)) w1 := hd.2.2.2.2.2.2.2.2.2.2.2.2.1
    obtain ⟨B1, e1, rfl⟩ : ∃ A c, u1 = .slice A s.clks.length c := by obtain ⟨_, _, _, ho⟩ := h1; exact own_shape' ho
    obtain ⟨B2, e2, rfl⟩ : ∃ A c, u2 = .slice A s.doms.length c := by obtain ⟨_, _, _, ho⟩ := h2; exact own_shape' ho
    obtain ⟨B3, e3, rfl⟩ : ∃ A c, u3 = .slice A s.rsts.length c := by obtain ⟨_, _, _, ho⟩ := h3; exact own_shape' ho
    obtain ⟨B4, e4, rfl⟩ : ∃ A c, u4 = .slice A s.devs.length c := by obtain ⟨_, _, _, ho⟩ := h4; exact own_shape' ho
    obtain ⟨w3, hrun, hbox, hmv⟩ := store27 d3 d20 (BoxAt.of_blk hbh3)
    refine ⟨undef, w3, .inr (hrun _ _ _), ?_⟩
    have e3' : T 3 = .pointer (some ⟨b3, 0, none⟩) := d3
    rw [e3']
    have hst := copy_start hb hbh3 hb3 h1 h2 h3 h4 hmv hbox
    have HST := Lib.hid hst
    have HBX := Lib.hid hst.bx
    clear hT hd hb d3 d20 hbh3 h1 h2 h3 h4 hbox hmv hrun e3' hst ec HC
    obtain ⟨x0, y0⟩ := HBX.out 0 _ rfl
    obtain ⟨x3, y3⟩ := HBX.out 3 _ rfl
    go_wp2
    refine copyF_any w w3 (w.heap.size + 1) b3 s _ _ _ _ HOK.out HST.out HST.out.bl.size _ ⟨rfl, rfl⟩ rfl rfl rfl rfl _ ?_
    clear HST HBX x0 y0 x3 y3
    intro a1 w4 hF1 q2 q3 hs4 hfr4
    obtain ⟨t, hfr4⟩ := hfr4
    have HFR4 := Lib.hid hfr4
    clear hfr4
    have HS4 := Lib.hid hs4
    have HBX := Lib.hid hs4.bx
    clear hs4
    obtain ⟨x3, y3⟩ := HBX.out 3 _ rfl
    simp only [Exit.then, Exit.inBlock, ↓reduceIte]
    obtain ⟨F1, rfl⟩ := hF1.open_
    rw [slT_listT (by omega)] at q2 q3
    rw [lit68, q2, q3]
    clear hF1 q2 q3
    go_wp2
    refine copyG_any w w4 (w.heap.size + 1) b3 s _ _ _ _ t (t s.clks.length) HOK.out HS4.out HFR4.out HFR4.out.last _ ⟨rfl, rfl⟩ rfl rfl rfl rfl _ ?_
    clear HS4 HBX x3 y3
    intro a2 w5 hF2 q2 q3 hs5 hnd5
    obtain ⟨hfr5, u, hdv5⟩ := hnd5
    have HFR5 := Lib.hid hfr5
    have HDV5 := Lib.hid hdv5
    clear hfr5 hdv5
    have HS5 := Lib.hid hs5
    obtain ⟨x0, y0⟩ := hs5.bx 0 _ rfl
    obtain ⟨x1, y1⟩ := hs5.bx 1 _ rfl
    obtain ⟨x2, y2⟩ := hs5.bx 2 _ rfl
    obtain ⟨x3, y3⟩ := hs5.bx 3 _ rfl
    obtain ⟨z0, t0⟩ := hs5.br 0 _ rfl
    obtain ⟨z1, t1⟩ := hs5.br 1 _ rfl
    obtain ⟨z2, t2⟩ := hs5.br 2 _ rfl
    obtain ⟨z3, t3⟩ := hs5.br 3 _ rfl
    clear hs5
    simp only [Exit.then, Exit.inBlock, ↓reduceIte]
    obtain ⟨F2, rfl⟩ := hF2.open_
    rw [slT_listT (by omega)] at q2 q3
    rw [lit68, q2, q3]
    clear hF2 q2 q3
    go_wp2
    have hm : ∀ (W : World) (j : Nat) (u : Value), Moved [w.heap.size + 1] W (W.setCell ⟨w.heap.size + 1, j, none⟩ u) := fun W j u => Moved.setCell W (by simp) u
    have hend := HS5.out.done ((((hm w5 0 (.slice B1 s.clks.length e1)).trans (hm _ 1 (.slice B2 s.doms.length e2))).trans (hm _ 2 (.slice B3 s.rsts.length e3))).trans (hm _ 3 (.slice B4 s.devs.length e4)))
    exact bodyPost_ret (v := .agg #[.slice B1 s.clks.length e1, .slice B2 s.doms.length e2, .slice B3 s.rsts.length e3, .slice B4 s.devs.length e4]) (by simp [results, Try.results25, go_sem, z0, z1, z2, z3, t0, t1, t2, t3]) rfl ⟨_, _, _, _, rfl, hend.1, ⟨w.heap.size + 1, b3, t, u, ((((HFR5.out.set (p := ⟨w.heap.size + 1, 0, none⟩) (by simp) (HS5.out.own.z1) _).set (p := ⟨w.heap.size + 1, 1, none⟩) (by simp) (HS5.out.own.z1) _).set (p := ⟨w.heap.size + 1, 2, none⟩) (by simp) (HS5.out.own.z1) _).set (p := ⟨w.heap.size + 1, 3, none⟩) (by simp) (HS5.out.own.z1) _),
      ((((HDV5.out.set (p := ⟨w.heap.size + 1, 0, none⟩) (by simp) (HS5.out.own.z4) _).set (p := ⟨w.heap.size + 1, 1, none⟩) (by simp) (HS5.out.own.z4) _).set (p := ⟨w.heap.size + 1, 2, none⟩) (by simp) (HS5.out.own.z4) _).set (p := ⟨w.heap.size + 1, 3, none⟩) (by simp) (HS5.out.own.z4) _)⟩, hend.2⟩
end
end

section
set_option linter.unusedSimpArgs false
set_option linter.unusedVariables false
open Go.RowKit Go.Maps

theorem Try.info63 : (Try.prog.info? 63).map (fun i => (i.zero, i.size, i.bytes)) = some (some (.agg #[.int .u8 0, .slice none 0 0, .int .u64 0, .int .i64 0, .int .i64 0, .int .i64 0, .bool false, .int .i64 0, .int .i64 0, .int .i64 0]), 10, 96) := by kernel_rfl

theorem up_mono' {f : Nat → Nat} {n : Nat} (h : ∀ k, k < n → f k ≤ f (k + 1)) {i : Nat} : ∀ {j : Nat}, i ≤ j → j ≤ n → f i ≤ f j
  | 0, hi, _ => by
    have : i = 0 := by omega
    subst this; exact Nat.le_refl _
  | j + 1, hi, hj => by
    rcases Nat.eq_or_lt_of_le hi with e | hlt
    · subst e; exact Nat.le_refl _
    · exact Nat.le_trans (up_mono' h (j := j) (by omega) (by omega)) (h j (by omega))
/-- one clock of the copy: its cells, and the row inside, in blocks from B on -/
def ClkAt (W : World) (B g k : Nat) (x : Clk) : Prop :=
  ∃ A c, x.frm.length ≤ c ∧ (∀ j u, ([.int .u8 x.kind, .slice A x.frm.length c, .int .u64 x.rate, .int .i64 x.mul, .int .i64 x.div, .int .i64 x.lock] : List Value)[j]? = some u → W.cell? ⟨g, k * 6 + j, none⟩ = some u) ∧
    (0 < x.frm.length → ∃ ad, A = some ad ∧ B ≤ ad.block ∧ ad.block < W.heap.size ∧ ∀ j y, x.frm[j]? = some y → W.cell? (ad.add j) = some (.int .i64 y))
/-- the clocks that conf.Copy leaves -/
theorem clk_at {w w' : World} {s : Chip} {v1 v2 v3 v4 : Value} (ho : Own4 w' w.heap.size s v1 v2 v3 v4)
    (hr : ∃ b2 b3 t u, FromsAt w w' b2 b3 s v1 v2 v3 v4 t s.clks.length ∧ DevsAt w' b2 b3 s v1 v2 v3 v4 (t s.clks.length) u (2 * s.devs.length)) :
    ∃ A c, v1 = .slice A s.clks.length c ∧ ∀ k x, s.clks[k]? = some x → ∃ g, A = some ⟨g, 0, none⟩ ∧ w.heap.size ≤ g ∧ g < w'.heap.size ∧ ClkAt w' w.heap.size g k x := by
  obtain ⟨b2, b3, t, u, hf, hd⟩ := hr
  obtain ⟨A, c, rfl, -, -⟩ := ho.clks.shape
  refine ⟨A, c, rfl, fun k x hx => ?_⟩
  have hk := (List.getElem?_eq_some_iff.1 hx).1
  obtain ⟨g, cap, e, hb, hl⟩ := Own5.form ho.clks (by omega)
  injection e with e1 _ e2
  subst e1 e2
  refine ⟨g, rfl, hb, hl, ?_⟩
  obtain ⟨vs, hvl, ⟨Ax, cx, rfl, hcx, -⟩, hc⟩ := ho.clks.cell rfl hx
  refine ⟨Ax, cx, hcx, fun j u hj => (hc j u hj).1, fun hp => ?_⟩
  obtain ⟨v, q1, q2, q3, q4⟩ := hf.row k hk x g hx rfl
  have e := (hc 1 _ rfl).1
  rw [q1] at e
  obtain rfl := Option.some.inj e
  obtain ⟨ad, ea, hbl, hcell⟩ := (ints_own q3 [] (fun _ _ => by simp)).ints hp
  refine ⟨ad, ea, ?_, hbl, hcell⟩
  have h1 := up_mono' hf.up (i := 0) (j := k) (by omega) (by omega)
  have h2 := hf.zero
  have h3 := (q3.lt ad.block (by rw [ea]; rfl)).1
  omega
end

section
set_option linter.unusedSimpArgs false
set_option linter.unusedVariables false
open Go.RowKit Go.Maps

/-- the box of a description stands -/
def Bx (w : World) (vs : List Value) (W : World) : Prop := Below (w.heap.size + 1) (w.alloc (.cells vs.toArray 27)) W
namespace Bx
variable {w W W' : World} {vs : List Value}
theorem start (w : World) (vs : List Value) : Bx w vs (w.alloc (.cells vs.toArray 27)) := Below.refl _ _
theorem box (h : Bx w vs W) : ∀ j u, vs[j]? = some u → W.cell? ⟨w.heap.size, j, none⟩ = some u := fun j u hj =>
  (Below.cell h (p := ⟨w.heap.size, j, none⟩) (by show w.heap.size < w.heap.size + 1; omega)).trans ((BoxAt.new w vs 27) j u hj).1
theorem low (h : Bx w vs W) : Below w.heap.size w W := ((Below.refl w.heap.size w).alloc (Nat.le_refl _) (.cells vs.toArray 27)).trans (Below.mono h (Nat.le_succ _))
theorem size (h : Bx w vs W) : w.heap.size + 1 ≤ W.heap.size := by
  have := Below.size h
  simpa using this
theorem chip {s : Chip} (h : Bx w vs W) (hx : ChipV w w.heap.size s vs) : ChipV W W.heap.size s vs := Steady.later hx h.low
theorem step (h : Bx w vs W) (hb : Below W.heap.size W W') : Bx w vs W' := Below.trans h (hb.mono h.size)
theorem moved (h : Bx w vs W) (hm : Moved [] W W') : Bx w vs W' := Below.trans h (hm.below (by simp) h.size)
end Bx
def NewErr (E : Int) (w : World) (e : Ending) (w' : World) : Prop := e = .returned (.tuple #[.pointer none, .int .i64 E]) ∧ Below w.heap.size w w'
set_option maxRecDepth 100000 in
set_option maxHeartbeats 4000000 in
theorem new_err (s : Chip) (vs : List Value) (w : World) (hok : ChipOk s) (h : ChipV w w.heap.size s vs) (hE : chipE s ≠ 0) : Calls Try.prog 12 #[.agg vs.toArray] w (NewErr (chipE s) w) := by
  obtain ⟨E, hEE⟩ : ∃ E, chipE s = E := ⟨_, rfl⟩
  rw [hEE] at hE ⊢
  have HE := Lib.hid hEE
  have hz : (E != 0) = true := by simpa using hE
  have HCV := Lib.hid h
  obtain ⟨A1, c1, A2, c2, A3, c3, A4, c4, rfl, -, -, -, -, -, -, -, -⟩ := h
  have HOK := Lib.hid hok
  have hst := Bx.start w [.slice A1 s.clks.length c1, .slice A2 s.doms.length c2, .slice A3 s.rsts.length c3, .slice A4 s.devs.length c4]
  have HST := Lib.hid hst
  have HC0 := Lib.hid (hst.chip HCV.out)
  clear hE hEE hok hst
  go_enter Try.func12, Try.ntmps12
  go_wp2_with fail
  refine (chip_check s _ _ HOK.out HC0.out).mono ?_
  rintro e w1 ⟨rfl, hb⟩
  rw [HE.out]
  have HB1 := Lib.hid (HST.out.step hb)
  clear hb
  go_wp2
  go_ret2
  exact ⟨rfl, HB1.out.low⟩
end

section
set_option linter.unusedSimpArgs false
set_option linter.unusedVariables false
open Go.RowKit Go.Maps

/-- a tree under way: its box, and the row that the call owns -/
structure NewS (W2 wr : World) (gt : Nat) (C : Option Addr) (n d : Nat) (sts : List Sta) : Prop where
  box : BoxAt wr gt [.slice C n d]
  row : RowC StaC 10 63 (gt :: (Value.slice C n d).ownBlock.toList ++ []) wr W2.heap.size (.slice C n d) sts
  ne : (Value.slice C n d).ownBlock ≠ some gt
  mv : Moved [gt] W2 wr
def NewOk (s : Chip) (w : World) (e : Ending) (w' : World) : Prop :=
  ∃ gt C n d, e = .returned (.tuple #[.pointer (some ⟨gt, 0, none⟩), .int .i64 0]) ∧ w.heap.size ≤ gt ∧ BoxAt w' gt [.slice C n d] ∧ RowC StaC 10 63 (gt :: (Value.slice C n d).ownBlock.toList) w' w.heap.size (.slice C n d) (s.clks.map freshS) ∧ (Value.slice C n d).ownBlock ≠ some gt ∧ Below w.heap.size w w'

/-- the box of a new state, behind unlock -/
theorem fresh_box (wr w6 : World) (o : Obj) (x : Clk) (A : Option Addr) (c : Nat)
    (h : w6 = if x.kind = 112 then ((wr.alloc o).alloc (.cells #[.int .u8 x.kind, .slice A x.frm.length c, .int .u64 x.rate, .int .i64 x.mul, .int .i64 x.div, .int .i64 x.lock, .bool false, .int .i64 0, .int .i64 0, .int .i64 0] 63)).setCell ⟨wr.heap.size + 1, 0 + 7, none⟩ (.int .i64 x.lock) else (wr.alloc o).alloc (.cells #[.int .u8 x.kind, .slice A x.frm.length c, .int .u64 x.rate, .int .i64 x.mul, .int .i64 x.div, .int .i64 x.lock, .bool false, .int .i64 0, .int .i64 0, .int .i64 0] 63)) :
    BoxAt w6 (wr.heap.size + 1) (staL (freshS x) A c) ∧ Moved [] wr w6 := by
  have hb := BoxAt.new (wr.alloc o) [.int .u8 x.kind, .slice A x.frm.length c, .int .u64 x.rate, .int .i64 x.mul, .int .i64 x.div, .int .i64 x.lock, .bool false, .int .i64 0, .int .i64 0, .int .i64 0] 63
  simp only [World.size_alloc] at hb
  have hm : Moved [] wr ((wr.alloc o).alloc (.cells #[.int .u8 x.kind, .slice A x.frm.length c, .int .u64 x.rate, .int .i64 x.mul, .int .i64 x.div, .int .i64 x.lock, .bool false, .int .i64 0, .int .i64 0, .int .i64 0] 63)) := (Moved.alloc _ _).trans (Moved.alloc _ _)
  by_cases hk : x.kind = 112
  · rw [if_pos hk] at h
    subst h
    have h7 := hb.set (j := 7) (by simp) (.int .i64 x.lock)
    refine ⟨?_, (hm.mono (by simp)).trans (Moved.setCell (hot := [wr.heap.size + 1]) _ (by simp) _) |>.drop (by omega)⟩
    have e : staL (freshS x) A c = [.int .u8 x.kind, .slice A x.frm.length c, .int .u64 x.rate, .int .i64 x.mul, .int .i64 x.div, .int .i64 x.lock, .bool false, .int .i64 x.lock, .int .i64 0, .int .i64 0] := by simp [staL, freshS, lockL, hk]
    rw [e]
    exact h7
  · rw [if_neg hk] at h
    subst h
    refine ⟨?_, hm⟩
    have e : staL (freshS x) A c = [.int .u8 x.kind, .slice A x.frm.length c, .int .u64 x.rate, .int .i64 x.mul, .int .i64 x.div, .int .i64 x.lock, .bool false, .int .i64 0, .int .i64 0, .int .i64 0] := by simp [staL, freshS, lockL, hk]
    rw [e]
    exact hb
theorem fresh_ints {w2 wr W5 : World} {B gt : Nat} {x : Clk} {A : Option Addr} {hot : List Nat} (hm : Moved [gt] w2 wr) (hM : Moved [] wr W5) (hgt : gt < B) (hh : ∀ b, b ∈ hot → b = gt ∨ w2.heap.size ≤ b)
    (h : 0 < x.frm.length → ∃ ad, A = some ad ∧ B ≤ ad.block ∧ ad.block < w2.heap.size ∧ ∀ j y, x.frm[j]? = some y → w2.cell? (ad.add j) = some (.int .i64 y)) : IntsC hot W5 A x.frm := fun hl => by
  obtain ⟨ad, e, h1, h2, h3⟩ := h hl
  have hne : ad.block ∉ [gt] := by simp; omega
  refine ⟨ad, e, by have := hm.size; have := hM.size; omega, fun hb => by rcases hh _ hb with h | h <;> omega, fun j y hj => hM.cell (hm.cell (h3 j y hj) (by rw [block_add]; exact hne)) (by simp)⟩

set_option maxRecDepth 100000 in
set_option maxHeartbeats 8000000 in
theorem new_ok (s : Chip) (vs : List Value) (w : World) (hok : ChipOk s) (h : ChipV w w.heap.size s vs) (hE : chipE s = 0) : Calls Try.prog 12 #[.agg vs.toArray] w (NewOk s w) := by
  have HE := Lib.hid hE
  have HCV := Lib.hid h
  obtain ⟨A1, c1, A2, c2, A3, c3, A4, c4, rfl, -, -, -, -, -, -, -, -⟩ := h
  have HOK := Lib.hid hok
  have hst := Bx.start w [.slice A1 s.clks.length c1, .slice A2 s.doms.length c2, .slice A3 s.rsts.length c3, .slice A4 s.devs.length c4]
  have HST := Lib.hid hst
  have HC0 := Lib.hid (hst.chip HCV.out)
  have hn := hok.n1
  clear hE hok hst
  go_enter Try.func12, Try.ntmps12
  go_wp2_with fail
  refine (chip_check s _ _ HOK.out HC0.out).mono ?_
  rintro e w1 ⟨rfl, hb⟩
  rw [HE.out]
  have hb1 := HST.out.step hb
  have hb2 := hb1.moved (Moved.alloc w1 (.cells #[.slice none 0 0] 60))
  have HB2 := Lib.hid hb2
  have HC1 := Lib.hid (hb2.chip HCV.out)
  have x0 := hb2.box 0 _ rfl
  have x1 := hb2.box 1 _ rfl
  have x2 := hb2.box 2 _ rfl
  have x3 := hb2.box 3 _ rfl
  have hz1 := hb1.size
  clear hb hb1 hb2 HC0 HST
  go_wp2_with fail
  refine (copy_own s _ _ HOK.out HC1.out).mono ?_
  rintro e w2 ⟨v1, v2, v3, v4, rfl, hown, hrows, hb⟩
  obtain ⟨D2, r2, rfl, -, -⟩ := hown.doms.shape
  obtain ⟨D3, r3, rfl, -, -⟩ := hown.rsts.shape
  obtain ⟨D4, r4, rfl, -, -⟩ := hown.devs.shape
  obtain ⟨A, c, rfl, hat⟩ := clk_at hown hrows
  have hz2 := hb.size
  simp only [World.size_alloc] at hz2 hat
  have hbt : BoxAt w2 w1.heap.size [.slice none 0 0] := (BoxAt.new w1 [.slice none 0 0] 60).move (Moved.of_below hb : Moved [] _ _) (by simp)
  have hn0 : NewS w2 w2 w1.heap.size none 0 0 [] := ⟨hbt, RowC.nil _ _ _ _ _ _, by simp [Value.ownBlock], Moved.refl _ _⟩
  have HN0 := Lib.hid hn0
  have HAT := Lib.hid hat
  have HB3 := Lib.hid (HB2.out.step hb)
  have hfd : ∀ W : World, (Instr.field 27 (.agg #[.slice A s.clks.length c, .slice D2 s.doms.length r2, .slice D3 s.rsts.length r3, .slice D4 s.devs.length r4]) 0).run Try.prog W = .ok (.slice A s.clks.length c) W := fun _ => by kernel_rfl
  clear hown hrows hb hat hbt hn0 x0 x1 x2 x3 HB2 HC1 HE
  go_wp2
  go_loopw [20] (fun i wr => ∃ (k : Nat) (C : Option Addr) (n d : Nat), k ≤ s.clks.length ∧ i = .int .i64 k ∧ RowKit.Hid (NewS w2 wr w1.heap.size C n d ((s.clks.take k).map freshS))) (fun i _ => s.clks.length - (intOf i).toNat)
  case atStart => exact ⟨0, none, 0, 0, Nat.zero_le _, rfl, Lib.hid (by rw [List.take_zero]; exact HN0.out)⟩
  case round =>
    clear HN0
    obtain ⟨k, C, n, d, hk, rfl, HN⟩ := hrel
    by_cases hlt : k < s.clks.length
    · have hx := List.getElem?_eq_getElem hlt
      generalize s.clks[k] = x at hx
      obtain ⟨g, rfl, hg1, hg2, Ax, cx, hcx, hcell, hint⟩ := HAT.out k x hx
      have hxl := (HOK.out.clks x (List.mem_of_getElem? hx)).1
      have HXX := Lib.hid hx
      have HINT := Lib.hid hint
      have hgt : g ≠ w1.heap.size := by omega
      have h0 : wr.cell? ⟨g, k * 6, none⟩ = some (.int .u8 x.kind) := HN.out.mv.cell (hcell 0 _ rfl) (by simpa using hgt)
      have h1 := HN.out.mv.cell (hcell 1 _ rfl) (by simpa using hgt)
      have h2 := HN.out.mv.cell (hcell 2 _ rfl) (by simpa using hgt)
      have h3 := HN.out.mv.cell (hcell 3 _ rfl) (by simpa using hgt)
      have h4 := HN.out.mv.cell (hcell 4 _ rfl) (by simpa using hgt)
      have h5 := HN.out.mv.cell (hcell 5 _ rfl) (by simpa using hgt)
      have hsz := HN.out.mv.size
      have i0 : (0 : Int) ≤ (k : Int) := by omega
      have i1 : (k : Int) < (s.clks.length : Int) := by omega
      clear hx hint hcell
      have hbx0 := BoxAt.new (wr.alloc (.cells #[.int .u8 x.kind, .slice Ax x.frm.length cx, .int .u64 x.rate, .int .i64 x.mul, .int .i64 x.div, .int .i64 x.lock] 46)) [.int .u8 x.kind, .slice Ax x.frm.length cx, .int .u64 x.rate, .int .i64 x.mul, .int .i64 x.div, .int .i64 x.lock, .bool false, .int .i64 0, .int .i64 0, .int .i64 0] 63
      simp only [World.size_alloc] at hbx0
      have HBX0 := Lib.hid hbx0
      clear hbx0
      go_wp2_with fail
      refine (unlock_any (wr.heap.size + 1) 0 x.kind x.lock 0 _ (HBX0.out 0 _ rfl).1 (HBX0.out 5 _ rfl).1 (HBX0.out 7 _ rfl).1 (HBX0.out 7 _ rfl).2).mono ?_
      rintro e w6 ⟨⟨v, rfl⟩, hw6⟩
      obtain ⟨hbx, hm6⟩ := fresh_box wr w6 _ x Ax cx hw6
      have hbt := HN.out.box.move hm6 (by simp)
      have hz6 := hm6.size
      have hlz := hbx.lt
      have hrow := HN.out.row
      have hlen0 : ((s.clks.take k).map freshS).length = k := by simp; omega
      have hnk : n = k := by
        obtain ⟨A0, c0, e0, _, _⟩ := hrow.shape
        injection e0 with _ e1 _
        omega
      subst n
      have hbl : ∀ g, (Value.slice C k d).ownBlock = some g → w2.heap.size ≤ g ∧ g < w6.heap.size := by
        obtain ⟨_, _, _, _, hbl⟩ := hrow.shape
        exact fun g hg => ⟨(hbl g hg).1, by have := (hbl g hg).2; omega⟩
      clear hlen0
      have hM5 : Moved [] wr (w6.alloc (.cells #[.int .u8 x.kind, .slice Ax x.frm.length cx, .int .u64 x.rate, .int .i64 x.mul, .int .i64 x.div, .int .i64 x.lock, .bool false, .int .i64 (lockL x), .int .i64 0, .int .i64 0] 63)) := hm6.trans (Moved.alloc _ _)
      have hxC : StaC (w1.heap.size :: (Value.slice C k d).ownBlock.toList ++ []) (w6.alloc (.cells #[.int .u8 x.kind, .slice Ax x.frm.length cx, .int .u64 x.rate, .int .i64 x.mul, .int .i64 x.div, .int .i64 x.lock, .bool false, .int .i64 (lockL x), .int .i64 0, .int .i64 0] 63)) (freshS x) [.int .u8 x.kind, .slice Ax x.frm.length cx, .int .u64 x.rate, .int .i64 x.mul, .int .i64 x.div, .int .i64 x.lock, .bool false, .int .i64 (lockL x), .int .i64 0, .int .i64 0] :=
        ⟨Ax, cx, rfl, hcx, fresh_ints (B := w1.heap.size + 1) (w2 := w2) HN.out.mv hM5 (by omega) (fun b hb => by
          simp at hb
          rcases hb with h | h
          · exact .inl h
          · exact .inr (hbl b h).1) HINT.out⟩
      obtain ⟨vss, hv1, hv2⟩ := row_stepH (H := []) hrow HN.out.box.lt HN.out.ne hM5 hxC rfl
      have hlen : ((s.clks.take k).map freshS).length = k := by simp; omega
      rw [hlen] at hv1 hv2
      obtain ⟨z0, z1⟩ := hbt 0 _ rfl
      have b0 := (hbx 0 _ rfl).1
      have b1 := (hbx 1 _ rfl).1
      have b2 := (hbx 2 _ rfl).1
      have b3 := (hbx 3 _ rfl).1
      have b4 := (hbx 4 _ rfl).1
      have b5 := (hbx 5 _ rfl).1
      have b6 := (hbx 6 _ rfl).1
      have b7 : w6.cell? ⟨wr.heap.size + 1, 7, none⟩ = some (.int .i64 (lockL x)) := (hbx 7 _ rfl).1
      have b8 : w6.cell? ⟨wr.heap.size + 1, 8, none⟩ = some (.int .i64 0) := (hbx 8 _ rfl).1
      have b9 : w6.cell? ⟨wr.heap.size + 1, 9, none⟩ = some (.int .i64 0) := (hbx 9 _ rfl).1
      have HBL := Lib.hid hbl
      have HV1 := Lib.hid hv1
      have HV2 := Lib.hid hv2
      have HBT := Lib.hid hbt
      have HM6 := Lib.hid hm6
      have HNE := Lib.hid HN.out.ne
      obtain ⟨i63, hi, hz0, hzs, hzb⟩ := info_parts Try.info63
      simp only [freshS] at b0 b1 b2 b3 b4 b5 b6
      clear hv1 hv2 hbt hbx hm6 hrow hbl hM5 hxC hlen hw6 HBX0 h0 h1 h2 h3 h4 h5
      clear HINT
      have z0' := Lib.cell?_alloc_some (Obj.cells #[.int .u8 x.kind, .slice Ax x.frm.length cx, .int .u64 x.rate, .int .i64 x.mul, .int .i64 x.div, .int .i64 x.lock, .bool false, .int .i64 (lockL x), .int .i64 0, .int .i64 0] 63) z0
      have HZ0 := Lib.hid z0
      have HZ1 := Lib.hid z1
      go_wp2
      go_region_law (refine step_append_lies _ (by rfl) (.tmp 31) (.tmp 33) _ (by rfl) w2.heap.size 63 i63 _ 10 96 Try.underlying58 hi hz0 hzs hzb rfl (by omega) (.slice C k d) k _ (by rfl) (HV1.out.drew) ⟨w6.heap.size, 0, none⟩ 1 1 [.int .u8 x.kind, .slice Ax x.frm.length cx, .int .u64 x.rate, .int .i64 x.mul, .int .i64 x.div, .int .i64 x.lock, .bool false, .int .i64 (lockL x), .int .i64 0, .int .i64 0] (by rfl) (by rfl) (World.news_of_block (cs := #[.int .u8 x.kind, .slice Ax x.frm.length cx, .int .u64 x.rate, .int .i64 x.mul, .int .i64 x.div, .int .i64 x.lock, .bool false, .int .i64 (lockL x), .int .i64 0, .int .i64 0]) (t := 63) (fr := (0, 0)) (heap_alloc_new w6 _)) (by intro u hu; simp at hu; rcases hu with rfl | rfl | rfl | rfl | rfl | rfl | rfl | rfl | rfl | rfl <;> rfl) (by omega) (by unfold maxLen; omega) (by omega) (by simp; omega) (w6.heap.size + 1) (by simp) ?_; intro g7 cap7 w7 hown7 hg7 hat7 hlt7; have hg8 : (w6.alloc (.cells #[.int .u8 x.kind, .slice Ax x.frm.length cx, .int .u64 x.rate, .int .i64 x.mul, .int .i64 x.div, .int .i64 x.lock, .bool false, .int .i64 (lockL x), .int .i64 0, .int .i64 0] 63)).grownBy w7 (Value.slice C k d).ownBlock := (grown_of_below ((Below.refl (w6.alloc (.cells #[.int .u8 x.kind, .slice Ax x.frm.length cx, .int .u64 x.rate, .int .i64 x.mul, .int .i64 x.div, .int .i64 x.lock, .bool false, .int .i64 (lockL x), .int .i64 0, .int .i64 0] 63)).heap.size (w6.alloc (.cells #[.int .u8 x.kind, .slice Ax x.frm.length cx, .int .u64 x.rate, .int .i64 x.mul, .int .i64 x.div, .int .i64 x.lock, .bool false, .int .i64 (lockL x), .int .i64 0, .int .i64 0] 63))).drew) _).trans hg7; have hm7 : Moved (Value.slice C k d).ownBlock.toList w6 w7 := (Moved.alloc w6 _).trans (Moved.of_grown hg8 (fun k hk => by simp [hk])); have hbx7 := HBT.out.move hm7 (by simpa using HNE.out); have hd7 := (hbx7 0 _ rfl).1; have hf7 := (hbx7 0 _ rfl).2)
      all_goals
        obtain ⟨ne7, mv7, hfin⟩ := HV2.out _ _ hown7 hg8 (by rcases hat7 with h | h; exact .inl h.symm; exact .inr (by rw [h]; simp [Value.ownBlock]))
        go_wp2_with fail
        go_roundw
        case measure => simp [intOf]; omega
        case rel =>
          refine ⟨k + 1, some ⟨g7, 0, none⟩, k + 1, cap7, hlt, by go_num, Lib.hid ⟨hbx7.set (j := 0) (by simp) _, ?_, ne7, ?_⟩⟩
          · have ht : (s.clks.take (k + 1)).map freshS = (s.clks.take k).map freshS ++ [freshS x] := by rw [List.take_add_one, HXX.out, List.map_append]; rfl
            rw [ht]
            exact (hfin 0 _).1
          · exact HN.out.mv.trans' (hfin 0 _).2 (fun b hb => by
              simp at hb
              rcases hb with rfl | hb
              · exact .inl (by simp)
              · exact .inr (HBL.out b hb).1)
    · have hke : k = s.clks.length := by omega
      subst hke
      have i1 : ¬ ((s.clks.length : Int) < (s.clks.length : Int)) := by omega
      have HZ1 := Lib.hid hz1
      go_wp2_with fail
      go_ret2
      refine ⟨w1.heap.size, C, _, d, rfl, by have := HZ1.out; omega, HN.out.box, ?_, HN.out.ne, ?_⟩
      · have hr := HN.out.row
        rw [List.take_length, List.append_nil] at hr
        exact hr.base (by have := HB3.out.size; omega)
      · exact HB3.out.low.trans (HN.out.mv.below (by have := HZ1.out; simp; omega) (by have := HB3.out.size; omega))
end

section
set_option linter.unusedSimpArgs false
set_option linter.unusedVariables false
open Go.RowKit Go.Maps

/-- is i a clock of n? -/
def hasB (n : Nat) (i : Int) : Bool := decide (0 ≤ i ∧ i < (n : Int))

theorem has_any (gt : Nat) (C : Option Addr) (n d : Nat) (i : Int) (w : World) (h : BoxAt w gt [.slice C n d]) :
    Calls Try.prog 49 #[.pointer (some ⟨gt, 0, none⟩), .int .i64 i] w fun e w' => e = .returned (.bool (hasB n i)) ∧ w' = w := by
  have h0 := (h 0 _ rfl).1
  have f0 := (h 0 _ rfl).2
  have HE : hasB n i = decide (0 ≤ i ∧ i < (n : Int)) := rfl
  by_cases hi : 0 ≤ i
  · by_cases hn : i < (n : Int)
    · have he : hasB n i = true := by simp [HE, hi, hn]
      rw [he]
      clear HE he h
      go_enter Try.func49, Try.ntmps49
      go_wp2
      go_ret
      exact ⟨rfl, rfl⟩
    · have he : hasB n i = false := by simp [HE, hi, hn]
      rw [he]
      clear HE he h
      go_enter Try.func49, Try.ntmps49
      go_wp2
      go_ret
      exact ⟨rfl, rfl⟩
  · have he : hasB n i = false := by simp [HE, hi]
    rw [he]
    clear HE he h
    go_enter Try.func49, Try.ntmps49
    go_wp2
    go_ret
    exact ⟨rfl, rfl⟩

/-- the bytes of a row -/
def BytesAt (w : World) (g : Nat) (ks : List Int) : Prop := ∀ (j : Nat) (y : Int), ks[j]? = some y → w.cell? ⟨g, j, none⟩ = some (.int .u8 y)

set_option maxHeartbeats 1000000 in
theorem idxb_any (g : Nat) (c : Nat) (ks : List Int) (x : Int) (w : World) (hl : ks.length ≤ 1000) (h : BytesAt w g ks) :
    Calls Try.prog 101 #[.slice (some ⟨g, 0, none⟩) ks.length c, .int .u8 x] w fun e w' => (∃ r : Int, e = .returned (.int .i64 r) ∧ decide (0 ≤ r) = decide (x ∈ ks)) ∧ w' = w := by
  go_enter Try.func101, Try.ntmps101
  go_wp2
  go_loop [8] (fun i => ∃ k : Nat, k ≤ ks.length ∧ i = .int .i64 k ∧ ∀ j y, j < k → ks[j]? = some y → y ≠ x) (fun i => ks.length - (intOf i).toNat)
  case atStart => exact ⟨0, Nat.zero_le _, rfl, fun j y hj => absurd hj (by omega)⟩
  case round =>
    obtain ⟨k, hk, rfl, hno⟩ := hrel
    have HN := Lib.hid hno
    clear hno
    by_cases hlt : k < ks.length
    · have hy := List.getElem?_eq_getElem hlt
      generalize ks[k] = y at hy
      have hc := h k y hy
      have HY := Lib.hid hy
      clear hy
      by_cases hx : x = y
      · subst hx
        go_wp2
        go_ret
        exact ⟨⟨k, rfl, by have := List.mem_of_getElem? HY.out; simp [this]⟩, rfl⟩
      · have hx' : (x == y) = false := by simpa using hx
        have HX := Lib.hid hx
        clear hx
        go_wp2
        go_round
        case rel => exact ⟨k + 1, by omega, by go_num, fun j z hj hz => by
          by_cases e : j = k
          · subst e; rw [HY.out] at hz; injection hz with hz; subst hz; exact fun e => HX.out e.symm
          · exact HN.out j z (by omega) hz⟩
        case measure => simp [intOf]; omega
    · have hm : ¬ x ∈ ks := by
        intro hx
        obtain ⟨j, hj, e⟩ := List.mem_iff_getElem.1 hx
        exact HN.out j x (by omega) (by rw [List.getElem?_eq_getElem hj, e]) rfl
      have HM := Lib.hid hm
      clear hm
      go_wp2
      go_ret
      exact ⟨⟨-1, rfl, by simp [HM.out]⟩, rfl⟩

theorem con_any (g : Nat) (c : Nat) (ks : List Int) (x : Int) (w : World) (hl : ks.length ≤ 1000) (h : BytesAt w g ks) :
    Calls Try.prog 87 #[.slice (some ⟨g, 0, none⟩) ks.length c, .int .u8 x] w fun e w' => e = .returned (.bool (decide (x ∈ ks))) ∧ w' = w := by
  go_enter Try.func87, Try.ntmps87
  go_wp2_with fail
  refine (idxb_any g c ks x w hl h).mono ?_
  rintro e w' ⟨⟨r, rfl, hr⟩, rfl⟩
  have HR := Lib.hid hr
  clear hr
  by_cases h0 : (0 : Int) ≤ r
  · go_wp2
    go_ret
    refine ⟨?_, rfl⟩
    have := HR.out
    simp [h0] at this
    simp [this]
  · go_wp2
    go_ret
    refine ⟨?_, rfl⟩
    have := HR.out
    simp [h0] at this
    simp [this]

/-- what find answers -/
def findE (sts : List Sta) (i : Int) (ks : List Int) : Int :=
  if hasB sts.length i = true then (match sts[i.toNat]? with | some x => if x.clk.kind ∈ ks then 0 else 1 | none => 4) else 4
theorem findE_node {sts : List Sta} {i : Int} {ks : List Int} (h : hasB sts.length i = false) : findE sts i ks = 4 := by unfold findE; simp [h]
theorem findE_arg {sts : List Sta} {k : Nat} {x : Sta} {ks : List Int} (hx : sts[k]? = some x) (h : ¬ x.clk.kind ∈ ks) : findE sts (k : Int) ks = 1 := by
  have hk : k < sts.length := by
    rcases Nat.lt_or_ge k sts.length with h | h
    · exact h
    · rw [List.getElem?_eq_none h] at hx; cases hx
  have hb : hasB sts.length (k : Int) = true := by unfold hasB; simp; omega
  unfold findE
  rw [if_pos hb]
  simp [hx, h]
theorem findE_ok {sts : List Sta} {k : Nat} {x : Sta} {ks : List Int} (hx : sts[k]? = some x) (h : x.clk.kind ∈ ks) : findE sts (k : Int) ks = 0 := by
  have hk : k < sts.length := by
    rcases Nat.lt_or_ge k sts.length with h | h
    · exact h
    · rw [List.getElem?_eq_none h] at hx; cases hx
  have hb : hasB sts.length (k : Int) = true := by unfold hasB; simp; omega
  unfold findE
  rw [if_pos hb]
  simp [hx, h]

/-- a tree: its box, and its row of states -/
structure TreeIs (w : World) (gt g c : Nat) (sts : List Sta) : Prop where
  ne : g ≠ gt
  box : BoxAt w gt [.slice (some ⟨g, 0, none⟩) sts.length c]
  row : RowC StaC 10 63 [gt, g] w 0 (.slice (some ⟨g, 0, none⟩) sts.length c) sts

set_option maxRecDepth 100000 in
set_option maxHeartbeats 2000000 in
theorem find_any (gt g c : Nat) (sts : List Sta) (i : Int) (kg kc : Nat) (ks : List Int) (w : World) (hl : ks.length ≤ 1000) (hn : sts.length ≤ 1000) (hw : wfI i) (h : TreeIs w gt g c sts) (hk : BytesAt w kg ks) :
    Calls Try.prog 45 #[.pointer (some ⟨gt, 0, none⟩), .int .i64 i, .slice (some ⟨kg, 0, none⟩) ks.length kc] w fun e w' =>
      (∃ p, e = .returned (.tuple #[.pointer p, .int .i64 (findE sts i ks)]) ∧ (findE sts i ks = 0 → ∃ (k : Nat) (x : Sta), i = (k : Int) ∧ sts[k]? = some x ∧ x.clk.kind ∈ ks ∧ p = some ⟨g, k * 10, none⟩)) ∧ w' = w := by
  have H := Lib.hid h
  have HK := Lib.hid hk
  have h0 := (h.box 0 _ rfl).1
  have f0 := (h.box 0 _ rfl).2
  clear h hk
  by_cases hb : hasB sts.length i = true
  · obtain ⟨i0, i1⟩ : 0 ≤ i ∧ i < (sts.length : Int) := by unfold hasB at hb; simpa using hb
    obtain ⟨k, rfl⟩ : ∃ k : Nat, i = (k : Int) := ⟨i.toNat, by omega⟩
    have hlt : k < sts.length := by omega
    have hx := List.getElem?_eq_getElem hlt
    generalize sts[k] = x at hx
    have HX := Lib.hid hx
    have HB := Lib.hid hb
    obtain ⟨vs, hsz, ⟨A, cc, rfl, hcc, hint⟩, hv⟩ := H.out.row.cell rfl hx
    have v0 : w.cell? ⟨g, k * 10, none⟩ = some (.int .u8 x.clk.kind) := (hv 0 _ rfl).1
    clear hsz hint
    by_cases hm : x.clk.kind ∈ ks
    · rw [findE_ok hx hm]
      have hd : decide (x.clk.kind ∈ ks) = true := decide_eq_true hm
      have HD := Lib.hid hd
      have HM := Lib.hid hm
      clear hb hx hm hd hv
      go_enter Try.func45, Try.ntmps45
      go_wp2_with fail
      refine (has_any gt _ _ _ (k : Int) w H.out.box).mono ?_
      rintro e w' ⟨rfl, rfl⟩
      rw [HB.out]
      go_wp2_with fail
      refine (con_any kg kc ks x.clk.kind _ hl HK.out).mono ?_
      rintro e w' ⟨rfl, rfl⟩
      rw [HD.out]
      go_wp2
      go_ret2
      exact ⟨⟨_, rfl, fun _ => ⟨k, x, rfl, HX.out, HM.out, rfl⟩⟩, rfl⟩
    · rw [findE_arg hx hm]
      have hd : decide (x.clk.kind ∈ ks) = false := decide_eq_false hm
      have HD := Lib.hid hd
      have HM := Lib.hid hm
      clear hb hx hm hd hv
      go_enter Try.func45, Try.ntmps45
      go_wp2_with fail
      refine (has_any gt _ _ _ (k : Int) w H.out.box).mono ?_
      rintro e w' ⟨rfl, rfl⟩
      rw [HB.out]
      go_wp2_with fail
      refine (con_any kg kc ks x.clk.kind _ hl HK.out).mono ?_
      rintro e w' ⟨rfl, rfl⟩
      rw [HD.out]
      go_wp2
      go_ret2
      exact ⟨⟨none, rfl, fun h => by cases h⟩, rfl⟩
  · have hb' : hasB sts.length i = false := by simpa using hb
    have HB := Lib.hid hb'
    rw [findE_node hb']
    clear hb hb'
    go_enter Try.func45, Try.ntmps45
    go_wp2_with fail
    refine (has_any gt _ _ _ i w H.out.box).mono ?_
    rintro e w' ⟨rfl, rfl⟩
    rw [HB.out]
    go_wp2
    go_ret2
    exact ⟨⟨none, rfl, fun h => by cases h⟩, rfl⟩
end

section
set_option linter.unusedSimpArgs false
set_option linter.unusedVariables false
open Go.RowKit Go.Maps

theorem BytesAt.of_box {w : World} {g : Nat} {ks : List Int} (h : BoxAt w g (ks.map fun y => .int .u8 y)) : BytesAt w g ks := fun j y hj => (h j (.int .u8 y) (by simp [hj])).1
theorem BytesAt.new (w : World) (ks : List Int) (t : TypeId) : BytesAt (w.alloc (.cells (ks.map fun y => Value.int .u8 y).toArray t)) w.heap.size ks := .of_box (BoxAt.new _ _ _)

section
variable {w w' : World} {gt g c : Nat} {sts : List Sta}
theorem TreeIs.lt (h : TreeIs w gt g c sts) : gt < w.heap.size ∧ g < w.heap.size := by
  obtain ⟨A, c', e, _, hb⟩ := h.row.shape
  exact ⟨h.box.lt, (hb g rfl).2⟩
theorem TreeIs.move (h : TreeIs w gt g c sts) (hm : Moved [] w w') : TreeIs w' gt g c sts :=
  ⟨h.ne, h.box.move hm (by simp), h.row.move (hm.mono (by simp)) (fun b hb => by injection hb with hb; subst hb; exact hm.block _ h.lt.2 (by simp))⟩
theorem TreeIs.set {k j : Nat} {x x' : Sta} {u : Value} (h : TreeIs w gt g c sts) (hx : sts[k]? = some x) (hj : j < 10)
    (hc : ∀ A cc, (staL x A cc).set j u = staL x' A cc) (hf : x'.clk.frm = x.clk.frm) : TreeIs (w.setCell ⟨g, k * 10 + j, none⟩ u) gt g c (sts.set k x') := by
  refine ⟨h.ne, ?_, ?_⟩
  · rw [List.length_set]
    exact h.box.move (Moved.setCell (hot := [g]) w (by simp) u) (by simpa using Ne.symm h.ne)
  · rw [List.length_set]
    exact h.row.set rfl hx hj (by simp) (fun vs hv _ => by
      obtain ⟨A, cc, rfl, h1, h2⟩ := hv
      exact ⟨A, cc, hc A cc, by rw [hf]; exact h1, by rw [hf]; exact h2⟩)
end

/-- one state changed -/
def setT (sts : List Sta) (i : Int) (f : Sta → Sta) : List Sta := match sts[i.toNat]? with | some x => sts.set i.toNat (f x) | none => sts
theorem setT_at {sts : List Sta} {k : Nat} {x : Sta} (f : Sta → Sta) (h : sts[k]? = some x) : setT sts (k : Int) f = sts.set k (f x) := by unfold setT; simp [h]
def unlockS (x : Sta) : Sta := if x.clk.kind = 112 then { x with left := x.clk.lock } else x
def onS (b : Bool) (x : Sta) : Sta := if b = true then { x with on := true } else unlockS { x with on := false }
def onT (sts : List Sta) (i : Int) (b : Bool) : List Sta := if findE sts i [112, 103] = 0 then setT sts i (onS b) else sts

/-- what an act does: it tells an error, and leaves a tree -/
def Does (w : World) (gt g c : Nat) (E : Int) (sts' : List Sta) (e : Ending) (w' : World) : Prop := e = .returned (.int .i64 E) ∧ TreeIs w' gt g c sts' ∧ Moved [g] w w'

set_option maxRecDepth 100000 in
set_option maxHeartbeats 2000000 in
theorem on_any (gt g c : Nat) (sts : List Sta) (i : Int) (b : Bool) (w : World) (hn : sts.length ≤ 1000) (hw : wfI i) (h : TreeIs w gt g c sts) :
    Calls Try.prog 16 #[.pointer (some ⟨gt, 0, none⟩), .int .i64 i, .bool b] w (Does w gt g c (findE sts i [112, 103]) (onT sts i b)) := by
  have H := Lib.hid h
  obtain ⟨E, hE⟩ : ∃ E, findE sts i [112, 103] = E := ⟨_, rfl⟩
  rw [hE]
  have HE := Lib.hid hE
  have HB := Lib.hid (BytesAt.new w [112, 103] 5)
  have H1 := Lib.hid (h.move (Moved.alloc w (.cells #[.int .u8 112, .int .u8 103] 5)))
  clear h hE
  go_enter Try.func16, Try.ntmps16
  go_wp2_with fail
  refine (find_any gt g c sts i _ _ [112, 103] _ (by simp) hn hw H1.out HB.out).mono ?_
  rintro e w' ⟨⟨p, rfl, hp⟩, rfl⟩
  rw [HE.out] at hp ⊢
  have HP := Lib.hid hp
  clear hp
  by_cases h0 : E = 0
  · obtain ⟨k, x, rfl, hx, hm, rfl⟩ := HP.out h0
    subst h0
    have hxl : k < sts.length := by
      rcases Nat.lt_or_ge k sts.length with h | h
      · exact h
      · rw [List.getElem?_eq_none h] at hx; cases hx
    have HX := Lib.hid hx
    obtain ⟨vs, -, ⟨A, cc, rfl, -, -⟩, hv⟩ := H1.out.row.cell rfl hx
    obtain ⟨c1, f1⟩ := hv 6 _ rfl
    have ht1 := H1.out.set (j := 6) (u := .bool b) (x' := { x with on := b }) hx (by omega) (fun _ _ => rfl) rfl
    have hx1 : (sts.set k { x with on := b })[k]? = some { x with on := b } := List.getElem?_set_self hxl
    have HT := Lib.hid ht1
    have hm1 : Moved [g] w ((w.alloc (.cells #[.int .u8 112, .int .u8 103] 5)).setCell ⟨g, k * 10 + 6, none⟩ (.bool b)) := (Moved.alloc _ _).trans (Moved.setCell _ (by simp) _)
    have HM := Lib.hid hm1
    have hT : ∀ b, onT sts (k : Int) b = sts.set k (onS b x) := fun b => by unfold onT; rw [HE.out, if_pos rfl, setT_at _ HX.out]
    have HTT := Lib.hid hT
    cases b
    · obtain ⟨vs, -, ⟨A', cc', rfl, -, -⟩, hu⟩ := ht1.row.cell (by simp) hx1
      have u0 := (hu 0 _ rfl).1
      obtain ⟨u5, -⟩ := hu 5 _ rfl
      obtain ⟨u7, g7⟩ := hu 7 _ rfl
      have HX1 := Lib.hid hx1
      clear hv hu ht1 hm1 hT hx1 hx hm
      go_wp2_with fail
      refine (unlock_any g (k * 10) x.clk.kind x.clk.lock x.left _ u0 u5 u7 g7).mono ?_
      rintro e w6 ⟨⟨v, rfl⟩, hw6⟩
      have h6 : TreeIs w6 gt g c (sts.set k (onS false x)) := by
        rw [hw6]
        by_cases hk : x.clk.kind = 112
        · rw [if_pos hk]
          have := HT.out.set (j := 7) (u := .int .i64 x.clk.lock) (x' := { x with on := false, left := x.clk.lock }) HX1.out (by omega) (fun _ _ => rfl) rfl
          rw [List.set_set] at this
          have e : onS false x = { x with on := false, left := x.clk.lock } := by unfold onS unlockS; simp [hk]
          rw [e]
          exact this
        · rw [if_neg hk]
          have e : onS false x = { x with on := false } := by unfold onS unlockS; simp [hk]
          rw [e]
          exact HT.out
      have m6 : Moved [g] w w6 := by
        rw [hw6]
        split
        · exact HM.out.trans (Moved.setCell _ (by simp) _)
        · exact HM.out
      have HD := Lib.hid (And.intro h6 m6)
      clear hw6 h6 m6 u0 u5 u7 g7
      go_wp2
      go_ret
      exact ⟨rfl, by rw [HTT.out]; exact HD.out.1, HD.out.2⟩
    · clear hv ht1 hm1 hT hx1 hx hm
      go_wp2
      go_ret
      exact ⟨rfl, by rw [HTT.out]; exact HT.out, HM.out⟩
  · have h0' : (E != 0) = true := by simpa using h0
    have HN := Lib.hid h0
    clear h0
    go_wp2
    go_ret
    exact ⟨rfl, by unfold onT; rw [HE.out, if_neg HN.out]; exact H1.out, Moved.alloc _ _⟩
end

section
set_option linter.unusedSimpArgs false
set_option linter.unusedVariables false
open Go.RowKit Go.Maps

def divE (sts : List Sta) (i d : Int) : Int := if findE sts i [100] = 0 then (if 1 ≤ d ∧ d ≤ 1000 then 0 else 1) else findE sts i [100]
def divT (sts : List Sta) (i d : Int) : List Sta := if divE sts i d = 0 then setT sts i (fun x => { x with clk := { x.clk with div := d } }) else sts
def selE (sts : List Sta) (i k : Int) : Int := if findE sts i [109] = 0 then (match sts[i.toNat]? with | some x => if 0 ≤ k ∧ k < (x.clk.frm.length : Int) then 0 else 1 | none => 1) else findE sts i [109]
def selT (sts : List Sta) (i k : Int) : List Sta := if selE sts i k = 0 then setT sts i (fun x => { x with want := k }) else sts
theorem get_lt {α : Type} {xs : List α} {k : Nat} {x : α} (hx : xs[k]? = some x) : k < xs.length := by
  rcases Nat.lt_or_ge k xs.length with h | h
  · exact h
  · rw [List.getElem?_eq_none h] at hx; cases hx

set_option maxRecDepth 100000 in
set_option maxHeartbeats 2000000 in
theorem divide_any (gt g c : Nat) (sts : List Sta) (i d : Int) (w : World) (hn : sts.length ≤ 1000) (hw : wfI i) (h : TreeIs w gt g c sts) :
    Calls Try.prog 23 #[.pointer (some ⟨gt, 0, none⟩), .int .i64 i, .int .i64 d] w (Does w gt g c (divE sts i d) (divT sts i d)) := by
  have H := Lib.hid h
  obtain ⟨E, hE⟩ : ∃ E, findE sts i [100] = E := ⟨_, rfl⟩
  have HE := Lib.hid hE
  obtain ⟨F, hF⟩ : ∃ F, divE sts i d = F := ⟨_, rfl⟩
  rw [hF]
  have HF := Lib.hid hF
  have HB := Lib.hid (BytesAt.new w [100] 5)
  have H1 := Lib.hid (h.move (Moved.alloc w (.cells #[.int .u8 100] 5)))
  clear h hE hF
  by_cases h0 : E = 0
  · subst h0
    have hb : ∃ (k : Nat) (x : Sta), i = (k : Int) ∧ sts[k]? = some x := by
      have he := HE.out
      unfold findE at he
      by_cases hb : hasB sts.length i = true
      · have hb' := hb
        unfold hasB at hb'
        simp at hb'
        exact ⟨i.toNat, sts[i.toNat]'(by omega), by omega, List.getElem?_eq_getElem (by omega)⟩
      · rw [if_neg hb] at he
        cases he
    obtain ⟨k, x, rfl, hx⟩ := hb
    have hxl := get_lt hx
    have HX := Lib.hid hx
    obtain ⟨vs, -, ⟨A, cc, rfl, -, -⟩, hv⟩ := H1.out.row.cell rfl hx
    obtain ⟨c1, f1⟩ := hv 1 _ rfl
    have c1' : (w.alloc (.cells #[.int .u8 100] 5)).cell? ⟨g, k * 10 + 1, none⟩ = some (.slice A x.clk.frm.length cc) := c1
    obtain ⟨c4, f4⟩ := hv 4 _ rfl
    have HR : RowKit.Hid (F = if 1 ≤ d ∧ d ≤ 1000 then 0 else 1) := Lib.hid (by rw [← HF.out]; unfold divE; rw [HE.out, if_pos rfl])
    clear hv hx
    by_cases hr : 1 ≤ d ∧ d ≤ 1000
    · obtain ⟨r0, r1⟩ := hr
      have HF0 : F = 0 := by rw [HR.out, if_pos ⟨r0, r1⟩]
      subst HF0
      have ht : TreeIs ((w.alloc (.cells #[.int .u8 100] 5)).setCell ⟨g, k * 10 + 4, none⟩ (.int .i64 d)) gt g c (divT sts (k : Int) d) := by
        unfold divT
        rw [HF.out, if_pos rfl, setT_at _ HX.out]
        exact H1.out.set (j := 4) HX.out (by omega) (fun _ _ => rfl) rfl
      have HT := Lib.hid ht
      clear ht
      go_enter Try.func23, Try.ntmps23
      go_wp2_with fail
      refine (find_any gt g c sts (k : Int) _ _ [100] _ (by simp) hn hw H1.out HB.out).mono ?_
      rintro e w' ⟨⟨p, rfl, hp⟩, rfl⟩
      rw [HE.out] at hp ⊢
      obtain ⟨k', x', hk', _, _, rfl⟩ := hp rfl
      have : k' = k := by omega
      subst this
      clear hp hk'
      go_wp2
      go_ret
      exact ⟨rfl, HT.out, (Moved.alloc _ _).trans (Moved.setCell _ (by simp) _)⟩
    · have HF1 : F = 1 := by rw [HR.out, if_neg hr]
      subst HF1
      have HNR := Lib.hid hr
      have ht : TreeIs (w.alloc (.cells #[.int .u8 100] 5)) gt g c (divT sts (k : Int) d) := by
        unfold divT
        rw [HF.out, if_neg (by omega)]
        exact H1.out
      have HT := Lib.hid ht
      clear ht hr
      by_cases r0 : 1 ≤ d
      · have r1 : ¬ (d ≤ 1000) := fun h => HNR.out ⟨r0, h⟩
        go_enter Try.func23, Try.ntmps23
        go_wp2_with fail
        refine (find_any gt g c sts (k : Int) _ _ [100] _ (by simp) hn hw H1.out HB.out).mono ?_
        rintro e w' ⟨⟨p, rfl, hp⟩, rfl⟩
        rw [HE.out] at hp ⊢
        obtain ⟨k', x', hk', _, _, rfl⟩ := hp rfl
        have : k' = k := by omega
        subst this
        clear hp hk'
        go_wp2
        go_ret
        exact ⟨rfl, HT.out, Moved.alloc _ _⟩
      · go_enter Try.func23, Try.ntmps23
        go_wp2_with fail
        refine (find_any gt g c sts (k : Int) _ _ [100] _ (by simp) hn hw H1.out HB.out).mono ?_
        rintro e w' ⟨⟨p, rfl, hp⟩, rfl⟩
        rw [HE.out] at hp ⊢
        obtain ⟨k', x', hk', _, _, rfl⟩ := hp rfl
        have : k' = k := by omega
        subst this
        clear hp hk'
        go_wp2
        go_ret
        exact ⟨rfl, HT.out, Moved.alloc _ _⟩
  · have HN := Lib.hid h0
    have h0' : (E != 0) = true := by simpa using h0
    have ht : TreeIs (w.alloc (.cells #[.int .u8 100] 5)) gt g c (divT sts i d) ∧ F = E := by
      have hfe : F = E := by rw [← HF.out]; unfold divE; rw [HE.out, if_neg HN.out]
      unfold divT
      rw [HF.out, hfe, if_neg HN.out]
      exact ⟨H1.out, rfl⟩
    obtain ⟨ht, rfl⟩ := ht
    have HT := Lib.hid ht
    clear ht h0
    go_enter Try.func23, Try.ntmps23
    go_wp2_with fail
    refine (find_any gt g c sts i _ _ [100] _ (by simp) hn hw H1.out HB.out).mono ?_
    rintro e w' ⟨⟨p, rfl, hp⟩, rfl⟩
    rw [HE.out]
    clear hp
    go_wp2
    go_ret
    exact ⟨rfl, HT.out, Moved.alloc _ _⟩

set_option maxRecDepth 100000 in
set_option maxHeartbeats 2000000 in
theorem select_any (gt g c : Nat) (sts : List Sta) (i d : Int) (w : World) (hn : sts.length ≤ 1000) (hw : wfI i) (h : TreeIs w gt g c sts) :
    Calls Try.prog 17 #[.pointer (some ⟨gt, 0, none⟩), .int .i64 i, .int .i64 d] w (Does w gt g c (selE sts i d) (selT sts i d)) := by
  have H := Lib.hid h
  obtain ⟨E, hE⟩ : ∃ E, findE sts i [109] = E := ⟨_, rfl⟩
  have HE := Lib.hid hE
  obtain ⟨F, hF⟩ : ∃ F, selE sts i d = F := ⟨_, rfl⟩
  rw [hF]
  have HF := Lib.hid hF
  have HB := Lib.hid (BytesAt.new w [109] 5)
  have H1 := Lib.hid (h.move (Moved.alloc w (.cells #[.int .u8 109] 5)))
  clear h hE hF
  by_cases h0 : E = 0
  · subst h0
    have hb : ∃ (k : Nat) (x : Sta), i = (k : Int) ∧ sts[k]? = some x := by
      have he := HE.out
      unfold findE at he
      by_cases hb : hasB sts.length i = true
      · have hb' := hb
        unfold hasB at hb'
        simp at hb'
        exact ⟨i.toNat, sts[i.toNat]'(by omega), by omega, List.getElem?_eq_getElem (by omega)⟩
      · rw [if_neg hb] at he
        cases he
    obtain ⟨k, x, rfl, hx⟩ := hb
    have hxl := get_lt hx
    have HX := Lib.hid hx
    obtain ⟨vs, -, ⟨A, cc, rfl, -, -⟩, hv⟩ := H1.out.row.cell rfl hx
    obtain ⟨c1, f1⟩ := hv 1 _ rfl
    have c1' : (w.alloc (.cells #[.int .u8 109] 5)).cell? ⟨g, k * 10 + 1, none⟩ = some (.slice A x.clk.frm.length cc) := c1
    obtain ⟨c4, f4⟩ := hv 9 _ rfl
    have HR : RowKit.Hid (F = if 0 ≤ d ∧ d < (x.clk.frm.length : Int) then 0 else 1) := Lib.hid (by rw [← HF.out]; unfold selE; rw [HE.out, if_pos rfl]; simp only [Int.toNat_natCast, HX.out])
    clear hv hx
    by_cases hr : 0 ≤ d ∧ d < (x.clk.frm.length : Int)
    · obtain ⟨r0, r1⟩ := hr
      have HF0 : F = 0 := by rw [HR.out, if_pos ⟨r0, r1⟩]
      subst HF0
      have ht : TreeIs ((w.alloc (.cells #[.int .u8 109] 5)).setCell ⟨g, k * 10 + 9, none⟩ (.int .i64 d)) gt g c (selT sts (k : Int) d) := by
        unfold selT
        rw [HF.out, if_pos rfl, setT_at _ HX.out]
        exact H1.out.set (j := 9) HX.out (by omega) (fun _ _ => rfl) rfl
      have HT := Lib.hid ht
      clear ht
      go_enter Try.func17, Try.ntmps17
      go_wp2_with fail
      refine (find_any gt g c sts (k : Int) _ _ [109] _ (by simp) hn hw H1.out HB.out).mono ?_
      rintro e w' ⟨⟨p, rfl, hp⟩, rfl⟩
      rw [HE.out] at hp ⊢
      obtain ⟨k', x', hk', _, _, rfl⟩ := hp rfl
      have : k' = k := by omega
      subst this
      clear hp hk'
      go_wp2
      go_ret
      exact ⟨rfl, HT.out, (Moved.alloc _ _).trans (Moved.setCell _ (by simp) _)⟩
    · have HF1 : F = 1 := by rw [HR.out, if_neg hr]
      subst HF1
      have HNR := Lib.hid hr
      have ht : TreeIs (w.alloc (.cells #[.int .u8 109] 5)) gt g c (selT sts (k : Int) d) := by
        unfold selT
        rw [HF.out, if_neg (by omega)]
        exact H1.out
      have HT := Lib.hid ht
      clear ht hr
      by_cases r0 : 0 ≤ d
      · have r1 : ¬ (d < (x.clk.frm.length : Int)) := fun h => HNR.out ⟨r0, h⟩
        go_enter Try.func17, Try.ntmps17
        go_wp2_with fail
        refine (find_any gt g c sts (k : Int) _ _ [109] _ (by simp) hn hw H1.out HB.out).mono ?_
        rintro e w' ⟨⟨p, rfl, hp⟩, rfl⟩
        rw [HE.out] at hp ⊢
        obtain ⟨k', x', hk', _, _, rfl⟩ := hp rfl
        have : k' = k := by omega
        subst this
        clear hp hk'
        go_wp2
        go_ret
        exact ⟨rfl, HT.out, Moved.alloc _ _⟩
      · go_enter Try.func17, Try.ntmps17
        go_wp2_with fail
        refine (find_any gt g c sts (k : Int) _ _ [109] _ (by simp) hn hw H1.out HB.out).mono ?_
        rintro e w' ⟨⟨p, rfl, hp⟩, rfl⟩
        rw [HE.out] at hp ⊢
        obtain ⟨k', x', hk', _, _, rfl⟩ := hp rfl
        have : k' = k := by omega
        subst this
        clear hp hk'
        go_wp2
        go_ret
        exact ⟨rfl, HT.out, Moved.alloc _ _⟩
  · have HN := Lib.hid h0
    have h0' : (E != 0) = true := by simpa using h0
    have ht : TreeIs (w.alloc (.cells #[.int .u8 109] 5)) gt g c (selT sts i d) ∧ F = E := by
      have hfe : F = E := by rw [← HF.out]; unfold selE; rw [HE.out, if_neg HN.out]
      unfold selT
      rw [HF.out, hfe, if_neg HN.out]
      exact ⟨H1.out, rfl⟩
    obtain ⟨ht, rfl⟩ := ht
    have HT := Lib.hid ht
    clear ht h0
    go_enter Try.func17, Try.ntmps17
    go_wp2_with fail
    refine (find_any gt g c sts i _ _ [109] _ (by simp) hn hw H1.out HB.out).mono ?_
    rintro e w' ⟨⟨p, rfl, hp⟩, rfl⟩
    rw [HE.out]
    clear hp
    go_wp2
    go_ret
    exact ⟨rfl, HT.out, Moved.alloc _ _⟩

def leftP (sts : List Sta) (i : Int) : Int := if hasB sts.length i = true then (match sts[i.toNat]? with | some x => x.left | none => 0) else 0
set_option maxRecDepth 100000 in
set_option maxHeartbeats 2000000 in
theorem left_any (gt g c : Nat) (sts : List Sta) (i : Int) (w : World) (hn : sts.length ≤ 1000) (h : TreeIs w gt g c sts) :
    Calls Try.prog 22 #[.pointer (some ⟨gt, 0, none⟩), .int .i64 i] w fun e w' => e = .returned (.int .i64 (leftP sts i)) ∧ w' = w := by
  have H := Lib.hid h
  have b0 := (h.box 0 _ rfl).1
  have g0 := (h.box 0 _ rfl).2
  clear h
  by_cases hb : hasB sts.length i = true
  · have hb' := hb
    unfold hasB at hb'
    simp at hb'
    obtain ⟨i0, i1⟩ := hb'
    obtain ⟨k, rfl⟩ : ∃ k : Nat, i = (k : Int) := ⟨i.toNat, by omega⟩
    have hlt : k < sts.length := by omega
    have hx := List.getElem?_eq_getElem hlt
    generalize sts[k] = x at hx
    have hl : leftP sts (k : Int) = x.left := by unfold leftP; rw [if_pos hb]; simp [hx]
    rw [hl]
    obtain ⟨vs, -, ⟨A, cc, rfl, -, -⟩, hv⟩ := H.out.row.cell rfl hx
    have v7 := (hv 7 _ rfl).1
    have HB := Lib.hid hb
    clear hb hx hv hl
    go_enter Try.func22, Try.ntmps22
    go_wp2_with fail
    refine (has_any gt _ _ _ (k : Int) w H.out.box).mono ?_
    rintro e w' ⟨rfl, rfl⟩
    rw [HB.out]
    go_wp2
    go_ret
    exact ⟨rfl, rfl⟩
  · have hl : leftP sts i = 0 := by unfold leftP; rw [if_neg hb]
    rw [hl]
    have hb' : hasB sts.length i = false := by simpa using hb
    have HB := Lib.hid hb'
    clear hb hb' hl
    go_enter Try.func22, Try.ntmps22
    go_wp2_with fail
    refine (has_any gt _ _ _ i w H.out.box).mono ?_
    rintro e w' ⟨rfl, rfl⟩
    rw [HB.out]
    go_wp2
    go_ret
    exact ⟨rfl, rfl⟩
end

section
set_option linter.unusedSimpArgs false
set_option linter.unusedVariables false
open Go.RowKit Go.Maps

set_option maxRecDepth 100000 in
set_option maxHeartbeats 2000000 in
theorem source_any (g o : Nat) (A : Option Addr) (cc B m : Nat) (fs : List Int) (y : Int) (w : World) (hn : fs.length ≤ 1000) (hc : fs.length ≤ cc) (h1 : w.cell? ⟨g, o + 1, none⟩ = some (.slice A fs.length cc)) (h8 : w.cell? ⟨g, o + 8, none⟩ = some (.int .i64 (m : Int))) (hI : IntsAt w B A fs) (hy : fs[m]? = some y) :
    Calls Try.prog 48 #[.pointer (some ⟨g, o, none⟩)] w fun e w' => e = .returned (.int .i64 y) ∧ ∃ n, w' = w.drewN n := by
  have hm := get_lt hy
  obtain ⟨ad, rfl, _, hcell⟩ := hI (by omega)
  have hz := hcell m y hy
  have i0 : (0 : Int) ≤ (m : Int) := by omega
  have i1 : (m : Int) < (fs.length : Int) := by omega
  clear hI hcell hy
  go_enter Try.func48, Try.ntmps48
  go_wp2
  go_quiet (fail)
  go_wp2
  go_ret
  exact ⟨rfl, _, rfl⟩
end

section
set_option linter.unusedSimpArgs false
set_option linter.unusedVariables false
open Go.RowKit Go.Maps

/-- the told of ask[bool] says r of y -/
def Told (b5 b7 b3 : Nat) (y : Int) (r : Bool) (w : World) : Prop :=
  ∀ W, Below w.heap.size w W → Calls Try.prog 90 #[.int .i64 y, .pointer (some ⟨b5, 0, none⟩), .pointer (some ⟨b7, 0, none⟩), .pointer (some ⟨b3, 0, none⟩)] W fun e w' => e = .returned (.bool r) ∧ Below W.heap.size W w'

set_option maxRecDepth 100000 in
set_option maxHeartbeats 2000000 in
theorem srcb_any (b5 b7 b3 bi gt g c : Nat) (sts : List Sta) (k m : Nat) (x : Sta) (y : Int) (r : Bool) (w : World) (hn : sts.length ≤ 1000) (hfn : x.clk.frm.length ≤ 1000)
    (c7 : w.cell? ⟨b7, 0, none⟩ = some (.func (.func 90) #[] #[.pointer (some ⟨b5, 0, none⟩), .pointer (some ⟨b7, 0, none⟩), .pointer (some ⟨b3, 0, none⟩)]))
    (c3 : w.cell? ⟨b3, 0, none⟩ = some (.pointer (some ⟨gt, 0, none⟩))) (ci : w.cell? ⟨bi, 0, none⟩ = some (.int .i64 (k : Int)))
    (h : TreeIs w gt g c sts) (hx : sts[k]? = some x) (hs : x.set = (m : Int)) (hy : x.clk.frm[m]? = some y) (ht : Told b5 b7 b3 y r w) :
    Calls Try.prog 91 #[.pointer (some ⟨b7, 0, none⟩), .pointer (some ⟨b3, 0, none⟩), .pointer (some ⟨bi, 0, none⟩)] w fun e w' => e = .returned (.bool r) ∧ Below w.heap.size w w' := by
  have b0 := (h.box 0 _ rfl).1
  have hk := get_lt hx
  have i0 : (0 : Int) ≤ (k : Int) := by omega
  have i1 : (k : Int) < (sts.length : Int) := by omega
  obtain ⟨vs, -, ⟨A, cc, rfl, hcc, hI⟩, hv⟩ := h.row.cell rfl hx
  have v1 : w.cell? ⟨g, k * 10 + 1, none⟩ = some (.slice A x.clk.frm.length cc) := (hv 1 _ rfl).1
  have v8 : w.cell? ⟨g, k * 10 + 8, none⟩ = some (.int .i64 (m : Int)) := by rw [← hs]; exact (hv 8 _ rfl).1
  have HS := Lib.hid (And.intro v1 (And.intro v8 (And.intro hcc hI.ints)))
  have HT := Lib.hid ht
  have HY := Lib.hid hy
  clear h hx hv v1 v8 hs hy ht hI hcc
  have eg : ∀ args w, (callFunc 90 args).run Try.prog w = .ok (.enter 90 args) w := fun args w => enters_of Try.func90 (by kernel_rfl) rfl args w
  have hd : ∀ n, Calls Try.prog 90 #[.int .i64 y, .pointer (some ⟨b5, 0, none⟩), .pointer (some ⟨b7, 0, none⟩), .pointer (some ⟨b3, 0, none⟩)] (w.drewN n) fun e w' => e = .returned (.bool r) ∧ Below w.heap.size w w' := fun n =>
    (HT.out (w.drewN n) ⟨rfl, rfl, rfl, Nat.le_refl _, fun _ _ => rfl⟩).mono fun e w' ⟨h1, h2⟩ => ⟨h1, (⟨rfl, rfl, rfl, Nat.le_refl _, fun _ _ => rfl⟩ : Below w.heap.size w (w.drewN n)).trans h2⟩
  have HD := Lib.hid hd
  clear hd
  go_enter Try.func91, Try.ntmps91
  go_wp2
  go_region_with (first
    | (refine (source_any g (k * 10) A cc _ m x.clk.frm y w.drew hfn HS.out.2.2.1 HS.out.1 HS.out.2.1 HS.out.2.2.2 HY.out).mono ?_
       rintro e w' ⟨rfl, n, rfl⟩)
    | (refine (HD.out _).mono ?_
       rintro e w' ⟨rfl, hb'⟩))
  all_goals
    rename_i hb'
    have HBB := Lib.hid hb'
    clear hb'
    go_wp2_with fail
    go_ret
    exact ⟨rfl, HBB.out⟩
end

section
set_option linter.unusedSimpArgs false
set_option linter.unusedVariables false
open Go.RowKit Go.Maps

/-- does a clock run, whose source does, or not -/
def runN (x : Sta) (r : Bool) : Bool := if x.clk.kind = 111 then true else if x.clk.kind = 112 then x.on && decide (x.left = 0) && r else if x.clk.kind = 103 then x.on && r else r
/-- a source that tells r -/
def Src (b7 b3 bi : Nat) (r : Bool) (w : World) : Prop :=
  ∀ W, Below w.heap.size w W → Calls Try.prog 91 #[.pointer (some ⟨b7, 0, none⟩), .pointer (some ⟨b3, 0, none⟩), .pointer (some ⟨bi, 0, none⟩)] W fun e w' => e = .returned (.bool r) ∧ Below W.heap.size W w'

set_option maxRecDepth 100000 in
set_option maxHeartbeats 4000000 in
theorem run1_any (b7 b3 bi bt gt g c : Nat) (sts : List Sta) (k : Nat) (x : Sta) (r : Bool) (w : World) (hn : sts.length ≤ 1000)
    (ct : w.cell? ⟨bt, 0, none⟩ = some (.pointer (some ⟨gt, 0, none⟩))) (h : TreeIs w gt g c sts) (hx : sts[k]? = some x) (hs : x.clk.kind ≠ 111 → Src b7 b3 bi r w) :
    Calls Try.prog 53 #[.int .i64 (k : Int), .func (.func 91) #[] #[.pointer (some ⟨b7, 0, none⟩), .pointer (some ⟨b3, 0, none⟩), .pointer (some ⟨bi, 0, none⟩)], .pointer (some ⟨bt, 0, none⟩)] w
      fun e w' => e = .returned (.bool (runN x r)) ∧ Below w.heap.size w w' := by
  have b0 := (h.box 0 _ rfl).1
  have hk := get_lt hx
  have i0 : (0 : Int) ≤ (k : Int) := by omega
  have i1 : (k : Int) < (sts.length : Int) := by omega
  obtain ⟨vs, -, ⟨A, cc, rfl, hcc, hI⟩, hv⟩ := h.row.cell rfl hx
  have v0 : w.cell? ⟨g, k * 10, none⟩ = some (.int .u8 x.clk.kind) := (hv 0 _ rfl).1
  have v1 := (hv 1 _ rfl).1
  have v2 := (hv 2 _ rfl).1
  have v3 := (hv 3 _ rfl).1
  have v4 := (hv 4 _ rfl).1
  have v5 := (hv 5 _ rfl).1
  have v6 := (hv 6 _ rfl).1
  have v7 := (hv 7 _ rfl).1
  have v8 := (hv 8 _ rfl).1
  have v9 := (hv 9 _ rfl).1
  have hb : Below w.heap.size w (w.alloc (.cells (staL x A cc).toArray 63)) := (Below.refl _ _).alloc (Nat.le_refl _) _
  have HB := Lib.hid hb
  have HS := Lib.hid hs
  have eg : ∀ args w, (callFunc 91 args).run Try.prog w = .ok (.enter 91 args) w := fun args w => enters_of Try.func91 (by kernel_rfl) rfl args w
  obtain ⟨⟨kd, frm, rate, mul, dv, lk⟩, on, left, st, want⟩ := x
  simp only at v0 v1 v2 v3 v4 v5 v6 v7 v8 v9
  clear hv hI hb hs h hx
  by_cases k1 : kd = 111
  · subst k1
    rw [show runN ⟨⟨111, frm, rate, mul, dv, lk⟩, on, left, st, want⟩ r = true from rfl]
    go_enter Try.func53, Try.ntmps53
    go_wp2
    go_ret
    exact ⟨rfl, HB.out⟩
  · have e1 : (kd == 111) = false := by simpa using k1
    by_cases k2 : kd = 112
    · subst k2
      have hr : runN ⟨⟨112, frm, rate, mul, dv, lk⟩, on, left, st, want⟩ r = (on && decide (left = 0) && r) := rfl
      rw [hr]
      have HS' := Lib.hid (HS.out (by simp))
      cases on with
      | false =>
        simp only [Bool.false_and]
        clear hr
        go_enter Try.func53, Try.ntmps53
        go_wp2
        go_ret
        exact ⟨rfl, HB.out⟩
      | true =>
        by_cases l0 : left = 0
        · subst l0
          simp only [Bool.true_and, decide_true]
          clear hr
          go_enter Try.func53, Try.ntmps53
          go_wp2_with fail
          refine (HS'.out _ HB.out).mono ?_
          rintro e w' ⟨rfl, hb2⟩
          have HB2 := Lib.hid (HB.out.trans (hb2.mono HB.out.size))
          clear hb2
          go_wp2
          go_ret
          exact ⟨rfl, HB2.out⟩
        · have e2 : (left == 0) = false := by simpa using l0
          have e3 : decide (left = 0) = false := by simpa using l0
          simp only [Bool.true_and, e3, Bool.false_and]
          clear hr e3
          go_enter Try.func53, Try.ntmps53
          go_wp2
          go_ret
          exact ⟨rfl, HB.out⟩
    · have e2 : (kd == 112) = false := by simpa using k2
      have HS' := Lib.hid (HS.out (by simpa using k1))
      by_cases k3 : kd = 103
      · subst k3
        have hr : runN ⟨⟨103, frm, rate, mul, dv, lk⟩, on, left, st, want⟩ r = (on && r) := rfl
        rw [hr]
        cases on with
        | false =>
          simp only [Bool.false_and]
          clear hr
          go_enter Try.func53, Try.ntmps53
          go_wp2
          go_ret
          exact ⟨rfl, HB.out⟩
        | true =>
          simp only [Bool.true_and]
          clear hr
          go_enter Try.func53, Try.ntmps53
          go_wp2_with fail
          refine (HS'.out _ HB.out).mono ?_
          rintro e w' ⟨rfl, hb2⟩
          have HB2 := Lib.hid (HB.out.trans (hb2.mono HB.out.size))
          clear hb2
          go_wp2
          go_ret
          exact ⟨rfl, HB2.out⟩
      · have e3 : (kd == 103) = false := by simpa using k3
        have hr : runN ⟨⟨kd, frm, rate, mul, dv, lk⟩, on, left, st, want⟩ r = r := by unfold runN; simp [k1, k2, k3]
        rw [hr]
        clear hr
        go_enter Try.func53, Try.ntmps53
        go_wp2_with fail
        refine (HS'.out _ HB.out).mono ?_
        rintro e w' ⟨rfl, hb2⟩
        have HB2 := Lib.hid (HB.out.trans (hb2.mono HB.out.size))
        clear hb2
        go_wp2
        go_ret
        exact ⟨rfl, HB2.out⟩
end

section
set_option linter.unusedSimpArgs false
set_option linter.unusedVariables false
open Go.RowKit Go.Maps

/-- each clock but an oscillator comes from one ahead of it -/
def RightT (sts : List Sta) : Prop := ∀ (k : Nat) (x : Sta), sts[k]? = some x → x.clk.frm.length ≤ 1000 ∧ (x.clk.kind ≠ 111 → ∃ m y : Nat, x.set = (m : Int) ∧ x.clk.frm[m]? = some (y : Int) ∧ y < k)
/-- does the k-th clock run? -/
def runF (sts : List Sta) : Nat → Nat → Bool
  | 0, _ => false
  | f + 1, k => match sts[k]? with | some x => runN x (runF sts f (x.clk.frm.getD x.set.toNat 0).toNat) | none => false
def runP (sts : List Sta) (k : Nat) : Bool := runF sts (k + 1) k
theorem runF_more {sts : List Sta} (h : RightT sts) : ∀ (k f : Nat), k < f → runF sts f k = runP sts k := by
  intro k
  induction k using Nat.strongRecOn with
  | _ k ih =>
    intro f hf
    obtain ⟨f', rfl⟩ : ∃ f', f = f' + 1 := ⟨f - 1, by omega⟩
    unfold runP
    show (match sts[k]? with | some x => runN x (runF sts f' (x.clk.frm.getD x.set.toNat 0).toNat) | none => false) = (match sts[k]? with | some x => runN x (runF sts k (x.clk.frm.getD x.set.toNat 0).toNat) | none => false)
    cases hx : sts[k]? with
    | none => rfl
    | some x =>
      simp only
      by_cases h1 : x.clk.kind = 111
      · unfold runN; rw [if_pos h1, if_pos h1]
      · obtain ⟨m, y, e1, e2, e3⟩ := (h k x hx).2 h1
        have ey : (x.clk.frm.getD x.set.toNat 0).toNat = y := by rw [e1, Int.toNat_natCast, List.getD_eq_getElem?_getD, e2]; rfl
        rw [ey, ih y e3 f' (by omega), ih y e3 k e3]
theorem runP_at {sts : List Sta} (h : RightT sts) {k m y : Nat} {x : Sta} (hx : sts[k]? = some x) (h1 : x.clk.kind ≠ 111) (e1 : x.set = (m : Int)) (e2 : x.clk.frm[m]? = some (y : Int)) (e3 : y < k) : runP sts k = runN x (runP sts y) := by
  have ey : (x.clk.frm.getD x.set.toNat 0).toNat = y := by rw [e1, Int.toNat_natCast, List.getD_eq_getElem?_getD, e2]; rfl
  show (match sts[k]? with | some x => runN x (runF sts k (x.clk.frm.getD x.set.toNat 0).toNat) | none => false) = _
  rw [hx]
  simp only
  rw [ey, runF_more h y k e3]
theorem runP_osc {sts : List Sta} {k : Nat} {x : Sta} (hx : sts[k]? = some x) (h1 : x.clk.kind = 111) (r : Bool) : runP sts k = runN x r := by
  show (match sts[k]? with | some x => runN x (runF sts k (x.clk.frm.getD x.set.toNat 0).toNat) | none => false) = _
  rw [hx]
  unfold runN
  simp only
  rw [if_pos h1, if_pos h1]

/-- what told needs of memory -/
structure AskB (w : World) (b5 b7 b3 bt gt g c : Nat) (sts : List Sta) : Prop where
  c5 : w.cell? ⟨b5, 0, none⟩ = some (.func (.func 53) #[] #[.pointer (some ⟨bt, 0, none⟩)])
  c7 : w.cell? ⟨b7, 0, none⟩ = some (.func (.func 90) #[] #[.pointer (some ⟨b5, 0, none⟩), .pointer (some ⟨b7, 0, none⟩), .pointer (some ⟨b3, 0, none⟩)])
  c3 : w.cell? ⟨b3, 0, none⟩ = some (.pointer (some ⟨gt, 0, none⟩))
  ct : w.cell? ⟨bt, 0, none⟩ = some (.pointer (some ⟨gt, 0, none⟩))
  tree : TreeIs w gt g c sts
theorem AskB.later {w W : World} {b5 b7 b3 bt gt g c : Nat} {sts : List Sta} (h : AskB w b5 b7 b3 bt gt g c sts) (hb : Below w.heap.size w W) : AskB W b5 b7 b3 bt gt g c sts :=
  have hm : Moved [] w W := Moved.of_below hb
  ⟨hm.cell h.c5 (by simp), hm.cell h.c7 (by simp), hm.cell h.c3 (by simp), hm.cell h.ct (by simp), h.tree.move hm⟩
theorem Told.later {b5 b7 b3 : Nat} {y : Int} {r : Bool} {w W : World} (h : Told b5 b7 b3 y r w) (hb : Below w.heap.size w W) : Told b5 b7 b3 y r W := fun V hV => h V (hb.trans (hV.mono hb.size))

set_option maxRecDepth 100000 in
set_option maxHeartbeats 4000000 in
theorem told_any (b5 b7 b3 bt gt g c : Nat) (sts : List Sta) (w : World) (hn : sts.length ≤ 1000) (hr : RightT sts) (h : AskB w b5 b7 b3 bt gt g c sts) :
    ∀ (k : Nat) (x : Sta), sts[k]? = some x → Told b5 b7 b3 (k : Int) (runP sts k) w := by
  intro k
  induction k using Nat.strongRecOn with
  | _ k ih =>
    intro x hx W hW
    have HA := h.later hW
    have hb1 : Below W.heap.size W (W.alloc (.cells #[.int .i64 (k : Int)] 3)) := (Below.refl _ _).alloc (Nat.le_refl _) _
    have HA1 := HA.later hb1
    have ci : (W.alloc (.cells #[.int .i64 (k : Int)] 3)).cell? ⟨W.heap.size, 0, none⟩ = some (.int .i64 (k : Int)) := (BoxAt.new W [.int .i64 (k : Int)] 3 0 _ rfl).1
    have hrun : ∃ r, runP sts k = runN x r ∧ (x.clk.kind ≠ 111 → Src b7 b3 W.heap.size r (W.alloc (.cells #[.int .i64 (k : Int)] 3))) := by
      by_cases h1 : x.clk.kind = 111
      · exact ⟨false, runP_osc hx h1 _, fun h2 => absurd h1 h2⟩
      · obtain ⟨m, y, e1, e2, e3⟩ := (hr k x hx).2 h1
        have hy := List.getElem?_eq_getElem (l := sts) (i := y) (by have := get_lt hx; omega)
        refine ⟨runP sts y, runP_at hr hx h1 e1 e2 e3, fun _ V hV => ?_⟩
        have HV := HA1.later hV
        exact srcb_any b5 b7 b3 W.heap.size gt g c sts k m x (y : Int) (runP sts y) V hn (hr k x hx).1 HV.c7 HV.c3 ((Moved.of_below (hot := []) hV).cell ci (by simp)) HV.tree hx e1 e2 ((ih y e3 _ hy).later (hW.trans ((hb1.mono hW.size).trans (hV.mono (Nat.le_trans hW.size hb1.size)))))
    obtain ⟨r, er, hsrc⟩ := hrun
    rw [er]
    have c5 := HA1.c5
    have c5' := HA.c5
    have HR := Lib.hid (run1_any b7 b3 W.heap.size bt gt g c sts k x r _ hn HA1.ct HA1.tree hx hsrc)
    have HB1 := Lib.hid hb1
    have eg : ∀ args w, (callFunc 53 args).run Try.prog w = .ok (.enter 53 args) w := fun args w => enters_of Try.func53 (by kernel_rfl) rfl args w
    generalize runN x r = q at *
    clear ih hx HA HA1 ci er hsrc hb1
    go_enter Try.func90, Try.ntmps90
    go_wp2_with fail
    refine (HR.out).mono ?_
    rintro e w' ⟨rfl, hb⟩
    have HB := Lib.hid (HB1.out.trans (hb.mono HB1.out.size))
    clear hb
    go_wp2
    go_ret
    exact ⟨rfl, HB.out⟩
end

section
set_option linter.unusedSimpArgs false
set_option linter.unusedVariables false
open Go.RowKit Go.Maps

theorem cell_past {w : World} {p : Addr} {v : Value} (h : w.cell? p = some v) (o : Obj) : (w.alloc o).cell? p = some v := (Moved.alloc (hot := []) w o).cell h (by simp)
theorem cell_new (w : World) (v : Value) (t : TypeId) {B : Nat} (hB : w.heap.size = B) : (w.alloc (.cells #[v] t)).cell? ⟨B, 0, none⟩ = some v := by
  subst hB
  exact (BoxAt.new w [v] t 0 _ rfl).1
/-- the world that ask makes -/
def askW (w : World) (bt gt : Nat) : World :=
  ((w.alloc (.cells #[.pointer (some ⟨gt, 0, none⟩)] 29)).alloc (.cells #[.func (.func 53) #[] #[.pointer (some ⟨bt, 0, none⟩)]] 101)).alloc (.cells #[.func (.func 90) #[] #[.pointer (some ⟨w.heap.size + 1, 0, none⟩), .pointer (some ⟨w.heap.size + 1 + 1, 0, none⟩), .pointer (some ⟨w.heap.size, 0, none⟩)]] 47)
theorem askW_below (w : World) (bt gt : Nat) : Below w.heap.size w (askW w bt gt) :=
  (((Below.refl _ _).alloc (Nat.le_refl _) _).alloc (by simp) _).alloc (by simp; omega) _
theorem askW_is {w : World} {bt gt g c : Nat} {sts : List Sta} (ct : w.cell? ⟨bt, 0, none⟩ = some (.pointer (some ⟨gt, 0, none⟩))) (h : TreeIs w gt g c sts) :
    AskB (askW w bt gt) (w.heap.size + 1) (w.heap.size + 1 + 1) w.heap.size bt gt g c sts := by
  have hm : Moved [] w (askW w bt gt) := Moved.of_below (askW_below w bt gt)
  refine ⟨cell_past (cell_new _ _ _ (by simp)) _, cell_new _ _ _ (by simp), cell_past (cell_past (cell_new _ _ _ rfl) _) _, hm.cell ct (by simp), h.move hm⟩

set_option maxRecDepth 100000 in
set_option maxHeartbeats 2000000 in
theorem ask_any (bt gt g c : Nat) (sts : List Sta) (k : Nat) (x : Sta) (w : World) (hn : sts.length ≤ 1000) (hr : RightT sts) (ct : w.cell? ⟨bt, 0, none⟩ = some (.pointer (some ⟨gt, 0, none⟩))) (h : TreeIs w gt g c sts) (hx : sts[k]? = some x) :
    Calls Try.prog 52 #[.pointer (some ⟨gt, 0, none⟩), .int .i64 (k : Int), .func (.func 53) #[] #[.pointer (some ⟨bt, 0, none⟩)]] w fun e w' => e = .returned (.bool (runP sts k)) ∧ Below w.heap.size w w' := by
  have HT := Lib.hid (told_any _ _ _ bt gt g c sts (askW w bt gt) hn hr (askW_is ct h) k x hx (askW w bt gt) (Below.refl _ _))
  have HB := Lib.hid (askW_below w bt gt)
  have eg : ∀ args w, (callFunc 90 args).run Try.prog w = .ok (.enter 90 args) w := fun args w => enters_of Try.func90 (by kernel_rfl) rfl args w
  have hsf := fun (a : Addr) (c : Array Value) (m : _) (W : World) => run_store Try.prog W a (.func (.func 90) #[] c) m rfl
  generalize runP sts k = q at *
  clear ct h hx hr
  go_enter Try.func52, Try.ntmps52
  go_wp2_with fail
  refine (HT.out).mono ?_
  rintro e w' ⟨rfl, hb⟩
  have HB2 := Lib.hid (HB.out.trans (hb.mono HB.out.size))
  clear hb
  go_wp2
  go_ret
  exact ⟨rfl, HB2.out⟩

def runI (sts : List Sta) (i : Int) : Bool := hasB sts.length i && runP sts i.toNat
set_option maxRecDepth 100000 in
set_option maxHeartbeats 2000000 in
theorem running_any (gt g c : Nat) (sts : List Sta) (i : Int) (w : World) (hn : sts.length ≤ 1000) (hr : RightT sts) (h : TreeIs w gt g c sts) :
    Calls Try.prog 20 #[.pointer (some ⟨gt, 0, none⟩), .int .i64 i] w fun e w' => e = .returned (.bool (runI sts i)) ∧ Below w.heap.size w w' := by
  have hb1 : Below w.heap.size w (w.alloc (.cells #[.pointer (some ⟨gt, 0, none⟩)] 29)) := (Below.refl _ _).alloc (Nat.le_refl _) _
  have h1 := h.move (Moved.of_below hb1)
  have ct : (w.alloc (.cells #[.pointer (some ⟨gt, 0, none⟩)] 29)).cell? ⟨w.heap.size, 0, none⟩ = some (.pointer (some ⟨gt, 0, none⟩)) := cell_new _ _ _ rfl
  have H1 := Lib.hid h1
  have HB := Lib.hid hb1
  cases hb : hasB sts.length i with
  | false =>
    have e : runI sts i = false := by unfold runI; rw [hb]; rfl
    rw [e]
    have HH := Lib.hid hb
    clear h h1 hb1 hb e hr
    go_enter Try.func20, Try.ntmps20
    go_wp2_with fail
    refine (has_any gt _ _ _ i _ H1.out.box).mono ?_
    rintro e w' ⟨rfl, rfl⟩
    rw [HH.out]
    go_wp2
    go_ret
    exact ⟨rfl, HB.out⟩
  | true =>
    have hlt : 0 ≤ i ∧ i < (sts.length : Int) := by unfold hasB at hb; simpa using hb
    obtain ⟨k, rfl⟩ : ∃ k : Nat, i = (k : Int) := ⟨i.toNat, by omega⟩
    have e : runI sts (k : Int) = runP sts k := by unfold runI; rw [hb, Bool.true_and, Int.toNat_natCast]
    rw [e]
    have hx := List.getElem?_eq_getElem (l := sts) (i := k) (by omega)
    have HA := Lib.hid (ask_any w.heap.size gt g c sts k _ _ hn hr ct h1 hx)
    have HH := Lib.hid hb
    generalize runP sts k = q at *
    clear h h1 hb1 hb e hr hx hlt
    go_enter Try.func20, Try.ntmps20
    go_wp2_with fail
    refine (has_any gt _ _ _ (k : Int) _ H1.out.box).mono ?_
    rintro e w' ⟨rfl, rfl⟩
    rw [HH.out]
    go_wp2_with fail
    refine (HA.out).mono ?_
    rintro e w' ⟨rfl, hb⟩
    have HB2 := Lib.hid (HB.out.trans (hb.mono HB.out.size))
    clear hb
    go_wp2
    go_ret
    exact ⟨rfl, HB2.out⟩
end

section
set_option linter.unusedSimpArgs false
set_option linter.unusedVariables false
open Go.RowKit Go.Maps

/-- what lock makes of the ticks that are left -/
def lockP (kd lk l : Int) (fed : Bool) : Int := if fed = true then (if 0 < l then l - 1 else l) else if kd = 112 then lk else l
def Locks (w : World) (g o : Nat) (l q : Int) (e : Ending) (w' : World) : Prop := (∃ v, e = .returned v) ∧ (w' = w.setCell ⟨g, o + 7, none⟩ (.int .i64 q) ∨ (w' = w ∧ q = l))
theorem lock_any (g o : Nat) (kd lk l : Int) (fed : Bool) (w : World) (hl : 0 ≤ l ∧ l ≤ 1000000) (h0 : w.cell? ⟨g, o, none⟩ = some (.int .u8 kd)) (h5 : w.cell? ⟨g, o + 5, none⟩ = some (.int .i64 lk)) (h7 : w.cell? ⟨g, o + 7, none⟩ = some (.int .i64 l)) (f7 : w.frozen? ⟨g, o + 7, none⟩ = false) :
    Calls Try.prog 47 #[.pointer (some ⟨g, o, none⟩), .bool fed] w (Locks w g o l (lockP kd lk l fed)) := by
  cases fed with
  | false =>
    have HU := Lib.hid (unlock_any g o kd lk l w h0 h5 h7 f7)
    by_cases hk : kd = 112
    · subst hk
      rw [show lockP 112 lk l false = lk from rfl]
      rw [if_pos rfl] at HU
      go_enter Try.func47, Try.ntmps47
      go_wp2_with fail
      refine (HU.out).mono ?_
      rintro e w' ⟨⟨v, rfl⟩, rfl⟩
      go_wp2
      go_end0
      exact ⟨⟨_, rfl⟩, .inl rfl⟩
    · have e : lockP kd lk l false = l := by unfold lockP; simp [hk]
      rw [e]
      rw [if_neg hk] at HU
      clear e
      go_enter Try.func47, Try.ntmps47
      go_wp2_with fail
      refine (HU.out).mono ?_
      rintro e w' ⟨⟨v, rfl⟩, hw⟩
      subst hw
      go_wp2
      go_end0
      exact ⟨⟨_, rfl⟩, .inr ⟨rfl, rfl⟩⟩
  | true =>
    by_cases hp : 0 < l
    · have e : lockP kd lk l true = l - 1 := by unfold lockP; simp [hp]
      rw [e]
      have hw1 : IntKind.i64.wrap (l - 1) = l - 1 := by rw [IntWalk.i64_in _ (by omega)]
      clear e
      go_enter Try.func47, Try.ntmps47
      go_wp2
      go_end0
      exact ⟨⟨_, rfl⟩, .inl rfl⟩
    · have e : lockP kd lk l true = l := by unfold lockP; simp [hp]
      rw [e]
      clear e
      go_enter Try.func47, Try.ntmps47
      go_wp2
      go_end0
      exact ⟨⟨_, rfl⟩, .inr ⟨rfl, rfl⟩⟩
end

section
set_option linter.unusedSimpArgs false
set_option linter.unusedVariables false

/-- one clock of a tree, as the k-th of them -/
structure StaOk (k : Nat) (x : Sta) : Prop where
  len : x.clk.frm.length ≤ 1000
  down : ∀ y, y ∈ x.clk.frm → 0 ≤ y ∧ y < (k : Int)
  osc : x.clk.kind = 111 ↔ x.clk.frm.length = 0
  set : x.clk.kind ≠ 111 → 0 ≤ x.set ∧ x.set < (x.clk.frm.length : Int)
  want : x.clk.kind ≠ 111 → 0 ≤ x.want ∧ x.want < (x.clk.frm.length : Int)
  lock : 0 ≤ x.clk.lock ∧ x.clk.lock ≤ 20 ∨ x.clk.kind ≠ 112
  left : 0 ≤ x.left ∧ x.left ≤ 20
def InvT (sts : List Sta) : Prop := ∀ (k : Nat) (x : Sta), sts[k]? = some x → StaOk k x
theorem InvT.right {sts : List Sta} (h : InvT sts) : RightT sts := fun k x hx => by
  have ho := h k x hx
  refine ⟨ho.len, fun h1 => ?_⟩
  obtain ⟨s0, s1⟩ := ho.set h1
  have hlt : x.set.toNat < x.clk.frm.length := by omega
  obtain ⟨y0, y1⟩ := ho.down _ (List.getElem_mem hlt)
  refine ⟨x.set.toNat, (x.clk.frm[x.set.toNat]).toNat, by omega, ?_, by omega⟩
  rw [List.getElem?_eq_getElem hlt, Int.toNat_of_nonneg y0]
theorem InvT.start {s : Chip} (h : Plain s) : InvT (s.clks.map freshS) := fun k x hx => by
  rw [List.getElem?_map] at hx
  cases hc : s.clks[k]? with
  | none => rw [hc] at hx; cases hx
  | some c =>
    rw [hc] at hx
    obtain rfl : freshS c = x := Option.some.inj hx
    have hl := h.clkL k c hc
    have hr := h.clkR s.clks.length k c hc (Nat.le_refl _)
    have hlk : c.kind = 112 → 0 ≤ c.lock ∧ c.lock ≤ 20 := fun e => by
      have hj : rangeB c = true := by
        cases hrb : rangeB c with
        | true => rfl
        | false =>
          exfalso
          unfold clkE at hr
          rw [hrb] at hr
          cases hjb : joinedB c <;> cases hnb : nodesB s.clks.length c.frm <;> rw [hjb, hnb] at hr <;> simp [firstE, orE] at hr
      unfold rangeB at hj
      rw [if_neg (by omega), if_pos e] at hj
      simp [betw] at hj
      omega
    have hll : 0 ≤ lockL c ∧ lockL c ≤ 20 := by
      unfold lockL
      by_cases e : c.kind = 112
      · rw [if_pos e]; exact hlk e
      · rw [if_neg e]; omega
    have hn : c.kind ≠ 111 → 0 < c.frm.length := fun e => by
      have := h.clkO k c hc
      rcases Nat.eq_zero_or_pos c.frm.length with h0 | h0
      · exact absurd (this.2 h0) e
      · exact h0
    refine ⟨by show c.frm.length ≤ 1000; omega, h.clkD k c hc, h.clkO k c hc, fun e => ?_, fun e => ?_, ?_, hll⟩
    · have := hn e
      exact ⟨Int.le_refl _, by show (0 : Int) < (c.frm.length : Int); omega⟩
    · have := hn e
      exact ⟨Int.le_refl _, by show (0 : Int) < (c.frm.length : Int); omega⟩
    · by_cases e : c.kind = 112
      · exact .inl (hlk e)
      · exact .inr e
theorem InvT.set {sts : List Sta} (h : InvT sts) {k : Nat} {x x' : Sta} (hx : sts[k]? = some x) (h' : StaOk k x') : InvT (sts.set k x') := fun m y hy => by
  by_cases e : m = k
  · subst e
    rw [List.getElem?_set_self (List.getElem?_eq_some_iff.1 hx).1] at hy
    rw [← Option.some.inj hy]
    exact h'
  · rw [List.getElem?_set_ne (Ne.symm e)] at hy
    exact h m y hy
end

end Go.Proofs.Ytnfbhhgdibkbdaa
