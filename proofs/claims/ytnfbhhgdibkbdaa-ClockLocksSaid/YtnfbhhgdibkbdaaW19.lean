/- The contract of conf.Copy. -/
import Derived.Test.YtnfbhhgdibkbdaaW18
import Derived.Test.YtnfbhhgdibkbdaaL2
import Derived.Lib.OwnKind
namespace Go.Proofs.Ytnfbhhgdibkbdaa
set_option linter.unusedSimpArgs false
set_option linter.unusedVariables false
open Go.RowKit Go.Maps

set_option maxRecDepth 100000 in
theorem lit68 (T : Nat → Value) : listT T 68 = List.toArray (T 0 :: T 1 :: T 2 :: T 3 :: T 4 :: T 5 :: T 6 :: T 7 :: T 8 :: T 9 :: T 10 :: T 11 :: T 12 :: T 13 :: T 14 :: T 15 :: T 16 :: T 17 :: T 18 :: T 19 :: T 20 :: T 21 :: T 22 :: T 23 :: T 24 :: T 25 :: T 26 :: T 27 :: T 28 :: T 29 :: T 30 :: T 31 :: T 32 :: T 33 :: T 34 :: T 35 :: T 36 :: T 37 :: T 38 :: T 39 :: T 40 :: T 41 :: T 42 :: T 43 :: T 44 :: T 45 :: T 46 :: T 47 :: T 48 :: T 49 :: T 50 :: T 51 :: T 52 :: T 53 :: T 54 :: T 55 :: T 56 :: T 57 :: T 58 :: T 59 :: T 60 :: T 61 :: T 62 :: T 63 :: T 64 :: T 65 :: T 66 :: T 67 :: []) := rfl
noncomputable def body23 : Code := Try.f25.body.getD .skip
noncomputable def rest23 : Code := tlC (tlC body23)
noncomputable def loop23a : Code := blC (tlC (hdC rest23))
noncomputable def loop23b : Code := blC (tlC (hdC (tlC rest23)))

theorem gr_callB {P : Program} {T : Nat → Value} {o : Oper} {w : World} {row : Option Nat} {R : Value → World → Prop} {f : FuncId} {args : Array Value} (h : (execOp (evT T) o).run P w = .ok (.enter f args) w)
    (hc : Calls P f args w fun e w' => ∃ v, e = .returned v ∧ R v w' ∧ Below w.heap.size w w') : GivesR P T o w false row R := by
  refine .inr ⟨f, args, h, hc.mono ?_⟩
  rintro e w' ⟨v, he, hR, hb⟩
  exact ⟨v, he, by simp; exact grown_of_below hb row, hR⟩
theorem stbR_cloned {α : Type} {V : Reads α} {sz : Nat} {e : TypeId} {w0 : World} {xs : List α} : StbR none (Cloned V sz e w0 xs) := fun v w w' ⟨vss, h1, h2, h3⟩ hg =>
  ⟨vss, h1, h2, own_move h3 fun g hg' => hg.block g (h3.lt g hg').2 (by simp)⟩
def Four (s : Chip) (w0 : World) : Gv := fun v w => ∃ v1 v2 v3 v4, v = .agg #[v1, v2, v3, v4] ∧ Cloned ClkV 6 46 w0 s.clks v1 w ∧ Cloned DomV 3 75 w0 s.doms v2 w ∧ Cloned RstV 1 80 w0 s.rsts v3 w ∧ Cloned DevV 6 86 w0 s.devs v4 w
theorem stbR_four {s : Chip} {w0 : World} : StbR none (Four s w0) := fun v w w' ⟨v1, v2, v3, v4, e, h1, h2, h3, h4⟩ hg => ⟨v1, v2, v3, v4, e, stbR_cloned _ _ _ h1 hg, stbR_cloned _ _ _ h2 hg, stbR_cloned _ _ _ h3 hg, stbR_cloned _ _ _ h4 hg⟩
theorem store27 {T : Nat → Value} {w : World} {x y : Operand} {b : Nat} {p0 p1 p2 p3 : Value} {A1 A2 A3 A4 : Option Addr} {n1 c1 n2 c2 n3 c3 n4 c4 : Nat} (hx : evT T x = .pointer (some ⟨b, 0, none⟩)) (hy : evT T y = .agg #[.slice A1 n1 c1, .slice A2 n2 c2, .slice A3 n3 c3, .slice A4 n4 c4]) (hB : BoxAt w b [p0, p1, p2, p3]) :
    ∃ w', (∀ (ty : TypeId) (pos : String) (after : Array Edge), (execOp (evT T) { dst := none, op := .store 27 x y, type := ty, pos := pos, after := after, guard := none }).run Try.prog w = .ok .skip w') ∧ BoxAt w' b [.slice A1 n1 c1, .slice A2 n2 c2, .slice A3 n3 c3, .slice A4 n4 c4] ∧ Moved [b] w w' := by
  obtain ⟨c0, f0⟩ := hB 0 _ rfl
  obtain ⟨k1, f1⟩ := hB 1 _ rfl
  obtain ⟨k2, f2⟩ := hB 2 _ rfl
  obtain ⟨k3, f3⟩ := hB 3 _ rfl
  have hm : ∀ (W : World) (j : Nat) (u : Value), Moved [b] W (W.setCell ⟨b, j, none⟩ u) := fun W j u => Moved.setCell W (by simp) u
  refine ⟨_, ?_, ((((hB.set (j := 0) (by simp) _).set (j := 1) (by simp) _).set (j := 2) (by simp) _).set (j := 3) (by simp) _), (((hm _ _ _).trans (hm _ _ _)).trans (hm _ _ _)).trans (hm _ _ _)⟩
  intro ty pos after
  simp only [execOp, hx, hy]
  go_simp
/-! contents that are older than the copy -/
section
variable {hot : List Nat} {w0 w : World} (hh : ∀ b, b ∈ hot → w0.heap.size ≤ b) (hb : Below w0.heap.size w0 w)
include hh hb
theorem ints_old {A : Option Addr} {xs : List Int} (h : IntsAt w0 w0.heap.size A xs) : IntsC hot w A xs := fun hp => by
  obtain ⟨ad, e, hl, hc⟩ := h hp
  exact ⟨ad, e, Nat.lt_of_lt_of_le hl hb.size, fun hm => by have := hh _ hm; omega, fun j x hj => (hb.cell (by rw [block_add]; exact hl)).trans (hc j x hj)⟩
theorem regs_old {A : Option Addr} {rs : List Rgs} (h : StrsAt RgsV 2 w0 w0.heap.size A rs) : RegsC hot w A rs := fun hp => by
  obtain ⟨ad, e, hl, hc⟩ := h hp
  refine ⟨ad, e, Nat.lt_of_lt_of_le hl hb.size, fun hm => by have := hh _ hm; omega, fun k x hk j v hj => ?_⟩
  obtain ⟨vs, hv, hag⟩ := hc k x hk
  have hv' : vs = _ := hv
  subst hv'
  exact (hb.cell (by rw [block_add, block_add]; exact hl)).trans (hag j v hj)
theorem clk_old {x : Clk} {vs : List Value} (h : ClkV w0 w0.heap.size x vs) : ClkC hot w x vs := by
  obtain ⟨A, c, e, h1, h2⟩ := h
  exact ⟨A, c, e, h1, ints_old hh hb h2⟩
theorem dev_old {x : Dev} {vs : List Value} (h : DevV w0 w0.heap.size x vs) : DevC hot w x vs := by
  obtain ⟨A, c, A', c', e, h1, h2, h3, h4⟩ := h
  exact ⟨A, c, A', c', e, h1, h2, regs_old hh hb h3, ints_old hh hb h4⟩
end
theorem Cloned.row {α : Type} {C : ReadsC α} {V : Reads α} {sz : Nat} {e : TypeId} {hot : List Nat} {w0 w : World} {xs : List α} {v : Value} (h : Cloned V sz e w0 xs v w) (hc : ∀ x vs, V w0 w0.heap.size x vs → C hot w x vs) : RowC C sz e hot w w0.heap.size v xs := by
  obtain ⟨vss, h1, h2, h3⟩ := h
  exact ⟨vss, h1, fun k x vs hx hv => ⟨(h2 k x vs hx hv).1, hc x vs (h2 k x vs hx hv).2⟩, h3⟩
theorem Cloned.move {α : Type} {V : Reads α} {sz : Nat} {e : TypeId} {w0 w w' : World} {xs : List α} {v : Value} (h : Cloned V sz e w0 xs v w) (hk : ∀ g, v.ownBlock = some g → w'.heap[g]? = w.heap[g]?) : Cloned V sz e w0 xs v w' := by
  obtain ⟨vss, h1, h2, h3⟩ := h
  exact ⟨vss, h1, h2, own_move h3 hk⟩
theorem Cloned.kind {α : Type} {V : Reads α} {sz : Nat} {e : TypeId} {w0 w : World} {xs : List α} {v : Value} (h : Cloned V sz e w0 xs v w) : ∀ g, v.ownBlock = some g → w0.heap.size ≤ g ∧ g < w.heap.size ∧ ∃ c fz, w.heap[g]? = some (.cells c e fz) := by
  obtain ⟨vss, h1, h2, h3⟩ := h
  exact fun g hg => ⟨(h3.lt g hg).1, (h3.lt g hg).2, Go.Lib.ownsRow_kind h3 g hg⟩
theorem kinds_ne {w : World} {g : Nat} {e e' : TypeId} (h : ∃ c fz, w.heap[g]? = some (.cells c e fz)) (h' : ∃ c fz, w.heap[g]? = some (.cells c e' fz)) : e = e' := by
  obtain ⟨c, fz, h⟩ := h
  obtain ⟨c', fz', h'⟩ := h'
  rw [h] at h'
  injection h' with h'
  injection h'

/-- the copy as it stands, in the box b3, the result's cell being b2 -/
structure StC (w W : World) (b2 b3 : Nat) (s : Chip) (v1 v2 v3 v4 : Value) : Prop where
  own : Own5 b2 W w.heap.size s v1 v2 v3 v4
  bx : BoxAt W b3 [v1, v2, v3, v4]
  br : BoxAt W b2 [.slice none 0 0, .slice none 0 0, .slice none 0 0, .slice none 0 0]
  bl : Below w.heap.size w W
  h2 : w.heap.size ≤ b2
  l2 : b2 < W.heap.size
  h3 : b2 ≠ b3
  y1 : v1.ownBlock ≠ some b3
  y2 : v2.ownBlock ≠ some b3
  y3 : v3.ownBlock ≠ some b3
  y4 : v4.ownBlock ≠ some b3
theorem StC.calm {w W W' : World} {b2 b3 : Nat} {s : Chip} {v1 v2 v3 v4 : Value} (h : StC w W b2 b3 s v1 v2 v3 v4) (hm : Moved [] W W') : StC w W' b2 b3 s v1 v2 v3 v4 :=
  ⟨h.own.calm hm, h.bx.move hm (by simp), h.br.move hm (by simp), h.bl.trans (hm.below (by simp) h.bl.size), h.h2, Nat.lt_of_lt_of_le h.l2 hm.size, h.h3, h.y1, h.y2, h.y3, h.y4⟩
theorem StC.set {w W : World} {b2 b3 : Nat} {s s' : Chip} {v1 v2 v3 v4 : Value} (h : StC w W b2 b3 s v1 v2 v3 v4) {p : Addr} (u : Value) (ho : Own5 b2 (W.setCell p u) w.heap.size s' v1 v2 v3 v4) (hp : p.block ∈ hot4 v1 v2 v3 v4) : StC w (W.setCell p u) b2 b3 s' v1 v2 v3 v4 := by
  have hf := h.own.fresh h.h2 h.l2 p.block (List.mem_cons_of_mem _ hp)
  have hne : ∀ b, v1.ownBlock ≠ some b → v2.ownBlock ≠ some b → v3.ownBlock ≠ some b → v4.ownBlock ≠ some b → b ≠ p.block := fun b e1 e2 e3 e4 e => by
    subst e
    simp [hot4] at hp
    rcases hp with hp | hp | hp | hp
    · exact e1 hp
    · exact e2 hp
    · exact e3 hp
    · exact e4 hp
  have m : Moved [p.block] W (W.setCell p u) := Moved.setCell W (by simp) u
  exact ⟨ho, h.bx.move m (by simpa using hne b3 h.y1 h.y2 h.y3 h.y4), h.br.move m (by simpa using hne b2 h.own.z1 h.own.z2 h.own.z3 h.own.z4), h.bl.setCell (p := p) hf.1 _, h.h2, by rw [size_setCell]; exact h.l2, h.h3, h.y1, h.y2, h.y3, h.y4⟩

set_option maxRecDepth 1000000 in
set_option maxHeartbeats 4000000 in
theorem copyA_round (w W : World) (b2 b3 : Nat) (s : Chip) (v1 v2 v3 v4 : Value) (i : Nat) (hok : ChipOk s) (hs : StC w W b2 b3 s v1 v2 v3 v4) (hi : i ≤ s.clks.length)
    (a : Act) (ha : FrN 68 a) (h2 : slT a 2 = .pointer (some ⟨b2, 0, none⟩)) (h3 : slT a 3 = .pointer (some ⟨b3, 0, none⟩)) (h23 : slT a 23 = .int .i64 (s.clks.length : Nat)) (h24 : slT a 24 = .int .i64 (i : Nat)) (R : Act → World → Prop) (Q : Exit → Act → World → Prop)
    (hR : ∀ a' W', i < s.clks.length → FrN 68 a' → slT a' 2 = .pointer (some ⟨b2, 0, none⟩) → slT a' 3 = .pointer (some ⟨b3, 0, none⟩) → slT a' 23 = .int .i64 (s.clks.length : Nat) → slT a' 24 = .int .i64 ((i + 1 : Nat) : Int) → StC w W' b2 b3 s v1 v2 v3 v4 → R a' W')
    (hQ : ∀ a', FrN 68 a' → slT a' 2 = .pointer (some ⟨b2, 0, none⟩) → slT a' 3 = .pointer (some ⟨b3, 0, none⟩) → Q (.exit 0) a' W) :
    Code.wp Try.prog (lpC loop23a) (Exit.then R Q) a W := by
  have HQ := Lib.hid hQ
  have HR := Lib.hid hR
  clear hQ hR
  obtain ⟨F, rfl⟩ := ha.open_
  rw [slT_listT (by omega)] at h2 h3 h23 h24
  rw [lit68, h2, h3, h23, h24]
  clear ha h2 h3 h23 h24
  conv => arg 2; whnf
  have hn1 := hok.n1
  by_cases hlt : i < s.clks.length
  · obtain ⟨g, cap, rfl, -, hgl⟩ := Own5.form hs.own.clks (by omega)
    have hr := List.getElem?_eq_getElem (l := s.clks) (i := i) hlt
    generalize s.clks[i] = x at hr
    obtain ⟨n, hn⟩ : ∃ n, n = s.clks.length := ⟨_, rfl⟩
    have hxl := (hok.clks x (List.mem_of_getElem? hr)).1
    obtain ⟨vs, hvl, ⟨Ax, cx, rfl, hcx, hix⟩, hcells⟩ := hs.own.clks.cell rfl hr
    obtain ⟨e0, e1⟩ := hcells 1 _ rfl
    obtain ⟨x0, y0⟩ := hs.bx 0 _ rfl
    have hnil : Ax = none → x.frm.length = 0 := fun h => by
      rcases Nat.eq_zero_or_pos x.frm.length with h0 | h0
      · exact h0
      · obtain ⟨ad, e, _⟩ := hix h0
        rw [h] at e; cases e
    have HIX := Lib.hid hix.ints
    have HS := Lib.hid hs
    have HRR := Lib.hid hr
    have i0 : (0 : Int) ≤ (i : Int) := by omega
    have i1 : (i : Int) < (s.clks.length : Int) := by omega
    clear hcells hvl hix hs hr
    go_wp2_with fail
    refine (cloneInts_any Ax cx x.frm W (by omega) HIX.out).mono ?_
    rintro e w1 ⟨v, rfl, hown, hb1⟩
    obtain ⟨A9, c9, rfl⟩ := own_shape' hown
    have hm1 : Moved [] W w1 := Moved.of_below hb1
    have hs1 := HS.out.calm hm1
    obtain ⟨vs', -, ⟨Ax', cx', rfl, -, -⟩, hcells'⟩ := hs1.own.clks.cell rfl HRR.out
    obtain ⟨f0, f1⟩ := hcells' 1 _ rfl
    have hcap := own_cap hown
    have hset := hs1.own.setClk (j := 1) (u := .slice A9 x.frm.length c9) (x' := x) rfl HRR.out (by omega) (fun vs hv _ => by
      obtain ⟨A, c, rfl, q1, q2⟩ := hv
      exact ⟨A9, c9, rfl, hcap, ints_own hown _ (fun g hg hm => by
        have := (hown.lt g hg).1
        have := (HS.out.own.fresh HS.out.h2 HS.out.l2 g hm).2
        omega)⟩)
    have hss : ({ s with clks := s.clks.set i x } : Chip) = s := by
      have hxi := (List.getElem?_eq_some_iff.1 HRR.out).2
      rw [← hxi, List.set_getElem_self]
    rw [hss] at hset
    have ht := hs1.set (p := ⟨g, i * 6 + 1, none⟩) (.slice A9 x.frm.length c9) hset (by simp [hot4, Value.ownBlock])
    have HT := Lib.hid ht
    clear hown hb1 hm1 hs1 hcells' hset hss ht hcap HIX HS
    go_wp2
    exact HR.out _ _ hlt ⟨rfl, rfl⟩ rfl rfl rfl (by go_num) HT.out
  · obtain rfl : i = s.clks.length := by omega
    go_wp2
    exact HQ.out _ ⟨rfl, rfl⟩ rfl rfl

def IA (w : World) (b2 b3 : Nat) (s : Chip) (v1 v2 v3 v4 : Value) (a : Act) (W : World) : Prop :=
  ∃ i : Nat, i ≤ s.clks.length ∧ FrN 68 a ∧ slT a 2 = .pointer (some ⟨b2, 0, none⟩) ∧ slT a 3 = .pointer (some ⟨b3, 0, none⟩) ∧ slT a 23 = .int .i64 (s.clks.length : Nat) ∧ slT a 24 = .int .i64 (i : Nat) ∧ StC w W b2 b3 s v1 v2 v3 v4
def MA (s : Chip) (a : Act) (_ : World) : Nat := s.clks.length - (intOf (slT a 24)).toNat
theorem copyA_any (w W : World) (b2 b3 : Nat) (s : Chip) (v1 v2 v3 v4 : Value) (hok : ChipOk s) (hs : StC w W b2 b3 s v1 v2 v3 v4)
    (a : Act) (ha : FrN 68 a) (h2 : slT a 2 = .pointer (some ⟨b2, 0, none⟩)) (h3 : slT a 3 = .pointer (some ⟨b3, 0, none⟩)) (h23 : slT a 23 = .int .i64 (s.clks.length : Nat)) (h24 : slT a 24 = .int .i64 0) (Q : Exit → Act → World → Prop)
    (hQ : ∀ a' W', FrN 68 a' → slT a' 2 = .pointer (some ⟨b2, 0, none⟩) → slT a' 3 = .pointer (some ⟨b3, 0, none⟩) → StC w W' b2 b3 s v1 v2 v3 v4 → Q (.exit 0) a' W') : Code.wp Try.prog loop23a Q a W := by
  show Code.wp Try.prog (Code.loop (lpC loop23a)) Q a W
  refine wp_loop (IA w b2 b3 s v1 v2 v3 v4) (MA s) ⟨0, Nat.zero_le _, ha, h2, h3, h23, h24, hs⟩ ?_
  rintro a1 W1 ⟨i, hi, hf, q2, q3, q23, q24, hs1⟩
  refine copyA_round w W1 b2 b3 s v1 v2 v3 v4 i hok hs1 hi a1 hf q2 q3 q23 q24 _ _ ?_ ?_
  · intro a' W' hlt hF e2 e3 e23 e24 hs'
    refine ⟨⟨i + 1, hlt, hF, e2, e3, e23, e24, hs'⟩, ?_⟩
    unfold MA
    rw [e24, q24]
    simp [intOf]
    omega
  · exact fun a' hF e2 e3 => hQ _ _ hF e2 e3 hs1

set_option maxRecDepth 1000000 in
set_option maxHeartbeats 4000000 in
theorem copyB_round (w W : World) (b2 b3 : Nat) (s : Chip) (v1 v2 v3 v4 : Value) (i : Nat) (hok : ChipOk s) (hs : StC w W b2 b3 s v1 v2 v3 v4) (hi : i ≤ s.devs.length)
    (a : Act) (ha : FrN 68 a) (h2 : slT a 2 = .pointer (some ⟨b2, 0, none⟩)) (h3 : slT a 3 = .pointer (some ⟨b3, 0, none⟩)) (h42 : slT a 42 = .int .i64 (s.devs.length : Nat)) (h43 : slT a 43 = .int .i64 (i : Nat)) (R : Act → World → Prop) (Q : Exit → Act → World → Prop)
    (hR : ∀ a' W', i < s.devs.length → FrN 68 a' → slT a' 2 = .pointer (some ⟨b2, 0, none⟩) → slT a' 3 = .pointer (some ⟨b3, 0, none⟩) → slT a' 42 = .int .i64 (s.devs.length : Nat) → slT a' 43 = .int .i64 ((i + 1 : Nat) : Int) → StC w W' b2 b3 s v1 v2 v3 v4 → R a' W')
    (hQ : ∀ a', FrN 68 a' → slT a' 2 = .pointer (some ⟨b2, 0, none⟩) → slT a' 3 = .pointer (some ⟨b3, 0, none⟩) → Q (.exit 2) a' W) :
    Code.wp Try.prog (lpC loop23b) (Exit.then R Q) a W := by
  have HQ := Lib.hid hQ
  have HR := Lib.hid hR
  clear hQ hR
  obtain ⟨F, rfl⟩ := ha.open_
  rw [slT_listT (by omega)] at h2 h3 h42 h43
  rw [lit68, h2, h3, h42, h43]
  clear ha h2 h3 h42 h43
  conv => arg 2; whnf
  have hn1 := hok.n4
  by_cases hlt : i < s.devs.length
  · obtain ⟨g, cap, rfl, -, hgl⟩ := Own5.form hs.own.devs (by omega)
    have hr := List.getElem?_eq_getElem (l := s.devs) (i := i) hlt
    generalize s.devs[i] = x at hr
    have hxr := (hok.devs x (List.mem_of_getElem? hr)).1
    have hxl := (hok.devs x (List.mem_of_getElem? hr)).2.1
    obtain ⟨vs, hvl, ⟨Ax, cx, Ay, cy, rfl, hcx, hcy, hix, hiy⟩, hcells⟩ := hs.own.devs.cell rfl hr
    obtain ⟨e0, e1⟩ := hcells 4 _ rfl
    obtain ⟨x0, y0⟩ := hs.bx 3 _ rfl
    have hss : ∀ x' : Dev, x' = x → ({ s with devs := s.devs.set i x' } : Chip) = s := fun x' hx' => by
      have hxi := (List.getElem?_eq_some_iff.1 hr).2
      rw [hx', ← hxi, List.set_getElem_self]
    have HIX := Lib.hid hix.strs
    have HS := Lib.hid hs
    have HRR := Lib.hid hr
    have HSS := Lib.hid hss
    have i0 : (0 : Int) ≤ (i : Int) := by omega
    have i1 : (i : Int) < (s.devs.length : Int) := by omega
    clear hcells hvl hix hiy hs hr hss
    go_wp2_with fail
    refine (clone66_any Ax cx x.regs W W (by omega) (Below.refl _ _) HIX.out).mono ?_
    rintro e w1 ⟨v, rfl, hcl, hb1⟩
    obtain ⟨vss9, h9l, h9c, hown⟩ := id hcl
    obtain ⟨A9, c9, rfl⟩ := own_shape' hown
    have hm1 : Moved [] W w1 := Moved.of_below hb1
    have hs1 := HS.out.calm hm1
    obtain ⟨vs', -, ⟨Ax', cx', Ay', cy', rfl, -, -, -, -⟩, hcells'⟩ := hs1.own.devs.cell rfl HRR.out
    obtain ⟨f0, f1⟩ := hcells' 4 _ rfl
    have hcap := own_cap hown
    have hregs : ∀ hot : List Nat, (∀ g, (Value.slice A9 x.regs.length c9).ownBlock = some g → g ∉ hot) → RegsC hot w1 A9 x.regs := by
      obtain ⟨A8, c8, e8, -, h8⟩ := rowc_regs (hot0 := []) (B := W.heap.size) (rs := x.regs) (v := .slice A9 x.regs.length c9) ⟨vss9, h9l, fun k y us hy hu => ⟨(h9c k y us hy hu).1, (h9c k y us hy hu).2⟩, hown⟩
      injection e8 with e8 _ _
      subst e8
      exact h8
    have hset := hs1.own.setDev (j := 4) (u := .slice A9 x.regs.length c9) (x' := x) rfl HRR.out (by omega) (fun vs hv _ => by
      obtain ⟨A, c, A', c', rfl, q1, q2, q3, q4⟩ := hv
      exact ⟨A9, c9, A', c', rfl, hcap, q2, hregs _ (fun g hg hm => by
        have := (hown.lt g hg).1
        have := (HS.out.own.fresh HS.out.h2 HS.out.l2 g hm).2
        omega), q4⟩)
    rw [HSS.out x rfl] at hset
    have ht := hs1.set (p := ⟨g, i * 6 + 4, none⟩) (.slice A9 x.regs.length c9) hset (by simp [hot4, Value.ownBlock])
    obtain ⟨W2, hW2⟩ : ∃ W2, W2 = w1.setCell ⟨g, i * 6 + 4, none⟩ (.slice A9 x.regs.length c9) := ⟨_, rfl⟩
    rw [← hW2] at ht
    obtain ⟨vs2, -, ⟨Bx, dx, By, dy, rfl, -, hdy, -, hiy⟩, hcells2⟩ := ht.own.devs.cell rfl HRR.out
    obtain ⟨p0, p1⟩ := hcells2 5 _ rfl
    have HIY := Lib.hid hiy.ints
    have HT := Lib.hid ht
    have HW2 := Lib.hid hW2
    clear hown hb1 hm1 hs1 hcells' hset ht hcap HIX HS hcl h9l h9c hregs hcells2 hiy hW2 hdy
    go_upto_region 13 with fail
    rw [← HW2.out]
    clear HW2 f0 f1 e0 e1
    go_wp2_with fail
    refine (cloneInts_any By dy x.needs W2 (by omega) HIY.out).mono ?_
    rintro e w3 ⟨v, rfl, hown, hb1⟩
    obtain ⟨A7, c7, rfl⟩ := own_shape' hown
    have hm1 : Moved [] W2 w3 := Moved.of_below hb1
    have hs1 := HT.out.calm hm1
    obtain ⟨vs', -, ⟨Ax', cx', Ay', cy', rfl, -, -, -, -⟩, hcells'⟩ := hs1.own.devs.cell rfl HRR.out
    obtain ⟨f0, f1⟩ := hcells' 5 _ rfl
    have hcap := own_cap hown
    have hset := hs1.own.setDev (j := 5) (u := .slice A7 x.needs.length c7) (x' := x) rfl HRR.out (by omega) (fun vs hv _ => by
      obtain ⟨A, c, A', c', rfl, q1, q2, q3, q4⟩ := hv
      exact ⟨A, c, A7, c7, rfl, q1, hcap, q3, ints_own hown _ (fun g hg hm => by
        have := (hown.lt g hg).1
        have := (HT.out.own.fresh HT.out.h2 HT.out.l2 g hm).2
        omega)⟩)
    rw [HSS.out x rfl] at hset
    have ht := hs1.set (p := ⟨g, i * 6 + 5, none⟩) (.slice A7 x.needs.length c7) hset (by simp [hot4, Value.ownBlock])
    have HT3 := Lib.hid ht
    clear hown hb1 hm1 hs1 hcells' hset ht hcap HIY HT
    go_wp2
    exact HR.out _ _ hlt ⟨rfl, rfl⟩ rfl rfl rfl (by go_num) HT3.out
  · obtain rfl : i = s.devs.length := by omega
    go_wp2
    exact HQ.out _ ⟨rfl, rfl⟩ rfl rfl
def IB (w : World) (b2 b3 : Nat) (s : Chip) (v1 v2 v3 v4 : Value) (a : Act) (W : World) : Prop :=
  ∃ i : Nat, i ≤ s.devs.length ∧ FrN 68 a ∧ slT a 2 = .pointer (some ⟨b2, 0, none⟩) ∧ slT a 3 = .pointer (some ⟨b3, 0, none⟩) ∧ slT a 42 = .int .i64 (s.devs.length : Nat) ∧ slT a 43 = .int .i64 (i : Nat) ∧ StC w W b2 b3 s v1 v2 v3 v4
def MB (s : Chip) (a : Act) (_ : World) : Nat := s.devs.length - (intOf (slT a 43)).toNat
theorem copyB_any (w W : World) (b2 b3 : Nat) (s : Chip) (v1 v2 v3 v4 : Value) (hok : ChipOk s) (hs : StC w W b2 b3 s v1 v2 v3 v4)
    (a : Act) (ha : FrN 68 a) (h2 : slT a 2 = .pointer (some ⟨b2, 0, none⟩)) (h3 : slT a 3 = .pointer (some ⟨b3, 0, none⟩)) (h42 : slT a 42 = .int .i64 (s.devs.length : Nat)) (h43 : slT a 43 = .int .i64 0) (Q : Exit → Act → World → Prop)
    (hQ : ∀ a' W', FrN 68 a' → slT a' 2 = .pointer (some ⟨b2, 0, none⟩) → slT a' 3 = .pointer (some ⟨b3, 0, none⟩) → StC w W' b2 b3 s v1 v2 v3 v4 → Q (.exit 2) a' W') : Code.wp Try.prog loop23b Q a W := by
  show Code.wp Try.prog (Code.loop (lpC loop23b)) Q a W
  refine wp_loop (IB w b2 b3 s v1 v2 v3 v4) (MB s) ⟨0, Nat.zero_le _, ha, h2, h3, h42, h43, hs⟩ ?_
  rintro a1 W1 ⟨i, hi, hf, q2, q3, q42, q43, hs1⟩
  refine copyB_round w W1 b2 b3 s v1 v2 v3 v4 i hok hs1 hi a1 hf q2 q3 q42 q43 _ _ ?_ ?_
  · intro a' W' hlt hF e2 e3 e42 e43 hs'
    refine ⟨⟨i + 1, hlt, hF, e2, e3, e42, e43, hs'⟩, ?_⟩
    unfold MB
    rw [e43, q43]
    simp [intOf]
    omega
  · exact fun a' hF e2 e3 => hQ _ _ hF e2 e3 hs1

end Go.Proofs.Ytnfbhhgdibkbdaa
