/- The contract of conf.Copy, with its devices' needs owned. -/
import Derived.Test.YtnfbhhgdibkbdaaW20
import Derived.Laws.OwnMore
import Derived.Lib.AppendZeros
namespace Go.Proofs.Ytnfbhhgdibkbdaa
set_option linter.unusedSimpArgs false
set_option linter.unusedVariables false
open Go.RowKit Go.Maps

set_option maxRecDepth 100000 in
set_option maxHeartbeats 1000000 in
/-- a copy of no ints has no room -/
theorem cloneNil_any (A : Option Addr) (c : Nat) (w : World) :
    Calls Try.prog 62 #[.slice A 0 c] w fun e w' => ∃ A', e = .returned (.slice A' 0 0) ∧ w'.ownsRow w.heap.size 3 1 (.slice A' 0 0) 0 [] ∧ Below w.heap.size w w' := by
  obtain ⟨i0, hi, hz0, hz1, hz2⟩ := info_parts Try.info3
  have q22 : ∀ (w : World) (a : Option Addr) (n c : Nat), (binOp .eql 35 (.slice a n c) (.slice none 0 0)).run Try.prog w = .ok (.bool a.isNone) w := fun w a n c => Lib.run_eql_slice_nil w _ _ a n c 0 0 Try.underlying35
  rcases A with _ | ad
  · go_enter Try.func62, Try.ntmps62
    go_wp2
    go_ret
    exact ⟨_, rfl, World.ownsRow_nil _ _ _ _, Below.refl _ _⟩
  · have hown0 := World.ownsRow_made (base := w.heap.size) (e := 3) (size := 1) w #[] 0 (Nat.le_refl _) (Nat.zero_le _) (by simp)
    have hfit := fun ty => run_append_fits (P := Try.prog) _ w.heap.size 35 ty 3 i0 1 Try.underlying35 hi hz1 _ _ _ _ hown0 ad 0 c [] rfl (by intro j u hj; simp at hj) (by simp) (Nat.le_refl _)
    have HF := Lib.hid hfit
    clear hfit hown0
    go_enter Try.func62, Try.ntmps62
    go_wp2_with (at_builtin; obtain ⟨w1, hr, hown, hgrow⟩ := HF.out 35; refine Lib.wpList_append_run _ rfl _ _ 35 35 rfl _ _ rfl rfl _ _ hr ?_)
    have HOWN := Lib.hid hown
    clear hown
    go_wp2
    go_ret
    exact ⟨_, rfl, HOWN.out, ((Below.refl _ w).alloc (Nat.le_refl _) _).grown hgrow (by simp) (by intro k hk; simp at hk; omega)⟩
def IntsNew2 (xs : List Int) (w : World) (e : Ending) (w' : World) : Prop :=
  ∃ v, e = .returned v ∧ w'.ownsRow w.heap.size 3 1 v xs.length (iv xs) ∧ Below w.heap.size w w' ∧ (xs = [] → ∃ A, v = .slice A 0 0)
theorem cloneInts2_any (A : Option Addr) (c : Nat) (xs : List Int) (w : World) (hn : xs.length ≤ 1000000) (h : IntsAt w w.heap.size A xs) :
    Calls Try.prog 62 #[.slice A xs.length c] w (IntsNew2 xs w) := by
  by_cases h0 : xs = []
  · subst h0
    refine (cloneNil_any A c w).mono ?_
    rintro e w' ⟨A', rfl, h1, h2⟩
    exact ⟨_, rfl, h1, h2, fun _ => ⟨_, rfl⟩⟩
  · refine (cloneInts_any A c xs w hn h).mono ?_
    rintro e w' ⟨v, rfl, h1, h2⟩
    exact ⟨_, rfl, h1, h2, fun e => absurd e h0⟩

/-- the needs of device k of the copy are a row that the call owns, in no block of the chip's own rows -/
def NeedsAt (w W : World) (b2 b3 : Nat) (s : Chip) (v1 v2 v3 v4 : Value) (k : Nat) : Prop :=
  ∀ x, s.devs[k]? = some x → ∀ g, v4.ownBlock = some g → ∃ v, W.cell? ⟨g, k * 6 + 5, none⟩ = some v ∧ W.frozen? ⟨g, k * 6 + 5, none⟩ = false ∧ W.ownsRow w.heap.size 3 1 v x.needs.length (iv x.needs) ∧ (∀ g', v.ownBlock = some g' → g' ∉ b2 :: b3 :: hot4 v1 v2 v3 v4) ∧ (x.needs = [] → ∃ A, v = .slice A 0 0)
section
variable {w W W' : World} {b2 b3 : Nat} {s : Chip} {v1 v2 v3 v4 : Value} {k : Nat}
theorem NeedsAt.calm (h : NeedsAt w W b2 b3 s v1 v2 v3 v4 k) (hm : Moved [] W W') : NeedsAt w W' b2 b3 s v1 v2 v3 v4 k := fun x hx g hg => by
  obtain ⟨v, h1, h2, h3, h4, h5⟩ := h x hx g hg
  have hl : g < W.heap.size := World.block_lt_of_cell? W ⟨g, k * 6 + 5, none⟩ h1
  exact ⟨v, hm.cell h1 (by simp), (hm.frozen (p := ⟨g, k * 6 + 5, none⟩) hl (by simp)).trans h2, own_move h3 (fun g' hg' => hm.block g' (h3.lt g' hg').2 (by simp)), h4, h5⟩
theorem NeedsAt.set (h : NeedsAt w W b2 b3 s v1 v2 v3 v4 k) {p : Addr} (hp : p.block ∈ b2 :: b3 :: hot4 v1 v2 v3 v4) (hne : ∀ g, v4.ownBlock = some g → p ≠ ⟨g, k * 6 + 5, none⟩) (u : Value) : NeedsAt w (W.setCell p u) b2 b3 s v1 v2 v3 v4 k := fun x hx g hg => by
  obtain ⟨v, h1, h2, h3, h4, h5⟩ := h x hx g hg
  exact ⟨v, (World.cell?_setCell_other W _ _ _ (fun e => hne g hg (by first | exact e | exact e.symm))).trans h1, by rw [World.frozen?_setCell]; exact h2, own_move h3 (fun g' hg' => Below.heap_setCell W p u g' (fun e => h4 g' hg' (e ▸ hp))), h4, h5⟩
end

set_option maxRecDepth 1000000 in
set_option maxHeartbeats 4000000 in
theorem copyC_round (w W : World) (b2 b3 : Nat) (s : Chip) (v1 v2 v3 v4 : Value) (i : Nat) (hok : ChipOk s) (hs : StC w W b2 b3 s v1 v2 v3 v4) (hnd : ∀ k, k < i → NeedsAt w W b2 b3 s v1 v2 v3 v4 k) (hi : i ≤ s.devs.length)
    (a : Act) (ha : FrN 68 a) (h2 : slT a 2 = .pointer (some ⟨b2, 0, none⟩)) (h3 : slT a 3 = .pointer (some ⟨b3, 0, none⟩)) (h42 : slT a 42 = .int .i64 (s.devs.length : Nat)) (h43 : slT a 43 = .int .i64 (i : Nat)) (R : Act → World → Prop) (Q : Exit → Act → World → Prop)
    (hR : ∀ a' W', i < s.devs.length → FrN 68 a' → slT a' 2 = .pointer (some ⟨b2, 0, none⟩) → slT a' 3 = .pointer (some ⟨b3, 0, none⟩) → slT a' 42 = .int .i64 (s.devs.length : Nat) → slT a' 43 = .int .i64 ((i + 1 : Nat) : Int) → StC w W' b2 b3 s v1 v2 v3 v4 → (∀ k, k < i + 1 → NeedsAt w W' b2 b3 s v1 v2 v3 v4 k) → R a' W')
    (hQ : ∀ a', FrN 68 a' → slT a' 2 = .pointer (some ⟨b2, 0, none⟩) → slT a' 3 = .pointer (some ⟨b3, 0, none⟩) → i = s.devs.length → Q (.exit 2) a' W) :
    Code.wp Try.prog (lpC loop23b) (Exit.then R Q) a W := by
  have HQ := Lib.hid hQ
  have HR := Lib.hid hR
  have HND := Lib.hid hnd
  clear hQ hR hnd
  obtain ⟨F, rfl⟩ := ha.open_
  rw [slT_listT (by omega)] at h2 h3 h42 h43
  rw [lit68, h2, h3, h42, h43]
  clear ha h2 h3 h42 h43
  conv => arg 2; whnf
  have hn1 := hok.n4
  by_cases hlt : i < s.devs.length
  · obtain ⟨g, cap, rfl, -, hgl⟩ := Own5.form hs.own.devs (by omega)
    have hr := List.getElem?_eq_getElem (l := s.devs) (i := i) hlt
    generalize s.devs[i] = x at hr
    have hxr := (hok.devs x (List.mem_of_getElem? hr)).1
    have hxl := (hok.devs x (List.mem_of_getElem? hr)).2.1
    obtain ⟨vs, hvl, ⟨Ax, cx, Ay, cy, rfl, hcx, hcy, hix, hiy⟩, hcells⟩ := hs.own.devs.cell rfl hr
    obtain ⟨e0, e1⟩ := hcells 4 _ rfl
    obtain ⟨x0, y0⟩ := hs.bx 3 _ rfl
    have hss : ∀ x' : Dev, x' = x → ({ s with devs := s.devs.set i x' } : Chip) = s := fun x' hx' => by
      have hxi := (List.getElem?_eq_some_iff.1 hr).2
      rw [hx', ← hxi, List.set_getElem_self]
    have HIX := Lib.hid hix.strs
    have HS := Lib.hid hs
    have HRR := Lib.hid hr
    have HSS := Lib.hid hss
    have i0 : (0 : Int) ≤ (i : Int) := by omega
    have i1 : (i : Int) < (s.devs.length : Int) := by omega
    clear hcells hvl hix hiy hs hr hss
    go_wp2_with fail
    refine (clone66_any Ax cx x.regs W W (by omega) (Below.refl _ _) HIX.out).mono ?_
    rintro e w1 ⟨v, rfl, hcl, hb1⟩
    obtain ⟨vss9, h9l, h9c, hown⟩ := id hcl
    obtain ⟨A9, c9, rfl⟩ := own_shape' hown
    have hm1 : Moved [] W w1 := Moved.of_below hb1
    have hs1 := HS.out.calm hm1
    obtain ⟨vs', -, ⟨Ax', cx', Ay', cy', rfl, -, -, -, -⟩, hcells'⟩ := hs1.own.devs.cell rfl HRR.out
    obtain ⟨f0, f1⟩ := hcells' 4 _ rfl
    have hcap := own_cap hown
    have hregs : ∀ hot : List Nat, (∀ g, (Value.slice A9 x.regs.length c9).ownBlock = some g → g ∉ hot) → RegsC hot w1 A9 x.regs := by
      obtain ⟨A8, c8, e8, -, h8⟩ := rowc_regs (hot0 := []) (B := W.heap.size) (rs := x.regs) (v := .slice A9 x.regs.length c9) ⟨vss9, h9l, fun k y us hy hu => ⟨(h9c k y us hy hu).1, (h9c k y us hy hu).2⟩, hown⟩
      injection e8 with e8 _ _
      subst e8
      exact h8
    have hset := hs1.own.setDev (j := 4) (u := .slice A9 x.regs.length c9) (x' := x) rfl HRR.out (by omega) (fun vs hv _ => by
      obtain ⟨A, c, A', c', rfl, q1, q2, q3, q4⟩ := hv
      exact ⟨A9, c9, A', c', rfl, hcap, q2, hregs _ (fun g hg hm => by
        have := (hown.lt g hg).1
        have := (HS.out.own.fresh HS.out.h2 HS.out.l2 g hm).2
        omega), q4⟩)
    rw [HSS.out x rfl] at hset
    have ht := hs1.set (p := ⟨g, i * 6 + 4, none⟩) (.slice A9 x.regs.length c9) hset (by simp [hot4, Value.ownBlock])
    have hnd1 : ∀ k, k < i → NeedsAt w (w1.setCell ⟨g, i * 6 + 4, none⟩ (.slice A9 x.regs.length c9)) b2 b3 s v1 v2 v3 (.slice (some ⟨g, 0, none⟩) s.devs.length cap) k := fun k hk => ((HND.out k hk).calm hm1).set (by simp [hot4, Value.ownBlock]) (fun g' hg' e => by injection e with _ e; omega) _
    obtain ⟨W2, hW2⟩ : ∃ W2, W2 = w1.setCell ⟨g, i * 6 + 4, none⟩ (.slice A9 x.regs.length c9) := ⟨_, rfl⟩
    rw [← hW2] at ht hnd1
    have HN1 := Lib.hid hnd1
    clear hnd1
    obtain ⟨vs2, -, ⟨Bx, dx, By, dy, rfl, -, hdy, -, hiy⟩, hcells2⟩ := ht.own.devs.cell rfl HRR.out
    obtain ⟨p0, p1⟩ := hcells2 5 _ rfl
    have HIY := Lib.hid hiy.ints
    have HT := Lib.hid ht
    have HW2 := Lib.hid hW2
    clear hown hb1 hm1 hs1 hcells' hset ht hcap HIX HS hcl h9l h9c hregs hcells2 hiy hW2 hdy
    go_upto_region 13 with fail
    rw [← HW2.out]
    clear HW2 f0 f1 e0 e1
    go_wp2_with fail
    refine (cloneInts2_any By dy x.needs W2 (by omega) HIY.out).mono ?_
    rintro e w3 ⟨v, rfl, hown, hb1, hem⟩
    obtain ⟨A7, c7, rfl⟩ := own_shape' hown
    have hm1 : Moved [] W2 w3 := Moved.of_below hb1
    have hs1 := HT.out.calm hm1
    obtain ⟨vs', -, ⟨Ax', cx', Ay', cy', rfl, -, -, -, -⟩, hcells'⟩ := hs1.own.devs.cell rfl HRR.out
    obtain ⟨f0, f1⟩ := hcells' 5 _ rfl
    have hcap := own_cap hown
    have hset := hs1.own.setDev (j := 5) (u := .slice A7 x.needs.length c7) (x' := x) rfl HRR.out (by omega) (fun vs hv _ => by
      obtain ⟨A, c, A', c', rfl, q1, q2, q3, q4⟩ := hv
      exact ⟨A, c, A7, c7, rfl, q1, hcap, q3, ints_own hown _ (fun g hg hm => by
        have := (hown.lt g hg).1
        have := (HT.out.own.fresh HT.out.h2 HT.out.l2 g hm).2
        omega)⟩)
    rw [HSS.out x rfl] at hset
    have ht := hs1.set (p := ⟨g, i * 6 + 5, none⟩) (.slice A7 x.needs.length c7) hset (by simp [hot4, Value.ownBlock])
    have HT3 := Lib.hid ht
    have hnd2 : ∀ k, k < i + 1 → NeedsAt w (w3.setCell ⟨g, i * 6 + 5, none⟩ (.slice A7 x.needs.length c7)) b2 b3 s v1 v2 v3 (.slice (some ⟨g, 0, none⟩) s.devs.length cap) k := fun k hk => by
      by_cases hki : k = i
      · subst hki
        intro y hy g' hg'
        rw [HRR.out] at hy
        obtain rfl : x = y := Option.some.inj hy
        obtain rfl : g = g' := by simpa [Value.ownBlock] using hg'
        have hfar : ∀ g', (Value.slice A7 x.needs.length c7).ownBlock = some g' → g' ∉ b2 :: b3 :: hot4 v1 v2 v3 (.slice (some ⟨g, 0, none⟩) s.devs.length cap) := fun g' hg hm => by
          have h1 := (hown.lt g' hg).1
          rcases List.mem_cons.1 hm with e | hm
          · have := HT.out.l2; omega
          · rcases List.mem_cons.1 hm with e | hm
            · have := HT.out.bx.lt; omega
            · have := (HT.out.own.fresh HT.out.h2 HT.out.l2 g' (List.mem_cons_of_mem _ hm)).2; omega
        refine ⟨_, World.cell?_setCell_same' _ _ _ (by rw [f0]; rfl), by rw [World.frozen?_setCell]; exact f1, own_base' (own_move hown (fun g' hg => Below.heap_setCell _ _ _ _ (fun e => hfar g' hg (by subst e; simp [hot4, Value.ownBlock])))) HT.out.bl.size, hfar, hem⟩
      · exact ((HN1.out k (by omega)).calm hm1).set (by simp [hot4, Value.ownBlock]) (fun g' hg' e => by injection e with _ e; omega) _
    have HN2 := Lib.hid hnd2
    clear hnd2
    clear hown hb1 hm1 hs1 hcells' hset ht hcap HIY HT hem
    go_wp2
    exact HR.out _ _ hlt ⟨rfl, rfl⟩ rfl rfl rfl (by go_num) HT3.out HN2.out
  · obtain rfl : i = s.devs.length := by omega
    go_wp2
    exact HQ.out _ ⟨rfl, rfl⟩ rfl rfl (by trivial)
def IC (w : World) (b2 b3 : Nat) (s : Chip) (v1 v2 v3 v4 : Value) (a : Act) (W : World) : Prop :=
  ∃ i : Nat, i ≤ s.devs.length ∧ FrN 68 a ∧ slT a 2 = .pointer (some ⟨b2, 0, none⟩) ∧ slT a 3 = .pointer (some ⟨b3, 0, none⟩) ∧ slT a 42 = .int .i64 (s.devs.length : Nat) ∧ slT a 43 = .int .i64 (i : Nat) ∧ StC w W b2 b3 s v1 v2 v3 v4 ∧ ∀ k, k < i → NeedsAt w W b2 b3 s v1 v2 v3 v4 k
def MC (s : Chip) (a : Act) (_ : World) : Nat := s.devs.length - (intOf (slT a 43)).toNat
theorem copyC_any (w W : World) (b2 b3 : Nat) (s : Chip) (v1 v2 v3 v4 : Value) (hok : ChipOk s) (hs : StC w W b2 b3 s v1 v2 v3 v4)
    (a : Act) (ha : FrN 68 a) (h2 : slT a 2 = .pointer (some ⟨b2, 0, none⟩)) (h3 : slT a 3 = .pointer (some ⟨b3, 0, none⟩)) (h42 : slT a 42 = .int .i64 (s.devs.length : Nat)) (h43 : slT a 43 = .int .i64 0) (Q : Exit → Act → World → Prop)
    (hQ : ∀ a' W', FrN 68 a' → slT a' 2 = .pointer (some ⟨b2, 0, none⟩) → slT a' 3 = .pointer (some ⟨b3, 0, none⟩) → StC w W' b2 b3 s v1 v2 v3 v4 → (∀ k, k < s.devs.length → NeedsAt w W' b2 b3 s v1 v2 v3 v4 k) → Q (.exit 2) a' W') : Code.wp Try.prog loop23b Q a W := by
  show Code.wp Try.prog (Code.loop (lpC loop23b)) Q a W
  refine wp_loop (IC w b2 b3 s v1 v2 v3 v4) (MC s) ⟨0, Nat.zero_le _, ha, h2, h3, h42, h43, hs, fun k hk => absurd hk (by omega)⟩ ?_
  rintro a1 W1 ⟨i, hi, hf, q2, q3, q42, q43, hs1, hn1⟩
  refine copyC_round w W1 b2 b3 s v1 v2 v3 v4 i hok hs1 hn1 hi a1 hf q2 q3 q42 q43 _ _ ?_ ?_
  · intro a' W' hlt hF e2 e3 e42 e43 hs' hn'
    refine ⟨⟨i + 1, hlt, hF, e2, e3, e42, e43, hs', hn'⟩, ?_⟩
    unfold MC
    rw [e43, q43]
    simp [intOf]
    omega
  · exact fun a' hF e2 e3 hin => hQ _ _ hF e2 e3 hs1 (by rw [← hin]; exact hn1)

theorem StC.ne2 {w W : World} {b2 b3 : Nat} {s : Chip} {v1 v2 v3 v4 : Value} (h : StC w W b2 b3 s v1 v2 v3 v4) (k : Nat) {j : Nat} : ∀ g, v4.ownBlock = some g → (⟨b2, j, none⟩ : Addr) ≠ ⟨g, k * 6 + 5, none⟩ := fun g hg e => by
  injection e with e _ _
  exact h.own.z4 (by rw [hg, e])
/-- .. as the caller sees it -/
def NeedsOwn (B : Nat) (W : World) (s : Chip) (v1 v2 v3 v4 : Value) (k : Nat) : Prop :=
  ∀ x, s.devs[k]? = some x → ∀ g, v4.ownBlock = some g → ∃ v, W.cell? ⟨g, k * 6 + 5, none⟩ = some v ∧ W.frozen? ⟨g, k * 6 + 5, none⟩ = false ∧ W.ownsRow B 3 1 v x.needs.length (iv x.needs) ∧ (∀ g', v.ownBlock = some g' → g' ∉ hot4 v1 v2 v3 v4) ∧ (x.needs = [] → ∃ A, v = .slice A 0 0)
theorem NeedsAt.plain {w W : World} {b2 b3 : Nat} {s : Chip} {v1 v2 v3 v4 : Value} {k : Nat} (h : NeedsAt w W b2 b3 s v1 v2 v3 v4 k) : NeedsOwn w.heap.size W s v1 v2 v3 v4 k := fun x hx g hg => by
  obtain ⟨v, h1, h2, h3, h4, h5⟩ := h x hx g hg
  exact ⟨v, h1, h2, h3, fun g' hg' hm => h4 g' hg' (List.mem_cons_of_mem _ (List.mem_cons_of_mem _ hm)), h5⟩
def NeedsPost (w : World) (s : Chip) (e : Ending) (w' : World) : Prop :=
  ∃ v1 v2 v3 v4, e = .returned (.agg #[v1, v2, v3, v4]) ∧ Own4 w' w.heap.size s v1 v2 v3 v4 ∧ (∀ k, k < s.devs.length → NeedsOwn w.heap.size w' s v1 v2 v3 v4 k) ∧ Below w.heap.size w w'

set_option maxRecDepth 1000000 in
set_option maxHeartbeats 4000000 in
theorem copy_needs (s : Chip) (vs : List Value) (w : World) (hok : ChipOk s) (h : ChipV w w.heap.size s vs) : Calls Try.prog 25 #[.agg vs.toArray] w (NeedsPost w s) := by
  obtain ⟨A1, c1, A2, c2, A3, c3, A4, c4, rfl, l1, l2, l3, l4, k1, k2, k3, k4⟩ := h
  have HCV : RowKit.Hid (StrsAt ClkV 6 w w.heap.size A1 s.clks ∧ StrsAt DomV 3 w w.heap.size A2 s.doms ∧ StrsAt RstV 1 w w.heap.size A3 s.rsts ∧ StrsAt DevV 6 w w.heap.size A4 s.devs) := ⟨k1, k2, k3, k4⟩
  have HOK := Lib.hid hok
  have hC : ∀ W, ((w.alloc (.cells #[.slice A1 s.clks.length c1, .slice A2 s.doms.length c2, .slice A3 s.rsts.length c3, .slice A4 s.devs.length c4] 27)).alloc (.cells #[.slice none 0 0, .slice none 0 0, .slice none 0 0, .slice none 0 0] 27)).grownBy W none → BoxAt W w.heap.size [.slice A1 s.clks.length c1, .slice A2 s.doms.length c2, .slice A3 s.rsts.length c3, .slice A4 s.devs.length c4] ∧ Below w.heap.size w W := fun W hW => by
    have hb0 : BoxAt (w.alloc (.cells #[.slice A1 s.clks.length c1, .slice A2 s.doms.length c2, .slice A3 s.rsts.length c3, .slice A4 s.devs.length c4] 27)) w.heap.size [.slice A1 s.clks.length c1, .slice A2 s.doms.length c2, .slice A3 s.rsts.length c3, .slice A4 s.devs.length c4] := BoxAt.new w _ 27
    have hm : Moved [] (w.alloc (.cells #[.slice A1 s.clks.length c1, .slice A2 s.doms.length c2, .slice A3 s.rsts.length c3, .slice A4 s.devs.length c4] 27)) W := (Moved.alloc _ _).trans (Moved.of_grown hW (fun k h => by cases h))
    exact ⟨hb0.move hm (by simp), ((Below.refl w.heap.size w).alloc (Nat.le_refl _) _).trans (hm.below (by simp) (by simp))⟩
  have HC := Lib.hid hC
  clear hok k1 k2 k3 k4 hC
  go_enter Try.func25, Try.ntmps25
  go_wp2
  refine region_then [⟨IsV (.pointer (some ⟨w.heap.size, 0, none⟩)), true, false⟩,
    ⟨IsV (.slice A1 s.clks.length c1), true, false⟩,
    ⟨Cloned ClkV 6 46 w s.clks, false, false⟩,
    ⟨IsV (.pointer (some ⟨w.heap.size, 1, none⟩)), true, false⟩,
    ⟨IsV (.slice A2 s.doms.length c2), true, false⟩,
    ⟨Cloned DomV 3 75 w s.doms, false, false⟩,
    ⟨IsV (.pointer (some ⟨w.heap.size, 2, none⟩)), true, false⟩,
    ⟨IsV (.slice A3 s.rsts.length c3), true, false⟩,
    ⟨Cloned RstV 1 80 w s.rsts, false, false⟩,
    ⟨IsV (.pointer (some ⟨w.heap.size, 3, none⟩)), true, false⟩,
    ⟨IsV (.slice A4 s.devs.length c4), true, false⟩,
    ⟨Cloned DevV 6 86 w s.devs, false, false⟩,
    ⟨Four s w, true, false⟩,
    ⟨IsBlk (w.heap.size + 2) mkPtr [.slice none 0 0, .slice none 0 0, .slice none 0 0, .slice none 0 0] 27, false, false⟩] none 68 (by kernel_rfl) rfl (by kernel_rfl) ⟨fun _ => stbR_V _ _, fun _ => stbR_V _ _, fun _ => stbR_cloned, fun _ => stbR_V _ _, fun _ => stbR_V _ _, fun _ => stbR_cloned, fun _ => stbR_V _ _, fun _ => stbR_V _ _, fun _ => stbR_cloned, fun _ => stbR_V _ _, fun _ => stbR_V _ _, fun _ => stbR_cloned, fun _ => stbR_four, fun _ => stbR_blk (by simp), trivial⟩ ⟨?s0, ?s1, ?s2, ?s3, ?s4, ?s5, ?s6, ?s7, ?s8, ?s9, ?s10, ?s11, ?s12, ?s13, trivial⟩ ?fin
  case s0 =>
    refine ⟨rfl, fun T w1 hT hb ha0 hd => ?_⟩
    have ec := evT_const T
    have ef := evT_func T
    have d1 : evT T (.tmp 1) = .pointer (some ⟨w.heap.size, 0, none⟩) := hT 1 (by kernel_rfl)
    clear hT hd hb ha0
    refine gr_pure (v := .pointer (some ⟨w.heap.size, 0, none⟩)) ?_ rfl
    simp only [execOp]
    go_simp
  case s1 =>
    refine ⟨rfl, fun T w1 hT hb ha0 hd => ?_⟩
    have ec := evT_const T
    have ef := evT_func T
    have d8 : evT T (.tmp 8) = .pointer (some ⟨w.heap.size, 0, none⟩) := (by first | exact hd.1 | exact hd.2.1 | exact hd.2.2.1 | exact hd.2.2.2.1 | exact hd.2.2.2.2.1 | exact hd.2.2.2.2.2.1 | exact hd.2.2.2.2.2.2.1 | exact hd.2.2.2.2.2.2.2.1)
    have f0 := ((HC.out w1 hb).1 0 _ rfl).1
    clear hT hd hb ha0
    refine gr_pure (v := .slice A1 s.clks.length c1) ?_ rfl
    simp only [execOp]
    go_simp
  case s2 =>
    refine ⟨rfl, fun T w1 hT hb ha0 hd => ?_⟩
    have ec := evT_const T
    have ef := evT_func T
    have d9 : evT T (.tmp 9) = .slice A1 s.clks.length c1 := (by first | exact hd.1 | exact hd.2.1 | exact hd.2.2.1 | exact hd.2.2.2.1 | exact hd.2.2.2.2.1 | exact hd.2.2.2.2.2.1 | exact hd.2.2.2.2.2.2.1 | exact hd.2.2.2.2.2.2.2.1)
    refine gr_callB (f := 58) (args := #[.slice A1 s.clks.length c1]) ?_ ?_
    · clear hT hd hb ha0
      simp only [execOp, resolve]
      go_simp
    · refine (clone61_any _ _ s.clks w w1 (by have := HOK.out.n1; omega) (HC.out w1 hb).2 HCV.out.1).mono ?_
      rintro en w2 ⟨v, he, h1, h2⟩
      exact ⟨v, he, h1, h2⟩
  case s3 =>
    refine ⟨rfl, fun T w1 hT hb ha0 hd => ?_⟩
    have ec := evT_const T
    have ef := evT_func T
    have d1 : evT T (.tmp 1) = .pointer (some ⟨w.heap.size, 0, none⟩) := hT 1 (by kernel_rfl)
    clear hT hd hb ha0
    refine gr_pure (v := .pointer (some ⟨w.heap.size, 1, none⟩)) ?_ rfl
    simp only [execOp]
    go_simp
  case s4 =>
    refine ⟨rfl, fun T w1 hT hb ha0 hd => ?_⟩
    have ec := evT_const T
    have ef := evT_func T
    have d11 : evT T (.tmp 11) = .pointer (some ⟨w.heap.size, 1, none⟩) := (by first | exact hd.1 | exact hd.2.1 | exact hd.2.2.1 | exact hd.2.2.2.1 | exact hd.2.2.2.2.1 | exact hd.2.2.2.2.2.1 | exact hd.2.2.2.2.2.2.1 | exact hd.2.2.2.2.2.2.2.1)
    have f0 := ((HC.out w1 hb).1 1 _ rfl).1
    clear hT hd hb ha0
    refine gr_pure (v := .slice A2 s.doms.length c2) ?_ rfl
    simp only [execOp]
    go_simp
  case s5 =>
    refine ⟨rfl, fun T w1 hT hb ha0 hd => ?_⟩
    have ec := evT_const T
    have ef := evT_func T
    have d12 : evT T (.tmp 12) = .slice A2 s.doms.length c2 := (by first | exact hd.1 | exact hd.2.1 | exact hd.2.2.1 | exact hd.2.2.2.1 | exact hd.2.2.2.2.1 | exact hd.2.2.2.2.2.1 | exact hd.2.2.2.2.2.2.1 | exact hd.2.2.2.2.2.2.2.1)
    refine gr_callB (f := 59) (args := #[.slice A2 s.doms.length c2]) ?_ ?_
    · clear hT hd hb ha0
      simp only [execOp, resolve]
      go_simp
    · refine (clone62_any _ _ s.doms w w1 (by have := HOK.out.n2; omega) (HC.out w1 hb).2 HCV.out.2.1).mono ?_
      rintro en w2 ⟨v, he, h1, h2⟩
      exact ⟨v, he, h1, h2⟩
  case s6 =>
    refine ⟨rfl, fun T w1 hT hb ha0 hd => ?_⟩
    have ec := evT_const T
    have ef := evT_func T
    have d1 : evT T (.tmp 1) = .pointer (some ⟨w.heap.size, 0, none⟩) := hT 1 (by kernel_rfl)
    clear hT hd hb ha0
    refine gr_pure (v := .pointer (some ⟨w.heap.size, 2, none⟩)) ?_ rfl
    simp only [execOp]
    go_simp
  case s7 =>
    refine ⟨rfl, fun T w1 hT hb ha0 hd => ?_⟩
    have ec := evT_const T
    have ef := evT_func T
    have d14 : evT T (.tmp 14) = .pointer (some ⟨w.heap.size, 2, none⟩) := (by first | exact hd.1 | exact hd.2.1 | exact hd.2.2.1 | exact hd.2.2.2.1 | exact hd.2.2.2.2.1 | exact hd.2.2.2.2.2.1 | exact hd.2.2.2.2.2.2.1 | exact hd.2.2.2.2.2.2.2.1)
    have f0 := ((HC.out w1 hb).1 2 _ rfl).1
    clear hT hd hb ha0
    refine gr_pure (v := .slice A3 s.rsts.length c3) ?_ rfl
    simp only [execOp]
    go_simp
  case s8 =>
    refine ⟨rfl, fun T w1 hT hb ha0 hd => ?_⟩
    have ec := evT_const T
    have ef := evT_func T
    have d15 : evT T (.tmp 15) = .slice A3 s.rsts.length c3 := (by first | exact hd.1 | exact hd.2.1 | exact hd.2.2.1 | exact hd.2.2.2.1 | exact hd.2.2.2.2.1 | exact hd.2.2.2.2.2.1 | exact hd.2.2.2.2.2.2.1 | exact hd.2.2.2.2.2.2.2.1)
    refine gr_callB (f := 60) (args := #[.slice A3 s.rsts.length c3]) ?_ ?_
    · clear hT hd hb ha0
      simp only [execOp, resolve]
      go_simp
    · refine (clone63_any _ _ s.rsts w w1 (by have := HOK.out.n3; omega) (HC.out w1 hb).2 HCV.out.2.2.1).mono ?_
      rintro en w2 ⟨v, he, h1, h2⟩
      exact ⟨v, he, h1, h2⟩
  case s9 =>
    refine ⟨rfl, fun T w1 hT hb ha0 hd => ?_⟩
    have ec := evT_const T
    have ef := evT_func T
    have d1 : evT T (.tmp 1) = .pointer (some ⟨w.heap.size, 0, none⟩) := hT 1 (by kernel_rfl)
    clear hT hd hb ha0
    refine gr_pure (v := .pointer (some ⟨w.heap.size, 3, none⟩)) ?_ rfl
    simp only [execOp]
    go_simp
  case s10 =>
    refine ⟨rfl, fun T w1 hT hb ha0 hd => ?_⟩
    have ec := evT_const T
    have ef := evT_func T
    have d17 : evT T (.tmp 17) = .pointer (some ⟨w.heap.size, 3, none⟩) := (by first | exact hd.1 | exact hd.2.1 | exact hd.2.2.1 | exact hd.2.2.2.1 | exact hd.2.2.2.2.1 | exact hd.2.2.2.2.2.1 | exact hd.2.2.2.2.2.2.1 | exact hd.2.2.2.2.2.2.2.1)
    have f0 := ((HC.out w1 hb).1 3 _ rfl).1
    clear hT hd hb ha0
    refine gr_pure (v := .slice A4 s.devs.length c4) ?_ rfl
    simp only [execOp]
    go_simp
  case s11 =>
    refine ⟨rfl, fun T w1 hT hb ha0 hd => ?_⟩
    have ec := evT_const T
    have ef := evT_func T
    have d18 : evT T (.tmp 18) = .slice A4 s.devs.length c4 := (by first | exact hd.1 | exact hd.2.1 | exact hd.2.2.1 | exact hd.2.2.2.1 | exact hd.2.2.2.2.1 | exact hd.2.2.2.2.2.1 | exact hd.2.2.2.2.2.2.1 | exact hd.2.2.2.2.2.2.2.1)
    refine gr_callB (f := 61) (args := #[.slice A4 s.devs.length c4]) ?_ ?_
    · clear hT hd hb ha0
      simp only [execOp, resolve]
      go_simp
    · refine (clone64_any _ _ s.devs w w1 (by have := HOK.out.n4; omega) (HC.out w1 hb).2 HCV.out.2.2.2).mono ?_
      rintro en w2 ⟨v, he, h1, h2⟩
      exact ⟨v, he, h1, h2⟩
  case s12 =>
    refine ⟨rfl, fun T w1 hT hb ha0 hd => ?_⟩
    have ec := evT_const T
    have ef := evT_func T
    have h1 : Cloned ClkV 6 46 w s.clks (evT T (.tmp 10)) w1 := (by first | exact hd.1 | exact hd.2.1 | exact hd.2.2.1 | exact hd.2.2.2.1 | exact hd.2.2.2.2.1 | exact hd.2.2.2.2.2.1 | exact hd.2.2.2.2.2.2.1 | exact hd.2.2.2.2.2.2.2.1)
    have h2 : Cloned DomV 3 75 w s.doms (evT T (.tmp 13)) w1 := (by first | exact hd.1 | exact hd.2.1 | exact hd.2.2.1 | exact hd.2.2.2.1 | exact hd.2.2.2.2.1 | exact hd.2.2.2.2.2.1 | exact hd.2.2.2.2.2.2.1 | exact hd.2.2.2.2.2.2.2.1)
    have h3 : Cloned RstV 1 80 w s.rsts (evT T (.tmp 16)) w1 := (by first | exact hd.1 | exact hd.2.1 | exact hd.2.2.1 | exact hd.2.2.2.1 | exact hd.2.2.2.2.1 | exact hd.2.2.2.2.2.1 | exact hd.2.2.2.2.2.2.1 | exact hd.2.2.2.2.2.2.2.1)
    have h4 : Cloned DevV 6 86 w s.devs (evT T (.tmp 19)) w1 := (by first | exact hd.1 | exact hd.2.1 | exact hd.2.2.1 | exact hd.2.2.2.1 | exact hd.2.2.2.2.1 | exact hd.2.2.2.2.2.1 | exact hd.2.2.2.2.2.2.1 | exact hd.2.2.2.2.2.2.2.1)
    obtain ⟨u1, d10⟩ : ∃ u, evT T (.tmp 10) = u := ⟨_, rfl⟩
    obtain ⟨u2, d13⟩ : ∃ u, evT T (.tmp 13) = u := ⟨_, rfl⟩
    obtain ⟨u3, d16⟩ : ∃ u, evT T (.tmp 16) = u := ⟨_, rfl⟩
    obtain ⟨u4, d19⟩ : ∃ u, evT T (.tmp 19) = u := ⟨_, rfl⟩
    rw [d10] at h1
    rw [d13] at h2
    rw [d16] at h3
    rw [d19] at h4
    refine gr_pure (v := .agg #[u1, u2, u3, u4]) ?_ ⟨u1, u2, u3, u4, rfl, h1, h2, h3, h4⟩
    obtain ⟨_, _, _, ho1⟩ := h1
    obtain ⟨_, _, _, ho2⟩ := h2
    obtain ⟨_, _, _, ho3⟩ := h3
    obtain ⟨_, _, _, ho4⟩ := h4
    obtain ⟨B1, e1, rfl⟩ := own_shape' ho1
    obtain ⟨B2, e2, rfl⟩ := own_shape' ho2
    obtain ⟨B3, e3, rfl⟩ := own_shape' ho3
    obtain ⟨B4, e4, rfl⟩ := own_shape' ho4
    clear hT hd hb ha0 ho1 ho2 ho3 ho4
    simp only [execOp]
    go_simp
  case s13 =>
    refine ⟨rfl, fun T w1 hT hb ha0 hd => ?_⟩
    have ec := evT_const T
    have ef := evT_func T
    have hz := hb.size
    simp only [World.size_alloc] at hz
    refine gr_made (v := mkPtr w1.heap.size) (w' := w1.alloc (.cells [.slice none 0 0, .slice none 0 0, .slice none 0 0, .slice none 0 0].toArray 27)) ?_ (World.grownBy_alloc _ _ _) (show IsBlk (w.heap.size + 2) mkPtr [.slice none 0 0, .slice none 0 0, .slice none 0 0, .slice none 0 0] 27 (mkPtr w1.heap.size) _ from isBlk_new (by omega))
    clear hT hd hb ha0
    simp only [execOp, mkPtr]
    go_simp
  case fin =>
    intro T w1 o ho hT hb hd
    obtain rfl : _ = o := Option.some.inj ho
    clear ho
    have ec := evT_const T
    simp only [putL, Act.put, Option.getD_some, List.setIfInBounds_toArray, List.set_cons_zero, List.set_cons_succ]
    obtain ⟨b3, d3, hb3, hbh3⟩ : IsBlk (w.heap.size + 2) mkPtr [.slice none 0 0, .slice none 0 0, .slice none 0 0, .slice none 0 0] 27 (evT T (.tmp 3)) w1 := hd.2.2.2.2.2.2.2.2.2.2.2.2.2.1
    obtain ⟨u1, u2, u3, u4, d20, h1, h2, h3, h4⟩ : Four s w (evT T (.tmp 20)) w1 := hd.2.2.2.2.2.2.2.2.2.2.2.2.1
    obtain ⟨B1, e1, rfl⟩ : ∃ A c, u1 = .slice A s.clks.length c := by obtain ⟨_, _, _, ho⟩ := h1; exact own_shape' ho
    obtain ⟨B2, e2, rfl⟩ : ∃ A c, u2 = .slice A s.doms.length c := by obtain ⟨_, _, _, ho⟩ := h2; exact own_shape' ho
    obtain ⟨B3, e3, rfl⟩ : ∃ A c, u3 = .slice A s.rsts.length c := by obtain ⟨_, _, _, ho⟩ := h3; exact own_shape' ho
    obtain ⟨B4, e4, rfl⟩ : ∃ A c, u4 = .slice A s.devs.length c := by obtain ⟨_, _, _, ho⟩ := h4; exact own_shape' ho
    obtain ⟨w3, hrun, hbox, hmv⟩ := store27 d3 d20 (BoxAt.of_blk hbh3)
    refine ⟨undef, w3, .inr (hrun _ _ _), ?_⟩
    have e3' : T 3 = .pointer (some ⟨b3, 0, none⟩) := d3
    rw [e3']
    have hst := copy_start hb hbh3 hb3 h1 h2 h3 h4 hmv hbox
    have HST := Lib.hid hst
    have HBX := Lib.hid hst.bx
    clear hT hd hb d3 d20 hbh3 h1 h2 h3 h4 hbox hmv hrun e3' hst ec HC
    obtain ⟨x0, y0⟩ := HBX.out 0 _ rfl
    obtain ⟨x3, y3⟩ := HBX.out 3 _ rfl
    go_wp2
    refine copyA_any w w3 (w.heap.size + 1) b3 s _ _ _ _ HOK.out HST.out _ ⟨rfl, rfl⟩ rfl rfl rfl rfl _ ?_
    clear HST HBX x0 y0 x3 y3
    intro a1 w4 hF1 q2 q3 hs4
    have HS4 := Lib.hid hs4
    have HBX := Lib.hid hs4.bx
    clear hs4
    obtain ⟨x3, y3⟩ := HBX.out 3 _ rfl
    simp only [Exit.then, Exit.inBlock, ↓reduceIte]
    obtain ⟨F1, rfl⟩ := hF1.open_
    rw [slT_listT (by omega)] at q2 q3
    rw [lit68, q2, q3]
    clear hF1 q2 q3
    go_wp2
    refine copyC_any w w4 (w.heap.size + 1) b3 s _ _ _ _ HOK.out HS4.out _ ⟨rfl, rfl⟩ rfl rfl rfl rfl _ ?_
    clear HS4 HBX x3 y3
    intro a2 w5 hF2 q2 q3 hs5 hnd5
    have HS5 := Lib.hid hs5
    have HND5 := Lib.hid hnd5
    clear hnd5
    obtain ⟨x0, y0⟩ := hs5.bx 0 _ rfl
    obtain ⟨x1, y1⟩ := hs5.bx 1 _ rfl
    obtain ⟨x2, y2⟩ := hs5.bx 2 _ rfl
    obtain ⟨x3, y3⟩ := hs5.bx 3 _ rfl
    obtain ⟨z0, t0⟩ := hs5.br 0 _ rfl
    obtain ⟨z1, t1⟩ := hs5.br 1 _ rfl
    obtain ⟨z2, t2⟩ := hs5.br 2 _ rfl
    obtain ⟨z3, t3⟩ := hs5.br 3 _ rfl
    clear hs5
    simp only [Exit.then, Exit.inBlock, ↓reduceIte]
    obtain ⟨F2, rfl⟩ := hF2.open_
    rw [slT_listT (by omega)] at q2 q3
    rw [lit68, q2, q3]
    clear hF2 q2 q3
    go_wp2
    have hm : ∀ (W : World) (j : Nat) (u : Value), Moved [w.heap.size + 1] W (W.setCell ⟨w.heap.size + 1, j, none⟩ u) := fun W j u => Moved.setCell W (by simp) u
    have hend := HS5.out.done ((((hm w5 0 (.slice B1 s.clks.length e1)).trans (hm _ 1 (.slice B2 s.doms.length e2))).trans (hm _ 2 (.slice B3 s.rsts.length e3))).trans (hm _ 3 (.slice B4 s.devs.length e4)))
    exact bodyPost_ret (v := .agg #[.slice B1 s.clks.length e1, .slice B2 s.doms.length e2, .slice B3 s.rsts.length e3, .slice B4 s.devs.length e4]) (by simp [results, Try.results25, go_sem, z0, z1, z2, z3, t0, t1, t2, t3]) rfl ⟨_, _, _, _, rfl, hend.1, fun k hk => ((((HND5.out k hk).set (by simp) (HS5.out.ne2 k) _).set (by simp) (HS5.out.ne2 k) _).set (by simp) (HS5.out.ne2 k) _).set (by simp) (HS5.out.ne2 k) _ |>.plain, hend.2⟩

end Go.Proofs.Ytnfbhhgdibkbdaa
