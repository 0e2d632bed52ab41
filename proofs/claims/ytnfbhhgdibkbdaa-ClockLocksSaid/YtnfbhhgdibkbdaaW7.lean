/- The contracts of each, of its closures, of all four kinds of parts. (Written by wip/tools/w7.py.) -/
import Derived.Test.YtnfbhhgdibkbdaaW6
import Derived.Laws.OwnMore
import Derived.Deep.AppendLies
import Derived.Lib.LazyBuf
namespace Go.Proofs.Ytnfbhhgdibkbdaa
set_option linter.unusedSimpArgs false
set_option linter.unusedVariables false
open Go.RowKit Go.Maps

theorem Try.info66 : (Try.prog.info? 66).map (fun i => (i.zero, i.size, i.bytes)) = some (some Value.nilFunc, 1, 8) := by kernel_rfl

theorem clk_cells {w : World} {B : Nat} {x : Clk} {vs : List Value} (h : ClkV w B x vs) : ∃ v0 v1 v2 v3 v4 v5, vs = [v0, v1, v2, v3, v4, v5] := by
  obtain ⟨A, c, rfl, _⟩ := h; exact ⟨_, _, _, _, _, _, rfl⟩
theorem dom_cells {w : World} {B : Nat} {x : Dom} {vs : List Value} (h : DomV w B x vs) : ∃ v0 v1 v2, vs = [v0, v1, v2] := by
  cases h; exact ⟨_, _, _, rfl⟩
theorem rst_cells {w : World} {B : Nat} {x : Rst} {vs : List Value} (h : RstV w B x vs) : ∃ v0, vs = [v0] := by
  cases h; exact ⟨_, rfl⟩
theorem dev_cells {w : World} {B : Nat} {x : Dev} {vs : List Value} (h : DevV w B x vs) : ∃ v0 v1 v2 v3 v4 v5, vs = [v0, v1, v2, v3, v4, v5] := by
  obtain ⟨A, c, A', c', rfl, _⟩ := h; exact ⟨_, _, _, _, _, _, rfl⟩

/-- the function value v, called with a part in w0 or later, tells f of it -/
def Asks {α : Type} (V : Reads α) (good : α → Prop) (v : Value) (f : α → Int) (w0 : World) : Prop :=
  ∃ g lb, v = .func (.func g) #[] lb ∧ (∀ args w, (callFunc g args).run Try.prog w = .ok (.enter g args) w) ∧
    ∀ W, Below w0.heap.size w0 W → ∀ x vs, V W W.heap.size x vs → good x → Calls Try.prog g (#[.agg vs.toArray] ++ lb) W (ErrIs (f x) W)
theorem Asks.later {α : Type} {V : Reads α} {good : α → Prop} {v : Value} {f : α → Int} {w w' : World} (h : Asks V good v f w) (hb : Below w.heap.size w w') : Asks V good v f w' := by
  obtain ⟨g, lb, e, he, hc⟩ := h
  exact ⟨g, lb, e, he, fun W hW => hc W (hb.trans (hW.mono hb.size))⟩

theorem cell_of_new {w W : World} {o : Obj} {v : Value} (hb : Below (w.heap.size + 1) (w.alloc o) W) (h : (w.alloc o).cell? ⟨w.heap.size, 0, none⟩ = some v) : W.cell? ⟨w.heap.size, 0, none⟩ = some v :=
  (hb.cell (p := ⟨w.heap.size, 0, none⟩) (Nat.lt_succ_self _)).trans h

theorem agg_new (w : World) (cs : List Value) (t : TypeId) : AggAt (w.alloc (.cells cs.toArray t)) ⟨w.heap.size, 0, none⟩ cs := by
  intro j v hj
  have hl : j < cs.length := (List.getElem?_eq_some_iff.1 hj).1
  have : (Addr.add ⟨w.heap.size, 0, none⟩ j) = ⟨w.heap.size, j, none⟩ := by
    unfold Addr.add; split <;> simp [*]
  rw [this]
  simp [go_sem, hj]

theorem cell_one_two (w : World) (o : Obj) (x : Value) (t : TypeId) : ∀ (j : Nat) (u : Value), [x][j]? = some u → ((w.alloc o).alloc (.cells #[x] t)).cell? ((⟨w.heap.size + 1, 0, none⟩ : Addr).add j) = some u := by
  have := cell_one_new (w.alloc o) x t
  rwa [show (w.alloc o).heap.size = w.heap.size + 1 by simp] at this

theorem own_shape' {w : World} {base n : Nat} {e : TypeId} {size : Nat} {v : Value} {xs : List Value} (h : w.ownsRow base e size v n xs) : ∃ A c, v = .slice A n c := by
  rcases h.2 with ⟨rfl, rfl⟩ | ⟨g, cap, cur, rfl, _⟩
  · exact ⟨_, _, rfl⟩
  · exact ⟨_, _, rfl⟩
theorem LooksAt.of_own {w : World} {base n c : Nat} {A : Option Addr} {vs : List Value} {Es : List Int} (h : w.ownsRow base 66 1 (.slice A n c) n vs) (hl : vs.length = Es.length) (hv : ∀ (k : Nat) (v : Value) (E : Int), vs[k]? = some v → Es[k]? = some E → Look v E w) : LooksAt w w.heap.size A Es := by
  intro hpos
  have hn : 0 < n := by have := h.1; omega
  rcases h.2 with ⟨_, h0⟩ | ⟨g, cap, cur, h1, _, hg, _⟩
  · omega
  · injection h1 with h1 _ _
    subst h1
    refine ⟨_, rfl, ?_, fun k E hE => ?_⟩
    · rcases Nat.lt_or_ge g w.heap.size with hlt | hge
      · exact hlt
      · rw [Array.getElem?_eq_none hge] at hg; cases hg
    have hk : k < vs.length := by rw [hl]; exact (List.getElem?_eq_some_iff.1 hE).1
    exact ⟨vs[k], hv k _ E (List.getElem?_eq_getElem hk) hE, h.cells (g := g) rfl k _ (List.getElem?_eq_getElem hk)⟩

/-- the look u asks the function in q of the part x, whose cells lie in a block of their own, which is not the row s -/
def PartAt {α : Type} (V : Reads α) (K q B : Nat) (w : World) (s u : Value) (x : α) : Prop :=
  ∃ p vs, u = .func (.func K) #[] #[.pointer (some ⟨q, 0, none⟩), .pointer (some ⟨p, 0, none⟩)] ∧ p < w.heap.size ∧ B ≤ p ∧ some p ≠ s.ownBlock ∧ AggAt w ⟨p, 0, none⟩ vs ∧ V w B x vs
theorem PartAt.step {α : Type} {V : Reads α} [sv : Steady V] {K q B : Nat} {w W w' : World} {s s' u : Value} {x : α} (h : PartAt V K q B w s u x) (hb : Below w.heap.size w W) (hg : W.grownBy w' s.ownBlock) (hB : B ≤ w.heap.size) (hs : ∀ k, s.ownBlock = some k → B ≤ k)
    (hs' : s'.ownBlock = s.ownBlock ∨ s'.ownBlock = some W.heap.size) : PartAt V K q B w' s' u x := by
  obtain ⟨p, vs, e, hp, hBp, hne, ha, hv⟩ := h
  have hz := hb.size
  have hz' := hg.size
  refine ⟨p, vs, e, by omega, hBp, ?_, fun j v hj => ?_, ?_⟩
  · rcases hs' with h | h
    · rw [h]; exact hne
    · rw [h]; intro e; injection e with e; omega
  · exact hg.cell ((hb.cell (by rw [block_add]; exact hp)).trans (ha j v hj)) (by rw [block_add]; exact hne)
  · have hb' : Below B w w' := (hb.mono hB).grown hg (by omega) hs
    exact sv.keep hv fun _ h => hb'.cell h


/-! clk -/
theorem clk11_any (q p : Nat) (v : Value) (f : Clk → Int) (good : Clk → Prop) (x : Clk) (vs : List Value) (w : World) (hq : w.cell? ⟨q, 0, none⟩ = some v) (hp : AggAt w ⟨p, 0, none⟩ vs) (hv : Asks ClkV good v f w) (hV : ClkV w w.heap.size x vs) (hx : good x) :
    Calls Try.prog 68 #[.pointer (some ⟨q, 0, none⟩), .pointer (some ⟨p, 0, none⟩)] w (ErrIs (f x) w) := by
  obtain ⟨v0, v1, v2, v3, v4, v5, rfl⟩ := clk_cells hV
  obtain ⟨g, lb, rfl, eg, hc⟩ := hv
  have hcall := hc w (Below.refl _ _) x _ hV hx
  have h0 := hp.zero
  have h1 := hp.at_ 0 rfl
  have h2 := hp.at_ 1 rfl
  have h3 := hp.at_ 2 rfl
  have h4 := hp.at_ 3 rfl
  have h5 := hp.at_ 4 rfl
  have HP := Lib.hid hp
  have HV := Lib.hid hV
  clear hp hV hc
  go_enter Try.func68, Try.ntmps68
  go_wp2_with (go_at_fn g; refine hcall.mono ?_; rintro e w' ⟨rfl, hb'⟩)
  go_ret
  exact ⟨rfl, hb'⟩
theorem enters73 (args : Array Value) (w : World) : (callFunc 68 args).run Try.prog w = .ok (.enter 68 args) w := enters_of Try.func68 (by kernel_rfl) rfl args w
theorem enters72 (args : Array Value) (w : World) : (callFunc 67 args).run Try.prog w = .ok (.enter 67 args) w := enters_of Try.func67 (by kernel_rfl) rfl args w

set_option maxRecDepth 100000 in
set_option maxHeartbeats 2000000 in
theorem clk1_any (p q : Nat) (A : Option Addr) (c : Nat) (v : Value) (f : Clk → Int) (good : Clk → Prop) (xs : List Clk) (w : World) (hn : xs.length ≤ 1000000) (hp : w.cell? ⟨p, 0, none⟩ = some (.slice A xs.length c)) (hq : w.cell? ⟨q, 0, none⟩ = some v) (hql : q < w.heap.size)
    (hv : Asks ClkV good v f w) (hg : ∀ x, x ∈ xs → good x) (h : StrsAt ClkV 6 w w.heap.size A xs) :
    Calls Try.prog 67 #[.pointer (some ⟨p, 0, none⟩), .pointer (some ⟨q, 0, none⟩)] w (ErrIs (firstE (xs.map f)) w) := by
  obtain ⟨i0, hi, hz0, hz1, hz2⟩ := info_parts Try.info66
  have HG := Lib.hid hg
  have HV := Lib.hid hv
  have HX := Lib.hid h
  clear hg hv h
  go_enter Try.func67, Try.ntmps67
  go_wp2
  go_loopw [3, 8] (fun s i wr => ∃ (k : Nat) (us : List Value), k ≤ xs.length ∧ i = .int .i64 k ∧ us.length = k ∧ wr.ownsRow w.heap.size 66 1 s k us ∧ Below w.heap.size w wr ∧ ∀ (j : Nat) (u : Value) (x : Clk), us[j]? = some u → xs[j]? = some x → PartAt ClkV 68 q w.heap.size wr s u x) (fun _ i _ => xs.length - (intOf i).toNat)
  case atStart => exact ⟨0, [], Nat.zero_le _, rfl, rfl, World.ownsRow_nil _ _ _ _, Below.refl _ _, fun j u E hj => by simp at hj⟩
  case round =>
    obtain ⟨k, us, hk, rfl, hul, hown, hB, hlk⟩ := hrel
    have HOwn := Lib.hid hown
    have HU := Lib.hid hul
    have HL := Lib.hid hlk
    clear hul hown hlk
    have hz := hB.size
    by_cases hlt : k < xs.length
    · obtain ⟨ad, vs, hA, hab, hV, hAg⟩ := (HX.out.below hB (Nat.le_refl _)).at_ hlt
      obtain ⟨x, hx⟩ : ∃ x, x = xs[k] := ⟨_, rfl⟩
      rw [← hx] at hV
      have hgx : good x := HG.out x (by rw [hx]; exact List.getElem_mem _)
      have HGX := Lib.hid hgx
      have HXK := Lib.hid hx
      clear hgx hx
      have hV2 := hV
      obtain ⟨Af, cf, rfl, hcf, hIf⟩ := hV
      have h0 := hAg.zero
      have h1 := hAg.at_ 0 rfl
      have h2 := hAg.at_ 1 rfl
      have h3 := hAg.at_ 2 rfl
      have h4 := hAg.at_ 3 rfl
      have h5 := hAg.at_ 4 rfl
      have HVV := Lib.hid hV2
      clear hAg hV2
      subst hA
      have hbn : Below wr.heap.size wr ((wr.alloc (.cells #[.int .u8 x.kind, .slice Af x.frm.length cf, .int .u64 x.rate, .int .i64 x.mul, .int .i64 x.div, .int .i64 x.lock] 46)).alloc (.cells #[.func (.func 68) #[] #[.pointer (some ⟨q, 0, none⟩), .pointer (some ⟨wr.heap.size, 0, none⟩)]] 66)) := ((Below.refl _ _).alloc (Nat.le_refl _) _).alloc (by simp) _
      have hagg : AggAt ((wr.alloc (.cells #[.int .u8 x.kind, .slice Af x.frm.length cf, .int .u64 x.rate, .int .i64 x.mul, .int .i64 x.div, .int .i64 x.lock] 46)).alloc (.cells #[.func (.func 68) #[] #[.pointer (some ⟨q, 0, none⟩), .pointer (some ⟨wr.heap.size, 0, none⟩)]] 66)) ⟨wr.heap.size, 0, none⟩ #[.int .u8 x.kind, .slice Af x.frm.length cf, .int .u64 x.rate, .int .i64 x.mul, .int .i64 x.div, .int .i64 x.lock].toList := (agg_new wr #[.int .u8 x.kind, .slice Af x.frm.length cf, .int .u64 x.rate, .int .i64 x.mul, .int .i64 x.div, .int .i64 x.lock].toList 46).keep (B := wr.heap.size + 1) (by simp) fun p hp => (((Below.refl (wr.heap.size + 1) _).alloc (by simp) _)).cell hp
      have HAG := Lib.hid hagg
      clear hagg
      go_wp2_with (at_builtin; refine wpList_append_own_at _ rfl _ _ 114 rfl w.heap.size 66 i0 Value.nilFunc 1 8 Try.underlying114 hi hz0 hz1 hz2 rfl (by decide) _ _ _ rfl ((HOwn.out.alloc (.cells #[.int .u8 x.kind, .slice Af x.frm.length cf, .int .u64 x.rate, .int .i64 x.mul, .int .i64 x.div, .int .i64 x.lock] 46)).alloc (.cells #[.func (.func 68) #[] #[.pointer (some ⟨q, 0, none⟩), .pointer (some ⟨wr.heap.size, 0, none⟩)]] 66)) ⟨wr.heap.size + 1, 0, none⟩ 1 1 [.func (.func 68) #[] #[.pointer (some ⟨q, 0, none⟩), .pointer (some ⟨wr.heap.size, 0, none⟩)]] rfl rfl (cell_one_two _ _ _ _) (by intro u hu; rw [List.mem_singleton.1 hu]; rfl) (by unfold maxLen; omega) (by omega) (by simp; omega) ?_; intro v6 w6 hown6 hg6 _ hob6)
      have hlt6 := fun k hk => (HOwn.out.lt k hk)
      have hb6 : Below w.heap.size w w6 := (hB.trans (hbn.mono hz)).grown hg6 (by simp; omega) (fun k hk => (hlt6 k hk).1)
      have hnew : PartAt ClkV 68 q w.heap.size w6 v6 (.func (.func 68) #[] #[.pointer (some ⟨q, 0, none⟩), .pointer (some ⟨wr.heap.size, 0, none⟩)]) x := by
        have hne : some wr.heap.size ≠ u3.ownBlock := fun e => by have := (hlt6 _ e.symm).2; omega
        have hz6 := hg6.size
        simp at hz6
        refine ⟨wr.heap.size, _, rfl, by omega, hz, ?_, fun j v hj => hg6.cell (HAG.out j v hj) (by rw [block_add]; exact hne), ?_⟩
        · rcases hob6 with h | h
          · rw [h]; exact hne
          · rw [h]; intro e; injection e with e; simp at e; omega
        · exact Steady.below HVV.out ((hbn.mono hz).grown hg6 (by simp; omega) (fun k hk => (hlt6 k hk).1)) (Nat.le_refl _)
      have hold : ∀ (j : Nat) (u : Value) (x : Clk), us[j]? = some u → xs[j]? = some x → PartAt ClkV 68 q w.heap.size w6 v6 u x := fun j u x hj hx =>
        (HL.out j u x hj hx).step hbn hg6 hz (fun k hk => (hlt6 k hk).1) hob6
      have HOwn6 := Lib.hid hown6
      have HNEW := Lib.hid hnew
      have HOLD := Lib.hid hold
      clear hown6 hbn hg6 hnew hold hlt6 hob6
      go_roundw
      case measure => simp [intOf]; omega
      case rel => exact ⟨k + 1, us ++ [.func (.func 68) #[] #[.pointer (some ⟨q, 0, none⟩), .pointer (some ⟨wr.heap.size, 0, none⟩)]], by omega, by go_num, by simp [HU.out], HOwn6.out, hb6, fun j u y hj hy => by
        by_cases e : j < us.length
        · rw [List.getElem?_append_left e] at hj
          exact HOLD.out j u y hj hy
        · have hj' : j = k := by
            have := (List.getElem?_eq_some_iff.1 hj).1
            have hu := HU.out
            simp at this; omega
          subst hj'
          rw [List.getElem?_append_right (by have := HU.out; omega)] at hj
          have hu := HU.out
          simp [hu] at hj
          rw [List.getElem?_eq_getElem hlt, ← HXK.out] at hy
          injection hy with hy
          rw [← hj, ← hy]
          exact HNEW.out⟩
    · obtain rfl : k = xs.length := by omega
      obtain ⟨A3, c3, rfl⟩ := own_shape' HOwn.out
      have hlooks : LooksAt wr wr.heap.size A3 (xs.map f) := by
        refine LooksAt.of_own HOwn.out (by rw [List.length_map, HU.out]) fun j u E hj hE => ?_
        rw [List.getElem?_map] at hE
        cases hxj : xs[j]? with
        | none => rw [hxj] at hE; simp at hE
        | some x =>
          rw [hxj] at hE
          simp at hE
          obtain ⟨p', vs, rfl, h1, h2, h3, h4, h5⟩ := HL.out j u x hj hxj
          refine ⟨68, _, rfl, enters73, fun W hW => ?_⟩
          rw [← hE]
          have hBW := hB.trans (hW.mono hz)
          exact clk11_any q p' v f good x vs W ((hBW.cell (p := ⟨q, 0, none⟩) hql).trans hq) (h4.keep (B := wr.heap.size) h1 fun _ h => hW.cell h) (HV.out.later hBW) (Steady.more (V := ClkV) (Steady.below h5 hW hz) (by have := hW.size; omega)) (HG.out x (List.mem_of_getElem? hxj))
      have HLK := Lib.hid hlooks
      clear hlooks
      have hfirst := first_any A3 c3 (xs.map f) wr (by rw [List.length_map]; exact hn) HLK.out
      rw [List.length_map] at hfirst
      go_wp2_with fail
      refine hfirst.mono ?_
      rintro e w' ⟨rfl, hb'⟩
      go_wp2
      go_ret
      exact ⟨rfl, hB.trans (hb'.mono hz)⟩

theorem clk_any (A : Option Addr) (c : Nat) (v : Value) (f : Clk → Int) (good : Clk → Prop) (xs : List Clk) (w : World) (hn : xs.length ≤ 1000000) (hv : Asks ClkV good v f w) (hg : ∀ x, x ∈ xs → good x) (h : StrsAt ClkV 6 w w.heap.size A xs) :
    Calls Try.prog 30 #[.slice A xs.length c, v] w (LookOut (firstE (xs.map f)) w) := by
  obtain ⟨g, lb, rfl, eg, hc⟩ := hv
  have hV : Asks ClkV good (.func (.func g) #[] lb) f w := ⟨g, lb, rfl, eg, hc⟩
  have HV := Lib.hid hV
  have HG := Lib.hid hg
  have HX := Lib.hid h
  clear hc hV hg h
  go_enter Try.func30, Try.ntmps30
  go_wp2
  go_ret
  refine ⟨_, rfl, ⟨67, _, rfl, enters72, fun W hW => ?_⟩, ((Below.refl _ _).alloc (Nat.le_refl _) _).alloc (by simp) _⟩
  have hz := hW.size
  simp at hz
  have hB : Below w.heap.size w W := (((Below.refl _ _).alloc (Nat.le_refl _) _).alloc (by simp) _).trans (hW.mono (by simp; omega))
  have h1 : W.cell? ⟨w.heap.size, 0, none⟩ = some (.slice A xs.length c) := by
    rw [hW.cell (p := ⟨w.heap.size, 0, none⟩) (by simp; omega)]
    simp [go_sem]
  have h2 : W.cell? ⟨w.heap.size + 1, 0, none⟩ = some (.func (.func g) #[] lb) := by
    rw [hW.cell (p := ⟨w.heap.size + 1, 0, none⟩) (by simp)]
    simp [go_sem]
  exact clk1_any _ _ A c _ f good xs W hn h1 h2 (by omega) (HV.out.later hB) HG.out (StrsAt.more (HX.out.below hB (Nat.le_refl _)) (by omega))

/-! dom -/
theorem dom11_any (q p : Nat) (v : Value) (f : Dom → Int) (good : Dom → Prop) (x : Dom) (vs : List Value) (w : World) (hq : w.cell? ⟨q, 0, none⟩ = some v) (hp : AggAt w ⟨p, 0, none⟩ vs) (hv : Asks DomV good v f w) (hV : DomV w w.heap.size x vs) (hx : good x) :
    Calls Try.prog 77 #[.pointer (some ⟨q, 0, none⟩), .pointer (some ⟨p, 0, none⟩)] w (ErrIs (f x) w) := by
  obtain ⟨v0, v1, v2, rfl⟩ := dom_cells hV
  obtain ⟨g, lb, rfl, eg, hc⟩ := hv
  have hcall := hc w (Below.refl _ _) x _ hV hx
  have h0 := hp.zero
  have h1 := hp.at_ 0 rfl
  have h2 := hp.at_ 1 rfl
  have HP := Lib.hid hp
  have HV := Lib.hid hV
  clear hp hV hc
  go_enter Try.func77, Try.ntmps77
  go_wp2_with (go_at_fn g; refine hcall.mono ?_; rintro e w' ⟨rfl, hb'⟩)
  go_ret
  exact ⟨rfl, hb'⟩
theorem enters80 (args : Array Value) (w : World) : (callFunc 77 args).run Try.prog w = .ok (.enter 77 args) w := enters_of Try.func77 (by kernel_rfl) rfl args w
theorem enters79 (args : Array Value) (w : World) : (callFunc 76 args).run Try.prog w = .ok (.enter 76 args) w := enters_of Try.func76 (by kernel_rfl) rfl args w

set_option maxRecDepth 100000 in
set_option maxHeartbeats 2000000 in
theorem dom1_any (p q : Nat) (A : Option Addr) (c : Nat) (v : Value) (f : Dom → Int) (good : Dom → Prop) (xs : List Dom) (w : World) (hn : xs.length ≤ 1000000) (hp : w.cell? ⟨p, 0, none⟩ = some (.slice A xs.length c)) (hq : w.cell? ⟨q, 0, none⟩ = some v) (hql : q < w.heap.size)
    (hv : Asks DomV good v f w) (hg : ∀ x, x ∈ xs → good x) (h : StrsAt DomV 3 w w.heap.size A xs) :
    Calls Try.prog 76 #[.pointer (some ⟨p, 0, none⟩), .pointer (some ⟨q, 0, none⟩)] w (ErrIs (firstE (xs.map f)) w) := by
  obtain ⟨i0, hi, hz0, hz1, hz2⟩ := info_parts Try.info66
  have HG := Lib.hid hg
  have HV := Lib.hid hv
  have HX := Lib.hid h
  clear hg hv h
  go_enter Try.func76, Try.ntmps76
  go_wp2
  go_loopw [3, 8] (fun s i wr => ∃ (k : Nat) (us : List Value), k ≤ xs.length ∧ i = .int .i64 k ∧ us.length = k ∧ wr.ownsRow w.heap.size 66 1 s k us ∧ Below w.heap.size w wr ∧ ∀ (j : Nat) (u : Value) (x : Dom), us[j]? = some u → xs[j]? = some x → PartAt DomV 77 q w.heap.size wr s u x) (fun _ i _ => xs.length - (intOf i).toNat)
  case atStart => exact ⟨0, [], Nat.zero_le _, rfl, rfl, World.ownsRow_nil _ _ _ _, Below.refl _ _, fun j u E hj => by simp at hj⟩
  case round =>
    obtain ⟨k, us, hk, rfl, hul, hown, hB, hlk⟩ := hrel
    have HOwn := Lib.hid hown
    have HU := Lib.hid hul
    have HL := Lib.hid hlk
    clear hul hown hlk
    have hz := hB.size
    by_cases hlt : k < xs.length
    · obtain ⟨ad, vs, hA, hab, hV, hAg⟩ := (HX.out.below hB (Nat.le_refl _)).at_ hlt
      obtain ⟨x, hx⟩ : ∃ x, x = xs[k] := ⟨_, rfl⟩
      rw [← hx] at hV
      have hgx : good x := HG.out x (by rw [hx]; exact List.getElem_mem _)
      have HGX := Lib.hid hgx
      have HXK := Lib.hid hx
      clear hgx hx
      have hV2 := hV
      cases hV
      have h0 := hAg.zero
      have h1 := hAg.at_ 0 rfl
      have h2 := hAg.at_ 1 rfl
      have HVV := Lib.hid hV2
      clear hAg hV2
      subst hA
      have hbn : Below wr.heap.size wr ((wr.alloc (.cells #[.int .i64 x.above, .int .i64 x.delay, .bool x.ret] 75)).alloc (.cells #[.func (.func 77) #[] #[.pointer (some ⟨q, 0, none⟩), .pointer (some ⟨wr.heap.size, 0, none⟩)]] 66)) := ((Below.refl _ _).alloc (Nat.le_refl _) _).alloc (by simp) _
      have hagg : AggAt ((wr.alloc (.cells #[.int .i64 x.above, .int .i64 x.delay, .bool x.ret] 75)).alloc (.cells #[.func (.func 77) #[] #[.pointer (some ⟨q, 0, none⟩), .pointer (some ⟨wr.heap.size, 0, none⟩)]] 66)) ⟨wr.heap.size, 0, none⟩ #[.int .i64 x.above, .int .i64 x.delay, .bool x.ret].toList := (agg_new wr #[.int .i64 x.above, .int .i64 x.delay, .bool x.ret].toList 75).keep (B := wr.heap.size + 1) (by simp) fun p hp => (((Below.refl (wr.heap.size + 1) _).alloc (by simp) _)).cell hp
      have HAG := Lib.hid hagg
      clear hagg
      go_wp2_with (at_builtin; refine wpList_append_own_at _ rfl _ _ 114 rfl w.heap.size 66 i0 Value.nilFunc 1 8 Try.underlying114 hi hz0 hz1 hz2 rfl (by decide) _ _ _ rfl ((HOwn.out.alloc (.cells #[.int .i64 x.above, .int .i64 x.delay, .bool x.ret] 75)).alloc (.cells #[.func (.func 77) #[] #[.pointer (some ⟨q, 0, none⟩), .pointer (some ⟨wr.heap.size, 0, none⟩)]] 66)) ⟨wr.heap.size + 1, 0, none⟩ 1 1 [.func (.func 77) #[] #[.pointer (some ⟨q, 0, none⟩), .pointer (some ⟨wr.heap.size, 0, none⟩)]] rfl rfl (cell_one_two _ _ _ _) (by intro u hu; rw [List.mem_singleton.1 hu]; rfl) (by unfold maxLen; omega) (by omega) (by simp; omega) ?_; intro v6 w6 hown6 hg6 _ hob6)
      have hlt6 := fun k hk => (HOwn.out.lt k hk)
      have hb6 : Below w.heap.size w w6 := (hB.trans (hbn.mono hz)).grown hg6 (by simp; omega) (fun k hk => (hlt6 k hk).1)
      have hnew : PartAt DomV 77 q w.heap.size w6 v6 (.func (.func 77) #[] #[.pointer (some ⟨q, 0, none⟩), .pointer (some ⟨wr.heap.size, 0, none⟩)]) x := by
        have hne : some wr.heap.size ≠ u3.ownBlock := fun e => by have := (hlt6 _ e.symm).2; omega
        have hz6 := hg6.size
        simp at hz6
        refine ⟨wr.heap.size, _, rfl, by omega, hz, ?_, fun j v hj => hg6.cell (HAG.out j v hj) (by rw [block_add]; exact hne), ?_⟩
        · rcases hob6 with h | h
          · rw [h]; exact hne
          · rw [h]; intro e; injection e with e; simp at e; omega
        · exact Steady.below HVV.out ((hbn.mono hz).grown hg6 (by simp; omega) (fun k hk => (hlt6 k hk).1)) (Nat.le_refl _)
      have hold : ∀ (j : Nat) (u : Value) (x : Dom), us[j]? = some u → xs[j]? = some x → PartAt DomV 77 q w.heap.size w6 v6 u x := fun j u x hj hx =>
        (HL.out j u x hj hx).step hbn hg6 hz (fun k hk => (hlt6 k hk).1) hob6
      have HOwn6 := Lib.hid hown6
      have HNEW := Lib.hid hnew
      have HOLD := Lib.hid hold
      clear hown6 hbn hg6 hnew hold hlt6 hob6
      go_roundw
      case measure => simp [intOf]; omega
      case rel => exact ⟨k + 1, us ++ [.func (.func 77) #[] #[.pointer (some ⟨q, 0, none⟩), .pointer (some ⟨wr.heap.size, 0, none⟩)]], by omega, by go_num, by simp [HU.out], HOwn6.out, hb6, fun j u y hj hy => by
        by_cases e : j < us.length
        · rw [List.getElem?_append_left e] at hj
          exact HOLD.out j u y hj hy
        · have hj' : j = k := by
            have := (List.getElem?_eq_some_iff.1 hj).1
            have hu := HU.out
            simp at this; omega
          subst hj'
          rw [List.getElem?_append_right (by have := HU.out; omega)] at hj
          have hu := HU.out
          simp [hu] at hj
          rw [List.getElem?_eq_getElem hlt, ← HXK.out] at hy
          injection hy with hy
          rw [← hj, ← hy]
          exact HNEW.out⟩
    · obtain rfl : k = xs.length := by omega
      obtain ⟨A3, c3, rfl⟩ := own_shape' HOwn.out
      have hlooks : LooksAt wr wr.heap.size A3 (xs.map f) := by
        refine LooksAt.of_own HOwn.out (by rw [List.length_map, HU.out]) fun j u E hj hE => ?_
        rw [List.getElem?_map] at hE
        cases hxj : xs[j]? with
        | none => rw [hxj] at hE; simp at hE
        | some x =>
          rw [hxj] at hE
          simp at hE
          obtain ⟨p', vs, rfl, h1, h2, h3, h4, h5⟩ := HL.out j u x hj hxj
          refine ⟨77, _, rfl, enters80, fun W hW => ?_⟩
          rw [← hE]
          have hBW := hB.trans (hW.mono hz)
          exact dom11_any q p' v f good x vs W ((hBW.cell (p := ⟨q, 0, none⟩) hql).trans hq) (h4.keep (B := wr.heap.size) h1 fun _ h => hW.cell h) (HV.out.later hBW) (Steady.more (V := DomV) (Steady.below h5 hW hz) (by have := hW.size; omega)) (HG.out x (List.mem_of_getElem? hxj))
      have HLK := Lib.hid hlooks
      clear hlooks
      have hfirst := first_any A3 c3 (xs.map f) wr (by rw [List.length_map]; exact hn) HLK.out
      rw [List.length_map] at hfirst
      go_wp2_with fail
      refine hfirst.mono ?_
      rintro e w' ⟨rfl, hb'⟩
      go_wp2
      go_ret
      exact ⟨rfl, hB.trans (hb'.mono hz)⟩

theorem dom_any (A : Option Addr) (c : Nat) (v : Value) (f : Dom → Int) (good : Dom → Prop) (xs : List Dom) (w : World) (hn : xs.length ≤ 1000000) (hv : Asks DomV good v f w) (hg : ∀ x, x ∈ xs → good x) (h : StrsAt DomV 3 w w.heap.size A xs) :
    Calls Try.prog 35 #[.slice A xs.length c, v] w (LookOut (firstE (xs.map f)) w) := by
  obtain ⟨g, lb, rfl, eg, hc⟩ := hv
  have hV : Asks DomV good (.func (.func g) #[] lb) f w := ⟨g, lb, rfl, eg, hc⟩
  have HV := Lib.hid hV
  have HG := Lib.hid hg
  have HX := Lib.hid h
  clear hc hV hg h
  go_enter Try.func35, Try.ntmps35
  go_wp2
  go_ret
  refine ⟨_, rfl, ⟨76, _, rfl, enters79, fun W hW => ?_⟩, ((Below.refl _ _).alloc (Nat.le_refl _) _).alloc (by simp) _⟩
  have hz := hW.size
  simp at hz
  have hB : Below w.heap.size w W := (((Below.refl _ _).alloc (Nat.le_refl _) _).alloc (by simp) _).trans (hW.mono (by simp; omega))
  have h1 : W.cell? ⟨w.heap.size, 0, none⟩ = some (.slice A xs.length c) := by
    rw [hW.cell (p := ⟨w.heap.size, 0, none⟩) (by simp; omega)]
    simp [go_sem]
  have h2 : W.cell? ⟨w.heap.size + 1, 0, none⟩ = some (.func (.func g) #[] lb) := by
    rw [hW.cell (p := ⟨w.heap.size + 1, 0, none⟩) (by simp)]
    simp [go_sem]
  exact dom1_any _ _ A c _ f good xs W hn h1 h2 (by omega) (HV.out.later hB) HG.out (StrsAt.more (HX.out.below hB (Nat.le_refl _)) (by omega))

/-! rst -/
theorem rst11_any (q p : Nat) (v : Value) (f : Rst → Int) (good : Rst → Prop) (x : Rst) (vs : List Value) (w : World) (hq : w.cell? ⟨q, 0, none⟩ = some v) (hp : AggAt w ⟨p, 0, none⟩ vs) (hv : Asks RstV good v f w) (hV : RstV w w.heap.size x vs) (hx : good x) :
    Calls Try.prog 82 #[.pointer (some ⟨q, 0, none⟩), .pointer (some ⟨p, 0, none⟩)] w (ErrIs (f x) w) := by
  obtain ⟨v0, rfl⟩ := rst_cells hV
  obtain ⟨g, lb, rfl, eg, hc⟩ := hv
  have hcall := hc w (Below.refl _ _) x _ hV hx
  have h0 := hp.zero

  have HP := Lib.hid hp
  have HV := Lib.hid hV
  clear hp hV hc
  go_enter Try.func82, Try.ntmps82
  go_wp2_with (go_at_fn g; refine hcall.mono ?_; rintro e w' ⟨rfl, hb'⟩)
  go_ret
  exact ⟨rfl, hb'⟩
theorem enters83 (args : Array Value) (w : World) : (callFunc 82 args).run Try.prog w = .ok (.enter 82 args) w := enters_of Try.func82 (by kernel_rfl) rfl args w
theorem enters82 (args : Array Value) (w : World) : (callFunc 81 args).run Try.prog w = .ok (.enter 81 args) w := enters_of Try.func81 (by kernel_rfl) rfl args w

set_option maxRecDepth 100000 in
set_option maxHeartbeats 2000000 in
theorem rst1_any (p q : Nat) (A : Option Addr) (c : Nat) (v : Value) (f : Rst → Int) (good : Rst → Prop) (xs : List Rst) (w : World) (hn : xs.length ≤ 1000000) (hp : w.cell? ⟨p, 0, none⟩ = some (.slice A xs.length c)) (hq : w.cell? ⟨q, 0, none⟩ = some v) (hql : q < w.heap.size)
    (hv : Asks RstV good v f w) (hg : ∀ x, x ∈ xs → good x) (h : StrsAt RstV 1 w w.heap.size A xs) :
    Calls Try.prog 81 #[.pointer (some ⟨p, 0, none⟩), .pointer (some ⟨q, 0, none⟩)] w (ErrIs (firstE (xs.map f)) w) := by
  obtain ⟨i0, hi, hz0, hz1, hz2⟩ := info_parts Try.info66
  have HG := Lib.hid hg
  have HV := Lib.hid hv
  have HX := Lib.hid h
  clear hg hv h
  go_enter Try.func81, Try.ntmps81
  go_wp2
  go_loopw [3, 8] (fun s i wr => ∃ (k : Nat) (us : List Value), k ≤ xs.length ∧ i = .int .i64 k ∧ us.length = k ∧ wr.ownsRow w.heap.size 66 1 s k us ∧ Below w.heap.size w wr ∧ ∀ (j : Nat) (u : Value) (x : Rst), us[j]? = some u → xs[j]? = some x → PartAt RstV 82 q w.heap.size wr s u x) (fun _ i _ => xs.length - (intOf i).toNat)
  case atStart => exact ⟨0, [], Nat.zero_le _, rfl, rfl, World.ownsRow_nil _ _ _ _, Below.refl _ _, fun j u E hj => by simp at hj⟩
  case round =>
    obtain ⟨k, us, hk, rfl, hul, hown, hB, hlk⟩ := hrel
    have HOwn := Lib.hid hown
    have HU := Lib.hid hul
    have HL := Lib.hid hlk
    clear hul hown hlk
    have hz := hB.size
    by_cases hlt : k < xs.length
    · obtain ⟨ad, vs, hA, hab, hV, hAg⟩ := (HX.out.below hB (Nat.le_refl _)).at_ hlt
      obtain ⟨x, hx⟩ : ∃ x, x = xs[k] := ⟨_, rfl⟩
      rw [← hx] at hV
      have hgx : good x := HG.out x (by rw [hx]; exact List.getElem_mem _)
      have HGX := Lib.hid hgx
      have HXK := Lib.hid hx
      clear hgx hx
      have hV2 := hV
      cases hV
      have h0 := hAg.zero
      rw [Nat.mul_one] at h0
      have HVV := Lib.hid hV2
      clear hAg hV2
      subst hA
      have hbn : Below wr.heap.size wr ((wr.alloc (.cells #[.int .i64 x.least] 80)).alloc (.cells #[.func (.func 82) #[] #[.pointer (some ⟨q, 0, none⟩), .pointer (some ⟨wr.heap.size, 0, none⟩)]] 66)) := ((Below.refl _ _).alloc (Nat.le_refl _) _).alloc (by simp) _
      have hagg : AggAt ((wr.alloc (.cells #[.int .i64 x.least] 80)).alloc (.cells #[.func (.func 82) #[] #[.pointer (some ⟨q, 0, none⟩), .pointer (some ⟨wr.heap.size, 0, none⟩)]] 66)) ⟨wr.heap.size, 0, none⟩ #[.int .i64 x.least].toList := (agg_new wr #[.int .i64 x.least].toList 80).keep (B := wr.heap.size + 1) (by simp) fun p hp => (((Below.refl (wr.heap.size + 1) _).alloc (by simp) _)).cell hp
      have HAG := Lib.hid hagg
      clear hagg
      go_wp2_with (at_builtin; refine wpList_append_own_at _ rfl _ _ 114 rfl w.heap.size 66 i0 Value.nilFunc 1 8 Try.underlying114 hi hz0 hz1 hz2 rfl (by decide) _ _ _ rfl ((HOwn.out.alloc (.cells #[.int .i64 x.least] 80)).alloc (.cells #[.func (.func 82) #[] #[.pointer (some ⟨q, 0, none⟩), .pointer (some ⟨wr.heap.size, 0, none⟩)]] 66)) ⟨wr.heap.size + 1, 0, none⟩ 1 1 [.func (.func 82) #[] #[.pointer (some ⟨q, 0, none⟩), .pointer (some ⟨wr.heap.size, 0, none⟩)]] rfl rfl (cell_one_two _ _ _ _) (by intro u hu; rw [List.mem_singleton.1 hu]; rfl) (by unfold maxLen; omega) (by omega) (by simp; omega) ?_; intro v6 w6 hown6 hg6 _ hob6)
      have hlt6 := fun k hk => (HOwn.out.lt k hk)
      have hb6 : Below w.heap.size w w6 := (hB.trans (hbn.mono hz)).grown hg6 (by simp; omega) (fun k hk => (hlt6 k hk).1)
      have hnew : PartAt RstV 82 q w.heap.size w6 v6 (.func (.func 82) #[] #[.pointer (some ⟨q, 0, none⟩), .pointer (some ⟨wr.heap.size, 0, none⟩)]) x := by
        have hne : some wr.heap.size ≠ u3.ownBlock := fun e => by have := (hlt6 _ e.symm).2; omega
        have hz6 := hg6.size
        simp at hz6
        refine ⟨wr.heap.size, _, rfl, by omega, hz, ?_, fun j v hj => hg6.cell (HAG.out j v hj) (by rw [block_add]; exact hne), ?_⟩
        · rcases hob6 with h | h
          · rw [h]; exact hne
          · rw [h]; intro e; injection e with e; simp at e; omega
        · exact Steady.below HVV.out ((hbn.mono hz).grown hg6 (by simp; omega) (fun k hk => (hlt6 k hk).1)) (Nat.le_refl _)
      have hold : ∀ (j : Nat) (u : Value) (x : Rst), us[j]? = some u → xs[j]? = some x → PartAt RstV 82 q w.heap.size w6 v6 u x := fun j u x hj hx =>
        (HL.out j u x hj hx).step hbn hg6 hz (fun k hk => (hlt6 k hk).1) hob6
      have HOwn6 := Lib.hid hown6
      have HNEW := Lib.hid hnew
      have HOLD := Lib.hid hold
      clear hown6 hbn hg6 hnew hold hlt6 hob6
      go_roundw
      case measure => simp [intOf]; omega
      case rel => exact ⟨k + 1, us ++ [.func (.func 82) #[] #[.pointer (some ⟨q, 0, none⟩), .pointer (some ⟨wr.heap.size, 0, none⟩)]], by omega, by go_num, by simp [HU.out], HOwn6.out, hb6, fun j u y hj hy => by
        by_cases e : j < us.length
        · rw [List.getElem?_append_left e] at hj
          exact HOLD.out j u y hj hy
        · have hj' : j = k := by
            have := (List.getElem?_eq_some_iff.1 hj).1
            have hu := HU.out
            simp at this; omega
          subst hj'
          rw [List.getElem?_append_right (by have := HU.out; omega)] at hj
          have hu := HU.out
          simp [hu] at hj
          rw [List.getElem?_eq_getElem hlt, ← HXK.out] at hy
          injection hy with hy
          rw [← hj, ← hy]
          exact HNEW.out⟩
    · obtain rfl : k = xs.length := by omega
      obtain ⟨A3, c3, rfl⟩ := own_shape' HOwn.out
      have hlooks : LooksAt wr wr.heap.size A3 (xs.map f) := by
        refine LooksAt.of_own HOwn.out (by rw [List.length_map, HU.out]) fun j u E hj hE => ?_
        rw [List.getElem?_map] at hE
        cases hxj : xs[j]? with
        | none => rw [hxj] at hE; simp at hE
        | some x =>
          rw [hxj] at hE
          simp at hE
          obtain ⟨p', vs, rfl, h1, h2, h3, h4, h5⟩ := HL.out j u x hj hxj
          refine ⟨82, _, rfl, enters83, fun W hW => ?_⟩
          rw [← hE]
          have hBW := hB.trans (hW.mono hz)
          exact rst11_any q p' v f good x vs W ((hBW.cell (p := ⟨q, 0, none⟩) hql).trans hq) (h4.keep (B := wr.heap.size) h1 fun _ h => hW.cell h) (HV.out.later hBW) (Steady.more (V := RstV) (Steady.below h5 hW hz) (by have := hW.size; omega)) (HG.out x (List.mem_of_getElem? hxj))
      have HLK := Lib.hid hlooks
      clear hlooks
      have hfirst := first_any A3 c3 (xs.map f) wr (by rw [List.length_map]; exact hn) HLK.out
      rw [List.length_map] at hfirst
      go_wp2_with fail
      refine hfirst.mono ?_
      rintro e w' ⟨rfl, hb'⟩
      go_wp2
      go_ret
      exact ⟨rfl, hB.trans (hb'.mono hz)⟩

theorem rst_any (A : Option Addr) (c : Nat) (v : Value) (f : Rst → Int) (good : Rst → Prop) (xs : List Rst) (w : World) (hn : xs.length ≤ 1000000) (hv : Asks RstV good v f w) (hg : ∀ x, x ∈ xs → good x) (h : StrsAt RstV 1 w w.heap.size A xs) :
    Calls Try.prog 39 #[.slice A xs.length c, v] w (LookOut (firstE (xs.map f)) w) := by
  obtain ⟨g, lb, rfl, eg, hc⟩ := hv
  have hV : Asks RstV good (.func (.func g) #[] lb) f w := ⟨g, lb, rfl, eg, hc⟩
  have HV := Lib.hid hV
  have HG := Lib.hid hg
  have HX := Lib.hid h
  clear hc hV hg h
  go_enter Try.func39, Try.ntmps39
  go_wp2
  go_ret
  refine ⟨_, rfl, ⟨81, _, rfl, enters82, fun W hW => ?_⟩, ((Below.refl _ _).alloc (Nat.le_refl _) _).alloc (by simp) _⟩
  have hz := hW.size
  simp at hz
  have hB : Below w.heap.size w W := (((Below.refl _ _).alloc (Nat.le_refl _) _).alloc (by simp) _).trans (hW.mono (by simp; omega))
  have h1 : W.cell? ⟨w.heap.size, 0, none⟩ = some (.slice A xs.length c) := by
    rw [hW.cell (p := ⟨w.heap.size, 0, none⟩) (by simp; omega)]
    simp [go_sem]
  have h2 : W.cell? ⟨w.heap.size + 1, 0, none⟩ = some (.func (.func g) #[] lb) := by
    rw [hW.cell (p := ⟨w.heap.size + 1, 0, none⟩) (by simp)]
    simp [go_sem]
  exact rst1_any _ _ A c _ f good xs W hn h1 h2 (by omega) (HV.out.later hB) HG.out (StrsAt.more (HX.out.below hB (Nat.le_refl _)) (by omega))

/-! dev -/
theorem dev11_any (q p : Nat) (v : Value) (f : Dev → Int) (good : Dev → Prop) (x : Dev) (vs : List Value) (w : World) (hq : w.cell? ⟨q, 0, none⟩ = some v) (hp : AggAt w ⟨p, 0, none⟩ vs) (hv : Asks DevV good v f w) (hV : DevV w w.heap.size x vs) (hx : good x) :
    Calls Try.prog 84 #[.pointer (some ⟨q, 0, none⟩), .pointer (some ⟨p, 0, none⟩)] w (ErrIs (f x) w) := by
  obtain ⟨v0, v1, v2, v3, v4, v5, rfl⟩ := dev_cells hV
  obtain ⟨g, lb, rfl, eg, hc⟩ := hv
  have hcall := hc w (Below.refl _ _) x _ hV hx
  have h0 := hp.zero
  have h1 := hp.at_ 0 rfl
  have h2 := hp.at_ 1 rfl
  have h3 := hp.at_ 2 rfl
  have h4 := hp.at_ 3 rfl
  have h5 := hp.at_ 4 rfl
  have HP := Lib.hid hp
  have HV := Lib.hid hV
  clear hp hV hc
  go_enter Try.func84, Try.ntmps84
  go_wp2_with (go_at_fn g; refine hcall.mono ?_; rintro e w' ⟨rfl, hb'⟩)
  go_ret
  exact ⟨rfl, hb'⟩
theorem enters85 (args : Array Value) (w : World) : (callFunc 84 args).run Try.prog w = .ok (.enter 84 args) w := enters_of Try.func84 (by kernel_rfl) rfl args w
theorem enters84 (args : Array Value) (w : World) : (callFunc 83 args).run Try.prog w = .ok (.enter 83 args) w := enters_of Try.func83 (by kernel_rfl) rfl args w

set_option maxRecDepth 100000 in
set_option maxHeartbeats 2000000 in
theorem dev1_any (p q : Nat) (A : Option Addr) (c : Nat) (v : Value) (f : Dev → Int) (good : Dev → Prop) (xs : List Dev) (w : World) (hn : xs.length ≤ 1000000) (hp : w.cell? ⟨p, 0, none⟩ = some (.slice A xs.length c)) (hq : w.cell? ⟨q, 0, none⟩ = some v) (hql : q < w.heap.size)
    (hv : Asks DevV good v f w) (hg : ∀ x, x ∈ xs → good x) (h : StrsAt DevV 6 w w.heap.size A xs) :
    Calls Try.prog 83 #[.pointer (some ⟨p, 0, none⟩), .pointer (some ⟨q, 0, none⟩)] w (ErrIs (firstE (xs.map f)) w) := by
  obtain ⟨i0, hi, hz0, hz1, hz2⟩ := info_parts Try.info66
  have HG := Lib.hid hg
  have HV := Lib.hid hv
  have HX := Lib.hid h
  clear hg hv h
  go_enter Try.func83, Try.ntmps83
  go_wp2
  go_loopw [3, 8] (fun s i wr => ∃ (k : Nat) (us : List Value), k ≤ xs.length ∧ i = .int .i64 k ∧ us.length = k ∧ wr.ownsRow w.heap.size 66 1 s k us ∧ Below w.heap.size w wr ∧ ∀ (j : Nat) (u : Value) (x : Dev), us[j]? = some u → xs[j]? = some x → PartAt DevV 84 q w.heap.size wr s u x) (fun _ i _ => xs.length - (intOf i).toNat)
  case atStart => exact ⟨0, [], Nat.zero_le _, rfl, rfl, World.ownsRow_nil _ _ _ _, Below.refl _ _, fun j u E hj => by simp at hj⟩
  case round =>
    obtain ⟨k, us, hk, rfl, hul, hown, hB, hlk⟩ := hrel
    have HOwn := Lib.hid hown
    have HU := Lib.hid hul
    have HL := Lib.hid hlk
    clear hul hown hlk
    have hz := hB.size
    by_cases hlt : k < xs.length
    · obtain ⟨ad, vs, hA, hab, hV, hAg⟩ := (HX.out.below hB (Nat.le_refl _)).at_ hlt
      obtain ⟨x, hx⟩ : ∃ x, x = xs[k] := ⟨_, rfl⟩
      rw [← hx] at hV
      have hgx : good x := HG.out x (by rw [hx]; exact List.getElem_mem _)
      have HGX := Lib.hid hgx
      have HXK := Lib.hid hx
      clear hgx hx
      have hV2 := hV
      obtain ⟨Af, cf, Ag, cg, rfl, hcf, hcg, hIf, hIg⟩ := hV
      have h0 := hAg.zero
      have h1 := hAg.at_ 0 rfl
      have h2 := hAg.at_ 1 rfl
      have h3 := hAg.at_ 2 rfl
      have h4 := hAg.at_ 3 rfl
      have h5 := hAg.at_ 4 rfl
      have HVV := Lib.hid hV2
      clear hAg hV2
      subst hA
      have hbn : Below wr.heap.size wr ((wr.alloc (.cells #[.int .i64 x.clock, .int .i64 x.domain, .int .i64 x.rst, .int .u32 x.clamp, .slice Af x.regs.length cf, .slice Ag x.needs.length cg] 86)).alloc (.cells #[.func (.func 84) #[] #[.pointer (some ⟨q, 0, none⟩), .pointer (some ⟨wr.heap.size, 0, none⟩)]] 66)) := ((Below.refl _ _).alloc (Nat.le_refl _) _).alloc (by simp) _
      have hagg : AggAt ((wr.alloc (.cells #[.int .i64 x.clock, .int .i64 x.domain, .int .i64 x.rst, .int .u32 x.clamp, .slice Af x.regs.length cf, .slice Ag x.needs.length cg] 86)).alloc (.cells #[.func (.func 84) #[] #[.pointer (some ⟨q, 0, none⟩), .pointer (some ⟨wr.heap.size, 0, none⟩)]] 66)) ⟨wr.heap.size, 0, none⟩ #[.int .i64 x.clock, .int .i64 x.domain, .int .i64 x.rst, .int .u32 x.clamp, .slice Af x.regs.length cf, .slice Ag x.needs.length cg].toList := (agg_new wr #[.int .i64 x.clock, .int .i64 x.domain, .int .i64 x.rst, .int .u32 x.clamp, .slice Af x.regs.length cf, .slice Ag x.needs.length cg].toList 86).keep (B := wr.heap.size + 1) (by simp) fun p hp => (((Below.refl (wr.heap.size + 1) _).alloc (by simp) _)).cell hp
      have HAG := Lib.hid hagg
      clear hagg
      go_wp2_with (at_builtin; refine wpList_append_own_at _ rfl _ _ 114 rfl w.heap.size 66 i0 Value.nilFunc 1 8 Try.underlying114 hi hz0 hz1 hz2 rfl (by decide) _ _ _ rfl ((HOwn.out.alloc (.cells #[.int .i64 x.clock, .int .i64 x.domain, .int .i64 x.rst, .int .u32 x.clamp, .slice Af x.regs.length cf, .slice Ag x.needs.length cg] 86)).alloc (.cells #[.func (.func 84) #[] #[.pointer (some ⟨q, 0, none⟩), .pointer (some ⟨wr.heap.size, 0, none⟩)]] 66)) ⟨wr.heap.size + 1, 0, none⟩ 1 1 [.func (.func 84) #[] #[.pointer (some ⟨q, 0, none⟩), .pointer (some ⟨wr.heap.size, 0, none⟩)]] rfl rfl (cell_one_two _ _ _ _) (by intro u hu; rw [List.mem_singleton.1 hu]; rfl) (by unfold maxLen; omega) (by omega) (by simp; omega) ?_; intro v6 w6 hown6 hg6 _ hob6)
      have hlt6 := fun k hk => (HOwn.out.lt k hk)
      have hb6 : Below w.heap.size w w6 := (hB.trans (hbn.mono hz)).grown hg6 (by simp; omega) (fun k hk => (hlt6 k hk).1)
      have hnew : PartAt DevV 84 q w.heap.size w6 v6 (.func (.func 84) #[] #[.pointer (some ⟨q, 0, none⟩), .pointer (some ⟨wr.heap.size, 0, none⟩)]) x := by
        have hne : some wr.heap.size ≠ u3.ownBlock := fun e => by have := (hlt6 _ e.symm).2; omega
        have hz6 := hg6.size
        simp at hz6
        refine ⟨wr.heap.size, _, rfl, by omega, hz, ?_, fun j v hj => hg6.cell (HAG.out j v hj) (by rw [block_add]; exact hne), ?_⟩
        · rcases hob6 with h | h
          · rw [h]; exact hne
          · rw [h]; intro e; injection e with e; simp at e; omega
        · exact Steady.below HVV.out ((hbn.mono hz).grown hg6 (by simp; omega) (fun k hk => (hlt6 k hk).1)) (Nat.le_refl _)
      have hold : ∀ (j : Nat) (u : Value) (x : Dev), us[j]? = some u → xs[j]? = some x → PartAt DevV 84 q w.heap.size w6 v6 u x := fun j u x hj hx =>
        (HL.out j u x hj hx).step hbn hg6 hz (fun k hk => (hlt6 k hk).1) hob6
      have HOwn6 := Lib.hid hown6
      have HNEW := Lib.hid hnew
      have HOLD := Lib.hid hold
      clear hown6 hbn hg6 hnew hold hlt6 hob6
      go_roundw
      case measure => simp [intOf]; omega
      case rel => exact ⟨k + 1, us ++ [.func (.func 84) #[] #[.pointer (some ⟨q, 0, none⟩), .pointer (some ⟨wr.heap.size, 0, none⟩)]], by omega, by go_num, by simp [HU.out], HOwn6.out, hb6, fun j u y hj hy => by
        by_cases e : j < us.length
        · rw [List.getElem?_append_left e] at hj
          exact HOLD.out j u y hj hy
        · have hj' : j = k := by
            have := (List.getElem?_eq_some_iff.1 hj).1
            have hu := HU.out
            simp at this; omega
          subst hj'
          rw [List.getElem?_append_right (by have := HU.out; omega)] at hj
          have hu := HU.out
          simp [hu] at hj
          rw [List.getElem?_eq_getElem hlt, ← HXK.out] at hy
          injection hy with hy
          rw [← hj, ← hy]
          exact HNEW.out⟩
    · obtain rfl : k = xs.length := by omega
      obtain ⟨A3, c3, rfl⟩ := own_shape' HOwn.out
      have hlooks : LooksAt wr wr.heap.size A3 (xs.map f) := by
        refine LooksAt.of_own HOwn.out (by rw [List.length_map, HU.out]) fun j u E hj hE => ?_
        rw [List.getElem?_map] at hE
        cases hxj : xs[j]? with
        | none => rw [hxj] at hE; simp at hE
        | some x =>
          rw [hxj] at hE
          simp at hE
          obtain ⟨p', vs, rfl, h1, h2, h3, h4, h5⟩ := HL.out j u x hj hxj
          refine ⟨84, _, rfl, enters85, fun W hW => ?_⟩
          rw [← hE]
          have hBW := hB.trans (hW.mono hz)
          exact dev11_any q p' v f good x vs W ((hBW.cell (p := ⟨q, 0, none⟩) hql).trans hq) (h4.keep (B := wr.heap.size) h1 fun _ h => hW.cell h) (HV.out.later hBW) (Steady.more (V := DevV) (Steady.below h5 hW hz) (by have := hW.size; omega)) (HG.out x (List.mem_of_getElem? hxj))
      have HLK := Lib.hid hlooks
      clear hlooks
      have hfirst := first_any A3 c3 (xs.map f) wr (by rw [List.length_map]; exact hn) HLK.out
      rw [List.length_map] at hfirst
      go_wp2_with fail
      refine hfirst.mono ?_
      rintro e w' ⟨rfl, hb'⟩
      go_wp2
      go_ret
      exact ⟨rfl, hB.trans (hb'.mono hz)⟩

theorem dev_any (A : Option Addr) (c : Nat) (v : Value) (f : Dev → Int) (good : Dev → Prop) (xs : List Dev) (w : World) (hn : xs.length ≤ 1000000) (hv : Asks DevV good v f w) (hg : ∀ x, x ∈ xs → good x) (h : StrsAt DevV 6 w w.heap.size A xs) :
    Calls Try.prog 41 #[.slice A xs.length c, v] w (LookOut (firstE (xs.map f)) w) := by
  obtain ⟨g, lb, rfl, eg, hc⟩ := hv
  have hV : Asks DevV good (.func (.func g) #[] lb) f w := ⟨g, lb, rfl, eg, hc⟩
  have HV := Lib.hid hV
  have HG := Lib.hid hg
  have HX := Lib.hid h
  clear hc hV hg h
  go_enter Try.func41, Try.ntmps41
  go_wp2
  go_ret
  refine ⟨_, rfl, ⟨83, _, rfl, enters84, fun W hW => ?_⟩, ((Below.refl _ _).alloc (Nat.le_refl _) _).alloc (by simp) _⟩
  have hz := hW.size
  simp at hz
  have hB : Below w.heap.size w W := (((Below.refl _ _).alloc (Nat.le_refl _) _).alloc (by simp) _).trans (hW.mono (by simp; omega))
  have h1 : W.cell? ⟨w.heap.size, 0, none⟩ = some (.slice A xs.length c) := by
    rw [hW.cell (p := ⟨w.heap.size, 0, none⟩) (by simp; omega)]
    simp [go_sem]
  have h2 : W.cell? ⟨w.heap.size + 1, 0, none⟩ = some (.func (.func g) #[] lb) := by
    rw [hW.cell (p := ⟨w.heap.size + 1, 0, none⟩) (by simp)]
    simp [go_sem]
  exact dev1_any _ _ A c _ f good xs W hn h1 h2 (by omega) (HV.out.later hB) HG.out (StrsAt.more (HX.out.below hB (Nat.le_refl _)) (by omega))

end Go.Proofs.Ytnfbhhgdibkbdaa
