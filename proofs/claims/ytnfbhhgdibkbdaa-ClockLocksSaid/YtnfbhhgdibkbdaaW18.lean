/- The contracts of slices.Clone of structs. -/
import Derived.Test.YtnfbhhgdibkbdaaO2
import Derived.Test.YtnfbhhgdibkbdaaW10
import Derived.DataElems
namespace Go.Proofs.Ytnfbhhgdibkbdaa
set_option linter.unusedSimpArgs false
set_option linter.unusedVariables false
open Go.RowKit Go.Maps

theorem flat_at {vss : List (List Value)} {sz : Nat} (h : ∀ vs, vs ∈ vss → vs.length = sz) : ∀ {i : Nat} {u : Value}, vss.flatten[i]? = some u → ∃ k j vs, vss[k]? = some vs ∧ vs[j]? = some u ∧ i = k * sz + j := by
  induction vss with
  | nil => intro i u hi; simp at hi
  | cons x l ih =>
    intro i u hi
    have hx : x.length = sz := h x (by simp)
    rw [List.flatten_cons] at hi
    rcases Nat.lt_or_ge i x.length with hl | hl
    · rw [List.getElem?_append_left hl] at hi
      exact ⟨0, i, x, rfl, hi, by omega⟩
    · rw [List.getElem?_append_right hl] at hi
      obtain ⟨k, j, vs, h1, h2, h3⟩ := ih (fun vs hv => h vs (by simp [hv])) hi
      exact ⟨k + 1, j, vs, by simpa using h1, h2, by rw [Nat.add_mul]; omega⟩
/-- a row cloned of structs that lay in a world w0 -/
def Cloned {α : Type} (V : Reads α) (sz : Nat) (e : TypeId) (w0 : World) (xs : List α) (v : Value) (w : World) : Prop :=
  ∃ vss : List (List Value), vss.length = xs.length ∧ (∀ (k : Nat) (x : α) (vs : List Value), xs[k]? = some x → vss[k]? = some vs → vs.length = sz ∧ V w0 w0.heap.size x vs) ∧ w.ownsRow w0.heap.size e sz v xs.length vss.flatten
def ClonedOut {α : Type} (V : Reads α) (sz : Nat) (e : TypeId) (w0 : World) (xs : List α) (w : World) (en : Ending) (w' : World) : Prop := ∃ v, en = .returned v ∧ Cloned V sz e w0 xs v w' ∧ Below w.heap.size w w'
theorem flat_len' {vss : List (List Value)} {sz : Nat} (h : ∀ vs, vs ∈ vss → vs.length = sz) : vss.flatten.length = vss.length * sz := by
  induction vss with
  | nil => simp
  | cons x l ih =>
    rw [List.flatten_cons, List.length_append, ih (fun vs hv => h vs (by simp [hv])), h x (by simp), List.length_cons, Nat.add_mul]
    omega
theorem strs_list {α : Type} {V : Reads α} {sz : Nat} {w0 : World} {ad : Addr} {xs : List α} (hV : ∀ (x : α) (vs : List Value), V w0 w0.heap.size x vs → vs.length = sz ∧ ∀ u, u ∈ vs → u.oneCell' = true)
    (h : ∀ k x, xs[k]? = some x → ∃ vs, V w0 w0.heap.size x vs ∧ AggAt w0 (ad.add (k * sz)) vs) :
    ∃ vss : List (List Value), vss.length = xs.length ∧ (∀ (k : Nat) (x : α) (vs : List Value), xs[k]? = some x → vss[k]? = some vs → vs.length = sz ∧ V w0 w0.heap.size x vs) ∧ vss.flatten.length = xs.length * sz ∧ (∀ j u, vss.flatten[j]? = some u → w0.cell? (ad.add j) = some u) ∧ ∀ u, u ∈ vss.flatten → u.oneCell' = true := by
  have h' : ∀ k : Nat, ∃ vs, ∀ x, xs[k]? = some x → V w0 w0.heap.size x vs ∧ AggAt w0 (ad.add (k * sz)) vs := fun k => by
    cases hx : xs[k]? with
    | none => exact ⟨[], fun x e => by cases e⟩
    | some x => obtain ⟨vs, hv⟩ := h k x hx; exact ⟨vs, fun y e => by cases e; exact hv⟩
  obtain ⟨f, hf⟩ := Classical.axiomOfChoice h'
  have hat : ∀ (k : Nat) (x : α) (vs : List Value), xs[k]? = some x → ((List.range xs.length).map f)[k]? = some vs → V w0 w0.heap.size x vs ∧ AggAt w0 (ad.add (k * sz)) vs := fun k x vs hx hv => by
    obtain ⟨_, rfl⟩ := range_at hv
    exact hf k x hx
  have hlen : ∀ vs, vs ∈ (List.range xs.length).map f → vs.length = sz ∧ ∀ u, u ∈ vs → u.oneCell' = true := fun vs hv => by
    obtain ⟨k, hk⟩ := List.mem_iff_getElem?.1 hv
    obtain ⟨hkl, rfl⟩ := range_at hk
    exact hV _ _ (hf k _ (List.getElem?_eq_getElem hkl)).1
  refine ⟨(List.range xs.length).map f, by simp, fun k x vs hx hv => ⟨(hV x vs (hat k x vs hx hv).1).1, (hat k x vs hx hv).1⟩, by rw [flat_len' (sz := sz) (fun vs hv => (hlen vs hv).1), List.length_map, List.length_range], fun j u hj => ?_, fun u hu => ?_⟩
  · obtain ⟨k, i, vs, h1, h2, rfl⟩ := flat_at (fun vs hv => (hlen vs hv).1) hj
    have hkl : k < xs.length := (range_at h1).1
    have := (hat k _ vs (List.getElem?_eq_getElem hkl) h1).2 i u h2
    rwa [Addr.add_add] at this
  · obtain ⟨vs, h1, h2⟩ := List.mem_flatten.1 hu
    exact (hlen vs h1).2 u h2

theorem ClkV_cells (w : World) (B : Nat) (x : Clk) (vs : List Value) (h : ClkV w B x vs) : vs.length = 6 ∧ ∀ u, u ∈ vs → u.oneCell' = true := by
  obtain ⟨A, c, rfl, _, _⟩ := h
  refine ⟨rfl, fun u hu => ?_⟩
  simp at hu
  rcases hu with rfl | rfl | rfl | rfl | rfl | rfl <;> rfl
set_option maxRecDepth 100000 in
set_option maxHeartbeats 1000000 in
theorem clone61_any (A : Option Addr) (c : Nat) (xs : List Clk) (w0 w : World) (hn : xs.length ≤ 1000000) (hb : Below w0.heap.size w0 w) (h : StrsAt ClkV 6 w0 w0.heap.size A xs) :
    Calls Try.prog 58 #[.slice A xs.length c] w (ClonedOut ClkV 6 46 w0 xs w) := by
  obtain ⟨i0, hi, hz0, hz1, hz2⟩ := info_parts Try.info46
  have q22 : ∀ (w : World) (a : Option Addr) (n c : Nat), (binOp .eql 22 (.slice a n c) (.slice none 0 0)).run Try.prog w = .ok (.bool a.isNone) w := fun w a n c => Lib.run_eql_slice_nil w _ _ a n c 0 0 Try.underlying22
  rcases A with _ | ad
  · have h0 : ¬ 0 < xs.length := fun hp => by obtain ⟨ad, e, _⟩ := h hp; cases e
    have h0' : xs = [] := List.eq_nil_of_length_eq_zero (by omega)
    subst h0'
    clear h h0 hb
    go_enter Try.func58, Try.ntmps58
    go_wp2
    go_ret
    exact ⟨_, rfl, ⟨[], rfl, fun k x vs hk => by simp at hk, World.ownsRow_nil _ _ _ _⟩, Below.refl _ _⟩
  · have hc : ∀ k x, xs[k]? = some x → ∃ vs, ClkV w0 w0.heap.size x vs ∧ AggAt w0 (ad.add (k * 6)) vs := fun k x hk => by
      obtain ⟨ad', e, _, hc⟩ := h (by have := (List.getElem?_eq_some_iff.1 hk).1; omega)
      injection e with e
      subst e
      exact hc k x hk
    have hblk : 0 < xs.length → ad.block < w0.heap.size := fun hp => by
      obtain ⟨ad', e, hb, _⟩ := h hp
      injection e with e
      subst e
      exact hb
    obtain ⟨vss, hvl, hvc, hfl, hcell, hone⟩ := strs_list (ClkV_cells w0 _) hc
    have HVC := Lib.hid hvc
    have hcl : ∀ j u, vss.flatten[j]? = some u → w.cell? (ad.add j) = some u := fun j u hj => by
      have hp : 0 < xs.length := by
        rcases Nat.eq_zero_or_pos xs.length with e | e
        · have := (List.getElem?_eq_some_iff.1 hj).1
          rw [hfl, e] at this
          omega
        · exact e
      exact (hb.cell (by rw [block_add]; exact hblk hp)).trans (hcell j u hj)
    have HCL := Lib.hid hcl
    clear hcl
    have HONE := Lib.hid hone
    have HFL := Lib.hid hfl
    have HVL := Lib.hid hvl
    have HBB := Lib.hid hb
    have hzz := hb.size
    clear hc h hvc hcell hone hfl hvl hblk hb
    go_enter Try.func58, Try.ntmps58
    go_wp2_with (at_builtin; refine wpList_append_own _ rfl _ _ 22 rfl w.heap.size 46 i0 (.agg #[.int .u8 0, .slice none 0 0, .int .u64 0, .int .i64 0, .int .i64 0, .int .i64 0]) 6 64 Try.underlying22 hi hz0 hz1 hz2 rfl (by decide) _ _ _ rfl (World.ownsRow_made w #[] 0 (Nat.le_refl _) (Nat.zero_le _) (by simp)) ad xs.length c vss.flatten rfl ?qc1 ?qc2 ?qc3 ?qc4 ?qc5 ?qc6 ?_)
    case qc1 => exact HFL.out
    case qc2 => exact fun j u hj => Lib.cell?_alloc_some _ (HCL.out j u hj)
    case qc3 => exact HONE.out
    case qc4 => unfold maxLen; omega
    case qc5 => omega
    case qc6 => simp
    intro v' w1 hown hgrow hnil
    have HOWN := Lib.hid hown
    clear hown hnil
    go_wp2
    go_ret
    have hB1 : Below w.heap.size w w1 := ((Below.refl _ w).alloc (Nat.le_refl _) _).grown hgrow (by simp) (by intro k hk; simp [Value.ownBlock] at hk; omega)
    exact ⟨_, rfl, ⟨vss, HVL.out, HVC.out, own_base' (by have := HOWN.out; simpa using this) hzz⟩, hB1⟩

theorem DomV_cells (w : World) (B : Nat) (x : Dom) (vs : List Value) (h : DomV w B x vs) : vs.length = 3 ∧ ∀ u, u ∈ vs → u.oneCell' = true := by
  have h' : vs = _ := h
  subst h'
  refine ⟨rfl, fun u hu => ?_⟩
  simp at hu
  rcases hu with rfl | rfl | rfl <;> rfl
set_option maxRecDepth 100000 in
set_option maxHeartbeats 1000000 in
theorem clone62_any (A : Option Addr) (c : Nat) (xs : List Dom) (w0 w : World) (hn : xs.length ≤ 1000000) (hb : Below w0.heap.size w0 w) (h : StrsAt DomV 3 w0 w0.heap.size A xs) :
    Calls Try.prog 59 #[.slice A xs.length c] w (ClonedOut DomV 3 75 w0 xs w) := by
  obtain ⟨i0, hi, hz0, hz1, hz2⟩ := info_parts Try.info75
  have q22 : ∀ (w : World) (a : Option Addr) (n c : Nat), (binOp .eql 23 (.slice a n c) (.slice none 0 0)).run Try.prog w = .ok (.bool a.isNone) w := fun w a n c => Lib.run_eql_slice_nil w _ _ a n c 0 0 Try.underlying23
  rcases A with _ | ad
  · have h0 : ¬ 0 < xs.length := fun hp => by obtain ⟨ad, e, _⟩ := h hp; cases e
    have h0' : xs = [] := List.eq_nil_of_length_eq_zero (by omega)
    subst h0'
    clear h h0 hb
    go_enter Try.func59, Try.ntmps59
    go_wp2
    go_ret
    exact ⟨_, rfl, ⟨[], rfl, fun k x vs hk => by simp at hk, World.ownsRow_nil _ _ _ _⟩, Below.refl _ _⟩
  · have hc : ∀ k x, xs[k]? = some x → ∃ vs, DomV w0 w0.heap.size x vs ∧ AggAt w0 (ad.add (k * 3)) vs := fun k x hk => by
      obtain ⟨ad', e, _, hc⟩ := h (by have := (List.getElem?_eq_some_iff.1 hk).1; omega)
      injection e with e
      subst e
      exact hc k x hk
    have hblk : 0 < xs.length → ad.block < w0.heap.size := fun hp => by
      obtain ⟨ad', e, hb, _⟩ := h hp
      injection e with e
      subst e
      exact hb
    obtain ⟨vss, hvl, hvc, hfl, hcell, hone⟩ := strs_list (DomV_cells w0 _) hc
    have HVC := Lib.hid hvc
    have hcl : ∀ j u, vss.flatten[j]? = some u → w.cell? (ad.add j) = some u := fun j u hj => by
      have hp : 0 < xs.length := by
        rcases Nat.eq_zero_or_pos xs.length with e | e
        · have := (List.getElem?_eq_some_iff.1 hj).1
          rw [hfl, e] at this
          omega
        · exact e
      exact (hb.cell (by rw [block_add]; exact hblk hp)).trans (hcell j u hj)
    have HCL := Lib.hid hcl
    clear hcl
    have HONE := Lib.hid hone
    have HFL := Lib.hid hfl
    have HVL := Lib.hid hvl
    have HBB := Lib.hid hb
    have hzz := hb.size
    clear hc h hvc hcell hone hfl hvl hblk hb
    go_enter Try.func59, Try.ntmps59
    go_wp2_with (at_builtin; refine wpList_append_own _ rfl _ _ 23 rfl w.heap.size 75 i0 (.agg #[.int .i64 0, .int .i64 0, .bool false]) 3 24 Try.underlying23 hi hz0 hz1 hz2 rfl (by decide) _ _ _ rfl (World.ownsRow_made w #[] 0 (Nat.le_refl _) (Nat.zero_le _) (by simp)) ad xs.length c vss.flatten rfl ?qc1 ?qc2 ?qc3 ?qc4 ?qc5 ?qc6 ?_)
    case qc1 => exact HFL.out
    case qc2 => exact fun j u hj => Lib.cell?_alloc_some _ (HCL.out j u hj)
    case qc3 => exact HONE.out
    case qc4 => unfold maxLen; omega
    case qc5 => omega
    case qc6 => simp
    intro v' w1 hown hgrow hnil
    have HOWN := Lib.hid hown
    clear hown hnil
    go_wp2
    go_ret
    have hB1 : Below w.heap.size w w1 := ((Below.refl _ w).alloc (Nat.le_refl _) _).grown hgrow (by simp) (by intro k hk; simp [Value.ownBlock] at hk; omega)
    exact ⟨_, rfl, ⟨vss, HVL.out, HVC.out, own_base' (by have := HOWN.out; simpa using this) hzz⟩, hB1⟩

theorem RstV_cells (w : World) (B : Nat) (x : Rst) (vs : List Value) (h : RstV w B x vs) : vs.length = 1 ∧ ∀ u, u ∈ vs → u.oneCell' = true := by
  have h' : vs = _ := h
  subst h'
  refine ⟨rfl, fun u hu => ?_⟩
  simp at hu
  subst hu
  rfl
set_option maxRecDepth 100000 in
set_option maxHeartbeats 1000000 in
theorem clone63_any (A : Option Addr) (c : Nat) (xs : List Rst) (w0 w : World) (hn : xs.length ≤ 1000000) (hb : Below w0.heap.size w0 w) (h : StrsAt RstV 1 w0 w0.heap.size A xs) :
    Calls Try.prog 60 #[.slice A xs.length c] w (ClonedOut RstV 1 80 w0 xs w) := by
  obtain ⟨i0, hi, hz0, hz1, hz2⟩ := info_parts Try.info80
  have q22 : ∀ (w : World) (a : Option Addr) (n c : Nat), (binOp .eql 24 (.slice a n c) (.slice none 0 0)).run Try.prog w = .ok (.bool a.isNone) w := fun w a n c => Lib.run_eql_slice_nil w _ _ a n c 0 0 Try.underlying24
  rcases A with _ | ad
  · have h0 : ¬ 0 < xs.length := fun hp => by obtain ⟨ad, e, _⟩ := h hp; cases e
    have h0' : xs = [] := List.eq_nil_of_length_eq_zero (by omega)
    subst h0'
    clear h h0 hb
    go_enter Try.func60, Try.ntmps60
    go_wp2
    go_ret
    exact ⟨_, rfl, ⟨[], rfl, fun k x vs hk => by simp at hk, World.ownsRow_nil _ _ _ _⟩, Below.refl _ _⟩
  · have hc : ∀ k x, xs[k]? = some x → ∃ vs, RstV w0 w0.heap.size x vs ∧ AggAt w0 (ad.add (k * 1)) vs := fun k x hk => by
      obtain ⟨ad', e, _, hc⟩ := h (by have := (List.getElem?_eq_some_iff.1 hk).1; omega)
      injection e with e
      subst e
      exact hc k x hk
    have hblk : 0 < xs.length → ad.block < w0.heap.size := fun hp => by
      obtain ⟨ad', e, hb, _⟩ := h hp
      injection e with e
      subst e
      exact hb
    obtain ⟨vss, hvl, hvc, hfl, hcell, hone⟩ := strs_list (RstV_cells w0 _) hc
    have HVC := Lib.hid hvc
    have hcl : ∀ j u, vss.flatten[j]? = some u → w.cell? (ad.add j) = some u := fun j u hj => by
      have hp : 0 < xs.length := by
        rcases Nat.eq_zero_or_pos xs.length with e | e
        · have := (List.getElem?_eq_some_iff.1 hj).1
          rw [hfl, e] at this
          omega
        · exact e
      exact (hb.cell (by rw [block_add]; exact hblk hp)).trans (hcell j u hj)
    have HCL := Lib.hid hcl
    clear hcl
    have HONE := Lib.hid hone
    have HFL := Lib.hid hfl
    have HVL := Lib.hid hvl
    have HBB := Lib.hid hb
    have hzz := hb.size
    clear hc h hvc hcell hone hfl hvl hblk hb
    go_enter Try.func60, Try.ntmps60
    go_wp2_with (at_builtin; refine wpList_append_own _ rfl _ _ 24 rfl w.heap.size 80 i0 (.agg #[.int .i64 0]) 1 8 Try.underlying24 hi hz0 hz1 hz2 rfl (by decide) _ _ _ rfl (World.ownsRow_made w #[] 0 (Nat.le_refl _) (Nat.zero_le _) (by simp)) ad xs.length c vss.flatten rfl ?qc1 ?qc2 ?qc3 ?qc4 ?qc5 ?qc6 ?_)
    case qc1 => exact HFL.out
    case qc2 => exact fun j u hj => Lib.cell?_alloc_some _ (HCL.out j u hj)
    case qc3 => exact HONE.out
    case qc4 => unfold maxLen; omega
    case qc5 => omega
    case qc6 => simp
    intro v' w1 hown hgrow hnil
    have HOWN := Lib.hid hown
    clear hown hnil
    go_wp2
    go_ret
    have hB1 : Below w.heap.size w w1 := ((Below.refl _ w).alloc (Nat.le_refl _) _).grown hgrow (by simp) (by intro k hk; simp [Value.ownBlock] at hk; omega)
    exact ⟨_, rfl, ⟨vss, HVL.out, HVC.out, own_base' (by have := HOWN.out; simpa using this) hzz⟩, hB1⟩

theorem DevV_cells (w : World) (B : Nat) (x : Dev) (vs : List Value) (h : DevV w B x vs) : vs.length = 6 ∧ ∀ u, u ∈ vs → u.oneCell' = true := by
  obtain ⟨A, c, A', c', rfl, _, _, _, _⟩ := h
  refine ⟨rfl, fun u hu => ?_⟩
  simp at hu
  rcases hu with rfl | rfl | rfl | rfl | rfl | rfl <;> rfl
set_option maxRecDepth 100000 in
set_option maxHeartbeats 1000000 in
theorem clone64_any (A : Option Addr) (c : Nat) (xs : List Dev) (w0 w : World) (hn : xs.length ≤ 1000000) (hb : Below w0.heap.size w0 w) (h : StrsAt DevV 6 w0 w0.heap.size A xs) :
    Calls Try.prog 61 #[.slice A xs.length c] w (ClonedOut DevV 6 86 w0 xs w) := by
  obtain ⟨i0, hi, hz0, hz1, hz2⟩ := info_parts Try.info86
  have q22 : ∀ (w : World) (a : Option Addr) (n c : Nat), (binOp .eql 25 (.slice a n c) (.slice none 0 0)).run Try.prog w = .ok (.bool a.isNone) w := fun w a n c => Lib.run_eql_slice_nil w _ _ a n c 0 0 Try.underlying25
  rcases A with _ | ad
  · have h0 : ¬ 0 < xs.length := fun hp => by obtain ⟨ad, e, _⟩ := h hp; cases e
    have h0' : xs = [] := List.eq_nil_of_length_eq_zero (by omega)
    subst h0'
    clear h h0 hb
    go_enter Try.func61, Try.ntmps61
    go_wp2
    go_ret
    exact ⟨_, rfl, ⟨[], rfl, fun k x vs hk => by simp at hk, World.ownsRow_nil _ _ _ _⟩, Below.refl _ _⟩
  · have hc : ∀ k x, xs[k]? = some x → ∃ vs, DevV w0 w0.heap.size x vs ∧ AggAt w0 (ad.add (k * 6)) vs := fun k x hk => by
      obtain ⟨ad', e, _, hc⟩ := h (by have := (List.getElem?_eq_some_iff.1 hk).1; omega)
      injection e with e
      subst e
      exact hc k x hk
    have hblk : 0 < xs.length → ad.block < w0.heap.size := fun hp => by
      obtain ⟨ad', e, hb, _⟩ := h hp
      injection e with e
      subst e
      exact hb
    obtain ⟨vss, hvl, hvc, hfl, hcell, hone⟩ := strs_list (DevV_cells w0 _) hc
    have HVC := Lib.hid hvc
    have hcl : ∀ j u, vss.flatten[j]? = some u → w.cell? (ad.add j) = some u := fun j u hj => by
      have hp : 0 < xs.length := by
        rcases Nat.eq_zero_or_pos xs.length with e | e
        · have := (List.getElem?_eq_some_iff.1 hj).1
          rw [hfl, e] at this
          omega
        · exact e
      exact (hb.cell (by rw [block_add]; exact hblk hp)).trans (hcell j u hj)
    have HCL := Lib.hid hcl
    clear hcl
    have HONE := Lib.hid hone
    have HFL := Lib.hid hfl
    have HVL := Lib.hid hvl
    have HBB := Lib.hid hb
    have hzz := hb.size
    clear hc h hvc hcell hone hfl hvl hblk hb
    go_enter Try.func61, Try.ntmps61
    go_wp2_with (at_builtin; refine wpList_append_own _ rfl _ _ 25 rfl w.heap.size 86 i0 (.agg #[.int .i64 0, .int .i64 0, .int .i64 0, .int .u32 0, .slice none 0 0, .slice none 0 0]) 6 80 Try.underlying25 hi hz0 hz1 hz2 rfl (by decide) _ _ _ rfl (World.ownsRow_made w #[] 0 (Nat.le_refl _) (Nat.zero_le _) (by simp)) ad xs.length c vss.flatten rfl ?qc1 ?qc2 ?qc3 ?qc4 ?qc5 ?qc6 ?_)
    case qc1 => exact HFL.out
    case qc2 => exact fun j u hj => Lib.cell?_alloc_some _ (HCL.out j u hj)
    case qc3 => exact HONE.out
    case qc4 => unfold maxLen; omega
    case qc5 => omega
    case qc6 => simp
    intro v' w1 hown hgrow hnil
    have HOWN := Lib.hid hown
    clear hown hnil
    go_wp2
    go_ret
    have hB1 : Below w.heap.size w w1 := ((Below.refl _ w).alloc (Nat.le_refl _) _).grown hgrow (by simp) (by intro k hk; simp [Value.ownBlock] at hk; omega)
    exact ⟨_, rfl, ⟨vss, HVL.out, HVC.out, own_base' (by have := HOWN.out; simpa using this) hzz⟩, hB1⟩

theorem RgsV_cells (w : World) (B : Nat) (x : Rgs) (vs : List Value) (h : RgsV w B x vs) : vs.length = 2 ∧ ∀ u, u ∈ vs → u.oneCell' = true := by
  have h' : vs = _ := h
  subst h'
  refine ⟨rfl, fun u hu => ?_⟩
  simp at hu
  rcases hu with rfl | rfl <;> rfl
set_option maxRecDepth 100000 in
set_option maxHeartbeats 1000000 in
theorem clone66_any (A : Option Addr) (c : Nat) (xs : List Rgs) (w0 w : World) (hn : xs.length ≤ 1000000) (hb : Below w0.heap.size w0 w) (h : StrsAt RgsV 2 w0 w0.heap.size A xs) :
    Calls Try.prog 63 #[.slice A xs.length c] w (ClonedOut RgsV 2 90 w0 xs w) := by
  obtain ⟨i0, hi, hz0, hz1, hz2⟩ := info_parts Try.info90
  have q22 : ∀ (w : World) (a : Option Addr) (n c : Nat), (binOp .eql 84 (.slice a n c) (.slice none 0 0)).run Try.prog w = .ok (.bool a.isNone) w := fun w a n c => Lib.run_eql_slice_nil w _ _ a n c 0 0 Try.underlying84
  rcases A with _ | ad
  · have h0 : ¬ 0 < xs.length := fun hp => by obtain ⟨ad, e, _⟩ := h hp; cases e
    have h0' : xs = [] := List.eq_nil_of_length_eq_zero (by omega)
    subst h0'
    clear h h0 hb
    go_enter Try.func63, Try.ntmps63
    go_wp2
    go_ret
    exact ⟨_, rfl, ⟨[], rfl, fun k x vs hk => by simp at hk, World.ownsRow_nil _ _ _ _⟩, Below.refl _ _⟩
  · have hc : ∀ k x, xs[k]? = some x → ∃ vs, RgsV w0 w0.heap.size x vs ∧ AggAt w0 (ad.add (k * 2)) vs := fun k x hk => by
      obtain ⟨ad', e, _, hc⟩ := h (by have := (List.getElem?_eq_some_iff.1 hk).1; omega)
      injection e with e
      subst e
      exact hc k x hk
    have hblk : 0 < xs.length → ad.block < w0.heap.size := fun hp => by
      obtain ⟨ad', e, hb, _⟩ := h hp
      injection e with e
      subst e
      exact hb
    obtain ⟨vss, hvl, hvc, hfl, hcell, hone⟩ := strs_list (RgsV_cells w0 _) hc
    have HVC := Lib.hid hvc
    have hcl : ∀ j u, vss.flatten[j]? = some u → w.cell? (ad.add j) = some u := fun j u hj => by
      have hp : 0 < xs.length := by
        rcases Nat.eq_zero_or_pos xs.length with e | e
        · have := (List.getElem?_eq_some_iff.1 hj).1
          rw [hfl, e] at this
          omega
        · exact e
      exact (hb.cell (by rw [block_add]; exact hblk hp)).trans (hcell j u hj)
    have HCL := Lib.hid hcl
    clear hcl
    have HONE := Lib.hid hone
    have HFL := Lib.hid hfl
    have HVL := Lib.hid hvl
    have HBB := Lib.hid hb
    have hzz := hb.size
    clear hc h hvc hcell hone hfl hvl hblk hb
    go_enter Try.func63, Try.ntmps63
    go_wp2_with (at_builtin; refine wpList_append_own _ rfl _ _ 84 rfl w.heap.size 90 i0 (.agg #[.int .u32 0, .bool false]) 2 8 Try.underlying84 hi hz0 hz1 hz2 rfl (by decide) _ _ _ rfl (World.ownsRow_made w #[] 0 (Nat.le_refl _) (Nat.zero_le _) (by simp)) ad xs.length c vss.flatten rfl ?qc1 ?qc2 ?qc3 ?qc4 ?qc5 ?qc6 ?_)
    case qc1 => exact HFL.out
    case qc2 => exact fun j u hj => Lib.cell?_alloc_some _ (HCL.out j u hj)
    case qc3 => exact HONE.out
    case qc4 => unfold maxLen; omega
    case qc5 => omega
    case qc6 => simp
    intro v' w1 hown hgrow hnil
    have HOWN := Lib.hid hown
    clear hown hnil
    go_wp2
    go_ret
    have hB1 : Below w.heap.size w w1 := ((Below.refl _ w).alloc (Nat.le_refl _) _).grown hgrow (by simp) (by intro k hk; simp [Value.ownBlock] at hk; omega)
    exact ⟨_, rfl, ⟨vss, HVL.out, HVC.out, own_base' (by have := HOWN.out; simpa using this) hzz⟩, hB1⟩

end Go.Proofs.Ytnfbhhgdibkbdaa
