/- slices.Clone of states; what a tick makes of a clock, plainly. -/
import Derived.Test.YtnfbhhgdibkbdaaKA
namespace Go.Proofs.Ytnfbhhgdibkbdaa
set_option linter.unusedSimpArgs false
set_option linter.unusedVariables false
open Go.RowKit Go.Maps

theorem StaV_cells (w : World) (B : Nat) (x : Sta) (vs : List Value) (h : StaV w B x vs) : vs.length = 10 ∧ ∀ u, u ∈ vs → u.oneCell' = true := by
  obtain ⟨A, c, rfl, _, _⟩ := h
  refine ⟨rfl, fun u hu => ?_⟩
  simp [staL] at hu
  rcases hu with rfl | rfl | rfl | rfl | rfl | rfl | rfl | rfl | rfl | rfl <;> rfl
/-- the tree's row copied: a row of its own, in a new block -/
def RowCopy (gt : Nat) (sts : List Sta) (w : World) (e : Ending) (w' : World) : Prop :=
  ∃ g c, e = .returned (.slice (some ⟨g, 0, none⟩) sts.length c) ∧ w.heap.size ≤ g ∧ g < w'.heap.size ∧ RowC StaC 10 63 [gt, g] w' 0 (.slice (some ⟨g, 0, none⟩) sts.length c) sts ∧ Below w.heap.size w w'
set_option maxRecDepth 100000 in
set_option maxHeartbeats 1000000 in
theorem clone46_any (gt g c : Nat) (sts : List Sta) (w : World) (hn : sts.length ≤ 1000) (h0 : 0 < sts.length) (h : TreeIs w gt g c sts) :
    Calls Try.prog 46 #[.slice (some ⟨g, 0, none⟩) sts.length c] w (RowCopy gt sts w) := by
  obtain ⟨i0, hi, hz0, hz1, hz2⟩ := info_parts Try.info63
  have q22 : ∀ (w : World) (a : Option Addr) (n c : Nat), (binOp .eql 58 (.slice a n c) (.slice none 0 0)).run Try.prog w = .ok (.bool a.isNone) w := fun w a n c => Lib.run_eql_slice_nil w _ _ a n c 0 0 Try.underlying58
  obtain ⟨vss, hvl, hvc, ho⟩ := h.row
  have hfl : vss.flatten.length = sts.length * 10 := by
    rw [flat_len' (sz := 10) (RowC.len (C := StaC) (e := 63) (hot := [gt, g]) (w := w) (B := 0) (v := .slice (some ⟨g, 0, none⟩) sts.length c) hvl hvc), hvl]
  have hcell : ∀ j u, vss.flatten[j]? = some u → w.cell? ((⟨g, 0, none⟩ : Addr).add j) = some u := fun j u hj => ho.cells (g := g) rfl j u hj
  have hone : ∀ u, u ∈ vss.flatten → u.oneCell' = true := fun u hu => by
    obtain ⟨vs, h1, h2⟩ := List.mem_flatten.1 hu
    obtain ⟨k, hk, rfl⟩ := List.mem_iff_getElem.1 h1
    exact (StaV_cells w w.heap.size sts[k] _ (SteadyC.reads (hvc k sts[k] _ (List.getElem?_eq_getElem (by omega)) (List.getElem?_eq_getElem hk)).2)).2 u h2
  have HFL := Lib.hid hfl
  have HC := Lib.hid hcell
  have HONE := Lib.hid hone
  have HV := Lib.hid (And.intro hvl hvc)
  have HLT := Lib.hid h.lt
  clear h hvl hvc ho hfl hcell hone
  go_enter Try.func46, Try.ntmps46
  go_wp2_with (at_builtin; refine wpList_append_own _ rfl _ _ 58 rfl w.heap.size 63 i0 (.agg #[.int .u8 0, .slice none 0 0, .int .u64 0, .int .i64 0, .int .i64 0, .int .i64 0, .bool false, .int .i64 0, .int .i64 0, .int .i64 0]) 10 96 Try.underlying58 hi hz0 hz1 hz2 rfl (by decide) _ _ _ rfl (World.ownsRow_made w #[] 0 (Nat.le_refl _) (Nat.zero_le _) (by simp)) ⟨g, 0, none⟩ sts.length c vss.flatten rfl ?qc1 ?qc2 ?qc3 ?qc4 ?qc5 ?qc6 ?_)
  case qc1 => exact HFL.out
  case qc2 => exact fun j u hj => Lib.cell?_alloc_some _ (HC.out j u hj)
  case qc3 => exact HONE.out
  case qc4 => unfold maxLen; omega
  case qc5 => omega
  case qc6 => simp
  intro v' w1 hown hgrow hnil
  have HOWN := Lib.hid hown
  clear hown hnil
  go_wp2
  go_ret
  have hB1 : Below w.heap.size w w1 := ((Below.refl _ w).alloc (Nat.le_refl _) _).grown hgrow (by simp) (by intro k hk; simp [Value.ownBlock] at hk; omega)
  have ho : w1.ownsRow w.heap.size 63 10 v' sts.length vss.flatten := by have := HOWN.out; simpa using this
  rcases ho.2 with ⟨_, hz⟩ | ⟨g', cap, cur, rfl, hg', r⟩
  · omega
  · have hm : Moved [gt, g] w w1 := Moved.of_below hB1
    have hl : g' < w1.heap.size := (ho.lt g' rfl).2
    refine ⟨g', cap, rfl, hg', hl, ⟨vss, HV.out.1, fun k x vs h1 h2 => ⟨(HV.out.2 k x vs h1 h2).1, ?_⟩, own_base' ho (Nat.zero_le _)⟩, hB1⟩
    obtain ⟨A, cc, e, hcc, hI⟩ := (HV.out.2 k x vs h1 h2).2
    refine ⟨A, cc, e, hcc, fun hp => ?_⟩
    obtain ⟨ad, eA, k1, k2, k3⟩ := hI hp
    refine ⟨ad, eA, Nat.lt_of_lt_of_le k1 hm.size, ?_, fun j y hj => (Moved.of_below (hot := []) hB1).cell (k3 j y hj) (by simp)⟩
    simp at k2 ⊢
    omega

/-- the place that a clock comes from -/
def srcP (x : Sta) : Int := x.clk.frm.getD x.set.toNat 0
def wantP (x : Sta) : Int := x.clk.frm.getD x.want.toNat 0
/-- what a tick makes of a clock -/
def tickS (sts : List Sta) (x : Sta) : Sta :=
  if x.clk.kind = 112 then (if x.on = true then { x with left := lockP 112 x.clk.lock x.left (runI sts (srcP x)) } else x)
  else if x.clk.kind = 109 then (if (runI sts (wantP x) || !runI sts (srcP x)) = true then { x with set := x.want } else x) else x
def tickT (sts : List Sta) : List Sta := sts.map (tickS sts)
def partT (sts : List Sta) (k : Nat) : List Sta := (tickT sts).take k ++ sts.drop k
theorem tickT_len (sts : List Sta) : (tickT sts).length = sts.length := by simp [tickT]
theorem tickT_at {sts : List Sta} {k : Nat} {x : Sta} (h : sts[k]? = some x) : (tickT sts)[k]? = some (tickS sts x) := by unfold tickT; rw [List.getElem?_map, h]; rfl
theorem partT_zero (sts : List Sta) : partT sts 0 = sts := by simp [partT]
theorem partT_len (sts : List Sta) {k : Nat} (h : k ≤ sts.length) : (partT sts k).length = sts.length := by unfold partT; simp [tickT_len]; omega
theorem partT_all (sts : List Sta) : partT sts sts.length = tickT sts := by unfold partT; rw [List.drop_length, List.append_nil, List.take_of_length_le (by rw [tickT_len]; omega)]
theorem partT_at {sts : List Sta} {k : Nat} {x : Sta} (h : sts[k]? = some x) : (partT sts k)[k]? = some x := by
  have hk := get_lt h
  unfold partT
  rw [List.getElem?_append_right (by simp; omega)]
  simp only [List.getElem?_drop, List.length_take, tickT_len]
  rw [show k + (k - min k sts.length) = k by omega, h]
theorem partT_succ {sts : List Sta} {k : Nat} {x : Sta} (h : sts[k]? = some x) : partT sts (k + 1) = (partT sts k).set k (tickS sts x) := by
  have hk := get_lt h
  refine List.ext_getElem? fun m => ?_
  rw [List.getElem?_set]
  by_cases e : k = m
  · subst e
    rw [if_pos rfl, if_pos (by rw [partT_len sts (by omega)]; exact hk)]
    unfold partT
    rw [List.getElem?_append_left (by simp [tickT_len]; omega), List.getElem?_take, if_pos (by omega), tickT_at h]
  · rw [if_neg e]
    unfold partT
    by_cases hl : m < k
    · rw [List.getElem?_append_left (by simp [tickT_len]; omega), List.getElem?_append_left (by simp [tickT_len]; omega), List.getElem?_take, List.getElem?_take, if_pos (by omega), if_pos hl]
    · rw [List.getElem?_append_right (by simp [tickT_len]; omega), List.getElem?_append_right (by simp [tickT_len]; omega)]
      simp only [List.getElem?_drop, List.length_take, tickT_len]
      rw [show k + 1 + (m - min (k + 1) sts.length) = k + (m - min k sts.length) by omega]

end Go.Proofs.Ytnfbhhgdibkbdaa
