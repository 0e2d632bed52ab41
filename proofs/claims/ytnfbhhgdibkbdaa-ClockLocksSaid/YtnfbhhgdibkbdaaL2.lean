/- Frames, picks, chips that are changed. -/
import Derived.Test.YtnfbhhgdibkbdaaO2
import Derived.Test.YtnfbhhgdibkbdaaH11
import Derived.RegionTactic
import Derived.ChangeAlike
namespace Go.Proofs.Ytnfbhhgdibkbdaa
set_option linter.unusedSimpArgs false
set_option linter.unusedVariables false
open Go.RowKit Go.Maps

structure FrN (n : Nat) (a : Act) : Prop where
  sz : a.tmps.size = n
  df : a.defers = []
theorem FrN.open_ {n : Nat} {a : Act} (h : FrN n a) : ∃ T : Nat → Value, a = ⟨listT T n, []⟩ := ⟨slT a, act_ext (by rw [listT_sl a h.sz]) h.df⟩
def PickIs (c n : Int) (k : Nat) : Prop := ∀ w, Calls Try.prog 15 #[.int .i64 c, .int .i64 n] w fun e w' => e = .returned (.int .i64 (k : Nat)) ∧ w = w'
theorem pick_ex {c : Int} {n : Nat} (hc : wfI c) (h0 : 0 < n) (h1 : n ≤ 1000000) : ∃ k : Nat, k < n ∧ PickIs c (n : Int) k := by
  have h2 := pickP_lo (c := c) (n := (n : Int)) (by omega)
  have h3 := pickP_hi (c := c) (n := (n : Int)) (by omega)
  exact ⟨(pickP c n).toNat, by omega, fun w => (pick_any c n w hc (by omega) (by omega)).mono fun e w' ⟨he, hw⟩ => ⟨by rw [he, Int.toNat_of_nonneg h2], hw⟩⟩

section
variable {s : Chip} (h : ChipOk s)
include h
theorem ChipOk.clkMore {x : Clk} (hl : s.clks.length < 1000) (hx : x.frm.length ≤ 1000 ∧ ∀ y, y ∈ x.frm → wfI y) : ChipOk { s with clks := s.clks ++ [x] } :=
  ⟨by simp; omega, h.n2, h.n3, h.n4, fun c hc => by
    rcases List.mem_append.1 hc with hc | hc
    · exact h.clks c hc
    · rw [List.mem_singleton.1 hc]; exact hx, h.doms, h.devs⟩
theorem ChipOk.setClk {x : Clk} {k : Nat} (hx : x.frm.length ≤ 1000 ∧ ∀ y, y ∈ x.frm → wfI y) : ChipOk { s with clks := s.clks.set k x } :=
  ⟨by simpa using h.n1, h.n2, h.n3, h.n4, fun c hc => by
    rcases List.mem_or_eq_of_mem_set hc with hc | hc
    · exact h.clks c hc
    · rw [hc]; exact hx, h.doms, h.devs⟩
theorem ChipOk.setDom {x : Dom} {k : Nat} (hx : wfI x.above) : ChipOk { s with doms := s.doms.set k x } :=
  ⟨h.n1, by simpa using h.n2, h.n3, h.n4, h.clks, fun c hc => by
    rcases List.mem_or_eq_of_mem_set hc with hc | hc
    · exact h.doms c hc
    · rw [hc]; exact hx, h.devs⟩
theorem ChipOk.setRst {x : Rst} {k : Nat} : ChipOk { s with rsts := s.rsts.set k x } :=
  ⟨h.n1, h.n2, by simpa using h.n3, h.n4, h.clks, h.doms, h.devs⟩
theorem ChipOk.setDev {x : Dev} {k : Nat} (hx : x.regs.length ≤ 1000 ∧ x.needs.length ≤ 1000 ∧ ∀ y, y ∈ x.needs → wfI y) : ChipOk { s with devs := s.devs.set k x } :=
  ⟨h.n1, h.n2, h.n3, by simpa using h.n4, h.clks, h.doms, fun c hc => by
    rcases List.mem_or_eq_of_mem_set hc with hc | hc
    · exact h.devs c hc
    · rw [hc]; exact hx⟩
end

theorem ints_fresh (W : World) (xs : List Int) (o : Obj) (hot : List Nat) (hn : W.heap.size ∉ hot) : IntsC hot ((W.alloc (.cells (xs.map fun x => Value.int .i64 x).toArray 3)).alloc o) (some ⟨W.heap.size, 0, none⟩) xs := fun _ => by
  refine ⟨_, rfl, by simp; omega, hn, fun j y hj => ?_⟩
  refine Lib.cell?_alloc_some _ ?_
  rw [Addr.add_lit, Nat.zero_add, cell_of_row _ _ _ _ _ _ (heap_alloc_new W _)]
  simp [hj]
theorem ints_fresh0 (W : World) (xs : List Int) (hot : List Nat) (hn : W.heap.size ∉ hot) : IntsC hot (W.alloc (.cells (xs.map fun x => Value.int .i64 x).toArray 3)) (some ⟨W.heap.size, 0, none⟩) xs := fun _ => by
  refine ⟨_, rfl, by simp, hn, fun j y hj => ?_⟩
  rw [Addr.add_lit, Nat.zero_add, cell_of_row _ _ _ _ _ _ (heap_alloc_new W _)]
  simp [hj]
theorem fr_keep {W : World} {o : Obj} {p : Addr} (h : W.frozen? p = false) (hl : p.block < W.heap.size) : (W.alloc o).drew.frozen? p = false := by
  have hm : Moved [] W (W.alloc o) := Moved.alloc W o
  exact (hm.frozen hl (by simp)).trans h
theorem drew_moved (W : World) : Moved [] W W.drew := ⟨rfl, rfl, rfl, Nat.le_refl _, fun _ _ _ => rfl⟩

end Go.Proofs.Ytnfbhhgdibkbdaa
