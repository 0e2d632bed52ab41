/- A chip whose rows the call owns, beside one box of the call: what stores and appends make of it. -/
import Derived.Test.YtnfbhhgdibkbdaaH5
import Derived.Test.YtnfbhhgdibkbdaaN2
import Derived.Laws.OwnMore
namespace Go.Proofs.Ytnfbhhgdibkbdaa
set_option linter.unusedSimpArgs false
set_option linter.unusedVariables false
open Go.RowKit Go.Maps

theorem flat_set {vss : List (List Value)} {sz : Nat} (h : ∀ vs, vs ∈ vss → vs.length = sz) : ∀ {k j : Nat} {vs : List Value} {u : Value}, vss[k]? = some vs → j < sz → vss.flatten.set (k * sz + j) u = (vss.set k (vs.set j u)).flatten := by
  induction vss with
  | nil => intro k j vs u hk; simp at hk
  | cons x l ih =>
    intro k j vs u hk hj
    have hx : x.length = sz := h x (by simp)
    cases k with
    | zero =>
      simp at hk
      subst hk
      rw [List.flatten_cons, Nat.zero_mul, Nat.zero_add, List.set_append_left _ _ (by omega), List.set_cons_zero, List.flatten_cons]
    | succ k =>
      have := ih (fun vs hv => h vs (by simp [hv])) (k := k) (j := j) (vs := vs) (u := u) (by simpa using hk) hj
      rw [List.flatten_cons, List.set_append_right _ _ (by rw [hx, Nat.add_mul]; omega), List.set_cons_succ, List.flatten_cons, hx, show (k + 1) * sz + j - sz = k * sz + j by rw [Nat.add_mul]; omega, this]

section
variable {α : Type} {C : ReadsC α} {sz : Nat} {e : TypeId} {hot : List Nat} {w w' : World} {B g n cap k j : Nat} {x : α} {xs : List α}
theorem RowC.cell (h : RowC C sz e hot w B (.slice (some ⟨g, 0, none⟩) n cap) xs) (hn : n = xs.length) (hk : xs[k]? = some x) :
    ∃ vs, vs.length = sz ∧ C hot w x vs ∧ ∀ j v, vs[j]? = some v → w.cell? ⟨g, k * sz + j, none⟩ = some v ∧ w.frozen? ⟨g, k * sz + j, none⟩ = false := by
  subst hn
  obtain ⟨vss, hl, hc, ho⟩ := h
  have hkl : k < vss.length := by rw [hl]; exact (List.getElem?_eq_some_iff.1 hk).1
  have hvs : vss[k]? = some vss[k] := List.getElem?_eq_getElem hkl
  obtain ⟨h1, h2⟩ := hc k x _ hk hvs
  refine ⟨vss[k], h1, h2, fun j v hj => ?_⟩
  have hjl : j < sz := by rw [← h1]; exact (List.getElem?_eq_some_iff.1 hj).1
  have hkx : k < xs.length := (List.getElem?_eq_some_iff.1 hk).1
  have hlt : k * sz + j < xs.length * sz := Nat.lt_of_lt_of_le (by rw [Nat.succ_mul]; omega : k * sz + j < (k + 1) * sz) (Nat.mul_le_mul_right _ hkx)
  refine ⟨?_, ho.frozenAt _⟩
  rw [ho.cellAt _ hlt]
  exact flat_get (RowC.len (e := e) (B := B) (v := .slice (some ⟨g, 0, none⟩) xs.length cap) hl hc) hvs hj
theorem RowC.set {V : Reads α} [sc : SteadyC C V] {x' : α} {u : Value} (h : RowC C sz e hot w B (.slice (some ⟨g, 0, none⟩) n cap) xs) (hn : n = xs.length) (hk : xs[k]? = some x) (hj : j < sz) (hg : g ∈ hot)
    (hx : ∀ vs, C hot w x vs → vs.length = sz → C hot w x' (vs.set j u)) : RowC C sz e hot (w.setCell ⟨g, k * sz + j, none⟩ u) B (.slice (some ⟨g, 0, none⟩) n cap) (xs.set k x') := by
  subst hn
  obtain ⟨vss, hl, hc, ho⟩ := h
  have hkl : k < vss.length := by rw [hl]; exact (List.getElem?_eq_some_iff.1 hk).1
  have hvs : vss[k]? = some vss[k] := List.getElem?_eq_getElem hkl
  obtain ⟨h1, h2⟩ := hc k x _ hk hvs
  have hm : Moved hot w (w.setCell ⟨g, k * sz + j, none⟩ u) := Moved.setCell w hg u
  refine ⟨vss.set k (vss[k].set j u), by simp [hl], fun i y us hy hu => ?_, ?_⟩
  · rcases set_at hy with ⟨rfl, rfl⟩ | ⟨hne, hy⟩
    · rw [List.getElem?_set_self hkl] at hu
      have hu := Option.some.inj hu
      subst hu
      exact ⟨by simpa using h1, sc.move (hx _ h2 h1) hm⟩
    · rw [List.getElem?_set_ne (Ne.symm hne)] at hu
      obtain ⟨h3, h4⟩ := hc i y us hy hu
      exact ⟨h3, sc.move h4 hm⟩
  · have := (ho.stored (k * sz + j) u).1
    rw [flat_set (RowC.len (e := e) (B := B) (v := .slice (some ⟨g, 0, none⟩) xs.length cap) hl hc) hvs hj] at this
    rwa [List.length_set]
end

/-- a chip all of whose rows the call owns, beside the box g0 -/
structure Own5 (g0 : Nat) (w : World) (B : Nat) (s : Chip) (v1 v2 v3 v4 : Value) : Prop where
  clks : RowC ClkC 6 46 (g0 :: hot4 v1 v2 v3 v4) w B v1 s.clks
  doms : RowC DomC 3 75 (g0 :: hot4 v1 v2 v3 v4) w B v2 s.doms
  rsts : RowC RstC 1 80 (g0 :: hot4 v1 v2 v3 v4) w B v3 s.rsts
  devs : RowC DevC 6 86 (g0 :: hot4 v1 v2 v3 v4) w B v4 s.devs
  n12 : ∀ g, v1.ownBlock = some g → v2.ownBlock ≠ some g
  n13 : ∀ g, v1.ownBlock = some g → v3.ownBlock ≠ some g
  n14 : ∀ g, v1.ownBlock = some g → v4.ownBlock ≠ some g
  n23 : ∀ g, v2.ownBlock = some g → v3.ownBlock ≠ some g
  n24 : ∀ g, v2.ownBlock = some g → v4.ownBlock ≠ some g
  n34 : ∀ g, v3.ownBlock = some g → v4.ownBlock ≠ some g
  z1 : v1.ownBlock ≠ some g0
  z2 : v2.ownBlock ≠ some g0
  z3 : v3.ownBlock ≠ some g0
  z4 : v4.ownBlock ≠ some g0

theorem Own4.box {w : World} {B : Nat} {s : Chip} {v1 v2 v3 v4 : Value} (h : Own4 w B s v1 v2 v3 v4) (o : Obj) : Own5 w.heap.size (w.alloc o) B s v1 v2 v3 v4 := by
  have hm : Moved (w.heap.size :: hot4 v1 v2 v3 v4) w (w.alloc o) := Moved.alloc w o
  have lt : ∀ {α : Type} {C : ReadsC α} {sz : Nat} {e : TypeId} {v : Value} {xs : List α}, RowC C sz e (hot4 v1 v2 v3 v4) w B v xs → (∀ g, v.ownBlock = some g → (w.alloc o).heap[g]? = w.heap[g]?) ∧ v.ownBlock ≠ some w.heap.size := fun hr => by
    obtain ⟨_, _, _, _, hb⟩ := hr.shape
    exact ⟨fun g hg => heap_alloc_old _ _ (hb g hg).2, fun e => by have := (hb _ e).2; omega⟩
  exact ⟨(h.clks.more (Nat.le_refl _)).move hm (lt h.clks).1, (h.doms.more (Nat.le_refl _)).move hm (lt h.doms).1, (h.rsts.more (Nat.le_refl _)).move hm (lt h.rsts).1, (h.devs.more (Nat.le_refl _)).move hm (lt h.devs).1,
    h.n12, h.n13, h.n14, h.n23, h.n24, h.n34, (lt h.clks).2, (lt h.doms).2, (lt h.rsts).2, (lt h.devs).2⟩

namespace Own5
variable {g0 : Nat} {w w' : World} {B : Nat} {s : Chip} {v1 v2 v3 v4 : Value}
theorem move (h : Own5 g0 w B s v1 v2 v3 v4) (hm : Moved [g0] w w') : Own5 g0 w' B s v1 v2 v3 v4 := by
  have hm' : Moved (g0 :: hot4 v1 v2 v3 v4) w w' := hm.mono (by simp)
  have lt : ∀ {α : Type} {C : ReadsC α} {sz : Nat} {e : TypeId} {v : Value} {xs : List α}, RowC C sz e (g0 :: hot4 v1 v2 v3 v4) w B v xs → v.ownBlock ≠ some g0 → (∀ g, v.ownBlock = some g → w'.heap[g]? = w.heap[g]?) := fun hr hz g hg => by
    obtain ⟨_, _, _, _, hb⟩ := hr.shape
    exact hm.block g (hb g hg).2 (by simp; rintro rfl; exact hz hg)
  exact ⟨h.clks.move hm' (lt h.clks h.z1), h.doms.move hm' (lt h.doms h.z2), h.rsts.move hm' (lt h.rsts h.z3), h.devs.move hm' (lt h.devs h.z4), h.n12, h.n13, h.n14, h.n23, h.n24, h.n34, h.z1, h.z2, h.z3, h.z4⟩
theorem calm (h : Own5 g0 w B s v1 v2 v3 v4) (hm : Moved [] w w') : Own5 g0 w' B s v1 v2 v3 v4 := h.move (hm.mono (by simp))
theorem chip (h : Own5 g0 w B s v1 v2 v3 v4) : ChipV w w.heap.size s [v1, v2, v3, v4] := by
  obtain ⟨A1, c1, rfl, l1, h1⟩ := h.clks.strs
  obtain ⟨A2, c2, rfl, l2, h2⟩ := h.doms.strs
  obtain ⟨A3, c3, rfl, l3, h3⟩ := h.rsts.strs
  obtain ⟨A4, c4, rfl, l4, h4⟩ := h.devs.strs
  exact ⟨A1, c1, A2, c2, A3, c3, A4, c4, rfl, l1, l2, l3, l4, h1, h2, h3, h4⟩
/-- a store into one row leaves the others -/
theorem far {α : Type} {C : ReadsC α} {V : Reads α} [sc : SteadyC C V] {sz : Nat} {e : TypeId} {hot : List Nat} {v : Value} {xs : List α} {p : Addr} (h : RowC C sz e hot w B v xs) (hp : p.block ∈ hot) (hne : v.ownBlock ≠ some p.block) (u : Value) : RowC C sz e hot (w.setCell p u) B v xs :=
  h.move (Moved.setCell w hp u) fun g hg => Below.heap_setCell w p u g fun e => hne (by rw [hg, e])
theorem form {α : Type} {C : ReadsC α} {sz : Nat} {e : TypeId} {hot : List Nat} {v : Value} {xs : List α} (h : RowC C sz e hot w B v xs) (hn : 0 < xs.length) : ∃ g cap, v = .slice (some ⟨g, 0, none⟩) xs.length cap ∧ B ≤ g ∧ g < w.heap.size := by
  obtain ⟨vss, hl, hc, ho⟩ := h
  rcases ho.2 with ⟨_, h0⟩ | ⟨g, cap, cur, h1, h2, h3, r⟩
  · omega
  · refine ⟨g, cap, h1, h2, ?_⟩
    rcases Nat.lt_or_ge g w.heap.size with hlt | hge
    · exact hlt
    · rw [Array.getElem?_eq_none hge] at h3; cases h3
theorem setClk {g n cap k j : Nat} {x x' : Clk} {u : Value} (h : Own5 g0 w B s (.slice (some ⟨g, 0, none⟩) n cap) v2 v3 v4) (hn : n = s.clks.length) (hk : s.clks[k]? = some x) (hj : j < 6) (hx : ∀ vs, ClkC (g0 :: hot4 (.slice (some ⟨g, 0, none⟩) n cap) v2 v3 v4) w x vs → vs.length = 6 → ClkC (g0 :: hot4 (.slice (some ⟨g, 0, none⟩) n cap) v2 v3 v4) w x' (vs.set j u)) :
    Own5 g0 (w.setCell ⟨g, k * 6 + j, none⟩ u) B { s with clks := s.clks.set k x' } (.slice (some ⟨g, 0, none⟩) n cap) v2 v3 v4 := by
  have hg : g ∈ g0 :: hot4 (.slice (some ⟨g, 0, none⟩) n cap) v2 v3 v4 := by simp [hot4, Value.ownBlock]
  exact ⟨h.clks.set hn hk hj hg hx, far h.doms hg (h.n12 g rfl) u, far h.rsts hg (h.n13 g rfl) u, far h.devs hg (h.n14 g rfl) u, h.n12, h.n13, h.n14, h.n23, h.n24, h.n34, h.z1, h.z2, h.z3, h.z4⟩
theorem setDom {g n cap k j : Nat} {x x' : Dom} {u : Value} (h : Own5 g0 w B s v1 (.slice (some ⟨g, 0, none⟩) n cap) v3 v4) (hn : n = s.doms.length) (hk : s.doms[k]? = some x) (hj : j < 3) (hx : ∀ vs, DomC (g0 :: hot4 v1 (.slice (some ⟨g, 0, none⟩) n cap) v3 v4) w x vs → vs.length = 3 → DomC (g0 :: hot4 v1 (.slice (some ⟨g, 0, none⟩) n cap) v3 v4) w x' (vs.set j u)) :
    Own5 g0 (w.setCell ⟨g, k * 3 + j, none⟩ u) B { s with doms := s.doms.set k x' } v1 (.slice (some ⟨g, 0, none⟩) n cap) v3 v4 := by
  have hg : g ∈ g0 :: hot4 v1 (.slice (some ⟨g, 0, none⟩) n cap) v3 v4 := by simp [hot4, Value.ownBlock]
  exact ⟨far h.clks hg (fun e => h.n12 g e rfl) u, h.doms.set hn hk hj hg hx, far h.rsts hg (h.n23 g rfl) u, far h.devs hg (h.n24 g rfl) u, h.n12, h.n13, h.n14, h.n23, h.n24, h.n34, h.z1, h.z2, h.z3, h.z4⟩
theorem setRst {g n cap k j : Nat} {x x' : Rst} {u : Value} (h : Own5 g0 w B s v1 v2 (.slice (some ⟨g, 0, none⟩) n cap) v4) (hn : n = s.rsts.length) (hk : s.rsts[k]? = some x) (hj : j < 1) (hx : ∀ vs, RstC (g0 :: hot4 v1 v2 (.slice (some ⟨g, 0, none⟩) n cap) v4) w x vs → vs.length = 1 → RstC (g0 :: hot4 v1 v2 (.slice (some ⟨g, 0, none⟩) n cap) v4) w x' (vs.set j u)) :
    Own5 g0 (w.setCell ⟨g, k * 1 + j, none⟩ u) B { s with rsts := s.rsts.set k x' } v1 v2 (.slice (some ⟨g, 0, none⟩) n cap) v4 := by
  have hg : g ∈ g0 :: hot4 v1 v2 (.slice (some ⟨g, 0, none⟩) n cap) v4 := by simp [hot4, Value.ownBlock]
  exact ⟨far h.clks hg (fun e => h.n13 g e rfl) u, far h.doms hg (fun e => h.n23 g e rfl) u, h.rsts.set hn hk hj hg hx, far h.devs hg (h.n34 g rfl) u, h.n12, h.n13, h.n14, h.n23, h.n24, h.n34, h.z1, h.z2, h.z3, h.z4⟩
theorem setDev {g n cap k j : Nat} {x x' : Dev} {u : Value} (h : Own5 g0 w B s v1 v2 v3 (.slice (some ⟨g, 0, none⟩) n cap)) (hn : n = s.devs.length) (hk : s.devs[k]? = some x) (hj : j < 6) (hx : ∀ vs, DevC (g0 :: hot4 v1 v2 v3 (.slice (some ⟨g, 0, none⟩) n cap)) w x vs → vs.length = 6 → DevC (g0 :: hot4 v1 v2 v3 (.slice (some ⟨g, 0, none⟩) n cap)) w x' (vs.set j u)) :
    Own5 g0 (w.setCell ⟨g, k * 6 + j, none⟩ u) B { s with devs := s.devs.set k x' } v1 v2 v3 (.slice (some ⟨g, 0, none⟩) n cap) := by
  have hg : g ∈ g0 :: hot4 v1 v2 v3 (.slice (some ⟨g, 0, none⟩) n cap) := by simp [hot4, Value.ownBlock]
  exact ⟨far h.clks hg (fun e => h.n14 g e rfl) u, far h.doms hg (fun e => h.n24 g e rfl) u, far h.rsts hg (fun e => h.n34 g e rfl) u, h.devs.set hn hk hj hg hx, h.n12, h.n13, h.n14, h.n23, h.n24, h.n34, h.z1, h.z2, h.z3, h.z4⟩
/-- all blocks of the rows are new -/
theorem fresh (h : Own5 g0 w B s v1 v2 v3 v4) (hg : B ≤ g0) (hl : g0 < w.heap.size) : ∀ b, b ∈ g0 :: hot4 v1 v2 v3 v4 → B ≤ b ∧ b < w.heap.size := by
  intro b hb
  rcases List.mem_cons.1 hb with rfl | hb
  · exact ⟨hg, hl⟩
  · obtain ⟨_, _, _, _, b1⟩ := h.clks.shape
    obtain ⟨_, _, _, _, b2⟩ := h.doms.shape
    obtain ⟨_, _, _, _, b3⟩ := h.rsts.shape
    obtain ⟨_, _, _, _, b4⟩ := h.devs.shape
    unfold hot4 at hb
    rcases List.mem_append.1 hb with hb | hb
    · rcases List.mem_append.1 hb with hb | hb
      · rcases List.mem_append.1 hb with hb | hb
        · exact b1 b (by simpa using hb)
        · exact b2 b (by simpa using hb)
      · exact b3 b (by simpa using hb)
    · exact b4 b (by simpa using hb)
/-- one more clock behind the row -/
theorem pushClk {W5 : World} {x : Clk} {lits : List Value} (h : Own5 g0 w B s v1 v2 v3 v4) (hM : Moved [] w W5) (hx : ClkC (g0 :: hot4 v1 v2 v3 v4) W5 x lits) (hl : lits.length = 6) :
    ∃ vss : List (List Value), W5.ownsRow B 46 6 v1 s.clks.length vss.flatten ∧ ∀ (v6 : Value) (w6 : World), w6.ownsRow B 46 6 v6 (s.clks.length + 1) (vss.flatten ++ lits) → W5.grownBy w6 v1.ownBlock → (v6.ownBlock = v1.ownBlock ∨ v6.ownBlock = some W5.heap.size) → g0 < W5.heap.size →
      (∀ w7, Moved [g0] w6 w7 → ChipV w7 w7.heap.size { s with clks := s.clks ++ [x] } [v6, v2, v3, v4]) ∧ Moved v1.ownBlock.toList W5 w6 := by
  have h5 := h.calm hM
  obtain ⟨vss, hvl, hvc, ho⟩ := h5.clks
  refine ⟨vss, ho, fun v6 w6 ho6 hg6 hb6 hgl => ?_⟩
  have hmv : Moved v1.ownBlock.toList W5 w6 := Moved.of_grown hg6 (fun k hk => by simp [hk])
  have hsub : ∀ k, k ∈ v1.ownBlock.toList → k ∈ g0 :: hot4 v1 v2 v3 v4 := fun k hk => by unfold hot4; simp at hk ⊢; exact .inr (.inl hk)
  refine ⟨fun w7 h7 => ?_, hmv⟩
  have hz6 : v6.ownBlock ≠ some g0 := by
    rcases hb6 with e | e <;> rw [e]
    · exact h.z1
    · intro e; injection e with e; omega
  have r1 := (RowC.push hvl hvc hl hx (hmv.mono hsub) ho6).move (w' := w7) (h7.mono (by simp)) (fun g hg => h7.block g (ho6.lt g hg).2 (by simp; rintro rfl; exact hz6 hg))
  have lt : ∀ {α : Type} {C : ReadsC α} {V : Reads α} [sc : SteadyC C V] {sz : Nat} {e : TypeId} {v : Value} {xs : List α}, RowC C sz e (g0 :: hot4 v1 v2 v3 v4) W5 B v xs → v.ownBlock ≠ some g0 → (∀ g, v1.ownBlock = some g → v.ownBlock ≠ some g) → RowC C sz e (g0 :: hot4 v1 v2 v3 v4) w7 B v xs := fun hr hz hne => by
    obtain ⟨_, _, _, _, hb⟩ := hr.shape
    have hm : Moved (g0 :: v1.ownBlock.toList) W5 w7 := (hmv.mono (by intro k hk; exact List.mem_cons_of_mem _ hk)).trans (h7.mono (by simp))
    refine hr.move (hm.mono fun k hk => ?_) fun g hg => hm.block g (hb g hg).2 ?_
    · rcases List.mem_cons.1 hk with rfl | hk
      · exact List.mem_cons_self
      · exact hsub k hk
    · intro hk
      rcases List.mem_cons.1 hk with rfl | hk
      · exact hz hg
      · exact hne g (by simpa using hk) hg
  have r2 := lt h5.doms h.z2 h.n12
  have r3 := lt h5.rsts h.z3 h.n13
  have r4 := lt h5.devs h.z4 h.n14
  obtain ⟨A1, c1, rfl, l1, h1⟩ := r1.strs
  obtain ⟨A2, c2, rfl, l2, h2⟩ := r2.strs
  obtain ⟨A3, c3, rfl, l3, h3⟩ := r3.strs
  obtain ⟨A4, c4, rfl, l4, h4⟩ := r4.strs
  exact ⟨A1, c1, A2, c2, A3, c3, A4, c4, rfl, l1, l2, l3, l4, h1, h2, h3, h4⟩
end Own5

end Go.Proofs.Ytnfbhhgdibkbdaa
