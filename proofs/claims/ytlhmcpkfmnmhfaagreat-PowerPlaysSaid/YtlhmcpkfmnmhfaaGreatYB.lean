/- The document's own grid: Tick; Same, as, same. -/
import Derived.Test.YtlhmcpkfmnmhfaaGreatYA
namespace Go.Proofs.YtlhmcpkfmnmhfaaGreat
section
set_option linter.unusedSimpArgs false
set_option linter.unusedVariables false
open Go.RowKit Go.Maps

theorem Tryz.info83 : (Tryz.prog.info? 83).map (fun i => (i.zero, i.size, i.bytes)) = some (some (.agg #[.int .u8 0, .int .i64 0]), 2, 16) := by kernel_rfl
/-- a row of the document's events that the call owns -/
def RevRow (w : World) (B : Nat) (v : Value) (evs : List Ev) : Prop := w.ownsRow B 83 2 v evs.length (evV evs)
theorem RevRow.moved {w w' : World} {B : Nat} {v : Value} {evs : List Ev} {H : List Nat} (h : RevRow w B v evs) (hm : Moved H w w') (hH : ∀ g, g ∈ H → g < B) : RevRow w' B v evs := own_move h fun g hg => by
  have hlt := h.lt g hg
  exact hm.block g hlt.2 fun hh => by have := hH g hh; omega
/-- one event more -/
theorem wpList_rev {w : World} {ops : Array Oper} {rest : List Oper} {o : Oper} {a : Act} {Q : Exit → Act → World → Prop} (hgd : o.guard = none) (s x : Operand)
    (ho : o.op = .call { callee := .builtin .append, args := #[s, x], argTypes := #[45, 45] }) (B : Nat) (v : Value) (evs : List Ev) (hs : a.eval s = v) (hv : RevRow w B v evs) (K D : Int) (b : Nat) (hx : a.eval x = .slice (some ⟨b, 0, none⟩) 1 1)
    (hb : w.heap[b]? = some (.cells #[.int .u8 K, .int .i64 D] 83 (0, 0))) (hl : evs.length ≤ 1000) (hB : B ≤ w.heap.size)
    (h : ∀ A c w', RevRow w' B (.slice A (evs.length + 1) c) (evs ++ [⟨K, D⟩]) → Moved v.ownBlock.toList w w' → wpList Tryz.prog ops Q rest (a.put o.dst (.slice A (evs.length + 1) c)) w') : wpList Tryz.prog ops Q (o :: rest) a w := by
  obtain ⟨i83, hi, hz0, hzs, hzb⟩ := info_parts Tryz.info83
  refine wpList_append_own_at w hgd s x 45 ho B 83 i83 (.agg #[.int .u8 0, .int .i64 0]) 2 16 Tryz.underlying45 hi hz0 hzs hzb rfl (by decide) v evs.length (evV evs) hs hv ⟨b, 0, none⟩ 1 1 [.int .u8 K, .int .i64 D] hx rfl (World.news_of_block (cs := #[.int .u8 K, .int .i64 D]) hb) (by intro u hu; simp at hu; rcases hu with rfl | rfl <;> rfl) (by unfold maxLen; omega) (by omega) hB ?_
  intro v6 w6 hown6 hg6 _ _
  obtain ⟨A6, c6, rfl⟩ := own_shape' hown6
  refine h A6 c6 w6 ?_ (Moved.of_grown hg6 (by simp))
  unfold RevRow
  rw [evV_snoc, List.length_append]
  exact hown6

theorem evV_at {evs : List Ev} {k : Nat} {e : Ev} (h : evs[k]? = some e) : (evV evs)[k * 2]? = some (.int .u8 e.kind) ∧ (evV evs)[k * 2 + 1]? = some (.int .i64 e.dom) := by
  induction evs generalizing k with
  | nil => simp at h
  | cons a l ih =>
    cases k with
    | zero =>
      simp at h
      subst h
      exact ⟨rfl, rfl⟩
    | succ k =>
      have h2 := ih (by simpa using h)
      have e1 : evV (a :: l) = .int .u8 a.kind :: .int .i64 a.dom :: evV l := rfl
      rw [e1]
      have n1 : (k + 1) * 2 = k * 2 + 1 + 1 := by omega
      rw [n1]
      exact h2
/-- how an event of a row reads -/
theorem RevRow.at_ {w : World} {B : Nat} {v : Value} {evs : List Ev} (h : RevRow w B v evs) {k : Nat} {e : Ev} (hk : evs[k]? = some e) :
    ∃ g c, v = .slice (some ⟨g, 0, none⟩) evs.length c ∧ w.cell? ⟨g, k * 2, none⟩ = some (.int .u8 e.kind) ∧ w.cell? ⟨g, k * 2 + 1, none⟩ = some (.int .i64 e.dom) := by
  have hkl := (List.getElem?_eq_some_iff.1 hk).1
  obtain ⟨A, c, rfl⟩ := own_shape' h
  have hlen : (evV evs).length = evs.length * 2 := h.1
  have hq := evV_at hk
  rcases id h.2 with ⟨_, h0⟩ | ⟨g, cap, cur, e0, _⟩
  · omega
  · injection e0 with e0 _ _
    subst e0
    have hc : ∀ j, j < evs.length * 2 → w.cell? ⟨g, j, none⟩ = (evV evs)[j]? := fun j hj => by
      have := h.cellAt j hj
      exact this
    exact ⟨g, c, rfl, (hc _ (by omega)).trans hq.1, (hc _ (by omega)).trans hq.2⟩

set_option maxRecDepth 100000 in
/-- Same: rows of events that are the same -/
theorem rsame_any (u v : Value) (xs : List Ev) (b1 b2 : Nat) (w : World) (hl : xs.length ≤ 1000) (h1 : RevRow w b1 u xs) (h2 : RevRow w b2 v xs) :
    Calls Tryz.prog 13 #[u, v] w (fun e w' => e = .returned (.bool true) ∧ ∃ n, w' = w.drewN n) := by
  obtain ⟨A, c, rfl⟩ := own_shape' h1
  obtain ⟨B, d, rfl⟩ := own_shape' h2
  have H1 := Lib.hid h1
  have H2 := Lib.hid h2
  obtain ⟨n, hN⟩ : ∃ n, n = xs.length := ⟨_, rfl⟩
  rw [← hN] at hl ⊢
  have HN := Lib.hid hN
  clear h1 h2 hN
  go_enter Tryz.func13, Tryz.ntmps13
  go_wp2
  go_loopw [5] (fun i wr => ∃ k : Nat, k ≤ n ∧ i = .int .i64 k ∧ RowKit.Hid (RevRow wr b1 (.slice A n c) xs ∧ RevRow wr b2 (.slice B n d) xs ∧ ∃ m, wr = w.drewN m)) (fun i _ => n - (intOf i).toNat)
  case atStart => exact ⟨0, Nat.zero_le _, rfl, Lib.hid ⟨by rw [HN.out]; exact H1.out, by rw [HN.out]; exact H2.out, 0, rfl⟩⟩
  case round =>
    obtain ⟨k, hk, rfl, HT⟩ := hrel
    by_cases hlt : k < n
    · have hx := List.getElem?_eq_getElem (l := xs) (i := k) (by rw [← HN.out]; exact hlt)
      generalize xs[k] = x at hx
      obtain ⟨g1, c1, e1, p0, p1⟩ := HT.out.1.at_ hx
      obtain ⟨g2, c2, e2, q0, q1⟩ := HT.out.2.1.at_ hx
      injection e1 with e1 _ _
      injection e2 with e2 _ _
      subst e1 e2
      obtain ⟨K, D⟩ := x
      have p0' : wr.cell? ⟨g1, k * 2, none⟩ = some (.int .u8 K) := p0
      have p1' : wr.cell? ⟨g1, k * 2 + 1, none⟩ = some (.int .i64 D) := p1
      have q0' : wr.cell? ⟨g2, k * 2, none⟩ = some (.int .u8 K) := q0
      have q1' : wr.cell? ⟨g2, k * 2 + 1, none⟩ = some (.int .i64 D) := q1
      have i0 : (0 : Int) ≤ (k : Int) := by omega
      have i1 : (k : Int) < (n : Int) := by omega
      have eK : (K != K) = false := by simp
      clear hx p0 p1 q0 q1
      go_wp2
      go_quiet (fail)
      go_wp2
      go_roundw
      case rel => exact ⟨k + 1, hlt, by go_num, Lib.hid ⟨HT.out.1, HT.out.2.1, HT.out.2.2.elim fun m e => ⟨m + nq, by rw [e, World.drewN_drewN]⟩⟩⟩
      case measure => simp [intOf]; omega
    · have i1 : ¬ ((k : Int) < (n : Int)) := by omega
      go_wp2
      go_ret
      exact ⟨rfl, HT.out.2.2⟩
end

section
set_option linter.unusedSimpArgs false
set_option linter.unusedVariables false
open Go.RowKit Go.Maps

/-- a row of ints that the call owns -/
def OwnI (w : World) (B : Nat) (v : Value) (xs : List Int) : Prop := w.ownsRow B 3 1 v xs.length (iv xs)
theorem OwnI.at_ {w : World} {B : Nat} {v : Value} {xs : List Int} (h : OwnI w B v xs) {k : Nat} {e : Int} (hk : xs[k]? = some e) :
    ∃ g c, v = .slice (some ⟨g, 0, none⟩) xs.length c ∧ w.cell? ⟨g, k, none⟩ = some (.int .i64 e) := by
  have hkl := (List.getElem?_eq_some_iff.1 hk).1
  obtain ⟨A, c, rfl⟩ := own_shape' h
  rcases id h.2 with ⟨_, h0⟩ | ⟨g, cap, cur, e0, _⟩
  · omega
  · injection e0 with e0 _ _
    subst e0
    exact ⟨g, c, rfl, (h.cellAt k (by omega)).trans (iv_get hk)⟩

set_option maxRecDepth 100000 in
theorem same_any (u v : Value) (xs : List Int) (b1 b2 : Nat) (w : World) (hl : xs.length ≤ 1000) (h1 : OwnI w b1 u xs) (h2 : OwnI w b2 v xs) :
    Calls Tryz.prog 21 #[u, v] w (fun e w' => e = .returned (.bool true) ∧ ∃ n, w' = w.drewN n) := by
  obtain ⟨A, c, rfl⟩ := own_shape' h1
  obtain ⟨B, d, rfl⟩ := own_shape' h2
  have H1 := Lib.hid h1
  have H2 := Lib.hid h2
  obtain ⟨n, hN⟩ : ∃ n, n = xs.length := ⟨_, rfl⟩
  rw [← hN] at hl ⊢
  have HN := Lib.hid hN
  clear h1 h2 hN
  go_enter Tryz.func21, Tryz.ntmps21
  go_wp2
  go_loopw [5] (fun i wr => ∃ k : Nat, k ≤ n ∧ i = .int .i64 k ∧ RowKit.Hid (OwnI wr b1 (.slice A n c) xs ∧ OwnI wr b2 (.slice B n d) xs ∧ ∃ m, wr = w.drewN m)) (fun i _ => n - (intOf i).toNat)
  case atStart => exact ⟨0, Nat.zero_le _, rfl, Lib.hid ⟨by rw [HN.out]; exact H1.out, by rw [HN.out]; exact H2.out, 0, rfl⟩⟩
  case round =>
    obtain ⟨k, hk, rfl, HT⟩ := hrel
    by_cases hlt : k < n
    · have hx := List.getElem?_eq_getElem (l := xs) (i := k) (by rw [← HN.out]; exact hlt)
      generalize xs[k] = x at hx
      obtain ⟨g1, c1, e1, p0⟩ := HT.out.1.at_ hx
      obtain ⟨g2, c2, e2, q0⟩ := HT.out.2.1.at_ hx
      injection e1 with e1 _ _
      injection e2 with e2 _ _
      subst e1 e2
      have i0 : (0 : Int) ≤ (k : Int) := by omega
      have i1 : (k : Int) < (n : Int) := by omega
      clear hx
      go_wp2
      go_quiet (fail)
      go_wp2
      go_roundw
      case rel => exact ⟨k + 1, hlt, by go_num, Lib.hid ⟨HT.out.1, HT.out.2.1, HT.out.2.2.elim fun m e => ⟨m + nq, by rw [e, World.drewN_drewN]⟩⟩⟩
      case measure => simp [intOf]; omega
    · have i1 : ¬ ((k : Int) < (n : Int)) := by omega
      go_wp2
      go_ret
      exact ⟨rfl, HT.out.2.2⟩
end

section
set_option linter.unusedSimpArgs false
set_option linter.unusedVariables false
open Go.RowKit Go.Maps

theorem EvRow.at_ {w : World} {B : Nat} {v : Value} {evs : List Ev} (h : EvRow w B v evs) {k : Nat} {e : Ev} (hk : evs[k]? = some e) :
    ∃ g c, v = .slice (some ⟨g, 0, none⟩) evs.length c ∧ w.cell? ⟨g, k * 2, none⟩ = some (.int .u8 e.kind) ∧ w.cell? ⟨g, k * 2 + 1, none⟩ = some (.int .i64 e.dom) := by
  have hkl := (List.getElem?_eq_some_iff.1 hk).1
  obtain ⟨A, c, rfl⟩ := own_shape' h
  have hlen : (evV evs).length = evs.length * 2 := h.1
  have hq := evV_at hk
  rcases id h.2 with ⟨_, h0⟩ | ⟨g, cap, cur, e0, _⟩
  · omega
  · injection e0 with e0 _ _
    subst e0
    have hc : ∀ j, j < evs.length * 2 → w.cell? ⟨g, j, none⟩ = (evV evs)[j]? := fun j hj => h.cellAt j hj
    exact ⟨g, c, rfl, (hc _ (by omega)).trans hq.1, (hc _ (by omega)).trans hq.2⟩

set_option maxRecDepth 100000 in
set_option maxHeartbeats 2000000 in
theorem as_any (v : Value) (evs : List Ev) (b1 : Nat) (w : World) (hl : evs.length ≤ 1000) (h : EvRow w b1 v evs) :
    Calls Tryz.prog 14 #[v] w (fun e w' => ∃ u, e = .returned u ∧ RevRow w' w.heap.size u evs ∧ Below w.heap.size w w') := by
  obtain ⟨V, c, rfl⟩ := own_shape' h
  have H := Lib.hid h
  obtain ⟨n, hN⟩ : ∃ n, n = evs.length := ⟨_, rfl⟩
  rw [← hN] at hl ⊢
  have HN := Lib.hid hN
  have hmb : ∀ wr, Below w.heap.size w wr → EvRow wr b1 (.slice V evs.length c) evs := fun wr hb => EvRow.move H.out fun g hg => hb.block g (H.out.lt g hg).2
  have HMB := Lib.hid hmb
  clear h hN hmb
  go_enter Tryz.func14, Tryz.ntmps14
  go_wp2
  go_loopw [3, 4] (fun v i wr => ∃ (k : Nat) (A : Option Addr) (d : Nat), k ≤ n ∧ i = .int .i64 k ∧ v = .slice A k d ∧ RowKit.Hid (RevRow wr w.heap.size (.slice A k d) (evs.take k) ∧ Below w.heap.size w wr)) (fun _ i _ => n - (intOf i).toNat)
  case atStart => exact ⟨0, none, 0, Nat.zero_le _, rfl, rfl, Lib.hid ⟨World.ownsRow_nil _ _ _ _, Below.refl _ _⟩⟩
  case round =>
    obtain ⟨k, A, d, hk, rfl, rfl, HT⟩ := hrel
    by_cases hlt : k < n
    · have hx := List.getElem?_eq_getElem (l := evs) (i := k) (by rw [← HN.out]; exact hlt)
      have htk : evs.take (k + 1) = evs.take k ++ [evs[k]'(by rw [← HN.out]; exact hlt)] := by rw [List.take_add_one, hx]; rfl
      generalize evs[k]'(by rw [← HN.out]; exact hlt) = x at hx htk
      obtain ⟨g1, c1, e1, p0, p1⟩ := (HMB.out wr HT.out.2).at_ hx
      injection e1 with e1 _ e3
      subst e1 e3
      obtain ⟨K, D⟩ := x
      have p0' : wr.cell? ⟨g1, k * 2, none⟩ = some (.int .u8 K) := p0
      have p1' : wr.cell? ⟨g1, k * 2 + 1, none⟩ = some (.int .i64 D) := p1
      have i0 : (0 : Int) ≤ (k : Int) := by omega
      have i1 : (k : Int) < (n : Int) := by omega
      have htl : (evs.take k).length = k := by rw [List.length_take, ← HN.out]; omega
      have hown : (wr.alloc (.cells #[.int .u8 K, .int .i64 D] 83)).ownsRow w.heap.size 83 2 (.slice A k d) k (evV (evs.take k)) := by
        have := HT.out.1.moved (H := []) (Moved.alloc wr (.cells #[.int .u8 K, .int .i64 D] 83)) (by simp)
        unfold RevRow at this
        rwa [htl] at this
      have hblk : (wr.alloc (.cells #[.int .u8 K, .int .i64 D] 83)).heap[wr.heap.size]? = some (.cells #[.int .u8 K, .int .i64 D] 83 (0, 0)) := by
        show (wr.heap.push _)[wr.heap.size]? = _
        simp
      obtain ⟨i83, hi, hz0, hzs, hzb⟩ := info_parts Tryz.info83
      have hsz := HT.out.2.size
      have hmx : k ≤ 1000 := by omega
      have HOWN := Lib.hid hown
      have HBLK := Lib.hid hblk
      have HTK := Lib.hid htk
      have HTL := Lib.hid htl
      clear hx p0 p1 hown hblk htk htl
      go_wp2
      go_region_law (refine step_append_lies _ (by rfl) (.tmp 11) (.tmp 23) _ (by rfl) w.heap.size 83 i83 _ 2 16 Tryz.underlying45 hi hz0 hzs hzb rfl (by omega) (.slice A k d) k _ (by rfl) (HOWN.out.drew) ⟨wr.heap.size, 0, none⟩ 1 1 [.int .u8 K, .int .i64 D] (by rfl) (by rfl) (World.news_of_block (cs := #[.int .u8 K, .int .i64 D]) (t := 83) (fr := (0, 0)) HBLK.out) (by intro u hu; simp at hu; rcases hu with rfl | rfl <;> rfl) (by omega) (by unfold maxLen; omega) (by omega) (by simp; omega) (wr.heap.size + 1) (by simp) ?_; intro g7 cap7 w7 hown7 hg7 hat7 hlt7; have hg8 : (wr.alloc (.cells #[.int .u8 K, .int .i64 D] 83)).grownBy w7 (Value.slice A k d).ownBlock := (grown_of_below ((Below.refl (wr.alloc (.cells #[.int .u8 K, .int .i64 D] 83)).heap.size (wr.alloc (.cells #[.int .u8 K, .int .i64 D] 83))).drew) _).trans hg7; have hm7 : Moved (Value.slice A k d).ownBlock.toList wr w7 := (Moved.alloc wr _).trans (Moved.of_grown (hot := (Value.slice A k d).ownBlock.toList) (row := (Value.slice A k d).ownBlock) hg8 (by simp)))
      all_goals
        go_wp2_with fail
        go_roundw
        case measure => simp [intOf]; omega
        case rel =>
          refine ⟨k + 1, some ⟨g7, 0, none⟩, cap7, hlt, by go_num, rfl, Lib.hid ⟨?_, HT.out.2.trans (hm7.below (fun b hb => (HOWN.out.lt b (by simpa using hb)).1) hsz)⟩⟩
          unfold RevRow
          rw [HTK.out, evV_snoc, List.length_append, HTL.out]
          exact hown7
    · have hke : k = n := by omega
      subst hke
      have i1 : ¬ ((k : Int) < (k : Int)) := by omega
      go_wp2
      go_ret
      have he := HT.out.1
      rw [HN.out, List.take_length] at he
      rw [← HN.out] at he
      exact ⟨.slice A k d, rfl, (by rw [HN.out] at he ⊢; exact he), HT.out.2⟩
end

end Go.Proofs.YtlhmcpkfmnmhfaaGreat
