/- The contract of Tick. -/
import Derived.Test.YtlhmcpkfmnmhfaaZ4
namespace Go.Proofs.Ytlhmcpkfmnmhfaa
set_option linter.unusedSimpArgs false
set_option linter.unusedVariables false
open Go.RowKit Go.Maps

theorem GridIs.far {w w' : World} {gt g c : Nat} {sts : List Pst} {H : List Nat} (h : GridIs w gt g c sts) (hm : Moved H w w') (h1 : gt ∉ H) (h2 : g ∉ H) : GridIs w' gt g c sts := by
  have hl := h.lt
  refine ⟨h.ne, h.box.move hm h1, ?_⟩
  obtain ⟨vss, a, b, ho⟩ := h.row
  exact ⟨vss, a, b, own_move ho fun b hb => by
    injection hb with hb
    subst hb
    exact hm.block _ hl.2 h2⟩

def evV (evs : List Ev) : List Value := evs.flatMap fun e => [.int .u8 e.kind, .int .i64 e.dom]
theorem evV_snoc (evs : List Ev) (a b : Int) : evV (evs ++ [⟨a, b⟩]) = evV evs ++ [.int .u8 a, .int .i64 b] := by simp [evV]
/-- a row of events that the call owns -/
def EvRow (w : World) (B : Nat) (v : Value) (evs : List Ev) : Prop := w.ownsRow B 50 2 v evs.length (evV evs)
theorem EvRow.nil (w : World) (B : Nat) : EvRow w B (.slice none 0 0) [] := World.ownsRow_nil _ _ _ _
theorem EvRow.move {w w' : World} {B : Nat} {v : Value} {evs : List Ev} (h : EvRow w B v evs) (hk : ∀ g, v.ownBlock = some g → w'.heap[g]? = w.heap[g]?) : EvRow w' B v evs := own_move h hk
theorem EvRow.moved {w w' : World} {B : Nat} {v : Value} {evs : List Ev} {H : List Nat} (h : EvRow w B v evs) (hm : Moved H w w') (hH : ∀ g, g ∈ H → g < B) : EvRow w' B v evs := h.move fun g hg => by
  have hlt := h.lt g hg
  exact hm.block g hlt.2 fun hh => by have := hH g hh; omega
theorem Try.info50 : (Try.prog.info? 50).map (fun i => (i.zero, i.size, i.bytes)) = some (some (.agg #[.int .u8 0, .int .i64 0]), 2, 16) := by kernel_rfl

/-- a tick under way -/
structure TickS (w wr : World) (gt g c : Nat) (sts : List Pst) (k : Nat) (v : Value) : Prop where
  grid : GridIs wr gt g c (midT sts k)
  evs : EvRow wr w.heap.size v (evsP sts k)
  mv : Moved [g] w wr
def Ticks (w : World) (gt g c : Nat) (sts : List Pst) (e : Ending) (w' : World) : Prop :=
  ∃ v, e = .returned v ∧ EvRow w' w.heap.size v (tickE sts) ∧ GridIs w' gt g c (tickT sts) ∧ Moved [g] w w'

set_option maxRecDepth 100000 in
set_option maxHeartbeats 2000000 in
theorem tick_any (gt g c : Nat) (sts : List Pst) (w : World) (hn : sts.length ≤ 1000) (h : GridIs w gt g c sts) (hl : ∀ (k : Nat) (x : Pst), sts[k]? = some x → x.left ≤ 1000000) :
    Calls Try.prog 15 #[.pointer (some ⟨gt, 0, none⟩)] w (Ticks w gt g c sts) := by
  have H := Lib.hid h
  have HL := Lib.hid hl
  have b0 := (h.box 0 _ rfl).1
  have hlt := h.lt
  obtain ⟨n, hN⟩ : ∃ n, n = sts.length := ⟨_, rfl⟩
  rw [← hN] at b0 hn
  have HN := Lib.hid hN
  clear h hl hN
  go_enter Try.func15, Try.ntmps15
  go_wp2
  go_loopw [3, 11] (fun v i wr => ∃ (k : Nat) (A : Option Addr) (m d : Nat), k ≤ n ∧ i = .int .i64 k ∧ v = .slice A m d ∧ RowKit.Hid (TickS w wr gt g c sts k (.slice A m d))) (fun _ i _ => n - (intOf i).toNat)
  case atStart => exact ⟨0, none, 0, 0, Nat.zero_le _, rfl, rfl, Lib.hid ⟨by rw [midT_zero]; exact H.out, EvRow.nil _ _, Moved.refl _ _⟩⟩
  case round =>
    obtain ⟨k, A, m, d, hk, rfl, rfl, HT⟩ := hrel
    by_cases hlt2 : k < n
    · have hx := List.getElem?_eq_getElem (l := sts) (i := k) (by rw [← HN.out]; exact hlt2)
      generalize sts[k] = x at hx
      have HX := Lib.hid hx
      have r0 := (HT.out.grid.box 0 _ rfl).1
      rw [midT_len, ← HN.out] at r0
      have i0 : (0 : Int) ≤ (k : Int) := by omega
      have i1 : (k : Int) < (n : Int) := by omega
      clear hx
      go_wp2_with fail
      refine (pass_any gt g c (midT sts k) k x wr HT.out.grid (midT_at HX.out) (HL.out k x HX.out)).mono ?_
      rintro e w2 ⟨rfl, hg2, hm2⟩
      have hm02 := HT.out.mv.trans hm2
      rw [← midT_succ HX.out] at hg2
      have hev2 := HT.out.evs.moved hm2 (fun b hb => by simp at hb; omega)
      have hes := evsP_succ HX.out
      obtain ⟨K, hK⟩ : ∃ K, passK x = K := ⟨_, rfl⟩
      rw [hK] at hes ⊢
      have HG2 := Lib.hid hg2
      have HM2 := Lib.hid hm02
      have HEV := Lib.hid hev2
      have hz2 := hm02.size
      clear hg2 hm02 hm2 hK
      by_cases h0 : K = 0
      · subst h0
        rw [if_pos rfl, List.append_nil] at hes
        have HES := Lib.hid hes
        clear hes hev2
        go_wp2
        go_roundw
        case rel => exact ⟨k + 1, A, m, d, hlt2, by go_num, rfl, Lib.hid ⟨HG2.out, by rw [HES.out]; exact HEV.out, HM2.out⟩⟩
        case measure => simp [intOf]; omega
      · rw [if_neg h0] at hes
        have HES := Lib.hid hes
        have h0' : (K != 0) = true := by simpa using h0
        have hml : (evsP sts k).length = m := by
          obtain ⟨A', c', e⟩ := own_shape' hev2
          injection e with _ e _
          exact e.symm
        have hmk := evsP_len sts k
        rw [hml] at hmk
        have hown : (w2.alloc (.cells #[.int .u8 K, .int .i64 (k : Int)] 50)).ownsRow w.heap.size 50 2 (.slice A m d) m (evV (evsP sts k)) := by
          have := hev2.moved (H := []) (Moved.alloc w2 (.cells #[.int .u8 K, .int .i64 (k : Int)] 50)) (fun b hb => by simp at hb)
          unfold EvRow at this
          rwa [hml] at this
        have HOWN := Lib.hid hown
        have HML := Lib.hid hml
        obtain ⟨i50, hi, hz0, hzs, hzb⟩ := info_parts Try.info50
        clear hes h0 hml hown hev2
        go_wp2_with (at_builtin; refine wpList_append_own_at _ rfl _ _ 41 rfl w.heap.size 50 i50 (.agg #[.int .u8 0, .int .i64 0]) 2 16 Try.underlying41 hi hz0 hzs hzb rfl (by decide) _ _ _ rfl HOWN.out ⟨w2.heap.size, 0, none⟩ 1 1 [.int .u8 K, .int .i64 (k : Int)] rfl rfl (cells_new w2 w2.heap.size rfl _ 50) (by intro u hu; simp at hu; rcases hu with rfl | rfl <;> rfl) (by unfold maxLen; omega) (by omega) (by simp; omega) ?_; intro v6 w6 hown6 hg6 _ hob6; obtain ⟨A6, c6, rfl⟩ := own_shape' hown6; have hmg : Moved (Value.slice A m d).ownBlock.toList w2 w6 := (Moved.alloc w2 _).trans (Moved.of_grown (hot := (Value.slice A m d).ownBlock.toList) (row := (Value.slice A m d).ownBlock) hg6 (by simp)); have HOWN6 := Lib.hid hown6; have HMG := Lib.hid hmg; clear hown6 hg6 hob6 hmg)
        have hbl : ∀ b, b ∈ (Value.slice A m d).ownBlock.toList → w.heap.size ≤ b := fun b hb => (HOWN.out.lt b (by simpa using hb)).1
        have HBL := Lib.hid hbl
        clear hbl
        go_roundw
        case rel =>
          refine ⟨k + 1, A6, m + 1, c6, hlt2, by go_num, rfl, Lib.hid ⟨HG2.out.far HMG.out ?_ ?_, ?_, HM2.out.trans' HMG.out fun b hb => .inr (HBL.out b hb)⟩⟩
          · intro hb; have := HBL.out _ hb; omega
          · intro hb; have := HBL.out _ hb; omega
          · unfold EvRow
            rw [HES.out, evV_snoc, List.length_append, HML.out]
            exact HOWN6.out
        case measure => simp [intOf]; omega
    · have hke : k = n := by omega
      subst hke
      have i1 : ¬ ((k : Int) < (k : Int)) := by omega
      go_wp2
      go_ret
      have hg := HT.out.grid
      have he := HT.out.evs
      rw [HN.out] at hg he
      rw [midT_end] at hg
      exact ⟨_, rfl, he, hg, HT.out.mv⟩

end Go.Proofs.Ytlhmcpkfmnmhfaa
