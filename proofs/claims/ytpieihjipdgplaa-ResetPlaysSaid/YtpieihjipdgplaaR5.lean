/- The contracts of Tick and New. -/
import Derived.Test.YtpieihjipdgplaaR4
import Derived.Test.YtpieihjipdgplaaW13
import Derived.Deep.AppendLies
namespace Go.Proofs.Ytpieihjipdgplaa
set_option linter.unusedSimpArgs false
set_option linter.unusedVariables false
open Go.RowKit Go.Maps

/-- a row of ints that the call owns -/
def OwnI (w : World) (B : Nat) (v : Value) (xs : List Int) : Prop := w.ownsRow B 3 1 v xs.length (iv xs)
theorem OwnI.nil (w : World) (B : Nat) : OwnI w B (.slice none 0 0) [] := World.ownsRow_nil _ _ _ _
theorem OwnI.moved {w w' : World} {B : Nat} {v : Value} {xs : List Int} {H : List Nat} (h : OwnI w B v xs) (hm : Moved H w w') (hH : ∀ g, g ∈ H → g < B) : OwnI w' B v xs := own_move h fun g hg => by
  have hlt := h.lt g hg
  exact hm.block g hlt.2 fun hh => by have := hH g hh; omega
theorem OwnI.ints {w : World} {B : Nat} {A : Option Addr} {n c : Nat} {xs : List Int} (h : OwnI w B (.slice A n c) xs) : n = xs.length ∧ IntsAt w w.heap.size A xs := by
  obtain ⟨A', c', e⟩ := own_shape' h
  injection e with e1 e2 e3
  subst e2
  exact ⟨rfl, IntsAt.of_own h⟩

/-- a tick under way -/
structure TickS (w wr : World) (b bl bh : Nat) (xs : List Ln) (k : Nat) (v : Value) : Prop where
  lines : LinesIs wr b bl bh (partT xs k)
  told : OwnI wr w.heap.size v (goesP xs k)
  mv : Moved [bh] w wr
def Ticks (w : World) (b bl bh : Nat) (xs : List Ln) (e : Ending) (w' : World) : Prop :=
  ∃ v, e = .returned v ∧ OwnI w' w.heap.size v (tickE xs) ∧ LinesIs w' b bl bh (tickT xs) ∧ Moved [bh] w w'
theorem Idle.part {xs : List Ln} (h : Idle xs) (k : Nat) : Idle (partT xs k) := by
  intro m y hy hh
  unfold partT at hy
  have hm : y ∈ (xs.take k).map passL ++ xs.drop k := List.mem_of_getElem? hy
  rcases List.mem_append.1 hm with hm | hm
  · obtain ⟨x, hx, rfl⟩ := List.mem_map.1 hm
    obtain ⟨q, hq, e⟩ := List.mem_iff_getElem.1 (List.mem_of_mem_take hx)
    have := h q x (by rw [List.getElem?_eq_getElem hq, e])
    revert hh
    unfold passL
    split
    · split
      · intro hh; cases hh
      · split
        · intro _; exact ⟨rfl, rfl⟩
        · intro hh; exact this hh
    · intro hh; exact this hh
  · obtain ⟨q, hq, e⟩ := List.mem_iff_getElem.1 (List.mem_of_mem_drop hm)
    exact h q y (by rw [List.getElem?_eq_getElem hq, e]) hh

set_option maxRecDepth 100000 in
set_option maxHeartbeats 2000000 in
theorem tick_any (b bl bh : Nat) (xs : List Ln) (w : World) (hn : xs.length ≤ 1000) (hid : Idle xs) (hl : ∀ (k : Nat) (x : Ln), xs[k]? = some x → 0 ≤ x.left ∧ x.left ≤ 20) (h : LinesIs w b bl bh xs) :
    Calls Try.prog 19 #[.pointer (some ⟨b, 0, none⟩)] w (Ticks w b bl bh xs) := by
  have H := Lib.hid h
  have HL := Lib.hid hl
  have HI := Lib.hid hid
  have b0 := (h.box 0 _ rfl).1
  have hlt := h.lt
  obtain ⟨D, ho, hd⟩ := h.least
  have hsz := hd.size
  rw [List.length_map] at hsz
  obtain ⟨n, hN⟩ : ∃ n, n = xs.length := ⟨_, rfl⟩
  rw [← hN] at hn hsz
  have HN := Lib.hid hN
  have HO := Lib.hid ho
  have HSZ := Lib.hid hsz
  clear h hl hN hid ho hsz hd
  go_enter Try.func19, Try.ntmps19
  go_wp2_with (at_len; refine wpList_len_own _ rfl _ 54 rfl 3 3 Try.underlying54 _ bl _ D rfl HO.out ?_; rw [HSZ.out])
  go_loopw [3, 10] (fun v i wr => ∃ (k : Nat) (A : Option Addr) (m d : Nat), k ≤ n ∧ i = .int .i64 k ∧ v = .slice A m d ∧ RowKit.Hid (TickS w wr b bl bh xs k (.slice A m d))) (fun _ i _ => n - (intOf i).toNat)
  case atStart => exact ⟨0, none, 0, 0, Nat.zero_le _, rfl, rfl, Lib.hid ⟨by rw [partT_zero]; exact H.out, OwnI.nil _ _, Moved.refl _ _⟩⟩
  case round =>
    obtain ⟨k, A, m, d, hk, rfl, rfl, HT⟩ := hrel
    by_cases hlt2 : k < n
    · have hx := List.getElem?_eq_getElem (l := xs) (i := k) (by rw [← HN.out]; exact hlt2)
      generalize xs[k] = x at hx
      have HX := Lib.hid hx
      have i0 : (0 : Int) ≤ (k : Int) := by omega
      have i1 : (k : Int) < (n : Int) := by omega
      clear hx
      go_wp2_with fail
      refine (pass_any b bl bh (partT xs k) k x wr (by rw [partT_len, ← HN.out]; exact hn) (partT_at HX.out) (HL.out k x HX.out) (HI.out.part k) HT.out.lines).mono ?_
      rintro e w2 ⟨rfl, hg2, hm2⟩
      have hm02 := HT.out.mv.trans hm2
      rw [← partT_succ HX.out] at hg2
      have hev2 := HT.out.told.moved hm2 (fun b hb => by simp at hb; omega)
      have hes := goesP_succ HX.out
      obtain ⟨K, hK⟩ : ∃ K, goB x = K := ⟨_, rfl⟩
      rw [hK] at hes ⊢
      have HG2 := Lib.hid hg2
      have HM2 := Lib.hid hm02
      have HEV := Lib.hid hev2
      have hz2 := hm02.size
      clear hg2 hm02 hm2 hK
      cases K with
      | false =>
        simp only [Bool.false_eq_true, if_false, List.append_nil] at hes
        have HES := Lib.hid hes
        clear hes hev2
        go_wp2
        go_roundw
        case rel => exact ⟨k + 1, A, m, d, hlt2, by go_num, rfl, Lib.hid ⟨HG2.out, by rw [HES.out]; exact HEV.out, HM2.out⟩⟩
        case measure => simp [intOf]; omega
      | true =>
        simp only [if_true] at hes
        have HES := Lib.hid hes
        have hml : (goesP xs k).length = m := (OwnI.ints hev2).1.symm
        have hmk := goesP_len xs k
        rw [hml] at hmk
        have hown : (w2.alloc (.cells #[.int .i64 (k : Int)] 3)).ownsRow w.heap.size 3 1 (.slice A m d) m (iv (goesP xs k)) := by
          have := hev2.moved (H := []) (Moved.alloc w2 (.cells #[.int .i64 (k : Int)] 3)) (fun b hb => by simp at hb)
          unfold OwnI at this
          rwa [hml] at this
        have HOWN := Lib.hid hown
        have HML := Lib.hid hml
        obtain ⟨i3, hi, hz0, hzs, hzb⟩ := info_parts Try.info3
        clear hes hml hown hev2
        go_wp2_with (at_builtin; refine wpList_append_own_at _ rfl _ _ 22 rfl w.heap.size 3 i3 (.int .i64 0) 1 8 Try.underlying22 hi hz0 hzs hzb rfl (by decide) _ _ _ rfl HOWN.out ⟨w2.heap.size, 0, none⟩ 1 1 [.int .i64 (k : Int)] rfl rfl (cells_new w2 w2.heap.size rfl _ 3) (by intro u hu; simp at hu; rcases hu with rfl; rfl) (by unfold maxLen; omega) (by omega) (by simp; omega) ?_; intro v6 w6 hown6 hg6 _ hob6; obtain ⟨A6, c6, rfl⟩ := own_shape' hown6; have hmg : Moved (Value.slice A m d).ownBlock.toList w2 w6 := (Moved.alloc w2 _).trans (Moved.of_grown (hot := (Value.slice A m d).ownBlock.toList) (row := (Value.slice A m d).ownBlock) hg6 (by simp)); have HOWN6 := Lib.hid hown6; have HMG := Lib.hid hmg; clear hown6 hg6 hob6 hmg)
        have hbl : ∀ b, b ∈ (Value.slice A m d).ownBlock.toList → w.heap.size ≤ b := fun b hb => (HOWN.out.lt b (by simpa using hb)).1
        have HBL := Lib.hid hbl
        clear hbl
        go_roundw
        case rel =>
          refine ⟨k + 1, A6, m + 1, c6, hlt2, by go_num, rfl, Lib.hid ⟨HG2.out.far HMG.out ?_ ?_ ?_, ?_, HM2.out.trans' HMG.out fun b hb => .inr (HBL.out b hb)⟩⟩
          · intro hb; have := HBL.out _ hb; omega
          · intro hb; have := HBL.out _ hb; omega
          · intro hb; have := HBL.out _ hb; omega
          · unfold OwnI
            rw [HES.out, iv_snoc, List.length_append, HML.out]
            exact HOWN6.out
        case measure => simp [intOf]; omega
    · have hke : k = n := by omega
      subst hke
      have i1 : ¬ ((k : Int) < (k : Int)) := by omega
      go_wp2
      go_ret
      have hg := HT.out.lines
      have he := HT.out.told
      rw [HN.out] at hg he
      rw [partT_all] at hg
      exact ⟨_, rfl, he, hg, HT.out.mv⟩

/-- the box of a description stands -/
def Bx (w : World) (vs : List Value) (W : World) : Prop := Below (w.heap.size + 1) (w.alloc (.cells vs.toArray 30)) W
namespace Bx
variable {w W W' : World} {vs : List Value}
theorem start (w : World) (vs : List Value) : Bx w vs (w.alloc (.cells vs.toArray 30)) := Below.refl _ _
theorem box (h : Bx w vs W) : ∀ j u, vs[j]? = some u → W.cell? ⟨w.heap.size, j, none⟩ = some u := fun j u hj =>
  (Below.cell h (p := ⟨w.heap.size, j, none⟩) (by show w.heap.size < w.heap.size + 1; omega)).trans ((BoxAt.new w vs 30) j u hj).1
theorem low (h : Bx w vs W) : Below w.heap.size w W := ((Below.refl w.heap.size w).alloc (Nat.le_refl _) (.cells vs.toArray 30)).trans (Below.mono h (Nat.le_succ _))
theorem size (h : Bx w vs W) : w.heap.size + 1 ≤ W.heap.size := by
  have := Below.size h
  simpa using this
theorem chip {s : Chip} (h : Bx w vs W) (hx : ChipV w w.heap.size s vs) : ChipV W W.heap.size s vs := Steady.later hx h.low
theorem step (h : Bx w vs W) (hb : Below W.heap.size W W') : Bx w vs W' := Below.trans h (hb.mono h.size)
theorem moved (h : Bx w vs W) (hm : Moved [] W W') : Bx w vs W' := Below.trans h (hm.below (by simp) h.size)
end Bx

theorem lines_new (W : World) : LinesIs (((W.alloc (.map #[] 0)).alloc (.map #[] 0)).alloc (.cells #[.map (some W.heap.size), .map (some (W.heap.size + 1))] 57)) (W.heap.size + 1 + 1) W.heap.size (W.heap.size + 1) [] := by
  have hz1 : (W.alloc (.map #[] 0)).heap.size = W.heap.size + 1 := World.size_alloc _ _
  have hz2 : ((W.alloc (.map #[] 0)).alloc (.map #[] 0)).heap.size = W.heap.size + 1 + 1 := by rw [World.size_alloc, hz1]
  refine ⟨by omega, by omega, by omega, ?_, ⟨.map [], ?_, LeastD.nil⟩, ⟨.map [], ?_, HeldD.nil⟩⟩
  · have := BoxAt.new ((W.alloc (.map #[] 0)).alloc (.map #[] 0)) [.map (some W.heap.size), .map (some (W.heap.size + 1))] 57
    rwa [hz2] at this
  · exact ((World.ownsMap_made W _ _ _).alloc _).alloc _
  · have := (World.ownsMap_made (W.alloc (.map #[] 0)) Try.prog 3 holdR).alloc (.cells #[.map (some W.heap.size), .map (some (W.heap.size + 1))] 57)
    rwa [hz1] at this
theorem LinesIs.push {w : World} {b bl bh : Nat} {xs : List Ln} (h : LinesIs w b bl bh xs) (hn : xs.length ≤ 1000) (x : Int) (hx : 0 ≤ x ∧ x ≤ 20) :
    ∃ w1, (Instr.mapUpdate 54 (.map (some bl)) (.int .i64 (xs.length : Int)) (.int .i64 x)).run Try.prog w = .ok () w1 ∧ Moved [bl] w w1 ∧ BoxAt w1 b [.map (some bl), .map (some bh)] ∧
      ∃ w2, (Instr.mapUpdate 55 (.map (some bh)) (.int .i64 (xs.length : Int)) (.agg #[.int .i64 0, .bool false])).run Try.prog w1 = .ok () w2 ∧ LinesIs w2 b bl bh (xs ++ [newL ⟨x⟩]) ∧ Moved [bl, bh] w w2 := by
  have hlt := h.lt
  have hk : wfI (xs.length : Int) := by unfold wfI; omega
  obtain ⟨D, o1, d1⟩ := h.least
  obtain ⟨E, o2, d2⟩ := h.held
  obtain ⟨w1, hrun1, ho1, ht1⟩ := o1.store key3 Try.underlying54 (by unfold maxLen; omega) (keyI hk) (plainElem_int (H := Unit) Try.underlying3 (a := x) (WalkArith.wf_i64 (by omega)))
  have hm1 : Moved [bl] w w1 := Moved.of_grown ht1.grown (by simp)
  have hb1 : BoxAt w1 b [.map (some bl), .map (some bh)] := h.box.move hm1 (by simpa using Ne.symm h.ne1)
  have o2' : w1.ownsMap Try.prog 3 holdR bh xs.length E := own_blk o2 (hm1.block _ hlt.2.2 (by simpa using h.ne3))
  obtain ⟨w2, hrun2, ho2, ht2⟩ := o2'.store key3 Try.underlying55 (by unfold maxLen; omega) (keyI hk) (holdR_mk 0 false)
  have hm2 := turned_moved ht2
  have hz1 := hm1.size
  refine ⟨w1, hrun1, hm1, hb1, w2, hrun2, ⟨h.ne1, h.ne2, h.ne3, hb1.move hm2 (by simpa using Ne.symm h.ne2), ?_, ?_⟩, (hm1.mono (by simp)).trans (hm2.mono (by simp))⟩
  · have hp := d1.push (o1.tidy key3) x
    rw [List.length_map] at hp
    refine ⟨_, own_blk (own_tight ho1 ?_) (hm2.block _ (by omega) (by simpa using Ne.symm h.ne3)), by rw [List.map_append]; exact hp⟩
    rw [hp.size]; simp
  · have hp := d2.push (o2.tidy key3) (newL ⟨x⟩) rfl
    refine ⟨_, own_tight ho2 ?_, hp⟩
    exact Nat.le_trans (Nat.le_of_eq hp.size) (count_le (xs ++ [newL ⟨x⟩]))

end Go.Proofs.Ytpieihjipdgplaa
