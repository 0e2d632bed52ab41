/- The document's own grid: Tick. -/
import Derived.Test.YtlhmcpkfmnmhfaaGreatYB
namespace Go.Proofs.YtlhmcpkfmnmhfaaGreat
set_option linter.unusedSimpArgs false
set_option linter.unusedVariables false
open Go.RowKit Go.Maps

/-- a tick of the document's grid, under way -/
structure TickR (w wr : World) (gr gd gs cd cs : Nat) (sts : List Pst) (k : Nat) (v : Value) : Prop where
  grid : RefIs wr gr gd gs cd cs (midT sts k)
  evs : RevRow wr w.heap.size v (evsP sts k)
  mv : Moved [gs] w wr
def RTicks (w : World) (gr gd gs cd cs : Nat) (sts : List Pst) (e : Ending) (w' : World) : Prop :=
  ∃ v, e = .returned v ∧ RevRow w' w.heap.size v (tickE sts) ∧ RefIs w' gr gd gs cd cs (tickT sts) ∧ Moved [gs] w w'

theorem RefIs.store3 {w : World} {gr gd gs cd cs : Nat} {sts : List Pst} (h : RefIs w gr gd gs cd cs sts) {k : Nat} {x x' : Pst} (hx : sts[k]? = some x) (hd : x'.dom = x.dom) :
    RefIs (((w.setCell ⟨gs, k * 3, none⟩ (.int .u8 x'.phase)).setCell ⟨gs, k * 3 + 1, none⟩ (.int .i64 x'.left)).setCell ⟨gs, k * 3 + 2, none⟩ (.bool x'.keep)) gr gd gs cd cs (sts.set k x') := by
  have hlt := (List.getElem?_eq_some_iff.1 hx).1
  obtain ⟨dm, p, l, kp⟩ := x
  obtain ⟨dm', p', l', kp'⟩ := x'
  simp only at hd
  subst hd
  have s1 := h.set (j := 0) (u := .int .u8 p') (x' := ⟨dm', p', l, kp⟩) hx (by omega) rfl rfl
  have s2 := s1.set (k := k) (j := 1) (u := .int .i64 l') (x := ⟨dm', p', l, kp⟩) (x' := ⟨dm', p', l', kp⟩) (List.getElem?_set_self hlt) (by omega) rfl rfl
  have s3 := s2.set (k := k) (j := 2) (u := .bool kp') (x := ⟨dm', p', l', kp⟩) (x' := ⟨dm', p', l', kp'⟩) (by rw [List.set_set]; exact List.getElem?_set_self hlt) (by omega) rfl rfl
  rw [List.set_set, List.set_set] at s3
  exact s3
/-- a round of the tick done -/
theorem TickR.next {w W W' : World} {gr gd gs cd cs : Nat} {sts : List Pst} {k : Nat} {v : Value} {x x' : Pst} (hx : sts[k]? = some x) (hp : passT x = x') (hg : RefIs W gr gd gs cd cs (midT sts k)) (hgs : gs < w.heap.size)
    (he : RevRow W w.heap.size v (evsP sts (k + 1))) (hm : Moved [gs] w W)
    (hW : Moved [] (((W.setCell ⟨gs, k * 3, none⟩ (.int .u8 x'.phase)).setCell ⟨gs, k * 3 + 1, none⟩ (.int .i64 x'.left)).setCell ⟨gs, k * 3 + 2, none⟩ (.bool x'.keep)) W') : TickR w W' gr gd gs cd cs sts (k + 1) v := by
  have hmv : Moved [gs] W (((W.setCell ⟨gs, k * 3, none⟩ (.int .u8 x'.phase)).setCell ⟨gs, k * 3 + 1, none⟩ (.int .i64 x'.left)).setCell ⟨gs, k * 3 + 2, none⟩ (.bool x'.keep)) := ((Moved.setCell (hot := [gs]) W (p := ⟨gs, k * 3, none⟩) (by simp) _).trans (Moved.setCell (hot := [gs]) _ (p := ⟨gs, k * 3 + 1, none⟩) (by simp) _)).trans (Moved.setCell (hot := [gs]) _ (p := ⟨gs, k * 3 + 2, none⟩) (by simp) _)
  refine ⟨?_, (he.moved hmv (by simpa using hgs)).moved hW (by simp), (hm.trans hmv).trans' hW (by simp)⟩
  have hd : x'.dom = x.dom := by rw [← hp]; exact passT_dom x
  have := (hg.store3 (midT_at hx) hd).move hW
  rwa [midT_succ hx, hp]

theorem Y5_heap (w : World) (o : Obj) : (w.alloc o).heap[w.heap.size]? = some o := by
  show (w.heap.push o)[w.heap.size]? = some o
  simp
set_option maxRecDepth 100000 in
set_option maxHeartbeats 4000000 in
theorem rtick_any (gr gd gs cd cs : Nat) (sts : List Pst) (w : World) (hn : sts.length ≤ 1000) (h : RefIs w gr gd gs cd cs sts) (hl : ∀ (k : Nat) (x : Pst), sts[k]? = some x → x.left ≤ 1000000) :
    Calls Tryz.prog 16 #[.pointer (some ⟨gr, 0, none⟩)] w (RTicks w gr gd gs cd cs sts) := by
  have H := Lib.hid h
  have HL := Lib.hid hl
  have b1 := (h.box 1 _ rfl).1
  have hlt := h.lts
  obtain ⟨n, hN⟩ : ∃ n, n = sts.length := ⟨_, rfl⟩
  rw [← hN] at b1 hn
  have HN := Lib.hid hN
  clear h hl hN
  go_enter Tryz.func16, Tryz.ntmps16
  go_wp2
  go_loopw [3, 4] (fun v i wr => ∃ (k : Nat) (A : Option Addr) (m d : Nat), k ≤ n ∧ i = .int .i64 k ∧ v = .slice A m d ∧ RowKit.Hid (TickR w wr gr gd gs cd cs sts k (.slice A m d))) (fun _ i _ => n - (intOf i).toNat)
  case atStart => exact ⟨0, none, 0, 0, Nat.zero_le _, rfl, rfl, Lib.hid ⟨by rw [midT_zero]; exact H.out, World.ownsRow_nil _ _ _ _, Moved.refl _ _⟩⟩
  case round =>
    obtain ⟨k, A, m, d, hk, rfl, rfl, HT⟩ := hrel
    have r1 := (HT.out.grid.box 1 _ rfl).1
    rw [midT_len, ← HN.out] at r1
    by_cases hlt2 : k < n
    · have hx := List.getElem?_eq_getElem (l := sts) (i := k) (by rw [← HN.out]; exact hlt2)
      generalize sts[k] = x at hx
      have HX := Lib.hid hx
      have i0 : (0 : Int) ≤ (k : Int) := by omega
      have i1 : (k : Int) < (n : Int) := by omega
      have hat := HT.out.grid.at_ (midT_at HX.out)
      have v0 : wr.cell? ⟨gs, k * 3, none⟩ = some (.int .u8 x.phase) := (hat 0 _ rfl).1
      have v1 : wr.cell? ⟨gs, k * 3 + 1, none⟩ = some (.int .i64 x.left) := (hat 1 _ rfl).1
      have v2 : wr.cell? ⟨gs, k * 3 + 2, none⟩ = some (.bool x.keep) := (hat 2 _ rfl).1
      have hes := evsP_succ HX.out
      have HES := Lib.hid hes
      have hll := HL.out k x HX.out
      obtain ⟨dm, p, l, kp⟩ := x
      simp only at v0 v1 v2 hll
      clear hx hes hat b1
      have hbl : ∀ b, b ∈ (Value.slice A m d).ownBlock.toList → w.heap.size ≤ b ∧ b < wr.heap.size := fun b hb => HT.out.evs.lt b (by simpa using hb)
      have hfar : ∀ (P L K E : Value) (w6 : World), Moved (Value.slice A m d).ownBlock.toList ((wr.alloc (.cells #[P, L, K] 80)).alloc (.cells #[E, .int .i64 k] 83)) w6 → RefIs w6 gr gd gs cd cs (midT sts k) ∧ BoxAt w6 wr.heap.size [P, L, K] ∧ Moved [gs] w w6 := fun P L K E w6 hm6 => by
        have hm0 : Moved (Value.slice A m d).ownBlock.toList wr w6 := ((Moved.alloc wr _).trans (Moved.alloc _ _)).trans hm6
        refine ⟨HT.out.grid.far hm0 ?_ ?_ ?_, ((BoxAt.new wr [P, L, K] 80).move (Moved.alloc (hot := []) _ _) (by simp)).move hm6 ?_, HT.out.mv.trans' hm0 fun b hb => .inr (hbl b hb).1⟩
        · intro hb; have := hbl _ hb; omega
        · intro hb; have := hbl _ hb; omega
        · intro hb; have := hbl _ hb; omega
        · intro hb; have := hbl _ hb; omega
      have hrv : ∀ (P L K E : Value), RevRow ((wr.alloc (.cells #[P, L, K] 80)).alloc (.cells #[E, .int .i64 k] 83)) w.heap.size (.slice A m d) (evsP sts k) := fun P L K E => (HT.out.evs.moved (H := []) (Moved.alloc wr _) (by simp)).moved (H := []) (Moved.alloc _ _) (by simp)
      have hnw : ∀ (P L K E : Value), ((wr.alloc (.cells #[P, L, K] 80)).alloc (.cells #[E, .int .i64 k] 83)).heap[wr.heap.size + 1]? = some (.cells #[E, .int .i64 k] 83 (0, 0)) := fun P L K E => by
        have := Y5_heap (wr.alloc (.cells #[P, L, K] 80)) (.cells #[E, .int .i64 k] 83)
        simpa using this
      have hel : (evsP sts k).length ≤ 1000 := Nat.le_trans (evsP_len sts k) (by omega)
      have hszm := HT.out.mv.size
      have HFAR := Lib.hid hfar
      have HRV := Lib.hid hrv
      have HNW := Lib.hid hnw
      have hwr : ∀ (P L K : Value), RefIs (wr.alloc (.cells #[P, L, K] 80)) gr gd gs cd cs (midT sts k) ∧ RevRow (wr.alloc (.cells #[P, L, K] 80)) w.heap.size (.slice A m d) (evsP sts k) ∧ Moved [gs] w (wr.alloc (.cells #[P, L, K] 80)) := fun P L K => ⟨HT.out.grid.move (Moved.alloc _ _), HT.out.evs.moved (H := []) (Moved.alloc wr _) (by simp), HT.out.mv.trans (Moved.alloc _ _)⟩
      have HWR := Lib.hid hwr
      clear hbl hfar hrv hnw hwr
      have f0 : wr.frozen? ⟨gs, k * 3, none⟩ = false := (HT.out.grid.at_ (midT_at HX.out) 0 _ rfl).2
      have f1 : wr.frozen? ⟨gs, k * 3 + 1, none⟩ = false := (HT.out.grid.at_ (midT_at HX.out) 1 _ rfl).2
      have f2 : wr.frozen? ⟨gs, k * 3 + 2, none⟩ = false := (HT.out.grid.at_ (midT_at HX.out) 2 _ rfl).2
      by_cases hp : p = 114
      · subst hp
        by_cases hl0 : 0 < l
        · have hl1 : -1000000 < l := by omega
          have HP := Lib.hid (show passT ⟨dm, 114, l, kp⟩ = (⟨dm, 114, l - 1, kp⟩ : Pst) from (by simp [passT, hl0]))
          have HKK := Lib.hid (show passK ⟨dm, 114, l, kp⟩ = 0 from (by simp [passK, hl0]))
          go_wp2
          have h6a := (HWR.out (.int .u8 (114)) (.int .i64 (l - 1)) (.bool kp)).1
          have h6b : BoxAt (wr.alloc (.cells #[.int .u8 114, .int .i64 (l - 1), .bool kp] 80)) wr.heap.size [.int .u8 (114), .int .i64 (l - 1), .bool kp] := BoxAt.new wr [.int .u8 (114), .int .i64 (l - 1), .bool kp] 80
          have z0 : (wr.alloc (.cells #[.int .u8 114, .int .i64 (l - 1), .bool kp] 80)).cell? ⟨wr.heap.size, 0, none⟩ = some _ := (h6b 0 _ rfl).1
          have z1 : (wr.alloc (.cells #[.int .u8 114, .int .i64 (l - 1), .bool kp] 80)).cell? ⟨wr.heap.size, 1, none⟩ = some _ := (h6b 1 _ rfl).1
          have z2 : (wr.alloc (.cells #[.int .u8 114, .int .i64 (l - 1), .bool kp] 80)).cell? ⟨wr.heap.size, 2, none⟩ = some _ := (h6b 2 _ rfl).1
          have q1 : (wr.alloc (.cells #[.int .u8 114, .int .i64 (l - 1), .bool kp] 80)).cell? ⟨gr, 1, none⟩ = some (.slice (some ⟨gs, 0, none⟩) n cs) := by { have := (h6a.box 1 _ rfl).1; rwa [midT_len, ← HN.out] at this }
          have o0 : (wr.alloc (.cells #[.int .u8 114, .int .i64 (l - 1), .bool kp] 80)).cell? ⟨gs, k * 3, none⟩ = some _ := (h6a.at_ (midT_at HX.out) 0 _ rfl).1
          have o1 : (wr.alloc (.cells #[.int .u8 114, .int .i64 (l - 1), .bool kp] 80)).cell? ⟨gs, k * 3 + 1, none⟩ = some _ := (h6a.at_ (midT_at HX.out) 1 _ rfl).1
          have o2 : (wr.alloc (.cells #[.int .u8 114, .int .i64 (l - 1), .bool kp] 80)).cell? ⟨gs, k * 3 + 2, none⟩ = some _ := (h6a.at_ (midT_at HX.out) 2 _ rfl).1
          have g0 : (wr.alloc (.cells #[.int .u8 114, .int .i64 (l - 1), .bool kp] 80)).frozen? ⟨gs, k * 3, none⟩ = false := (h6a.at_ (midT_at HX.out) 0 _ rfl).2
          have g1 : (wr.alloc (.cells #[.int .u8 114, .int .i64 (l - 1), .bool kp] 80)).frozen? ⟨gs, k * 3 + 1, none⟩ = false := (h6a.at_ (midT_at HX.out) 1 _ rfl).2
          have g2 : (wr.alloc (.cells #[.int .u8 114, .int .i64 (l - 1), .bool kp] 80)).frozen? ⟨gs, k * 3 + 2, none⟩ = false := (h6a.at_ (midT_at HX.out) 2 _ rfl).2
          clear h6a h6b
          go_region
          all_goals
            go_wp2
            go_roundw
            case rel => exact ⟨k + 1, A, m, d, hlt2, by go_num, rfl, Lib.hid (TickR.next HX.out HP.out (HWR.out _ _ _).1 hlt.2.2 (by rw [HES.out, HKK.out]; simpa using (HWR.out _ _ _).2.1) (HWR.out _ _ _).2.2 ⟨rfl, rfl, rfl, Nat.le_refl _, fun _ _ _ => rfl⟩)⟩
            case measure => simp [intOf]; omega
        · cases kp with
          | true =>
            have HP := Lib.hid (show passT ⟨dm, 114, l, true⟩ = (⟨dm, 104, l, true⟩ : Pst) from (by simp [passT, hl0]))
            have HKK := Lib.hid (show passK ⟨dm, 114, l, true⟩ = 114 from (by simp [passK, hl0]))
            go_wp2_with (at_builtin; refine wpList_rev rfl _ _ rfl w.heap.size (.slice A m d) (evsP sts k) rfl (HRV.out _ _ _ _) 114 (k : Int) (wr.heap.size + 1) rfl (HNW.out _ _ _ _) hel (by simp; omega) ?_; intro A6 c6 w6 hr6 hm6; obtain ⟨h6a, h6b, h6c⟩ := HFAR.out _ _ _ _ w6 hm6; have z0 := (h6b 0 _ rfl).1; have z1 := (h6b 1 _ rfl).1; have z2 := (h6b 2 _ rfl).1; have q1 : w6.cell? ⟨gr, 1, none⟩ = some (.slice (some ⟨gs, 0, none⟩) n cs) := by { have := (h6a.box 1 _ rfl).1; rwa [midT_len, ← HN.out] at this }; have g0 : w6.frozen? ⟨gs, k * 3, none⟩ = false := (h6a.at_ (midT_at HX.out) 0 _ rfl).2; have g1 : w6.frozen? ⟨gs, k * 3 + 1, none⟩ = false := (h6a.at_ (midT_at HX.out) 1 _ rfl).2; have g2 : w6.frozen? ⟨gs, k * 3 + 2, none⟩ = false := (h6a.at_ (midT_at HX.out) 2 _ rfl).2; have o0 : w6.cell? ⟨gs, k * 3, none⟩ = some _ := (h6a.at_ (midT_at HX.out) 0 _ rfl).1; have o1 : w6.cell? ⟨gs, k * 3 + 1, none⟩ = some _ := (h6a.at_ (midT_at HX.out) 1 _ rfl).1; have o2 : w6.cell? ⟨gs, k * 3 + 2, none⟩ = some _ := (h6a.at_ (midT_at HX.out) 2 _ rfl).1; have H6A := Lib.hid h6a; have H6C := Lib.hid h6c; have HR6 := Lib.hid hr6; clear h6a h6b h6c hr6 hm6)
            go_region
            all_goals
              go_wp2
              go_roundw
              case rel => exact ⟨k + 1, A6, (evsP sts k).length + 1, c6, hlt2, by go_num, rfl, Lib.hid (TickR.next HX.out HP.out H6A.out hlt.2.2 (by rw [HES.out, HKK.out]; simpa using HR6.out) H6C.out ⟨rfl, rfl, rfl, Nat.le_refl _, fun _ _ _ => rfl⟩)⟩
              case measure => simp [intOf]; omega
          | false =>
            have HP := Lib.hid (show passT ⟨dm, 114, l, false⟩ = (⟨dm, 104, l, false⟩ : Pst) from (by simp [passT, hl0]))
            have HKK := Lib.hid (show passK ⟨dm, 114, l, false⟩ = 110 from (by simp [passK, hl0]))
            go_wp2_with (at_builtin; refine wpList_rev rfl _ _ rfl w.heap.size (.slice A m d) (evsP sts k) rfl (HRV.out _ _ _ _) 110 (k : Int) (wr.heap.size + 1) rfl (HNW.out _ _ _ _) hel (by simp; omega) ?_; intro A6 c6 w6 hr6 hm6; obtain ⟨h6a, h6b, h6c⟩ := HFAR.out _ _ _ _ w6 hm6; have z0 := (h6b 0 _ rfl).1; have z1 := (h6b 1 _ rfl).1; have z2 := (h6b 2 _ rfl).1; have q1 : w6.cell? ⟨gr, 1, none⟩ = some (.slice (some ⟨gs, 0, none⟩) n cs) := by { have := (h6a.box 1 _ rfl).1; rwa [midT_len, ← HN.out] at this }; have g0 : w6.frozen? ⟨gs, k * 3, none⟩ = false := (h6a.at_ (midT_at HX.out) 0 _ rfl).2; have g1 : w6.frozen? ⟨gs, k * 3 + 1, none⟩ = false := (h6a.at_ (midT_at HX.out) 1 _ rfl).2; have g2 : w6.frozen? ⟨gs, k * 3 + 2, none⟩ = false := (h6a.at_ (midT_at HX.out) 2 _ rfl).2; have o0 : w6.cell? ⟨gs, k * 3, none⟩ = some _ := (h6a.at_ (midT_at HX.out) 0 _ rfl).1; have o1 : w6.cell? ⟨gs, k * 3 + 1, none⟩ = some _ := (h6a.at_ (midT_at HX.out) 1 _ rfl).1; have o2 : w6.cell? ⟨gs, k * 3 + 2, none⟩ = some _ := (h6a.at_ (midT_at HX.out) 2 _ rfl).1; have H6A := Lib.hid h6a; have H6C := Lib.hid h6c; have HR6 := Lib.hid hr6; clear h6a h6b h6c hr6 hm6)
            go_region
            all_goals
              go_wp2
              go_roundw
              case rel => exact ⟨k + 1, A6, (evsP sts k).length + 1, c6, hlt2, by go_num, rfl, Lib.hid (TickR.next HX.out HP.out H6A.out hlt.2.2 (by rw [HES.out, HKK.out]; simpa using HR6.out) H6C.out ⟨rfl, rfl, rfl, Nat.le_refl _, fun _ _ _ => rfl⟩)⟩
              case measure => simp [intOf]; omega
      · have e114 : (p == 114) = false := by simpa using hp
        by_cases hp2 : p = 104
        · subst hp2
          have HP := Lib.hid (show passT ⟨dm, 104, l, kp⟩ = (⟨dm, 49, l, kp⟩ : Pst) from (by simp [passT]))
          have HKK := Lib.hid (show passK ⟨dm, 104, l, kp⟩ = 111 from (by simp [passK]))
          go_wp2_with (at_builtin; refine wpList_rev rfl _ _ rfl w.heap.size (.slice A m d) (evsP sts k) rfl (HRV.out _ _ _ _) 111 (k : Int) (wr.heap.size + 1) rfl (HNW.out _ _ _ _) hel (by simp; omega) ?_; intro A6 c6 w6 hr6 hm6; obtain ⟨h6a, h6b, h6c⟩ := HFAR.out _ _ _ _ w6 hm6; have z0 := (h6b 0 _ rfl).1; have z1 := (h6b 1 _ rfl).1; have z2 := (h6b 2 _ rfl).1; have q1 : w6.cell? ⟨gr, 1, none⟩ = some (.slice (some ⟨gs, 0, none⟩) n cs) := by { have := (h6a.box 1 _ rfl).1; rwa [midT_len, ← HN.out] at this }; have g0 : w6.frozen? ⟨gs, k * 3, none⟩ = false := (h6a.at_ (midT_at HX.out) 0 _ rfl).2; have g1 : w6.frozen? ⟨gs, k * 3 + 1, none⟩ = false := (h6a.at_ (midT_at HX.out) 1 _ rfl).2; have g2 : w6.frozen? ⟨gs, k * 3 + 2, none⟩ = false := (h6a.at_ (midT_at HX.out) 2 _ rfl).2; have o0 : w6.cell? ⟨gs, k * 3, none⟩ = some _ := (h6a.at_ (midT_at HX.out) 0 _ rfl).1; have o1 : w6.cell? ⟨gs, k * 3 + 1, none⟩ = some _ := (h6a.at_ (midT_at HX.out) 1 _ rfl).1; have o2 : w6.cell? ⟨gs, k * 3 + 2, none⟩ = some _ := (h6a.at_ (midT_at HX.out) 2 _ rfl).1; have H6A := Lib.hid h6a; have H6C := Lib.hid h6c; have HR6 := Lib.hid hr6; clear h6a h6b h6c hr6 hm6)
          go_region
          all_goals
            go_wp2
            go_roundw
            case rel => exact ⟨k + 1, A6, (evsP sts k).length + 1, c6, hlt2, by go_num, rfl, Lib.hid (TickR.next HX.out HP.out H6A.out hlt.2.2 (by rw [HES.out, HKK.out]; simpa using HR6.out) H6C.out ⟨rfl, rfl, rfl, Nat.le_refl _, fun _ _ _ => rfl⟩)⟩
            case measure => simp [intOf]; omega
        · have e104 : (p == 104) = false := by simpa using hp2
          by_cases hp3 : p = 99
          · subst hp3
            cases kp with
            | true =>
              have HP := Lib.hid (show passT ⟨dm, 99, l, true⟩ = (⟨dm, 116, l, true⟩ : Pst) from (by simp [passT]))
              have HKK := Lib.hid (show passK ⟨dm, 99, l, true⟩ = 115 from (by simp [passK]))
              go_wp2_with (at_builtin; refine wpList_rev rfl _ _ rfl w.heap.size (.slice A m d) (evsP sts k) rfl (HRV.out _ _ _ _) 115 (k : Int) (wr.heap.size + 1) rfl (HNW.out _ _ _ _) hel (by simp; omega) ?_; intro A6 c6 w6 hr6 hm6; obtain ⟨h6a, h6b, h6c⟩ := HFAR.out _ _ _ _ w6 hm6; have z0 := (h6b 0 _ rfl).1; have z1 := (h6b 1 _ rfl).1; have z2 := (h6b 2 _ rfl).1; have q1 : w6.cell? ⟨gr, 1, none⟩ = some (.slice (some ⟨gs, 0, none⟩) n cs) := by { have := (h6a.box 1 _ rfl).1; rwa [midT_len, ← HN.out] at this }; have g0 : w6.frozen? ⟨gs, k * 3, none⟩ = false := (h6a.at_ (midT_at HX.out) 0 _ rfl).2; have g1 : w6.frozen? ⟨gs, k * 3 + 1, none⟩ = false := (h6a.at_ (midT_at HX.out) 1 _ rfl).2; have g2 : w6.frozen? ⟨gs, k * 3 + 2, none⟩ = false := (h6a.at_ (midT_at HX.out) 2 _ rfl).2; have o0 : w6.cell? ⟨gs, k * 3, none⟩ = some _ := (h6a.at_ (midT_at HX.out) 0 _ rfl).1; have o1 : w6.cell? ⟨gs, k * 3 + 1, none⟩ = some _ := (h6a.at_ (midT_at HX.out) 1 _ rfl).1; have o2 : w6.cell? ⟨gs, k * 3 + 2, none⟩ = some _ := (h6a.at_ (midT_at HX.out) 2 _ rfl).1; have H6A := Lib.hid h6a; have H6C := Lib.hid h6c; have HR6 := Lib.hid hr6; clear h6a h6b h6c hr6 hm6)
              go_region
              all_goals
                go_wp2
                go_roundw
                case rel => exact ⟨k + 1, A6, (evsP sts k).length + 1, c6, hlt2, by go_num, rfl, Lib.hid (TickR.next HX.out HP.out H6A.out hlt.2.2 (by rw [HES.out, HKK.out]; simpa using HR6.out) H6C.out ⟨rfl, rfl, rfl, Nat.le_refl _, fun _ _ _ => rfl⟩)⟩
                case measure => simp [intOf]; omega
            | false =>
              have HP := Lib.hid (show passT ⟨dm, 99, l, false⟩ = (⟨dm, 48, l, false⟩ : Pst) from (by simp [passT]))
              have HKK := Lib.hid (show passK ⟨dm, 99, l, false⟩ = 108 from (by simp [passK]))
              go_wp2_with (at_builtin; refine wpList_rev rfl _ _ rfl w.heap.size (.slice A m d) (evsP sts k) rfl (HRV.out _ _ _ _) 108 (k : Int) (wr.heap.size + 1) rfl (HNW.out _ _ _ _) hel (by simp; omega) ?_; intro A6 c6 w6 hr6 hm6; obtain ⟨h6a, h6b, h6c⟩ := HFAR.out _ _ _ _ w6 hm6; have z0 := (h6b 0 _ rfl).1; have z1 := (h6b 1 _ rfl).1; have z2 := (h6b 2 _ rfl).1; have q1 : w6.cell? ⟨gr, 1, none⟩ = some (.slice (some ⟨gs, 0, none⟩) n cs) := by { have := (h6a.box 1 _ rfl).1; rwa [midT_len, ← HN.out] at this }; have g0 : w6.frozen? ⟨gs, k * 3, none⟩ = false := (h6a.at_ (midT_at HX.out) 0 _ rfl).2; have g1 : w6.frozen? ⟨gs, k * 3 + 1, none⟩ = false := (h6a.at_ (midT_at HX.out) 1 _ rfl).2; have g2 : w6.frozen? ⟨gs, k * 3 + 2, none⟩ = false := (h6a.at_ (midT_at HX.out) 2 _ rfl).2; have o0 : w6.cell? ⟨gs, k * 3, none⟩ = some _ := (h6a.at_ (midT_at HX.out) 0 _ rfl).1; have o1 : w6.cell? ⟨gs, k * 3 + 1, none⟩ = some _ := (h6a.at_ (midT_at HX.out) 1 _ rfl).1; have o2 : w6.cell? ⟨gs, k * 3 + 2, none⟩ = some _ := (h6a.at_ (midT_at HX.out) 2 _ rfl).1; have H6A := Lib.hid h6a; have H6C := Lib.hid h6c; have HR6 := Lib.hid hr6; clear h6a h6b h6c hr6 hm6)
              go_region
              all_goals
                go_wp2
                go_roundw
                case rel => exact ⟨k + 1, A6, (evsP sts k).length + 1, c6, hlt2, by go_num, rfl, Lib.hid (TickR.next HX.out HP.out H6A.out hlt.2.2 (by rw [HES.out, HKK.out]; simpa using HR6.out) H6C.out ⟨rfl, rfl, rfl, Nat.le_refl _, fun _ _ _ => rfl⟩)⟩
                case measure => simp [intOf]; omega
          · have e99 : (p == 99) = false := by simpa using hp3
            have HP := Lib.hid (show passT ⟨dm, p, l, kp⟩ = (⟨dm, p, l, kp⟩ : Pst) from (by simp [passT, hp, hp2, hp3]))
            have HKK := Lib.hid (show passK ⟨dm, p, l, kp⟩ = 0 from (by simp [passK, hp, hp2, hp3]))
            go_wp2
            have h6a := (HWR.out (.int .u8 (p)) (.int .i64 (l)) (.bool kp)).1
            have h6b : BoxAt (wr.alloc (.cells #[.int .u8 p, .int .i64 l, .bool kp] 80)) wr.heap.size [.int .u8 (p), .int .i64 (l), .bool kp] := BoxAt.new wr [.int .u8 (p), .int .i64 (l), .bool kp] 80
            have z0 : (wr.alloc (.cells #[.int .u8 p, .int .i64 l, .bool kp] 80)).cell? ⟨wr.heap.size, 0, none⟩ = some _ := (h6b 0 _ rfl).1
            have z1 : (wr.alloc (.cells #[.int .u8 p, .int .i64 l, .bool kp] 80)).cell? ⟨wr.heap.size, 1, none⟩ = some _ := (h6b 1 _ rfl).1
            have z2 : (wr.alloc (.cells #[.int .u8 p, .int .i64 l, .bool kp] 80)).cell? ⟨wr.heap.size, 2, none⟩ = some _ := (h6b 2 _ rfl).1
            have q1 : (wr.alloc (.cells #[.int .u8 p, .int .i64 l, .bool kp] 80)).cell? ⟨gr, 1, none⟩ = some (.slice (some ⟨gs, 0, none⟩) n cs) := by { have := (h6a.box 1 _ rfl).1; rwa [midT_len, ← HN.out] at this }
            have o0 : (wr.alloc (.cells #[.int .u8 p, .int .i64 l, .bool kp] 80)).cell? ⟨gs, k * 3, none⟩ = some _ := (h6a.at_ (midT_at HX.out) 0 _ rfl).1
            have o1 : (wr.alloc (.cells #[.int .u8 p, .int .i64 l, .bool kp] 80)).cell? ⟨gs, k * 3 + 1, none⟩ = some _ := (h6a.at_ (midT_at HX.out) 1 _ rfl).1
            have o2 : (wr.alloc (.cells #[.int .u8 p, .int .i64 l, .bool kp] 80)).cell? ⟨gs, k * 3 + 2, none⟩ = some _ := (h6a.at_ (midT_at HX.out) 2 _ rfl).1
            have g0 : (wr.alloc (.cells #[.int .u8 p, .int .i64 l, .bool kp] 80)).frozen? ⟨gs, k * 3, none⟩ = false := (h6a.at_ (midT_at HX.out) 0 _ rfl).2
            have g1 : (wr.alloc (.cells #[.int .u8 p, .int .i64 l, .bool kp] 80)).frozen? ⟨gs, k * 3 + 1, none⟩ = false := (h6a.at_ (midT_at HX.out) 1 _ rfl).2
            have g2 : (wr.alloc (.cells #[.int .u8 p, .int .i64 l, .bool kp] 80)).frozen? ⟨gs, k * 3 + 2, none⟩ = false := (h6a.at_ (midT_at HX.out) 2 _ rfl).2
            clear h6a h6b
            go_region
            all_goals
              go_wp2
              go_roundw
              case rel => exact ⟨k + 1, A, m, d, hlt2, by go_num, rfl, Lib.hid (TickR.next HX.out HP.out (HWR.out _ _ _).1 hlt.2.2 (by rw [HES.out, HKK.out]; simpa using (HWR.out _ _ _).2.1) (HWR.out _ _ _).2.2 ⟨rfl, rfl, rfl, Nat.le_refl _, fun _ _ _ => rfl⟩)⟩
              case measure => simp [intOf]; omega
    · have hke : k = n := by omega
      subst hke
      have i1 : ¬ ((k : Int) < (k : Int)) := by omega
      go_wp2
      go_ret
      have hg := HT.out.grid
      have he := HT.out.evs
      rw [HN.out] at hg he
      rw [midT_end] at hg
      exact ⟨_, rfl, he, hg, HT.out.mv⟩

end Go.Proofs.YtlhmcpkfmnmhfaaGreat
