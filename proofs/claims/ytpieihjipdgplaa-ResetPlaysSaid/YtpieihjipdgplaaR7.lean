/- The contract of chip: a chip of reset lines alone. -/
import Derived.Test.YtpieihjipdgplaaR6
import Derived.Test.YtpieihjipdgplaaN1
namespace Go.Proofs.Ytpieihjipdgplaa
set_option linter.unusedSimpArgs false
set_option linter.unusedVariables false
open Go.RowKit Go.Maps

/-- the lines of the first k numbers -/
def rstsL (l : List Int) (k : Nat) : List Rst := (l.take k).map fun x => ⟨pickP x 21⟩
theorem rstsL_len (l : List Int) {n : Nat} (h : n ≤ l.length) (_ : n ≤ 6) : (rstsL l n).length = n := by simp [rstsL]; omega
theorem rstsL_succ {l : List Int} {k : Nat} {x : Int} (h : l[k]? = some x) : rstsL l (k + 1) = rstsL l k ++ [⟨pickP x 21⟩] := by
  unfold rstsL
  rw [List.take_add_one, h, List.map_append]
  rfl
theorem Try.sizeOf27 (W : World) : (sizeOf 27).run Try.prog W = .ok 1 W := by kernel_rfl
def chipL (l : List Int) : Chip := ⟨[], [], rstsL l (min l.length 6), []⟩
def ChipPost (w : World) (s : Chip) (e : Ending) (w' : World) : Prop := ∃ v1 v2 v3 v4, e = .returned (.agg #[v1, v2, v3, v4]) ∧ ChipV w' w'.heap.size s [v1, v2, v3, v4] ∧ Below w.heap.size w w'

/-- a chip under way -/
structure ChS (w wr : World) (l : List Int) (n : Nat) (v3 : Value) : Prop where
  row : RowC RstC 1 49 ((w.heap.size + 1) :: v3.ownBlock.toList) wr (w.heap.size + 1 + 1) v3 (rstsL l n)
  ne : v3.ownBlock ≠ some (w.heap.size + 1)
  box : BoxAt wr (w.heap.size + 1) [.slice none 0 0, .slice none 0 0, v3, .slice none 0 0]
  res : BoxAt wr w.heap.size [.slice none 0 0, .slice none 0 0, .slice none 0 0, .slice none 0 0]
  mv : Moved [] w wr

set_option maxRecDepth 1000000 in
set_option maxHeartbeats 8000000 in
theorem chip_any (A : Option Addr) (c : Nat) (l : List Int) (w : World) (hl : l.length ≤ maxLen) (hwf : ∀ x, x ∈ l → wfI x) (h : IntsAt w w.heap.size A l) :
    Calls Try.prog 10 #[.slice A l.length c] w (ChipPost w (chipL l)) := by
  unfold maxLen at hl
  have HI := Lib.hid h
  have HWF := Lib.hid hwf
  have hb0 : BoxAt ((w.alloc (.cells #[.slice none 0 0, .slice none 0 0, .slice none 0 0, .slice none 0 0] 30)).alloc (.cells #[.slice none 0 0, .slice none 0 0, .slice none 0 0, .slice none 0 0] 30)) (w.heap.size + 1) [.slice none 0 0, .slice none 0 0, .slice none 0 0, .slice none 0 0] := by
    have := BoxAt.new (w.alloc (.cells #[.slice none 0 0, .slice none 0 0, .slice none 0 0, .slice none 0 0] 30)) [.slice none 0 0, .slice none 0 0, .slice none 0 0, .slice none 0 0] 30
    rwa [World.size_alloc] at this
  have hr0 : BoxAt ((w.alloc (.cells #[.slice none 0 0, .slice none 0 0, .slice none 0 0, .slice none 0 0] 30)).alloc (.cells #[.slice none 0 0, .slice none 0 0, .slice none 0 0, .slice none 0 0] 30)) w.heap.size [.slice none 0 0, .slice none 0 0, .slice none 0 0, .slice none 0 0] :=
    (BoxAt.new w [.slice none 0 0, .slice none 0 0, .slice none 0 0, .slice none 0 0] 30).move (hot := []) (Moved.alloc _ _) (by simp)
  have HS0 : RowKit.Hid (ChS w ((w.alloc (.cells #[.slice none 0 0, .slice none 0 0, .slice none 0 0, .slice none 0 0] 30)).alloc (.cells #[.slice none 0 0, .slice none 0 0, .slice none 0 0, .slice none 0 0] 30)) l 0 (.slice none 0 0)) := Lib.hid ⟨RowC.nil RstC _ _ _ _ _, by simp [Value.ownBlock], hb0, hr0, (Moved.alloc w _).trans (Moved.alloc _ _)⟩
  clear h hwf hb0 hr0
  go_enter Try.func10, Try.ntmps10
  go_wp2
  go_loopw [4] (fun i wr => ∃ n A3 c3, n ≤ l.length ∧ n ≤ 6 ∧ i = .int .i64 (n : Nat) ∧ RowKit.Hid (ChS w wr l n (.slice A3 n c3))) (fun i _ => 6 - (intOf i).toNat)
  case atStart => exact ⟨0, none, 0, Nat.zero_le _, Nat.zero_le _, rfl, HS0⟩
  case round =>
    clear HS0
    obtain ⟨n, A3, c3, hn, hn6, rfl, HS⟩ := hrel
    by_cases hlt : n < l.length ∧ n < 6
    · obtain ⟨hlt, hlt6⟩ := hlt
      have hi0 : (n : Int) < (l.length : Int) := by omega
      have hi6 : (n : Int) < 6 := by omega
      have hmv := HS.out.mv
      have hbel : Below w.heap.size w wr := hmv.below (by simp) (Nat.le_refl _)
      obtain ⟨ad, hA, hab, hc⟩ := (HI.out.below hbel (Nat.le_refl _)).at_ hlt
      have hx : l[n]? = some l[n] := List.getElem?_eq_getElem hlt
      have hxw := HWF.out l[n] (List.getElem_mem _)
      generalize l[n] = x at hc hx hxw
      obtain ⟨q, hq⟩ : ∃ q, pickP x 21 = q := ⟨_, rfl⟩
      have HQ := Lib.hid hq
      have HX := Lib.hid hx
      obtain ⟨A', c', e', hcap, hlt3⟩ := HS.out.row.shape
      have hgs := HS.out.box.lt
      have hne3 := HS.out.ne
      have hC : ∀ W, wr.grownBy W (Value.slice A3 n c3).ownBlock → W.cell? (ad.add n) = some (.int .i64 x) ∧ BoxAt W (w.heap.size + 1) [.slice none 0 0, .slice none 0 0, .slice A3 n c3, .slice none 0 0] := fun W hW =>
        ⟨(Moved.of_grown (hot := (Value.slice A3 n c3).ownBlock.toList) hW (by simp)).cell hc (by rw [block_add]; intro hb; have := (hlt3 _ (by simpa using hb)).1; omega), HS.out.box.move (Moved.of_grown (hot := (Value.slice A3 n c3).ownBlock.toList) hW (by simp)) (by simpa using hne3)⟩
      have HC := Lib.hid hC
      have HROW := Lib.hid HS.out.row
      have HNE := Lib.hid hne3
      have HLT3 := Lib.hid hlt3
      have HMV := Lib.hid hmv
      have HRES := Lib.hid HS.out.res
      subst hA
      have hsz := hmv.size
      clear hC hne3 hlt3 hmv hbel hc hx hq HS e' hcap
      go_wp2
      refine region_then [⟨IsV (.pointer (some ⟨w.heap.size + 1, 2, none⟩)), true, false⟩,
        ⟨IsV (.slice A3 n c3), true, false⟩,
        ⟨IsV (.slice (some ad) l.length c), true, false⟩,
        ⟨IsV (.int .i64 (n : Nat)), true, false⟩,
        ⟨IsV (.pointer (some (ad.add n))), true, false⟩,
        ⟨IsV (.int .i64 x), true, false⟩,
        ⟨IsV (.int .i64 q), true, false⟩,
        ⟨IsV (.agg #[.int .i64 q]), true, false⟩,
        ⟨IsBlk (wr.heap.size) (mkRow 1) [.int .i64 q] 49, false, false⟩,
        ⟨fun v w' => v.ownBlock ≠ some (w.heap.size + 1) ∧ Moved ((w.heap.size + 1) :: (Value.slice A3 n c3).ownBlock.toList) wr w' ∧ BoxAt w' (w.heap.size + 1) [.slice none 0 0, .slice none 0 0, .slice A3 n c3, .slice none 0 0] ∧ (∀ j u, RowC RstC 1 49 ((w.heap.size + 1) :: v.ownBlock.toList) (w'.setCell ⟨w.heap.size + 1, j, none⟩ u) (w.heap.size + 1 + 1) v (rstsL l n ++ [Rst.mk q])) ∧ ∃ A c, v = .slice A (n + 1) c, false, true⟩,
        ⟨IsV (.pointer (some ⟨w.heap.size + 1, 2, none⟩)), true, false⟩] (Value.slice A3 n c3).ownBlock 27 (by kernel_rfl) rfl (by kernel_rfl) ⟨fun _ => stbR_V _ _, fun _ => stbR_V _ _, fun _ => stbR_V _ _, fun _ => stbR_V _ _, fun _ => stbR_V _ _, fun _ => stbR_V _ _, fun _ => stbR_V _ _, fun _ => stbR_V _ _, fun _ => stbR_blk (fun k hk => (HLT3.out k hk).2), (fun h => by cases h), fun _ => stbR_V _ _, trivial⟩ ⟨?s0, ?s1, ?s2, ?s3, ?s4, ?s5, ?s6, ?s7, ?s8, ?s9, ?s10, trivial⟩ ?fin
      case s0 =>
        refine ⟨rfl, fun T w1 hT hb ha0 hd => ?_⟩
        have ec := evT_const T
        have ef := evT_func T
        have d3 : evT T (.tmp 3) = .pointer (some ⟨w.heap.size + 1, 0, none⟩) := hT 3 (by kernel_rfl)
        clear hT hd hb ha0
        refine gr_pure (v := .pointer (some ⟨w.heap.size + 1, 2, none⟩)) ?_ rfl
        simp only [execOp]
        go_simp
      case s1 =>
        refine ⟨rfl, fun T w1 hT hb ha0 hd => ?_⟩
        have ec := evT_const T
        have ef := evT_func T
        have d15 : evT T (.tmp 15) = .pointer (some ⟨w.heap.size + 1, 2, none⟩) := (by first | exact hd.1 | exact hd.2.1 | exact hd.2.2.1 | exact hd.2.2.2.1 | exact hd.2.2.2.2.1 | exact hd.2.2.2.2.2.1 | exact hd.2.2.2.2.2.2.1 | exact hd.2.2.2.2.2.2.2.1 | exact hd.2.2.2.2.2.2.2.2.1 | exact hd.2.2.2.2.2.2.2.2.2.1)
        have f0 := ((HC.out w1 hb).2 2 _ rfl).1
        clear hT hd hb ha0
        refine gr_pure (v := .slice A3 n c3) ?_ rfl
        simp only [execOp]
        go_simp
      case s2 =>
        refine ⟨rfl, fun T w1 hT hb ha0 hd => ?_⟩
        have ec := evT_const T
        have ef := evT_func T
        have d0 : evT T (.tmp 0) = .slice (some ad) l.length c := hT 0 (by kernel_rfl)
        exact gr_pure (ar_move d0) rfl
      case s3 =>
        refine ⟨rfl, fun T w1 hT hb ha0 hd => ?_⟩
        have ec := evT_const T
        have ef := evT_func T
        have d4 : evT T (.tmp 4) = .int .i64 (n : Nat) := hT 4 (by kernel_rfl)
        exact gr_pure (ar_move d4) rfl
      case s4 =>
        refine ⟨rfl, fun T w1 hT hb ha0 hd => ?_⟩
        have ec := evT_const T
        have ef := evT_func T
        have d17 : evT T (.tmp 17) = .slice (some ad) l.length c := (by first | exact hd.1 | exact hd.2.1 | exact hd.2.2.1 | exact hd.2.2.2.1 | exact hd.2.2.2.2.1 | exact hd.2.2.2.2.2.1 | exact hd.2.2.2.2.2.2.1 | exact hd.2.2.2.2.2.2.2.1 | exact hd.2.2.2.2.2.2.2.2.1 | exact hd.2.2.2.2.2.2.2.2.2.1)
        have d18 : evT T (.tmp 18) = .int .i64 (n : Nat) := (by first | exact hd.1 | exact hd.2.1 | exact hd.2.2.1 | exact hd.2.2.2.1 | exact hd.2.2.2.2.1 | exact hd.2.2.2.2.2.1 | exact hd.2.2.2.2.2.2.1 | exact hd.2.2.2.2.2.2.2.1 | exact hd.2.2.2.2.2.2.2.2.1 | exact hd.2.2.2.2.2.2.2.2.2.1)
        have g0 : (0 : Int) ≤ (n : Int) := by omega
        have g1 : (n : Int) < (l.length : Int) := by omega
        clear hT hd hb ha0
        refine gr_pure (v := .pointer (some (ad.add n))) ?_ rfl
        simp only [execOp]
        go_simp
      case s5 =>
        refine ⟨rfl, fun T w1 hT hb ha0 hd => ?_⟩
        have ec := evT_const T
        have ef := evT_func T
        have d19 : evT T (.tmp 19) = .pointer (some (ad.add n)) := (by first | exact hd.1 | exact hd.2.1 | exact hd.2.2.1 | exact hd.2.2.2.1 | exact hd.2.2.2.2.1 | exact hd.2.2.2.2.2.1 | exact hd.2.2.2.2.2.2.1 | exact hd.2.2.2.2.2.2.2.1 | exact hd.2.2.2.2.2.2.2.2.1 | exact hd.2.2.2.2.2.2.2.2.2.1)
        have f0 := (HC.out w1 hb).1
        clear hT hd hb ha0
        refine gr_pure (v := .int .i64 x) ?_ rfl
        simp only [execOp]
        go_simp
      case s6 =>
        refine ⟨rfl, fun T w1 hT hb ha0 hd => ?_⟩
        have ec := evT_const T
        have ef := evT_func T
        have d20 : evT T (.tmp 20) = .int .i64 x := (by first | exact hd.1 | exact hd.2.1 | exact hd.2.2.1 | exact hd.2.2.2.1 | exact hd.2.2.2.2.1 | exact hd.2.2.2.2.2.1 | exact hd.2.2.2.2.2.2.1 | exact hd.2.2.2.2.2.2.2.1 | exact hd.2.2.2.2.2.2.2.2.1 | exact hd.2.2.2.2.2.2.2.2.2.1)
        refine gr_same (f := 13) (args := #[.int .i64 x, .int .i64 21]) ?_ (by rw [← HQ.out]; exact pick_any _ _ _ hxw (by omega) (by omega)) rfl
        clear hT hd hb ha0
        simp only [execOp, resolve]
        go_simp
      case s7 =>
        refine ⟨rfl, fun T w1 hT hb ha0 hd => ?_⟩
        have ec := evT_const T
        have ef := evT_func T
        have d21 : evT T (.tmp 21) = .int .i64 q := (by first | exact hd.1 | exact hd.2.1 | exact hd.2.2.1 | exact hd.2.2.2.1 | exact hd.2.2.2.2.1 | exact hd.2.2.2.2.2.1 | exact hd.2.2.2.2.2.2.1 | exact hd.2.2.2.2.2.2.2.1 | exact hd.2.2.2.2.2.2.2.2.1 | exact hd.2.2.2.2.2.2.2.2.2.1)
        clear hT hd hb ha0
        refine gr_pure (v := .agg #[.int .i64 q]) ?_ rfl
        simp only [execOp]
        go_simp
      case s8 =>
        refine ⟨rfl, fun T w1 hT hb ha0 hd => ?_⟩
        have ec := evT_const T
        have ef := evT_func T
        have d22 : evT T (.tmp 22) = .agg #[.int .i64 q] := (by first | exact hd.1 | exact hd.2.1 | exact hd.2.2.1 | exact hd.2.2.2.1 | exact hd.2.2.2.2.1 | exact hd.2.2.2.2.2.1 | exact hd.2.2.2.2.2.2.1 | exact hd.2.2.2.2.2.2.2.1 | exact hd.2.2.2.2.2.2.2.2.1 | exact hd.2.2.2.2.2.2.2.2.2.1)
        have hz := hb.size
        refine gr_made (v := mkRow 1 w1.heap.size) (w' := w1.alloc (.cells [.int .i64 q].toArray 49)) ?_ (World.grownBy_alloc _ _ _) (show IsBlk (wr.heap.size) (mkRow 1) [.int .i64 q] 49 (mkRow 1 w1.heap.size) _ from isBlk_new hz)
        clear hT hd hb ha0
        simp only [execOp, mkRow]
        go_simp
      case s9 =>
        refine ⟨rfl, fun T w1 hT hb ha0 hd => ?_⟩
        have ec := evT_const T
        have ef := evT_func T
        have d16 : evT T (.tmp 16) = .slice A3 n c3 := (by first | exact hd.1 | exact hd.2.1 | exact hd.2.2.1 | exact hd.2.2.2.1 | exact hd.2.2.2.2.1 | exact hd.2.2.2.2.2.1 | exact hd.2.2.2.2.2.2.1 | exact hd.2.2.2.2.2.2.2.1 | exact hd.2.2.2.2.2.2.2.2.1 | exact hd.2.2.2.2.2.2.2.2.2.1)
        obtain ⟨b, d23, hbb, hbh⟩ : IsBlk (wr.heap.size) (mkRow 1) [.int .i64 q] 49 (evT T (.tmp 23)) w1 := (by first | exact hd.1 | exact hd.2.1 | exact hd.2.2.1 | exact hd.2.2.2.1 | exact hd.2.2.2.2.1 | exact hd.2.2.2.2.2.1 | exact hd.2.2.2.2.2.2.1 | exact hd.2.2.2.2.2.2.2.1 | exact hd.2.2.2.2.2.2.2.2.1 | exact hd.2.2.2.2.2.2.2.2.2.1)
        have hbx1 := (HC.out w1 hb).2
        have hW5 : Moved [] wr w1 := Moved.of_grown (ha0 rfl) (fun k h => by cases h)
        obtain ⟨vss, hown, hstep⟩ := row_step (x := (⟨q⟩ : Rst)) (lits := [.int .i64 q]) HROW.out hgs HNE.out hW5 rfl rfl
        rw [rstsL_len _ (by omega) (by omega)] at hown hstep
        obtain ⟨i49, hi, hz0, hz1, hz2⟩ := info_parts Try.info49
        have hz := hb.size
        obtain ⟨v', w', hrun, hown', hg', _, hob'⟩ := run_append_own_at (P := Try.prog) w1 (w.heap.size + 1 + 1) 27 27 49 i49 (.agg #[.int .i64 0]) 1 8 Try.underlying27 hi hz0 hz1 hz2 rfl (by decide) (.slice A3 n c3) n vss.flatten hown ⟨b, 0, none⟩ 1 1 [.int .i64 q] rfl (fun j u hj => by
            cases j with
            | zero => simp at hj; subst hj; rw [Addr.add_lit, cell_of_row _ _ _ _ _ _ hbh]; rfl
            | succ j => simp at hj) (by intro u hu; rw [List.mem_singleton.1 hu]; rfl) (by unfold maxLen; omega) (by omega) (by omega)
        obtain ⟨hne6, hmv6, hfin⟩ := hstep v' w' hown' hg' hob'
        refine gr_made (v := v') (w' := w') ?_ hg' ⟨hne6, hmv6, hbx1.move (Moved.of_grown (hot := (Value.slice A3 n c3).ownBlock.toList) hg' (by simp)) (by simpa using HNE.out), fun j u => (hfin j u).1, own_shape' hown'⟩
        clear hT hd hb ha0 hown' hg' hown hstep hbh hfin hob' hmv6
        simp only [mkRow] at d23
        unfold execOp
        simp only [resolve, invoke, builtin, Sem.run_bind, Sem.run_pure, Result.andThen_ok, List.map_toArray, List.map_cons, List.map_nil, d16, d23, hrun]
      case s10 =>
        refine ⟨rfl, fun T w1 hT hb ha0 hd => ?_⟩
        have ec := evT_const T
        have ef := evT_func T
        have d3 : evT T (.tmp 3) = .pointer (some ⟨w.heap.size + 1, 0, none⟩) := hT 3 (by kernel_rfl)
        clear hT hd hb ha0
        refine gr_pure (v := .pointer (some ⟨w.heap.size + 1, 2, none⟩)) ?_ rfl
        simp only [execOp]
        go_simp
      case fin =>
        intro T w1 o ho hT hb hd
        obtain rfl : _ = o := Option.some.inj ho
        clear ho
        have ec := evT_const T
        simp only [putL, Act.put, Option.getD_some, List.setIfInBounds_toArray, List.set_cons_zero, List.set_cons_succ]
        have d25 : evT T (.tmp 25) = .pointer (some ⟨w.heap.size + 1, 2, none⟩) := hd.2.2.2.2.2.2.2.2.2.2.1
        obtain ⟨hne6, hmv6, hbx6, hrow6, A6, c6, d24⟩ : (fun v w' => v.ownBlock ≠ some (w.heap.size + 1) ∧ Moved ((w.heap.size + 1) :: (Value.slice A3 n c3).ownBlock.toList) wr w' ∧ BoxAt w' (w.heap.size + 1) [.slice none 0 0, .slice none 0 0, .slice A3 n c3, .slice none 0 0] ∧ (∀ j u, RowC RstC 1 49 ((w.heap.size + 1) :: v.ownBlock.toList) (w'.setCell ⟨w.heap.size + 1, j, none⟩ u) (w.heap.size + 1 + 1) v (rstsL l n ++ [Rst.mk q])) ∧ ∃ A c, v = .slice A (n + 1) c) (evT T (.tmp 24)) w1 := hd.2.2.2.2.2.2.2.2.2.1
        rw [d24] at hne6 hrow6
        refine ⟨undef, w1.setCell ⟨w.heap.size + 1, 2, none⟩ (.slice A6 (n + 1) c6), .inr (storeSl_run (j := 2) (by simp) Try.sizeOf27 d25 d24 hbx6), ?_⟩
        have hbox4 : BoxAt (w1.setCell ⟨w.heap.size + 1, 2, none⟩ (.slice A6 (n + 1) c6)) (w.heap.size + 1) [.slice none 0 0, .slice none 0 0, .slice A6 (n + 1) c6, .slice none 0 0] := hbx6.set (j := 2) (by simp) _
        have hmv7 := hmv6.trans (Moved.setCell w1 (p := ⟨w.heap.size + 1, 2, none⟩) (by simp) (.slice A6 (n + 1) c6))
        have HROW6 := Lib.hid (hrow6 2 (.slice A6 (n + 1) c6))
        have HNE6 := Lib.hid hne6
        have HBX6 := Lib.hid hbox4
        have HMV7 := Lib.hid hmv7
        clear hT hb hd d25 d24 hne6 hmv6 hbx6 hrow6 hbox4 ec HC hmv7
        go_wp2
        go_roundw
        case measure => simp [intOf]; omega
        case rel =>
          refine ⟨n + 1, A6, c6, by omega, by omega, by go_num, Lib.hid ⟨?_, HNE6.out, HBX6.out, HRES.out.move HMV7.out ?_, HMV.out.trans' HMV7.out ?_⟩⟩
          · rw [rstsL_succ HX.out, HQ.out]
            exact HROW6.out
          · intro hm
            rcases List.mem_cons.1 hm with e | e
            · omega
            · have := (HLT3.out w.heap.size (by simpa using e)).1
              omega
          · intro j hj
            rcases List.mem_cons.1 hj with e | e
            · exact .inr (by omega)
            · exact .inr (by have := (HLT3.out j (by simpa using e)).1; omega)
    · have hfin : n = min l.length 6 := by omega
      have hrow := HS.out.row.strs
      obtain ⟨A', c', e', hcap, hst⟩ := hrow
      rw [rstsL_len l (by omega) (by omega)] at e' hcap
      injection e' with e1 e2 e3
      subst e1 e3
      have hbx := HS.out.box
      have hrs := HS.out.res
      obtain ⟨x0, y0⟩ := hrs 0 _ rfl
      obtain ⟨x1, y1⟩ := hrs 1 _ rfl
      obtain ⟨x2, y2⟩ := hrs 2 _ rfl
      obtain ⟨x3, y3⟩ := hrs 3 _ rfl
      obtain ⟨z0, t0⟩ := hbx 0 _ rfl
      obtain ⟨z1, t1⟩ := hbx 1 _ rfl
      obtain ⟨z2, t2⟩ := hbx 2 _ rfl
      obtain ⟨z3, t3⟩ := hbx 3 _ rfl
      have hmv := HS.out.mv
      have hFin : ∀ W, Moved [w.heap.size] wr W → ChipV W W.heap.size (chipL l) [.slice none 0 0, .slice none 0 0, .slice A3 n c3, .slice none 0 0] ∧ Below w.heap.size w W := by
        intro W hW
        have hz := hmv.size
        have hrw : StrsAt RstV 1 W W.heap.size A3 (rstsL l n) := by
          have hr := HS.out.row.move (w' := W) (hot := (w.heap.size + 1) :: (Value.slice A3 n c3).ownBlock.toList)
          obtain ⟨vss, q1, q2, q3⟩ := HS.out.row
          have q3' : W.ownsRow (w.heap.size + 1 + 1) 49 1 (.slice A3 n c3) (rstsL l n).length vss.flatten := own_move q3 fun g hg => hW.block g (q3.lt g hg).2 (by have := (q3.lt g hg).1; simp; omega)
          have hR : RowC RstC 1 49 [] W (w.heap.size + 1 + 1) (.slice A3 n c3) (rstsL l n) := ⟨vss, q1, fun k x vs h1 h2 => ⟨(q2 k x vs h1 h2).1, (q2 k x vs h1 h2).2⟩, q3'⟩
          obtain ⟨A'', c'', e'', _, hs⟩ := hR.strs
          injection e'' with e1 _ _
          rw [e1]
          exact hs
        refine ⟨⟨none, 0, none, 0, A3, c3, none, 0, ?_, Nat.le_refl _, Nat.le_refl _, ?_, Nat.le_refl _, fun h => absurd h (by simp [chipL]), fun h => absurd h (by simp [chipL]), ?_, fun h => absurd h (by simp [chipL])⟩, ?_⟩
        · have : (chipL l).rsts.length = n := by show (rstsL l (min l.length 6)).length = n; rw [rstsL_len l (by omega) (by omega)]; omega
          rw [this]; rfl
        · show (rstsL l (min l.length 6)).length ≤ c3
          rw [rstsL_len l (by omega) (by omega)]; omega
        · show StrsAt RstV 1 W W.heap.size A3 (rstsL l (min l.length 6))
          rw [← hfin]; exact hrw
        · exact (hmv.below (by simp) (Nat.le_refl _)).trans (hW.below (by simp) hz)
      have HF := Lib.hid hFin
      clear hFin hmv hst hcap hbx hrs HS hfin
      by_cases h1 : n < l.length
      · have h6 : n = 6 := by omega
        subst h6
        have hi0 : (6 : Int) < (l.length : Int) := by omega
        go_wp2
        refine bodyPost_ret (v := .agg #[.slice none 0 0, .slice none 0 0, .slice A3 6 c3, .slice none 0 0]) (by simp [results, Try.results10, go_sem, x0, x1, x2, x3, y0, y1, y2, y3]) rfl ⟨_, _, _, _, rfl, ?_⟩
        exact HF.out _ ((((Moved.setCell wr (p := ⟨w.heap.size, 0, none⟩) (hot := [w.heap.size]) (by simp) (.slice none 0 0)).trans (Moved.setCell _ (p := ⟨w.heap.size, 1, none⟩) (by simp) (.slice none 0 0))).trans (Moved.setCell _ (p := ⟨w.heap.size, 2, none⟩) (by simp) (.slice A3 6 c3))).trans (Moved.setCell _ (p := ⟨w.heap.size, 3, none⟩) (by simp) (.slice none 0 0)))
      · have hi0 : ¬ ((n : Int) < (l.length : Int)) := by omega
        go_wp2
        refine bodyPost_ret (v := .agg #[.slice none 0 0, .slice none 0 0, .slice A3 n c3, .slice none 0 0]) (by simp [results, Try.results10, go_sem, x0, x1, x2, x3, y0, y1, y2, y3]) rfl ⟨_, _, _, _, rfl, ?_⟩
        exact HF.out _ ((((Moved.setCell wr (p := ⟨w.heap.size, 0, none⟩) (hot := [w.heap.size]) (by simp) (.slice none 0 0)).trans (Moved.setCell _ (p := ⟨w.heap.size, 1, none⟩) (by simp) (.slice none 0 0))).trans (Moved.setCell _ (p := ⟨w.heap.size, 2, none⟩) (by simp) (.slice A3 n c3))).trans (Moved.setCell _ (p := ⟨w.heap.size, 3, none⟩) (by simp) (.slice none 0 0)))

end Go.Proofs.Ytpieihjipdgplaa
