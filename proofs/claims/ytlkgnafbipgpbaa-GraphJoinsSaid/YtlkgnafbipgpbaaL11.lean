/- The walk of GraphJoins: true, for any two graphs that falling makes. -/
import Derived.Test.YtlkgnafbipgpbaaM7
import Derived.Test.YtlkgnafbipgpbaaL6
import Derived.Deep.AppendLies
import Derived.Deep.RegionLaw
import Derived.Laws.BitsLemmas
namespace Go.Proofs.Ytlkgnafbipgpbaa
open Go.RowKit Go.Maps

theorem Low.ofNew {w : World} {gb : Nat} (h : RowsOut w gb 11 (fun _ => [])) : Low w gb (fun _ => []) := fun i hi => let ⟨h0, Ai, ci, h1, h2, _, _⟩ := h i (by omega); ⟨h0, Ai, ci, h1, h2, fun hl => absurd hl (by simp)⟩

set_option maxRecDepth 100000 in
set_option maxHeartbeats 16000000 in
theorem joins_any (A : Option Addr) (c : Nat) (xs : List Int) (A' : Option Addr) (c' : Nat) (ys : List Int) (a_ b_ : Int) (h2 : wfI a_) (h3 : wfI b_) (hlen : xs.length ≤ 9223372036854775807) (hx : ∀ x, x ∈ xs → wfI x) (hlen' : ys.length ≤ 9223372036854775807) (hy : ∀ x, x ∈ ys → wfI x) (w : World) (hI : IntsAt w w.heap.size A xs) (hI' : IntsAt w w.heap.size A' ys) :
    Calls Try.prog 8 #[.slice A xs.length c, .slice A' ys.length c', .int .i64 a_, .int .i64 b_] w fun e w' => e = .returned (.bool true) ∧ Below w.heap.size w w' := by
  obtain ⟨u, hu, hpu⟩ := pick_any a_ 6 h2 (by omega) (by omega)
  obtain ⟨v, hv, hpv⟩ := pick_any b_ 5 h3 (by omega) (by omega)
  have hpu : PickIs a_ 6 u := hpu
  have hpv : PickIs b_ 5 v := hpv
  have HX := Lib.hid hx
  have HY := Lib.hid hy
  have hmk : ∀ W : World, (Instr.makeSlice 22 (.int .i64 11) (.int .i64 11)).run Try.prog W = .ok (.slice (some ⟨W.heap.size, 0, none⟩) 11 11) (W.alloc (.cells (madeCells #[.slice none 0 0] 11) 25)) := fun W => make_rows 11 (by omega) W
  obtain ⟨i0, hi, hi0, hi1, hi2⟩ := info_parts Try.info3
  clear hx hy
  go_enter Try.func8, Try.ntmps8
  go_wp2_with fail
  refine (shown_any w).mono ?_
  rintro e w1 ⟨rfl, hb1⟩
  have hz1 := hb1.size
  go_wp2_with fail
  refine (falling_any A 6 c xs false w1 (by omega) hlen HX.out ((hI.below hb1 (Nat.le_refl _)).more hz1)).mono ?_
  rintro e w2 ⟨gw, G, rfl, hr, hgw, hgw2, hF, hGl, hb2⟩
  have HR := Lib.hid hr
  have HF := Lib.hid hF
  have HGL := Lib.hid hGl
  have hz2 := hb2.size
  clear hr hF hGl
  go_wp2_with fail
  refine (falling_any A' 5 c' ys true w2 (by omega) hlen' HY.out ((hI'.below (hb1.trans (hb2.mono hz1)) (Nat.le_refl _)).more (by omega))).mono ?_
  rintro e w3 ⟨gv, H, rfl, hr, hgv, hgv2, hF, hGl, hb3⟩
  have HRH := Lib.hid hr
  have HFH := Lib.hid hF
  have HGLH := Lib.hid hGl
  have hz3 := hb3.size
  have HRG := Lib.hid (HR.out.below hb3 hgw)
  clear hr hF hGl
  go_wp2_with fail
  have hnew := RowsOwn.new 11 w3
  have hbm : Below w3.heap.size w3 (w3.alloc (.cells (madeCells #[.slice none 0 0] 11) 25)) := (Below.refl _ w3).alloc (Nat.le_refl _) _
  have HNEW := Lib.hid hnew
  clear hnew
  go_loopg [13] 6 (fun gg s13 wr => ∃ i : Nat, i ≤ 6 ∧ 6 - i ≤ gg ∧ s13 = .int .i64 i ∧ Low wr w3.heap.size (fun x => if x < i then ciG G x else []) ∧ OwnFrom wr w3.heap.size 6 11 (w3.heap.size + 1) (fun _ => []) ∧ Below w3.heap.size w3 wr)
  case atStart => exact ⟨0, Nat.zero_le _, by omega, rfl, (Low.ofNew HNEW.out.out).congr (fun x _ => by simp), OwnFrom.of HNEW.out, hbm⟩
  case round =>
    obtain ⟨i, hi6, hgg, rfl, hlow, hown0, hB⟩ := hrel
    by_cases hlt : i < 6
    · have hltI : (i : Int) < 6 := by omega
      obtain ⟨hfg, Ai, ci', hcg, hleg, hIg, _⟩ := HRG.out i hlt
      obtain ⟨hf0, Ab', cb', hcb, _⟩ := hlow i hlt
      have hcg2 := (hB.cell (p := ⟨gw, i, none⟩) (show gw < w3.heap.size by omega)).trans hcg
      have hLO := hlow.setLo (Ak := Ai) (ck := ci') (l := ciG G i) hlt hleg (hIg.below hB (Nat.le_refl _))
      have HLO := Lib.hid (hLO.congr (low_step i))
      have HOS := Lib.hid (hown0.setLo hlt (.slice Ai (ciG G i).length ci'))
      clear hLO hlow hown0 hIg
      go_wp2_with fail
      go_roundg (6 - (i + 1))
      case measure => omega
      case rel => exact ⟨i + 1, by omega, Nat.le_refl _, by go_num, HLO.out, HOS.out, hB.setCell (p := ⟨w3.heap.size, i, none⟩) (Nat.le_refl _) _⟩
    · have hltI : ¬ (i : Int) < 6 := by omega
      have HLOW := Lib.hid (hlow.congr (fun x hx => by simp only []; rw [if_pos (by omega)] : ∀ x, x < 6 → (fun x => if x < i then ciG G x else []) x = ciG G x))
      have HO0 := Lib.hid (hown0.congr (fun x _ _ => (hiP_zero (H := H) x).symm))
      clear hlow hown0
      go_wp2_with fail
      go_loopg [14] 5 (fun gg s14 wr => ∃ k : Nat, k ≤ 5 ∧ 5 - k ≤ gg ∧ s14 = .int .i64 k ∧ Low wr w3.heap.size (ciG G) ∧ OwnFrom wr w3.heap.size 6 11 (w3.heap.size + 1) (ciG (hiP k 0 H)) ∧ Below w3.heap.size w3 wr)
      case atStart => exact ⟨0, Nat.zero_le _, by omega, rfl, HLOW.out, HO0.out, hB⟩
      case round =>
        obtain ⟨k, hk5, hgg2, rfl, hlow, hown0, hB⟩ := hrel
        have HLOW := Lib.hid hlow
        have HOW := Lib.hid hown0
        clear hlow hown0
        by_cases hlt5 : k < 5
        · have hlt5I : (k : Int) < 5 := by omega
          obtain ⟨hfg, Ai, ci', hcg, hleg, hIg, _⟩ := HRH.out k hlt5
          obtain ⟨m, hm⟩ : ∃ m, m = (ciG H k).length := ⟨_, rfl⟩
          have hm40 : m ≤ 1000 := by rw [hm]; unfold ciG; rw [ci_length]; have := HGLH.out k; omega
          have hmG : Hid (m = (H k).length) := by rw [hm]; unfold ciG; rw [ci_length]; exact Lib.hid rfl
          rw [← hm] at hcg hleg
          have HIg := Lib.hid hIg
          clear hm hIg
          have hcgr := (hB.cell (p := ⟨gv, k, none⟩) hgv).trans hcg
          go_wp2_with fail
          go_loopg [15] m (fun gg s15 wq => ∃ j : Nat, j ≤ m ∧ m - j ≤ gg ∧ s15 = .int .i64 j ∧ Low wq w3.heap.size (ciG G) ∧ OwnFrom wq w3.heap.size 6 11 (w3.heap.size + 1) (ciG (hiP k j H)) ∧ Below w3.heap.size w3 wq)
          case atStart => exact ⟨0, Nat.zero_le _, by omega, rfl, HLOW.out, HOW.out, hB⟩
          case round =>
            obtain ⟨j, hjm, hgj, rfl, hlow2, hown2, hB2⟩ := hrel
            have HLOW2 := Lib.hid hlow2
            have HOW2 := Lib.hid hown2
            clear hlow2 hown2
            have hcg2 := (hB2.cell (p := ⟨gv, k, none⟩) hgv).trans hcg
            by_cases hltj : j < m
            · obtain ⟨y, hy⟩ : ∃ y, (H k)[j]? = some y := ⟨_, List.getElem?_eq_getElem (by have := hmG.out; omega)⟩
              have hyn : y < 5 := (HFH.out k hlt5 y (List.mem_of_getElem? hy)).1
              obtain ⟨ad, hA, hcy⟩ := IntsAt.nat (l := H k) (HIg.out.below hB2 (Nat.le_refl _)) hy
              obtain ⟨r, hr⟩ : ∃ r, r = 6 + k := ⟨_, rfl⟩
              obtain ⟨sy, hsy⟩ : ∃ sy, sy = 6 + y := ⟨_, rfl⟩
              have hw1 : IntKind.i64.wrap ((6 : Int) + (k : Int)) = (r : Int) := by rw [IntKind.wrap_i64]; omega
              have hw2 : IntKind.i64.wrap ((6 : Int) + (y : Int)) = (sy : Int) := by rw [IntKind.wrap_i64]; omega
              have hr11 : r < 11 := by omega
              have hr11I : (r : Int) < 11 := by omega
              have hr6 : 6 ≤ r := by omega
              obtain ⟨vi, hfs, hcs, hown, _⟩ := HOW2.out.2.2 r hr6 hr11
              have hLs : (ciG (hiP k j H) r).length = j := by
                unfold ciG
                rw [hr, hiP_at, ci_length, List.length_map, List.length_take, ← hmG.out]
                omega
              have HLs := Lib.hid hLs
              have hbs := HOW2.out.2.1
              rw [hLs] at hown
              obtain ⟨Av, cv, rfl⟩ := own_shape hown
              have hcs2 := Lib.cell?_alloc_some (Obj.cells #[.int .i64 (sy : Int)] 3) hcs
              have hstep := Lib.hid (hiP_step (w := k) (j := j) hy)
              rw [← hr, ← hsy] at hstep
              have HRr := Lib.hid hr
              have HSY := Lib.hid hsy
              have HOwn := Lib.hid hown
              subst hA
              clear hy hr hsy hown hLs
              go_wp2_with fail
              go_region_law (refine step_append_lies _ (by rfl) (.tmp 65) (.tmp 74) _ (by rfl) (w3.heap.size + 1) 3 i0 _ 1 8 Try.underlying25 hi hi0 hi1 hi2 rfl (by omega) (.slice Av j cv) j _ (by rfl) ((HOwn.out.alloc _).drew) ⟨wr.heap.size, 0, none⟩ 1 1 [.int .i64 (sy : Int)] (by rfl) (by rfl) (World.news_of_block (cs := #[.int .i64 (sy : Int)]) (t := 3) (fr := (0, 0)) (heap_alloc_new wr _)) (iv_one [(sy : Int)]) (by omega) (by unfold maxLen; omega) (by omega) (by simp; omega) (wr.heap.size + 1) (by simp) ?_; intro g7 cap7 w7 hown7 hg7 hat7 hlt7; have hg8 : (wr.alloc (.cells #[.int .i64 (sy : Int)] 3)).grownBy w7 (Value.slice Av j cv).ownBlock := (grown_of_below ((Below.refl (wr.alloc (.cells #[.int .i64 (sy : Int)] 3)).heap.size (wr.alloc (.cells #[.int .i64 (sy : Int)] 3))).drew) _).trans hg7; obtain ⟨hc7, hf7⟩ := HOW2.out.keeps hr6 hr11 hcs hg8)
              all_goals
                have hap := HOW2.out.append (x := (sy : Int)) (v' := .slice (some ⟨g7, 0, none⟩) (j + 1) cap7) hr6 hr11 hcs (by rw [HLs.out]; exact hown7) hg8 (by rcases hat7 with h | h; exact .inl h.symm; exact .inr (by rw [World.size_alloc, h]; rfl))
                have HAP := Lib.hid (hap.congr hstep.out)
                have hlt8 := HOwn.out.lt
                have hB8 : Below (w3.heap.size + 1) wr w7 := ((Below.refl _ wr).alloc (by omega) _).grown hg8 (by rw [World.size_alloc]; omega) (fun q hq => (hlt8 q hq).1)
                have HL8 := Lib.hid ((HLOW2.out.grown hB8).setHi hr6 (.slice (some ⟨g7, 0, none⟩) (j + 1) cap7))
                have hB7 : Below w3.heap.size w3 w7 := hB2.trans (hB8.mono (by omega))
                clear hap hown7 hg7 hg8 hat7 hlt8 hc7 hf7 hB8
                go_wp2_with fail
                go_roundg (m - (j + 1))
                case measure => omega
                case rel => exact ⟨j + 1, by omega, Nat.le_refl _, by go_num, HL8.out, HAP.out, hB7.setCell (p := ⟨w3.heap.size, r, none⟩) (Nat.le_refl _) _⟩
            · have hjm' : j = (H k).length := by have := hmG.out; omega
              have HN2 := Lib.hid (HOW2.out.congr (fun x _ _ => by unfold ciG; rw [hjm', hiP_next] : ∀ x, 6 ≤ x → x < 11 → ciG (hiP k j H) x = ciG (hiP (k + 1) 0 H) x))
              clear hjm'
              go_wp2_with fail
              go_roundg (5 - (k + 1))
              case measure => omega
              case rel => exact ⟨k + 1, by omega, Nat.le_refl _, by go_num, HLOW2.out, HN2.out, hB2⟩
        · have hlt5I : ¬ (k : Int) < 5 := by omega
          obtain rfl : k = 5 := by omega
          have HJ := Lib.hid (RowsJ.of (HLOW.out.congr (fun x hx => lowJ (H := H) x hx)) (HOW.out.congr (fun x h6 h11 => hiP_full (G := G) x h6 h11)))
          have hgbr : w3.heap.size < wr.heap.size := HOW.out.2.1
          have hzr := hB.size
          have HRGr := Lib.hid (HRG.out.below hB (show gw < w3.heap.size by omega))
          have HRHr := Lib.hid (HRH.out.below hB hgv)
          have hgwr : gw < wr.heap.size := by omega
          have hgvr : gv < wr.heap.size := by omega
          clear HLOW HOW
          go_wp2_with fail
          refine (hpu wr).mono ?_
          rintro e wr' ⟨rfl, rfl⟩
          go_wp2_with fail
          refine (hpv wr).mono ?_
          rintro e wr' ⟨rfl, rfl⟩
          go_wp2_with fail
          refine (above_ok (g := ciG G) (by omega) (fun j _ => by unfold ciG; rw [ci_length]; have := HGL.out j; omega) HF.out.ranked (HRGr.out.rows hgwr) hu).mono ?_
          rintro e w4 ⟨o, A3, c3, hh3, hl3, rfl, hI3, hb4, _⟩
          have HT3 := Lib.hid (hh3.topo hl3)
          have HH3 := Lib.hid hh3
          have hz4 := hb4.size
          have HI3 := Lib.hid hI3
          have hl1 := abo_len (g := ciG G) (v := u) hl3
          have HJ4 := Lib.hid (HJ.out.below hb4 hgbr)
          have hLJ : Hid (∀ j, j < 11 → (ciG (fullJ G H) j).length ≤ 40) := fun j _ => by
            have h1 := HGL.out j
            have h2 := HGLH.out (j - 6)
            unfold ciG fullJ
            rw [ci_length]
            split
            · exact h1
            · rw [List.length_map]; exact h2
          clear hh3 hl3 hI3
          go_wp2_with fail
          refine (above_ok (g := ciG (fullJ G H)) (f := rkJ) (by omega) (fun j hj => by have := hLJ.out j hj; omega) (ranked_J HF.out HFH.out) (HJ4.out.rows (by omega)) (show u < 11 by omega)).mono ?_
          rintro e w5 ⟨o5, A5, c5, hh5, hl5, rfl, hI5, hb5, _⟩
          rw [same_above HF.out HH3.out HT3.out hh5 (hh5.topo hl5) hu] at hI5 ⊢
          have hz5 := hb5.size
          obtain ⟨p, hp⟩ : ∃ p, p = aboOf (ciG G) u o := ⟨_, rfl⟩
          have hpn := aboOf_nodup HT3.out u
          have hpm : ∀ b, b ∈ aboOf (ciG G) u o ↔ b < 6 ∧ Ab (ciG G) u b := fun b => mem_aboOf HT3.out
          rw [← hp] at HI3 hI5 hpn hpm hl1 ⊢
          have HI5 := Lib.hid hI5
          have HPN := Lib.hid hpn
          have HPM := Lib.hid hpm
          have HJ5 := Lib.hid (HJ4.out.below hb5 (by omega))
          clear hh5 hl5 hI5 hp hpn hpm
          go_wp2_with fail
          refine (same_ci A3 A5 c3 c5 p w5 (by omega) ((HI3.out.below hb5 (Nat.le_refl _)).more hz5) HI5.out).mono ?_
          rintro e w6 ⟨rfl, nn, hw6⟩
          have hb6 : Below w5.heap.size w5 w6 := hw6 ▸ below_drewN (Below.refl _ w5) nn
          have hz6 := hb6.size
          have hb36 : Below wr.heap.size wr w6 := hb4.trans ((hb5.trans (hb6.mono hz5)).mono hz4)
          have HRH6 := Lib.hid (HRHr.out.below hb36 hgvr)
          have HJ6 := Lib.hid (HJ5.out.below hb6 (by omega))
          clear hw6
          go_wp2_with fail
          refine (above_ok (g := ciG H) (by omega) (fun j _ => by unfold ciG; rw [ci_length]; have := HGLH.out j; omega) HFH.out.ranked (HRH6.out.rows (by omega)) hv).mono ?_
          rintro e w7 ⟨o7, A7, c7, hh7, hl7, rfl, hI7, hb7, _⟩
          have hT7 := hh7.topo hl7
          have hl2 := abo_len (g := ciG H) (v := v) hl7
          obtain ⟨xl, hxl⟩ : ∃ xl, xl = aboOf (ciG H) v o7 := ⟨_, rfl⟩
          have hxn := aboOf_nodup hT7 v
          have hxm : ∀ b, b ∈ aboOf (ciG H) v o7 ↔ b < 5 ∧ Ab (ciG H) v b := fun b => mem_aboOf hT7
          rw [← hxl] at hxn hxm hl2 ⊢
          have HXN := Lib.hid hxn
          have HXM := Lib.hid hxm
          have hz7 := hb7.size
          have hb37 : Below wr.heap.size wr w7 := hb36.trans (hb7.mono (by omega))
          have HJ7 := Lib.hid (HJ6.out.below hb7 (by omega))
          clear hh7 hl7 hI7 hT7 hxl hxn hxm
          obtain ⟨r, hr⟩ : ∃ r, r = 6 + v := ⟨_, rfl⟩
          have hrI : (6 : Int) + (v : Int) = (r : Int) := by omega
          have hr11 : r < 11 := by omega
          have hr6 : 6 ≤ r := by omega
          have HRr := Lib.hid hr
          obtain ⟨hfr, Ar, cr, hcr, hler, hIr, _⟩ := HJ7.out r hr11
          obtain ⟨m, hm⟩ : ∃ m, m = (ciG (fullJ G H) r).length := ⟨_, rfl⟩
          have hm40 : m ≤ 40 := by rw [hm]; exact hLJ.out r hr11
          rw [← hm] at hcr hler
          have HM := Lib.hid hm
          have HIr := Lib.hid hIr
          have hcr2 := Lib.cell?_alloc_some (Obj.cells #[] 3) hcr
          have hgb7 : w3.heap.size < w7.heap.size := by omega
          clear hm hIr hr
          go_wp2_with (at_builtin; refine wpList_append_ints rfl (.tmp 114) (.tmp 119) rfl w7.heap.size i0 hi hi0 hi1 hi2 _ 0 [] rfl (World.ownsRow_made w7 #[] 0 (Nat.le_refl _) (Nat.zero_le _) (by simp)) Ar m cr w7.heap.size (ciG (fullJ G H) r) rfl HM.out ((HIr.out.below ((Below.refl _ w7).alloc (Nat.le_refl _) _) (Nat.le_refl _))) (by omega) (by rw [World.size_alloc]; omega) ?_)
          intro v8 w8 hown8 hg8
          have hs8 := hg8.size
          rw [World.size_alloc] at hs8
          have hB8 : Below w7.heap.size w7 w8 := ((Below.refl _ w7).alloc (Nat.le_refl _) _).grown hg8 (by rw [World.size_alloc]; omega) (fun q hq => by simp [Value.ownBlock] at hq; omega)
          have hlt8 := hown8.lt
          have HOwn8 := Lib.hid hown8
          clear hown8
          go_wp2_with (at_builtin; refine wpList_append_own _ rfl _ _ 25 rfl w7.heap.size 3 i0 (.int .i64 0) 1 8 Try.underlying25 hi hi0 hi1 hi2 rfl (by decide) v8 m (iv (ciG (fullJ G H) r)) rfl (HOwn8.out.alloc _) ⟨w8.heap.size, 0, none⟩ 1 1 [.int .i64 (u : Int)] rfl rfl (cell_one_new _ _ _) (iv_one [(u : Int)]) (by unfold maxLen; omega) (by omega) (by rw [World.size_alloc]; omega) ?_; intro v9 w9 hown9 hg9 _; obtain ⟨g9, cap9, rfl⟩ := own_succ hown9; have hB9 : Below w7.heap.size w7 w9 := (hB8.alloc (by omega) _).grown hg9 (by rw [World.size_alloc]; omega) (fun q hq => by have := (hlt8 q hq).1; omega); have hfr9 := (hB9.frozen (p := ⟨w3.heap.size, r, none⟩) hgb7).trans hfr; have hcr9 := (hB9.cell (p := ⟨w3.heap.size, r, none⟩) hgb7).trans hcr)
          obtain ⟨hle9, hbb9⟩ := own_cap hown9
          have hL9 : (ciG (fullJ G H) r ++ [(u : Int)]).length = m + 1 := by rw [List.length_append, ← HM.out]; rfl
          have hI9 : IntsAt w9 w9.heap.size (some ⟨g9, 0, none⟩) (ciG (fullJ G H) r ++ [(u : Int)]) := IntsAt.of_own (base := w7.heap.size) (n := m + 1) (c := cap9) (by unfold iv at hown9 ⊢; simpa using hown9)
          have hst : RowsJ (w9.setCell ⟨w3.heap.size, r, none⟩ (.slice (some ⟨g9, 0, none⟩) (m + 1) cap9)) w3.heap.size 11 (addE (ciG (fullJ G H)) r u) := by
            have := (HJ7.out.below hB9 hgb7).store (Ak := some ⟨g9, 0, none⟩) (ck := cap9) (l := ciG (fullJ G H) r ++ [(u : Int)]) hr11 (by rw [hL9]; exact hle9) hI9 (by rintro ad e; have h := hbb9 _ rfl; injection e with e; subst e; show g9 ≠ w3.heap.size; have h' : w7.heap.size ≤ g9 := h; omega)
            rw [hL9] at this
            exact this
          have hz9 := hB9.size
          have hz10 : (w9.setCell ⟨w3.heap.size, r, none⟩ (.slice (some ⟨g9, 0, none⟩) (m + 1) cap9)).heap.size = w9.heap.size := size_setCell _ _ _
          have hb10 : Below w3.heap.size w3 (w9.setCell ⟨w3.heap.size, r, none⟩ (.slice (some ⟨g9, 0, none⟩) (m + 1) cap9)) := (hB.trans ((hb37.trans (hB9.mono (by omega))).mono hzr)).setCell (p := ⟨w3.heap.size, r, none⟩) (Nat.le_refl _) _
          have hrk : Ranked (addE (ciG (fullJ G H)) r u) 11 rkJ := by rw [HRr.out]; exact ranked_E (ranked_J HF.out HFH.out) hu
          have hlE : ∀ i, i < 11 → (addE (ciG (fullJ G H)) r u i).length ≤ 1000 := fun i hi => by
            have h1 := hLJ.out i hi
            have h2 := hLJ.out r hr11
            unfold addE upd
            split
            · rw [List.length_append]; simp only [List.length_cons, List.length_nil]; omega
            · omega
          refine (above_ok (g := addE (ciG (fullJ G H)) r u) (f := rkJ) (by omega) hlE hrk (hst.rows (by omega)) hr11).mono ?_
          rintro e w11 ⟨o11, A11, c11, hh11, hl11, rfl, hI11, hb11, _⟩
          have hT11 := hh11.topo hl11
          obtain ⟨hlq, huq⟩ := join_len HF.out HFH.out hv hu (aboOf_nodup hT11 r) HPN.out HXN.out (fun b => by rw [← HRr.out]; exact mem_aboOf hT11) HPM.out HXM.out
          have hlq12 := abo_len (g := addE (ciG (fullJ G H)) r u) (v := r) hl11
          obtain ⟨q, hq⟩ : ∃ q, q = aboOf (addE (ciG (fullJ G H)) r u) r o11 := ⟨_, rfl⟩
          rw [← hq] at hlq huq hI11 hlq12 ⊢
          have hasC := has_ci (c := c11) (by omega) hI11 true (memB_yes (mem_ci.2 huq))
          obtain ⟨N, hN⟩ : ∃ N, N = q.length := ⟨_, rfl⟩
          obtain ⟨M, hM⟩ : ∃ M, M = xl.length + p.length := ⟨_, rfl⟩
          have hMI : (xl.length : Int) + (p.length : Int) = (M : Int) := by omega
          have hNI : (M : Int) + 1 = (N : Int) := by omega
          have hN12 : N ≤ 11 := by omega
          have hbE : Below w.heap.size w w11 := hb1.trans ((hb2.trans ((hb3.trans ((hb10.trans (hb11.mono (by omega))).mono hz3)).mono hz2)).mono hz1)
          rw [← hN] at hasC ⊢
          have HASC := Lib.hid hasC
          clear hst hI9 hL9 hown9 hg9 hg8 hB8 hB9 hfr9 hcr9 hb10 hz10 hrk hlE hh11 hl11 hI11 hb11 hT11 hlq huq hlq12 hq hasC hN hM hlt8
          go_wp2_with fail
          refine HASC.out.mono ?_
          rintro e w12 ⟨rfl, rfl⟩
          go_wp2_with fail
          go_ret
          exact ⟨rfl, hbE⟩

end Go.Proofs.Ytlkgnafbipgpbaa
