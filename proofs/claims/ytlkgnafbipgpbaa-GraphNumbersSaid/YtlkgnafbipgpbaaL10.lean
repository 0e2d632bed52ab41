/- The walk of GraphNumbers: true, for any graph that falling makes, turned round by any number. -/
import Derived.Test.YtlkgnafbipgpbaaM5
import Derived.Deep.RegionHeld3
import Derived.Deep.AppendLies
import Derived.Deep.RegionLaw
import Derived.Laws.BitsLemmas
namespace Go.Proofs.Ytlkgnafbipgpbaa
open Go.RowKit Go.Maps

set_option maxRecDepth 100000 in
set_option maxHeartbeats 16000000 in
theorem numbers_any (many : Int) (A : Option Addr) (c : Nat) (xs : List Int) (t : Bool) (a_ b_ : Int) (h1 : wfI many) (h2 : wfI a_) (h3 : wfI b_) (hlen : xs.length ≤ 9223372036854775807) (hx : ∀ x, x ∈ xs → wfI x) (w : World) (hI : IntsAt w w.heap.size A xs) :
    Calls Try.prog 6 #[.int .i64 many, .slice A xs.length c, .bool t, .int .i64 a_, .int .i64 b_] w fun e w' => e = .returned (.bool true) ∧ Below w.heap.size w w' := by
  obtain ⟨k0, hk0, hp⟩ := pick_any many 12 h1 (by omega) (by omega)
  have hp : PickIs many 12 k0 := hp
  obtain ⟨n, hn⟩ : ∃ n : Nat, n = k0 + 1 := ⟨_, rfl⟩
  obtain ⟨k, hk, hpk⟩ := pick_any a_ n h2 (by omega) (by omega)
  obtain ⟨v, hv, hpv⟩ := pick_any b_ n h3 (by omega) (by omega)
  have hnI : (1 : Int) + (k0 : Int) = (n : Int) := by omega
  have hn12 : n ≤ 12 := by omega
  have HN := Lib.hid hn
  have HX := Lib.hid hx
  have hmk := make_rows n (by omega)
  obtain ⟨i0, hi, hi0, hi1, hi2⟩ := info_parts Try.info3
  clear hn hx
  go_enter Try.func6, Try.ntmps6
  go_wp2_with fail
  refine (shown_any w).mono ?_
  rintro e w1 ⟨rfl, hb1⟩
  have hz1 := hb1.size
  go_wp2_with fail
  refine (hp w1).mono ?_
  rintro e w1' ⟨rfl, rfl⟩
  go_wp2_with fail
  refine (falling_any A n c xs t w1 hn12 hlen HX.out ((hI.below hb1 (Nat.le_refl _)).more hz1)).mono ?_
  rintro e w2 ⟨gw, G, rfl, hr, hgw, hgw2, hF, hGl, hb2⟩
  have HR := Lib.hid hr
  have HF := Lib.hid hF
  have HGL := Lib.hid hGl
  have hz2 := hb2.size
  have HCL := Lib.hid hF.ranked.closed
  clear hr hF hGl
  go_wp2_with fail
  refine (hpk w2).mono ?_
  rintro e w2' ⟨rfl, rfl⟩
  go_wp2_with fail
  have hbm : Below w2.heap.size w2 (w2.alloc (.cells (madeCells #[.slice none 0 0] n) 25)) := (Below.refl _ w2).alloc (Nat.le_refl _) _
  go_loopg [16] n (fun gg s16 wr => ∃ i : Nat, i ≤ n ∧ n - i ≤ gg ∧ s16 = .int .i64 i ∧ RowsOwn wr w2.heap.size n (w2.heap.size + 1) (ciG (partH n k i 0 G)) ∧ Below w2.heap.size w2 wr)
  case atStart => exact ⟨0, Nat.zero_le _, by omega, rfl, (RowsOwn.new n w2).congr (fun x _ => (partH_zero x).symm), hbm⟩
  case round =>
    obtain ⟨i, hin, hgg, rfl, hh, hB⟩ := hrel
    have HH := Lib.hid hh
    clear hh
    by_cases hlt : i < n
    · obtain ⟨hfg, Ai, ci', hcg, hleg, hIg, hneg⟩ := HR.out i hlt
      obtain ⟨m, hm⟩ : ∃ m, m = (ciG G i).length := ⟨_, rfl⟩
      have hm40 : m ≤ 1000 := by rw [hm]; exact ciG_len HGL.out
      have hmG : Hid (m = (G i).length) := by rw [hm]; unfold ciG; rw [ci_length]; exact Lib.hid rfl
      rw [← hm] at hcg hleg
      have HIg := Lib.hid hIg
      clear hm hIg hneg
      have hcgr := (hB.cell (p := ⟨gw, i, none⟩) hgw).trans hcg
      go_wp2_with fail
      go_loopg [17] m (fun gg s17 wq => ∃ j : Nat, j ≤ m ∧ m - j ≤ gg ∧ s17 = .int .i64 j ∧ RowsOwn wq w2.heap.size n (w2.heap.size + 1) (ciG (partH n k i j G)) ∧ Below w2.heap.size w2 wq)
      case atStart => exact ⟨0, Nat.zero_le _, by omega, rfl, HH.out, hB⟩
      case round =>
        obtain ⟨j, hjm, hgj, rfl, hh2, hB2⟩ := hrel
        have HH2 := Lib.hid hh2
        clear hh2
        have hcg2 := (hB2.cell (p := ⟨gw, i, none⟩) hgw).trans hcg
        by_cases hltj : j < m
        · obtain ⟨y, hy⟩ : ∃ y, (G i)[j]? = some y := ⟨_, List.getElem?_eq_getElem (by have := hmG.out; omega)⟩
          have hyn : y < n := (HF.out i hlt y (List.mem_of_getElem? hy)).1
          obtain ⟨ad, hA, hcy⟩ := IntsAt.nat (l := G i) (HIg.out.below hB2 (Nat.le_refl _)) hy
          obtain ⟨s, hs⟩ : ∃ s, s = sh n k i := ⟨_, rfl⟩
          obtain ⟨sy, hsy⟩ : ∃ sy, sy = sh n k y := ⟨_, rfl⟩
          have hsn : s < n := by rw [hs]; exact sh_lt hk hlt
          have hw1 : IntKind.i64.wrap ((i : Int) + (k : Int)) = (i : Int) + (k : Int) := by rw [IntKind.wrap_i64]; omega
          have hw2 : IntKind.i64.wrap ((y : Int) + (k : Int)) = (y : Int) + (k : Int) := by rw [IntKind.wrap_i64]; omega
          have hsI : ((i : Int) + (k : Int)).tmod (n : Int) = (s : Int) := by rw [hs]; exact sh_mod hk hlt
          have hsyI : ((y : Int) + (k : Int)).tmod (n : Int) = (sy : Int) := by rw [hsy]; exact sh_mod hk hyn
          have hsyn : sy < n := by rw [hsy]; exact sh_lt hk hyn
          obtain ⟨vi, hfs, hcs, hown, _⟩ := HH2.out.2.2 s hsn
          have hLs : (ciG (partH n k i j G) s).length = j := by
            unfold ciG
            rw [hs, partH_at hk hlt, ci_length, List.length_map, List.length_take, ← hmG.out]
            omega
          have HLs := Lib.hid hLs
          have hbs := HH2.out.2.1
          rw [hLs] at hown
          obtain ⟨Av, cv, rfl⟩ := own_shape hown
          have hcs2 := Lib.cell?_alloc_some (Obj.cells #[.int .i64 (sy : Int)] 3) hcs
          have hstep := Lib.hid (partH_step hk hlt hy)
          rw [← hs, ← hsy] at hstep
          have HS := Lib.hid hs
          have HSY := Lib.hid hsy
          have HOwn := Lib.hid hown
          have hone := Lib.hid (cell_one_new wr (.int .i64 (sy : Int)) 3)
          have hn0 : ¬ n = 0 := by omega
          subst hA
          clear hy hs hsy hown hLs
          go_wp2_with fail
          go_region_law (refine step_append_lies _ (by rfl) (.tmp 66) (.tmp 78) _ (by rfl) (w2.heap.size + 1) 3 i0 _ 1 8 Try.underlying25 hi hi0 hi1 hi2 rfl (by omega) (.slice Av j cv) j _ (by rfl) ((HOwn.out.alloc _).drew) ⟨wr.heap.size, 0, none⟩ 1 1 [.int .i64 (sy : Int)] (by rfl) (by rfl) (World.news_of_block (cs := #[.int .i64 (sy : Int)]) (t := 3) (fr := (0, 0)) (heap_alloc_new wr _)) (iv_one [(sy : Int)]) (by omega) (by unfold maxLen; omega) (by omega) (by simp; omega) (wr.heap.size + 1) (by simp) ?_; intro g7 cap7 w7 hown7 hg7 hat7 hlt7; have hg8 : (wr.alloc (.cells #[.int .i64 (sy : Int)] 3)).grownBy w7 (Value.slice Av j cv).ownBlock := (grown_of_below ((Below.refl (wr.alloc (.cells #[.int .i64 (sy : Int)] 3)).heap.size (wr.alloc (.cells #[.int .i64 (sy : Int)] 3))).drew) _).trans hg7; obtain ⟨hc7, hf7⟩ := HH2.out.keeps hsn hcs hg8)
          all_goals
            have hap := HH2.out.append (x := (sy : Int)) (v' := .slice (some ⟨g7, 0, none⟩) (j + 1) cap7) hsn hcs (by rw [HLs.out]; exact hown7) hg8 (by rcases hat7 with h | h; exact .inl h.symm; exact .inr (by rw [World.size_alloc, h]; rfl))
            have HAP := Lib.hid (hap.congr hstep.out)
            have hlt8 := HOwn.out.lt
            have hB7 : Below w2.heap.size w2 w7 := (hB2.alloc (by omega) _).grown hg8 (by rw [World.size_alloc]; omega) (fun q hq => by have := (hlt8 q hq).1; omega)
            clear hap hown7 hg7 hg8 hat7 hlt8 hc7 hf7
            go_wp2_with fail
            go_roundg (m - (j + 1))
            case measure => omega
            case rel => exact ⟨j + 1, by omega, Nat.le_refl _, by go_num, HAP.out, hB7.setCell (p := ⟨w2.heap.size, s, none⟩) (Nat.le_refl _) _⟩
        · have hjm' : j = (G i).length := by have := hmG.out; omega
          have HN2 := Lib.hid (HH2.out.congr (fun x _ => by unfold ciG; rw [hjm', partH_next] : ∀ x, x < n → ciG (partH n k i j G) x = ciG (partH n k (i + 1) 0 G) x))
          clear hjm'
          go_wp2_with fail
          go_roundg (n - (i + 1))
          case measure => omega
          case rel => exact ⟨i + 1, by omega, Nat.le_refl _, by go_num, HN2.out, hB2⟩
    · have hin' : i = n := by omega
      have HFH := Lib.hid ((hin' ▸ HH.out).congr (fun x hx => by unfold ciG; rw [partH_full hk hx] : ∀ x, x < n → ciG (partH n k n 0 G) x = ciG (fullH n k G) x))
      have hHL : Hid (∀ v, v < n → (ciG (fullH n k G) v).length ≤ 1000) := fun v _ => by
        have := HGL.out (us n k v)
        unfold ciG fullH
        rw [ci_length, List.length_map]
        omega
      have HRr := Lib.hid (HR.out.below hB hgw)
      have hzr := hB.size
      have hgwr : gw < wr.heap.size := by omega
      have hghr : w2.heap.size < wr.heap.size := HH.out.2.1
      clear hin'
      go_wp2_with fail
      refine (hpv wr).mono ?_
      rintro e wr' ⟨rfl, rfl⟩
      go_wp2_with fail
      refine (above_ok (g := ciG G) (by omega) (fun j _ => ciG_len HGL.out) HF.out.ranked (HRr.out.rows hgwr) hv).mono ?_
      rintro e w3 ⟨o, A3, c3, hh3, hl3, rfl, hI3, hb3, _⟩
      have HT3 := Lib.hid (hh3.topo hl3)
      have hz3 := hb3.size
      have HI3 := Lib.hid hI3
      have hl1 := abo_len (g := ciG G) (v := v) hl3
      have HH3 := Lib.hid (HFH.out.out.below hb3 hghr)
      obtain ⟨sv, hsv⟩ : ∃ sv, sv = sh n k v := ⟨_, rfl⟩
      have hsvn : sv < n := by rw [hsv]; exact sh_lt hk hv
      have hwv : IntKind.i64.wrap ((v : Int) + (k : Int)) = (v : Int) + (k : Int) := by rw [IntKind.wrap_i64]; omega
      have hsvI : ((v : Int) + (k : Int)).tmod (n : Int) = (sv : Int) := by rw [hsv]; exact sh_mod hk hv
      have hn0 : ¬ n = 0 := by omega
      have HSV := Lib.hid hsv
      clear hh3 hl3 hI3 hsv
      go_wp2_with fail
      refine (above_ok (g := ciG (fullH n k G)) (by omega) hHL.out (HF.out.rankedH hk) (HH3.out.rows (by omega)) hsvn).mono ?_
      rintro e w4 ⟨o4, A4, c4, hh4, hl4, rfl, hI4, hb4, _⟩
      have hT4 := hh4.topo hl4
      have hz4 := hb4.size
      have hup : ∀ x, x ∈ aboOf (ciG G) v o → sh n k x ∈ aboOf (ciG (fullH n k G)) sv o4 := fun x hx => by
        obtain ⟨h6, h7⟩ := (mem_aboOf HT3.out).1 hx
        refine (mem_aboOf hT4).2 ⟨sh_lt hk h6, ?_⟩
        rw [HSV.out]
        exact ab_up hk HCL.out h7 hv
      have hdn : ∀ x, x ∈ aboOf (ciG (fullH n k G)) sv o4 → us n k x ∈ aboOf (ciG G) v o := fun x hx => by
        obtain ⟨h6, h7⟩ := (mem_aboOf hT4).1 hx
        refine (mem_aboOf HT3.out).2 ⟨us_lt hk h6, ?_⟩
        have h8 := ab_down hk HCL.out (HF.out.rankedH hk).closed h7 hsvn
        rw [HSV.out, us_sh hk hv] at h8
        exact h8
      have hleq := sh_len hk (aboOf_nodup HT3.out v) (aboOf_nodup hT4 sv) (fun x hx => ((mem_aboOf HT3.out).1 hx).1) (fun x hx => ((mem_aboOf hT4).1 hx).1) hup hdn
      have hun : ∀ x, x ∈ aboOf (ciG G) v o → x < n := fun x hx => ((mem_aboOf HT3.out).1 hx).1
      obtain ⟨us, hus⟩ : ∃ us, us = aboOf (ciG G) v o := ⟨_, rfl⟩
      obtain ⟨ws, hws⟩ : ∃ ws, ws = aboOf (ciG (fullH n k G)) sv o4 := ⟨_, rfl⟩
      rw [← hus] at HI3 hup hleq hl1 hun ⊢
      rw [← hws] at hI4 hup hleq ⊢
      have HI4 := Lib.hid hI4
      have HUP := Lib.hid hup
      have HUN := Lib.hid hun
      have HLE := Lib.hid hleq
      have HH4 := Lib.hid (HH3.out.below hb4 (by omega))
      rw [← hleq]
      clear hdn hup hun hleq hus hws hI4 hT4 hh4 hl4
      go_wp2_with fail
      refine (check_ok (g := ciG (fullH n k G)) (by omega) hHL.out (HF.out.rankedH hk) (HH4.out.rows (by omega))).mono ?_
      rintro e w5 ⟨rfl, hb5⟩
      have HJ3 := Lib.hid (HI3.out.below (hb4.trans (hb5.mono hz4)) (Nat.le_refl _))
      have HJ4 := Lib.hid (HI4.out.below hb5 (Nat.le_refl _))
      have hbE : Below w.heap.size w w5 := hb1.trans ((hb2.trans ((hB.trans ((hb3.trans ((hb4.trans (hb5.mono hz4)).mono hz3)).mono hzr)).mono hz2)).mono hz1)
      go_wp2_with fail
      go_loop [23] (fun s => ∃ j : Nat, j ≤ us.length ∧ s = .int .i64 j) (fun s => us.length - (intOf s).toNat)
      case atStart => exact ⟨0, Nat.zero_le _, rfl⟩
      case round =>
        obtain ⟨j, hj, rfl⟩ := hrel
        by_cases hltj : j < us.length
        · obtain ⟨y, hy⟩ : ∃ y, us[j]? = some y := ⟨_, List.getElem?_eq_getElem hltj⟩
          obtain ⟨ad, hA, hc⟩ := HJ3.out.nat hy
          have hyn : y < n := HUN.out y (List.mem_of_getElem? hy)
          obtain ⟨sy, hsy⟩ : ∃ sy, sy = sh n k y := ⟨_, rfl⟩
          have hw2 : IntKind.i64.wrap ((y : Int) + (k : Int)) = (y : Int) + (k : Int) := by rw [IntKind.wrap_i64]; omega
          have hsyI : ((y : Int) + (k : Int)).tmod (n : Int) = (sy : Int) := by rw [hsy]; exact sh_mod hk hyn
          have hm : memB (sy : Int) (ci ws) = true := memB_yes (mem_ci.2 (by rw [hsy]; exact HUP.out y (List.mem_of_getElem? hy)))
          have hasC := Lib.hid (has_ci (c := c4) (by have := HLE.out; omega) HJ4.out true hm)
          rw [← HLE.out] at hasC
          subst hA
          clear hy hsy hm
          go_wp2_with fail
          refine hasC.out.mono ?_
          rintro e w6 ⟨rfl, rfl⟩
          go_wp2_with fail
          go_round
          case rel => exact ⟨j + 1, by omega, by go_num⟩
          case measure => simp [intOf]; omega
        · go_wp2_with fail
          go_ret
          exact ⟨rfl, hbE⟩

end Go.Proofs.Ytlkgnafbipgpbaa
