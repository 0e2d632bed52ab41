/- The walk of falling. -/
import Derived.Test.YtlkgnafbipgpbaaL4
namespace Go.Proofs.Ytlkgnafbipgpbaa
open Go.RowKit Go.Maps

theorem quo_wf {x : Int} {n : Nat} (hx : wfI x) (hn : 2 ≤ n) : wfI (x.tdiv (n : Int)) ∧ wrap64 (x.tdiv (n : Int)) = x.tdiv (n : Int) := by
  unfold wfI at hx ⊢
  have hb : -9223372036854775808 ≤ x.tdiv (n : Int) ∧ x.tdiv (n : Int) ≤ 9223372036854775807 := by
    have h1 : (x.tdiv (n : Int)).natAbs = x.natAbs / n := by rw [Int.natAbs_tdiv, Int.natAbs_natCast]; rfl
    have h2 : x.natAbs / n ≤ x.natAbs / 2 := Nat.div_le_div_left hn (by omega)
    have h3 : x.natAbs / 2 ≤ 4611686018427387904 := by omega
    omega
  exact ⟨hb, by unfold wrap64; omega⟩

theorem RowsOwn.keeps {w w' : World} {gw n base k : Nat} {G : Nat → List Int} {vk : Value} {o : Obj} (h : RowsOwn w gw n base G) (hk : k < n) (hc : w.cell? ⟨gw, k, none⟩ = some vk) (hg : (w.alloc o).grownBy w' vk.ownBlock) :
    w'.cell? ⟨gw, k, none⟩ = some vk ∧ w'.frozen? ⟨gw, k, none⟩ = false := by
  obtain ⟨hgb, hbs, hrows⟩ := h
  obtain ⟨vk', hk1, hk2, hk3, _⟩ := hrows k hk
  rw [hc] at hk2
  injection hk2 with hk2
  subst hk2
  have hgk : some gw ≠ vk.ownBlock := fun e => by have := (hk3.lt gw e.symm).1; omega
  refine ⟨hg.cell (Lib.cell?_alloc_some _ hc) hgk, ?_⟩
  rw [hg.frozen_far ⟨gw, k, none⟩ (by rw [World.size_alloc]; show gw < _; omega) hgk, World.frozen?_alloc_old _ _ _ (by show gw ≠ _; omega)]
  exact hk1

set_option maxRecDepth 100000 in
set_option maxHeartbeats 8000000 in
theorem falling_any (A : Option Addr) (n c : Nat) (xs : List Int) (t : Bool) (w : World) (hn : n ≤ 12) (_hlen : xs.length ≤ 9223372036854775807) (hx : ∀ x, x ∈ xs → wfI x) (hI : IntsAt w w.heap.size A xs) :
    Calls Try.prog 22 #[.int .i64 (n : Int), .slice A xs.length c, .bool t] w (FallOut n t w) := by
  obtain ⟨i0, hi, hi0, hi1, hi2⟩ := info_parts Try.info3
  have HX := Lib.hid hx
  have HI := Lib.hid hI
  clear hx hI
  have hmk := make_rows n (by omega)
  go_enter Try.func22, Try.ntmps22
  go_wp2_with fail
  have hb0 : Below w.heap.size w (w.alloc (.cells (madeCells #[.slice none 0 0] n) 25)) := (Below.refl _ w).alloc (Nat.le_refl _) _
  go_loopg [8] 41 (fun gg s8 wr => ∃ (i : Nat) (G : Nat → List Nat), i ≤ 40 ∧ 41 - i ≤ gg ∧ s8 = .int .i64 i ∧ RowsOwn wr w.heap.size n (w.heap.size + 1) (ciG G) ∧ Falls n t G ∧ (∀ v, (G v).length ≤ i) ∧ Below w.heap.size w wr)
  case atStart => exact ⟨0, fun _ => [], by omega, by omega, rfl, RowsOwn.new n w, fun v _ x hx => by simp at hx, fun v => by simp, hb0⟩
  case round =>
    obtain ⟨i, G, hi40, hgg, rfl, hr, hF, hGl, hB⟩ := hrel
    have HR := Lib.hid hr
    have HF := Lib.hid hF
    have HGL := Lib.hid hGl
    have hbs := hr.2.1
    clear hr hF hGl
    by_cases hgo : i < xs.length ∧ i < 40 ∧ 1 < n
    · obtain ⟨hil, hi4, hn1⟩ := hgo
      obtain ⟨ad, hA, _, hc⟩ := (HI.out.below hB (Nat.le_refl _)).at_ hil
      obtain ⟨x, hxe⟩ : ∃ x, x = xs[i] := ⟨_, rfl⟩
      rw [← hxe] at hc
      have hwx : wfI x := HX.out x (by rw [hxe]; exact List.getElem_mem _)
      clear hxe
      obtain ⟨n1, hn1e⟩ : ∃ n1 : Nat, n1 = n - 1 := ⟨_, rfl⟩
      have hn1I : (n : Int) - 1 = (n1 : Int) := by omega
      obtain ⟨k1, hk1, hp1⟩ := pick_any x n1 hwx (by omega) (by omega)
      obtain ⟨a, hae⟩ : ∃ a : Nat, a = k1 + 1 := ⟨_, rfl⟩
      have haI : (1 : Int) + (k1 : Int) = (a : Int) := by omega
      obtain ⟨hwq, hqw⟩ := quo_wf hwx (show 2 ≤ n by omega)
      obtain ⟨q, hqe⟩ : ∃ q, x.tdiv (n : Int) = q := ⟨_, rfl⟩
      rw [hqe] at hwq hqw
      obtain ⟨k2, hk2, hp2⟩ := pick_any q a hwq (by omega) (by omega)
      have han : a < n := by omega
      have hk2n : k2 < n := by omega
      have h1n1 : 1 ≤ n1 := by omega
      have han1 : a ≤ n1 := by omega
      have h1a : 1 ≤ a := by omega
      have HAE := Lib.hid hae
      have HN1 := Lib.hid hn1e
      clear hae hn1e
      subst hA
      cases t with
      | false =>
        obtain ⟨vi, hfr, hcv, hown, _⟩ := HR.out.2.2 a (by omega)
        obtain ⟨Av, cv, rfl⟩ := own_shape hown
        have HOwn := Lib.hid hown
        have HCV := Lib.hid hcv
        have hlv := HGL.out a
        have hone := Lib.hid (cell_one_new wr (.int .i64 (k2 : Int)) 3)
        have hle : (ciG G a).length ≤ 40 := by unfold ciG; rw [ci_length]; omega
        clear hown
        go_wp2_with fail
        refine (hp1 wr).mono ?_
        rintro e w1 ⟨rfl, rfl⟩
        go_wp2_with fail
        rw [hqw]
        refine (hp2 wr).mono ?_
        rintro e w1 ⟨rfl, rfl⟩
        go_wp2_with (at_builtin; refine wpList_append_own_at _ rfl _ _ 25 rfl (w.heap.size + 1) 3 i0 (.int .i64 0) 1 8 Try.underlying25 hi hi0 hi1 hi2 rfl (by decide) _ _ _ rfl (HOwn.out.alloc _) ⟨wr.heap.size, 0, none⟩ 1 1 [.int .i64 (k2 : Int)] rfl rfl hone.out (iv_one [(k2 : Int)]) (by unfold maxLen; omega) (by omega) (by rw [World.size_alloc]; omega) ?_; intro v6 w6 hown6 hg6 _ hat6; obtain ⟨g6, cap6, rfl⟩ := own_succ hown6; obtain ⟨hc6, hf6⟩ := HR.out.keeps (by omega) HCV.out hg6)
        have happ := HR.out.append (by omega) HCV.out hown6 hg6 hat6
        have HAPP := Lib.hid (happ.congr (fun j _ => ciG_upd G a k2 j))
        have hs6 := hg6.size
        rw [World.size_alloc] at hs6
        have hlt6 := fun q hq => (HOwn.out.lt q hq).1
        have hB6 : Below w.heap.size w w6 := (hB.alloc (by omega) _).grown hg6 (by rw [World.size_alloc]; omega) (fun q hq => by have := hlt6 q hq; omega)
        clear happ hown6 hat6 hlt6
        go_roundg (41 - (i + 1))
        case measure => omega
        case rel =>
          refine ⟨i + 1, updN G a (G a ++ [k2]), by omega, Nat.le_refl _, by go_num, HAPP.out, HF.out.add (by omega) (by show k2 < a; omega), fun v => ?_, hB6.setCell (p := ⟨w.heap.size, a, none⟩) (Nat.le_refl _) _⟩
          have hv := HGL.out v
          unfold updN
          split
          · rename_i e; subst e; simp only [List.length_append, List.length_cons, List.length_nil]; omega
          · omega
      | true =>
        obtain ⟨ta, hta⟩ : ∃ ta : Nat, ta = n1 - a := ⟨_, rfl⟩
        have htaI : (n1 : Int) - (a : Int) = (ta : Int) := by omega
        obtain ⟨tb, htb⟩ : ∃ tb : Nat, tb = n1 - k2 := ⟨_, rfl⟩
        have htbI : (n1 : Int) - (k2 : Int) = (tb : Int) := by omega
        have htan : ta < n := by have := HN1.out; omega
        have htbn : tb < n := by have := HN1.out; omega
        have htab : ta < tb := by omega
        have HTA := Lib.hid hta
        have HTB := Lib.hid htb
        clear hta htb
        obtain ⟨vi, hfr, hcv, hown, _⟩ := HR.out.2.2 ta (by omega)
        obtain ⟨Av, cv, rfl⟩ := own_shape hown
        have HOwn := Lib.hid hown
        have HCV := Lib.hid hcv
        have hlv := HGL.out ta
        have hone := Lib.hid (cell_one_new wr (.int .i64 (tb : Int)) 3)
        have hle : (ciG G ta).length ≤ 40 := by unfold ciG; rw [ci_length]; omega
        clear hown
        go_wp2_with fail
        refine (hp1 wr).mono ?_
        rintro e w1 ⟨rfl, rfl⟩
        go_wp2_with fail
        rw [hqw]
        refine (hp2 wr).mono ?_
        rintro e w1 ⟨rfl, rfl⟩
        go_wp2_with (at_builtin; refine wpList_append_own_at _ rfl _ _ 25 rfl (w.heap.size + 1) 3 i0 (.int .i64 0) 1 8 Try.underlying25 hi hi0 hi1 hi2 rfl (by decide) _ _ _ rfl (HOwn.out.alloc _) ⟨wr.heap.size, 0, none⟩ 1 1 [.int .i64 (tb : Int)] rfl rfl hone.out (iv_one [(tb : Int)]) (by unfold maxLen; omega) (by omega) (by rw [World.size_alloc]; omega) ?_; intro v6 w6 hown6 hg6 _ hat6; obtain ⟨g6, cap6, rfl⟩ := own_succ hown6; obtain ⟨hc6, hf6⟩ := HR.out.keeps (by omega) HCV.out hg6)
        have happ := HR.out.append (by omega) HCV.out hown6 hg6 hat6
        have HAPP := Lib.hid (happ.congr (fun j _ => ciG_upd G ta tb j))
        have hs6 := hg6.size
        rw [World.size_alloc] at hs6
        have hlt6 := fun q hq => (HOwn.out.lt q hq).1
        have hB6 : Below w.heap.size w w6 := (hB.alloc (by omega) _).grown hg6 (by rw [World.size_alloc]; omega) (fun q hq => by have := hlt6 q hq; omega)
        clear happ hown6 hat6 hlt6
        go_roundg (41 - (i + 1))
        case measure => omega
        case rel =>
          refine ⟨i + 1, updN G ta (G ta ++ [tb]), by omega, Nat.le_refl _, by go_num, HAPP.out, HF.out.add (by omega) (by show ta < tb; omega), fun v => ?_, hB6.setCell (p := ⟨w.heap.size, ta, none⟩) (Nat.le_refl _) _⟩
          have hv := HGL.out v
          unfold updN
          split
          · rename_i e; subst e; simp only [List.length_append, List.length_cons, List.length_nil]; omega
          · omega
    · have fin : FallOut n t w (.returned (.slice (some ⟨w.heap.size, 0, none⟩) n n)) wr := ⟨w.heap.size, G, rfl, HR.out.out, by omega, Nat.le_refl _, HF.out, fun v => by have := HGL.out v; omega, hB⟩
      have HFIN := Lib.hid fin
      clear fin
      by_cases h1 : i < xs.length
      · by_cases h2 : i < 40
        · have h3 : ¬ 1 < n := fun h3 => hgo ⟨h1, h2, h3⟩
          clear hgo
          go_wp2_with fail
          go_ret
          exact HFIN.out
        · clear hgo
          go_wp2_with fail
          go_ret
          exact HFIN.out
      · clear hgo
        go_wp2_with fail
        go_ret
        exact HFIN.out

end Go.Proofs.Ytlkgnafbipgpbaa
