/- The walk of GraphChains: true, for any chain and any node. -/
import Derived.Test.YtlkgnafbipgpbaaL2
namespace Go.Proofs.Ytlkgnafbipgpbaa
open Go.RowKit Go.Maps

theorem ci_get {l : List Nat} {j x : Nat} (h : l[j]? = some x) : (ci l)[j]? = some (x : Int) := by simp [ci, h]
theorem IntsAt.nat {w : World} {B j x : Nat} {A : Option Addr} {l : List Nat} (h : IntsAt w B A (ci l)) (hj : l[j]? = some x) : ∃ ad, A = some ad ∧ w.cell? (ad.add j) = some (.int .i64 (x : Int)) := by
  obtain ⟨hl, _⟩ := List.getElem?_eq_some_iff.1 hj
  obtain ⟨ad, e, _, hc⟩ := h (by rw [ci_length]; omega)
  exact ⟨ad, e, hc j _ (ci_get hj)⟩
theorem dn_get {n k i : Nat} (hi : i < k) : (dn n k)[i]? = some (n - 1 - i) := by simp [dn, hi]
theorem dn_length (n k : Nat) : (dn n k).length = k := by simp [dn]
def partG (v : Nat) : Nat → List Int := fun i => if i < v then [((i : Int) + 1)] else []
theorem partG_succ (v i : Nat) : partG (v + 1) i = upd (partG v) v [((v : Int) + 1)] i := by
  unfold partG upd
  by_cases e : i = v
  · subst e; simp
  · by_cases h : i < v
    · simp [e, h, show i < v + 1 by omega]
    · simp [e, h, show ¬ i < v + 1 by omega]
theorem partG_chain {n i : Nat} (hn : 1 ≤ n) (hi : i < n) : partG (n - 1) i = chainG n i := by
  unfold partG chainG
  by_cases h : i < n - 1
  · rw [if_pos h, if_pos (by omega)]; simp
  · rw [if_neg h, if_neg (by omega)]
theorem chain_len (n i : Nat) : (chainG n i).length ≤ 1000 := by unfold chainG; split <;> simp

set_option maxRecDepth 100000 in
set_option maxHeartbeats 8000000 in
theorem chains_any (many at_ : Int) (h1 : wfI many) (h2 : wfI at_) (w : World) :
    Calls Try.prog 7 #[.int .i64 many, .int .i64 at_] w fun e w' => e = .returned (.bool true) ∧ Below w.heap.size w w' := by
  obtain ⟨k, hk, hp⟩ := pick_any many 100 h1 (by omega) (by omega)
  have hp : PickIs many 100 k := hp
  obtain ⟨n, hn⟩ : ∃ n : Nat, n = k + 1 := ⟨_, rfl⟩
  obtain ⟨v, hv, hq⟩ := pick_any at_ n h2 (by omega) (by omega)
  have hnI : (1 : Int) + (k : Int) = (n : Int) := by omega
  have hn100 : n ≤ 100 := by omega
  have hn1 : 1 ≤ n := by omega
  have HN := Lib.hid hn
  clear hn
  obtain ⟨m, hm⟩ : ∃ m : Nat, m = n - 1 - v := ⟨_, rfl⟩
  have hmI : (n : Int) - 1 - (v : Int) = (m : Int) := by omega
  have HM := Lib.hid hm
  clear hm
  have hmk := make_rows n (by omega)
  go_enter Try.func7, Try.ntmps7
  go_wp2_with fail
  refine (shown_any w).mono ?_
  rintro e w1 ⟨rfl, hb1⟩
  have hz1 := hb1.size
  go_wp2_with fail
  refine (hp w1).mono ?_
  rintro e w1' ⟨rfl, rfl⟩
  go_wp2_with fail
  have hb2 : Below w1.heap.size w1 (w1.alloc (.cells (madeCells #[.slice none 0 0] n) 25)) := (Below.refl _ w1).alloc (Nat.le_refl _) _
  go_loopg [8] n (fun gg s8 wr => ∃ i : Nat, i < n ∧ n - i ≤ gg ∧ s8 = .int .i64 i ∧ RowsOut wr w1.heap.size n (partG i) ∧ Below w1.heap.size w1 wr ∧ w1.heap.size < wr.heap.size)
  case atStart => exact ⟨0, by omega, by omega, rfl, (rows_new n w1).congr (fun i _ => by simp [partG]), hb2, by simp⟩
  case round =>
    obtain ⟨i, hi, hgg, rfl, hr, hB, hz⟩ := hrel
    have HR := Lib.hid hr
    by_cases hlt : i + 1 < n
    · have hlI : (i : Int) + 1 < (n : Int) := by omega
      obtain ⟨hfr, Ai, ci', hci, _⟩ := hr.alloc hz (.cells #[.int .i64 ((i : Int) + 1)] 3) i hi
      clear hr
      have hone := ints_new wr ((i : Int) + 1)
      have hst := (HR.out.alloc hz (.cells #[.int .i64 ((i : Int) + 1)] 3)).store (Ak := some ⟨wr.heap.size, 0, none⟩) (ck := 1) (l := [((i : Int) + 1)]) hi (by simp) (by simpa using hone) (by rintro ad e; injection e with e; subst e; show wr.heap.size ≠ w1.heap.size; omega)
      have HST := Lib.hid (hst.congr (fun j _ => (partG_succ i j).symm))
      have hbs : Below w1.heap.size w1 ((wr.alloc (.cells #[.int .i64 ((i : Int) + 1)] 3)).setCell ⟨w1.heap.size, i, none⟩ (.slice (some ⟨wr.heap.size, 0, none⟩) 1 1)) := (hB.alloc (by omega) _).setCell (p := ⟨w1.heap.size, i, none⟩) (Nat.le_refl _) _
      have hcm : (wr.alloc (.cells #[.int .i64 ((i : Int) + 1)] 3)).setCell ⟨w1.heap.size, i, none⟩ (.slice (some ⟨wr.heap.size, 0, none⟩) 1 1) = (wr.setCell ⟨w1.heap.size, i, none⟩ (.slice (some ⟨wr.heap.size, 0, none⟩) 1 1)).alloc (.cells #[.int .i64 ((i : Int) + 1)] 3) := World.setCell_alloc_past _ _ _ _ hz
      have HCM := Lib.hid hcm
      clear hone hst hcm
      go_wp2_with fail
      go_roundg (n - (i + 1))
      case measure => omega
      case rel => exact ⟨i + 1, hlt, Nat.le_refl _, by go_num, by rw [← HCM.out]; exact HST.out, by rw [← HCM.out]; exact hbs, by rw [← HCM.out, size_setCell, World.size_alloc]; omega⟩
    · have hlI : ¬ (i : Int) + 1 < (n : Int) := by omega
      have hRc := hr.congr (fun j hj => (by rw [← partG_chain hn1 hj, show n - 1 = i by omega] : partG i j = chainG n j))
      have HRC := Lib.hid hRc
      clear hr hRc HR
      have hz2 : w.heap.size ≤ wr.heap.size := by omega
      have hbr : Below w.heap.size w wr := hb1.trans (hB.mono hz1)
      go_wp2_with fail
      refine (hq wr).mono ?_
      rintro e wr' ⟨rfl, rfl⟩
      go_wp2_with fail
      refine (order_ok hn100 (fun j _ => chain_len n j) (chain_ranked n) (HRC.out.rows hz)).mono ?_
      rintro e w3 ⟨o, A3, c3, hh3, hl3, rfl, hI3, hb3, _⟩
      obtain rfl := hh3.unique (chain_had n)
      rw [hl3]
      have HI3 := Lib.hid hI3
      clear hh3 hl3 hI3
      have hz3 := hb3.size
      have HR3 := Lib.hid (HRC.out.below hb3 hz)
      go_wp2_with fail
      refine (above_ok hn100 (fun j _ => chain_len n j) (chain_ranked n) (HR3.out.rows (by omega)) hv).mono ?_
      rintro e w4 ⟨o, A4, c4, hh4, hl4, rfl, hI4, hb4, _⟩
      obtain rfl := hh4.unique (chain_had n)
      rw [chain_above hv, ← HM.out] at hI4 ⊢
      rw [dn_length]
      have HI4 := Lib.hid hI4
      clear hh4 hl4 hI4
      have hz4 := hb4.size
      have HR4 := Lib.hid (HR3.out.below hb4 (by omega))
      go_wp2_with fail
      refine (under_ok hn100 (fun j _ => chain_len n j) (chain_ranked n) (HR4.out.rows (by omega)) hv).mono ?_
      rintro e w5 ⟨o, A5, c5, hh5, hl5, rfl, hI5, hb5, _⟩
      obtain rfl := hh5.unique (chain_had n)
      rw [chain_under hv] at hI5 ⊢
      rw [dn_length]
      have HI5 := Lib.hid hI5
      clear hh5 hl5 hI5
      have hz5 := hb5.size
      have hb45 : Below w4.heap.size w4 w5 := hb5
      have HJ3 := Lib.hid (HI3.out.below (hb4.trans (hb5.mono hz4)) (Nat.le_refl _))
      have HJ4 := Lib.hid (HI4.out.below hb5 (Nat.le_refl _))
      have hbE : Below w.heap.size w w5 := hbr.trans ((hb3.trans ((hb4.trans (hb5.mono hz4)).mono hz3)).mono hz2)
      go_wp2_with fail
      go_loop [16] (fun s => ∃ i : Nat, i ≤ n ∧ s = .int .i64 i) (fun s => n - (intOf s).toNat)
      case atStart => exact ⟨0, Nat.zero_le _, rfl⟩
      case round =>
        obtain ⟨i, hi, rfl⟩ := hrel
        by_cases hlt : i < n
        · obtain ⟨qn, hqn⟩ : ∃ qn : Nat, qn = n - 1 - i := ⟨_, rfl⟩
          have hqI : (n : Int) - 1 - (i : Int) = (qn : Int) := by omega
          obtain ⟨ad, hA, hc⟩ := (HJ3).out.nat (j := i) (x := qn) (by rw [hqn]; exact dn_get hlt)
          have HQ := Lib.hid hqn
          have hne : ((qn : Int) != (qn : Int)) = false := by simp
          subst hA
          clear hqn
          go_wp2_with fail
          go_round
          case rel => exact ⟨i + 1, by omega, by go_num⟩
          case measure => simp [intOf]; omega
        · go_wp2_with fail
          go_loop [17] (fun s => ∃ i : Nat, i ≤ m ∧ s = .int .i64 i) (fun s => m - (intOf s).toNat)
          case atStart => exact ⟨0, Nat.zero_le _, rfl⟩
          case round =>
            obtain ⟨i, hi, rfl⟩ := hrel
            by_cases hlt : i < m
            · obtain ⟨qn, hqn⟩ : ∃ qn : Nat, qn = n - 1 - i := ⟨_, rfl⟩
              have hqI : (n : Int) - 1 - (i : Int) = (qn : Int) := by omega
              obtain ⟨ad, hA, hc⟩ := (HJ4).out.nat (j := i) (x := qn) (by rw [hqn]; exact dn_get hlt)
              have HQ := Lib.hid hqn
              have hne : ((qn : Int) != (qn : Int)) = false := by simp
              subst hA
              clear hqn
              go_wp2_with fail
              go_round
              case rel => exact ⟨i + 1, by omega, by go_num⟩
              case measure => simp [intOf]; omega
            · go_wp2_with fail
              go_loop [18] (fun s => ∃ i : Nat, i ≤ v ∧ s = .int .i64 i) (fun s => v - (intOf s).toNat)
              case atStart => exact ⟨0, Nat.zero_le _, rfl⟩
              case round =>
                obtain ⟨i, hi, rfl⟩ := hrel
                by_cases hlt : i < v
                · obtain ⟨qn, hqn⟩ : ∃ qn : Nat, qn = v - 1 - i := ⟨_, rfl⟩
                  have hqI : (v : Int) - 1 - (i : Int) = (qn : Int) := by omega
                  obtain ⟨ad, hA, hc⟩ := (HI5).out.nat (j := i) (x := qn) (by rw [hqn]; exact dn_get hlt)
                  have HQ := Lib.hid hqn
                  have hne : ((qn : Int) != (qn : Int)) = false := by simp
                  subst hA
                  clear hqn
                  go_wp2_with fail
                  go_round
                  case rel => exact ⟨i + 1, by omega, by go_num⟩
                  case measure => simp [intOf]; omega
                · go_wp2_with fail
                  go_ret
                  exact ⟨rfl, hbE⟩

end Go.Proofs.Ytlkgnafbipgpbaa
