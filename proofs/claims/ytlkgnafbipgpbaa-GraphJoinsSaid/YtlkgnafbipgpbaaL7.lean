/- The walk of GraphOrders: true, for any graph that falling makes. -/
import Derived.Test.YtlkgnafbipgpbaaL6
import Derived.Deep.QuietTactic
import Derived.BigQuiet
namespace Go.Proofs.Ytlkgnafbipgpbaa
open Go.RowKit Go.Maps

/-- block d holds the ints f 0, f 1 .. -/
def NumsAt (w : World) (d n : Nat) (f : Nat → Int) : Prop := ∀ i, i < n → w.cell? ⟨d, i, none⟩ = some (.int .i64 (f i)) ∧ w.frozen? ⟨d, i, none⟩ = false
theorem make_nums (n : Nat) (hn : n ≤ 1000000) (W : World) :
    (Instr.makeSlice 25 (.int .i64 (n : Int)) (.int .i64 (n : Int))).run Try.prog W = .ok (.slice (some ⟨W.heap.size, 0, none⟩) n n) (W.alloc (.cells (madeCells #[.int .i64 0] n) 3)) := by
  obtain ⟨i0, hi, hz0, hz1, hz2⟩ := info_parts Try.info3
  have h := run_make (P := Try.prog) (w := W) 25 3 i0 (.int .i64 0) Try.underlying25 hi hz0 .i64 .i64 (n : Int) (n : Int) (by omega) (by omega) (by rw [hz2]; omega) (by omega)
  simp only [Int.toNat_natCast, hz1, Nat.mul_one] at h
  exact h
theorem nums_new (n : Nat) (W : World) : NumsAt (W.alloc (.cells (madeCells #[.int .i64 0] n) 3)) W.heap.size n (fun _ => 0) := by
  intro i hi
  have hh : (W.alloc (.cells (madeCells #[.int .i64 0] n) 3)).heap[W.heap.size]? = some (.cells (madeCells #[.int .i64 0] n) 3 (0, 0)) := heap_alloc_new W _
  refine ⟨?_, frozen_of_row _ _ _ _ _ hh⟩
  rw [cell_of_row _ _ i _ _ _ hh]
  simp [madeCells, hi, Nat.mod_one]
theorem NumsAt.keep {w w' : World} {d n B : Nat} {f : Nat → Int} (h : NumsAt w d n f) (hb : Below B w w') (hd : d < B) : NumsAt w' d n f := fun i hi =>
  ⟨(hb.cell (p := ⟨d, i, none⟩) hd).trans (h i hi).1, (hb.frozen (p := ⟨d, i, none⟩) hd).trans (h i hi).2⟩
theorem NumsAt.congr {w : World} {d n : Nat} {f f' : Nat → Int} (h : NumsAt w d n f) (he : ∀ i, i < n → f i = f' i) : NumsAt w d n f' := fun i hi => ⟨by rw [(h i hi).1, he i hi], (h i hi).2⟩
theorem NumsAt.store {w : World} {d n k : Nat} {f f' : Nat → Int} {b : Int} (h : NumsAt w d n f) (h1 : k < n → f' k = b) (h2 : ∀ i, i < n → i ≠ k → f' i = f i) : NumsAt (w.setCell ⟨d, k, none⟩ (.int .i64 b)) d n f' := by
  intro i hi
  refine ⟨?_, by rw [World.frozen?_setCell]; exact (h i hi).2⟩
  by_cases e : i = k
  · subst e
    rw [h1 hi]
    exact World.cell?_setCell_same' _ _ _ (by rw [(h i hi).1]; rfl)
  · rw [h2 i hi e]
    exact (World.cell?_setCell_other w _ _ _ (fun h => e (by cases h; rfl))).trans (h i hi).1

theorem Topo.places {g : Nat → List Int} {n : Nat} {o : List Nat} (h : Topo g n o) : ∃ p : Nat → Nat, ∀ u, u < n → o[p u]? = some u :=
  Classical.axiomOfChoice (r := fun u j => u < n → o[j]? = some u) (fun u => by
    by_cases hu : u < n
    · obtain ⟨j, hj⟩ := mem_at (h.2.2.1 u hu)
      exact ⟨j, fun _ => hj⟩
    · exact ⟨0, fun h => absurd h hu⟩)
theorem place_lt {o : List Nat} {j u : Nat} (h : o[j]? = some u) : j < o.length := (List.getElem?_eq_some_iff.1 h).1

/-- where v could stand already, no greater one stands -/
theorem greedy_le {G : Nat → List Nat} {n v i fr : Nat} {o : List Nat} {p : Nat → Nat} (hh : Had (ciG G) n o) (hT : Topo (ciG G) n o) (hp : ∀ u, u < n → o[p u]? = some u) (hv : v < n) (hG : ∀ x, x ∈ G v → x < n ∧ p x < fr) (hi : fr ≤ i) (hiv : i < p v) {u : Nat} (hu : o[i]? = some u) : u ≤ v := by
  apply Classical.byContradiction
  intro hlt
  obtain ⟨hil, rfl⟩ := List.getElem?_eq_some_iff.1 hu
  obtain ⟨_, hno⟩ := hh.1.at_ i hil
  refine hno v (by omega) ⟨fun hm => ?_, fun x hx => ?_⟩
  · obtain ⟨q, hq, e⟩ := List.mem_take_iff_getElem.1 (mem_ci.1 hm)
    have : q = p v := idx_inj hT.1 (by rw [List.getElem?_eq_getElem (by omega), e]) (hp v hv)
    omega
  · obtain ⟨y, hy, rfl⟩ := List.mem_map.1 hx
    obtain ⟨h1, h2⟩ := hG y hy
    have h3 := hp y h1
    refine mem_ci.2 (List.mem_iff_getElem?.2 ⟨p y, ?_⟩)
    rw [List.getElem?_take, if_pos (by omega)]
    exact h3

set_option maxRecDepth 100000 in
set_option maxHeartbeats 16000000 in
theorem orders_any (many : Int) (A : Option Addr) (c : Nat) (xs : List Int) (t : Bool) (h1 : wfI many) (hlen : xs.length ≤ 9223372036854775807) (hx : ∀ x, x ∈ xs → wfI x) (w : World) (hI : IntsAt w w.heap.size A xs) :
    Calls Try.prog 4 #[.int .i64 many, .slice A xs.length c, .bool t] w fun e w' => e = .returned (.bool true) ∧ Below w.heap.size w w' := by
  obtain ⟨n, hn12, hp⟩ := pick_any many 12 h1 (by omega) (by omega)
  have hp : PickIs many 12 n := hp
  have HX := Lib.hid hx
  have hmk := make_nums n (by omega)
  clear hx
  go_enter Try.func4, Try.ntmps4
  go_wp2_with fail
  refine (shown_any w).mono ?_
  rintro e w1 ⟨rfl, hb1⟩
  have hz1 := hb1.size
  go_wp2_with fail
  refine (hp w1).mono ?_
  rintro e w1' ⟨rfl, rfl⟩
  go_wp2_with fail
  refine (falling_any A n c xs t w1 (by omega) hlen HX.out ((hI.below hb1 (Nat.le_refl _)).more hz1)).mono ?_
  rintro e w2 ⟨gw, G, rfl, hr, hgw, hgw2, hF, hGl, hb2⟩
  have HR := Lib.hid hr
  have HF := Lib.hid hF
  have HGL := Lib.hid hGl
  have hz2 := hb2.size
  clear hr hF hGl
  go_wp2_with fail
  refine (order_ok (g := ciG G) (by omega) (fun j _ => ciG_len HGL.out) HF.out.ranked (HR.out.rows hgw)).mono ?_
  rintro e w3 ⟨o, A3, c3, hh3, hl3, rfl, hI3, hb3, _⟩
  have HT := Lib.hid (hh3.topo hl3)
  have HH := Lib.hid hh3
  have HI3 := Lib.hid hI3
  have hle1 : o.length ≤ n := by omega
  have hle2 : n ≤ o.length := by omega
  have HLN := Lib.hid hl3
  have hz3 := hb3.size
  have HR3 := Lib.hid (HR.out.below hb3 hgw)
  rw [hl3]
  clear hh3 hl3 hI3
  go_wp2_with fail
  refine (check_ok (g := ciG G) (by omega) (fun j _ => ciG_len HGL.out) HF.out.ranked (HR3.out.rows (by omega))).mono ?_
  rintro e w4 ⟨rfl, hb4⟩
  have hz4 := hb4.size
  have HR4 := Lib.hid (HR3.out.below hb4 (by omega))
  have HI4 := Lib.hid ((HI3.out.below hb4 (Nat.le_refl _)).more hz4)
  have hbE4 : Below w.heap.size w w4 := hb1.trans ((hb2.trans ((hb3.trans (hb4.mono hz3)).mono hz2)).mono hz1)
  obtain ⟨p, hpl⟩ := HT.out.places
  have HP := Lib.hid hpl
  clear hpl
  have hbd : Below w4.heap.size w4 (w4.alloc (.cells (madeCells #[.int .i64 0] n) 3)) := (Below.refl _ w4).alloc (Nat.le_refl _) _
  go_wp2_with fail
  go_loopg [13] n (fun gg s13 wr => ∃ i : Nat, i ≤ n ∧ n - i ≤ gg ∧ s13 = .int .i64 i ∧ NumsAt wr w4.heap.size n (fun j => if j < i then -1 else 0) ∧ Below w4.heap.size w4 wr ∧ w4.heap.size < wr.heap.size)
  case atStart => exact ⟨0, Nat.zero_le _, by omega, rfl, (nums_new n w4).congr (fun j _ => by simp), hbd, by simp⟩
  case round =>
    obtain ⟨i, hi, hgg, rfl, hnum, hB, hz⟩ := hrel
    have HNum := Lib.hid hnum
    by_cases hlt : i < n
    · obtain ⟨hc, hf⟩ := hnum i hlt
      clear hnum
      go_wp2_with fail
      go_roundg (n - (i + 1))
      case measure => omega
      case rel => exact ⟨i + 1, by omega, Nat.le_refl _, by go_num, HNum.out.store (fun _ => by simp) (fun j _ hj => by by_cases h : j < i <;> simp [h] <;> omega), hB.setCell (p := ⟨w4.heap.size, i, none⟩) (Nat.le_refl _) _, by rw [size_setCell]; omega⟩
    · clear hnum
      obtain rfl : i = n := by omega
      have hst : NumsAt wr w4.heap.size i (fun u => if p u < 0 then (p u : Int) else -1) := HNum.out.congr (fun j hj => by simp [hj])
      have HST := Lib.hid hst
      clear hst HNum
      go_wp2_with fail
      go_loopg [14] i (fun gg s14 wr => ∃ j : Nat, j ≤ i ∧ i - j ≤ gg ∧ s14 = .int .i64 j ∧ NumsAt wr w4.heap.size i (fun u => if p u < j then (p u : Int) else -1) ∧ Below w4.heap.size w4 wr ∧ w4.heap.size < wr.heap.size)
      case atStart => exact ⟨0, Nat.zero_le _, by omega, rfl, HST.out, hB, hz⟩
      case round =>
        obtain ⟨j, hj, hgj, rfl, hnum, hB2, hz2'⟩ := hrel
        have HNum := Lib.hid hnum
        clear hnum
        by_cases hltj : j < i
        · obtain ⟨u, hu⟩ : ∃ u, o[j]? = some u := ⟨_, List.getElem?_eq_getElem (by omega)⟩
          have hun : u < i := HT.out.2.1 u (at_mem hu)
          have hpu : p u = j := idx_inj HT.out.1 (HP.out u hun) hu
          obtain ⟨ad, hA, hc⟩ := (HI4.out.below hB2 (Nat.le_refl _)).nat hu
          obtain ⟨hcu0, hfu⟩ := HNum.out u hun
          obtain ⟨z, hz0, hcu⟩ : ∃ z : Int, z < 0 ∧ wr.cell? ⟨w4.heap.size, u, none⟩ = some (.int .i64 z) := ⟨_, by show (if p u < j then (p u : Int) else -1) < 0; rw [if_neg (by omega)]; decide, hcu0⟩
          clear hcu0
          have hn0 : decide ((u : Int) < 0) = false := by simp
          have hn1 : decide (i ≤ u) = false := by simp; omega
          have hnew : NumsAt (wr.setCell ⟨w4.heap.size, u, none⟩ (.int .i64 (j : Int))) w4.heap.size i (fun u => if p u < j + 1 then (p u : Int) else -1) := HNum.out.store (fun _ => by simp [hpu]) (fun q hq hqu => by
            have hpq : p q ≠ j := fun e => hqu (by
              have h1 := HP.out q hq
              rw [e, hu] at h1
              injection h1 with h1
              exact h1.symm)
            by_cases h : p q < j
            · simp [h, show p q < j + 1 by omega]
            · simp [h, show ¬ p q < j + 1 by omega])
          have HNew := Lib.hid hnew
          have HPU := Lib.hid hpu
          subst hA
          clear hnew hpu hu
          go_wp2_with fail
          go_roundg (i - (j + 1))
          case measure => omega
          case rel => exact ⟨j + 1, by omega, Nat.le_refl _, by go_num, HNew.out, hB2.setCell (p := ⟨w4.heap.size, u, none⟩) (Nat.le_refl _) _, by rw [size_setCell]; omega⟩
        · obtain rfl : j = i := by omega
          have hst : NumsAt wr w4.heap.size j (fun u => (p u : Int)) := HNum.out.congr (fun q hq => by rw [if_pos]; have := place_lt (HP.out q hq); omega)
          have HST := Lib.hid hst
          clear hst HNum
          go_wp2_with fail
          obtain ⟨wM, hwM⟩ : ∃ wM, wM = wr := ⟨_, rfl⟩
          subst hwM
          have hdM : w4.heap.size < wM.heap.size := hz2'
          have hBM : Below w4.heap.size w4 wM := hB2
          go_loopg [15] j (fun gg s15 wr3 => ∃ v : Nat, v ≤ j ∧ j - v ≤ gg ∧ s15 = .int .i64 v ∧ Below wM.heap.size wM wr3)
          case atStart => exact ⟨0, Nat.zero_le _, by omega, rfl, Below.refl _ _⟩
          case round =>
            obtain ⟨v, hv, hgv, rfl, hB3⟩ := hrel
            have hz3' := hB3.size
            obtain ⟨wN, hwN⟩ : ∃ wN, wN = wr := ⟨_, rfl⟩
            subst hwN
            have hB24 : Below w4.heap.size w4 wN := hBM.trans (hB3.mono (by omega))
            by_cases hltv : v < j
            · obtain ⟨hfr, Ak, ck, hck, _, hIk, _⟩ := (HR4.out.below hB24 (by omega)) v hltv
              have HIk := Lib.hid hIk
              have hNs := HST.out.keep hB3 hdM
              obtain ⟨hcv, _⟩ := hNs v hltv
              have HNs := Lib.hid hNs
              have hlk : (ciG G v).length ≤ 1000 := ciG_len HGL.out
              have hpv : p v < j := by have := place_lt (HP.out v hltv); omega
              clear hIk hNs
              go_wp2_with fail
              go_loopw [16, 17] (fun s16 s17 wr4 => ∃ (q fr : Nat), q ≤ (ciG G v).length ∧ s17 = .int .i64 q ∧ s16 = .int .i64 fr ∧ fr ≤ p v ∧ Below wN.heap.size wN wr4 ∧ Hid (∀ (q' y : Nat), q' < q → (G v)[q']? = some y → p y < fr)) (fun _ s17 _ => (ciG G v).length - (intOf s17).toNat)
              case atStart => exact ⟨0, 0, Nat.zero_le _, rfl, rfl, Nat.zero_le _, Below.refl _ _, Lib.hid (fun q' y hq => absurd hq (by omega))⟩
              case round =>
                obtain ⟨q, fr, hq, rfl, rfl, hfrp, hB4, HFR⟩ := hrel
                have hz4' := hB4.size
                obtain ⟨wQ, hwQ⟩ : ∃ wQ, wQ = wr := ⟨_, rfl⟩
                subst hwQ
                have hgN : gw < wN.heap.size := by omega
                have hck2 := (hB4.cell (p := ⟨gw, v, none⟩) hgN).trans hck
                have hcv2 := (hB4.cell (p := ⟨w4.heap.size, v, none⟩) (by show w4.heap.size < _; omega)).trans hcv
                by_cases hltq : q < (ciG G v).length
                · obtain ⟨y, hy⟩ : ∃ y, (G v)[q]? = some y := ⟨_, List.getElem?_eq_getElem (by unfold ciG at hltq; rw [ci_length] at hltq; exact hltq)⟩
                  obtain ⟨hyn, _⟩ := HF.out v hltv y (List.mem_of_getElem? hy)
                  obtain ⟨ad, hA, hc⟩ := ((HIk.out.below hB4 (Nat.le_refl _)) : IntsAt wQ _ Ak (ci (G v))).nat hy
                  obtain ⟨hcy0, _⟩ := HNs.out y hyn
                  have hcy2 := (hB4.cell (p := ⟨w4.heap.size, y, none⟩) (by show w4.heap.size < _; omega)).trans hcy0
                  have hpy : p y < p v := HT.out.2.2.2 _ _ _ _ (HP.out y hyn) (HP.out v hltv) (mem_ci.2 (List.mem_of_getElem? hy))
                  have hge : decide (p v ≤ p y) = false := by simp; omega
                  obtain ⟨m1, hm1⟩ : ∃ m1 : Nat, m1 = p y + 1 := ⟨_, rfl⟩
                  have hm1I : (p y : Int) + 1 = (m1 : Int) := by omega
                  have hm1v : m1 ≤ p v := by omega
                  have HY := Lib.hid hy
                  have HM1 := Lib.hid hm1
                  subst hA
                  clear hm1 hy hcy0
                  by_cases hmx : fr < m1
                  · go_wp2_with fail
                    go_quiet (fail)
                    go_wp2_with fail
                    go_roundw
                    case rel => exact ⟨q + 1, m1, by omega, by go_num, rfl, by omega, below_drewN hB4 _, Lib.hid (fun q' z hq' hz => by
                      by_cases e : q' = q
                      · subst e; rw [HY.out] at hz; injection hz with hz; subst hz; have := HM1.out; omega
                      · have := HFR.out q' z (by omega) hz; omega)⟩
                    case measure => simp [intOf]; omega
                  · have hmx' : m1 ≤ fr := by omega
                    go_wp2_with fail
                    go_quiet (fail)
                    go_wp2_with fail
                    go_roundw
                    case rel => exact ⟨q + 1, fr, by omega, by go_num, rfl, by omega, below_drewN hB4 _, Lib.hid (fun q' z hq' hz => by
                      by_cases e : q' = q
                      · subst e; rw [HY.out] at hz; injection hz with hz; subst hz; have := HM1.out; omega
                      · have := HFR.out q' z (by omega) hz; omega)⟩
                    case measure => simp [intOf]; omega
                · have hall : ∀ y, y ∈ G v → y < j ∧ p y < fr := fun y hy => by
                    obtain ⟨q', hq', e⟩ := List.mem_iff_getElem.1 hy
                    refine ⟨(HF.out v hltv y hy).1, HFR.out q' y ?_ (by rw [List.getElem?_eq_getElem hq', e])⟩
                    unfold ciG at hltq
                    rw [ci_length] at hltq
                    omega
                  have HALL := Lib.hid hall
                  have hI5 := Lib.hid (HI4.out.below (hB24.trans (hB4.mono (by omega))) (Nat.le_refl _))
                  clear hall
                  go_wp2_with fail
                  go_loop [18] (fun s18 => ∃ i : Nat, fr ≤ i ∧ i ≤ p v ∧ s18 = .int .i64 i) (fun s18 => p v - (intOf s18).toNat)
                  case atStart => exact ⟨fr, Nat.le_refl _, hfrp, rfl⟩
                  case round =>
                    obtain ⟨i, hfi, hip, rfl⟩ := hrel
                    by_cases hlti : i < p v
                    · obtain ⟨u, hu⟩ : ∃ u, o[i]? = some u := ⟨_, List.getElem?_eq_getElem (by omega)⟩
                      have huv := greedy_le HH.out HT.out HP.out hltv HALL.out hfi hlti hu
                      have hgt : decide (v < u) = false := by simp; omega
                      obtain ⟨ad, hA, hc⟩ := hI5.out.nat hu
                      subst hA
                      clear hu
                      go_wp2_with fail
                      go_round
                      case rel => exact ⟨i + 1, by omega, by omega, by go_num⟩
                      case measure => simp [intOf]; omega
                    · go_wp2_with fail
                      go_roundg (j - (v + 1))
                      case measure => omega
                      case rel => exact ⟨v + 1, by omega, Nat.le_refl _, by go_num, hB3.trans (hB4.mono (by omega))⟩
            · go_wp2_with fail
              go_ret
              exact ⟨rfl, hbE4.trans ((hBM.trans (hB3.mono (by omega))).mono (by omega))⟩

end Go.Proofs.Ytlkgnafbipgpbaa
