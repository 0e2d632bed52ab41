/- The walk of GraphLess: true, for any graph that falling makes, any edge, any node. -/
import Derived.Test.YtlkgnafbipgpbaaL5
import Derived.Test.YtlkgnafbipgpbaaL3
namespace Go.Proofs.Ytlkgnafbipgpbaa
open Go.RowKit Go.Maps

theorem has_ci {A : Option Addr} {c : Nat} {o : List Nat} {x : Nat} {B : Nat} {w : World} (hl : o.length ≤ 1000000) (h : IntsAt w B A (ci o)) (b : Bool) (hb : memB (x : Int) (ci o) = b) :
    Calls Try.prog 23 #[.slice A o.length c, .int .i64 (x : Int)] w fun e w' => e = .returned (.bool b) ∧ w = w' := by
  have := has_any A c (ci o) (x : Int) B w (by rw [ci_length]; exact hl) h
  rw [ci_length, hb] at this
  exact this
theorem Ranked.sub {g h : Nat → List Int} {n : Nat} {f : Nat → Nat} (hg : Ranked g n f) (hs : ∀ v, v < n → ∀ x, x ∈ h v → x ∈ g v) : Ranked h n f := fun v hv x hx => hg v hv x (hs v hv x hx)
theorem upd_drop_sub {g : Nat → List Int} {k : Nat} : ∀ v x, x ∈ upd g k ((g k).drop 1) v → x ∈ g v := by
  intro v x hx
  unfold upd at hx
  split at hx
  · rename_i e; subst e; exact List.mem_of_mem_drop hx
  · exact hx
theorem ciG_len {G : Nat → List Nat} {i : Nat} (h : ∀ v, (G v).length ≤ 40) : (ciG G i).length ≤ 1000 := by unfold ciG; rw [ci_length]; have := h i; omega
theorem abo_len {g : Nat → List Int} {n v : Nat} {o : List Nat} (h : o.length = n) : (aboOf g v o).length ≤ n := by rw [← h]; exact List.length_filter_le _ _
theorem und_len {g : Nat → List Int} {n v : Nat} {o : List Nat} (h : o.length = n) : (undOf g v o).length ≤ n := by rw [← h]; exact List.length_filter_le _ _

set_option maxRecDepth 100000 in
set_option maxHeartbeats 8000000 in
theorem less_any (many : Int) (A : Option Addr) (c : Nat) (xs : List Int) (t : Bool) (at_ node : Int) (h1 : wfI many) (h2 : wfI at_) (h3 : wfI node) (hlen : xs.length ≤ 9223372036854775807) (hx : ∀ x, x ∈ xs → wfI x) (w : World) (hI : IntsAt w w.heap.size A xs) :
    Calls Try.prog 9 #[.int .i64 many, .slice A xs.length c, .bool t, .int .i64 at_, .int .i64 node] w fun e w' => e = .returned (.bool true) ∧ Below w.heap.size w w' := by
  obtain ⟨k0, hk0, hp⟩ := pick_any many 10 h1 (by omega) (by omega)
  have hp : PickIs many 10 k0 := hp
  obtain ⟨n, hn⟩ : ∃ n : Nat, n = k0 + 2 := ⟨_, rfl⟩
  obtain ⟨v, hv, hpv⟩ := pick_any node n h3 (by omega) (by omega)
  obtain ⟨k, hk, hpk⟩ := pick_any at_ n h2 (by omega) (by omega)
  have hnI : (2 : Int) + (k0 : Int) = (n : Int) := by omega
  have hn12 : n ≤ 12 := by omega
  have HN := Lib.hid hn
  have HX := Lib.hid hx
  clear hn hx
  go_enter Try.func9, Try.ntmps9
  go_wp2_with fail
  refine (shown_any w).mono ?_
  rintro e w1 ⟨rfl, hb1⟩
  have hz1 := hb1.size
  go_wp2_with fail
  refine (hp w1).mono ?_
  rintro e w1' ⟨rfl, rfl⟩
  go_wp2_with fail
  refine (falling_any A n c xs t w1 hn12 hlen HX.out ((hI.below hb1 (Nat.le_refl _)).more hz1)).mono ?_
  rintro e w2 ⟨gw, G, rfl, hr, hgw, hgw2, hF, hGl, hb2⟩
  have HR := Lib.hid hr
  have HF := Lib.hid hF
  have HGL := Lib.hid hGl
  have hz2 := hb2.size
  clear hr hF hGl
  go_wp2_with fail
  refine (hpv w2).mono ?_
  rintro e w2' ⟨rfl, rfl⟩
  go_wp2_with fail
  refine (above_ok (g := ciG G) (by omega) (fun j _ => ciG_len HGL.out) HF.out.ranked (HR.out.rows hgw) hv).mono ?_
  rintro e w3 ⟨o, A3, c3, hh3, hl3, rfl, hI3, hb3, hA3⟩
  have HT3 := Lib.hid (hh3.topo hl3)
  have HI3 := Lib.hid hI3
  have hlA := abo_len (g := ciG G) (v := v) hl3
  have hz3 := hb3.size
  have HR3 := Lib.hid (HR.out.below hb3 hgw)
  clear hh3 hl3 hI3
  go_wp2_with fail
  refine (hpk w3).mono ?_
  rintro e w3' ⟨rfl, rfl⟩
  obtain ⟨hfr, Ak, ck, hck, hle, hIk, hne⟩ := HR3.out k hk
  have hbE3 : Below w.heap.size w w3 := hb1.trans ((hb2.trans (hb3.mono hz2)).mono hz1)
  obtain ⟨m, hm⟩ : ∃ m, m = (ciG G k).length := ⟨_, rfl⟩
  rw [← hm] at hck hle
  have HM := Lib.hid hm
  have HIk := Lib.hid hIk
  clear hm hIk
  rcases Nat.eq_zero_or_pos m with h0 | h0
  · subst h0
    go_wp2_with fail
    go_ret
    exact ⟨rfl, hbE3⟩
  · have hm0 : ((m : Int) == 0) = false := beq_eq_false_iff_ne.2 (by omega)
    have h0' : 0 < (ciG G k).length := by rw [← HM.out]; exact h0
    obtain ⟨ad, hA, _, _⟩ := HIk.out.at_ h0'
    subst hA
    have hne' : ad.block ≠ gw := hne ad rfl
    have hl1 : ((ciG G k).drop 1).length = m - 1 := by rw [List.length_drop, ← HM.out]
    have hcut : ∃ A4 l4 c4, ((A4 = some ad ∧ l4 = 0 ∧ c4 = 0 ∧ ck = 1) ∨ (A4 = some ⟨ad.block, ad.off + 1, none⟩ ∧ l4 = m - 1 ∧ c4 = ck - 1 ∧ ¬ ck = 1)) ∧ RowsOut (w3.setCell ⟨gw, k, none⟩ (.slice A4 l4 c4)) gw n (upd (ciG G) k ((ciG G k).drop 1)) := by
      by_cases hc1 : ck = 1
      · refine ⟨some ad, 0, 0, .inl ⟨rfl, rfl, rfl, hc1⟩, ?_⟩
        have := HR3.out.store (Ak := some ad) (ck := 0) (l := (ciG G k).drop 1) hk (by omega) (fun h => absurd h (by omega)) (fun a e => by injection e with e; subst e; exact hne')
        rw [hl1, show m - 1 = 0 by omega] at this
        exact this
      · refine ⟨some ⟨ad.block, ad.off + 1, none⟩, m - 1, ck - 1, .inr ⟨rfl, rfl, rfl, hc1⟩, ?_⟩
        have := HR3.out.store (Ak := some ⟨ad.block, ad.off + 1, none⟩) (ck := ck - 1) (l := (ciG G k).drop 1) hk (by omega) (HIk.out.cut1 h0') (fun a e => by injection e with e; subst e; exact hne')
        rw [hl1] at this
        exact this
    obtain ⟨A4, l4, c4, hform, hcr⟩ := hcut
    have HCR := Lib.hid hcr
    have hgw1 : w1.heap.size ≤ gw := hgw2
    have hb4 : Below w1.heap.size w1 (w3.setCell ⟨gw, k, none⟩ (.slice A4 l4 c4)) := (hb2.trans (hb3.mono hz2)).setCell (p := ⟨gw, k, none⟩) hgw1 _
    have hrk : Ranked (upd (ciG G) k ((ciG G k).drop 1)) n (fun v => if t then n - v else v) := HF.out.ranked.sub (fun v _ x hx => upd_drop_sub v x hx)
    have HRK := Lib.hid hrk
    have hln : ∀ j, j < n → (upd (ciG G) k ((ciG G k).drop 1) j).length ≤ 1000 := by
      intro j _
      unfold upd
      split
      · have := ciG_len (i := k) HGL.out; rw [List.length_drop]; omega
      · exact ciG_len HGL.out
    have HLN := Lib.hid hln
    have HI4 := Lib.hid (HI3.out.far (p := ⟨gw, k, none⟩) (fun a e => by have := hA3 a e; show a.block ≠ gw; omega) (.slice A4 l4 c4))
    have hz4 : (w3.setCell ⟨gw, k, none⟩ (.slice A4 l4 c4)).heap.size = w3.heap.size := size_setCell _ _ _
    have hgw4 : gw < (w3.setCell ⟨gw, k, none⟩ (.slice A4 l4 c4)).heap.size := by omega
    obtain ⟨w4, hw4⟩ : ∃ w4, w4 = w3.setCell ⟨gw, k, none⟩ (.slice A4 l4 c4) := ⟨_, rfl⟩
    rw [← hw4] at HCR hb4 HI4 hz4 hgw4
    have HW4 := Lib.hid hw4
    clear hcr hrk hln hl1 hne hw4 hA3
    have rest := fun (W : World) (hW : w4 = W) => hW ▸ above_ok (A := some ⟨gw, 0, none⟩) (c := n) (w := w4) (show n ≤ 100 by omega) HLN.out HRK.out (HCR.out.rows hgw4) hv
    have REST := Lib.hid rest
    clear rest
    have hck1 : 1 ≤ ck := by omega
    have hlG4 : ∀ y, y ∈ aboOf (ciG G) v o ↔ y < n ∧ Ab (ciG G) v y := fun y => mem_aboOf HT3.out
    have HLG := Lib.hid hlG4
    have HND := Lib.hid (aboOf_nodup HT3.out v)
    have hbw : w.heap.size ≤ w1.heap.size := hz1
    clear hlG4
    rcases hform with ⟨rfl, rfl, rfl, rfl⟩ | ⟨rfl, rfl, rfl, h5⟩
    all_goals
      go_wp2_with fail
      rw [← HW4.out]
      refine (REST.out w4 rfl).mono ?_
      rintro e w5 ⟨o5, A5, c5, hh5, hl5, rfl, hI5, hb5, _⟩
      have hT5 := hh5.topo hl5
      have hsub : ∀ y, y ∈ aboOf (upd (ciG G) k ((ciG G k).drop 1)) v o5 → y ∈ aboOf (ciG G) v o := fun y hy => by
        obtain ⟨h6, h7⟩ := (mem_aboOf hT5).1 hy
        exact (HLG.out y).2 ⟨h6, ab_mono HRK.out.closed (fun v _ x hx => upd_drop_sub v x hx) h7 hv⟩
      have hle5 := nodup_sub_len _ _ (aboOf_nodup hT5 v) hsub
      obtain ⟨now, hnow⟩ : ∃ now, now = aboOf (upd (ciG G) k ((ciG G k).drop 1)) v o5 := ⟨_, rfl⟩
      obtain ⟨was, hwas⟩ : ∃ was, was = aboOf (ciG G) v o := ⟨_, rfl⟩
      rw [← hnow] at hI5 hsub hle5 ⊢
      rw [← hwas] at HI4 hsub hle5 hlA ⊢
      have HSUB := Lib.hid hsub
      have HI5 := Lib.hid hI5
      have HI4' := Lib.hid (HI4.out.below (show Below w3.heap.size w4 w5 from hz4 ▸ hb5) (Nat.le_refl _))
      have hbE : Below w.heap.size w w5 := hb1.trans ((hb4.trans (hb5.mono (by omega))).mono hz1)
      have hgt : decide (was.length < now.length) = false := by simp; omega
      clear hsub hI5 hh5 hl5 hT5 hnow hwas
      go_wp2_with fail
      go_loop [20] (fun s => ∃ i : Nat, i ≤ now.length ∧ s = .int .i64 i) (fun s => now.length - (intOf s).toNat)
      case atStart => exact ⟨0, Nat.zero_le _, rfl⟩
      case round =>
        obtain ⟨i, hi, rfl⟩ := hrel
        by_cases hlt : i < now.length
        · obtain ⟨y, hy⟩ : ∃ y, now[i]? = some y := ⟨_, List.getElem?_eq_getElem hlt⟩
          obtain ⟨ad5, hA5, hc5⟩ := HI5.out.nat hy
          have hm : memB (y : Int) (ci was) = true := memB_yes (mem_ci.2 (HSUB.out y (List.mem_of_getElem? hy)))
          have HY := Lib.hid hy
          subst hA5
          clear hy
          go_wp2_with fail
          refine (has_ci (by omega) HI4'.out true hm).mono ?_
          rintro e w6 ⟨rfl, rfl⟩
          go_wp2_with fail
          go_round
          case rel => exact ⟨i + 1, by omega, by go_num⟩
          case measure => simp [intOf]; omega
        · go_wp2_with fail
          go_ret
          exact ⟨rfl, hbE⟩

end Go.Proofs.Ytlkgnafbipgpbaa
