/- The walk of GraphSides: true, for any graph that falling makes, any two nodes. -/
import Derived.Test.YtlkgnafbipgpbaaM4
namespace Go.Proofs.Ytlkgnafbipgpbaa
open Go.RowKit Go.Maps

/-- c says whether p -/
def SaysIf (c : Bool) (p : Prop) : Prop := c = true ↔ p

set_option maxRecDepth 100000 in
set_option maxHeartbeats 16000000 in
theorem sides_any (many : Int) (A : Option Addr) (c : Nat) (xs : List Int) (t : Bool) (a_ b_ : Int) (h1 : wfI many) (h2 : wfI a_) (h3 : wfI b_) (hlen : xs.length ≤ 9223372036854775807) (hx : ∀ x, x ∈ xs → wfI x) (w : World) (hI : IntsAt w w.heap.size A xs) :
    Calls Try.prog 5 #[.int .i64 many, .slice A xs.length c, .bool t, .int .i64 a_, .int .i64 b_] w fun e w' => e = .returned (.bool true) ∧ Below w.heap.size w w' := by
  obtain ⟨k0, hk0, hp⟩ := pick_any many 12 h1 (by omega) (by omega)
  have hp : PickIs many 12 k0 := hp
  obtain ⟨n, hn⟩ : ∃ n : Nat, n = k0 + 1 := ⟨_, rfl⟩
  obtain ⟨v, hv, hpv⟩ := pick_any a_ n h2 (by omega) (by omega)
  obtain ⟨u, hu, hpu⟩ := pick_any b_ n h3 (by omega) (by omega)
  have hnI : (1 : Int) + (k0 : Int) = (n : Int) := by omega
  have hn12 : n ≤ 12 := by omega
  have HN := Lib.hid hn
  have HX := Lib.hid hx
  obtain ⟨i0, hi, hi0, hi1, hi2⟩ := info_parts Try.info3
  clear hn hx
  go_enter Try.func5, Try.ntmps5
  go_wp2_with fail
  refine (shown_any w).mono ?_
  rintro e w1 ⟨rfl, hb1⟩
  have hz1 := hb1.size
  go_wp2_with fail
  refine (hp w1).mono ?_
  rintro e w1' ⟨rfl, rfl⟩
  go_wp2_with fail
  refine (falling_any A n c xs t w1 hn12 hlen HX.out ((hI.below hb1 (Nat.le_refl _)).more hz1)).mono ?_
  rintro e w2 ⟨gw, G, rfl, hr, hgw, hgw2, hF, hGl, hb2⟩
  have HR := Lib.hid hr
  have HF := Lib.hid hF
  have HGL := Lib.hid hGl
  have hz2 := hb2.size
  have HCL := Lib.hid hF.ranked.closed
  clear hr hF hGl
  go_wp2_with fail
  refine (hpv w2).mono ?_
  rintro e w2' ⟨rfl, rfl⟩
  go_wp2_with fail
  refine (hpu w2).mono ?_
  rintro e w2' ⟨rfl, rfl⟩
  go_wp2_with fail
  refine (above_ok (g := ciG G) (by omega) (fun j _ => ciG_len HGL.out) HF.out.ranked (HR.out.rows hgw) hv).mono ?_
  rintro e w3 ⟨o, A3, c3, hh3, hl3, rfl, hI3, hb3, _⟩
  have HT := Lib.hid (hh3.topo hl3)
  have HH := Lib.hid hh3
  have hz3 := hb3.size
  have HR3 := Lib.hid (HR.out.below hb3 hgw)
  have HIRR : Hid (∀ x, x < n → ¬ Ab (ciG G) x x) := fun x hx => HT.out.irrefl HCL.out hx
  have HUP : Hid (∀ y, y ∈ aboOf (ciG G) v o ↔ y < n ∧ Ab (ciG G) v y) := fun y => mem_aboOf HT.out
  have hlu := abo_len (g := ciG G) (v := v) hl3
  obtain ⟨up, hup⟩ : ∃ up, up = aboOf (ciG G) v o := ⟨_, rfl⟩
  rw [← hup] at hI3 HUP hlu ⊢
  have HI3 := Lib.hid hI3
  clear hup hI3 hh3
  go_wp2_with fail
  refine (under_ok (g := ciG G) (by omega) (fun j _ => ciG_len HGL.out) HF.out.ranked (HR3.out.rows (by omega)) hv).mono ?_
  rintro e w4 ⟨o4, A4, c4, hh4, hl4, rfl, hI4, hb4, _⟩
  have HDN : Hid (∀ y, y ∈ undOf (ciG G) v o4 ↔ y < n ∧ Ab (ciG G) y v) := fun y => mem_undOf (hh4.topo hl4)
  have hld := und_len (g := ciG G) (v := v) hl4
  obtain ⟨down, hdn⟩ : ∃ dn, dn = undOf (ciG G) v o4 := ⟨_, rfl⟩
  rw [← hdn] at hI4 HDN hld ⊢
  have HI4 := Lib.hid hI4
  have hz4 := hb4.size
  have HR4 := Lib.hid (HR3.out.below hb4 (by omega))
  clear hdn hI4 hh4 hl4
  go_wp2_with fail
  refine (under_ok (g := ciG G) (by omega) (fun j _ => ciG_len HGL.out) HF.out.ranked (HR4.out.rows (by omega)) hu).mono ?_
  rintro e w5 ⟨o5, A5, c5, hh5, hl5, rfl, hI5, hb5, _⟩
  have HBK : Hid (∀ y, y ∈ undOf (ciG G) u o5 ↔ y < n ∧ Ab (ciG G) y u) := fun y => mem_undOf (hh5.topo hl5)
  have hlb := und_len (g := ciG G) (v := u) hl5
  obtain ⟨back, hbk⟩ : ∃ bk, bk = undOf (ciG G) u o5 := ⟨_, rfl⟩
  rw [← hbk] at hI5 HBK hlb ⊢
  have HI5 := Lib.hid hI5
  have hz5 := hb5.size
  have HR5 := Lib.hid (HR4.out.below hb5 (by omega))
  clear hbk hI5 hh5 hl5 hl3
  have HJ3 := Lib.hid ((HI3.out.below (hb4.trans (hb5.mono hz4)) (Nat.le_refl _)).more (show w3.heap.size ≤ w5.heap.size by omega))
  have HJ4 := Lib.hid ((HI4.out.below hb5 (Nat.le_refl _)).more hz5)
  have hb35 : Below w1.heap.size w1 w5 := hb2.trans ((hb3.trans ((hb4.trans (hb5.mono hz4)).mono hz3)).mono hz2)
  have mUpV : memB (v : Int) (ci up) = false := memB_no (fun h => HIRR.out v hv ((HUP.out v).1 (mem_ci.1 h)).2)
  have mDnV : memB (v : Int) (ci down) = false := memB_no (fun h => HIRR.out v hv ((HDN.out v).1 (mem_ci.1 h)).2)
  have mBack : memB (v : Int) (ci back) = memB (u : Int) (ci up) := by
    rw [Bool.eq_iff_iff, memB_iff, memB_iff, mem_ci, mem_ci]
    exact ⟨fun h => (HUP.out u).2 ⟨hu, ((HBK.out v).1 h).2⟩, fun h => (HBK.out v).2 ⟨hv, ((HUP.out u).1 h).2⟩⟩
  have mBoth : memB (u : Int) (ci up) = true → memB (u : Int) (ci down) = false := fun h => memB_no (fun h' =>
    HIRR.out v hv (ab_trans ((HUP.out u).1 (mem_ci.1 (memB_iff.1 h))).2 ((HDN.out u).1 (mem_ci.1 h')).2))
  have MB := Lib.hid mBack
  have MB2 := Lib.hid mBoth
  have MU := Lib.hid mUpV
  have MD := Lib.hid mDnV
  clear mBack mBoth mUpV mDnV
  obtain ⟨cu, hcu⟩ : ∃ cu, memB (u : Int) (ci up) = cu := ⟨_, rfl⟩
  have HCU := Lib.hid hcu
  clear hcu
  go_wp2_with fail
  refine (has_ci (by omega) HJ3.out false MU.out).mono ?_
  rintro e w6 ⟨rfl, rfl⟩
  go_wp2_with fail
  refine (has_ci (by omega) HJ4.out false MD.out).mono ?_
  rintro e w6 ⟨rfl, rfl⟩
  go_wp2_with fail
  refine (has_ci (by omega) HJ3.out cu HCU.out).mono ?_
  rintro e w6 ⟨rfl, rfl⟩
  go_wp2_with fail
  refine (has_ci (by omega) HI5.out cu (MB.out.trans HCU.out)).mono ?_
  rintro e w6 ⟨rfl, rfl⟩
  have hcc : (cu != cu) = false := by simp
  go_wp2_with fail
  refine (has_ci (by omega) HJ3.out cu HCU.out).mono ?_
  rintro e w6 ⟨rfl, rfl⟩
  obtain ⟨hfr, Av, cv, hcv, hlev, hIv, hnev⟩ := HR5.out v hv
  obtain ⟨m, hm⟩ : ∃ m, m = (ciG G v).length := ⟨_, rfl⟩
  have hm40 : m ≤ 1000 := by rw [hm]; exact ciG_len HGL.out
  rw [← hm] at hcv hlev
  have HM := Lib.hid hm
  have HIv := Lib.hid hIv
  clear hm hIv hcc
  rcases Bool.eq_false_or_eq_true cu with rfl | rfl
  case' inl =>
    have HDU := Lib.hid (MB2.out HCU.out)
    go_wp2_with fail
    refine (has_ci (by omega) HJ4.out false HDU.out).mono ?_
    rintro e w6 ⟨rfl, rfl⟩
  all_goals
    go_wp2_with fail
    go_loopg [22] m (fun gg s22 wr => ∃ i : Nat, i ≤ m ∧ m - i ≤ gg ∧ s22 = .int .i64 i ∧ Below w5.heap.size w5 wr)
    case atStart => exact ⟨0, Nat.zero_le _, by omega, rfl, Below.refl _ _⟩
    case round =>
      obtain ⟨i, him, hgg, rfl, hB⟩ := hrel
      have hgw5 : gw < w5.heap.size := by omega
      have hcr := (hB.cell (p := ⟨gw, v, none⟩) hgw5).trans hcv
      have hzr := hB.size
      have HRr := Lib.hid (HR5.out.below hB hgw5)
      by_cases hlt : i < m
      · obtain ⟨y, hy⟩ : ∃ y, (G v)[i]? = some y := ⟨_, List.getElem?_eq_getElem (by have := HM.out; unfold ciG at this; rw [ci_length] at this; omega)⟩
        have hym : (y : Int) ∈ ciG G v := mem_ci.2 (List.mem_of_getElem? hy)
        have hyn : y < n := (HF.out v hv y (List.mem_of_getElem? hy)).1
        obtain ⟨ad, hA, hc⟩ := IntsAt.nat (l := G v) (HIv.out.below hB (Nat.le_refl _)) hy
        have mY : memB (y : Int) (ci up) = true := memB_yes (mem_ci.2 ((HUP.out y).2 ⟨hyn, .one hym⟩))
        have HMY := Lib.hid mY
        have HYM := Lib.hid hym
        subst hA
        have HYY := Lib.hid hy
        clear hy mY hym
        go_wp2_with fail
        refine (above_ok (g := ciG G) (by omega) (fun j _ => ciG_len HGL.out) HF.out.ranked (HRr.out.rows (by omega)) hyn).mono ?_
        rintro e w6 ⟨o6, A6, c6, hh6, hl6, rfl, hI6, hb6, _⟩
        have HWS : Hid (∀ z, z ∈ aboOf (ciG G) y o6 ↔ z < n ∧ Ab (ciG G) y z) := fun z => mem_aboOf (hh6.topo hl6)
        have hlw := abo_len (g := ciG G) (v := y) hl6
        obtain ⟨ws, hws⟩ : ∃ ws, ws = aboOf (ciG G) y o6 := ⟨_, rfl⟩
        rw [← hws] at hI6 HWS hlw ⊢
        have HI6 := Lib.hid hI6
        have hz6 := hb6.size
        have hB6 : Below w5.heap.size w5 w6 := hB.trans (hb6.mono hzr)
        have hcr6 := (hB6.cell (p := ⟨gw, v, none⟩) hgw5).trans hcv
        obtain ⟨ad6, hA6, hc6⟩ := IntsAt.nat (l := G v) (HIv.out.below hB6 (Nat.le_refl _)) HYY.out
        injection hA6 with hA6
        subst hA6
        have HJ6 := Lib.hid ((HJ3.out.below hB6 (Nat.le_refl _)))
        clear hws hI6 hh6 hl6 hc
        go_wp2_with fail
        refine (has_ci (by omega) HJ6.out true HMY.out).mono ?_
        rintro e w7 ⟨rfl, rfl⟩
        go_wp2_with fail
        go_loop [25] (fun s => ∃ j : Nat, j ≤ ws.length ∧ s = .int .i64 j) (fun s => ws.length - (intOf s).toNat)
        case atStart => exact ⟨0, Nat.zero_le _, rfl⟩
        case round =>
          obtain ⟨j, hj, rfl⟩ := hrel
          by_cases hltj : j < ws.length
          · obtain ⟨z, hz⟩ : ∃ z, ws[j]? = some z := ⟨_, List.getElem?_eq_getElem hltj⟩
            obtain ⟨ad7, hA7, hc7⟩ := HI6.out.nat hz
            have hzm := (HWS.out z).1 (List.mem_of_getElem? hz)
            have mZ : memB (z : Int) (ci up) = true := memB_yes (mem_ci.2 ((HUP.out z).2 ⟨hzm.1, .more HYM.out hzm.2⟩))
            have HMZ := Lib.hid mZ
            subst hA7
            clear hz hzm mZ
            go_wp2_with fail
            refine (has_ci (by omega) HJ6.out true HMZ.out).mono ?_
            rintro e w7 ⟨rfl, rfl⟩
            go_wp2_with fail
            go_round
            case rel => exact ⟨j + 1, by omega, by go_num⟩
            case measure => simp [intOf]; omega
          · go_wp2_with fail
            go_roundg (m - (i + 1))
            case measure => omega
            case rel => exact ⟨i + 1, by omega, Nat.le_refl _, by go_num, hB6⟩
      · have HJr := Lib.hid (HJ4.out.below hB (Nat.le_refl _))
        have HIr := Lib.hid (HIv.out.below hB (Nat.le_refl _))
        have hfrr := (hB.frozen (p := ⟨gw, v, none⟩) hgw5).trans hfr
        obtain ⟨cd, hcd⟩ : ∃ cd, memB (u : Int) (ci down) = cd := ⟨_, rfl⟩
        have HCD := Lib.hid hcd
        have hcr2 := Lib.cell?_alloc_some (Obj.cells #[] 3) hcr
        clear hcd
        by_cases huv : u = v
        case pos =>
          have huv' : v = u := huv.symm
          subst huv'
          go_wp2_with (at_builtin; refine wpList_append_ints rfl (.tmp 160) (.tmp 164) rfl wr.heap.size i0 hi hi0 hi1 hi2 _ 0 [] rfl (World.ownsRow_made wr #[] 0 (Nat.le_refl _) (Nat.zero_le _) (by simp)) Av m cv (w5.heap.size) (ciG G v) rfl HM.out ((HIr.out.below ((Below.refl _ wr).alloc hzr _) (Nat.le_refl _))) (by omega) (by rw [World.size_alloc]; omega) ?_)
          intro v6 w6 hown6 hg6
          have hs6 := hg6.size
          rw [World.size_alloc] at hs6
          have hB6 : Below w5.heap.size w5 w6 := (hB.alloc hzr _).grown hg6 (by rw [World.size_alloc]; omega) (fun q hq => by simp [Value.ownBlock] at hq; omega)
          have hlt6 := hown6.lt
          have HOwn6 := Lib.hid hown6
          clear hown6
          go_wp2_with (at_builtin; refine wpList_append_own _ rfl _ _ 25 rfl wr.heap.size 3 i0 (.int .i64 0) 1 8 Try.underlying25 hi hi0 hi1 hi2 rfl (by decide) v6 m (iv (ciG G v)) rfl (HOwn6.out.alloc _) ⟨w6.heap.size, 0, none⟩ 1 1 [.int .i64 (v : Int)] rfl rfl (cell_one_new _ _ _) (iv_one [(v : Int)]) (by unfold maxLen; omega) (by omega) (by rw [World.size_alloc]; omega) ?_; intro v7 w7 hown7 hg7 _; obtain ⟨g7, cap7, rfl⟩ := own_succ hown7; have hB7 : Below w5.heap.size w5 w7 := (hB6.alloc (by omega) _).grown hg7 (by rw [World.size_alloc]; omega) (fun q hq => by have := (hlt6 q hq).1; omega); have hfr7 := (hB7.frozen (p := ⟨gw, v, none⟩) hgw5).trans hfr; have hcv7 := (hB7.cell (p := ⟨gw, v, none⟩) hgw5).trans hcv)
          obtain ⟨hle7, hb7⟩ := own_cap hown7
          have hL7 : (ciG G v ++ [(v : Int)]).length = m + 1 := by rw [List.length_append, ← HM.out]; rfl
          have hI7 : IntsAt w7 w7.heap.size (some ⟨g7, 0, none⟩) (ciG G v ++ [(v : Int)]) := IntsAt.of_own (base := wr.heap.size) (n := m + 1) (c := cap7) (by unfold iv at hown7 ⊢; simpa using hown7)
          have hst : RowsOut (w7.setCell ⟨gw, v, none⟩ (.slice (some ⟨g7, 0, none⟩) (m + 1) cap7)) gw n (addE (ciG G) v v) := by
            have := (HR5.out.below hB7 hgw5).store (Ak := some ⟨g7, 0, none⟩) (ck := cap7) (l := ciG G v ++ [(v : Int)]) hv (by rw [hL7]; exact hle7) hI7 (by rintro ad e; have h := hb7 _ rfl; injection e with e; subst e; show g7 ≠ gw; have h' : wr.heap.size ≤ g7 := h; omega)
            rw [hL7] at this
            exact this
          have hb8 : Below w1.heap.size w1 (w7.setCell ⟨gw, v, none⟩ (.slice (some ⟨g7, 0, none⟩) (m + 1) cap7)) := (hb35.trans (hB7.mono (by omega))).setCell (p := ⟨gw, v, none⟩) hgw2 _
          have hz8 : (w7.setCell ⟨gw, v, none⟩ (.slice (some ⟨g7, 0, none⟩) (m + 1) cap7)).heap.size = w7.heap.size := size_setCell _ _ _
          have hz7 := hB7.size
          have hlE : Hid (∀ i, i < n → (addE (ciG G) v v i).length ≤ 1000) := fun i _ => by
            have h1 : (ciG G i).length ≤ 40 := by unfold ciG; rw [ci_length]; exact HGL.out i
            have h2 : (ciG G v).length ≤ 40 := by unfold ciG; rw [ci_length]; exact HGL.out v
            unfold addE upd
            split
            · rw [List.length_append]; simp only [List.length_cons, List.length_nil]; omega
            · omega
          refine (above_add (by omega) hlE.out HCL.out HIRR.out hv hu true ⟨fun _ => .inl rfl, fun _ => rfl⟩ (hst.rows (by omega))).mono ?_
          rintro e w9 ⟨⟨A9, k9, c9, rfl⟩, hb9⟩
          have HST := Lib.hid (hst.below hb9 (by omega))
          have hz9 := hb9.size
          have hb9' : Below w1.heap.size w1 w9 := hb8.trans (hb9.mono (by omega))
          have hgw9 : gw < w9.heap.size := by omega
          first
            | rw [show CircErr true 5 4 = 5 from rfl]
            | rw [show CircErr false 5 4 = 4 from rfl]
          clear hst hb8 hz8 hI7 hL7 hown7 hfr7 hcv7 hB7 hg7 hg6 hB6 hlt6 hb9
          go_wp2_with fail
          refine (check_add (by omega) hlE.out HCL.out HIRR.out hv hu true ⟨fun _ => .inl rfl, fun _ => rfl⟩ (HST.out.rows hgw9)).mono ?_
          rintro e w10 ⟨rfl, hb10⟩
          have hb10' : Below w1.heap.size w1 w10 := hb9'.trans (hb10.mono (by omega))
          have hz10 := hb10.size
          have HST2 := Lib.hid (HST.out.below hb10 hgw9)
          have hgw10 : gw < w10.heap.size := by omega
          first
            | rw [show CircErr true 5 0 = 5 from rfl]
            | rw [show CircErr false 5 0 = 0 from rfl]
          clear hb10
          go_wp2_with fail
          go_ret
          exact ⟨rfl, hb1.trans (hb10'.mono hz1)⟩
        case' neg =>
          have hE : ((u : Int) == (v : Int)) = false := beq_eq_false_iff_ne.2 (by omega)
          have HCC : SaysIf cd (u = v ∨ Ab (ciG G) u v) := ⟨fun h => .inr ((HDN.out u).1 (mem_ci.1 (memB_iff.1 (HCD.out.trans h)))).2, fun h => HCD.out.symm.trans (memB_yes (mem_ci.2 ((HDN.out u).2 ⟨hu, h.resolve_left huv⟩)))⟩
          go_wp2_with fail
          refine (has_ci (by omega) HJr.out cd HCD.out).mono ?_
          rintro e w7 ⟨rfl, rfl⟩
          rcases Bool.eq_false_or_eq_true cd with rfl | rfl
        case inl =>
          go_wp2_with (at_builtin; refine wpList_append_ints rfl (.tmp 160) (.tmp 164) rfl wr.heap.size i0 hi hi0 hi1 hi2 _ 0 [] rfl (World.ownsRow_made wr #[] 0 (Nat.le_refl _) (Nat.zero_le _) (by simp)) Av m cv (w5.heap.size) (ciG G v) rfl HM.out ((HIr.out.below ((Below.refl _ wr).alloc hzr _) (Nat.le_refl _))) (by omega) (by rw [World.size_alloc]; omega) ?_)
          intro v6 w6 hown6 hg6
          have hs6 := hg6.size
          rw [World.size_alloc] at hs6
          have hB6 : Below w5.heap.size w5 w6 := (hB.alloc hzr _).grown hg6 (by rw [World.size_alloc]; omega) (fun q hq => by simp [Value.ownBlock] at hq; omega)
          have hlt6 := hown6.lt
          have HOwn6 := Lib.hid hown6
          clear hown6
          go_wp2_with (at_builtin; refine wpList_append_own _ rfl _ _ 25 rfl wr.heap.size 3 i0 (.int .i64 0) 1 8 Try.underlying25 hi hi0 hi1 hi2 rfl (by decide) v6 m (iv (ciG G v)) rfl (HOwn6.out.alloc _) ⟨w6.heap.size, 0, none⟩ 1 1 [.int .i64 (u : Int)] rfl rfl (cell_one_new _ _ _) (iv_one [(u : Int)]) (by unfold maxLen; omega) (by omega) (by rw [World.size_alloc]; omega) ?_; intro v7 w7 hown7 hg7 _; obtain ⟨g7, cap7, rfl⟩ := own_succ hown7; have hB7 : Below w5.heap.size w5 w7 := (hB6.alloc (by omega) _).grown hg7 (by rw [World.size_alloc]; omega) (fun q hq => by have := (hlt6 q hq).1; omega); have hfr7 := (hB7.frozen (p := ⟨gw, v, none⟩) hgw5).trans hfr; have hcv7 := (hB7.cell (p := ⟨gw, v, none⟩) hgw5).trans hcv)
          obtain ⟨hle7, hb7⟩ := own_cap hown7
          have hL7 : (ciG G v ++ [(u : Int)]).length = m + 1 := by rw [List.length_append, ← HM.out]; rfl
          have hI7 : IntsAt w7 w7.heap.size (some ⟨g7, 0, none⟩) (ciG G v ++ [(u : Int)]) := IntsAt.of_own (base := wr.heap.size) (n := m + 1) (c := cap7) (by unfold iv at hown7 ⊢; simpa using hown7)
          have hst : RowsOut (w7.setCell ⟨gw, v, none⟩ (.slice (some ⟨g7, 0, none⟩) (m + 1) cap7)) gw n (addE (ciG G) v u) := by
            have := (HR5.out.below hB7 hgw5).store (Ak := some ⟨g7, 0, none⟩) (ck := cap7) (l := ciG G v ++ [(u : Int)]) hv (by rw [hL7]; exact hle7) hI7 (by rintro ad e; have h := hb7 _ rfl; injection e with e; subst e; show g7 ≠ gw; have h' : wr.heap.size ≤ g7 := h; omega)
            rw [hL7] at this
            exact this
          have hb8 : Below w1.heap.size w1 (w7.setCell ⟨gw, v, none⟩ (.slice (some ⟨g7, 0, none⟩) (m + 1) cap7)) := (hb35.trans (hB7.mono (by omega))).setCell (p := ⟨gw, v, none⟩) hgw2 _
          have hz8 : (w7.setCell ⟨gw, v, none⟩ (.slice (some ⟨g7, 0, none⟩) (m + 1) cap7)).heap.size = w7.heap.size := size_setCell _ _ _
          have hz7 := hB7.size
          have hlE : Hid (∀ i, i < n → (addE (ciG G) v u i).length ≤ 1000) := fun i _ => by
            have h1 : (ciG G i).length ≤ 40 := by unfold ciG; rw [ci_length]; exact HGL.out i
            have h2 : (ciG G v).length ≤ 40 := by unfold ciG; rw [ci_length]; exact HGL.out v
            unfold addE upd
            split
            · rw [List.length_append]; simp only [List.length_cons, List.length_nil]; omega
            · omega
          refine (above_add (by omega) hlE.out HCL.out HIRR.out hv hu _ HCC (hst.rows (by omega))).mono ?_
          rintro e w9 ⟨⟨A9, k9, c9, rfl⟩, hb9⟩
          have HST := Lib.hid (hst.below hb9 (by omega))
          have hz9 := hb9.size
          have hb9' : Below w1.heap.size w1 w9 := hb8.trans (hb9.mono (by omega))
          have hgw9 : gw < w9.heap.size := by omega
          first
            | rw [show CircErr true 5 4 = 5 from rfl]
            | rw [show CircErr false 5 4 = 4 from rfl]
          clear hst hb8 hz8 hI7 hL7 hown7 hfr7 hcv7 hB7 hg7 hg6 hB6 hlt6 hb9
          go_wp2_with fail
          refine (check_add (by omega) hlE.out HCL.out HIRR.out hv hu _ HCC (HST.out.rows hgw9)).mono ?_
          rintro e w10 ⟨rfl, hb10⟩
          have hb10' : Below w1.heap.size w1 w10 := hb9'.trans (hb10.mono (by omega))
          have hz10 := hb10.size
          have HST2 := Lib.hid (HST.out.below hb10 hgw9)
          have hgw10 : gw < w10.heap.size := by omega
          first
            | rw [show CircErr true 5 0 = 5 from rfl]
            | rw [show CircErr false 5 0 = 0 from rfl]
          clear hb10
          go_wp2_with fail
          go_ret
          exact ⟨rfl, hb1.trans (hb10'.mono hz1)⟩
        case inr =>
          go_wp2_with (at_builtin; refine wpList_append_ints rfl (.tmp 160) (.tmp 164) rfl wr.heap.size i0 hi hi0 hi1 hi2 _ 0 [] rfl (World.ownsRow_made wr #[] 0 (Nat.le_refl _) (Nat.zero_le _) (by simp)) Av m cv (w5.heap.size) (ciG G v) rfl HM.out ((HIr.out.below ((Below.refl _ wr).alloc hzr _) (Nat.le_refl _))) (by omega) (by rw [World.size_alloc]; omega) ?_)
          intro v6 w6 hown6 hg6
          have hs6 := hg6.size
          rw [World.size_alloc] at hs6
          have hB6 : Below w5.heap.size w5 w6 := (hB.alloc hzr _).grown hg6 (by rw [World.size_alloc]; omega) (fun q hq => by simp [Value.ownBlock] at hq; omega)
          have hlt6 := hown6.lt
          have HOwn6 := Lib.hid hown6
          clear hown6
          go_wp2_with (at_builtin; refine wpList_append_own _ rfl _ _ 25 rfl wr.heap.size 3 i0 (.int .i64 0) 1 8 Try.underlying25 hi hi0 hi1 hi2 rfl (by decide) v6 m (iv (ciG G v)) rfl (HOwn6.out.alloc _) ⟨w6.heap.size, 0, none⟩ 1 1 [.int .i64 (u : Int)] rfl rfl (cell_one_new _ _ _) (iv_one [(u : Int)]) (by unfold maxLen; omega) (by omega) (by rw [World.size_alloc]; omega) ?_; intro v7 w7 hown7 hg7 _; obtain ⟨g7, cap7, rfl⟩ := own_succ hown7; have hB7 : Below w5.heap.size w5 w7 := (hB6.alloc (by omega) _).grown hg7 (by rw [World.size_alloc]; omega) (fun q hq => by have := (hlt6 q hq).1; omega); have hfr7 := (hB7.frozen (p := ⟨gw, v, none⟩) hgw5).trans hfr; have hcv7 := (hB7.cell (p := ⟨gw, v, none⟩) hgw5).trans hcv)
          obtain ⟨hle7, hb7⟩ := own_cap hown7
          have hL7 : (ciG G v ++ [(u : Int)]).length = m + 1 := by rw [List.length_append, ← HM.out]; rfl
          have hI7 : IntsAt w7 w7.heap.size (some ⟨g7, 0, none⟩) (ciG G v ++ [(u : Int)]) := IntsAt.of_own (base := wr.heap.size) (n := m + 1) (c := cap7) (by unfold iv at hown7 ⊢; simpa using hown7)
          have hst : RowsOut (w7.setCell ⟨gw, v, none⟩ (.slice (some ⟨g7, 0, none⟩) (m + 1) cap7)) gw n (addE (ciG G) v u) := by
            have := (HR5.out.below hB7 hgw5).store (Ak := some ⟨g7, 0, none⟩) (ck := cap7) (l := ciG G v ++ [(u : Int)]) hv (by rw [hL7]; exact hle7) hI7 (by rintro ad e; have h := hb7 _ rfl; injection e with e; subst e; show g7 ≠ gw; have h' : wr.heap.size ≤ g7 := h; omega)
            rw [hL7] at this
            exact this
          have hb8 : Below w1.heap.size w1 (w7.setCell ⟨gw, v, none⟩ (.slice (some ⟨g7, 0, none⟩) (m + 1) cap7)) := (hb35.trans (hB7.mono (by omega))).setCell (p := ⟨gw, v, none⟩) hgw2 _
          have hz8 : (w7.setCell ⟨gw, v, none⟩ (.slice (some ⟨g7, 0, none⟩) (m + 1) cap7)).heap.size = w7.heap.size := size_setCell _ _ _
          have hz7 := hB7.size
          have hlE : Hid (∀ i, i < n → (addE (ciG G) v u i).length ≤ 1000) := fun i _ => by
            have h1 : (ciG G i).length ≤ 40 := by unfold ciG; rw [ci_length]; exact HGL.out i
            have h2 : (ciG G v).length ≤ 40 := by unfold ciG; rw [ci_length]; exact HGL.out v
            unfold addE upd
            split
            · rw [List.length_append]; simp only [List.length_cons, List.length_nil]; omega
            · omega
          refine (above_add (by omega) hlE.out HCL.out HIRR.out hv hu _ HCC (hst.rows (by omega))).mono ?_
          rintro e w9 ⟨⟨A9, k9, c9, rfl⟩, hb9⟩
          have HST := Lib.hid (hst.below hb9 (by omega))
          have hz9 := hb9.size
          have hb9' : Below w1.heap.size w1 w9 := hb8.trans (hb9.mono (by omega))
          have hgw9 : gw < w9.heap.size := by omega
          first
            | rw [show CircErr true 5 4 = 5 from rfl]
            | rw [show CircErr false 5 4 = 4 from rfl]
          clear hst hb8 hz8 hI7 hL7 hown7 hfr7 hcv7 hB7 hg7 hg6 hB6 hlt6 hb9
          go_wp2_with fail
          refine (check_add (by omega) hlE.out HCL.out HIRR.out hv hu _ HCC (HST.out.rows hgw9)).mono ?_
          rintro e w10 ⟨rfl, hb10⟩
          have hb10' : Below w1.heap.size w1 w10 := hb9'.trans (hb10.mono (by omega))
          have hz10 := hb10.size
          have HST2 := Lib.hid (HST.out.below hb10 hgw9)
          have hgw10 : gw < w10.heap.size := by omega
          first
            | rw [show CircErr true 5 0 = 5 from rfl]
            | rw [show CircErr false 5 0 = 0 from rfl]
          clear hb10
          go_wp2_with fail
          refine (check_add (by omega) hlE.out HCL.out HIRR.out hv hu _ HCC (HST2.out.rows hgw10)).mono ?_
          rintro e w11 ⟨rfl, hb11⟩
          have hb11' : Below w1.heap.size w1 w11 := hb10'.trans (hb11.mono (by omega))
          first
            | rw [show CircErr true 5 0 = 5 from rfl]
            | rw [show CircErr false 5 0 = 0 from rfl]
          go_wp2_with fail
          go_ret
          exact ⟨rfl, hb1.trans (hb11'.mono hz1)⟩

end Go.Proofs.Ytlkgnafbipgpbaa
