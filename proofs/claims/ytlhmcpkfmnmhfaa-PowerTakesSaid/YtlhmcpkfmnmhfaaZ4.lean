/- The contracts of needed, Down. -/
import Derived.Test.YtlhmcpkfmnmhfaaZ3
namespace Go.Proofs.Ytlhmcpkfmnmhfaa
set_option linter.unusedSimpArgs false
set_option linter.unusedVariables false
open Go.RowKit Go.Maps

def nbB (i : Int) (x : Pst) : Bool := decide (x.dom.above = i) && !restsB x.phase
theorem nb1_any (q : Nat) (i : Int) (x : Pst) (w : World) (hq : w.cell? ⟨q, 0, none⟩ = some (.int .i64 i)) :
    Calls Try.prog 51 #[.agg (pstL x).toArray, .pointer (some ⟨q, 0, none⟩)] w (TellsB (nbB i x) w) := by
  obtain ⟨⟨ab, dl, rt⟩, p, l, kp⟩ := x
  show Calls Try.prog 51 #[.agg #[.int .i64 ab, .int .i64 dl, .bool rt, .int .u8 p, .int .i64 l, .bool kp], .pointer (some ⟨q, 0, none⟩)] w _
  have hB : Below w.heap.size w (w.alloc (.cells #[.int .i64 ab, .int .i64 dl, .bool rt, .int .u8 p, .int .i64 l, .bool kp] 75)) := (Below.refl _ _).alloc (Nat.le_refl _) _
  have hbx := BoxAt.new w [.int .i64 ab, .int .i64 dl, .bool rt, .int .u8 p, .int .i64 l, .bool kp] 75
  have hq' := Lib.cell?_alloc_some (Obj.cells #[.int .i64 ab, .int .i64 dl, .bool rt, .int .u8 p, .int .i64 l, .bool kp] 75) hq
  have HB := Lib.hid hB
  have HX := Lib.hid hbx
  obtain ⟨r, hr⟩ : ∃ r, restsB p = r := ⟨_, rfl⟩
  have HR := Lib.hid hr
  by_cases ha : ab = i
  · subst ha
    have hn : nbB ab ⟨⟨ab, dl, rt⟩, p, l, kp⟩ = !r := by unfold nbB; simp [hr]
    rw [hn]
    clear hn hr hB hbx hq
    go_enter Try.func51, Try.ntmps51
    go_wp2_with fail
    refine (rests_any w.heap.size 0 p _ (HX.out 3 _ rfl).1).mono ?_
    rintro e w' ⟨rfl, rfl⟩
    rw [HR.out]
    cases r with
    | true =>
      go_wp2
      go_ret
      exact ⟨rfl, HB.out⟩
    | false =>
      go_wp2
      go_ret
      exact ⟨rfl, HB.out⟩
  · have hn : nbB i ⟨⟨ab, dl, rt⟩, p, l, kp⟩ = false := by unfold nbB; simp [ha]
    have e0 : (ab == i) = false := by simpa using ha
    rw [hn]
    clear hn hr hB hbx hq ha
    go_enter Try.func51, Try.ntmps51
    go_wp2
    go_ret
    exact ⟨rfl, HB.out⟩

set_option maxHeartbeats 1000000 in
theorem idxP_any (gt g c q : Nat) (sts : List Pst) (i : Int) (w : World) (hl : sts.length ≤ 1000) (h : GridIs w gt g c sts) (hq : w.cell? ⟨q, 0, none⟩ = some (.int .i64 i)) :
    Calls Try.prog 78 #[.slice (some ⟨g, 0, none⟩) sts.length c, .func (.func 51) #[] #[.pointer (some ⟨q, 0, none⟩)]] w (IdxOut (nbB i) sts w) := by
  have H := Lib.hid h
  have HQ0 := Lib.hid hq
  clear h hq
  go_enter Try.func78, Try.ntmps78
  go_wp2
  go_loopw [8] (fun i8 wr => ∃ k : Nat, k ≤ sts.length ∧ i8 = .int .i64 k ∧ Below w.heap.size w wr ∧ ∀ (j : Nat) y, j < k → sts[j]? = some y → nbB i y = false) (fun i8 _ => sts.length - (intOf i8).toNat)
  case atStart => exact ⟨0, Nat.zero_le _, rfl, Below.refl _ _, fun j y hj => absurd hj (by omega)⟩
  case round =>
    obtain ⟨k, hk, rfl, hB, hno⟩ := hrel
    have HN := Lib.hid hno
    clear hno
    by_cases hlt : k < sts.length
    · have hk? := List.getElem?_eq_getElem hlt
      generalize sts[k] = x at hk?
      have HK := Lib.hid hk?
      have hat := (H.out.move (Moved.of_below hB)).at_ hk?
      have c0 : wr.cell? ⟨g, k * 6, none⟩ = _ := (hat 0 _ rfl).1
      have c1 := (hat 1 _ rfl).1
      have c2 := (hat 2 _ rfl).1
      have c3 := (hat 3 _ rfl).1
      have c4 := (hat 4 _ rfl).1
      have c5 := (hat 5 _ rfl).1
      have hcall := nb1_any q i x wr (hB.cell (World.block_lt_of_cell? w _ HQ0.out) |>.trans HQ0.out)
      clear hat hk?
      cases hq : nbB i x with
      | true =>
        rw [hq] at hcall
        have HQ := Lib.hid hq
        go_wp2_with (go_at_call 51; refine hcall.mono ?_; rintro e w' ⟨rfl, hb'⟩)
        go_ret
        exact ⟨⟨k, .inl ⟨by omega, List.any_eq_true.2 ⟨x, List.mem_of_getElem? HK.out, HQ.out⟩⟩, rfl⟩, hB.trans (hb'.mono hB.size)⟩
      | false =>
        rw [hq] at hcall
        have HQ := Lib.hid hq
        go_wp2_with (go_at_call 51; refine hcall.mono ?_; rintro e w' ⟨rfl, hb'⟩)
        go_roundw
        case rel => exact ⟨k + 1, by omega, by go_num, hB.trans (hb'.mono hB.size), fun j y hj hy => by
          by_cases e : j = k
          · subst e; rw [HK.out] at hy; injection hy with hy; rw [← hy]; exact HQ.out
          · exact HN.out j y (by omega) hy⟩
        case measure => simp [intOf]; omega
    · have hm := any_no (p := nbB i) (xs := sts) fun j y hj => HN.out j y (by omega)
      have HM := Lib.hid hm
      clear hm
      go_wp2
      go_ret
      exact ⟨⟨-1, .inr ⟨by omega, HM.out⟩, rfl⟩, hB⟩

theorem contP_any (gt g c q : Nat) (sts : List Pst) (i : Int) (w : World) (hl : sts.length ≤ 1000) (h : GridIs w gt g c sts) (hq : w.cell? ⟨q, 0, none⟩ = some (.int .i64 i)) :
    Calls Try.prog 50 #[.slice (some ⟨g, 0, none⟩) sts.length c, .func (.func 51) #[] #[.pointer (some ⟨q, 0, none⟩)]] w (TellsB (sts.any (nbB i)) w) := by
  go_enter Try.func50, Try.ntmps50
  go_wp2_with fail
  refine (idxP_any gt g c q sts i w hl h hq).mono ?_
  rintro e w' ⟨⟨z, ⟨hz, hm⟩ | ⟨hz, hm⟩, rfl⟩, hb⟩
  · have hz' : decide (0 ≤ z) = true := by simpa using hz
    have HM := Lib.hid hm
    clear hm
    go_wp2
    go_ret
    exact ⟨by first | rfl | exact ret_bool HM.out.symm, hb⟩
  · have hz' : decide (0 ≤ z) = false := by simpa using hz
    have HM := Lib.hid hm
    clear hm
    go_wp2
    go_ret
    exact ⟨by first | rfl | exact ret_bool HM.out.symm, hb⟩

theorem needed_any (gt g c : Nat) (sts : List Pst) (i : Int) (w : World) (hl : sts.length ≤ 1000) (h : GridIs w gt g c sts) :
    Calls Try.prog 25 #[.pointer (some ⟨gt, 0, none⟩), .int .i64 i] w (TellsB (needB sts i) w) := by
  have hm : Moved [] w (w.alloc (.cells #[.int .i64 i] 3)) := Moved.alloc _ _
  have H1 := Lib.hid (h.move hm)
  have hbx := BoxAt.new w [.int .i64 i] 3
  have b0 := (H1.out.box 0 _ rfl).1
  have HX := Lib.hid hbx
  have hn : needB sts i = sts.any (nbB i) := rfl
  rw [hn]
  clear h hbx hn
  go_enter Try.func25, Try.ntmps25
  go_wp2_with fail
  refine (contP_any gt g c w.heap.size sts i _ hl H1.out (HX.out 0 _ rfl).1).mono ?_
  rintro e w' ⟨rfl, hb⟩
  go_wp2
  go_ret
  exact ⟨rfl, ((Below.refl w.heap.size w).alloc (Nat.le_refl _) _).trans (hb.mono (by simp))⟩

set_option maxHeartbeats 2000000 in
theorem down_any (gt g c : Nat) (sts : List Pst) (i : Int) (kp : Bool) (w : World) (hn : sts.length ≤ 1000) (h : GridIs w gt g c sts) :
    Calls Try.prog 14 #[.pointer (some ⟨gt, 0, none⟩), .int .i64 i, .bool kp] w (Does w gt g c (downE sts i kp) (downT sts i kp)) := by
  have H := Lib.hid h
  have b0 := (h.box 0 _ rfl).1
  have g0 := (h.box 0 _ rfl).2
  clear h
  by_cases hb : hasB sts.length i = true
  · obtain ⟨k, x, rfl, hx⟩ := hasB_ex hb
    have hlt := (List.getElem?_eq_some_iff.1 hx).1
    obtain ⟨E, hEE⟩ : ∃ E, downE sts (k : Int) kp = E := ⟨_, rfl⟩
    have hE : E = if x.phase = 49 then (if kp = true ∧ x.dom.ret = false then 1 else if needB sts (k : Int) = true then 7 else 0) else 6 := hEE ▸ atP_at hx _ _
    have hT : downT sts (k : Int) kp = if E = 0 then sts.set k (downS kp x) else sts := by unfold downT; rw [hEE, setT_at _ hx]
    rw [hEE, hT]
    obtain ⟨v2, -⟩ := H.out.at_ hx 2 _ rfl
    obtain ⟨v3, f3⟩ := H.out.at_ hx 3 _ rfl
    obtain ⟨v5, f5⟩ := H.out.at_ hx 5 _ rfl
    have i0 : (0 : Int) ≤ (k : Int) := by omega
    have i1 : (k : Int) < (sts.length : Int) := by omega
    have HB := Lib.hid hb
    have HX := Lib.hid hx
    obtain ⟨r, hr⟩ : ∃ r, x.dom.ret = r := ⟨_, rfl⟩
    obtain ⟨nb, hnb⟩ : ∃ nb, needB sts (k : Int) = nb := ⟨_, rfl⟩
    obtain ⟨p, hp⟩ : ∃ p, x.phase = p := ⟨_, rfl⟩
    rw [hr, hnb, hp] at hE
    rw [hr] at v2
    rw [hp] at v3
    have HR := Lib.hid hr
    have HNB := Lib.hid hnb
    have HP := Lib.hid hp
    have hG : ∀ E w', Moved [] w w' → Does w gt g c E sts (.returned (.int .i64 E)) w' := fun E w' hm => ⟨rfl, H.out.move hm, hm.mono (by simp)⟩
    have HG := Lib.hid hG
    clear hT hb hx hr hnb hp hEE hG
    by_cases p49 : p = 49
    · subst p49
      rw [if_pos rfl] at hE
      by_cases hka : kp = true ∧ r = false
      · rw [if_pos hka] at hE
        subst hE
        obtain ⟨rfl, rfl⟩ := hka
        rw [if_neg (by omega)]
        go_enter Try.func14, Try.ntmps14
        go_wp2_with fail
        refine (has_any gt _ _ _ (k : Int) w H.out.box).mono ?_
        rintro e w' ⟨rfl, rfl⟩
        rw [HB.out]
        go_wp2
        go_ret
        exact HG.out 1 _ (Moved.refl _ _)
      · rw [if_neg hka] at hE
        have hkr : kp = false ∨ (kp = true ∧ r = true) := by
          cases kp <;> cases r <;> simp_all
        have hxl := (List.getElem?_eq_some_iff.1 HX.out).1
        have hD : ∀ w', Moved [] w w' → Does w gt g c 0 (sts.set k (downS kp x)) (.returned (.int .i64 0)) ((w'.setCell ⟨g, k * 6 + 3, none⟩ (.int .u8 99)).setCell ⟨g, k * 6 + 5, none⟩ (.bool kp)) := fun w' hm => by
          have h1 := (H.out.move hm).set (j := 3) (u := .int .u8 99) (x' := { x with phase := 99 }) HX.out (by omega) rfl
          have h2 := h1.set (k := k) (j := 5) (u := .bool kp) (x' := downS kp x) (List.getElem?_set_self hxl) (by omega) rfl
          rw [List.set_set] at h2
          exact ⟨rfl, h2, (hm.mono (by simp)).trans ((Moved.setCell _ (by simp) _).trans (Moved.setCell _ (by simp) _))⟩
        have HD := Lib.hid hD
        have hw : ∀ w', Below w.heap.size w w' → w'.cell? ⟨gt, 0, none⟩ = some (.slice (some ⟨g, 0, none⟩) sts.length c) ∧ (∀ j v, (pstL x)[j]? = some v → w'.cell? ⟨g, k * 6 + j, none⟩ = some v ∧ w'.frozen? ⟨g, k * 6 + j, none⟩ = false) := fun w' hb => ⟨((H.out.move (Moved.of_below hb)).box 0 _ rfl).1, (H.out.move (Moved.of_below hb)).at_ HX.out⟩
        have HW := Lib.hid hw
        clear hka hD hw
        cases nb with
        | true =>
          rw [if_pos rfl] at hE
          subst hE
          rw [if_neg (by omega)]
          rcases hkr with rfl | ⟨rfl, rfl⟩
          all_goals
            go_enter Try.func14, Try.ntmps14
            go_wp2_with fail
            refine (has_any gt _ _ _ (k : Int) w H.out.box).mono ?_
            rintro e w' ⟨rfl, rfl⟩
            rw [HB.out]
            go_wp2_with fail
            refine (needed_any gt g c sts (k : Int) _ hn H.out).mono ?_
            rintro e w2 ⟨rfl, hb2⟩
            rw [HNB.out]
            have HB2 := Lib.hid hb2
            clear hb2
            go_wp2
            go_ret
            exact HG.out 7 _ (Moved.of_below HB2.out)
        | false =>
          rw [if_neg (by simp)] at hE
          subst hE
          rw [if_pos rfl]
          rcases hkr with rfl | ⟨rfl, rfl⟩
          all_goals
            go_enter Try.func14, Try.ntmps14
            go_wp2_with fail
            refine (has_any gt _ _ _ (k : Int) w H.out.box).mono ?_
            rintro e w' ⟨rfl, rfl⟩
            rw [HB.out]
            go_wp2_with fail
            refine (needed_any gt g c sts (k : Int) _ hn H.out).mono ?_
            rintro e w2 ⟨rfl, hb2⟩
            rw [HNB.out]
            obtain ⟨z0, hz⟩ := HW.out w2 hb2
            obtain ⟨z3, y3⟩ := hz 3 _ rfl
            obtain ⟨z5, y5⟩ := hz 5 _ rfl
            have HB2 := Lib.hid hb2
            clear hb2 hz
            go_wp2
            go_ret
            exact HD.out _ (Moved.of_below HB2.out)
    · have e0 : (p != 49) = true := by simpa using p49
      rw [if_neg p49] at hE
      subst hE
      rw [if_neg (by omega)]
      clear p49
      go_enter Try.func14, Try.ntmps14
      go_wp2_with fail
      refine (has_any gt _ _ _ (k : Int) w H.out.box).mono ?_
      rintro e w' ⟨rfl, rfl⟩
      rw [HB.out]
      go_wp2
      go_ret
      exact HG.out 6 _ (Moved.refl _ _)
  · have hb' : hasB sts.length i = false := by simpa using hb
    have hE : downE sts i kp = 4 := atP_no hb' _ _
    have hT : downT sts i kp = sts := by unfold downT; rw [hE, if_neg (by omega)]
    rw [hE, hT]
    have hG : Does w gt g c 4 sts (.returned (.int .i64 4)) w := ⟨rfl, H.out, Moved.refl _ _⟩
    have HG := Lib.hid hG
    have HB := Lib.hid hb'
    clear hb hb' hE hT hG
    go_enter Try.func14, Try.ntmps14
    go_wp2_with fail
    refine (has_any gt _ _ _ i w H.out.box).mono ?_
    rintro e w' ⟨rfl, rfl⟩
    rw [HB.out]
    go_wp2
    go_ret
    exact HG.out

end Go.Proofs.Ytlhmcpkfmnmhfaa
