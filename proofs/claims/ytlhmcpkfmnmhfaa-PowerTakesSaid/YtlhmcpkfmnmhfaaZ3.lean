/- The contracts of pass, Up, needed, Down. -/
import Derived.Test.YtlhmcpkfmnmhfaaZ2
namespace Go.Proofs.Ytlhmcpkfmnmhfaa
set_option linter.unusedSimpArgs false
set_option linter.unusedVariables false
open Go.RowKit Go.Maps

/-- what a call does: it tells an error, and leaves a grid -/
def Does (w : World) (gt g c : Nat) (E : Int) (sts' : List Pst) (e : Ending) (w' : World) : Prop := e = .returned (.int .i64 E) ∧ GridIs w' gt g c sts' ∧ Moved [g] w w'
/-- what pass does -/
def Passes (w : World) (gt g c : Nat) (K : Int) (sts' : List Pst) (e : Ending) (w' : World) : Prop := e = .returned (.int .u8 K) ∧ GridIs w' gt g c sts' ∧ Moved [g] w w'

set_option maxHeartbeats 2000000 in
theorem pass_any (gt g c : Nat) (sts : List Pst) (k : Nat) (x : Pst) (w : World) (h : GridIs w gt g c sts) (hx : sts[k]? = some x) (hl : x.left ≤ 1000000) :
    Calls Try.prog 26 #[.pointer (some ⟨g, k * 6, none⟩)] w (Passes w gt g c (passK x) (sts.set k (passT x))) := by
  have H := Lib.hid h
  obtain ⟨v3, f3⟩ := h.at_ hx 3 _ rfl
  obtain ⟨v4, f4⟩ := h.at_ hx 4 _ rfl
  obtain ⟨v5, f5⟩ := h.at_ hx 5 _ rfl
  have HX := Lib.hid hx
  obtain ⟨d, p, l, kp⟩ := x
  simp only at v3 v4 v5 hl
  clear h hx
  by_cases p114 : p = 114
  · subst p114
    by_cases hl0 : 0 < l
    · have hk : passK ⟨d, 114, l, kp⟩ = 0 := by unfold passK; simp [hl0]
      have ht : passT ⟨d, 114, l, kp⟩ = ⟨d, 114, l - 1, kp⟩ := by unfold passT; simp [hl0]
      rw [hk, ht]
      have hG : Passes w gt g c 0 (sts.set k ⟨d, 114, l - 1, kp⟩) (.returned (.int .u8 0)) (w.setCell ⟨g, k * 6 + 4, none⟩ (.int .i64 (l - 1))) :=
        ⟨rfl, H.out.set (j := 4) HX.out (by omega) rfl, Moved.setCell _ (by simp) _⟩
      have HG := Lib.hid hG
      clear hk ht hG
      go_enter Try.func26, Try.ntmps26
      go_wp2
      go_ret
      exact HG.out
    · have ht : passT ⟨d, 114, l, kp⟩ = ⟨d, 104, l, kp⟩ := by unfold passT; simp [hl0]
      rw [ht]
      have hG : ∀ K, Passes w gt g c K (sts.set k ⟨d, 104, l, kp⟩) (.returned (.int .u8 K)) (w.setCell ⟨g, k * 6 + 3, none⟩ (.int .u8 104)) := fun K =>
        ⟨rfl, H.out.set (j := 3) HX.out (by omega) rfl, Moved.setCell _ (by simp) _⟩
      have HG := Lib.hid hG
      cases kp with
      | true =>
        have hk : passK ⟨d, 114, l, true⟩ = 114 := by unfold passK; simp [hl0]
        rw [hk]
        clear hk ht hG
        go_enter Try.func26, Try.ntmps26
        go_wp2
        go_ret
        exact HG.out 114
      | false =>
        have hk : passK ⟨d, 114, l, false⟩ = 110 := by unfold passK; simp [hl0]
        rw [hk]
        clear hk ht hG
        go_enter Try.func26, Try.ntmps26
        go_wp2
        go_ret
        exact HG.out 110
  by_cases p104 : p = 104
  · subst p104
    have hk : passK ⟨d, 104, l, kp⟩ = 111 := by unfold passK; simp
    have ht : passT ⟨d, 104, l, kp⟩ = ⟨d, 49, l, kp⟩ := by unfold passT; simp
    rw [hk, ht]
    have hG : Passes w gt g c 111 (sts.set k ⟨d, 49, l, kp⟩) (.returned (.int .u8 111)) (w.setCell ⟨g, k * 6 + 3, none⟩ (.int .u8 49)) :=
      ⟨rfl, H.out.set (j := 3) HX.out (by omega) rfl, Moved.setCell _ (by simp) _⟩
    have HG := Lib.hid hG
    clear hk ht hG p114
    go_enter Try.func26, Try.ntmps26
    go_wp2
    go_ret
    exact HG.out
  by_cases p99 : p = 99
  · subst p99
    cases kp with
    | true =>
      have hk : passK ⟨d, 99, l, true⟩ = 115 := by unfold passK; simp
      have ht : passT ⟨d, 99, l, true⟩ = ⟨d, 116, l, true⟩ := by unfold passT; simp
      rw [hk, ht]
      have hG : Passes w gt g c 115 (sts.set k ⟨d, 116, l, true⟩) (.returned (.int .u8 115)) (w.setCell ⟨g, k * 6 + 3, none⟩ (.int .u8 116)) :=
        ⟨rfl, H.out.set (j := 3) HX.out (by omega) rfl, Moved.setCell _ (by simp) _⟩
      have HG := Lib.hid hG
      clear hk ht hG p114 p104
      go_enter Try.func26, Try.ntmps26
      go_wp2
      go_ret
      exact HG.out
    | false =>
      have hk : passK ⟨d, 99, l, false⟩ = 108 := by unfold passK; simp
      have ht : passT ⟨d, 99, l, false⟩ = ⟨d, 48, l, false⟩ := by unfold passT; simp
      rw [hk, ht]
      have hG : Passes w gt g c 108 (sts.set k ⟨d, 48, l, false⟩) (.returned (.int .u8 108)) (w.setCell ⟨g, k * 6 + 3, none⟩ (.int .u8 48)) :=
        ⟨rfl, H.out.set (j := 3) HX.out (by omega) rfl, Moved.setCell _ (by simp) _⟩
      have HG := Lib.hid hG
      clear hk ht hG p114 p104
      go_enter Try.func26, Try.ntmps26
      go_wp2
      go_ret
      exact HG.out
  have hk : passK ⟨d, p, l, kp⟩ = 0 := by unfold passK; simp [p114, p104, p99]
  have ht : passT ⟨d, p, l, kp⟩ = ⟨d, p, l, kp⟩ := by unfold passT; simp [p114, p104, p99]
  have hs : sts.set k ⟨d, p, l, kp⟩ = sts := by
    obtain ⟨hlt, e⟩ := List.getElem?_eq_some_iff.1 HX.out
    rw [← e]
    exact List.set_getElem_self hlt
  rw [hk, ht, hs]
  have hG : Passes w gt g c 0 sts (.returned (.int .u8 0)) w := ⟨rfl, H.out, Moved.refl _ _⟩
  have HG := Lib.hid hG
  have e1 : (p == 114) = false := by simpa using p114
  have e2 : (p == 104) = false := by simpa using p104
  have e3 : (p == 99) = false := by simpa using p99
  clear hk ht hs hG p114 p104 p99
  go_enter Try.func26, Try.ntmps26
  go_wp2
  go_ret
  exact HG.out

set_option maxHeartbeats 2000000 in
theorem up_any (gt g c : Nat) (sts : List Pst) (i : Int) (w : World) (hn : sts.length ≤ 1000) (h : GridIs w gt g c sts) (ha : ∀ (k : Nat) (x : Pst), sts[k]? = some x → aboveOk sts.length x.dom.above) :
    Calls Try.prog 13 #[.pointer (some ⟨gt, 0, none⟩), .int .i64 i] w (Does w gt g c (upE sts i) (upT sts i)) := by
  have H := Lib.hid h
  have HA := Lib.hid ha
  have b0 := (h.box 0 _ rfl).1
  have g0 := (h.box 0 _ rfl).2
  clear h ha
  by_cases hb : hasB sts.length i = true
  · obtain ⟨k, x, rfl, hx⟩ := hasB_ex hb
    have hlt := (List.getElem?_eq_some_iff.1 hx).1
    have hE : upE sts (k : Int) = if restsB x.phase = true ∧ fedB sts x.dom.above = true then 0 else 6 := atP_at hx _ _
    obtain ⟨v1, -⟩ := H.out.at_ hx 1 _ rfl
    obtain ⟨v3, f3⟩ := H.out.at_ hx 3 _ rfl
    obtain ⟨v4, f4⟩ := H.out.at_ hx 4 _ rfl
    have i0 : (0 : Int) ≤ (k : Int) := by omega
    have i1 : (k : Int) < (sts.length : Int) := by omega
    have HB := Lib.hid hb
    have HX := Lib.hid hx
    obtain ⟨r, hr⟩ : ∃ r, restsB x.phase = r := ⟨_, rfl⟩
    obtain ⟨f, hf⟩ : ∃ f, fedB sts x.dom.above = f := ⟨_, rfl⟩
    rw [hr, hf] at hE
    have HR := Lib.hid hr
    have HF := Lib.hid hf
    have hT : upT sts (k : Int) = if r = true ∧ f = true then sts.set k (upS x) else sts := by
      unfold upT
      rw [hE]
      by_cases hrf : r = true ∧ f = true
      · rw [if_pos hrf, if_pos rfl, if_pos hrf, setT_at _ HX.out]
      · rw [if_neg hrf, if_neg (by omega), if_neg hrf]
    rw [hE, hT]
    clear hE hT hb hx hr hf
    cases r with
    | false =>
      have hG : Does w gt g c 6 sts (.returned (.int .i64 6)) w := ⟨rfl, H.out, Moved.refl _ _⟩
      have HG := Lib.hid hG
      rw [if_neg (by simp), if_neg (by simp)]
      clear hG
      go_enter Try.func13, Try.ntmps13
      go_wp2_with fail
      refine (has_any gt _ _ _ (k : Int) w H.out.box).mono ?_
      rintro e w' ⟨rfl, rfl⟩
      rw [HB.out]
      go_wp2_with fail
      refine (rests_any g (k * 6) x.phase _ v3).mono ?_
      rintro e w' ⟨rfl, rfl⟩
      rw [HR.out]
      go_wp2
      go_ret
      exact HG.out
    | true =>
      cases f with
      | false =>
        have hG : Does w gt g c 6 sts (.returned (.int .i64 6)) w := ⟨rfl, H.out, Moved.refl _ _⟩
        have HG := Lib.hid hG
        rw [if_neg (by simp), if_neg (by simp)]
        clear hG
        go_enter Try.func13, Try.ntmps13
        go_wp2_with fail
        refine (has_any gt _ _ _ (k : Int) w H.out.box).mono ?_
        rintro e w' ⟨rfl, rfl⟩
        rw [HB.out]
        go_wp2_with fail
        refine (rests_any g (k * 6) x.phase _ v3).mono ?_
        rintro e w' ⟨rfl, rfl⟩
        rw [HR.out]
        go_wp2_with fail
        refine (fed_any gt g c sts k x _ hn H.out HX.out (HA.out k x HX.out)).mono ?_
        rintro e w' ⟨rfl, rfl⟩
        rw [HF.out]
        go_wp2
        go_ret
        exact HG.out
      | true =>
        have hxl := (List.getElem?_eq_some_iff.1 HX.out).1
        have h1 := H.out.set (j := 3) (u := .int .u8 114) (x' := { x with phase := 114 }) HX.out (by omega) rfl
        have h2 := h1.set (k := k) (j := 4) (u := .int .i64 x.dom.delay) (x' := upS x) (List.getElem?_set_self hxl) (by omega) rfl
        rw [List.set_set] at h2
        have hG : Does w gt g c 0 (sts.set k (upS x)) (.returned (.int .i64 0)) ((w.setCell ⟨g, k * 6 + 3, none⟩ (.int .u8 114)).setCell ⟨g, k * 6 + 4, none⟩ (.int .i64 x.dom.delay)) :=
          ⟨rfl, h2, (Moved.setCell _ (by simp) _).trans (Moved.setCell _ (by simp) _)⟩
        have HG := Lib.hid hG
        rw [if_pos (by simp), if_pos (by simp)]
        clear hG h1 h2 hxl
        go_enter Try.func13, Try.ntmps13
        go_wp2_with fail
        refine (has_any gt _ _ _ (k : Int) w H.out.box).mono ?_
        rintro e w' ⟨rfl, rfl⟩
        rw [HB.out]
        go_wp2_with fail
        refine (rests_any g (k * 6) x.phase _ v3).mono ?_
        rintro e w' ⟨rfl, rfl⟩
        rw [HR.out]
        go_wp2_with fail
        refine (fed_any gt g c sts k x _ hn H.out HX.out (HA.out k x HX.out)).mono ?_
        rintro e w' ⟨rfl, rfl⟩
        rw [HF.out]
        go_wp2
        go_ret
        exact HG.out
  · have hb' : hasB sts.length i = false := by simpa using hb
    have hE : upE sts i = 4 := atP_no hb' _ _
    have hT : upT sts i = sts := by unfold upT; rw [hE, if_neg (by omega)]
    rw [hE, hT]
    have hG : Does w gt g c 4 sts (.returned (.int .i64 4)) w := ⟨rfl, H.out, Moved.refl _ _⟩
    have HG := Lib.hid hG
    have HB := Lib.hid hb'
    clear hb hb' hE hT hG
    go_enter Try.func13, Try.ntmps13
    go_wp2_with fail
    refine (has_any gt _ _ _ i w H.out.box).mono ?_
    rintro e w' ⟨rfl, rfl⟩
    rw [HB.out]
    go_wp2
    go_ret
    exact HG.out

end Go.Proofs.Ytlhmcpkfmnmhfaa
