/- The contracts of Assert, Release, pass. -/
import Derived.Test.YtpieihjipdgplaaR3
namespace Go.Proofs.Ytpieihjipdgplaa
set_option linter.unusedSimpArgs false
set_option linter.unusedVariables false
open Go.RowKit Go.Maps

theorem leastP_at {xs : List Ln} {k : Nat} {x : Ln} (h : xs[k]? = some x) : leastP xs (k : Int) = x.least := atP_at h _ _
theorem leftP_at {xs : List Ln} {k : Nat} {x : Ln} (h : xs[k]? = some x) : leftP xs (k : Int) = x.left := atP_at h _ _
theorem wantP_at {xs : List Ln} {k : Nat} {x : Ln} (h : xs[k]? = some x) : wantP xs (k : Int) = x.want := atP_at h _ _
/-- what an act leaves -/
def Does (w : World) (b bl bh : Nat) (E : Int) (xs' : List Ln) (e : Ending) (w' : World) : Prop := e = .returned (.int .i64 E) ∧ LinesIs w' b bl bh xs' ∧ Moved [bh] w w'

theorem assert_any (b bl bh : Nat) (xs : List Ln) (i : Int) (w : World) (hi : wfI i) (hn : xs.length ≤ 1000) (h : LinesIs w b bl bh xs) :
    Calls Try.prog 14 #[.pointer (some ⟨b, 0, none⟩), .int .i64 i] w (Does w b bl bh (assertE xs i) (assertT xs i)) := by
  have b0 := (h.box 0 _ rfl).1
  have b1 := (h.box 1 _ rfl).1
  have hrun := h.lookL hi
  have H := Lib.hid h
  clear h
  cases hb : hasB xs.length i with
  | false =>
    have hE : assertE xs i = 4 := by unfold assertE; rw [hb]; rfl
    have hT : assertT xs i = xs := setT_no _ hb
    rw [hE, hT]
    rw [hb] at hrun
    generalize leastP xs i = l at hrun
    clear hE hT hb
    go_enter Try.func14, Try.ntmps14
    go_wp2
    go_ret
    exact ⟨rfl, H.out, Moved.refl _ _⟩
  | true =>
    obtain ⟨k, x, rfl, hx⟩ := hasB_ex hb
    have hE : assertE xs (k : Int) = 0 := by unfold assertE; rw [hb]; rfl
    have hT : assertT xs (k : Int) = xs.set k (assertL x) := setT_at _ hx
    rw [hE, hT]
    rw [hb, leastP_at hx] at hrun
    obtain ⟨w', hput, hl, hm⟩ := H.out.put (x' := assertL x) hn hx rfl rfl
    have hput' : (Instr.mapUpdate 55 (.map (some bh)) (.int .i64 (k : Int)) (.agg #[.int .i64 x.least, .bool false])).run Try.prog w = .ok () w' := hput
    have HL := Lib.hid hl
    have HM := Lib.hid hm
    generalize x.least = l at hrun hput'
    clear hE hT hb hput hl hm hx
    go_enter Try.func14, Try.ntmps14
    go_wp2
    go_ret
    exact ⟨rfl, HL.out, HM.out⟩

theorem release_any (b bl bh : Nat) (xs : List Ln) (i : Int) (w : World) (hi : wfI i) (hn : xs.length ≤ 1000) (hid : Idle xs) (h : LinesIs w b bl bh xs) :
    Calls Try.prog 16 #[.pointer (some ⟨b, 0, none⟩), .int .i64 i] w (Does w b bl bh (releaseE xs i) (releaseT xs i)) := by
  have b1 := (h.box 1 _ rfl).1
  have hrun := h.lookH hid true hi
  simp only [if_true] at hrun
  have H := Lib.hid h
  clear h hid
  cases hb : hasB xs.length i with
  | false =>
    have hE : releaseE xs i = 4 := atP_no hb _ _
    have hT : releaseT xs i = xs := setT_no _ hb
    rw [hE, hT]
    have HB := Lib.hid hb
    generalize leftP xs i = l at hrun
    generalize wantP xs i = t at hrun
    generalize heldIn xs i = q at hrun
    clear hE hT hb
    go_enter Try.func16, Try.ntmps16
    go_wp2_with fail
    refine (has_any b bl bh xs i _ hi H.out).mono ?_
    rintro e w' ⟨rfl, rfl⟩
    rw [HB.out]
    go_wp2
    go_ret
    exact ⟨rfl, H.out, Moved.refl _ _⟩
  | true =>
    obtain ⟨k, x, rfl, hx⟩ := hasB_ex hb
    have hT : releaseT xs (k : Int) = xs.set k (wantL x) := setT_at _ hx
    have hE : releaseE xs (k : Int) = if x.held = true then 0 else 6 := atP_at hx _ _
    rw [hE, hT]
    rw [leftP_at hx, wantP_at hx, heldIn_at hx] at hrun
    have HB := Lib.hid hb
    cases hh : x.held with
    | false =>
      have hw : wantL x = x := by unfold wantL; simp [hh]
      have hs : xs.set k x = xs := by
        refine List.ext_getElem? fun m => ?_
        rw [List.getElem?_set]
        by_cases e : k = m
        · subst e
          rw [if_pos rfl, if_pos (get_lt hx), hx]
        · rw [if_neg e]
      rw [hw, hs]
      rw [hh] at hrun
      simp only [Bool.false_eq_true, if_false]
      have hz := Moved.alloc (hot := [bh]) w (.cells #[.int .i64 x.left, .bool x.want] 59)
      generalize x.left = l at hrun hz
      generalize x.want = t at hrun hz
      clear hE hT hb hw hs hh hx
      have HZ := Lib.hid hz
      have hz0 : Moved [] w (w.alloc (.cells #[.int .i64 l, .bool t] 59)) := Moved.alloc _ _
      have HZ0 := Lib.hid hz0
      clear hz hz0
      go_enter Try.func16, Try.ntmps16
      go_wp2_with fail
      refine (has_any b bl bh xs (k : Int) _ hi H.out).mono ?_
      rintro e w' ⟨rfl, rfl⟩
      rw [HB.out]
      go_wp2
      go_ret
      exact ⟨rfl, H.out.move HZ0.out, HZ.out⟩
    | true =>
      have hw : wantL x = ⟨x.least, true, x.left, true⟩ := by unfold wantL; simp [hh]
      rw [hw]
      rw [hh] at hrun
      simp only [if_true]
      have hz0 : Moved [] w (w.alloc (.cells #[.int .i64 x.left, .bool true] 59)).drew := (Moved.alloc w _).trans ⟨rfl, rfl, rfl, Nat.le_refl _, fun _ _ _ => rfl⟩
      obtain ⟨w', hput, hl, hm⟩ := (H.out.move hz0).put (x' := ⟨x.least, true, x.left, true⟩) hn hx rfl rfl
      have b1' := ((H.out.move hz0).box 1 _ rfl).1
      have HL := Lib.hid hl
      have HM := Lib.hid ((hz0.mono (by simp)).trans hm)
      simp only at hput
      generalize x.left = l at *
      generalize x.want = t at *
      clear hE hT hb hw hh hx hz0 hl hm
      go_enter Try.func16, Try.ntmps16
      go_wp2_with fail
      refine (has_any b bl bh xs (k : Int) _ hi H.out).mono ?_
      rintro e w' ⟨rfl, rfl⟩
      rw [HB.out]
      go_wp2
      go_region
      all_goals
        go_wp2
        go_ret
        exact ⟨rfl, HL.out, HM.out⟩

def Passes (w : World) (b bl bh : Nat) (B : Bool) (xs' : List Ln) (e : Ending) (w' : World) : Prop := e = .returned (.bool B) ∧ LinesIs w' b bl bh xs' ∧ Moved [bh] w w'
theorem set_self {xs : List Ln} {k : Nat} {x : Ln} (hx : xs[k]? = some x) : xs.set k x = xs := by
  refine List.ext_getElem? fun m => ?_
  rw [List.getElem?_set]
  by_cases e : k = m
  · subst e
    rw [if_pos rfl, if_pos (get_lt hx), hx]
  · rw [if_neg e]
theorem LinesIs.dropH {w w' : World} {b bl bh n : Nat} {xs : List Ln} {k : Nat} {x x' : Ln} {D : DataW Unit} (h : LinesIs w b bl bh xs) (hd : HeldD D xs) (ht : Tidy D) (hx : xs[k]? = some x) (hh : x'.held = false) (hl : x'.least = x.least)
    (ho' : w'.ownsMap Try.prog 3 holdR bh n (D.del (.int .i64 (k : Int)))) (hm : w.mapTurned w' bh) : LinesIs w' b bl bh (xs.set k x') ∧ Moved [bh] w w' := by
  have hd' := hd.del ht hx hh
  refine ⟨h.next hx hl (turned_moved hm) ⟨_, own_tight ho' ?_, hd'⟩, turned_moved hm⟩
  rw [hd'.size]
  have := count_le (xs.set k x')
  rwa [List.length_set] at this

set_option maxHeartbeats 1000000 in
theorem pass_any (b bl bh : Nat) (xs : List Ln) (k : Nat) (x : Ln) (w : World) (hn : xs.length ≤ 1000) (hx : xs[k]? = some x) (hl0 : 0 ≤ x.left ∧ x.left ≤ 20) (hid : Idle xs) (h : LinesIs w b bl bh xs) :
    Calls Try.prog 28 #[.pointer (some ⟨b, 0, none⟩), .int .i64 (k : Int)] w (Passes w b bl bh (goB x) (xs.set k (passL x))) := by
  have b1 := (h.box 1 _ rfl).1
  have hk := get_lt hx
  have hi : wfI (k : Int) := by unfold wfI; omega
  have hrun := h.lookH hid true hi
  simp only [if_true] at hrun
  rw [leftP_at hx, wantP_at hx, heldIn_at hx] at hrun
  have H := Lib.hid h
  have HX := Lib.hid hx
  clear h hid
  obtain ⟨ls, hd, l, t⟩ := x
  simp only at hrun hl0
  cases hd with
  | false =>
    have hp : passL ⟨ls, false, l, t⟩ = ⟨ls, false, l, t⟩ := rfl
    have hg : goB ⟨ls, false, l, t⟩ = false := rfl
    rw [hp, hg, set_self hx]
    have hz : Moved [bh] w (w.alloc (.cells #[.int .i64 l, .bool t] 59)) := Moved.alloc _ _
    have hz0 : Moved [] w (w.alloc (.cells #[.int .i64 l, .bool t] 59)) := Moved.alloc _ _
    have HZ := Lib.hid hz
    have HZ0 := Lib.hid hz0
    clear hp hg hz hz0 hx
    go_enter Try.func28, Try.ntmps28
    go_wp2
    go_ret
    exact ⟨rfl, H.out.move HZ0.out, HZ.out⟩
  | true =>
    by_cases hlt : 0 < l
    · have hp : passL ⟨ls, true, l, t⟩ = ⟨ls, true, l - 1, t⟩ := by unfold passL; simp [hlt]
      have hg : goB ⟨ls, true, l, t⟩ = false := by unfold goB; simp [hlt]
      rw [hp, hg]
      have hz0 : Moved [] w (w.alloc (.cells #[.int .i64 (l - 1), .bool t] 59)).drew := (Moved.alloc w _).trans ⟨rfl, rfl, rfl, Nat.le_refl _, fun _ _ _ => rfl⟩
      obtain ⟨w', hput, hl, hm⟩ := (H.out.move hz0).put (x' := ⟨ls, true, l - 1, t⟩) hn hx rfl rfl
      have b1' := ((H.out.move hz0).box 1 _ rfl).1
      have HL := Lib.hid hl
      have HM := Lib.hid ((hz0.mono (by simp)).trans hm)
      simp only at hput
      clear hp hg hz0 hl hm hx
      go_enter Try.func28, Try.ntmps28
      go_wp2
      go_region
      all_goals
        go_wp2
        go_ret
        exact ⟨rfl, HL.out, HM.out⟩
    · cases t with
      | false =>
        have hp : passL ⟨ls, true, l, false⟩ = ⟨ls, true, l, false⟩ := by unfold passL; simp [hlt]
        have hg : goB ⟨ls, true, l, false⟩ = false := by unfold goB; simp
        rw [hp, hg, set_self hx]
        have hz : Moved [bh] w (w.alloc (.cells #[.int .i64 l, .bool false] 59)) := Moved.alloc _ _
        have hz0 : Moved [] w (w.alloc (.cells #[.int .i64 l, .bool false] 59)) := Moved.alloc _ _
        have HZ := Lib.hid hz
        have HZ0 := Lib.hid hz0
        clear hp hg hz hz0 hx
        go_enter Try.func28, Try.ntmps28
        go_wp2
        go_ret
        exact ⟨rfl, H.out.move HZ0.out, HZ.out⟩
      | true =>
        have hp : passL ⟨ls, true, l, true⟩ = ⟨ls, false, 0, false⟩ := by unfold passL; simp [hlt]
        have hg : goB ⟨ls, true, l, true⟩ = true := by unfold goB; simp [hlt]
        rw [hp, hg]
        have hz0 : Moved [] w (w.alloc (.cells #[.int .i64 l, .bool true] 59)) := Moved.alloc _ _
        have hl1 := H.out.move hz0
        have HL1 := Lib.hid hl1
        have HZ := Lib.hid (hz0.mono (hot' := [bh]) (by simp))
        obtain ⟨D, ho, hd⟩ := hl1.held
        have HD := Lib.hid hd
        have HT := Lib.hid (ho.tidy key3)
        have b1' := (hl1.box 1 _ rfl).1
        have hkey := keyI hi
        clear hp hg hz0 hl1 hd hx
        go_enter Try.func28, Try.ntmps28
        go_wp2_with (at_delete; refine wpList_delete_own _ rfl _ _ 55 3 rfl 59 key3 Try.underlying55 _ bh _ D rfl ho _ _ rfl hkey ?_; intro w1 hown1 hturn1; obtain ⟨hl2, hm2⟩ := HL1.out.dropH HD.out HT.out HX.out (x' := ⟨ls, false, 0, false⟩) rfl rfl hown1 hturn1; have HL2 := Lib.hid hl2; have HM2 := Lib.hid hm2; clear hl2 hm2 hown1 hturn1)
        go_ret
        exact ⟨rfl, HL2.out, HZ.out.trans HM2.out⟩

end Go.Proofs.Ytpieihjipdgplaa
