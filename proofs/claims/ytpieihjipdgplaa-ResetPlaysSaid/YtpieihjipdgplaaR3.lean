/- The contracts of the lines' calls: has, Held, Left, Assert, Release, pass. -/
import Derived.Test.YtpieihjipdgplaaR2
namespace Go.Proofs.Ytpieihjipdgplaa
set_option linter.unusedSimpArgs false
set_option linter.unusedVariables false
open Go.RowKit Go.Maps

theorem Try.zeroValue3 (w : World) : (zeroValue 3).run Try.prog w = .ok (.int .i64 0) w := by kernel_rfl
theorem Try.zeroValue59 (w : World) : (zeroValue 59).run Try.prog w = .ok (.agg #[.int .i64 0, .bool false]) w := by kernel_rfl
theorem keyI {i : Int} (h : wfI i) : keyOf Try.prog 3 (.int .i64 i) = some (.int .i64 i) := keyOf_int_mk Try.underlying3 (WalkArith.wf_i64 h)
def leastP (xs : List Ln) (i : Int) : Int := atP xs i Ln.least 0
def wantP (xs : List Ln) (i : Int) : Bool := atP xs i Ln.want false
/-- nothing is kept of a line that is not held -/
def Idle (xs : List Ln) : Prop := ∀ (k : Nat) (x : Ln), xs[k]? = some x → x.held = false → x.left = 0 ∧ x.want = false

section
variable {w : World} {b bl bh : Nat} {xs : List Ln}
theorem LinesIs.lookL (h : LinesIs w b bl bh xs) {i : Int} (hi : wfI i) : (Instr.lookup 54 (.map (some bl)) (.int .i64 i) true).run Try.prog w = .ok (.tuple #[.int .i64 (leastP xs i), .bool (hasB xs.length i)]) w := by
  obtain ⟨D, ho, hd⟩ := h.least
  obtain ⟨v, ps, hrun, hv⟩ := ho.look_ok key3 Try.underlying54 (Try.zeroValue3 w) (plainElem_int (H := Unit) Try.underlying3 (a := 0) (by decide)) (keyI hi)
  rw [hrun, hd.has, List.length_map]
  have he : D.atKey (.int .i64 i) (.lit (.int .i64 0)) = .lit (.int .i64 (leastP xs i)) := by
    cases hb : hasB xs.length i with
    | false =>
      have hz : leastP xs i = 0 := atP_no hb _ _
      rw [hz]
      exact atKey_of_not_has (by rw [hd.has, List.length_map]; exact hb) _
    | true =>
      obtain ⟨k, x, rfl, hx⟩ := hasB_ex hb
      have hz : leastP xs (k : Int) = x.least := atP_at hx _ _
      rw [hz]
      exact hd.at_ k x.least (by rw [List.getElem?_map, hx]; rfl) _
  rw [he] at hv
  obtain ⟨a, rfl, e, -⟩ := plainElem_int_inv Try.underlying3 hv
  have e3 : leastP xs i = a := by
    simp only [Prod.mk.injEq, DataW.lit.injEq, Lit.int.injEq] at e
    exact e.1.2
  subst e3
  with_reducible rfl
theorem LinesIs.lookH (h : LinesIs w b bl bh xs) (hid : Idle xs) (c : Bool) {i : Int} (hi : wfI i) : (Instr.lookup 55 (.map (some bh)) (.int .i64 i) c).run Try.prog w = .ok (if c then .tuple #[.agg #[.int .i64 (leftP xs i), .bool (wantP xs i)], .bool (heldIn xs i)] else .agg #[.int .i64 (leftP xs i), .bool (wantP xs i)]) w := by
  obtain ⟨D, ho, hd⟩ := h.held
  have he : D.atKey (.int .i64 i) (holdD 0 false) = holdD (leftP xs i) (wantP xs i) := by
    have hno : heldIn xs i = false → leftP xs i = 0 ∧ wantP xs i = false := by
      intro hh
      cases hb : hasB xs.length i with
      | false => exact ⟨atP_no hb _ _, atP_no hb _ _⟩
      | true =>
        obtain ⟨k, x, rfl, hx⟩ := hasB_ex hb
        rw [heldIn_at hx] at hh
        have := hid k x hx hh
        exact ⟨(atP_at hx _ _).trans this.1, (atP_at hx _ _).trans this.2⟩
    cases hh : heldIn xs i with
    | false =>
      obtain ⟨e1, e2⟩ := hno hh
      rw [e1, e2]
      exact atKey_of_not_has (by rw [hd.has]; exact hh) _
    | true =>
      cases hb : hasB xs.length i with
      | false => rw [heldIn_no hb] at hh; cases hh
      | true =>
        obtain ⟨k, x, rfl, hx⟩ := hasB_ex hb
        rw [heldIn_at hx] at hh
        have e1 : leftP xs (k : Int) = x.left := atP_at hx _ _
        have e2 : wantP xs (k : Int) = x.want := atP_at hx _ _
        rw [e1, e2]
        exact hd.at_ k x hx hh _
  cases c with
  | true =>
    obtain ⟨v, ps, hrun, hv⟩ := ho.look_ok key3 Try.underlying55 (Try.zeroValue59 w) (holdR_mk 0 false) (keyI hi)
    rw [he] at hv
    rw [hrun, hd.has, holdR_inv hv]
    rfl
  | false =>
    obtain ⟨v, ps, hrun, hv⟩ := ho.lookup key3 Try.underlying55 (Try.zeroValue59 w) (holdR_mk 0 false) (keyI hi)
    rw [he] at hv
    rw [hrun, holdR_inv hv]
    rfl
theorem turned_moved {w w' : World} (h : w.mapTurned w' bh) : Moved [bh] w w' := Moved.of_grown h.grown (by simp)
theorem LinesIs.next {w' : World} {k : Nat} {x x' : Ln} (h : LinesIs w b bl bh xs) (hx : xs[k]? = some x) (hl : x'.least = x.least) (hm : Moved [bh] w w') (hh : ∃ D, w'.ownsMap Try.prog 3 holdR bh xs.length D ∧ HeldD D (xs.set k x')) : LinesIs w' b bl bh (xs.set k x') := by
  have hlt := h.lt
  obtain ⟨D, o1, d1⟩ := h.least
  have e : (xs.set k x').map Ln.least = xs.map Ln.least := by
    rw [List.map_set, hl]
    refine List.ext_getElem? fun m => ?_
    rw [List.getElem?_set]
    by_cases e : k = m
    · subst e
      rw [if_pos rfl, if_pos (by simpa using get_lt hx), List.getElem?_map, hx]
      rfl
    · rw [if_neg e]
  refine ⟨h.ne1, h.ne2, h.ne3, h.box.move hm (by simpa using Ne.symm h.ne2), ⟨D, ?_, by rw [e]; exact d1⟩, ?_⟩
  · rw [List.length_set]
    exact own_blk o1 (hm.block _ hlt.2.1 (by simpa using Ne.symm h.ne3))
  · rw [List.length_set]
    exact hh
theorem LinesIs.put {k : Nat} {x x' : Ln} (h : LinesIs w b bl bh xs) (hn : xs.length ≤ 1000) (hx : xs[k]? = some x) (hh : x'.held = true) (hl : x'.least = x.least) :
    ∃ w', (Instr.mapUpdate 55 (.map (some bh)) (.int .i64 (k : Int)) (.agg #[.int .i64 x'.left, .bool x'.want])).run Try.prog w = .ok () w' ∧ LinesIs w' b bl bh (xs.set k x') ∧ Moved [bh] w w' := by
  have hk := get_lt hx
  obtain ⟨D, ho, hd⟩ := h.held
  obtain ⟨w', hrun, ho', ht⟩ := ho.store key3 Try.underlying55 (by unfold maxLen; omega) (keyI (i := (k : Int)) (by unfold wfI; omega)) (holdR_mk x'.left x'.want)
  have hm := turned_moved ht
  have hd' := hd.put (ho.tidy key3) hx hh
  refine ⟨w', hrun, h.next hx hl hm ⟨_, own_tight ho' ?_, hd'⟩, hm⟩
  rw [hd'.size]
  have := count_le (xs.set k x')
  rwa [List.length_set] at this
end

theorem has_any (b bl bh : Nat) (xs : List Ln) (i : Int) (w : World) (hi : wfI i) (h : LinesIs w b bl bh xs) :
    Calls Try.prog 27 #[.pointer (some ⟨b, 0, none⟩), .int .i64 i] w fun e w' => e = .returned (.bool (hasB xs.length i)) ∧ w = w' := by
  have b0 := (h.box 0 _ rfl).1
  have hrun := h.lookL hi
  clear h
  generalize leastP xs i = l at hrun
  generalize hasB xs.length i = r at hrun ⊢
  go_enter Try.func27, Try.ntmps27
  go_wp2
  go_ret
  exact ⟨rfl, rfl⟩

theorem heldP_eq (xs : List Ln) (i : Int) : heldP xs i = (heldIn xs i || !hasB xs.length i) := by
  unfold heldP heldIn
  cases hb : hasB xs.length i with
  | false => rw [atP_no hb, atP_no hb]; rfl
  | true =>
    obtain ⟨k, x, rfl, hx⟩ := hasB_ex hb
    rw [atP_at hx, atP_at hx]; simp

theorem field59 (l : Int) (t : Bool) (W : World) : (Instr.field 59 (.agg #[.int .i64 l, .bool t]) 0).run Try.prog W = .ok (.int .i64 l) W := by kernel_rfl

theorem left_any (b bl bh : Nat) (xs : List Ln) (i : Int) (w : World) (hi : wfI i) (hid : Idle xs) (h : LinesIs w b bl bh xs) :
    Calls Try.prog 23 #[.pointer (some ⟨b, 0, none⟩), .int .i64 i] w fun e w' => e = .returned (.int .i64 (leftP xs i)) ∧ w = w' := by
  have b1 := (h.box 1 _ rfl).1
  have hrun := h.lookH hid false hi
  simp only [Bool.false_eq_true, if_false] at hrun
  clear h hid
  generalize leftP xs i = l at hrun ⊢
  generalize wantP xs i = t at hrun
  have hf := field59 l t
  go_enter Try.func23, Try.ntmps23
  go_wp2
  go_ret
  exact ⟨rfl, rfl⟩

theorem held_any (b bl bh : Nat) (xs : List Ln) (i : Int) (w : World) (hi : wfI i) (hid : Idle xs) (h : LinesIs w b bl bh xs) :
    Calls Try.prog 21 #[.pointer (some ⟨b, 0, none⟩), .int .i64 i] w fun e w' => e = .returned (.bool (heldP xs i)) ∧ Below w.heap.size w w' := by
  have b1 := (h.box 1 _ rfl).1
  have hrun := h.lookH hid true hi
  simp only [if_true] at hrun
  have hp := heldP_eq xs i
  have H := Lib.hid h
  clear h hid
  generalize leftP xs i = l at hrun
  generalize wantP xs i = t at hrun
  have hb := Below.refl w.heap.size w |>.alloc (Nat.le_refl _) (.cells #[.int .i64 l, .bool t] 59)
  cases hh : heldIn xs i with
  | true =>
    rw [hh] at hrun hp
    rw [hp]
    clear hp hh
    go_enter Try.func21, Try.ntmps21
    go_wp2
    go_ret
    exact ⟨rfl, hb⟩
  | false =>
    rw [hh] at hrun hp
    rw [hp]
    clear hp hh
    obtain ⟨r, hr⟩ : ∃ r, hasB xs.length i = r := ⟨_, rfl⟩
    have HR := Lib.hid hr
    have HB := Lib.hid hb
    rw [hr]
    clear hr hb
    go_enter Try.func21, Try.ntmps21
    go_wp2_with fail
    refine (has_any b bl bh xs i _ hi (H.out.move (Moved.of_below HB.out))).mono ?_
    rintro e w' ⟨rfl, rfl⟩
    rw [HR.out]
    go_wp2
    go_ret
    exact ⟨by simp, HB.out⟩

end Go.Proofs.Ytpieihjipdgplaa
