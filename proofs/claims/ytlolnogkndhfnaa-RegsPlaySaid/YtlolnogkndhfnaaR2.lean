/- The contracts of Many, Read, Write, fresh, but, Save, Restore, Clear. -/
import Derived.Test.YtlolnogkndhfnaaR1
namespace Go.Proofs.Ytlolnogkndhfnaa
set_option linter.unusedSimpArgs false
set_option linter.unusedVariables false
open Go.RowKit Go.Maps

def errI (n : Nat) (i : Int) : Int := if hasB n i then 0 else 4
def readI (now : List Int) (i : Int) : Int := if hasB now.length i then now.getD i.toNat 0 else 0
def writeT (now : List Int) (i v : Int) : List Int := if hasB now.length i then now.set i.toNat v else now
theorem readI_at {now : List Int} {k : Nat} {x : Int} (h : now[k]? = some x) : readI now (k : Int) = x := by
  unfold readI
  rw [hasB_yes (get_lt h), if_pos rfl, Int.toNat_natCast, List.getD_eq_getElem?_getD, h]
  rfl
theorem writeT_at {now : List Int} {k : Nat} (v : Int) (h : k < now.length) : writeT now (k : Int) v = now.set k v := by
  unfold writeT
  rw [hasB_yes h, if_pos rfl, Int.toNat_natCast]
theorem writeT_len (now : List Int) (i v : Int) : (writeT now i v).length = now.length := by unfold writeT; split <;> simp
theorem u32s_set (l : List Int) (k : Nat) (v : Int) : u32s (l.set k v) = (u32s l).set k (.int .u32 v) := by unfold u32s; rw [List.map_set]

section
variable {w : World} {Q : List Nat} {b gn : Nat} {rs : List Rgs} {now back : List Int}
theorem FileIs.write (h : FileIs w Q b gn rs now back) (k : Nat) (v : Int) : FileIs (w.setCell ⟨gn, k, none⟩ (.int .u32 v)) Q b gn rs (now.set k v) back := by
  obtain ⟨A, c, fv, h1, h2, h3⟩ := h.box
  have hm : Moved [gn] w (w.setCell ⟨gn, k, none⟩ (.int .u32 v)) := Moved.setCell _ (by simp) _
  have hm' : Moved Q w (w.setCell ⟨gn, k, none⟩ (.int .u32 v)) := hm.mono (by simpa using h.hg)
  refine ⟨by rw [List.length_set]; exact h.len, h.few, h.ne, h.hb, h.hg, fun k hk => by rw [size_setCell]; exact h.hQ k hk, ⟨A, c, fv, h1.move hm (by simpa using h.ne), h2.move hm', h3.move hm'⟩, ?_⟩
  rw [u32s_set]
  exact h.row.set _
theorem FileIs.tell {back' : List Int} {fv' : Value} (h : FileIs w Q b gn rs now back) (ht : TelAt w b Q rs fv' back') : FileIs (w.setCell ⟨b, 2, none⟩ fv') Q b gn rs now back' := by
  obtain ⟨A, c, fv, h1, h2, h3⟩ := h.box
  have hm : Moved [b] w (w.setCell ⟨b, 2, none⟩ fv') := Moved.setCell _ (by simp) _
  have hm' : Moved Q w (w.setCell ⟨b, 2, none⟩ fv') := hm.mono (by simpa using h.hb)
  refine ⟨h.len, h.few, h.ne, h.hb, h.hg, fun k hk => by rw [size_setCell]; exact h.hQ k hk, ⟨A, c, fv', ?_, h2.move hm', ht.move hm'⟩, h.row.move hm (by simpa using Ne.symm h.ne)⟩
  exact h1.set (j := 2) (by simp) _
end

theorem many_any (Q : List Nat) (b gn : Nat) (rs : List Rgs) (now back : List Int) (w : World) (h : FileIs w Q b gn rs now back) :
    Calls Try.prog 23 #[.pointer (some ⟨b, 0, none⟩)] w fun e w' => e = .returned (.int .i64 (rs.length : Int)) ∧ w = w' := by
  obtain ⟨A, c, fv, hB, -, -⟩ := h.box
  have b1 := (hB 1 _ rfl).1
  have h8 := h.few
  clear hB h
  go_enter Try.func23, Try.ntmps23
  go_wp2
  go_ret
  exact ⟨rfl, rfl⟩

theorem read_any (Q : List Nat) (b gn : Nat) (rs : List Rgs) (now back : List Int) (i : Int) (w : World) (hi : wfI i) (h : FileIs w Q b gn rs now back) :
    Calls Try.prog 21 #[.pointer (some ⟨b, 0, none⟩), .int .i64 i] w fun e w' => e = .returned (.tuple #[.int .u32 (readI now i), .int .i64 (errI rs.length i)]) ∧ w = w' := by
  have hl := h.len
  have h8 := h.few
  obtain ⟨A, c, fv, hB, -, -⟩ := h.box
  have b1 := (hB 1 _ rfl).1
  have H := Lib.hid h
  cases hb : hasB rs.length i with
  | false =>
    have e1 : readI now i = 0 := by unfold readI; rw [hl, hb]; rfl
    have e2 : errI rs.length i = 4 := by unfold errI; rw [hb]; rfl
    rw [e1, e2]
    have HH := Lib.hid hb
    clear e1 e2 hb hB h hl
    go_enter Try.func21, Try.ntmps21
    go_wp2_with fail
    refine (has_any Q b gn rs now back i _ hi H.out).mono ?_
    rintro e w' ⟨rfl, rfl⟩
    rw [HH.out]
    go_wp2
    go_ret2
    exact ⟨rfl, rfl⟩
  | true =>
    obtain ⟨k, hk, rfl⟩ := hasB_ex hb
    have hx := List.getElem?_eq_getElem (l := now) (i := k) (by omega)
    generalize now[k]'(by omega) = x at hx
    have e1 := readI_at hx
    have e2 : errI rs.length (k : Int) = 0 := by unfold errI; rw [hb]; rfl
    have hc := (h.row.2 k _ (u32s_at hx)).1
    rw [e1, e2]
    have i0 : (0 : Int) ≤ (k : Int) := by omega
    have i1 : (k : Int) < (rs.length : Int) := by omega
    have HH := Lib.hid hb
    clear e1 e2 hb hB h hl hx
    go_enter Try.func21, Try.ntmps21
    go_wp2_with fail
    refine (has_any Q b gn rs now back (k : Int) _ hi H.out).mono ?_
    rintro e w' ⟨rfl, rfl⟩
    rw [HH.out]
    go_wp2
    go_ret2
    exact ⟨rfl, rfl⟩

/-- what an act leaves -/
def Does (w : World) (Q : List Nat) (b gn : Nat) (rs : List Rgs) (E : Ending) (now back : List Int) (e : Ending) (w' : World) : Prop := e = E ∧ FileIs w' Q b gn rs now back ∧ Moved [b, gn] w w'

theorem write_any (Q : List Nat) (b gn : Nat) (rs : List Rgs) (now back : List Int) (i v : Int) (w : World) (hi : wfI i) (h : FileIs w Q b gn rs now back) :
    Calls Try.prog 13 #[.pointer (some ⟨b, 0, none⟩), .int .i64 i, .int .u32 v] w (Does w Q b gn rs (.returned (.int .i64 (errI rs.length i))) (writeT now i v) back) := by
  have hl := h.len
  have h8 := h.few
  obtain ⟨A, c, fv, hB, -, -⟩ := h.box
  have b1 := (hB 1 _ rfl).1
  have H := Lib.hid h
  cases hb : hasB rs.length i with
  | false =>
    have e1 : writeT now i v = now := by unfold writeT; rw [hl, hb]; rfl
    have e2 : errI rs.length i = 4 := by unfold errI; rw [hb]; rfl
    rw [e1, e2]
    have HH := Lib.hid hb
    clear e1 e2 hb hB h hl
    go_enter Try.func13, Try.ntmps13
    go_wp2_with fail
    refine (has_any Q b gn rs now back i _ hi H.out).mono ?_
    rintro e w' ⟨rfl, rfl⟩
    rw [HH.out]
    go_wp2
    go_ret
    exact ⟨rfl, H.out, Moved.refl _ _⟩
  | true =>
    obtain ⟨k, hk, rfl⟩ := hasB_ex hb
    have hx := List.getElem?_eq_getElem (l := now) (i := k) (by omega)
    generalize now[k]'(by omega) = x at hx
    have e1 := writeT_at v (show k < now.length by omega)
    have e2 : errI rs.length (k : Int) = 0 := by unfold errI; rw [hb]; rfl
    obtain ⟨hc, hf⟩ := h.row.2 k _ (u32s_at hx)
    rw [e1, e2]
    have hw := h.write k v
    have hm : Moved [b, gn] w (w.setCell ⟨gn, k, none⟩ (.int .u32 v)) := Moved.setCell _ (by simp) _
    have HW := Lib.hid (And.intro hw hm)
    have i0 : (0 : Int) ≤ (k : Int) := by omega
    have i1 : (k : Int) < (rs.length : Int) := by omega
    have HH := Lib.hid hb
    clear e1 e2 hb hB h hl hx hw hm
    go_enter Try.func13, Try.ntmps13
    go_wp2_with fail
    refine (has_any Q b gn rs now back (k : Int) _ hi H.out).mono ?_
    rintro e w' ⟨rfl, rfl⟩
    rw [HH.out]
    go_wp2
    go_ret
    exact ⟨rfl, HW.out.1, HW.out.2⟩

/-- a new teller -/
def TelNew (w : World) (b : Nat) (hot : List Nat) (rs : List Rgs) (f : List Int) (e : Ending) (w' : World) : Prop := ∃ fn cs, e = .returned (.func fn #[] cs) ∧ TelAt w' b hot rs (.func fn #[] cs) f ∧ Below w.heap.size w w'
theorem fresh_any (b : Nat) (hot : List Nat) (rs : List Rgs) (w : World) (hh : ∀ k, k ∈ hot → k < w.heap.size) : Calls Try.prog 28 #[.pointer (some ⟨b, 0, none⟩)] w (TelNew w b hot rs (resets rs)) := by
  have HH := Lib.hid hh
  clear hh
  go_enter Try.func28, Try.ntmps28
  go_wp2
  go_ret
  refine ⟨_, _, rfl, .fresh _ ((BoxAt.new w [.pointer (some ⟨b, 0, none⟩)] 25) 0 _ rfl).1 fun hm => ?_, (Below.refl _ _).alloc (Nat.le_refl _) _⟩
  have := HH.out _ hm
  omega
theorem tel_shape {w : World} {b : Nat} {hot : List Nat} {rs : List Rgs} {fv : Value} {f : List Int} (h : TelAt w b hot rs fv f) : ∃ fn cs, fv = .func fn #[] cs := by
  cases h
  · exact ⟨_, _, rfl⟩
  · exact ⟨_, _, rfl⟩
theorem but_any (b : Nat) (hot : List Nat) (rs : List Rgs) (fn : Fn) (cs : Array Value) (f : List Int) (k : Nat) (v : Int) (w : World) (hh : ∀ k, k ∈ hot → k < w.heap.size) (h : TelAt w b hot rs (.func fn #[] cs) f) :
    Calls Try.prog 29 #[.func fn #[] cs, .int .i64 (k : Int), .int .u32 v] w (TelNew w b hot rs (f.set k v)) := by
  have HH := Lib.hid hh
  have HT := Lib.hid h
  clear hh h
  go_enter Try.func29, Try.ntmps29
  go_wp2
  go_ret
  have hb0 : Below w.heap.size w (((w.alloc (.cells #[.func fn #[] cs] 53)).alloc (.cells #[.int .i64 (k : Int)] 3)).alloc (.cells #[.int .u32 v] 33)) := (((Below.refl _ _).alloc (Nat.le_refl _) _).alloc (by simp) _).alloc (by simp; omega) _
  have q1 : Moved [] (w.alloc (.cells #[.func fn #[] cs] 53)) ((w.alloc (.cells #[.func fn #[] cs] 53)).alloc (.cells #[.int .i64 (k : Int)] 3)) := Moved.alloc _ _
  have q2 : Moved [] ((w.alloc (.cells #[.func fn #[] cs] 53)).alloc (.cells #[.int .i64 (k : Int)] 3)) (((w.alloc (.cells #[.func fn #[] cs] 53)).alloc (.cells #[.int .i64 (k : Int)] 3)).alloc (.cells #[.int .u32 v] 33)) := Moved.alloc _ _
  have c1 := (((BoxAt.new w [.func fn #[] cs] 53).move q1 (by simp)).move q2 (by simp) 0 _ rfl).1
  have c2 := ((BoxAt.new (w.alloc (.cells #[.func fn #[] cs] 53)) [.int .i64 (k : Int)] 3).move q2 (by simp) 0 _ rfl).1
  have c3 := (BoxAt.new ((w.alloc (.cells #[.func fn #[] cs] 53)).alloc (.cells #[.int .i64 (k : Int)] 3)) [.int .u32 v] 33 0 _ rfl).1
  have hno : ∀ q, w.heap.size ≤ q → q ∉ hot := fun q hq hm => by have := HH.out _ hm; omega
  simp only [World.size_alloc] at c1 c2 c3
  exact ⟨_, _, rfl, .but _ _ _ k v _ f c2 c3 c1 (hno _ (by omega)) (hno _ (by omega)) (hno _ (by omega)) (HT.out.move (Moved.of_below hb0)), hb0⟩

end Go.Proofs.Ytlolnogkndhfnaa
