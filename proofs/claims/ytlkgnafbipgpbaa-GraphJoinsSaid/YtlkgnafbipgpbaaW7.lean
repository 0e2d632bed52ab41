/- The contracts of slices.DeleteFunc over a predicate, and of graph.only. -/
import Derived.Test.YtlkgnafbipgpbaaW6
import Derived.Lib.SliceRun
namespace Go.Proofs.Ytlkgnafbipgpbaa
open Go.RowKit Go.Maps

def kept (p : Int → Bool) (xs : List Int) : List Int := xs.filter fun x => !p x
theorem kept_all {p : Int → Bool} {xs : List Int} (h : ∀ y, y ∈ xs → p y = false) : kept p xs = xs := by
  unfold kept; rw [List.filter_eq_self]; intro x hx; simp [h x hx]
theorem kept_snoc_yes {p : Int → Bool} {xs : List Int} {x : Int} (h : p x = true) : kept p (xs ++ [x]) = kept p xs := by simp [kept, List.filter_append, h]
theorem kept_snoc_no {p : Int → Bool} {xs : List Int} {x : Int} (h : p x = false) : kept p (xs ++ [x]) = kept p xs ++ [x] := by simp [kept, List.filter_append, h]
theorem take_snoc {xs : List Int} {k : Nat} {x : Int} (h : xs[k]? = some x) : xs.take (k + 1) = xs.take k ++ [x] := by
  obtain ⟨hk, e⟩ := List.getElem?_eq_some_iff.1 h
  rw [List.take_succ_eq_append_getElem hk, e]

theorem own_setCells {base g n c : Nat} : ∀ (vs : List Value) (o : Nat) (w : World) (zs : List Value), w.ownsRow base 3 1 (.slice (some ⟨g, 0, none⟩) n c) n zs →
    ∃ zs', (w.setCells g o vs).ownsRow base 3 1 (.slice (some ⟨g, 0, none⟩) n c) n zs' ∧ (∀ j, j < o → zs'[j]? = zs[j]?) ∧ w.grownBy (w.setCells g o vs) (some g)
  | [], _, w, zs, h => ⟨zs, h, fun _ _ => rfl, World.grownBy.refl _ _⟩
  | v :: r, o, w, zs, h => by
    obtain ⟨h1, h2⟩ := h.stored o v
    obtain ⟨zs', k1, k2, k3⟩ := own_setCells r (o + 1) _ _ h1
    exact ⟨zs', k1, fun j hj => by rw [k2 j (by omega), List.getElem?_set_ne (by omega)], h2.trans k3⟩

/-- a slice of ints ys in w' -/
def IntsOut (ys : List Int) (row : Option Nat) (w : World) (e : Ending) (w' : World) : Prop :=
  ∃ A c, e = .returned (.slice A ys.length c) ∧ IntsAt w' w'.heap.size A ys ∧ w.grownBy w' row ∧ ∀ ad, A = some ad → row = some ad.block

theorem ints_of_cells {w : World} {base g n c : Nat} {zs : List Value} {ys : List Int} (h : w.ownsRow base 3 1 (.slice (some ⟨g, 0, none⟩) n c) n zs) (hi : ys.length ≤ n) (hz : ∀ (q : Nat) (x : Int), ys[q]? = some x → zs[q]? = some (Value.int .i64 x)) :
    IntsAt w w.heap.size (some ⟨g, 0, none⟩) ys := by
  intro hl
  refine ⟨_, rfl, ?_, fun j x hj => ?_⟩
  · exact (h.lt g rfl).2
  · have hlt := (List.getElem?_eq_some_iff.1 hj).1
    rw [Addr.add_lit, Nat.zero_add, h.cellAt j (by omega)]
    exact hz j x hj

set_option maxRecDepth 100000 in
set_option maxHeartbeats 4000000 in
theorem delete_any (gf : Nat) (lb : Array Value) (eg : ∀ args w, (callFunc gf args).run Try.prog w = .ok (.enter gf args) w) (p : Int → Bool) (v0 : Value) (xs : List Int) (base : Nat) (w : World)
    (hown : w.ownsRow base 3 1 v0 xs.length (iv xs)) (hp : Says gf lb p v0.ownBlock w) (hl : xs.length ≤ 1000000) (hx : ∀ x, x ∈ xs → wfI x) :
    Calls Try.prog 39 #[v0, .func (.func gf) #[] lb] w (IntsOut (kept p xs) v0.ownBlock w) := by
  obtain ⟨A, c, rfl⟩ := own_shape hown
  have hI := IntsAt.of_own hown
  have HX := Lib.hid hx
  have HP := Lib.hid hp
  have HOwn := Lib.hid hown
  clear hx hp hown
  go_enter Try.func39, Try.ntmps39
  go_wp2_with fail
  refine (idx_any gf lb eg p _ A c xs w HP.out hl HX.out hI).mono ?_
  rintro e w1 ⟨⟨k, x, h1, h2, h3, rfl⟩ | ⟨h1, rfl⟩, hb⟩
  · have hk := (List.getElem?_eq_some_iff.1 h1).1
    obtain ⟨ad, hA, _, _⟩ := hI.at_ hk
    subst hA
    obtain ⟨g, cap, hv, hg, hlt⟩ := HOwn.out.form (by omega)
    injection hv with hv _ hv2
    injection hv with hv
    subst hv hv2
    have hncap : xs.length ≤ c := by
      rcases HOwn.out.2 with ⟨h', _⟩ | ⟨_, _, _, h', _, _, hnc, _⟩
      · cases h'
      · injection h' with _ _ h'; omega
    have hne : ((k : Int) == -1) = false := beq_eq_false_iff_ne.2 (by omega)
    have H1 := Lib.hid h1
    have H2 := Lib.hid h2
    have H3 := Lib.hid h3
    have hg1 := grown_of_below hb (some g)
    have HOwn1 := Lib.hid (HOwn.out.kept (grown_of_below hb none) (.inr (by simp [Value.ownBlock])))
    clear h1 h2 h3
    go_wp2_with fail
    go_loopg [5, 6] xs.length (fun gg s5 s6 wr => ∃ (i j : Nat) (zs : List Int), s5 = .int .i64 i ∧ s6 = .int .i64 j ∧ i < j ∧ j ≤ xs.length ∧ xs.length - j ≤ gg ∧ wr.ownsRow base 3 1 (.slice (some ⟨g, 0, none⟩) xs.length c) xs.length (iv zs) ∧
      Hid (i = (kept p (xs.take j)).length ∧ (∀ (q : Nat), q < i → zs[q]? = (kept p (xs.take j))[q]?) ∧ (∀ (q : Nat), j ≤ q → zs[q]? = xs[q]?)) ∧ w.grownBy wr (some g))
    case atStart =>
      have e1 : kept p (xs.take k) = xs.take k := kept_all fun y hy => by
        obtain ⟨q, hq, e⟩ := List.mem_take_iff_getElem.1 hy
        exact H3.out q y (by omega) (by rw [List.getElem?_eq_getElem (by omega), e])
      refine ⟨k, k + 1, xs, rfl, by go_num, by omega, by omega, by omega, HOwn1.out, Lib.hid ⟨?_, ?_, fun q _ => rfl⟩, hg1⟩
      · rw [take_snoc H1.out, kept_snoc_yes H2.out, e1, List.length_take]; omega
      · intro q hq
        rw [take_snoc H1.out, kept_snoc_yes H2.out, e1, List.getElem?_take, if_pos hq]
    case round =>
      obtain ⟨i, j, zs, rfl, rfl, hij, hj, hgg, hown, HI, hg2⟩ := hrel
      have HOwn2 := Lib.hid hown
      clear hown HOwn1
      by_cases hlt : j < xs.length
      · obtain ⟨x', hx'⟩ : ∃ x', xs[j]? = some x' := ⟨_, List.getElem?_eq_getElem hlt⟩
        have hcj : wr.cell? ⟨g, j, none⟩ = some (.int .i64 x') := by
          rw [HOwn2.out.cellAt j (by omega)]
          exact iv_get (by rw [HI.out.2.2 j (Nat.le_refl _)]; exact hx')
        have hfi := HOwn2.out.frozenAt i
        have hwf := HX.out x' (List.mem_of_getElem? hx')
        have hgl := (HOwn2.out.lt g rfl).2
        have hsi : (wr.cell? ⟨g, i, none⟩).isSome = true := by
          rw [HOwn2.out.cellAt i (by omega)]
          have hzl : (iv zs).length = xs.length * 1 := HOwn2.out.1
          rw [List.getElem?_eq_getElem (by omega)]
          rfl
        obtain ⟨old, hold⟩ := Option.isSome_iff_exists.1 hsi
        have HX' := Lib.hid hx'
        clear hx' hsi
        have hcall := HP.out wr hg2 x' hwf
        cases hq : p x' with
        | false =>
          rw [hq] at hcall
          have HQ := Lib.hid hq
          clear hq
          go_wp2_with (go_at_fn gf; refine hcall.mono ?_; rintro e w' ⟨rfl, hb'⟩; have hcj' := (hb'.cell (p := ⟨g, i, none⟩) hgl).trans hold; have hfi' := (hb'.frozen (p := ⟨g, i, none⟩) hgl).trans hfi)
          have hOw3 := (HOwn2.out.kept (grown_of_below hb' none) (.inr (by simp [Value.ownBlock]))).stored i (.int .i64 x')
          have HOw3 := Lib.hid hOw3
          clear hOw3
          go_roundg (xs.length - (j + 1))
          case measure => omega
          case rel =>
            have hzl : zs.length = xs.length := by have := HOwn2.out.1; simpa [iv] using this
            refine ⟨i + 1, j + 1, zs.set i x', by go_num, by go_num, by omega, by omega, Nat.le_refl _, by simpa [iv] using HOw3.out.1, Lib.hid ⟨?_, fun q hq => ?_, fun q hq => ?_⟩, (hg2.trans (grown_of_below hb' _)).trans HOw3.out.2⟩
            · rw [take_snoc HX'.out, kept_snoc_no HQ.out, List.length_append]
              have := HI.out.1
              simp only [List.length_cons, List.length_nil]
              omega
            · rw [take_snoc HX'.out, kept_snoc_no HQ.out]
              by_cases e : q = i
              · subst e
                rw [List.getElem?_set_self (by omega), List.getElem?_append_right (by have := HI.out.1; omega)]
                have e0 : q - (kept p (xs.take j)).length = 0 := by have := HI.out.1; omega
                rw [e0]; rfl
              · rw [List.getElem?_set_ne (fun e' => e e'.symm), List.getElem?_append_left (by have := HI.out.1; omega)]
                exact HI.out.2.1 q (by omega)
            · rw [List.getElem?_set_ne (by omega)]
              exact HI.out.2.2 q (by omega)
        | true =>
          rw [hq] at hcall
          have HQ := Lib.hid hq
          clear hq
          go_wp2_with (go_at_fn gf; refine hcall.mono ?_; rintro e w' ⟨rfl, hb'⟩)
          go_roundg (xs.length - (j + 1))
          case measure => omega
          case rel =>
            refine ⟨i, j + 1, zs, rfl, by go_num, by omega, by omega, Nat.le_refl _, HOwn2.out.kept (grown_of_below hb' none) (.inr (by simp [Value.ownBlock])), Lib.hid ⟨?_, ?_, fun q hq => HI.out.2.2 q (by omega)⟩, hg2.trans (grown_of_below hb' _)⟩
            · rw [take_snoc HX'.out, kept_snoc_yes HQ.out]; exact HI.out.1
            · rw [take_snoc HX'.out, kept_snoc_yes HQ.out]; exact HI.out.2.1
      · obtain rfl : j = xs.length := by omega
        have hci : ¬ c = i := by omega
        have hcl : ∀ ty, (Builtin.clear_ #[25] ty #[.slice (some ⟨g, i, none⟩) (xs.length - i) (c - i)]).run Try.prog wr = .ok (.tuple #[]) (wr.setCells g i (List.replicate (xs.length - i) (.int .i64 0))) :=
          fun ty => Lib.run_clear_slice wr 25 3 ty (.int .i64 0) Try.underlying25 Try.zeroValue3 rfl rfl g i _ _ (by omega) (fun t ht => by
            rw [HOwn2.out.cellAt _ (by omega)]
            have hzl : (iv zs).length = xs.length * 1 := HOwn2.out.1
            rw [List.getElem?_eq_getElem (by omega)]
            rfl) (fun t ht => HOwn2.out.frozenAt _)
        go_wp2
        go_ret
        obtain ⟨zs', k1, k2, k3⟩ := own_setCells (List.replicate (xs.length - i) (.int .i64 0)) i wr (iv zs) HOwn2.out
        obtain ⟨hi1, hi2, _⟩ := HI.out
        rw [List.take_length] at hi1 hi2
        refine ⟨_, c, by rw [← hi1]; rfl, ints_of_cells k1 (by omega) (fun q x hq => ?_), hg2.trans k3, fun ad e => by injection e with e; subst e; rfl⟩
        have hql := (List.getElem?_eq_some_iff.1 hq).1
        rw [k2 q (by omega)]
        exact iv_get (by rw [hi2 q (by omega)]; exact hq)
  · have HM := Lib.hid (kept_all h1)
    clear h1
    go_wp2
    go_ret
    refine ⟨A, c, ?_, ?_, grown_of_below hb _, fun ad e => by subst e; rfl⟩
    · rw [HM.out]; rfl
    · rw [HM.out]; exact (hI.below hb (Nat.le_refl _)).more hb.size

end Go.Proofs.Ytlkgnafbipgpbaa
