/- The contracts of graph.only and graph.Under. -/
import Derived.Test.YtlkgnafbipgpbaaW7
namespace Go.Proofs.Ytlkgnafbipgpbaa
open Go.RowKit Go.Maps

def keepMet (met xs : List Int) : List Int := xs.filter fun x => memB x met
theorem keepMet_kept (met xs : List Int) : kept (fun x => !memB x met) xs = keepMet met xs := by unfold kept keepMet; simp

theorem own_not_set {w : World} {b N base n : Nat} {met : List Int} {v : Value} {xs : List Value} (hs : SetAt w b N met) (h : w.ownsRow base 3 1 v n xs) : some b ≠ v.ownBlock := by
  rcases h.2 with ⟨rfl, _⟩ | ⟨g, cap, cur, rfl, _, hg, _⟩
  · simp [Value.ownBlock]
  · obtain ⟨D, ⟨es, clock, hh, _⟩, _⟩ := hs
    intro e
    simp [Value.ownBlock] at e
    subst e
    rw [hh] at hg
    cases hg

set_option maxHeartbeats 1000000 in
theorem only_any (b N : Nat) (met xs : List Int) (v0 : Value) (base : Nat) (w : World) (hown : w.ownsRow base 3 1 v0 xs.length (iv xs)) (hs : SetAt w b N met) (hl : xs.length ≤ 1000000) (hx : ∀ x, x ∈ xs → wfI x) :
    Calls Try.prog 31 #[v0, .map (some b)] w (IntsOut (keepMet met xs) v0.ownBlock w) := by
  have HX := Lib.hid hx
  have HOwn := Lib.hid hown
  have hne := own_not_set hs hown
  have hlt0 := fun k hk => (hown.lt k hk).2
  clear hx hown
  obtain ⟨o, ho⟩ : ∃ o, o = Obj.cells #[.map (some b)] 42 := ⟨_, rfl⟩
  have hsays : Says 40 #[.pointer (some ⟨w.heap.size, 0, none⟩)] (fun x => !memB x met) v0.ownBlock (w.alloc (.cells #[.map (some b)] 42)) := by
    intro W hW x hwf
    refine only1 b w.heap.size N met x W ((hs.alloc _).kept hW hne) hwf (hW.cell (by simp) ?_)
    intro e
    have := hlt0 w.heap.size e.symm
    omega
  have HS := Lib.hid hsays
  clear hsays ho o
  go_enter Try.func31, Try.ntmps31
  go_wp2_with fail
  refine (delete_any 40 _ enters40 _ v0 xs base _ (HOwn.out.alloc _) HS.out hl HX.out).mono ?_
  rintro e w1 ⟨A, c, rfl, hI, hg, hA⟩
  rw [keepMet_kept] at hI ⊢
  go_wp2
  go_ret
  exact ⟨A, c, rfl, hI, (World.grownBy_alloc _ _ _).trans hg, hA⟩

/-- an error, or those of the order that f takes -/
def SideSays (n : Nat) (g : Nat → List Int) (v : Int) (f : Nat → List Nat → List Nat) (E : Int) (ys : List Nat) : Prop :=
  ∃ o, ForSays n g v E o ∧ ((E ≠ 0 ∧ ys = []) ∨ (E = 0 ∧ ys = f v.toNat o))

theorem ForSays.right {n : Nat} {g : Nat → List Int} {v : Int} {o : List Nat} (h : ForSays n g v 0 o) : Had g n o ∧ o.length = n ∧ n ≤ 100 ∧ closedB n g = true ∧ 0 ≤ v ∧ v < n := by
  rcases h with ⟨h, hv⟩ | ⟨e, _⟩
  · rcases h with ⟨_, e, _⟩ | ⟨_, _, e, _⟩ | ⟨_, _, e, _⟩ | ⟨h1, h2, _, h3, h4⟩
    · omega
    · omega
    · omega
    · exact ⟨h3, h4, h1, h2, by omega⟩
  · omega
theorem keepMet_ci (P : Nat → Bool) (o : List Nat) : keepMet (ci (o.filter P)) (ci o) = ci (o.filter P) := by
  unfold keepMet
  have key : ∀ l : List Nat, (∀ x, x ∈ l → x ∈ o) → (ci l).filter (fun x => memB x (ci (o.filter P))) = ci (l.filter P) := by
    intro l
    induction l with
    | nil => intro _; rfl
    | cons x l ih =>
      intro hl
      have ih' := ih fun y hy => hl y (List.mem_cons_of_mem _ hy)
      show ((x : Int) :: ci l).filter _ = _
      by_cases hp : P x = true
      · rw [List.filter_cons, if_pos (memB_yes (mem_ci.2 (List.mem_filter.2 ⟨hl x (by simp), hp⟩))), List.filter_cons_of_pos hp, ih']
        rfl
      · rw [List.filter_cons, if_neg (by rw [memB_iff, mem_ci, List.mem_filter]; exact fun hh => hp hh.2), List.filter_cons_of_neg hp, ih']
  exact key o fun _ h => h
theorem wf_ci {o : List Nat} {n : Nat} (hn : n ≤ 1000) (h : ∀ x, x ∈ o → x < n) : ∀ x, x ∈ ci o → wfI x := by
  intro x hx
  obtain ⟨y, hy, rfl⟩ := List.mem_map.1 hx
  have := h y hy
  unfold wfI
  omega

/-- a slice of nodes that can be read, and an error -/
def SideOut (P : Int → List Nat → Prop) (w : World) (e : Ending) (w' : World) : Prop :=
  ∃ E ys A c, P E ys ∧ e = .returned (.tuple #[.slice A ys.length c, .int .i64 E]) ∧ IntsAt w' w'.heap.size A (ci ys) ∧ Below w.heap.size w w' ∧ ∀ ad, A = some ad → w.heap.size ≤ ad.block

set_option maxRecDepth 100000 in
set_option maxHeartbeats 8000000 in
theorem under_any (A : Option Addr) (n c : Nat) (g : Nat → List Int) (v : Int) (w : World) (hn : n ≤ 1000) (hl : ∀ i, i < n → (g i).length ≤ 1000000) (hwf : ∀ i, i < n → ∀ x, x ∈ g i → wfI x) (h : RowsAt w w.heap.size A n g) (hv : wfI v) :
    Calls Try.prog 16 #[.slice A n c, .int .i64 v] w (SideOut (SideSays n g v (undOf g)) w) := by
  have hmm := @run_makeMap Try.prog
  have HL := Lib.hid hl
  have HWF := Lib.hid hwf
  clear hl hwf
  go_enter Try.func16, Try.ntmps16
  go_wp2_with fail
  have hb0 : Below w.heap.size w (w.alloc (.cells #[.int .i64 v] 3)) := (Below.refl _ w).alloc (Nat.le_refl _) _
  refine (orderFor_any A n c g v _ hn HL.out HWF.out ((h.below hb0 (Nat.le_refl _)).more (by simp))).mono ?_
  rintro e w1 ⟨E, v0, o, hs, rfl, hown, hb1⟩
  have HS := Lib.hid hs
  have HOwn := Lib.hid hown
  clear hs hown
  have HFS := Lib.hid HS.out
  by_cases hE : E = 0
  · subst hE
    obtain ⟨hh, hlen, hn100, hcl, hv0, hvn⟩ := HS.out.right
    obtain ⟨vn, rfl⟩ := Int.eq_ofNat_of_zero_le hv0
    obtain ⟨A1, c1, rfl⟩ := own_shape HOwn.out
    have HH := Lib.hid hh
    have HN := Lib.hid hlen
    have hole : o.length ≤ 100 := by omega
    have HLT := Lib.hid hh.1.nodup.2
    clear hh hlen hcl
    have hz1 := hb1.size
    rw [World.size_alloc] at hz1
    have hbw : Below w.heap.size w w1 := hb0.trans (hb1.mono (by simp))
    have hs3 := (SetAt.made w1).alloc (.cells #[.map (some w1.heap.size)] 42)
    have HS3 := Lib.hid hs3
    have hbv : w1.cell? ⟨w.heap.size, 0, none⟩ = some (.int .i64 (vn : Int)) := (hb1.cell (p := ⟨w.heap.size, 0, none⟩) (by simp)).trans (by simp)
    have hbv3 : ((w1.alloc (.map #[] 0)).alloc (.cells #[.map (some w1.heap.size)] 42)).cell? ⟨w.heap.size, 0, none⟩ = some (.int .i64 (vn : Int)) := Lib.cell?_alloc_some _ (Lib.cell?_alloc_some _ hbv)
    have hbm3 : ((w1.alloc (.map #[] 0)).alloc (.cells #[.map (some w1.heap.size)] 42)).cell? ⟨w1.heap.size + 1, 0, none⟩ = some (.map (some w1.heap.size)) := by simp
    have hg3 : RowsAt ((w1.alloc (.map #[] 0)).alloc (.cells #[.map (some w1.heap.size)] 42)) w.heap.size A n g := h.below ((hbw.alloc (by omega) _).alloc (by simp; omega) _) (Nat.le_refl _)
    have hown3 := (HOwn.out.alloc (.map #[] 0)).alloc (.cells #[.map (some w1.heap.size)] 42)
    have HV3 := Lib.hid hbv3
    have HM3 := Lib.hid hbm3
    have HG3 := Lib.hid hg3
    have HO3 := Lib.hid hown3
    have hb3 : Below w.heap.size w ((w1.alloc (.map #[] 0)).alloc (.cells #[.map (some w1.heap.size)] 42)) := (hbw.alloc (by omega) _).alloc (by simp; omega) _
    have hzz : ((w1.alloc (.map #[] 0)).alloc (.cells #[.map (some w1.heap.size)] 42)).heap.size = w1.heap.size + 2 := by simp
    clear hs3 hbv3 hbm3 hg3 hown3 hbv HOwn h
    obtain ⟨w3, hw3⟩ : ∃ w3, w3 = (w1.alloc (.map #[] 0)).alloc (.cells #[.map (some w1.heap.size)] 42) := ⟨_, rfl⟩
    rw [← hw3] at HS3 HV3 HM3 HG3 HO3 hb3 hzz
    have HW3 := Lib.hid hw3
    clear hw3
    go_wp2_with fail
    rw [← HW3.out]
    go_loopw [23] (fun i wr => ∃ k : Nat, k ≤ o.length ∧ i = .int .i64 k ∧ SetAt wr w1.heap.size k (ci (undOf g vn (o.take k))) ∧ w3.grownBy wr (some w1.heap.size)) (fun i _ => o.length - (intOf i).toNat)
    case atStart => exact ⟨0, Nat.zero_le _, rfl, by simpa [undOf, ci] using HS3.out, World.grownBy.refl _ _⟩
    case round =>
      obtain ⟨k, hk, rfl, hS, hg⟩ := hrel
      have hzr := hg.size
      rw [hzz] at hzr
      have hbv := hg.cell HV3.out (by simp; omega)
      have hbm := hg.cell HM3.out (by simp)
      by_cases hlt : k < o.length
      · obtain ⟨u, hu⟩ : ∃ u, o[k]? = some u := ⟨_, List.getElem?_eq_getElem hlt⟩
        have hun : u < n := HLT.out u (List.mem_of_getElem? hu)
        obtain ⟨ad1, hA1, _, hc1⟩ := ((IntsAt.of_own HO3.out).keptSet HS3.out hg).at_ (k := k) (by rw [ci_length]; exact hlt)
        have e1 : (ci o)[k]'(by rw [ci_length]; exact hlt) = (u : Int) := by
          have : (ci o)[k]? = some (u : Int) := by simp [ci, hu]
          rw [List.getElem?_eq_getElem (by rw [ci_length]; exact hlt)] at this
          injection this
        rw [e1] at hc1
        clear e1
        obtain ⟨adg, Au, cu, hA, _, hcu, _, hIu⟩ := (HG3.out.keptSet HS3.out hg).at_ hun
        have hlu := HL.out u hun
        have HIu := Lib.hid hIu
        have hstep := und_step HH.out.1 (v := vn) hu
        have HU := Lib.hid hu
        have HSTEP := Lib.hid hstep
        subst hA1 hA
        clear hu hstep hIu
        have hsays : Says 34 #[.pointer (some ⟨w.heap.size, 0, none⟩), .pointer (some ⟨w1.heap.size + 1, 0, none⟩)] (fun x => memB x ((vn : Int) :: ci (undOf g vn (o.take k)))) none wr := by
          intro W hW x hwf
          exact under1 w1.heap.size (w1.heap.size + 1) w.heap.size k _ x vn W (hS.kept hW (by simp)) hwf (hW.cell hbv (by simp)) (hW.cell hbm (by simp))
        have HSAYS := Lib.hid hsays
        clear hsays
        go_wp2_with fail
        refine (contains_any 34 _ enters34 _ none Au cu (g u) wr HSAYS.out hlu (HWF.out u hun) (HIu.out.more (by omega))).mono ?_
        rintro e w4 ⟨rfl, hb4⟩
        have hz4 := hb4.size
        have hg4 := hg.trans (grown_of_below hb4 _)
        have hS4 := hS.below hb4 hS.lt
        have hbm4 := (hb4.cell (p := ⟨w1.heap.size + 1, 0, none⟩) (by show w1.heap.size + 1 < _; omega)).trans hbm
        by_cases hab : Ab g u vn
        · have hq : anyB (fun x => memB x ((vn : Int) :: ci (undOf g vn (o.take k)))) (g u) = true := by
            obtain ⟨x, hx, hx2⟩ := HSTEP.out.2 hab
            exact anyB_iff.2 ⟨x, hx, memB_yes (by simpa using hx2)⟩
          have HAB := Lib.hid hab
          clear hab
          go_wp2_with fail
          refine (markAdd w1.heap.size k 1 (w4.heap.size + 1) _ (ci (undOf g vn (o.take k))) [(u : Int)] _ (hS4.alloc _) (ints_new w4 u) (fun x hx => by rw [List.mem_singleton.1 hx]; unfold wfI; omega) (by simp; omega)).mono ?_
          rintro e w5 ⟨rfl, hS5, hg5⟩
          have HS5 := Lib.hid hS5
          clear hS5
          go_wp2_with fail
          go_roundw
          case rel =>
            refine ⟨k + 1, by omega, by go_num, ?_, hg4.trans ((World.grownBy_alloc _ _ _).trans hg5)⟩
            rw [List.take_add_one, HU.out]
            simp only [Option.toList_some]
            rw [undOf_snoc_yes HAB.out, ci_append]
            exact HS5.out
          case measure => simp [intOf]; omega
        · have hq : anyB (fun x => memB x ((vn : Int) :: ci (undOf g vn (o.take k)))) (g u) = false := by
            rw [Bool.eq_false_iff]
            intro hh
            obtain ⟨x, hx, hx2⟩ := anyB_iff.1 hh
            exact hab (HSTEP.out.1 ⟨x, hx, by simpa using memB_iff.1 hx2⟩)
          have HAB := Lib.hid hab
          clear hab
          go_wp2_with fail
          go_roundw
          case rel =>
            refine ⟨k + 1, by omega, by go_num, ?_, hg4⟩
            rw [List.take_add_one, HU.out]
            simp only [Option.toList_some]
            rw [undOf_snoc_no HAB.out]
            exact hS4.mono (Nat.le_succ _)
          case measure => simp [intOf]; omega
      · obtain rfl : k = o.length := by omega
        rw [List.take_length] at hS
        have HS := Lib.hid hS
        have hne := own_not_set HS3.out HO3.out
        have HOr := Lib.hid (HO3.out.kept hg (by
          cases hob : (Value.slice A1 o.length c1).ownBlock with
          | none => exact .inl rfl
          | some q => exact .inr (fun e => hne (by rw [hob, e]))))
        clear hS
        go_wp2_with fail
        refine (only_any w1.heap.size o.length _ (ci o) (.slice A1 o.length c1) _ wr (by rw [ci_length]; exact HOr.out) HS.out (by rw [ci_length]; omega) (wf_ci hn HLT.out)).mono ?_
        rintro e w6 ⟨A6, c6, rfl, hI6, hg6, hA6⟩
        rw [undOf, keepMet_ci] at hI6 ⊢
        have HI6 := Lib.hid hI6
        clear hI6
        go_wp2
        go_ret2
        have hbr : Below w.heap.size w wr := hb3.grown hg (by omega) (fun q hq => by injection hq with hq; omega)
        refine ⟨0, _, A6, c6, ⟨o, HFS.out, .inr ⟨rfl, rfl⟩⟩, ?_, ?_, hbr.grown hg6 (by omega) (fun q hq => by have := (HOr.out.lt q hq).1; rw [World.size_alloc] at this; omega), fun ad e => by have := (HOr.out.lt _ (hA6 ad e)).1; rw [World.size_alloc] at this; omega⟩
        · rw [Int.toNat_natCast, undOf, ci_length]; rfl
        · rw [Int.toNat_natCast]; exact HI6.out
  · have hE' : (E != 0) = true := by simpa using hE
    have HE := Lib.hid hE
    clear hE
    go_wp2
    go_ret2
    exact ⟨E, [], none, 0, ⟨o, HS.out, .inl ⟨HE.out, rfl⟩⟩, rfl, fun hl => absurd hl (by simp [ci]), hb0.trans (hb1.mono (by simp)), fun ad e => by cases e⟩

end Go.Proofs.Ytlkgnafbipgpbaa
