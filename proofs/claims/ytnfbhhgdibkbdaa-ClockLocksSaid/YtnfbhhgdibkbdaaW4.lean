/- The contracts of slices.Clone (of rows) and graph.had. -/
import Derived.Test.YtnfbhhgdibkbdaaW3
import Derived.Laws.OwnMore
import Derived.Deep.AppendLies
import Derived.Lib.LazyBuf
namespace Go.Proofs.Ytnfbhhgdibkbdaa
set_option linter.unusedSimpArgs false
set_option linter.unusedVariables false
open Go.RowKit Go.Maps

theorem Try.info3 : (Try.prog.info? 3).map (fun i => (i.zero, i.size, i.bytes)) = some (some (.int .i64 0), 1, 8) := by kernel_rfl
theorem Try.info35 : (Try.prog.info? 35).map (fun i => (i.zero, i.size, i.bytes)) = some (some (.slice none 0 0), 1, 24) := by kernel_rfl

def iv (l : List Int) : List Value := l.map (Value.int .i64)

theorem iv_one (l : List Int) : ∀ u ∈ iv l, u.oneCell' = true := by intro u hu; obtain ⟨x, _, rfl⟩ := List.mem_map.1 hu; rfl
theorem iv_get {l : List Int} {j : Nat} {x : Int} (h : l[j]? = some x) : (iv l)[j]? = some (.int .i64 x) := by simp [iv, h]

theorem IntsAt.of_own {w : World} {base n c : Nat} {A : Option Addr} {l : List Int} (h : w.ownsRow base 3 1 (.slice A n c) n (iv l)) : IntsAt w w.heap.size A l := by
  intro hl
  have hn : 0 < n := by have := h.1; simp [iv] at this; omega
  rcases h.2 with ⟨_, h0⟩ | ⟨g, cap, cur, hv, hb, hg, _⟩
  · omega
  · injection hv with hv _ _
    subst hv
    refine ⟨_, rfl, ?_, fun j x hj => h.cells (g := g) rfl j _ (iv_get hj)⟩
    rcases Nat.lt_or_ge g w.heap.size with hlt | hge
    · exact hlt
    · rw [Array.getElem?_eq_none hge] at hg; cases hg
/-- an owned row is a slice of as many ints -/
theorem own_shape {w : World} {base n : Nat} {v : Value} {xs : List Value} (h : w.ownsRow base 3 1 v n xs) : ∃ A c, v = .slice A n c := by
  rcases h.2 with ⟨rfl, rfl⟩ | ⟨g, cap, cur, rfl, _⟩
  · exact ⟨_, _, rfl⟩
  · exact ⟨_, _, rfl⟩

/-- a clone of n rows -/
def CloneOut (n : Nat) (g : Nat → List Int) (w : World) (e : Ending) (w' : World) : Prop :=
  ∃ A cap gw, e = .returned (.slice A n cap) ∧ (0 < n → A = some ⟨gw, 0, none⟩ ∧ gw < w'.heap.size ∧ OuterAt w' gw w.heap.size n g) ∧ Below w.heap.size w w' ∧ w.heap.size ≤ gw ∧ gw ≤ w'.heap.size

set_option maxHeartbeats 1000000 in
theorem clone_any (A : Option Addr) (n c : Nat) (g : Nat → List Int) (w : World) (hn : n ≤ 1000000) (h : RowsAt w w.heap.size A n g) :
    Calls Try.prog 106 #[.slice A n c] w (CloneOut n g w) := by
  obtain ⟨i0, hi, hz0, hz1, hz2⟩ := info_parts Try.info35
  have q22 : ∀ (w : World) (a : Option Addr) (n c : Nat), (binOp .eql 120 (.slice a n c) (.slice none 0 0)).run Try.prog w = .ok (.bool a.isNone) w := fun w a n c => Lib.run_eql_slice_nil w _ _ a n c 0 0 Try.underlying120
  rcases A with _ | ad
  · have h0 : ¬ 0 < n := fun hp => by obtain ⟨ad, e, _⟩ := h hp; cases e
    have h0' : n = 0 := by omega
    subst h0'
    clear h
    go_enter Try.func106, Try.ntmps106
    go_wp2
    go_ret
    exact ⟨none, 0, w.heap.size, rfl, fun hp => absurd hp (by omega), Below.refl _ _, Nat.le_refl _, Nat.le_refl _⟩
  · have hV : ∃ V : Nat → Value, ∀ i, i < n → w.cell? (ad.add i) = some (V i) ∧ (V i).oneCell' = true ∧ ∃ Ai ci, V i = .slice Ai (g i).length ci ∧ (g i).length ≤ ci ∧ IntsAt w w.heap.size Ai (g i) := by
      refine ⟨fun i => (w.cell? (ad.add i)).getD undef, fun i hi => ?_⟩
      obtain ⟨ad', Ai, ci, e, _, h1, h2, h3⟩ := h.at_ hi
      injection e with e
      subst e
      show _ = some ((w.cell? (ad.add i)).getD undef) ∧ _
      simp only [h1, Option.getD_some]
      exact ⟨trivial, rfl, Ai, ci, rfl, h2, h3⟩
    obtain ⟨V, hV⟩ := hV
    have HV := Lib.hid hV
    clear hV h
    go_enter Try.func106, Try.ntmps106
    go_wp2_with (at_builtin; refine wpList_append_own _ rfl _ _ 120 rfl w.heap.size 35 i0 (.slice none 0 0) 1 24 Try.underlying120 hi hz0 hz1 hz2 rfl (by decide) _ _ _ rfl (World.ownsRow_made w #[] 0 (Nat.le_refl _) (Nat.zero_le _) (by simp)) ad n c ((List.range n).map V) rfl ?qc1 ?qc2 ?qc3 ?qc4 ?qc5 ?qc6 ?_)
    case qc1 => simp
    case qc2 =>
      intro j u hj
      have hjn : j < n := by
        have := (List.getElem?_eq_some_iff.1 hj).1
        simpa using this
      rw [List.getElem?_map, List.getElem?_range hjn] at hj
      simp at hj
      subst hj
      exact Lib.cell?_alloc_some _ (HV.out j hjn).1
    case qc3 =>
      intro u hu
      obtain ⟨j, hj, rfl⟩ := List.mem_map.1 hu
      exact (HV.out j (List.mem_range.1 hj)).2.1
    case qc4 => unfold maxLen; omega
    case qc5 => omega
    case qc6 => simp
    intro v' w1 hown hgrow hnil
    go_wp2
    go_ret
    have hB1 : Below w.heap.size w w1 := ((Below.refl _ w).alloc (Nat.le_refl _) _).grown hgrow (by simp) (by intro k hk; simp [Value.ownBlock] at hk; omega)
    have hs := hgrow.size
    simp only [World.size_alloc] at hs
    try simp only [Nat.zero_add, List.nil_append] at hown
    rcases hown.2 with ⟨rfl, rfl⟩ | ⟨gw, cap, cur, rfl, hb, hg, _⟩
    · exact ⟨none, 0, w.heap.size, rfl, fun hp => absurd hp (by omega), hB1, Nat.le_refl _, hB1.size⟩
    · have hglt : gw < w1.heap.size := by
        rcases Nat.lt_or_ge gw w1.heap.size with hlt | hge
        · exact hlt
        · rw [Array.getElem?_eq_none hge] at hg; cases hg
      refine ⟨_, cap, gw, rfl, fun hp => ⟨rfl, hglt, fun i hi => ⟨hown.frozenAt i, ?_⟩⟩, hB1, hb, Nat.le_of_lt hglt⟩
      · obtain ⟨_, _, Ai, ci, e, h2, h3⟩ := HV.out i hi
        refine ⟨Ai, ci, ?_, h2, h3.below hB1 (Nat.le_refl _)⟩
        rw [hown.cellAt i (by omega), List.getElem?_map, List.getElem?_range hi, ← e]
        rfl

theorem OuterAt.keptSet {w w' : World} {gw B n b N : Nat} {met : List Int} {cur : Nat → List Int} (h : OuterAt w gw B n cur) (hs : SetAt w b N met) (hg : w.grownBy w' (some b)) (hgw : gw < w.heap.size) : OuterAt w' gw B n cur := by
  intro i hi
  obtain ⟨h1, Ai, ci, h2, h3, h4⟩ := h i hi
  have hne : some gw ≠ some b := fun e => by injection e with e; exact hs.ne h2 e
  exact ⟨(hg.frozen_far ⟨gw, i, none⟩ hgw hne).trans h1, Ai, ci, hg.cell h2 hne, h3, h4.keptSet hs hg⟩

theorem ints_new (w : World) (x : Int) : IntsAt (w.alloc (.cells #[.int .i64 x] 3)) (w.heap.size + 1) (some ⟨w.heap.size, 0, none⟩) [x] := by
  intro _
  refine ⟨_, rfl, Nat.lt_succ_self _, fun j y hj => ?_⟩
  exact cell_one_new w (.int .i64 x) 3 j _ (by
    cases j with
    | zero => simp at hj; simp [hj]
    | succ j => simp at hj)

theorem own_base {w : World} {base base' n : Nat} {v : Value} {xs : List Value} (h : w.ownsRow base 3 1 v n xs) (hb : base' ≤ base) : w.ownsRow base' 3 1 v n xs := by
  refine ⟨h.1, ?_⟩
  rcases h.2 with h | ⟨g, cap, cur, h1, h2, r⟩
  · exact .inl h
  · exact .inr ⟨g, cap, cur, h1, by omega, r⟩

/-- graph.had: the nodes that can be had, in memory of its own -/
def HadOut (n : Nat) (g : Nat → List Int) (w : World) (e : Ending) (w' : World) : Prop :=
  ∃ o v, Had g n o ∧ e = .returned v ∧ w'.ownsRow w.heap.size 3 1 v o.length (iv (ci o)) ∧ Below w.heap.size w w'

set_option maxRecDepth 100000 in
set_option maxHeartbeats 4000000 in
theorem had_any (A : Option Addr) (n c : Nat) (g : Nat → List Int) (w : World) (hn : n ≤ 1000) (hl : ∀ i, i < n → (g i).length ≤ 1000000) (hwf : ∀ i, i < n → ∀ x, x ∈ g i → wfI x) (h : RowsAt w w.heap.size A n g) :
    Calls Try.prog 104 #[.slice A n c] w (HadOut n g w) := by
  have hmm := @run_makeMap Try.prog
  obtain ⟨i0, hi, hz0, hz1, hz2⟩ := info_parts Try.info3
  have HL := Lib.hid hl
  have HWF := Lib.hid hwf
  clear hl hwf
  go_enter Try.func104, Try.ntmps104
  go_wp2_with fail
  refine (clone_any A n c g w (by omega) h).mono ?_
  rintro e w1 ⟨A', cap, gw, rfl, hcl, hb1, hgw1, hgw2⟩
  have HCL := Lib.hid hcl
  clear hcl h
  have hz1' := hb1.size
  have hset := SetAt.made w1
  have hb2 : Below w.heap.size w (w1.alloc (.map #[] 0)) := hb1.alloc (by omega) _
  have hO : OuterAt (w1.alloc (.map #[] 0)) gw w.heap.size n g := fun i hi => by
    obtain ⟨_, hlt, hO⟩ := HCL.out (by omega)
    exact hO.below ((Below.refl w1.heap.size w1).alloc (Nat.le_refl _) _) hlt hz1' i hi
  have HO := Lib.hid hO
  clear hO
  go_wp2_with fail
  refine (next_any gw w.heap.size n cap w1.heap.size 0 g g [] _ (by omega) HL.out HWF.out A' HO.out CutTo.start (by simp; omega) (fun hp => by obtain ⟨h1, h3, _⟩ := HCL.out hp; exact ⟨h1, hgw1, by simp; omega, by omega⟩) hset).mono ?_
  rintro e w2 ⟨⟨s6, s7, hnv, rfl⟩, hcur, hs2, hg2⟩
  have HNV := Lib.hid hnv
  have HCUR := Lib.hid hcur
  clear hnv hcur
  have hb3 : Below w.heap.size w w2 := hb2.grown hg2 hb2.size (fun k hk => by injection hk with hk; omega)
  have hz2' := hg2.size
  rw [World.size_alloc] at hz2'
  go_wp2_with fail
  go_loopg [5, 6, 7] n (fun gg s5 s6 s7 wr => ∃ o : List Nat, Greedy g n o ∧ n - o.length ≤ gg ∧ wr.ownsRow (w1.heap.size + 1) 3 1 s5 o.length (iv (ci o)) ∧ (∃ cur, OuterAt wr gw w.heap.size n cur ∧ CutTo g cur (ci o) n) ∧ SetAt wr w1.heap.size o.length (ci o) ∧
    Below w.heap.size w wr ∧ w1.heap.size + 1 ≤ wr.heap.size ∧ NextVal g (ci o) n s6 s7)
  case atStart => exact ⟨[], .nil, by simp, World.ownsRow_nil _ _ _ _, HCUR.out, hs2, hb3, hz2', HNV.out⟩
  case round =>
    obtain ⟨o, ho, hgg, hown, ⟨cur, hO, hC⟩, hS, hB, hz, hnv⟩ := hrel
    have hlen := ho.length_le
    have HOwn := Lib.hid hown
    have HO' := Lib.hid hO
    have HC' := Lib.hid hC
    have HG := Lib.hid ho
    clear hown hO hC ho HNV HCUR
    rcases hnv with ⟨v, hv, hr, hleast, rfl, rfl⟩ | ⟨hnone, rfl, rfl⟩
    · have HR := Lib.hid hr
      have HLE := Lib.hid hleast
      clear hr hleast
      go_wp2_with fail
      have hb4 : Below w.heap.size w (wr.alloc (.cells #[.int .i64 (v : Int)] 3)) := hB.alloc (by omega) _
      have hg4 := World.grownBy_alloc wr (.cells #[.int .i64 (v : Int)] 3) (some w1.heap.size)
      have hS4 := hS.alloc (.cells #[.int .i64 (v : Int)] 3)
      have HO4 := Lib.hid (HO'.out.below ((Below.refl wr.heap.size wr).alloc (Nat.le_refl _) (.cells #[.int .i64 (v : Int)] 3)) (by omega) (by omega))
      have HOwn4 := Lib.hid (HOwn.out.alloc (.cells #[.int .i64 (v : Int)] 3))
      refine (markAdd w1.heap.size o.length 1 (wr.heap.size + 1) _ (ci o) [(v : Int)] _ hS4 (ints_new wr v) (fun x hx => by rw [List.mem_singleton.1 hx]; unfold wfI; omega) (by simp; omega)).mono ?_
      rintro e w5 ⟨rfl, hS5, hg5⟩
      have hz5 := hg5.size
      rw [World.size_alloc] at hz5
      have hb5 : Below w.heap.size w w5 := hb4.grown hg5 (by simp; omega) (fun k hk => by injection hk with hk; omega)
      have HO5 := Lib.hid (HO4.out.keptSet hS4 hg5 (by simp; omega))
      have HOwn5 := Lib.hid (HOwn4.out.kept hg5 (by
        cases hob : u5.ownBlock with
        | none => exact .inl rfl
        | some k => exact .inr (fun e => by injection e with e; have := (HOwn4.out.lt k hob).1; omega)))
      go_wp2_with (at_builtin; refine wpList_append_own _ rfl _ _ 35 rfl (w1.heap.size + 1) 3 i0 (.int .i64 0) 1 8 Try.underlying35 hi hz0 hz1 hz2 rfl (by decide) _ _ _ rfl (HOwn5.out.alloc _) ⟨w5.heap.size, 0, none⟩ 1 1 [.int .i64 (v : Int)] rfl rfl (cell_one_new _ _ _) (iv_one [(v : Int)]) (by unfold maxLen; omega) (by omega) (by simp; omega) ?_; intro v6 w6 hown6 hg6 _)
      have hlt6 := fun k hk => (HOwn5.out.lt k hk).1
      have hbb6 : Below (w1.heap.size + 1) w5 w6 := ((Below.refl _ w5).alloc (by omega) _).grown hg6 (by simp; omega) (fun k hk => hlt6 k hk)
      have hz6 := hbb6.size
      have HO6 := HO5.out.below hbb6 (by omega) (by omega)
      have hS6 : SetAt w6 w1.heap.size (o ++ [v]).length (ci (o ++ [v])) := by
        rw [ci_append, List.length_append]
        exact hS5.below hbb6 (by omega)
      have hb6 : Below w.heap.size w w6 := hb5.trans (hbb6.mono (by omega))
      have hG6 : Greedy g n (o ++ [v]) := .snoc HG.out hv HR.out HLE.out
      have hC6 : CutTo g cur (ci (o ++ [v])) n := HC'.out.more fun x hx => by rw [ci_append]; exact List.mem_append_left _ hx
      have hown6' : w6.ownsRow (w1.heap.size + 1) 3 1 v6 (o ++ [v]).length (iv (ci (o ++ [v]))) := by
        rw [ci_append, List.length_append]
        simpa [iv, ci] using hown6
      have hl6 := hG6.length_le
      rw [List.length_append] at hl6
      simp only [List.length_cons, List.length_nil] at hl6
      have HOwn6 := Lib.hid hown6'
      have HG6 := Lib.hid hG6
      clear hown6 hown6' hG6 hlt6
      refine (next_any gw w.heap.size n cap w1.heap.size (o ++ [v]).length g cur (ci (o ++ [v])) _ (by omega) HL.out HWF.out A' HO6 hC6 (by omega) (fun hp => by obtain ⟨h1, h3, _⟩ := HCL.out hp; exact ⟨h1, hgw1, by omega, by omega⟩) hS6).mono ?_
      rintro e w7 ⟨⟨s6', s7', hnv, rfl⟩, hcur, hs7, hg7⟩
      have HNV := Lib.hid hnv
      have HCUR := Lib.hid hcur
      clear hnv hcur HO6 hC6
      have hz7 := hg7.size
      have hb7 : Below w.heap.size w w7 := hb6.grown hg7 hb6.size (fun k hk => by injection hk with hk; omega)
      have HOwn7 := HOwn6.out.kept hg7 (by
        cases hob : v6.ownBlock with
        | none => exact .inl rfl
        | some k => exact .inr (fun e => by injection e with e; have := (HOwn6.out.lt k hob).1; omega))
      have HOwn8 := Lib.hid HOwn7
      clear HOwn7
      go_wp2
      go_roundg (n - (o ++ [v]).length)
      case measure => rw [List.length_append]; simp only [List.length_cons, List.length_nil]; omega
      case rel => exact ⟨o ++ [v], HG6.out, Nat.le_refl _, HOwn8.out, HCUR.out, hs7, hb7, by omega, HNV.out⟩
    · have HNO := Lib.hid hnone
      clear hnone
      go_wp2
      go_ret
      refine ⟨o, _, ⟨HG.out, HNO.out⟩, rfl, ?_, hB⟩
      exact own_base HOwn.out (by omega)

end Go.Proofs.Ytnfbhhgdibkbdaa
