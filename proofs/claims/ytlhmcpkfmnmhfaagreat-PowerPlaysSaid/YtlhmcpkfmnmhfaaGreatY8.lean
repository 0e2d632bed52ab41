/- The document's own grid: Chain. -/
import Derived.Test.YtlhmcpkfmnmhfaaGreatU1
import Derived.Test.YtlhmcpkfmnmhfaaGreatYB
namespace Go.Proofs.YtlhmcpkfmnmhfaaGreat
set_option linter.unusedSimpArgs false
set_option linter.unusedVariables false
open Go.RowKit Go.Maps

theorem own_one (w : World) (a : Int) : (w.alloc (.cells #[.int .i64 a] 3)).ownsRow w.heap.size 3 1 (.slice (some ⟨w.heap.size, 0, none⟩) 1 1) 1 [.int .i64 a] :=
  ⟨rfl, .inr ⟨w.heap.size, 1, #[.int .i64 a], rfl, Nat.le_refl _, heap_alloc_new w _, Nat.le_refl _, by unfold maxLen; omega, rfl, rfl⟩⟩
structure RChS (w wr : World) (sts : List Pst) (i cur : Int) (v : Value) (acc : List Int) : Prop where
  eq : chainP sts i = (upsF sts cur).reverse ++ acc
  cur : cur = -1 ∨ hasB sts.length cur = true
  own : OwnI wr w.heap.size v acc
  bel : Below w.heap.size w wr

set_option maxRecDepth 100000 in
set_option maxHeartbeats 2000000 in
theorem rchain_any (gr gd gs cd cs : Nat) (sts : List Pst) (i : Int) (w : World) (hn : sts.length ≤ 500) (h : RefIs w gr gd gs cd cs sts) (hd : Desc sts) :
    Calls Tryz.prog 23 #[.pointer (some ⟨gr, 0, none⟩), .int .i64 i] w (fun e w' => ∃ v, e = .returned v ∧ OwnI w' w.heap.size v (chainP sts i) ∧ Below w.heap.size w w') := by
  have H := Lib.hid h
  have HD := Lib.hid hd
  have b0 := (h.box 0 _ rfl).1
  clear h hd
  cases hb : hasB sts.length i with
  | false =>
    have he : chainP sts i = [] := by unfold chainP; rw [upsF_no hb]; rfl
    rw [he]
    have HB := Lib.hid hb
    clear hb he
    go_enter Tryz.func23, Tryz.ntmps23
    go_wp2_with fail
    refine (there_any gr _ _ _ _ _ _ i w H.out.box).mono ?_
    rintro e w' ⟨rfl, rfl⟩
    rw [HB.out]
    go_wp2
    go_ret
    exact ⟨.slice none 0 0, rfl, World.ownsRow_nil _ _ _ _, Below.refl _ _⟩
  | true =>
    have HB := Lib.hid hb
    clear hb
    go_enter Tryz.func23, Tryz.ntmps23
    go_wp2_with fail
    refine (there_any gr _ _ _ _ _ _ i w H.out.box).mono ?_
    rintro e w' ⟨rfl, rfl⟩
    rw [HB.out]
    go_wp2
    go_loopw [1, 5] (fun d v wr => ∃ (cur : Int) (acc : List Int) (A : Option Addr) (m c : Nat), d = .int .i64 cur ∧ v = .slice A m c ∧ m = acc.length ∧ RowKit.Hid (RChS w wr sts i cur (.slice A m c) acc)) (fun d _ _ => (intOf d + 1).toNat)
    case atStart => exact ⟨i, [], none, 0, 0, rfl, rfl, rfl, Lib.hid ⟨by simp [chainP], .inr HB.out, World.ownsRow_nil _ _ _ _, Below.refl _ _⟩⟩
    case round =>
      obtain ⟨cur, acc, A, m, cm, rfl, rfl, hm, HC⟩ := hrel
      have HM := Lib.hid hm
      have hlen : m ≤ sts.length := by
        have h1 := congrArg List.length HC.out.eq
        have h2 := upsF_len sts i
        unfold chainP at h1
        rw [List.length_append, List.length_reverse, List.length_reverse] at h1
        omega
      clear hm
      rcases HC.out.cur with rfl | hb
      · go_wp2
        go_ret
        have he := HC.out.eq
        rw [upsF_no (by unfold hasB; simp)] at he
        rw [List.reverse_nil, List.nil_append] at he
        rw [he]
        exact ⟨.slice A m cm, rfl, HC.out.own, HC.out.bel⟩
      · obtain ⟨k, x, rfl, hx⟩ := hasB_ex hb
        have hlt := (List.getElem?_eq_some_iff.1 hx).1
        have hup := upsF_yes HD.out hx
        have ha := HD.out k x hx
        have hac := HC.out.eq
        rw [hup, List.reverse_cons, List.append_assoc] at hac
        have HGR := Lib.hid (H.out.move (Moved.of_below HC.out.bel))
        have hfar : ∀ w6, Below wr.heap.size wr w6 → w6.cell? ⟨gr, 0, none⟩ = some (.slice (some ⟨gd, 0, none⟩) sts.length cd) ∧ w6.cell? ⟨gd, k * 3, none⟩ = some (.int .i64 x.dom.above) := fun w6 hb6 => ⟨((HGR.out.move (Moved.of_below hb6)).box 0 _ rfl).1, (HGR.out.move (Moved.of_below hb6)).dom k x hx 0 _ rfl⟩
        obtain ⟨a, haa⟩ : ∃ a, x.dom.above = a := ⟨_, rfl⟩
        rw [haa] at ha hac
        have HFAR := Lib.hid hfar
        have HAC := Lib.hid hac
        have HAA := Lib.hid haa
        have HA := Lib.hid ha
        have i0 : (0 : Int) ≤ (k : Int) := by omega
        have i1 : (k : Int) < (sts.length : Int) := by omega
        have hsz := HC.out.bel.size
        have hI := IntsAt.of_own (n := acc.length) (c := cm) (by have := HC.out.own; rw [HM.out] at this; exact this)
        have HI := Lib.hid (hI.below ((Below.refl wr.heap.size wr).alloc (Nat.le_refl _) (.cells #[.int .i64 (k : Int)] 3)) (Nat.le_refl _))
        obtain ⟨i3, hi3, hz0, hzs, hzb⟩ := info_parts Tryz.info3
        clear hx hup ha hac hfar hb haa hI
        go_wp2_with (at_builtin; refine wpList_append_ints rfl _ _ rfl wr.heap.size i3 hi3 hz0 hzs hzb _ 1 [.int .i64 (k : Int)] rfl (own_one wr (k : Int)) A m cm wr.heap.size acc rfl HM.out HI.out (by omega) (by simp) ?_; intro v6 w6 hown6 hg6; obtain ⟨A6, c6, rfl⟩ := own_shape' hown6; have hb6 : Below wr.heap.size wr w6 := (moved_fresh hg6).below (by simp) (Nat.le_refl _); obtain ⟨q0, q1⟩ := HFAR.out w6 hb6; rw [HAA.out] at q1; have HOWN6 := Lib.hid hown6; have HB6 := Lib.hid hb6; clear hown6 hg6 hb6)
        go_roundw
        case rel =>
          refine ⟨a, (k : Int) :: acc, A6, 1 + m, c6, rfl, rfl, by simp [HM.out]; omega, Lib.hid ⟨HAC.out, ?_, ?_, HC.out.bel.trans (HB6.out.mono hsz)⟩⟩
          · rcases HA.out with h1 | ⟨h1, h2⟩
            · exact .inl h1
            · right; unfold hasB; simp; omega
          · have := own_base' HOWN6.out hsz
            unfold OwnI
            rw [show ((k : Int) :: acc).length = 1 + m by simp [HM.out]; omega]
            exact this
        case measure =>
          have := HA.out
          simp [intOf]
          omega

end Go.Proofs.YtlhmcpkfmnmhfaaGreat
