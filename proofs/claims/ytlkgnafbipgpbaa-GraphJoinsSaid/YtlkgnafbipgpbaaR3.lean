/- The document's own answers: the contract of catnapref3.some, what is above a node. -/
import Derived.Test.YtlkgnafbipgpbaaR2
import Derived.Test.YtlkgnafbipgpbaaW8
import Derived.Test.YtlkgnafbipgpbaaM2
import Derived.Deep.QuietTactic
import Derived.BigQuiet
namespace Go.Proofs.Ytlkgnafbipgpbaa
open Go.RowKit Go.Maps

theorem aboOf_yes {g : Nat → List Int} {v u : Nat} {o : List Nat} (h : abB g v u = true) : aboOf g v (o ++ [u]) = aboOf g v o ++ [u] := by simp [aboOf, List.filter_append, h]
theorem aboOf_no {g : Nat → List Int} {v u : Nat} {o : List Nat} (h : abB g v u = false) : aboOf g v (o ++ [u]) = aboOf g v o := by simp [aboOf, List.filter_append, h]
theorem undOf_yes {g : Nat → List Int} {v u : Nat} {o : List Nat} (h : abB g u v = true) : undOf g v (o ++ [u]) = undOf g v o ++ [u] := by simp [undOf, List.filter_append, h]
theorem undOf_no {g : Nat → List Int} {v u : Nat} {o : List Nat} (h : abB g u v = false) : undOf g v (o ++ [u]) = undOf g v o := by simp [undOf, List.filter_append, h]
theorem has_q {w : World} {B c : Nat} {A : Option Addr} {xs : List Int} {x : Int} {r : Bool} (h : IntsAt w B A xs) (hl : xs.length ≤ 1000000) (hr : memB x xs = r) (n : Nat) :
    Calls Try.prog 23 #[.slice A xs.length c, .int .i64 x] (w.drewN n) fun e w'' => e = .returned (.bool r) ∧ ∃ m, w'' = w.drewN m :=
  (has_any A c xs x B (w.drewN n) hl (h.below (below_drewN (Below.refl B w) n) (Nat.le_refl _))).mono fun _ _ ⟨he, hw⟩ => ⟨by rw [he, hr], n, hw.symm⟩

set_option maxRecDepth 100000 in
set_option maxHeartbeats 16000000 in
theorem some_above (A : Option Addr) (n c : Nat) (g : Nat → List Int) (v : Int) (w : World) (hn : n ≤ 1000) (hl : ∀ i, i < n → (g i).length ≤ 1000000) (h : RowsAt w w.heap.size A n g) :
    Calls Try.prog 32 #[.slice A n c, .int .i64 v, .bool true] w (SideOut (SideSays n g v (aboOf g)) w) := by
  obtain ⟨i0, hi, hi0, hi1, hi2⟩ := info_parts Try.info3
  have HL := Lib.hid hl
  clear hl
  have hmk := make_bools n (by omega)
  go_enter Try.func32, Try.ntmps32
  go_wp2_with fail
  refine (rorderO_any A n c g w hn HL.out h).mono ?_
  rintro e w1 ⟨E, v0, o, hs, rfl, hown, hb1⟩
  have HS := Lib.hid hs
  have HOwn := Lib.hid hown
  clear hs hown
  by_cases hE : E = 0
  · subst hE
    by_cases hv : 0 ≤ v ∧ v < n
    · obtain ⟨hv0, hvn⟩ := hv
      have hd1 : decide (v < 0) = false := by simpa using hv0
      obtain ⟨vn, rfl⟩ := Int.eq_ofNat_of_zero_le hv0
      have hvn' : vn < n := by omega
      have hd2 : decide (n ≤ vn) = false := by simp; omega
      obtain ⟨h1, h2, h3⟩ := HS.out.zero
      obtain ⟨A1, c1, rfl⟩ := own_shape HOwn.out
      have HC := Lib.hid (closedR h1)
      have HT := Lib.hid (h3.topo h2)
      have HFS : Hid (ForSays n g (vn : Int) 0 o) := .inl ⟨HS.out, .inr ⟨hv0, hvn⟩⟩
      have hol : o.length ≤ n := by omega
      clear h1 h2 h3
      have hz1 := hb1.size
      have hI1 := IntsAt.of_own HOwn.out
      have HI1 := Lib.hid hI1
      have HR1 := Lib.hid ((h.below hb1 (Nat.le_refl _)).more hz1)
      clear hI1 h
      have hbd := Lib.hid (bools_new n w1)
      obtain ⟨hdc0, hdf0⟩ := hbd.out vn hvn'
      have hb2 : Below w1.heap.size w1 (w1.alloc (.cells (madeCells #[.bool false] n) 4)) := (Below.refl _ w1).alloc (Nat.le_refl _) _
      have hgs : w1.grownBy ((w1.alloc (.cells (madeCells #[.bool false] n) 4)).setCell ⟨w1.heap.size, vn, none⟩ (.bool true)) (some w1.heap.size) := grown_setR (World.grownBy_alloc _ _ _) _ rfl _
      have hb3 : Below w1.heap.size w1 ((w1.alloc (.cells (madeCells #[.bool false] n) 4)).setCell ⟨w1.heap.size, vn, none⟩ (.bool true)) := (Below.refl _ w1).grown hgs (Nat.le_refl _) (fun q hq => by injection hq with hq; omega)
      have hz3 : ((w1.alloc (.cells (madeCells #[.bool false] n) 4)).setCell ⟨w1.heap.size, vn, none⟩ (.bool true)).heap.size = w1.heap.size + 1 := by simp [World.setCell]
      have e3 : (w1.alloc (.cells (madeCells #[.bool false] n) 4)).setCell ⟨w1.heap.size, vn, none⟩ (.bool true) = w1.alloc (.cells ((madeCells #[.bool false] n).setIfInBounds vn (.bool true)) 4) := World.setCell_alloc_at _ _ _ _ _ rfl
      have HB3 := Lib.hid (hbd.out.store (f' := nearA g vn o 0) hvn' true (by rw [nearA_zero]; simp) (fun i hi => by rw [nearA_zero]; simp [hi]))
      have HE3 := Lib.hid e3
      clear e3
      go_wp2_with fail
      go_loopw [11] (fun s11 wr => ∃ i : Nat, i ≤ o.length ∧ s11 = .int .i64 i ∧ BoolsAt wr w1.heap.size n (nearA g vn o i) ∧ Below w1.heap.size w1 wr ∧ w1.heap.size + 1 ≤ wr.heap.size) (fun s11 _ => o.length - (intOf s11).toNat)
      case atStart => exact ⟨0, Nat.zero_le _, rfl, by rw [← HE3.out]; exact HB3.out, by rw [← HE3.out]; exact hb3, by rw [← HE3.out, hz3]; exact Nat.le_refl _⟩
      case round =>
        obtain ⟨i, hio, rfl, hbo, hB, hz⟩ := hrel
        have HBo := Lib.hid hbo
        clear hbo
        by_cases hlt : i < o.length
        · obtain ⟨kk, hkk⟩ : ∃ kk : Nat, kk = o.length - 1 - i := ⟨_, rfl⟩
          have hkI : (o.length : Int) - 1 - (i : Int) = (kk : Int) := by omega
          have hk1 : kk < o.length := by omega
          have HKK := Lib.hid hkk
          clear hkk
          obtain ⟨lk, hlk⟩ : ∃ lk, o[kk]? = some lk := ⟨_, List.getElem?_eq_getElem (by omega)⟩
          have hlkn : lk < n := HT.out.2.1 lk (at_mem hlk)
          have HSELF := Lib.hid (hangA_self HT.out HC.out hlkn)
          have HLK := Lib.hid hlk
          clear hlk
          go_wp2_with fail
          go_loopw [13] (fun s13 wr => ∃ u : Nat, u ≤ n ∧ s13 = .int .i64 u ∧ BoolsAt wr w1.heap.size n (nearU (nearA g vn o i) lk (hangA g lk) u) ∧ Below w1.heap.size w1 wr ∧ w1.heap.size + 1 ≤ wr.heap.size) (fun s13 _ => n - (intOf s13).toNat)
          case atStart => exact ⟨0, Nat.zero_le _, rfl, HBo.out.congr (fun j _ => nearU_zero _ _ _ j), hB, hz⟩
          case round =>
            obtain ⟨u, hun, rfl, hbu, hB2, hz2⟩ := hrel
            have HBu := Lib.hid hbu
            clear hbu
            by_cases hltu : u < n
            · obtain ⟨adl, hAl, _, hcl⟩ := (HI1.out.below hB2 (Nat.le_refl _)).at_ (k := kk) (by rw [ci_length]; omega)
              have e4 : (ci o)[kk]'(by rw [ci_length]; omega) = (lk : Int) := by
                have : (ci o)[kk]? = some (lk : Int) := by simp [ci, HLK.out]
                rw [List.getElem?_eq_getElem (by rw [ci_length]; omega)] at this
                injection this
              rw [e4] at hcl
              clear e4
              obtain ⟨adg, Au, cu, hA, _, hcu, _, hIu⟩ := (HR1.out.below hB2 (Nat.le_refl _)).at_ hltu
              have hlu := HL.out u hltu
              have hIu' := hIu
              obtain ⟨hnc, _⟩ := HBu.out u hltu
              obtain ⟨hlc, hlf⟩ := HBu.out lk hlkn
              have HIu := Lib.hid hIu
              subst hA hAl
              clear hIu hIu'
              have hat := nearU_at (f := nearA g vn o i) HSELF.out u
              have HAT := Lib.hid hat
              clear hat
              cases hnr : nearU (nearA g vn o i) lk (hangA g lk) u u with
              | false =>
                rw [hnr] at hnc
                have HNR := Lib.hid hnr
                clear hnr
                go_wp2_with fail
                go_quiet (fail)
                go_wp2_with fail
                go_roundw
                case rel =>
                  refine ⟨u + 1, by omega, by go_num, ?_, below_drewN hB2 _, hz2⟩
                  have hh := HAT.out
                  rw [HNR.out, Bool.false_and] at hh
                  exact (HBu.out.congr (fun j _ => nearU_no hh.symm j)).keep (below_drewN (Below.refl (w1.heap.size + 1) wr) _) (Nat.lt_succ_self _)
                case measure => simp [intOf]; omega
              | true =>
                rw [hnr] at hnc
                have HNR := Lib.hid hnr
                clear hnr
                cases hH : hangA g lk u with
                | false =>
                  have hmB : memB (lk : Int) (g u) = false := hH
                  have HH := Lib.hid hH
                  clear hH
                  go_wp2_with fail
                  go_quiet ((go_at_call 23; exact has_q HIu.out hlu hmB _))
                  go_wp2_with fail
                  go_roundw
                  case rel =>
                    refine ⟨u + 1, by omega, by go_num, ?_, below_drewN hB2 _, hz2⟩
                    have hh := HAT.out
                    rw [HH.out, Bool.and_false, Bool.and_false] at hh
                    exact (HBu.out.congr (fun j _ => nearU_no (by rw [HH.out, Bool.and_false]) j)).keep (below_drewN (Below.refl (w1.heap.size + 1) wr) _) (Nat.lt_succ_self _)
                  case measure => simp [intOf]; omega
                | true =>
                  have hmB : memB (lk : Int) (g u) = true := hH
                  have HH := Lib.hid hH
                  clear hH
                  go_wp2_with fail
                  go_quiet ((go_at_call 23; exact has_q HIu.out hlu hmB _))
                  go_wp2_with fail
                  go_roundw
                  case rel =>
                    refine ⟨u + 1, by omega, by go_num, ?_, ?_, by simpa [World.setCell] using hz2⟩
                    · have hh := HAT.out
                      rw [HNR.out, HH.out, Bool.true_and] at hh
                      have hb' := HBu.out.keep (below_drewN (Below.refl (w1.heap.size + 1) wr) nq) (Nat.lt_succ_self _)
                      exact hb'.store hlkn true (nearU_yes (by rw [HH.out]; exact hh.symm)) (fun j hj => nearU_far j hj)
                    · exact (below_drewN hB2 nq).setCell (p := ⟨w1.heap.size, lk, none⟩) (Nat.le_refl _) _
                  case measure => simp [intOf]; omega
            · obtain rfl : u = n := by omega
              go_wp2_with fail
              go_roundw
              case rel => exact ⟨i + 1, by omega, by go_num, HBu.out.congr (fun j _ => nearA_step HT.out HC.out hvn' hlt (by rw [← HKK.out]; exact HLK.out) j), hB2, hz2⟩
              case measure => simp [intOf]; omega
        · obtain rfl : i = o.length := by omega
          go_wp2_with fail
          go_loopg [14, 15] o.length (fun gg s14 s15 wr => ∃ j : Nat, j ≤ o.length ∧ o.length - j ≤ gg ∧ s15 = .int .i64 j ∧ wr.ownsRow (w1.heap.size + 1) 3 1 s14 (aboOf g vn (o.take j)).length (iv (ci (aboOf g vn (o.take j)))) ∧ BoolsAt wr w1.heap.size n (nearA g vn o o.length) ∧ Below w1.heap.size w1 wr ∧ w1.heap.size + 1 ≤ wr.heap.size)
          case atStart => exact ⟨0, Nat.zero_le _, by omega, rfl, World.ownsRow_nil _ _ _ _, HBo.out, hB, hz⟩
          case round =>
            obtain ⟨j, hj, hgj, rfl, hown, hbj, hB2, hz2⟩ := hrel
            have HBj := Lib.hid hbj
            have HOw := Lib.hid hown
            clear hbj hown
            by_cases hltj : j < o.length
            · obtain ⟨u, hu⟩ : ∃ u, o[j]? = some u := ⟨_, List.getElem?_eq_getElem hltj⟩
              have hun : u < n := HT.out.2.1 u (at_mem hu)
              obtain ⟨adl, hAl, _, hcl⟩ := (HI1.out.below hB2 (Nat.le_refl _)).at_ (k := j) (by rw [ci_length]; omega)
              have e4 : (ci o)[j]'(by rw [ci_length]; omega) = (u : Int) := by
                have : (ci o)[j]? = some (u : Int) := by simp [ci, hu]
                rw [List.getElem?_eq_getElem (by rw [ci_length]; omega)] at this
                injection this
              rw [e4] at hcl
              clear e4
              subst hAl
              obtain ⟨hnc, _⟩ := HBj.out u hun
              have HEND := Lib.hid (nearA_end HT.out HC.out (v := vn) (at_mem hu))
              have hlen3 : (aboOf g vn (o.take j)).length ≤ o.length := by
                have h1 := List.length_filter_le (fun u => abB g vn u) (o.take j)
                have h2 : (o.take j).length ≤ o.length := by rw [List.length_take]; omega
                exact Nat.le_trans h1 h2
              have HTK : Hid (o.take (j + 1) = o.take j ++ [u]) := by
                show o.take (j + 1) = o.take j ++ [u]
                rw [List.take_add_one, hu]; rfl
              clear hu
              by_cases hev : u = vn
              · have hq : ((u : Int) != (vn : Int)) = false := by simp [hev]
                have HF : Hid (aboOf g vn (o.take (j + 1)) = aboOf g vn (o.take j)) := by
                  show aboOf g vn (o.take (j + 1)) = aboOf g vn (o.take j)
                  have hh := HEND.out
                  rw [hev] at hh
                  simp only [ne_eq, not_true_eq_false, decide_false, Bool.false_and] at hh
                  rw [HTK.out, aboOf_no]
                  rw [hev]
                  exact hh.symm
                clear hev
                go_wp2_with fail
                go_roundg (o.length - (j + 1))
                case rel => exact ⟨j + 1, by omega, Nat.le_refl _, by go_num, by rw [HF.out]; exact HOw.out, HBj.out, hB2, hz2⟩
                case measure => omega
              · have hq : ((u : Int) != (vn : Int)) = true := by simp; omega
                have HEV := Lib.hid hev
                clear hev
                cases hnr : nearA g vn o o.length u with
                | false =>
                  rw [hnr] at hnc
                  have HF : Hid (aboOf g vn (o.take (j + 1)) = aboOf g vn (o.take j)) := by
                    show aboOf g vn (o.take (j + 1)) = aboOf g vn (o.take j)
                    have hh := HEND.out
                    rw [hnr, Bool.and_false] at hh
                    rw [HTK.out, aboOf_no]
                    exact hh.symm
                  clear hnr
                  go_wp2_with fail
                  go_roundg (o.length - (j + 1))
                  case rel => exact ⟨j + 1, by omega, Nat.le_refl _, by go_num, by rw [HF.out]; exact HOw.out, HBj.out, hB2, hz2⟩
                  case measure => omega
                | true =>
                  rw [hnr] at hnc
                  have HF : Hid (aboOf g vn (o.take (j + 1)) = aboOf g vn (o.take j) ++ [u]) := by
                    show aboOf g vn (o.take (j + 1)) = aboOf g vn (o.take j) ++ [u]
                    have hh := HEND.out
                    rw [hnr, Bool.and_true] at hh
                    rw [HTK.out, aboOf_yes]
                    rw [← hh]
                    have := HEV.out
                    simpa using this
                  have HONE := Lib.hid (cell_one_new wr (.int .i64 (u : Int)) 3)
                  clear hnr
                  go_wp2_with (at_builtin; refine wpList_append_own _ rfl _ _ 25 rfl (w1.heap.size + 1) 3 i0 (.int .i64 0) 1 8 Try.underlying25 hi hi0 hi1 hi2 rfl (by decide) _ _ _ rfl (HOw.out.alloc _) ⟨wr.heap.size, 0, none⟩ 1 1 [.int .i64 (u : Int)] rfl rfl HONE.out (iv_one [(u : Int)]) (by unfold maxLen; omega) (by omega) (by rw [World.size_alloc]; omega) ?_; intro v6 w6 hown6 hg6 _)
                  have hlt6 := fun q hq => (HOw.out.lt q hq).1
                  have hbb6 : Below (w1.heap.size + 1) wr w6 := ((Below.refl _ _).alloc (by omega) _).grown hg6 (by rw [World.size_alloc]; omega) (fun q hq => hlt6 q hq)
                  have hs6 := hbb6.size
                  have HOw6 := Lib.hid hown6
                  clear hown6 hlt6
                  go_roundg (o.length - (j + 1))
                  case rel =>
                    refine ⟨j + 1, by omega, Nat.le_refl _, by go_num, ?_, HBj.out.keep hbb6 (Nat.lt_succ_self _), hB2.trans (hbb6.mono (by omega)), by omega⟩
                    rw [HF.out, ci_append, List.length_append]
                    simpa [iv, ci] using HOw6.out
                  case measure => omega
            · obtain rfl : j = o.length := by omega
              rw [List.take_length] at HOw
              obtain ⟨A9, c9, rfl⟩ := own_shape HOw.out
              go_wp2_with fail
              go_ret2
              exact ⟨0, aboOf g vn o, A9, c9, ⟨o, HFS, .inr ⟨rfl, by rw [Int.toNat_natCast]⟩⟩, rfl, IntsAt.of_own HOw.out, hb1.trans (hB2.mono hz1), fun ad e => by have := own_from HOw.out ad e; omega⟩
    · have HFS : Hid (ForSays n g v 4 []) := .inr ⟨rfl, rfl, hv, o, HS.out⟩
      by_cases hv0 : v < 0
      · have hd1 : decide (v < 0) = true := by simpa using hv0
        clear hv
        go_wp2_with fail
        go_ret2
        exact ⟨4, [], none, 0, ⟨[], HFS, .inl ⟨by decide, rfl⟩⟩, rfl, fun hl => absurd hl (by simp [ci]), hb1, fun ad e => by cases e⟩
      · have hd1 : decide (v < 0) = false := by simpa using hv0
        have hd2 : decide ((n : Int) ≤ v) = true := by simp; omega
        clear hv
        go_wp2_with fail
        go_ret2
        exact ⟨4, [], none, 0, ⟨[], HFS, .inl ⟨by decide, rfl⟩⟩, rfl, fun hl => absurd hl (by simp [ci]), hb1, fun ad e => by cases e⟩
  · have hE1 : (E == 0) = false := by simpa using hE
    have hE2 : (E != 0) = true := by simpa using hE
    have ho := HS.out.err hE
    have HFS : Hid (ForSays n g v E o) := .inl ⟨HS.out, .inl hE⟩
    have HE := Lib.hid hE
    clear hE ho
    go_wp2_with fail
    go_ret2
    exact ⟨E, [], none, 0, ⟨o, HFS, .inl ⟨HE.out, rfl⟩⟩, rfl, fun hl => absurd hl (by simp [ci]), hb1, fun ad e => by cases e⟩

end Go.Proofs.Ytlkgnafbipgpbaa
