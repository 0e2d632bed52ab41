/- The document's own answers: the contract of catnapref3.order. -/
import Derived.Test.YtlhmcpkfmnmhfaaGreatW5
import Derived.Deep.Cut
import Derived.Test.YtlhmcpkfmnmhfaaGreatD
import Derived.Test.YtlhmcpkfmnmhfaaGreatN1
import Derived.Test.YtlhmcpkfmnmhfaaGreatL2
import Derived.StillTailTactics
namespace Go.Proofs.YtlhmcpkfmnmhfaaGreat
section
set_option linter.unusedSimpArgs false
set_option linter.unusedVariables false
open Go.RowKit Go.Maps

theorem Tryz.info4 : (Tryz.prog.info? 4).map (fun i => (i.zero, i.size, i.bytes)) = some (some (.bool false), 1, 1) := by kernel_rfl

/-- block d holds the bools f 0, f 1 .. -/
def BoolsAt (w : World) (d n : Nat) (f : Nat → Bool) : Prop := ∀ i, i < n → w.cell? ⟨d, i, none⟩ = some (.bool (f i)) ∧ w.frozen? ⟨d, i, none⟩ = false

theorem make_bools (n : Nat) (hn : n ≤ 1000000) (W : World) :
    (Instr.makeSlice 132 (.int .i64 (n : Int)) (.int .i64 (n : Int))).run Tryz.prog W = .ok (.slice (some ⟨W.heap.size, 0, none⟩) n n) (W.alloc (.cells (madeCells #[.bool false] n) 4)) := by
  obtain ⟨i0, hi, hz0, hz1, hz2⟩ := info_parts Tryz.info4
  have h := run_make (P := Tryz.prog) (w := W) 132 4 i0 (.bool false) Tryz.underlying132 hi hz0 .i64 .i64 (n : Int) (n : Int) (by omega) (by omega) (by rw [hz2]; omega) (by omega)
  simp only [Int.toNat_natCast, hz1, Nat.mul_one] at h
  exact h
theorem bools_new (n : Nat) (W : World) : BoolsAt (W.alloc (.cells (madeCells #[.bool false] n) 4)) W.heap.size n (fun _ => false) := by
  intro i hi
  have hh : (W.alloc (.cells (madeCells #[.bool false] n) 4)).heap[W.heap.size]? = some (.cells (madeCells #[.bool false] n) 4 (0, 0)) := heap_alloc_new W _
  refine ⟨?_, frozen_of_row _ _ _ _ _ hh⟩
  rw [cell_of_row _ _ i _ _ _ hh]
  simp [madeCells, hi, Nat.mod_one]
theorem BoolsAt.keep {w w' : World} {d n : Nat} {f : Nat → Bool} {B : Nat} (h : BoolsAt w d n f) (hb : Below B w w') (hd : d < B) : BoolsAt w' d n f := fun i hi =>
  ⟨(hb.cell (p := ⟨d, i, none⟩) hd).trans (h i hi).1, (hb.frozen (p := ⟨d, i, none⟩) hd).trans (h i hi).2⟩
theorem BoolsAt.congr {w : World} {d n : Nat} {f f' : Nat → Bool} (h : BoolsAt w d n f) (he : ∀ i, i < n → f i = f' i) : BoolsAt w d n f' := fun i hi => ⟨by rw [(h i hi).1, he i hi], (h i hi).2⟩
theorem BoolsAt.store {w : World} {d n k : Nat} {f f' : Nat → Bool} (h : BoolsAt w d n f) (hk : k < n) (b : Bool) (h1 : f' k = b) (h2 : ∀ i, i ≠ k → f' i = f i) : BoolsAt (w.setCell ⟨d, k, none⟩ (.bool b)) d n f' := by
  intro i hi
  refine ⟨?_, by rw [World.frozen?_setCell]; exact (h i hi).2⟩
  by_cases e : i = k
  · subst e
    rw [h1]
    exact World.cell?_setCell_same' _ _ _ (by rw [(h i hi).1]; rfl)
  · rw [h2 i e]
    exact (World.cell?_setCell_other w _ _ _ (fun h => e (by cases h; rfl))).trans (h i hi).1

def inL (o : List Nat) (i : Nat) : Bool := decide (i ∈ o)
theorem inL_iff {o : List Nat} {i : Nat} : inL o i = true ↔ i ∈ o := by unfold inL; simp
theorem inL_no {o : List Nat} {i : Nat} : inL o i = false ↔ i ∉ o := by unfold inL; simp

/-- ready, as far as the first j of its row are looked at -/
def rdB (o : List Nat) (k : Nat) (row : List Int) (j : Nat) : Bool := !inL o k && (row.take j).all fun x => inL o x.toNat
theorem rdB_zero {o : List Nat} {k : Nat} {row : List Int} : rdB o k row 0 = !inL o k := by simp [rdB]
theorem rdB_succ {o : List Nat} {k j : Nat} {row : List Int} {y : Nat} (h : row[j]? = some (y : Int)) : rdB o k row (j + 1) = (rdB o k row j && inL o y) := by
  unfold rdB
  rw [List.take_add_one, h]
  simp [Bool.and_assoc]
theorem rdB_ready {g : Nat → List Int} {n k : Nat} (hg : Closed g n) (hk : k < n) (o : List Nat) : rdB o k (g k) (g k).length = true ↔ ReadyI g (ci o) k := by
  unfold rdB ReadyI
  rw [List.take_length, Bool.and_eq_true, List.all_eq_true, Bool.not_eq_true', inL_no, mem_ci]
  constructor
  · rintro ⟨h1, h2⟩
    refine ⟨h1, fun x hx => ?_⟩
    obtain ⟨y, _, rfl⟩ := hg k hk x hx
    have := inL_iff.1 (h2 _ hx)
    rw [Int.toNat_natCast] at this
    exact mem_ci.2 this
  · rintro ⟨h1, h2⟩
    refine ⟨h1, fun x hx => ?_⟩
    obtain ⟨y, _, rfl⟩ := hg k hk x hx
    rw [Int.toNat_natCast]
    exact inL_iff.2 (mem_ci.1 (h2 _ hx))

theorem own_from {w : World} {base n c : Nat} {A : Option Addr} {xs : List Value} (h : w.ownsRow base 3 1 (.slice A n c) n xs) : ∀ ad, A = some ad → base ≤ ad.block := fun ad e => by
  subst e
  exact (h.lt ad.block rfl).1
theorem own_apart {w w' : World} {base n q : Nat} {v : Value} {xs : List Value} (h : w.ownsRow base 3 1 v n xs) (hg : w.grownBy w' (some q)) (hq : q < base) : w'.ownsRow base 3 1 v n xs :=
  h.kept hg (by
    cases hob : v.ownBlock with
    | none => exact .inl rfl
    | some k => exact .inr (fun e => by injection e with e; have := (h.lt k hob).1; omega))
theorem grown_setR {w w' : World} {gw : Nat} (h : w.grownBy w' (some gw)) (p : Addr) (hp : p.block = gw) (u : Value) : w.grownBy (w'.setCell p u) (some gw) := grown_setCell h p hp u

set_option maxRecDepth 100000 in
set_option maxHeartbeats 8000000 in
theorem rorder_any (A : Option Addr) (n c : Nat) (g : Nat → List Int) (w : World) (hn : n ≤ 1000) (hl : ∀ i, i < n → (g i).length ≤ 1000000) (hg : Closed g n) (h : RowsAt w w.heap.size A n g) :
    Calls Tryz.prog 96 #[.slice A n c] w (HadOut n g w) := by
  have hmk := make_bools n (by omega)
  obtain ⟨i0, hi, hi0, hi1, hi2⟩ := info_parts Tryz.info3
  have HL := Lib.hid hl
  have HC := Lib.hid hg
  have HR := Lib.hid h
  clear hl hg h
  go_enter Tryz.func96, Tryz.ntmps96
  go_wp2_with fail
  have hbd := Lib.hid (bools_new n w)
  have hb0 : Below w.heap.size w (w.alloc (.cells (madeCells #[.bool false] n) 4)) := (Below.refl _ w).alloc (Nat.le_refl _) _
  go_loopg [3, 5] (2 * n + 1) (fun gg s3 s5 wr => ∃ (o : List Nat) (m : Bool), Greedy g n o ∧ s5 = .bool m ∧ (2 * (n - o.length) + (if m then 1 else 0) ≤ gg) ∧ wr.ownsRow (w.heap.size + 1) 3 1 s3 o.length (iv (ci o)) ∧ BoolsAt wr w.heap.size n (inL o) ∧ Below w.heap.size w wr ∧ w.heap.size + 1 ≤ wr.heap.size ∧
    (m = false → ∀ u, u < n → ¬ ReadyI g (ci o) u))
  case atStart => exact ⟨[], true, .nil, rfl, by simp, World.ownsRow_nil _ _ _ _, hbd.out.congr (fun i _ => by simp [inL]), hb0, by simp, fun e => by cases e⟩
  case round =>
    obtain ⟨o, m, ho, rfl, hgg, hown, hbo, hB, hz, hm⟩ := hrel
    have HO := Lib.hid ho
    have HOwn := Lib.hid hown
    have HBo := Lib.hid hbo
    have HM := Lib.hid hm
    have hlen := ho.length_le
    clear ho hown hbo hm
    cases m with
    | false =>
      have hno : ∀ u, u < n → ¬ ReadyI g (ci o) u := HM.out rfl
      have HNO := Lib.hid hno
      clear hno HM
      go_wp2_with fail
      go_ret
      exact ⟨o, _, ⟨HO.out, HNO.out⟩, rfl, own_base HOwn.out (by omega), hB⟩
    | true =>
      have hgg' : 2 * (n - o.length) + 1 ≤ gk := hgg
      clear hgg HM
      go_wp2_with fail
      go_loopg [3, 5, 6] n (fun gg2 s3 s5 s6 wr2 => ∃ (k : Nat) (b : Bool) (o2 : List Nat), k ≤ n ∧ s6 = .int .i64 k ∧ s5 = .bool b ∧ n - k ≤ gg2 ∧ Greedy g n o2 ∧ wr2.ownsRow (w.heap.size + 1) 3 1 s3 o2.length (iv (ci o2)) ∧ BoolsAt wr2 w.heap.size n (inL o2) ∧ Below w.heap.size w wr2 ∧
        w.heap.size + 1 ≤ wr2.heap.size ∧ (b = true → o2.length = o.length + 1) ∧ (b = false → o2 = o ∧ ∀ u, u < k → ¬ ReadyI g (ci o) u))
      case atStart => exact ⟨0, false, o, Nat.zero_le _, rfl, rfl, by omega, HO.out, HOwn.out, HBo.out, hB, hz, (fun e => by cases e), fun _ => ⟨rfl, fun u hu => absurd hu (by omega)⟩⟩
      case round =>
        obtain ⟨k, b, o2, hk, rfl, rfl, hg2, ho2, hown2, hbo2, hB2, hz2, hb1, hb2⟩ := hrel
        have HO2 := Lib.hid ho2
        have HOwn2 := Lib.hid hown2
        have HBo2 := Lib.hid hbo2
        have hlen2 := ho2.length_le
        clear ho2 hown2 hbo2
        cases b with
        | true =>
          have hol : o2.length = o.length + 1 := hb1 rfl
          have hol1 : o.length + 1 ≤ o2.length := by omega
          have hol2 : o2.length ≤ o.length + 1 := by omega
          clear hb1 hb2 hol
          by_cases hlt : k < n
          all_goals
            go_wp2_with fail
            go_roundg (2 * (n - o2.length) + 1)
            case measure => omega
            case rel => exact ⟨o2, true, HO2.out, rfl, by simp, HOwn2.out, HBo2.out, hB2, hz2, fun e => by cases e⟩
        | false =>
          have hoo : o2 = o := (hb2 rfl).1
          subst hoo
          have HNO := Lib.hid (hb2 rfl).2
          clear hb1 hb2
          by_cases hlt : k < n
          · obtain ⟨adg, Ak, ck, hA, _, hck, _, hIk⟩ := (HR.out.below hB2 (Nat.le_refl _)).at_ hlt
            have hlk := HL.out k hlt
            have HIk := Lib.hid hIk
            subst hA
            obtain ⟨hdc, hdf⟩ := HBo2.out k hlt
            have hready := rdB_ready HC.out hlt o2
            have HRD := Lib.hid hready
            clear hIk hready
            go_wp2_with fail
            go_loop [7, 8] (fun s7 s8 => ∃ j : Nat, j ≤ (g k).length ∧ s8 = .int .i64 j ∧ s7 = .bool (rdB o2 k (g k) j)) (fun _ s8 => (g k).length - (intOf s8).toNat)
            case atStart => exact ⟨0, Nat.zero_le _, rfl, by rw [rdB_zero]⟩
            case round =>
              obtain ⟨j, hj, rfl, rfl⟩ := hrel
              by_cases hlj : j < (g k).length
              · obtain ⟨ad, hA, _, hx⟩ := HIk.out.at_ hlj
                obtain ⟨y, hy, hxy⟩ := HC.out k hlt _ (List.getElem_mem hlj)
                rw [hxy] at hx
                have hs : rdB o2 k (g k) (j + 1) = (rdB o2 k (g k) j && inL o2 y) := rdB_succ (by rw [List.getElem?_eq_getElem hlj, hxy])
                have HS := Lib.hid hs
                obtain ⟨hyc, _⟩ := HBo2.out y hy
                subst hA
                clear hxy hs
                cases hr : rdB o2 k (g k) j with
                | true =>
                  have HRr := Lib.hid hr
                  clear hr
                  go_wp2_with fail
                  go_round
                  case rel => exact ⟨j + 1, by omega, by go_num, by rw [HS.out, HRr.out, Bool.true_and]⟩
                  case measure => simp [intOf]; omega
                | false =>
                  have HRr := Lib.hid hr
                  clear hr
                  go_wp2_with fail
                  go_round
                  case rel => exact ⟨j + 1, by omega, by go_num, by rw [HS.out, HRr.out, Bool.false_and]⟩
                  case measure => simp [intOf]; omega
              · obtain rfl : j = (g k).length := by omega
                cases hr : rdB o2 k (g k) (g k).length with
                | true =>
                  have HRr := Lib.hid hr
                  clear hr
                  have hgs : wr.grownBy (wr.setCell ⟨w.heap.size, k, none⟩ (.bool true)) (some w.heap.size) := grown_setR (World.grownBy.refl _ _) _ rfl _
                  have HOwnS := Lib.hid (own_apart HOwn2.out hgs (Nat.lt_succ_self _))
                  have hrk := HRD.out.1 HRr.out
                  have HRK := Lib.hid hrk
                  have HBS := Lib.hid (HBo2.out.store (f' := inL (o2 ++ [k])) hlt true (inL_iff.2 (by simp)) (fun i hi => by rw [Bool.eq_iff_iff, inL_iff, inL_iff]; simp [hi]))
                  have hBS : Below w.heap.size w (wr.setCell ⟨w.heap.size, k, none⟩ (.bool true)) := hB2.grown hgs (by omega) (fun q hq => by injection hq with hq; omega)
                  have hzS : (wr.setCell ⟨w.heap.size, k, none⟩ (.bool true)).heap.size = wr.heap.size := by simp [World.setCell]
                  have hone := cell_one_new (wr.setCell ⟨w.heap.size, k, none⟩ (.bool true)) (.int .i64 (k : Int)) 3
                  rw [hzS] at hone
                  have HONE := Lib.hid hone
                  clear hrk hone
                  go_wp2_with (at_builtin; (refine wpList_append_own _ rfl _ _ 22 rfl (w.heap.size + 1) 3 i0 (.int .i64 0) 1 8 Tryz.underlying22 hi hi0 hi1 hi2 rfl (by decide) _ _ _ rfl (HOwnS.out.alloc _) ⟨wr.heap.size, 0, none⟩ 1 1 [.int .i64 (k : Int)] rfl rfl HONE.out (iv_one [(k : Int)]) (by unfold maxLen; omega) (by omega) (by rw [World.size_alloc, hzS]; omega) ?_); intro v6 w6 hown6 hg6 _)
                  have hlt6 := fun q hq => (HOwnS.out.lt q hq).1
                  have hbb6 : Below (w.heap.size + 1) (wr.setCell ⟨w.heap.size, k, none⟩ (.bool true)) w6 := ((Below.refl _ _).alloc (by omega) _).grown hg6 (by rw [World.size_alloc]; omega) (fun q hq => hlt6 q hq)
                  have hs6 := hbb6.size
                  have hG6 : Greedy g n (o2 ++ [k]) := .snoc HO2.out hlt HRK.out HNO.out
                  have hl6 := hG6.length_le
                  have hel : (o2 ++ [k]).length = o2.length + 1 := by simp
                  have hown6' : w6.ownsRow (w.heap.size + 1) 3 1 v6 (o2 ++ [k]).length (iv (ci (o2 ++ [k]))) := by
                    rw [ci_append, List.length_append]
                    simpa [iv, ci] using hown6
                  have HOwn6 := Lib.hid hown6'
                  clear hown6 hown6' hlt6
                  go_roundg (n - (k + 1))
                  case measure => omega
                  case rel => exact ⟨k + 1, true, o2 ++ [k], by omega, by go_num, rfl, Nat.le_refl _, hG6, HOwn6.out, HBS.out.keep hbb6 (Nat.lt_succ_self _), hBS.trans (hbb6.mono (by omega)), by omega, (fun _ => hel), (fun e => by cases e)⟩
                | false =>
                  have HRr := Lib.hid hr
                  clear hr
                  go_wp2_with fail
                  go_roundg (n - (k + 1))
                  case measure => omega
                  case rel => exact ⟨k + 1, false, o2, by omega, by go_num, rfl, Nat.le_refl _, HO2.out, HOwn2.out, HBo2.out, hB2, hz2, (fun e => by cases e), fun _ => ⟨rfl, fun u hu hru => by
                    by_cases e : u = k
                    · subst e
                      have := HRD.out.2 hru
                      rw [HRr.out] at this
                      cases this
                    · exact HNO.out u (by omega) hru⟩⟩
          · go_wp2_with fail
            go_roundg (2 * (n - o2.length))
            case measure => omega
            case rel => exact ⟨o2, false, HO2.out, rfl, by simp, HOwn2.out, HBo2.out, hB2, hz2, fun _ u hu => HNO.out u (by omega)⟩
end

section
set_option linter.unusedSimpArgs false
set_option linter.unusedVariables false
open Go.RowKit Go.Maps

theorem closedR {n : Nat} {g : Nat → List Int} (h : closedB n g = true) : Closed g n := fun i hi x hx => by
  obtain ⟨h1, h2⟩ := closedB_iff.1 h i hi x hx
  exact ⟨x.toNat, by omega, by omega⟩

set_option maxRecDepth 100000 in
set_option maxHeartbeats 4000000 in
theorem rcheck_any (A : Option Addr) (n c : Nat) (g : Nat → List Int) (w : World) (hn : n ≤ 1000) (hl : ∀ i, i < n → (g i).length ≤ 1000000) (h : RowsAt w w.heap.size A n g) :
    Calls Tryz.prog 82 #[.slice A n c] w (ErrOut (fun E => ∃ o, OrderSays n g E o) w) := by
  have HL := Lib.hid hl
  clear hl
  by_cases h1 : n ≤ 100
  · go_enter Tryz.func82, Tryz.ntmps82
    go_wp2_with fail
    go_loop [3] (fun i => ∃ k : Nat, k ≤ n ∧ i = .int .i64 k ∧ ∀ i, i < k → ∀ x, x ∈ g i → 0 ≤ x ∧ x < n) (fun i => n - (intOf i).toNat)
    case atStart => exact ⟨0, Nat.zero_le _, rfl, fun j hj => absurd hj (by omega)⟩
    case round =>
      obtain ⟨k, hk, rfl, hok⟩ := hrel
      have HOK := Lib.hid hok
      clear hok
      by_cases hlt : k < n
      · obtain ⟨ad, Ak, ck, hA, _, hc, _, hr⟩ := h.at_ hlt
        have hlen := HL.out k hlt
        subst hA
        go_wp2_with fail
        go_loop [4] (fun i => ∃ j : Nat, j ≤ (g k).length ∧ i = .int .i64 j ∧ ∀ q x, q < j → (g k)[q]? = some x → 0 ≤ x ∧ x < n) (fun i => (g k).length - (intOf i).toNat)
        case atStart => exact ⟨0, Nat.zero_le _, rfl, fun j _ hj => absurd hj (by omega)⟩
        case round =>
          obtain ⟨j, hj, rfl, hin⟩ := hrel
          have HIN := Lib.hid hin
          clear hin
          by_cases hlj : j < (g k).length
          · obtain ⟨ad', hA', _, hc'⟩ := hr.at_ hlj
            obtain ⟨x, hx⟩ : ∃ x, x = (g k)[j] := ⟨_, rfl⟩
            rw [← hx] at hc'
            have HX := Lib.hid hx
            clear hx
            subst hA'
            by_cases hb0 : 0 ≤ x
            · have hd0 : decide (x < 0) = false := by simpa using hb0
              by_cases hbn : x < n
              · have hd1 : decide ((n : Int) ≤ x) = false := by simpa using hbn
                go_wp2_with fail
                go_round
                case rel => exact ⟨j + 1, by omega, by go_num, fun q y hq hy => by
                  by_cases e : q = j
                  · subst e; rw [List.getElem?_eq_getElem hlj, ← HX.out] at hy; injection hy with hy; subst hy; exact ⟨hb0, hbn⟩
                  · exact HIN.out q y (by omega) hy⟩
                case measure => simp [intOf]; omega
              · have hd1 : decide ((n : Int) ≤ x) = true := by simp; omega
                have hf : closedB n g = false := closedB_no hlt (by rw [HX.out]; exact List.getElem_mem _) (fun hh => hbn hh.2)
                have HF := Lib.hid hf
                clear hf
                go_wp2_with fail
                go_ret
                exact ⟨4, ⟨[], .inr (.inl ⟨h1, HF.out, rfl, rfl⟩)⟩, rfl, Below.refl _ _⟩
            · have hd0 : decide (x < 0) = true := by simp; omega
              have hf : closedB n g = false := closedB_no hlt (by rw [HX.out]; exact List.getElem_mem _) (fun hh => hb0 hh.1)
              have HF := Lib.hid hf
              clear hf
              go_wp2_with fail
              go_ret
              exact ⟨4, ⟨[], .inr (.inl ⟨h1, HF.out, rfl, rfl⟩)⟩, rfl, Below.refl _ _⟩
          · go_wp2_with fail
            go_round
            case rel => exact ⟨k + 1, by omega, by go_num, fun i hi x hx => by
              by_cases e : i = k
              · subst e
                obtain ⟨q, hq, e⟩ := List.mem_iff_getElem.1 hx
                exact HIN.out q x (by omega) (by rw [List.getElem?_eq_getElem hq, e])
              · exact HOK.out i (by omega) x hx⟩
            case measure => simp [intOf]; omega
      · have HF := Lib.hid (closedB_yes (n := n) (g := g) fun i hi => HOK.out i (by omega))
        go_wp2_with fail
        refine (rorder_any A n c g w hn HL.out (closedR HF.out) h).mono ?_
        rintro e w1 ⟨o, v, hh, rfl, hown, hb⟩
        obtain ⟨Ao, co, rfl⟩ := own_shape hown
        have HH := Lib.hid hh
        have hle := hh.1.length_le
        clear hh hown
        by_cases hol : o.length < n
        · go_wp2_with fail
          go_ret
          exact ⟨5, ⟨[], .inr (.inr (.inl ⟨h1, HF.out, rfl, rfl, o, HH.out, hol⟩))⟩, rfl, hb⟩
        · go_wp2_with fail
          go_ret
          exact ⟨0, ⟨o, .inr (.inr (.inr ⟨h1, HF.out, rfl, HH.out, by omega⟩))⟩, rfl, hb⟩
  · have h1' : 100 < n := by omega
    clear h
    go_enter Tryz.func82, Tryz.ntmps82
    go_wp2_with fail
    go_ret
    exact ⟨1, ⟨[], .inl ⟨h1', rfl, rfl⟩⟩, rfl, Below.refl _ _⟩
end

section
set_option linter.unusedSimpArgs false
set_option linter.unusedVariables false
open Go.RowKit Go.Maps

theorem run_append_none_cap {P : Program} (w : World) (base : Nat) (t ty e : TypeId) (i : TypeInfo) (size c : Nat) (ht : P.underlying t = some (.slice e)) (hi : P.info? e = some i)
    (v : Value) (n : Nat) (xs : List Value) (hown : w.ownsRow base e size v n xs) :
    (Builtin.append_ #[t, t] ty #[v, .slice none 0 c]).run P w = .ok v w := by
  rcases hown.2 with ⟨rfl, rfl⟩ | ⟨g, cap, cur, rfl, _, _, hnc, _⟩
  · simp [Builtin.append_, run_underlying ht, sizeOf, typeInfo, hi, Builtin.lenOf, Builtin.firstCells]
  · simp [Builtin.append_, run_underlying ht, sizeOf, typeInfo, hi, Builtin.lenOf, Builtin.firstCells, hnc, storeCells]

theorem wpList_append_ints {w : World} {ops : Array Oper} {rest : List Oper} {o : Oper} {a : Act} {Q : Exit → Act → World → Prop} (hgd : o.guard = none) (s x : Operand)
    (ho : o.op = .call { callee := .builtin .append, args := #[s, x], argTypes := #[22, 22] })
    (base : Nat) (i0 : TypeInfo) (hi : Tryz.prog.info? 3 = some i0) (hz : i0.zero = some (.int .i64 0)) (hsize : i0.size = 1) (hby : i0.bytes = 8)
    (v : Value) (n : Nat) (xs : List Value) (hs : a.eval s = v) (hown : w.ownsRow base 3 1 v n xs)
    (A : Option Addr) (m c : Nat) (B : Nat) (ys : List Int) (hx : a.eval x = .slice A m c) (hm : m = ys.length) (hI : IntsAt w B A ys)
    (h63 : n + m ≤ 1000000) (hbase : base ≤ w.heap.size)
    (h : ∀ v' w', w'.ownsRow base 3 1 v' (n + m) (xs ++ iv ys) → w.grownBy w' v.ownBlock → wpList Tryz.prog ops Q rest (a.put o.dst v') w') : wpList Tryz.prog ops Q (o :: rest) a w := by
  subst hm
  rcases Nat.eq_zero_or_pos ys.length with h0 | h0
  · have hys : ys = [] := List.length_eq_zero_iff.1 h0
    subst hys
    cases A with
    | none =>
      refine wpList_plain hgd fun K hK => ?_
      have hrun := run_append_none_cap (P := Tryz.prog) w base 22 o.type 3 i0 1 c Tryz.underlying22 hi v n xs hown
      unfold Oper.wp
      simp [execOp, ho, resolve, invoke, builtin, hs, hx, hrun, Result.andThen]
      exact hK _ _ (h v w (by simpa [iv] using hown) (World.grownBy.refl _ _))
    | some ad =>
      exact wpList_append_own w hgd s x 22 ho base 3 i0 (.int .i64 0) 1 8 Tryz.underlying22 hi hz hsize hby rfl (by decide) v n xs hs hown ad 0 c [] hx rfl (fun j u hj => by simp at hj) (fun u hu => by simp at hu) (by unfold maxLen; simp at h63; omega) (by simp at h63; omega) hbase (fun v' w' h1 h2 _ => h v' w' h1 h2)
  · obtain ⟨ad, rfl, _, hc⟩ := hI h0
    refine wpList_append_own w hgd s x 22 ho base 3 i0 (.int .i64 0) 1 8 Tryz.underlying22 hi hz hsize hby rfl (by decide) v n xs hs hown ad ys.length c (iv ys) hx (by simp [iv]) (fun j u hj => ?_) (iv_one ys) (by unfold maxLen; omega) (by omega) hbase (fun v' w' h1 h2 _ => h v' w' h1 h2)
    unfold iv at hj
    rw [List.getElem?_map] at hj
    cases hy : ys[j]? with
    | none => rw [hy] at hj; simp at hj
    | some y => rw [hy] at hj; simp at hj; subst hj; exact hc j y hy


/-! a row of rows that the call owns -/
def ListC : ReadsC (List Int) := fun hot w x vs => ∃ A c, vs = [.slice A x.length c] ∧ x.length ≤ c ∧ IntsC hot w A x
def ListV : Reads (List Int) := fun w B x vs => ∃ A c, vs = [.slice A x.length c] ∧ x.length ≤ c ∧ IntsAt w B A x
instance : SteadyC ListC ListV := ⟨fun ⟨A, c, e, h1, h2⟩ hm => ⟨A, c, e, h1, h2.move hm⟩, fun ⟨A, c, e, h1, h2⟩ hs => ⟨A, c, e, h1, h2.less hs⟩, fun ⟨A, c, e, h1, h2⟩ hb => ⟨A, c, e, h1, h2.more hb⟩, fun ⟨A, c, e, h1, h2⟩ => ⟨A, c, e, h1, h2.ints⟩⟩
theorem RowC.lists {e : TypeId} {hot : List Nat} {w : World} {B : Nat} {v : Value} {rows : List (List Int)} (h : RowC ListC 1 e hot w B v rows) : ∃ A c, v = .slice A rows.length c ∧ RowsAt w w.heap.size A rows.length (gOf rows) := by
  obtain ⟨A, c, rfl, hc, hs⟩ := h.strs
  refine ⟨A, c, rfl, fun hl => ?_⟩
  obtain ⟨ad, rfl, hb, hat⟩ := hs hl
  refine ⟨ad, rfl, hb, fun i hi => ?_⟩
  obtain ⟨vs, ⟨Ai, ci, rfl, h1, h2⟩, hcell⟩ := hat i _ (List.getElem?_eq_getElem hi)
  have := hcell.zero
  rw [Nat.mul_one] at this
  rw [gOf_row (List.getElem?_eq_getElem hi)]
  exact ⟨Ai, ci, this, h1, h2⟩

/-- rows made so far, beside the box -/
structure RowsL (w W : World) (vs : List Value) (v : Value) (rows : List (List Int)) (k : Nat) : Prop where
  row : RowC ListC 1 22 v.ownBlock.toList W (w.heap.size + 1) v (rows.take k)
  low : Below (w.heap.size + 1) (w.alloc (.cells vs.toArray 30)) W
theorem RowsL.start (w : World) (vs : List Value) (rows : List (List Int)) : RowsL w (w.alloc (.cells vs.toArray 30)) vs (.slice none 0 0) rows 0 :=
  ⟨by rw [List.take_zero]; exact RowC.nil _ _ _ _ _ _, Below.refl _ _⟩
theorem RowsL.box {w W : World} {vs : List Value} {v : Value} {rows : List (List Int)} {k : Nat} (h : RowsL w W vs v rows k) : ∀ j u, vs[j]? = some u → W.cell? ⟨w.heap.size, j, none⟩ = some u := fun j u hj =>
  (h.low.cell (p := ⟨w.heap.size, j, none⟩) (by show w.heap.size < w.heap.size + 1; omega)).trans ((BoxAt.new w vs 30) j u hj).1
theorem RowsL.reads {w W : World} {vs us : List Value} {v : Value} {rows : List (List Int)} {k : Nat} {α : Type} {V : Reads α} [sv : Steady V] {x : α} (h : RowsL w W vs v rows k) (hx : V w w.heap.size x us) : V W w.heap.size x us :=
  Steady.below (Steady.below hx ((Below.refl w.heap.size w).alloc (Nat.le_refl _) (.cells vs.toArray 30)) (Nat.le_refl _)) (h.low.mono (Nat.le_succ _)) (Nat.le_refl _)
theorem RowsL.size {w W : World} {vs : List Value} {v : Value} {rows : List (List Int)} {k : Nat} (h : RowsL w W vs v rows k) : w.heap.size + 1 ≤ W.heap.size := by
  have := h.low.size
  simpa using this
/-- one more row -/
theorem RowsL.push {w W W5 : World} {vs : List Value} {v : Value} {rows : List (List Int)} {k : Nat} {x : List Int} {A : Option Addr} {c : Nat} {B : Nat} (h : RowsL w W vs v rows k) (hx : rows[k]? = some x) (hM : Moved [] W W5) (hown : W5.ownsRow B 3 1 (.slice A x.length c) x.length (iv x)) (hB : W.heap.size ≤ B) (o : Obj) :
    ∃ vss : List (List Value), (W5.alloc o).ownsRow (w.heap.size + 1) 22 1 v k vss.flatten ∧ ∀ (v6 : Value) (w6 : World), w6.ownsRow (w.heap.size + 1) 22 1 v6 (k + 1) (vss.flatten ++ [.slice A x.length c]) → (W5.alloc o).grownBy w6 v.ownBlock → (v6.ownBlock = v.ownBlock ∨ v6.ownBlock = some (W5.alloc o).heap.size) → RowsL w w6 vs v6 rows (k + 1) := by
  have hkl : k < rows.length := (List.getElem?_eq_some_iff.1 hx).1
  have hlen : (rows.take k).length = k := by simp; omega
  have hM6 : Moved [] W (W5.alloc o) := hM.trans (Moved.alloc _ _)
  have hlt : ∀ g, v.ownBlock = some g → w.heap.size + 1 ≤ g ∧ g < W.heap.size := fun g hg => by
    obtain ⟨_, _, _, _, hh⟩ := h.row.shape
    exact hh g hg
  have hr := h.row.move (hM6.mono (by simp)) (fun g hg => hM6.block g (hlt g hg).2 (by simp))
  obtain ⟨vss, hvl, hvc, ho⟩ := hr
  rw [hlen] at ho
  refine ⟨vss, ho, fun v6 w6 ho6 hg6 hb6 => ?_⟩
  have hmv : Moved v.ownBlock.toList (W5.alloc o) w6 := Moved.of_grown hg6 (fun b hb => by simp [hb])
  have hz5 := hM.size
  refine ⟨?_, h.low.trans ((hM6.below (by simp) h.size).trans (hmv.below (fun b hb => (hlt b (by simpa using hb)).1) (Nat.le_trans h.size hM6.size)))⟩
  have hup : ∀ {y : List Int} {us : List Value}, ListC v.ownBlock.toList (W5.alloc o) y us → ListC (v6.ownBlock.toList ++ v.ownBlock.toList) (W5.alloc o) y us := by
    intro y us hy
    rcases hb6 with hb | hb
    · exact SteadyC.less hy (fun b hb' => by rw [hb] at hb'; rcases List.mem_append.1 hb' with h | h <;> exact h)
    · rw [hb]; exact SteadyC.more hy (Nat.le_refl _)
  have hxC : ListC v.ownBlock.toList (W5.alloc o) x [.slice A x.length c] := ⟨A, c, rfl, own_cap hown, ints_own (hown.alloc o) _ (fun g' hg' hm => by
    have := (hown.lt g' hg').1
    have := (hlt g' (by simpa using hm)).2
    omega)⟩
  have ht : rows.take (k + 1) = rows.take k ++ [x] := by rw [List.take_add_one, hx]; rfl
  rw [ht]
  have := RowC.push (hot := v6.ownBlock.toList ++ v.ownBlock.toList) (xs := rows.take k) (vss := vss) (v' := v6) (x := x) (vs := [.slice A x.length c]) hvl (fun i y us h1 h2 => ⟨(hvc i y us h1 h2).1, hup (hvc i y us h1 h2).2⟩) rfl (hup hxC) (hmv.mono (fun b hb => List.mem_append_right _ hb)) (by rw [hlen]; exact ho6)
  exact this.less (fun b hb => List.mem_append_left _ hb)
theorem RowsL.done {w W : World} {vs : List Value} {v : Value} {rows : List (List Int)} (h : RowsL w W vs v rows rows.length) : ∃ A c, v = .slice A rows.length c ∧ RowsAt W W.heap.size A rows.length (gOf rows) ∧ Below w.heap.size w W := by
  have hr := h.row
  rw [List.take_length] at hr
  obtain ⟨A, c, e, hr⟩ := hr.lists
  exact ⟨A, c, e, hr, ((Below.refl w.heap.size w).alloc (Nat.le_refl _) (.cells vs.toArray 30)).trans (h.low.mono (Nat.le_succ _))⟩
end

section
set_option linter.unusedSimpArgs false
set_option linter.unusedVariables false
open Go.RowKit Go.Maps

theorem moved_fresh {W w6 : World} {o : Obj} {n c : Nat} (h : (W.alloc o).grownBy w6 (Value.slice (some ⟨W.heap.size, 0, none⟩) n c).ownBlock) : Moved [] W w6 :=
  ((Moved.alloc W o).trans (Moved.of_grown (hot := [W.heap.size]) h (fun b hb => by
    have : some W.heap.size = some b := hb
    injection this with this
    simp [this]))).drop (Nat.le_refl _)
theorem RowsL.readsS {w W : World} {vs : List Value} {v : Value} {rows : List (List Int)} {k : Nat} {α : Type} {V : Reads α} [sv : Steady V] {sz : Nat} {A : Option Addr} {xs : List α} (h : RowsL w W vs v rows k) (hx : StrsAt V sz w w.heap.size A xs) : StrsAt V sz W w.heap.size A xs :=
  (hx.below ((Below.refl w.heap.size w).alloc (Nat.le_refl _) (.cells vs.toArray 30)) (Nat.le_refl _)).below (h.low.mono (Nat.le_succ _)) (Nat.le_refl _)

set_option maxRecDepth 100000 in
set_option maxHeartbeats 4000000 in
theorem rclocks_any (s : Chip) (vs : List Value) (w : World) (hok : ChipOk s) (h : ChipV w w.heap.size s vs) : Calls Tryz.prog 83 #[.agg vs.toArray] w (RowsNew (clksG s) w) := by
  obtain ⟨A1, c1, A2, c2, A3, c3, A4, c4, rfl, l1, l2, l3, l4, k1, k2, k3, k4⟩ := h
  have HX := Lib.hid k1
  have hn := hok.n1
  have HOK := Lib.hid hok
  obtain ⟨i3, hi, hz0, hz1, hz2⟩ := info_parts Tryz.info3
  obtain ⟨i37, hi', hz0', hz1', hz2'⟩ := info_parts Tryz.info22
  have hst := RowsL.start w [.slice A1 s.clks.length c1, .slice A2 s.doms.length c2, .slice A3 s.rsts.length c3, .slice A4 s.devs.length c4] (clksG s)
  have HST := Lib.hid hst
  have hrl : (clksG s).length = s.clks.length := by simp [clksG]
  have HRL := Lib.hid hrl
  clear k1 k2 k3 k4 hst hrl hok
  go_enter Tryz.func83, Tryz.ntmps83
  go_wp2
  go_loopw [3, 4] (fun v i wr => ∃ (k : Nat) (C : Option Addr) (n d : Nat), k ≤ s.clks.length ∧ i = .int .i64 k ∧ v = .slice C n d ∧ RowsL w wr [.slice A1 s.clks.length c1, .slice A2 s.doms.length c2, .slice A3 s.rsts.length c3, .slice A4 s.devs.length c4] (.slice C n d) (clksG s) k) (fun _ i _ => s.clks.length - (intOf i).toNat)
  case atStart => exact ⟨0, none, 0, 0, Nat.zero_le _, rfl, rfl, HST.out⟩
  case round =>
    obtain ⟨k, C, n, d, hk, rfl, rfl, hrel⟩ := hrel
    have x0 := hrel.box 0 _ rfl
    have HREL := Lib.hid hrel
    have hsz := hrel.size
    clear hrel HST
    by_cases hlt : k < s.clks.length
    · obtain ⟨ad, vs, hA, hab, hV, hAg⟩ := (HREL.out.readsS HX.out).at_ hlt
      obtain ⟨x, hx⟩ : ∃ x, x = s.clks[k] := ⟨_, rfl⟩
      rw [← hx] at hV
      have hxl : x.frm.length ≤ 1000 := (by rw [hx]; exact (HOK.out.clks _ (List.getElem_mem _)).1)
      have hrow : (clksG s)[k]? = some x.frm := by unfold clksG; rw [List.getElem?_map, List.getElem?_eq_getElem hlt, ← hx]; rfl
      have HROW := Lib.hid hrow
      clear hrow hx
      obtain ⟨Af, cf, rfl, hcf, hIf⟩ := hV
      have h1 := hAg.at_ 0 rfl
      have HI := Lib.hid ((hIf.more (by omega : w.heap.size ≤ wr.heap.size)))
      have hab' : ad.block < wr.heap.size := by omega
      have h1' := Lib.cell?_alloc_some (Obj.cells #[] 3) h1
      have x0' := Lib.cell?_alloc_some (Obj.cells #[] 3) x0
      clear hAg hIf
      subst hA
      have i0 : (0 : Int) ≤ (k : Int) := by omega
      have i1 : (k : Int) < (s.clks.length : Int) := by omega
      go_wp2_with (first | (at_builtin; refine wpList_append_ints rfl _ _ rfl (wr.heap.size) i3 hi hz0 hz1 hz2 _ 0 [] rfl (World.ownsRow_made wr #[] 0 (Nat.le_refl _) (Nat.zero_le _) (by simp)) Af x.frm.length cf wr.heap.size x.frm rfl rfl (HI.out.keep (fun p hp => (((Below.refl wr.heap.size wr).alloc (Nat.le_refl _) (.cells #[] 3)).cell hp))) (by omega) (by simp) ?_; intro v6 w6 hown6 hg6; simp only [Nat.zero_add, List.nil_append] at hown6; obtain ⟨A6, c6, rfl⟩ := own_shape' hown6; have hM6 := moved_fresh hg6; obtain ⟨vss, hv1, hv2⟩ := HREL.out.push HROW.out hM6 hown6 (Nat.le_refl _) (.cells #[.slice A6 x.frm.length c6] 22); have HV1 := Lib.hid hv1; have HV2 := Lib.hid hv2; have hz6 := hM6.size; clear hown6 hg6 hM6 hv1 hv2) | (at_builtin; refine wpList_append_own_at _ rfl _ _ 113 rfl (w.heap.size + 1) 22 i37 (.slice none 0 0) 1 24 Tryz.underlying113 hi' hz0' hz1' hz2' rfl (by decide) _ _ _ rfl HV1.out ⟨w6.heap.size, 0, none⟩ 1 1 [.slice A6 x.frm.length c6] rfl rfl (cells_new w6 w6.heap.size rfl _ 22) (by intro u hu; simp at hu; rcases hu with rfl; rfl) (by unfold maxLen; omega) (by omega) (by simp; omega) ?_; intro v7 w7 hown7 hg7 _ hob7; have hfin := HV2.out _ _ hown7 hg7 hob7; obtain ⟨A7, c7, rfl⟩ := own_shape' hown7; have HFIN := Lib.hid hfin; clear hown7 hg7 hob7 hfin))
      go_roundw
      case measure => simp [intOf]; omega
      case rel => exact ⟨k + 1, _, _, _, hlt, by go_num, rfl, HFIN.out⟩
    · obtain rfl : k = s.clks.length := by omega
      go_wp2
      go_ret
      have hd := HREL.out
      rw [← HRL.out] at hd
      obtain ⟨A, c, e, hr, hb⟩ := hd.done
      exact ⟨A, c, by rw [e]; rfl, hr, hb⟩

set_option maxRecDepth 100000 in
set_option maxHeartbeats 4000000 in
theorem rneeds_any (s : Chip) (vs : List Value) (w : World) (hok : ChipOk s) (h : ChipV w w.heap.size s vs) : Calls Tryz.prog 86 #[.agg vs.toArray] w (RowsNew (devsG s) w) := by
  obtain ⟨A1, c1, A2, c2, A3, c3, A4, c4, rfl, l1, l2, l3, l4, k1, k2, k3, k4⟩ := h
  have HX := Lib.hid k4
  have hn := hok.n4
  have HOK := Lib.hid hok
  obtain ⟨i3, hi, hz0, hz1, hz2⟩ := info_parts Tryz.info3
  obtain ⟨i37, hi', hz0', hz1', hz2'⟩ := info_parts Tryz.info22
  have hst := RowsL.start w [.slice A1 s.clks.length c1, .slice A2 s.doms.length c2, .slice A3 s.rsts.length c3, .slice A4 s.devs.length c4] (devsG s)
  have HST := Lib.hid hst
  have hrl : (devsG s).length = s.devs.length := by simp [devsG]
  have HRL := Lib.hid hrl
  clear k1 k2 k3 k4 hst hrl hok
  go_enter Tryz.func86, Tryz.ntmps86
  go_wp2
  go_loopw [3, 4] (fun v i wr => ∃ (k : Nat) (C : Option Addr) (n d : Nat), k ≤ s.devs.length ∧ i = .int .i64 k ∧ v = .slice C n d ∧ RowsL w wr [.slice A1 s.clks.length c1, .slice A2 s.doms.length c2, .slice A3 s.rsts.length c3, .slice A4 s.devs.length c4] (.slice C n d) (devsG s) k) (fun _ i _ => s.devs.length - (intOf i).toNat)
  case atStart => exact ⟨0, none, 0, 0, Nat.zero_le _, rfl, rfl, HST.out⟩
  case round =>
    obtain ⟨k, C, n, d, hk, rfl, rfl, hrel⟩ := hrel
    have x0 := hrel.box 3 _ rfl
    have HREL := Lib.hid hrel
    have hsz := hrel.size
    clear hrel HST
    by_cases hlt : k < s.devs.length
    · obtain ⟨ad, vs, hA, hab, hV, hAg⟩ := (HREL.out.readsS HX.out).at_ hlt
      obtain ⟨x, hx⟩ : ∃ x, x = s.devs[k] := ⟨_, rfl⟩
      rw [← hx] at hV
      have hxl : x.needs.length ≤ 1000 := (by rw [hx]; exact (HOK.out.devs _ (List.getElem_mem _)).2.1)
      have hrow : (devsG s)[k]? = some x.needs := by unfold devsG; rw [List.getElem?_map, List.getElem?_eq_getElem hlt, ← hx]; rfl
      have HROW := Lib.hid hrow
      clear hrow hx
      obtain ⟨Ar, cr, Af, cf, rfl, hcr, hcf, hRr, hIf⟩ := hV
      have h1 := hAg.at_ 4 rfl
      have HI := Lib.hid ((hIf.more (by omega : w.heap.size ≤ wr.heap.size)))
      have hab' : ad.block < wr.heap.size := by omega
      have h1' := Lib.cell?_alloc_some (Obj.cells #[] 3) h1
      have x0' := Lib.cell?_alloc_some (Obj.cells #[] 3) x0
      clear hAg hIf
      subst hA
      have i0 : (0 : Int) ≤ (k : Int) := by omega
      have i1 : (k : Int) < (s.devs.length : Int) := by omega
      go_wp2_with (first | (at_builtin; refine wpList_append_ints rfl _ _ rfl (wr.heap.size) i3 hi hz0 hz1 hz2 _ 0 [] rfl (World.ownsRow_made wr #[] 0 (Nat.le_refl _) (Nat.zero_le _) (by simp)) Af x.needs.length cf wr.heap.size x.needs rfl rfl (HI.out.keep (fun p hp => (((Below.refl wr.heap.size wr).alloc (Nat.le_refl _) (.cells #[] 3)).cell hp))) (by omega) (by simp) ?_; intro v6 w6 hown6 hg6; simp only [Nat.zero_add, List.nil_append] at hown6; obtain ⟨A6, c6, rfl⟩ := own_shape' hown6; have hM6 := moved_fresh hg6; obtain ⟨vss, hv1, hv2⟩ := HREL.out.push HROW.out hM6 hown6 (Nat.le_refl _) (.cells #[.slice A6 x.needs.length c6] 22); have HV1 := Lib.hid hv1; have HV2 := Lib.hid hv2; have hz6 := hM6.size; clear hown6 hg6 hM6 hv1 hv2) | (at_builtin; refine wpList_append_own_at _ rfl _ _ 113 rfl (w.heap.size + 1) 22 i37 (.slice none 0 0) 1 24 Tryz.underlying113 hi' hz0' hz1' hz2' rfl (by decide) _ _ _ rfl HV1.out ⟨w6.heap.size, 0, none⟩ 1 1 [.slice A6 x.needs.length c6] rfl rfl (cells_new w6 w6.heap.size rfl _ 22) (by intro u hu; simp at hu; rcases hu with rfl; rfl) (by unfold maxLen; omega) (by omega) (by simp; omega) ?_; intro v7 w7 hown7 hg7 _ hob7; have hfin := HV2.out _ _ hown7 hg7 hob7; obtain ⟨A7, c7, rfl⟩ := own_shape' hown7; have HFIN := Lib.hid hfin; clear hown7 hg7 hob7 hfin))
      go_roundw
      case measure => simp [intOf]; omega
      case rel => exact ⟨k + 1, _, _, _, hlt, by go_num, rfl, HFIN.out⟩
    · obtain rfl : k = s.devs.length := by omega
      go_wp2
      go_ret
      have hd := HREL.out
      rw [← HRL.out] at hd
      obtain ⟨A, c, e, hr, hb⟩ := hd.done
      exact ⟨A, c, by rw [e]; rfl, hr, hb⟩

set_option maxRecDepth 100000 in
set_option maxHeartbeats 4000000 in
theorem rdoms_any (s : Chip) (vs : List Value) (w : World) (hok : ChipOk s) (h : ChipV w w.heap.size s vs) : Calls Tryz.prog 85 #[.agg vs.toArray] w (RowsNew (domsG s) w) := by
  obtain ⟨A1, c1, A2, c2, A3, c3, A4, c4, rfl, l1, l2, l3, l4, k1, k2, k3, k4⟩ := h
  have HX := Lib.hid k2
  have hn := hok.n2
  obtain ⟨i3, hi, hz0, hz1, hz2⟩ := info_parts Tryz.info3
  obtain ⟨i37, hi', hz0', hz1', hz2'⟩ := info_parts Tryz.info22
  have hst := RowsL.start w [.slice A1 s.clks.length c1, .slice A2 s.doms.length c2, .slice A3 s.rsts.length c3, .slice A4 s.devs.length c4] (domsG s)
  have HST := Lib.hid hst
  have hrl : (domsG s).length = s.doms.length := by simp [domsG]
  have HRL := Lib.hid hrl
  clear k1 k2 k3 k4 hst hrl hok
  go_enter Tryz.func85, Tryz.ntmps85
  go_wp2
  go_loopw [3, 4] (fun v i wr => ∃ (k : Nat) (C : Option Addr) (n d : Nat), k ≤ s.doms.length ∧ i = .int .i64 k ∧ v = .slice C n d ∧ RowsL w wr [.slice A1 s.clks.length c1, .slice A2 s.doms.length c2, .slice A3 s.rsts.length c3, .slice A4 s.devs.length c4] (.slice C n d) (domsG s) k) (fun _ i _ => s.doms.length - (intOf i).toNat)
  case atStart => exact ⟨0, none, 0, 0, Nat.zero_le _, rfl, rfl, HST.out⟩
  case round =>
    obtain ⟨k, C, n, d, hk, rfl, rfl, hrel⟩ := hrel
    have x0 := hrel.box 1 _ rfl
    have HREL := Lib.hid hrel
    have hsz := hrel.size
    clear hrel HST
    by_cases hlt : k < s.doms.length
    · obtain ⟨ad, vs, hA, hab, hV, hAg⟩ := (HREL.out.readsS HX.out).at_ hlt
      obtain ⟨x, hx⟩ : ∃ x, x = s.doms[k] := ⟨_, rfl⟩
      rw [← hx] at hV
      have hV' : vs = _ := hV
      subst hV'
      have hrow : (domsG s)[k]? = some (if x.above = -1 then [] else [x.above]) := by unfold domsG; rw [List.getElem?_map, List.getElem?_eq_getElem hlt, ← hx]; rfl
      have h1 := hAg.zero
      have hab' : ad.block < wr.heap.size := by omega
      clear hAg hx
      subst hA
      have i0 : (0 : Int) ≤ (k : Int) := by omega
      have i1 : (k : Int) < (s.doms.length : Int) := by omega
      by_cases ha : x.above = -1
      · rw [if_pos ha] at hrow
        obtain ⟨vss, hv1, hv2⟩ := HREL.out.push hrow (Moved.refl [] wr) (World.ownsRow_nil wr wr.heap.size 3 1) (Nat.le_refl _) (.cells #[.slice none 0 0] 22)
        have HV1 := Lib.hid hv1
        have HV2 := Lib.hid hv2
        clear hv1 hv2 hrow
        go_wp2_with (at_builtin; refine wpList_append_own_at _ rfl _ _ 113 rfl (w.heap.size + 1) 22 i37 (.slice none 0 0) 1 24 Tryz.underlying113 hi' hz0' hz1' hz2' rfl (by decide) _ _ _ rfl HV1.out ⟨wr.heap.size, 0, none⟩ 1 1 [.slice none 0 0] rfl rfl (cells_new wr wr.heap.size rfl _ 22) (by intro u hu; simp at hu; rcases hu with rfl; rfl) (by unfold maxLen; omega) (by omega) (by simp; omega) ?_; intro v7 w7 hown7 hg7 _ hob7; have hfin := HV2.out _ _ hown7 hg7 hob7; obtain ⟨A7, c7, rfl⟩ := own_shape' hown7; have HFIN := Lib.hid hfin; clear hown7 hg7 hob7 hfin)
        go_roundw
        case measure => simp [intOf]; omega
        case rel => exact ⟨k + 1, _, _, _, hlt, by go_num, rfl, HFIN.out⟩
      · rw [if_neg ha] at hrow
        have HROW := Lib.hid hrow
        have h1' := Lib.cell?_alloc_some (Obj.cells #[.int .i64 x.above] 3) h1
        have x0' := Lib.cell?_alloc_some (Obj.cells #[.int .i64 x.above] 3) x0
        have hne : (x.above == -1) = false := by simpa using ha
        have hne' : (x.above != -1) = true := by simpa using ha
        clear hrow
        go_wp2_with (first | (at_builtin; refine wpList_append_own_at _ rfl _ _ 22 rfl wr.heap.size 3 i3 (.int .i64 0) 1 8 Tryz.underlying22 hi hz0 hz1 hz2 rfl (by decide) _ 0 [] rfl (World.ownsRow_nil _ _ _ _) ⟨wr.heap.size, 0, none⟩ 1 1 [.int .i64 x.above] rfl rfl (cells_new wr wr.heap.size rfl _ 3) (by intro u hu; simp at hu; rcases hu with rfl; rfl) (by unfold maxLen; omega) (by omega) (by simp) ?_; intro v6 w6 hown6 hg6 _ hob6; obtain ⟨A6, c6, rfl⟩ := own_shape' hown6; have hM6 : Moved [] wr w6 := (Moved.alloc wr _).trans (Moved.of_grown hg6 (fun b hb => by cases hb)); obtain ⟨vss, hv1, hv2⟩ := HREL.out.push HROW.out hM6 hown6 (Nat.le_refl _) (.cells #[.slice A6 1 c6] 22); have HV1 := Lib.hid hv1; have HV2 := Lib.hid hv2; have hz6 := hM6.size; clear hown6 hg6 hM6 hv1 hv2 hob6) | (at_builtin; refine wpList_append_own_at _ rfl _ _ 113 rfl (w.heap.size + 1) 22 i37 (.slice none 0 0) 1 24 Tryz.underlying113 hi' hz0' hz1' hz2' rfl (by decide) _ _ _ rfl HV1.out ⟨w6.heap.size, 0, none⟩ 1 1 [.slice A6 1 c6] rfl rfl (cells_new w6 w6.heap.size rfl _ 22) (by intro u hu; simp at hu; rcases hu with rfl; rfl) (by unfold maxLen; omega) (by omega) (by simp; omega) ?_; intro v7 w7 hown7 hg7 _ hob7; have hfin := HV2.out _ _ hown7 hg7 hob7; obtain ⟨A7, c7, rfl⟩ := own_shape' hown7; have HFIN := Lib.hid hfin; clear hown7 hg7 hob7 hfin))
        go_roundw
        case measure => simp [intOf]; omega
        case rel => exact ⟨k + 1, _, _, _, hlt, by go_num, rfl, HFIN.out⟩
    · obtain rfl : k = s.doms.length := by omega
      go_wp2
      go_ret
      have hd := HREL.out
      rw [← HRL.out] at hd
      obtain ⟨A, c, e, hr, hb⟩ := hd.done
      exact ⟨A, c, by rw [e]; rfl, hr, hb⟩
end

section
set_option linter.unusedSimpArgs false
set_option linter.unusedVariables false
open Go.RowKit Go.Maps

theorem rwithin_any (n a b : Int) (w : World) : Calls Tryz.prog 54 #[.int .i64 n, .int .i64 a, .int .i64 b] w fun e w' => e = .returned (.bool (betw n a b)) ∧ w = w' := by
  by_cases h0 : a ≤ n
  · have h0' : decide (a ≤ n) = true := by simpa using h0
    by_cases h1 : n ≤ b
    · have h1' : decide (n ≤ b) = true := by simpa using h1
      have hm := betw_yes h0 h1
      go_enter Tryz.func54, Tryz.ntmps54
      go_wp2
      go_ret
      exact ⟨by first | rfl | exact ret_bool hm.symm, rfl⟩
    · have h1' : decide (n ≤ b) = false := by simpa using h1
      have hm := betw_no (n := n) (a := a) (b := b) (.inr (by omega))
      go_enter Tryz.func54, Tryz.ntmps54
      go_wp2
      go_ret
      exact ⟨by first | rfl | exact ret_bool hm.symm, rfl⟩
  · have h0' : decide (a ≤ n) = false := by simpa using h0
    have hm := betw_no (n := n) (a := a) (b := b) (.inl (by omega))
    go_enter Tryz.func54, Tryz.ntmps54
    go_wp2
    go_ret
    exact ⟨by first | rfl | exact ret_bool hm.symm, rfl⟩
theorem rin_any (v : Int) (n : Nat) (w : World) : Calls Tryz.prog 84 #[.int .i64 v, .int .i64 (n : Int)] w fun e w' => e = .returned (.bool (betw v 0 ((n : Int) - 1))) ∧ w = w' := by
  by_cases h0 : 0 ≤ v
  · have h0' : decide (0 ≤ v) = true := by simpa using h0
    by_cases h1 : v < (n : Int)
    · have h1' : decide (v < (n : Int)) = true := by simpa using h1
      have hm := betw_yes (n := v) (a := 0) (b := (n : Int) - 1) h0 (by omega)
      go_enter Tryz.func84, Tryz.ntmps84
      go_wp2
      go_ret
      exact ⟨by first | rfl | exact ret_bool hm.symm, rfl⟩
    · have h1' : decide (v < (n : Int)) = false := by simpa using h1
      have hm := betw_no (n := v) (a := 0) (b := (n : Int) - 1) (.inr (by omega))
      go_enter Tryz.func84, Tryz.ntmps84
      go_wp2
      go_ret
      exact ⟨by first | rfl | exact ret_bool hm.symm, rfl⟩
  · have h0' : decide (0 ≤ v) = false := by simpa using h0
    have hm := betw_no (n := v) (a := 0) (b := (n : Int) - 1) (.inl (by omega))
    go_enter Tryz.func84, Tryz.ntmps84
    go_wp2
    go_ret
    exact ⟨by first | rfl | exact ret_bool hm.symm, rfl⟩

set_option maxRecDepth 100000 in
theorem lit104 (T : Nat → Value) : listT T 104 = List.toArray (T 0 :: T 1 :: T 2 :: T 3 :: T 4 :: T 5 :: T 6 :: T 7 :: T 8 :: T 9 :: T 10 :: T 11 :: T 12 :: T 13 :: T 14 :: T 15 :: T 16 :: T 17 :: T 18 :: T 19 :: T 20 :: T 21 :: T 22 :: T 23 :: T 24 :: T 25 :: T 26 :: T 27 :: T 28 :: T 29 :: T 30 :: T 31 :: T 32 :: T 33 :: T 34 :: T 35 :: T 36 :: T 37 :: T 38 :: T 39 :: T 40 :: T 41 :: T 42 :: T 43 :: T 44 :: T 45 :: T 46 :: T 47 :: T 48 :: T 49 :: T 50 :: T 51 :: T 52 :: T 53 :: T 54 :: T 55 :: T 56 :: T 57 :: T 58 :: T 59 :: T 60 :: T 61 :: T 62 :: T 63 :: T 64 :: T 65 :: T 66 :: T 67 :: T 68 :: T 69 :: T 70 :: T 71 :: T 72 :: T 73 :: T 74 :: T 75 :: T 76 :: T 77 :: T 78 :: T 79 :: T 80 :: T 81 :: T 82 :: T 83 :: T 84 :: T 85 :: T 86 :: T 87 :: T 88 :: T 89 :: T 90 :: T 91 :: T 92 :: T 93 :: T 94 :: T 95 :: T 96 :: T 97 :: T 98 :: T 99 :: T 100 :: T 101 :: T 102 :: T 103 :: []) := rfl
noncomputable def rcBody : Code := Tryz.f81.body.getD .skip
noncomputable def rcRest : Code := tlC (tlC (tlC (tlC rcBody)))
noncomputable def rcRange : Code := tlC rcRest
/-- a clock's box -/
def cv (x : Clk) (A : Option Addr) (c : Nat) : List Value := [.int .u8 x.kind, .slice A x.frm.length c, .int .u64 x.rate, .int .i64 x.mul, .int .i64 x.div, .int .i64 x.lock]

set_option maxRecDepth 1000000 in
set_option maxHeartbeats 8000000 in
theorem rcRange_any (w W : World) (g : Nat) (x : Clk) (A : Option Addr) (c : Nat) (hb : BoxAt W g (cv x A c)) (hj : joinedB x = true) (hbl : Below w.heap.size w W)
    (a : Act) (ha : FrN 104 a) (h2 : slT a 2 = .pointer (some ⟨g, 0, none⟩)) : Code.wp Tryz.prog rcRange (bodyPost Tryz.prog Tryz.f81 (ErrIs (if rangeB x then 0 else 3) w)) a W := by
  obtain ⟨kd, frm, rate, mul, dv, lock⟩ := x
  obtain ⟨x0, -⟩ := hb 0 _ rfl
  obtain ⟨x2, -⟩ := hb 2 _ rfl
  obtain ⟨x3, -⟩ := hb 3 _ rfl
  obtain ⟨x4, -⟩ := hb 4 _ rfl
  obtain ⟨x5, -⟩ := hb 5 _ rfl
  have HBL := Lib.hid hbl
  clear hb hbl
  obtain ⟨F, rfl⟩ := ha.open_
  rw [slT_listT (by omega)] at h2
  rw [lit104, h2]
  clear ha h2
  simp only at x0 x2 x3 x4 x5
  by_cases k1 : kd = 111
  · subst k1
    clear hj
    have hr : rangeB ⟨111, frm, rate, mul, dv, lock⟩ = betw rate 1 1099511627776 := by simp [rangeB]
    rw [hr]
    by_cases q1 : rate < 1
    · have q1' : decide (rate < 1) = true := by simpa using q1
      rw [betw_no (.inl (by omega))]
      conv => arg 2; whnf
      go_wp2
      go_ret
      exact ⟨rfl, HBL.out⟩
    · have q1' : decide (rate < 1) = false := by simpa using q1
      by_cases q2 : 1099511627776 < rate
      · have q2' : decide (1099511627776 < rate) = true := by simpa using q2
        rw [betw_no (.inr (by omega))]
        conv => arg 2; whnf
        go_wp2
        go_ret
        exact ⟨rfl, HBL.out⟩
      · have q2' : decide (1099511627776 < rate) = false := by simpa using q2
        rw [betw_yes (by omega) (by omega)]
        conv => arg 2; whnf
        go_wp2
        go_ret
        exact ⟨rfl, HBL.out⟩
  by_cases k2 : kd = 112
  · subst k2
    clear hj k1
    have hr : rangeB ⟨112, frm, rate, mul, dv, lock⟩ = (betw mul 1 1000 && betw dv 1 1000 && betw lock 0 20) := by simp [rangeB]
    rw [hr]
    cases q1 : betw mul 1 1000 with
    | false =>
      have Q1 := Lib.hid q1
      clear q1
      conv => arg 2; whnf
      go_wp2_with fail
      refine (rwithin_any _ _ _ _).mono ?_
      rintro e w' ⟨rfl, rfl⟩
      rw [Q1.out]
      go_wp2
      go_ret
      exact ⟨rfl, HBL.out⟩
    | true =>
      have Q1 := Lib.hid q1
      clear q1
      cases q2 : betw dv 1 1000 with
      | false =>
        have Q2 := Lib.hid q2
        clear q2
        conv => arg 2; whnf
        go_wp2_with fail
        refine (rwithin_any _ _ _ _).mono ?_
        rintro e w' ⟨rfl, rfl⟩
        rw [Q1.out]
        go_wp2_with fail
        refine (rwithin_any _ _ _ _).mono ?_
        rintro e w' ⟨rfl, rfl⟩
        rw [Q2.out]
        go_wp2
        go_ret
        exact ⟨rfl, HBL.out⟩
      | true =>
        have Q2 := Lib.hid q2
        clear q2
        cases q3 : betw lock 0 20 with
        | false =>
          have Q3 := Lib.hid q3
          clear q3
          conv => arg 2; whnf
          go_wp2_with fail
          refine (rwithin_any _ _ _ _).mono ?_
          rintro e w' ⟨rfl, rfl⟩
          rw [Q1.out]
          go_wp2_with fail
          refine (rwithin_any _ _ _ _).mono ?_
          rintro e w' ⟨rfl, rfl⟩
          rw [Q2.out]
          go_wp2_with fail
          refine (rwithin_any _ _ _ _).mono ?_
          rintro e w' ⟨rfl, rfl⟩
          rw [Q3.out]
          go_wp2
          go_ret
          exact ⟨rfl, HBL.out⟩
        | true =>
          have Q3 := Lib.hid q3
          clear q3
          conv => arg 2; whnf
          go_wp2_with fail
          refine (rwithin_any _ _ _ _).mono ?_
          rintro e w' ⟨rfl, rfl⟩
          rw [Q1.out]
          go_wp2_with fail
          refine (rwithin_any _ _ _ _).mono ?_
          rintro e w' ⟨rfl, rfl⟩
          rw [Q2.out]
          go_wp2_with fail
          refine (rwithin_any _ _ _ _).mono ?_
          rintro e w' ⟨rfl, rfl⟩
          rw [Q3.out]
          go_wp2
          go_ret
          exact ⟨rfl, HBL.out⟩
  have k1' : (kd == 111) = false := by simpa using k1
  have k2' : (kd == 112) = false := by simpa using k2
  by_cases k3 : kd = 100
  · subst k3
    clear hj k1 k2 k1' k2'
    have hr : rangeB ⟨100, frm, rate, mul, dv, lock⟩ = betw dv 1 1000 := by simp [rangeB]
    rw [hr]
    cases q1 : betw dv 1 1000 with
    | false =>
      have Q1 := Lib.hid q1
      clear q1
      conv => arg 2; whnf
      go_wp2_with fail
      refine (rwithin_any _ _ _ _).mono ?_
      rintro e w' ⟨rfl, rfl⟩
      rw [Q1.out]
      go_wp2
      go_ret
      exact ⟨rfl, HBL.out⟩
    | true =>
      have Q1 := Lib.hid q1
      clear q1
      conv => arg 2; whnf
      go_wp2_with fail
      refine (rwithin_any _ _ _ _).mono ?_
      rintro e w' ⟨rfl, rfl⟩
      rw [Q1.out]
      go_wp2
      go_ret
      exact ⟨rfl, HBL.out⟩
  have k3' : (kd == 100) = false := by simpa using k3
  have hr : rangeB ⟨kd, frm, rate, mul, dv, lock⟩ = true := by simp [rangeB, k1, k2, k3]
  rw [hr]
  clear hr hj k1 k2 k3
  conv => arg 2; whnf
  go_wp2
  go_ret
  exact ⟨rfl, HBL.out⟩
end

section
set_option linter.unusedSimpArgs false
set_option linter.unusedVariables false
open Go.RowKit Go.Maps

theorem nodes_take {n : Nat} {xs : List Int} {k : Nat} {y : Int} (h : xs[k]? = some y) (ht : nodesB n (xs.take k) = true) : nodesB n (xs.take (k + 1)) = betw y 0 ((n : Int) - 1) := by
  unfold nodesB at ht ⊢
  rw [List.take_add_one, h, List.all_append, ht]
  simp
theorem nodes_no {n : Nat} {xs : List Int} {y : Int} (h : y ∈ xs) (hy : betw y 0 ((n : Int) - 1) = false) : nodesB n xs = false := by
  unfold nodesB
  rw [List.all_eq_false]
  exact ⟨y, h, by simp [hy]⟩

noncomputable def rcB3 : Code := tlC (tlC (tlC rcBody))
def IRc (W0 : World) (g n : Nat) (x : Clk) (a : Act) (W : World) : Prop :=
  ∃ k : Nat, k ≤ x.frm.length ∧ W0 = W ∧ FrN 104 a ∧ slT a 1 = .int .i64 (n : Nat) ∧ slT a 2 = .pointer (some ⟨g, 0, none⟩) ∧ slT a 5 = .int .i64 (x.frm.length : Nat) ∧ slT a 7 = .int .i64 (k : Nat) ∧ nodesB n (x.frm.take k) = true
def MRc (x : Clk) (a : Act) (_ : World) : Nat := x.frm.length - (intOf (slT a 7)).toNat
set_option maxRecDepth 1000000 in
set_option maxHeartbeats 8000000 in
theorem rcRest_any (w W : World) (g n : Nat) (x : Clk) (A : Option Addr) (c : Nat) (hb : BoxAt W g (cv x A c)) (hj : joinedB x = true) (hl : x.frm.length ≤ 1000) (hi : IntsAt W W.heap.size A x.frm) (hbl : Below w.heap.size w W) (E : Int) (hE : (if nodesB n x.frm then (if rangeB x then 0 else 3) else 4) = E)
    (a : Act) (ha : FrN 104 a) (h1 : slT a 1 = .int .i64 (n : Nat)) (h2 : slT a 2 = .pointer (some ⟨g, 0, none⟩)) (h5 : slT a 5 = .int .i64 (x.frm.length : Nat)) (h6 : slT a 6 = .bool true) : Code.wp Tryz.prog rcB3 (bodyPost Tryz.prog Tryz.f81 (ErrIs E w)) a W := by
  have HB := Lib.hid hb
  have HE : RowKit.Hid ((if nodesB n x.frm then (if rangeB x then 0 else 3) else 4) = E) := hE
  have HJ := Lib.hid hj
  have HI := Lib.hid hi
  have HBL := Lib.hid hbl
  have x1 : W.cell? ⟨g, 1, none⟩ = some (.slice A x.frm.length c) := (hb 1 _ rfl).1
  clear hb hj hi hbl hE
  obtain ⟨F, rfl⟩ := ha.open_
  rw [slT_listT (by omega)] at h1 h2 h5 h6
  rw [lit104, h1, h2, h5, h6]
  clear ha h1 h2 h5 h6
  conv => arg 2; whnf
  go_upto_region 10 with fail
  rename_i K hK
  have HK := Lib.hid hK
  clear hK
  go_wp2
  refine wp_loop (IRc W g n x) (MRc x) ⟨0, Nat.zero_le _, rfl, ⟨rfl, rfl⟩, rfl, rfl, rfl, rfl, by simp [nodesB]⟩ ?_
  clear F
  rintro a1 W1 ⟨k, hk, rfl, hF, q1, q2, q5, q7, hnd⟩
  have HND := Lib.hid hnd
  have hme : MRc x a1 W = x.frm.length - k := by unfold MRc; rw [q7]; simp [intOf]
  rw [hme]
  obtain ⟨F, rfl⟩ := hF.open_
  rw [slT_listT (by omega)] at q1 q2 q5 q7
  rw [lit104, q1, q2, q5, q7]
  clear hF q1 q2 q5 q7 hnd hme
  by_cases hlt : k < x.frm.length
  · have hz := List.getElem?_eq_getElem hlt
    generalize x.frm[k] = y at hz
    obtain ⟨ad, rfl, -, hat⟩ := HI.out (by omega)
    have hy := hat k y hz
    have HZ := Lib.hid hz
    have i0 : (0 : Int) ≤ (k : Int) := by omega
    have i1 : (k : Int) < (x.frm.length : Int) := by omega
    clear hat hz
    cases q : betw y 0 ((n : Int) - 1) with
    | true =>
      have Q := Lib.hid q
      clear q
      go_wp2_with fail
      refine (rin_any _ _ _).mono ?_
      rintro e w' ⟨rfl, rfl⟩
      rw [Q.out]
      go_wp2
      refine ⟨⟨k + 1, hlt, rfl, ⟨rfl, rfl⟩, rfl, rfl, rfl, by go_num, by rw [nodes_take HZ.out HND.out]; exact Q.out⟩, ?_⟩
      show x.frm.length - (intOf (.int .i64 ((k : Int) + 1))).toNat < _
      simp [intOf]
      omega
    | false =>
      have Q := Lib.hid q
      clear q
      go_wp2_with fail
      refine (rin_any _ _ _).mono ?_
      rintro e w' ⟨rfl, rfl⟩
      rw [Q.out]
      go_wp2
      go_ret
      refine ⟨?_, HBL.out⟩
      rw [← HE.out, nodes_no (List.mem_of_getElem? HZ.out) Q.out]
      rfl
  · obtain rfl : k = x.frm.length := by omega
    have hall := HND.out
    rw [List.take_length] at hall
    have HALL := Lib.hid hall
    clear hall
    go_wp2
    refine HK.out _ _ ?_
    rw [← HE.out, HALL.out]
    exact rcRange_any w W g x A c HB.out HJ.out HBL.out _ ⟨rfl, rfl⟩ rfl
def jf (x : Clk) (n : Nat) : Int := if joinedB x then (if nodesB n x.frm then (if rangeB x then 0 else 3) else 4) else 1
theorem jf_eq (n : Nat) (x : Clk) : jf x n = clkE n x := by
  unfold jf clkE
  cases joinedB x <;> cases nodesB n x.frm <;> cases rangeB x <;> simp [firstE_cons, firstE_nil, orE]

set_option maxRecDepth 1000000 in
set_option maxHeartbeats 8000000 in
theorem rc_o1 (_kd : Int) (frm : List Int) (rate mul dv lock : Int) (A : Option Addr) (c m n : Nat) (w : World) (E : Int) (hm : m = frm.length) (hl : m ≤ 1000) (hi : IntsAt w w.heap.size A frm) (hE : jf ⟨111, frm, rate, mul, dv, lock⟩ n = E) (hj : joinedB ⟨111, frm, rate, mul, dv, lock⟩ = true) (h0 : ((m : Int) == 0) = true) :
    Calls Tryz.prog 81 #[.agg #[.int .u8 111, .slice A m c, .int .u64 rate, .int .i64 mul, .int .i64 dv, .int .i64 lock], .int .i64 (n : Nat)] w (ErrIs E w) := by
  have hba := (Below.refl w.heap.size w).alloc (Nat.le_refl _) (.cells #[.int .u8 111, .slice A m c, .int .u64 rate, .int .i64 mul, .int .i64 dv, .int .i64 lock] 61)
  have hi' : IntsAt (w.alloc (.cells #[.int .u8 111, .slice A m c, .int .u64 rate, .int .i64 mul, .int .i64 dv, .int .i64 lock] 61)) (w.alloc (.cells #[.int .u8 111, .slice A m c, .int .u64 rate, .int .i64 mul, .int .i64 dv, .int .i64 lock] 61)).heap.size A frm := (hi.below hba (Nat.le_refl _)).more hba.size
  have hbx := BoxAt.new w [.int .u8 111, .slice A m c, .int .u64 rate, .int .i64 mul, .int .i64 dv, .int .i64 lock] 61
  have HI := Lib.hid hi'
  have HBX := Lib.hid hbx
  have HBA := Lib.hid hba
  have HM := Lib.hid hm
  have HJ : RowKit.Hid (joinedB ⟨111, frm, rate, mul, dv, lock⟩ = true) := hj
  have HE : RowKit.Hid (jf ⟨111, frm, rate, mul, dv, lock⟩ n = E) := hE
  clear hi hi' hbx hba hm hj hE
  go_enter Tryz.func81, Tryz.ntmps81
  go_upto_region 2 with fail
  rename_i K hK
  have HK := Lib.hid hK
  clear hK
  go_wp2
  refine HK.out _ _ ?_
  have hE' := HE.out
  unfold jf at hE'
  rw [HJ.out, if_pos rfl] at hE'
  refine rcRest_any w _ w.heap.size n ⟨111, frm, rate, mul, dv, lock⟩ A c (by show BoxAt _ _ [_, .slice A frm.length c, _, _, _, _]; rw [← HM.out]; exact HBX.out) HJ.out (by show frm.length ≤ 1000; rw [← HM.out]; exact hl) HI.out HBA.out E hE' _ ⟨rfl, rfl⟩ rfl rfl ?_ rfl
  show Value.int .i64 (m : Int) = Value.int .i64 (frm.length : Int)
  rw [← HM.out]
set_option maxRecDepth 1000000 in
set_option maxHeartbeats 8000000 in
theorem rc_o0 (_kd : Int) (frm : List Int) (rate mul dv lock : Int) (A : Option Addr) (c m n : Nat) (w : World) (E : Int) (hm : m = frm.length) (hl : m ≤ 1000) (hi : IntsAt w w.heap.size A frm) (hE : jf ⟨111, frm, rate, mul, dv, lock⟩ n = E) (hj : joinedB ⟨111, frm, rate, mul, dv, lock⟩ = false) (h0 : ((m : Int) == 0) = false) :
    Calls Tryz.prog 81 #[.agg #[.int .u8 111, .slice A m c, .int .u64 rate, .int .i64 mul, .int .i64 dv, .int .i64 lock], .int .i64 (n : Nat)] w (ErrIs E w) := by
  have hba := (Below.refl w.heap.size w).alloc (Nat.le_refl _) (.cells #[.int .u8 111, .slice A m c, .int .u64 rate, .int .i64 mul, .int .i64 dv, .int .i64 lock] 61)
  have hi' : IntsAt (w.alloc (.cells #[.int .u8 111, .slice A m c, .int .u64 rate, .int .i64 mul, .int .i64 dv, .int .i64 lock] 61)) (w.alloc (.cells #[.int .u8 111, .slice A m c, .int .u64 rate, .int .i64 mul, .int .i64 dv, .int .i64 lock] 61)).heap.size A frm := (hi.below hba (Nat.le_refl _)).more hba.size
  have hbx := BoxAt.new w [.int .u8 111, .slice A m c, .int .u64 rate, .int .i64 mul, .int .i64 dv, .int .i64 lock] 61
  have HI := Lib.hid hi'
  have HBX := Lib.hid hbx
  have HBA := Lib.hid hba
  have HM := Lib.hid hm
  have HJ : RowKit.Hid (joinedB ⟨111, frm, rate, mul, dv, lock⟩ = false) := hj
  have HE : RowKit.Hid (jf ⟨111, frm, rate, mul, dv, lock⟩ n = E) := hE
  clear hi hi' hbx hba hm hj hE
  go_enter Tryz.func81, Tryz.ntmps81
  go_wp2
  go_ret
  have hE' := HE.out
  unfold jf at hE'
  rw [HJ.out, if_neg (by decide)] at hE'
  exact ⟨by rw [← hE']; rfl, HBA.out⟩
set_option maxRecDepth 1000000 in
set_option maxHeartbeats 8000000 in
theorem rc_1121 (_kd : Int) (frm : List Int) (rate mul dv lock : Int) (A : Option Addr) (c m n : Nat) (w : World) (E : Int) (hm : m = frm.length) (hl : m ≤ 1000) (hi : IntsAt w w.heap.size A frm) (hE : jf ⟨112, frm, rate, mul, dv, lock⟩ n = E) (hj : joinedB ⟨112, frm, rate, mul, dv, lock⟩ = true) (h0 : ((m : Int) == 1) = true) :
    Calls Tryz.prog 81 #[.agg #[.int .u8 112, .slice A m c, .int .u64 rate, .int .i64 mul, .int .i64 dv, .int .i64 lock], .int .i64 (n : Nat)] w (ErrIs E w) := by
  have hba := (Below.refl w.heap.size w).alloc (Nat.le_refl _) (.cells #[.int .u8 112, .slice A m c, .int .u64 rate, .int .i64 mul, .int .i64 dv, .int .i64 lock] 61)
  have hi' : IntsAt (w.alloc (.cells #[.int .u8 112, .slice A m c, .int .u64 rate, .int .i64 mul, .int .i64 dv, .int .i64 lock] 61)) (w.alloc (.cells #[.int .u8 112, .slice A m c, .int .u64 rate, .int .i64 mul, .int .i64 dv, .int .i64 lock] 61)).heap.size A frm := (hi.below hba (Nat.le_refl _)).more hba.size
  have hbx := BoxAt.new w [.int .u8 112, .slice A m c, .int .u64 rate, .int .i64 mul, .int .i64 dv, .int .i64 lock] 61
  have HI := Lib.hid hi'
  have HBX := Lib.hid hbx
  have HBA := Lib.hid hba
  have HM := Lib.hid hm
  have HJ : RowKit.Hid (joinedB ⟨112, frm, rate, mul, dv, lock⟩ = true) := hj
  have HE : RowKit.Hid (jf ⟨112, frm, rate, mul, dv, lock⟩ n = E) := hE
  clear hi hi' hbx hba hm hj hE
  go_enter Tryz.func81, Tryz.ntmps81
  go_upto_region 2 with fail
  rename_i K hK
  have HK := Lib.hid hK
  clear hK
  go_wp2
  refine HK.out _ _ ?_
  have hE' := HE.out
  unfold jf at hE'
  rw [HJ.out, if_pos rfl] at hE'
  refine rcRest_any w _ w.heap.size n ⟨112, frm, rate, mul, dv, lock⟩ A c (by show BoxAt _ _ [_, .slice A frm.length c, _, _, _, _]; rw [← HM.out]; exact HBX.out) HJ.out (by show frm.length ≤ 1000; rw [← HM.out]; exact hl) HI.out HBA.out E hE' _ ⟨rfl, rfl⟩ rfl rfl ?_ rfl
  show Value.int .i64 (m : Int) = Value.int .i64 (frm.length : Int)
  rw [← HM.out]
set_option maxRecDepth 1000000 in
set_option maxHeartbeats 8000000 in
theorem rc_1120 (_kd : Int) (frm : List Int) (rate mul dv lock : Int) (A : Option Addr) (c m n : Nat) (w : World) (E : Int) (hm : m = frm.length) (hl : m ≤ 1000) (hi : IntsAt w w.heap.size A frm) (hE : jf ⟨112, frm, rate, mul, dv, lock⟩ n = E) (hj : joinedB ⟨112, frm, rate, mul, dv, lock⟩ = false) (h0 : ((m : Int) == 1) = false) :
    Calls Tryz.prog 81 #[.agg #[.int .u8 112, .slice A m c, .int .u64 rate, .int .i64 mul, .int .i64 dv, .int .i64 lock], .int .i64 (n : Nat)] w (ErrIs E w) := by
  have hba := (Below.refl w.heap.size w).alloc (Nat.le_refl _) (.cells #[.int .u8 112, .slice A m c, .int .u64 rate, .int .i64 mul, .int .i64 dv, .int .i64 lock] 61)
  have hi' : IntsAt (w.alloc (.cells #[.int .u8 112, .slice A m c, .int .u64 rate, .int .i64 mul, .int .i64 dv, .int .i64 lock] 61)) (w.alloc (.cells #[.int .u8 112, .slice A m c, .int .u64 rate, .int .i64 mul, .int .i64 dv, .int .i64 lock] 61)).heap.size A frm := (hi.below hba (Nat.le_refl _)).more hba.size
  have hbx := BoxAt.new w [.int .u8 112, .slice A m c, .int .u64 rate, .int .i64 mul, .int .i64 dv, .int .i64 lock] 61
  have HI := Lib.hid hi'
  have HBX := Lib.hid hbx
  have HBA := Lib.hid hba
  have HM := Lib.hid hm
  have HJ : RowKit.Hid (joinedB ⟨112, frm, rate, mul, dv, lock⟩ = false) := hj
  have HE : RowKit.Hid (jf ⟨112, frm, rate, mul, dv, lock⟩ n = E) := hE
  clear hi hi' hbx hba hm hj hE
  go_enter Tryz.func81, Tryz.ntmps81
  go_wp2
  go_ret
  have hE' := HE.out
  unfold jf at hE'
  rw [HJ.out, if_neg (by decide)] at hE'
  exact ⟨by rw [← hE']; rfl, HBA.out⟩
set_option maxRecDepth 1000000 in
set_option maxHeartbeats 8000000 in
theorem rc_1001 (_kd : Int) (frm : List Int) (rate mul dv lock : Int) (A : Option Addr) (c m n : Nat) (w : World) (E : Int) (hm : m = frm.length) (hl : m ≤ 1000) (hi : IntsAt w w.heap.size A frm) (hE : jf ⟨100, frm, rate, mul, dv, lock⟩ n = E) (hj : joinedB ⟨100, frm, rate, mul, dv, lock⟩ = true) (h0 : ((m : Int) == 1) = true) :
    Calls Tryz.prog 81 #[.agg #[.int .u8 100, .slice A m c, .int .u64 rate, .int .i64 mul, .int .i64 dv, .int .i64 lock], .int .i64 (n : Nat)] w (ErrIs E w) := by
  have hba := (Below.refl w.heap.size w).alloc (Nat.le_refl _) (.cells #[.int .u8 100, .slice A m c, .int .u64 rate, .int .i64 mul, .int .i64 dv, .int .i64 lock] 61)
  have hi' : IntsAt (w.alloc (.cells #[.int .u8 100, .slice A m c, .int .u64 rate, .int .i64 mul, .int .i64 dv, .int .i64 lock] 61)) (w.alloc (.cells #[.int .u8 100, .slice A m c, .int .u64 rate, .int .i64 mul, .int .i64 dv, .int .i64 lock] 61)).heap.size A frm := (hi.below hba (Nat.le_refl _)).more hba.size
  have hbx := BoxAt.new w [.int .u8 100, .slice A m c, .int .u64 rate, .int .i64 mul, .int .i64 dv, .int .i64 lock] 61
  have HI := Lib.hid hi'
  have HBX := Lib.hid hbx
  have HBA := Lib.hid hba
  have HM := Lib.hid hm
  have HJ : RowKit.Hid (joinedB ⟨100, frm, rate, mul, dv, lock⟩ = true) := hj
  have HE : RowKit.Hid (jf ⟨100, frm, rate, mul, dv, lock⟩ n = E) := hE
  clear hi hi' hbx hba hm hj hE
  go_enter Tryz.func81, Tryz.ntmps81
  go_upto_region 2 with fail
  rename_i K hK
  have HK := Lib.hid hK
  clear hK
  go_wp2
  refine HK.out _ _ ?_
  have hE' := HE.out
  unfold jf at hE'
  rw [HJ.out, if_pos rfl] at hE'
  refine rcRest_any w _ w.heap.size n ⟨100, frm, rate, mul, dv, lock⟩ A c (by show BoxAt _ _ [_, .slice A frm.length c, _, _, _, _]; rw [← HM.out]; exact HBX.out) HJ.out (by show frm.length ≤ 1000; rw [← HM.out]; exact hl) HI.out HBA.out E hE' _ ⟨rfl, rfl⟩ rfl rfl ?_ rfl
  show Value.int .i64 (m : Int) = Value.int .i64 (frm.length : Int)
  rw [← HM.out]
set_option maxRecDepth 1000000 in
set_option maxHeartbeats 8000000 in
theorem rc_1000 (_kd : Int) (frm : List Int) (rate mul dv lock : Int) (A : Option Addr) (c m n : Nat) (w : World) (E : Int) (hm : m = frm.length) (hl : m ≤ 1000) (hi : IntsAt w w.heap.size A frm) (hE : jf ⟨100, frm, rate, mul, dv, lock⟩ n = E) (hj : joinedB ⟨100, frm, rate, mul, dv, lock⟩ = false) (h0 : ((m : Int) == 1) = false) :
    Calls Tryz.prog 81 #[.agg #[.int .u8 100, .slice A m c, .int .u64 rate, .int .i64 mul, .int .i64 dv, .int .i64 lock], .int .i64 (n : Nat)] w (ErrIs E w) := by
  have hba := (Below.refl w.heap.size w).alloc (Nat.le_refl _) (.cells #[.int .u8 100, .slice A m c, .int .u64 rate, .int .i64 mul, .int .i64 dv, .int .i64 lock] 61)
  have hi' : IntsAt (w.alloc (.cells #[.int .u8 100, .slice A m c, .int .u64 rate, .int .i64 mul, .int .i64 dv, .int .i64 lock] 61)) (w.alloc (.cells #[.int .u8 100, .slice A m c, .int .u64 rate, .int .i64 mul, .int .i64 dv, .int .i64 lock] 61)).heap.size A frm := (hi.below hba (Nat.le_refl _)).more hba.size
  have hbx := BoxAt.new w [.int .u8 100, .slice A m c, .int .u64 rate, .int .i64 mul, .int .i64 dv, .int .i64 lock] 61
  have HI := Lib.hid hi'
  have HBX := Lib.hid hbx
  have HBA := Lib.hid hba
  have HM := Lib.hid hm
  have HJ : RowKit.Hid (joinedB ⟨100, frm, rate, mul, dv, lock⟩ = false) := hj
  have HE : RowKit.Hid (jf ⟨100, frm, rate, mul, dv, lock⟩ n = E) := hE
  clear hi hi' hbx hba hm hj hE
  go_enter Tryz.func81, Tryz.ntmps81
  go_wp2
  go_ret
  have hE' := HE.out
  unfold jf at hE'
  rw [HJ.out, if_neg (by decide)] at hE'
  exact ⟨by rw [← hE']; rfl, HBA.out⟩
set_option maxRecDepth 1000000 in
set_option maxHeartbeats 8000000 in
theorem rc_1031 (_kd : Int) (frm : List Int) (rate mul dv lock : Int) (A : Option Addr) (c m n : Nat) (w : World) (E : Int) (hm : m = frm.length) (hl : m ≤ 1000) (hi : IntsAt w w.heap.size A frm) (hE : jf ⟨103, frm, rate, mul, dv, lock⟩ n = E) (hj : joinedB ⟨103, frm, rate, mul, dv, lock⟩ = true) (h0 : ((m : Int) == 1) = true) :
    Calls Tryz.prog 81 #[.agg #[.int .u8 103, .slice A m c, .int .u64 rate, .int .i64 mul, .int .i64 dv, .int .i64 lock], .int .i64 (n : Nat)] w (ErrIs E w) := by
  have hba := (Below.refl w.heap.size w).alloc (Nat.le_refl _) (.cells #[.int .u8 103, .slice A m c, .int .u64 rate, .int .i64 mul, .int .i64 dv, .int .i64 lock] 61)
  have hi' : IntsAt (w.alloc (.cells #[.int .u8 103, .slice A m c, .int .u64 rate, .int .i64 mul, .int .i64 dv, .int .i64 lock] 61)) (w.alloc (.cells #[.int .u8 103, .slice A m c, .int .u64 rate, .int .i64 mul, .int .i64 dv, .int .i64 lock] 61)).heap.size A frm := (hi.below hba (Nat.le_refl _)).more hba.size
  have hbx := BoxAt.new w [.int .u8 103, .slice A m c, .int .u64 rate, .int .i64 mul, .int .i64 dv, .int .i64 lock] 61
  have HI := Lib.hid hi'
  have HBX := Lib.hid hbx
  have HBA := Lib.hid hba
  have HM := Lib.hid hm
  have HJ : RowKit.Hid (joinedB ⟨103, frm, rate, mul, dv, lock⟩ = true) := hj
  have HE : RowKit.Hid (jf ⟨103, frm, rate, mul, dv, lock⟩ n = E) := hE
  clear hi hi' hbx hba hm hj hE
  go_enter Tryz.func81, Tryz.ntmps81
  go_upto_region 2 with fail
  rename_i K hK
  have HK := Lib.hid hK
  clear hK
  go_wp2
  refine HK.out _ _ ?_
  have hE' := HE.out
  unfold jf at hE'
  rw [HJ.out, if_pos rfl] at hE'
  refine rcRest_any w _ w.heap.size n ⟨103, frm, rate, mul, dv, lock⟩ A c (by show BoxAt _ _ [_, .slice A frm.length c, _, _, _, _]; rw [← HM.out]; exact HBX.out) HJ.out (by show frm.length ≤ 1000; rw [← HM.out]; exact hl) HI.out HBA.out E hE' _ ⟨rfl, rfl⟩ rfl rfl ?_ rfl
  show Value.int .i64 (m : Int) = Value.int .i64 (frm.length : Int)
  rw [← HM.out]
set_option maxRecDepth 1000000 in
set_option maxHeartbeats 8000000 in
theorem rc_1030 (_kd : Int) (frm : List Int) (rate mul dv lock : Int) (A : Option Addr) (c m n : Nat) (w : World) (E : Int) (hm : m = frm.length) (hl : m ≤ 1000) (hi : IntsAt w w.heap.size A frm) (hE : jf ⟨103, frm, rate, mul, dv, lock⟩ n = E) (hj : joinedB ⟨103, frm, rate, mul, dv, lock⟩ = false) (h0 : ((m : Int) == 1) = false) :
    Calls Tryz.prog 81 #[.agg #[.int .u8 103, .slice A m c, .int .u64 rate, .int .i64 mul, .int .i64 dv, .int .i64 lock], .int .i64 (n : Nat)] w (ErrIs E w) := by
  have hba := (Below.refl w.heap.size w).alloc (Nat.le_refl _) (.cells #[.int .u8 103, .slice A m c, .int .u64 rate, .int .i64 mul, .int .i64 dv, .int .i64 lock] 61)
  have hi' : IntsAt (w.alloc (.cells #[.int .u8 103, .slice A m c, .int .u64 rate, .int .i64 mul, .int .i64 dv, .int .i64 lock] 61)) (w.alloc (.cells #[.int .u8 103, .slice A m c, .int .u64 rate, .int .i64 mul, .int .i64 dv, .int .i64 lock] 61)).heap.size A frm := (hi.below hba (Nat.le_refl _)).more hba.size
  have hbx := BoxAt.new w [.int .u8 103, .slice A m c, .int .u64 rate, .int .i64 mul, .int .i64 dv, .int .i64 lock] 61
  have HI := Lib.hid hi'
  have HBX := Lib.hid hbx
  have HBA := Lib.hid hba
  have HM := Lib.hid hm
  have HJ : RowKit.Hid (joinedB ⟨103, frm, rate, mul, dv, lock⟩ = false) := hj
  have HE : RowKit.Hid (jf ⟨103, frm, rate, mul, dv, lock⟩ n = E) := hE
  clear hi hi' hbx hba hm hj hE
  go_enter Tryz.func81, Tryz.ntmps81
  go_wp2
  go_ret
  have hE' := HE.out
  unfold jf at hE'
  rw [HJ.out, if_neg (by decide)] at hE'
  exact ⟨by rw [← hE']; rfl, HBA.out⟩
set_option maxRecDepth 1000000 in
set_option maxHeartbeats 8000000 in
theorem rc_m1 (_kd : Int) (frm : List Int) (rate mul dv lock : Int) (A : Option Addr) (c m n : Nat) (w : World) (E : Int) (hm : m = frm.length) (hl : m ≤ 1000) (hi : IntsAt w w.heap.size A frm) (hE : jf ⟨109, frm, rate, mul, dv, lock⟩ n = E) (hj : joinedB ⟨109, frm, rate, mul, dv, lock⟩ = true) (hw : betw (m : Int) 1 4 = true) :
    Calls Tryz.prog 81 #[.agg #[.int .u8 109, .slice A m c, .int .u64 rate, .int .i64 mul, .int .i64 dv, .int .i64 lock], .int .i64 (n : Nat)] w (ErrIs E w) := by
  have hba := (Below.refl w.heap.size w).alloc (Nat.le_refl _) (.cells #[.int .u8 109, .slice A m c, .int .u64 rate, .int .i64 mul, .int .i64 dv, .int .i64 lock] 61)
  have hi' : IntsAt (w.alloc (.cells #[.int .u8 109, .slice A m c, .int .u64 rate, .int .i64 mul, .int .i64 dv, .int .i64 lock] 61)) (w.alloc (.cells #[.int .u8 109, .slice A m c, .int .u64 rate, .int .i64 mul, .int .i64 dv, .int .i64 lock] 61)).heap.size A frm := (hi.below hba (Nat.le_refl _)).more hba.size
  have hbx := BoxAt.new w [.int .u8 109, .slice A m c, .int .u64 rate, .int .i64 mul, .int .i64 dv, .int .i64 lock] 61
  have HI := Lib.hid hi'
  have HBX := Lib.hid hbx
  have HBA := Lib.hid hba
  have HM := Lib.hid hm
  have HJ : RowKit.Hid (joinedB ⟨109, frm, rate, mul, dv, lock⟩ = true) := hj
  have HE : RowKit.Hid (jf ⟨109, frm, rate, mul, dv, lock⟩ n = E) := hE
  have HW := Lib.hid hw
  clear hw
  clear hi hi' hbx hba hm hj hE
  go_enter Tryz.func81, Tryz.ntmps81
  go_upto_region 2 with fail
  rename_i K hK
  have HK := Lib.hid hK
  clear hK
  go_wp2_with fail
  refine (rwithin_any _ _ _ _).mono ?_
  rintro e w' ⟨rfl, rfl⟩
  rw [HW.out]
  go_wp2
  refine HK.out _ _ ?_
  have hE' := HE.out
  unfold jf at hE'
  rw [HJ.out, if_pos rfl] at hE'
  refine rcRest_any w _ w.heap.size n ⟨109, frm, rate, mul, dv, lock⟩ A c (by show BoxAt _ _ [_, .slice A frm.length c, _, _, _, _]; rw [← HM.out]; exact HBX.out) HJ.out (by show frm.length ≤ 1000; rw [← HM.out]; exact hl) HI.out HBA.out E hE' _ ⟨rfl, rfl⟩ rfl rfl ?_ rfl
  show Value.int .i64 (m : Int) = Value.int .i64 (frm.length : Int)
  rw [← HM.out]
set_option maxRecDepth 1000000 in
set_option maxHeartbeats 8000000 in
theorem rc_m0 (_kd : Int) (frm : List Int) (rate mul dv lock : Int) (A : Option Addr) (c m n : Nat) (w : World) (E : Int) (hm : m = frm.length) (hl : m ≤ 1000) (hi : IntsAt w w.heap.size A frm) (hE : jf ⟨109, frm, rate, mul, dv, lock⟩ n = E) (hj : joinedB ⟨109, frm, rate, mul, dv, lock⟩ = false) (hw : betw (m : Int) 1 4 = false) :
    Calls Tryz.prog 81 #[.agg #[.int .u8 109, .slice A m c, .int .u64 rate, .int .i64 mul, .int .i64 dv, .int .i64 lock], .int .i64 (n : Nat)] w (ErrIs E w) := by
  have hba := (Below.refl w.heap.size w).alloc (Nat.le_refl _) (.cells #[.int .u8 109, .slice A m c, .int .u64 rate, .int .i64 mul, .int .i64 dv, .int .i64 lock] 61)
  have hi' : IntsAt (w.alloc (.cells #[.int .u8 109, .slice A m c, .int .u64 rate, .int .i64 mul, .int .i64 dv, .int .i64 lock] 61)) (w.alloc (.cells #[.int .u8 109, .slice A m c, .int .u64 rate, .int .i64 mul, .int .i64 dv, .int .i64 lock] 61)).heap.size A frm := (hi.below hba (Nat.le_refl _)).more hba.size
  have hbx := BoxAt.new w [.int .u8 109, .slice A m c, .int .u64 rate, .int .i64 mul, .int .i64 dv, .int .i64 lock] 61
  have HI := Lib.hid hi'
  have HBX := Lib.hid hbx
  have HBA := Lib.hid hba
  have HM := Lib.hid hm
  have HJ : RowKit.Hid (joinedB ⟨109, frm, rate, mul, dv, lock⟩ = false) := hj
  have HE : RowKit.Hid (jf ⟨109, frm, rate, mul, dv, lock⟩ n = E) := hE
  have HW := Lib.hid hw
  clear hw
  clear hi hi' hbx hba hm hj hE
  go_enter Tryz.func81, Tryz.ntmps81
  go_wp2_with fail
  refine (rwithin_any _ _ _ _).mono ?_
  rintro e w' ⟨rfl, rfl⟩
  rw [HW.out]
  go_wp2
  go_ret
  have hE' := HE.out
  unfold jf at hE'
  rw [HJ.out, if_neg (by decide)] at hE'
  exact ⟨by rw [← hE']; rfl, HBA.out⟩
set_option maxRecDepth 1000000 in
set_option maxHeartbeats 8000000 in
theorem rc_x (kd : Int) (frm : List Int) (rate mul dv lock : Int) (A : Option Addr) (c m n : Nat) (w : World) (E : Int) (hm : m = frm.length) (hl : m ≤ 1000) (hi : IntsAt w w.heap.size A frm) (hE : jf ⟨kd, frm, rate, mul, dv, lock⟩ n = E) (hj : joinedB ⟨kd, frm, rate, mul, dv, lock⟩ = false) (k1 : (kd == 111) = false) (k2 : (kd == 112) = false) (k3 : (kd == 100) = false) (k4 : (kd == 103) = false) (k5 : (kd == 109) = false) :
    Calls Tryz.prog 81 #[.agg #[.int .u8 kd, .slice A m c, .int .u64 rate, .int .i64 mul, .int .i64 dv, .int .i64 lock], .int .i64 (n : Nat)] w (ErrIs E w) := by
  have hba := (Below.refl w.heap.size w).alloc (Nat.le_refl _) (.cells #[.int .u8 kd, .slice A m c, .int .u64 rate, .int .i64 mul, .int .i64 dv, .int .i64 lock] 61)
  have hi' : IntsAt (w.alloc (.cells #[.int .u8 kd, .slice A m c, .int .u64 rate, .int .i64 mul, .int .i64 dv, .int .i64 lock] 61)) (w.alloc (.cells #[.int .u8 kd, .slice A m c, .int .u64 rate, .int .i64 mul, .int .i64 dv, .int .i64 lock] 61)).heap.size A frm := (hi.below hba (Nat.le_refl _)).more hba.size
  have hbx := BoxAt.new w [.int .u8 kd, .slice A m c, .int .u64 rate, .int .i64 mul, .int .i64 dv, .int .i64 lock] 61
  have HI := Lib.hid hi'
  have HBX := Lib.hid hbx
  have HBA := Lib.hid hba
  have HM := Lib.hid hm
  have HJ : RowKit.Hid (joinedB ⟨kd, frm, rate, mul, dv, lock⟩ = false) := hj
  have HE : RowKit.Hid (jf ⟨kd, frm, rate, mul, dv, lock⟩ n = E) := hE
  clear hi hi' hbx hba hm hj hE
  go_enter Tryz.func81, Tryz.ntmps81
  go_wp2
  go_ret
  have hE' := HE.out
  unfold jf at hE'
  rw [HJ.out, if_neg (by decide)] at hE'
  exact ⟨by rw [← hE']; rfl, HBA.out⟩
theorem rclk_any (x : Clk) (vs : List Value) (n : Nat) (w : World) (hl : x.frm.length ≤ 1000) (h : ClkV w w.heap.size x vs) : Calls Tryz.prog 81 #[.agg vs.toArray, .int .i64 (n : Nat)] w (ErrIs (clkE n x) w) := by
  obtain ⟨kd, frm, rate, mul, dv, lock⟩ := x
  obtain ⟨A, c, rfl, hc, hi⟩ := h
  by_cases k1 : kd = 111
  · subst k1
    by_cases h0 : frm.length = 0
    · exact rc_o1 0 frm rate mul dv lock A c frm.length n w _ rfl hl hi (jf_eq n _) (by simp [joinedB, h0]) (by simp [h0])
    · exact rc_o0 0 frm rate mul dv lock A c frm.length n w _ rfl hl hi (jf_eq n _) (by simpa [joinedB] using h0) (by rw [beq_eq_false_iff_ne]; omega)
  by_cases k2 : kd = 112
  · subst k2
    by_cases h0 : frm.length = 1
    · exact rc_1121 0 frm rate mul dv lock A c frm.length n w _ rfl hl hi (jf_eq n _) (by simp [joinedB, h0]) (by simp [h0])
    · exact rc_1120 0 frm rate mul dv lock A c frm.length n w _ rfl hl hi (jf_eq n _) (by simpa [joinedB] using h0) (by rw [beq_eq_false_iff_ne]; omega)
  by_cases k3 : kd = 100
  · subst k3
    by_cases h0 : frm.length = 1
    · exact rc_1001 0 frm rate mul dv lock A c frm.length n w _ rfl hl hi (jf_eq n _) (by simp [joinedB, h0]) (by simp [h0])
    · exact rc_1000 0 frm rate mul dv lock A c frm.length n w _ rfl hl hi (jf_eq n _) (by simpa [joinedB] using h0) (by rw [beq_eq_false_iff_ne]; omega)
  by_cases k4 : kd = 103
  · subst k4
    by_cases h0 : frm.length = 1
    · exact rc_1031 0 frm rate mul dv lock A c frm.length n w _ rfl hl hi (jf_eq n _) (by simp [joinedB, h0]) (by simp [h0])
    · exact rc_1030 0 frm rate mul dv lock A c frm.length n w _ rfl hl hi (jf_eq n _) (by simpa [joinedB] using h0) (by rw [beq_eq_false_iff_ne]; omega)
  by_cases k5 : kd = 109
  · subst k5
    cases h0 : betw (frm.length : Int) 1 4 with
    | true => exact rc_m1 0 frm rate mul dv lock A c frm.length n w _ rfl hl hi (jf_eq n _) (by simpa [joinedB] using h0) h0
    | false => exact rc_m0 0 frm rate mul dv lock A c frm.length n w _ rfl hl hi (jf_eq n _) (by simpa [joinedB] using h0) h0
  exact rc_x kd frm rate mul dv lock A c frm.length n w _ rfl hl hi (jf_eq n _) (by simp [joinedB, k1, k2, k3, k4, k5]) (by simpa using k1) (by simpa using k2) (by simpa using k3) (by simpa using k4) (by simpa using k5)
end

section
set_option linter.unusedSimpArgs false
set_option linter.unusedVariables false
open Go.RowKit Go.Maps

/-- the box of a description stands -/
def BxU (w : World) (vs : List Value) (W : World) : Prop := Below (w.heap.size + 1) (w.alloc (.cells vs.toArray 30)) W
namespace BxU
variable {w W W' : World} {vs : List Value}
theorem start (w : World) (vs : List Value) : BxU w vs (w.alloc (.cells vs.toArray 30)) := Below.refl _ _
theorem box (h : BxU w vs W) : ∀ j u, vs[j]? = some u → W.cell? ⟨w.heap.size, j, none⟩ = some u := fun j u hj =>
  (Below.cell h (p := ⟨w.heap.size, j, none⟩) (by show w.heap.size < w.heap.size + 1; omega)).trans ((BoxAt.new w vs 30) j u hj).1
theorem low (h : BxU w vs W) : Below w.heap.size w W := ((Below.refl w.heap.size w).alloc (Nat.le_refl _) (.cells vs.toArray 30)).trans (Below.mono h (Nat.le_succ _))
theorem size (h : BxU w vs W) : w.heap.size + 1 ≤ W.heap.size := by
  have := Below.size h
  simpa using this
theorem readsS {α : Type} {V : Reads α} [sv : Steady V] {sz : Nat} {A : Option Addr} {xs : List α} (h : BxU w vs W) (hx : StrsAt V sz w w.heap.size A xs) : StrsAt V sz W w.heap.size A xs := hx.below h.low (Nat.le_refl _)
theorem chip {s : Chip} (h : BxU w vs W) (hx : ChipV w w.heap.size s vs) : ChipV W W.heap.size s vs := Steady.later hx h.low
theorem step (h : BxU w vs W) (hb : Below W.heap.size W W') : BxU w vs W' := Below.trans h (hb.mono h.size)
theorem moved (h : BxU w vs W) (hm : Moved [] W W') : BxU w vs W' := Below.trans h (hm.below (by simp) h.size)
end BxU
theorem firstE_at {α : Type} {f : α → Int} : ∀ {l : List α} {k : Nat} {x : α}, l[k]? = some x → (∀ j y, j < k → l[j]? = some y → f y = 0) → f x ≠ 0 → firstE (l.map f) = f x
  | [], k, x, h, _, _ => by simp at h
  | y :: l, 0, x, h, _, hx => by
    simp at h
    subst h
    rw [List.map_cons, firstE_cons, if_neg hx]
  | y :: l, k + 1, x, h, h0, hx => by
    rw [List.map_cons, firstE_cons, if_pos (h0 0 y (by omega) rfl)]
    exact firstE_at (by simpa using h) (fun j z hj hz => h0 (j + 1) z (by omega) (by simpa using hz)) hx
theorem rcheck_rows (rows : List (List Int)) (A : Option Addr) (c : Nat) (W : World) (hn : rows.length ≤ 1000) (hl : ∀ r, r ∈ rows → r.length ≤ 1000000) (h : RowsAt W W.heap.size A rows.length (gOf rows)) : Calls Tryz.prog 82 #[.slice A rows.length c] W (ErrIs (graphE rows) W) := by
  refine (rcheck_any A rows.length c (gOf rows) W hn (fun i hi => ?_) h).mono ?_
  · rw [gOf_row (List.getElem?_eq_getElem hi)]
    exact hl _ (List.getElem_mem _)
  · rintro e w' ⟨E, ⟨o, ho⟩, rfl, hb⟩
    rw [graphE_eq ho]
    exact ⟨rfl, hb⟩

set_option maxRecDepth 100000 in
set_option maxHeartbeats 4000000 in
theorem rclks_any (s : Chip) (vs : List Value) (w : World) (hok : ChipOk s) (h : ChipV w w.heap.size s vs) : Calls Tryz.prog 52 #[.agg vs.toArray] w (ErrIs (firstE [firstE (s.clks.map (clkE s.clks.length)), graphE (clksG s)]) w) := by
  obtain ⟨E, hE⟩ : ∃ E, firstE [firstE (s.clks.map (clkE s.clks.length)), graphE (clksG s)] = E := ⟨_, rfl⟩
  rw [hE]
  have HE := Lib.hid hE
  have HCV := Lib.hid h
  obtain ⟨A1, c1, A2, c2, A3, c3, A4, c4, rfl, l1, l2, l3, l4, k1, k2, k3, k4⟩ := h
  have HX := Lib.hid k1
  have hn := hok.n1
  have HOK := Lib.hid hok
  have HST := Lib.hid (BxU.start w [.slice A1 s.clks.length c1, .slice A2 s.doms.length c2, .slice A3 s.rsts.length c3, .slice A4 s.devs.length c4])
  clear k1 k2 k3 k4 hE hok
  go_enter Tryz.func52, Tryz.ntmps52
  go_wp2
  go_loopw [3] (fun i wr => ∃ k : Nat, k ≤ s.clks.length ∧ i = .int .i64 k ∧ BxU w [.slice A1 s.clks.length c1, .slice A2 s.doms.length c2, .slice A3 s.rsts.length c3, .slice A4 s.devs.length c4] wr ∧ RowKit.Hid (∀ j y, j < k → s.clks[j]? = some y → clkE s.clks.length y = 0)) (fun i _ => s.clks.length - (intOf i).toNat)
  case atStart => exact ⟨0, Nat.zero_le _, rfl, HST.out, Lib.hid (fun j y hj => absurd hj (by omega))⟩
  case round =>
    obtain ⟨k, hk, rfl, hB, HZ⟩ := hrel
    have x0 := hB.box 0 _ rfl
    have x1 := hB.box 1 _ rfl
    have x2 := hB.box 2 _ rfl
    have x3 := hB.box 3 _ rfl
    have HB := Lib.hid hB
    clear HST
    by_cases hlt : k < s.clks.length
    · obtain ⟨ad, vs, hA, hab, hV, hAg⟩ := (hB.readsS HX.out).at_ hlt
      have hx := List.getElem?_eq_getElem hlt
      have hsz := hB.size
      generalize s.clks[k] = x at hx hV
      have hxl := (HOK.out.clks x (List.mem_of_getElem? hx)).1
      have HXX := Lib.hid hx
      have hV2 : ClkV wr.drew wr.drew.heap.size x vs := Steady.keep (Steady.more (C := wr.heap.size) hV (by omega)) (fun p _ => rfl)
      obtain ⟨Af, cf, rfl, hcf, hIf⟩ := hV
      have HV2 := Lib.hid hV2
      have h0 := hAg.zero
      have h1 := hAg.at_ 0 rfl
      have h2 := hAg.at_ 1 rfl
      have h3 := hAg.at_ 2 rfl
      have h4 := hAg.at_ 3 rfl
      have h5 := hAg.at_ 4 rfl
      have i0 : (0 : Int) ≤ (k : Int) := by omega
      have i1 : (k : Int) < (s.clks.length : Int) := by omega
      have hBd := hB.moved (drew_moved wr)
      have HBD := Lib.hid hBd
      clear hx hV2 hIf hAg hB hBd
      subst hA
      obtain ⟨ev, hev⟩ : ∃ ev, clkE s.clks.length x = ev := ⟨_, rfl⟩
      have HEV := Lib.hid hev
      clear hev
      by_cases hz : ev = 0
      · have HZZ := Lib.hid hz
        clear hz
        go_wp2
        go_still_tail 8, (by kernel_rfl)
        change wpList _ _ _ _ _ wr.drew
        go_wp2_with fail
        refine (rclk_any x _ s.clks.length wr.drew hxl HV2.out).mono ?_
        rintro e w6 ⟨rfl, hb6⟩
        rw [HEV.out, HZZ.out]
        have HB6 := Lib.hid (HBD.out.step hb6)
        clear hb6
        go_wp2
        go_roundw
        case measure => simp [intOf]; omega
        case rel =>
          refine ⟨k + 1, hlt, by go_num, HB6.out, Lib.hid (fun j y hj hy => ?_)⟩
          by_cases hjk : j = k
          · subst hjk
            rw [HXX.out] at hy
            obtain rfl := Option.some.inj hy
            rw [HEV.out, HZZ.out]
          · exact HZ.out j y (by omega) hy
      · have hz' : (ev != 0) = true := by simpa using hz
        have HZZ := Lib.hid hz
        clear hz
        go_wp2
        go_still_tail 8, (by kernel_rfl)
        change wpList _ _ _ _ _ wr.drew
        go_wp2_with fail
        refine (rclk_any x _ s.clks.length wr.drew hxl HV2.out).mono ?_
        rintro e w6 ⟨rfl, hb6⟩
        rw [HEV.out]
        have HB6 := Lib.hid (HBD.out.step hb6)
        clear hb6
        go_wp2
        go_ret
        refine ⟨?_, HB6.out.low⟩
        have he : E = ev := by
          rw [← HE.out, firstE_cons, firstE_at HXX.out HZ.out (by rw [HEV.out]; exact HZZ.out), HEV.out, if_neg HZZ.out]
        rw [he]
        rfl
    · obtain rfl : k = s.clks.length := by omega
      have hb := hB
      clear hB
      have HC2 := Lib.hid (hb.chip HCV.out)
      go_wp2_with fail
      refine (rclocks_any s _ wr HOK.out HC2.out).mono ?_
      rintro e w6 ⟨A6, c6, rfl, hr, hb6⟩
      have HR := Lib.hid hr
      have HB6 := Lib.hid (HB.out.step hb6)
      clear hr hb6 hb
      go_wp2_with fail
      refine (rcheck_rows (clksG s) A6 c6 w6 (by simp [clksG]; omega) (fun r hr => by obtain ⟨c, hc, rfl⟩ := List.mem_map.1 hr; have := (HOK.out.clks c hc).1; omega) HR.out).mono ?_
      rintro e w7 ⟨rfl, hb7⟩
      have HB7 := Lib.hid (HB6.out.step hb7)
      clear hb7
      go_wp2
      go_ret
      refine ⟨?_, HB7.out.low⟩
      have he : E = graphE (clksG s) := by
        rw [← HE.out, firstE_cons, if_pos (firstE_all (fun i y hi => HZ.out i y (List.getElem?_eq_some_iff.1 hi).1 hi)), firstE_cons, firstE_nil]
        by_cases hg : graphE (clksG s) = 0
        · rw [if_pos hg, hg]
        · rw [if_neg hg]
      rw [he]
      rfl
end

section
set_option linter.unusedSimpArgs false
set_option linter.unusedVariables false
open Go.RowKit Go.Maps

theorem domE_val (n : Nat) (d : Dom) : domE n d = if d.above = -1 ∨ betw d.above 0 ((n : Int) - 1) = true then (if betw d.delay 0 20 then 0 else 3) else 4 := by
  unfold domE nodesB
  by_cases h : d.above = -1
  · cases hd : betw d.delay 0 20 <;> simp [h, hd, firstE_cons, firstE_nil, orE]
  · have h' : (d.above == -1) = false := by simpa using h
    cases hb : betw d.above 0 ((n : Int) - 1) <;> cases hd : betw d.delay 0 20 <;> simp [h, h', hb, hd, firstE_cons, firstE_nil, orE]

set_option maxRecDepth 100000 in
set_option maxHeartbeats 8000000 in
theorem rdomains_any (s : Chip) (vs : List Value) (w : World) (hok : ChipOk s) (h : ChipV w w.heap.size s vs) : Calls Tryz.prog 53 #[.agg vs.toArray] w (ErrIs (firstE [firstE (s.doms.map (domE s.doms.length)), graphE (domsG s)]) w) := by
  obtain ⟨E, hE⟩ : ∃ E, firstE [firstE (s.doms.map (domE s.doms.length)), graphE (domsG s)] = E := ⟨_, rfl⟩
  rw [hE]
  have HE := Lib.hid hE
  have HCV := Lib.hid h
  obtain ⟨A1, c1, A2, c2, A3, c3, A4, c4, rfl, l1, l2, l3, l4, k1, k2, k3, k4⟩ := h
  have HX := Lib.hid k2
  have hn := hok.n2
  have HOK := Lib.hid hok
  have HST := Lib.hid (BxU.start w [.slice A1 s.clks.length c1, .slice A2 s.doms.length c2, .slice A3 s.rsts.length c3, .slice A4 s.devs.length c4])
  clear k1 k2 k3 k4 hE hok
  go_enter Tryz.func53, Tryz.ntmps53
  go_wp2
  go_loopw [3] (fun i wr => ∃ k : Nat, k ≤ s.doms.length ∧ i = .int .i64 k ∧ BxU w [.slice A1 s.clks.length c1, .slice A2 s.doms.length c2, .slice A3 s.rsts.length c3, .slice A4 s.devs.length c4] wr ∧ RowKit.Hid (∀ j y, j < k → s.doms[j]? = some y → domE s.doms.length y = 0)) (fun i _ => s.doms.length - (intOf i).toNat)
  case atStart => exact ⟨0, Nat.zero_le _, rfl, HST.out, Lib.hid (fun j y hj => absurd hj (by omega))⟩
  case round =>
    obtain ⟨k, hk, rfl, hB, HZ⟩ := hrel
    have x0 := hB.box 0 _ rfl
    have x1 := hB.box 1 _ rfl
    have x2 := hB.box 2 _ rfl
    have x3 := hB.box 3 _ rfl
    have HB := Lib.hid hB
    clear HST
    by_cases hlt : k < s.doms.length
    · obtain ⟨ad, vs, hA, hab, hV, hAg⟩ := (hB.readsS HX.out).at_ hlt
      have hx := List.getElem?_eq_getElem hlt
      have hsz := hB.size
      generalize s.doms[k] = x at hx hV
      have HXX := Lib.hid hx
      have hV' : vs = _ := hV
      subst hV'
      have h0 := hAg.zero
      have h1 := hAg.at_ 0 rfl
      have h2 := hAg.at_ 1 rfl
      have i0 : (0 : Int) ≤ (k : Int) := by omega
      have i1 : (k : Int) < (s.doms.length : Int) := by omega
      have hB2 := hB.moved (Moved.alloc wr (.cells #[.int .i64 x.above, .int .i64 x.delay, .bool x.ret] 56))
      have HB2 := Lib.hid hB2
      have y1 := hB2.box 1 _ rfl
      clear hx hAg hB hV hB2
      subst hA
      by_cases ha : x.above = -1
      · have ha' : (x.above != -1) = false := by simpa using ha
        have HA := Lib.hid ha
        clear ha
        cases q3 : betw x.delay 0 20 with
        | true =>
          have Q3 := Lib.hid q3
          clear q3
          go_wp2_with fail
          refine (rwithin_any _ _ _ _).mono ?_
          rintro e w' ⟨rfl, rfl⟩
          rw [Q3.out]
          go_wp2
          go_roundw
          case measure => simp [intOf]; omega
          case rel =>
            refine ⟨k + 1, hlt, by go_num, HB2.out, Lib.hid (fun j y hj hy => ?_)⟩
            by_cases hjk : j = k
            · subst hjk
              rw [HXX.out] at hy
              obtain rfl := Option.some.inj hy
              exact (by rw [domE_val]; simp [HA.out, Q3.out])
            · exact HZ.out j y (by omega) hy
        | false =>
          have Q3 := Lib.hid q3
          clear q3
          go_wp2_with fail
          refine (rwithin_any _ _ _ _).mono ?_
          rintro e w' ⟨rfl, rfl⟩
          rw [Q3.out]
          go_wp2
          go_ret
          refine ⟨?_, HB2.out.low⟩
          have he : E = 3 := by
            have hv : domE s.doms.length x = 3 := (by rw [domE_val]; simp [HA.out, Q3.out])
            rw [← HE.out, firstE_cons, firstE_at HXX.out HZ.out (by rw [hv]; decide), hv, if_neg (by decide)]
          rw [he]
          rfl
      · have ha' : (x.above != -1) = true := by simpa using ha
        have HA := Lib.hid ha
        clear ha
        cases q2 : betw x.above 0 ((s.doms.length : Int) - 1) with
        | true =>
          have Q2 := Lib.hid q2
          clear q2
          cases q3 : betw x.delay 0 20 with
          | true =>
            have Q3 := Lib.hid q3
            clear q3
            go_wp2_with fail
            refine (rin_any _ _ _).mono ?_
            rintro e w' ⟨rfl, rfl⟩
            rw [Q2.out]
            go_wp2_with fail
            refine (rwithin_any _ _ _ _).mono ?_
            rintro e w' ⟨rfl, rfl⟩
            rw [Q3.out]
            go_wp2
            go_roundw
            case measure => simp [intOf]; omega
            case rel =>
              refine ⟨k + 1, hlt, by go_num, HB2.out, Lib.hid (fun j y hj hy => ?_)⟩
              by_cases hjk : j = k
              · subst hjk
                rw [HXX.out] at hy
                obtain rfl := Option.some.inj hy
                exact (by rw [domE_val]; simp [HA.out, Q2.out, Q3.out])
              · exact HZ.out j y (by omega) hy
          | false =>
            have Q3 := Lib.hid q3
            clear q3
            go_wp2_with fail
            refine (rin_any _ _ _).mono ?_
            rintro e w' ⟨rfl, rfl⟩
            rw [Q2.out]
            go_wp2_with fail
            refine (rwithin_any _ _ _ _).mono ?_
            rintro e w' ⟨rfl, rfl⟩
            rw [Q3.out]
            go_wp2
            go_ret
            refine ⟨?_, HB2.out.low⟩
            have he : E = 3 := by
              have hv : domE s.doms.length x = 3 := (by rw [domE_val]; simp [HA.out, Q2.out, Q3.out])
              rw [← HE.out, firstE_cons, firstE_at HXX.out HZ.out (by rw [hv]; decide), hv, if_neg (by decide)]
            rw [he]
            rfl
        | false =>
          have Q2 := Lib.hid q2
          clear q2
          go_wp2_with fail
          refine (rin_any _ _ _).mono ?_
          rintro e w' ⟨rfl, rfl⟩
          rw [Q2.out]
          go_wp2
          go_ret
          refine ⟨?_, HB2.out.low⟩
          have he : E = 4 := by
            have hv : domE s.doms.length x = 4 := (by rw [domE_val]; simp [HA.out, Q2.out])
            rw [← HE.out, firstE_cons, firstE_at HXX.out HZ.out (by rw [hv]; decide), hv, if_neg (by decide)]
          rw [he]
          rfl
    · obtain rfl : k = s.doms.length := by omega
      have hb := hB
      clear hB
      have HC2 := Lib.hid (hb.chip HCV.out)
      go_wp2_with fail
      refine (rdoms_any s _ wr HOK.out HC2.out).mono ?_
      rintro e w6 ⟨A6, c6, rfl, hr, hb6⟩
      have HR := Lib.hid hr
      have HB6 := Lib.hid (HB.out.step hb6)
      clear hr hb6 hb
      go_wp2_with fail
      refine (rcheck_rows (domsG s) A6 c6 w6 (by simp [domsG]; omega) (fun r hr => by obtain ⟨c, hc, rfl⟩ := List.mem_map.1 hr; split <;> simp) HR.out).mono ?_
      rintro e w7 ⟨rfl, hb7⟩
      have HB7 := Lib.hid (HB6.out.step hb7)
      clear hb7
      go_wp2
      go_ret
      refine ⟨?_, HB7.out.low⟩
      have he : E = graphE (domsG s) := by
        rw [← HE.out, firstE_cons, if_pos (firstE_all (fun i y hi => HZ.out i y (List.getElem?_eq_some_iff.1 hi).1 hi)), firstE_cons, firstE_nil]
        by_cases hg : graphE (domsG s) = 0
        · rw [if_pos hg, hg]
        · rw [if_neg hg]
      rw [he]
      rfl
end

section
set_option linter.unusedSimpArgs false
set_option linter.unusedVariables false
open Go.RowKit Go.Maps

theorem nodes_one (n : Nat) (v : Int) : nodesB n [v] = betw v 0 ((n : Int) - 1) := by simp [nodesB]
theorem devE_ok {s : Chip} {d : Dev} (h1 : betw d.clock 0 ((s.clks.length : Int) - 1) = true) (h2 : betw d.domain 0 ((s.doms.length : Int) - 1) = true) (h3 : betw d.rst 0 ((s.rsts.length : Int) - 1) = true) (h4 : nodesB s.devs.length d.needs = true) : devE s d = 0 := by
  unfold devE
  simp only [nodes_one, h1, h2, h3, h4, orE, firstE_cons, firstE_nil, if_true]
theorem devE_no {s : Chip} {d : Dev} (h : betw d.clock 0 ((s.clks.length : Int) - 1) = false ∨ betw d.domain 0 ((s.doms.length : Int) - 1) = false ∨ betw d.rst 0 ((s.rsts.length : Int) - 1) = false ∨ nodesB s.devs.length d.needs = false) : devE s d = 4 := by
  unfold devE
  simp only [nodes_one]
  cases h1 : betw d.clock 0 ((s.clks.length : Int) - 1) <;> cases h2 : betw d.domain 0 ((s.doms.length : Int) - 1) <;> cases h3 : betw d.rst 0 ((s.rsts.length : Int) - 1) <;> cases h4 : nodesB s.devs.length d.needs <;> simp [orE, firstE_cons, firstE_nil, h1, h2, h3, h4] at h ⊢

set_option maxRecDepth 100000 in
set_option maxHeartbeats 8000000 in
theorem rdevices_any (s : Chip) (vs : List Value) (w : World) (hok : ChipOk s) (h : ChipV w w.heap.size s vs) : Calls Tryz.prog 55 #[.agg vs.toArray] w (ErrIs (firstE [firstE (s.devs.map (devE s)), graphE (devsG s)]) w) := by
  obtain ⟨E, hE⟩ : ∃ E, firstE [firstE (s.devs.map (devE s)), graphE (devsG s)] = E := ⟨_, rfl⟩
  rw [hE]
  have HE := Lib.hid hE
  have HCV := Lib.hid h
  obtain ⟨A1, c1, A2, c2, A3, c3, A4, c4, rfl, l1, l2, l3, l4, k1, k2, k3, k4⟩ := h
  have HX := Lib.hid k4
  have hn := hok.n4
  have HOK := Lib.hid hok
  have HST := Lib.hid (BxU.start w [.slice A1 s.clks.length c1, .slice A2 s.doms.length c2, .slice A3 s.rsts.length c3, .slice A4 s.devs.length c4])
  clear k1 k2 k3 k4 hE hok
  go_enter Tryz.func55, Tryz.ntmps55
  go_wp2
  go_loopw [3] (fun i wr => ∃ k : Nat, k ≤ s.devs.length ∧ i = .int .i64 k ∧ BxU w [.slice A1 s.clks.length c1, .slice A2 s.doms.length c2, .slice A3 s.rsts.length c3, .slice A4 s.devs.length c4] wr ∧ RowKit.Hid (∀ j y, j < k → s.devs[j]? = some y → devE s y = 0)) (fun i _ => s.devs.length - (intOf i).toNat)
  case atStart => exact ⟨0, Nat.zero_le _, rfl, HST.out, Lib.hid (fun j y hj => absurd hj (by omega))⟩
  case round =>
    obtain ⟨k, hk, rfl, hB, HZ⟩ := hrel
    have x0 := hB.box 0 _ rfl
    have x1 := hB.box 1 _ rfl
    have x2 := hB.box 2 _ rfl
    have x3 := hB.box 3 _ rfl
    have HB := Lib.hid hB
    clear HST
    by_cases hlt : k < s.devs.length
    · obtain ⟨ad, vs, hA, hab, hV, hAg⟩ := (hB.readsS HX.out).at_ hlt
      have hx := List.getElem?_eq_getElem hlt
      have hsz := hB.size
      generalize s.devs[k] = x at hx hV
      have hxl := (HOK.out.devs x (List.mem_of_getElem? hx)).2.1
      have HXX := Lib.hid hx
      obtain ⟨Ar, cr, Af, cf, rfl, hcr, hcf, hRr, hIf⟩ := hV
      have HIF := Lib.hid (hIf.more (by omega : w.heap.size ≤ wr.heap.size))
      have h0 := hAg.zero
      have h1 := hAg.at_ 0 rfl
      have h2 := hAg.at_ 1 rfl
      have h3 := hAg.at_ 2 rfl
      have h4 := hAg.at_ 3 rfl
      have h5 := hAg.at_ 4 rfl
      have i0 : (0 : Int) ≤ (k : Int) := by omega
      have i1 : (k : Int) < (s.devs.length : Int) := by omega
      have hB2 := hB.moved (Moved.alloc wr (.cells #[.int .i64 x.clock, .int .i64 x.domain, .int .i64 x.rst, .int .u32 x.clamp, .slice Ar x.regs.length cr, .slice Af x.needs.length cf] 67))
      have HB2 := Lib.hid hB2
      have y0 := hB2.box 0 _ rfl
      have y1 := hB2.box 1 _ rfl
      have y2 := hB2.box 2 _ rfl
      have y3 := hB2.box 3 _ rfl
      clear hx hAg hB hB2 hIf hRr
      subst hA
      cases q1 : betw x.clock 0 ((s.clks.length : Int) - 1) with
      | false =>
        have Q1 := Lib.hid q1
        clear q1
        go_wp2_with fail
        refine (rin_any _ _ _).mono ?_
        rintro e w' ⟨rfl, rfl⟩
        rw [Q1.out]
        go_wp2
        go_ret
        refine ⟨?_, HB2.out.low⟩
        have he : E = 4 := by
          have hv : devE s x = 4 := devE_no (.inl Q1.out)
          rw [← HE.out, firstE_cons, firstE_at HXX.out HZ.out (by rw [hv]; decide), hv, if_neg (by decide)]
        rw [he]
        rfl
      | true =>
        have Q1 := Lib.hid q1
        clear q1
        cases q2 : betw x.domain 0 ((s.doms.length : Int) - 1) with
        | false =>
          have Q2 := Lib.hid q2
          clear q2
          go_wp2_with fail
          refine (rin_any _ _ _).mono ?_
          rintro e w' ⟨rfl, rfl⟩
          rw [Q1.out]
          go_wp2_with fail
          refine (rin_any _ _ _).mono ?_
          rintro e w' ⟨rfl, rfl⟩
          rw [Q2.out]
          go_wp2
          go_ret
          refine ⟨?_, HB2.out.low⟩
          have he : E = 4 := by
            have hv : devE s x = 4 := devE_no (.inr (.inl Q2.out))
            rw [← HE.out, firstE_cons, firstE_at HXX.out HZ.out (by rw [hv]; decide), hv, if_neg (by decide)]
          rw [he]
          rfl
        | true =>
          have Q2 := Lib.hid q2
          clear q2
          cases q3 : betw x.rst 0 ((s.rsts.length : Int) - 1) with
          | false =>
            have Q3 := Lib.hid q3
            clear q3
            go_wp2_with fail
            refine (rin_any _ _ _).mono ?_
            rintro e w' ⟨rfl, rfl⟩
            rw [Q1.out]
            go_wp2_with fail
            refine (rin_any _ _ _).mono ?_
            rintro e w' ⟨rfl, rfl⟩
            rw [Q2.out]
            go_wp2_with fail
            refine (rin_any _ _ _).mono ?_
            rintro e w' ⟨rfl, rfl⟩
            rw [Q3.out]
            go_wp2
            go_ret
            refine ⟨?_, HB2.out.low⟩
            have he : E = 4 := by
              have hv : devE s x = 4 := devE_no (.inr (.inr (.inl Q3.out)))
              rw [← HE.out, firstE_cons, firstE_at HXX.out HZ.out (by rw [hv]; decide), hv, if_neg (by decide)]
            rw [he]
            rfl
          | true =>
            have Q3 := Lib.hid q3
            clear q3
            go_wp2_with fail
            refine (rin_any _ _ _).mono ?_
            rintro e w' ⟨rfl, rfl⟩
            rw [Q1.out]
            go_wp2_with fail
            refine (rin_any _ _ _).mono ?_
            rintro e w' ⟨rfl, rfl⟩
            rw [Q2.out]
            go_wp2_with fail
            refine (rin_any _ _ _).mono ?_
            rintro e w' ⟨rfl, rfl⟩
            rw [Q3.out]
            go_upto_region 7 with fail
            obtain ⟨gd, hgd⟩ : ∃ gd, gd = wr.heap.size := ⟨_, rfl⟩
            obtain ⟨W2, hW2⟩ : ∃ W2, W2 = wr.alloc (.cells #[.int .i64 x.clock, .int .i64 x.domain, .int .i64 x.rst, .int .u32 x.clamp, .slice Ar x.regs.length cr, .slice Af x.needs.length cf] 67) := ⟨_, rfl⟩
            rw [← hgd, ← hW2]
            have hbd : BoxAt W2 gd [.int .i64 x.clock, .int .i64 x.domain, .int .i64 x.rst, .int .u32 x.clamp, .slice Ar x.regs.length cr, .slice Af x.needs.length cf] := by rw [hgd, hW2]; exact BoxAt.new wr _ 67
            have hi2 : IntsAt W2 W2.heap.size Af x.needs := by rw [hW2]; exact (HIF.out.below ((Below.refl wr.heap.size wr).alloc (Nat.le_refl _) _) (Nat.le_refl _)).more (by simp)
            have hb2 := HB2.out
            rw [← hW2] at hb2
            have HBD := Lib.hid hbd
            have HI2 := Lib.hid hi2
            have HB3 := Lib.hid hb2
            clear hbd hi2 hb2 HB2 x0 x1 x2 x3 y0 y1 y2 y3 hgd hW2 h0 h1 h2 h3 h4 h5
            clear HB HIF
            go_wp2
            go_loopw [5] (fun i wv => ∃ j : Nat, j ≤ x.needs.length ∧ i = .int .i64 j ∧ RowKit.Hid (BxU w [.slice A1 s.clks.length c1, .slice A2 s.doms.length c2, .slice A3 s.rsts.length c3, .slice (some ad) s.devs.length c4] wv ∧ BoxAt wv gd [.int .i64 x.clock, .int .i64 x.domain, .int .i64 x.rst, .int .u32 x.clamp, .slice Ar x.regs.length cr, .slice Af x.needs.length cf] ∧ IntsAt wv wv.heap.size Af x.needs ∧ nodesB s.devs.length (x.needs.take j) = true)) (fun i _ => x.needs.length - (intOf i).toNat)
            case atStart => exact ⟨0, Nat.zero_le _, rfl, Lib.hid ⟨HB3.out, HBD.out, HI2.out, by simp [nodesB]⟩⟩
            case round =>
              obtain ⟨j, hj, rfl, HALL⟩ := hrel
              obtain ⟨hbw, hbd, hint, hnd⟩ := HALL.out
              have x3 := hbw.box 3 _ rfl
              have y5 := (hbd 5 _ rfl).1
              have j0 : (0 : Int) ≤ (j : Int) := by omega
              by_cases hjl : j < x.needs.length
              · have hz := List.getElem?_eq_getElem hjl
                generalize x.needs[j] = y at hz
                obtain ⟨az, rfl, -, hat⟩ := hint (by omega)
                have hy := hat j y hz
                have HZY := Lib.hid hz
                have j1 : (j : Int) < (x.needs.length : Int) := by omega
                clear hat hz hbw hbd hint hnd
                cases q : betw y 0 ((s.devs.length : Int) - 1) with
                | true =>
                  have Q := Lib.hid q
                  clear q
                  go_wp2
                  go_still_tail 8, (by kernel_rfl)
                  change wpList _ _ _ _ _ wr.drew
                  go_wp2_with fail
                  refine (rin_any _ _ _).mono ?_
                  rintro e w' ⟨rfl, rfl⟩
                  rw [Q.out]
                  go_wp2
                  go_roundw
                  case measure => simp [intOf]; omega
                  case rel =>
                    obtain ⟨hbw, hbd, hint, hnd⟩ := HALL.out
                    exact ⟨j + 1, hjl, by go_num, Lib.hid ⟨hbw.moved (drew_moved wr), hbd.move (drew_moved wr) (by simp), hint.keep (fun p _ => rfl), by rw [nodes_take HZY.out hnd]; exact Q.out⟩⟩
                | false =>
                  have Q := Lib.hid q
                  clear q
                  go_wp2
                  go_still_tail 8, (by kernel_rfl)
                  change wpList _ _ _ _ _ wr.drew
                  go_wp2_with fail
                  refine (rin_any _ _ _).mono ?_
                  rintro e w' ⟨rfl, rfl⟩
                  rw [Q.out]
                  go_wp2
                  go_ret
                  refine ⟨?_, (HALL.out.1.moved (drew_moved wr)).low⟩
                  have he : E = 4 := by
                    have hv : devE s x = 4 := devE_no (.inr (.inr (.inr (nodes_no (List.mem_of_getElem? HZY.out) Q.out))))
                    rw [← HE.out, firstE_cons, firstE_at HXX.out HZ.out (by rw [hv]; decide), hv, if_neg (by decide)]
                  rw [he]
                  rfl
              · obtain rfl : j = x.needs.length := by omega
                clear hbw hbd hint hnd
                go_wp2
                go_roundw
                case measure => simp [intOf]; omega
                case rel =>
                  obtain ⟨hbw, hbd, hint, hnd⟩ := HALL.out
                  rw [List.take_length] at hnd
                  refine ⟨k + 1, hlt, by go_num, hbw, Lib.hid (fun j y hj hy => ?_)⟩
                  by_cases hjk : j = k
                  · subst hjk
                    rw [HXX.out] at hy
                    obtain rfl := Option.some.inj hy
                    exact devE_ok Q1.out Q2.out Q3.out hnd
                  · exact HZ.out j y (by omega) hy
    · obtain rfl : k = s.devs.length := by omega
      have hb := hB
      clear hB
      have HC2 := Lib.hid (hb.chip HCV.out)
      go_wp2_with fail
      refine (rneeds_any s _ wr HOK.out HC2.out).mono ?_
      rintro e w6 ⟨A6, c6, rfl, hr, hb6⟩
      have HR := Lib.hid hr
      have HB6 := Lib.hid (HB.out.step hb6)
      clear hr hb6 hb
      go_wp2_with fail
      refine (rcheck_rows (devsG s) A6 c6 w6 (by simp [devsG]; omega) (fun r hr => by obtain ⟨c, hc, rfl⟩ := List.mem_map.1 hr; have := (HOK.out.devs c hc).2.1; omega) HR.out).mono ?_
      rintro e w7 ⟨rfl, hb7⟩
      have HB7 := Lib.hid (HB6.out.step hb7)
      clear hb7
      go_wp2
      go_ret
      refine ⟨?_, HB7.out.low⟩
      have he : E = graphE (devsG s) := by
        rw [← HE.out, firstE_cons, if_pos (firstE_all (fun i y hi => HZ.out i y (List.getElem?_eq_some_iff.1 hi).1 hi)), firstE_cons, firstE_nil]
        by_cases hg : graphE (devsG s) = 0
        · rw [if_pos hg, hg]
        · rw [if_neg hg]
      rw [he]
      rfl
end

section
set_option linter.unusedSimpArgs false
set_option linter.unusedVariables false
open Go.RowKit Go.Maps

theorem fits_over {s : Chip} (h : 12 < s.clks.length ∨ 6 < s.doms.length ∨ 6 < s.rsts.length ∨ 6 < s.devs.length) : fitsB s = false := by
  unfold fitsB
  by_cases h1 : s.clks.length ≤ 12 <;> by_cases h2 : s.doms.length ≤ 6 <;> by_cases h3 : s.rsts.length ≤ 6 <;> by_cases h4 : s.devs.length ≤ 6 <;> simp [h1, h2, h3, h4] <;> omega
theorem fits_dev {s : Chip} {d : Dev} (h : d ∈ s.devs) (hd : overB d = true) : fitsB s = false := by
  have : s.devs.any overB = true := List.any_eq_true.2 ⟨d, h, hd⟩
  unfold fitsB
  rw [this]
  simp
theorem fits_all {s : Chip} (h1 : ¬ 12 < s.clks.length) (h2 : ¬ 6 < s.doms.length) (h3 : ¬ 6 < s.rsts.length) (h4 : ¬ 6 < s.devs.length) (h : ∀ (j : Nat) (y : Dev), s.devs[j]? = some y → overB y = false) : fitsB s = true := by
  have ha : s.devs.any overB = false := by
    rw [List.any_eq_false]
    intro d hd
    obtain ⟨j, hj⟩ := List.mem_iff_getElem?.1 hd
    simp [h j d hj]
  unfold fitsB
  rw [ha]
  have h1' : s.clks.length ≤ 12 := by omega
  have h2' : s.doms.length ≤ 6 := by omega
  have h3' : s.rsts.length ≤ 6 := by omega
  have h4' : s.devs.length ≤ 6 := by omega
  simp [h1', h2', h3', h4']
theorem over_val (d : Dev) : overB d = true ↔ 8 < d.regs.length ∨ 6 < d.needs.length := by unfold overB; simp

set_option maxRecDepth 100000 in
set_option maxHeartbeats 8000000 in
theorem rcounts_any (s : Chip) (vs : List Value) (w : World) (hok : ChipOk s) (h : ChipV w w.heap.size s vs) : Calls Tryz.prog 51 #[.agg vs.toArray] w (TellsB (fitsB s) w) := by
  obtain ⟨b, hb⟩ : ∃ b, fitsB s = b := ⟨_, rfl⟩
  rw [hb]
  have HBB := Lib.hid hb
  obtain ⟨A1, c1, A2, c2, A3, c3, A4, c4, rfl, l1, l2, l3, l4, k1, k2, k3, k4⟩ := h
  have HX := Lib.hid k4
  have hn := hok.n4
  have HOK := Lib.hid hok
  have HST := Lib.hid (BxU.start w [.slice A1 s.clks.length c1, .slice A2 s.doms.length c2, .slice A3 s.rsts.length c3, .slice A4 s.devs.length c4])
  clear k1 k2 k3 k4 hb hok l1 l2 l3 l4
  by_cases h1 : 12 < s.clks.length
  · have H1 := Lib.hid h1
    have d1 : (12 : Int) < (s.clks.length : Int) := by have := h1; omega
    clear h1
    go_enter Tryz.func51, Tryz.ntmps51
    go_wp2
    go_ret
    exact ⟨by rw [← HBB.out, fits_over (.inl H1.out)]; rfl, HST.out.low⟩
  have H1 := Lib.hid h1
  have d1 : (s.clks.length : Int) ≤ 12 := by have := h1; omega
  clear h1
  by_cases h2 : 6 < s.doms.length
  · have H2 := Lib.hid h2
    have d2 : (6 : Int) < (s.doms.length : Int) := by have := h2; omega
    clear h2
    go_enter Tryz.func51, Tryz.ntmps51
    go_wp2
    go_ret
    exact ⟨by rw [← HBB.out, fits_over (.inr (.inl H2.out))]; rfl, HST.out.low⟩
  have H2 := Lib.hid h2
  have d2 : (s.doms.length : Int) ≤ 6 := by have := h2; omega
  clear h2
  by_cases h3 : 6 < s.rsts.length
  · have H3 := Lib.hid h3
    have d3 : (6 : Int) < (s.rsts.length : Int) := by have := h3; omega
    clear h3
    go_enter Tryz.func51, Tryz.ntmps51
    go_wp2
    go_ret
    exact ⟨by rw [← HBB.out, fits_over (.inr (.inr (.inl H3.out)))]; rfl, HST.out.low⟩
  have H3 := Lib.hid h3
  have d3 : (s.rsts.length : Int) ≤ 6 := by have := h3; omega
  clear h3
  by_cases h4 : 6 < s.devs.length
  · have H4 := Lib.hid h4
    have d4 : (6 : Int) < (s.devs.length : Int) := by have := h4; omega
    clear h4
    go_enter Tryz.func51, Tryz.ntmps51
    go_wp2
    go_ret
    exact ⟨by rw [← HBB.out, fits_over (.inr (.inr (.inr H4.out)))]; rfl, HST.out.low⟩
  have H4 := Lib.hid h4
  have d4 : (s.devs.length : Int) ≤ 6 := by have := h4; omega
  clear h4
  go_enter Tryz.func51, Tryz.ntmps51
  go_wp2
  go_loopw [3] (fun i wr => ∃ k : Nat, k ≤ s.devs.length ∧ i = .int .i64 k ∧ BxU w [.slice A1 s.clks.length c1, .slice A2 s.doms.length c2, .slice A3 s.rsts.length c3, .slice A4 s.devs.length c4] wr ∧ RowKit.Hid (∀ j y, j < k → s.devs[j]? = some y → overB y = false)) (fun i _ => s.devs.length - (intOf i).toNat)
  case atStart => exact ⟨0, Nat.zero_le _, rfl, HST.out, Lib.hid (fun j y hj => absurd hj (by omega))⟩
  case round =>
    obtain ⟨k, hk, rfl, hB, HZ⟩ := hrel
    have x3 := hB.box 3 _ rfl
    have HB := Lib.hid hB
    clear HST
    by_cases hlt : k < s.devs.length
    · obtain ⟨ad, vs, hA, hab, hV, hAg⟩ := (hB.readsS HX.out).at_ hlt
      have hx := List.getElem?_eq_getElem hlt
      generalize s.devs[k] = x at hx hV
      have HXX := Lib.hid hx
      obtain ⟨Ar, cr, Af, cf, rfl, hcr, hcf, hRr, hIf⟩ := hV
      have h4 := hAg.at_ 3 rfl
      have h5 := hAg.at_ 4 rfl
      have i0 : (0 : Int) ≤ (k : Int) := by omega
      have i1 : (k : Int) < (s.devs.length : Int) := by omega
      clear hx hAg hB hIf hRr d1 d2 d3 d4
      subst hA
      by_cases o1 : 8 < x.regs.length
      · have O1 := Lib.hid o1
        have e1 : (8 : Int) < (x.regs.length : Int) := by omega
        clear o1
        go_wp2
        go_ret
        exact ⟨by rw [← HBB.out, fits_dev (List.mem_of_getElem? HXX.out) ((over_val _).2 (.inl O1.out))]; rfl, HB.out.low⟩
      · have O1 := Lib.hid o1
        have e1 : (x.regs.length : Int) ≤ 8 := by omega
        clear o1
        by_cases o2 : 6 < x.needs.length
        · have O2 := Lib.hid o2
          have e2 : (6 : Int) < (x.needs.length : Int) := by omega
          clear o2
          go_wp2
          go_ret
          exact ⟨by rw [← HBB.out, fits_dev (List.mem_of_getElem? HXX.out) ((over_val _).2 (.inr O2.out))]; rfl, HB.out.low⟩
        · have O2 := Lib.hid o2
          have e2 : (x.needs.length : Int) ≤ 6 := by omega
          clear o2
          go_wp2
          go_roundw
          case measure => simp [intOf]; omega
          case rel =>
            refine ⟨k + 1, hlt, by go_num, HB.out, Lib.hid (fun j y hj hy => ?_)⟩
            by_cases hjk : j = k
            · subst hjk
              rw [HXX.out] at hy
              obtain rfl := Option.some.inj hy
              have n1 := O1.out
              have n2 := O2.out
              cases ho : overB x with
              | false => rfl
              | true => exact absurd ((over_val _).1 ho) (by omega)
            · exact HZ.out j y (by omega) hy
    · obtain rfl : k = s.devs.length := by omega
      clear hB
      go_wp2
      go_ret
      exact ⟨by rw [← HBB.out, fits_all H1.out H2.out H3.out H4.out (fun j y hy => HZ.out j y (List.getElem?_eq_some_iff.1 hy).1 hy)]; rfl, HB.out.low⟩
end

section
set_option linter.unusedSimpArgs false
set_option linter.unusedVariables false
open Go.RowKit Go.Maps

theorem firstE_flat (x a b c d r e f : Int) : firstE [x, firstE [a, b], firstE [c, d], r, firstE [e, f]] = firstE [x, a, b, c, d, r, e, f] := by
  simp only [firstE_cons, firstE_nil]
  by_cases h1 : x = 0 <;> by_cases h2 : a = 0 <;> by_cases h3 : b = 0 <;> by_cases h4 : c = 0 <;> by_cases h5 : d = 0 <;> by_cases h6 : e = 0 <;> by_cases h7 : f = 0 <;> simp [h1, h2, h3, h4, h5, h6, h7]
theorem rstE_val (r : Rst) : rstE r = if betw r.least 0 20 then 0 else 3 := by
  unfold rstE
  cases betw r.least 0 20 <;> simp [firstE_cons, firstE_nil, orE]
theorem chipE_flat (s : Chip) : chipE s = firstE [orE (fitsB s) 8, firstE [firstE (s.clks.map (clkE s.clks.length)), graphE (clksG s)], firstE [firstE (s.doms.map (domE s.doms.length)), graphE (domsG s)], firstE (s.rsts.map rstE), firstE [firstE (s.devs.map (devE s)), graphE (devsG s)]] := by
  rw [firstE_flat]; rfl

set_option maxRecDepth 100000 in
set_option maxHeartbeats 8000000 in
theorem rchip_check (s : Chip) (vs : List Value) (w : World) (hok : ChipOk s) (h : ChipV w w.heap.size s vs) : Calls Tryz.prog 25 #[.agg vs.toArray] w (ErrIs (chipE s) w) := by
  obtain ⟨E, hE⟩ : ∃ E, chipE s = E := ⟨_, rfl⟩
  rw [hE]
  rw [chipE_flat] at hE
  obtain ⟨EC, hEC⟩ : ∃ x, firstE [firstE (s.clks.map (clkE s.clks.length)), graphE (clksG s)] = x := ⟨_, rfl⟩
  obtain ⟨ED, hED⟩ : ∃ x, firstE [firstE (s.doms.map (domE s.doms.length)), graphE (domsG s)] = x := ⟨_, rfl⟩
  obtain ⟨ER, hER⟩ : ∃ x, firstE (s.rsts.map rstE) = x := ⟨_, rfl⟩
  obtain ⟨EV, hEV⟩ : ∃ x, firstE [firstE (s.devs.map (devE s)), graphE (devsG s)] = x := ⟨_, rfl⟩
  rw [hEC, hED, hER, hEV] at hE
  have HE := Lib.hid hE
  have HEC := Lib.hid hEC
  have HED := Lib.hid hED
  have HER := Lib.hid hER
  have HEV := Lib.hid hEV
  have HCV := Lib.hid h
  obtain ⟨A1, c1, A2, c2, A3, c3, A4, c4, rfl, l1, l2, l3, l4, k1, k2, k3, k4⟩ := h
  have HX := Lib.hid k3
  have hn := hok.n3
  have HOK := Lib.hid hok
  have hst := BxU.start w [.slice A1 s.clks.length c1, .slice A2 s.doms.length c2, .slice A3 s.rsts.length c3, .slice A4 s.devs.length c4]
  have HST := Lib.hid hst
  have HC0 := Lib.hid (hst.chip HCV.out)
  clear k1 k2 k3 k4 hE hEC hED hER hEV hok l1 l2 l3 l4 hst
  cases fb : fitsB s with
  | false =>
    have HF := Lib.hid fb
    clear fb
    go_enter Tryz.func25, Tryz.ntmps25
    go_wp2_with fail
    refine (rcounts_any s _ _ HOK.out HC0.out).mono ?_
    rintro e w1 ⟨rfl, hb⟩
    rw [HF.out]
    have HB1 := Lib.hid (HST.out.step hb)
    clear hb
    go_wp2
    go_ret
    refine ⟨?_, HB1.out.low⟩
    have he : E = 8 := by rw [← HE.out, HF.out, firstE_cons]; rfl
    rw [he]; rfl
  | true =>
    have HF := Lib.hid fb
    clear fb
    have HE1 : RowKit.Hid (firstE [EC, ED, ER, EV] = E) := by
      have := HE.out
      rw [HF.out, firstE_cons] at this
      exact Lib.hid this
    by_cases zc : EC = 0
    · have ZC := Lib.hid zc
      clear zc
      have HE2 : RowKit.Hid (firstE [ED, ER, EV] = E) := by
        have := HE1.out
        rw [ZC.out, firstE_cons] at this
        exact Lib.hid this
      by_cases zd : ED = 0
      · have ZD := Lib.hid zd
        clear zd
        have HE3 : RowKit.Hid (firstE [ER, EV] = E) := by
          have := HE2.out
          rw [ZD.out, firstE_cons] at this
          exact Lib.hid this
        go_enter Tryz.func25, Tryz.ntmps25
        go_wp2_with fail
        refine (rcounts_any s _ _ HOK.out HC0.out).mono ?_
        rintro e w1 ⟨rfl, hb⟩
        rw [HF.out]
        have hb1 := HST.out.step hb
        have HB1 := Lib.hid hb1
        have HC1 := Lib.hid (hb1.chip HCV.out)
        have x0 := hb1.box 0 _ rfl
        have x1 := hb1.box 1 _ rfl
        have x2 := hb1.box 2 _ rfl
        have x3 := hb1.box 3 _ rfl
        clear hb hb1
        go_wp2_with fail
        refine (rclks_any s _ _ HOK.out HC1.out).mono ?_
        rintro e w2 ⟨rfl, hb⟩
        rw [HEC.out, ZC.out]
        have hb2 := HB1.out.step hb
        have HB2 := Lib.hid hb2
        have HC2 := Lib.hid (hb2.chip HCV.out)
        clear x0 x1 x2 x3
        have x0 := hb2.box 0 _ rfl
        have x1 := hb2.box 1 _ rfl
        have x2 := hb2.box 2 _ rfl
        have x3 := hb2.box 3 _ rfl
        clear hb hb2
        go_wp2_with fail
        refine (rdomains_any s _ _ HOK.out HC2.out).mono ?_
        rintro e w3 ⟨rfl, hb⟩
        rw [HED.out, ZD.out]
        have hb3 := HB2.out.step hb
        have HB3 := Lib.hid hb3
        clear hb hb3 x0 x1 x2 x3
        go_wp2
        go_loopw [4] (fun i wr => ∃ k : Nat, k ≤ s.rsts.length ∧ i = .int .i64 k ∧ BxU w [.slice A1 s.clks.length c1, .slice A2 s.doms.length c2, .slice A3 s.rsts.length c3, .slice A4 s.devs.length c4] wr ∧ RowKit.Hid (∀ j y, j < k → s.rsts[j]? = some y → rstE y = 0)) (fun i _ => s.rsts.length - (intOf i).toNat)
        case atStart => exact ⟨0, Nat.zero_le _, rfl, HB3.out, Lib.hid (fun j y hj => absurd hj (by omega))⟩
        case round =>
          clear HC0 HC1 HC2 HB1 HB2 HB3 HST
          obtain ⟨k, hk, rfl, hB, HZ⟩ := hrel
          have x0 := hB.box 0 _ rfl
          have x1 := hB.box 1 _ rfl
          have x2 := hB.box 2 _ rfl
          have x3 := hB.box 3 _ rfl
          have HB := Lib.hid hB
          by_cases hlt : k < s.rsts.length
          · obtain ⟨ad, vs, hA, hab, hV, hAg⟩ := (hB.readsS HX.out).at_ hlt
            have hx := List.getElem?_eq_getElem hlt
            generalize s.rsts[k] = x at hx hV
            have HXX := Lib.hid hx
            have hV' : vs = _ := hV
            subst hV'
            have h0 := hAg.zero
            rw [Nat.mul_one] at h0
            have i0 : (0 : Int) ≤ (k : Int) := by omega
            have i1 : (k : Int) < (s.rsts.length : Int) := by omega
            clear hx hAg hB hV
            subst hA
            cases q : betw x.least 0 20 with
            | true =>
              have Q := Lib.hid q
              clear q
              go_wp2_with fail
              refine (rwithin_any _ _ _ _).mono ?_
              rintro e w' ⟨rfl, rfl⟩
              rw [Q.out]
              go_wp2
              go_roundw
              case measure => simp [intOf]; omega
              case rel =>
                refine ⟨k + 1, hlt, by go_num, HB.out, Lib.hid (fun j y hj hy => ?_)⟩
                by_cases hjk : j = k
                · subst hjk
                  rw [HXX.out] at hy
                  obtain rfl := Option.some.inj hy
                  rw [rstE_val, Q.out]; rfl
                · exact HZ.out j y (by omega) hy
            | false =>
              have Q := Lib.hid q
              clear q
              go_wp2_with fail
              refine (rwithin_any _ _ _ _).mono ?_
              rintro e w' ⟨rfl, rfl⟩
              rw [Q.out]
              go_wp2
              go_ret
              refine ⟨?_, HB.out.low⟩
              have he : E = 3 := by
                have hv : rstE x = 3 := by rw [rstE_val, Q.out]; rfl
                have hr : ER = 3 := by rw [← HER.out, firstE_at HXX.out HZ.out (by rw [hv]; decide), hv]
                rw [← HE3.out, hr, firstE_cons]; rfl
              rw [he]; rfl
          · obtain rfl : k = s.rsts.length := by omega
            have HCZ := Lib.hid (hB.chip HCV.out)
            clear hB
            go_wp2_with fail
            refine (rdevices_any s _ _ HOK.out HCZ.out).mono ?_
            rintro e w4 ⟨rfl, hb⟩
            rw [HEV.out]
            have HB4 := Lib.hid (HB.out.step hb)
            clear hb
            go_wp2
            go_ret
            refine ⟨?_, HB4.out.low⟩
            have he : E = EV := by
              have hr : ER = 0 := by rw [← HER.out]; exact firstE_all (fun i y hi => HZ.out i y (List.getElem?_eq_some_iff.1 hi).1 hi)
              rw [← HE3.out, hr, firstE_cons, firstE_cons, firstE_nil]
              by_cases hv : EV = 0
              · rw [hv]; rfl
              · simp [hv]
            rw [he]; rfl
      · have ZD := Lib.hid zd
        have zd' : (ED != 0) = true := by simpa using zd
        clear zd
        go_enter Tryz.func25, Tryz.ntmps25
        go_wp2_with fail
        refine (rcounts_any s _ _ HOK.out HC0.out).mono ?_
        rintro e w1 ⟨rfl, hb⟩
        rw [HF.out]
        have hb1 := HST.out.step hb
        have HB1 := Lib.hid hb1
        have HC1 := Lib.hid (hb1.chip HCV.out)
        have x0 := hb1.box 0 _ rfl
        have x1 := hb1.box 1 _ rfl
        have x2 := hb1.box 2 _ rfl
        have x3 := hb1.box 3 _ rfl
        clear hb hb1
        go_wp2_with fail
        refine (rclks_any s _ _ HOK.out HC1.out).mono ?_
        rintro e w2 ⟨rfl, hb⟩
        rw [HEC.out, ZC.out]
        have hb2 := HB1.out.step hb
        have HB2 := Lib.hid hb2
        have HC2 := Lib.hid (hb2.chip HCV.out)
        clear x0 x1 x2 x3
        have x0 := hb2.box 0 _ rfl
        have x1 := hb2.box 1 _ rfl
        have x2 := hb2.box 2 _ rfl
        have x3 := hb2.box 3 _ rfl
        clear hb hb2
        go_wp2_with fail
        refine (rdomains_any s _ _ HOK.out HC2.out).mono ?_
        rintro e w3 ⟨rfl, hb⟩
        rw [HED.out]
        have HB3 := Lib.hid (HB2.out.step hb)
        clear hb x0 x1 x2 x3
        go_wp2
        go_ret
        refine ⟨?_, HB3.out.low⟩
        have he : E = ED := by rw [← HE2.out, firstE_cons, if_neg ZD.out]
        rw [he]; rfl
    · have ZC := Lib.hid zc
      have zc' : (EC != 0) = true := by simpa using zc
      clear zc
      go_enter Tryz.func25, Tryz.ntmps25
      go_wp2_with fail
      refine (rcounts_any s _ _ HOK.out HC0.out).mono ?_
      rintro e w1 ⟨rfl, hb⟩
      rw [HF.out]
      have hb1 := HST.out.step hb
      have HB1 := Lib.hid hb1
      have HC1 := Lib.hid (hb1.chip HCV.out)
      have x0 := hb1.box 0 _ rfl
      have x1 := hb1.box 1 _ rfl
      have x2 := hb1.box 2 _ rfl
      have x3 := hb1.box 3 _ rfl
      clear hb hb1
      go_wp2_with fail
      refine (rclks_any s _ _ HOK.out HC1.out).mono ?_
      rintro e w2 ⟨rfl, hb⟩
      rw [HEC.out]
      have HB2 := Lib.hid (HB1.out.step hb)
      clear hb x0 x1 x2 x3
      go_wp2
      go_ret
      refine ⟨?_, HB2.out.low⟩
      have he : E = EC := by rw [← HE1.out, firstE_cons, if_neg ZC.out]
      rw [he]; rfl

theorem take_eq {xs ys : List Int} {k : Nat} (h : ∀ j, j < k → xs[j]? = ys[j]?) (hl : xs.length = k) (hl' : ys.length = k) : xs = ys := by
  refine List.ext_getElem? fun j => ?_
  rcases Nat.lt_or_ge j k with hj | hj
  · exact h j hj
  · rw [List.getElem?_eq_none (by omega), List.getElem?_eq_none (by omega)]
end

end Go.Proofs.YtlhmcpkfmnmhfaaGreat
