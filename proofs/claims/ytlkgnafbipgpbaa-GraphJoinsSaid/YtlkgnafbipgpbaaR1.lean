/- The document's own answers: the contract of catnapref3.order. -/
import Derived.Test.YtlkgnafbipgpbaaW5
import Derived.Deep.Cut
namespace Go.Proofs.Ytlkgnafbipgpbaa
open Go.RowKit Go.Maps

theorem Try.info4 : (Try.prog.info? 4).map (fun i => (i.zero, i.size, i.bytes)) = some (some (.bool false), 1, 1) := by kernel_rfl

/-- block d holds the bools f 0, f 1 .. -/
def BoolsAt (w : World) (d n : Nat) (f : Nat → Bool) : Prop := ∀ i, i < n → w.cell? ⟨d, i, none⟩ = some (.bool (f i)) ∧ w.frozen? ⟨d, i, none⟩ = false

theorem make_bools (n : Nat) (hn : n ≤ 1000000) (W : World) :
    (Instr.makeSlice 54 (.int .i64 (n : Int)) (.int .i64 (n : Int))).run Try.prog W = .ok (.slice (some ⟨W.heap.size, 0, none⟩) n n) (W.alloc (.cells (madeCells #[.bool false] n) 4)) := by
  obtain ⟨i0, hi, hz0, hz1, hz2⟩ := info_parts Try.info4
  have h := run_make (P := Try.prog) (w := W) 54 4 i0 (.bool false) Try.underlying54 hi hz0 .i64 .i64 (n : Int) (n : Int) (by omega) (by omega) (by rw [hz2]; omega) (by omega)
  simp only [Int.toNat_natCast, hz1, Nat.mul_one] at h
  exact h
theorem bools_new (n : Nat) (W : World) : BoolsAt (W.alloc (.cells (madeCells #[.bool false] n) 4)) W.heap.size n (fun _ => false) := by
  intro i hi
  have hh : (W.alloc (.cells (madeCells #[.bool false] n) 4)).heap[W.heap.size]? = some (.cells (madeCells #[.bool false] n) 4 (0, 0)) := heap_alloc_new W _
  refine ⟨?_, frozen_of_row _ _ _ _ _ hh⟩
  rw [cell_of_row _ _ i _ _ _ hh]
  simp [madeCells, hi, Nat.mod_one]
theorem BoolsAt.keep {w w' : World} {d n : Nat} {f : Nat → Bool} {B : Nat} (h : BoolsAt w d n f) (hb : Below B w w') (hd : d < B) : BoolsAt w' d n f := fun i hi =>
  ⟨(hb.cell (p := ⟨d, i, none⟩) hd).trans (h i hi).1, (hb.frozen (p := ⟨d, i, none⟩) hd).trans (h i hi).2⟩
theorem BoolsAt.congr {w : World} {d n : Nat} {f f' : Nat → Bool} (h : BoolsAt w d n f) (he : ∀ i, i < n → f i = f' i) : BoolsAt w d n f' := fun i hi => ⟨by rw [(h i hi).1, he i hi], (h i hi).2⟩
theorem BoolsAt.store {w : World} {d n k : Nat} {f f' : Nat → Bool} (h : BoolsAt w d n f) (hk : k < n) (b : Bool) (h1 : f' k = b) (h2 : ∀ i, i ≠ k → f' i = f i) : BoolsAt (w.setCell ⟨d, k, none⟩ (.bool b)) d n f' := by
  intro i hi
  refine ⟨?_, by rw [World.frozen?_setCell]; exact (h i hi).2⟩
  by_cases e : i = k
  · subst e
    rw [h1]
    exact World.cell?_setCell_same' _ _ _ (by rw [(h i hi).1]; rfl)
  · rw [h2 i e]
    exact (World.cell?_setCell_other w _ _ _ (fun h => e (by cases h; rfl))).trans (h i hi).1

def inL (o : List Nat) (i : Nat) : Bool := decide (i ∈ o)
theorem inL_iff {o : List Nat} {i : Nat} : inL o i = true ↔ i ∈ o := by unfold inL; simp
theorem inL_no {o : List Nat} {i : Nat} : inL o i = false ↔ i ∉ o := by unfold inL; simp

/-- ready, as far as the first j of its row are looked at -/
def rdB (o : List Nat) (k : Nat) (row : List Int) (j : Nat) : Bool := !inL o k && (row.take j).all fun x => inL o x.toNat
theorem rdB_zero {o : List Nat} {k : Nat} {row : List Int} : rdB o k row 0 = !inL o k := by simp [rdB]
theorem rdB_succ {o : List Nat} {k j : Nat} {row : List Int} {y : Nat} (h : row[j]? = some (y : Int)) : rdB o k row (j + 1) = (rdB o k row j && inL o y) := by
  unfold rdB
  rw [List.take_add_one, h]
  simp [Bool.and_assoc]
theorem rdB_ready {g : Nat → List Int} {n k : Nat} (hg : Closed g n) (hk : k < n) (o : List Nat) : rdB o k (g k) (g k).length = true ↔ ReadyI g (ci o) k := by
  unfold rdB ReadyI
  rw [List.take_length, Bool.and_eq_true, List.all_eq_true, Bool.not_eq_true', inL_no, mem_ci]
  constructor
  · rintro ⟨h1, h2⟩
    refine ⟨h1, fun x hx => ?_⟩
    obtain ⟨y, _, rfl⟩ := hg k hk x hx
    have := inL_iff.1 (h2 _ hx)
    rw [Int.toNat_natCast] at this
    exact mem_ci.2 this
  · rintro ⟨h1, h2⟩
    refine ⟨h1, fun x hx => ?_⟩
    obtain ⟨y, _, rfl⟩ := hg k hk x hx
    rw [Int.toNat_natCast]
    exact inL_iff.2 (mem_ci.1 (h2 _ hx))

theorem own_from {w : World} {base n c : Nat} {A : Option Addr} {xs : List Value} (h : w.ownsRow base 3 1 (.slice A n c) n xs) : ∀ ad, A = some ad → base ≤ ad.block := fun ad e => by
  subst e
  exact (h.lt ad.block rfl).1
theorem own_apart {w w' : World} {base n q : Nat} {v : Value} {xs : List Value} (h : w.ownsRow base 3 1 v n xs) (hg : w.grownBy w' (some q)) (hq : q < base) : w'.ownsRow base 3 1 v n xs :=
  h.kept hg (by
    cases hob : v.ownBlock with
    | none => exact .inl rfl
    | some k => exact .inr (fun e => by injection e with e; have := (h.lt k hob).1; omega))
theorem grown_setR {w w' : World} {gw : Nat} (h : w.grownBy w' (some gw)) (p : Addr) (hp : p.block = gw) (u : Value) : w.grownBy (w'.setCell p u) (some gw) := grown_setCell h p hp u

set_option maxRecDepth 100000 in
set_option maxHeartbeats 8000000 in
theorem rorder_any (A : Option Addr) (n c : Nat) (g : Nat → List Int) (w : World) (hn : n ≤ 1000) (hl : ∀ i, i < n → (g i).length ≤ 1000000) (hg : Closed g n) (h : RowsAt w w.heap.size A n g) :
    Calls Try.prog 26 #[.slice A n c] w (HadOut n g w) := by
  have hmk := make_bools n (by omega)
  obtain ⟨i0, hi, hi0, hi1, hi2⟩ := info_parts Try.info3
  have HL := Lib.hid hl
  have HC := Lib.hid hg
  have HR := Lib.hid h
  clear hl hg h
  go_enter Try.func26, Try.ntmps26
  go_wp2_with fail
  have hbd := Lib.hid (bools_new n w)
  have hb0 : Below w.heap.size w (w.alloc (.cells (madeCells #[.bool false] n) 4)) := (Below.refl _ w).alloc (Nat.le_refl _) _
  go_loopg [3, 5] (2 * n + 1) (fun gg s3 s5 wr => ∃ (o : List Nat) (m : Bool), Greedy g n o ∧ s5 = .bool m ∧ (2 * (n - o.length) + (if m then 1 else 0) ≤ gg) ∧ wr.ownsRow (w.heap.size + 1) 3 1 s3 o.length (iv (ci o)) ∧ BoolsAt wr w.heap.size n (inL o) ∧ Below w.heap.size w wr ∧ w.heap.size + 1 ≤ wr.heap.size ∧
    (m = false → ∀ u, u < n → ¬ ReadyI g (ci o) u))
  case atStart => exact ⟨[], true, .nil, rfl, by simp, World.ownsRow_nil _ _ _ _, hbd.out.congr (fun i _ => by simp [inL]), hb0, by simp, fun e => by cases e⟩
  case round =>
    obtain ⟨o, m, ho, rfl, hgg, hown, hbo, hB, hz, hm⟩ := hrel
    have HO := Lib.hid ho
    have HOwn := Lib.hid hown
    have HBo := Lib.hid hbo
    have HM := Lib.hid hm
    have hlen := ho.length_le
    clear ho hown hbo hm
    cases m with
    | false =>
      have hno : ∀ u, u < n → ¬ ReadyI g (ci o) u := HM.out rfl
      have HNO := Lib.hid hno
      clear hno HM
      go_wp2_with fail
      go_ret
      exact ⟨o, _, ⟨HO.out, HNO.out⟩, rfl, own_base HOwn.out (by omega), hB⟩
    | true =>
      have hgg' : 2 * (n - o.length) + 1 ≤ gk := hgg
      clear hgg HM
      go_wp2_with fail
      go_loopg [3, 5, 6] n (fun gg2 s3 s5 s6 wr2 => ∃ (k : Nat) (b : Bool) (o2 : List Nat), k ≤ n ∧ s6 = .int .i64 k ∧ s5 = .bool b ∧ n - k ≤ gg2 ∧ Greedy g n o2 ∧ wr2.ownsRow (w.heap.size + 1) 3 1 s3 o2.length (iv (ci o2)) ∧ BoolsAt wr2 w.heap.size n (inL o2) ∧ Below w.heap.size w wr2 ∧
        w.heap.size + 1 ≤ wr2.heap.size ∧ (b = true → o2.length = o.length + 1) ∧ (b = false → o2 = o ∧ ∀ u, u < k → ¬ ReadyI g (ci o) u))
      case atStart => exact ⟨0, false, o, Nat.zero_le _, rfl, rfl, by omega, HO.out, HOwn.out, HBo.out, hB, hz, (fun e => by cases e), fun _ => ⟨rfl, fun u hu => absurd hu (by omega)⟩⟩
      case round =>
        obtain ⟨k, b, o2, hk, rfl, rfl, hg2, ho2, hown2, hbo2, hB2, hz2, hb1, hb2⟩ := hrel
        have HO2 := Lib.hid ho2
        have HOwn2 := Lib.hid hown2
        have HBo2 := Lib.hid hbo2
        have hlen2 := ho2.length_le
        clear ho2 hown2 hbo2
        cases b with
        | true =>
          have hol : o2.length = o.length + 1 := hb1 rfl
          have hol1 : o.length + 1 ≤ o2.length := by omega
          have hol2 : o2.length ≤ o.length + 1 := by omega
          clear hb1 hb2 hol
          by_cases hlt : k < n
          all_goals
            go_wp2_with fail
            go_roundg (2 * (n - o2.length) + 1)
            case measure => omega
            case rel => exact ⟨o2, true, HO2.out, rfl, by simp, HOwn2.out, HBo2.out, hB2, hz2, fun e => by cases e⟩
        | false =>
          have hoo : o2 = o := (hb2 rfl).1
          subst hoo
          have HNO := Lib.hid (hb2 rfl).2
          clear hb1 hb2
          by_cases hlt : k < n
          · obtain ⟨adg, Ak, ck, hA, _, hck, _, hIk⟩ := (HR.out.below hB2 (Nat.le_refl _)).at_ hlt
            have hlk := HL.out k hlt
            have HIk := Lib.hid hIk
            subst hA
            obtain ⟨hdc, hdf⟩ := HBo2.out k hlt
            have hready := rdB_ready HC.out hlt o2
            have HRD := Lib.hid hready
            clear hIk hready
            go_wp2_with fail
            go_loop [7, 8] (fun s7 s8 => ∃ j : Nat, j ≤ (g k).length ∧ s8 = .int .i64 j ∧ s7 = .bool (rdB o2 k (g k) j)) (fun _ s8 => (g k).length - (intOf s8).toNat)
            case atStart => exact ⟨0, Nat.zero_le _, rfl, by rw [rdB_zero]⟩
            case round =>
              obtain ⟨j, hj, rfl, rfl⟩ := hrel
              by_cases hlj : j < (g k).length
              · obtain ⟨ad, hA, _, hx⟩ := HIk.out.at_ hlj
                obtain ⟨y, hy, hxy⟩ := HC.out k hlt _ (List.getElem_mem hlj)
                rw [hxy] at hx
                have hs : rdB o2 k (g k) (j + 1) = (rdB o2 k (g k) j && inL o2 y) := rdB_succ (by rw [List.getElem?_eq_getElem hlj, hxy])
                have HS := Lib.hid hs
                obtain ⟨hyc, _⟩ := HBo2.out y hy
                subst hA
                clear hxy hs
                cases hr : rdB o2 k (g k) j with
                | true =>
                  have HRr := Lib.hid hr
                  clear hr
                  go_wp2_with fail
                  go_round
                  case rel => exact ⟨j + 1, by omega, by go_num, by rw [HS.out, HRr.out, Bool.true_and]⟩
                  case measure => simp [intOf]; omega
                | false =>
                  have HRr := Lib.hid hr
                  clear hr
                  go_wp2_with fail
                  go_round
                  case rel => exact ⟨j + 1, by omega, by go_num, by rw [HS.out, HRr.out, Bool.false_and]⟩
                  case measure => simp [intOf]; omega
              · obtain rfl : j = (g k).length := by omega
                cases hr : rdB o2 k (g k) (g k).length with
                | true =>
                  have HRr := Lib.hid hr
                  clear hr
                  have hgs : wr.grownBy (wr.setCell ⟨w.heap.size, k, none⟩ (.bool true)) (some w.heap.size) := grown_setR (World.grownBy.refl _ _) _ rfl _
                  have HOwnS := Lib.hid (own_apart HOwn2.out hgs (Nat.lt_succ_self _))
                  have hrk := HRD.out.1 HRr.out
                  have HRK := Lib.hid hrk
                  have HBS := Lib.hid (HBo2.out.store (f' := inL (o2 ++ [k])) hlt true (inL_iff.2 (by simp)) (fun i hi => by rw [Bool.eq_iff_iff, inL_iff, inL_iff]; simp [hi]))
                  have hBS : Below w.heap.size w (wr.setCell ⟨w.heap.size, k, none⟩ (.bool true)) := hB2.grown hgs (by omega) (fun q hq => by injection hq with hq; omega)
                  have hzS : (wr.setCell ⟨w.heap.size, k, none⟩ (.bool true)).heap.size = wr.heap.size := by simp [World.setCell]
                  have hone := cell_one_new (wr.setCell ⟨w.heap.size, k, none⟩ (.bool true)) (.int .i64 (k : Int)) 3
                  rw [hzS] at hone
                  have HONE := Lib.hid hone
                  clear hrk hone
                  go_wp2_with (at_builtin; (refine wpList_append_own _ rfl _ _ 25 rfl (w.heap.size + 1) 3 i0 (.int .i64 0) 1 8 Try.underlying25 hi hi0 hi1 hi2 rfl (by decide) _ _ _ rfl (HOwnS.out.alloc _) ⟨wr.heap.size, 0, none⟩ 1 1 [.int .i64 (k : Int)] rfl rfl HONE.out (iv_one [(k : Int)]) (by unfold maxLen; omega) (by omega) (by rw [World.size_alloc, hzS]; omega) ?_); intro v6 w6 hown6 hg6 _)
                  have hlt6 := fun q hq => (HOwnS.out.lt q hq).1
                  have hbb6 : Below (w.heap.size + 1) (wr.setCell ⟨w.heap.size, k, none⟩ (.bool true)) w6 := ((Below.refl _ _).alloc (by omega) _).grown hg6 (by rw [World.size_alloc]; omega) (fun q hq => hlt6 q hq)
                  have hs6 := hbb6.size
                  have hG6 : Greedy g n (o2 ++ [k]) := .snoc HO2.out hlt HRK.out HNO.out
                  have hl6 := hG6.length_le
                  have hel : (o2 ++ [k]).length = o2.length + 1 := by simp
                  have hown6' : w6.ownsRow (w.heap.size + 1) 3 1 v6 (o2 ++ [k]).length (iv (ci (o2 ++ [k]))) := by
                    rw [ci_append, List.length_append]
                    simpa [iv, ci] using hown6
                  have HOwn6 := Lib.hid hown6'
                  clear hown6 hown6' hlt6
                  go_roundg (n - (k + 1))
                  case measure => omega
                  case rel => exact ⟨k + 1, true, o2 ++ [k], by omega, by go_num, rfl, Nat.le_refl _, hG6, HOwn6.out, HBS.out.keep hbb6 (Nat.lt_succ_self _), hBS.trans (hbb6.mono (by omega)), by omega, (fun _ => hel), (fun e => by cases e)⟩
                | false =>
                  have HRr := Lib.hid hr
                  clear hr
                  go_wp2_with fail
                  go_roundg (n - (k + 1))
                  case measure => omega
                  case rel => exact ⟨k + 1, false, o2, by omega, by go_num, rfl, Nat.le_refl _, HO2.out, HOwn2.out, HBo2.out, hB2, hz2, (fun e => by cases e), fun _ => ⟨rfl, fun u hu hru => by
                    by_cases e : u = k
                    · subst e
                      have := HRD.out.2 hru
                      rw [HRr.out] at this
                      cases this
                    · exact HNO.out u (by omega) hru⟩⟩
          · go_wp2_with fail
            go_roundg (2 * (n - o2.length))
            case measure => omega
            case rel => exact ⟨o2, false, HO2.out, rfl, by simp, HOwn2.out, HBo2.out, hB2, hz2, fun _ u hu => HNO.out u (by omega)⟩

end Go.Proofs.Ytlkgnafbipgpbaa
