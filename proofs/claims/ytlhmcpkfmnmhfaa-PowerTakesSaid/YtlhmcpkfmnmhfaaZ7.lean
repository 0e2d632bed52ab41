/- slices.Reverse of ints that the call owns; Chain. -/
import Derived.Test.YtlhmcpkfmnmhfaaZ6
namespace Go.Proofs.Ytlhmcpkfmnmhfaa
set_option linter.unusedSimpArgs false
set_option linter.unusedVariables false
open Go.RowKit Go.Maps

def RevTo (xs : List Int) (k : Nat) (ys : List Int) : Prop := ys.length = xs.length ∧ ∀ j, j < xs.length → ys[j]? = if j < k ∨ xs.length ≤ j + k then xs[xs.length - 1 - j]? else xs[j]?
theorem RevTo.zero (xs : List Int) : RevTo xs 0 xs := ⟨rfl, fun j hj => by rw [if_neg (by omega)]⟩
theorem RevTo.done {xs ys : List Int} {k : Nat} (h : RevTo xs k ys) (hk : xs.length ≤ k + k + 1) : ys = xs.reverse := by
  refine List.ext_getElem? fun j => ?_
  rcases Nat.lt_or_ge j xs.length with hj | hj
  · rw [h.2 j hj, List.getElem?_reverse hj]
    by_cases hc : j < k ∨ xs.length ≤ j + k
    · rw [if_pos hc]
    · rw [if_neg hc]
      congr 1
      omega
  · rw [List.getElem?_eq_none (by have := h.1; omega), List.getElem?_eq_none (by simpa using hj)]
theorem RevTo.step {xs ys : List Int} {k m : Nat} {a b : Int} (h : RevTo xs k ys) (hm : k + m + 1 = xs.length) (hlt : k < m) (ha : ys[k]? = some a) (hb : ys[m]? = some b) : RevTo xs (k + 1) ((ys.set k b).set m a) := by
  have hl := h.1
  refine ⟨by simp [hl], fun j hj => ?_⟩
  have ea := h.2 k (by omega)
  have eb := h.2 m (by omega)
  rw [if_neg (by omega), ha] at ea
  rw [if_neg (by omega), hb] at eb
  by_cases e1 : j = m
  · subst e1
    rw [List.getElem?_set_self (by simp; omega), if_pos (by omega), ea]
    congr 1
    omega
  · rw [List.getElem?_set_ne (Ne.symm e1)]
    by_cases e2 : j = k
    · subst e2
      rw [List.getElem?_set_self (by omega), if_pos (by omega), eb]
      congr 1
      omega
    · rw [List.getElem?_set_ne (Ne.symm e2), h.2 j hj]
      by_cases hc : j < k ∨ xs.length ≤ j + k
      · rw [if_pos hc, if_pos (by omega)]
      · rw [if_neg hc, if_neg (by omega)]

/-- what Reverse leaves -/
def Reverses (B : Nat) (v : Value) (n : Nat) (xs : List Int) (w : World) (e : Ending) (w' : World) : Prop := (∃ r, e = .returned r) ∧ w'.ownsRow B 3 1 v n (iv xs.reverse) ∧ Moved v.ownBlock.toList w w'
theorem iv_set (xs : List Int) (k : Nat) (b : Int) : (iv xs).set k (.int .i64 b) = iv (xs.set k b) := by simp [iv, List.map_set]

theorem Moved.drew {H : List Nat} {w w' : World} (h : Moved H w w') : Moved H w w'.drew := ⟨h.os, h.tape, h.output, h.size, h.block⟩
set_option maxRecDepth 100000 in
set_option maxHeartbeats 2000000 in
theorem reverse_any (B n c : Nat) (A : Option Addr) (xs : List Int) (w : World) (hn : n ≤ 1000) (hx : xs.length = n) (h : w.ownsRow B 3 1 (.slice A n c) n (iv xs)) :
    Calls Try.prog 27 #[.slice A n c] w (Reverses B (.slice A n c) n xs w) := by
  by_cases h0 : n = 0
  · subst h0
    have hxs : xs = [] := List.length_eq_zero_iff.1 hx
    subst hxs
    have H := Lib.hid h
    clear h hx
    go_enter Try.func27, Try.ntmps27
    go_wp2
    go_loopw [2, 3] (fun i j wr => i = .int .i64 0 ∧ j = .int .i64 (-1) ∧ wr = w) (fun _ _ _ => 0)
    case atStart => exact ⟨rfl, rfl, rfl⟩
    case round =>
      obtain ⟨rfl, rfl, rfl⟩ := hrel
      go_wp2
      go_end0
      exact ⟨⟨_, rfl⟩, H.out, Moved.refl _ _⟩
  · have hp : 0 < n := by omega
    obtain ⟨g, cap, e, hg1, hg2⟩ := World.ownsRow.form h hp
    injection e with e1 _ e3
    subst e1 e3
    have H := Lib.hid h
    have HX := Lib.hid hx
    clear h hx h0
    go_enter Try.func27, Try.ntmps27
    go_wp2
    go_loopw [2, 3] (fun i j wr => ∃ (k m : Nat) (ys : List Int), k + m + 1 = n ∧ i = .int .i64 k ∧ j = .int .i64 m ∧ RowKit.Hid (RevTo xs k ys) ∧ RowKit.Hid (wr.ownsRow B 3 1 (.slice (some ⟨g, 0, none⟩) n c) n (iv ys)) ∧ RowKit.Hid (Moved [g] w wr)) (fun i _ _ => n - (intOf i).toNat)
    case atStart => exact ⟨0, n - 1, xs, by omega, rfl, by rw [show ((n - 1 : Nat) : Int) = (n : Int) - 1 by omega], Lib.hid (RevTo.zero xs), H, Lib.hid (Moved.refl _ _)⟩
    case round =>
      obtain ⟨k, m, ys, hkm, rfl, rfl, HR, HO, HM⟩ := hrel
      by_cases hlt : k < m
      · have hyl : ys.length = n := HR.out.1.trans HX.out
        have hka := List.getElem?_eq_getElem (l := ys) (i := k) (by omega)
        have hma := List.getElem?_eq_getElem (l := ys) (i := m) (by omega)
        generalize ys[k] = a at hka
        generalize ys[m] = b at hma
        have ck : wr.cell? ⟨g, k, none⟩ = some (.int .i64 a) := by
          rw [HO.out.cellAt _ (by omega)]
          exact iv_get hka
        have cm : wr.cell? ⟨g, m, none⟩ = some (.int .i64 b) := by
          rw [HO.out.cellAt _ (by omega)]
          exact iv_get hma
        have fk : wr.frozen? ⟨g, k, none⟩ = false := HO.out.frozenAt _
        have fm : wr.frozen? ⟨g, m, none⟩ = false := HO.out.frozenAt _
        have o1 := (HO.out.stored k (.int .i64 b)).1
        rw [iv_set] at o1
        have o2 := (o1.stored m (.int .i64 a)).1
        rw [iv_set] at o2
        have HO2 := Lib.hid o2
        have HR2 := Lib.hid (HR.out.step (by rw [HX.out]; exact hkm) hlt hka hma)
        have i0 : (0 : Int) ≤ (k : Int) := by omega
        have i1 : (k : Int) < (n : Int) := by omega
        have j0 : (0 : Int) ≤ (m : Int) := by omega
        have j1 : (m : Int) < (n : Int) := by omega
        have hne : k ≠ m := by omega
        have hne' : m ≠ k := by omega
        clear o1 o2 hka hma hyl HO HR
        go_wp2
        go_region
        all_goals
          go_wp2
          go_roundw
          case measure => simp [intOf]; omega
          case rel => exact ⟨k + 1, m - 1, _, by omega, by go_num, by rw [show ((m - 1 : Nat) : Int) = (m : Int) - 1 by omega], HR2, Lib.hid HO2.out.drew, Lib.hid (HM.out.trans ((Moved.setCell (hot := [g]) _ (p := ⟨g, k, none⟩) (by simp) _).trans (Moved.setCell (hot := [g]) _ (p := ⟨g, m, none⟩) (by simp) _))).drew⟩
      · go_wp2
        go_end0
        refine ⟨⟨_, rfl⟩, ?_, HM.out⟩
        have hd := HR.out.done (by rw [HX.out]; omega)
        have ho := HO.out
        rw [hd] at ho
        exact ho

/-- each domain is below a lesser one, or none -/
def Desc (sts : List Pst) : Prop := ∀ (k : Nat) (x : Pst), sts[k]? = some x → x.dom.above = -1 ∨ (0 ≤ x.dom.above ∧ x.dom.above < (k : Int))
def aboveI (sts : List Pst) (i : Int) : Int := atP sts i (fun x => x.dom.above) (-1)
def upsP (sts : List Pst) : Nat → Int → List Int
  | 0, _ => []
  | f + 1, i => if hasB sts.length i = true then i :: upsP sts f (aboveI sts i) else []
/-- a domain, and all above it, one behind the other -/
def upsF (sts : List Pst) (i : Int) : List Int := upsP sts (i.toNat + 1) i
theorem upsF_no {sts : List Pst} {i : Int} (h : hasB sts.length i = false) : upsF sts i = [] := by unfold upsF upsP; simp [h]
theorem upsP_more {sts : List Pst} (hd : Desc sts) : ∀ (f : Nat) (i : Int), i.toNat + 1 ≤ f → upsP sts f i = upsF sts i := by
  intro f
  induction f using Nat.strongRecOn with
  | _ f ih =>
    intro i hf
    cases hb : hasB sts.length i with
    | false =>
      rw [upsF_no hb]
      cases f with
      | zero => rfl
      | succ f => unfold upsP; simp [hb]
    | true =>
      obtain ⟨k, x, rfl, hx⟩ := hasB_ex hb
      cases f with
      | zero => omega
      | succ f =>
        unfold upsF
        unfold upsP
        rw [if_pos hb, if_pos hb]
        congr 1
        have ha : aboveI sts (k : Int) = x.dom.above := atP_at hx _ _
        rw [ha]
        rcases hd k x hx with h | ⟨h1, h2⟩
        · have hn : hasB sts.length x.dom.above = false := by unfold hasB; simp; omega
          have e : ∀ f, upsP sts f x.dom.above = [] := by
            intro f
            cases f with
            | zero => rfl
            | succ f => unfold upsP; simp [hn]
          rw [e, e]
        · have hk : (k : Int).toNat = k := by omega
          rw [hk] at hf ⊢
          rw [ih f (by omega) x.dom.above (by omega)]
          cases k with
          | zero => omega
          | succ k => exact (ih (k + 1) (by omega) x.dom.above (by omega)).symm
theorem upsF_yes {sts : List Pst} (hd : Desc sts) {k : Nat} {x : Pst} (hx : sts[k]? = some x) : upsF sts (k : Int) = (k : Int) :: upsF sts x.dom.above := by
  have ha : aboveI sts (k : Int) = x.dom.above := atP_at hx _ _
  have hk : (k : Int).toNat = k := by omega
  conv => lhs; unfold upsF upsP
  rw [if_pos (hasB_at hx), ha, hk]
  congr 1
  rcases hd k x hx with h | ⟨h1, h2⟩
  · have hn : hasB sts.length x.dom.above = false := by unfold hasB; simp; omega
    rw [upsF_no hn]
    cases k with
    | zero => rfl
    | succ k => unfold upsP; simp [hn]
  · exact upsP_more hd k x.dom.above (by omega)
theorem upsP_len (sts : List Pst) : ∀ (f : Nat) (i : Int), (upsP sts f i).length ≤ f := by
  intro f
  induction f with
  | zero => intro i; simp [upsP]
  | succ f ih =>
    intro i
    unfold upsP
    split
    · simp; exact ih _
    · simp
theorem upsF_len (sts : List Pst) (i : Int) : (upsF sts i).length ≤ sts.length := by
  cases hb : hasB sts.length i with
  | false => rw [upsF_no hb]; simp
  | true =>
    have h := upsP_len sts (i.toNat + 1) i
    unfold hasB at hb
    simp at hb
    unfold upsF
    omega
def chainP (sts : List Pst) (i : Int) : List Int := (upsF sts i).reverse
def ChainIs (w : World) (l : List Int) (e : Ending) (w' : World) : Prop := ∃ A c, e = .returned (.slice A l.length c) ∧ w'.ownsRow w.heap.size 3 1 (.slice A l.length c) l.length (iv l) ∧ Below w.heap.size w w'

structure ChS (w wr : World) (sts : List Pst) (i cur : Int) (A : Option Addr) (m c : Nat) (acc : List Int) : Prop where
  len : acc.length = m
  own : wr.ownsRow w.heap.size 3 1 (.slice A m c) m (iv acc)
  eq : acc ++ upsF sts cur = upsF sts i
  bel : Below w.heap.size w wr

set_option maxRecDepth 100000 in
set_option maxHeartbeats 2000000 in
theorem chain_any (gt g c : Nat) (sts : List Pst) (i : Int) (w : World) (hn : sts.length ≤ 500) (hi : wfI i) (h : GridIs w gt g c sts) (hd : Desc sts) :
    Calls Try.prog 17 #[.pointer (some ⟨gt, 0, none⟩), .int .i64 i] w (ChainIs w (chainP sts i)) := by
  have H := Lib.hid h
  have HD := Lib.hid hd
  obtain ⟨N, hN⟩ : ∃ N, N = sts.length := ⟨_, rfl⟩
  have HN := Lib.hid hN
  rw [hN.symm] at hn
  clear h hd hN
  go_enter Try.func17, Try.ntmps17
  go_wp2
  go_loopw [1, 5] (fun d v wr => ∃ (cur : Int) (acc : List Int) (A : Option Addr) (m c : Nat), d = .int .i64 cur ∧ v = .slice A m c ∧ RowKit.Hid (ChS w wr sts i cur A m c acc)) (fun d _ _ => (intOf d + 1).toNat)
  case atStart => exact ⟨i, [], none, 0, 0, rfl, rfl, Lib.hid ⟨rfl, World.ownsRow_nil _ _ _ _, by simp, Below.refl _ _⟩⟩
  case round =>
    obtain ⟨cur, acc, A, m, cm, rfl, rfl, HC⟩ := hrel
    have hlen : m ≤ N := by
      have h1 := congrArg List.length HC.out.eq
      have h2 := upsF_len sts i
      rw [List.length_append, HC.out.len] at h1
      rw [HN.out]
      omega
    have HGR := Lib.hid (H.out.move (Moved.of_below HC.out.bel))
    cases hb : hasB sts.length cur with
    | true =>
      obtain ⟨k, x, rfl, hx⟩ := hasB_ex hb
      have hlt := (List.getElem?_eq_some_iff.1 hx).1
      rw [← HN.out] at hlt
      have hup := upsF_yes HD.out hx
      have hac := HC.out.eq
      have ha := HD.out k x hx
      have v0 : ∀ W, Below wr.heap.size wr W → W.cell? ⟨g, k * 6, none⟩ = some (.int .i64 x.dom.above) := fun W hW => ((HGR.out.move (Moved.of_below hW)).at_ hx 0 _ rfl).1
      have b0 : ∀ W, Below wr.heap.size wr W → W.cell? ⟨gt, 0, none⟩ = some (.slice (some ⟨g, 0, none⟩) N c) := fun W hW => by rw [HN.out]; exact ((HGR.out.move (Moved.of_below hW)).box 0 _ rfl).1
      have HV := Lib.hid v0
      have HB0 := Lib.hid b0
      obtain ⟨a, haa⟩ : ∃ a, x.dom.above = a := ⟨_, rfl⟩
      rw [haa] at hup ha
      have HAA := Lib.hid haa
      have HXX := Lib.hid hx
      have HUP := Lib.hid hup
      have HAC := Lib.hid hac
      have HA := Lib.hid ha
      have HBB := Lib.hid hb
      have i0 : (0 : Int) ≤ (k : Int) := by omega
      have i1 : (k : Int) < (N : Int) := by omega
      have hown : (wr.alloc (.cells #[.int .i64 (k : Int)] 3)).ownsRow w.heap.size 3 1 (.slice A m cm) m (iv acc) := own_move HC.out.own fun g hg => (Moved.alloc (hot := []) wr _).block g (HC.out.own.lt g hg).2 (by simp)
      have HOWN := Lib.hid hown
      have hsz := HC.out.bel.size
      obtain ⟨i3, hi3, hz0, hzs, hzb⟩ := info_parts Try.info3
      clear hb hx hup hac ha haa v0 b0 hown
      go_wp2_with fail
      refine (has_any gt _ _ _ (k : Int) wr HGR.out.box).mono ?_
      rintro e w' ⟨rfl, rfl⟩
      rw [HBB.out]
      go_wp2_with (at_builtin; refine wpList_append_own_at _ rfl _ _ 22 rfl w.heap.size 3 i3 (.int .i64 0) 1 8 Try.underlying22 hi3 hz0 hzs hzb rfl (by decide) _ _ _ rfl HOWN.out ⟨wr.heap.size, 0, none⟩ 1 1 [.int .i64 (k : Int)] rfl rfl (cells_new wr wr.heap.size rfl _ 3) (by intro u hu; simp at hu; subst hu; rfl) (by unfold maxLen; omega) (by omega) (by simp; omega) ?_; intro v6 w6 hown6 hg6 _ hob6; obtain ⟨A6, c6, rfl⟩ := own_shape' hown6; have hmg : Moved (Value.slice A m cm).ownBlock.toList wr w6 := (Moved.alloc wr _).trans (Moved.of_grown (hot := (Value.slice A m cm).ownBlock.toList) (row := (Value.slice A m cm).ownBlock) hg6 (by simp)); have HOWN6 := Lib.hid hown6; have HMG := Lib.hid hmg; have hg7 := H.out.move (Moved.of_below (HC.out.bel.trans (hmg.below (B := w.heap.size) (fun b hb => (HOWN.out.lt b (by simpa using hb)).1) hsz))); have y0 := (hg7.box 0 _ rfl).1; rw [← HN.out] at y0; have y1 : w6.cell? ⟨g, k * 6, none⟩ = some (.int .i64 a) := (by rw [← HAA.out]; exact (hg7.at_ HXX.out 0 _ rfl).1); clear hown6 hg6 hob6 hmg hg7)
      go_roundw
      case rel =>
        refine ⟨a, acc ++ [(k : Int)], A6, m + 1, c6, rfl, rfl, Lib.hid ⟨?_, ?_, ?_, ?_⟩⟩
        · rw [List.length_append, HC.out.len]; rfl
        · rw [iv_snoc]; exact HOWN6.out
        · rw [List.append_assoc, ← HAC.out, HUP.out]; rfl
        · exact HC.out.bel.trans (HMG.out.below (B := w.heap.size) (fun b hb => (HOWN.out.lt b (by simpa using hb)).1) hsz)
      case measure =>
        have := HA.out
        simp [intOf]
        omega
    | false =>
      have HBB := Lib.hid hb
      have hac := HC.out.eq
      rw [upsF_no hb, List.append_nil] at hac
      have HAC := Lib.hid hac
      clear hb hac
      go_wp2_with fail
      refine (has_any gt _ _ _ cur wr HGR.out.box).mono ?_
      rintro e w' ⟨rfl, rfl⟩
      rw [HBB.out]
      go_wp2_with fail
      refine (reverse_any w.heap.size m cm A acc wr (by omega) HC.out.len HC.out.own).mono ?_
      rintro e w6 ⟨⟨r, rfl⟩, ho6, hm6⟩
      have HO6 := Lib.hid ho6
      have HM6 := Lib.hid hm6
      clear ho6 hm6
      go_wp2
      go_ret
      have hl : (chainP sts i).length = m := by unfold chainP; rw [List.length_reverse, ← HAC.out, HC.out.len]
      have hc : chainP sts i = acc.reverse := by unfold chainP; rw [HAC.out]
      refine ⟨A, cm, by rw [hl]; rfl, ?_, ?_⟩
      · rw [hl, hc]; exact HO6.out
      · exact HC.out.bel.trans (HM6.out.below (B := w.heap.size) (fun b hb => (HC.out.own.lt b (by simpa using hb)).1) HC.out.bel.size)

end Go.Proofs.Ytlhmcpkfmnmhfaa
