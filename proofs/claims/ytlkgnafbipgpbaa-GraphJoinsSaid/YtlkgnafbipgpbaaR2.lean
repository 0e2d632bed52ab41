/- The document's own answers: the contracts of catnapref3.Check and catnapref3.Order. -/
import Derived.Test.YtlkgnafbipgpbaaR1
namespace Go.Proofs.Ytlkgnafbipgpbaa
open Go.RowKit Go.Maps

theorem closedR {n : Nat} {g : Nat → List Int} (h : closedB n g = true) : Closed g n := fun i hi x hx => by
  obtain ⟨h1, h2⟩ := closedB_iff.1 h i hi x hx
  exact ⟨x.toNat, by omega, by omega⟩

set_option maxRecDepth 100000 in
set_option maxHeartbeats 4000000 in
theorem rcheck_any (A : Option Addr) (n c : Nat) (g : Nat → List Int) (w : World) (hn : n ≤ 1000) (hl : ∀ i, i < n → (g i).length ≤ 1000000) (h : RowsAt w w.heap.size A n g) :
    Calls Try.prog 19 #[.slice A n c] w (ErrOut (fun E => ∃ o, OrderSays n g E o) w) := by
  have HL := Lib.hid hl
  clear hl
  by_cases h1 : n ≤ 100
  · go_enter Try.func19, Try.ntmps19
    go_wp2_with fail
    go_loop [3] (fun i => ∃ k : Nat, k ≤ n ∧ i = .int .i64 k ∧ ∀ i, i < k → ∀ x, x ∈ g i → 0 ≤ x ∧ x < n) (fun i => n - (intOf i).toNat)
    case atStart => exact ⟨0, Nat.zero_le _, rfl, fun j hj => absurd hj (by omega)⟩
    case round =>
      obtain ⟨k, hk, rfl, hok⟩ := hrel
      have HOK := Lib.hid hok
      clear hok
      by_cases hlt : k < n
      · obtain ⟨ad, Ak, ck, hA, _, hc, _, hr⟩ := h.at_ hlt
        have hlen := HL.out k hlt
        subst hA
        go_wp2_with fail
        go_loop [4] (fun i => ∃ j : Nat, j ≤ (g k).length ∧ i = .int .i64 j ∧ ∀ q x, q < j → (g k)[q]? = some x → 0 ≤ x ∧ x < n) (fun i => (g k).length - (intOf i).toNat)
        case atStart => exact ⟨0, Nat.zero_le _, rfl, fun j _ hj => absurd hj (by omega)⟩
        case round =>
          obtain ⟨j, hj, rfl, hin⟩ := hrel
          have HIN := Lib.hid hin
          clear hin
          by_cases hlj : j < (g k).length
          · obtain ⟨ad', hA', _, hc'⟩ := hr.at_ hlj
            obtain ⟨x, hx⟩ : ∃ x, x = (g k)[j] := ⟨_, rfl⟩
            rw [← hx] at hc'
            have HX := Lib.hid hx
            clear hx
            subst hA'
            by_cases hb0 : 0 ≤ x
            · have hd0 : decide (x < 0) = false := by simpa using hb0
              by_cases hbn : x < n
              · have hd1 : decide ((n : Int) ≤ x) = false := by simpa using hbn
                go_wp2_with fail
                go_round
                case rel => exact ⟨j + 1, by omega, by go_num, fun q y hq hy => by
                  by_cases e : q = j
                  · subst e; rw [List.getElem?_eq_getElem hlj, ← HX.out] at hy; injection hy with hy; subst hy; exact ⟨hb0, hbn⟩
                  · exact HIN.out q y (by omega) hy⟩
                case measure => simp [intOf]; omega
              · have hd1 : decide ((n : Int) ≤ x) = true := by simp; omega
                have hf : closedB n g = false := closedB_no hlt (by rw [HX.out]; exact List.getElem_mem _) (fun hh => hbn hh.2)
                have HF := Lib.hid hf
                clear hf
                go_wp2_with fail
                go_ret
                exact ⟨4, ⟨[], .inr (.inl ⟨h1, HF.out, rfl, rfl⟩)⟩, rfl, Below.refl _ _⟩
            · have hd0 : decide (x < 0) = true := by simp; omega
              have hf : closedB n g = false := closedB_no hlt (by rw [HX.out]; exact List.getElem_mem _) (fun hh => hb0 hh.1)
              have HF := Lib.hid hf
              clear hf
              go_wp2_with fail
              go_ret
              exact ⟨4, ⟨[], .inr (.inl ⟨h1, HF.out, rfl, rfl⟩)⟩, rfl, Below.refl _ _⟩
          · go_wp2_with fail
            go_round
            case rel => exact ⟨k + 1, by omega, by go_num, fun i hi x hx => by
              by_cases e : i = k
              · subst e
                obtain ⟨q, hq, e⟩ := List.mem_iff_getElem.1 hx
                exact HIN.out q x (by omega) (by rw [List.getElem?_eq_getElem hq, e])
              · exact HOK.out i (by omega) x hx⟩
            case measure => simp [intOf]; omega
      · have HF := Lib.hid (closedB_yes (n := n) (g := g) fun i hi => HOK.out i (by omega))
        go_wp2_with fail
        refine (rorder_any A n c g w hn HL.out (closedR HF.out) h).mono ?_
        rintro e w1 ⟨o, v, hh, rfl, hown, hb⟩
        obtain ⟨Ao, co, rfl⟩ := own_shape hown
        have HH := Lib.hid hh
        have hle := hh.1.length_le
        clear hh hown
        by_cases hol : o.length < n
        · go_wp2_with fail
          go_ret
          exact ⟨5, ⟨[], .inr (.inr (.inl ⟨h1, HF.out, rfl, rfl, o, HH.out, hol⟩))⟩, rfl, hb⟩
        · go_wp2_with fail
          go_ret
          exact ⟨0, ⟨o, .inr (.inr (.inr ⟨h1, HF.out, rfl, HH.out, by omega⟩))⟩, rfl, hb⟩
  · have h1' : 100 < n := by omega
    clear h
    go_enter Try.func19, Try.ntmps19
    go_wp2_with fail
    go_ret
    exact ⟨1, ⟨[], .inl ⟨h1', rfl, rfl⟩⟩, rfl, Below.refl _ _⟩

theorem OrderSays.zero {n : Nat} {g : Nat → List Int} {o : List Nat} (h : OrderSays n g 0 o) : closedB n g = true ∧ o.length = n ∧ Had g n o := by
  rcases h with ⟨_, e, _⟩ | ⟨_, _, e, _⟩ | ⟨_, _, e, _⟩ | ⟨_, h2, _, h3, h4⟩
  · omega
  · omega
  · omega
  · exact ⟨h2, h4, h3⟩
theorem OrderSays.err {n : Nat} {g : Nat → List Int} {E : Int} {o : List Nat} (h : OrderSays n g E o) (hE : E ≠ 0) : o = [] := by
  rcases h with ⟨_, _, e⟩ | ⟨_, _, _, e⟩ | ⟨_, _, _, e, _⟩ | ⟨_, _, e, _⟩
  · exact e
  · exact e
  · exact e
  · exact absurd e hE

theorem own_moved {w : World} {base n : Nat} {v : Value} {xs : List Value} {B : Nat} (h : w.ownsRow base 3 1 v n xs) (hB : B ≤ base) : w.ownsRow B 3 1 v n xs := own_base h hB

set_option maxHeartbeats 1000000 in
theorem rorderO_any (A : Option Addr) (n c : Nat) (g : Nat → List Int) (w : World) (hn : n ≤ 1000) (hl : ∀ i, i < n → (g i).length ≤ 1000000) (h : RowsAt w w.heap.size A n g) :
    Calls Try.prog 13 #[.slice A n c] w (ListOut (OrderSays n g) w) := by
  have HL := Lib.hid hl
  clear hl
  go_enter Try.func13, Try.ntmps13
  go_wp2_with fail
  refine (rcheck_any A n c g w hn HL.out h).mono ?_
  rintro e w1 ⟨E, ⟨o, hs⟩, rfl, hb⟩
  have HS := Lib.hid hs
  clear hs
  by_cases hE : E = 0
  · subst hE
    obtain ⟨h1, h2, h3⟩ := HS.out.zero
    have HC := Lib.hid (closedR h1)
    have HH := Lib.hid h3
    clear h1 h2 h3
    have hsz := hb.size
    go_wp2_with fail
    refine (rorder_any A n c g w1 hn HL.out HC.out ((h.below hb (Nat.le_refl _)).more hsz)).mono ?_
    rintro e w2 ⟨o', v, hh, rfl, hown, hb2⟩
    have ho : o' = o := hh.unique HH.out
    subst ho
    have HOwn := Lib.hid hown
    clear hh hown
    go_wp2_with fail
    go_ret2
    exact ⟨0, v, o', HS.out, rfl, own_base HOwn.out hsz, hb.trans (hb2.mono hsz)⟩
  · have hE' : (E != 0) = true := by simpa using hE
    have HE := Lib.hid hE
    clear hE
    have ho := HS.out.err HE.out
    subst ho
    go_wp2_with fail
    go_ret2
    exact ⟨E, _, [], HS.out, rfl, World.ownsRow_nil _ _ _ _, hb⟩

end Go.Proofs.Ytlkgnafbipgpbaa
