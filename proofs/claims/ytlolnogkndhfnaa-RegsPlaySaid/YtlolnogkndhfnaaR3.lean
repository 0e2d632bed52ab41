/- The contracts of Restore, Save, Clear. -/
import Derived.Test.YtlolnogkndhfnaaR2
namespace Go.Proofs.Ytlolnogkndhfnaa
set_option linter.unusedSimpArgs false
set_option linter.unusedVariables false
open Go.RowKit Go.Maps

/-- the first k are as they are saved -/
def upToL (now back : List Int) (k : Nat) : List Int := back.take k ++ now.drop k
theorem upToL_zero (now back : List Int) : upToL now back 0 = now := by simp [upToL]
theorem upToL_all {now back : List Int} (h : now.length = back.length) : upToL now back back.length = back := by
  unfold upToL
  rw [List.take_length, List.drop_of_length_le (by omega), List.append_nil]
theorem upToL_succ {now back : List Int} {k : Nat} {x : Int} (hl : now.length = back.length) (h : back[k]? = some x) : upToL now back (k + 1) = (upToL now back k).set k x := by
  have hk := get_lt h
  refine List.ext_getElem? fun m => ?_
  unfold upToL
  rw [List.getElem?_set]
  by_cases e : k = m
  · subst e
    rw [if_pos rfl, if_pos (by simp; omega), List.getElem?_append_left (by simp; omega)]
    simp [List.getElem?_take, h]
  · rw [if_neg e]
    by_cases hlt : m < k
    · rw [List.getElem?_append_left (by simp; omega), List.getElem?_append_left (by simp; omega)]
      simp [List.getElem?_take, hlt, show m < k + 1 by omega]
    · rw [List.getElem?_append_right (by simp; omega), List.getElem?_append_right (by simp; omega)]
      simp only [List.getElem?_drop, List.length_take]
      rw [show k + 1 + (m - min (k + 1) back.length) = k + (m - min k back.length) by omega]

theorem FileIs.teller {w : World} {Q : List Nat} {b gn : Nat} {rs : List Rgs} {now back : List Int} (h : FileIs w Q b gn rs now back) : ∃ A c fv, BoxAt w b [.slice A rs.length c, .slice (some ⟨gn, 0, none⟩) rs.length rs.length, fv] ∧ TelAt w b Q rs fv back ∧ back.length = rs.length ∧ ∀ k x, back[k]? = some x → Tells w fv k x := by
  obtain ⟨A, c, fv, h1, h2, h3⟩ := h.box
  obtain ⟨h4, h5⟩ := tel_any b A c rs Q w h.few (h1 0 _ rfl).1 h2 fv back h3
  exact ⟨A, c, fv, h1, h3, h4, h5⟩
theorem Tells.drewN {w : World} {fv : Value} {k : Nat} {x : Int} (h : ∀ W, Moved [] w W → Tells W fv k x) (n : Nat) : Tells (w.drewN n) fv k x := h _ (Moved.drewN w n)

set_option maxHeartbeats 2000000 in
theorem restore_any (Q : List Nat) (b gn : Nat) (rs : List Rgs) (now back : List Int) (w : World) (h : FileIs w Q b gn rs now back) :
    Calls Try.prog 17 #[.pointer (some ⟨b, 0, none⟩)] w (Does w Q b gn rs (.returned (.tuple #[])) back back) := by
  have h8 := h.few
  obtain ⟨A, c, fv, hB, -, hlb, -⟩ := h.teller
  have b1 := (hB 1 _ rfl).1
  have hl := h.len
  have H := Lib.hid h
  have HL := Lib.hid hl
  have HLB := Lib.hid hlb
  obtain ⟨n, hn⟩ : ∃ n, n = rs.length := ⟨_, rfl⟩
  rw [← hn] at b1 h8
  have HN := Lib.hid hn
  clear hB h hl hlb hn
  go_enter Try.func17, Try.ntmps17
  go_wp2
  go_loopw [8] (fun i wr => ∃ k : Nat, k ≤ n ∧ i = .int .i64 k ∧ RowKit.Hid (FileIs wr Q b gn rs (upToL now back k) back ∧ Moved [b, gn] w wr)) (fun i _ => n - (intOf i).toNat)
  case atStart => exact ⟨0, Nat.zero_le _, rfl, Lib.hid ⟨by rw [upToL_zero]; exact H.out, Moved.refl _ _⟩⟩
  case round =>
    obtain ⟨k, hk, rfl, HR⟩ := hrel
    clear b1
    by_cases hlt : k < n
    · obtain ⟨A, c, fv, hB, hT, -, -⟩ := HR.out.1.teller
      have b1 := (hB 1 _ rfl).1
      have b2 := (hB 2 _ rfl).1
      rw [← HN.out] at b1
      have hx := List.getElem?_eq_getElem (l := back) (i := k) (by rw [HLB.out, ← HN.out]; exact hlt)
      generalize back[k]'(by rw [HLB.out, ← HN.out]; exact hlt) = x at hx
      have hy := List.getElem?_eq_getElem (l := upToL now back k) (i := k) (by rw [HR.out.1.len, ← HN.out]; exact hlt)
      generalize (upToL now back k)[k]'(by rw [HR.out.1.len, ← HN.out]; exact hlt) = y at hy
      obtain ⟨hc, hf⟩ := HR.out.1.row.2 k _ (u32s_at hy)
      have hW := HR.out.1.write k x
      rw [← upToL_succ (by rw [HL.out, HLB.out]) hx] at hW
      have hm : Moved [b, gn] wr (wr.setCell ⟨gn, k, none⟩ (.int .u32 x)) := Moved.setCell _ (by simp) _
      have hd : ∀ m, Tells (wr.drewN m) fv k x := fun m => by
        obtain ⟨A', c', fv', hB', hT', -, hT2⟩ := (HR.out.1.move (Moved.drewN wr m)).teller
        have e1 := (hB' 2 _ rfl).1
        have e2 : (wr.drewN m).cell? ⟨b, 2, none⟩ = some fv := (Moved.drewN (hot := []) wr m).cell b2 (by simp)
        have e3 : fv' = fv := by
          have := e1.symm.trans e2
          simpa using this
        subst e3
        exact hT2 k x hx
      have HD := Lib.hid hd
      have HW := Lib.hid (And.intro hW (HR.out.2.trans hm))
      have i0 : (0 : Int) ≤ (k : Int) := by omega
      have i1 : (k : Int) < (n : Int) := by omega
      clear hx hy hW hm hd hB hT
      have hd0 := HD.out 0
      rcases hd0 with ⟨p, rfl, -⟩ | ⟨p, q, r, rfl, -⟩
      · have hC : ∀ m, Calls Try.prog 30 #[.int .i64 (k : Int), p] (wr.drewN m) fun e w' => e = .returned (.int .u32 x) ∧ wr.drewN m = w' := fun m => by
          rcases HD.out m with ⟨p', e, hC⟩ | ⟨p', q', r', e, hC⟩
          · cases e; exact hC
          · cases e
        have HC := Lib.hid hC
        have eg : ∀ args w, (callFunc 30 args).run Try.prog w = .ok (.enter 30 args) w := fun args w => enters_of Try.func30 (by kernel_rfl) rfl args w
        clear hC HD
        go_wp2
        go_region_with (refine (HC.out _).mono ?_
                        rintro e w' ⟨rfl, rfl⟩)
        all_goals
          go_wp2
          go_roundw
          case rel => exact ⟨k + 1, hlt, by go_num, Lib.hid ⟨HW.out.1.move (Moved.drew _), HW.out.2.trans (Moved.drew _)⟩⟩
          case measure => simp [intOf]; omega
      · have hC : ∀ m, Calls Try.prog 31 #[.int .i64 (k : Int), p, q, r] (wr.drewN m) fun e w' => e = .returned (.int .u32 x) ∧ wr.drewN m = w' := fun m => by
          rcases HD.out m with ⟨p', e, hC⟩ | ⟨p', q', r', e, hC⟩
          · cases e
          · cases e; exact hC
        have HC := Lib.hid hC
        have eg : ∀ args w, (callFunc 31 args).run Try.prog w = .ok (.enter 31 args) w := fun args w => enters_of Try.func31 (by kernel_rfl) rfl args w
        clear hC HD
        go_wp2
        go_region_with (refine (HC.out _).mono ?_
                        rintro e w' ⟨rfl, rfl⟩)
        all_goals
          go_wp2
          go_roundw
          case rel => exact ⟨k + 1, hlt, by go_num, Lib.hid ⟨HW.out.1.move (Moved.drew _), HW.out.2.trans (Moved.drew _)⟩⟩
          case measure => simp [intOf]; omega
    · have hke : k = n := by omega
      subst hke
      have i1 : ¬ ((k : Int) < (k : Int)) := by omega
      go_wp2
      go_end0
      have hx := HR.out.1
      rw [HN.out, ← HLB.out, upToL_all (by rw [HL.out, HLB.out])] at hx
      exact ⟨rfl, hx, HR.out.2⟩

end Go.Proofs.Ytlolnogkndhfnaa
