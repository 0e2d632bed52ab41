/- The contracts of Save, Clear. -/
import Derived.Test.YtlolnogkndhfnaaR3
namespace Go.Proofs.Ytlolnogkndhfnaa
set_option linter.unusedSimpArgs false
set_option linter.unusedVariables false
open Go.RowKit Go.Maps

/-- what is saved: of those that are kept what they are, of the others their reset -/
def saveB (rs : List Rgs) (now : List Int) : List Int := (rs.zip now).map fun p => if p.1.kept = true then p.2 else p.1.reset
theorem saveB_len {rs : List Rgs} {now : List Int} (h : now.length = rs.length) : (saveB rs now).length = rs.length := by simp [saveB, h]
theorem saveB_at {rs : List Rgs} {now : List Int} {k : Nat} {r : Rgs} {x : Int} (h1 : rs[k]? = some r) (h2 : now[k]? = some x) : (saveB rs now)[k]? = some (if r.kept = true then x else r.reset) := by
  unfold saveB
  rw [List.getElem?_map, (List.getElem?_zip_eq_some (z := (r, x))).2 ⟨h1, h2⟩]
  rfl
theorem set_self {α : Type} {xs : List α} {k : Nat} {x : α} (hx : xs[k]? = some x) : xs.set k x = xs := by
  refine List.ext_getElem? fun m => ?_
  rw [List.getElem?_set]
  by_cases e : k = m
  · subst e
    rw [if_pos rfl, if_pos (get_lt hx), hx]
  · rw [if_neg e]
theorem upToL_at {now back : List Int} {k : Nat} (hl : now.length = back.length) : (upToL now back k)[k]? = now[k]? := by
  unfold upToL
  by_cases h : k < back.length
  · rw [List.getElem?_append_right (by simp; omega)]
    simp only [List.getElem?_drop, List.length_take]
    rw [show k + (k - min k back.length) = k by omega]
  · rw [List.getElem?_eq_none (by simp; omega), List.getElem?_eq_none (by omega)]

theorem Try.info43 : (Try.prog.info? 43).map (fun i => (i.zero, i.size, i.bytes)) = some (some (.agg #[.int .u32 0, .bool false]), 2, 8) := by kernel_rfl

set_option maxRecDepth 100000 in
set_option maxHeartbeats 2000000 in
theorem save_any (Q : List Nat) (b gn : Nat) (rs : List Rgs) (now back : List Int) (w : World) (h : FileIs w Q b gn rs now back) :
    Calls Try.prog 15 #[.pointer (some ⟨b, 0, none⟩)] w (Does w Q b gn rs (.returned (.tuple #[])) now (saveB rs now)) := by
  have h8 := h.few
  obtain ⟨A, c, fv, hB, hT, hlb, -⟩ := h.teller
  obtain ⟨A', c', fv', hB', hRR, -⟩ := h.box
  have b0 := (hB 0 _ rfl).1
  have e0 : A' = A ∧ c' = c := by
    have := (hB' 0 _ rfl).1.symm.trans b0
    simpa using this
  obtain ⟨rfl, rfl⟩ := e0
  obtain ⟨f2, g2⟩ := hB 2 _ rfl
  have hl := h.len
  obtain ⟨fn0, cs0, rfl⟩ := tel_shape hT
  have H := Lib.hid h
  have HL := Lib.hid hl
  have hlt := h.lt
  obtain ⟨hlt1, hlt2⟩ := hlt
  have HRR := Lib.hid hRR
  have HOT := Lib.hid h.hot
  have hqq := h.hQ
  have HQQ := Lib.hid hqq
  have hsf := fun (a : Addr) (fn : Fn) (c : Array Value) (m : _) (W : World) => run_store Try.prog W a (.func fn #[] c) m rfl
  obtain ⟨n, hn⟩ : ∃ n, n = rs.length := ⟨_, rfl⟩
  rw [← hn] at b0 h8
  have HN := Lib.hid hn
  clear hB hB' h hl hlb hn hT hRR hqq
  go_enter Try.func15, Try.ntmps15
  go_wp2_with fail
  refine (fresh_any b Q rs w HQQ.out).mono ?_
  rintro e w1 ⟨fn1, cs1, rfl, ht1, hb1⟩
  have hm1 : Moved [] w w1 := Moved.of_below hb1
  have H1 := Lib.hid ((H.out.move hm1).tell ht1)
  have c2 := hm1.cell f2 (by simp)
  have z2 : w1.frozen? ⟨b, 2, none⟩ = false := (hm1.frozen (p := ⟨b, 2, none⟩) hlt1 (by simp)).trans g2
  have c0 := hm1.cell b0 (by simp)
  have HM1 := Lib.hid (hm1.mono (hot' := [b, gn]) (by simp))
  have HM2 : RowKit.Hid (Moved [b, gn] w1 (w1.setCell ⟨b, 2, none⟩ (.func fn1 #[] cs1))) := Lib.hid (Moved.setCell _ (by simp) _)
  have HRR2 := Lib.hid (((HRR.out.move (HM1.out.mono HOT.out)).move (HM2.out.mono HOT.out)))
  clear hm1 ht1 hb1 f2 g2 b0
  go_wp2
  go_loopw [14] (fun i wr => ∃ k : Nat, k ≤ n ∧ i = .int .i64 k ∧ RowKit.Hid (FileIs wr Q b gn rs now (upToL (resets rs) (saveB rs now) k) ∧ Moved [b, gn] w wr ∧ StrsC RgsV 2 Q wr A' rs)) (fun i _ => n - (intOf i).toNat)
  case atStart => exact ⟨0, Nat.zero_le _, rfl, Lib.hid ⟨by rw [upToL_zero]; exact H1.out, HM1.out.trans HM2.out, HRR2.out⟩⟩
  case round =>
    obtain ⟨k, hk, rfl, HR⟩ := hrel
    clear c2 z2 c0 hlt1 hlt2
    by_cases hlt : k < n
    · have hlr : k < rs.length := by rw [← HN.out]; exact hlt
      have hr := List.getElem?_eq_getElem (l := rs) (i := k) hlr
      generalize rs[k]'hlr = r at hr
      have hy := List.getElem?_eq_getElem (l := now) (i := k) (by rw [HL.out]; exact hlr)
      generalize now[k]'(by rw [HL.out]; exact hlr) = y at hy
      have hll : (resets rs).length = (saveB rs now).length := by rw [resets_len, saveB_len HL.out]
      have hs := saveB_at hr hy
      have hnx := upToL_succ hll hs
      have hat : (upToL (resets rs) (saveB rs now) k)[k]? = some r.reset := by rw [upToL_at hll, resets_at hr]
      obtain ⟨ad, hA, had, -, hag⟩ := HR.out.2.2.at_ hr
      have a0 : wr.cell? (ad.add (k * 2)) = some (.int .u32 r.reset) := hag.zero
      have a1 : wr.cell? ⟨(ad.add (k * 2)).block, (ad.add (k * 2)).off + 1, none⟩ = some (.bool r.kept) := hag.at_ 0 rfl
      have HM3 := Lib.hid (show Moved [] wr (wr.alloc (.cells #[.int .u32 r.reset, .bool r.kept] 43)) from Moved.alloc _ _)
      have HF3 := Lib.hid (HR.out.1.move HM3.out)
      have i0 : (0 : Int) ≤ (k : Int) := by omega
      have i1 : (k : Int) < (n : Int) := by omega
      obtain ⟨x, kp⟩ := r
      subst hA
      cases kp with
      | false =>
        have hse : upToL (resets rs) (saveB rs now) (k + 1) = upToL (resets rs) (saveB rs now) k := by
          rw [hnx]
          exact set_self hat
        have HSE := Lib.hid hse
        clear hr hy hll hs hnx hat hag had hse
        go_wp2
        go_roundw
        case rel => exact ⟨k + 1, hlt, by go_num, Lib.hid ⟨by rw [HSE.out]; exact HF3.out, HR.out.2.1.trans (HM3.out.mono (by simp)), HR.out.2.2.move (HM3.out.mono (by simp))⟩⟩
        case measure => simp [intOf]; omega
      | true =>
        simp only [if_true] at hs hnx
        obtain ⟨A5, c5, fv5, hB5, hT5, hlb5, -⟩ := HF3.out.teller
        obtain ⟨fn5, cs5, rfl⟩ := tel_shape hT5
        have d1 := (hB5 1 _ rfl).1
        have d2 := (hB5 2 _ rfl).1
        have g2 := (hB5 2 _ rfl).2
        have hn5 := (HF3.out.row.2 k _ (u32s_at hy)).1
        rw [← HN.out] at d1
        have hlt5 := HF3.out.lt
        have HT5 := Lib.hid hT5
        have HNX := Lib.hid hnx
        have HF6 := Lib.hid (HF3.out.move (Moved.drew _))
        have d2' := (Moved.drew (hot := []) (wr.alloc (.cells #[.int .u32 x, .bool true] 43))).cell d2 (by simp)
        have g2' : (wr.alloc (.cells #[.int .u32 x, .bool true] 43)).drew.frozen? ⟨b, 2, none⟩ = false := g2
        have HBT := Lib.hid (but_any b Q rs fn5 cs5 _ k y (wr.alloc (.cells #[.int .u32 x, .bool true] 43)).drew (HF6.out.hQ) (HT5.out.move (Moved.drew _)))
        have D2 := Lib.hid (And.intro d2' (And.intro g2' HF6.out.lt.1))
        clear hr hy hll hs hnx hat hag had hT5 hB5 hlb5 hlt5 d2' g2'
        go_wp2
        go_region_with ((refine (HBT.out).mono ?_)
                        rintro e w6 ⟨fn6, cs6, rfl, ht6, hb6⟩
                        have hm6 := Moved.of_below (hot := []) hb6
                        have d6 := hm6.cell D2.out.1 (by simp)
                        have g6 := (hm6.frozen (p := ⟨b, 2, none⟩) D2.out.2.2 (by simp)).trans D2.out.2.1
                        have HF7 := Lib.hid ((HF6.out.move hm6).tell ht6)
                        have HM7 := Lib.hid hm6
                        clear ht6 hb6 hm6)
        all_goals
          go_wp2
          have HM8 := Lib.hid (show Moved [b, gn] wr (w6.setCell ⟨b, 2, none⟩ (.func fn6 #[] cs6)) from ((HM3.out.trans ((Moved.drew _).trans HM7.out)).mono (by simp)).trans (Moved.setCell _ (by simp) _))
          go_roundw
          case rel => exact ⟨k + 1, hlt, by go_num, Lib.hid ⟨by rw [HNX.out]; exact HF7.out, HR.out.2.1.trans HM8.out, HR.out.2.2.move (HM8.out.mono HOT.out)⟩⟩
          case measure => simp [intOf]; omega
    · have hke : k = n := by omega
      subst hke
      have i1 : ¬ ((k : Int) < (k : Int)) := by omega
      go_wp2
      go_end0
      have hx := HR.out.1
      rw [HN.out, show rs.length = (saveB rs now).length from (saveB_len HL.out).symm, upToL_all (by rw [resets_len, saveB_len HL.out])] at hx
      exact ⟨rfl, hx, HR.out.2.1⟩

set_option maxHeartbeats 2000000 in
/-- Clear, of a file of any tellers (New's has none yet) -/
theorem clear_any (Q : List Nat) (b gn : Nat) (rs : List Rgs) (now : List Int) (A : Option Addr) (c : Nat) (fv : Value) (w : World) (h1 : now.length = rs.length) (h2 : rs.length ≤ 8) (h3 : b ≠ gn) (h4 : b ∈ Q) (h5 : gn ∈ Q) (h6 : ∀ k, k ∈ Q → k < w.heap.size)
    (hB : BoxAt w b [.slice A rs.length c, .slice (some ⟨gn, 0, none⟩) rs.length rs.length, fv]) (hR : StrsC RgsV 2 Q w A rs) (hrow : RowAt w gn (u32s now)) (hfv : ∀ (W : World) (a : Addr) (fn : Fn) (cs : Array Value), fv = fv) :
    Calls Try.prog 19 #[.pointer (some ⟨b, 0, none⟩)] w (Does w Q b gn rs (.returned (.tuple #[])) (resets rs) (resets rs)) := by
  have hsf := fun (a : Addr) (fn : Fn) (c : Array Value) (m : _) (W : World) => run_store Try.prog W a (.func fn #[] c) m rfl
  obtain ⟨f2, g2⟩ := hB 2 _ rfl
  have hlt1 : b < w.heap.size := hB.lt
  have hlt2 : gn < w.heap.size := hrow.1
  have H := Lib.hid (And.intro hB (And.intro hR hrow))
  have H1 := Lib.hid h1
  have HOT := Lib.hid (hot2 h4 h5)
  have HQQ := Lib.hid h6
  clear hB hR hrow h1 hfv h6
  go_enter Try.func19, Try.ntmps19
  go_wp2_with fail
  refine (fresh_any b Q rs w HQQ.out).mono ?_
  rintro e w1 ⟨fn1, cs1, rfl, ht1, hb1⟩
  have hm1 : Moved [] w w1 := Moved.of_below hb1
  have c2 := hm1.cell f2 (by simp)
  have z2 : w1.frozen? ⟨b, 2, none⟩ = false := (hm1.frozen (p := ⟨b, 2, none⟩) hlt1 (by simp)).trans g2
  have hm2 : Moved [b] w1 (w1.setCell ⟨b, 2, none⟩ (.func fn1 #[] cs1)) := Moved.setCell _ (by simp) _
  have hm2' : Moved [b, gn] w1 (w1.setCell ⟨b, 2, none⟩ (.func fn1 #[] cs1)) := hm2.mono (by simp)
  have hm1' : Moved [b, gn] w w1 := hm1.mono (by simp)
  have hF : FileIs (w1.setCell ⟨b, 2, none⟩ (.func fn1 #[] cs1)) Q b gn rs now (resets rs) :=
    ⟨H1.out, h2, h3, h4, h5, fun k hk => by rw [size_setCell]; exact Nat.lt_of_lt_of_le (HQQ.out k hk) hm1.size, ⟨A, c, _, (H.out.1.move hm1 (by simp)).set (j := 2) (by simp) _, (H.out.2.1.move (hm1'.mono HOT.out)).move (hm2'.mono HOT.out), ht1.move (hm2'.mono HOT.out)⟩, (H.out.2.2.move hm1 (by simp)).move hm2 (by simpa using Ne.symm h3)⟩
  have HF := Lib.hid hF
  have HM := Lib.hid (hm1'.trans hm2')
  clear hm1 ht1 hb1 f2 g2 hm2 hm2' hm1' hF
  go_wp2_with fail
  refine (restore_any Q b gn rs now (resets rs) _ HF.out).mono ?_
  rintro e w3 ⟨rfl, hF3, hm3⟩
  have HF3 := Lib.hid hF3
  have HM3 := Lib.hid (HM.out.trans hm3)
  clear hF3 hm3
  go_wp2
  go_end0
  exact ⟨rfl, HF3.out, HM3.out⟩
theorem FileIs.clear {w : World} {Q : List Nat} {b gn : Nat} {rs : List Rgs} {now back : List Int} (h : FileIs w Q b gn rs now back) :
    Calls Try.prog 19 #[.pointer (some ⟨b, 0, none⟩)] w (Does w Q b gn rs (.returned (.tuple #[])) (resets rs) (resets rs)) := by
  obtain ⟨A, c, fv, h1, h2, h3⟩ := h.box
  exact clear_any Q b gn rs now A c fv w h.len h.few h.ne h.hb h.hg h.hQ h1 h2 h.row fun _ _ _ _ => rfl

end Go.Proofs.Ytlolnogkndhfnaa
