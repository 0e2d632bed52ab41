/- same; the chapter's example; the chips of the statements are right. -/
import Derived.Test.YtpieihjipdgplaaR7
import Derived.Deep.QuietTactic
import Derived.BigQuiet
namespace Go.Proofs.Ytpieihjipdgplaa
set_option linter.unusedSimpArgs false
set_option linter.unusedVariables false
open Go.RowKit Go.Maps

theorem rst_right {rs : List Rst} (h : ∀ r, r ∈ rs → 0 ≤ r.least ∧ r.least ≤ 20) (hn : rs.length ≤ 6) : chipE ⟨[], [], rs, []⟩ = 0 := by
  have g0 : graphE [] = 0 := graphE_down (by simp) (by intro i r h; simp at h)
  have hf : fitsB ⟨[], [], rs, []⟩ = true := by unfold fitsB; simp [hn]
  have hr : firstE (rs.map rstE) = 0 := firstE_zero fun e he => by
    obtain ⟨r, hr, rfl⟩ := List.mem_map.1 he
    unfold rstE
    rw [betw_yes (h r hr).1 (h r hr).2]
    rfl
  have e : chipE ⟨[], [], rs, []⟩ = firstE [orE (fitsB ⟨[], [], rs, []⟩) 8, firstE ([] : List Int), graphE [], firstE ([] : List Int), graphE [], firstE (rs.map rstE), firstE ([] : List Int), graphE []] := rfl
  rw [e, g0, hf, hr]
  rfl
theorem rst_ok {rs : List Rst} (hn : rs.length ≤ 6) : ChipOk ⟨[], [], rs, []⟩ := ⟨by simp, by simp, by show rs.length ≤ 1000; omega, by simp, by simp, by simp, by simp⟩
theorem pick21 (x : Int) : 0 ≤ pickP x 21 ∧ pickP x 21 ≤ 20 := ⟨pickP_lo (by omega), by have := pickP_hi (c := x) (n := 21) (by omega); omega⟩
theorem rstsL_ok (l : List Int) (k : Nat) : ∀ r, r ∈ rstsL l k → 0 ≤ r.least ∧ r.least ≤ 20 := fun r hr => by
  unfold rstsL at hr
  obtain ⟨x, _, rfl⟩ := List.mem_map.1 hr
  exact pick21 x
theorem chipL_rsts (l : List Int) : (∀ r, r ∈ (chipL l).rsts → 0 ≤ r.least ∧ r.least ≤ 20) ∧ (chipL l).rsts.length ≤ 6 := ⟨rstsL_ok l _, by show (rstsL l (min l.length 6)).length ≤ 6; rw [rstsL_len l (by omega) (by omega)]; omega⟩
theorem chipL_right (l : List Int) : chipE (chipL l) = 0 := rst_right (chipL_rsts l).1 (chipL_rsts l).2
theorem chipL_ok (l : List Int) : ChipOk (chipL l) := rst_ok (chipL_rsts l).2

set_option maxRecDepth 100000 in
theorem same_any (A B : Option Addr) (c d b1 b2 : Nat) (xs : List Int) (w : World) (hl : xs.length ≤ 1000) (h1 : IntsAt w b1 A xs) (h2 : IntsAt w b2 B xs) :
    Calls Try.prog 18 #[.slice A xs.length c, .slice B xs.length d] w (fun e w' => e = .returned (.bool true) ∧ ∃ n, w' = w.drewN n) := by
  have H1 := Lib.hid h1
  have H2 := Lib.hid h2
  obtain ⟨n, hN⟩ : ∃ n, n = xs.length := ⟨_, rfl⟩
  rw [← hN] at hl ⊢
  have HN := Lib.hid hN
  clear h1 h2 hN
  go_enter Try.func18, Try.ntmps18
  go_wp2
  go_loopw [5] (fun i wr => ∃ k : Nat, k ≤ n ∧ i = .int .i64 k ∧ RowKit.Hid (IntsAt wr b1 A xs ∧ IntsAt wr b2 B xs ∧ ∃ m, wr = w.drewN m)) (fun i _ => n - (intOf i).toNat)
  case atStart => exact ⟨0, Nat.zero_le _, rfl, Lib.hid ⟨H1.out, H2.out, 0, rfl⟩⟩
  case round =>
    obtain ⟨k, hk, rfl, HT⟩ := hrel
    by_cases hlt : k < n
    · obtain ⟨a1, e1, -, p0⟩ := HT.out.1.at_ (k := k) (by rw [← HN.out]; exact hlt)
      obtain ⟨a2, e2, -, q0⟩ := HT.out.2.1.at_ (k := k) (by rw [← HN.out]; exact hlt)
      generalize xs[k] = x at p0 q0
      subst e1 e2
      have i0 : (0 : Int) ≤ (k : Int) := by omega
      have i1 : (k : Int) < (n : Int) := by omega
      go_wp2
      go_quiet (fail)
      go_wp2
      go_roundw
      case rel => exact ⟨k + 1, hlt, by go_num, Lib.hid ⟨HT.out.1, HT.out.2.1, HT.out.2.2.elim fun m e => ⟨m + nq, by rw [e, World.drewN_drewN]⟩⟩⟩
      case measure => simp [intOf]; omega
    · have i1 : ¬ ((k : Int) < (n : Int)) := by omega
      go_wp2
      go_ret
      exact ⟨rfl, HT.out.2.2⟩

def s0 : Chip := ⟨[], [], [⟨3⟩], []⟩
theorem s0_chip (w : World) (g : Nat) (hg : g < w.heap.size) (h : w.cell? ⟨g, 0, none⟩ = some (.int .i64 3)) : ChipV w w.heap.size s0 [.slice none 0 0, .slice none 0 0, .slice (some ⟨g, 0, none⟩) 1 1, .slice none 0 0] := by
  refine ⟨none, 0, none, 0, some ⟨g, 0, none⟩, 1, none, 0, rfl, Nat.le_refl _, Nat.le_refl _, Nat.le_refl _, Nat.le_refl _, fun h => absurd h (by simp [s0]), fun h => absurd h (by simp [s0]), fun _ => ⟨_, rfl, hg, fun k x hx => ?_⟩, fun h => absurd h (by simp [s0])⟩
  cases k with
  | zero =>
    simp [s0] at hx
    subst hx
    refine ⟨_, rfl, fun j v hj => ?_⟩
    cases j with
    | zero =>
      simp at hj
      subst hj
      exact h
    | succ j => simp at hj
  | succ k => simp [s0] at hx
theorem idle_of {L : List Int} {xs : List Ln} (h : LInv L xs) : Idle xs := h.idle

def ln1 (h : Bool) (t : Bool) : List Ln := [⟨3, h, 0, t⟩]
theorem ln1_idle (h t : Bool) (hh : h = false → t = false) : Idle (ln1 h t) := by
  intro k x hx hx0
  cases k with
  | zero => simp [ln1] at hx; subst hx; exact ⟨rfl, hh hx0⟩
  | succ k => simp [ln1] at hx
theorem ln1_left (h t : Bool) : ∀ (k : Nat) (x : Ln), (ln1 h t)[k]? = some x → 0 ≤ x.left ∧ x.left ≤ 20 := by
  intro k x hx
  cases k with
  | zero => simp [ln1] at hx; subst hx; simp
  | succ k => simp [ln1] at hx

set_option maxRecDepth 100000 in
set_option maxHeartbeats 4000000 in
theorem shown_any (w : World) : Calls Try.prog 9 #[] w (TellsB true w) := by
  have hb1 := (Below.refl w.heap.size w).alloc (Nat.le_refl _) (.cells #[.int .i64 3] 49)
  have hcv := s0_chip (w.alloc (.cells #[.int .i64 3] 49)) w.heap.size (by simp) (BoxAt.new w [.int .i64 3] 49 0 _ rfl).1
  have HB1 := Lib.hid hb1
  have HCV := Lib.hid hcv
  have hz0 : wfI 0 := by unfold wfI; omega
  clear hb1 hcv
  go_enter Try.func9, Try.ntmps9
  go_wp2_with fail
  refine (new_ok s0 _ _ (rst_ok (by simp)) HCV.out (rst_right (by simp) (by simp)) (by simp [s0])).mono ?_
  rintro e w1 ⟨b, bl, bh, rfl, hgb, hgl, hgh, hl1, hb⟩
  have hl1' : LinesIs w1 b bl bh (ln1 true false) := hl1
  have HL1 := Lib.hid hl1'
  have hb1' := HB1.out.trans (hb.mono (by simp))
  have HB2 := Lib.hid hb1'
  have hz1 : w.heap.size + 1 ≤ w1.heap.size := by have := hb.size; simp at this; omega
  simp only [World.size_alloc] at hgb hgl hgh
  clear hl1 hl1' hb hb1' HB1 HCV
  go_wp2_with fail
  refine (held_any b bl bh (ln1 true false) 0 _ hz0 (ln1_idle _ _ (by simp)) HL1.out).mono ?_
  rintro e w2 ⟨rfl, hb2⟩
  rw [show heldP (ln1 true false) 0 = true from rfl]
  have hl2 := HL1.out.move (Moved.of_below hb2)
  have HL2 := Lib.hid hl2
  have HB3 := Lib.hid (HB2.out.trans (hb2.mono (by omega)))
  have hz2 := hb2.size
  clear hb2 hl2 HL1 HB2
  go_wp2_with fail
  refine (release_any b bl bh (ln1 true false) 0 _ hz0 (by simp [ln1]) (ln1_idle _ _ (by simp)) HL2.out).mono ?_
  rintro e w3 ⟨rfl, hl3, hm3⟩
  rw [show releaseE (ln1 true false) 0 = 0 from rfl]
  have hl3' : LinesIs w3 b bl bh (ln1 true true) := hl3
  have HL3 := Lib.hid hl3'
  have hz3 := hm3.size
  have HB4 := Lib.hid (HB3.out.trans (hm3.below (by simp; omega) (by omega)))
  clear hl3 hl3' hm3 HL2 HB3
  go_wp2_with fail
  refine (tick_any b bl bh (ln1 true true) _ (by simp [ln1]) (ln1_idle _ _ (by simp)) (ln1_left _ _) HL3.out).mono ?_
  rintro e w4 ⟨v4, rfl, ho4, hl4, hm4⟩
  have ho4' : OwnI w4 w3.heap.size v4 [0] := ho4
  have hl4' : LinesIs w4 b bl bh (ln1 false false) := hl4
  obtain ⟨A4, c4, rfl⟩ := own_shape' ho4'
  obtain ⟨-, hi4⟩ := ho4'.ints
  have HL4 := Lib.hid hl4'
  have hz4 := hm4.size
  have HB5 := Lib.hid (HB4.out.trans (hm4.below (by simp; omega) (by omega)))
  have hia : IntsAt (w4.alloc (.cells #[.int .i64 0] 3)) w4.heap.size A4 [0] := hi4.below ((Below.refl _ _).alloc (Nat.le_refl _) _) (Nat.le_refl _)
  have hib : IntsAt (w4.alloc (.cells #[.int .i64 0] 3)) (w4.heap.size + 1) (some ⟨w4.heap.size, 0, none⟩) [0] := fun _ => ⟨_, rfl, Nat.lt_succ_self _, fun j x hj => by
    cases j with
    | zero => simp at hj; subst hj; exact (BoxAt.new w4 [.int .i64 0] 3 0 _ rfl).1
    | succ j => simp at hj⟩
  have HIA := Lib.hid hia
  have HIB := Lib.hid hib
  clear hl4 hl4' hm4 ho4 ho4' HL3 HB4 hi4 hia hib
  go_wp2_with fail
  refine (same_any A4 (some ⟨w4.heap.size, 0, none⟩) c4 1 _ _ [0] _ (by simp) HIA.out HIB.out).mono ?_
  rintro e w5 ⟨rfl, q, rfl⟩
  have hm5 : Moved [] w4 ((w4.alloc (.cells #[.int .i64 0] 3)).drewN q) := (Moved.alloc w4 _).trans ⟨rfl, rfl, rfl, Nat.le_refl _, fun _ _ _ => rfl⟩
  have hl5 := HL4.out.move hm5
  have HL5 := Lib.hid hl5
  have HB6 := Lib.hid (HB5.out.trans (hm5.below (by simp) (by omega)))
  have hz5 := hm5.size
  clear hm5 hl5 HL4 HB5
  go_wp2_with fail
  refine (held_any b bl bh (ln1 false false) 0 _ hz0 (ln1_idle _ _ (by simp)) HL5.out).mono ?_
  rintro e w6 ⟨rfl, hb6⟩
  rw [show heldP (ln1 false false) 0 = false from rfl]
  have HB7 := Lib.hid (HB6.out.trans (hb6.mono (by omega)))
  clear hb6
  go_wp2
  go_ret
  exact ⟨rfl, HB7.out⟩

end Go.Proofs.Ytpieihjipdgplaa
