/- A file in a statement; the chapter's example; does; all. -/
import Derived.Test.YtlolnogkndhfnaaR5
namespace Go.Proofs.Ytlolnogkndhfnaa
set_option linter.unusedSimpArgs false
set_option linter.unusedVariables false
open Go.RowKit Go.Maps

/-- a file in a statement: all that was ahead of it is as it was -/
structure Fw (w3 wr : World) (Q : List Nat) (b gn : Nat) (rs : List Rgs) (now back : List Int) : Prop where
  file : FileIs wr Q b gn rs now back
  bel : Below w3.heap.size w3 wr
  lo : w3.heap.size ≤ b ∧ w3.heap.size ≤ gn
namespace Fw
variable {w3 wr w' : World} {Q : List Nat} {b gn : Nat} {rs : List Rgs} {now back : List Int}
theorem size (h : Fw w3 wr Q b gn rs now back) : w3.heap.size ≤ wr.heap.size := h.bel.size
theorem blen (h : Fw w3 wr Q b gn rs now back) : back.length = rs.length := by obtain ⟨_, _, _, _, _, h, _⟩ := h.file.teller; exact h
theorem calm (h : Fw w3 wr Q b gn rs now back) (hm : Moved [] wr w') : Fw w3 w' Q b gn rs now back := ⟨h.file.move hm, h.bel.trans (hm.below (by simp) h.bel.size), h.lo⟩
theorem far {H : List Nat} (h : Fw w3 wr Q b gn rs now back) (hm : Moved H wr w') (hh : ∀ k, k ∈ H → k ∈ Q) (h1 : b ∉ H) (h2 : gn ∉ H) (h3 : ∀ q, q ∈ H → w3.heap.size ≤ q) : Fw w3 w' Q b gn rs now back :=
  ⟨h.file.far hm hh h1 h2, h.bel.trans (hm.below h3 h.bel.size), h.lo⟩
theorem more {Q' : List Nat} (h : Fw w3 wr Q b gn rs now back) (hm : Moved [] wr w') (hh : ∀ k, k ∈ Q' → wr.heap.size ≤ k ∧ k < w'.heap.size) : Fw w3 w' (Q' ++ Q) b gn rs now back :=
  ⟨h.file.more hm hh, h.bel.trans (hm.below (by simp) h.bel.size), h.lo⟩
theorem drew (h : Fw w3 wr Q b gn rs now back) : Fw w3 wr.drew Q b gn rs now back := h.calm (Moved.drew _)
theorem drewN (h : Fw w3 wr Q b gn rs now back) (n : Nat) : Fw w3 (wr.drewN n) Q b gn rs now back := h.calm (Moved.drewN _ n)
theorem next {now' back' : List Int} (h : Fw w3 wr Q b gn rs now back) (hf : FileIs w' Q b gn rs now' back') (hm : Moved [b, gn] wr w') : Fw w3 w' Q b gn rs now' back' :=
  ⟨hf, h.bel.trans (hm.below (by simp; exact h.lo) h.bel.size), h.lo⟩
theorem write (h : Fw w3 wr Q b gn rs now back) {i : Int} (v : Int) (hi : wfI i) : Calls Try.prog 13 #[.pointer (some ⟨b, 0, none⟩), .int .i64 i, .int .u32 v] wr fun e w' => e = .returned (.int .i64 (errI rs.length i)) ∧ Fw w3 w' Q b gn rs (writeT now i v) back ∧ Moved [b, gn] wr w' :=
  (write_any Q b gn rs now back i v wr hi h.file).mono fun e w' ⟨he, hf, hm⟩ => ⟨he, h.next hf hm, hm⟩
theorem save (h : Fw w3 wr Q b gn rs now back) : Calls Try.prog 15 #[.pointer (some ⟨b, 0, none⟩)] wr fun e w' => e = .returned (.tuple #[]) ∧ Fw w3 w' Q b gn rs now (saveB rs now) ∧ Moved [b, gn] wr w' :=
  (save_any Q b gn rs now back wr h.file).mono fun e w' ⟨he, hf, hm⟩ => ⟨he, h.next hf hm, hm⟩
theorem restore (h : Fw w3 wr Q b gn rs now back) : Calls Try.prog 17 #[.pointer (some ⟨b, 0, none⟩)] wr fun e w' => e = .returned (.tuple #[]) ∧ Fw w3 w' Q b gn rs back back ∧ Moved [b, gn] wr w' :=
  (restore_any Q b gn rs now back wr h.file).mono fun e w' ⟨he, hf, hm⟩ => ⟨he, h.next hf hm, hm⟩
theorem clear (h : Fw w3 wr Q b gn rs now back) : Calls Try.prog 19 #[.pointer (some ⟨b, 0, none⟩)] wr fun e w' => e = .returned (.tuple #[]) ∧ Fw w3 w' Q b gn rs (resets rs) (resets rs) ∧ Moved [b, gn] wr w' :=
  h.file.clear.mono fun e w' ⟨he, hf, hm⟩ => ⟨he, h.next hf hm, hm⟩
theorem read (h : Fw w3 wr Q b gn rs now back) {i : Int} (hi : wfI i) : Calls Try.prog 21 #[.pointer (some ⟨b, 0, none⟩), .int .i64 i] wr fun e w' => e = .returned (.tuple #[.int .u32 (readI now i), .int .i64 (errI rs.length i)]) ∧ wr = w' := read_any Q b gn rs now back i wr hi h.file
theorem many (h : Fw w3 wr Q b gn rs now back) : Calls Try.prog 23 #[.pointer (some ⟨b, 0, none⟩)] wr fun e w' => e = .returned (.int .i64 (rs.length : Int)) ∧ wr = w' := many_any Q b gn rs now back wr h.file
/-- what is ahead of the file reads as it did -/
theorem vals (h : Fw w3 wr Q b gn rs now back) {A : Option Addr} {vs : List Value} {k : Nat} {v : Value} (hV : ValsAt w3 w3.heap.size A vs) (hk : vs[k]? = some v) : ∃ ad, A = some ad ∧ wr.cell? (ad.add k) = some v := by
  obtain ⟨ad, hA, -, hc⟩ := (hV.below h.bel (Nat.le_refl _)).at_ hk
  exact ⟨ad, hA, hc⟩
theorem strs {α : Type} {V : Reads α} {sz : Nat} {xs : List α} {x : α} (h : Fw w3 wr Q b gn rs now back) {A : Option Addr} {k : Nat} (hV : StrsAt V sz w3 w3.heap.size A xs) (hk : xs[k]? = some x) : ∃ ad, A = some ad ∧ AggAt wr (ad.add (k * sz)) (V x) := by
  obtain ⟨ad, hA, -, hc⟩ := (hV.below h.bel (Nat.le_refl _)).at_ hk
  exact ⟨ad, hA, hc⟩
end Fw
theorem Fw.start {w3 w4 : World} {Q : List Nat} {b gn : Nat} {rs : List Rgs} {now back : List Int} (hf : FileIs w4 Q b gn rs now back) (h1 : w3.heap.size ≤ b) (h2 : w3.heap.size ≤ gn) (hb : Below w3.heap.size w3 w4) : Fw w3 w4 Q b gn rs now back := ⟨hf, hb, h1, h2⟩
theorem new_fw (Q : List Nat) (A : Option Addr) (c : Nat) (rs : List Rgs) (w3 wr : World) (hn : rs.length ≤ 8) (hQ : ∀ k, k ∈ Q → k < wr.heap.size) (h : StrsAt RgsV 2 w3 w3.heap.size A rs) (hb : Below w3.heap.size w3 wr) : Calls Try.prog 10 #[.slice A rs.length c] wr fun e w' => ∃ b gn, e = .returned (.tuple #[.pointer (some ⟨b, 0, none⟩), .int .i64 0]) ∧ Fw w3 w' (b :: gn :: Q) b gn rs (resets rs) (resets rs) ∧ Below wr.heap.size wr w' ∧ wr.heap.size ≤ b ∧ wr.heap.size ≤ gn :=
  (new_ok Q A c rs wr hn hQ ((h.below hb (Nat.le_refl _)).more hb.size)).mono fun e w' ⟨b, gn, he, h1, h2, hf, hb2⟩ =>
    ⟨b, gn, he, Fw.start hf (Nat.le_trans hb.size h1) (Nat.le_trans hb.size h2) (hb.trans (hb2.mono hb.size)), hb2, h1, h2⟩

set_option maxHeartbeats 2000000 in
theorem shown_any (w : World) : Calls Try.prog 9 #[] w (TellsB true w) := by
  have hs : StrsAt RgsV 2 (w.alloc (.cells #[.int .u32 5, .bool true] 43)) (w.alloc (.cells #[.int .u32 5, .bool true] 43)).heap.size (some ⟨w.heap.size, 0, none⟩) [⟨5, true⟩] := by
    intro _
    refine ⟨_, rfl, by simp, fun k x hk => ?_⟩
    match k, hk with
    | 0, hk =>
      injection hk with hk
      subst hk
      intro j v hj
      have := (BoxAt.new w [.int .u32 5, .bool true] 43 j v hj).1
      rw [Addr.add_lit, Addr.add_lit]
      simpa using this
  have h0 : Below w.heap.size w (w.alloc (.cells #[.int .u32 5, .bool true] 43)) := (Below.refl _ _).alloc (Nat.le_refl _) _
  have HS := Lib.hid hs
  have H0 := Lib.hid h0
  clear hs h0
  go_enter Try.func9, Try.ntmps9
  go_wp2_with fail
  refine (new_fw [] _ 1 [⟨5, true⟩] _ _ (by simp) (by simp) HS.out (Below.refl _ _)).mono ?_
  rintro e w1 ⟨b, gn, rfl, hf, -, -, -⟩
  have H1 := Lib.hid hf
  clear hf
  go_wp2_with fail
  refine (H1.out.write (i := 0) 7 (by unfold wfI; omega)).mono ?_
  rintro e w2 ⟨rfl, hf, -⟩
  rw [show errI ([⟨5, true⟩] : List Rgs).length 0 = 0 from rfl]
  have H2 := Lib.hid hf
  clear hf
  go_wp2_with fail
  refine (H2.out.save).mono ?_
  rintro e w3 ⟨rfl, hf, -⟩
  have H3 := Lib.hid hf
  clear hf
  go_wp2_with fail
  refine (H3.out.write (i := 0) 9 (by unfold wfI; omega)).mono ?_
  rintro e w4 ⟨rfl, hf, -⟩
  have H4 := Lib.hid hf
  clear hf
  go_wp2_with fail
  refine (H4.out.restore).mono ?_
  rintro e w5 ⟨rfl, hf, -⟩
  have H5 := Lib.hid hf
  clear hf
  go_wp2_with fail
  refine (H5.out.read (i := 0) (by unfold wfI; omega)).mono ?_
  rintro e w6 ⟨rfl, rfl⟩
  rw [show errI ([⟨5, true⟩] : List Rgs).length 0 = 0 from rfl, show readI (saveB [⟨5, true⟩] (writeT (resets [⟨5, true⟩]) 0 7)) 0 = 7 from rfl]
  go_wp2
  go_ret
  exact ⟨rfl, H0.out.trans (H5.out.bel.mono (by simp))⟩

/-! acts of a statement -/
structure Acts where
  op : Int
  i : Int
  v : Int
instance : Inhabited Acts := ⟨⟨0, 0, 0⟩⟩
def ActV : Reads Acts := fun x => [.int .i64 x.op, .int .i64 x.i, .int .u32 x.v]
structure ActW (x : Acts) : Prop where
  op : wfI x.op
  i : wfI x.i
  v : u32I x.v
/-- which register an act writes -/
def placeP (x : Acts) (n : Nat) : Int := pickP x.i ((n : Int) + 2) - 1
theorem placeP_wf (x : Acts) {n : Nat} (hn : n ≤ 1000) : wfI (placeP x n) ∧ -1 ≤ placeP x n ∧ placeP x n ≤ n := by
  have h1 := pickP_lo (c := x.i) (n := (n : Int) + 2) (by omega)
  have h2 := pickP_hi (c := x.i) (n := (n : Int) + 2) (by omega)
  unfold placeP wfI
  omega
/-- a state: what the registers are, and what Restore makes of them -/
structure St where
  now : List Int
  back : List Int
def actT (rs : List Rgs) (s : St) (x : Acts) : St :=
  if pickP x.op 6 = 3 then ⟨s.now, saveB rs s.now⟩ else if pickP x.op 6 = 4 then ⟨s.back, s.back⟩ else if pickP x.op 6 = 5 then ⟨resets rs, resets rs⟩ else ⟨writeT s.now (placeP x rs.length) x.v, s.back⟩
def actE (rs : List Rgs) (x : Acts) : Int := if pickP x.op 6 < 3 then errI rs.length (placeP x rs.length) else 0

set_option maxRecDepth 100000 in
set_option maxHeartbeats 4000000 in
theorem does_any (w3 wr : World) (Q : List Nat) (b gn : Nat) (rs : List Rgs) (s : St) (x : Acts) (hx : ActW x) (h : Fw w3 wr Q b gn rs s.now s.back) :
    Calls Try.prog 25 #[.pointer (some ⟨b, 0, none⟩), .agg #[.int .i64 x.op, .int .i64 x.i, .int .u32 x.v], .int .i64 (rs.length : Int)] wr fun e w' => e = .returned (.int .i64 (actE rs x)) ∧ Fw w3 w' Q b gn rs (actT rs s x).now (actT rs s x).back ∧ Moved [b, gn] wr w' := by
  obtain ⟨op, i, v⟩ := x
  obtain ⟨ho, hi, hv⟩ := hx
  simp only at ho hi hv ⊢
  have h8 := h.file.few
  have hp := placeP_wf ⟨op, i, v⟩ (n := rs.length) (by omega)
  have hpk := pick_any op 6
  have hm1 : Moved [] wr (wr.alloc (.cells #[.int .i64 op, .int .i64 i, .int .u32 v] 35)) := Moved.alloc _ _
  have h1 := h.calm hm1
  have H1 := Lib.hid h1
  have HM1 := Lib.hid (hm1.mono (hot' := [b, gn]) (by simp))
  have bx := BoxAt.new wr [.int .i64 op, .int .i64 i, .int .u32 v] 35
  have x1 := (bx 1 _ rfl).1
  have x2 := (bx 2 _ rfl).1
  have q1 := pickP_lo (c := op) (n := 6) (by omega)
  have q2 := pickP_hi (c := op) (n := 6) (by omega)
  have HO := Lib.hid ho
  have HI := Lib.hid hi
  have HP := Lib.hid hp
  clear hp hm1 h1 bx h ho hi hv hpk
  obtain ⟨m, hm⟩ : ∃ m, m = pickP op 6 := ⟨_, rfl⟩
  have hall : m = 0 ∨ m = 1 ∨ m = 2 ∨ m = 3 ∨ m = 4 ∨ m = 5 := by omega
  clear q1 q2
  have hT : actT rs s ⟨op, i, v⟩ = if m = 3 then ⟨s.now, saveB rs s.now⟩ else if m = 4 then ⟨s.back, s.back⟩ else if m = 5 then ⟨resets rs, resets rs⟩ else ⟨writeT s.now (placeP ⟨op, i, v⟩ rs.length) v, s.back⟩ := by rw [hm]; rfl
  have hE : actE rs ⟨op, i, v⟩ = if m < 3 then errI rs.length (placeP ⟨op, i, v⟩ rs.length) else 0 := by rw [hm]; rfl
  rw [hT, hE]
  have HM := Lib.hid hm
  clear hT hE hm
  have hq : pickP i ((rs.length : Int) + 2) - 1 = placeP ⟨op, i, v⟩ rs.length := rfl
  have hpq := pickP_lo (c := i) (n := (rs.length : Int) + 2) (by omega)
  have hpr := pickP_hi (c := i) (n := (rs.length : Int) + 2) (by omega)
  have HQ := Lib.hid hq
  clear hq
  have i2 : IntKind.i64.wrap ((rs.length : Int) + 2) = (rs.length : Int) + 2 := by rw [IntWalk.i64_in]; omega
  have i3 : IntKind.i64.wrap (pickP i ((rs.length : Int) + 2) - 1) = pickP i ((rs.length : Int) + 2) - 1 := by rw [IntWalk.i64_in]; omega
  rcases hall with rfl | rfl | rfl | rfl | rfl | rfl
  · have hwr := fun W (hW : Fw w3 W Q b gn rs s.now s.back) => hW.write (i := placeP ⟨op, i, v⟩ rs.length) v HP.out.1
    have HWR := Lib.hid hwr
    clear hwr
    go_enter Try.func25, Try.ntmps25
    go_wp2_with fail
    refine (pick_any op 6 _ HO.out (by omega) (by omega)).mono ?_
    rintro e w2 ⟨rfl, rfl⟩
    rw [← HM.out]
    go_wp2
    go_region_with (first
      | (refine (pick_any i ((rs.length : Int) + 2) _ HI.out (by omega) (by omega)).mono ?_
         rintro e w3 ⟨rfl, rfl⟩)
      | (refine (HWR.out _ (H1.out.calm (Moved.drew _))).mono ?_
         rintro e w4 ⟨rfl, hf, hmv⟩
         have HF := Lib.hid hf
         have HMV := Lib.hid hmv
         clear hf hmv))
    all_goals
      go_wp2
      go_ret
      exact ⟨rfl, HF.out, HM1.out.trans ((Moved.drew _).trans HMV.out)⟩
  · have hwr := fun W (hW : Fw w3 W Q b gn rs s.now s.back) => hW.write (i := placeP ⟨op, i, v⟩ rs.length) v HP.out.1
    have HWR := Lib.hid hwr
    clear hwr
    go_enter Try.func25, Try.ntmps25
    go_wp2_with fail
    refine (pick_any op 6 _ HO.out (by omega) (by omega)).mono ?_
    rintro e w2 ⟨rfl, rfl⟩
    rw [← HM.out]
    go_wp2
    go_region_with (first
      | (refine (pick_any i ((rs.length : Int) + 2) _ HI.out (by omega) (by omega)).mono ?_
         rintro e w3 ⟨rfl, rfl⟩)
      | (refine (HWR.out _ (H1.out.calm (Moved.drew _))).mono ?_
         rintro e w4 ⟨rfl, hf, hmv⟩
         have HF := Lib.hid hf
         have HMV := Lib.hid hmv
         clear hf hmv))
    all_goals
      go_wp2
      go_ret
      exact ⟨rfl, HF.out, HM1.out.trans ((Moved.drew _).trans HMV.out)⟩
  · have hwr := fun W (hW : Fw w3 W Q b gn rs s.now s.back) => hW.write (i := placeP ⟨op, i, v⟩ rs.length) v HP.out.1
    have HWR := Lib.hid hwr
    clear hwr
    go_enter Try.func25, Try.ntmps25
    go_wp2_with fail
    refine (pick_any op 6 _ HO.out (by omega) (by omega)).mono ?_
    rintro e w2 ⟨rfl, rfl⟩
    rw [← HM.out]
    go_wp2
    go_region_with (first
      | (refine (pick_any i ((rs.length : Int) + 2) _ HI.out (by omega) (by omega)).mono ?_
         rintro e w3 ⟨rfl, rfl⟩)
      | (refine (HWR.out _ (H1.out.calm (Moved.drew _))).mono ?_
         rintro e w4 ⟨rfl, hf, hmv⟩
         have HF := Lib.hid hf
         have HMV := Lib.hid hmv
         clear hf hmv))
    all_goals
      go_wp2
      go_ret
      exact ⟨rfl, HF.out, HM1.out.trans ((Moved.drew _).trans HMV.out)⟩
  · clear i2 i3 hpq hpr
    go_enter Try.func25, Try.ntmps25
    go_wp2_with fail
    refine (pick_any op 6 _ HO.out (by omega) (by omega)).mono ?_
    rintro e w2 ⟨rfl, rfl⟩
    rw [← HM.out]
    go_wp2_with fail
    refine (H1.out.save).mono ?_
    rintro e w3 ⟨rfl, hf, hmv⟩
    have HF := Lib.hid hf
    have HMV := Lib.hid hmv
    clear hf hmv
    go_wp2
    go_ret
    exact ⟨rfl, HF.out, HM1.out.trans HMV.out⟩
  · clear i2 i3 hpq hpr
    go_enter Try.func25, Try.ntmps25
    go_wp2_with fail
    refine (pick_any op 6 _ HO.out (by omega) (by omega)).mono ?_
    rintro e w2 ⟨rfl, rfl⟩
    rw [← HM.out]
    go_wp2_with fail
    refine (H1.out.restore).mono ?_
    rintro e w3 ⟨rfl, hf, hmv⟩
    have HF := Lib.hid hf
    have HMV := Lib.hid hmv
    clear hf hmv
    go_wp2
    go_ret
    exact ⟨rfl, HF.out, HM1.out.trans HMV.out⟩
  · clear i2 i3 hpq hpr
    go_enter Try.func25, Try.ntmps25
    go_wp2_with fail
    refine (pick_any op 6 _ HO.out (by omega) (by omega)).mono ?_
    rintro e w2 ⟨rfl, rfl⟩
    rw [← HM.out]
    go_wp2_with fail
    refine (H1.out.clear).mono ?_
    rintro e w3 ⟨rfl, hf, hmv⟩
    have HF := Lib.hid hf
    have HMV := Lib.hid hmv
    clear hf hmv
    go_wp2
    go_ret
    exact ⟨rfl, HF.out, HM1.out.trans HMV.out⟩

end Go.Proofs.Ytlolnogkndhfnaa
