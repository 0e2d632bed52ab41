/- The document's own answer to two devices: catnapref4.alike. -/
import Derived.Test.YtkhfcbcanbplgaaU1
import Derived.Deep.QuietTactic
import Derived.BigQuiet
import Derived.Test.YtkhfcbcanbplgaaF1
import Derived.Test.YtkhfcbcanbplgaaW16
import Derived.Test.YtkhfcbcanbplgaaW17
import Derived.Test.YtkhfcbcanbplgaaW20
namespace Go.Proofs.Ytkhfcbcanbplgaa
section
set_option linter.unusedSimpArgs false
set_option linter.unusedVariables false
open Go.RowKit Go.Maps

/-- two boxes stand -/
def Bz (w : World) (o o' : Obj) (W : World) : Prop := Below (w.heap.size + 2) ((w.alloc o).alloc o') W
namespace Bz
variable {w W W' : World} {o o' : Obj}
theorem start (w : World) (o o' : Obj) : Bz w o o' ((w.alloc o).alloc o') := Below.refl _ _
theorem low (h : Bz w o o' W) : Below w.heap.size w W := (((Below.refl w.heap.size w).alloc (Nat.le_refl _) o).alloc (by simp) o').trans (Below.mono h (by omega))
theorem size (h : Bz w o o' W) : w.heap.size + 2 ≤ W.heap.size := by
  have := Below.size h
  simpa using this
theorem box1 {vs : List Value} {t : TypeId} (h : Bz w (.cells vs.toArray t) o' W) : ∀ j u, vs[j]? = some u → W.cell? ⟨w.heap.size, j, none⟩ = some u := fun j u hj =>
  (Below.cell h (p := ⟨w.heap.size, j, none⟩) (by show w.heap.size < w.heap.size + 2; omega)).trans (Lib.cell?_alloc_some _ ((BoxAt.new w vs t) j u hj).1)
theorem box2 {vs : List Value} {t : TypeId} (h : Bz w o (.cells vs.toArray t) W) : ∀ j u, vs[j]? = some u → W.cell? ⟨w.heap.size + 1, j, none⟩ = some u := fun j u hj => by
  have := (BoxAt.new (w.alloc o) vs t) j u hj
  simp only [World.size_alloc] at this
  exact (Below.cell h (p := ⟨w.heap.size + 1, j, none⟩) (by show w.heap.size + 1 < w.heap.size + 2; omega)).trans this.1
theorem step (h : Bz w o o' W) (hb : Below W.heap.size W W') : Bz w o o' W' := Below.trans h (hb.mono h.size)
theorem moved (h : Bz w o o' W) (hm : Moved [] W W') : Bz w o o' W' := Below.trans h (hm.below (by simp) h.size)
theorem readsS {α : Type} {V : Reads α} [sv : Steady V] {sz : Nat} {A : Option Addr} {xs : List α} (h : Bz w o o' W) (hx : StrsAt V sz w w.heap.size A xs) : StrsAt V sz W w.heap.size A xs := hx.below h.low (Nat.le_refl _)
theorem ints {A : Option Addr} {xs : List Int} (h : Bz w o o' W) (hx : IntsAt w w.heap.size A xs) : IntsAt W W.heap.size A xs := (hx.below h.low (Nat.le_refl _)).more h.low.size
end Bz
theorem drewN_moved (W : World) (n : Nat) : Moved [] W (W.drewN n) := ⟨rfl, rfl, rfl, Nat.le_refl _, fun _ _ _ => rfl⟩
theorem bne_of {x y : Int} (h : x ≠ y) : (x != y) = true := by simpa using h
theorem ext_list {α : Type} {xs ys : List α} {k : Nat} (h : ∀ j, j < k → xs[j]? = ys[j]?) (hl : xs.length = k) (hl' : ys.length = k) : xs = ys := by
  refine List.ext_getElem? fun j => ?_
  rcases Nat.lt_or_ge j k with hj | hj
  · exact h j hj
  · rw [List.getElem?_eq_none (by omega), List.getElem?_eq_none (by omega)]

set_option maxRecDepth 100000 in
set_option maxHeartbeats 8000000 in
theorem alike_no1 (a1 a2 a3 a4 b1 b2 b3 b4 : Int) (rs qs : List Rgs) (xs ys : List Int) (Ar Af Br Bf : Option Addr) (cr cf dr df n1 m1 : Nat) (w : World) (b : Bool) (h : a1 ≠ b1)
    (hb : eqP (⟨a1, a2, a3, a4, rs, xs⟩ : Dev) ⟨b1, b2, b3, b4, qs, ys⟩ = b) : Calls Try.prog 60 #[.agg #[.int .i64 a1, .int .i64 a2, .int .i64 a3, .int .u32 a4, .slice Ar n1 cr, .slice Af xs.length cf], .agg #[.int .i64 b1, .int .i64 b2, .int .i64 b3, .int .u32 b4, .slice Br m1 dr, .slice Bf ys.length df]] w (TellsB b w) := by
  have hq := bne_of h
  have HH := Lib.hid h
  have HB := Lib.hid hb
  clear h hb
  go_enter Try.func60, Try.ntmps60
  go_wp2
  go_ret
  refine ⟨by rw [← HB.out, eqP_no (fun e => HH.out (congrArg Dev.clock e))]; rfl, ((Below.refl w.heap.size w).alloc (Nat.le_refl _) _).alloc (by simp) _⟩

set_option maxRecDepth 100000 in
set_option maxHeartbeats 8000000 in
theorem alike_no2 (a1 a2 a3 a4 b2 b3 b4 : Int) (rs qs : List Rgs) (xs ys : List Int) (Ar Af Br Bf : Option Addr) (cr cf dr df n1 m1 : Nat) (w : World) (b : Bool) (h : a2 ≠ b2)
    (hb : eqP (⟨a1, a2, a3, a4, rs, xs⟩ : Dev) ⟨a1, b2, b3, b4, qs, ys⟩ = b) : Calls Try.prog 60 #[.agg #[.int .i64 a1, .int .i64 a2, .int .i64 a3, .int .u32 a4, .slice Ar n1 cr, .slice Af xs.length cf], .agg #[.int .i64 a1, .int .i64 b2, .int .i64 b3, .int .u32 b4, .slice Br m1 dr, .slice Bf ys.length df]] w (TellsB b w) := by
  have hq := bne_of h
  have HH := Lib.hid h
  have HB := Lib.hid hb
  clear h hb
  go_enter Try.func60, Try.ntmps60
  go_wp2
  go_ret
  refine ⟨by rw [← HB.out, eqP_no (fun e => HH.out (congrArg Dev.domain e))]; rfl, ((Below.refl w.heap.size w).alloc (Nat.le_refl _) _).alloc (by simp) _⟩

set_option maxRecDepth 100000 in
set_option maxHeartbeats 8000000 in
theorem alike_no3 (a1 a2 a3 a4 b3 b4 : Int) (rs qs : List Rgs) (xs ys : List Int) (Ar Af Br Bf : Option Addr) (cr cf dr df n1 m1 : Nat) (w : World) (b : Bool) (h : a3 ≠ b3)
    (hb : eqP (⟨a1, a2, a3, a4, rs, xs⟩ : Dev) ⟨a1, a2, b3, b4, qs, ys⟩ = b) : Calls Try.prog 60 #[.agg #[.int .i64 a1, .int .i64 a2, .int .i64 a3, .int .u32 a4, .slice Ar n1 cr, .slice Af xs.length cf], .agg #[.int .i64 a1, .int .i64 a2, .int .i64 b3, .int .u32 b4, .slice Br m1 dr, .slice Bf ys.length df]] w (TellsB b w) := by
  have hq := bne_of h
  have HH := Lib.hid h
  have HB := Lib.hid hb
  clear h hb
  go_enter Try.func60, Try.ntmps60
  go_wp2
  go_ret
  refine ⟨by rw [← HB.out, eqP_no (fun e => HH.out (congrArg Dev.rst e))]; rfl, ((Below.refl w.heap.size w).alloc (Nat.le_refl _) _).alloc (by simp) _⟩

set_option maxRecDepth 100000 in
set_option maxHeartbeats 8000000 in
theorem alike_no4 (a1 a2 a3 a4 b4 : Int) (rs qs : List Rgs) (xs ys : List Int) (Ar Af Br Bf : Option Addr) (cr cf dr df n1 m1 : Nat) (w : World) (b : Bool) (h : a4 ≠ b4)
    (hb : eqP (⟨a1, a2, a3, a4, rs, xs⟩ : Dev) ⟨a1, a2, a3, b4, qs, ys⟩ = b) : Calls Try.prog 60 #[.agg #[.int .i64 a1, .int .i64 a2, .int .i64 a3, .int .u32 a4, .slice Ar n1 cr, .slice Af xs.length cf], .agg #[.int .i64 a1, .int .i64 a2, .int .i64 a3, .int .u32 b4, .slice Br m1 dr, .slice Bf ys.length df]] w (TellsB b w) := by
  have hq := bne_of h
  have HH := Lib.hid h
  have HB := Lib.hid hb
  clear h hb
  go_enter Try.func60, Try.ntmps60
  go_wp2
  go_ret
  refine ⟨by rw [← HB.out, eqP_no (fun e => HH.out (congrArg Dev.clamp e))]; rfl, ((Below.refl w.heap.size w).alloc (Nat.le_refl _) _).alloc (by simp) _⟩

set_option maxRecDepth 100000 in
set_option maxHeartbeats 8000000 in
theorem alike_no5 (a1 a2 a3 a4 b0 : Int) (rs qs : List Rgs) (xs ys : List Int) (Ar Af Br Bf : Option Addr) (cr cf dr df n1 m1 : Nat) (w : World) (b : Bool) (h1 : n1 = rs.length) (h2 : m1 = qs.length) (h : n1 ≠ m1)
    (hb : eqP (⟨a1, a2, a3, a4, rs, xs⟩ : Dev) ⟨a1, a2, a3, a4, qs, ys⟩ = b) : Calls Try.prog 60 #[.agg #[.int .i64 a1, .int .i64 a2, .int .i64 a3, .int .u32 a4, .slice Ar n1 cr, .slice Af xs.length cf], .agg #[.int .i64 a1, .int .i64 a2, .int .i64 a3, .int .u32 a4, .slice Br m1 dr, .slice Bf ys.length df]] w (TellsB b w) := by
  have hq : ((n1 : Int) != (m1 : Int)) = true := by rw [bne_iff_ne]; omega
  have hq' : (n1 != m1) = true := by rw [bne_iff_ne]; exact h
  have HH : RowKit.Hid (rs.length ≠ qs.length) := by rw [← h1, ← h2]; exact h
  have HB := Lib.hid hb
  clear h hb h1 h2
  go_enter Try.func60, Try.ntmps60
  go_wp2
  go_ret
  refine ⟨by rw [← HB.out, eqP_no (fun e => HH.out (congrArg (fun d : Dev => d.regs.length) e))]; rfl, ((Below.refl w.heap.size w).alloc (Nat.le_refl _) _).alloc (by simp) _⟩

set_option maxRecDepth 100000 in
set_option maxHeartbeats 8000000 in
theorem alike_no6 (a1 a2 a3 a4 b0 : Int) (rs qs : List Rgs) (xs ys : List Int) (Ar Af Br Bf : Option Addr) (cr cf dr df n1 : Nat) (w : World) (b : Bool) (hn : xs.length ≤ 1000) (hm : ys.length ≤ 1000) (hi : IntsAt w w.heap.size Af xs) (hi' : IntsAt w w.heap.size Bf ys) (h : xs ≠ ys)
    (hb : eqP (⟨a1, a2, a3, a4, rs, xs⟩ : Dev) ⟨a1, a2, a3, a4, qs, ys⟩ = b) : Calls Try.prog 60 #[.agg #[.int .i64 a1, .int .i64 a2, .int .i64 a3, .int .u32 a4, .slice Ar n1 cr, .slice Af xs.length cf], .agg #[.int .i64 a1, .int .i64 a2, .int .i64 a3, .int .u32 a4, .slice Br n1 dr, .slice Bf ys.length df]] w (TellsB b w) := by
  have HH := Lib.hid h
  have HB := Lib.hid hb
  have hz := Bz.start w (.cells #[.int .i64 a1, .int .i64 a2, .int .i64 a3, .int .u32 a4, .slice Ar n1 cr, .slice Af xs.length cf] 44) (.cells #[.int .i64 a1, .int .i64 a2, .int .i64 a3, .int .u32 a4, .slice Br n1 dr, .slice Bf ys.length df] 44)
  have H1 := Lib.hid (hz.ints hi)
  have H2 := Lib.hid (hz.ints hi')
  have HZ := Lib.hid hz
  clear h hb hi hi' hz
  go_enter Try.func60, Try.ntmps60
  go_wp2_with fail
  refine (rints_any Af cf Bf df xs ys _ (by omega) (by omega) H1.out H2.out).mono ?_
  rintro e w6 ⟨rfl, hb6⟩
  rw [eqP_no HH.out]
  have HB6 := Lib.hid hb6
  clear hb6
  go_wp2
  go_ret
  refine ⟨by rw [← HB.out, eqP_no (fun e => HH.out (congrArg Dev.needs e))]; rfl, (HZ.out.step HB6.out).low⟩

set_option maxRecDepth 100000 in
set_option maxHeartbeats 8000000 in
theorem alike_regs (a1 a2 a3 a4 b0 : Int) (rs qs : List Rgs) (xs ys : List Int) (Ar Af Br Bf : Option Addr) (cr cf dr df n1 : Nat) (w : World) (b : Bool) (h1 : n1 = rs.length) (h2 : n1 = qs.length) (hl : n1 ≤ 1000) (hn : xs.length ≤ 1000) (hi : IntsAt w w.heap.size Af xs) (hi' : IntsAt w w.heap.size Bf ys) (hr : StrsAt RgsV 2 w w.heap.size Ar rs) (hr' : StrsAt RgsV 2 w w.heap.size Br qs) (h : xs = ys)
    (hb : eqP (⟨a1, a2, a3, a4, rs, xs⟩ : Dev) ⟨a1, a2, a3, a4, qs, ys⟩ = b) : Calls Try.prog 60 #[.agg #[.int .i64 a1, .int .i64 a2, .int .i64 a3, .int .u32 a4, .slice Ar n1 cr, .slice Af xs.length cf], .agg #[.int .i64 a1, .int .i64 a2, .int .i64 a3, .int .u32 a4, .slice Br n1 dr, .slice Bf ys.length df]] w (TellsB b w) := by
  subst h
  have HB := Lib.hid hb
  have hz := Bz.start w (.cells #[.int .i64 a1, .int .i64 a2, .int .i64 a3, .int .u32 a4, .slice Ar n1 cr, .slice Af xs.length cf] 44) (.cells #[.int .i64 a1, .int .i64 a2, .int .i64 a3, .int .u32 a4, .slice Br n1 dr, .slice Bf xs.length df] 44)
  have H1 := Lib.hid (hz.ints hi)
  have H2 := Lib.hid (hz.ints hi')
  have HZ := Lib.hid hz
  have HR := Lib.hid hr
  have HR' := Lib.hid hr'
  have HL : RowKit.Hid (n1 = rs.length ∧ n1 = qs.length) := ⟨h1, h2⟩
  clear hb hi hi' hz hr hr' h1 h2
  go_enter Try.func60, Try.ntmps60
  go_wp2_with fail
  refine (rints_any Af cf Bf df xs xs _ (by omega) (by omega) H1.out H2.out).mono ?_
  rintro e w6 ⟨rfl, hb6⟩
  rw [eqP_self]
  have HB6 := Lib.hid (HZ.out.step hb6)
  clear hb6
  go_wp2
  go_loopw [5] (fun i wr => ∃ k : Nat, k ≤ n1 ∧ i = .int .i64 k ∧ Bz w (.cells #[.int .i64 a1, .int .i64 a2, .int .i64 a3, .int .u32 a4, .slice Ar n1 cr, .slice Af xs.length cf] 44) (.cells #[.int .i64 a1, .int .i64 a2, .int .i64 a3, .int .u32 a4, .slice Br n1 dr, .slice Bf xs.length df] 44) wr ∧ RowKit.Hid (∀ j, j < k → rs[j]? = qs[j]?)) (fun i _ => n1 - (intOf i).toNat)
  case atStart => exact ⟨0, Nat.zero_le _, rfl, HB6.out, Lib.hid (fun j hj => absurd hj (by omega))⟩
  case round =>
    obtain ⟨k, hk, rfl, hB, HE⟩ := hrel
    clear HB6 H1 H2 HZ
    have x4 := hB.box1 (vs := [.int .i64 a1, .int .i64 a2, .int .i64 a3, .int .u32 a4, .slice Ar n1 cr, .slice Af xs.length cf]) 4 _ rfl
    have y4 := hB.box2 (vs := [.int .i64 a1, .int .i64 a2, .int .i64 a3, .int .u32 a4, .slice Br n1 dr, .slice Bf xs.length df]) 4 _ rfl
    have HBB := Lib.hid hB
    have i0 : (0 : Int) ≤ (k : Int) := by omega
    by_cases hlt : k < n1
    · have i1 : (k : Int) < (n1 : Int) := by omega
      obtain ⟨e1, e2⟩ := HL.out
      obtain ⟨ad, vs, hA, hab, hV, hAg⟩ := (hB.readsS HR.out).at_ (k := k) (by omega)
      obtain ⟨ad', vs', hA', hab', hV', hAg'⟩ := (hB.readsS HR'.out).at_ (k := k) (by omega)
      have hx := List.getElem?_eq_getElem (l := rs) (i := k) (by omega)
      have hy := List.getElem?_eq_getElem (l := qs) (i := k) (by omega)
      generalize rs[k]'_ = x at hx hV
      generalize qs[k]'_ = y at hy hV'
      obtain ⟨p1, p2⟩ := x
      obtain ⟨r1, r2⟩ := y
      have hv : vs = [.int .u32 p1, .bool p2] := hV
      have hv' : vs' = [.int .u32 r1, .bool r2] := hV'
      subst hv hv'
      have g0 := hAg.zero
      have g1 := hAg.at_ 0 rfl
      have f0 := hAg'.zero
      have f1 := hAg'.at_ 0 rfl
      have HX := Lib.hid hx
      have HY := Lib.hid hy
      clear hAg hAg' hx hy hV hV' e1 e2 hB
      subst hA hA'
      by_cases hp : p1 = r1
      · subst hp
        cases p2
        · cases r2
          · go_wp2
            go_quiet (fail)
            go_wp2
            go_roundw
            case measure => simp [intOf]; omega
            case rel =>
              refine ⟨k + 1, hlt, by go_num, HBB.out.moved (drewN_moved wr _), Lib.hid (fun j hj => ?_)⟩
              by_cases hjk : j = k
              · subst hjk; rw [HX.out, HY.out]
              · exact HE.out j (by omega)
          · go_wp2
            go_quiet (fail)
            go_wp2
            go_ret
            refine ⟨?_, (HBB.out.moved (drewN_moved wr _)).low⟩
            rw [← HB.out, eqP_no (fun e => by have h := HX.out; have e2 : rs = qs := congrArg Dev.regs e; rw [e2] at h; have := congrArg Rgs.kept (Option.some.inj (h.symm.trans HY.out)); simp at this)]
            rfl
        · cases r2
          · go_wp2
            go_quiet (fail)
            go_wp2
            go_ret
            refine ⟨?_, (HBB.out.moved (drewN_moved wr _)).low⟩
            rw [← HB.out, eqP_no (fun e => by have h := HX.out; have e2 : rs = qs := congrArg Dev.regs e; rw [e2] at h; have := congrArg Rgs.kept (Option.some.inj (h.symm.trans HY.out)); simp at this)]
            rfl
          · go_wp2
            go_quiet (fail)
            go_wp2
            go_roundw
            case measure => simp [intOf]; omega
            case rel =>
              refine ⟨k + 1, hlt, by go_num, HBB.out.moved (drewN_moved wr _), Lib.hid (fun j hj => ?_)⟩
              by_cases hjk : j = k
              · subst hjk; rw [HX.out, HY.out]
              · exact HE.out j (by omega)
      · have hp' := bne_of hp
        have HP := Lib.hid hp
        clear hp
        go_wp2
        go_quiet (fail)
        go_wp2
        go_ret
        refine ⟨?_, (HBB.out.moved (drewN_moved wr _)).low⟩
        rw [← HB.out, eqP_no (fun e => HP.out (by have h := HX.out; have e2 : rs = qs := congrArg Dev.regs e; rw [e2] at h; exact congrArg Rgs.reset (Option.some.inj (h.symm.trans HY.out))))]
        rfl
    · obtain rfl : k = n1 := by omega
      clear hB
      go_wp2
      go_ret
      refine ⟨?_, HBB.out.low⟩
      rw [← HB.out, ext_list HE.out HL.out.1.symm HL.out.2.symm, eqP_self]
      rfl

theorem alike_any (x y : Dev) (vs us : List Value) (w : World) (hx : x.regs.length ≤ 1000 ∧ x.needs.length ≤ 1000) (hy : y.regs.length ≤ 1000 ∧ y.needs.length ≤ 1000) (h : DevV w w.heap.size x vs) (h' : DevV w w.heap.size y us) : Calls Try.prog 60 #[.agg vs.toArray, .agg us.toArray] w (TellsB (eqP x y) w) := by
  obtain ⟨a1, a2, a3, a4, rs, xs⟩ := x
  obtain ⟨b1, b2, b3, b4, qs, ys⟩ := y
  obtain ⟨Ar, cr, Af, cf, rfl, -, -, hr, hi⟩ := h
  obtain ⟨Br, dr, Bf, df, rfl, -, -, hr', hi'⟩ := h'
  by_cases h1 : a1 = b1
  · subst h1
    by_cases h2 : a2 = b2
    · subst h2
      by_cases h3 : a3 = b3
      · subst h3
        by_cases h4 : a4 = b4
        · subst h4
          by_cases h5 : rs.length = qs.length
          · by_cases h6 : xs = ys
            · have := alike_regs a1 a2 a3 a4 0 rs qs xs ys Ar Af Br Bf cr cf dr df rs.length w _ rfl h5 hx.1 hx.2 hi hi' hr hr' h6 rfl
              rw [h5] at this ⊢
              exact this
            · have := alike_no6 a1 a2 a3 a4 0 rs qs xs ys Ar Af Br Bf cr cf dr df rs.length w _ hx.2 hy.2 hi hi' h6 rfl
              rw [h5] at this ⊢
              exact this
          · exact alike_no5 a1 a2 a3 a4 0 rs qs xs ys Ar Af Br Bf cr cf dr df rs.length qs.length w _ rfl rfl h5 rfl
        · exact alike_no4 a1 a2 a3 a4 b4 rs qs xs ys Ar Af Br Bf cr cf dr df rs.length qs.length w _ h4 rfl
      · exact alike_no3 a1 a2 a3 a4 b3 b4 rs qs xs ys Ar Af Br Bf cr cf dr df rs.length qs.length w _ h3 rfl
    · exact alike_no2 a1 a2 a3 a4 b2 b3 b4 rs qs xs ys Ar Af Br Bf cr cf dr df rs.length qs.length w _ h2 rfl
  · exact alike_no1 a1 a2 a3 a4 b1 b2 b3 b4 rs qs xs ys Ar Af Br Bf cr cf dr df rs.length qs.length w _ h1 rfl
end

section
set_option linter.unusedSimpArgs false
set_option linter.unusedVariables false
open Go.RowKit Go.Maps

set_option maxRecDepth 100000 in
theorem lit192 (T : Nat → Value) : listT T 192 = List.toArray (T 0 :: T 1 :: T 2 :: T 3 :: T 4 :: T 5 :: T 6 :: T 7 :: T 8 :: T 9 :: T 10 :: T 11 :: T 12 :: T 13 :: T 14 :: T 15 :: T 16 :: T 17 :: T 18 :: T 19 :: T 20 :: T 21 :: T 22 :: T 23 :: T 24 :: T 25 :: T 26 :: T 27 :: T 28 :: T 29 :: T 30 :: T 31 :: T 32 :: T 33 :: T 34 :: T 35 :: T 36 :: T 37 :: T 38 :: T 39 :: T 40 :: T 41 :: T 42 :: T 43 :: T 44 :: T 45 :: T 46 :: T 47 :: T 48 :: T 49 :: T 50 :: T 51 :: T 52 :: T 53 :: T 54 :: T 55 :: T 56 :: T 57 :: T 58 :: T 59 :: T 60 :: T 61 :: T 62 :: T 63 :: T 64 :: T 65 :: T 66 :: T 67 :: T 68 :: T 69 :: T 70 :: T 71 :: T 72 :: T 73 :: T 74 :: T 75 :: T 76 :: T 77 :: T 78 :: T 79 :: T 80 :: T 81 :: T 82 :: T 83 :: T 84 :: T 85 :: T 86 :: T 87 :: T 88 :: T 89 :: T 90 :: T 91 :: T 92 :: T 93 :: T 94 :: T 95 :: T 96 :: T 97 :: T 98 :: T 99 :: T 100 :: T 101 :: T 102 :: T 103 :: T 104 :: T 105 :: T 106 :: T 107 :: T 108 :: T 109 :: T 110 :: T 111 :: T 112 :: T 113 :: T 114 :: T 115 :: T 116 :: T 117 :: T 118 :: T 119 :: T 120 :: T 121 :: T 122 :: T 123 :: T 124 :: T 125 :: T 126 :: T 127 :: T 128 :: T 129 :: T 130 :: T 131 :: T 132 :: T 133 :: T 134 :: T 135 :: T 136 :: T 137 :: T 138 :: T 139 :: T 140 :: T 141 :: T 142 :: T 143 :: T 144 :: T 145 :: T 146 :: T 147 :: T 148 :: T 149 :: T 150 :: T 151 :: T 152 :: T 153 :: T 154 :: T 155 :: T 156 :: T 157 :: T 158 :: T 159 :: T 160 :: T 161 :: T 162 :: T 163 :: T 164 :: T 165 :: T 166 :: T 167 :: T 168 :: T 169 :: T 170 :: T 171 :: T 172 :: T 173 :: T 174 :: T 175 :: T 176 :: T 177 :: T 178 :: T 179 :: T 180 :: T 181 :: T 182 :: T 183 :: T 184 :: T 185 :: T 186 :: T 187 :: T 188 :: T 189 :: T 190 :: T 191 :: []) := rfl
noncomputable def smBody : Code := Try.f22.body.getD .skip
noncomputable def smL1 : Code := tlC (tlC smBody)
noncomputable def smL2 : Code := tlC smL1
noncomputable def smL3 : Code := tlC smL2
noncomputable def smL4 : Code := tlC smL3
noncomputable def smLoop1 : Code := blC (tlC (hdC smL1))
noncomputable def smLoop2 : Code := blC (tlC (hdC smL2))
noncomputable def smLoop3 : Code := blC (tlC (hdC smL3))
noncomputable def smLoop4 : Code := blC (tlC (hdC smL4))
theorem at_eq {α : Type} {xs ys : List α} {k : Nat} {x y : α} (hx : xs[k]? = some x) (hy : ys[k]? = some y) (e : xs = ys) : x = y := by
  subst e
  rw [hx] at hy
  exact Option.some.inj hy

set_option maxRecDepth 1000000 in
set_option maxHeartbeats 8000000 in
theorem sm1_round {w : World} (A1 A2 A3 A4 B1 B2 B3 B4 : Option Addr) (n1 n2 n3 n4 c1 c2 c3 c4 d1 d2 d3 d4 : Nat) (xs ys : List Clk) (HL : RowKit.Hid (n1 = xs.length ∧ n1 = ys.length)) (hn : n1 ≤ 1000) (HX : RowKit.Hid (StrsAt ClkV 6 w w.heap.size A1 xs)) (HY : RowKit.Hid (StrsAt ClkV 6 w w.heap.size B1 ys)) (HO : RowKit.Hid (∀ c, c ∈ xs → c.frm.length ≤ 1000)) (HO' : RowKit.Hid (∀ c, c ∈ ys → c.frm.length ≤ 1000)) (W : World) (k : Nat) (hk : k ≤ n1) (HB : RowKit.Hid (Bz w (.cells #[.slice A1 n1 c1, .slice A2 n2 c2, .slice A3 n3 c3, .slice A4 n4 c4] 27) (.cells #[.slice B1 n1 d1, .slice B2 n2 d2, .slice B3 n3 d3, .slice B4 n4 d4] 27) W)) (HE : RowKit.Hid (∀ j, j < k → xs[j]? = ys[j]?)) (a : Act) (ha : FrN 192 a) (h2 : slT a 2 = .pointer (some ⟨w.heap.size, 0, none⟩)) (h3 : slT a 3 = .pointer (some ⟨w.heap.size + 1, 0, none⟩)) (hc : slT a 5 = .int .i64 (k : Nat)) (R : Act → World → Prop) (Q : Exit → Act → World → Prop)
    (hR : ∀ a' W', k < n1 → FrN 192 a' → slT a' 2 = .pointer (some ⟨w.heap.size, 0, none⟩) → slT a' 3 = .pointer (some ⟨w.heap.size + 1, 0, none⟩) → slT a' 5 = .int .i64 ((k + 1 : Nat) : Int) → Bz w (.cells #[.slice A1 n1 c1, .slice A2 n2 c2, .slice A3 n3 c3, .slice A4 n4 c4] 27) (.cells #[.slice B1 n1 d1, .slice B2 n2 d2, .slice B3 n3 d3, .slice B4 n4 d4] 27) W' → (∀ j, j < k + 1 → xs[j]? = ys[j]?) → R a' W') (hQ : ∀ a', FrN 192 a' → slT a' 2 = .pointer (some ⟨w.heap.size, 0, none⟩) → slT a' 3 = .pointer (some ⟨w.heap.size + 1, 0, none⟩) → k = n1 → Q (.exit 0) a' W)
    (hF : xs ≠ ys → ∀ a' W', FrN 192 a' → slT a' 4 = .bool false → Bz w (.cells #[.slice A1 n1 c1, .slice A2 n2 c2, .slice A3 n3 c3, .slice A4 n4 c4] 27) (.cells #[.slice B1 n1 d1, .slice B2 n2 d2, .slice B3 n3 d3, .slice B4 n4 d4] 27) W' → Q .ret a' W') : Code.wp Try.prog (lpC smLoop1) (Exit.then R Q) a W := by
  have HR := Lib.hid hR
  have HQ := Lib.hid hQ
  have HF := Lib.hid hF
  clear hR hQ hF
  have x0 := HB.out.box1 (vs := [.slice A1 n1 c1, .slice A2 n2 c2, .slice A3 n3 c3, .slice A4 n4 c4]) 0 _ rfl
  have y0 := HB.out.box2 (vs := [.slice B1 n1 d1, .slice B2 n2 d2, .slice B3 n3 d3, .slice B4 n4 d4]) 0 _ rfl
  have i0 : (0 : Int) ≤ (k : Int) := by omega
  obtain ⟨F, rfl⟩ := ha.open_
  rw [slT_listT (by omega)] at h2 h3 hc
  rw [lit192, h2, h3, hc]
  clear ha h2 h3 hc
  conv => arg 2; whnf
  by_cases hlt : k < n1
  · have i1 : (k : Int) < (n1 : Int) := by omega
    obtain ⟨e1, e2⟩ := HL.out
    obtain ⟨ad, vs, hA, hab, hV, hAg⟩ := (HB.out.readsS HX.out).at_ (k := k) (by omega)
    obtain ⟨ad', vs', hA', hab', hV', hAg'⟩ := (HB.out.readsS HY.out).at_ (k := k) (by omega)
    have hx := List.getElem?_eq_getElem (l := xs) (i := k) (by omega)
    have hy := List.getElem?_eq_getElem (l := ys) (i := k) (by omega)
    generalize xs[k]'_ = x at hx hV
    generalize ys[k]'_ = y at hy hV'
    have HXX := Lib.hid hx
    have HYY := Lib.hid hy
    have HL' := Lib.hid hlt
    have step : ∀ x' : Clk, x = x' → y = x' → ∀ j, j < k + 1 → xs[j]? = ys[j]? := fun x' ex ey j hj => by
      by_cases hjk : j = k
      · subst hjk; rw [HXX.out, HYY.out, ex, ey]
      · exact HE.out j (by omega)
    have HS := Lib.hid step
    clear hx hy e1 e2 step
    obtain ⟨x1, xf, x3, x4, x5, x6⟩ := x
    obtain ⟨z1, zf, z3, z4, z5, z6⟩ := y
    obtain ⟨Af, cf, rfl, hcf, hIf⟩ := hV
    obtain ⟨Bf, df, rfl, hdf, hJf⟩ := hV'
    have l1 := HO.out _ (List.mem_of_getElem? HXX.out)
    have l2 := HO'.out _ (List.mem_of_getElem? HYY.out)
    have g0 := hAg.zero
    have g1 := hAg.at_ 0 rfl
    have g2 := hAg.at_ 1 rfl
    have g3 := hAg.at_ 2 rfl
    have g4 := hAg.at_ 3 rfl
    have g5 := hAg.at_ 4 rfl
    obtain ⟨WX, hWX⟩ : ∃ WX, WX = W.alloc (.cells #[.int .u8 x1, .slice Af xf.length cf, .int .u64 x3, .int .i64 x4, .int .i64 x5, .int .i64 x6] 49) := ⟨_, rfl⟩
    have hz := HB.out.size
    have f0 := Lib.cell?_alloc_some (.cells #[.int .u8 x1, .slice Af xf.length cf, .int .u64 x3, .int .i64 x4, .int .i64 x5, .int .i64 x6] 49) hAg'.zero
    have f1 := Lib.cell?_alloc_some (.cells #[.int .u8 x1, .slice Af xf.length cf, .int .u64 x3, .int .i64 x4, .int .i64 x5, .int .i64 x6] 49) (hAg'.at_ 0 rfl)
    have f2 := Lib.cell?_alloc_some (.cells #[.int .u8 x1, .slice Af xf.length cf, .int .u64 x3, .int .i64 x4, .int .i64 x5, .int .i64 x6] 49) (hAg'.at_ 1 rfl)
    have f3 := Lib.cell?_alloc_some (.cells #[.int .u8 x1, .slice Af xf.length cf, .int .u64 x3, .int .i64 x4, .int .i64 x5, .int .i64 x6] 49) (hAg'.at_ 2 rfl)
    have f4 := Lib.cell?_alloc_some (.cells #[.int .u8 x1, .slice Af xf.length cf, .int .u64 x3, .int .i64 x4, .int .i64 x5, .int .i64 x6] 49) (hAg'.at_ 3 rfl)
    have f5 := Lib.cell?_alloc_some (.cells #[.int .u8 x1, .slice Af xf.length cf, .int .u64 x3, .int .i64 x4, .int .i64 x5, .int .i64 x6] 49) (hAg'.at_ 4 rfl)
    have y0' := Lib.cell?_alloc_some (.cells #[.int .u8 x1, .slice Af xf.length cf, .int .u64 x3, .int .i64 x4, .int .i64 x5, .int .i64 x6] 49) y0
    have hm2 : Moved [] W ((W.alloc (.cells #[.int .u8 x1, .slice Af xf.length cf, .int .u64 x3, .int .i64 x4, .int .i64 x5, .int .i64 x6] 49)).alloc (.cells #[.int .u8 z1, .slice Bf zf.length df, .int .u64 z3, .int .i64 z4, .int .i64 z5, .int .i64 z6] 49)) := (Moved.alloc _ _).trans (Moved.alloc _ _)
    have HB2 := Lib.hid (HB.out.moved hm2)
    have HI := Lib.hid ((hIf.more (by omega : w.heap.size ≤ W.heap.size)).below (hm2.below (by simp) (Nat.le_refl W.heap.size)) (Nat.le_refl _) |>.more hm2.size)
    have HJ := Lib.hid ((hJf.more (by omega : w.heap.size ≤ W.heap.size)).below (hm2.below (by simp) (Nat.le_refl W.heap.size)) (Nat.le_refl _) |>.more hm2.size)
    clear hAg hAg' hIf hJf hm2 hWX WX
    subst hA hA'
    by_cases q0 : x1 = z1
    · subst q0
      by_cases q1 : x3 = z3
      · subst q1
        by_cases q2 : x4 = z4
        · subst q2
          by_cases q3 : x5 = z5
          · subst q3
            by_cases q4 : x6 = z6
            · subst q4
              by_cases q9 : xf = zf
              · subst q9
                go_wp2_with fail
                refine (rints_any Af cf Bf df xf xf _ (by omega) (by omega) HI.out HJ.out).mono ?_
                rintro e w6 ⟨rfl, hb6⟩
                rw [eqP_self]
                have HB6 := Lib.hid (HB2.out.step hb6)
                clear hb6
                go_wp2
                exact HR.out _ _ HL'.out ⟨rfl, rfl⟩ rfl rfl (by go_num) (HB6.out) (HS.out _ rfl rfl)
              · have H9 := Lib.hid q9
                clear q9
                go_wp2_with fail
                refine (rints_any Af cf Bf df xf zf _ (by omega) (by omega) HI.out HJ.out).mono ?_
                rintro e w6 ⟨rfl, hb6⟩
                rw [eqP_no H9.out]
                have HB6 := Lib.hid (HB2.out.step hb6)
                clear hb6
                go_wp2
                exact HF.out (fun e => H9.out (congrArg Clk.frm (at_eq HXX.out HYY.out e))) _ _ ⟨rfl, rfl⟩ rfl (HB6.out)
            · have p4 := bne_of q4
              have H4 := Lib.hid q4
              clear q4
              go_wp2
              exact HF.out (fun e => H4.out (congrArg Clk.lock (at_eq HXX.out HYY.out e))) _ _ ⟨rfl, rfl⟩ rfl (HB2.out)
          · have p3 := bne_of q3
            have H3 := Lib.hid q3
            clear q3
            go_wp2
            exact HF.out (fun e => H3.out (congrArg Clk.div (at_eq HXX.out HYY.out e))) _ _ ⟨rfl, rfl⟩ rfl (HB2.out)
        · have p2 := bne_of q2
          have H2 := Lib.hid q2
          clear q2
          go_wp2
          exact HF.out (fun e => H2.out (congrArg Clk.mul (at_eq HXX.out HYY.out e))) _ _ ⟨rfl, rfl⟩ rfl (HB2.out)
      · have p1 := bne_of q1
        have H1 := Lib.hid q1
        clear q1
        go_wp2
        exact HF.out (fun e => H1.out (congrArg Clk.rate (at_eq HXX.out HYY.out e))) _ _ ⟨rfl, rfl⟩ rfl (HB2.out)
    · have p0 := bne_of q0
      have H0 := Lib.hid q0
      clear q0
      go_wp2
      exact HF.out (fun e => H0.out (congrArg Clk.kind (at_eq HXX.out HYY.out e))) _ _ ⟨rfl, rfl⟩ rfl (HB2.out)
  · obtain rfl : k = n1 := by omega
    go_wp2
    exact HQ.out _ ⟨rfl, rfl⟩ rfl rfl (by trivial)

def IS1 (w : World) (A1 A2 A3 A4 B1 B2 B3 B4 : Option Addr) (n1 n2 n3 n4 c1 c2 c3 c4 d1 d2 d3 d4 : Nat) (xs ys : List Clk) (a : Act) (W : World) : Prop :=
  ∃ k : Nat, k ≤ n1 ∧ FrN 192 a ∧ slT a 2 = .pointer (some ⟨w.heap.size, 0, none⟩) ∧ slT a 3 = .pointer (some ⟨w.heap.size + 1, 0, none⟩) ∧ slT a 5 = .int .i64 (k : Nat) ∧ Bz w (.cells #[.slice A1 n1 c1, .slice A2 n2 c2, .slice A3 n3 c3, .slice A4 n4 c4] 27) (.cells #[.slice B1 n1 d1, .slice B2 n2 d2, .slice B3 n3 d3, .slice B4 n4 d4] 27) W ∧ ∀ j, j < k → xs[j]? = ys[j]?
def MS1 (n : Nat) (a : Act) (_ : World) : Nat := n - (intOf (slT a 5)).toNat
theorem sm1_any {w : World} (A1 A2 A3 A4 B1 B2 B3 B4 : Option Addr) (n1 n2 n3 n4 c1 c2 c3 c4 d1 d2 d3 d4 : Nat) (xs ys : List Clk) (HL : RowKit.Hid (n1 = xs.length ∧ n1 = ys.length)) (hn : n1 ≤ 1000) (HX : RowKit.Hid (StrsAt ClkV 6 w w.heap.size A1 xs)) (HY : RowKit.Hid (StrsAt ClkV 6 w w.heap.size B1 ys)) (HO : RowKit.Hid (∀ c, c ∈ xs → c.frm.length ≤ 1000)) (HO' : RowKit.Hid (∀ c, c ∈ ys → c.frm.length ≤ 1000)) (W : World) (hB : Bz w (.cells #[.slice A1 n1 c1, .slice A2 n2 c2, .slice A3 n3 c3, .slice A4 n4 c4] 27) (.cells #[.slice B1 n1 d1, .slice B2 n2 d2, .slice B3 n3 d3, .slice B4 n4 d4] 27) W) (a : Act) (ha : FrN 192 a) (h2 : slT a 2 = .pointer (some ⟨w.heap.size, 0, none⟩)) (h3 : slT a 3 = .pointer (some ⟨w.heap.size + 1, 0, none⟩)) (hc : slT a 5 = .int .i64 0) (Q : Exit → Act → World → Prop)
    (hQ : ∀ a' W', FrN 192 a' → slT a' 2 = .pointer (some ⟨w.heap.size, 0, none⟩) → slT a' 3 = .pointer (some ⟨w.heap.size + 1, 0, none⟩) → Bz w (.cells #[.slice A1 n1 c1, .slice A2 n2 c2, .slice A3 n3 c3, .slice A4 n4 c4] 27) (.cells #[.slice B1 n1 d1, .slice B2 n2 d2, .slice B3 n3 d3, .slice B4 n4 d4] 27) W' → xs = ys → Q (.exit 0) a' W') (hF : xs ≠ ys → ∀ a' W', FrN 192 a' → slT a' 4 = .bool false → Bz w (.cells #[.slice A1 n1 c1, .slice A2 n2 c2, .slice A3 n3 c3, .slice A4 n4 c4] 27) (.cells #[.slice B1 n1 d1, .slice B2 n2 d2, .slice B3 n3 d3, .slice B4 n4 d4] 27) W' → Q .ret a' W') : Code.wp Try.prog smLoop1 Q a W := by
  show Code.wp Try.prog (Code.loop (lpC smLoop1)) Q a W
  refine wp_loop (IS1 w A1 A2 A3 A4 B1 B2 B3 B4 n1 n2 n3 n4 c1 c2 c3 c4 d1 d2 d3 d4 xs ys) (MS1 n1) ⟨0, Nat.zero_le _, ha, h2, h3, hc, hB, fun j hj => absurd hj (by omega)⟩ ?_
  rintro b1 W1 ⟨k, hk, hf, q2, q3, qc, hB1, hE⟩
  refine sm1_round A1 A2 A3 A4 B1 B2 B3 B4 n1 n2 n3 n4 c1 c2 c3 c4 d1 d2 d3 d4 xs ys HL hn HX HY HO HO' W1 k hk (Lib.hid hB1) (Lib.hid hE) b1 hf q2 q3 qc _ _ ?_ ?_ hF
  · intro a' W' hlt hF' e2 e3 ec hB' hE'
    refine ⟨⟨k + 1, hlt, hF', e2, e3, ec, hB', hE'⟩, ?_⟩
    unfold MS1
    rw [ec, qc]
    simp [intOf]
    omega
  · intro a' hF' e2 e3 hin
    exact hQ _ _ hF' e2 e3 hB1 (ext_list hE (HL.out.1.symm.trans hin.symm) (HL.out.2.symm.trans hin.symm))

set_option maxRecDepth 1000000 in
set_option maxHeartbeats 8000000 in
theorem sm2_round {w : World} (A1 A2 A3 A4 B1 B2 B3 B4 : Option Addr) (n1 n2 n3 n4 c1 c2 c3 c4 d1 d2 d3 d4 : Nat) (xs ys : List Dom) (HL : RowKit.Hid (n2 = xs.length ∧ n2 = ys.length)) (hn : n2 ≤ 1000) (HX : RowKit.Hid (StrsAt DomV 3 w w.heap.size A2 xs)) (HY : RowKit.Hid (StrsAt DomV 3 w w.heap.size B2 ys))  (W : World) (k : Nat) (hk : k ≤ n2) (HB : RowKit.Hid (Bz w (.cells #[.slice A1 n1 c1, .slice A2 n2 c2, .slice A3 n3 c3, .slice A4 n4 c4] 27) (.cells #[.slice B1 n1 d1, .slice B2 n2 d2, .slice B3 n3 d3, .slice B4 n4 d4] 27) W)) (HE : RowKit.Hid (∀ j, j < k → xs[j]? = ys[j]?)) (a : Act) (ha : FrN 192 a) (h2 : slT a 2 = .pointer (some ⟨w.heap.size, 0, none⟩)) (h3 : slT a 3 = .pointer (some ⟨w.heap.size + 1, 0, none⟩)) (hc : slT a 8 = .int .i64 (k : Nat)) (R : Act → World → Prop) (Q : Exit → Act → World → Prop)
    (hR : ∀ a' W', k < n2 → FrN 192 a' → slT a' 2 = .pointer (some ⟨w.heap.size, 0, none⟩) → slT a' 3 = .pointer (some ⟨w.heap.size + 1, 0, none⟩) → slT a' 8 = .int .i64 ((k + 1 : Nat) : Int) → Bz w (.cells #[.slice A1 n1 c1, .slice A2 n2 c2, .slice A3 n3 c3, .slice A4 n4 c4] 27) (.cells #[.slice B1 n1 d1, .slice B2 n2 d2, .slice B3 n3 d3, .slice B4 n4 d4] 27) W' → (∀ j, j < k + 1 → xs[j]? = ys[j]?) → R a' W') (hQ : ∀ a', FrN 192 a' → slT a' 2 = .pointer (some ⟨w.heap.size, 0, none⟩) → slT a' 3 = .pointer (some ⟨w.heap.size + 1, 0, none⟩) → k = n2 → Q (.exit 2) a' W)
    (hF : xs ≠ ys → ∀ a' W', FrN 192 a' → slT a' 4 = .bool false → Bz w (.cells #[.slice A1 n1 c1, .slice A2 n2 c2, .slice A3 n3 c3, .slice A4 n4 c4] 27) (.cells #[.slice B1 n1 d1, .slice B2 n2 d2, .slice B3 n3 d3, .slice B4 n4 d4] 27) W' → Q .ret a' W') : Code.wp Try.prog (lpC smLoop2) (Exit.then R Q) a W := by
  have HR := Lib.hid hR
  have HQ := Lib.hid hQ
  have HF := Lib.hid hF
  clear hR hQ hF
  have x0 := HB.out.box1 (vs := [.slice A1 n1 c1, .slice A2 n2 c2, .slice A3 n3 c3, .slice A4 n4 c4]) 1 _ rfl
  have y0 := HB.out.box2 (vs := [.slice B1 n1 d1, .slice B2 n2 d2, .slice B3 n3 d3, .slice B4 n4 d4]) 1 _ rfl
  have i0 : (0 : Int) ≤ (k : Int) := by omega
  obtain ⟨F, rfl⟩ := ha.open_
  rw [slT_listT (by omega)] at h2 h3 hc
  rw [lit192, h2, h3, hc]
  clear ha h2 h3 hc
  conv => arg 2; whnf
  by_cases hlt : k < n2
  · have i1 : (k : Int) < (n2 : Int) := by omega
    obtain ⟨e1, e2⟩ := HL.out
    obtain ⟨ad, vs, hA, hab, hV, hAg⟩ := (HB.out.readsS HX.out).at_ (k := k) (by omega)
    obtain ⟨ad', vs', hA', hab', hV', hAg'⟩ := (HB.out.readsS HY.out).at_ (k := k) (by omega)
    have hx := List.getElem?_eq_getElem (l := xs) (i := k) (by omega)
    have hy := List.getElem?_eq_getElem (l := ys) (i := k) (by omega)
    generalize xs[k]'_ = x at hx hV
    generalize ys[k]'_ = y at hy hV'
    have HXX := Lib.hid hx
    have HYY := Lib.hid hy
    have HL' := Lib.hid hlt
    have step : ∀ x' : Dom, x = x' → y = x' → ∀ j, j < k + 1 → xs[j]? = ys[j]? := fun x' ex ey j hj => by
      by_cases hjk : j = k
      · subst hjk; rw [HXX.out, HYY.out, ex, ey]
      · exact HE.out j (by omega)
    have HS := Lib.hid step
    clear hx hy e1 e2 step
    obtain ⟨x1, x2, x3⟩ := x
    obtain ⟨z1, z2, z3⟩ := y
    have hv : vs = [.int .i64 x1, .int .i64 x2, .bool x3] := hV
    have hv' : vs' = [.int .i64 z1, .int .i64 z2, .bool z3] := hV'
    subst hv hv'
    have g0 := hAg.zero
    have g1 := hAg.at_ 0 rfl
    have g2 := hAg.at_ 1 rfl
    have f0 := hAg'.zero
    have f1 := hAg'.at_ 0 rfl
    have f2 := hAg'.at_ 1 rfl
    clear hAg hAg' hV hV'
    subst hA hA'
    by_cases q1 : x1 = z1
    · subst q1
      by_cases q2 : x2 = z2
      · subst q2
        cases x3
        · cases z3
          · go_wp2
            go_quiet (fail)
            go_wp2
            exact HR.out _ _ HL'.out ⟨rfl, rfl⟩ rfl rfl (by go_num) (HB.out.moved (drewN_moved W _)) (HS.out _ rfl rfl)
          · go_wp2
            go_quiet (fail)
            go_wp2
            exact HF.out (fun e => by have := congrArg Dom.ret (at_eq HXX.out HYY.out e); simp at this) _ _ ⟨rfl, rfl⟩ rfl (HB.out.moved (drewN_moved W _))
        · cases z3
          · go_wp2
            go_quiet (fail)
            go_wp2
            exact HF.out (fun e => by have := congrArg Dom.ret (at_eq HXX.out HYY.out e); simp at this) _ _ ⟨rfl, rfl⟩ rfl (HB.out.moved (drewN_moved W _))
          · go_wp2
            go_quiet (fail)
            go_wp2
            exact HR.out _ _ HL'.out ⟨rfl, rfl⟩ rfl rfl (by go_num) (HB.out.moved (drewN_moved W _)) (HS.out _ rfl rfl)
      · have p2 := bne_of q2
        have H2 := Lib.hid q2
        clear q2
        go_wp2
        go_quiet (fail)
        go_wp2
        exact HF.out (fun e => H2.out (congrArg Dom.delay (at_eq HXX.out HYY.out e))) _ _ ⟨rfl, rfl⟩ rfl (HB.out.moved (drewN_moved W _))
    · have p1 := bne_of q1
      have H1 := Lib.hid q1
      clear q1
      go_wp2
      go_quiet (fail)
      go_wp2
      exact HF.out (fun e => H1.out (congrArg Dom.above (at_eq HXX.out HYY.out e))) _ _ ⟨rfl, rfl⟩ rfl (HB.out.moved (drewN_moved W _))
  · obtain rfl : k = n2 := by omega
    go_wp2
    exact HQ.out _ ⟨rfl, rfl⟩ rfl rfl (by trivial)

def IS2 (w : World) (A1 A2 A3 A4 B1 B2 B3 B4 : Option Addr) (n1 n2 n3 n4 c1 c2 c3 c4 d1 d2 d3 d4 : Nat) (xs ys : List Dom) (a : Act) (W : World) : Prop :=
  ∃ k : Nat, k ≤ n2 ∧ FrN 192 a ∧ slT a 2 = .pointer (some ⟨w.heap.size, 0, none⟩) ∧ slT a 3 = .pointer (some ⟨w.heap.size + 1, 0, none⟩) ∧ slT a 8 = .int .i64 (k : Nat) ∧ Bz w (.cells #[.slice A1 n1 c1, .slice A2 n2 c2, .slice A3 n3 c3, .slice A4 n4 c4] 27) (.cells #[.slice B1 n1 d1, .slice B2 n2 d2, .slice B3 n3 d3, .slice B4 n4 d4] 27) W ∧ ∀ j, j < k → xs[j]? = ys[j]?
def MS2 (n : Nat) (a : Act) (_ : World) : Nat := n - (intOf (slT a 8)).toNat
theorem sm2_any {w : World} (A1 A2 A3 A4 B1 B2 B3 B4 : Option Addr) (n1 n2 n3 n4 c1 c2 c3 c4 d1 d2 d3 d4 : Nat) (xs ys : List Dom) (HL : RowKit.Hid (n2 = xs.length ∧ n2 = ys.length)) (hn : n2 ≤ 1000) (HX : RowKit.Hid (StrsAt DomV 3 w w.heap.size A2 xs)) (HY : RowKit.Hid (StrsAt DomV 3 w w.heap.size B2 ys))  (W : World) (hB : Bz w (.cells #[.slice A1 n1 c1, .slice A2 n2 c2, .slice A3 n3 c3, .slice A4 n4 c4] 27) (.cells #[.slice B1 n1 d1, .slice B2 n2 d2, .slice B3 n3 d3, .slice B4 n4 d4] 27) W) (a : Act) (ha : FrN 192 a) (h2 : slT a 2 = .pointer (some ⟨w.heap.size, 0, none⟩)) (h3 : slT a 3 = .pointer (some ⟨w.heap.size + 1, 0, none⟩)) (hc : slT a 8 = .int .i64 0) (Q : Exit → Act → World → Prop)
    (hQ : ∀ a' W', FrN 192 a' → slT a' 2 = .pointer (some ⟨w.heap.size, 0, none⟩) → slT a' 3 = .pointer (some ⟨w.heap.size + 1, 0, none⟩) → Bz w (.cells #[.slice A1 n1 c1, .slice A2 n2 c2, .slice A3 n3 c3, .slice A4 n4 c4] 27) (.cells #[.slice B1 n1 d1, .slice B2 n2 d2, .slice B3 n3 d3, .slice B4 n4 d4] 27) W' → xs = ys → Q (.exit 2) a' W') (hF : xs ≠ ys → ∀ a' W', FrN 192 a' → slT a' 4 = .bool false → Bz w (.cells #[.slice A1 n1 c1, .slice A2 n2 c2, .slice A3 n3 c3, .slice A4 n4 c4] 27) (.cells #[.slice B1 n1 d1, .slice B2 n2 d2, .slice B3 n3 d3, .slice B4 n4 d4] 27) W' → Q .ret a' W') : Code.wp Try.prog smLoop2 Q a W := by
  show Code.wp Try.prog (Code.loop (lpC smLoop2)) Q a W
  refine wp_loop (IS2 w A1 A2 A3 A4 B1 B2 B3 B4 n1 n2 n3 n4 c1 c2 c3 c4 d1 d2 d3 d4 xs ys) (MS2 n2) ⟨0, Nat.zero_le _, ha, h2, h3, hc, hB, fun j hj => absurd hj (by omega)⟩ ?_
  rintro b1 W1 ⟨k, hk, hf, q2, q3, qc, hB1, hE⟩
  refine sm2_round A1 A2 A3 A4 B1 B2 B3 B4 n1 n2 n3 n4 c1 c2 c3 c4 d1 d2 d3 d4 xs ys HL hn HX HY  W1 k hk (Lib.hid hB1) (Lib.hid hE) b1 hf q2 q3 qc _ _ ?_ ?_ hF
  · intro a' W' hlt hF' e2 e3 ec hB' hE'
    refine ⟨⟨k + 1, hlt, hF', e2, e3, ec, hB', hE'⟩, ?_⟩
    unfold MS2
    rw [ec, qc]
    simp [intOf]
    omega
  · intro a' hF' e2 e3 hin
    exact hQ _ _ hF' e2 e3 hB1 (ext_list hE (HL.out.1.symm.trans hin.symm) (HL.out.2.symm.trans hin.symm))

set_option maxRecDepth 1000000 in
set_option maxHeartbeats 8000000 in
theorem sm3_round {w : World} (A1 A2 A3 A4 B1 B2 B3 B4 : Option Addr) (n1 n2 n3 n4 c1 c2 c3 c4 d1 d2 d3 d4 : Nat) (xs ys : List Rst) (HL : RowKit.Hid (n3 = xs.length ∧ n3 = ys.length)) (hn : n3 ≤ 1000) (HX : RowKit.Hid (StrsAt RstV 1 w w.heap.size A3 xs)) (HY : RowKit.Hid (StrsAt RstV 1 w w.heap.size B3 ys))  (W : World) (k : Nat) (hk : k ≤ n3) (HB : RowKit.Hid (Bz w (.cells #[.slice A1 n1 c1, .slice A2 n2 c2, .slice A3 n3 c3, .slice A4 n4 c4] 27) (.cells #[.slice B1 n1 d1, .slice B2 n2 d2, .slice B3 n3 d3, .slice B4 n4 d4] 27) W)) (HE : RowKit.Hid (∀ j, j < k → xs[j]? = ys[j]?)) (a : Act) (ha : FrN 192 a) (h2 : slT a 2 = .pointer (some ⟨w.heap.size, 0, none⟩)) (h3 : slT a 3 = .pointer (some ⟨w.heap.size + 1, 0, none⟩)) (hc : slT a 9 = .int .i64 (k : Nat)) (R : Act → World → Prop) (Q : Exit → Act → World → Prop)
    (hR : ∀ a' W', k < n3 → FrN 192 a' → slT a' 2 = .pointer (some ⟨w.heap.size, 0, none⟩) → slT a' 3 = .pointer (some ⟨w.heap.size + 1, 0, none⟩) → slT a' 9 = .int .i64 ((k + 1 : Nat) : Int) → Bz w (.cells #[.slice A1 n1 c1, .slice A2 n2 c2, .slice A3 n3 c3, .slice A4 n4 c4] 27) (.cells #[.slice B1 n1 d1, .slice B2 n2 d2, .slice B3 n3 d3, .slice B4 n4 d4] 27) W' → (∀ j, j < k + 1 → xs[j]? = ys[j]?) → R a' W') (hQ : ∀ a', FrN 192 a' → slT a' 2 = .pointer (some ⟨w.heap.size, 0, none⟩) → slT a' 3 = .pointer (some ⟨w.heap.size + 1, 0, none⟩) → k = n3 → Q (.exit 4) a' W)
    (hF : xs ≠ ys → ∀ a' W', FrN 192 a' → slT a' 4 = .bool false → Bz w (.cells #[.slice A1 n1 c1, .slice A2 n2 c2, .slice A3 n3 c3, .slice A4 n4 c4] 27) (.cells #[.slice B1 n1 d1, .slice B2 n2 d2, .slice B3 n3 d3, .slice B4 n4 d4] 27) W' → Q .ret a' W') : Code.wp Try.prog (lpC smLoop3) (Exit.then R Q) a W := by
  have HR := Lib.hid hR
  have HQ := Lib.hid hQ
  have HF := Lib.hid hF
  clear hR hQ hF
  have x0 := HB.out.box1 (vs := [.slice A1 n1 c1, .slice A2 n2 c2, .slice A3 n3 c3, .slice A4 n4 c4]) 2 _ rfl
  have y0 := HB.out.box2 (vs := [.slice B1 n1 d1, .slice B2 n2 d2, .slice B3 n3 d3, .slice B4 n4 d4]) 2 _ rfl
  have i0 : (0 : Int) ≤ (k : Int) := by omega
  obtain ⟨F, rfl⟩ := ha.open_
  rw [slT_listT (by omega)] at h2 h3 hc
  rw [lit192, h2, h3, hc]
  clear ha h2 h3 hc
  conv => arg 2; whnf
  by_cases hlt : k < n3
  · have i1 : (k : Int) < (n3 : Int) := by omega
    obtain ⟨e1, e2⟩ := HL.out
    obtain ⟨ad, vs, hA, hab, hV, hAg⟩ := (HB.out.readsS HX.out).at_ (k := k) (by omega)
    obtain ⟨ad', vs', hA', hab', hV', hAg'⟩ := (HB.out.readsS HY.out).at_ (k := k) (by omega)
    have hx := List.getElem?_eq_getElem (l := xs) (i := k) (by omega)
    have hy := List.getElem?_eq_getElem (l := ys) (i := k) (by omega)
    generalize xs[k]'_ = x at hx hV
    generalize ys[k]'_ = y at hy hV'
    have HXX := Lib.hid hx
    have HYY := Lib.hid hy
    have HL' := Lib.hid hlt
    have step : ∀ x' : Rst, x = x' → y = x' → ∀ j, j < k + 1 → xs[j]? = ys[j]? := fun x' ex ey j hj => by
      by_cases hjk : j = k
      · subst hjk; rw [HXX.out, HYY.out, ex, ey]
      · exact HE.out j (by omega)
    have HS := Lib.hid step
    clear hx hy e1 e2 step
    obtain ⟨x1⟩ := x
    obtain ⟨z1⟩ := y
    have hv : vs = [.int .i64 x1] := hV
    have hv' : vs' = [.int .i64 z1] := hV'
    subst hv hv'
    have g0 := hAg.zero
    have f0 := hAg'.zero
    rw [Nat.mul_one] at g0 f0
    clear hAg hAg' hV hV'
    subst hA hA'
    by_cases q1 : x1 = z1
    · subst q1
      go_wp2
      go_quiet (fail)
      go_wp2
      exact HR.out _ _ HL'.out ⟨rfl, rfl⟩ rfl rfl (by go_num) (HB.out.moved (drewN_moved W _)) (HS.out _ rfl rfl)
    · have p1 := bne_of q1
      have H1 := Lib.hid q1
      clear q1
      go_wp2
      go_quiet (fail)
      go_wp2
      exact HF.out (fun e => H1.out (congrArg Rst.least (at_eq HXX.out HYY.out e))) _ _ ⟨rfl, rfl⟩ rfl (HB.out.moved (drewN_moved W _))
  · obtain rfl : k = n3 := by omega
    go_wp2
    exact HQ.out _ ⟨rfl, rfl⟩ rfl rfl (by trivial)

def IS3 (w : World) (A1 A2 A3 A4 B1 B2 B3 B4 : Option Addr) (n1 n2 n3 n4 c1 c2 c3 c4 d1 d2 d3 d4 : Nat) (xs ys : List Rst) (a : Act) (W : World) : Prop :=
  ∃ k : Nat, k ≤ n3 ∧ FrN 192 a ∧ slT a 2 = .pointer (some ⟨w.heap.size, 0, none⟩) ∧ slT a 3 = .pointer (some ⟨w.heap.size + 1, 0, none⟩) ∧ slT a 9 = .int .i64 (k : Nat) ∧ Bz w (.cells #[.slice A1 n1 c1, .slice A2 n2 c2, .slice A3 n3 c3, .slice A4 n4 c4] 27) (.cells #[.slice B1 n1 d1, .slice B2 n2 d2, .slice B3 n3 d3, .slice B4 n4 d4] 27) W ∧ ∀ j, j < k → xs[j]? = ys[j]?
def MS3 (n : Nat) (a : Act) (_ : World) : Nat := n - (intOf (slT a 9)).toNat
theorem sm3_any {w : World} (A1 A2 A3 A4 B1 B2 B3 B4 : Option Addr) (n1 n2 n3 n4 c1 c2 c3 c4 d1 d2 d3 d4 : Nat) (xs ys : List Rst) (HL : RowKit.Hid (n3 = xs.length ∧ n3 = ys.length)) (hn : n3 ≤ 1000) (HX : RowKit.Hid (StrsAt RstV 1 w w.heap.size A3 xs)) (HY : RowKit.Hid (StrsAt RstV 1 w w.heap.size B3 ys))  (W : World) (hB : Bz w (.cells #[.slice A1 n1 c1, .slice A2 n2 c2, .slice A3 n3 c3, .slice A4 n4 c4] 27) (.cells #[.slice B1 n1 d1, .slice B2 n2 d2, .slice B3 n3 d3, .slice B4 n4 d4] 27) W) (a : Act) (ha : FrN 192 a) (h2 : slT a 2 = .pointer (some ⟨w.heap.size, 0, none⟩)) (h3 : slT a 3 = .pointer (some ⟨w.heap.size + 1, 0, none⟩)) (hc : slT a 9 = .int .i64 0) (Q : Exit → Act → World → Prop)
    (hQ : ∀ a' W', FrN 192 a' → slT a' 2 = .pointer (some ⟨w.heap.size, 0, none⟩) → slT a' 3 = .pointer (some ⟨w.heap.size + 1, 0, none⟩) → Bz w (.cells #[.slice A1 n1 c1, .slice A2 n2 c2, .slice A3 n3 c3, .slice A4 n4 c4] 27) (.cells #[.slice B1 n1 d1, .slice B2 n2 d2, .slice B3 n3 d3, .slice B4 n4 d4] 27) W' → xs = ys → Q (.exit 4) a' W') (hF : xs ≠ ys → ∀ a' W', FrN 192 a' → slT a' 4 = .bool false → Bz w (.cells #[.slice A1 n1 c1, .slice A2 n2 c2, .slice A3 n3 c3, .slice A4 n4 c4] 27) (.cells #[.slice B1 n1 d1, .slice B2 n2 d2, .slice B3 n3 d3, .slice B4 n4 d4] 27) W' → Q .ret a' W') : Code.wp Try.prog smLoop3 Q a W := by
  show Code.wp Try.prog (Code.loop (lpC smLoop3)) Q a W
  refine wp_loop (IS3 w A1 A2 A3 A4 B1 B2 B3 B4 n1 n2 n3 n4 c1 c2 c3 c4 d1 d2 d3 d4 xs ys) (MS3 n3) ⟨0, Nat.zero_le _, ha, h2, h3, hc, hB, fun j hj => absurd hj (by omega)⟩ ?_
  rintro b1 W1 ⟨k, hk, hf, q2, q3, qc, hB1, hE⟩
  refine sm3_round A1 A2 A3 A4 B1 B2 B3 B4 n1 n2 n3 n4 c1 c2 c3 c4 d1 d2 d3 d4 xs ys HL hn HX HY  W1 k hk (Lib.hid hB1) (Lib.hid hE) b1 hf q2 q3 qc _ _ ?_ ?_ hF
  · intro a' W' hlt hF' e2 e3 ec hB' hE'
    refine ⟨⟨k + 1, hlt, hF', e2, e3, ec, hB', hE'⟩, ?_⟩
    unfold MS3
    rw [ec, qc]
    simp [intOf]
    omega
  · intro a' hF' e2 e3 hin
    exact hQ _ _ hF' e2 e3 hB1 (ext_list hE (HL.out.1.symm.trans hin.symm) (HL.out.2.symm.trans hin.symm))

set_option maxRecDepth 1000000 in
set_option maxHeartbeats 8000000 in
theorem sm4_round {w : World} (A1 A2 A3 A4 B1 B2 B3 B4 : Option Addr) (n1 n2 n3 n4 c1 c2 c3 c4 d1 d2 d3 d4 : Nat) (xs ys : List Dev) (HL : RowKit.Hid (n4 = xs.length ∧ n4 = ys.length)) (hn : n4 ≤ 1000) (HX : RowKit.Hid (StrsAt DevV 6 w w.heap.size A4 xs)) (HY : RowKit.Hid (StrsAt DevV 6 w w.heap.size B4 ys)) (HO : RowKit.Hid (∀ d, d ∈ xs → d.regs.length ≤ 1000 ∧ d.needs.length ≤ 1000)) (HO' : RowKit.Hid (∀ d, d ∈ ys → d.regs.length ≤ 1000 ∧ d.needs.length ≤ 1000)) (W : World) (k : Nat) (hk : k ≤ n4) (HB : RowKit.Hid (Bz w (.cells #[.slice A1 n1 c1, .slice A2 n2 c2, .slice A3 n3 c3, .slice A4 n4 c4] 27) (.cells #[.slice B1 n1 d1, .slice B2 n2 d2, .slice B3 n3 d3, .slice B4 n4 d4] 27) W)) (HE : RowKit.Hid (∀ j, j < k → xs[j]? = ys[j]?)) (a : Act) (ha : FrN 192 a) (h2 : slT a 2 = .pointer (some ⟨w.heap.size, 0, none⟩)) (h3 : slT a 3 = .pointer (some ⟨w.heap.size + 1, 0, none⟩)) (hc : slT a 10 = .int .i64 (k : Nat)) (R : Act → World → Prop) (Q : Exit → Act → World → Prop)
    (hR : ∀ a' W', k < n4 → FrN 192 a' → slT a' 2 = .pointer (some ⟨w.heap.size, 0, none⟩) → slT a' 3 = .pointer (some ⟨w.heap.size + 1, 0, none⟩) → slT a' 10 = .int .i64 ((k + 1 : Nat) : Int) → Bz w (.cells #[.slice A1 n1 c1, .slice A2 n2 c2, .slice A3 n3 c3, .slice A4 n4 c4] 27) (.cells #[.slice B1 n1 d1, .slice B2 n2 d2, .slice B3 n3 d3, .slice B4 n4 d4] 27) W' → (∀ j, j < k + 1 → xs[j]? = ys[j]?) → R a' W') (hQ : ∀ a', FrN 192 a' → slT a' 2 = .pointer (some ⟨w.heap.size, 0, none⟩) → slT a' 3 = .pointer (some ⟨w.heap.size + 1, 0, none⟩) → k = n4 → Q (.exit 6) a' W)
    (hF : xs ≠ ys → ∀ a' W', FrN 192 a' → slT a' 4 = .bool false → Bz w (.cells #[.slice A1 n1 c1, .slice A2 n2 c2, .slice A3 n3 c3, .slice A4 n4 c4] 27) (.cells #[.slice B1 n1 d1, .slice B2 n2 d2, .slice B3 n3 d3, .slice B4 n4 d4] 27) W' → Q .ret a' W') : Code.wp Try.prog (lpC smLoop4) (Exit.then R Q) a W := by
  have HR := Lib.hid hR
  have HQ := Lib.hid hQ
  have HF := Lib.hid hF
  clear hR hQ hF
  have x0 := HB.out.box1 (vs := [.slice A1 n1 c1, .slice A2 n2 c2, .slice A3 n3 c3, .slice A4 n4 c4]) 3 _ rfl
  have y0 := HB.out.box2 (vs := [.slice B1 n1 d1, .slice B2 n2 d2, .slice B3 n3 d3, .slice B4 n4 d4]) 3 _ rfl
  have i0 : (0 : Int) ≤ (k : Int) := by omega
  obtain ⟨F, rfl⟩ := ha.open_
  rw [slT_listT (by omega)] at h2 h3 hc
  rw [lit192, h2, h3, hc]
  clear ha h2 h3 hc
  conv => arg 2; whnf
  by_cases hlt : k < n4
  · have i1 : (k : Int) < (n4 : Int) := by omega
    obtain ⟨e1, e2⟩ := HL.out
    obtain ⟨ad, vs, hA, hab, hV, hAg⟩ := (HB.out.readsS HX.out).at_ (k := k) (by omega)
    obtain ⟨ad', vs', hA', hab', hV', hAg'⟩ := (HB.out.readsS HY.out).at_ (k := k) (by omega)
    have hx := List.getElem?_eq_getElem (l := xs) (i := k) (by omega)
    have hy := List.getElem?_eq_getElem (l := ys) (i := k) (by omega)
    generalize xs[k]'_ = x at hx hV
    generalize ys[k]'_ = y at hy hV'
    have HXX := Lib.hid hx
    have HYY := Lib.hid hy
    have HL' := Lib.hid hlt
    have step : ∀ x' : Dev, x = x' → y = x' → ∀ j, j < k + 1 → xs[j]? = ys[j]? := fun x' ex ey j hj => by
      by_cases hjk : j = k
      · subst hjk; rw [HXX.out, HYY.out, ex, ey]
      · exact HE.out j (by omega)
    have HS := Lib.hid step
    clear hx hy e1 e2 step
    have lx := HO.out _ (List.mem_of_getElem? HXX.out)
    have ly := HO'.out _ (List.mem_of_getElem? HYY.out)
    have hz := HB.out.size
    have hV2 : DevV W.drew W.drew.heap.size x vs := Steady.keep (Steady.more (C := W.heap.size) hV (by omega)) (fun p _ => rfl)
    have hV2' : DevV W.drew W.drew.heap.size y vs' := Steady.keep (Steady.more (C := W.heap.size) hV' (by omega)) (fun p _ => rfl)
    obtain ⟨Ar, cr, Af, cf, rfl, -, -, -, -⟩ := hV
    obtain ⟨Br, dr, Bf, df, rfl, -, -, -, -⟩ := hV'
    have HV := Lib.hid hV2
    have HV' := Lib.hid hV2'
    have g0 := hAg.zero
    have g1 := hAg.at_ 0 rfl
    have g2 := hAg.at_ 1 rfl
    have g3 := hAg.at_ 2 rfl
    have g4 := hAg.at_ 3 rfl
    have g5 := hAg.at_ 4 rfl
    have f0 := hAg'.zero
    have f1 := hAg'.at_ 0 rfl
    have f2 := hAg'.at_ 1 rfl
    have f3 := hAg'.at_ 2 rfl
    have f4 := hAg'.at_ 3 rfl
    have f5 := hAg'.at_ 4 rfl
    clear hAg hAg' hV2 hV2'
    subst hA hA'
    by_cases q1 : x = y
    · have H1 := Lib.hid q1
      clear q1
      go_wp2
      go_still_tail 10, (by kernel_rfl)
      change wpList _ _ _ _ _ W.drew
      go_wp2_with fail
      refine (alike_any x y _ _ W.drew lx ly HV.out HV'.out).mono ?_
      rintro e w6 ⟨rfl, hb6⟩
      rw [H1.out, eqP_self]
      have HB6 := Lib.hid ((HB.out.moved (drew_moved W)).step hb6)
      clear hb6
      go_wp2
      exact HR.out _ _ HL'.out ⟨rfl, rfl⟩ rfl rfl (by go_num) HB6.out (HS.out _ H1.out rfl)
    · have H1 := Lib.hid q1
      clear q1
      go_wp2
      go_still_tail 10, (by kernel_rfl)
      change wpList _ _ _ _ _ W.drew
      go_wp2_with fail
      refine (alike_any x y _ _ W.drew lx ly HV.out HV'.out).mono ?_
      rintro e w6 ⟨rfl, hb6⟩
      rw [eqP_no H1.out]
      have HB6 := Lib.hid ((HB.out.moved (drew_moved W)).step hb6)
      clear hb6
      go_wp2
      exact HF.out (fun e => H1.out (at_eq HXX.out HYY.out e)) _ _ ⟨rfl, rfl⟩ rfl (HB6.out)
  · obtain rfl : k = n4 := by omega
    go_wp2
    exact HQ.out _ ⟨rfl, rfl⟩ rfl rfl (by trivial)

def IS4 (w : World) (A1 A2 A3 A4 B1 B2 B3 B4 : Option Addr) (n1 n2 n3 n4 c1 c2 c3 c4 d1 d2 d3 d4 : Nat) (xs ys : List Dev) (a : Act) (W : World) : Prop :=
  ∃ k : Nat, k ≤ n4 ∧ FrN 192 a ∧ slT a 2 = .pointer (some ⟨w.heap.size, 0, none⟩) ∧ slT a 3 = .pointer (some ⟨w.heap.size + 1, 0, none⟩) ∧ slT a 10 = .int .i64 (k : Nat) ∧ Bz w (.cells #[.slice A1 n1 c1, .slice A2 n2 c2, .slice A3 n3 c3, .slice A4 n4 c4] 27) (.cells #[.slice B1 n1 d1, .slice B2 n2 d2, .slice B3 n3 d3, .slice B4 n4 d4] 27) W ∧ ∀ j, j < k → xs[j]? = ys[j]?
def MS4 (n : Nat) (a : Act) (_ : World) : Nat := n - (intOf (slT a 10)).toNat
theorem sm4_any {w : World} (A1 A2 A3 A4 B1 B2 B3 B4 : Option Addr) (n1 n2 n3 n4 c1 c2 c3 c4 d1 d2 d3 d4 : Nat) (xs ys : List Dev) (HL : RowKit.Hid (n4 = xs.length ∧ n4 = ys.length)) (hn : n4 ≤ 1000) (HX : RowKit.Hid (StrsAt DevV 6 w w.heap.size A4 xs)) (HY : RowKit.Hid (StrsAt DevV 6 w w.heap.size B4 ys)) (HO : RowKit.Hid (∀ d, d ∈ xs → d.regs.length ≤ 1000 ∧ d.needs.length ≤ 1000)) (HO' : RowKit.Hid (∀ d, d ∈ ys → d.regs.length ≤ 1000 ∧ d.needs.length ≤ 1000)) (W : World) (hB : Bz w (.cells #[.slice A1 n1 c1, .slice A2 n2 c2, .slice A3 n3 c3, .slice A4 n4 c4] 27) (.cells #[.slice B1 n1 d1, .slice B2 n2 d2, .slice B3 n3 d3, .slice B4 n4 d4] 27) W) (a : Act) (ha : FrN 192 a) (h2 : slT a 2 = .pointer (some ⟨w.heap.size, 0, none⟩)) (h3 : slT a 3 = .pointer (some ⟨w.heap.size + 1, 0, none⟩)) (hc : slT a 10 = .int .i64 0) (Q : Exit → Act → World → Prop)
    (hQ : ∀ a' W', FrN 192 a' → slT a' 2 = .pointer (some ⟨w.heap.size, 0, none⟩) → slT a' 3 = .pointer (some ⟨w.heap.size + 1, 0, none⟩) → Bz w (.cells #[.slice A1 n1 c1, .slice A2 n2 c2, .slice A3 n3 c3, .slice A4 n4 c4] 27) (.cells #[.slice B1 n1 d1, .slice B2 n2 d2, .slice B3 n3 d3, .slice B4 n4 d4] 27) W' → xs = ys → Q (.exit 6) a' W') (hF : xs ≠ ys → ∀ a' W', FrN 192 a' → slT a' 4 = .bool false → Bz w (.cells #[.slice A1 n1 c1, .slice A2 n2 c2, .slice A3 n3 c3, .slice A4 n4 c4] 27) (.cells #[.slice B1 n1 d1, .slice B2 n2 d2, .slice B3 n3 d3, .slice B4 n4 d4] 27) W' → Q .ret a' W') : Code.wp Try.prog smLoop4 Q a W := by
  show Code.wp Try.prog (Code.loop (lpC smLoop4)) Q a W
  refine wp_loop (IS4 w A1 A2 A3 A4 B1 B2 B3 B4 n1 n2 n3 n4 c1 c2 c3 c4 d1 d2 d3 d4 xs ys) (MS4 n4) ⟨0, Nat.zero_le _, ha, h2, h3, hc, hB, fun j hj => absurd hj (by omega)⟩ ?_
  rintro b1 W1 ⟨k, hk, hf, q2, q3, qc, hB1, hE⟩
  refine sm4_round A1 A2 A3 A4 B1 B2 B3 B4 n1 n2 n3 n4 c1 c2 c3 c4 d1 d2 d3 d4 xs ys HL hn HX HY HO HO' W1 k hk (Lib.hid hB1) (Lib.hid hE) b1 hf q2 q3 qc _ _ ?_ ?_ hF
  · intro a' W' hlt hF' e2 e3 ec hB' hE'
    refine ⟨⟨k + 1, hlt, hF', e2, e3, ec, hB', hE'⟩, ?_⟩
    unfold MS4
    rw [ec, qc]
    simp [intOf]
    omega
  · intro a' hF' e2 e3 hin
    exact hQ _ _ hF' e2 e3 hB1 (ext_list hE (HL.out.1.symm.trans hin.symm) (HL.out.2.symm.trans hin.symm))
end

section
set_option linter.unusedSimpArgs false
set_option linter.unusedVariables false
open Go.RowKit Go.Maps

set_option maxRecDepth 1000000 in
set_option maxHeartbeats 8000000 in
theorem rsame_no1 (A1 A2 A3 A4 B1 B2 B3 B4 : Option Addr) (n1 n2 n3 n4 c1 c2 c3 c4 d1 d2 d3 d4 m1 m2 m3 m4 : Nat) (w : World) (h : n1 ≠ m1) : Calls Try.prog 22 #[.agg #[.slice A1 n1 c1, .slice A2 n2 c2, .slice A3 n3 c3, .slice A4 n4 c4], .agg #[.slice B1 m1 d1, .slice B2 m2 d2, .slice B3 m3 d3, .slice B4 m4 d4]] w (TellsB false w) := by
  have hq : ((n1 : Int) != (m1 : Int)) = true := by rw [bne_iff_ne]; omega
  have hq' : (n1 != m1) = true := by rw [bne_iff_ne]; exact h
  clear h
  go_enter Try.func22, Try.ntmps22
  go_wp2
  go_ret
  exact ⟨rfl, ((Below.refl w.heap.size w).alloc (Nat.le_refl _) _).alloc (by simp) _⟩

set_option maxRecDepth 1000000 in
set_option maxHeartbeats 8000000 in
theorem rsame_no2 (A1 A2 A3 A4 B1 B2 B3 B4 : Option Addr) (n1 n2 n3 n4 c1 c2 c3 c4 d1 d2 d3 d4 m2 m3 m4 : Nat) (w : World) (h : n2 ≠ m2) : Calls Try.prog 22 #[.agg #[.slice A1 n1 c1, .slice A2 n2 c2, .slice A3 n3 c3, .slice A4 n4 c4], .agg #[.slice B1 n1 d1, .slice B2 m2 d2, .slice B3 m3 d3, .slice B4 m4 d4]] w (TellsB false w) := by
  have hq : ((n2 : Int) != (m2 : Int)) = true := by rw [bne_iff_ne]; omega
  have hq' : (n2 != m2) = true := by rw [bne_iff_ne]; exact h
  clear h
  go_enter Try.func22, Try.ntmps22
  go_wp2
  go_ret
  exact ⟨rfl, ((Below.refl w.heap.size w).alloc (Nat.le_refl _) _).alloc (by simp) _⟩

set_option maxRecDepth 1000000 in
set_option maxHeartbeats 8000000 in
theorem rsame_no3 (A1 A2 A3 A4 B1 B2 B3 B4 : Option Addr) (n1 n2 n3 n4 c1 c2 c3 c4 d1 d2 d3 d4 m3 m4 : Nat) (w : World) (h : n3 ≠ m3) : Calls Try.prog 22 #[.agg #[.slice A1 n1 c1, .slice A2 n2 c2, .slice A3 n3 c3, .slice A4 n4 c4], .agg #[.slice B1 n1 d1, .slice B2 n2 d2, .slice B3 m3 d3, .slice B4 m4 d4]] w (TellsB false w) := by
  have hq : ((n3 : Int) != (m3 : Int)) = true := by rw [bne_iff_ne]; omega
  have hq' : (n3 != m3) = true := by rw [bne_iff_ne]; exact h
  clear h
  go_enter Try.func22, Try.ntmps22
  go_wp2
  go_ret
  exact ⟨rfl, ((Below.refl w.heap.size w).alloc (Nat.le_refl _) _).alloc (by simp) _⟩

set_option maxRecDepth 1000000 in
set_option maxHeartbeats 8000000 in
theorem rsame_no4 (A1 A2 A3 A4 B1 B2 B3 B4 : Option Addr) (n1 n2 n3 n4 c1 c2 c3 c4 d1 d2 d3 d4 m4 : Nat) (w : World) (h : n4 ≠ m4) : Calls Try.prog 22 #[.agg #[.slice A1 n1 c1, .slice A2 n2 c2, .slice A3 n3 c3, .slice A4 n4 c4], .agg #[.slice B1 n1 d1, .slice B2 n2 d2, .slice B3 n3 d3, .slice B4 m4 d4]] w (TellsB false w) := by
  have hq : ((n4 : Int) != (m4 : Int)) = true := by rw [bne_iff_ne]; omega
  have hq' : (n4 != m4) = true := by rw [bne_iff_ne]; exact h
  clear h
  go_enter Try.func22, Try.ntmps22
  go_wp2
  go_ret
  exact ⟨rfl, ((Below.refl w.heap.size w).alloc (Nat.le_refl _) _).alloc (by simp) _⟩

set_option maxRecDepth 1000000 in
set_option maxHeartbeats 8000000 in
theorem rsame_all (s t : Chip) (A1 A2 A3 A4 B1 B2 B3 B4 : Option Addr) (n1 n2 n3 n4 c1 c2 c3 c4 d1 d2 d3 d4 : Nat) (w : World) (b : Bool) (hok : ChipOk s) (hok' : ChipOk t)
    (e1 : n1 = s.clks.length ∧ n1 = t.clks.length) (e2 : n2 = s.doms.length ∧ n2 = t.doms.length) (e3 : n3 = s.rsts.length ∧ n3 = t.rsts.length) (e4 : n4 = s.devs.length ∧ n4 = t.devs.length)
    (k1 : StrsAt ClkV 6 w w.heap.size A1 s.clks) (k2 : StrsAt DomV 3 w w.heap.size A2 s.doms) (k3 : StrsAt RstV 1 w w.heap.size A3 s.rsts) (k4 : StrsAt DevV 6 w w.heap.size A4 s.devs)
    (j1 : StrsAt ClkV 6 w w.heap.size B1 t.clks) (j2 : StrsAt DomV 3 w w.heap.size B2 t.doms) (j3 : StrsAt RstV 1 w w.heap.size B3 t.rsts) (j4 : StrsAt DevV 6 w w.heap.size B4 t.devs) (hb : eqP s t = b) :
    Calls Try.prog 22 #[.agg #[.slice A1 n1 c1, .slice A2 n2 c2, .slice A3 n3 c3, .slice A4 n4 c4], .agg #[.slice B1 n1 d1, .slice B2 n2 d2, .slice B3 n3 d3, .slice B4 n4 d4]] w (TellsB b w) := by
  have HB := Lib.hid hb
  have HOK := Lib.hid hok
  have HOK' := Lib.hid hok'
  have HL1 := Lib.hid e1
  have HK1 := Lib.hid k1
  have HJ1 := Lib.hid j1
  have HL2 := Lib.hid e2
  have HK2 := Lib.hid k2
  have HJ2 := Lib.hid j2
  have HL3 := Lib.hid e3
  have HK3 := Lib.hid k3
  have HJ3 := Lib.hid j3
  have HL4 := Lib.hid e4
  have HK4 := Lib.hid k4
  have HJ4 := Lib.hid j4
  have b1 : n1 ≤ 1000 := by have := hok.n1; omega
  have b2 : n2 ≤ 1000 := by have := hok.n2; omega
  have b3 : n3 ≤ 1000 := by have := hok.n3; omega
  have b4 : n4 ≤ 1000 := by have := hok.n4; omega
  have HST := Lib.hid (Bz.start w (.cells #[.slice A1 n1 c1, .slice A2 n2 c2, .slice A3 n3 c3, .slice A4 n4 c4] 27) (.cells #[.slice B1 n1 d1, .slice B2 n2 d2, .slice B3 n3 d3, .slice B4 n4 d4] 27))
  clear hb hok hok' e1 e2 e3 e4 k1 k2 k3 k4 j1 j2 j3 j4
  go_enter Try.func22, Try.ntmps22
  go_wp2
  refine sm1_any A1 A2 A3 A4 B1 B2 B3 B4 n1 n2 n3 n4 c1 c2 c3 c4 d1 d2 d3 d4 s.clks t.clks HL1 b1 HK1 HJ1 (Lib.hid (fun c hc => (HOK.out.clks c hc).1)) (Lib.hid (fun c hc => (HOK'.out.clks c hc).1)) _ HST.out _ ⟨rfl, rfl⟩ rfl rfl rfl _ ?_ ?_
  rotate_left
  · intro hne a' W' hF q4 hB'
    obtain ⟨F, rfl⟩ := hF.open_
    rw [slT_listT (by omega)] at q4
    rw [lit192, q4]
    go_ret
    exact ⟨by rw [← HB.out, eqP_no (fun e => hne (congrArg Chip.clks e))]; rfl, hB'.low⟩
  intro a1 W1 hF1 p2 p3 hB1 heq1
  have HB1 := Lib.hid hB1
  have HQ1 := Lib.hid heq1
  simp only [Exit.then, Exit.inBlock, ↓reduceIte]
  obtain ⟨F1, rfl⟩ := hF1.open_
  rw [slT_listT (by omega)] at p2 p3
  rw [lit192, p2, p3]
  clear hF1 p2 p3 hB1 heq1
  go_wp2
  refine sm2_any A1 A2 A3 A4 B1 B2 B3 B4 n1 n2 n3 n4 c1 c2 c3 c4 d1 d2 d3 d4 s.doms t.doms HL2 b2 HK2 HJ2  _ HB1.out _ ⟨rfl, rfl⟩ rfl rfl rfl _ ?_ ?_
  rotate_left
  · intro hne a' W' hF q4 hB'
    obtain ⟨F, rfl⟩ := hF.open_
    rw [slT_listT (by omega)] at q4
    rw [lit192, q4]
    go_ret
    exact ⟨by rw [← HB.out, eqP_no (fun e => hne (congrArg Chip.doms e))]; rfl, hB'.low⟩
  intro a2 W2 hF2 p2 p3 hB2 heq2
  have HB2 := Lib.hid hB2
  have HQ2 := Lib.hid heq2
  simp only [Exit.then, Exit.inBlock, ↓reduceIte]
  obtain ⟨F2, rfl⟩ := hF2.open_
  rw [slT_listT (by omega)] at p2 p3
  rw [lit192, p2, p3]
  clear hF2 p2 p3 hB2 heq2
  go_wp2
  refine sm3_any A1 A2 A3 A4 B1 B2 B3 B4 n1 n2 n3 n4 c1 c2 c3 c4 d1 d2 d3 d4 s.rsts t.rsts HL3 b3 HK3 HJ3  _ HB2.out _ ⟨rfl, rfl⟩ rfl rfl rfl _ ?_ ?_
  rotate_left
  · intro hne a' W' hF q4 hB'
    obtain ⟨F, rfl⟩ := hF.open_
    rw [slT_listT (by omega)] at q4
    rw [lit192, q4]
    go_ret
    exact ⟨by rw [← HB.out, eqP_no (fun e => hne (congrArg Chip.rsts e))]; rfl, hB'.low⟩
  intro a3 W3 hF3 p2 p3 hB3 heq3
  have HB3 := Lib.hid hB3
  have HQ3 := Lib.hid heq3
  simp only [Exit.then, Exit.inBlock, ↓reduceIte]
  obtain ⟨F3, rfl⟩ := hF3.open_
  rw [slT_listT (by omega)] at p2 p3
  rw [lit192, p2, p3]
  clear hF3 p2 p3 hB3 heq3
  go_wp2
  refine sm4_any A1 A2 A3 A4 B1 B2 B3 B4 n1 n2 n3 n4 c1 c2 c3 c4 d1 d2 d3 d4 s.devs t.devs HL4 b4 HK4 HJ4 (Lib.hid (fun d hd => ⟨(HOK.out.devs d hd).1, (HOK.out.devs d hd).2.1⟩)) (Lib.hid (fun d hd => ⟨(HOK'.out.devs d hd).1, (HOK'.out.devs d hd).2.1⟩)) _ HB3.out _ ⟨rfl, rfl⟩ rfl rfl rfl _ ?_ ?_
  rotate_left
  · intro hne a' W' hF q4 hB'
    obtain ⟨F, rfl⟩ := hF.open_
    rw [slT_listT (by omega)] at q4
    rw [lit192, q4]
    go_ret
    exact ⟨by rw [← HB.out, eqP_no (fun e => hne (congrArg Chip.devs e))]; rfl, hB'.low⟩
  intro a4 W4 hF4 p2 p3 hB4 heq4
  have HB4 := Lib.hid hB4
  have HQ4 := Lib.hid heq4
  simp only [Exit.then, Exit.inBlock, ↓reduceIte]
  obtain ⟨F4, rfl⟩ := hF4.open_
  rw [slT_listT (by omega)] at p2 p3
  rw [lit192, p2, p3]
  clear hF4 p2 p3 hB4 heq4
  go_wp2
  go_ret
  refine ⟨?_, HB4.out.low⟩
  have he : s = t := by
    obtain ⟨sc, sd, sr, sv⟩ := s
    obtain ⟨tc, td, tr, tv⟩ := t
    have h1 := HQ1.out
    have h2 := HQ2.out
    have h3 := HQ3.out
    have h4 := HQ4.out
    simp only at h1 h2 h3 h4
    rw [h1, h2, h3, h4]
  rw [← HB.out, he, eqP_self]
  rfl

theorem rsame_any (s t : Chip) (vs us : List Value) (w : World) (hok : ChipOk s) (hok' : ChipOk t) (h : ChipV w w.heap.size s vs) (h' : ChipV w w.heap.size t us) : Calls Try.prog 22 #[.agg vs.toArray, .agg us.toArray] w (TellsB (eqP s t) w) := by
  obtain ⟨A1, c1, A2, c2, A3, c3, A4, c4, rfl, -, -, -, -, k1, k2, k3, k4⟩ := h
  obtain ⟨B1, d1, B2, d2, B3, d3, B4, d4, rfl, -, -, -, -, j1, j2, j3, j4⟩ := h'
  by_cases h1 : s.clks.length = t.clks.length
  · by_cases h2 : s.doms.length = t.doms.length
    · by_cases h3 : s.rsts.length = t.rsts.length
      · by_cases h4 : s.devs.length = t.devs.length
        · have := rsame_all s t A1 A2 A3 A4 B1 B2 B3 B4 _ _ _ _ c1 c2 c3 c4 d1 d2 d3 d4 w _ hok hok' ⟨rfl, h1⟩ ⟨rfl, h2⟩ ⟨rfl, h3⟩ ⟨rfl, h4⟩ k1 k2 k3 k4 j1 j2 j3 j4 rfl
          show Calls Try.prog 22 #[.agg #[_, _, _, _], .agg #[.slice B1 _ d1, .slice B2 _ d2, .slice B3 _ d3, .slice B4 _ d4]] w _
          rw [← h1, ← h2, ← h3, ← h4]
          exact this
        · rw [eqP_no (fun e => h4 (by rw [e]))]
          have := rsame_no4 A1 A2 A3 A4 B1 B2 B3 B4 s.clks.length s.doms.length s.rsts.length s.devs.length c1 c2 c3 c4 d1 d2 d3 d4 t.devs.length w h4
          show Calls Try.prog 22 #[.agg #[_, _, _, _], .agg #[.slice B1 _ d1, .slice B2 _ d2, .slice B3 _ d3, .slice B4 _ d4]] w _
          rw [← h1, ← h2, ← h3]
          exact this
      · rw [eqP_no (fun e => h3 (by rw [e]))]
        have := rsame_no3 A1 A2 A3 A4 B1 B2 B3 B4 s.clks.length s.doms.length s.rsts.length s.devs.length c1 c2 c3 c4 d1 d2 d3 d4 t.rsts.length t.devs.length w h3
        show Calls Try.prog 22 #[.agg #[_, _, _, _], .agg #[.slice B1 _ d1, .slice B2 _ d2, .slice B3 _ d3, .slice B4 _ d4]] w _
        rw [← h1, ← h2]
        exact this
    · rw [eqP_no (fun e => h2 (by rw [e]))]
      have := rsame_no2 A1 A2 A3 A4 B1 B2 B3 B4 s.clks.length s.doms.length s.rsts.length s.devs.length c1 c2 c3 c4 d1 d2 d3 d4 t.doms.length t.rsts.length t.devs.length w h2
      show Calls Try.prog 22 #[.agg #[_, _, _, _], .agg #[.slice B1 _ d1, .slice B2 _ d2, .slice B3 _ d3, .slice B4 _ d4]] w _
      rw [← h1]
      exact this
  · rw [eqP_no (fun e => h1 (by rw [e]))]
    exact rsame_no1 A1 A2 A3 A4 B1 B2 B3 B4 s.clks.length s.doms.length s.rsts.length s.devs.length c1 c2 c3 c4 d1 d2 d3 d4 t.clks.length t.doms.length t.rsts.length t.devs.length w h1
end

section
set_option linter.unusedSimpArgs false
set_option linter.unusedVariables false
open Go.RowKit Go.Maps

structure Few (s : Chip) : Prop where
  n1 : s.clks.length ≤ 40
  n2 : s.doms.length ≤ 40
  n3 : s.rsts.length ≤ 100
  n4 : s.devs.length ≤ 40
  clks : ∀ c, c ∈ s.clks → c.frm.length ≤ 20
  devs : ∀ d, d ∈ s.devs → d.needs.length ≤ 20 ∧ d.regs.length ≤ 50
theorem Few.ok {s : Chip} (h : Few s) (hw : ChipW s) : ChipOk s :=
  ⟨by have := h.n1; omega, by have := h.n2; omega, by have := h.n3; omega, by have := h.n4; omega, fun c hc => ⟨by have := h.clks c hc; omega, (hw.clks c hc).frm⟩, fun d hd => (hw.doms d hd).above,
    fun d hd => ⟨by have := h.devs d hd; omega, by have := h.devs d hd; omega, (hw.devs d hd).needs⟩⟩
def FewIs (s : Chip) (w : World) (e : Ending) (w' : World) : Prop := ∃ b : Bool, e = .returned (.bool b) ∧ (b = true → Few s) ∧ Below w.heap.size w w'

set_option maxRecDepth 100000 in
set_option maxHeartbeats 8000000 in
theorem few_any (s : Chip) (vs : List Value) (w : World) (h : ChipV w w.heap.size s vs) : Calls Try.prog 11 #[.agg vs.toArray] w (FewIs s w) := by
  obtain ⟨A1, c1, A2, c2, A3, c3, A4, c4, rfl, l1, l2, l3, l4, k1, k2, k3, k4⟩ := h
  have HX := Lib.hid k1
  have HY := Lib.hid k4
  have HST := Lib.hid (Bx.start w [.slice A1 s.clks.length c1, .slice A2 s.doms.length c2, .slice A3 s.rsts.length c3, .slice A4 s.devs.length c4])
  clear k1 k2 k3 k4 l1 l2 l3 l4
  by_cases h1 : 40 < s.clks.length
  · have d1 : (40 : Int) < (s.clks.length : Int) := by omega
    clear h1
    go_enter Try.func11, Try.ntmps11
    go_wp2
    go_ret
    exact ⟨false, rfl, (fun h => by cases h), HST.out.low⟩
  have H1 := Lib.hid h1
  have d1 : (s.clks.length : Int) ≤ 40 := by omega
  clear h1
  by_cases h2 : 40 < s.doms.length
  · have d2 : (40 : Int) < (s.doms.length : Int) := by omega
    clear h2
    go_enter Try.func11, Try.ntmps11
    go_wp2
    go_ret
    exact ⟨false, rfl, (fun h => by cases h), HST.out.low⟩
  have H2 := Lib.hid h2
  have d2 : (s.doms.length : Int) ≤ 40 := by omega
  clear h2
  by_cases h3 : 100 < s.rsts.length
  · have d3 : (100 : Int) < (s.rsts.length : Int) := by omega
    clear h3
    go_enter Try.func11, Try.ntmps11
    go_wp2
    go_ret
    exact ⟨false, rfl, (fun h => by cases h), HST.out.low⟩
  have H3 := Lib.hid h3
  have d3 : (s.rsts.length : Int) ≤ 100 := by omega
  clear h3
  by_cases h4 : 40 < s.devs.length
  · have d4 : (40 : Int) < (s.devs.length : Int) := by omega
    clear h4
    go_enter Try.func11, Try.ntmps11
    go_wp2
    go_ret
    exact ⟨false, rfl, (fun h => by cases h), HST.out.low⟩
  have H4 := Lib.hid h4
  have d4 : (s.devs.length : Int) ≤ 40 := by omega
  clear h4
  go_enter Try.func11, Try.ntmps11
  go_wp2
  go_loopw [3] (fun i wr => ∃ k : Nat, k ≤ s.clks.length ∧ i = .int .i64 k ∧ Bx w [.slice A1 s.clks.length c1, .slice A2 s.doms.length c2, .slice A3 s.rsts.length c3, .slice A4 s.devs.length c4] wr ∧ RowKit.Hid (∀ j y, j < k → s.clks[j]? = some y → y.frm.length ≤ 20)) (fun i _ => s.clks.length - (intOf i).toNat)
  case atStart => exact ⟨0, Nat.zero_le _, rfl, HST.out, Lib.hid (fun j y hj => absurd hj (by omega))⟩
  case round =>
    obtain ⟨k, hk, rfl, hB, HZ⟩ := hrel
    have x0 := hB.box 0 _ rfl
    have x3 := hB.box 3 _ rfl
    have HB := Lib.hid hB
    clear HST
    by_cases hlt : k < s.clks.length
    · obtain ⟨ad, vs, hA, hab, hV, hAg⟩ := (hB.readsS HX.out).at_ hlt
      have hx := List.getElem?_eq_getElem hlt
      generalize s.clks[k] = x at hx hV
      have HXX := Lib.hid hx
      obtain ⟨Af, cf, rfl, hcf, hIf⟩ := hV
      have h1 := hAg.at_ 0 rfl
      have i0 : (0 : Int) ≤ (k : Int) := by omega
      have i1 : (k : Int) < (s.clks.length : Int) := by omega
      clear hx hAg hB hIf d1 d2 d3 d4
      subst hA
      by_cases o1 : 20 < x.frm.length
      · have e1 : (20 : Int) < (x.frm.length : Int) := by omega
        clear o1
        go_wp2
        go_ret
        exact ⟨false, rfl, (fun h => by cases h), HB.out.low⟩
      · have O1 := Lib.hid o1
        have e1 : (x.frm.length : Int) ≤ 20 := by omega
        clear o1
        go_wp2
        go_roundw
        case measure => simp [intOf]; omega
        case rel =>
          refine ⟨k + 1, hlt, by go_num, HB.out, Lib.hid (fun j y hj hy => ?_)⟩
          by_cases hjk : j = k
          · subst hjk
            rw [HXX.out] at hy
            obtain rfl := Option.some.inj hy
            have := O1.out
            omega
          · exact HZ.out j y (by omega) hy
    · obtain rfl : k = s.clks.length := by omega
      clear hB
      go_wp2
      go_loopw [4] (fun i wr => ∃ k : Nat, k ≤ s.devs.length ∧ i = .int .i64 k ∧ Bx w [.slice A1 s.clks.length c1, .slice A2 s.doms.length c2, .slice A3 s.rsts.length c3, .slice A4 s.devs.length c4] wr ∧ RowKit.Hid (∀ j y, j < k → s.devs[j]? = some y → y.needs.length ≤ 20 ∧ y.regs.length ≤ 50)) (fun i _ => s.devs.length - (intOf i).toNat)
      case atStart => exact ⟨0, Nat.zero_le _, rfl, HB.out, Lib.hid (fun j y hj => absurd hj (by omega))⟩
      case round =>
        clear HB x0 x3
        obtain ⟨k, hk, rfl, hB, HZ2⟩ := hrel
        have x3 := hB.box 3 _ rfl
        have HB := Lib.hid hB
        by_cases hlt : k < s.devs.length
        · obtain ⟨ad, vs, hA, hab, hV, hAg⟩ := (hB.readsS HY.out).at_ hlt
          have hx := List.getElem?_eq_getElem hlt
          generalize s.devs[k] = x at hx hV
          have HXX := Lib.hid hx
          obtain ⟨Ar, cr, Af, cf, rfl, hcr, hcf, hRr, hIf⟩ := hV
          have h4 := hAg.at_ 3 rfl
          have h5 := hAg.at_ 4 rfl
          have i0 : (0 : Int) ≤ (k : Int) := by omega
          have i1 : (k : Int) < (s.devs.length : Int) := by omega
          clear hx hAg hB hIf hRr d1 d2 d3 d4
          subst hA
          by_cases o1 : 20 < x.needs.length
          · have e1 : (20 : Int) < (x.needs.length : Int) := by omega
            clear o1
            go_wp2
            go_ret
            exact ⟨false, rfl, (fun h => by cases h), HB.out.low⟩
          · have O1 := Lib.hid o1
            have e1 : (x.needs.length : Int) ≤ 20 := by omega
            clear o1
            by_cases o2 : 50 < x.regs.length
            · have e2 : (50 : Int) < (x.regs.length : Int) := by omega
              clear o2
              go_wp2
              go_ret
              exact ⟨false, rfl, (fun h => by cases h), HB.out.low⟩
            · have O2 := Lib.hid o2
              have e2 : (x.regs.length : Int) ≤ 50 := by omega
              clear o2
              go_wp2
              go_roundw
              case measure => simp [intOf]; omega
              case rel =>
                refine ⟨k + 1, hlt, by go_num, HB.out, Lib.hid (fun j y hj hy => ?_)⟩
                by_cases hjk : j = k
                · subst hjk
                  rw [HXX.out] at hy
                  obtain rfl := Option.some.inj hy
                  have := O1.out
                  have := O2.out
                  omega
                · exact HZ2.out j y (by omega) hy
        · obtain rfl : k = s.devs.length := by omega
          clear hB
          go_wp2
          go_ret
          refine ⟨true, rfl, fun _ => ⟨by have := H1.out; omega, by have := H2.out; omega, by have := H3.out; omega, by have := H4.out; omega, fun c hc => ?_, fun d hd => ?_⟩, HB.out.low⟩
          · obtain ⟨j, hj⟩ := List.mem_iff_getElem?.1 hc
            exact HZ.out j c (List.getElem?_eq_some_iff.1 hj).1 hj
          · obtain ⟨j, hj⟩ := List.mem_iff_getElem?.1 hd
            exact HZ2.out j d (List.getElem?_eq_some_iff.1 hj).1 hj

set_option maxRecDepth 100000 in
set_option maxHeartbeats 8000000 in
theorem sameGraph_any (A A' : Option Addr) (n c c' : Nat) (g : Nat → List Int) (w : World) (hn : n ≤ 1000) (hl : ∀ i, i < n → (g i).length ≤ 1000000) (h : RowsAt w w.heap.size A n g) (h' : RowsAt w w.heap.size A' n g) : Calls Try.prog 14 #[.slice A n c, .slice A' n c'] w (TellsB true w) := by
  have HX := Lib.hid h
  have HY := Lib.hid h'
  have HL := Lib.hid hl
  clear h h' hl
  go_enter Try.func14, Try.ntmps14
  go_wp2
  go_loopw [5] (fun i wr => ∃ k : Nat, k ≤ n ∧ i = .int .i64 k ∧ RowKit.Hid (Moved [] w wr)) (fun i _ => n - (intOf i).toNat)
  case atStart => exact ⟨0, Nat.zero_le _, rfl, Lib.hid (Moved.refl _ _)⟩
  case round =>
    obtain ⟨k, hk, rfl, HM⟩ := hrel
    have i0 : (0 : Int) ≤ (k : Int) := by omega
    by_cases hlt : k < n
    · have i1 : (k : Int) < (n : Int) := by omega
      obtain ⟨ad, rfl, hab, hat⟩ := HX.out (by omega)
      obtain ⟨ad', rfl, hab', hat'⟩ := HY.out (by omega)
      obtain ⟨Ai, ci, g1, g2, g3⟩ := hat k hlt
      obtain ⟨Bi, di, f1, f2, f3⟩ := hat' k hlt
      have hg := HL.out k hlt
      obtain ⟨xs, hxs⟩ : ∃ xs, xs = g k := ⟨_, rfl⟩
      rw [← hxs] at g1 g2 g3 f1 f2 f3 hg
      have HI := Lib.hid g3
      have HJ := Lib.hid f3
      have HG := Lib.hid g1
      have HF := Lib.hid f1
      have g4 := HM.out.cell g1 (by simp)
      have f4 := HM.out.cell f1 (by simp)
      clear hat hat' g3 f3 hxs g1 f1
      go_wp2
      go_quiet (fail)
      go_wp2
      go_loopw [6] (fun i wv => ∃ j : Nat, j ≤ xs.length ∧ i = .int .i64 j ∧ RowKit.Hid (Moved [] w wv)) (fun i _ => xs.length - (intOf i).toNat)
      case atStart => exact ⟨0, Nat.zero_le _, rfl, Lib.hid (HM.out.trans (drewN_moved _ _))⟩
      case round =>
        clear g4 f4
        obtain ⟨j, hj, rfl, HN⟩ := hrel
        have j0 : (0 : Int) ≤ (j : Int) := by omega
        have g4 := HN.out.cell HG.out (by simp)
        have f4 := HN.out.cell HF.out (by simp)
        by_cases hjl : j < xs.length
        · have j1 : (j : Int) < (xs.length : Int) := by omega
          have hz := List.getElem?_eq_getElem hjl
          generalize xs[j] = z at hz
          obtain ⟨ax, rfl, -, hatx⟩ := HI.out (by omega)
          obtain ⟨ay, rfl, -, haty⟩ := HJ.out (by omega)
          have g5 := HN.out.cell (hatx j z hz) (by simp)
          have f5 := HN.out.cell (haty j z hz) (by simp)
          clear hatx haty hz
          go_wp2
          go_quiet (fail)
          go_wp2
          go_roundw
          case measure => simp [intOf]; omega
          case rel => exact ⟨j + 1, hjl, by go_num, Lib.hid (HN.out.trans (drewN_moved _ _))⟩
        · obtain rfl : j = xs.length := by omega
          go_wp2
          go_roundw
          case measure => simp [intOf]; omega
          case rel => exact ⟨k + 1, hlt, by go_num, HN⟩
    · obtain rfl : k = n := by omega
      go_wp2
      go_ret
      exact ⟨rfl, HM.out.below (by simp) (Nat.le_refl _)⟩
end

section
set_option linter.unusedSimpArgs false
set_option linter.unusedVariables false
open Go.RowKit Go.Maps

set_option maxRecDepth 100000 in
theorem lit65 (T : Nat → Value) : listT T 65 = List.toArray (T 0 :: T 1 :: T 2 :: T 3 :: T 4 :: T 5 :: T 6 :: T 7 :: T 8 :: T 9 :: T 10 :: T 11 :: T 12 :: T 13 :: T 14 :: T 15 :: T 16 :: T 17 :: T 18 :: T 19 :: T 20 :: T 21 :: T 22 :: T 23 :: T 24 :: T 25 :: T 26 :: T 27 :: T 28 :: T 29 :: T 30 :: T 31 :: T 32 :: T 33 :: T 34 :: T 35 :: T 36 :: T 37 :: T 38 :: T 39 :: T 40 :: T 41 :: T 42 :: T 43 :: T 44 :: T 45 :: T 46 :: T 47 :: T 48 :: T 49 :: T 50 :: T 51 :: T 52 :: T 53 :: T 54 :: T 55 :: T 56 :: T 57 :: T 58 :: T 59 :: T 60 :: T 61 :: T 62 :: T 63 :: T 64 :: []) := rfl
noncomputable def teBody : Code := Try.f3.body.getD .skip
noncomputable def teEnd : Code := tlC (tlC (tlC (tlC (tlC teBody))))
def IsChp (s : Chip) : Gv := fun v w => ∃ vs : List Value, v = .agg vs.toArray ∧ ChipV w w.heap.size s vs
theorem isChp_stb (s : Chip) : Stb (IsChp s) := fun _ _ _ ⟨vs, e, h⟩ hb => ⟨vs, e, Steady.later h hb⟩
def IsRows (rows : List (List Int)) (n : Nat) : Gv := fun v w => ∃ A c, v = .slice A n c ∧ RowsAt w w.heap.size A n (gOf rows)
theorem isRows_stb (rows : List (List Int)) (n : Nat) : Stb (IsRows rows n) := fun _ _ _ ⟨A, c, e, h⟩ hb => ⟨A, c, e, (h.below hb (Nat.le_refl _)).more hb.size⟩

set_option maxRecDepth 1000000 in
set_option maxHeartbeats 8000000 in
theorem tells_end (w W : World) (gs gt : Nat) (s t : Chip) (a1 a2 a3 a4 b1 b2 b3 b4 : Value) (b : Bool) (E : Int) (n1 n2 n3 : Nat) (ok : ChipOk s) (ok' : ChipOk t) (hE : chipE s = E) (heq : eqP s t = b)
    (hn1 : (clksG s).length = n1) (hn2 : (domsG s).length = n2) (hn3 : (devsG s).length = n3)
    (hs1 : n1 ≤ 1000 ∧ ∀ i, i < n1 → (gOf (clksG s) i).length ≤ 1000000) (hs2 : n2 ≤ 1000 ∧ ∀ i, i < n2 → (gOf (domsG s) i).length ≤ 1000000) (hs3 : n3 ≤ 1000 ∧ ∀ i, i < n3 → (gOf (devsG s) i).length ≤ 1000000)
    (hbx : BoxAt W gs [a1, a2, a3, a4]) (hbx' : BoxAt W gt [b1, b2, b3, b4]) (hcv : ChipV W W.heap.size s [a1, a2, a3, a4]) (hcv' : ChipV W W.heap.size t [b1, b2, b3, b4]) (hbl : Below w.heap.size w W)
    (a : Act) (ha : FrN 65 a) (h2 : slT a 2 = .pointer (some ⟨gs, 0, none⟩)) (h3 : slT a 3 = .pointer (some ⟨gt, 0, none⟩)) : Code.wp Try.prog teEnd (bodyPost Try.prog Try.f3 (TellsB true w)) a W := by
  have HOK := Lib.hid ok
  have HOK' := Lib.hid ok'
  have HE := Lib.hid hE
  have HEQ := Lib.hid heq
  have HN1 := Lib.hid hn1
  have HN2 := Lib.hid hn2
  have HN3 := Lib.hid hn3
  have HS1 : RowKit.Hid (n1 ≤ 1000 ∧ ∀ i, i < n1 → (gOf (clksG s) i).length ≤ 1000000) := hs1
  have HS2 : RowKit.Hid (n2 ≤ 1000 ∧ ∀ i, i < n2 → (gOf (domsG s) i).length ≤ 1000000) := hs2
  have HS3 : RowKit.Hid (n3 ≤ 1000 ∧ ∀ i, i < n3 → (gOf (devsG s) i).length ≤ 1000000) := hs3
  have hC : ∀ w1, Below W.heap.size W w1 → BoxAt w1 gs [a1, a2, a3, a4] ∧ BoxAt w1 gt [b1, b2, b3, b4] ∧ ChipV w1 w1.heap.size s [a1, a2, a3, a4] ∧ ChipV w1 w1.heap.size t [b1, b2, b3, b4] := fun w1 hb => by
    have hm : Moved [] W w1 := Moved.of_below hb
    exact ⟨hbx.move hm (by simp), hbx'.move hm (by simp), Steady.later hcv hb, Steady.later hcv' hb⟩
  have HC := Lib.hid hC
  have HB := Lib.hid hbl
  clear ok ok' hE heq hn1 hn2 hn3 hs1 hs2 hs3 hbx hbx' hcv hcv' hbl hC
  obtain ⟨F, rfl⟩ := ha.open_
  rw [slT_listT (by omega)] at h2 h3
  rw [lit65, h2, h3]
  clear ha h2 h3
  conv => arg 2; whnf
  go_wp2
  refine region_good (GL [IsV (.agg #[a1, a2, a3, a4]),
    IsV (.int .i64 E),
    IsV (.agg #[a1, a2, a3, a4]),
    IsV (.int .i64 E),
    IsV (.bool true),
    IsV (.bool true),
    IsV (.agg #[a1, a2, a3, a4]),
    IsRows (clksG s) n1,
    IsV (.agg #[a1, a2, a3, a4]),
    IsRows (clksG s) n1,
    IsV (.bool true),
    IsV (.bool true),
    IsV (.bool true),
    IsV (.agg #[a1, a2, a3, a4]),
    IsRows (domsG s) n2,
    IsV (.agg #[a1, a2, a3, a4]),
    IsRows (domsG s) n2,
    IsV (.bool true),
    IsV (.bool true),
    IsV (.bool true),
    IsV (.agg #[a1, a2, a3, a4]),
    IsRows (devsG s) n3,
    IsV (.agg #[a1, a2, a3, a4]),
    IsRows (devsG s) n3,
    IsV (.bool true),
    IsV (.bool true),
    IsV (.bool true),
    IsV (.agg #[a1, a2, a3, a4]),
    IsV (.agg #[b1, b2, b3, b4]),
    IsV (.bool b),
    IsV (.agg #[a1, a2, a3, a4]),
    IsV (.agg #[b1, b2, b3, b4]),
    IsV (.bool b),
    IsV (.bool true),
    IsV (.bool true),
    IsV (.bool true),
    IsV (.agg #[a1, a2, a3, a4]),
    IsChp s,
    IsV (.agg #[a1, a2, a3, a4]),
    IsV (.bool true),
    IsV (.bool true),
    IsV (.bool true)]) 65 (by kernel_rfl) rfl (by kernel_rfl) (GL.stb ⟨IsV.stb _, IsV.stb _, IsV.stb _, IsV.stb _, IsV.stb _, IsV.stb _, IsV.stb _, isRows_stb _ _, IsV.stb _, isRows_stb _ _, IsV.stb _, IsV.stb _, IsV.stb _, IsV.stb _, isRows_stb _ _, IsV.stb _, isRows_stb _ _, IsV.stb _, IsV.stb _, IsV.stb _, IsV.stb _, isRows_stb _ _, IsV.stb _, isRows_stb _ _, IsV.stb _, IsV.stb _, IsV.stb _, IsV.stb _, IsV.stb _, IsV.stb _, IsV.stb _, IsV.stb _, IsV.stb _, IsV.stb _, IsV.stb _, IsV.stb _, IsV.stb _, isChp_stb _, IsV.stb _, IsV.stb _, IsV.stb _, IsV.stb _, trivial⟩) ⟨?s0, ?s1, ?s2, ?s3, ?s4, ?s5, ?s6, ?s7, ?s8, ?s9, ?s10, ?s11, ?s12, ?s13, ?s14, ?s15, ?s16, ?s17, ?s18, ?s19, ?s20, ?s21, ?s22, ?s23, ?s24, ?s25, ?s26, ?s27, ?s28, ?s29, ?s30, ?s31, ?s32, ?s33, ?s34, ?s35, ?s36, ?s37, ?s38, ?s39, ?s40, ?s41, trivial⟩ ?fin
  case s0 =>
    refine step_plain rfl fun T w1 hT hb hd => ?_
    have ec := evT_const T
    have ef := evT_func T
    have d2 : evT T (.tmp 2) = .pointer (some ⟨gs, 0, none⟩) := hT 2 (by kernel_rfl)
    obtain ⟨hA, -, -, -⟩ := HC.out w1 hb
    obtain ⟨f0, -⟩ := hA 0 _ rfl
    obtain ⟨f1, -⟩ := hA 1 _ rfl
    obtain ⟨f2, -⟩ := hA 2 _ rfl
    obtain ⟨f3, -⟩ := hA 3 _ rfl
    clear hA
    clear hT hd hb
    refine gives_value (v := .agg #[a1, a2, a3, a4]) ?_ rfl
    simp only [execOp]
    go_simp
  case s1 =>
    refine step_plain rfl fun T w1 hT hb hd => ?_
    have ec := evT_const T
    have ef := evT_func T
    have d24 : evT T (.tmp 24) = .agg #[a1, a2, a3, a4] := (by first | exact hd.1 | exact hd.2.1 | exact hd.2.2.1 | exact hd.2.2.2.1 | exact hd.2.2.2.2.1 | exact hd.2.2.2.2.2.1 | exact hd.2.2.2.2.2.2.1 | exact hd.2.2.2.2.2.2.2.1 | exact hd.2.2.2.2.2.2.2.2.1 | exact hd.2.2.2.2.2.2.2.2.2.1 | exact hd.2.2.2.2.2.2.2.2.2.2.1 | exact hd.2.2.2.2.2.2.2.2.2.2.2.1)
    refine gives_call (f := 12) (args := #[.agg #[a1, a2, a3, a4]]) ?_ ?_
    · clear hT hd hb
      simp only [execOp, resolve]
      go_simp
    · refine (chip_check s [a1, a2, a3, a4] w1 HOK.out (HC.out w1 hb).2.2.1).mono ?_
      rintro en w2 ⟨he, hb2⟩
      exact ⟨_, he, hb2, by rw [HE.out]; rfl⟩
  case s2 =>
    refine step_plain rfl fun T w1 hT hb hd => ?_
    have ec := evT_const T
    have ef := evT_func T
    have d2 : evT T (.tmp 2) = .pointer (some ⟨gs, 0, none⟩) := hT 2 (by kernel_rfl)
    obtain ⟨hA, -, -, -⟩ := HC.out w1 hb
    obtain ⟨f0, -⟩ := hA 0 _ rfl
    obtain ⟨f1, -⟩ := hA 1 _ rfl
    obtain ⟨f2, -⟩ := hA 2 _ rfl
    obtain ⟨f3, -⟩ := hA 3 _ rfl
    clear hA
    clear hT hd hb
    refine gives_value (v := .agg #[a1, a2, a3, a4]) ?_ rfl
    simp only [execOp]
    go_simp
  case s3 =>
    refine step_plain rfl fun T w1 hT hb hd => ?_
    have ec := evT_const T
    have ef := evT_func T
    have d26 : evT T (.tmp 26) = .agg #[a1, a2, a3, a4] := (by first | exact hd.1 | exact hd.2.1 | exact hd.2.2.1 | exact hd.2.2.2.1 | exact hd.2.2.2.2.1 | exact hd.2.2.2.2.2.1 | exact hd.2.2.2.2.2.2.1 | exact hd.2.2.2.2.2.2.2.1 | exact hd.2.2.2.2.2.2.2.2.1 | exact hd.2.2.2.2.2.2.2.2.2.1 | exact hd.2.2.2.2.2.2.2.2.2.2.1 | exact hd.2.2.2.2.2.2.2.2.2.2.2.1)
    refine gives_call (f := 13) (args := #[.agg #[a1, a2, a3, a4]]) ?_ ?_
    · clear hT hd hb
      simp only [execOp, resolve]
      go_simp
    · refine (rchip_check s [a1, a2, a3, a4] w1 HOK.out (HC.out w1 hb).2.2.1).mono ?_
      rintro en w2 ⟨he, hb2⟩
      exact ⟨_, he, hb2, by rw [HE.out]; rfl⟩
  case s4 =>
    refine step_plain rfl fun T w1 hT hb hd => ?_
    have ec := evT_const T
    have ef := evT_func T
    have d25 : evT T (.tmp 25) = .int .i64 E := (by first | exact hd.1 | exact hd.2.1 | exact hd.2.2.1 | exact hd.2.2.2.1 | exact hd.2.2.2.2.1 | exact hd.2.2.2.2.2.1 | exact hd.2.2.2.2.2.2.1 | exact hd.2.2.2.2.2.2.2.1 | exact hd.2.2.2.2.2.2.2.2.1 | exact hd.2.2.2.2.2.2.2.2.2.1 | exact hd.2.2.2.2.2.2.2.2.2.2.1 | exact hd.2.2.2.2.2.2.2.2.2.2.2.1)
    have d27 : evT T (.tmp 27) = .int .i64 E := (by first | exact hd.1 | exact hd.2.1 | exact hd.2.2.1 | exact hd.2.2.2.1 | exact hd.2.2.2.2.1 | exact hd.2.2.2.2.2.1 | exact hd.2.2.2.2.2.2.1 | exact hd.2.2.2.2.2.2.2.1 | exact hd.2.2.2.2.2.2.2.2.1 | exact hd.2.2.2.2.2.2.2.2.2.1 | exact hd.2.2.2.2.2.2.2.2.2.2.1 | exact hd.2.2.2.2.2.2.2.2.2.2.2.1)
    clear hT hd hb
    refine gives_value (v := .bool true) ?_ rfl
    simp only [execOp]
    go_simp
  case s5 =>
    refine step_plain rfl fun T w1 hT hb hd => ?_
    have ec := evT_const T
    have ef := evT_func T
    have d28 : evT T (.tmp 28) = .bool true := (by first | exact hd.1 | exact hd.2.1 | exact hd.2.2.1 | exact hd.2.2.2.1 | exact hd.2.2.2.2.1 | exact hd.2.2.2.2.2.1 | exact hd.2.2.2.2.2.2.1 | exact hd.2.2.2.2.2.2.2.1 | exact hd.2.2.2.2.2.2.2.2.1 | exact hd.2.2.2.2.2.2.2.2.2.1 | exact hd.2.2.2.2.2.2.2.2.2.2.1 | exact hd.2.2.2.2.2.2.2.2.2.2.2.1)
    clear hT hd hb
    refine gives_value (v := .bool true) ?_ rfl
    simp only [execOp]
    go_simp
  case s6 =>
    refine step_on 5 29 true rfl rfl fun T w1 hT hb hd => ⟨(by first | exact hd.1 | exact hd.2.1 | exact hd.2.2.1 | exact hd.2.2.2.1 | exact hd.2.2.2.2.1 | exact hd.2.2.2.2.2.1 | exact hd.2.2.2.2.2.2.1 | exact hd.2.2.2.2.2.2.2.1 | exact hd.2.2.2.2.2.2.2.2.1 | exact hd.2.2.2.2.2.2.2.2.2.1 | exact hd.2.2.2.2.2.2.2.2.2.2.1 | exact hd.2.2.2.2.2.2.2.2.2.2.2.1), ?_⟩
    have ec := evT_const T
    have ef := evT_func T
    have d2 : evT T (.tmp 2) = .pointer (some ⟨gs, 0, none⟩) := hT 2 (by kernel_rfl)
    obtain ⟨hA, -, -, -⟩ := HC.out w1 hb
    obtain ⟨f0, -⟩ := hA 0 _ rfl
    obtain ⟨f1, -⟩ := hA 1 _ rfl
    obtain ⟨f2, -⟩ := hA 2 _ rfl
    obtain ⟨f3, -⟩ := hA 3 _ rfl
    clear hA
    clear hT hd hb
    refine gives_value (v := .agg #[a1, a2, a3, a4]) ?_ rfl
    simp only [execOp]
    go_simp
  case s7 =>
    refine step_on 5 29 true rfl rfl fun T w1 hT hb hd => ⟨(by first | exact hd.1 | exact hd.2.1 | exact hd.2.2.1 | exact hd.2.2.2.1 | exact hd.2.2.2.2.1 | exact hd.2.2.2.2.2.1 | exact hd.2.2.2.2.2.2.1 | exact hd.2.2.2.2.2.2.2.1 | exact hd.2.2.2.2.2.2.2.2.1 | exact hd.2.2.2.2.2.2.2.2.2.1 | exact hd.2.2.2.2.2.2.2.2.2.2.1 | exact hd.2.2.2.2.2.2.2.2.2.2.2.1), ?_⟩
    have ec := evT_const T
    have ef := evT_func T
    have d30 : evT T (.tmp 30) = .agg #[a1, a2, a3, a4] := (by first | exact hd.1 | exact hd.2.1 | exact hd.2.2.1 | exact hd.2.2.2.1 | exact hd.2.2.2.2.1 | exact hd.2.2.2.2.2.1 | exact hd.2.2.2.2.2.2.1 | exact hd.2.2.2.2.2.2.2.1 | exact hd.2.2.2.2.2.2.2.2.1 | exact hd.2.2.2.2.2.2.2.2.2.1 | exact hd.2.2.2.2.2.2.2.2.2.2.1 | exact hd.2.2.2.2.2.2.2.2.2.2.2.1)
    refine gives_call (f := 15) (args := #[.agg #[a1, a2, a3, a4]]) ?_ ?_
    · clear hT hd hb
      simp only [execOp, resolve]
      go_simp
    · refine (graph_clk s [a1, a2, a3, a4] w1 HOK.out (HC.out w1 hb).2.2.1).mono ?_
      rintro en w2 ⟨A, c, he, hr, hb2⟩
      rw [HN1.out] at he hr
      exact ⟨_, he, hb2, ⟨A, c, rfl, hr⟩⟩
  case s8 =>
    refine step_on 5 29 true rfl rfl fun T w1 hT hb hd => ⟨(by first | exact hd.1 | exact hd.2.1 | exact hd.2.2.1 | exact hd.2.2.2.1 | exact hd.2.2.2.2.1 | exact hd.2.2.2.2.2.1 | exact hd.2.2.2.2.2.2.1 | exact hd.2.2.2.2.2.2.2.1 | exact hd.2.2.2.2.2.2.2.2.1 | exact hd.2.2.2.2.2.2.2.2.2.1 | exact hd.2.2.2.2.2.2.2.2.2.2.1 | exact hd.2.2.2.2.2.2.2.2.2.2.2.1), ?_⟩
    have ec := evT_const T
    have ef := evT_func T
    have d2 : evT T (.tmp 2) = .pointer (some ⟨gs, 0, none⟩) := hT 2 (by kernel_rfl)
    obtain ⟨hA, -, -, -⟩ := HC.out w1 hb
    obtain ⟨f0, -⟩ := hA 0 _ rfl
    obtain ⟨f1, -⟩ := hA 1 _ rfl
    obtain ⟨f2, -⟩ := hA 2 _ rfl
    obtain ⟨f3, -⟩ := hA 3 _ rfl
    clear hA
    clear hT hd hb
    refine gives_value (v := .agg #[a1, a2, a3, a4]) ?_ rfl
    simp only [execOp]
    go_simp
  case s9 =>
    refine step_on 5 29 true rfl rfl fun T w1 hT hb hd => ⟨(by first | exact hd.1 | exact hd.2.1 | exact hd.2.2.1 | exact hd.2.2.2.1 | exact hd.2.2.2.2.1 | exact hd.2.2.2.2.2.1 | exact hd.2.2.2.2.2.2.1 | exact hd.2.2.2.2.2.2.2.1 | exact hd.2.2.2.2.2.2.2.2.1 | exact hd.2.2.2.2.2.2.2.2.2.1 | exact hd.2.2.2.2.2.2.2.2.2.2.1 | exact hd.2.2.2.2.2.2.2.2.2.2.2.1), ?_⟩
    have ec := evT_const T
    have ef := evT_func T
    have d32 : evT T (.tmp 32) = .agg #[a1, a2, a3, a4] := (by first | exact hd.1 | exact hd.2.1 | exact hd.2.2.1 | exact hd.2.2.2.1 | exact hd.2.2.2.2.1 | exact hd.2.2.2.2.2.1 | exact hd.2.2.2.2.2.2.1 | exact hd.2.2.2.2.2.2.2.1 | exact hd.2.2.2.2.2.2.2.2.1 | exact hd.2.2.2.2.2.2.2.2.2.1 | exact hd.2.2.2.2.2.2.2.2.2.2.1 | exact hd.2.2.2.2.2.2.2.2.2.2.2.1)
    refine gives_call (f := 16) (args := #[.agg #[a1, a2, a3, a4]]) ?_ ?_
    · clear hT hd hb
      simp only [execOp, resolve]
      go_simp
    · refine (rclocks_any s [a1, a2, a3, a4] w1 HOK.out (HC.out w1 hb).2.2.1).mono ?_
      rintro en w2 ⟨A, c, he, hr, hb2⟩
      rw [HN1.out] at he hr
      exact ⟨_, he, hb2, ⟨A, c, rfl, hr⟩⟩
  case s10 =>
    refine step_on 5 29 true rfl rfl fun T w1 hT hb hd => ⟨(by first | exact hd.1 | exact hd.2.1 | exact hd.2.2.1 | exact hd.2.2.2.1 | exact hd.2.2.2.2.1 | exact hd.2.2.2.2.2.1 | exact hd.2.2.2.2.2.2.1 | exact hd.2.2.2.2.2.2.2.1 | exact hd.2.2.2.2.2.2.2.2.1 | exact hd.2.2.2.2.2.2.2.2.2.1 | exact hd.2.2.2.2.2.2.2.2.2.2.1 | exact hd.2.2.2.2.2.2.2.2.2.2.2.1), ?_⟩
    have ec := evT_const T
    have ef := evT_func T
    obtain ⟨A, c, dA, hrA⟩ : IsRows (clksG s) n1 (evT T (.tmp 31)) w1 := (by first | exact hd.1 | exact hd.2.1 | exact hd.2.2.1 | exact hd.2.2.2.1 | exact hd.2.2.2.2.1 | exact hd.2.2.2.2.2.1 | exact hd.2.2.2.2.2.2.1 | exact hd.2.2.2.2.2.2.2.1 | exact hd.2.2.2.2.2.2.2.2.1 | exact hd.2.2.2.2.2.2.2.2.2.1 | exact hd.2.2.2.2.2.2.2.2.2.2.1 | exact hd.2.2.2.2.2.2.2.2.2.2.2.1)
    obtain ⟨A', c', dB, hrB⟩ : IsRows (clksG s) n1 (evT T (.tmp 33)) w1 := (by first | exact hd.1 | exact hd.2.1 | exact hd.2.2.1 | exact hd.2.2.2.1 | exact hd.2.2.2.2.1 | exact hd.2.2.2.2.2.1 | exact hd.2.2.2.2.2.2.1 | exact hd.2.2.2.2.2.2.2.1 | exact hd.2.2.2.2.2.2.2.2.1 | exact hd.2.2.2.2.2.2.2.2.2.1 | exact hd.2.2.2.2.2.2.2.2.2.2.1 | exact hd.2.2.2.2.2.2.2.2.2.2.2.1)
    refine gives_call (f := 14) (args := #[.slice A n1 c, .slice A' n1 c']) ?_ ?_
    · clear hT hd hb hrA hrB
      simp only [execOp, resolve]
      go_simp
    · refine (sameGraph_any A A' n1 c c' (gOf (clksG s)) w1 HS1.out.1 HS1.out.2 hrA hrB).mono ?_
      rintro en w2 ⟨he, hb2⟩
      exact ⟨_, he, hb2, rfl⟩
  case s11 =>
    refine step_plain rfl fun T w1 hT hb hd => ?_
    have ec := evT_const T
    have ef := evT_func T
    have d29 : evT T (.tmp 29) = .bool true := (by first | exact hd.1 | exact hd.2.1 | exact hd.2.2.1 | exact hd.2.2.2.1 | exact hd.2.2.2.2.1 | exact hd.2.2.2.2.2.1 | exact hd.2.2.2.2.2.2.1 | exact hd.2.2.2.2.2.2.2.1 | exact hd.2.2.2.2.2.2.2.2.1 | exact hd.2.2.2.2.2.2.2.2.2.1 | exact hd.2.2.2.2.2.2.2.2.2.2.1 | exact hd.2.2.2.2.2.2.2.2.2.2.2.1)
    have d34 : evT T (.tmp 34) = .bool true := (by first | exact hd.1 | exact hd.2.1 | exact hd.2.2.1 | exact hd.2.2.2.1 | exact hd.2.2.2.2.1 | exact hd.2.2.2.2.2.1 | exact hd.2.2.2.2.2.2.1 | exact hd.2.2.2.2.2.2.2.1 | exact hd.2.2.2.2.2.2.2.2.1 | exact hd.2.2.2.2.2.2.2.2.2.1 | exact hd.2.2.2.2.2.2.2.2.2.2.1 | exact hd.2.2.2.2.2.2.2.2.2.2.2.1)
    clear hT hd hb
    refine gives_value (v := .bool true) ?_ rfl
    simp only [execOp]
    go_simp
  case s12 =>
    refine step_plain rfl fun T w1 hT hb hd => ?_
    have ec := evT_const T
    have ef := evT_func T
    have d35 : evT T (.tmp 35) = .bool true := (by first | exact hd.1 | exact hd.2.1 | exact hd.2.2.1 | exact hd.2.2.2.1 | exact hd.2.2.2.2.1 | exact hd.2.2.2.2.2.1 | exact hd.2.2.2.2.2.2.1 | exact hd.2.2.2.2.2.2.2.1 | exact hd.2.2.2.2.2.2.2.2.1 | exact hd.2.2.2.2.2.2.2.2.2.1 | exact hd.2.2.2.2.2.2.2.2.2.2.1 | exact hd.2.2.2.2.2.2.2.2.2.2.2.1)
    clear hT hd hb
    refine gives_value (v := .bool true) ?_ rfl
    simp only [execOp]
    go_simp
  case s13 =>
    refine step_on 12 36 true rfl rfl fun T w1 hT hb hd => ⟨(by first | exact hd.1 | exact hd.2.1 | exact hd.2.2.1 | exact hd.2.2.2.1 | exact hd.2.2.2.2.1 | exact hd.2.2.2.2.2.1 | exact hd.2.2.2.2.2.2.1 | exact hd.2.2.2.2.2.2.2.1 | exact hd.2.2.2.2.2.2.2.2.1 | exact hd.2.2.2.2.2.2.2.2.2.1 | exact hd.2.2.2.2.2.2.2.2.2.2.1 | exact hd.2.2.2.2.2.2.2.2.2.2.2.1), ?_⟩
    have ec := evT_const T
    have ef := evT_func T
    have d2 : evT T (.tmp 2) = .pointer (some ⟨gs, 0, none⟩) := hT 2 (by kernel_rfl)
    obtain ⟨hA, -, -, -⟩ := HC.out w1 hb
    obtain ⟨f0, -⟩ := hA 0 _ rfl
    obtain ⟨f1, -⟩ := hA 1 _ rfl
    obtain ⟨f2, -⟩ := hA 2 _ rfl
    obtain ⟨f3, -⟩ := hA 3 _ rfl
    clear hA
    clear hT hd hb
    refine gives_value (v := .agg #[a1, a2, a3, a4]) ?_ rfl
    simp only [execOp]
    go_simp
  case s14 =>
    refine step_on 12 36 true rfl rfl fun T w1 hT hb hd => ⟨(by first | exact hd.1 | exact hd.2.1 | exact hd.2.2.1 | exact hd.2.2.2.1 | exact hd.2.2.2.2.1 | exact hd.2.2.2.2.2.1 | exact hd.2.2.2.2.2.2.1 | exact hd.2.2.2.2.2.2.2.1 | exact hd.2.2.2.2.2.2.2.2.1 | exact hd.2.2.2.2.2.2.2.2.2.1 | exact hd.2.2.2.2.2.2.2.2.2.2.1 | exact hd.2.2.2.2.2.2.2.2.2.2.2.1), ?_⟩
    have ec := evT_const T
    have ef := evT_func T
    have d37 : evT T (.tmp 37) = .agg #[a1, a2, a3, a4] := (by first | exact hd.1 | exact hd.2.1 | exact hd.2.2.1 | exact hd.2.2.2.1 | exact hd.2.2.2.2.1 | exact hd.2.2.2.2.2.1 | exact hd.2.2.2.2.2.2.1 | exact hd.2.2.2.2.2.2.2.1 | exact hd.2.2.2.2.2.2.2.2.1 | exact hd.2.2.2.2.2.2.2.2.2.1 | exact hd.2.2.2.2.2.2.2.2.2.2.1 | exact hd.2.2.2.2.2.2.2.2.2.2.2.1)
    refine gives_call (f := 17) (args := #[.agg #[a1, a2, a3, a4]]) ?_ ?_
    · clear hT hd hb
      simp only [execOp, resolve]
      go_simp
    · refine (graph_dom s [a1, a2, a3, a4] w1 HOK.out (HC.out w1 hb).2.2.1).mono ?_
      rintro en w2 ⟨A, c, he, hr, hb2⟩
      rw [HN2.out] at he hr
      exact ⟨_, he, hb2, ⟨A, c, rfl, hr⟩⟩
  case s15 =>
    refine step_on 12 36 true rfl rfl fun T w1 hT hb hd => ⟨(by first | exact hd.1 | exact hd.2.1 | exact hd.2.2.1 | exact hd.2.2.2.1 | exact hd.2.2.2.2.1 | exact hd.2.2.2.2.2.1 | exact hd.2.2.2.2.2.2.1 | exact hd.2.2.2.2.2.2.2.1 | exact hd.2.2.2.2.2.2.2.2.1 | exact hd.2.2.2.2.2.2.2.2.2.1 | exact hd.2.2.2.2.2.2.2.2.2.2.1 | exact hd.2.2.2.2.2.2.2.2.2.2.2.1), ?_⟩
    have ec := evT_const T
    have ef := evT_func T
    have d2 : evT T (.tmp 2) = .pointer (some ⟨gs, 0, none⟩) := hT 2 (by kernel_rfl)
    obtain ⟨hA, -, -, -⟩ := HC.out w1 hb
    obtain ⟨f0, -⟩ := hA 0 _ rfl
    obtain ⟨f1, -⟩ := hA 1 _ rfl
    obtain ⟨f2, -⟩ := hA 2 _ rfl
    obtain ⟨f3, -⟩ := hA 3 _ rfl
    clear hA
    clear hT hd hb
    refine gives_value (v := .agg #[a1, a2, a3, a4]) ?_ rfl
    simp only [execOp]
    go_simp
  case s16 =>
    refine step_on 12 36 true rfl rfl fun T w1 hT hb hd => ⟨(by first | exact hd.1 | exact hd.2.1 | exact hd.2.2.1 | exact hd.2.2.2.1 | exact hd.2.2.2.2.1 | exact hd.2.2.2.2.2.1 | exact hd.2.2.2.2.2.2.1 | exact hd.2.2.2.2.2.2.2.1 | exact hd.2.2.2.2.2.2.2.2.1 | exact hd.2.2.2.2.2.2.2.2.2.1 | exact hd.2.2.2.2.2.2.2.2.2.2.1 | exact hd.2.2.2.2.2.2.2.2.2.2.2.1), ?_⟩
    have ec := evT_const T
    have ef := evT_func T
    have d39 : evT T (.tmp 39) = .agg #[a1, a2, a3, a4] := (by first | exact hd.1 | exact hd.2.1 | exact hd.2.2.1 | exact hd.2.2.2.1 | exact hd.2.2.2.2.1 | exact hd.2.2.2.2.2.1 | exact hd.2.2.2.2.2.2.1 | exact hd.2.2.2.2.2.2.2.1 | exact hd.2.2.2.2.2.2.2.2.1 | exact hd.2.2.2.2.2.2.2.2.2.1 | exact hd.2.2.2.2.2.2.2.2.2.2.1 | exact hd.2.2.2.2.2.2.2.2.2.2.2.1)
    refine gives_call (f := 18) (args := #[.agg #[a1, a2, a3, a4]]) ?_ ?_
    · clear hT hd hb
      simp only [execOp, resolve]
      go_simp
    · refine (rdoms_any s [a1, a2, a3, a4] w1 HOK.out (HC.out w1 hb).2.2.1).mono ?_
      rintro en w2 ⟨A, c, he, hr, hb2⟩
      rw [HN2.out] at he hr
      exact ⟨_, he, hb2, ⟨A, c, rfl, hr⟩⟩
  case s17 =>
    refine step_on 12 36 true rfl rfl fun T w1 hT hb hd => ⟨(by first | exact hd.1 | exact hd.2.1 | exact hd.2.2.1 | exact hd.2.2.2.1 | exact hd.2.2.2.2.1 | exact hd.2.2.2.2.2.1 | exact hd.2.2.2.2.2.2.1 | exact hd.2.2.2.2.2.2.2.1 | exact hd.2.2.2.2.2.2.2.2.1 | exact hd.2.2.2.2.2.2.2.2.2.1 | exact hd.2.2.2.2.2.2.2.2.2.2.1 | exact hd.2.2.2.2.2.2.2.2.2.2.2.1), ?_⟩
    have ec := evT_const T
    have ef := evT_func T
    obtain ⟨A, c, dA, hrA⟩ : IsRows (domsG s) n2 (evT T (.tmp 38)) w1 := (by first | exact hd.1 | exact hd.2.1 | exact hd.2.2.1 | exact hd.2.2.2.1 | exact hd.2.2.2.2.1 | exact hd.2.2.2.2.2.1 | exact hd.2.2.2.2.2.2.1 | exact hd.2.2.2.2.2.2.2.1 | exact hd.2.2.2.2.2.2.2.2.1 | exact hd.2.2.2.2.2.2.2.2.2.1 | exact hd.2.2.2.2.2.2.2.2.2.2.1 | exact hd.2.2.2.2.2.2.2.2.2.2.2.1)
    obtain ⟨A', c', dB, hrB⟩ : IsRows (domsG s) n2 (evT T (.tmp 40)) w1 := (by first | exact hd.1 | exact hd.2.1 | exact hd.2.2.1 | exact hd.2.2.2.1 | exact hd.2.2.2.2.1 | exact hd.2.2.2.2.2.1 | exact hd.2.2.2.2.2.2.1 | exact hd.2.2.2.2.2.2.2.1 | exact hd.2.2.2.2.2.2.2.2.1 | exact hd.2.2.2.2.2.2.2.2.2.1 | exact hd.2.2.2.2.2.2.2.2.2.2.1 | exact hd.2.2.2.2.2.2.2.2.2.2.2.1)
    refine gives_call (f := 14) (args := #[.slice A n2 c, .slice A' n2 c']) ?_ ?_
    · clear hT hd hb hrA hrB
      simp only [execOp, resolve]
      go_simp
    · refine (sameGraph_any A A' n2 c c' (gOf (domsG s)) w1 HS2.out.1 HS2.out.2 hrA hrB).mono ?_
      rintro en w2 ⟨he, hb2⟩
      exact ⟨_, he, hb2, rfl⟩
  case s18 =>
    refine step_plain rfl fun T w1 hT hb hd => ?_
    have ec := evT_const T
    have ef := evT_func T
    have d36 : evT T (.tmp 36) = .bool true := (by first | exact hd.1 | exact hd.2.1 | exact hd.2.2.1 | exact hd.2.2.2.1 | exact hd.2.2.2.2.1 | exact hd.2.2.2.2.2.1 | exact hd.2.2.2.2.2.2.1 | exact hd.2.2.2.2.2.2.2.1 | exact hd.2.2.2.2.2.2.2.2.1 | exact hd.2.2.2.2.2.2.2.2.2.1 | exact hd.2.2.2.2.2.2.2.2.2.2.1 | exact hd.2.2.2.2.2.2.2.2.2.2.2.1)
    have d41 : evT T (.tmp 41) = .bool true := (by first | exact hd.1 | exact hd.2.1 | exact hd.2.2.1 | exact hd.2.2.2.1 | exact hd.2.2.2.2.1 | exact hd.2.2.2.2.2.1 | exact hd.2.2.2.2.2.2.1 | exact hd.2.2.2.2.2.2.2.1 | exact hd.2.2.2.2.2.2.2.2.1 | exact hd.2.2.2.2.2.2.2.2.2.1 | exact hd.2.2.2.2.2.2.2.2.2.2.1 | exact hd.2.2.2.2.2.2.2.2.2.2.2.1)
    clear hT hd hb
    refine gives_value (v := .bool true) ?_ rfl
    simp only [execOp]
    go_simp
  case s19 =>
    refine step_plain rfl fun T w1 hT hb hd => ?_
    have ec := evT_const T
    have ef := evT_func T
    have d42 : evT T (.tmp 42) = .bool true := (by first | exact hd.1 | exact hd.2.1 | exact hd.2.2.1 | exact hd.2.2.2.1 | exact hd.2.2.2.2.1 | exact hd.2.2.2.2.2.1 | exact hd.2.2.2.2.2.2.1 | exact hd.2.2.2.2.2.2.2.1 | exact hd.2.2.2.2.2.2.2.2.1 | exact hd.2.2.2.2.2.2.2.2.2.1 | exact hd.2.2.2.2.2.2.2.2.2.2.1 | exact hd.2.2.2.2.2.2.2.2.2.2.2.1)
    clear hT hd hb
    refine gives_value (v := .bool true) ?_ rfl
    simp only [execOp]
    go_simp
  case s20 =>
    refine step_on 19 43 true rfl rfl fun T w1 hT hb hd => ⟨(by first | exact hd.1 | exact hd.2.1 | exact hd.2.2.1 | exact hd.2.2.2.1 | exact hd.2.2.2.2.1 | exact hd.2.2.2.2.2.1 | exact hd.2.2.2.2.2.2.1 | exact hd.2.2.2.2.2.2.2.1 | exact hd.2.2.2.2.2.2.2.2.1 | exact hd.2.2.2.2.2.2.2.2.2.1 | exact hd.2.2.2.2.2.2.2.2.2.2.1 | exact hd.2.2.2.2.2.2.2.2.2.2.2.1), ?_⟩
    have ec := evT_const T
    have ef := evT_func T
    have d2 : evT T (.tmp 2) = .pointer (some ⟨gs, 0, none⟩) := hT 2 (by kernel_rfl)
    obtain ⟨hA, -, -, -⟩ := HC.out w1 hb
    obtain ⟨f0, -⟩ := hA 0 _ rfl
    obtain ⟨f1, -⟩ := hA 1 _ rfl
    obtain ⟨f2, -⟩ := hA 2 _ rfl
    obtain ⟨f3, -⟩ := hA 3 _ rfl
    clear hA
    clear hT hd hb
    refine gives_value (v := .agg #[a1, a2, a3, a4]) ?_ rfl
    simp only [execOp]
    go_simp
  case s21 =>
    refine step_on 19 43 true rfl rfl fun T w1 hT hb hd => ⟨(by first | exact hd.1 | exact hd.2.1 | exact hd.2.2.1 | exact hd.2.2.2.1 | exact hd.2.2.2.2.1 | exact hd.2.2.2.2.2.1 | exact hd.2.2.2.2.2.2.1 | exact hd.2.2.2.2.2.2.2.1 | exact hd.2.2.2.2.2.2.2.2.1 | exact hd.2.2.2.2.2.2.2.2.2.1 | exact hd.2.2.2.2.2.2.2.2.2.2.1 | exact hd.2.2.2.2.2.2.2.2.2.2.2.1), ?_⟩
    have ec := evT_const T
    have ef := evT_func T
    have d44 : evT T (.tmp 44) = .agg #[a1, a2, a3, a4] := (by first | exact hd.1 | exact hd.2.1 | exact hd.2.2.1 | exact hd.2.2.2.1 | exact hd.2.2.2.2.1 | exact hd.2.2.2.2.2.1 | exact hd.2.2.2.2.2.2.1 | exact hd.2.2.2.2.2.2.2.1 | exact hd.2.2.2.2.2.2.2.2.1 | exact hd.2.2.2.2.2.2.2.2.2.1 | exact hd.2.2.2.2.2.2.2.2.2.2.1 | exact hd.2.2.2.2.2.2.2.2.2.2.2.1)
    refine gives_call (f := 19) (args := #[.agg #[a1, a2, a3, a4]]) ?_ ?_
    · clear hT hd hb
      simp only [execOp, resolve]
      go_simp
    · refine (graph_dev s [a1, a2, a3, a4] w1 HOK.out (HC.out w1 hb).2.2.1).mono ?_
      rintro en w2 ⟨A, c, he, hr, hb2⟩
      rw [HN3.out] at he hr
      exact ⟨_, he, hb2, ⟨A, c, rfl, hr⟩⟩
  case s22 =>
    refine step_on 19 43 true rfl rfl fun T w1 hT hb hd => ⟨(by first | exact hd.1 | exact hd.2.1 | exact hd.2.2.1 | exact hd.2.2.2.1 | exact hd.2.2.2.2.1 | exact hd.2.2.2.2.2.1 | exact hd.2.2.2.2.2.2.1 | exact hd.2.2.2.2.2.2.2.1 | exact hd.2.2.2.2.2.2.2.2.1 | exact hd.2.2.2.2.2.2.2.2.2.1 | exact hd.2.2.2.2.2.2.2.2.2.2.1 | exact hd.2.2.2.2.2.2.2.2.2.2.2.1), ?_⟩
    have ec := evT_const T
    have ef := evT_func T
    have d2 : evT T (.tmp 2) = .pointer (some ⟨gs, 0, none⟩) := hT 2 (by kernel_rfl)
    obtain ⟨hA, -, -, -⟩ := HC.out w1 hb
    obtain ⟨f0, -⟩ := hA 0 _ rfl
    obtain ⟨f1, -⟩ := hA 1 _ rfl
    obtain ⟨f2, -⟩ := hA 2 _ rfl
    obtain ⟨f3, -⟩ := hA 3 _ rfl
    clear hA
    clear hT hd hb
    refine gives_value (v := .agg #[a1, a2, a3, a4]) ?_ rfl
    simp only [execOp]
    go_simp
  case s23 =>
    refine step_on 19 43 true rfl rfl fun T w1 hT hb hd => ⟨(by first | exact hd.1 | exact hd.2.1 | exact hd.2.2.1 | exact hd.2.2.2.1 | exact hd.2.2.2.2.1 | exact hd.2.2.2.2.2.1 | exact hd.2.2.2.2.2.2.1 | exact hd.2.2.2.2.2.2.2.1 | exact hd.2.2.2.2.2.2.2.2.1 | exact hd.2.2.2.2.2.2.2.2.2.1 | exact hd.2.2.2.2.2.2.2.2.2.2.1 | exact hd.2.2.2.2.2.2.2.2.2.2.2.1), ?_⟩
    have ec := evT_const T
    have ef := evT_func T
    have d46 : evT T (.tmp 46) = .agg #[a1, a2, a3, a4] := (by first | exact hd.1 | exact hd.2.1 | exact hd.2.2.1 | exact hd.2.2.2.1 | exact hd.2.2.2.2.1 | exact hd.2.2.2.2.2.1 | exact hd.2.2.2.2.2.2.1 | exact hd.2.2.2.2.2.2.2.1 | exact hd.2.2.2.2.2.2.2.2.1 | exact hd.2.2.2.2.2.2.2.2.2.1 | exact hd.2.2.2.2.2.2.2.2.2.2.1 | exact hd.2.2.2.2.2.2.2.2.2.2.2.1)
    refine gives_call (f := 20) (args := #[.agg #[a1, a2, a3, a4]]) ?_ ?_
    · clear hT hd hb
      simp only [execOp, resolve]
      go_simp
    · refine (rneeds_any s [a1, a2, a3, a4] w1 HOK.out (HC.out w1 hb).2.2.1).mono ?_
      rintro en w2 ⟨A, c, he, hr, hb2⟩
      rw [HN3.out] at he hr
      exact ⟨_, he, hb2, ⟨A, c, rfl, hr⟩⟩
  case s24 =>
    refine step_on 19 43 true rfl rfl fun T w1 hT hb hd => ⟨(by first | exact hd.1 | exact hd.2.1 | exact hd.2.2.1 | exact hd.2.2.2.1 | exact hd.2.2.2.2.1 | exact hd.2.2.2.2.2.1 | exact hd.2.2.2.2.2.2.1 | exact hd.2.2.2.2.2.2.2.1 | exact hd.2.2.2.2.2.2.2.2.1 | exact hd.2.2.2.2.2.2.2.2.2.1 | exact hd.2.2.2.2.2.2.2.2.2.2.1 | exact hd.2.2.2.2.2.2.2.2.2.2.2.1), ?_⟩
    have ec := evT_const T
    have ef := evT_func T
    obtain ⟨A, c, dA, hrA⟩ : IsRows (devsG s) n3 (evT T (.tmp 45)) w1 := (by first | exact hd.1 | exact hd.2.1 | exact hd.2.2.1 | exact hd.2.2.2.1 | exact hd.2.2.2.2.1 | exact hd.2.2.2.2.2.1 | exact hd.2.2.2.2.2.2.1 | exact hd.2.2.2.2.2.2.2.1 | exact hd.2.2.2.2.2.2.2.2.1 | exact hd.2.2.2.2.2.2.2.2.2.1 | exact hd.2.2.2.2.2.2.2.2.2.2.1 | exact hd.2.2.2.2.2.2.2.2.2.2.2.1)
    obtain ⟨A', c', dB, hrB⟩ : IsRows (devsG s) n3 (evT T (.tmp 47)) w1 := (by first | exact hd.1 | exact hd.2.1 | exact hd.2.2.1 | exact hd.2.2.2.1 | exact hd.2.2.2.2.1 | exact hd.2.2.2.2.2.1 | exact hd.2.2.2.2.2.2.1 | exact hd.2.2.2.2.2.2.2.1 | exact hd.2.2.2.2.2.2.2.2.1 | exact hd.2.2.2.2.2.2.2.2.2.1 | exact hd.2.2.2.2.2.2.2.2.2.2.1 | exact hd.2.2.2.2.2.2.2.2.2.2.2.1)
    refine gives_call (f := 14) (args := #[.slice A n3 c, .slice A' n3 c']) ?_ ?_
    · clear hT hd hb hrA hrB
      simp only [execOp, resolve]
      go_simp
    · refine (sameGraph_any A A' n3 c c' (gOf (devsG s)) w1 HS3.out.1 HS3.out.2 hrA hrB).mono ?_
      rintro en w2 ⟨he, hb2⟩
      exact ⟨_, he, hb2, rfl⟩
  case s25 =>
    refine step_plain rfl fun T w1 hT hb hd => ?_
    have ec := evT_const T
    have ef := evT_func T
    have d43 : evT T (.tmp 43) = .bool true := (by first | exact hd.1 | exact hd.2.1 | exact hd.2.2.1 | exact hd.2.2.2.1 | exact hd.2.2.2.2.1 | exact hd.2.2.2.2.2.1 | exact hd.2.2.2.2.2.2.1 | exact hd.2.2.2.2.2.2.2.1 | exact hd.2.2.2.2.2.2.2.2.1 | exact hd.2.2.2.2.2.2.2.2.2.1 | exact hd.2.2.2.2.2.2.2.2.2.2.1 | exact hd.2.2.2.2.2.2.2.2.2.2.2.1)
    have d48 : evT T (.tmp 48) = .bool true := (by first | exact hd.1 | exact hd.2.1 | exact hd.2.2.1 | exact hd.2.2.2.1 | exact hd.2.2.2.2.1 | exact hd.2.2.2.2.2.1 | exact hd.2.2.2.2.2.2.1 | exact hd.2.2.2.2.2.2.2.1 | exact hd.2.2.2.2.2.2.2.2.1 | exact hd.2.2.2.2.2.2.2.2.2.1 | exact hd.2.2.2.2.2.2.2.2.2.2.1 | exact hd.2.2.2.2.2.2.2.2.2.2.2.1)
    clear hT hd hb
    refine gives_value (v := .bool true) ?_ rfl
    simp only [execOp]
    go_simp
  case s26 =>
    refine step_plain rfl fun T w1 hT hb hd => ?_
    have ec := evT_const T
    have ef := evT_func T
    have d49 : evT T (.tmp 49) = .bool true := (by first | exact hd.1 | exact hd.2.1 | exact hd.2.2.1 | exact hd.2.2.2.1 | exact hd.2.2.2.2.1 | exact hd.2.2.2.2.2.1 | exact hd.2.2.2.2.2.2.1 | exact hd.2.2.2.2.2.2.2.1 | exact hd.2.2.2.2.2.2.2.2.1 | exact hd.2.2.2.2.2.2.2.2.2.1 | exact hd.2.2.2.2.2.2.2.2.2.2.1 | exact hd.2.2.2.2.2.2.2.2.2.2.2.1)
    clear hT hd hb
    refine gives_value (v := .bool true) ?_ rfl
    simp only [execOp]
    go_simp
  case s27 =>
    refine step_on 26 50 true rfl rfl fun T w1 hT hb hd => ⟨(by first | exact hd.1 | exact hd.2.1 | exact hd.2.2.1 | exact hd.2.2.2.1 | exact hd.2.2.2.2.1 | exact hd.2.2.2.2.2.1 | exact hd.2.2.2.2.2.2.1 | exact hd.2.2.2.2.2.2.2.1 | exact hd.2.2.2.2.2.2.2.2.1 | exact hd.2.2.2.2.2.2.2.2.2.1 | exact hd.2.2.2.2.2.2.2.2.2.2.1 | exact hd.2.2.2.2.2.2.2.2.2.2.2.1), ?_⟩
    have ec := evT_const T
    have ef := evT_func T
    have d2 : evT T (.tmp 2) = .pointer (some ⟨gs, 0, none⟩) := hT 2 (by kernel_rfl)
    obtain ⟨hA, -, -, -⟩ := HC.out w1 hb
    obtain ⟨f0, -⟩ := hA 0 _ rfl
    obtain ⟨f1, -⟩ := hA 1 _ rfl
    obtain ⟨f2, -⟩ := hA 2 _ rfl
    obtain ⟨f3, -⟩ := hA 3 _ rfl
    clear hA
    clear hT hd hb
    refine gives_value (v := .agg #[a1, a2, a3, a4]) ?_ rfl
    simp only [execOp]
    go_simp
  case s28 =>
    refine step_on 26 50 true rfl rfl fun T w1 hT hb hd => ⟨(by first | exact hd.1 | exact hd.2.1 | exact hd.2.2.1 | exact hd.2.2.2.1 | exact hd.2.2.2.2.1 | exact hd.2.2.2.2.2.1 | exact hd.2.2.2.2.2.2.1 | exact hd.2.2.2.2.2.2.2.1 | exact hd.2.2.2.2.2.2.2.2.1 | exact hd.2.2.2.2.2.2.2.2.2.1 | exact hd.2.2.2.2.2.2.2.2.2.2.1 | exact hd.2.2.2.2.2.2.2.2.2.2.2.1), ?_⟩
    have ec := evT_const T
    have ef := evT_func T
    have d3 : evT T (.tmp 3) = .pointer (some ⟨gt, 0, none⟩) := hT 3 (by kernel_rfl)
    obtain ⟨-, hA, -, -⟩ := HC.out w1 hb
    obtain ⟨f0, -⟩ := hA 0 _ rfl
    obtain ⟨f1, -⟩ := hA 1 _ rfl
    obtain ⟨f2, -⟩ := hA 2 _ rfl
    obtain ⟨f3, -⟩ := hA 3 _ rfl
    clear hA
    clear hT hd hb
    refine gives_value (v := .agg #[b1, b2, b3, b4]) ?_ rfl
    simp only [execOp]
    go_simp
  case s29 =>
    refine step_on 26 50 true rfl rfl fun T w1 hT hb hd => ⟨(by first | exact hd.1 | exact hd.2.1 | exact hd.2.2.1 | exact hd.2.2.2.1 | exact hd.2.2.2.2.1 | exact hd.2.2.2.2.2.1 | exact hd.2.2.2.2.2.2.1 | exact hd.2.2.2.2.2.2.2.1 | exact hd.2.2.2.2.2.2.2.2.1 | exact hd.2.2.2.2.2.2.2.2.2.1 | exact hd.2.2.2.2.2.2.2.2.2.2.1 | exact hd.2.2.2.2.2.2.2.2.2.2.2.1), ?_⟩
    have ec := evT_const T
    have ef := evT_func T
    have d51 : evT T (.tmp 51) = .agg #[a1, a2, a3, a4] := (by first | exact hd.1 | exact hd.2.1 | exact hd.2.2.1 | exact hd.2.2.2.1 | exact hd.2.2.2.2.1 | exact hd.2.2.2.2.2.1 | exact hd.2.2.2.2.2.2.1 | exact hd.2.2.2.2.2.2.2.1 | exact hd.2.2.2.2.2.2.2.2.1 | exact hd.2.2.2.2.2.2.2.2.2.1 | exact hd.2.2.2.2.2.2.2.2.2.2.1 | exact hd.2.2.2.2.2.2.2.2.2.2.2.1)
    have d52 : evT T (.tmp 52) = .agg #[b1, b2, b3, b4] := (by first | exact hd.1 | exact hd.2.1 | exact hd.2.2.1 | exact hd.2.2.2.1 | exact hd.2.2.2.2.1 | exact hd.2.2.2.2.2.1 | exact hd.2.2.2.2.2.2.1 | exact hd.2.2.2.2.2.2.2.1 | exact hd.2.2.2.2.2.2.2.2.1 | exact hd.2.2.2.2.2.2.2.2.2.1 | exact hd.2.2.2.2.2.2.2.2.2.2.1 | exact hd.2.2.2.2.2.2.2.2.2.2.2.1)
    refine gives_call (f := 21) (args := #[.agg #[a1, a2, a3, a4], .agg #[b1, b2, b3, b4]]) ?_ ?_
    · clear hT hd hb
      simp only [execOp, resolve]
      go_simp
    · refine (chip_same s t [a1, a2, a3, a4] [b1, b2, b3, b4] w1 HOK.out HOK'.out (HC.out w1 hb).2.2.1 (HC.out w1 hb).2.2.2).mono ?_
      rintro en w2 ⟨he, hb2⟩
      exact ⟨_, he, hb2, by rw [HEQ.out]; rfl⟩
  case s30 =>
    refine step_on 26 50 true rfl rfl fun T w1 hT hb hd => ⟨(by first | exact hd.1 | exact hd.2.1 | exact hd.2.2.1 | exact hd.2.2.2.1 | exact hd.2.2.2.2.1 | exact hd.2.2.2.2.2.1 | exact hd.2.2.2.2.2.2.1 | exact hd.2.2.2.2.2.2.2.1 | exact hd.2.2.2.2.2.2.2.2.1 | exact hd.2.2.2.2.2.2.2.2.2.1 | exact hd.2.2.2.2.2.2.2.2.2.2.1 | exact hd.2.2.2.2.2.2.2.2.2.2.2.1), ?_⟩
    have ec := evT_const T
    have ef := evT_func T
    have d2 : evT T (.tmp 2) = .pointer (some ⟨gs, 0, none⟩) := hT 2 (by kernel_rfl)
    obtain ⟨hA, -, -, -⟩ := HC.out w1 hb
    obtain ⟨f0, -⟩ := hA 0 _ rfl
    obtain ⟨f1, -⟩ := hA 1 _ rfl
    obtain ⟨f2, -⟩ := hA 2 _ rfl
    obtain ⟨f3, -⟩ := hA 3 _ rfl
    clear hA
    clear hT hd hb
    refine gives_value (v := .agg #[a1, a2, a3, a4]) ?_ rfl
    simp only [execOp]
    go_simp
  case s31 =>
    refine step_on 26 50 true rfl rfl fun T w1 hT hb hd => ⟨(by first | exact hd.1 | exact hd.2.1 | exact hd.2.2.1 | exact hd.2.2.2.1 | exact hd.2.2.2.2.1 | exact hd.2.2.2.2.2.1 | exact hd.2.2.2.2.2.2.1 | exact hd.2.2.2.2.2.2.2.1 | exact hd.2.2.2.2.2.2.2.2.1 | exact hd.2.2.2.2.2.2.2.2.2.1 | exact hd.2.2.2.2.2.2.2.2.2.2.1 | exact hd.2.2.2.2.2.2.2.2.2.2.2.1), ?_⟩
    have ec := evT_const T
    have ef := evT_func T
    have d3 : evT T (.tmp 3) = .pointer (some ⟨gt, 0, none⟩) := hT 3 (by kernel_rfl)
    obtain ⟨-, hA, -, -⟩ := HC.out w1 hb
    obtain ⟨f0, -⟩ := hA 0 _ rfl
    obtain ⟨f1, -⟩ := hA 1 _ rfl
    obtain ⟨f2, -⟩ := hA 2 _ rfl
    obtain ⟨f3, -⟩ := hA 3 _ rfl
    clear hA
    clear hT hd hb
    refine gives_value (v := .agg #[b1, b2, b3, b4]) ?_ rfl
    simp only [execOp]
    go_simp
  case s32 =>
    refine step_on 26 50 true rfl rfl fun T w1 hT hb hd => ⟨(by first | exact hd.1 | exact hd.2.1 | exact hd.2.2.1 | exact hd.2.2.2.1 | exact hd.2.2.2.2.1 | exact hd.2.2.2.2.2.1 | exact hd.2.2.2.2.2.2.1 | exact hd.2.2.2.2.2.2.2.1 | exact hd.2.2.2.2.2.2.2.2.1 | exact hd.2.2.2.2.2.2.2.2.2.1 | exact hd.2.2.2.2.2.2.2.2.2.2.1 | exact hd.2.2.2.2.2.2.2.2.2.2.2.1), ?_⟩
    have ec := evT_const T
    have ef := evT_func T
    have d54 : evT T (.tmp 54) = .agg #[a1, a2, a3, a4] := (by first | exact hd.1 | exact hd.2.1 | exact hd.2.2.1 | exact hd.2.2.2.1 | exact hd.2.2.2.2.1 | exact hd.2.2.2.2.2.1 | exact hd.2.2.2.2.2.2.1 | exact hd.2.2.2.2.2.2.2.1 | exact hd.2.2.2.2.2.2.2.2.1 | exact hd.2.2.2.2.2.2.2.2.2.1 | exact hd.2.2.2.2.2.2.2.2.2.2.1 | exact hd.2.2.2.2.2.2.2.2.2.2.2.1)
    have d55 : evT T (.tmp 55) = .agg #[b1, b2, b3, b4] := (by first | exact hd.1 | exact hd.2.1 | exact hd.2.2.1 | exact hd.2.2.2.1 | exact hd.2.2.2.2.1 | exact hd.2.2.2.2.2.1 | exact hd.2.2.2.2.2.2.1 | exact hd.2.2.2.2.2.2.2.1 | exact hd.2.2.2.2.2.2.2.2.1 | exact hd.2.2.2.2.2.2.2.2.2.1 | exact hd.2.2.2.2.2.2.2.2.2.2.1 | exact hd.2.2.2.2.2.2.2.2.2.2.2.1)
    refine gives_call (f := 22) (args := #[.agg #[a1, a2, a3, a4], .agg #[b1, b2, b3, b4]]) ?_ ?_
    · clear hT hd hb
      simp only [execOp, resolve]
      go_simp
    · refine (rsame_any s t [a1, a2, a3, a4] [b1, b2, b3, b4] w1 HOK.out HOK'.out (HC.out w1 hb).2.2.1 (HC.out w1 hb).2.2.2).mono ?_
      rintro en w2 ⟨he, hb2⟩
      exact ⟨_, he, hb2, by rw [HEQ.out]; rfl⟩
  case s33 =>
    refine step_on 26 50 true rfl rfl fun T w1 hT hb hd => ⟨(by first | exact hd.1 | exact hd.2.1 | exact hd.2.2.1 | exact hd.2.2.2.1 | exact hd.2.2.2.2.1 | exact hd.2.2.2.2.2.1 | exact hd.2.2.2.2.2.2.1 | exact hd.2.2.2.2.2.2.2.1 | exact hd.2.2.2.2.2.2.2.2.1 | exact hd.2.2.2.2.2.2.2.2.2.1 | exact hd.2.2.2.2.2.2.2.2.2.2.1 | exact hd.2.2.2.2.2.2.2.2.2.2.2.1), ?_⟩
    have ec := evT_const T
    have ef := evT_func T
    have d53 : evT T (.tmp 53) = .bool b := (by first | exact hd.1 | exact hd.2.1 | exact hd.2.2.1 | exact hd.2.2.2.1 | exact hd.2.2.2.2.1 | exact hd.2.2.2.2.2.1 | exact hd.2.2.2.2.2.2.1 | exact hd.2.2.2.2.2.2.2.1 | exact hd.2.2.2.2.2.2.2.2.1 | exact hd.2.2.2.2.2.2.2.2.2.1 | exact hd.2.2.2.2.2.2.2.2.2.2.1 | exact hd.2.2.2.2.2.2.2.2.2.2.2.1)
    have d56 : evT T (.tmp 56) = .bool b := (by first | exact hd.1 | exact hd.2.1 | exact hd.2.2.1 | exact hd.2.2.2.1 | exact hd.2.2.2.2.1 | exact hd.2.2.2.2.2.1 | exact hd.2.2.2.2.2.2.1 | exact hd.2.2.2.2.2.2.2.1 | exact hd.2.2.2.2.2.2.2.2.1 | exact hd.2.2.2.2.2.2.2.2.2.1 | exact hd.2.2.2.2.2.2.2.2.2.2.1 | exact hd.2.2.2.2.2.2.2.2.2.2.2.1)
    clear hT hd hb
    refine gives_value (v := .bool true) ?_ rfl
    simp only [execOp]
    go_simp
  case s34 =>
    refine step_plain rfl fun T w1 hT hb hd => ?_
    have ec := evT_const T
    have ef := evT_func T
    have d50 : evT T (.tmp 50) = .bool true := (by first | exact hd.1 | exact hd.2.1 | exact hd.2.2.1 | exact hd.2.2.2.1 | exact hd.2.2.2.2.1 | exact hd.2.2.2.2.2.1 | exact hd.2.2.2.2.2.2.1 | exact hd.2.2.2.2.2.2.2.1 | exact hd.2.2.2.2.2.2.2.2.1 | exact hd.2.2.2.2.2.2.2.2.2.1 | exact hd.2.2.2.2.2.2.2.2.2.2.1 | exact hd.2.2.2.2.2.2.2.2.2.2.2.1)
    have d57 : evT T (.tmp 57) = .bool true := (by first | exact hd.1 | exact hd.2.1 | exact hd.2.2.1 | exact hd.2.2.2.1 | exact hd.2.2.2.2.1 | exact hd.2.2.2.2.2.1 | exact hd.2.2.2.2.2.2.1 | exact hd.2.2.2.2.2.2.2.1 | exact hd.2.2.2.2.2.2.2.2.1 | exact hd.2.2.2.2.2.2.2.2.2.1 | exact hd.2.2.2.2.2.2.2.2.2.2.1 | exact hd.2.2.2.2.2.2.2.2.2.2.2.1)
    clear hT hd hb
    refine gives_value (v := .bool true) ?_ rfl
    simp only [execOp]
    go_simp
  case s35 =>
    refine step_plain rfl fun T w1 hT hb hd => ?_
    have ec := evT_const T
    have ef := evT_func T
    have d58 : evT T (.tmp 58) = .bool true := (by first | exact hd.1 | exact hd.2.1 | exact hd.2.2.1 | exact hd.2.2.2.1 | exact hd.2.2.2.2.1 | exact hd.2.2.2.2.2.1 | exact hd.2.2.2.2.2.2.1 | exact hd.2.2.2.2.2.2.2.1 | exact hd.2.2.2.2.2.2.2.2.1 | exact hd.2.2.2.2.2.2.2.2.2.1 | exact hd.2.2.2.2.2.2.2.2.2.2.1 | exact hd.2.2.2.2.2.2.2.2.2.2.2.1)
    clear hT hd hb
    refine gives_value (v := .bool true) ?_ rfl
    simp only [execOp]
    go_simp
  case s36 =>
    refine step_on 35 59 true rfl rfl fun T w1 hT hb hd => ⟨(by first | exact hd.1 | exact hd.2.1 | exact hd.2.2.1 | exact hd.2.2.2.1 | exact hd.2.2.2.2.1 | exact hd.2.2.2.2.2.1 | exact hd.2.2.2.2.2.2.1 | exact hd.2.2.2.2.2.2.2.1 | exact hd.2.2.2.2.2.2.2.2.1 | exact hd.2.2.2.2.2.2.2.2.2.1 | exact hd.2.2.2.2.2.2.2.2.2.2.1 | exact hd.2.2.2.2.2.2.2.2.2.2.2.1), ?_⟩
    have ec := evT_const T
    have ef := evT_func T
    have d2 : evT T (.tmp 2) = .pointer (some ⟨gs, 0, none⟩) := hT 2 (by kernel_rfl)
    obtain ⟨hA, -, -, -⟩ := HC.out w1 hb
    obtain ⟨f0, -⟩ := hA 0 _ rfl
    obtain ⟨f1, -⟩ := hA 1 _ rfl
    obtain ⟨f2, -⟩ := hA 2 _ rfl
    obtain ⟨f3, -⟩ := hA 3 _ rfl
    clear hA
    clear hT hd hb
    refine gives_value (v := .agg #[a1, a2, a3, a4]) ?_ rfl
    simp only [execOp]
    go_simp
  case s37 =>
    refine step_on 35 59 true rfl rfl fun T w1 hT hb hd => ⟨(by first | exact hd.1 | exact hd.2.1 | exact hd.2.2.1 | exact hd.2.2.2.1 | exact hd.2.2.2.2.1 | exact hd.2.2.2.2.2.1 | exact hd.2.2.2.2.2.2.1 | exact hd.2.2.2.2.2.2.2.1 | exact hd.2.2.2.2.2.2.2.2.1 | exact hd.2.2.2.2.2.2.2.2.2.1 | exact hd.2.2.2.2.2.2.2.2.2.2.1 | exact hd.2.2.2.2.2.2.2.2.2.2.2.1), ?_⟩
    have ec := evT_const T
    have ef := evT_func T
    have d60 : evT T (.tmp 60) = .agg #[a1, a2, a3, a4] := (by first | exact hd.1 | exact hd.2.1 | exact hd.2.2.1 | exact hd.2.2.2.1 | exact hd.2.2.2.2.1 | exact hd.2.2.2.2.2.1 | exact hd.2.2.2.2.2.2.1 | exact hd.2.2.2.2.2.2.2.1 | exact hd.2.2.2.2.2.2.2.2.1 | exact hd.2.2.2.2.2.2.2.2.2.1 | exact hd.2.2.2.2.2.2.2.2.2.2.1 | exact hd.2.2.2.2.2.2.2.2.2.2.2.1)
    refine gives_call (f := 23) (args := #[.agg #[a1, a2, a3, a4]]) ?_ ?_
    · clear hT hd hb
      simp only [execOp, resolve]
      go_simp
    · refine (copy_any s [a1, a2, a3, a4] w1 HOK.out (HC.out w1 hb).2.2.1).mono ?_
      rintro en w2 ⟨x1, x2, x3, x4, he, ho, hb2⟩
      exact ⟨_, he, hb2, ⟨_, rfl, ho.chip⟩⟩
  case s38 =>
    refine step_on 35 59 true rfl rfl fun T w1 hT hb hd => ⟨(by first | exact hd.1 | exact hd.2.1 | exact hd.2.2.1 | exact hd.2.2.2.1 | exact hd.2.2.2.2.1 | exact hd.2.2.2.2.2.1 | exact hd.2.2.2.2.2.2.1 | exact hd.2.2.2.2.2.2.2.1 | exact hd.2.2.2.2.2.2.2.2.1 | exact hd.2.2.2.2.2.2.2.2.2.1 | exact hd.2.2.2.2.2.2.2.2.2.2.1 | exact hd.2.2.2.2.2.2.2.2.2.2.2.1), ?_⟩
    have ec := evT_const T
    have ef := evT_func T
    have d2 : evT T (.tmp 2) = .pointer (some ⟨gs, 0, none⟩) := hT 2 (by kernel_rfl)
    obtain ⟨hA, -, -, -⟩ := HC.out w1 hb
    obtain ⟨f0, -⟩ := hA 0 _ rfl
    obtain ⟨f1, -⟩ := hA 1 _ rfl
    obtain ⟨f2, -⟩ := hA 2 _ rfl
    obtain ⟨f3, -⟩ := hA 3 _ rfl
    clear hA
    clear hT hd hb
    refine gives_value (v := .agg #[a1, a2, a3, a4]) ?_ rfl
    simp only [execOp]
    go_simp
  case s39 =>
    refine step_on 35 59 true rfl rfl fun T w1 hT hb hd => ⟨(by first | exact hd.1 | exact hd.2.1 | exact hd.2.2.1 | exact hd.2.2.2.1 | exact hd.2.2.2.2.1 | exact hd.2.2.2.2.2.1 | exact hd.2.2.2.2.2.2.1 | exact hd.2.2.2.2.2.2.2.1 | exact hd.2.2.2.2.2.2.2.2.1 | exact hd.2.2.2.2.2.2.2.2.2.1 | exact hd.2.2.2.2.2.2.2.2.2.2.1 | exact hd.2.2.2.2.2.2.2.2.2.2.2.1), ?_⟩
    have ec := evT_const T
    have ef := evT_func T
    have d62 : evT T (.tmp 62) = .agg #[a1, a2, a3, a4] := (by first | exact hd.1 | exact hd.2.1 | exact hd.2.2.1 | exact hd.2.2.2.1 | exact hd.2.2.2.2.1 | exact hd.2.2.2.2.2.1 | exact hd.2.2.2.2.2.2.1 | exact hd.2.2.2.2.2.2.2.1 | exact hd.2.2.2.2.2.2.2.2.1 | exact hd.2.2.2.2.2.2.2.2.2.1 | exact hd.2.2.2.2.2.2.2.2.2.2.1 | exact hd.2.2.2.2.2.2.2.2.2.2.2.1)
    obtain ⟨vs, d61, hvs⟩ : IsChp s (evT T (.tmp 61)) w1 := (by first | exact hd.1 | exact hd.2.1 | exact hd.2.2.1 | exact hd.2.2.2.1 | exact hd.2.2.2.2.1 | exact hd.2.2.2.2.2.1 | exact hd.2.2.2.2.2.2.1 | exact hd.2.2.2.2.2.2.2.1 | exact hd.2.2.2.2.2.2.2.2.1 | exact hd.2.2.2.2.2.2.2.2.2.1 | exact hd.2.2.2.2.2.2.2.2.2.2.1 | exact hd.2.2.2.2.2.2.2.2.2.2.2.1)
    refine gives_call (f := 22) (args := #[.agg vs.toArray, .agg #[a1, a2, a3, a4]]) ?_ ?_
    · clear hT hd hb hvs
      simp only [execOp, resolve]
      go_simp
    · refine (rsame_any s s vs [a1, a2, a3, a4] w1 HOK.out HOK.out hvs (HC.out w1 hb).2.2.1).mono ?_
      rintro en w2 ⟨he, hb2⟩
      exact ⟨_, he, hb2, by rw [eqP_self]; rfl⟩
  case s40 =>
    refine step_plain rfl fun T w1 hT hb hd => ?_
    have ec := evT_const T
    have ef := evT_func T
    have d59 : evT T (.tmp 59) = .bool true := (by first | exact hd.1 | exact hd.2.1 | exact hd.2.2.1 | exact hd.2.2.2.1 | exact hd.2.2.2.2.1 | exact hd.2.2.2.2.2.1 | exact hd.2.2.2.2.2.2.1 | exact hd.2.2.2.2.2.2.2.1 | exact hd.2.2.2.2.2.2.2.2.1 | exact hd.2.2.2.2.2.2.2.2.2.1 | exact hd.2.2.2.2.2.2.2.2.2.2.1 | exact hd.2.2.2.2.2.2.2.2.2.2.2.1)
    have d63 : evT T (.tmp 63) = .bool true := (by first | exact hd.1 | exact hd.2.1 | exact hd.2.2.1 | exact hd.2.2.2.1 | exact hd.2.2.2.2.1 | exact hd.2.2.2.2.2.1 | exact hd.2.2.2.2.2.2.1 | exact hd.2.2.2.2.2.2.2.1 | exact hd.2.2.2.2.2.2.2.2.1 | exact hd.2.2.2.2.2.2.2.2.2.1 | exact hd.2.2.2.2.2.2.2.2.2.2.1 | exact hd.2.2.2.2.2.2.2.2.2.2.2.1)
    clear hT hd hb
    refine gives_value (v := .bool true) ?_ rfl
    simp only [execOp]
    go_simp
  case s41 =>
    refine step_plain rfl fun T w1 hT hb hd => ?_
    have ec := evT_const T
    have ef := evT_func T
    have d64 : evT T (.tmp 64) = .bool true := (by first | exact hd.1 | exact hd.2.1 | exact hd.2.2.1 | exact hd.2.2.2.1 | exact hd.2.2.2.2.1 | exact hd.2.2.2.2.2.1 | exact hd.2.2.2.2.2.2.1 | exact hd.2.2.2.2.2.2.2.1 | exact hd.2.2.2.2.2.2.2.2.1 | exact hd.2.2.2.2.2.2.2.2.2.1 | exact hd.2.2.2.2.2.2.2.2.2.2.1 | exact hd.2.2.2.2.2.2.2.2.2.2.2.1)
    clear hT hd hb
    refine gives_value (v := .bool true) ?_ rfl
    simp only [execOp]
    go_simp
  case fin =>
    intro T w1 hT hb hd
    have e : T 4 = .bool true := hd.2.2.2.2.2.2.2.2.2.2.2.2.2.2.2.2.2.2.2.2.2.2.2.2.2.2.2.2.2.2.2.2.2.2.2.2.2.2.2.2.2.1
    rw [lit65, e]
    clear hT hd e
    go_wp2
    go_ret
    exact ⟨rfl, HB.out.trans (hb.mono HB.out.size)⟩

theorem gOf_small {rows : List (List Int)} {n : Nat} (hn : rows.length = n) (h : ∀ r, r ∈ rows → r.length ≤ 1000000) : ∀ i, i < n → (gOf rows i).length ≤ 1000000 := fun i hi => by
  subst hn
  rw [gOf_row (List.getElem?_eq_getElem hi)]
  exact h _ (List.getElem_mem _)
set_option maxRecDepth 1000000 in
set_option maxHeartbeats 8000000 in
theorem tells_any (s t : Chip) (vs us : List Value) (w : World) (hs : ChipW s) (ht : ChipW t) (h : ChipV w w.heap.size s vs) (h' : ChipV w w.heap.size t us) : Calls Try.prog 3 #[.agg vs.toArray, .agg us.toArray] w (TellsB true w) := by
  have HCS := Lib.hid h
  have HCT := Lib.hid h'
  have HS := Lib.hid hs
  have HT := Lib.hid ht
  obtain ⟨A1, c1, A2, c2, A3, c3, A4, c4, rfl, -, -, -, -, -, -, -, -⟩ := h
  obtain ⟨B1, d1, B2, d2, B3, d3, B4, d4, rfl, -, -, -, -, -, -, -, -⟩ := h'
  have HZ := Lib.hid (Bz.start w (.cells #[.slice A1 s.clks.length c1, .slice A2 s.doms.length c2, .slice A3 s.rsts.length c3, .slice A4 s.devs.length c4] 27) (.cells #[.slice B1 t.clks.length d1, .slice B2 t.doms.length d2, .slice B3 t.rsts.length d3, .slice B4 t.devs.length d4] 27))
  clear hs ht
  go_enter Try.func3, Try.ntmps3
  go_wp2_with fail
  refine (shown_any _).mono ?_
  rintro e w1 ⟨rfl, hb⟩
  have hz1 := HZ.out.step hb
  have HZ1 := Lib.hid hz1
  have HS1 := Lib.hid (Steady.later HCS.out hz1.low)
  have x0 := hz1.box1 (vs := [.slice A1 s.clks.length c1, .slice A2 s.doms.length c2, .slice A3 s.rsts.length c3, .slice A4 s.devs.length c4]) 0 _ rfl
  have x1 := hz1.box1 (vs := [.slice A1 s.clks.length c1, .slice A2 s.doms.length c2, .slice A3 s.rsts.length c3, .slice A4 s.devs.length c4]) 1 _ rfl
  have x2 := hz1.box1 (vs := [.slice A1 s.clks.length c1, .slice A2 s.doms.length c2, .slice A3 s.rsts.length c3, .slice A4 s.devs.length c4]) 2 _ rfl
  have x3 := hz1.box1 (vs := [.slice A1 s.clks.length c1, .slice A2 s.doms.length c2, .slice A3 s.rsts.length c3, .slice A4 s.devs.length c4]) 3 _ rfl
  clear hb hz1 HZ
  go_wp2_with fail
  refine (few_any s _ w1 HS1.out).mono ?_
  rintro e w2 ⟨p, rfl, hp, hb⟩
  have HP := Lib.hid hp
  have hz2 := HZ1.out.step hb
  have HZ2 := Lib.hid hz2
  have HT2 := Lib.hid (Steady.later HCT.out hz2.low)
  have y0 := hz2.box2 (vs := [.slice B1 t.clks.length d1, .slice B2 t.doms.length d2, .slice B3 t.rsts.length d3, .slice B4 t.devs.length d4]) 0 _ rfl
  have y1 := hz2.box2 (vs := [.slice B1 t.clks.length d1, .slice B2 t.doms.length d2, .slice B3 t.rsts.length d3, .slice B4 t.devs.length d4]) 1 _ rfl
  have y2 := hz2.box2 (vs := [.slice B1 t.clks.length d1, .slice B2 t.doms.length d2, .slice B3 t.rsts.length d3, .slice B4 t.devs.length d4]) 2 _ rfl
  have y3 := hz2.box2 (vs := [.slice B1 t.clks.length d1, .slice B2 t.doms.length d2, .slice B3 t.rsts.length d3, .slice B4 t.devs.length d4]) 3 _ rfl
  clear hb hz2 HZ1 hp x0 x1 x2 x3 HS1
  go_wp2_with fail
  refine (few_any t _ w2 HT2.out).mono ?_
  rintro e w3 ⟨q, rfl, hq, hb⟩
  have HQ := Lib.hid hq
  have HZ3 := Lib.hid (HZ2.out.step hb)
  clear hb hq HZ2 HT2 y0 y1 y2 y3
  cases p with
  | false =>
    go_wp2
    go_ret
    exact ⟨rfl, HZ3.out.low⟩
  | true =>
    cases q with
    | false =>
      go_wp2
      go_ret
      exact ⟨rfl, HZ3.out.low⟩
    | true =>
      have hok := (HP.out rfl).ok HS.out
      have hok' := (HQ.out rfl).ok HT.out
      have HOK := Lib.hid hok
      have HOK' := Lib.hid hok'
      clear hok hok' HP HQ
      go_upto_region 4 with fail
      rename_i K hK K4 hK4
      have HK := Lib.hid hK
      clear hK
      go_wp2
      refine HK.out _ _ ?_
      have hm3 : Moved [] ((w.alloc (.cells #[.slice A1 s.clks.length c1, .slice A2 s.doms.length c2, .slice A3 s.rsts.length c3, .slice A4 s.devs.length c4] 27)).alloc (.cells #[.slice B1 t.clks.length d1, .slice B2 t.doms.length d2, .slice B3 t.rsts.length d3, .slice B4 t.devs.length d4] 27)) w3 := ⟨Below.os HZ3.out, Below.tape HZ3.out, Below.output HZ3.out, Below.size HZ3.out, fun k hk _ => Below.block HZ3.out k (by simpa using hk)⟩
      refine tells_end w w3 w.heap.size (w.heap.size + 1) s t _ _ _ _ _ _ _ _ _ _ _ _ _ HOK.out HOK'.out rfl rfl rfl rfl rfl ⟨by simp [clksG]; exact HOK.out.n1, gOf_small rfl (fun r hr => ?_)⟩ ⟨by simp [domsG]; exact HOK.out.n2, gOf_small rfl (fun r hr => ?_)⟩ ⟨by simp [devsG]; exact HOK.out.n4, gOf_small rfl (fun r hr => ?_)⟩ (BoxAt.move ?_ hm3 (by simp)) (BoxAt.move ?_ hm3 (by simp)) (Steady.later HCS.out HZ3.out.low) (Steady.later HCT.out HZ3.out.low) HZ3.out.low _ ⟨rfl, rfl⟩ rfl rfl
      · obtain ⟨c, hc, rfl⟩ := List.mem_map.1 hr
        have := (HOK.out.clks c hc).1
        omega
      · obtain ⟨c, hc, rfl⟩ := List.mem_map.1 hr
        split <;> simp
      · obtain ⟨c, hc, rfl⟩ := List.mem_map.1 hr
        have := (HOK.out.devs c hc).2.1
        omega
      · exact (BoxAt.new w [.slice A1 s.clks.length c1, .slice A2 s.doms.length c2, .slice A3 s.rsts.length c3, .slice A4 s.devs.length c4] 27).move (Moved.alloc _ _ : Moved [] _ _) (by simp)
      · have := BoxAt.new (w.alloc (.cells #[.slice A1 s.clks.length c1, .slice A2 s.doms.length c2, .slice A3 s.rsts.length c3, .slice A4 s.devs.length c4] 27)) [.slice B1 t.clks.length d1, .slice B2 t.doms.length d2, .slice B3 t.rsts.length d3, .slice B4 t.devs.length d4] 27
        simp only [World.size_alloc] at this
        exact this
theorem tells_arg (s t : Chip) (vs us : List Value) (w : World) (hs : ChipW s) (ht : ChipW t) (h : ChipV w w.heap.size s vs) (h' : ChipV w w.heap.size t us) : Calls Try.prog 3 #[.agg vs.toArray, .agg us.toArray] w fun e w' => e = .returned (.bool true) ∧ Below w.heap.size w w' := tells_any s t vs us w hs ht h h'
end

end Go.Proofs.Ytkhfcbcanbplgaa
