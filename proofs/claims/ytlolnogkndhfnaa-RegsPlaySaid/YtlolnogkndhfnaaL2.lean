/- The walk of catnaplaw9.RegsClears. -/
import Derived.Test.YtlolnogkndhfnaaL1
import Derived.Test.YtlolnogkndhfnaaRS
namespace Go.Proofs.Ytlolnogkndhfnaa
set_option linter.unusedSimpArgs false
set_option linter.unusedVariables false
open Go.RowKit Go.Maps

/-- two files beside one another -/
structure Two (w3 wr : World) (Q : List Nat) (b gn b2 gn2 : Nat) (rs : List Rgs) (s t : St) : Prop where
  f : Fw w3 wr Q b gn rs s.now s.back
  g : Fw w3 wr Q b2 gn2 rs t.now t.back
  n1 : b ∉ [b2, gn2]
  n2 : gn ∉ [b2, gn2]
  n3 : b2 ∉ [b, gn]
  n4 : gn2 ∉ [b, gn]
namespace Two
variable {w3 wr w' : World} {Q : List Nat} {b gn b2 gn2 : Nat} {rs : List Rgs} {s t : St}
theorem calm (h : Two w3 wr Q b gn b2 gn2 rs s t) (hm : Moved [] wr w') : Two w3 w' Q b gn b2 gn2 rs s t := ⟨h.f.calm hm, h.g.calm hm, h.n1, h.n2, h.n3, h.n4⟩
theorem doF (h : Two w3 wr Q b gn b2 gn2 rs s t) {x : Acts} (hx : ActW x) : Calls Try.prog 25 #[.pointer (some ⟨b, 0, none⟩), .agg #[.int .i64 x.op, .int .i64 x.i, .int .u32 x.v], .int .i64 (rs.length : Int)] wr fun e w' => e = .returned (.int .i64 (actE rs x)) ∧ Two w3 w' Q b gn b2 gn2 rs (actT rs s x) t :=
  (does_any w3 wr Q b gn rs s x hx h.f).mono fun e w' ⟨he, hf, hm⟩ => ⟨he, hf, h.g.far hm h.f.file.hot h.n3 h.n4 (by have := h.f.lo; simpa using this), h.n1, h.n2, h.n3, h.n4⟩
theorem doG (h : Two w3 wr Q b gn b2 gn2 rs s t) {x : Acts} (hx : ActW x) : Calls Try.prog 25 #[.pointer (some ⟨b2, 0, none⟩), .agg #[.int .i64 x.op, .int .i64 x.i, .int .u32 x.v], .int .i64 (rs.length : Int)] wr fun e w' => e = .returned (.int .i64 (actE rs x)) ∧ Two w3 w' Q b gn b2 gn2 rs s (actT rs t x) :=
  (does_any w3 wr Q b2 gn2 rs t x hx h.g).mono fun e w' ⟨he, hf, hm⟩ => ⟨he, h.f.far hm h.g.file.hot h.n1 h.n2 (by have := h.g.lo; simpa using this), hf, h.n1, h.n2, h.n3, h.n4⟩
theorem clearF (h : Two w3 wr Q b gn b2 gn2 rs s t) : Calls Try.prog 19 #[.pointer (some ⟨b, 0, none⟩)] wr fun e w' => e = .returned (.tuple #[]) ∧ Two w3 w' Q b gn b2 gn2 rs ⟨resets rs, resets rs⟩ t :=
  h.f.clear.mono fun e w' ⟨he, hf, hm⟩ => ⟨he, hf, h.g.far hm h.f.file.hot h.n3 h.n4 (by have := h.f.lo; simpa using this), h.n1, h.n2, h.n3, h.n4⟩
end Two

def stL (l : List St) (i : Nat) : St := l.getD i ⟨[], []⟩
/-- an act that came in, in memory -/
theorem Fw.act {w3 wr : World} {Q : List Nat} {b gn : Nat} {rs : List Rgs} {now back : List Int} {A : Option Addr} {acts : List Acts} {k : Nat} {x : Acts} (h : Fw w3 wr Q b gn rs now back) (hV : StrsAt ActV 3 w3 w3.heap.size A acts) (hk : acts[k]? = some x) :
    ∃ ad, A = some ad ∧ wr.cell? (ad.add (k * 3)) = some (.int .i64 x.op) ∧ wr.cell? ⟨(ad.add (k * 3)).block, (ad.add (k * 3)).off + 1, none⟩ = some (.int .i64 x.i) ∧ wr.cell? ⟨(ad.add (k * 3)).block, (ad.add (k * 3)).off + 2, none⟩ = some (.int .u32 x.v) := by
  obtain ⟨ad, hA, hag⟩ := h.strs hV hk
  exact ⟨ad, hA, hag.zero, hag.at_ 0 rfl, hag.at_ 1 rfl⟩

set_option maxRecDepth 1000000 in
set_option maxHeartbeats 16000000 in
theorem clears_any (A0 A1 A2 : Option Addr) (c0 c1 c2 : Nat) (rs : List Rgs) (as1 ts1 : List Acts) (w : World) (l0 : rs.length ≤ maxLen) (l1 : as1.length ≤ maxLen) (l2 : ts1.length ≤ maxLen)
    (h0 : StrsAt RgsV 2 w w.heap.size A0 rs) (h1 : StrsAt ActV 3 w w.heap.size A1 as1) (h2 : StrsAt ActV 3 w w.heap.size A2 ts1) (k1 : ∀ x, x ∈ as1 → ActW x) (k2 : ∀ x, x ∈ ts1 → ActW x) :
    Calls Try.prog 8 #[.slice A0 rs.length c0, .slice A1 as1.length c1, .slice A2 ts1.length c2] w (TellsB true w) := by
  unfold maxLen at l0 l1 l2
  have H0 := Lib.hid h0
  have H1 := Lib.hid h1
  have H2 := Lib.hid h2
  have K1 := Lib.hid k1
  have K2 := Lib.hid k2
  by_cases hbig : 8 < rs.length ∨ (¬ 8 < rs.length ∧ (100 < as1.length ∨ (¬ 100 < as1.length ∧ 100 < ts1.length)))
  · clear h0 h1 h2 k1 k2
    rcases hbig with h8 | ⟨h8, h9 | ⟨h9, h10⟩⟩
    · have i8 : (8 : Int) < (rs.length : Int) := by omega
      go_enter Try.func8, Try.ntmps8
      go_wp2_with fail
      refine (shown_any _).mono ?_
      rintro e w1 ⟨rfl, hb1⟩
      have HB1 := Lib.hid hb1
      clear hb1
      go_wp2
      go_ret
      exact ⟨rfl, HB1.out⟩
    · have i8 : ¬ ((8 : Int) < (rs.length : Int)) := by omega
      have i9 : (100 : Int) < (as1.length : Int) := by omega
      go_enter Try.func8, Try.ntmps8
      go_wp2_with fail
      refine (shown_any _).mono ?_
      rintro e w1 ⟨rfl, hb1⟩
      have HB1 := Lib.hid hb1
      clear hb1
      go_wp2
      go_ret
      exact ⟨rfl, HB1.out⟩
    · have i8 : ¬ ((8 : Int) < (rs.length : Int)) := by omega
      have i9 : ¬ ((100 : Int) < (as1.length : Int)) := by omega
      have i10 : (100 : Int) < (ts1.length : Int) := by omega
      go_enter Try.func8, Try.ntmps8
      go_wp2_with fail
      refine (shown_any _).mono ?_
      rintro e w1 ⟨rfl, hb1⟩
      have HB1 := Lib.hid hb1
      clear hb1
      go_wp2
      go_ret
      exact ⟨rfl, HB1.out⟩
  · have i8 : ¬ ((8 : Int) < (rs.length : Int)) := by omega
    have i9 : ¬ ((100 : Int) < (as1.length : Int)) := by omega
    have i10 : ¬ ((100 : Int) < (ts1.length : Int)) := by omega
    have hn8 : rs.length ≤ 8 := by omega
    obtain ⟨n1, hn1⟩ : ∃ n1, n1 = as1.length := ⟨_, rfl⟩
    obtain ⟨n2, hn2⟩ : ∃ n2, n2 = ts1.length := ⟨_, rfl⟩
    rw [← hn1] at i9 l1 ⊢
    rw [← hn2] at i10 l2 ⊢
    have HN1 := Lib.hid hn1
    have HN2 := Lib.hid hn2
    clear h0 h1 h2 k1 k2 hbig hn1 hn2
    go_enter Try.func8, Try.ntmps8
    go_wp2_with fail
    refine (shown_any _).mono ?_
    rintro e w1 ⟨rfl, hb1⟩
    have HB1 := Lib.hid hb1
    clear hb1
    go_wp2_with fail
    refine (new_fw [] A0 c0 rs w w1 hn8 (by simp) H0.out HB1.out).mono ?_
    rintro e w2 ⟨b, gn, rfl, hf, -, -, -⟩
    have HF := Lib.hid hf
    clear hf
    go_wp2_with fail
    refine (new_fw [b, gn] A0 c0 rs w w2 hn8 HF.out.file.hQ H0.out HF.out.bel).mono ?_
    rintro e w3 ⟨b2, gn2, rfl, hg, hb3, hl1, hl2⟩
    have hlt := HF.out.file.lt
    have hglt := hg.file.lt
    have HT : RowKit.Hid (Two w w3 [b2, gn2, b, gn] b gn b2 gn2 rs ⟨resets rs, resets rs⟩ ⟨resets rs, resets rs⟩) := Lib.hid
      ⟨HF.out.more (Q' := [b2, gn2]) (Moved.of_below hb3) (by simp; omega), hg, by simp; omega, by simp; omega, by simp; omega, by simp; omega⟩
    clear hg hb3 hl1 hl2 hlt hglt HF HB1
    go_wp2
    go_loopw [12] (fun i wr => ∃ k : Nat, k ≤ n1 ∧ i = .int .i64 k ∧ RowKit.Hid (∃ s, Two w wr [b2, gn2, b, gn] b gn b2 gn2 rs s ⟨resets rs, resets rs⟩)) (fun i _ => n1 - (intOf i).toNat)
    case atStart => exact ⟨0, Nat.zero_le _, rfl, Lib.hid ⟨_, HT.out⟩⟩
    case round =>
      clear HT
      obtain ⟨k, hk, rfl, HR⟩ := hrel
      obtain ⟨s, hs⟩ := HR.out
      have HS := Lib.hid hs
      clear HR hs
      by_cases hlt : k < n1
      · have hx := List.getElem?_eq_getElem (l := as1) (i := k) (by rw [← HN1.out]; exact hlt)
        have hxw := K1.out _ (List.mem_of_getElem? hx)
        generalize as1[k]'(by rw [← HN1.out]; exact hlt) = x at hx hxw
        obtain ⟨ad, hA, a0, a1, a2⟩ := HS.out.f.act H1.out hx
        have HD := Lib.hid (HS.out.doF hxw)
        have i0 : (0 : Int) ≤ (k : Int) := by omega
        have i1 : (k : Int) < (n1 : Int) := by omega
        obtain ⟨op, i, v⟩ := x
        subst hA
        clear hx hxw
        go_wp2_with fail
        refine (HD.out).mono ?_
        rintro e w5 ⟨rfl, hT⟩
        have HT := Lib.hid hT
        clear hT
        go_wp2
        go_roundw
        case rel => exact ⟨k + 1, hlt, by go_num, Lib.hid ⟨_, HT.out⟩⟩
        case measure => simp [intOf]; omega
      · have i1 : ¬ ((k : Int) < (n1 : Int)) := by omega
        go_wp2_with fail
        refine (HS.out.clearF).mono ?_
        rintro e w5 ⟨rfl, hT⟩
        have HT := Lib.hid hT
        clear hT
        go_wp2
        go_loopw [13] (fun i wr => ∃ q : Nat, q ≤ n2 ∧ i = .int .i64 q ∧ RowKit.Hid (∃ s, Two w wr [b2, gn2, b, gn] b gn b2 gn2 rs s s)) (fun i _ => n2 - (intOf i).toNat)
        case atStart => exact ⟨0, Nat.zero_le _, rfl, Lib.hid ⟨_, HT.out⟩⟩
        case round =>
          clear HT HS i1 hlt
          obtain ⟨q, hq, rfl, HR⟩ := hrel
          obtain ⟨s, hs⟩ := HR.out
          have HS := Lib.hid hs
          clear HR hs
          by_cases hlt : q < n2
          · have hx := List.getElem?_eq_getElem (l := ts1) (i := q) (by rw [← HN2.out]; exact hlt)
            have hxw := K2.out _ (List.mem_of_getElem? hx)
            generalize ts1[q]'(by rw [← HN2.out]; exact hlt) = x at hx hxw
            obtain ⟨ad, hA, a0, a1, a2⟩ := HS.out.f.act H2.out hx
            have HX := Lib.hid hx
            have HXW := Lib.hid hxw
            have i0 : (0 : Int) ≤ (q : Int) := by omega
            have i1 : (q : Int) < (n2 : Int) := by omega
            have hze : ∃ z, actE rs x = z := ⟨_, rfl⟩
            obtain ⟨z, hz⟩ := hze
            have HZ := Lib.hid hz
            subst hA
            obtain ⟨op, i, v⟩ := x
            clear hx hxw hz
            go_wp2
            refine region_stagedP 2 (fun t => match t with | 0 => 7 | _ => 15) (fun i => if i = 7 then some 0 else if i = 15 then some 1 else none) (GPL [isV (.pointer (some ⟨b, 0, none⟩)), isV (.slice (some ad) n2 c2), isV (.int .i64 (q : Int)), isV (.pointer (some (ad.add (q * 3)))), isV (.agg #[.int .i64 op, .int .i64 i, .int .u32 v]), isV (.slice A0 rs.length c0), isV (.int .i64 (rs.length : Int)), isV (.int .i64 z), isV (.pointer (some ⟨b2, 0, none⟩)), isV (.slice (some ad) n2 c2), isV (.int .i64 (q : Int)), isV (.pointer (some (ad.add (q * 3)))), isV (.agg #[.int .i64 op, .int .i64 i, .int .u32 v]), isV (.slice A0 rs.length c0), isV (.int .i64 (rs.length : Int)), isV (.int .i64 z), isV (.bool false)]) (fun u w9 => Two w w9 [b2, gn2, b, gn] b gn b2 gn2 rs (stL [s, actT rs s ⟨op, i, v⟩, actT rs s ⟨op, i, v⟩] u) (stL [s, s, actT rs s ⟨op, i, v⟩] u)) 122 (by kernel_rfl) rfl (by kernel_rfl) ⟨?ca, ?cb, ?cp⟩ ?cs ?c0 ⟨?s0, ?s1, ?s2, ?s3, ?s4, ?s5, ?s6, ?s7, ?s8, ?s9, ?s10, ?s11, ?s12, ?s13, ?s14, ?s15, ?s16, trivial⟩ ?fin
            case ca =>
              intro i t h
              split at h
              · injection h with h; subst h; rename_i e; exact ⟨by omega, e.symm⟩
              · skip
                split at h
                · injection h with h; subst h; rename_i e; exact ⟨by omega, e.symm⟩
                · cases h
            case cb =>
              intro t ht
              match t, ht with
              | 0, _ => rfl
              | 1, _ => rfl
            case cp =>
              intro t ht
              match t, ht with
              | 0, _ => exact ⟨[7], by kernel_rfl, by simp, rfl⟩
            case cs =>
              intro t ht
              match t, ht with
              | 0, _ => exact (by decide : 7 < 17)
              | 1, _ => exact (by decide : 15 < 17)
            case c0 => exact HS.out.calm (Moved.drew _)
            case s0 =>
              refine stepS_plain rfl rfl (fun T w1 s hT hd hs hW => ?_)
              have ec := evT_const T
              have ef := evT_func T
              have d8 : evT T (.tmp 8) = .pointer (some ⟨b, 0, none⟩) := hT 8 (by kernel_rfl)
              clear hT hd hW
              refine ⟨.pointer (some ⟨b, 0, none⟩), ?_, rfl⟩
              simp only [execOp]
              go_simp
            case s1 =>
              refine stepS_plain rfl rfl (fun T w1 s hT hd hs hW => ?_)
              have ec := evT_const T
              have ef := evT_func T
              have d2 : evT T (.tmp 2) = .slice (some ad) n2 c2 := hT 2 (by kernel_rfl)
              clear hT hd hW
              refine ⟨.slice (some ad) n2 c2, ?_, rfl⟩
              simp only [execOp]
              go_simp
            case s2 =>
              refine stepS_plain rfl rfl (fun T w1 s hT hd hs hW => ?_)
              have ec := evT_const T
              have ef := evT_func T
              have d13 : evT T (.tmp 13) = .int .i64 (q : Int) := hT 13 (by kernel_rfl)
              clear hT hd hW
              refine ⟨.int .i64 (q : Int), ?_, rfl⟩
              simp only [execOp]
              go_simp
            case s3 =>
              refine stepS_plain rfl rfl (fun T w1 s hT hd hs hW => ?_)
              have ec := evT_const T
              have ef := evT_func T
              have d85 : evT T (.tmp 85) = .slice (some ad) n2 c2 := (by first | exact hd.1 | exact hd.2.1 | exact hd.2.2.1 | exact hd.2.2.2.1 | exact hd.2.2.2.2.1 | exact hd.2.2.2.2.2.1 | exact hd.2.2.2.2.2.2.1 | exact hd.2.2.2.2.2.2.2.1)
              have d86 : evT T (.tmp 86) = .int .i64 (q : Int) := (by first | exact hd.1 | exact hd.2.1 | exact hd.2.2.1 | exact hd.2.2.2.1 | exact hd.2.2.2.2.1 | exact hd.2.2.2.2.2.1 | exact hd.2.2.2.2.2.2.1 | exact hd.2.2.2.2.2.2.2.1)
              clear hT hd hW
              refine ⟨.pointer (some (ad.add (q * 3))), ?_, rfl⟩
              simp only [execOp]
              go_simp
            case s4 =>
              refine stepS_plain rfl rfl (fun T w1 s hT hd hs hW => ?_)
              have ec := evT_const T
              have ef := evT_func T
              have d87 : evT T (.tmp 87) = .pointer (some (ad.add (q * 3))) := (by first | exact hd.1 | exact hd.2.1 | exact hd.2.2.1 | exact hd.2.2.2.1 | exact hd.2.2.2.2.1 | exact hd.2.2.2.2.2.1 | exact hd.2.2.2.2.2.2.1 | exact hd.2.2.2.2.2.2.2.1)
              obtain ⟨ad', hA', a0, a1, a2⟩ := hW.f.act H2.out HX.out
              injection hA' with hA'
              subst hA'
              clear hT hd hW
              refine ⟨.agg #[.int .i64 op, .int .i64 i, .int .u32 v], ?_, rfl⟩
              simp only [execOp]
              go_simp
            case s5 =>
              refine stepS_plain rfl rfl (fun T w1 s hT hd hs hW => ?_)
              have ec := evT_const T
              have ef := evT_func T
              have d0 : evT T (.tmp 0) = .slice A0 rs.length c0 := hT 0 (by kernel_rfl)
              clear hT hd hW
              refine ⟨.slice A0 rs.length c0, ?_, rfl⟩
              simp only [execOp]
              go_simp
            case s6 =>
              refine stepS_plain rfl rfl (fun T w1 s hT hd hs hW => ?_)
              have ec := evT_const T
              have ef := evT_func T
              have d89 : evT T (.tmp 89) = .slice A0 rs.length c0 := (by first | exact hd.1 | exact hd.2.1 | exact hd.2.2.1 | exact hd.2.2.2.1 | exact hd.2.2.2.2.1 | exact hd.2.2.2.2.2.1 | exact hd.2.2.2.2.2.2.1 | exact hd.2.2.2.2.2.2.2.1)
              clear hT hd hW
              refine ⟨.int .i64 (rs.length : Int), ?_, rfl⟩
              simp only [execOp]
              go_simp
            case s7 =>
              refine stepC_plain 0 rfl rfl (fun T w1 hT hd hW => ?_)
              have ec := evT_const T
              have ef := evT_func T
              have d84 : evT T (.tmp 84) = .pointer (some ⟨b, 0, none⟩) := (by first | exact hd.1 | exact hd.2.1 | exact hd.2.2.1 | exact hd.2.2.2.1 | exact hd.2.2.2.2.1 | exact hd.2.2.2.2.2.1 | exact hd.2.2.2.2.2.2.1 | exact hd.2.2.2.2.2.2.2.1)
              have d88 : evT T (.tmp 88) = .agg #[.int .i64 op, .int .i64 i, .int .u32 v] := (by first | exact hd.1 | exact hd.2.1 | exact hd.2.2.1 | exact hd.2.2.2.1 | exact hd.2.2.2.2.1 | exact hd.2.2.2.2.2.1 | exact hd.2.2.2.2.2.2.1 | exact hd.2.2.2.2.2.2.2.1)
              have d90 : evT T (.tmp 90) = .int .i64 (rs.length : Int) := (by first | exact hd.1 | exact hd.2.1 | exact hd.2.2.1 | exact hd.2.2.2.1 | exact hd.2.2.2.2.1 | exact hd.2.2.2.2.2.1 | exact hd.2.2.2.2.2.2.1 | exact hd.2.2.2.2.2.2.2.1)
              refine ⟨25, #[.pointer (some ⟨b, 0, none⟩), .agg #[.int .i64 op, .int .i64 i, .int .u32 v], .int .i64 (rs.length : Int)], ?_, ?_⟩
              · clear hT hd hW
                simp only [execOp, resolve]
                go_simp
              · have hX : Two w w1 [b2, gn2, b, gn] b gn b2 gn2 rs s s := hW
                refine (hX.doF HXW.out).mono ?_
                rintro e w2 ⟨rfl, h2⟩
                exact ⟨_, rfl, by rw [HZ.out]; rfl, h2⟩
            case s8 =>
              refine stepS_plain rfl rfl (fun T w1 s hT hd hs hW => ?_)
              have ec := evT_const T
              have ef := evT_func T
              have d10 : evT T (.tmp 10) = .pointer (some ⟨b2, 0, none⟩) := hT 10 (by kernel_rfl)
              clear hT hd hW
              refine ⟨.pointer (some ⟨b2, 0, none⟩), ?_, rfl⟩
              simp only [execOp]
              go_simp
            case s9 =>
              refine stepS_plain rfl rfl (fun T w1 s hT hd hs hW => ?_)
              have ec := evT_const T
              have ef := evT_func T
              have d2 : evT T (.tmp 2) = .slice (some ad) n2 c2 := hT 2 (by kernel_rfl)
              clear hT hd hW
              refine ⟨.slice (some ad) n2 c2, ?_, rfl⟩
              simp only [execOp]
              go_simp
            case s10 =>
              refine stepS_plain rfl rfl (fun T w1 s hT hd hs hW => ?_)
              have ec := evT_const T
              have ef := evT_func T
              have d13 : evT T (.tmp 13) = .int .i64 (q : Int) := hT 13 (by kernel_rfl)
              clear hT hd hW
              refine ⟨.int .i64 (q : Int), ?_, rfl⟩
              simp only [execOp]
              go_simp
            case s11 =>
              refine stepS_plain rfl rfl (fun T w1 s hT hd hs hW => ?_)
              have ec := evT_const T
              have ef := evT_func T
              have d93 : evT T (.tmp 93) = .slice (some ad) n2 c2 := (by first | exact hd.1 | exact hd.2.1 | exact hd.2.2.1 | exact hd.2.2.2.1 | exact hd.2.2.2.2.1 | exact hd.2.2.2.2.2.1 | exact hd.2.2.2.2.2.2.1 | exact hd.2.2.2.2.2.2.2.1)
              have d94 : evT T (.tmp 94) = .int .i64 (q : Int) := (by first | exact hd.1 | exact hd.2.1 | exact hd.2.2.1 | exact hd.2.2.2.1 | exact hd.2.2.2.2.1 | exact hd.2.2.2.2.2.1 | exact hd.2.2.2.2.2.2.1 | exact hd.2.2.2.2.2.2.2.1)
              clear hT hd hW
              refine ⟨.pointer (some (ad.add (q * 3))), ?_, rfl⟩
              simp only [execOp]
              go_simp
            case s12 =>
              refine stepS_plain rfl rfl (fun T w1 s hT hd hs hW => ?_)
              have ec := evT_const T
              have ef := evT_func T
              have d95 : evT T (.tmp 95) = .pointer (some (ad.add (q * 3))) := (by first | exact hd.1 | exact hd.2.1 | exact hd.2.2.1 | exact hd.2.2.2.1 | exact hd.2.2.2.2.1 | exact hd.2.2.2.2.2.1 | exact hd.2.2.2.2.2.2.1 | exact hd.2.2.2.2.2.2.2.1)
              obtain ⟨ad', hA', a0, a1, a2⟩ := hW.f.act H2.out HX.out
              injection hA' with hA'
              subst hA'
              clear hT hd hW
              refine ⟨.agg #[.int .i64 op, .int .i64 i, .int .u32 v], ?_, rfl⟩
              simp only [execOp]
              go_simp
            case s13 =>
              refine stepS_plain rfl rfl (fun T w1 s hT hd hs hW => ?_)
              have ec := evT_const T
              have ef := evT_func T
              have d0 : evT T (.tmp 0) = .slice A0 rs.length c0 := hT 0 (by kernel_rfl)
              clear hT hd hW
              refine ⟨.slice A0 rs.length c0, ?_, rfl⟩
              simp only [execOp]
              go_simp
            case s14 =>
              refine stepS_plain rfl rfl (fun T w1 s hT hd hs hW => ?_)
              have ec := evT_const T
              have ef := evT_func T
              have d97 : evT T (.tmp 97) = .slice A0 rs.length c0 := (by first | exact hd.1 | exact hd.2.1 | exact hd.2.2.1 | exact hd.2.2.2.1 | exact hd.2.2.2.2.1 | exact hd.2.2.2.2.2.1 | exact hd.2.2.2.2.2.2.1 | exact hd.2.2.2.2.2.2.2.1)
              clear hT hd hW
              refine ⟨.int .i64 (rs.length : Int), ?_, rfl⟩
              simp only [execOp]
              go_simp
            case s15 =>
              refine stepC_plain 1 rfl rfl (fun T w1 hT hd hW => ?_)
              have ec := evT_const T
              have ef := evT_func T
              have d92 : evT T (.tmp 92) = .pointer (some ⟨b2, 0, none⟩) := (by first | exact hd.1 | exact hd.2.1 | exact hd.2.2.1 | exact hd.2.2.2.1 | exact hd.2.2.2.2.1 | exact hd.2.2.2.2.2.1 | exact hd.2.2.2.2.2.2.1 | exact hd.2.2.2.2.2.2.2.1)
              have d96 : evT T (.tmp 96) = .agg #[.int .i64 op, .int .i64 i, .int .u32 v] := (by first | exact hd.1 | exact hd.2.1 | exact hd.2.2.1 | exact hd.2.2.2.1 | exact hd.2.2.2.2.1 | exact hd.2.2.2.2.2.1 | exact hd.2.2.2.2.2.2.1 | exact hd.2.2.2.2.2.2.2.1)
              have d98 : evT T (.tmp 98) = .int .i64 (rs.length : Int) := (by first | exact hd.1 | exact hd.2.1 | exact hd.2.2.1 | exact hd.2.2.2.1 | exact hd.2.2.2.2.1 | exact hd.2.2.2.2.2.1 | exact hd.2.2.2.2.2.2.1 | exact hd.2.2.2.2.2.2.2.1)
              refine ⟨25, #[.pointer (some ⟨b2, 0, none⟩), .agg #[.int .i64 op, .int .i64 i, .int .u32 v], .int .i64 (rs.length : Int)], ?_, ?_⟩
              · clear hT hd hW
                simp only [execOp, resolve]
                go_simp
              · have hX : Two w w1 [b2, gn2, b, gn] b gn b2 gn2 rs (actT rs s ⟨op, i, v⟩) s := hW
                refine (hX.doG HXW.out).mono ?_
                rintro e w2 ⟨rfl, h2⟩
                exact ⟨_, rfl, by rw [HZ.out]; rfl, h2⟩
            case s16 =>
              refine stepS_plain rfl rfl (fun T w1 s hT hd hs hW => ?_)
              have ec := evT_const T
              have ef := evT_func T
              have d91 : evT T (.tmp 91) = .int .i64 z := (by first | exact hd.1 | exact hd.2.1 | exact hd.2.2.1 | exact hd.2.2.2.1 | exact hd.2.2.2.2.1 | exact hd.2.2.2.2.2.1 | exact hd.2.2.2.2.2.2.1 | exact hd.2.2.2.2.2.2.2.1)
              have d99 : evT T (.tmp 99) = .int .i64 z := (by first | exact hd.1 | exact hd.2.1 | exact hd.2.2.1 | exact hd.2.2.2.1 | exact hd.2.2.2.2.1 | exact hd.2.2.2.2.2.1 | exact hd.2.2.2.2.2.2.1 | exact hd.2.2.2.2.2.2.2.1)
              have ez : (z != z) = false := by simp
              clear hT hd hW
              refine ⟨.bool false, ?_, rfl⟩
              simp only [execOp]
              go_simp
            case fin =>
              intro T w1 hT hW hd
              have e100 : T 100 = .bool false := hd.2.2.2.2.2.2.2.2.2.2.2.2.2.2.2.2.1
              simp only [putL, Act.put, Option.getD_some, List.setIfInBounds_toArray, List.set_cons_zero, List.set_cons_succ]
              have HT7 : RowKit.Hid (Two w w1 [b2, gn2, b, gn] b gn b2 gn2 rs (actT rs s ⟨op, i, v⟩) (actT rs s ⟨op, i, v⟩)) := Lib.hid hW
              clear hT hd hW
              rw [e100]
              clear e100
              go_wp2
              go_loopw [14] (fun i' wr => ∃ j : Nat, j ≤ rs.length ∧ i' = .int .i64 j ∧ RowKit.Hid (Two w wr [b2, gn2, b, gn] b gn b2 gn2 rs (actT rs s ⟨op, i, v⟩) (actT rs s ⟨op, i, v⟩))) (fun i' _ => rs.length - (intOf i').toNat)
              case atStart => exact ⟨0, Nat.zero_le _, rfl, HT7⟩
              case round =>
                clear HT7
                obtain ⟨j, hj, rfl, HJ⟩ := hrel
                by_cases hjn : j < rs.length
                · have hkw : wfI (j : Int) := by unfold wfI; omega
                  have j0 : (0 : Int) ≤ (j : Int) := by omega
                  have j1 : (j : Int) < (rs.length : Int) := by omega
                  obtain ⟨y, hy⟩ : ∃ y, readI (actT rs s ⟨op, i, v⟩).now (j : Int) = y := ⟨_, rfl⟩
                  have HY := Lib.hid hy
                  have ey : (y != y) = false := by simp
                  clear hy
                  go_wp2_with fail
                  refine (HJ.out.f.read hkw).mono ?_
                  rintro e w2 ⟨rfl, rfl⟩
                  rw [HY.out]
                  go_wp2_with fail
                  refine (HJ.out.g.read hkw).mono ?_
                  rintro e w2 ⟨rfl, rfl⟩
                  rw [HY.out]
                  go_wp2
                  go_roundw
                  case rel => exact ⟨j + 1, hjn, by go_num, HJ⟩
                  case measure => simp [intOf]; omega
                · have j1 : ¬ ((j : Int) < (rs.length : Int)) := by omega
                  go_wp2
                  go_roundw
                  case rel => exact ⟨q + 1, hlt, by go_num, Lib.hid ⟨_, HJ.out⟩⟩
                  case measure => simp [intOf]; omega
          · have i1 : ¬ ((q : Int) < (n2 : Int)) := by omega
            go_wp2
            go_ret
            exact ⟨rfl, HS.out.f.bel⟩

end Go.Proofs.Ytlolnogkndhfnaa
