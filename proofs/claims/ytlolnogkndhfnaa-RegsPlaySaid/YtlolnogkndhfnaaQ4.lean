/- The document's own file: contracts of its Clear, New. -/
import Derived.Test.YtlolnogkndhfnaaQ3
import Derived.Deep.RegionLaw
namespace Go.Proofs.Ytlolnogkndhfnaa
set_option linter.unusedSimpArgs false
set_option linter.unusedVariables false
open Go.RowKit Go.Maps

theorem StrsC.grow {α : Type} {V : Reads α} {sz : Nat} {Q X hot : List Nat} {w w' : World} {A : Option Addr} {xs : List α} (h : StrsC V sz Q w A xs) (hm : Moved hot w w') (hs : ∀ k, k ∈ hot → k ∈ Q) (hh : ∀ k, k ∈ X → w.heap.size ≤ k) : StrsC V sz (X ++ Q) w' A xs := fun hl => by
  obtain ⟨ad, k1, k2, k3, k4⟩ := h hl
  refine ⟨ad, k1, Nat.lt_of_lt_of_le k2 hm.size, fun hx => ?_, fun k x hk j v hj => hm.cell (k4 k x hk j v hj) (fun hq => k3 (hs _ (by simpa [block_add] using hq)))⟩
  rcases List.mem_append.1 hx with hx | hx
  · have := hh _ hx; omega
  · exact k3 hx
/-- other blocks turned, some were made, and are hot -/
theorem FileIs.grow {w w' : World} {Q X hot : List Nat} {b gn : Nat} {rs : List Rgs} {now back : List Int} (h : FileIs w Q b gn rs now back) (hm : Moved hot w w') (hs : ∀ k, k ∈ hot → k ∈ Q) (h1 : b ∉ hot) (h2 : gn ∉ hot) (hh : ∀ k, k ∈ X → w.heap.size ≤ k ∧ k < w'.heap.size) : FileIs w' (X ++ Q) b gn rs now back := by
  obtain ⟨A, c, fv, e1, e2, e3⟩ := h.box
  refine ⟨h.len, h.few, h.ne, List.mem_append_right _ h.hb, List.mem_append_right _ h.hg, fun k hk => ?_, ⟨A, c, fv, e1.move hm h1, e2.grow hm hs (fun k hk => (hh k hk).1), ?_⟩, h.row.move hm h2⟩
  · rcases List.mem_append.1 hk with hk | hk
    · exact (hh k hk).2
    · exact Nat.lt_of_lt_of_le (h.hQ k hk) hm.size
  · exact (e3.more fun k hk => (hh k hk).1).move (hm.mono fun k hk => List.mem_append_right _ (hs k hk))

/-- while it is cleared -/
structure ClrIs (w wr : World) (rb : Nat) (AR : Option Addr) (cR n : Nat) (A : Option Addr) (k d : Nat) (AS : Option Addr) (s cS : Nat) (sv : Bool) (l : List Int) : Prop where
  mv : Moved [rb] w wr
  box : BoxAt wr rb [.slice AR n cR, .slice A k d, .slice AS s cS, .bool sv]
  own : wr.ownsRow w.heap.size 33 1 (.slice A k d) k (u32s l)
/-- what Clear leaves -/
def RClear (w : World) (Q : List Nat) (rb : Nat) (rs : List Rgs) (e : Ending) (w' : World) : Prop :=
  e = .returned (.tuple #[]) ∧ ∃ gv X, w.heap.size ≤ gv ∧ (∀ k, k ∈ X → w.heap.size ≤ k ∧ k < w'.heap.size) ∧ RefIs w' (X ++ Q) rb gv rs (resets rs) false [] ∧ Moved [rb] w w'

set_option maxRecDepth 100000 in
set_option maxHeartbeats 4000000 in
theorem rclear_raw (Q : List Nat) (rb : Nat) (rs : List Rgs) (AR AV AS : Option Addr) (cR nV cV s cS : Nat) (sv : Bool) (w : World) (h8 : rs.length ≤ 8) (hrb : rb ∈ Q) (hQ : ∀ k, k ∈ Q → k < w.heap.size)
    (hB : BoxAt w rb [.slice AR rs.length cR, .slice AV nV cV, .slice AS s cS, .bool sv]) (hR : StrsC RgsV 2 Q w AR rs) : Calls Try.prog 20 #[.pointer (some ⟨rb, 0, none⟩)] w (RClear w Q rb rs) := by
  have hlt := hB.lt
  have HB := Lib.hid hB
  have HR := Lib.hid hR
  have HQ := Lib.hid (And.intro hrb hQ)
  obtain ⟨b1, f1⟩ := hB 1 _ rfl
  obtain ⟨n, hn⟩ : ∃ n, n = rs.length := ⟨_, rfl⟩
  have HN := Lib.hid hn
  have H0 : RowKit.Hid (ClrIs w (w.setCell ⟨rb, 1, none⟩ (.slice none 0 0)) rb AR cR rs.length none 0 0 AS s cS sv []) := Lib.hid ⟨Moved.setCell _ (by simp) _, hB.set (j := 1) (by simp) _, World.ownsRow_nil _ _ _ _⟩
  rw [← hn] at h8
  clear hB hR hrb hQ hn
  go_enter Try.func20, Try.ntmps20
  go_wp2
  go_loopw [2] (fun i wr => ∃ k : Nat, k ≤ n ∧ i = .int .i64 k ∧ RowKit.Hid (∃ A d, ClrIs w wr rb AR cR rs.length A k d AS s cS sv ((resets rs).take k))) (fun i _ => n - (intOf i).toNat)
  case atStart => exact ⟨0, Nat.zero_le _, rfl, Lib.hid ⟨none, 0, H0.out⟩⟩
  case round =>
    clear H0 b1 f1
    obtain ⟨k, hk, rfl, HC⟩ := hrel
    obtain ⟨A, d, hC⟩ := HC.out
    have HK := Lib.hid hC
    clear HC hC
    have b0 := (HK.out.box 0 _ rfl).1
    obtain ⟨b1, f1⟩ := HK.out.box 1 _ rfl
    rw [← HN.out] at b0
    have hzr := HK.out.mv.size
    by_cases hlt' : k < n
    · have hlr : k < rs.length := by rw [← HN.out]; exact hlt'
      have hr := List.getElem?_eq_getElem (l := rs) (i := k) hlr
      generalize rs[k]'hlr = r at hr
      obtain ⟨ad, hA, -, -, hag⟩ := (HR.out.move (HK.out.mv.mono (by simpa using HQ.out.1))).at_ hr
      have a0 : wr.cell? (ad.add (k * 2)) = some (.int .u32 r.reset) := hag.zero
      have HSN := Lib.hid (show u32s ((resets rs).take (k + 1)) = u32s ((resets rs).take k) ++ [.int .u32 r.reset] by rw [List.take_add_one, resets_at hr]; exact u32s_snoc _ _)
      have i0 : (0 : Int) ≤ (k : Int) := by omega
      have i1 : (k : Int) < (n : Int) := by omega
      obtain ⟨rst, kp⟩ := r
      subst hA
      have hq1 : Moved [] wr (wr.alloc (.cells #[.int .u32 rst] 33)).drew := (Moved.alloc wr _).trans (Moved.drew _)
      have HOWN := Lib.hid (own_moved HK.out.own hq1 (by simp))
      have HBLK := Lib.hid (show (wr.alloc (.cells #[.int .u32 rst] 33)).drew.heap[wr.heap.size]? = some (.cells #[.int .u32 rst] 33) from heap_alloc_new wr _)
      have HBX := Lib.hid (HK.out.box.move hq1 (by simp))
      have HQ1 := Lib.hid hq1
      have HLT := Lib.hid (fun g (hg : (Value.slice A k d).ownBlock = some g) => (HOWN.out.lt g hg).1)
      obtain ⟨i33, hi, hz0, hzs, hzb⟩ := info_parts Try.info33
      have b0' := Lib.cell?_alloc_some (Obj.cells #[.int .u32 rst] 33) b0
      have b1' := Lib.cell?_alloc_some (Obj.cells #[.int .u32 rst] 33) b1
      have a0' := Lib.cell?_alloc_some (Obj.cells #[.int .u32 rst] 33) a0
      clear hr hag hq1
      go_wp2
      go_region_law (refine step_append_lies _ (by rfl) (.tmp 19) (.tmp 28) _ (by rfl) w.heap.size 33 i33 _ 1 4 Try.underlying41 hi hz0 hzs hzb rfl (by omega) (.slice A k d) k _ (by rfl) (HOWN.out) ⟨wr.heap.size, 0, none⟩ 1 1 [.int .u32 rst] (by rfl) (by rfl) (World.news_of_block (cs := #[.int .u32 rst]) (t := 33) (fr := (0, 0)) HBLK.out) (by intro u hu; simp at hu; rcases hu with rfl; rfl) (by omega) (by unfold maxLen; omega) (by omega) (by simp; omega) (wr.heap.size + 1) (by simp) ?_; intro g7 cap7 w7 hown7 hg7 hat7 hlt7; have hm7 := Moved.of_grown (hot := (Value.slice A k d).ownBlock.toList) hg7 (by simp); have hbx7 := HBX.out.move hm7 (by intro hh; have := HLT.out _ (by simpa using hh); omega); have hd7 := (hbx7 1 _ rfl).1; have hf7 := (hbx7 1 _ rfl).2; have HX7 := Lib.hid (And.intro hbx7 (And.intro hm7 hown7)); clear hown7 hg7 hat7 hlt7 hbx7 hm7)
      all_goals
        have hmv8 : Moved [rb] w7 (w7.setCell ⟨rb, 1, none⟩ (.slice (some ⟨g7, 0, none⟩) (k + 1) cap7)) := Moved.setCell _ (by simp) _
        have hC8 : ClrIs w (w7.setCell ⟨rb, 1, none⟩ (.slice (some ⟨g7, 0, none⟩) (k + 1) cap7)) rb (some ad) cR rs.length (some ⟨g7, 0, none⟩) (k + 1) cap7 AS s cS sv ((resets rs).take (k + 1)) := by
          refine ⟨?_, HX7.out.1.set (j := 1) (by simp) _, ?_⟩
          · have m1 : Moved [rb] w w7 := (HK.out.mv.trans (HQ1.out.mono (by simp))).trans' HX7.out.2.1 fun q hq => .inr (HLT.out q (by simpa using hq))
            exact m1.trans hmv8
          · rw [HSN.out]
            refine own_moved HX7.out.2.2 hmv8 fun g hg hh => ?_
            have := (HX7.out.2.2.lt g hg).1
            simp at hh
            omega
        have HC8 := Lib.hid hC8
        clear hC8 hmv8 hd7 hf7 HX7
        go_wp2
        go_roundw
        case rel => exact ⟨k + 1, hlt', by go_num, Lib.hid ⟨_, _, HC8.out⟩⟩
        case measure => simp [intOf]; omega
    · have hke : k = n := by omega
      have i1 : ¬ ((k : Int) < (n : Int)) := by omega
      obtain ⟨b2, f2⟩ := HK.out.box 2 _ rfl
      obtain ⟨b3, f3⟩ := HK.out.box 3 _ rfl
      have m2 : Moved [rb] wr (wr.setCell ⟨rb, 2, none⟩ (.slice none 0 0)) := Moved.setCell _ (by simp) _
      have m3 : Moved [rb] (wr.setCell ⟨rb, 2, none⟩ (.slice none 0 0)) ((wr.setCell ⟨rb, 2, none⟩ (.slice none 0 0)).setCell ⟨rb, 3, none⟩ (.bool false)) := Moved.setCell _ (by simp) _
      have d3' : (wr.setCell ⟨rb, 2, none⟩ (.slice none 0 0)).cell? ⟨rb, 3, none⟩ = some (.bool sv) := (World.cell?_setCell_other wr _ _ _ (fun e => by have := congrArg Addr.off e; simp at this)).trans b3
      have hbx := (HK.out.box.set (j := 2) (by simp) (.slice none 0 0)).set (j := 3) (by simp) (.bool false)
      have hmv := HK.out.mv.trans (m2.trans m3)
      have hown : ((wr.setCell ⟨rb, 2, none⟩ (.slice none 0 0)).setCell ⟨rb, 3, none⟩ (.bool false)).ownsRow w.heap.size 33 1 (.slice A k d) k (u32s (resets rs)) := by
        have h1 := HK.out.own
        rw [show (resets rs).take k = resets rs from List.take_of_length_le (by rw [resets_len, ← HN.out]; omega)] at h1
        refine own_moved h1 (m2.trans m3) fun g hg hh => ?_
        have := (h1.lt g hg).1
        simp at hh
        omega
      have hkn : k = rs.length := by rw [← HN.out]; exact hke
      have hfin : RClear w Q rb rs (.returned (.tuple #[])) ((wr.setCell ⟨rb, 2, none⟩ (.slice none 0 0)).setCell ⟨rb, 3, none⟩ (.bool false)) := by
        refine ⟨rfl, ?_⟩
        rw [hkn] at hbx hown
        have hsm : ∀ q, q ∈ [rb] → q ∈ Q := by simpa using HQ.out.1
        rcases Nat.eq_zero_or_pos rs.length with h0 | h0
        · refine ⟨w.heap.size, [], Nat.le_refl _, by simp, ⟨resets_len rs, by rw [← HN.out]; exact h8, by omega, HQ.out.1, fun hp => by omega, fun q hq => Nat.lt_of_lt_of_le (HQ.out.2 q hq) hmv.size, ⟨AR, cR, A, d, none, 0, 0, hbx, HR.out.move (hmv.mono hsm), fun hp => by omega, ⟨fun e => by cases e⟩⟩, fun hp => by omega⟩, hmv⟩
        · obtain ⟨g, rfl, hg, hrow⟩ := own_rowN hown h0
          refine ⟨g, [g], hg, by intro q hq; simp at hq; subst hq; exact ⟨hg, hrow.1⟩, ⟨resets_len rs, by rw [← HN.out]; exact h8, by omega, List.mem_append_right _ HQ.out.1, fun _ => by simp, fun q hq => ?_, ⟨AR, cR, _, d, none, 0, 0, hbx, HR.out.grow hmv hsm (by simp; exact hg), fun _ => rfl, ⟨fun e => by cases e⟩⟩, fun _ => hrow⟩, hmv⟩
          rcases List.mem_append.1 hq with hq | hq
          · simp at hq; rw [hq]; exact hrow.1
          · exact Nat.lt_of_lt_of_le (HQ.out.2 q hq) hmv.size
      have HFIN := Lib.hid hfin
      clear m2 m3 hbx hmv hown hkn hfin hke
      go_wp2
      go_end0
      exact HFIN.out

end Go.Proofs.Ytlolnogkndhfnaa
