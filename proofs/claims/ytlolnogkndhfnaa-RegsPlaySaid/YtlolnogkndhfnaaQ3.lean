/- The document's own file: the contract of its Restore. -/
import Derived.Test.YtlolnogkndhfnaaQ2
namespace Go.Proofs.Ytlolnogkndhfnaa
set_option linter.unusedSimpArgs false
set_option linter.unusedVariables false
open Go.RowKit Go.Maps

/-- at most block gv has turned, a hot one -/
def Mg (w w' : World) (Q : List Nat) (gv : Nat) : Prop := ∃ hot, (∀ k, k ∈ hot → k = gv ∧ k ∈ Q) ∧ Moved hot w w'
theorem Mg.refl (w : World) (Q : List Nat) (gv : Nat) : Mg w w Q gv := ⟨[], by simp, Moved.refl _ _⟩
theorem Mg.step {w w' w'' : World} {Q : List Nat} {gv : Nat} (h : Mg w w' Q gv) (hg : gv ∈ Q) (hm : Moved [gv] w' w'') : Mg w w'' Q gv := by
  obtain ⟨hot, h1, h2⟩ := h
  refine ⟨gv :: hot, fun k hk => ?_, (h2.mono (by intro k hk; exact List.mem_cons_of_mem _ hk)).trans (hm.mono (by simp))⟩
  rcases List.mem_cons.1 hk with rfl | hk
  · exact ⟨rfl, hg⟩
  · exact h1 k hk
theorem backS_len {rs : List Rgs} {sv : Bool} {S : List Int} (h : sv = true → S.length = rs.length) : (backS rs sv S).length = rs.length := by
  unfold backS
  cases sv with
  | false => exact resets_len rs
  | true => exact saveB_len (h rfl)
theorem RefIs.slen {w : World} {Q : List Nat} {rb gv : Nat} {rs : List Rgs} {now S : List Int} {sv : Bool} (h : RefIs w Q rb gv rs now sv S) : sv = true → S.length = rs.length := fun e => by
  obtain ⟨A, c, AV, cV, AS, s, cS, -, -, -, e4⟩ := h.box
  exact (e4.ok e).2.1

set_option maxRecDepth 100000 in
set_option maxHeartbeats 4000000 in
theorem rrestore_any (Q : List Nat) (rb gv : Nat) (rs : List Rgs) (now S : List Int) (sv : Bool) (w : World) (h : RefIs w Q rb gv rs now sv S) :
    Calls Try.prog 18 #[.pointer (some ⟨rb, 0, none⟩)] w (fun e w' => e = .returned (.tuple #[]) ∧ RefIs w' Q rb gv rs (backS rs sv S) sv S ∧ Mg w w' Q gv) := by
  have h8 := h.few
  have HL := Lib.hid h.len
  have HBL := Lib.hid (backS_len h.slen)
  have HS := Lib.hid h.slen
  have H := Lib.hid h
  have n1 : ¬ rb = gv := h.ne
  have n2 : ¬ gv = rb := Ne.symm h.ne
  obtain ⟨n, hn⟩ : ∃ n, n = rs.length := ⟨_, rfl⟩
  have HN := Lib.hid hn
  rw [← hn] at h8
  clear h hn
  go_enter Try.func18, Try.ntmps18
  go_wp2
  go_loopw [2] (fun i wr => ∃ k : Nat, k ≤ n ∧ i = .int .i64 k ∧ RowKit.Hid (RefIs wr Q rb gv rs (upToL now (backS rs sv S) k) sv S ∧ Mg w wr Q gv)) (fun i _ => n - (intOf i).toNat)
  case atStart => exact ⟨0, Nat.zero_le _, rfl, Lib.hid ⟨by rw [upToL_zero]; exact H.out, Mg.refl _ _ _⟩⟩
  case round =>
    obtain ⟨k, hk, rfl, HR⟩ := hrel
    obtain ⟨A, c, AV, cV, AS, s, cS, hB, hRR, e3, e4⟩ := HR.out.1.box
    have b0 := (hB 0 _ rfl).1
    have b1 := (hB 1 _ rfl).1
    have b2 := (hB 2 _ rfl).1
    have b3 := (hB 3 _ rfl).1
    rw [← HN.out] at b0 b1
    by_cases hlt : k < n
    · have hp : 0 < rs.length := by rw [← HN.out]; omega
      have hlr : k < rs.length := by rw [← HN.out]; exact hlt
      have hr := List.getElem?_eq_getElem (l := rs) (i := k) hlr
      generalize rs[k]'hlr = r at hr
      have eV := e3 hp
      have hy := List.getElem?_eq_getElem (l := upToL now (backS rs sv S) k) (i := k) (by rw [HR.out.1.len]; exact hlr)
      generalize (upToL now (backS rs sv S) k)[k]'(by rw [HR.out.1.len]; exact hlr) = y at hy
      obtain ⟨hc, hf⟩ := (HR.out.1.row hp).2 k _ (u32s_at hy)
      obtain ⟨ad, hA, hadl, hadq, hag⟩ := hRR.at_ hr
      have a0 : wr.cell? (ad.add (k * 2)) = some (.int .u32 r.reset) := hag.zero
      have a1 : wr.cell? ⟨(ad.add (k * 2)).block, (ad.add (k * 2)).off + 1, none⟩ = some (.bool r.kept) := hag.at_ 0 rfl
      have hgQ := HR.out.1.hg hp
      have hne : ¬ ad.block = gv := fun e => hadq (by rw [e]; exact hgQ)
      have i0 : (0 : Int) ≤ (k : Int) := by omega
      have i1 : (k : Int) < (n : Int) := by omega
      obtain ⟨rst, kp⟩ := r
      have hW1 := HR.out.1.write hp k rst
      have m1 : Moved [gv] wr (wr.setCell ⟨gv, k, none⟩ (.int .u32 rst)) := Moved.setCell _ (by simp) _
      have q0 := m1.cell b0 (by simpa using n1)
      have q1 := m1.cell b1 (by simpa using n1)
      have q2 := m1.cell b2 (by simpa using n1)
      have q3 := m1.cell b3 (by simpa using n1)
      have qa1 := m1.cell a1 (by simp [block_add]; exact hne)
      have hll : now.length = (backS rs sv S).length := by rw [HL.out, HBL.out]
      have HM1 := Lib.hid ((HR.out.2.step hgQ m1).step hgQ (Moved.drew _))
      subst hA eV
      by_cases hsk : sv = true ∧ kp = true
      · obtain ⟨rfl, rfl⟩ := hsk
        have hsl := HS.out rfl
        have hx := List.getElem?_eq_getElem (l := S) (i := k) (by rw [hsl]; exact hlr)
        generalize S[k]'(by rw [hsl]; exact hlr) = x at hx
        have hbk : (backS rs true S)[k]? = some x := by
          show (saveB rs S)[k]? = _
          rw [saveB_at hr hx]
          rfl
        have hnx := upToL_succ hll hbk
        obtain ⟨hs1, hs2, hs3⟩ := e4.ok rfl
        obtain ⟨ae, hAS, hasl, hasq, hsc⟩ := hs3.at_ (u32s_at hx)
        have hnes : ¬ ae.block = gv := fun e => hasq (by rw [e]; exact hgQ)
        have qs := m1.cell hsc (by simp [block_add]; exact hnes)
        rw [← HN.out] at hs1
        have hW2 := hW1.write hp k x
        have hc2 : (wr.setCell ⟨gv, k, none⟩ (.int .u32 rst)).cell? ⟨gv, k, none⟩ = some (.int .u32 rst) := World.cell?_setCell_same' _ _ _ (by rw [hc]; rfl)
        have hf2 : (wr.setCell ⟨gv, k, none⟩ (.int .u32 rst)).frozen? ⟨gv, k, none⟩ = false := by rw [World.frozen?_setCell]; exact hf
        have m2 : Moved [gv] (wr.setCell ⟨gv, k, none⟩ (.int .u32 rst)) ((wr.setCell ⟨gv, k, none⟩ (.int .u32 rst)).setCell ⟨gv, k, none⟩ (.int .u32 x)) := Moved.setCell _ (by simp) _
        rw [List.set_set, ← hnx] at hW2
        have HW3 := Lib.hid (And.intro hW2 ((HR.out.2.step hgQ m1).step hgQ m2))
        subst hAS
        subst hs1
        clear hr hy hx hnx hbk hW1 hW2 hs2 hs3 hag hB hRR e3 e4 hll m1 m2 hsl
        go_wp2
        go_region
        all_goals
          go_wp2
          go_region
          all_goals
            go_wp2
            go_roundw
            case rel => exact ⟨k + 1, hlt, by go_num, Lib.hid ⟨HW3.out.1.move ((Moved.drew _).trans (Moved.drew _)), (HW3.out.2.step hgQ (Moved.drew _)).step hgQ (Moved.drew _)⟩⟩
            case measure => simp [intOf]; omega
      · have hbk : (backS rs sv S)[k]? = some rst := by
          unfold backS
          cases sv with
          | false => exact resets_at hr
          | true =>
            have hkp : kp = false := by simpa using hsk
            have hsl := HS.out rfl
            have hx := List.getElem?_eq_getElem (l := S) (i := k) (by rw [hsl]; exact hlr)
            show (saveB rs S)[k]? = _
            rw [saveB_at hr hx, hkp]
            rfl
        have hnx := upToL_succ hll hbk
        rw [← hnx] at hW1
        have HW3 := Lib.hid (And.intro hW1 (HR.out.2.step hgQ m1))
        clear hr hy hnx hbk hW1 hag hB hRR e3 e4 hll m1
        cases sv with
        | false =>
          clear hsk
          go_wp2
          go_region
          all_goals
            go_wp2
            go_roundw
            case rel => exact ⟨k + 1, hlt, by go_num, Lib.hid ⟨HW3.out.1.move (Moved.drew _), HW3.out.2.step hgQ (Moved.drew _)⟩⟩
            case measure => simp [intOf]; omega
        | true =>
          obtain rfl : kp = false := by simpa using hsk
          clear hsk
          go_wp2
          go_region
          all_goals
            go_wp2
            go_roundw
            case rel => exact ⟨k + 1, hlt, by go_num, Lib.hid ⟨HW3.out.1.move (Moved.drew _), HW3.out.2.step hgQ (Moved.drew _)⟩⟩
            case measure => simp [intOf]; omega
    · have hke : k = n := by omega
      subst hke
      have i1 : ¬ ((k : Int) < (k : Int)) := by omega
      clear hB hRR e3 e4
      go_wp2
      go_end0
      have hx := HR.out.1
      rw [HN.out, ← HBL.out, upToL_all (by rw [HL.out, HBL.out])] at hx
      exact ⟨rfl, hx, HR.out.2⟩

end Go.Proofs.Ytlolnogkndhfnaa
