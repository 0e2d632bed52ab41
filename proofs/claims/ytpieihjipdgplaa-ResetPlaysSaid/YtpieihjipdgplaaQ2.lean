/- The document's own lines: the contract of Tick. -/
import Derived.Test.YtpieihjipdgplaaQ1
namespace Go.Proofs.Ytpieihjipdgplaa
set_option linter.unusedSimpArgs false
set_option linter.unusedVariables false
open Go.RowKit Go.Maps

theorem ints_moved {w w' : World} {B : Nat} {v : Value} {xs : List Int} {H : List Nat} (h : OwnI w B v xs) (hm : Moved H w w') (hH : ∀ g, g ∈ H → g < B) : OwnI w' B v xs := h.moved hm hH
theorem hotR_any (A : Option Addr) (n c n' c' : Nat) : hotR A n c = hotR A n' c' := by cases A <;> rfl
theorem RefIs.dLt {w : World} {gr cd cs : Nat} {A C : Option Addr} {xs : List Ln} (h : RefIs w gr A C cd cs xs) : ∀ g, g ∈ hotR A xs.length cd → gr + 1 ≤ g ∧ g < w.heap.size := fun g hg => h.d.lt g (by unfold hotR at hg; simpa using hg)
theorem RefIs.apart {w w' : World} {gr cd cs : Nat} {A C : Option Addr} {xs : List Ln} {hot : List Nat} (h : RefIs w gr A C cd cs xs) (hm : Moved hot w w') (h1 : gr ∉ hot) (h2 : ∀ g, g ∈ hotR A xs.length cd → g ∉ hot) (h3 : ∀ g, g ∈ hotR C xs.length cs → g ∉ hot) : RefIs w' gr A C cd cs xs := by
  refine ⟨h.box.move hm h1, own_move h.d fun g hg => hm.block g (h.d.lt g hg).2 (h2 g (by unfold hotR; simpa using hg)), ?_, h.ne⟩
  obtain ⟨vss, a, b, ho⟩ := h.s
  exact ⟨vss, a, fun k x vs h1 h2 => ⟨(b k x vs h1 h2).1, (b k x vs h1 h2).2⟩, own_move ho fun g hg => hm.block g (ho.lt g hg).2 (h3 g (by unfold hotR; simpa using hg))⟩
/-- one line had its tick -/
def RPass (w : World) (gr : Nat) (A C : Option Addr) (cd cs n : Nat) (xs' : List Ln) (w' : World) : Prop := RefIs w' gr A C cd cs xs' ∧ Moved (hotR C n cs) w w'

/-- a tick under way -/
structure RTick (w wr : World) (gr : Nat) (A C : Option Addr) (cd cs : Nat) (xs : List Ln) (k : Nat) (v : Value) : Prop where
  lines : RefIs wr gr A C cd cs (partT xs k)
  told : OwnI wr w.heap.size v (goesP xs k)
  mv : Moved (hotR C xs.length cs) w wr
def RTicks (w : World) (gr : Nat) (A C : Option Addr) (cd cs : Nat) (xs : List Ln) (e : Ending) (w' : World) : Prop :=
  ∃ v, e = .returned v ∧ OwnI w' w.heap.size v (tickE xs) ∧ RefIs w' gr A C cd cs (tickT xs) ∧ Moved (hotR C xs.length cs) w w'

set_option maxRecDepth 100000 in
set_option maxHeartbeats 8000000 in
theorem rtick_any (gr : Nat) (A C : Option Addr) (cd cs : Nat) (xs : List Ln) (w : World) (hn : xs.length ≤ 1000) (hid : Idle xs) (hl : ∀ (k : Nat) (x : Ln), xs[k]? = some x → 0 ≤ x.left ∧ x.left ≤ 20) (h : RefIs w gr A C cd cs xs) :
    Calls Try.prog 20 #[.pointer (some ⟨gr, 0, none⟩)] w (RTicks w gr A C cd cs xs) := by
  have H := Lib.hid h
  have HL := Lib.hid hl
  have HI := Lib.hid hid
  have hsl := h.sLt
  obtain ⟨n, hN⟩ : ∃ n, n = xs.length := ⟨_, rfl⟩
  rw [← hN] at hn hsl
  have HN := Lib.hid hN
  have HSL := Lib.hid hsl
  clear h hl hN hid hsl
  go_enter Try.func20, Try.ntmps20
  go_wp2
  go_loopw [3, 4] (fun v i wr => ∃ (k : Nat) (At : Option Addr) (m d : Nat), k ≤ n ∧ i = .int .i64 k ∧ v = .slice At m d ∧ RowKit.Hid (RTick w wr gr A C cd cs xs k (.slice At m d))) (fun _ i _ => n - (intOf i).toNat)
  case atStart => exact ⟨0, none, 0, 0, Nat.zero_le _, rfl, rfl, Lib.hid ⟨by rw [partT_zero]; exact H.out, OwnI.nil _ _, Moved.refl _ _⟩⟩
  case round =>
    obtain ⟨k, At, m, d, hk, rfl, rfl, HT⟩ := hrel
    have r1 := (HT.out.lines.box 1 _ rfl).1
    rw [partT_len, ← HN.out] at r1
    by_cases hlt2 : k < n
    · have hx := List.getElem?_eq_getElem (l := xs) (i := k) (by rw [← HN.out]; exact hlt2)
      generalize xs[k] = x at hx
      have HX := Lib.hid hx
      have hxl := HL.out k x hx
      have hxi := HI.out k x hx
      have hes := goesP_succ hx
      have hps := partT_succ hx
      have hpx := partT_at hx
      have i0 : (0 : Int) ≤ (k : Int) := by omega
      have i1 : (k : Int) < (n : Int) := by omega
      obtain ⟨gd, gs, hA, hC, -, g1, g2, g3, hc⟩ := HT.out.lines.at_ hpx
      subst hA hC
      have hla := HT.out.lines.move (w' := wr.alloc (.cells #[.bool x.held, .bool x.want, .int .i64 x.left] 64)) (Moved.alloc wr _)
      have hma : Moved (hotR (some ⟨gs, 0, none⟩) xs.length cs) wr (wr.alloc (.cells #[.bool x.held, .bool x.want, .int .i64 x.left] 64)) := Moved.alloc wr _
      have hmr : Moved [gs] wr (wr.alloc (.cells #[.bool x.held, .bool x.want, .int .i64 x.left] 64)) := Moved.alloc wr _
      have hta := HT.out.told.moved hma (by intro g hg; have h9 := HSL.out g (by rw [HN.out]; exact hg); omega)
      have r1' := (hla.box 1 _ rfl).1
      rw [partT_len, ← HN.out] at r1'
      have v0 : wr.cell? ⟨gs, k * 3, none⟩ = some (.bool x.held) := (hc 0 _ rfl).1
      have v1 := (hc 1 _ rfl).1
      have v2 := (hc 2 _ rfl).1
      obtain ⟨gd', gs', hA, hC, -, -, -, -, hc'⟩ := hla.at_ hpx
      injection hC with hC
      injection hC with hC
      subst hC
      have u0 : (wr.alloc (.cells #[.bool x.held, .bool x.want, .int .i64 x.left] 64)).cell? ⟨gs, k * 3, none⟩ = some (.bool x.held) := (hc' 0 _ rfl).1
      have f0 : (wr.alloc (.cells #[.bool x.held, .bool x.want, .int .i64 x.left] 64)).frozen? ⟨gs, k * 3, none⟩ = false := (hc' 0 _ rfl).2
      obtain ⟨u1, f1⟩ := hc' 1 _ rfl
      obtain ⟨u2, f2⟩ := hc' 2 _ rfl
      have HLA := Lib.hid hla
      have HTA := Lib.hid hta
      have HPX := Lib.hid hpx
      have HMA := Lib.hid (HT.out.mv.trans hma)
      have hgsw : w.heap.size ≤ w.heap.size := Nat.le_refl _
      have hgl := HSL.out gs hot_mem
      have hz := HT.out.mv.size
      have hmv1 : ∀ (W : World) (p : Addr) (u : Value), p.block = gs → Moved (hotR (some ⟨gs, 0, none⟩) xs.length cs) W (W.setCell p u) := fun W p u hp => Moved.setCell W (by rw [hp]; exact hot_mem) u
      have HMV := Lib.hid hmv1
      have hmk := goesP_len xs k
      have hml : (goesP xs k).length = m := (OwnI.ints HT.out.told).1.symm
      rw [hml] at hmk
      have HML := Lib.hid hml
      obtain ⟨ls, hd, lf, wt⟩ := x
      simp only at *
      clear hc hc' hla hma hmr hta hmv1 hml hgsw
      cases hd with
      | false =>
        obtain ⟨rfl, rfl⟩ := hxi rfl
        clear hxi
        have hp : passL ⟨ls, false, 0, false⟩ = ⟨ls, false, 0, false⟩ := rfl
        have hg : goB ⟨ls, false, 0, false⟩ = false := rfl
        rw [hp, set_self hpx] at hps
        rw [hg, if_neg Bool.false_ne_true, List.append_nil] at hes
        have HES := Lib.hid hes
        have HPS := Lib.hid hps
        clear hp hg hes hps hx hpx
        go_wp2
        go_roundw
        case rel => exact ⟨k + 1, At, m, d, hlt2, by go_num, rfl, Lib.hid ⟨by rw [HPS.out]; exact HLA.out, by rw [HES.out]; exact HTA.out, HMA.out⟩⟩
        case measure => simp [intOf]; omega
      | true =>
        clear hxi
        by_cases h0 : 0 < lf
        · have hp : passL ⟨ls, true, lf, wt⟩ = ⟨ls, true, lf - 1, wt⟩ := by unfold passL; simp [h0]
          have hg : goB ⟨ls, true, lf, wt⟩ = false := by unfold goB; simp [h0]
          rw [hp] at hps
          rw [hg, if_neg Bool.false_ne_true, List.append_nil] at hes
          have hs := HLA.out.set (j := 2) (u := .int .i64 (lf - 1)) (x' := ⟨ls, true, lf - 1, wt⟩) hpx (by omega) rfl rfl
          have HS := Lib.hid hs
          have HES := Lib.hid hes
          have HPS := Lib.hid hps
          have hw1 : IntKind.i64.wrap (lf - 1) = lf - 1 := by rw [IntWalk.i64_in _ (by omega)]
          clear hp hg hes hps hx hpx hs
          go_wp2
          go_roundw
          case rel => exact ⟨k + 1, At, m, d, hlt2, by go_num, rfl, Lib.hid ⟨by rw [HPS.out]; exact HS.out, by rw [HES.out]; exact HTA.out.moved (HMV.out _ ⟨gs, k * 3 + 2, none⟩ _ rfl) (by intro g hg; have := HSL.out g (by rw [HN.out]; exact hg); omega), HMA.out.trans (HMV.out _ ⟨gs, k * 3 + 2, none⟩ _ rfl)⟩⟩
          case measure => simp [intOf]; omega
        · cases wt with
          | false =>
            have hp : passL ⟨ls, true, lf, false⟩ = ⟨ls, true, lf, false⟩ := by unfold passL; simp [h0]
            have hg : goB ⟨ls, true, lf, false⟩ = false := by unfold goB; simp
            rw [hp, set_self hpx] at hps
            rw [hg, if_neg Bool.false_ne_true, List.append_nil] at hes
            have HES := Lib.hid hes
            have HPS := Lib.hid hps
            clear hp hg hes hps hx hpx
            go_wp2
            go_roundw
            case rel => exact ⟨k + 1, At, m, d, hlt2, by go_num, rfl, Lib.hid ⟨by rw [HPS.out]; exact HLA.out, by rw [HES.out]; exact HTA.out, HMA.out⟩⟩
            case measure => simp [intOf]; omega
          | true =>
            have hp : passL ⟨ls, true, lf, true⟩ = ⟨ls, false, 0, false⟩ := by unfold passL; simp [h0]
            have hg : goB ⟨ls, true, lf, true⟩ = true := by unfold goB; simp [h0]
            rw [hp] at hps
            rw [hg, if_pos rfl] at hes
            have s0 := HLA.out.set (j := 0) (u := .bool false) (x' := ⟨ls, false, lf, true⟩) hpx (by omega) rfl rfl
            have s1 := s0.set (k := k) (j := 1) (u := .bool false) (x := ⟨ls, false, lf, true⟩) (x' := ⟨ls, false, lf, false⟩) (List.getElem?_set_self (get_lt hpx)) (by omega) rfl rfl
            rw [List.set_set] at s1
            have s2 := s1.set (k := k) (j := 2) (u := .int .i64 0) (x := ⟨ls, false, lf, false⟩) (x' := ⟨ls, false, 0, false⟩) (List.getElem?_set_self (get_lt hpx)) (by omega) rfl rfl
            rw [List.set_set, ← hps] at s2
            obtain ⟨W5, hW5⟩ : ∃ W5, W5 = ((((wr.alloc (.cells #[.bool true, .bool true, .int .i64 lf] 64)).setCell ⟨gs, k * 3, none⟩ (.bool false)).setCell ⟨gs, k * 3 + 1, none⟩ (.bool false)).setCell ⟨gs, k * 3 + 2, none⟩ (.int .i64 0)) := ⟨_, rfl⟩
            have hM5 : Moved (hotR (some ⟨gs, 0, none⟩) xs.length cs) (wr.alloc (.cells #[.bool true, .bool true, .int .i64 lf] 64)) W5 := by
              rw [hW5]
              exact ((HMV.out _ ⟨gs, k * 3, none⟩ _ rfl).trans (HMV.out _ ⟨gs, k * 3 + 1, none⟩ _ rfl)).trans (HMV.out _ ⟨gs, k * 3 + 2, none⟩ _ rfl)
            have s5 : RefIs W5 gr (some ⟨gd, 0, none⟩) (some ⟨gs, 0, none⟩) cd cs (partT xs (k + 1)) := by rw [hW5]; exact s2
            have t5 := HTA.out.moved hM5 (by intro g hg; have := HSL.out g (by rw [HN.out]; exact hg); omega)
            have hW5' : ((((wr.alloc (.cells #[.bool true, .bool true, .int .i64 lf] 64)).setCell ⟨gs, k * 3, none⟩ (.bool false)).setCell ⟨gs, k * 3 + 1, none⟩ (.bool false)).setCell ⟨gs, k * 3 + 2, none⟩ (.int .i64 0)) = W5 := hW5.symm
            have hown : (W5.alloc (.cells #[.int .i64 (k : Int)] 3)).ownsRow w.heap.size 3 1 (.slice At m d) m (iv (goesP xs k)) := by
              have := t5.moved (H := []) (Moved.alloc W5 (.cells #[.int .i64 (k : Int)] 3)) (fun b hb => by simp at hb)
              unfold OwnI at this
              rwa [HML.out] at this
            have HOWN := Lib.hid hown
            have HES := Lib.hid hes
            have HS5 := Lib.hid s5
            have HM5 := Lib.hid hM5
            have hz5 := hM5.size
            simp only [World.size_alloc] at hz5
            obtain ⟨i3, hi, hz0, hzs, hzb⟩ := info_parts Try.info3
            clear hp hg hes hps hx hpx s0 s1 s2 hW5 hM5 s5 t5 hown
            go_wp2_with (at_builtin; refine wpList_append_own_at _ rfl _ _ 22 rfl w.heap.size 3 i3 (.int .i64 0) 1 8 Try.underlying22 hi hz0 hzs hzb rfl (by decide) _ _ _ rfl HOWN.out ⟨W5.heap.size, 0, none⟩ 1 1 [.int .i64 (k : Int)] rfl rfl (cells_new W5 W5.heap.size rfl _ 3) (by intro u hu; simp at hu; rcases hu with rfl; rfl) (by unfold maxLen; omega) (by omega) (by simp; omega) ?_; intro v6 w6 hown6 hg6 _ hob6; obtain ⟨A6, c6, rfl⟩ := own_shape' hown6; have hmg : Moved (Value.slice At m d).ownBlock.toList W5 w6 := (Moved.alloc W5 _).trans (Moved.of_grown (hot := (Value.slice At m d).ownBlock.toList) (row := (Value.slice At m d).ownBlock) hg6 (by simp)); have HOWN6 := Lib.hid hown6; have HMG := Lib.hid hmg; clear hown6 hg6 hob6 hmg)
            go_roundw
            case rel =>
              have hbl : ∀ g, g ∈ (Value.slice At m d).ownBlock.toList → w.heap.size ≤ g := fun g hg => (HOWN.out.lt g (by simpa using hg)).1
              refine ⟨k + 1, A6, m + 1, c6, hlt2, by go_num, rfl, Lib.hid ⟨HS5.out.apart HMG.out ?_ ?_ ?_, ?_, (HMA.out.trans HM5.out).trans' HMG.out fun g hg => .inr (hbl g hg)⟩⟩
              · intro hg; have := hbl _ hg; have := H.out.box.lt; omega
              · intro g hg hh; have := hbl g hh; rw [hotR_any _ _ _ xs.length cd] at hg; have := (H.out.dLt g hg).2; omega
              · intro g hg hh; have := hbl g hh; rw [hotR_any _ _ _ xs.length cs] at hg; have := (H.out.sLt g hg).2; omega
              · unfold OwnI
                rw [HES.out, iv_snoc, List.length_append, HML.out]
                exact HOWN6.out
            case measure => simp [intOf]; omega
    · have hke : k = n := by omega
      have i1 : ¬ ((k : Int) < (n : Int)) := by omega
      go_wp2
      go_ret
      have hg := HT.out.lines
      have he := HT.out.told
      rw [hke, HN.out] at hg he
      rw [partT_all] at hg
      exact ⟨_, rfl, he, hg, HT.out.mv⟩

end Go.Proofs.Ytpieihjipdgplaa
