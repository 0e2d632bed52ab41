/- A file of registers, plainly, and in memory; the tellers. -/
import Derived.Test.YtlolnogkndhfnaaB
namespace Go.Proofs.Ytlolnogkndhfnaa
set_option linter.unusedSimpArgs false
set_option linter.unusedVariables false
open Go.RowKit Go.Maps

structure Rgs where
  reset : Int
  kept : Bool
instance : Inhabited Rgs := ⟨⟨0, false⟩⟩
def RgsV : Reads Rgs := fun x => [.int .u32 x.reset, .bool x.kept]
theorem RgsV_len (x : Rgs) : (RgsV x).length = 2 := rfl
def resets (rs : List Rgs) : List Int := rs.map Rgs.reset
theorem resets_at {rs : List Rgs} {k : Nat} {r : Rgs} (h : rs[k]? = some r) : (resets rs)[k]? = some r.reset := by unfold resets; rw [List.getElem?_map, h]; rfl
theorem resets_len (rs : List Rgs) : (resets rs).length = rs.length := by simp [resets]

/-- a teller: it tells f of the registers; what it needs lies in no hot block -/
inductive TelAt (w : World) (b : Nat) (hot : List Nat) (rs : List Rgs) : Value → List Int → Prop
  | fresh (p : Nat) : w.cell? ⟨p, 0, none⟩ = some (.pointer (some ⟨b, 0, none⟩)) → p ∉ hot → TelAt w b hot rs (.func (.func 30) #[] #[.pointer (some ⟨p, 0, none⟩)]) (resets rs)
  | but (pi pv pr k : Nat) (v : Int) (fv : Value) (f : List Int) : w.cell? ⟨pi, 0, none⟩ = some (.int .i64 (k : Int)) → w.cell? ⟨pv, 0, none⟩ = some (.int .u32 v) → w.cell? ⟨pr, 0, none⟩ = some fv → pi ∉ hot → pv ∉ hot → pr ∉ hot →
      TelAt w b hot rs fv f → TelAt w b hot rs (.func (.func 31) #[] #[.pointer (some ⟨pi, 0, none⟩), .pointer (some ⟨pv, 0, none⟩), .pointer (some ⟨pr, 0, none⟩)]) (f.set k v)
theorem TelAt.move {w w' : World} {b : Nat} {hot : List Nat} {rs : List Rgs} {fv : Value} {f : List Int} (h : TelAt w b hot rs fv f) (hm : Moved hot w w') : TelAt w' b hot rs fv f := by
  induction h with
  | fresh p h1 h2 => exact .fresh p (hm.cell h1 h2) h2
  | but pi pv pr k v fv f h1 h2 h3 n1 n2 n3 _ ih => exact .but pi pv pr k v fv f (hm.cell h1 n1) (hm.cell h2 n2) (hm.cell h3 n3) n1 n2 n3 ih

/-- what a call of a teller gives -/
def Tells (w : World) (fv : Value) (k : Nat) (x : Int) : Prop :=
  (∃ p, fv = .func (.func 30) #[] #[p] ∧ Calls Try.prog 30 #[.int .i64 (k : Int), p] w fun e w' => e = .returned (.int .u32 x) ∧ w = w') ∨
  (∃ p q r, fv = .func (.func 31) #[] #[p, q, r] ∧ Calls Try.prog 31 #[.int .i64 (k : Int), p, q, r] w fun e w' => e = .returned (.int .u32 x) ∧ w = w')

theorem fresh1_any (b p : Nat) (A : Option Addr) (c : Nat) (rs : List Rgs) (k : Nat) (r : Rgs) (w : World) (B : Nat) (hn : rs.length ≤ 8) (hp : w.cell? ⟨p, 0, none⟩ = some (.pointer (some ⟨b, 0, none⟩)))
    (hb : w.cell? ⟨b, 0, none⟩ = some (.slice A rs.length c)) (hR : StrsC RgsV 2 [] w A rs) (hk : rs[k]? = some r) :
    Calls Try.prog 30 #[.int .i64 (k : Int), .pointer (some ⟨p, 0, none⟩)] w fun e w' => e = .returned (.int .u32 r.reset) ∧ w = w' := by
  have hlt := get_lt hk
  obtain ⟨ad, hA, -, -, hc⟩ := hR.at_ hk
  have hc0 : w.cell? (ad.add (k * 2)) = some (.int .u32 r.reset) := hc.zero
  subst hA
  have i0 : (0 : Int) ≤ (k : Int) := by omega
  have i1 : (k : Int) < (rs.length : Int) := by omega
  clear hk hR hc
  go_enter Try.func30, Try.ntmps30
  go_wp2
  go_ret
  exact ⟨rfl, rfl⟩

theorem tel_any (b : Nat) (A : Option Addr) (c : Nat) (rs : List Rgs) (hot : List Nat) (w : World) (hn : rs.length ≤ 8) (hb : w.cell? ⟨b, 0, none⟩ = some (.slice A rs.length c)) (hR : StrsC RgsV 2 hot w A rs)
    (fv : Value) (f : List Int) (h : TelAt w b hot rs fv f) : f.length = rs.length ∧ ∀ k x, f[k]? = some x → Tells w fv k x := by
  have hR' : StrsC RgsV 2 [] w A rs := hR.less (by simp)
  induction h with
  | fresh p h1 h2 =>
    refine ⟨resets_len rs, fun k x hk => .inl ⟨_, rfl, ?_⟩⟩
    have hkl : k < rs.length := by have := get_lt hk; rwa [resets_len] at this
    have hr := List.getElem?_eq_getElem hkl
    have := resets_at hr
    rw [this] at hk
    injection hk with hk
    subst hk
    exact fresh1_any b p A c rs k _ w 0 hn h1 hb hR' hr
  | but pi pv pr j v fv f h1 h2 h3 n1 n2 n3 ht ih =>
    obtain ⟨hl, ih⟩ := ih
    refine ⟨by rw [List.length_set]; exact hl, fun k x hk => .inr ⟨_, _, _, rfl, ?_⟩⟩
    have hkl : k < f.length := by have := get_lt hk; rwa [List.length_set] at this
    by_cases e : k = j
    · subst e
      rw [List.getElem?_set_self hkl] at hk
      injection hk with hk
      subst hk
      have et : ((k : Int) == (k : Int)) = true := by simp
      clear ht ih hl hkl hR hR' h3 hb
      go_enter Try.func31, Try.ntmps31
      go_wp2
      go_ret
      exact ⟨rfl, rfl⟩
    · rw [List.getElem?_set_ne (Ne.symm e)] at hk
      have hT := ih k x hk
      have et : ((k : Int) == (j : Int)) = false := by simp; omega
      have hne : ¬ (k = j) := e
      rcases hT with ⟨p, e1, hC⟩ | ⟨p, q, r, e1, hC⟩
      · subst e1
        have HC := Lib.hid hC
        have eg : ∀ args w, (callFunc 30 args).run Try.prog w = .ok (.enter 30 args) w := fun args w => enters_of Try.func30 (by kernel_rfl) rfl args w
        clear hC ht ih hl hkl hR hR' hb hk h2
        go_enter Try.func31, Try.ntmps31
        go_wp2_with fail
        refine (HC.out).mono ?_
        rintro e w' ⟨rfl, rfl⟩
        go_wp2
        go_ret
        exact ⟨rfl, rfl⟩
      · subst e1
        have HC := Lib.hid hC
        have eg : ∀ args w, (callFunc 31 args).run Try.prog w = .ok (.enter 31 args) w := fun args w => enters_of Try.func31 (by kernel_rfl) rfl args w
        clear hC ht ih hl hkl hR hR' hb hk h2
        go_enter Try.func31, Try.ntmps31
        go_wp2_with fail
        refine (HC.out).mono ?_
        rintro e w' ⟨rfl, rfl⟩
        go_wp2
        go_ret
        exact ⟨rfl, rfl⟩

/-- a file in memory: its box, the row of what its registers are, what tells what Restore makes of them; of the hot blocks Q only those two are its own -/
structure FileIs (w : World) (Q : List Nat) (b gn : Nat) (rs : List Rgs) (now back : List Int) : Prop where
  len : now.length = rs.length
  few : rs.length ≤ 8
  ne : b ≠ gn
  hb : b ∈ Q
  hg : gn ∈ Q
  hQ : ∀ k, k ∈ Q → k < w.heap.size
  box : ∃ A c fv, BoxAt w b [.slice A rs.length c, .slice (some ⟨gn, 0, none⟩) rs.length rs.length, fv] ∧ StrsC RgsV 2 Q w A rs ∧ TelAt w b Q rs fv back
  row : RowAt w gn (u32s now)
theorem hot2 {Q : List Nat} {b gn : Nat} (h1 : b ∈ Q) (h2 : gn ∈ Q) : ∀ k, k ∈ [b, gn] → k ∈ Q := by
  intro k hk
  simp at hk
  rcases hk with rfl | rfl <;> assumption
theorem FileIs.hot {w : World} {Q : List Nat} {b gn : Nat} {rs : List Rgs} {now back : List Int} (h : FileIs w Q b gn rs now back) : ∀ k, k ∈ [b, gn] → k ∈ Q := hot2 h.hb h.hg
/-- .. where others of the hot blocks turn -/
theorem FileIs.far {w w' : World} {Q : List Nat} {b gn : Nat} {rs : List Rgs} {now back : List Int} {hot : List Nat} (h : FileIs w Q b gn rs now back) (hm : Moved hot w w') (hh : ∀ k, k ∈ hot → k ∈ Q) (h1 : b ∉ hot) (h2 : gn ∉ hot) : FileIs w' Q b gn rs now back := by
  obtain ⟨A, c, fv, e1, e2, e3⟩ := h.box
  exact ⟨h.len, h.few, h.ne, h.hb, h.hg, fun k hk => Nat.lt_of_lt_of_le (h.hQ k hk) hm.size, ⟨A, c, fv, e1.move hm h1, e2.move (hm.mono hh), e3.move (hm.mono hh)⟩, h.row.move hm h2⟩
theorem FileIs.move {w w' : World} {Q : List Nat} {b gn : Nat} {rs : List Rgs} {now back : List Int} (h : FileIs w Q b gn rs now back) (hm : Moved [] w w') : FileIs w' Q b gn rs now back := h.far hm (by simp) (by simp) (by simp)
theorem TelAt.more {w : World} {b : Nat} {hot hot' : List Nat} {rs : List Rgs} {fv : Value} {f : List Int} (h : TelAt w b hot rs fv f) (hh : ∀ k, k ∈ hot' → w.heap.size ≤ k) : TelAt w b (hot' ++ hot) rs fv f := by
  have no : ∀ {p : Nat} {v : Value}, w.cell? ⟨p, 0, none⟩ = some v → p ∉ hot → p ∉ hot' ++ hot := fun hc hn hm => by
    rcases List.mem_append.1 hm with hm | hm
    · have h1 := cell_lt hc
      have h2 := hh _ hm
      simp at h1
      omega
    · exact hn hm
  induction h with
  | fresh p h1 h2 => exact .fresh p h1 (no h1 h2)
  | but pi pv pr k v fv f h1 h2 h3 n1 n2 n3 _ ih => exact .but pi pv pr k v fv f h1 h2 h3 (no h1 n1) (no h2 n2) (no h3 n3) ih
/-- blocks that were made since are hot, too -/
theorem FileIs.more {w w' : World} {Q Q' : List Nat} {b gn : Nat} {rs : List Rgs} {now back : List Int} (h : FileIs w Q b gn rs now back) (hm : Moved [] w w') (hh : ∀ k, k ∈ Q' → w.heap.size ≤ k ∧ k < w'.heap.size) : FileIs w' (Q' ++ Q) b gn rs now back := by
  obtain ⟨A, c, fv, e1, e2, e3⟩ := h.box
  refine ⟨h.len, h.few, h.ne, List.mem_append_right _ h.hb, List.mem_append_right _ h.hg, fun k hk => ?_, ⟨A, c, fv, e1.move hm (by simp), ?_, ?_⟩, h.row.move hm (by simp)⟩
  · rcases List.mem_append.1 hk with hk | hk
    · exact (hh k hk).2
    · exact Nat.lt_of_lt_of_le (h.hQ k hk) hm.size
  · intro hl
    obtain ⟨ad, k1, k2, k3, k4⟩ := e2 hl
    refine ⟨ad, k1, Nat.lt_of_lt_of_le k2 hm.size, fun hx => ?_, fun k x hk j v hj => hm.cell (k4 k x hk j v hj) (by simp)⟩
    rcases List.mem_append.1 hx with hx | hx
    · have := (hh _ hx).1; omega
    · exact k3 hx
  · exact (e3.more fun k hk => (hh k hk).1).move (hm.mono (by simp))
theorem FileIs.lt {w : World} {Q : List Nat} {b gn : Nat} {rs : List Rgs} {now back : List Int} (h : FileIs w Q b gn rs now back) : b < w.heap.size ∧ gn < w.heap.size := ⟨h.hQ _ h.hb, h.hQ _ h.hg⟩

/-- is there a register i? -/
def hasB (n : Nat) (i : Int) : Bool := decide (0 ≤ i ∧ i < n)
theorem hasB_yes {n k : Nat} (h : k < n) : hasB n (k : Int) = true := by unfold hasB; simp; omega
theorem hasB_ex {n : Nat} {i : Int} (h : hasB n i = true) : ∃ k : Nat, k < n ∧ i = (k : Int) := by unfold hasB at h; simp at h; exact ⟨i.toNat, by omega, by omega⟩
theorem hasB_no {n : Nat} {i : Int} (h : i < 0 ∨ (n : Int) ≤ i) : hasB n i = false := by unfold hasB; simp; omega
theorem has_any (Q : List Nat) (b gn : Nat) (rs : List Rgs) (now back : List Int) (i : Int) (w : World) (hi : wfI i) (h : FileIs w Q b gn rs now back) :
    Calls Try.prog 27 #[.pointer (some ⟨b, 0, none⟩), .int .i64 i] w fun e w' => e = .returned (.bool (hasB rs.length i)) ∧ w = w' := by
  obtain ⟨A, c, fv, hB, -, -⟩ := h.box
  have b1 := (hB 1 _ rfl).1
  have h8 := h.few
  clear hB h
  by_cases h0 : 0 ≤ i
  · have h0' : decide (0 ≤ i) = true := by simpa using h0
    by_cases h1 : i < rs.length
    · have h1' : decide (i < (rs.length : Int)) = true := by simpa using h1
      have hm : hasB rs.length i = true := by unfold hasB; simp [h0, h1]
      rw [hm]
      clear hm
      go_enter Try.func27, Try.ntmps27
      go_wp2
      go_ret
      exact ⟨rfl, rfl⟩
    · have h1' : decide (i < (rs.length : Int)) = false := by simpa using h1
      have hm : hasB rs.length i = false := hasB_no (.inr (by omega))
      rw [hm]
      clear hm
      go_enter Try.func27, Try.ntmps27
      go_wp2
      go_ret
      exact ⟨rfl, rfl⟩
  · have h0' : decide (0 ≤ i) = false := by simpa using h0
    have hm : hasB rs.length i = false := hasB_no (.inl (by omega))
    rw [hm]
    clear hm
    go_enter Try.func27, Try.ntmps27
    go_wp2
    go_ret
    exact ⟨rfl, rfl⟩

end Go.Proofs.Ytlolnogkndhfnaa
