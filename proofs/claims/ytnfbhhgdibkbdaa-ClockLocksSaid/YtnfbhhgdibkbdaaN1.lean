/- Plain: what conf.Check tells of the chips that the statements make. -/
import Derived.Test.YtnfbhhgdibkbdaaC
namespace Go.Proofs.Ytnfbhhgdibkbdaa
set_option linter.unusedSimpArgs false
set_option linter.unusedVariables false

theorem nodup_sub_len : ∀ (l m : List Nat), l.Nodup → (∀ x, x ∈ l → x ∈ m) → l.length ≤ m.length
  | [], m, _, _ => Nat.zero_le _
  | x :: l, m, hd, hs => by
    obtain ⟨hx, hd'⟩ := List.nodup_cons.1 hd
    have hm : x ∈ m := hs x (by simp)
    have := nodup_sub_len l (m.erase x) hd' (fun y hy => by
      have hne : y ≠ x := fun e => hx (e ▸ hy)
      exact (List.mem_erase_of_ne hne).2 (hs y (List.mem_cons_of_mem _ hy)))
    rw [List.length_erase_of_mem hm] at this
    have hp : 0 < m.length := List.length_pos_of_mem hm
    simp only [List.length_cons]
    omega
theorem all_len {n : Nat} {o : List Nat} (h : ∀ v, v < n → v ∈ o) : n ≤ o.length := by
  have := nodup_sub_len (List.range n) o List.nodup_range (fun x hx => h x (List.mem_range.1 hx))
  rwa [List.length_range] at this

def Ranked (g : Nat → List Int) (n : Nat) (f : Nat → Nat) : Prop := ∀ v, v < n → ∀ x, x ∈ g v → ∃ y : Nat, y < n ∧ x = (y : Int) ∧ f y < f v
theorem Ranked.closed {g : Nat → List Int} {n : Nat} {f : Nat → Nat} (h : Ranked g n f) : Closed g n := fun v hv x hx => let ⟨y, h1, h2, _⟩ := h v hv x hx; ⟨y, h1, h2⟩
theorem Ranked.ab {g : Nat → List Int} {n : Nat} {f : Nat → Nat} (h : Ranked g n f) {a b : Nat} (hab : Ab g a b) (ha : a < n) : f b < f a := by
  induction hab with
  | @one a b hx =>
    obtain ⟨y, _, e, hy⟩ := h a ha _ hx
    have : b = y := by omega
    rw [this]; exact hy
  | @more a c b hx _ ih =>
    obtain ⟨y, hyn, e, hy⟩ := h a ha _ hx
    have : c = y := by omega
    subst this
    have := ih hyn
    omega
theorem Ranked.full {g : Nat → List Int} {n : Nat} {f : Nat → Nat} (h : Ranked g n f) {o : List Nat} (ho : Had g n o) : o.length = n := by
  have key : ∀ k v, f v = k → v < n → v ∈ o := by
    intro k
    induction k using Nat.strongRecOn with
    | _ k ih =>
      intro v hk hv
      apply Classical.byContradiction
      intro hm
      refine ho.2 v hv ⟨fun hc => hm (mem_ci.1 hc), fun x hx => ?_⟩
      obtain ⟨y, hy, rfl, hf⟩ := h v hv x hx
      exact mem_ci.2 (ih (f y) (by omega) y rfl hy)
  have h1 := all_len (fun v hv => key _ v rfl hv)
  have h2 := ho.1.length_le
  omega

theorem Ranked.closedB {g : Nat → List Int} {n : Nat} {f : Nat → Nat} (h : Ranked g n f) : closedB n g = true := closedB_yes fun i hi x hx => by
  obtain ⟨y, h1, rfl, _⟩ := h i hi x hx
  omega
theorem Ranked.says {g : Nat → List Int} {n : Nat} {f : Nat → Nat} (h : Ranked g n f) (hn : n ≤ 100) {E : Int} {o : List Nat} (hs : OrderSays n g E o) : E = 0 ∧ Had g n o ∧ o.length = n := by
  rcases hs with ⟨h1, _⟩ | ⟨_, h2, _⟩ | ⟨_, _, _, _, p, h3, h4⟩ | ⟨_, _, h5, h6, h7⟩
  · omega
  · rw [h.closedB] at h2; cases h2
  · have := h.full h3; omega
  · exact ⟨h5, h6, h7⟩
open Classical in
theorem least_ready {g : Nat → List Int} {o : List Nat} : ∀ (u : Nat), ReadyI g (ci o) u → ∃ v, v ≤ u ∧ ReadyI g (ci o) v ∧ ∀ x, x < v → ¬ ReadyI g (ci o) x := by
  intro u
  induction u using Nat.strongRecOn with
  | _ u ih =>
    intro h
    by_cases hx : ∃ x, x < u ∧ ReadyI g (ci o) x
    · obtain ⟨x, h1, h2⟩ := hx
      obtain ⟨v, h3, h4⟩ := ih x h1 h2
      exact ⟨v, by omega, h4⟩
    · exact ⟨u, Nat.le_refl _, h, fun x h1 h2 => hx ⟨x, h1, h2⟩⟩
open Classical in
theorem had_from {g : Nat → List Int} {n : Nat} : ∀ (k : Nat) (o : List Nat), Greedy g n o → n ≤ o.length + k → ∃ p, Had g n p := by
  intro k
  induction k with
  | zero =>
    intro o ho hk
    refine ⟨o, ho, fun u hu hr => ?_⟩
    have hm := nodup_all ho.nodup.1 ho.nodup.2 (by omega) hu
    exact hr.1 (mem_ci.2 hm)
  | succ k ih =>
    intro o ho hk
    by_cases hx : ∃ u, u < n ∧ ReadyI g (ci o) u
    · obtain ⟨u, h1, h2⟩ := hx
      obtain ⟨v, h3, h4, h5⟩ := least_ready u h2
      exact ih (o ++ [v]) (.snoc ho (by omega) h4 h5) (by simp; omega)
    · exact ⟨o, ho, fun u hu hr => hx ⟨u, hu, hr⟩⟩
theorem had_ex (g : Nat → List Int) (n : Nat) : ∃ p, Had g n p := had_from n [] .nil (by simp)
theorem closed_of {g : Nat → List Int} {n : Nat} (h : closedB n g = true) : Closed g n := fun i hi x hx => by
  have := closedB_iff.1 h i hi x hx
  exact ⟨x.toNat, by omega, by omega⟩
theorem graphE_ranked {rows : List (List Int)} {f : Nat → Nat} (hn : rows.length ≤ 100) (h : Ranked (gOf rows) rows.length f) : graphE rows = 0 := by
  obtain ⟨p, hp⟩ := had_ex (gOf rows) rows.length
  exact graphE_eq (o := p) (.inr (.inr (.inr ⟨hn, h.closedB, rfl, hp, h.full hp⟩)))
theorem graphE_cycle {rows : List (List Int)} {a : Nat} (hn : rows.length ≤ 100) (hc : closedB rows.length (gOf rows) = true) (ha : a < rows.length) (h : Ab (gOf rows) a a) : graphE rows = 5 := by
  obtain ⟨p, hp⟩ := had_ex (gOf rows) rows.length
  refine graphE_eq (o := []) (.inr (.inr (.inl ⟨hn, hc, rfl, rfl, p, hp, ?_⟩)))
  have h1 := hp.1.length_le
  rcases Nat.lt_or_ge p.length rows.length with h2 | h2
  · exact h2
  · exact absurd h ((hp.topo (by omega)).irrefl (closed_of hc) ha)
theorem graphE_self {rows : List (List Int)} {a : Nat} (hn : rows.length ≤ 100) (hc : closedB rows.length (gOf rows) = true) (ha : a < rows.length) (h : (a : Int) ∈ gOf rows a) : graphE rows = 5 :=
  graphE_cycle hn hc ha (.one h)
/-- a graph each of whose nodes hangs on lesser ones -/
theorem graphE_down {rows : List (List Int)} (hn : rows.length ≤ 100) (h : ∀ (i : Nat) (r : List Int), rows[i]? = some r → ∀ x, x ∈ r → 0 ≤ x ∧ x < (i : Int)) : graphE rows = 0 :=
  graphE_ranked hn (f := fun v => v) fun v hv x hx => by
    have := h v rows[v] (List.getElem?_eq_getElem hv) x (by
      have e : gOf rows v = rows[v] := by unfold gOf; rw [List.getD_eq_getElem?_getD, List.getElem?_eq_getElem hv]; rfl
      rwa [e] at hx)
    exact ⟨x.toNat, by omega, by omega, by show x.toNat < v; omega⟩
theorem gOf_row {rows : List (List Int)} {i : Nat} {r : List Int} (h : rows[i]? = some r) : gOf rows i = r := by unfold gOf; rw [List.getD_eq_getElem?_getD, h]; rfl

theorem firstE_zero {l : List Int} (h : ∀ x, x ∈ l → x = 0) : firstE l = 0 := by
  induction l with
  | nil => rfl
  | cons x l ih => rw [firstE_cons, if_pos (h x (by simp)), ih (fun y hy => h y (by simp [hy]))]

/-! the statements' chips -/
theorem range_at {α : Type} {f : Nat → α} {n i : Nat} {c : α} (h : ((List.range n).map f)[i]? = some c) : i < n ∧ c = f i := by
  rw [List.getElem?_map] at h
  rcases Nat.lt_or_ge i n with hl | hl
  · rw [List.getElem?_range hl] at h
    exact ⟨hl, (Option.some.inj h).symm⟩
  · rw [List.getElem?_eq_none (by simpa using hl)] at h
    cases h
section
variable (d : Nat → Nat)
theorem clks_len (n : Nat) : (clksP d n).length = n + 1 := by simp [clksP]
theorem clks_at {n i : Nat} {c : Clk} (h : (clksP d n)[i]? = some c) : (i = 0 ∧ c = oscP d) ∨ ∃ j, i = j + 1 ∧ j < n ∧ c = clkP d j := by
  cases i with
  | zero => simp [clksP] at h; exact .inl ⟨rfl, h.symm⟩
  | succ j =>
    rw [clksP, List.getElem?_cons_succ] at h
    obtain ⟨hl, rfl⟩ := range_at h
    exact .inr ⟨_, rfl, hl, rfl⟩
theorem kind_cases (j : Nat) : kindP j = 112 ∨ kindP j = 100 ∨ kindP j = 103 ∨ kindP j = 109 := by
  unfold kindP
  repeat' split
  all_goals simp
theorem clkP_frm (i : Nat) : ∀ x, x ∈ (clkP d i).frm → 0 ≤ x ∧ x < ((i + 1 : Nat) : Int) := by
  intro x hx
  have h1 : d (10 + 3 * i + 1) % (i + 1) < i + 1 := Nat.mod_lt _ (Nat.succ_pos i)
  have h2 : d (10 + 3 * i + 2) % (i + 1) < i + 1 := Nat.mod_lt _ (Nat.succ_pos i)
  simp only [clkP] at hx
  split at hx <;> simp only [List.mem_cons, List.not_mem_nil, or_false] at hx
  · rcases hx with rfl | rfl <;> omega
  · subst hx; omega
theorem clkP_len (i : Nat) : (clkP d i).frm.length = if (clkP d i).kind = 109 then 2 else 1 := by
  simp only [clkP]
  by_cases h : kindP (d (10 + 3 * i) % 5) = 109 <;> simp [h]
theorem clkP_joined (i : Nat) : joinedB (clkP d i) = true := by
  have hl := clkP_len d i
  have hk : (clkP d i).kind = kindP (d (10 + 3 * i) % 5) := rfl
  unfold joinedB
  rcases kind_cases (d (10 + 3 * i) % 5) with h | h | h | h <;> rw [h] at hk <;> simp [hl, hk, betw]
theorem clkP_range (i : Nat) : rangeB (clkP d i) = true := by
  have hk : (clkP d i).kind = kindP (d (10 + 3 * i) % 5) := rfl
  have hm : (clkP d i).mul = if (clkP d i).kind = 112 then ((1 + d (10 + 3 * i + 2) % 8 : Nat) : Int) else 0 := rfl
  have hd : (clkP d i).div = if (clkP d i).kind = 112 then ((1 + d (10 + 3 * i + 2) / 8 % 4 : Nat) : Int) else if (clkP d i).kind = 100 then ((1 + d (10 + 3 * i + 2) % 8 : Nat) : Int) else 0 := rfl
  have hl : (clkP d i).lock = if (clkP d i).kind = 112 then ((d (10 + 3 * i + 2) / 32 % 4 : Nat) : Int) else 0 := rfl
  have b1 := Nat.mod_lt (d (10 + 3 * i + 2)) (show 0 < 8 by omega)
  have b2 := Nat.mod_lt (d (10 + 3 * i + 2) / 8) (show 0 < 4 by omega)
  have b3 := Nat.mod_lt (d (10 + 3 * i + 2) / 32) (show 0 < 4 by omega)
  unfold rangeB
  rcases kind_cases (d (10 + 3 * i) % 5) with h | h | h | h <;> rw [h] at hk
  · rw [hk] at hm hd hl ⊢
    simp only [if_neg (show ¬ (112 : Int) = 111 by decide), if_true] at hm hd hl ⊢
    rw [hm, hd, hl, betw_yes (by omega) (by omega), betw_yes (by omega) (by omega), betw_yes (by omega) (by omega)]
    rfl
  · rw [hk] at hd ⊢
    simp only [if_neg (show ¬ (100 : Int) = 111 by decide), if_neg (show ¬ (100 : Int) = 112 by decide), if_true] at hd ⊢
    rw [hd, betw_yes (by omega) (by omega)]
  · rw [hk]; rfl
  · rw [hk]; rfl
theorem nodesB_yes {n : Nat} {xs : List Int} (h : ∀ x, x ∈ xs → 0 ≤ x ∧ x < (n : Int)) : nodesB n xs = true := by
  unfold nodesB
  rw [List.all_eq_true]
  intro x hx
  have := h x hx
  exact betw_yes (by omega) (by omega)
theorem orE3 {a b c : Bool} (h1 : a = true) (h2 : b = true) (h3 : c = true) (x y z : Int) : firstE [orE a x, orE b y, orE c z] = 0 := by subst h1 h2 h3; rfl
/-- a clock of the statements' chip is right, among m clocks -/
theorem clk_right {n m i : Nat} {c : Clk} (hd : ∀ i, d i < 1000000) (h : (clksP d n)[i]? = some c) (hm : n + 1 ≤ m) : clkE m c = 0 := by
  unfold clkE
  rcases clks_at d h with ⟨rfl, rfl⟩ | ⟨j, rfl, hj, rfl⟩
  · have := hd 0
    refine orE3 rfl rfl ?_ _ _ _
    show betw ((1 + d 0 : Nat) : Int) 1 1099511627776 = true
    exact betw_yes (by omega) (by omega)
  · exact orE3 (clkP_joined d j) (nodesB_yes fun x hx => by have := clkP_frm d j x hx; omega) (clkP_range d j) _ _ _
theorem clk_down {n i : Nat} {c : Clk} (h : (clksP d n)[i]? = some c) : ∀ x, x ∈ c.frm → 0 ≤ x ∧ x < (i : Int) := by
  rcases clks_at d h with ⟨rfl, rfl⟩ | ⟨j, rfl, hj, rfl⟩
  · simp [oscP]
  · exact clkP_frm d j
theorem clk_len {n i : Nat} {c : Clk} (h : (clksP d n)[i]? = some c) : c.frm.length ≤ 2 := by
  rcases clks_at d h with ⟨rfl, rfl⟩ | ⟨j, rfl, hj, rfl⟩
  · simp [oscP]
  · rw [clkP_len]; split <;> omega
theorem doms_at {n i : Nat} {c : Dom} (h : (domsP d n)[i]? = some c) : i < n ∧ c = domP d i := range_at h
theorem domP_above (i : Nat) : (domP d i).above = -1 ∨ (0 ≤ (domP d i).above ∧ (domP d i).above < (i : Int)) := by
  simp only [domP]
  split
  · rename_i h
    have := Nat.mod_lt (d (44 + i) / 3) h.1
    right; omega
  · exact .inl rfl
theorem domP_delay (i : Nat) : 0 ≤ (domP d i).delay ∧ (domP d i).delay ≤ 3 := by
  have := Nat.mod_lt (d (40 + i)) (show 0 < 4 by omega)
  simp only [domP]
  omega
theorem rsts_at {n i : Nat} {c : Rst} (h : (rstsP d n)[i]? = some c) : i < n ∧ c = rstP d i := range_at h
theorem rstP_least (i : Nat) : 0 ≤ (rstP d i).least ∧ (rstP d i).least ≤ 3 := by
  have := Nat.mod_lt (d (50 + i)) (show 0 < 4 by omega)
  simp only [rstP]
  omega
theorem devs_at {nc nd nr n i : Nat} {c : Dev} (h : (devsP d nc nd nr n)[i]? = some c) : i < n ∧ c = devP d nc nd nr i := range_at h
theorem devP_needs (nc nd nr i : Nat) : ∀ x, x ∈ (devP d nc nd nr i).needs → 0 ≤ x ∧ x < (i : Int) := by
  intro x hx
  simp only [devP, List.mem_append, need1, need2] at hx
  rcases hx with hx | hx
  · split at hx
    · rename_i h
      have := Nat.mod_lt (d (60 + 12 * i + 10)) h.1
      simp only [List.mem_cons, List.not_mem_nil, or_false] at hx
      omega
    · simp at hx
  · split at hx
    · rename_i h
      have := Nat.mod_lt (d (60 + 12 * i + 11) / 3) (show 0 < i by omega)
      simp only [List.mem_cons, List.not_mem_nil, or_false] at hx
      omega
    · simp at hx
theorem devP_nlen (nc nd nr i : Nat) : (devP d nc nd nr i).needs.length ≤ 2 := by
  simp only [devP, List.length_append, need1, need2]
  split <;> split <;> simp
theorem devP_rlen (nc nd nr i : Nat) : (devP d nc nd nr i).regs.length ≤ 4 := by
  have := Nat.mod_lt (d (60 + 12 * i + 4)) (show 0 < 5 by omega)
  simp only [devP, regsP, List.length_map, List.length_range]
  omega
end

/-- what each of the chips that the statements make is, as far as the check looks -/
structure Plain (s : Chip) : Prop where
  nc : 1 ≤ s.clks.length ∧ s.clks.length ≤ 9
  nd : 1 ≤ s.doms.length ∧ s.doms.length ≤ 4
  nr : 1 ≤ s.rsts.length ∧ s.rsts.length ≤ 3
  nv : 1 ≤ s.devs.length ∧ s.devs.length ≤ 4
  clkR : ∀ (m i : Nat) (c : Clk), s.clks[i]? = some c → s.clks.length ≤ m → clkE m c = 0
  clkD : ∀ (i : Nat) (c : Clk), s.clks[i]? = some c → ∀ x, x ∈ c.frm → 0 ≤ x ∧ x < (i : Int)
  clkL : ∀ (i : Nat) (c : Clk), s.clks[i]? = some c → c.frm.length ≤ 2
  clkO : ∀ (i : Nat) (c : Clk), s.clks[i]? = some c → (c.kind = 111 ↔ c.frm.length = 0)
  clk0 : ∃ r, s.clks[0]? = some ⟨111, [], r, 0, 0, 0⟩
  domA : ∀ (i : Nat) (c : Dom), s.doms[i]? = some c → c.above = -1 ∨ (0 ≤ c.above ∧ c.above < (i : Int))
  domD : ∀ (i : Nat) (c : Dom), s.doms[i]? = some c → 0 ≤ c.delay ∧ c.delay ≤ 20
  rstL : ∀ (i : Nat) (c : Rst), s.rsts[i]? = some c → 0 ≤ c.least ∧ c.least ≤ 20
  devC : ∀ (i : Nat) (c : Dev), s.devs[i]? = some c → 0 ≤ c.clock ∧ c.clock < s.clks.length
  devM : ∀ (i : Nat) (c : Dev), s.devs[i]? = some c → 0 ≤ c.domain ∧ c.domain < s.doms.length
  devS : ∀ (i : Nat) (c : Dev), s.devs[i]? = some c → 0 ≤ c.rst ∧ c.rst < s.rsts.length
  devN : ∀ (i : Nat) (c : Dev), s.devs[i]? = some c → ∀ x, x ∈ c.needs → 0 ≤ x ∧ x < (i : Int)
  devL : ∀ (i : Nat) (c : Dev), s.devs[i]? = some c → c.needs.length ≤ 2 ∧ c.regs.length ≤ 4

theorem plain_chip (d : Nat → Nat) (hd : ∀ i, d i < 1000000) : Plain (chipD d) := by
  have n1 := Nat.mod_lt (d 1) (show 0 < 9 by omega)
  have n2 := Nat.mod_lt (d 2) (show 0 < 4 by omega)
  have n3 := Nat.mod_lt (d 3) (show 0 < 3 by omega)
  have n4 := Nat.mod_lt (d 4) (show 0 < 4 by omega)
  have l1 : (chipD d).clks.length = nClk d + 1 := clks_len d _
  have l2 : (chipD d).doms.length = nDom d := by simp [chipD, domsP]
  have l3 : (chipD d).rsts.length = nRst d := by simp [chipD, rstsP]
  have l4 : (chipD d).devs.length = nDev d := by simp [chipD, devsP]
  refine ⟨?_, ?_, ?_, ?_, ?_, ?_, ?_, ?_, ?_, ?_, ?_, ?_, ?_, ?_, ?_, ?_, ?_⟩
  · rw [l1]; unfold nClk; omega
  · rw [l2]; unfold nDom; omega
  · rw [l3]; unfold nRst; omega
  · rw [l4]; unfold nDev; omega
  · intro m i c h hm; rw [l1] at hm; exact clk_right d hd h hm
  · intro i c h; exact clk_down d h
  · intro i c h; exact clk_len d h
  · intro i c h
    rcases clks_at d h with ⟨rfl, rfl⟩ | ⟨j, rfl, hj, rfl⟩
    · simp [oscP]
    · have hl := clkP_len d j
      have hk : (clkP d j).kind = kindP (d (10 + 3 * j) % 5) := rfl
      rcases kind_cases (d (10 + 3 * j) % 5) with h | h | h | h <;> rw [h] at hk <;> rw [hl, hk] <;> simp
  · exact ⟨_, rfl⟩
  · intro i c h; obtain ⟨_, rfl⟩ := doms_at d h; exact domP_above d i
  · intro i c h; obtain ⟨_, rfl⟩ := doms_at d h; have := domP_delay d i; omega
  · intro i c h; obtain ⟨_, rfl⟩ := rsts_at d h; have := rstP_least d i; omega
  · intro i c h
    obtain ⟨_, rfl⟩ := devs_at d h
    rw [l1]
    have := Nat.mod_lt (d (60 + 12 * i)) (show 0 < nClk d + 1 by omega)
    simp only [devP]
    omega
  · intro i c h
    obtain ⟨_, rfl⟩ := devs_at d h
    rw [l2]
    have := Nat.mod_lt (d (60 + 12 * i + 1)) (show 0 < nDom d by unfold nDom; omega)
    simp only [devP]
    omega
  · intro i c h
    obtain ⟨_, rfl⟩ := devs_at d h
    rw [l3]
    have := Nat.mod_lt (d (60 + 12 * i + 2)) (show 0 < nRst d by unfold nRst; omega)
    simp only [devP]
    omega
  · intro i c h; obtain ⟨_, rfl⟩ := devs_at d h; exact devP_needs d _ _ _ i
  · intro i c h; obtain ⟨_, rfl⟩ := devs_at d h; exact ⟨devP_nlen d _ _ _ i, devP_rlen d _ _ _ i⟩
theorem plain_of (l : List Int) : Plain (chipP l) := plain_chip _ (drawP_lt l)

end Go.Proofs.Ytnfbhhgdibkbdaa
