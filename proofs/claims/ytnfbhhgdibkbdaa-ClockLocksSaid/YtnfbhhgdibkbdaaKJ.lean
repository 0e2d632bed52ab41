/- Chains, plainly: from an oscillator down, and what runs of them is their head. -/
import Derived.Test.YtnfbhhgdibkbdaaKC
import Derived.Test.YtnfbhhgdibkbdaaN2
import Derived.Test.YtnfbhhgdibkbdaaH11
import Derived.Test.YtnfbhhgdibkbdaaF1
import Derived.Test.YtnfbhhgdibkbdaaD
namespace Go.Proofs.Ytnfbhhgdibkbdaa
section
set_option linter.unusedSimpArgs false
set_option linter.unusedVariables false
open Go.RowKit Go.Maps

structure ChainOk (sts : List Sta) (k : Nat) (l : List Int) : Prop where
  ne : 0 < l.length
  last : l[l.length - 1]? = some (k : Int)
  head : ∃ (h : Nat) (x : Sta), l[0]? = some (h : Int) ∧ sts[h]? = some x ∧ x.clk.kind = 111
  mem : ∀ y, y ∈ l → ∃ n : Nat, y = (n : Int) ∧ n ≤ k
  pre : ∀ (j : Nat) (y : Int), l[j]? = some y → runI sts y = (l.take (j + 1)).all (runI sts)
theorem runN_src {x : Sta} {r : Bool} (h : x.clk.kind ≠ 111) : runN x r = (r && runN x r) := by
  unfold runN
  rw [if_neg h]
  cases r
  · split
    · simp
    · split
      · simp
      · rfl
  · simp
theorem chain_ok {sts : List Sta} (hr : RightT sts) : ∀ (k : Nat), k < sts.length → ChainOk sts k (chP sts k) := by
  intro k
  induction k using Nat.strongRecOn with
  | _ k ih =>
    intro hk
    have hx := List.getElem?_eq_getElem hk
    obtain ⟨x, ex⟩ : ∃ x, x = sts[k] := ⟨_, rfl⟩
    rw [← ex] at hx
    clear ex
    by_cases h1 : x.clk.kind = 111
    · rw [chP_osc hx h1 []]
      unfold chN
      rw [if_pos h1]
      refine ⟨by simp, by simp, ⟨k, x, by simp, hx, h1⟩, fun y hy => ⟨k, by simpa using hy, Nat.le_refl _⟩, fun j y hj => ?_⟩
      match j, hj with
      | 0, hj =>
        obtain rfl : (k : Int) = y := by simpa using hj
        simp
    · obtain ⟨m, y, e1, e2, e3⟩ := (hr k x hx).2 h1
      have hc := ih y e3 (by omega)
      have er := runP_at hr hx h1 e1 e2 e3
      rw [chP_at hr hx h1 e1 e2 e3]
      unfold chN
      rw [if_neg h1]
      obtain ⟨l, el⟩ : ∃ l, l = chP sts y := ⟨_, rfl⟩
      rw [← el] at hc ⊢
      have hne := hc.ne
      have hall : runI sts (y : Int) = l.all (runI sts) := by
        have := hc.pre _ _ hc.last
        rwa [show l.length - 1 + 1 = l.length by omega, List.take_length] at this
      have hpk : runI sts (k : Int) = (l.all (runI sts) && runI sts (k : Int)) := by
        rw [← hall, runI_at hk, runI_at (by omega), er]
        exact runN_src h1
      refine ⟨by simp, by simp, ?_, fun z hz => ?_, fun j z hj => ?_⟩
      · obtain ⟨h, x0, a1, a2, a3⟩ := hc.head
        exact ⟨h, x0, by rw [List.getElem?_append_left hne]; exact a1, a2, a3⟩
      · rcases List.mem_append.1 hz with hz | hz
        · obtain ⟨n, e, hn⟩ := hc.mem z hz
          exact ⟨n, e, by omega⟩
        · exact ⟨k, by simpa using hz, Nat.le_refl _⟩
      · rcases Nat.lt_or_ge j l.length with hl | hl
        · rw [List.getElem?_append_left hl] at hj
          rw [hc.pre j z hj, List.take_append_of_le_length (by omega)]
        · rw [List.getElem?_append_right hl] at hj
          have hj0 : j - l.length = 0 := by
            have := (List.getElem?_eq_some_iff.1 hj).1
            simp at this
            omega
          rw [hj0] at hj
          obtain rfl : (k : Int) = z := by simpa using hj
          rw [List.take_of_length_le (by simp; omega), List.all_append]
          simpa using hpk
theorem chain_okI {sts : List Sta} (hr : RightT sts) {k : Nat} (hk : k < sts.length) : ChainOk sts k (chI sts (k : Int)) := by
  have e : chI sts (k : Int) = chP sts k := by
    unfold chI hasB
    simp [hk]
  rw [e]
  exact chain_ok hr k hk

/-! the clocks of a tree: On, Select, Tick leave them, but for how they stand -/
def clksT (sts : List Sta) : List Clk := sts.map Sta.clk
theorem set_same {α : Type} {l : List α} {n : Nat} {a : α} (h : l[n]? = some a) : l.set n a = l := by
  have hl := get_lt h
  apply List.ext_getElem?
  intro j
  by_cases e : n = j
  · subst e
    rw [List.getElem?_set_self hl, h]
  · rw [List.getElem?_set_ne e]
theorem setT_clk (sts : List Sta) (i : Int) {f : Sta → Sta} (hf : ∀ x, (f x).clk = x.clk) : clksT (setT sts i f) = clksT sts := by
  unfold setT clksT
  cases hx : sts[i.toNat]? with
  | none => rfl
  | some x =>
    show (sts.set i.toNat (f x)).map Sta.clk = _
    rw [List.map_set, hf]
    exact set_same (by rw [List.getElem?_map, hx]; rfl)
theorem onS_clk (b : Bool) (x : Sta) : (onS b x).clk = x.clk := by
  unfold onS unlockS
  split
  · rfl
  · split <;> rfl
theorem onT_clk (sts : List Sta) (i : Int) (b : Bool) : clksT (onT sts i b) = clksT sts := by
  unfold onT
  split
  · exact setT_clk sts i (onS_clk b)
  · rfl
theorem selT_clk (sts : List Sta) (i k : Int) : clksT (selT sts i k) = clksT sts := by
  unfold selT
  split
  · exact setT_clk sts i fun x => rfl
  · rfl
theorem tickS_clk (sts : List Sta) (x : Sta) : (tickS sts x).clk = x.clk := by
  unfold tickS
  split
  · split <;> rfl
  · split
    · split <;> rfl
    · rfl
theorem tickT_clk (sts : List Sta) : clksT (tickT sts) = clksT sts := by
  unfold tickT clksT
  rw [List.map_map]
  exact List.map_congr_left fun x _ => tickS_clk sts x
theorem fresh_clk (cs : List Clk) : clksT (cs.map freshS) = cs := by
  unfold clksT
  rw [List.map_map]
  exact (List.map_congr_left fun x _ => rfl).trans (List.map_id cs)
theorem clksT_at {sts : List Sta} {cs : List Clk} (h : clksT sts = cs) {k : Nat} {x : Sta} (hx : sts[k]? = some x) : cs[k]? = some x.clk := by
  rw [← h]
  unfold clksT
  rw [List.getElem?_map, hx]
  rfl
end

section
set_option linter.unusedSimpArgs false
set_option linter.unusedVariables false
open Go.RowKit Go.Maps

theorem clkE_range {n : Nat} {c : Clk} (hr : clkE n c = 0) : rangeB c = true := by
  cases hrb : rangeB c with
  | true => rfl
  | false =>
    exfalso
    unfold clkE at hr
    rw [hrb] at hr
    cases hjb : joinedB c <;> cases hnb : nodesB n c.frm <;> rw [hjb, hnb] at hr <;> simp [firstE, orE] at hr
theorem range_rate {c : Clk} (hj : rangeB c = true) : RateOk (freshS c) := by
  unfold rangeB at hj
  refine ⟨fun e => ?_, fun e => ?_, fun e => ?_⟩
  · have e : c.kind = 111 := e
    rw [if_pos e] at hj
    simp [betw] at hj
    exact ⟨by show 0 ≤ c.rate; omega, by show c.rate ≤ _; omega⟩
  · have e : c.kind = 112 := e
    rw [if_neg (by omega), if_pos e] at hj
    simp [betw] at hj
    exact ⟨⟨hj.1.1.1, hj.1.1.2⟩, hj.1.2⟩
  · have e : c.kind = 100 := e
    rw [if_neg (by omega), if_neg (by omega), if_pos e] at hj
    simp [betw] at hj
    exact hj
theorem FitT.start {s : Chip} (h : Plain s) : FitT (s.clks.map freshS) := fun k x hx => ⟨InvT.start h k x hx, by
  rw [List.getElem?_map] at hx
  cases hc : s.clks[k]? with
  | none => rw [hc] at hx; cases hx
  | some c =>
    rw [hc] at hx
    obtain rfl : freshS c = x := Option.some.inj hx
    exact range_rate (clkE_range (h.clkR s.clks.length k c hc (Nat.le_refl _)))⟩
/-- New of a chip of raw numbers -/
theorem new_chip {B : Nat} {l : List Int} {w3 wr : World} {v1 v2 v3 v4 : Value} (ho : Own4 wr B (chipP l) v1 v2 v3 v4) (hb : Below w3.heap.size w3 wr) :
    Calls Try.prog 12 #[.agg #[v1, v2, v3, v4]] wr fun e w' => ∃ gt, e = .returned (.tuple #[.pointer (some ⟨gt, 0, none⟩), .int .i64 0]) ∧ Tw w3 w' gt ((chipP l).clks.map freshS) ∧ Below wr.heap.size wr w' :=
  new_tw (chipP l) [v1, v2, v3, v4] w3 wr (plain_of l).ok ho.chip (plain_of l).right (FitT.start (plain_of l)) (by have := (plain_of l).nc; omega) hb
end

section
set_option linter.unusedSimpArgs false
set_option linter.unusedVariables false
open Go.ChangeShapes Go.WideShapes Go.ChangeAt Go.RowKit Go.Deep Go.Joins Go.Maps

structure Acts where
  op : Int
  i : Int
  k : Int
instance : Inhabited Acts := ⟨⟨0, 0, 0⟩⟩
def ActV : Reads Acts := fun _ _ x vs => vs = [.int .i64 x.op, .int .i64 x.i, .int .i64 x.k]
instance : Steady ActV := ⟨fun h _ => h, fun h _ => h⟩
structure ActW (x : Acts) : Prop where
  op : wfI x.op
  i : wfI x.i
  k : wfI x.k
theorem Try.cells40 : Try.prog.cellsOf 40 = 3 := by kernel_rfl
section
variable {H : Type} {enc : TypeId × Value → H} {W : World}
set_option maxRecDepth 100000 in
theorem act_read (m : Nat) (cs : List Value) (z : DataW H × List MemPlace) (hl : cs.length = 3) (h : DataW.trod enc Try.prog W 0 (fun _ => true) true m 40 cs = some z) : ∃ x : Acts, ActW x ∧ ActV W W.heap.size x cs := by
  obtain ⟨ys, n, -, -, -, hyl, hf⟩ := DataW.trod_struct Try.underlying40 h
  match cs, hl with
  | [c0, c1, c2], _ =>
    obtain ⟨y0, g0⟩ := fld_read (hf 0 _ rfl) Try.cellsN3 rfl (by rw [hyl]; decide)
    obtain ⟨y1, g1⟩ := fld_read (hf 1 _ rfl) Try.cellsN3 rfl (by rw [hyl]; decide)
    obtain ⟨y2, g2⟩ := fld_read (hf 2 _ rfl) Try.cellsN3 rfl (by rw [hyl]; decide)
    obtain ⟨a, rfl, w0⟩ := int_read Try.underlying3 g0
    obtain ⟨b, rfl, w1⟩ := int_read Try.underlying3 g1
    obtain ⟨c, rfl, w2⟩ := int_read Try.underlying3 g2
    exact ⟨⟨a, b, c⟩, ⟨wf_bounds w0, wf_bounds w1, wf_bounds w2⟩, rfl⟩
theorem acts_arg {a0 : Option Addr} {len cap : Nat} {d : DataW H} {p : List MemPlace} (h : DataW.Trod enc Try.prog W 0 (fun _ => true) true 36 (.slice a0 len cap) d p) :
    ∃ xs : List Acts, xs.length = len ∧ len ≤ maxLen ∧ StrsAt ActV 3 W W.heap.size a0 xs ∧ ∀ x, x ∈ xs → ActW x := by
  obtain ⟨n, hn⟩ := h
  have hn' : DataW.trod enc Try.prog W 0 (fun _ => true) true n 36 [.slice a0 len cap] = some (d, p) := by simpa [Value.cells] using hn
  obtain ⟨A, len', cap', xs, e, hl, hc, hm, hs, hw⟩ := strs_read (V := ActV) (Q := ActW) Try.underlying36 Try.cells40 (by omega) act_read hn'
  injection e with e1 e2 e3
  subst e1 e2 e3
  exact ⟨xs, hl, hm, hs, hw⟩
end
/-- the acts read as they did -/
theorem acts_at {w w3 wr : World} {A : Option Addr} {xs : List Acts} (h : StrsAt ActV 3 w w.heap.size A xs) (h3 : Below w.heap.size w w3) (hb : Below w3.heap.size w3 wr) {k : Nat} (hk : k < xs.length) :
    ∃ ad, A = some ad ∧ wr.cell? (ad.add (k * 3)) = some (.int .i64 xs[k].op) ∧ wr.cell? ⟨(ad.add (k * 3)).block, (ad.add (k * 3)).off + (0 + 1), none⟩ = some (.int .i64 xs[k].i) ∧ wr.cell? ⟨(ad.add (k * 3)).block, (ad.add (k * 3)).off + (1 + 1), none⟩ = some (.int .i64 xs[k].k) := by
  obtain ⟨ad, us, hA, hab, hV, hAg⟩ := (h.below (h3.trans (hb.mono h3.size)) (Nat.le_refl _)).at_ hk
  have e : us = [.int .i64 xs[k].op, .int .i64 xs[k].i, .int .i64 xs[k].k] := hV
  subst e
  exact ⟨ad, hA, hAg.zero, hAg.at_ 0 rfl, hAg.at_ 1 rfl⟩
/-- the clocks of the description read as they did -/
theorem clks_at' {w3 wr : World} {A : Option Addr} {clks : List Clk} (h : StrsAt ClkV 6 w3 w3.heap.size A clks) (hb : Below w3.heap.size w3 wr) {k : Nat} {d : Clk} (hd : clks[k]? = some d) :
    ∃ ad F c, A = some ad ∧ wr.cell? (ad.add (k * 6)) = some (.int .u8 d.kind) ∧ wr.cell? ⟨(ad.add (k * 6)).block, (ad.add (k * 6)).off + (0 + 1), none⟩ = some (.slice F d.frm.length c) ∧
      wr.cell? ⟨(ad.add (k * 6)).block, (ad.add (k * 6)).off + (1 + 1), none⟩ = some (.int .u64 d.rate) ∧ wr.cell? ⟨(ad.add (k * 6)).block, (ad.add (k * 6)).off + (2 + 1), none⟩ = some (.int .i64 d.mul) ∧
      wr.cell? ⟨(ad.add (k * 6)).block, (ad.add (k * 6)).off + (3 + 1), none⟩ = some (.int .i64 d.div) ∧ wr.cell? ⟨(ad.add (k * 6)).block, (ad.add (k * 6)).off + (4 + 1), none⟩ = some (.int .i64 d.lock) ∧ IntsAt wr w3.heap.size F d.frm := by
  have hk := get_lt hd
  obtain ⟨ad, us, hA, hab, ⟨F, c, e, hc, hI⟩, hAg⟩ := (h.below hb (Nat.le_refl _)).at_ hk
  have e2 : clks[k] = d := by rw [List.getElem?_eq_getElem hk] at hd; injection hd
  rw [e2] at e hI
  subst e
  exact ⟨ad, F, c, hA, hAg.zero, hAg.at_ 0 rfl, hAg.at_ 1 rfl, hAg.at_ 2 rfl, hAg.at_ 3 rfl, hAg.at_ 4 rfl, hI⟩
end

section
set_option linter.unusedSimpArgs false
set_option linter.unusedVariables false
open Go.RowKit Go.Maps

/-- the ticks that the PLLs of a clock's chain have left together -/
def restF (sts : List Sta) : Nat → Nat → Int
  | 0, _ => 0
  | f + 1, k => match sts[k]? with | some x => if x.clk.kind = 111 then 0 else x.left + restF sts f (x.clk.frm.getD x.set.toNat 0).toNat | none => 0
def restP (sts : List Sta) (k : Nat) : Int := restF sts (k + 1) k
theorem src_of {x : Sta} {m y : Nat} (e1 : x.set = (m : Int)) (e2 : x.clk.frm[m]? = some (y : Int)) : x.clk.frm.getD x.set.toNat 0 = (y : Int) := by
  rw [e1, Int.toNat_natCast, List.getD_eq_getElem?_getD, e2]
  rfl
theorem restF_more {sts : List Sta} (h : RightT sts) : ∀ (k f : Nat), k < f → restF sts f k = restP sts k := by
  intro k
  induction k using Nat.strongRecOn with
  | _ k ih =>
    intro f hf
    obtain ⟨f', rfl⟩ : ∃ f', f = f' + 1 := ⟨f - 1, by omega⟩
    unfold restP
    show (match sts[k]? with | some x => if x.clk.kind = 111 then 0 else x.left + restF sts f' (x.clk.frm.getD x.set.toNat 0).toNat | none => 0) = (match sts[k]? with | some x => if x.clk.kind = 111 then 0 else x.left + restF sts k (x.clk.frm.getD x.set.toNat 0).toNat | none => 0)
    cases hx : sts[k]? with
    | none => rfl
    | some x =>
      by_cases h1 : x.clk.kind = 111
      · simp [h1]
      · obtain ⟨m, y, e1, e2, e3⟩ := (h k x hx).2 h1
        simp only [if_neg h1]
        rw [src_of e1 e2, Int.toNat_natCast, ih y e3 f' (by omega), ih y e3 k e3]
theorem restP_at {sts : List Sta} (h : RightT sts) {k m y : Nat} {x : Sta} (hx : sts[k]? = some x) (h1 : x.clk.kind ≠ 111) (e1 : x.set = (m : Int)) (e2 : x.clk.frm[m]? = some (y : Int)) (e3 : y < k) : restP sts k = x.left + restP sts y := by
  show (match sts[k]? with | some x => if x.clk.kind = 111 then 0 else x.left + restF sts k (x.clk.frm.getD x.set.toNat 0).toNat | none => 0) = _
  rw [hx]
  simp only [if_neg h1]
  rw [src_of e1 e2, Int.toNat_natCast, restF_more h y k e3]
theorem restP_osc {sts : List Sta} {k : Nat} {x : Sta} (hx : sts[k]? = some x) (h1 : x.clk.kind = 111) : restP sts k = 0 := by
  show (match sts[k]? with | some x => if x.clk.kind = 111 then 0 else x.left + restF sts k (x.clk.frm.getD x.set.toNat 0).toNat | none => 0) = _
  rw [hx]
  simp only [if_pos h1]
theorem restP_none {sts : List Sta} {k : Nat} (hx : sts[k]? = none) : restP sts k = 0 := by
  show (match sts[k]? with | some x => if x.clk.kind = 111 then 0 else x.left + restF sts k (x.clk.frm.getD x.set.toNat 0).toNat | none => 0) = _
  rw [hx]

/-- a clock of a chain all of which is on -/
structure LockS (sts : List Sta) (x : Sta) : Prop where
  on : x.clk.kind = 112 ∨ x.clk.kind = 103 → x.on = true
  none : x.clk.kind ≠ 112 → x.left = 0
  full : x.clk.kind = 112 → restP sts (x.clk.frm.getD x.set.toNat 0).toNat ≠ 0 → x.left = x.clk.lock
  still : x.want = x.set
def LockIn (sts : List Sta) (k : Nat) : Prop := ∀ (n : Nat) (x : Sta), (n : Int) ∈ chP sts k → sts[n]? = some x → LockS sts x
section
variable {sts : List Sta} (hv : InvT sts)
include hv
theorem ch_self {k : Nat} {x : Sta} (hx : sts[k]? = some x) : (k : Int) ∈ chP sts k := by
  by_cases h1 : x.clk.kind = 111
  · rw [chP_osc hx h1 []]
    unfold chN
    rw [if_pos h1]
    simp
  · obtain ⟨m, y, e1, e2, e3⟩ := (hv.right k x hx).2 h1
    rw [chP_at hv.right hx h1 e1 e2 e3]
    unfold chN
    rw [if_neg h1]
    simp
theorem ch_down {k m y : Nat} {x : Sta} (hx : sts[k]? = some x) (h1 : x.clk.kind ≠ 111) (e1 : x.set = (m : Int)) (e2 : x.clk.frm[m]? = some (y : Int)) (e3 : y < k) : chP sts k = chP sts y ++ [(k : Int)] := by
  rw [chP_at hv.right hx h1 e1 e2 e3]
  unfold chN
  rw [if_neg h1]
/-- it runs when none has any left -/
theorem lock_run : ∀ (k : Nat), k < sts.length → LockIn sts k → 0 ≤ restP sts k ∧ runP sts k = decide (restP sts k = 0) := by
  intro k
  induction k using Nat.strongRecOn with
  | _ k ih =>
    intro hk hl
    obtain ⟨x, hx⟩ : ∃ x, sts[k]? = some x := ⟨_, List.getElem?_eq_getElem hk⟩
    by_cases h1 : x.clk.kind = 111
    · rw [restP_osc hx h1, runP_osc hx h1 true]
      unfold runN
      rw [if_pos h1]
      exact ⟨Int.le_refl _, rfl⟩
    · obtain ⟨m, y, e1, e2, e3⟩ := (hv.right k x hx).2 h1
      have hd := ch_down hv hx h1 e1 e2 e3
      obtain ⟨r0, r1⟩ := ih y e3 (by omega) fun n z hn hz => hl n z (by rw [hd]; exact List.mem_append_left _ hn) hz
      have hs := hl k x (ch_self hv hx) hx
      have ho := (hv k x hx).left
      rw [restP_at hv.right hx h1 e1 e2 e3, runP_at hv.right hx h1 e1 e2 e3, r1]
      refine ⟨by omega, ?_⟩
      unfold runN
      rw [if_neg h1]
      by_cases h2 : x.clk.kind = 112
      · rw [if_pos h2, hs.on (.inl h2)]
        by_cases a : x.left = 0
        · simp [a]
        · have : ¬ x.left + restP sts y = 0 := by omega
          simp [a, this]
      · rw [if_neg h2, hs.none h2]
        by_cases h3 : x.clk.kind = 103
        · rw [if_pos h3, hs.on (.inr h3)]
          simp
        · rw [if_neg h3]
          simp
end
theorem tickS_set {sts : List Sta} {x : Sta} (h : x.want = x.set) : (tickS sts x).set = x.set := by
  unfold tickS
  split
  · split <;> rfl
  · split
    · split
      · exact h
      · rfl
    · rfl
theorem tickS_want (sts : List Sta) (x : Sta) : (tickS sts x).want = x.want := by
  unfold tickS
  split
  · split <;> rfl
  · split
    · split <;> rfl
    · rfl
theorem tickS_on (sts : List Sta) (x : Sta) : (tickS sts x).on = x.on := by
  unfold tickS
  split
  · split <;> rfl
  · split
    · split <;> rfl
    · rfl
theorem tickS_left {sts : List Sta} {x : Sta} (h : x.clk.kind ≠ 112) : (tickS sts x).left = x.left := by
  unfold tickS
  rw [if_neg h]
  split
  · split <;> rfl
  · rfl
theorem tickS_pll {sts : List Sta} {x : Sta} (h : x.clk.kind = 112) (ho : x.on = true) : (tickS sts x).left = lockP 112 x.clk.lock x.left (runI sts (srcP x)) := by
  unfold tickS
  rw [if_pos h, if_pos ho]
/-- a tick takes one of what a chain has left -/
theorem lock_tick {sts : List Sta} (hv : InvT sts) (hv' : InvT (tickT sts)) : ∀ (k : Nat), k < sts.length → LockIn sts k →
    chP (tickT sts) k = chP sts k ∧ restP (tickT sts) k = (if restP sts k = 0 then 0 else restP sts k - 1) ∧ LockIn (tickT sts) k := by
  intro k
  induction k using Nat.strongRecOn with
  | _ k ih =>
    intro hk hl
    obtain ⟨x, hx⟩ : ∃ x, sts[k]? = some x := ⟨_, List.getElem?_eq_getElem hk⟩
    have hx' := tickT_at hx
    have hc := tickS_clk sts x
    have hs := hl k x (ch_self hv hx) hx
    by_cases h1 : x.clk.kind = 111
    · have h1' : (tickS sts x).clk.kind = 111 := by rw [hc]; exact h1
      have e : chP (tickT sts) k = [(k : Int)] := by rw [chP_osc hx' h1' []]; unfold chN; rw [if_pos h1']
      have e' : chP sts k = [(k : Int)] := by rw [chP_osc hx h1 []]; unfold chN; rw [if_pos h1]
      refine ⟨by rw [e, e'], by rw [restP_osc hx h1, restP_osc hx' h1']; rfl, fun n z hn hz => ?_⟩
      rw [e] at hn
      obtain rfl : n = k := Int.ofNat_inj.1 (by simpa using hn)
      rw [hx'] at hz
      obtain rfl := Option.some.inj hz
      refine ⟨fun h => ?_, fun h => ?_, fun h => ?_, ?_⟩
      · rw [hc] at h; omega
      · rw [tickS_left (by omega)]; exact hs.none (by omega)
      · rw [hc] at h; omega
      · rw [tickS_want, tickS_set hs.still]; exact hs.still
    · obtain ⟨m, y, e1, e2, e3⟩ := (hv.right k x hx).2 h1
      have h1' : (tickS sts x).clk.kind ≠ 111 := by rw [hc]; exact h1
      have e1' : (tickS sts x).set = (m : Int) := by rw [tickS_set hs.still]; exact e1
      have e2' : (tickS sts x).clk.frm[m]? = some (y : Int) := by rw [hc]; exact e2
      have hd := ch_down hv hx h1 e1 e2 e3
      have hd' := ch_down hv' hx' h1' e1' e2' e3
      have hly : LockIn sts y := fun n z hn hz => hl n z (by rw [hd]; exact List.mem_append_left _ hn) hz
      obtain ⟨c1, c2, c3⟩ := ih y e3 (by omega) hly
      obtain ⟨r0, r1⟩ := lock_run hv y (by omega) hly
      have hsrc : runI sts (srcP x) = decide (restP sts y = 0) := by
        have : srcP x = (y : Int) := src_of e1 e2
        rw [this, runI_at (by omega), r1]
      have ho := (hv k x hx).left
      have hch : chP (tickT sts) k = chP sts k := by rw [hd', hd, c1]
      have hleft : (tickS sts x).left + restP (tickT sts) y = (if x.left + restP sts y = 0 then 0 else x.left + restP sts y - 1) ∧ (x.clk.kind = 112 → restP (tickT sts) y ≠ 0 → (tickS sts x).left = x.clk.lock) := by
        rw [c2]
        by_cases h2 : x.clk.kind = 112
        · rw [tickS_pll h2 (hs.on (.inl h2)), hsrc]
          unfold lockP
          by_cases hz : restP sts y = 0
          · rw [hz]
            simp only [decide_true, if_true]
            constructor
            · split <;> split <;> omega
            · intro _ h; exact absurd rfl h
          · have hf := hs.full h2 (by rw [src_of e1 e2, Int.toNat_natCast]; exact hz)
            simp only [hz, decide_false, Bool.false_eq_true, if_false, if_true]
            constructor
            · rw [if_neg (by omega)]; omega
            · intro _ _; trivial
        · rw [tickS_left h2, hs.none h2]
          refine ⟨?_, fun h => absurd h h2⟩
          split <;> split <;> omega
      refine ⟨hch, ?_, fun n z hn hz => ?_⟩
      · rw [restP_at hv'.right hx' h1' e1' e2' e3, restP_at hv.right hx h1 e1 e2 e3]
        exact hleft.1
      · rw [hd'] at hn
        rcases List.mem_append.1 hn with hn | hn
        · exact c3 n z hn hz
        · obtain rfl : n = k := Int.ofNat_inj.1 (by simpa using hn)
          rw [hx'] at hz
          obtain rfl := Option.some.inj hz
          refine ⟨fun h => ?_, fun h => ?_, fun h h' => ?_, ?_⟩
          · rw [hc] at h; rw [tickS_on]; exact hs.on h
          · rw [hc] at h; rw [tickS_left h]; exact hs.none h
          · rw [src_of e1' e2', Int.toNat_natCast] at h'
            rw [hc] at h ⊢
            exact hleft.2 h h'
          · rw [tickS_want, tickS_set hs.still]; exact hs.still
end

section
set_option linter.unusedSimpArgs false
set_option linter.unusedVariables false
open Go.RowKit Go.Maps

def Alike (sts sts' : List Sta) : Prop := ∀ n : Nat, (sts'[n]?).map (fun x => (x.clk, x.set, x.left, x.want)) = (sts[n]?).map (fun x => (x.clk, x.set, x.left, x.want))
theorem Alike.refl (sts : List Sta) : Alike sts sts := fun _ => rfl
theorem Alike.trans {a b c : List Sta} (h : Alike a b) (h' : Alike b c) : Alike a c := fun n => (h' n).trans (h n)
theorem Alike.back {a b : List Sta} (h : Alike a b) {n : Nat} {x : Sta} (hx : b[n]? = some x) : ∃ y, a[n]? = some y ∧ x.clk = y.clk ∧ x.set = y.set ∧ x.left = y.left ∧ x.want = y.want := by
  have := h n
  rw [hx] at this
  cases hy : a[n]? with
  | none => rw [hy] at this; cases this
  | some y =>
    rw [hy] at this
    have := Option.some.inj this
    injection this with h1 h2
    injection h2 with h2 h3
    injection h3 with h3 h4
    exact ⟨y, rfl, h1, h2, h3, h4⟩
theorem Alike.gone {a b : List Sta} (h : Alike a b) {n : Nat} (hx : b[n]? = none) : a[n]? = none := by
  have := h n
  rw [hx] at this
  cases hy : a[n]? with
  | none => rfl
  | some y => rw [hy] at this; cases this
theorem Alike.len {a b : List Sta} (h : Alike a b) : b.length = a.length := by
  have h1 := h.gone (n := b.length) (List.getElem?_eq_none (Nat.le_refl _))
  have h2 : b[a.length]? = none := by
    have := h a.length
    rw [List.getElem?_eq_none (Nat.le_refl _)] at this
    cases hy : b[a.length]? with
    | none => rfl
    | some y => rw [hy] at this; cases this
  have := List.getElem?_eq_none_iff.1 h1
  have := List.getElem?_eq_none_iff.1 h2
  omega
theorem Alike.ch {a b : List Sta} (h : Alike a b) : ∀ (f k : Nat), chF b f k = chF a f k := by
  intro f
  induction f with
  | zero => intro k; rfl
  | succ f ih =>
    intro k
    show (match b[k]? with | some x => chN x (k : Int) (chF b f (x.clk.frm.getD x.set.toNat 0).toNat) | none => []) = (match a[k]? with | some x => chN x (k : Int) (chF a f (x.clk.frm.getD x.set.toNat 0).toNat) | none => [])
    cases hx : b[k]? with
    | none => rw [h.gone hx]
    | some x =>
      obtain ⟨y, hy, e1, e2, e3, e4⟩ := h.back hx
      rw [hy]
      simp only
      rw [e1, e2, ih]
      unfold chN
      rw [e1]
theorem Alike.rest {a b : List Sta} (h : Alike a b) : ∀ (f k : Nat), restF b f k = restF a f k := by
  intro f
  induction f with
  | zero => intro k; rfl
  | succ f ih =>
    intro k
    show (match b[k]? with | some x => if x.clk.kind = 111 then 0 else x.left + restF b f (x.clk.frm.getD x.set.toNat 0).toNat | none => 0) = (match a[k]? with | some x => if x.clk.kind = 111 then 0 else x.left + restF a f (x.clk.frm.getD x.set.toNat 0).toNat | none => 0)
    cases hx : b[k]? with
    | none => rw [h.gone hx]
    | some x =>
      obtain ⟨y, hy, e1, e2, e3, e4⟩ := h.back hx
      rw [hy]
      simp only
      rw [e1, e2, e3, ih]
theorem Alike.lefts {a b : List Sta} (h : Alike a b) (i : Int) : leftP b i = leftP a i := by
  unfold leftP
  rw [h.len]
  cases hx : b[i.toNat]? with
  | none => rw [h.gone hx]
  | some x =>
    obtain ⟨y, hy, e1, e2, e3, e4⟩ := h.back hx
    rw [hy]
    simp only
    rw [e3]
theorem alike_on (sts : List Sta) (i : Int) : Alike sts (onT sts i true) := by
  intro n
  unfold onT
  split
  · unfold setT
    cases hx : sts[i.toNat]? with
    | none => rfl
    | some x =>
      show ((sts.set i.toNat (onS true x))[n]?).map _ = _
      by_cases e : i.toNat = n
      · subst e
        rw [List.getElem?_set_self (get_lt hx), hx]
        rfl
      · rw [List.getElem?_set_ne e]
  · rfl
/-- the first j of a row turned on -/
def onAll (sts : List Sta) (l : List Int) (j : Nat) : List Sta := (l.take j).foldl (fun s y => onT s y true) sts
theorem onAll_zero (sts : List Sta) (l : List Int) : onAll sts l 0 = sts := by unfold onAll; simp
theorem onAll_succ (sts : List Sta) {l : List Int} {j : Nat} {y : Int} (h : l[j]? = some y) : onAll sts l (j + 1) = onT (onAll sts l j) y true := by
  unfold onAll
  rw [List.take_add_one, h]
  simp
theorem onAll_like (sts : List Sta) (l : List Int) : ∀ j, Alike sts (onAll sts l j) := by
  intro j
  unfold onAll
  generalize l.take j = m
  induction m generalizing sts with
  | nil => exact Alike.refl _
  | cons y m ih => exact (alike_on sts y).trans (ih _)
theorem onT_keeps {sts : List Sta} {i : Int} {n : Nat} {x x' : Sta} (hx : sts[n]? = some x) (ho : x.on = true) (hx' : (onT sts i true)[n]? = some x') : x'.on = true := by
  unfold onT at hx'
  split at hx'
  · unfold setT at hx'
    cases hy : sts[i.toNat]? with
    | none => rw [hy] at hx'; simp only at hx'; rw [hx] at hx'; obtain rfl := Option.some.inj hx'; exact ho
    | some y =>
      rw [hy] at hx'
      simp only at hx'
      rcases set_at hx' with ⟨rfl, rfl⟩ | ⟨_, h⟩
      · rfl
      · rw [hx] at h; obtain rfl := Option.some.inj h; exact ho
  · rw [hx] at hx'; obtain rfl := Option.some.inj hx'; exact ho
theorem onT_sets {sts : List Sta} {n : Nat} {x x' : Sta} (hx : sts[n]? = some x) (hk : x.clk.kind = 112 ∨ x.clk.kind = 103) (hx' : (onT sts (n : Int) true)[n]? = some x') : x'.on = true := by
  have hf : findE sts (n : Int) [112, 103] = 0 := by
    have hb : hasB sts.length (n : Int) = true := by unfold hasB; have := get_lt hx; simp; omega
    unfold findE
    rw [if_pos hb, Int.toNat_natCast, hx]
    exact if_pos (by simpa using hk)
  unfold onT at hx'
  rw [if_pos hf] at hx'
  unfold setT at hx'
  rw [Int.toNat_natCast, hx] at hx'
  simp only at hx'
  rw [List.getElem?_set_self (get_lt hx)] at hx'
  obtain rfl := Option.some.inj hx'
  rfl
theorem onAll_on {sts : List Sta} {l : List Int} : ∀ (j : Nat) (n : Nat) (x : Sta), (n : Int) ∈ l.take j → (onAll sts l j)[n]? = some x → x.clk.kind = 112 ∨ x.clk.kind = 103 → x.on = true := by
  intro j
  induction j with
  | zero => intro n x hn; simp at hn
  | succ j ih =>
    intro n x hn hx hk
    cases hy : l[j]? with
    | none =>
      have hle := List.getElem?_eq_none_iff.1 hy
      have e : l.take (j + 1) = l.take j := by rw [List.take_of_length_le hle, List.take_of_length_le (by omega)]
      have e2 : onAll sts l (j + 1) = onAll sts l j := by unfold onAll; rw [e]
      rw [e] at hn
      rw [e2] at hx
      exact ih n x hn hx hk
    | some y =>
      rw [onAll_succ sts hy] at hx
      obtain ⟨z, hz, z1, -, -, -⟩ := (alike_on (onAll sts l j) y).back hx
      rw [List.take_add_one, hy] at hn
      rcases List.mem_append.1 hn with hn | hn
      · exact onT_keeps hz (ih n z hn hz (by rw [← z1]; exact hk)) hx
      · obtain rfl : (n : Int) = y := by simpa using hn
        exact onT_sets hz (by rw [← z1]; exact hk) hx
/-- a tree as it is at first, all of a chain on -/
theorem onAll_lock {cs : List Clk} {k : Nat} (hk : k < cs.length) : LockIn (onAll (cs.map freshS) (chP (cs.map freshS) k) (chP (cs.map freshS) k).length) k := by
  intro n x hn hx
  have ha := onAll_like (cs.map freshS) (chP (cs.map freshS) k) (chP (cs.map freshS) k).length
  obtain ⟨y, hy, e1, e2, e3, e4⟩ := ha.back hx
  rw [show chP (onAll (cs.map freshS) (chP (cs.map freshS) k) (chP (cs.map freshS) k).length) k = chP (cs.map freshS) k from ha.ch _ _] at hn
  rw [List.getElem?_map] at hy
  cases hc : cs[n]? with
  | none => rw [hc] at hy; cases hy
  | some c =>
    rw [hc] at hy
    obtain rfl : freshS c = y := Option.some.inj hy
    refine ⟨fun h => onAll_on _ n x (by rw [List.take_length]; exact hn) hx h, fun h => ?_, fun h _ => ?_, by rw [e4, e2]; rfl⟩
    · rw [e1] at h
      rw [e3]
      show lockL c = 0
      unfold lockL
      exact if_neg h
    · rw [e1] at h ⊢
      rw [e3]
      show lockL c = c.lock
      unfold lockL
      exact if_pos h
/-- the ticks that a row's clocks have left -/
def sumL (sts : List Sta) (l : List Int) : Int := (l.map (leftP sts)).sum
theorem sumL_snoc (sts : List Sta) (l : List Int) (y : Int) : sumL sts (l ++ [y]) = sumL sts l + leftP sts y := by unfold sumL; simp
theorem leftP_at {sts : List Sta} {k : Nat} {x : Sta} (hx : sts[k]? = some x) : leftP sts (k : Int) = x.left := by
  have hb : hasB sts.length (k : Int) = true := by unfold hasB; have := get_lt hx; simp; omega
  unfold leftP
  rw [if_pos hb, Int.toNat_natCast, hx]
theorem sumL_rest {sts : List Sta} (hv : InvT sts) (h0 : ∀ (n : Nat) (x : Sta), sts[n]? = some x → x.clk.kind = 111 → x.left = 0) : ∀ k, k < sts.length → sumL sts (chP sts k) = restP sts k := by
  intro k
  induction k using Nat.strongRecOn with
  | _ k ih =>
    intro hk
    obtain ⟨x, hx⟩ : ∃ x, sts[k]? = some x := ⟨_, List.getElem?_eq_getElem hk⟩
    by_cases h1 : x.clk.kind = 111
    · have e' : chP sts k = [(k : Int)] := by rw [chP_osc hx h1 []]; unfold chN; rw [if_pos h1]
      rw [e', restP_osc hx h1]
      unfold sumL
      simp [leftP_at hx, h0 k x hx h1]
    · obtain ⟨m, y, e1, e2, e3⟩ := (hv.right k x hx).2 h1
      rw [ch_down hv hx h1 e1 e2 e3, sumL_snoc, ih y e3 (by omega), leftP_at hx, restP_at hv.right hx h1 e1 e2 e3]
      omega
theorem restP_le {sts : List Sta} (hv : InvT sts) : ∀ k, k < sts.length → restP sts k ≤ 20 * ((k : Int) + 1) := by
  intro k
  induction k using Nat.strongRecOn with
  | _ k ih =>
    intro hk
    obtain ⟨x, hx⟩ : ∃ x, sts[k]? = some x := ⟨_, List.getElem?_eq_getElem hk⟩
    by_cases h1 : x.clk.kind = 111
    · rw [restP_osc hx h1]; omega
    · obtain ⟨m, y, e1, e2, e3⟩ := (hv.right k x hx).2 h1
      rw [restP_at hv.right hx h1 e1 e2 e3]
      have := ih y e3 (by omega)
      have := (hv k x hx).left
      omega
end

section
set_option linter.unusedSimpArgs false
set_option linter.unusedVariables false
open Go.RowKit Go.Maps

structure TwC (w3 wr : World) (gt : Nat) (sts : List Sta) (A : Option Addr) (ch : List Int) : Prop where
  tw : Tw w3 wr gt sts
  row : ∃ g c, TreeIs wr gt g c sts ∧ w3.heap.size ≤ g ∧ IntsC [g] wr A ch
theorem Tw.chainC {w3 wr : World} {gt : Nat} {sts : List Sta} (h : Tw w3 wr gt sts) (i : Int) : Calls Try.prog 19 #[.pointer (some ⟨gt, 0, none⟩), .int .i64 i] wr fun e w' => ∃ A c, e = .returned (.slice A (chI sts i).length c) ∧ TwC w3 w' gt sts A (chI sts i) := by
  obtain ⟨g, c, ht, hg⟩ := h.tree
  exact (chain_any gt g c sts i wr h.n1 h.fit.inv.right ht).mono fun e w' ⟨v, he, ho, hb⟩ => by
    obtain ⟨A, cc, rfl⟩ := own_shape' ho
    refine ⟨A, cc, he, h.calm (Moved.of_below hb), g, c, ht.move (Moved.of_below hb), hg, ints_own ho [g] fun b hb' => ?_⟩
    have h1 := (ho.lt b hb').1
    have h2 := ht.lt.2
    simp
    omega
theorem TwC.on {w3 wr : World} {gt : Nat} {sts : List Sta} {A : Option Addr} {ch : List Int} (h : TwC w3 wr gt sts A ch) {i : Int} (hi : wfI i) : Calls Try.prog 16 #[.pointer (some ⟨gt, 0, none⟩), .int .i64 i, .bool true] wr fun e w' => e = .returned (.int .i64 (findE sts i [112, 103])) ∧ TwC w3 w' gt (onT sts i true) A ch := by
  obtain ⟨hw, g, c, ht, hg, hr⟩ := h
  exact (on_any gt g c sts i true wr hw.n1 hi ht).mono fun e w' ⟨he, h1, hm⟩ => ⟨he, ⟨⟨g, c, h1, hg⟩, onT_fit hw.fit i true, by rw [onT_len]; exact hw.n0, by rw [onT_len]; exact hw.n1, hw.bel.trans (hm.below (by simp; exact hg) hw.bel.size), hw.lo⟩, g, c, h1, hg, hr.move hm⟩
theorem TwC.drewN {w3 wr : World} {gt : Nat} {sts : List Sta} {A : Option Addr} {ch : List Int} (h : TwC w3 wr gt sts A ch) (n : Nat) : TwC w3 (wr.drewN n) gt sts A ch := by
  have hm : ∀ hot, Moved hot wr (wr.drewN n) := fun hot => ⟨rfl, rfl, rfl, Nat.le_refl _, fun _ _ _ => rfl⟩
  obtain ⟨hw, g, c, ht, hg, hr⟩ := h
  exact ⟨hw.calm (hm _), g, c, ht.move (hm _), hg, hr.move (hm _)⟩
theorem TwC.at_ {w3 wr : World} {gt : Nat} {sts : List Sta} {A : Option Addr} {ch : List Int} (h : TwC w3 wr gt sts A ch) {j : Nat} {y : Int} (hy : ch[j]? = some y) : ∃ ad, A = some ad ∧ wr.cell? (ad.add j) = some (.int .i64 y) := by
  obtain ⟨hw, g, c, ht, hg, hr⟩ := h
  obtain ⟨ad, e, _, _, hc⟩ := hr (by have := get_lt hy; omega)
  exact ⟨ad, e, hc j y hy⟩
theorem leftP_in {sts : List Sta} (hv : InvT sts) (i : Int) : 0 ≤ leftP sts i ∧ leftP sts i ≤ 20 := by
  unfold leftP
  split
  · cases hx : sts[i.toNat]? with
    | none => simp
    | some x => exact (hv _ x hx).left
  · simp
theorem sumL_in {sts : List Sta} (hv : InvT sts) (l : List Int) : 0 ≤ sumL sts l ∧ sumL sts l ≤ 20 * (l.length : Int) := by
  induction l with
  | nil => simp [sumL]
  | cons y l ih =>
    have e : sumL sts (y :: l) = leftP sts y + sumL sts l := by unfold sumL; simp
    have := leftP_in hv y
    rw [e]
    simp only [List.length_cons]
    omega
/-- a tree that locks: m ticks are left till the k-th clock runs -/
structure Lks (sts : List Sta) (k : Nat) (m : Int) : Prop where
  lk : LockIn sts k
  rest : restP sts k = m
  lt : k < sts.length
theorem Lks.run {sts : List Sta} {k : Nat} {m : Int} (h : Lks sts k m) (hv : InvT sts) : runI sts (k : Int) = decide (m = 0) := by
  rw [runI_at h.lt, (lock_run hv k h.lt h.lk).2, h.rest]
theorem Lks.tick {sts : List Sta} {k : Nat} {m : Int} (h : Lks sts k m) (hv : FitT sts) (hm : 0 < m) : Lks (tickT sts) k (m - 1) := by
  obtain ⟨h1, h2, h3⟩ := lock_tick hv.inv (tickT_fit hv).inv k h.lt h.lk
  refine ⟨h3, ?_, by rw [tickT_len]; exact h.lt⟩
  rw [h2, h.rest, if_neg (by omega)]
theorem findE_at' {sts : List Sta} {n : Nat} {x : Sta} (hx : sts[n]? = some x) : findE sts (n : Int) [112, 103] = if x.clk.kind = 112 ∨ x.clk.kind = 103 then 0 else 1 := by
  have hb : hasB sts.length (n : Int) = true := by unfold hasB; have := get_lt hx; simp; omega
  unfold findE
  rw [if_pos hb, Int.toNat_natCast, hx]
  simp
theorem onAll_clk (sts : List Sta) (l : List Int) (j : Nat) : clksT (onAll sts l j) = clksT sts := by
  unfold onAll
  generalize l.take j = m
  induction m generalizing sts with
  | nil => rfl
  | cons y m ih => exact (ih _).trans (onT_clk sts y true)
end

end Go.Proofs.Ytnfbhhgdibkbdaa
