/- All domains up in the order of their chains, and down again, plainly. -/
import Derived.Test.YtlhmcpkfmnmhfaaZC
namespace Go.Proofs.Ytlhmcpkfmnmhfaa
set_option linter.unusedSimpArgs false
set_option linter.unusedVariables false
open Go.RowKit Go.Maps

/-- those of S live, all others rest -/
def StS (sts : List Pst) (S : List Nat) : Prop := ∀ (m : Nat) (x : Pst), sts[m]? = some x → (m ∈ S → x.phase = 49) ∧ (m ∉ S → restsB x.phase = true)
/-- so many ticks are left until it lives -/
def remP (x : Pst) (r : Nat) : Prop := (x.phase = 114 ∧ ∃ l : Nat, x.left = (l : Int) ∧ r = l + 2) ∨ (x.phase = 104 ∧ r = 1) ∨ (x.phase = 49 ∧ r = 0)
def RiseS (sts : List Pst) (S : List Nat) (d r : Nat) : Prop := ∀ (m : Nat) (x : Pst), sts[m]? = some x → (m = d → remP x r) ∧ (m ≠ d → (m ∈ S → x.phase = 49) ∧ (m ∉ S → restsB x.phase = true))
theorem pass_still {x : Pst} (h : x.phase = 49 ∨ restsB x.phase = true) : passT x = x ∧ passK x = 0 := by
  have h' : x.phase = 49 ∨ x.phase = 48 ∨ x.phase = 116 := by
    rcases h with h | h
    · exact .inl h
    · unfold restsB at h; simp at h; exact .inr h
  unfold passT passK
  constructor
  · rw [if_neg (by omega), if_neg (by omega), if_neg (by omega)]
  · rw [if_neg (by omega), if_neg (by omega), if_neg (by omega)]
theorem remP.tick {x : Pst} {r : Nat} (h : remP x (r + 1)) : remP (passT x) r := by
  obtain ⟨d, p, l, kp⟩ := x
  simp only [remP] at h
  rcases h with ⟨rfl, l', rfl, e⟩ | ⟨rfl, e⟩ | ⟨rfl, e⟩
  · by_cases hl : 0 < l'
    · refine .inl ⟨by simp [passT, hl], l' - 1, ?_, by omega⟩
      simp [passT, hl]
      omega
    · have : l' = 0 := by omega
      subst this
      exact .inr (.inl ⟨by simp [passT], by omega⟩)
  · exact .inr (.inr ⟨by simp [passT], by omega⟩)
  · omega
theorem RiseS.tick {sts : List Pst} {S : List Nat} {d r : Nat} (h : RiseS sts S d (r + 1)) : RiseS (tickT sts) S d r := by
  intro m y hy
  obtain ⟨x, hx, rfl⟩ := tick_at hy
  refine ⟨fun e => ((h m x hx).1 e).tick, fun e => ?_⟩
  have h2 := (h m x hx).2 e
  have : passT x = x := (pass_still (by
    by_cases hm : m ∈ S
    · exact .inl (h2.1 hm)
    · exact .inr (h2.2 hm))).1
  rw [this]
  exact h2
theorem remP.live {x : Pst} {r : Nat} (h : remP x r) : x.phase = 49 ↔ r = 0 := by
  unfold remP at h
  rcases h with ⟨h1, l, _, e⟩ | ⟨h1, e⟩ | ⟨h1, e⟩ <;> rw [h1] <;> simp <;> omega
theorem RiseS.done {sts : List Pst} {S : List Nat} {d : Nat} (h : RiseS sts S d 0) : StS sts (S ++ [d]) := by
  intro m x hx
  by_cases e : m = d
  · exact ⟨fun _ => (((h m x hx).1 e).live).2 rfl, fun hn => absurd (by simp [e]) hn⟩
  · refine ⟨fun hm => ((h m x hx).2 e).1 (by simpa [e] using hm), fun hn => ((h m x hx).2 e).2 (by simpa [e] using hn)⟩
theorem StS.start (doms : List Dom) : StS (doms.map newP) [] := by
  intro m x hx
  rw [List.getElem?_map] at hx
  cases hd : doms[m]? with
  | none => rw [hd] at hx; cases hx
  | some d =>
    rw [hd] at hx
    obtain rfl := Option.some.inj hx
    exact ⟨fun h => by simp at h, fun _ => rfl⟩

section
variable {doms : List Dom} {sts : List Pst} {o : List Nat} {k : Nat}
theorem gOf_doms {d : Dom} {v : Nat} {s : Chip} (hd : s.doms[v]? = some d) : gOf (domsG s) v = aboveR d := gOf_row (by unfold domsG; rw [List.getElem?_map, hd]; rfl)
theorem take_snoc' (hk : k < o.length) : o.take (k + 1) = o.take k ++ [o[k]] := by rw [List.take_add_one, List.getElem?_eq_getElem hk]; rfl
theorem not_mem_take (hn : o.Nodup) (hk : k < o.length) : o[k] ∉ o.take k := by
  intro hm
  obtain ⟨i, hi, e⟩ := List.mem_iff_getElem.1 hm
  rw [List.length_take] at hi
  rw [List.getElem_take] at e
  have := idx_inj hn (i := i) (j := k) (u := o[k]) (by rw [List.getElem?_eq_getElem (by omega), e]) (List.getElem?_eq_getElem hk)
  omega
/-- the next one in order can be switched on -/
theorem StS.up {s : Chip} (h : StS sts (o.take k)) (hi : GInv s.doms sts) (hd : DomsOk s.doms) (ht : Topo (gOf (domsG s)) s.doms.length o) (hk : k < o.length) {x : Pst} (hx : sts[o[k]]? = some x) :
    upE sts ((o[k] : Nat) : Int) = 0 ∧ RiseS (upT sts ((o[k] : Nat) : Int)) (o.take k) o[k] (x.dom.delay.toNat + 2) := by
  obtain ⟨hnd, hlt, hall, hord⟩ := ht
  have hr : restsB x.phase = true := (h _ x hx).2 (not_mem_take hnd hk)
  have hf : fedB sts x.dom.above = true := GInv.mkfed (by
    rcases hi.desc hd _ x hx with h1 | ⟨h1, h2⟩
    · exact .inl h1
    · right
      obtain ⟨a, ha⟩ : ∃ a : Nat, x.dom.above = (a : Int) := ⟨x.dom.above.toNat, by omega⟩
      have hl := get_lt' hx
      have hal : a < s.doms.length := by rw [← hi.len]; omega
      obtain ⟨i, hio, hie⟩ := List.mem_iff_getElem.1 (hall a hal)
      have hik : i < k := hord i k a o[k] (by rw [List.getElem?_eq_getElem hio, hie]) (List.getElem?_eq_getElem hk) (by
        rw [gOf_doms (hi.at_ hx)]
        unfold aboveR
        rw [if_neg (by omega), ha]
        simp)
      have hm : a ∈ o.take k := by
        rw [List.mem_take_iff_getElem]
        exact ⟨i, by omega, hie⟩
      rw [ha, phaseP_at (List.getElem?_eq_getElem (by rw [hi.len]; exact hal))]
      exact (h a _ (List.getElem?_eq_getElem (by rw [hi.len]; exact hal))).1 hm)
  have hE : upE sts ((o[k] : Nat) : Int) = 0 := (atP_at hx _ _).trans (if_pos ⟨hr, hf⟩)
  refine ⟨hE, ?_⟩
  unfold upT
  rw [if_pos hE, setT_at _ hx]
  intro m y hy
  rcases set_at' hy with ⟨rfl, rfl⟩ | ⟨hne, hy⟩
  · have hdl := hd.delay _ _ (hi.at_ hx)
    refine ⟨fun _ => .inl ⟨rfl, x.dom.delay.toNat, ?_, rfl⟩, fun h => absurd rfl h⟩
    show x.dom.delay = _
    omega
  · exact ⟨fun e => absurd e hne, fun _ => h m y hy⟩
theorem RiseS.phase {S : List Nat} {d r : Nat} (h : RiseS sts S d r) {x : Pst} (hx : sts[d]? = some x) : phaseP sts (d : Int) = 49 ↔ r = 0 := by
  rw [phaseP_at hx]
  exact ((h d x hx).1 rfl).live
/-- above what lives none can be switched off -/
theorem StS.busy (h : StS sts o) (hall : ∀ m, m < sts.length → m ∈ o) {d a : Nat} {x : Pst} (hx : sts[d]? = some x) (ha : x.dom.above = (a : Int)) (hal : a < sts.length) : downE sts (a : Int) false = 7 := by
  have hy := List.getElem?_eq_getElem hal
  have hn : needB sts (a : Int) = true := by
    unfold needB
    rw [List.any_eq_true]
    refine ⟨x, List.mem_of_getElem? hx, ?_⟩
    have hp : x.phase = 49 := (h d x hx).1 (hall d (get_lt' hx))
    rw [ha, hp]
    simp [restsB]
  refine (atP_at hy _ _).trans ?_
  rw [if_pos ((h a _ hy).1 (hall a hal)), if_neg (by simp), if_pos hn]
/-- the last one in order can be switched off -/
theorem StS.down {s : Chip} (h : StS sts (o.take (k + 1))) (hi : GInv s.doms sts) (hd : DomsOk s.doms) (ht : Topo (gOf (domsG s)) s.doms.length o) (hk : k < o.length) {x : Pst} (hx : sts[o[k]]? = some x) (kp : Bool) (hkp : kp = true → x.dom.ret = true) :
    downE sts ((o[k] : Nat) : Int) kp = 0 ∧ StS (tickT (downT sts ((o[k] : Nat) : Int) kp)) (o.take k) ∧ phaseP (tickT (downT sts ((o[k] : Nat) : Int) kp)) ((o[k] : Nat) : Int) = if kp = true then 116 else 48 := by
  obtain ⟨hnd, hlt, hall, hord⟩ := ht
  have hp : x.phase = 49 := (h _ x hx).1 (by rw [take_snoc' hk]; exact List.mem_append_right _ (List.mem_singleton.2 rfl))
  have hn : needB sts ((o[k] : Nat) : Int) = false := by
    unfold needB
    rw [List.any_eq_false]
    intro y hy
    obtain ⟨m, hm, rfl⟩ := List.mem_iff_getElem.1 hy
    have hym := List.getElem?_eq_getElem hm
    by_cases e : (sts[m]).dom.above = ((o[k] : Nat) : Int)
    · have hno : m ∉ o.take (k + 1) := by
        intro hmm
        obtain ⟨i, hio, hie⟩ := List.mem_iff_getElem.1 hmm
        rw [List.length_take] at hio
        rw [List.getElem_take] at hie
        have := hord k i o[k] m (List.getElem?_eq_getElem hk) (by rw [List.getElem?_eq_getElem (by omega), hie]) (by
          rw [gOf_doms (hi.at_ hym)]
          unfold aboveR
          rw [if_neg (by omega), e]
          simp)
        omega
      have := (h m _ hym).2 hno
      simp [this]
    · simp [e]
  have hE : downE sts ((o[k] : Nat) : Int) kp = 0 := by
    refine (atP_at hx _ _).trans ?_
    rw [if_pos hp, if_neg (by intro ⟨h1, h2⟩; rw [hkp h1] at h2; cases h2), if_neg (by simp [hn])]
  have hT : downT sts ((o[k] : Nat) : Int) kp = sts.set o[k] (downS kp x) := by unfold downT; rw [if_pos hE, setT_at _ hx]
  have hxl := get_lt' hx
  have hps : (passT (downS kp x)).phase = if kp = true then 116 else 48 := by cases kp <;> simp [passT, downS]
  refine ⟨hE, ?_, ?_⟩
  · rw [hT]
    intro m y hy
    obtain ⟨z, hz, rfl⟩ := tick_at hy
    rcases set_at' hz with ⟨rfl, rfl⟩ | ⟨hne, hz⟩
    · refine ⟨fun hm => absurd hm (not_mem_take hnd hk), fun _ => ?_⟩
      rw [hps]
      split <;> rfl
    · have h2 := h m z hz
      rw [take_snoc' hk] at h2
      have hst : passT z = z := (pass_still (by
        by_cases hm : m ∈ o.take k ++ [o[k]]
        · exact .inl (h2.1 hm)
        · exact .inr (h2.2 hm))).1
      rw [hst]
      exact ⟨fun hm => h2.1 (List.mem_append_left _ hm), fun hm => h2.2 fun hh => (List.mem_append.1 hh).elim hm fun e => hne (List.mem_singleton.1 e)⟩
  · rw [hT, phaseP_at (tick_get (List.getElem?_set_self hxl)), hps]
theorem StS.none (h : StS sts []) : tickE sts = [] := by
  unfold tickE evsP
  rw [List.filterMap_eq_nil_iff]
  intro i _
  unfold evAt
  cases hx : sts[i]? with
  | none => rfl
  | some x =>
    simp only
    rw [if_pos ((pass_still (.inr ((h i x hx).2 (by simp)))).2)]
end
theorem doms_ranked {s : Chip} (hd : DomsOk s.doms) : Ranked (gOf (domsG s)) s.doms.length (fun v => v) := by
  intro v hv x hx
  have hdv := List.getElem?_eq_getElem hv
  rw [gOf_doms hdv] at hx
  unfold aboveR at hx
  have := hd.above v _ hdv
  split at hx
  · simp at hx
  · simp at hx
    subst hx
    rename_i h1
    refine ⟨(s.doms[v]).above.toNat, by omega, by omega, ?_⟩
    show (s.doms[v]).above.toNat < v
    omega

end Go.Proofs.Ytlhmcpkfmnmhfaa
