/- What the operations of a drawn region give, as a list; the looks. -/
import Derived.Test.YtnfbhhgdibkbdaaG
import Derived.Test.YtnfbhhgdibkbdaaW9
import Derived.Test.YtnfbhhgdibkbdaaW10
namespace Go.Proofs.Ytnfbhhgdibkbdaa
set_option linter.unusedSimpArgs false
set_option linter.unusedVariables false
open Go.RowKit

abbrev Gv := Value → World → Prop
def Stb (G : Gv) : Prop := ∀ v w w', G v w → Below w.heap.size w w' → G v w'
def IsV (v0 : Value) : Gv := fun v _ => v = v0
def IsLook (E : Int) : Gv := fun v w => Look v E w
def IsLooks (Es : List Int) : Gv := fun v w => ∃ A c, v = .slice A Es.length c ∧ LooksAt w w.heap.size A Es
def IsInts (xs : List Int) : Gv := fun v w => ∃ A c, v = .slice A xs.length c ∧ IntsAt w w.heap.size A xs
theorem IsV.stb (v0 : Value) : Stb (IsV v0) := fun _ _ _ h _ => h
theorem IsLook.stb (E : Int) : Stb (IsLook E) := fun _ _ _ h hb => h.later hb
theorem IsLooks.stb (Es : List Int) : Stb (IsLooks Es) := fun _ _ _ ⟨A, c, e, h⟩ hb => ⟨A, c, e, h.later hb⟩
theorem IsInts.stb (xs : List Int) : Stb (IsInts xs) := fun _ _ _ ⟨A, c, e, h⟩ hb => ⟨A, c, e, (h.below hb (Nat.le_refl _)).more hb.size⟩
def AllStb : List Gv → Prop
  | [] => True
  | G :: l => Stb G ∧ AllStb l
def GL : List Gv → Nat → Gv
  | [], _ => fun _ _ => True
  | G :: _, 0 => G
  | _ :: l, i + 1 => GL l i
theorem GL.stb : ∀ {l : List Gv}, AllStb l → ∀ i v w w', GL l i v w → Below w.heap.size w w' → GL l i v w'
  | [], _, _, _, _, _, _, _ => trivial
  | _ :: _, h, 0, v, w, w', hg, hb => h.1 v w w' hg hb
  | _ :: _, h, i + 1, v, w, w', hg, hb => GL.stb h.2 i v w w' hg hb

section
variable {P : Program} {ops : Array Oper} {T0 : Nat → Value} {w0 : World} {G : Nat → Value → World → Prop} {i : Nat} {o : Oper}
theorem step_plain (hg : o.guard = none) (h : ∀ (T : Nat → Value) (w : World), (∀ t, freeT ops t = true → T t = T0 t) → Below w0.heap.size w0 w → AllOf G ops T w (needs o) → GivesTo P T o w (G i)) : StepOk P ops T0 w0 G i o := by
  intro T w hT hb hd
  have : Region.wanted o (yldT ops T) = true := by unfold Region.wanted; rw [hg]
  rw [if_pos this]
  exact h T w hT hb hd
theorem step_off (g d : Nat) (b : Bool) (hg : o.guard = some (g, b)) (hgd : (ops[g]?).bind (·.dst) = some d) (h : ∀ (T : Nat → Value) (w : World), (∀ t, freeT ops t = true → T t = T0 t) → Below w0.heap.size w0 w → AllOf G ops T w (needs o) → T d = .bool (!b) ∧ G i undef w) : StepOk P ops T0 w0 G i o := by
  intro T w hT hb hd
  obtain ⟨h1, h2⟩ := h T w hT hb hd
  have : Region.wanted o (yldT ops T) = false := by
    unfold Region.wanted yldT
    rw [hg]
    simp only [hgd, Option.map_some, h1]
    cases b <;> rfl
  rw [if_neg (by rw [this]; decide)]
  exact h2
theorem step_on (g d : Nat) (b : Bool) (hg : o.guard = some (g, b)) (hgd : (ops[g]?).bind (·.dst) = some d) (h : ∀ (T : Nat → Value) (w : World), (∀ t, freeT ops t = true → T t = T0 t) → Below w0.heap.size w0 w → AllOf G ops T w (needs o) → T d = .bool b ∧ GivesTo P T o w (G i)) : StepOk P ops T0 w0 G i o := by
  intro T w hT hb hd
  obtain ⟨h1, h2⟩ := h T w hT hb hd
  have : Region.wanted o (yldT ops T) = true := by
    unfold Region.wanted yldT
    rw [hg]
    simp only [hgd, Option.map_some, h1]
    cases b <;> rfl
  rw [if_pos this]
  exact h2
theorem gives_value {T : Nat → Value} {w : World} {R : Value → World → Prop} {v : Value} (h : (execOp (evT T) o).run P w = .ok (.value v) w) (hR : R v w) : GivesTo P T o w R :=
  .inl ⟨v, w, h, Below.refl _ _, hR⟩
theorem gives_made {T : Nat → Value} {w w' : World} {R : Value → World → Prop} {v : Value} (h : (execOp (evT T) o).run P w = .ok (.value v) w') (hb : Below w.heap.size w w') (hR : R v w') : GivesTo P T o w R :=
  .inl ⟨v, w', h, hb, hR⟩
theorem gives_call {T : Nat → Value} {w : World} {R : Value → World → Prop} {f : FuncId} {args : Array Value} (h : (execOp (evT T) o).run P w = .ok (.enter f args) w)
    (hc : Calls P f args w fun e w' => ∃ v, e = .returned v ∧ Below w.heap.size w w' ∧ R v w') : GivesTo P T o w R :=
  .inr ⟨f, args, h, hc⟩
end

theorem looks_new (w : World) (vs : List Value) (Es : List Int) (hl : vs.length = Es.length) (h : ∀ (k : Nat) (v : Value) (E : Int), vs[k]? = some v → Es[k]? = some E → Look v E w) :
    LooksAt (w.alloc (.cells vs.toArray 66)) (w.alloc (.cells vs.toArray 66)).heap.size (some ⟨w.heap.size, 0, none⟩) Es := by
  intro _
  refine ⟨_, rfl, by simp, fun k E hE => ?_⟩
  have hk : k < vs.length := by rw [hl]; exact (List.getElem?_eq_some_iff.1 hE).1
  exact ⟨vs[k], (h k _ E (List.getElem?_eq_getElem hk) hE).later ((Below.refl _ _).alloc (Nat.le_refl _) _), agg_new w vs 66 k _ (List.getElem?_eq_getElem hk)⟩

theorem evT_const (T : Nat → Value) (v : Value) : evT T (.const v) = v := rfl
theorem evT_func (T : Nat → Value) (f : FuncId) : evT T (.func f) = .func (.func f) #[] #[] := rfl

def LooksL (w : World) : List Value → List Int → Prop
  | [], [] => True
  | v :: vs, E :: Es => Look v E w ∧ LooksL w vs Es
  | _, _ => False
theorem LooksL.at_ {w : World} : ∀ {vs : List Value} {Es : List Int}, LooksL w vs Es → vs.length = Es.length ∧ ∀ (k : Nat) (v : Value) (E : Int), vs[k]? = some v → Es[k]? = some E → Look v E w
  | [], [], _ => ⟨rfl, fun k v E h => by simp at h⟩
  | v :: vs, E :: Es, h => by
    obtain ⟨h1, h2⟩ := LooksL.at_ h.2
    refine ⟨by simp [h1], fun k u F hu hF => ?_⟩
    cases k with
    | zero => simp at hu hF; subst hu; subst hF; exact h.1
    | succ k => exact h2 k u F (by simpa using hu) (by simpa using hF)
  | [], _ :: _, h => h.elim
  | _ :: _, [], h => h.elim
theorem looks_newL (w : World) (vs : List Value) (Es : List Int) (h : LooksL w vs Es) :
    LooksAt (w.alloc (.cells vs.toArray 66)) (w.alloc (.cells vs.toArray 66)).heap.size (some ⟨w.heap.size, 0, none⟩) Es := looks_new w vs Es h.at_.1 h.at_.2

end Go.Proofs.Ytnfbhhgdibkbdaa
