/- Graphs with one edge more: plain; and the answers for them. -/
import Derived.Test.YtlkgnafbipgpbaaL7
import Derived.Laws.AppendOwnNone
namespace Go.Proofs.Ytlkgnafbipgpbaa
open Go.RowKit Go.Maps

/-- g, with v hanging on u too -/
def addE (g : Nat → List Int) (v u : Nat) : Nat → List Int := upd g v (g v ++ [(u : Int)])
theorem addE_sub {g : Nat → List Int} {v u : Nat} : ∀ w x, x ∈ g w → x ∈ addE g v u w := by
  intro w x hx
  unfold addE upd
  split
  · rename_i e; subst e; exact List.mem_append_left _ hx
  · exact hx
theorem addE_mem {g : Nat → List Int} {v u w : Nat} {x : Int} (h : x ∈ addE g v u w) : x ∈ g w ∨ (w = v ∧ x = (u : Int)) := by
  unfold addE upd at h
  split at h
  · rename_i e
    subst e
    rcases List.mem_append.1 h with h | h
    · exact .inl h
    · exact .inr ⟨rfl, List.mem_singleton.1 h⟩
  · exact .inl h
theorem addE_closed {g : Nat → List Int} {n v u : Nat} (hg : Closed g n) (hu : u < n) : Closed (addE g v u) n := fun i hi x hx => by
  rcases addE_mem hx with h | ⟨_, rfl⟩
  · exact hg i hi x h
  · exact ⟨u, hu, rfl⟩
theorem addE_ab {g : Nat → List Int} {v u a b : Nat} (h : Ab (addE g v u) a b) : Ab g a b ∨ ((a = v ∨ Ab g a v) ∧ (b = u ∨ Ab g u b)) := by
  induction h with
  | @one a b hx =>
    rcases addE_mem hx with h | ⟨rfl, e⟩
    · exact .inl (.one h)
    · exact .inr ⟨.inl rfl, .inl (by omega)⟩
  | @more a c b hx _ ih =>
    rcases addE_mem hx with h | ⟨rfl, e⟩
    · rcases ih with ih | ⟨h1, h2⟩
      · exact .inl (.more h ih)
      · refine .inr ⟨.inr ?_, h2⟩
        rcases h1 with rfl | h1
        · exact .one h
        · exact .more h h1
    · have hcu : c = u := by omega
      subst hcu
      rcases ih with ih | ⟨_, h2⟩
      · exact .inr ⟨.inl rfl, .inr ih⟩
      · exact .inr ⟨.inl rfl, h2⟩
theorem addE_new {g : Nat → List Int} {v u : Nat} : (u : Int) ∈ addE g v u v := by unfold addE upd; simp
theorem addE_acyc {g : Nat → List Int} {n v u : Nat} (hi : ∀ x, x < n → ¬ Ab g x x) (hv : v < n) (hu : u < n) (_hg : Closed g n) (hc : ¬ (u = v ∨ Ab g u v)) : ∀ x, x < n → ¬ Ab (addE g v u) x x := by
  intro x hx h
  rcases addE_ab h with h | ⟨h1, h2⟩
  · exact hi x hx h
  · apply hc
    rcases h1 with rfl | h1 <;> rcases h2 with rfl | h2
    · exact .inl rfl
    · exact .inr h2
    · exact .inr h1
    · exact .inr (ab_trans h2 h1)
theorem addE_circ {g : Nat → List Int} {n v u : Nat} (hg : Closed g n) (hu : u < n) (hc : u = v ∨ Ab g u v) : Ab (addE g v u) v v := by
  rcases hc with rfl | h
  · exact .one addE_new
  · exact .more addE_new (ab_mono hg (fun w _ x hx => addE_sub w x hx) h hu)

theorem closedB_of {g : Nat → List Int} {n : Nat} (hg : Closed g n) : closedB n g = true := closedB_yes fun i hi x hx => by
  obtain ⟨y, h1, rfl⟩ := hg i hi x hx
  omega
theorem circ_says {g : Nat → List Int} {n v : Nat} (hg : Closed g n) (hn : n ≤ 100) (hv : v < n) (hc : Ab g v v) {E : Int} {o : List Nat} (h : OrderSays n g E o) : E = 5 := by
  rcases h with ⟨h1, _⟩ | ⟨_, h2, _⟩ | ⟨_, _, h3, _⟩ | ⟨_, _, _, h5, h6⟩
  · omega
  · rw [closedB_of hg] at h2; cases h2
  · exact h3
  · exact absurd hc ((h5.topo h6).irrefl hg hv)
theorem circ_for {g : Nat → List Int} {n v : Nat} (hg : Closed g n) (hn : n ≤ 100) (hv : v < n) (hc : Ab g v v) {x E : Int} {o : List Nat} (h : ForSays n g x E o) : E = 5 := by
  rcases h with ⟨h, _⟩ | ⟨_, _, _, p, hp⟩
  · exact circ_says hg hn hv hc h
  · have := circ_says hg hn hv hc hp; omega
theorem node_for {g : Nat → List Int} {n : Nat} {f : Nat → Nat} (hr : Ranked g n f) (hn : n ≤ 100) {E : Int} {o : List Nat} (h : ForSays n g (n : Int) E o) : E = 4 := by
  rcases h with ⟨h, h1⟩ | ⟨h, _⟩
  · have := (hr.says hn h).1
    omega
  · exact h
theorem wf_closed {g : Nat → List Int} {n : Nat} (h : Closed g n) (hn : n ≤ 1000) : ∀ i, i < n → ∀ x, x ∈ g i → wfI x := fun i hi x hx => by
  obtain ⟨y, h1, rfl⟩ := h i hi x hx
  unfold wfI
  omega

/-- what Check and Above say of g with an edge more -/
def CircErr (c : Bool) (a b : Int) : Int := if c then a else b
theorem check_add {A : Option Addr} {n cap v u : Nat} {g : Nat → List Int} {w : World} (hn : n ≤ 100) (hl : ∀ i, i < n → (addE g v u i).length ≤ 1000) (hg : Closed g n) (hi : ∀ x, x < n → ¬ Ab g x x) (hv : v < n) (hu : u < n) (cc : Bool) (hcc : cc = true ↔ (u = v ∨ Ab g u v)) (h : RowsAt w w.heap.size A n (addE g v u)) :
    Calls Try.prog 18 #[.slice A n cap] w fun e w' => e = .returned (.int .i64 (CircErr cc 5 0)) ∧ Below w.heap.size w w' :=
  (check_any A n cap _ w (by omega) (fun i hi => by have := hl i hi; omega) (wf_closed (addE_closed hg hu) (by omega)) h).mono fun e w' ⟨E, ⟨o, hs⟩, he, hb⟩ => by
    refine ⟨?_, hb⟩
    rw [he]
    cases cc with
    | true => rw [circ_says (addE_closed hg hu) hn hv (addE_circ hg hu (hcc.1 rfl)) hs]; rfl
    | false => rw [((acyc_ranked (addE_closed hg hu) (addE_acyc hi hv hu hg (fun h => by have := hcc.2 h; cases this))).says hn hs).1]; rfl
theorem above_add {A : Option Addr} {n cap v u : Nat} {g : Nat → List Int} {w : World} (hn : n ≤ 100) (hl : ∀ i, i < n → (addE g v u i).length ≤ 1000) (hg : Closed g n) (hi : ∀ x, x < n → ¬ Ab g x x) (hv : v < n) (hu : u < n) (cc : Bool) (hcc : cc = true ↔ (u = v ∨ Ab g u v)) (h : RowsAt w w.heap.size A n (addE g v u)) :
    Calls Try.prog 14 #[.slice A n cap, .int .i64 (n : Int)] w fun e w' => (∃ A' k c', e = .returned (.tuple #[.slice A' k c', .int .i64 (CircErr cc 5 4)])) ∧ Below w.heap.size w w' :=
  (above_any A n cap _ n w (by omega) hl (wf_closed (addE_closed hg hu) (by omega)) h (by unfold wfI; omega)).mono fun e w' ⟨E, ys, A', c', ⟨o, hs, _⟩, he, _, hb, _⟩ => by
    refine ⟨⟨A', ys.length, c', ?_⟩, hb⟩
    rw [he]
    cases cc with
    | true => rw [circ_for (addE_closed hg hu) hn hv (addE_circ hg hu (hcc.1 rfl)) hs]; rfl
    | false => rw [node_for (acyc_ranked (addE_closed hg hu) (addE_acyc hi hv hu hg (fun h => by have := hcc.2 h; cases this))) hn hs]; rfl

end Go.Proofs.Ytlkgnafbipgpbaa
