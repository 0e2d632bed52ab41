/- Plain: what is changed in a copy makes another chip. -/
import Derived.Test.YtkhfcbcanbplgaaN2
import Derived.Test.YtkhfcbcanbplgaaW14
namespace Go.Proofs.Ytkhfcbcanbplgaa
set_option linter.unusedSimpArgs false
set_option linter.unusedVariables false

/-- two chips that are told apart, from either side -/
def Apart (s t : Chip) : Prop := eqP s t = false ∧ eqP t s = false
theorem apart_of {s t : Chip} (h : s ≠ t) : Apart s t := ⟨eqP_no h, eqP_no fun e => h e.symm⟩
theorem set_ne {α : Type} {l : List α} {k : Nat} {x y : α} (hx : l[k]? = some x) (hne : x ≠ y) : l ≠ l.set k y := fun e => by
  have hl := (List.getElem?_eq_some_iff.1 hx).1
  have h1 : (l.set k y)[k]? = some y := List.getElem?_set_self hl
  rw [← e, hx] at h1
  exact hne (Option.some.inj h1)
theorem at_ne {α : Type} {l m : List α} {k : Nat} {x y : α} (hx : l[k]? = some x) (hy : m[k]? = some y) (hne : x ≠ y) : l ≠ m := fun e => by
  rw [e, hy] at hx
  exact hne (Option.some.inj hx).symm
theorem apart_clks {s : Chip} {m : List Clk} (h : s.clks ≠ m) : Apart s { s with clks := m } := apart_of fun e => h (congrArg Chip.clks e)
theorem apart_doms {s : Chip} {m : List Dom} (h : s.doms ≠ m) : Apart s { s with doms := m } := apart_of fun e => h (congrArg Chip.doms e)
theorem apart_rsts {s : Chip} {m : List Rst} (h : s.rsts ≠ m) : Apart s { s with rsts := m } := apart_of fun e => h (congrArg Chip.rsts e)
theorem apart_devs {s : Chip} {m : List Dev} (h : s.devs ≠ m) : Apart s { s with devs := m } := apart_of fun e => h (congrArg Chip.devs e)

/-- a clock all of whose inputs are 99 -/
def nines (c : Clk) : Clk := { c with frm := c.frm.map fun _ => 99 }
/-- a device with its registers' other field turned round -/
def turned (d : Dev) : Dev := { d with regs := d.regs.map fun r => { r with kept := !r.kept } }

section
variable {s : Chip}
theorem copy0 {c : Clk} (h : s.clks[0]? = some c) : Apart s { s with clks := s.clks.set 0 { c with rate := c.rate + 1 } } :=
  apart_clks (set_ne h fun e => by have := congrArg Clk.rate e; simp at this; omega)
theorem copy1 {c : Clk} (h : s.clks[0]? = some c) (hl : c.lock = 0) : Apart s { s with clks := (s.clks.map nines).set 0 { nines c with lock := 7 } } := by
  have hm : (s.clks.map nines)[0]? = some (nines c) := by rw [List.getElem?_map, h]; rfl
  exact apart_clks (at_ne h (List.getElem?_set_self (List.getElem?_eq_some_iff.1 hm).1) fun e => by have := congrArg Clk.lock e; simp [hl] at this)
theorem copy2 {c : Dom} (h : s.doms[0]? = some c) : Apart s { s with doms := s.doms.set 0 { c with ret := !c.ret } } :=
  apart_doms (set_ne h fun e => by have := congrArg Dom.ret e; simp at this)
theorem copy3 {c : Rst} (h : s.rsts[0]? = some c) : Apart s { s with rsts := s.rsts.set 0 { c with least := c.least + 1 } } :=
  apart_rsts (set_ne h fun e => by have := congrArg Rst.least e; simp at this; omega)
theorem copy4 {k : Nat} {c : Dev} (h : s.devs[k]? = some c) {u : Int} (hu : u ≠ c.clamp) : Apart s { s with devs := s.devs.set k { c with clamp := u } } :=
  apart_devs (set_ne h fun e => hu (congrArg Dev.clamp e).symm)
theorem copy5 {k : Nat} {c : Dev} (h : s.devs[k]? = some c) (x : Int) : Apart s { s with devs := s.devs.set k { c with needs := c.needs ++ [x] } } :=
  apart_devs (set_ne h fun e => by have := congrArg (fun d : Dev => d.needs.length) e; simp at this)
theorem copy6 {m : List Dev} {c d : Dev} (h : s.devs[0]? = some c) (h' : m[0]? = some d) (hd : d.domain = c.domain) : Apart s { s with devs := m.set 0 { d with domain := d.domain + 1 } } :=
  apart_devs (at_ne h (List.getElem?_set_self (List.getElem?_eq_some_iff.1 h').1) fun e => by have := congrArg Dev.domain e; simp [hd] at this; omega)
theorem copy7 (h : 0 < s.devs.length) : Apart s { s with devs := s.devs.take (s.devs.length - 1) } :=
  apart_devs fun e => by have := congrArg List.length e; simp at this; omega
end
namespace Plain
variable {s : Chip} (h : Plain s)
include h
theorem okClks {m : List Clk} (hl : m.length ≤ 1000) (hc : ∀ c, c ∈ m → c.frm.length ≤ 1000 ∧ ∀ x, x ∈ c.frm → wfI x) : ChipOk { s with clks := m } := ⟨hl, h.ok.n2, h.ok.n3, h.ok.n4, hc, h.ok.doms, h.ok.devs⟩
theorem ok1 {c : Clk} (hc : s.clks[0]? = some c) : ChipOk { s with clks := (s.clks.map nines).set 0 { nines c with lock := 7 } } := h.okClks (by have := h.nc; simp; omega) fun k hk => by
  have hn : ∀ y, y ∈ s.clks → (nines y).frm.length ≤ 1000 ∧ ∀ x, x ∈ (nines y).frm → wfI x := fun y hy => ⟨by have := (h.ok.clks y hy).1; simp [nines]; exact this, fun x hx => by
    obtain ⟨_, _, rfl⟩ := List.mem_map.1 hx
    unfold wfI; omega⟩
  rcases List.mem_or_eq_of_mem_set hk with hk | rfl
  · obtain ⟨y, hy, rfl⟩ := List.mem_map.1 hk
    exact hn y hy
  · exact hn c (List.mem_of_getElem? hc)
end Plain

end Go.Proofs.Ytkhfcbcanbplgaa
