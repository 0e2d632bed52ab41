/- The chip that chapter 4's statements make of raw numbers, plainly. -/
import Derived.Test.YtnfbhhgdibkbdaaS
namespace Go.Proofs.Ytnfbhhgdibkbdaa
set_option linter.unusedSimpArgs false
set_option linter.unusedVariables false

/-- which of n things a raw number speaks of -/
def pickP (c n : Int) : Int := (if c < 0 then -(c + 1) else c) % n
theorem pickP_lo {c n : Int} (hn : 0 < n) : 0 ≤ pickP c n := Int.emod_nonneg _ (by omega)
theorem pickP_hi {c n : Int} (hn : 0 < n) : pickP c n < n := Int.emod_lt_of_pos _ hn
/-- the i-th number drawn of l -/
def drawP (l : List Int) (i : Nat) : Nat := if l = [] then 0 else (pickP ((l.getD (i % l.length) 0).tdiv (1 + (i / l.length : Nat))) 1000000).toNat
theorem drawP_lt (l : List Int) (i : Nat) : drawP l i < 1000000 := by
  unfold drawP
  split
  · omega
  · have := pickP_hi (c := (l.getD (i % l.length) 0).tdiv (1 + (i / l.length : Nat))) (n := 1000000) (by omega)
    have := pickP_lo (c := (l.getD (i % l.length) 0).tdiv (1 + (i / l.length : Nat))) (n := 1000000) (by omega)
    omega

def kindP (j : Nat) : Int := if j = 0 then 112 else if j = 1 then 100 else if j = 2 then 103 else if j = 3 then 109 else 103
def oscP (d : Nat → Nat) : Clk := ⟨111, [], ((1 + d 0 : Nat) : Int), 0, 0, 0⟩
/-- the i-th clock behind the oscillator -/
def clkP (d : Nat → Nat) (i : Nat) : Clk :=
  let k := 10 + 3 * i
  let kd := kindP (d k % 5)
  ⟨kd, if kd = 109 then [((d (k + 1) % (i + 1) : Nat) : Int), ((d (k + 2) % (i + 1) : Nat) : Int)] else [((d (k + 1) % (i + 1) : Nat) : Int)], 0,
    if kd = 112 then ((1 + d (k + 2) % 8 : Nat) : Int) else 0, if kd = 112 then ((1 + d (k + 2) / 8 % 4 : Nat) : Int) else if kd = 100 then ((1 + d (k + 2) % 8 : Nat) : Int) else 0,
    if kd = 112 then ((d (k + 2) / 32 % 4 : Nat) : Int) else 0⟩
def clksP (d : Nat → Nat) (n : Nat) : List Clk := oscP d :: (List.range n).map (clkP d)
def domP (d : Nat → Nat) (i : Nat) : Dom := ⟨if 0 < i ∧ 0 < d (44 + i) % 3 then ((d (44 + i) / 3 % i : Nat) : Int) else -1, ((d (40 + i) % 4 : Nat) : Int), d (40 + i) / 4 % 2 == 1⟩
def domsP (d : Nat → Nat) (n : Nat) : List Dom := (List.range n).map (domP d)
def rstP (d : Nat → Nat) (i : Nat) : Rst := ⟨((d (50 + i) % 4 : Nat) : Int)⟩
def rstsP (d : Nat → Nat) (n : Nat) : List Rst := (List.range n).map (rstP d)
def rgsP (d : Nat → Nat) (k j : Nat) : Rgs := ⟨((d (k + 5 + j) % 7 : Nat) : Int), d (k + 5 + j) / 7 % 2 == 0⟩
def regsP (d : Nat → Nat) (k n : Nat) : List Rgs := (List.range n).map (rgsP d k)
def need1 (d : Nat → Nat) (k i : Nat) : List Int := if 0 < i ∧ d (k + 9) % 2 = 1 then [((d (k + 10) % i : Nat) : Int)] else []
def need2 (d : Nat → Nat) (k i : Nat) : List Int := if 1 < i ∧ d (k + 11) % 3 = 1 then [((d (k + 11) / 3 % i : Nat) : Int)] else []
def devP (d : Nat → Nat) (nc nd nr i : Nat) : Dev :=
  let k := 60 + 12 * i
  ⟨((d k % nc : Nat) : Int), ((d (k + 1) % nd : Nat) : Int), ((d (k + 2) % nr : Nat) : Int), ((d (k + 3) % 3 : Nat) : Int), regsP d k (d (k + 4) % 5), need1 d k i ++ need2 d k i⟩
def devsP (d : Nat → Nat) (nc nd nr n : Nat) : List Dev := (List.range n).map (devP d nc nd nr)
def nClk (d : Nat → Nat) : Nat := d 1 % 9
def nDom (d : Nat → Nat) : Nat := 1 + d 2 % 4
def nRst (d : Nat → Nat) : Nat := 1 + d 3 % 3
def nDev (d : Nat → Nat) : Nat := 1 + d 4 % 4
def chipD (d : Nat → Nat) : Chip := ⟨clksP d (nClk d), domsP d (nDom d), rstsP d (nRst d), devsP d (nClk d + 1) (nDom d) (nRst d) (nDev d)⟩
def chipP (l : List Int) : Chip := chipD (drawP l)

theorem range_snoc {α : Type} (f : Nat → α) (n : Nat) : (List.range (n + 1)).map f = (List.range n).map f ++ [f n] := by rw [List.range_succ, List.map_append]; rfl

end Go.Proofs.Ytnfbhhgdibkbdaa
