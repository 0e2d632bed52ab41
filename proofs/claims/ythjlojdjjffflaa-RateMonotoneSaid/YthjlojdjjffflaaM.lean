/- Plain mathematics on rates: quotients by divisors, the least that fits, the greatest number that divides two. No Go in sight. -/
namespace Go.Proofs.Ythjlojdjjffflaa.Rm

theorem div_anti (r : Nat) {a b : Nat} (ha : 1 ≤ a) (h : a ≤ b) : r / b ≤ r / a := Nat.div_le_div_left h ha
/-- the least divisor up to n that meets p, or none -/
theorem least (p : Nat → Prop) (n : Nat) : (∃ d, 1 ≤ d ∧ d ≤ n ∧ p d ∧ ∀ k, 1 ≤ k → k < d → ¬ p k) ∨ (∀ k, 1 ≤ k → k ≤ n → ¬ p k) := by
  induction n with
  | zero => right; intro k h1 h2; omega
  | succ n ih =>
    rcases ih with ⟨d, h1, h2, h3, h4⟩ | h
    · exact Or.inl ⟨d, h1, by omega, h3, h4⟩
    · by_cases hp : p (n + 1)
      · exact Or.inl ⟨n + 1, by omega, Nat.le_refl _, hp, fun k a b => h k a (by omega)⟩
      · right; intro k a b
        rcases Nat.lt_or_ge k (n + 1) with c | c
        · exact h k a (by omega)
        · have : k = n + 1 := by omega
          subst this; exact hp
theorem gcd_step (a b : Nat) : Nat.gcd b (a % b) = Nat.gcd a b := by
  rw [Nat.gcd_comm a b, Nat.gcd_rec b a, Nat.gcd_comm]
end Go.Proofs.Ythjlojdjjffflaa.Rm
