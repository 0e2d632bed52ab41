/- RateMonotone: the walk for every input. -/
import Derived.Test.YthjlojdjjffflaaL4
namespace Go.Proofs.Ythjlojdjjffflaa
open Go.RowKit
/-- of two calls of Scale the first one ends well: the second one ends with no less, or beyond -/
theorem up_of (r m d n : Nat) (s : Nat) (hr : r ≤ 1099511627776) (h1 : 1 ≤ m) (h2 : m ≤ 1000) (h3 : 1 ≤ d) (h4 : d ≤ 1000) (hn : r * m / d = n) (hs : s ≤ n) : ∃ t e : Int, Up s t e ∧ ScaleIs r m d t e := by
  by_cases h : 1099511627776 < n
  · exact ⟨0, 3, Or.inr ⟨rfl, rfl⟩, scale_range r m d hr h1 h2 h3 h4 (by omega)⟩
  · exact ⟨n, 0, Or.inl ⟨rfl, by omega⟩, scale_to r m d n hr h1 h2 h3 h4 hn (by omega)⟩
theorem high_of (r m d : Nat) (s : Nat) (hr : r ≤ 1099511627776) (h1 : 1 ≤ m) (h2 : m ≤ 1000) (h3 : 1 ≤ d) (h4 : d ≤ 1000) (hn : s ≤ r * m / d) (hs : 1099511627776 < s) : ScaleIs r m d 0 3 :=
  scale_range r m d hr h1 h2 h3 h4 (by omega)
theorem div_mono (a b c d : Nat) (h : a ≤ b) (hd : 1 ≤ d) (hc : d ≤ c) : a / c ≤ b / d :=
  Nat.le_trans (Nat.div_le_div_right h) (Nat.div_le_div_left hc hd)
theorem scale_cast {r m d v e m' d' : Int} (h : ScaleIs r m d v e) (hm : m = m') (hd : d = d') : ScaleIs r m' d' v e := by subst hm hd; exact h
theorem ups (p q m d n m2 d2 : Nat) (hpq : p ≤ q) (hq : q ≤ 1099511627776) (h1 : 1 ≤ m) (hm : m ≤ m2) (hm2 : m2 ≤ 1000) (h2 : 1 ≤ d2) (hd : d2 ≤ d) (hd2 : d ≤ 1000) (hn : p * m / d = n) :
    (∃ t e : Int, Up n t e ∧ ScaleIs q m d t e) ∧ (∃ t e : Int, Up n t e ∧ ScaleIs p m2 d t e) ∧ (∃ t e : Int, Up n t e ∧ ScaleIs p m d2 t e) := by
  subst hn
  exact ⟨up_of q m d _ _ hq h1 (by omega) (by omega) hd2 rfl (div_mono _ _ _ _ (Nat.mul_le_mul_right m hpq) (by omega) (Nat.le_refl _)),
    up_of p m2 d _ _ (by omega) (by omega) hm2 (by omega) hd2 rfl (div_mono _ _ _ _ (Nat.mul_le_mul_left p hm) (by omega) (Nat.le_refl _)),
    up_of p m d2 _ _ (by omega) h1 (by omega) h2 (by omega) rfl (div_mono _ _ _ _ (Nat.le_refl _) h2 hd)⟩
theorem highs (p q m d n m2 d2 : Nat) (hpq : p ≤ q) (hq : q ≤ 1099511627776) (h1 : 1 ≤ m) (hm : m ≤ m2) (hm2 : m2 ≤ 1000) (h2 : 1 ≤ d2) (hd : d2 ≤ d) (hd2 : d ≤ 1000) (hn : p * m / d = n) (hh : 1099511627776 < n) :
    ScaleIs p m d 0 3 ∧ ScaleIs q m d 0 3 ∧ ScaleIs p m2 d 0 3 ∧ ScaleIs p m d2 0 3 := by
  subst hn
  exact ⟨scale_range p m d (by omega) h1 (by omega) (by omega) hd2 hh,
    high_of q m d _ hq h1 (by omega) (by omega) hd2 (div_mono _ _ _ _ (Nat.mul_le_mul_right m hpq) (by omega) (Nat.le_refl _)) hh,
    high_of p m2 d _ (by omega) (by omega) hm2 (by omega) hd2 (div_mono _ _ _ _ (Nat.mul_le_mul_left p hm) (by omega) (Nat.le_refl _)) hh,
    high_of p m d2 _ (by omega) h1 (by omega) h2 (by omega) (div_mono _ _ _ _ (Nat.le_refl _) h2 hd) hh⟩
theorem mono_walk (a b : Nat) (x y : Int) (ha1 : -9223372036854775808 ≤ x) (ha2 : x ≤ 9223372036854775807) (hb1 : -9223372036854775808 ≤ y) (hb2 : y ≤ 9223372036854775807) (W : World) :
    Calls Try.prog 8 #[.int .u64 a, .int .u64 b, .int .i64 x, .int .i64 y] W fun o w' => o = .returned (.bool true) ∧ Below W.heap.size W w' := by
  obtain ⟨i, hi, p1⟩ := pick_any x 1000 ha1 ha2 (by omega) (by omega)
  obtain ⟨j, hj, p2⟩ := pick_any y 1000 hb1 hb2 (by omega) (by omega)
  have ha : a % 1099511627777 < 1099511627777 := Nat.mod_lt _ (by omega)
  have ha' : (a : Int) % 1099511627777 = ((a % 1099511627777 : Nat) : Int) := by simp
  have hb : b % 1099511627777 < 1099511627777 := Nat.mod_lt _ (by omega)
  have hb' : (b : Int) % 1099511627777 = ((b % 1099511627777 : Nat) : Int) := by simp
  generalize a % 1099511627777 = a' at ha ha'
  generalize b % 1099511627777 = b' at hb hb'
  obtain ⟨p, hp, hp2, hp3⟩ : ∃ p : Nat, (if b' < a' then (b' : Int) else (a' : Int)) = (p : Int) ∧ p ≤ a' ∧ p ≤ b' := by
    by_cases h : b' < a'
    · exact ⟨b', by rw [if_pos h], by omega, by omega⟩
    · exact ⟨a', by rw [if_neg h], by omega, by omega⟩
  obtain ⟨q, hq, hq2, hq3⟩ : ∃ q : Nat, (if a' < b' then (b' : Int) else (a' : Int)) = (q : Int) ∧ a' ≤ q ∧ q ≤ 1099511627776 := by
    by_cases h : a' < b'
    · exact ⟨b', by rw [if_pos h], by omega, by omega⟩
    · exact ⟨a', by rw [if_neg h], by omega, by omega⟩
  have hz := mul_room p (i + 1) (by omega) (by omega)
  have hn : p * (i + 1) / (j + 1) ≤ 1099511627776000 := Nat.le_trans (Nat.div_le_self _ _) hz
  by_cases ht : i = 999
  · subst ht
    by_cases ho : j = 0
    · subst ho
      rw [Nat.div_one] at hn
      by_cases hh : 1099511627776 < p * 1000
      · obtain ⟨s1, s2, s3, s4⟩ := highs p q 1000 1 _ 1000 1 (by omega) hq3 (by omega) (by omega) (by omega) (by omega) (by omega) (by omega) (Nat.div_one _) hh
        exact mono_top_one_high a b p q (p * 1000) 0 a' b' x y _ _ ha' hb' (by omega) (by omega) (by rfl) (by rfl) hp hq (by omega) (by simp) hz hh p1 p2 s1 s2 s3 s4 W
      · obtain ⟨⟨t, f, c1, s2⟩, ⟨u, g, c2, s3⟩, ⟨v, h, c3, s4⟩⟩ := ups p q 1000 1 _ 1000 1 (by omega) hq3 (by omega) (by omega) (by omega) (by omega) (by omega) (by omega) (Nat.div_one _)
        exact mono_top_one_ok a b p q (p * 1000) 0 a' b' x y _ _ t u v f g h ha' hb' (by omega) (by omega) (by rfl) (by rfl) hp hq (by omega) (by simp) hz (by omega) c1 c2 c3 p1 p2
          (scale_to p 1000 1 _ (by omega) (by omega) (by omega) (by omega) (by omega) (Nat.div_one _) (by omega)) s2 s3 s4 W
    · by_cases hh : 1099511627776 < p * 1000 / (j + 1)
      · obtain ⟨s1, s2, s3, s4⟩ := highs p q 1000 (j + 1) _ 1000 j (by omega) hq3 (by omega) (by omega) (by omega) (by omega) (by omega) (by omega) rfl hh
        exact mono_top_more_high a b p q (p * 1000) (p * 1000 / (j + 1)) a' b' (j + 1) x y _ _ ha' hb' (by omega) (by omega) (by rfl) (by omega) (by omega) (by omega) hp hq (by omega) (by simp) hz (div_cast _ _ _ rfl) hn hh p1 p2 s1 s2 s3 (scale_cast s4 rfl (by omega)) W
      · obtain ⟨⟨t, f, c1, s2⟩, ⟨u, g, c2, s3⟩, ⟨v, h, c3, s4⟩⟩ := ups p q 1000 (j + 1) _ 1000 j (by omega) hq3 (by omega) (by omega) (by omega) (by omega) (by omega) (by omega) rfl
        exact mono_top_more_ok a b p q (p * 1000) (p * 1000 / (j + 1)) a' b' (j + 1) x y _ _ t u v f g h ha' hb' (by omega) (by omega) (by rfl) (by omega) (by omega) (by omega) hp hq (by omega) (by simp) hz (div_cast _ _ _ rfl) hn (by omega) c1 c2 c3 p1 p2
          (scale_to p 1000 (j + 1) _ (by omega) (by omega) (by omega) (by omega) (by omega) rfl (by omega)) s2 s3 (scale_cast s4 rfl (by omega)) W
  · by_cases ho : j = 0
    · subst ho
      rw [Nat.div_one] at hn
      by_cases hh : 1099511627776 < p * (i + 1)
      · obtain ⟨s1, s2, s3, s4⟩ := highs p q (i + 1) 1 _ (i + 2) 1 (by omega) hq3 (by omega) (by omega) (by omega) (by omega) (by omega) (by omega) (Nat.div_one _) hh
        exact mono_low_one_high a b p q (p * (i + 1)) 0 a' b' (i + 1) x y _ _ ha' hb' (by omega) (by omega) (by omega) (by rfl) (by omega) (by omega) hp hq (by omega) (by simp) hz hh p1 p2 s1 s2 (scale_cast s3 (by omega) rfl) s4 W
      · obtain ⟨⟨t, f, c1, s2⟩, ⟨u, g, c2, s3⟩, ⟨v, h, c3, s4⟩⟩ := ups p q (i + 1) 1 _ (i + 2) 1 (by omega) hq3 (by omega) (by omega) (by omega) (by omega) (by omega) (by omega) (Nat.div_one _)
        exact mono_low_one_ok a b p q (p * (i + 1)) 0 a' b' (i + 1) x y _ _ t u v f g h ha' hb' (by omega) (by omega) (by omega) (by rfl) (by omega) (by omega) hp hq (by omega) (by simp) hz (by omega) c1 c2 c3 p1 p2
          (scale_to p (i + 1) 1 _ (by omega) (by omega) (by omega) (by omega) (by omega) (Nat.div_one _) (by omega)) s2 (scale_cast s3 (by omega) rfl) s4 W
    · by_cases hh : 1099511627776 < p * (i + 1) / (j + 1)
      · obtain ⟨s1, s2, s3, s4⟩ := highs p q (i + 1) (j + 1) _ (i + 2) j (by omega) hq3 (by omega) (by omega) (by omega) (by omega) (by omega) (by omega) rfl hh
        exact mono_low_more_high a b p q (p * (i + 1)) (p * (i + 1) / (j + 1)) a' b' (i + 1) (j + 1) x y _ _ ha' hb' (by omega) (by omega) (by omega) (by omega) (by omega) (by omega) (by omega) (by omega) hp hq (by omega) (by simp) hz (div_cast _ _ _ rfl) hn hh p1 p2 s1 s2 (scale_cast s3 (by omega) rfl) (scale_cast s4 rfl (by omega)) W
      · obtain ⟨⟨t, f, c1, s2⟩, ⟨u, g, c2, s3⟩, ⟨v, h, c3, s4⟩⟩ := ups p q (i + 1) (j + 1) _ (i + 2) j (by omega) hq3 (by omega) (by omega) (by omega) (by omega) (by omega) (by omega) rfl
        exact mono_low_more_ok a b p q (p * (i + 1)) (p * (i + 1) / (j + 1)) a' b' (i + 1) (j + 1) x y _ _ t u v f g h ha' hb' (by omega) (by omega) (by omega) (by omega) (by omega) (by omega) (by omega) (by omega) hp hq (by omega) (by simp) hz (div_cast _ _ _ rfl) hn (by omega) c1 c2 c3 p1 p2
          (scale_to p (i + 1) (j + 1) _ (by omega) (by omega) (by omega) (by omega) (by omega) rfl (by omega)) s2 (scale_cast s3 (by omega) rfl) (scale_cast s4 rfl (by omega)) W
end Go.Proofs.Ythjlojdjjffflaa
