/- Plain mathematics of layer 1 (num), fifth part: numbers that may be; what is to be shown of them. -/
import Derived.Test.YtbcoakonjgakbaaDoorPured
namespace Go.Proofs.YtbcoakonjgakbaaDoor.Nm

/-- A number may be: 0, or digits without 0s at both ends, not too many, and an exponent that is not too large. -/
def May (n : Num) : Prop :=
  n = Num.zero ∨ (n.digits ≠ [] ∧ (∀ c ∈ n.digits, dig c = true) ∧ n.digits.head? ≠ some 48 ∧ n.digits.getLast? ≠ some 48 ∧ n.digits.length ≤ 60 ∧ -1000 ≤ n.exp ∧ n.exp ≤ 1000)

theorem May.fair {n : Num} (h : May n) : Fair n := by
  rcases h with rfl | ⟨_, _, _, _, h1, h2, h3⟩
  · exact ⟨by decide, by decide, by decide⟩
  · exact ⟨by omega, by omega, by omega⟩

/-- A count as a number. -/
def count (k : Int) : Num := (parse (Lib.itoa k)).1

/-- What the law NumBack leans on. -/
structure Laws : Prop where
  err : ∀ l, 0 ≤ (parse l).2 ∧ (parse l).2 ≤ 14
  may : ∀ l, (parse l).2 = 0 → May (parse l).1
  back : ∀ n, May n → parse (text n) = (n, 0)
  len : ∀ n, May n → (text n).length ≤ 100
  range : ∀ a b, -1 ≤ cmp a b ∧ cmp a b ≤ 1
  flip : ∀ a b, May a → May b → cmp a b = - cmp b a
  same : ∀ a b, May a → May b → (cmp a b = 0 ↔ a = b)
  next : ∀ a b c, May a → May b → May c → cmp a b ≤ 0 → cmp b c ≤ 0 → cmp a c ≤ 0
  countMay : ∀ k : Int, 0 ≤ k → k ≤ 2000000000 → May (count k)
  countNext : ∀ k : Int, 0 ≤ k → k ≤ 1000000000 → cmp (count k) (count (k + 1)) = -1
  countWhole : ∀ k : Int, 0 ≤ k → k ≤ 1000000000 → 0 ≤ (count k).exp

end Go.Proofs.YtbcoakonjgakbaaDoor.Nm
