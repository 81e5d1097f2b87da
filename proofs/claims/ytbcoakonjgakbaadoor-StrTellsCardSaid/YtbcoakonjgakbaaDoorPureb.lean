/- Plain mathematics of layer 1 (num), second part: exponents, numbers without 0s at both ends. -/
import Derived.Test.YtbcoakonjgakbaaDoorPure
import Derived.Lib.ItoaNum
import Derived.Lib.ItoaLen
namespace Go.Proofs.YtbcoakonjgakbaaDoor.Nm

/-- The number of an exponent's digits, at most 2^40. -/
def far : Int := 1099511627776
def expo (l : List UInt8) : Int := l.foldl (fun e c => min (e * 10 + ((c.toNat : Int) - 48)) far) 0
def expOf (p : Parts) : Int := if p.expNeg then - expo p.exp else expo p.exp
/-- The digits without 0s at both ends, the exponent in step: a number, if it may be. -/
def normal (neg : Bool) (d : List UInt8) (e : Int) : Num × Bool :=
  let l := Lib.trimLeftB d 48
  let r := Lib.trimRightB l 48
  let x := e + ((l.length : Int) - r.length)
  if r.isEmpty then (Num.zero, true) else if 60 < r.length ∨ x < -1000 ∨ 1000 < x then (Num.zero, false) else (⟨neg, r, x⟩, true)

theorem dig_bd {c : UInt8} (h : dig c = true) : 48 ≤ c.toNat ∧ c.toNat ≤ 57 := by
  simpa [dig] using h
theorem expo_snoc (l : List UInt8) (k : Nat) (h : k < l.length) : expo (l.take (k + 1)) = min (expo (l.take k) * 10 + ((l[k].toNat : Int) - 48)) far := by
  rw [List.take_succ_eq_append_getElem h]; unfold expo; rw [List.foldl_append]; rfl
theorem expo_fold (l : List UInt8) : ∀ e : Int, 0 ≤ e → e ≤ far → (∀ c ∈ l, dig c = true) → 0 ≤ l.foldl (fun e c => min (e * 10 + ((c.toNat : Int) - 48)) far) e ∧ l.foldl (fun e c => min (e * 10 + ((c.toNat : Int) - 48)) far) e ≤ far := by
  induction l with
  | nil => intro e h1 h2 _; exact ⟨h1, h2⟩
  | cons c r ih =>
    intro e h1 h2 h
    have hc := dig_bd (h c (by simp))
    rw [List.foldl_cons]
    refine ih _ ?_ ?_ (fun d hd => h d (by simp [hd]))
    · unfold far; omega
    · unfold far; omega
theorem expo_bd (l : List UInt8) (h : ∀ c ∈ l, dig c = true) : 0 ≤ expo l ∧ expo l ≤ 1099511627776 := expo_fold l 0 (by decide) (by decide) h

theorem normal_eq {d l r : List UInt8} (neg : Bool) (hl : Lib.trimLeftB d 48 = l) (hr : Lib.trimRightB l 48 = r) (x : Int) :
    normal neg d x = if r.isEmpty then (Num.zero, true) else if 60 < r.length ∨ x + ((l.length : Int) - r.length) < -1000 ∨ 1000 < x + ((l.length : Int) - r.length) then (Num.zero, false) else (⟨neg, r, x + ((l.length : Int) - r.length)⟩, true) := by
  subst hl; subst hr; rfl

/-- A number's canonical text. -/
def text (n : Num) : List UInt8 :=
  if n.digits.isEmpty then [48] else (if n.neg then [45] else []) ++ n.digits ++ (if n.exp = 0 then [] else 101 :: Lib.itoa n.exp)

end Go.Proofs.YtbcoakonjgakbaaDoor.Nm
