/- Plain mathematics of layer 1 (num), eighth part: the document's own order of numbers. -/
import Derived.Test.YtbcoakonjgakbaaDoorPureg
namespace Go.Proofs.YtbcoakonjgakbaaDoor.Nm

/-- All digits of a number, down to a power of ten; nothing of 0. -/
def full (d : List UInt8) (n : Nat) : List UInt8 := if d.isEmpty then [] else d ++ List.replicate n 48

/-- Shorter, or of one length and ahead. -/
def shorter (x y : List UInt8) : Bool := if x.length = y.length then Op.bytesLess x y else decide (x.length < y.length)

def less (a b : Num) : Bool :=
  if a.neg = b.neg then
    (if a.neg then shorter (full b.digits (b.exp - min a.exp b.exp).toNat) (full a.digits (a.exp - min a.exp b.exp).toNat)
     else shorter (full a.digits (a.exp - min a.exp b.exp).toNat) (full b.digits (b.exp - min a.exp b.exp).toNat))
  else a.neg

/-- The document's own comparing. -/
def refCmp (a b : Num) : Int := if less a b then -1 else if less b a then 1 else 0

/-- Lengths and exponents that are small. -/
def Small (n : Num) : Prop := n.digits.length ≤ 1000 ∧ -1000 ≤ n.exp ∧ n.exp ≤ 1000

theorem May.small {n : Num} (h : May n) : Small n := by
  rcases h with rfl | ⟨_, _, _, _, h1, h2, h3⟩
  · exact ⟨by decide, by decide, by decide⟩
  · exact ⟨by omega, h2, h3⟩

end Go.Proofs.YtbcoakonjgakbaaDoor.Nm
