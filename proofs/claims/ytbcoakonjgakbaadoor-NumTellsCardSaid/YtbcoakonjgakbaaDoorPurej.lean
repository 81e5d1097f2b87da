/- Plain mathematics of layer 1 (num), tenth part: a number's text, gone over byte by byte. -/
import Derived.Test.YtbcoakonjgakbaaDoorPurei
namespace Go.Proofs.YtbcoakonjgakbaaDoor.Nm

/-- What the document's Number has gathered. -/
structure Sc where
  neg : Bool
  digits : List UInt8
  behind : Nat
  point : Bool
  exp : Int
  down : Bool
  power : Bool

def Sc.start : Sc := ⟨false, [], 0, false, 0, false, false⟩

/-- One byte of an exponent. -/
def stepE (e : Int) (c : UInt8) : Int := if dig c then min (10 * e + (c.toNat : Int) - 48) 1000000 else e

def step (st : Sc) (c : UInt8) : Sc :=
  if st.power then { st with down := st.down || c == 45, exp := stepE st.exp c }
  else if c = 45 then { st with neg := true }
  else if c = 46 then { st with point := true }
  else if c = 101 ∨ c = 69 then { st with power := true }
  else { st with digits := st.digits ++ [c], behind := if st.point then st.behind + 1 else st.behind }

def scan (l : List UInt8) : Sc := l.foldl step Sc.start

theorem scan_snoc (l : List UInt8) (k : Nat) (h : k < l.length) : scan (l.take (k + 1)) = step (scan (l.take k)) l[k] := by
  rw [List.take_succ_eq_append_getElem h]; unfold scan; rw [List.foldl_append]; rfl

theorem stepE_bd (e : Int) (c : UInt8) (h : 0 ≤ e ∧ e ≤ 1000000) : 0 ≤ stepE e c ∧ stepE e c ≤ 1000000 := by
  unfold stepE
  split
  · have := dig_bd ‹_›; omega
  · exact h

/-- What is known of it, at any time. -/
theorem scan_fold (l : List UInt8) : ∀ st : Sc, 0 ≤ st.exp ∧ st.exp ≤ 1000000 → st.behind ≤ st.digits.length → (0 ≤ (l.foldl step st).exp ∧ (l.foldl step st).exp ≤ 1000000) ∧ (l.foldl step st).behind ≤ (l.foldl step st).digits.length ∧ (l.foldl step st).digits.length ≤ st.digits.length + l.length := by
  induction l with
  | nil => intro st h1 h2; exact ⟨h1, h2, by simp⟩
  | cons c r ih =>
    intro st h1 h2
    rw [List.foldl_cons]
    have key : (0 ≤ (step st c).exp ∧ (step st c).exp ≤ 1000000) ∧ (step st c).behind ≤ (step st c).digits.length ∧ (step st c).digits.length ≤ st.digits.length + 1 := by
      unfold step
      split
      · exact ⟨stepE_bd _ _ h1, h2, by simp⟩
      · split
        · exact ⟨h1, h2, by simp⟩
        · split
          · exact ⟨h1, h2, by simp⟩
          · split
            · exact ⟨h1, h2, by simp⟩
            · refine ⟨h1, ?_, by simp⟩
              simp only [List.length_append, List.length_singleton]
              split <;> omega
    have := ih (step st c) key.1 key.2.1
    refine ⟨this.1, this.2.1, ?_⟩
    simp only [List.length_cons]
    omega
theorem scan_bd (l : List UInt8) : (0 ≤ (scan l).exp ∧ (scan l).exp ≤ 1000000) ∧ (scan l).behind ≤ (scan l).digits.length ∧ (scan l).digits.length ≤ l.length := by
  have := scan_fold l Sc.start ⟨by decide, by decide⟩ (by decide)
  exact ⟨this.1, this.2.1, by have h := this.2.2; rw [show Sc.start.digits.length = 0 from rfl, Nat.zero_add] at h; exact h⟩

/-- What the document asks of a number beside its digits. -/
def mayN (n : Nat) (x : Int) : Bool := !(decide (60 < n) || decide (x < -1000) || decide (1000 < x))

/-- The number of digits without 0s at both ends, if it may be. -/
def made (neg : Bool) (d : List UInt8) (x : Int) : Num × Int := if d.isEmpty then (Num.zero, 0) else if mayN d.length x then (⟨neg, d, x⟩, 0) else (Num.zero, 5)

/-- What Number makes of what it has gathered. -/
def refNum (st : Sc) : Num × Int := made st.neg (core st.digits) ((if st.down then -st.exp else st.exp) - st.behind + (((Lib.trimLeftB st.digits 48).length : Int) - (core st.digits).length))

/-- What the walk of Number leans on. -/
def NumLaw (l : List UInt8) : Prop := (split l).2 = true → (∀ c ∈ (scan l).digits, dig c = true) ∧ parse l = refNum (scan l)

end Go.Proofs.YtbcoakonjgakbaaDoor.Nm
