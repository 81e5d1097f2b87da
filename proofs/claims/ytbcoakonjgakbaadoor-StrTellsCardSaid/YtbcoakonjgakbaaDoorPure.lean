/- Plain mathematics of layer 1 (num): the functions that the walks are held against. No program is imported. -/
import Derived.Lib.Strings
import Derived.Lib.TrimByte
import Derived.Lib.Small
import Derived.Lib.Bytealg
namespace Go.Proofs.YtbcoakonjgakbaaDoor.Nm

/-- Is a byte a digit? -/
def dig (c : UInt8) : Bool := decide (48 ≤ c.toNat) && decide (c.toNat ≤ 57)

/-- The digits that a text begins with; what is behind them. -/
def pre (l : List UInt8) : List UInt8 := l.takeWhile dig
def suf (l : List UInt8) : List UInt8 := l.dropWhile dig

theorem takeWhile_take (p : UInt8 → Bool) : ∀ (l : List UInt8) (k : Nat), k ≤ l.length → (∀ (j : Nat) b, j < k → l[j]? = some b → p b = true) → (∀ b, l[k]? = some b → p b = false) → l.takeWhile p = l.take k ∧ l.dropWhile p = l.drop k
  | [], k, hk, _, _ => by simp at hk; subst hk; simp
  | x :: l, 0, _, _, h2 => by
      have := h2 x (by simp)
      simp [this]
  | x :: l, k + 1, hk, h1, h2 => by
      have hx := h1 0 x (by omega) (by simp)
      have ih := takeWhile_take p l k (by simp at hk; omega) (fun j b hj hb => h1 (j + 1) b (by omega) (by simpa using hb)) (fun b hb => h2 b (by simpa using hb))
      simp [hx, ih]

/-- What stands behind a sign of an exponent, and whether it is a minus. -/
def sgn : List UInt8 → Bool
  | c :: _ => c == 45
  | [] => false
def unsgn : List UInt8 → List UInt8
  | c :: r => if c = 45 ∨ c = 43 then r else c :: r
  | [] => []

/-- A string that is not empty: its first byte, and the rest. -/
theorem first_of (s : ByteArray) (h : 0 < s.size) : s.data.toList = s[0] :: s.data.toList.drop 1 := by
  have h' : 0 < s.data.toList.length := by rw [← Lib.size_eq]; exact h
  have e := List.drop_eq_getElem_cons h'
  rw [List.drop_zero] at e
  exact e

theorem some_list (s : ByteArray) (h : 0 < s.size) : ¬ s.toList = [] := by
  rw [Lib.toList_data]; intro e; rw [Lib.size_eq, e] at h; cases h
theorem some_full (s : ByteArray) (h : 0 < s.size) : s.toList.isEmpty = false := by
  rw [List.isEmpty_eq_false_iff]; exact some_list s h
theorem none_list (s : ByteArray) (h : ¬ 0 < s.size) : s.toList = [] := by
  rw [Lib.toList_data]; apply List.eq_nil_of_length_eq_zero; rw [← Lib.size_eq]; omega
theorem none_data (s : ByteArray) (h : ¬ 0 < s.size) : s.data.toList = [] := by
  rw [← Lib.toList_data]; exact none_list s h
/-- A byte is a numeral, or it isn't: in the walk's own spelling. -/
theorem byte_eq {c k : UInt8} (h : c = k) : ((c.toNat : Int) == (k.toNat : Int)) = true := by subst h; simp
theorem byte_ne {c k : UInt8} (h : ¬ c = k) : ((c.toNat : Int) == (k.toNat : Int)) = false := by
  rw [beq_eq_false_iff_ne]; intro e; exact h (UInt8.toNat_inj.1 (by exact_mod_cast e))

/-- A number; the pieces of a number's text. -/
structure Num where
  neg : Bool
  digits : List UInt8
  exp : Int
deriving DecidableEq

structure Parts where
  neg : Bool
  whole : List UInt8
  frac : List UInt8
  expNeg : Bool
  exp : List UInt8
deriving DecidableEq

def Num.zero : Num := ⟨false, [], 0⟩
def Parts.zero : Parts := ⟨false, [], [], false, []⟩

/-- What of a text stands behind its digits: nothing, or an exponent. -/
def tail (neg : Bool) (w f s : List UInt8) : Parts × Bool :=
  match s with
  | [] => (⟨neg, w, f, false, []⟩, true)
  | c :: r => if c = 101 ∨ c = 69 then (⟨neg, w, f, sgn r, pre (unsgn r)⟩, !(pre (unsgn r)).isEmpty && (suf (unsgn r)).isEmpty) else (Parts.zero, false)

def badWhole (w : List UInt8) : Bool := w.isEmpty || (decide (1 < w.length) && w.head? == some 48)

def afterWhole (neg : Bool) (w s : List UInt8) : Parts × Bool :=
  match s with
  | 46 :: r => if (pre r).isEmpty then (Parts.zero, false) else tail neg w (pre r) (suf r)
  | _ => tail neg w [] s

def split (l : List UInt8) : Parts × Bool :=
  let s1 := Lib.trimPrefix l [45]
  if badWhole (pre s1) then (Parts.zero, false) else afterWhole (Lib.hasPrefix l [45]) (pre s1) (suf s1)

/-- What a number is: below, at, above 0. -/
def sign (n : Num) : Int := if n.digits.isEmpty then 0 else if n.neg then -1 else 1

def cmpSize (a b : Num) : Int :=
  let c := Lib.compareInt (a.digits.length + a.exp) (b.digits.length + b.exp)
  if c = 0 then Lib.compareBytes a.digits b.digits else c

def cmp (a b : Num) : Int :=
  let c := Lib.compareInt (sign a) (sign b)
  if c = 0 then (if a.neg then cmpSize b a else cmpSize a b) else c

/-- The lengths and exponents at which no sum wraps round. -/
def Fair (n : Num) : Prop := n.digits.length ≤ 1000000 ∧ -1000000 ≤ n.exp ∧ n.exp ≤ 1000000

theorem trim_len (l p : List UInt8) : (Lib.trimPrefix l p).length ≤ l.length := by
  unfold Lib.trimPrefix; split
  · simp
  · exact Nat.le_refl _
theorem pre_len (l : List UInt8) : (pre l).length ≤ l.length := (List.takeWhile_sublist dig).length_le
theorem suf_len (l : List UInt8) : (suf l).length ≤ l.length := (List.dropWhile_sublist dig).length_le
theorem unsgn_len (l : List UInt8) : (unsgn l).length ≤ l.length := by
  cases l with
  | nil => exact Nat.le_refl _
  | cons c r => simp only [unsgn]; split <;> simp
theorem prefix_one (c : UInt8) (l : List UInt8) : Lib.hasPrefix l [c] = (l.head? == some c) := by
  cases l with
  | nil => rfl
  | cons d r =>
    simp only [Lib.hasPrefix, List.isPrefixOf, Bool.and_true, List.head?_cons]
    by_cases h : c = d
    · subst h; simp
    · rw [beq_eq_false_iff_ne.2 h, beq_eq_false_iff_ne.2 (fun e => h (Option.some.inj e).symm)]
/-- What is behind the first byte. -/
theorem tail_extract (c : UInt8) (r : List UInt8) (n : Nat) (h : r.length ≤ n - 1) : (⟨(c :: r).toArray⟩ : ByteArray).extract 1 n = ⟨r.toArray⟩ := by
  rw [Lib.extract_mk, List.drop_one, List.tail_cons, List.take_of_length_le h]

theorem split_eq {l s1 wh s2 : List UInt8} {neg : Bool} (h1 : Lib.trimPrefix l [45] = s1) (hn : Lib.hasPrefix l [45] = neg) (hw : pre s1 = wh) (hs : suf s1 = s2) :
    split l = if badWhole wh then (Parts.zero, false) else afterWhole neg wh s2 := by
  subst h1; subst hn; subst hw; subst hs; rfl

theorem afterWhole_point (neg : Bool) (w t : List UInt8) : afterWhole neg w (46 :: t) = if (pre t).isEmpty then (Parts.zero, false) else tail neg w (pre t) (suf t) := rfl
theorem afterWhole_none (neg : Bool) (w s : List UInt8) (h : ¬ s.head? = some 46) : afterWhole neg w s = tail neg w [] s := by
  unfold afterWhole
  split
  · simp at h
  · rfl
theorem tail_exp (neg : Bool) (w f : List UInt8) (c : UInt8) (r : List UInt8) (h : c = 101 ∨ c = 69) : tail neg w f (c :: r) = (⟨neg, w, f, sgn r, pre (unsgn r)⟩, !(pre (unsgn r)).isEmpty && (suf (unsgn r)).isEmpty) := by
  simp only [tail]; rw [if_pos h]
theorem tail_bad (neg : Bool) (w f : List UInt8) (c : UInt8) (r : List UInt8) (h : ¬ (c = 101 ∨ c = 69)) : tail neg w f (c :: r) = (Parts.zero, false) := by
  simp only [tail]; rw [if_neg h]

end Go.Proofs.YtbcoakonjgakbaaDoor.Nm
