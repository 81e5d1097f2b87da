/- Ma: Pure Pureb Purec Pured Puree Puref Pureg Pureh Purei Purej Purek Purel, in one text. -/
import Derived.Lib.Strings
import Derived.Lib.TrimByte
import Derived.Lib.Small
import Derived.Lib.Bytealg
import Derived.Lib.ItoaNum
import Derived.Lib.ItoaLen
namespace Go.Proofs.YtolkfgikomminaaGreatDoor.Nm

def dig (c : UInt8) : Bool := decide (48 ≤ c.toNat) && decide (c.toNat ≤ 57)

def pre (l : List UInt8) : List UInt8 := l.takeWhile dig
def suf (l : List UInt8) : List UInt8 := l.dropWhile dig

theorem takeWhile_take (p : UInt8 → Bool) : ∀ (l : List UInt8) (k : Nat), k ≤ l.length → (∀ (j : Nat) b, j < k → l[j]? = some b → p b = true) → (∀ b, l[k]? = some b → p b = false) → l.takeWhile p = l.take k ∧ l.dropWhile p = l.drop k
 | [], k, hk, _, _ => by simp at hk; subst hk; simp
 | x :: l, 0, _, _, h2 => by
   have := h2 x (by simp)
   simp [this]
 | x :: l, k + 1, hk, h1, h2 => by
   have hx := h1 0 x (by omega) (by simp)
   have ih := takeWhile_take p l k (by simp at hk; omega) (fun j b hj hb => h1 (j + 1) b (by omega) (by simpa using hb)) (fun b hb => h2 b (by simpa using hb))
   simp [hx, ih]

def sgn : List UInt8 → Bool
 | c :: _ => c == 45
 | [] => false
def unsgn : List UInt8 → List UInt8
 | c :: r => if c = 45 ∨ c = 43 then r else c :: r
 | [] => []

theorem first_of (s : ByteArray) (h : 0 < s.size) : s.data.toList = s[0] :: s.data.toList.drop 1 := by
 have h' : 0 < s.data.toList.length := by rw [← Lib.size_eq]; exact h
 have e := List.drop_eq_getElem_cons h'
 rw [List.drop_zero] at e
 exact e

theorem some_list (s : ByteArray) (h : 0 < s.size) : ¬ s.toList = [] := by
 rw [Lib.toList_data]; intro e; rw [Lib.size_eq, e] at h; cases h
theorem some_full (s : ByteArray) (h : 0 < s.size) : s.toList.isEmpty = false := by
 rw [List.isEmpty_eq_false_iff]; exact some_list s h
theorem none_list (s : ByteArray) (h : ¬ 0 < s.size) : s.toList = [] := by
 rw [Lib.toList_data]; apply List.eq_nil_of_length_eq_zero; rw [← Lib.size_eq]; omega
theorem none_data (s : ByteArray) (h : ¬ 0 < s.size) : s.data.toList = [] := by
 rw [← Lib.toList_data]; exact none_list s h
theorem byte_eq {c k : UInt8} (h : c = k) : ((c.toNat : Int) == (k.toNat : Int)) = true := by subst h; simp
theorem byte_ne {c k : UInt8} (h : ¬ c = k) : ((c.toNat : Int) == (k.toNat : Int)) = false := by
 rw [beq_eq_false_iff_ne]; intro e; exact h (UInt8.toNat_inj.1 (by exact_mod_cast e))

structure Num where
 neg : Bool
 digits : List UInt8
 exp : Int
deriving DecidableEq

structure Parts where
 neg : Bool
 whole : List UInt8
 frac : List UInt8
 expNeg : Bool
 exp : List UInt8
deriving DecidableEq

def Num.zero : Num := ⟨false, [], 0⟩
def Parts.zero : Parts := ⟨false, [], [], false, []⟩

def tail (neg : Bool) (w f s : List UInt8) : Parts × Bool :=
 match s with
 | [] => (⟨neg, w, f, false, []⟩, true)
 | c :: r => if c = 101 ∨ c = 69 then (⟨neg, w, f, sgn r, pre (unsgn r)⟩, !(pre (unsgn r)).isEmpty && (suf (unsgn r)).isEmpty) else (Parts.zero, false)

def badWhole (w : List UInt8) : Bool := w.isEmpty || (decide (1 < w.length) && w.head? == some 48)

def afterWhole (neg : Bool) (w s : List UInt8) : Parts × Bool :=
 match s with
 | 46 :: r => if (pre r).isEmpty then (Parts.zero, false) else tail neg w (pre r) (suf r)
 | _ => tail neg w [] s

def split (l : List UInt8) : Parts × Bool :=
 let s1 := Lib.trimPrefix l [45]
 if badWhole (pre s1) then (Parts.zero, false) else afterWhole (Lib.hasPrefix l [45]) (pre s1) (suf s1)

def sign (n : Num) : Int := if n.digits.isEmpty then 0 else if n.neg then -1 else 1

def cmpSize (a b : Num) : Int :=
 let c := Lib.compareInt (a.digits.length + a.exp) (b.digits.length + b.exp)
 if c = 0 then Lib.compareBytes a.digits b.digits else c

def cmp (a b : Num) : Int :=
 let c := Lib.compareInt (sign a) (sign b)
 if c = 0 then (if a.neg then cmpSize b a else cmpSize a b) else c

def Fair (n : Num) : Prop := n.digits.length ≤ 1000000 ∧ -1000000 ≤ n.exp ∧ n.exp ≤ 1000000

theorem trim_len (l p : List UInt8) : (Lib.trimPrefix l p).length ≤ l.length := by
 unfold Lib.trimPrefix; split
 ·simp
 ·exact Nat.le_refl _
theorem pre_len (l : List UInt8) : (pre l).length ≤ l.length := (List.takeWhile_sublist dig).length_le
theorem suf_len (l : List UInt8) : (suf l).length ≤ l.length := (List.dropWhile_sublist dig).length_le
theorem unsgn_len (l : List UInt8) : (unsgn l).length ≤ l.length := by
 cases l with
 | nil => exact Nat.le_refl _
 | cons c r => simp only [unsgn]; split <;> simp
theorem prefix_one (c : UInt8) (l : List UInt8) : Lib.hasPrefix l [c] = (l.head? == some c) := by
 cases l with
 | nil => rfl
 | cons d r =>
  simp only [Lib.hasPrefix, List.isPrefixOf, Bool.and_true, List.head?_cons]
  by_cases h : c = d
  ·subst h; simp
  ·rw [beq_eq_false_iff_ne.2 h, beq_eq_false_iff_ne.2 (fun e => h (Option.some.inj e).symm)]
theorem tail_extract (c : UInt8) (r : List UInt8) (n : Nat) (h : r.length ≤ n - 1) : (⟨(c :: r).toArray⟩ : ByteArray).extract 1 n = ⟨r.toArray⟩ := by
 rw [Lib.extract_mk, List.drop_one, List.tail_cons, List.take_of_length_le h]

theorem split_eq {l s1 wh s2 : List UInt8} {neg : Bool} (h1 : Lib.trimPrefix l [45] = s1) (hn : Lib.hasPrefix l [45] = neg) (hw : pre s1 = wh) (hs : suf s1 = s2) :
  split l = if badWhole wh then (Parts.zero, false) else afterWhole neg wh s2 := by
 subst h1; subst hn; subst hw; subst hs; rfl

theorem afterWhole_point (neg : Bool) (w t : List UInt8) : afterWhole neg w (46 :: t) = if (pre t).isEmpty then (Parts.zero, false) else tail neg w (pre t) (suf t) := rfl
theorem afterWhole_none (neg : Bool) (w s : List UInt8) (h : ¬ s.head? = some 46) : afterWhole neg w s = tail neg w [] s := by
 unfold afterWhole
 split
 ·simp at h
 ·rfl
theorem tail_exp (neg : Bool) (w f : List UInt8) (c : UInt8) (r : List UInt8) (h : c = 101 ∨ c = 69) : tail neg w f (c :: r) = (⟨neg, w, f, sgn r, pre (unsgn r)⟩, !(pre (unsgn r)).isEmpty && (suf (unsgn r)).isEmpty) := by
 simp only [tail]; rw [if_pos h]
theorem tail_bad (neg : Bool) (w f : List UInt8) (c : UInt8) (r : List UInt8) (h : ¬ (c = 101 ∨ c = 69)) : tail neg w f (c :: r) = (Parts.zero, false) := by
 simp only [tail]; rw [if_neg h]

end Go.Proofs.YtolkfgikomminaaGreatDoor.Nm

namespace Go.Proofs.YtolkfgikomminaaGreatDoor.Nm

def far : Int := 1099511627776
def expo (l : List UInt8) : Int := l.foldl (fun e c => min (e * 10 + ((c.toNat : Int) - 48)) far) 0
def expOf (p : Parts) : Int := if p.expNeg then - expo p.exp else expo p.exp
def normal (neg : Bool) (d : List UInt8) (e : Int) : Num × Bool :=
 let l := Lib.trimLeftB d 48
 let r := Lib.trimRightB l 48
 let x := e + ((l.length : Int) - r.length)
 if r.isEmpty then (Num.zero, true) else if 60 < r.length ∨ x < -1000 ∨ 1000 < x then (Num.zero, false) else (⟨neg, r, x⟩, true)

theorem dig_bd {c : UInt8} (h : dig c = true) : 48 ≤ c.toNat ∧ c.toNat ≤ 57 := by
 simpa [dig] using h
theorem expo_snoc (l : List UInt8) (k : Nat) (h : k < l.length) : expo (l.take (k + 1)) = min (expo (l.take k) * 10 + ((l[k].toNat : Int) - 48)) far := by
 rw [List.take_succ_eq_append_getElem h]; unfold expo; rw [List.foldl_append]; rfl
theorem expo_fold (l : List UInt8) : ∀ e : Int, 0 ≤ e → e ≤ far → (∀ c ∈ l, dig c = true) → 0 ≤ l.foldl (fun e c => min (e * 10 + ((c.toNat : Int) - 48)) far) e ∧ l.foldl (fun e c => min (e * 10 + ((c.toNat : Int) - 48)) far) e ≤ far := by
 induction l with
 | nil => intro e h1 h2 _; exact ⟨h1, h2⟩
 | cons c r ih =>
  intro e h1 h2 h
  have hc := dig_bd (h c (by simp))
  rw [List.foldl_cons]
  refine ih _ ?_ ?_ (fun d hd => h d (by simp [hd]))
  ·unfold far; omega
  ·unfold far; omega
theorem expo_bd (l : List UInt8) (h : ∀ c ∈ l, dig c = true) : 0 ≤ expo l ∧ expo l ≤ 1099511627776 := expo_fold l 0 (by decide) (by decide) h

theorem normal_eq {d l r : List UInt8} (neg : Bool) (hl : Lib.trimLeftB d 48 = l) (hr : Lib.trimRightB l 48 = r) (x : Int) :
  normal neg d x = if r.isEmpty then (Num.zero, true) else if 60 < r.length ∨ x + ((l.length : Int) - r.length) < -1000 ∨ 1000 < x + ((l.length : Int) - r.length) then (Num.zero, false) else (⟨neg, r, x + ((l.length : Int) - r.length)⟩, true) := by
 subst hl; subst hr; rfl

def text (n : Num) : List UInt8 :=
 if n.digits.isEmpty then [48] else (if n.neg then [45] else []) ++ n.digits ++ (if n.exp = 0 then [] else 101 :: Lib.itoa n.exp)

end Go.Proofs.YtolkfgikomminaaGreatDoor.Nm

namespace Go.Proofs.YtolkfgikomminaaGreatDoor.Nm

def parseOf (sp : Parts × Bool) : Num × Int :=
 if sp.2 then
  let n := normal sp.1.neg (sp.1.whole ++ sp.1.frac) (expOf sp.1 - sp.1.frac.length)
  if n.2 then (n.1, 0) else (Num.zero, 5)
 else (Num.zero, 1)
def parse (l : List UInt8) : Num × Int := parseOf (split l)

theorem parseOf_eq (a : Bool) (p1 p2 : List UInt8) (b : Bool) (p3 : List UInt8) : parseOf (⟨a, p1, p2, b, p3⟩, true) = if (normal a (p1 ++ p2) (expOf ⟨a, p1, p2, b, p3⟩ - p2.length)).2 then ((normal a (p1 ++ p2) (expOf ⟨a, p1, p2, b, p3⟩ - p2.length)).1, 0) else (Num.zero, 5) := rfl

theorem pre_dig (l : List UInt8) : ∀ c ∈ pre l, dig c = true := by
 induction l with
 | nil => intro c h; cases h
 | cons x r ih =>
  intro c h
  unfold pre at h
  rw [List.takeWhile_cons] at h
  split at h
  ·rcases List.mem_cons.1 h with rfl | h'
   ·assumption
   ·exact ih c h'
  ·cases h
theorem expOf_bd (a : Bool) (p1 p2 : List UInt8) (b : Bool) (p3 : List UInt8) (h : ∀ c ∈ p3, dig c = true) : -1099511627776 ≤ expOf ⟨a, p1, p2, b, p3⟩ ∧ expOf ⟨a, p1, p2, b, p3⟩ ≤ 1099511627776 := by
 have := expo_bd p3 h
 unfold expOf
 simp only
 split <;> omega
theorem pre_suf (l : List UInt8) : pre l ++ suf l = l := List.takeWhile_append_dropWhile

def Sound (n : Nat) (p : Parts) : Prop := (∀ c ∈ p.exp, dig c = true) ∧ p.exp.length ≤ n ∧ p.whole.length + p.frac.length ≤ n

theorem zero_sound (n : Nat) : Sound n Parts.zero := ⟨fun _ h => (by cases h), Nat.zero_le _, Nat.zero_le _⟩
theorem tail_sound (n : Nat) (neg : Bool) (w f s : List UInt8) (h : w.length + f.length ≤ n) (hs : s.length ≤ n) : Sound n (tail neg w f s).1 := by
 unfold tail
 split
 ·exact ⟨fun _ h => (by cases h), Nat.zero_le _, h⟩
 ·rename_i c r
  split
  ·refine ⟨pre_dig _, ?_, h⟩
   have h1 := pre_len (unsgn r)
   have h2 := unsgn_len r
   simp at hs ⊢
   omega
  ·exact zero_sound n
theorem split_sound (l : List UInt8) : Sound l.length (split l).1 := by
 have h0 := trim_len l [45]
 have hp : ∀ t : List UInt8, (pre t).length + (suf t).length = t.length := fun t => by rw [← List.length_append, pre_suf]
 unfold split
 simp only
 generalize Lib.trimPrefix l [45] = s1 at h0 ⊢
 have h1 := hp s1
 split
 ·exact zero_sound _
 ·unfold afterWhole
  split
  ·rename_i r e
   rw [e] at h1
   simp only [List.length_cons] at h1
   have h2 := hp r
   split
   ·exact zero_sound _
   ·exact tail_sound _ _ _ _ _ (by omega) (by omega)
  ·exact tail_sound _ _ _ _ _ (by simp; omega) (by omega)

end Go.Proofs.YtolkfgikomminaaGreatDoor.Nm

namespace Go.Proofs.YtolkfgikomminaaGreatDoor.Nm
end Go.Proofs.YtolkfgikomminaaGreatDoor.Nm

namespace Go.Proofs.YtolkfgikomminaaGreatDoor.Nm

def May (n : Num) : Prop :=
 n = Num.zero ∨ (n.digits ≠ [] ∧ (∀ c ∈ n.digits, dig c = true) ∧ n.digits.head? ≠ some 48 ∧ n.digits.getLast? ≠ some 48 ∧ n.digits.length ≤ 60 ∧ -1000 ≤ n.exp ∧ n.exp ≤ 1000)

theorem May.fair {n : Num} (h : May n) : Fair n := by
 rcases h with rfl | ⟨_, _, _, _, h1, h2, h3⟩
 ·exact ⟨by decide, by decide, by decide⟩
 ·exact ⟨by omega, by omega, by omega⟩

def count (k : Int) : Num := (parse (Lib.itoa k)).1

structure Laws : Prop where
 err : ∀ l, 0 ≤ (parse l).2 ∧ (parse l).2 ≤ 14
 may : ∀ l, (parse l).2 = 0 → May (parse l).1
 back : ∀ n, May n → parse (text n) = (n, 0)
 len : ∀ n, May n → (text n).length ≤ 100
 range : ∀ a b, -1 ≤ cmp a b ∧ cmp a b ≤ 1
 flip : ∀ a b, May a → May b → cmp a b = - cmp b a
 same : ∀ a b, May a → May b → (cmp a b = 0 ↔ a = b)
 next : ∀ a b c, May a → May b → May c → cmp a b ≤ 0 → cmp b c ≤ 0 → cmp a c ≤ 0
 countMay : ∀ k : Int, 0 ≤ k → k ≤ 2000000000 → May (count k)
 countNext : ∀ k : Int, 0 ≤ k → k ≤ 1000000000 → cmp (count k) (count (k + 1)) = -1
 countWhole : ∀ k : Int, 0 ≤ k → k ≤ 1000000000 → 0 ≤ (count k).exp

end Go.Proofs.YtolkfgikomminaaGreatDoor.Nm

namespace Go.Proofs.YtolkfgikomminaaGreatDoor.Nm


theorem head_drop (p : UInt8 → Bool) : ∀ (l : List UInt8) (c : UInt8), (l.dropWhile p).head? = some c → p c = false
 | [], c, h => by simp at h
 | x :: r, c, h => by
  rw [List.dropWhile_cons] at h
  split at h
  ·exact head_drop p r c h
  ·rename_i hx
   simp at h; subst h; exact Bool.eq_false_iff.2 hx

theorem take_rep (c : UInt8) : ∀ l : List UInt8, l.takeWhile (· == c) = List.replicate (l.takeWhile (· == c)).length c
 | [] => rfl
 | x :: r => by
  rw [List.takeWhile_cons]
  split
  ·rename_i h
   have e : x = c := by simpa using h
   rw [List.length_cons, List.replicate_succ, ← take_rep c r, e]
  ·rfl

def core (d : List UInt8) : List UInt8 := Lib.trimRightB (Lib.trimLeftB d 48) 48

theorem left_eq (l : List UInt8) : ∃ a, l = List.replicate a 48 ++ Lib.trimLeftB l 48 :=
 ⟨(l.takeWhile (· == 48)).length, by rw [← take_rep]; exact (List.takeWhile_append_dropWhile).symm⟩
theorem right_eq (l : List UInt8) : ∃ b, l = Lib.trimRightB l 48 ++ List.replicate b 48 :=
 ⟨(l.reverse.takeWhile (· == 48)).length, by
  unfold Lib.trimRightB
  have h : l.reverse = List.replicate (l.reverse.takeWhile (· == 48)).length 48 ++ l.reverse.dropWhile (· == 48) := by
   rw [← take_rep]; exact (List.takeWhile_append_dropWhile).symm
  have h2 := congrArg List.reverse h
  rw [List.reverse_reverse, List.reverse_append, List.reverse_replicate] at h2
  exact h2⟩
theorem left_head (l : List UInt8) : (Lib.trimLeftB l 48).head? ≠ some 48 := fun h => by
 have := head_drop (· == 48) l 48 h
 simp at this
theorem right_last (l : List UInt8) : (Lib.trimRightB l 48).getLast? ≠ some 48 := fun h => by
 unfold Lib.trimRightB at h
 rw [List.getLast?_reverse] at h
 have := head_drop (· == 48) _ 48 h
 simp at this
theorem core_head (d : List UInt8) : (core d).head? ≠ some 48 := fun h => by
 obtain ⟨b, hb⟩ := right_eq (Lib.trimLeftB d 48)
 have h1 := left_head d
 rw [hb] at h1
 unfold core at h
 apply h1
 cases hc : Lib.trimRightB (Lib.trimLeftB d 48) 48 with
 | nil => rw [hc] at h; simp at h
 | cons x r => rw [hc] at h; simpa using h
theorem core_last (d : List UInt8) : (core d).getLast? ≠ some 48 := right_last _
theorem core_mem (d : List UInt8) : ∀ c ∈ core d, c ∈ d := fun c hc => by
 obtain ⟨b, hb⟩ := right_eq (Lib.trimLeftB d 48)
 obtain ⟨a, ha⟩ := left_eq d
 rw [ha, hb]
 exact List.mem_append_right _ (List.mem_append_left _ hc)

theorem dropWhile_id (p : UInt8 → Bool) (l : List UInt8) (h : ∀ c, l.head? = some c → p c = false) : l.dropWhile p = l := by
 cases l with
 | nil => rfl
 | cons x r => rw [List.dropWhile_cons]; simp [h x rfl]
theorem left_id (l : List UInt8) (h : l.head? ≠ some 48) : Lib.trimLeftB l 48 = l :=
 dropWhile_id _ l (fun c hc => by
  simp only [beq_eq_false_iff_ne, ne_eq]
  intro e; subst e; exact h hc)
theorem right_id (l : List UInt8) (h : l.getLast? ≠ some 48) : Lib.trimRightB l 48 = l := by
 unfold Lib.trimRightB
 rw [dropWhile_id _ _ (fun c hc => by
  simp only [beq_eq_false_iff_ne, ne_eq]
  intro e; subst e
  rw [List.head?_reverse] at hc
  exact h hc), List.reverse_reverse]


theorem err_range (l : List UInt8) : 0 ≤ (parse l).2 ∧ (parse l).2 ≤ 14 := by
 unfold parse parseOf
 split
 ·simp only
  split <;> exact ⟨by simp only; omega, by simp only; omega⟩
 ·decide

theorem tail_dig (neg : Bool) (w f s : List UInt8) (h : ∀ c ∈ w ++ f, dig c = true) : ∀ c ∈ (tail neg w f s).1.whole ++ (tail neg w f s).1.frac, dig c = true := by
 unfold tail
 split
 ·exact h
 ·split
  ·exact h
  ·intro c hc; simp [Parts.zero] at hc
theorem split_dig (l : List UInt8) : ∀ c ∈ (split l).1.whole ++ (split l).1.frac, dig c = true := by
 unfold split
 simp only
 split
 ·intro c hc; simp [Parts.zero] at hc
 ·unfold afterWhole
  split
  ·split
   ·intro c hc; simp [Parts.zero] at hc
   ·exact tail_dig _ _ _ _ (fun c hc => by
     rcases List.mem_append.1 hc with h | h
     ·exact pre_dig _ c h
     ·exact pre_dig _ c h)
  ·exact tail_dig _ _ _ _ (fun c hc => by simp at hc; exact pre_dig _ c hc)

theorem normal_core (neg : Bool) (d : List UInt8) (x : Int) : normal neg d x = if (core d).isEmpty then (Num.zero, true) else if 60 < (core d).length ∨ x + (((Lib.trimLeftB d 48).length : Int) - (core d).length) < -1000 ∨ 1000 < x + (((Lib.trimLeftB d 48).length : Int) - (core d).length) then (Num.zero, false) else (⟨neg, core d, x + (((Lib.trimLeftB d 48).length : Int) - (core d).length)⟩, true) := rfl

theorem normal_may (neg : Bool) (d : List UInt8) (x : Int) (h : ∀ c ∈ d, dig c = true) : May (normal neg d x).1 := by
 rw [normal_core]
 split
 ·exact .inl rfl
 ·rename_i he
  split
  ·exact .inl rfl
  ·rename_i hb
   refine .inr ⟨?_, fun c hc => h c (core_mem d c hc), core_head d, core_last d, ?_, ?_, ?_⟩
   ·intro e; simp only at e; rw [e] at he; simp at he
   ·simp only; omega
   ·simp only; omega
   ·simp only; omega

theorem parse_may (l : List UInt8) : May (parse l).1 := by
 unfold parse parseOf
 split
 ·simp only
  split
  ·exact normal_may _ _ _ (split_dig l)
  ·exact .inl rfl
 ·exact .inl rfl


theorem int_range (x y : Int) : -1 ≤ Lib.compareInt x y ∧ Lib.compareInt x y ≤ 1 := by
 unfold Lib.compareInt; split
 ·decide
 ·split <;> decide
theorem int_flip (x y : Int) : Lib.compareInt x y = - Lib.compareInt y x := by
 unfold Lib.compareInt
 by_cases h1 : x < y
 ·rw [if_pos h1, if_neg (by omega), if_pos h1]
 ·rw [if_neg h1]
  by_cases h2 : x > y
  ·rw [if_pos h2, if_pos h2]; rfl
  ·rw [if_neg h2, if_neg (by omega), if_neg (by omega)]; rfl
theorem int_zero (x y : Int) : Lib.compareInt x y = 0 ↔ x = y := by
 unfold Lib.compareInt; split
 ·constructor <;> intro h <;> omega
 ·split <;> constructor <;> intro h <;> omega
theorem int_le (x y : Int) : Lib.compareInt x y ≤ 0 ↔ x ≤ y := by
 unfold Lib.compareInt; split
 ·constructor <;> intro h <;> omega
 ·split <;> constructor <;> intro h <;> omega

theorem bytes_range : ∀ a b : List UInt8, -1 ≤ Lib.compareBytes a b ∧ Lib.compareBytes a b ≤ 1
 | [], [] => by decide
 | [], _ :: _ => by simp [Lib.compareBytes]
 | _ :: _, [] => by simp [Lib.compareBytes]
 | x :: a, y :: b => by
  unfold Lib.compareBytes
  split
  ·decide
  ·split
   ·decide
   ·exact bytes_range a b
theorem bytes_flip : ∀ a b : List UInt8, Lib.compareBytes a b = - Lib.compareBytes b a
 | [], [] => rfl
 | [], _ :: _ => by simp [Lib.compareBytes]
 | _ :: _, [] => by simp [Lib.compareBytes]
 | x :: a, y :: b => by
  have ih := bytes_flip a b
  simp only [Lib.compareBytes]
  by_cases h1 : x < y
  ·have h2 : ¬ y < x := by simp only [UInt8.lt_iff_toNat_lt] at *; omega
   rw [if_pos h1, if_neg h2, if_pos h1]
  ·rw [if_neg h1]
   by_cases h2 : y < x
   ·rw [if_pos h2, if_pos h2]; rfl
   ·rw [if_neg h2, if_neg h2, if_neg h1]; exact ih
theorem bytes_self : ∀ a : List UInt8, Lib.compareBytes a a = 0
 | [] => rfl
 | x :: a => by
  simp only [Lib.compareBytes]
  rw [if_neg (by simp only [UInt8.lt_iff_toNat_lt]; omega), if_neg (by simp only [UInt8.lt_iff_toNat_lt]; omega)]
  exact bytes_self a
theorem bytes_zero : ∀ a b : List UInt8, Lib.compareBytes a b = 0 → a = b
 | [], [], _ => rfl
 | [], _ :: _, h => by simp [Lib.compareBytes] at h
 | _ :: _, [], h => by simp [Lib.compareBytes] at h
 | x :: a, y :: b, h => by
  simp only [Lib.compareBytes] at h
  by_cases h1 : x < y
  ·rw [if_pos h1] at h; cases h
  ·rw [if_neg h1] at h
   by_cases h2 : y < x
   ·rw [if_pos h2] at h; cases h
   ·rw [if_neg h2] at h
    have e : x = y := UInt8.toNat_inj.1 (by simp only [UInt8.lt_iff_toNat_lt] at h1 h2; omega)
    rw [e, bytes_zero a b h]
theorem bytes_next : ∀ a b c : List UInt8, Lib.compareBytes a b ≤ 0 → Lib.compareBytes b c ≤ 0 → Lib.compareBytes a c ≤ 0
 | [], [], c, _, h => h
 | [], _ :: _, [], _, _ => by decide
 | [], _ :: _, _ :: _, _, _ => by simp [Lib.compareBytes]
 | _ :: _, [], _, h, _ => by simp [Lib.compareBytes] at h
 | _ :: _, _ :: _, [], _, h => by simp [Lib.compareBytes] at h
 | x :: a, y :: b, z :: c, h1, h2 => by
  have ih := bytes_next a b c
  simp only [Lib.compareBytes, UInt8.lt_iff_toNat_lt] at *
  by_cases e1 : x.toNat < y.toNat
  ·by_cases e2 : y.toNat < z.toNat
   ·rw [if_pos (by omega)]; decide
   ·rw [if_neg e2] at h2
    by_cases e3 : z.toNat < y.toNat
    ·rw [if_pos e3] at h2; omega
    ·rw [if_pos (by omega)]; decide
  ·rw [if_neg e1] at h1
   by_cases e4 : y.toNat < x.toNat
   ·rw [if_pos e4] at h1; omega
   ·rw [if_neg e4] at h1
    by_cases e2 : y.toNat < z.toNat
    ·rw [if_pos (by omega)]; decide
    ·rw [if_neg e2] at h2
     by_cases e3 : z.toNat < y.toNat
     ·rw [if_pos e3] at h2; omega
     ·rw [if_neg e3] at h2
      rw [if_neg (by omega), if_neg (by omega)]
      exact ih h1 h2

def place (n : Num) : Int := n.digits.length + n.exp

theorem size_range (a b : Num) : -1 ≤ cmpSize a b ∧ cmpSize a b ≤ 1 := by
 unfold cmpSize; simp only; split
 ·exact bytes_range _ _
 ·exact int_range _ _
theorem cmp_range (a b : Num) : -1 ≤ cmp a b ∧ cmp a b ≤ 1 := by
 unfold cmp; simp only; split
 ·split
  ·exact size_range _ _
  ·exact size_range _ _
 ·exact int_range _ _
theorem size_flip (a b : Num) : cmpSize a b = - cmpSize b a := by
 unfold cmpSize
 simp only
 have h := int_flip (a.digits.length + a.exp) (b.digits.length + b.exp)
 by_cases e : Lib.compareInt (a.digits.length + a.exp) (b.digits.length + b.exp) = 0
 ·rw [if_pos e, if_pos (by omega)]; exact bytes_flip _ _
 ·rw [if_neg e, if_neg (by omega)]; exact h
theorem size_le (a b : Num) : cmpSize a b ≤ 0 ↔ place a < place b ∨ (place a = place b ∧ Lib.compareBytes a.digits b.digits ≤ 0) := by
 unfold cmpSize place
 simp only
 have h1 := int_zero (a.digits.length + a.exp) (b.digits.length + b.exp)
 have h2 := int_le (a.digits.length + a.exp) (b.digits.length + b.exp)
 by_cases e : Lib.compareInt (a.digits.length + a.exp) (b.digits.length + b.exp) = 0
 ·rw [if_pos e]
  have := h1.1 e
  constructor
  ·intro h; exact .inr ⟨this, h⟩
  ·rintro (h | ⟨_, h⟩)
   ·omega
   ·exact h
 ·rw [if_neg e, h2]
  have : ¬ _ := fun h => e (h1.2 h)
  constructor
  ·intro h; left; omega
  ·rintro (h | ⟨h, _⟩)
   ·omega
   ·exact absurd h this
theorem size_next (a b c : Num) (h1 : cmpSize a b ≤ 0) (h2 : cmpSize b c ≤ 0) : cmpSize a c ≤ 0 := by
 rw [size_le] at *
 rcases h1 with h1 | ⟨h1, h1'⟩ <;> rcases h2 with h2 | ⟨h2, h2'⟩
 ·left; omega
 ·left; omega
 ·left; omega
 ·right; exact ⟨by omega, bytes_next _ _ _ h1' h2'⟩
theorem size_zero (a b : Num) (h : cmpSize a b = 0) : a.digits = b.digits ∧ a.exp = b.exp := by
 unfold cmpSize at h
 simp only at h
 by_cases e : Lib.compareInt (a.digits.length + a.exp) (b.digits.length + b.exp) = 0
 ·rw [if_pos e] at h
  have hd := bytes_zero _ _ h
  have := (int_zero _ _).1 e
  rw [hd] at this
  exact ⟨hd, by omega⟩
 ·rw [if_neg e] at h; exact absurd h e
theorem size_self (a : Num) : cmpSize a a = 0 := by
 unfold cmpSize; simp only; rw [if_pos ((int_zero _ _).2 rfl)]; exact bytes_self _

theorem sign_neg {a b : Num} (ha : May a) (hb : May b) (h : sign a = sign b) : a.neg = b.neg ∧ (a.digits = [] → a = b) := by
 have key : ∀ n : Num, May n → (n = Num.zero ∧ sign n = 0) ∨ (n.digits ≠ [] ∧ sign n = if n.neg then -1 else 1) := fun n hn => by
  rcases hn with rfl | ⟨hd, _⟩
  ·exact .inl ⟨rfl, rfl⟩
  ·right
   refine ⟨hd, ?_⟩
   unfold sign
   rw [if_neg (by simpa using hd)]
 rcases key a ha with ⟨rfl, h1⟩ | ⟨h1, h1'⟩ <;> rcases key b hb with ⟨rfl, h2⟩ | ⟨h2, h2'⟩
 ·exact ⟨rfl, fun _ => rfl⟩
 ·rw [h1, h2'] at h; split at h <;> cases h
 ·rw [h1', h2] at h; split at h <;> cases h
 ·rw [h1', h2'] at h
  refine ⟨?_, fun e => absurd e h1⟩
  cases ea : a.neg <;> cases eb : b.neg <;> simp [ea, eb] at h <;> rfl

theorem cmp_flip (a b : Num) (ha : May a) (hb : May b) : cmp a b = - cmp b a := by
 unfold cmp
 simp only
 have h := int_flip (sign a) (sign b)
 by_cases e : Lib.compareInt (sign a) (sign b) = 0
 ·have e' : Lib.compareInt (sign b) (sign a) = 0 := by omega
  rw [if_pos e, if_pos e']
  have hn := (sign_neg ha hb ((int_zero _ _).1 e)).1
  rw [hn]
  split
  ·exact size_flip _ _
  ·exact size_flip _ _
 ·rw [if_neg e, if_neg (by omega)]; exact h
theorem cmp_same (a b : Num) (ha : May a) (hb : May b) : cmp a b = 0 ↔ a = b := by
 constructor
 ·intro h
  unfold cmp at h
  simp only at h
  by_cases e : Lib.compareInt (sign a) (sign b) = 0
  ·rw [if_pos e] at h
   have hn := (sign_neg ha hb ((int_zero _ _).1 e)).1
   have hz : a.digits = b.digits ∧ a.exp = b.exp := by
    split at h
    ·have := size_zero _ _ h; exact ⟨this.1.symm, this.2.symm⟩
    ·exact size_zero _ _ h
   obtain ⟨na, da, xa⟩ := a
   obtain ⟨nb, db, xb⟩ := b
   simp only at hn hz
   rw [hn, hz.1, hz.2]
  ·rw [if_neg e] at h; exact absurd h e
 ·rintro rfl
  unfold cmp
  simp only
  rw [if_pos ((int_zero _ _).2 rfl)]
  split <;> exact size_self _
theorem cmp_le (a b : Num) : cmp a b ≤ 0 ↔ sign a < sign b ∨ (sign a = sign b ∧ (if a.neg then cmpSize b a ≤ 0 else cmpSize a b ≤ 0)) := by
 unfold cmp
 simp only
 have h1 := int_zero (sign a) (sign b)
 have h2 := int_le (sign a) (sign b)
 by_cases e : Lib.compareInt (sign a) (sign b) = 0
 ·rw [if_pos e]
  have := h1.1 e
  constructor
  ·intro h
   refine .inr ⟨this, ?_⟩
   split
   ·rw [if_pos ‹_›] at h; exact h
   ·rw [if_neg ‹_›] at h; exact h
  ·rintro (h | ⟨_, h⟩)
   ·omega
   ·split
    ·rw [if_pos ‹_›] at h; exact h
    ·rw [if_neg ‹_›] at h; exact h
 ·rw [if_neg e, h2]
  have : ¬ _ := fun h => e (h1.2 h)
  constructor
  ·intro h; left; omega
  ·rintro (h | ⟨h, _⟩)
   ·omega
   ·exact absurd h this
theorem cmp_next (a b c : Num) (ha : May a) (hb : May b) (h1 : cmp a b ≤ 0) (h2 : cmp b c ≤ 0) : cmp a c ≤ 0 := by
 rw [cmp_le] at *
 rcases h1 with h1 | ⟨h1, h1'⟩ <;> rcases h2 with h2 | ⟨h2, h2'⟩
 ·left; omega
 ·left; omega
 ·left; omega
 ·right
  refine ⟨by omega, ?_⟩
  have hn := (sign_neg ha hb h1).1
  cases e : a.neg
  ·rw [e] at hn h1'
   rw [← hn] at h2'
   simp at h1' h2' ⊢
   exact size_next _ _ _ h1' h2'
  ·rw [e] at hn h1'
   rw [← hn] at h2'
   simp at h1' h2' ⊢
   exact size_next _ _ _ h2' h1'

end Go.Proofs.YtolkfgikomminaaGreatDoor.Nm

namespace Go.Proofs.YtolkfgikomminaaGreatDoor.Nm


theorem pre_all (d e : List UInt8) (hd : ∀ c ∈ d, dig c = true) (he : ∀ c, e.head? = some c → dig c = false) : pre (d ++ e) = d ∧ suf (d ++ e) = e := by
 induction d with
 | nil =>
  cases e with
  | nil => exact ⟨rfl, rfl⟩
  | cons x r =>
   have := he x rfl
   simp [pre, suf, this]
 | cons x r ih =>
  have hx := hd x (by simp)
  have h := ih (fun c hc => hd c (by simp [hc]))
  simp only [pre, suf] at h ⊢
  simp [hx, h]

theorem dig_ofNat (k : Nat) (h : k < 10) : dig (UInt8.ofNat (48 + k)) = true ∧ (UInt8.ofNat (48 + k)).toNat = 48 + k := by
 have e : (UInt8.ofNat (48 + k)).toNat = 48 + k := by
  rw [UInt8.toNat_ofNat']; omega
 exact ⟨by unfold dig; rw [e]; simp; omega, e⟩

theorem dec_dig (u : Nat) : ∀ c ∈ Lib.decDigits u, dig c = true := by
 induction u using Nat.strongRecOn with
 | ind u ih =>
  rw [Lib.decDigits]
  split
  ·intro c hc; rw [List.mem_singleton] at hc; subst hc; exact (dig_ofNat u (by omega)).1
  ·intro c hc
   rcases List.mem_append.1 hc with h | h
   ·exact ih (u / 10) (by omega) c h
   ·rw [List.mem_singleton] at h; subst h; exact (dig_ofNat (u % 10) (by omega)).1
theorem dec_ne (u : Nat) : Lib.decDigits u ≠ [] := by
 rw [Lib.decDigits]; split <;> simp
theorem dec_head (u : Nat) (h : u ≠ 0) : (Lib.decDigits u).head? ≠ some 48 := by
 induction u using Nat.strongRecOn with
 | ind u ih =>
  rw [Lib.decDigits]
  split
  ·rename_i h10
   intro e
   rw [List.head?_cons, Option.some.injEq] at e
   have := (dig_ofNat u h10).2
   rw [e] at this
   have h48 : (48 : UInt8).toNat = 48 := rfl
   omega
  ·have := ih (u / 10) (by omega) (by omega)
   cases hc : Lib.decDigits (u / 10) with
   | nil => exact absurd hc (dec_ne _)
   | cons x r => rw [hc] at this; simpa using this
theorem expo_dec (u : Nat) (h : u ≤ 1000000) : expo (Lib.decDigits u) = u := by
 induction u using Nat.strongRecOn with
 | ind u ih =>
  rw [Lib.decDigits]
  split
  ·rename_i h10
   have e := (dig_ofNat u h10).2
   simp only [expo, List.foldl_cons, List.foldl_nil, e, far]
   omega
  ·have h1 := ih (u / 10) (by omega) (by omega)
   have e := (dig_ofNat (u % 10) (by omega)).2
   unfold expo at h1 ⊢
   rw [List.foldl_append, h1]
   simp only [List.foldl_cons, List.foldl_nil, e, far]
   omega

theorem dig_ne (c k : UInt8) (h : dig c = true) (hk : dig k = false) : c ≠ k := fun e => by subst e; rw [h] at hk; cases hk


theorem head_of_all (d : List UInt8) (hd : ∀ c ∈ d, dig c = true) (c : UInt8) (h : d.head? = some c) : dig c = true :=
 hd c (List.mem_of_mem_head? h)

theorem prefix_no (d : List UInt8) (h : ∀ c, d.head? = some c → c ≠ 45) : Lib.hasPrefix d [45] = false ∧ Lib.trimPrefix d [45] = d := by
 have hp : Lib.hasPrefix d [45] = false := by
  rw [prefix_one]
  cases hd : d.head? with
  | none => rfl
  | some c => simpa using h c hd
 exact ⟨hp, by unfold Lib.trimPrefix; rw [hp]; rfl⟩
theorem prefix_yes (d : List UInt8) : Lib.hasPrefix (45 :: d) [45] = true ∧ Lib.trimPrefix (45 :: d) [45] = d := by
 have hp : Lib.hasPrefix (45 :: d) [45] = true := by rw [prefix_one]; rfl
 exact ⟨hp, by unfold Lib.trimPrefix; rw [hp]; rfl⟩

theorem bad_no (d : List UInt8) (h0 : d ≠ []) (h1 : d.head? ≠ some 48) : badWhole d = false := by
 unfold badWhole
 cases d with
 | nil => exact absurd rfl h0
 | cons x r =>
  simp only [List.isEmpty_cons, Bool.false_or, Bool.and_eq_false_iff]
  right
  simpa using h1

theorem split_digits (neg : Bool) (l d e : List UInt8) (hn : Lib.hasPrefix l [45] = neg) (ht : Lib.trimPrefix l [45] = d ++ e) (hd : ∀ c ∈ d, dig c = true) (hb : badWhole d = false) (he : ∀ c, e.head? = some c → dig c = false) (h46 : ¬ e.head? = some 46) :
  split l = tail neg d [] e := by
 have hp := pre_all d e hd he
 rw [split_eq ht hn hp.1 hp.2, if_neg (by rw [hb]; decide), afterWhole_none _ _ _ h46]

theorem itoa_parts (x : Int) (h1 : -1000 ≤ x) (h2 : x ≤ 1000) : ∃ m : Nat, sgn (Lib.itoa x) = decide (x < 0) ∧ unsgn (Lib.itoa x) = Lib.decDigits m ∧ (if x < 0 then - (m : Int) else m) = x ∧ m ≤ 1000 := by
 unfold Lib.itoa
 by_cases h : x < 0
 ·rw [if_pos h]
  exact ⟨x.natAbs, by simp [sgn, h], by simp [unsgn], by rw [if_pos h]; omega, by omega⟩
 ·rw [if_neg h]
  refine ⟨x.toNat, ?_, ?_, by rw [if_neg h]; omega, by omega⟩
  ·cases hc : Lib.decDigits x.toNat with
   | nil => exact absurd hc (dec_ne _)
   | cons c r =>
    have := dec_dig x.toNat c (by rw [hc]; simp)
    have h45 : c ≠ 45 := dig_ne c 45 this (by decide)
    simp [sgn, h45, h]
  ·cases hc : Lib.decDigits x.toNat with
   | nil => exact absurd hc (dec_ne _)
   | cons c r =>
    have := dec_dig x.toNat c (by rw [hc]; simp)
    have h45 : c ≠ 45 := dig_ne c 45 this (by decide)
    have h43 : c ≠ 43 := dig_ne c 43 this (by decide)
    simp [unsgn, h45, h43]

theorem core_id (d : List UInt8) (h1 : d.head? ≠ some 48) (h2 : d.getLast? ≠ some 48) : core d = d := by
 unfold core; rw [left_id d h1, right_id d h2]

theorem tail_text (neg : Bool) (d : List UInt8) (x : Int) (h1 : -1000 ≤ x) (h2 : x ≤ 1000) :
  ∃ p3 b, tail neg d [] (if x = 0 then [] else 101 :: Lib.itoa x) = (⟨neg, d, [], b, p3⟩, true) ∧ expOf ⟨neg, d, [], b, p3⟩ = x := by
 by_cases hx : x = 0
 ·subst hx
  exact ⟨[], false, by rw [if_pos rfl]; rfl, rfl⟩
 ·obtain ⟨m, e1, e2, e3, e4⟩ := itoa_parts x h1 h2
  have hp := pre_all (Lib.decDigits m) [] (dec_dig m) (fun c h => by cases h)
  rw [List.append_nil] at hp
  refine ⟨Lib.decDigits m, decide (x < 0), ?_, ?_⟩
  ·rw [if_neg hx, tail_exp _ _ _ _ _ (.inl rfl), e1, e2, hp.1, hp.2]
   cases hc : Lib.decDigits m with
   | nil => exact absurd hc (dec_ne _)
   | cons c r => rfl
  ·unfold expOf
   simp only
   rw [expo_dec m (by omega)]
   by_cases h : x < 0
   ·rw [if_pos h] at e3; simp [h, e3]
   ·rw [if_neg h] at e3; simp [h, e3]

theorem parse_text (n : Num) (h : May n) : parse (text n) = (n, 0) := by
 rcases h with rfl | ⟨h0, hd, hh, hl, h60, hx1, hx2⟩
 ·decide
 ·obtain ⟨neg, d, x⟩ := n
  simp only at h0 hd hh hl h60 hx1 hx2
  have hb := bad_no d h0 hh
  have he1 : ∀ c, (if x = 0 then [] else 101 :: Lib.itoa x : List UInt8).head? = some c → dig c = false := by
   intro c hc
   split at hc
   ·cases hc
   ·simp at hc; subst hc; decide
  have he2 : ¬ (if x = 0 then [] else 101 :: Lib.itoa x : List UInt8).head? = some 46 := by
   split
   ·simp
   ·simp
  obtain ⟨p3, b, t1, t2⟩ := tail_text neg d x hx1 hx2
  have hs : split (text ⟨neg, d, x⟩) = (⟨neg, d, [], b, p3⟩, true) := by
   rw [← t1]
   have e : d.isEmpty = false := by simpa using h0
   unfold text
   simp only [e, Bool.false_eq_true, if_false]
   cases neg
   ·simp only [Bool.false_eq_true, if_false, List.nil_append]
    have hp := prefix_no (d ++ if x = 0 then [] else 101 :: Lib.itoa x) (fun c hc => by
     cases d with
     | nil => exact absurd rfl h0
     | cons y r =>
      simp at hc
      subst hc
      exact dig_ne y 45 (hd y (by simp)) (by decide))
    exact split_digits false _ d _ hp.1 hp.2 hd hb he1 he2
   ·simp only [if_true]
    have hp := prefix_yes (d ++ if x = 0 then [] else 101 :: Lib.itoa x)
    exact split_digits true _ d _ hp.1 hp.2 hd hb he1 he2
  unfold parse
  rw [hs, parseOf_eq]
  have hn : normal neg (d ++ []) (expOf ⟨neg, d, [], b, p3⟩ - ([] : List UInt8).length) = (⟨neg, d, x⟩, true) := by
   rw [List.append_nil, t2, normal_core, core_id d hh hl, left_id d hh, if_neg (by simpa using h0), if_neg (by simp; omega)]
   simp
  rw [hn]
  rfl

theorem text_len (n : Num) (h : May n) : (text n).length ≤ 100 := by
 rcases h with rfl | ⟨h0, hd, hh, hl, h60, hx1, hx2⟩
 ·decide
 ·have hi := Lib.itoa_length_le n.exp (by omega) (by omega)
  unfold text
  split
  ·decide
  ·simp only [List.length_append]
   have h1 : (if n.neg then [45] else [] : List UInt8).length ≤ 1 := by split <;> decide
   have h2 : (if n.exp = 0 then [] else 101 :: Lib.itoa n.exp : List UInt8).length ≤ 22 := by
    split
    ·decide
    ·simp; omega
   omega


theorem zeros_lt : ∀ s : List UInt8, (∀ c ∈ s, dig c = true) → (∃ c ∈ s, c ≠ 48) → Lib.compareBytes (List.replicate s.length 48) s = -1
 | [], _, h => by obtain ⟨c, hc, _⟩ := h; cases hc
 | y :: s, hd, h => by
  rw [List.length_cons, List.replicate_succ]
  simp only [Lib.compareBytes, UInt8.lt_iff_toNat_lt]
  have hy := dig_bd (hd y (by simp))
  have h48 : (48 : UInt8).toNat = 48 := rfl
  by_cases e : 48 < y.toNat
  ·rw [if_pos (by omega)]
  ·rw [if_neg (by omega), if_neg (by omega)]
   refine zeros_lt s (fun c hc => hd c (by simp [hc])) ?_
   obtain ⟨c, hc, hne⟩ := h
   rcases List.mem_cons.1 hc with rfl | hc'
   ·exact absurd (UInt8.toNat_inj.1 (by rw [h48]; omega)) hne
   ·exact ⟨c, hc', hne⟩

theorem last_ne (y : UInt8) (s : List UInt8) (h : (y :: s).getLast? ≠ some 48) : ∃ c ∈ y :: s, c ≠ 48 := by
 refine ⟨(y :: s).getLast (by simp), List.getLast_mem _, fun e => h ?_⟩
 rw [List.getLast?_eq_some_getLast (by simp), e]
theorem last_tail (y : UInt8) (s : List UInt8) (h : (y :: s).getLast? ≠ some 48) : s.getLast? ≠ some 48 := by
 cases s with
 | nil => simp
 | cons z r => simpa [List.getLast?_cons_cons] using h

theorem pad : ∀ (r1 r2 : List UInt8) (b1 b2 : Nat), (∀ c ∈ r1, dig c = true) → (∀ c ∈ r2, dig c = true) → r1.getLast? ≠ some 48 → r2.getLast? ≠ some 48 → r1.length + b1 = r2.length + b2 →
  Lib.compareBytes (r1 ++ List.replicate b1 48) (r2 ++ List.replicate b2 48) = Lib.compareBytes r1 r2
 | [], [], b1, b2, _, _, _, _, h => by
  have e : b1 = b2 := by simpa using h
  subst e
  exact (bytes_self _).trans rfl
 | [], y :: r2, b1, b2, _, h2, _, l2, h => by
  have e : List.replicate b1 (48 : UInt8) = List.replicate (y :: r2 ++ List.replicate b2 48).length 48 := by
   congr 1; simp at h ⊢; omega
  rw [List.nil_append, e, zeros_lt]
  ·rfl
  ·intro c hc
   rcases List.mem_append.1 hc with hc | hc
   ·exact h2 c hc
   ·rw [(List.mem_replicate.1 hc).2]; decide
  ·obtain ⟨c, hc, hne⟩ := last_ne y r2 l2
   exact ⟨c, List.mem_append_left _ hc, hne⟩
 | x :: r1, [], b1, b2, h1, _, l1, _, h => by
  have e : List.replicate b2 (48 : UInt8) = List.replicate (x :: r1 ++ List.replicate b1 48).length 48 := by
   congr 1; simp at h ⊢; omega
  rw [bytes_flip, List.nil_append, e, zeros_lt]
  ·rfl
  ·intro c hc
   rcases List.mem_append.1 hc with hc | hc
   ·exact h1 c hc
   ·rw [(List.mem_replicate.1 hc).2]; decide
  ·obtain ⟨c, hc, hne⟩ := last_ne x r1 l1
   exact ⟨c, List.mem_append_left _ hc, hne⟩
 | x :: r1, y :: r2, b1, b2, h1, h2, l1, l2, h => by
  have ih := pad r1 r2 b1 b2 (fun c hc => h1 c (by simp [hc])) (fun c hc => h2 c (by simp [hc])) (last_tail x r1 l1) (last_tail y r2 l2) (by simp at h; omega)
  simp only [List.cons_append, Lib.compareBytes]
  rw [ih]

def val (l : List UInt8) : Nat := l.foldl (fun v c => 10 * v + (c.toNat - 48)) 0

theorem val_snoc (l : List UInt8) (c : UInt8) : val (l ++ [c]) = 10 * val l + (c.toNat - 48) := by
 unfold val; rw [List.foldl_append]; rfl
theorem val_fold (l : List UInt8) : ∀ v, l.foldl (fun v c => 10 * v + (c.toNat - 48)) v = v * 10 ^ l.length + val l := by
 induction l with
 | nil => intro v; simp [val]
 | cons c r ih =>
  intro v
  unfold val
  rw [List.foldl_cons, List.foldl_cons, ih, ih, List.length_cons, Nat.pow_succ]
  rw [Nat.add_mul, Nat.add_mul, Nat.mul_zero, Nat.zero_mul, Nat.zero_add]
  have : 10 * v * 10 ^ r.length = v * (10 ^ r.length * 10) := by rw [Nat.mul_comm 10 v, Nat.mul_assoc, Nat.mul_comm 10]
  omega
theorem val_cons (c : UInt8) (r : List UInt8) : val (c :: r) = (c.toNat - 48) * 10 ^ r.length + val r := by
 show r.foldl _ (10 * 0 + (c.toNat - 48)) = _
 rw [val_fold]; simp
theorem val_lt (l : List UInt8) (h : ∀ c ∈ l, dig c = true) : val l < 10 ^ l.length := by
 induction l with
 | nil => decide
 | cons c r ih =>
  have hr := ih (fun d hd => h d (by simp [hd]))
  have hc := dig_bd (h c (by simp))
  rw [val_cons, List.length_cons, Nat.pow_succ]
  have : (c.toNat - 48) * 10 ^ r.length ≤ 9 * 10 ^ r.length := Nat.mul_le_mul_right _ (by omega)
  omega
theorem val_order : ∀ a b : List UInt8, (∀ c ∈ a, dig c = true) → (∀ c ∈ b, dig c = true) → a.length = b.length → val a < val b → Lib.compareBytes a b = -1
 | [], [], _, _, _, h => by simp [val] at h
 | [], _ :: _, _, _, h, _ => by simp at h
 | _ :: _, [], _, _, h, _ => by simp at h
 | x :: a, y :: b, ha, hb, hl, hv => by
  have hl' : a.length = b.length := by simpa using hl
  have h1 := val_lt a (fun c hc => ha c (by simp [hc]))
  have h2 := val_lt b (fun c hc => hb c (by simp [hc]))
  have hx := dig_bd (ha x (by simp))
  have hy := dig_bd (hb y (by simp))
  rw [val_cons, val_cons, hl'] at hv
  rw [hl'] at h1
  simp only [Lib.compareBytes, UInt8.lt_iff_toNat_lt]
  by_cases e1 : x.toNat < y.toNat
  ·rw [if_pos e1]
  ·rw [if_neg e1]
   by_cases e2 : y.toNat < x.toNat
   ·exfalso
    have : (y.toNat - 48 + 1) * 10 ^ b.length ≤ (x.toNat - 48) * 10 ^ b.length := Nat.mul_le_mul_right _ (by omega)
    rw [Nat.add_mul, Nat.one_mul] at this
    omega
   ·rw [if_neg e2]
    have e : x.toNat = y.toNat := by omega
    rw [e] at hv
    exact val_order a b (fun c hc => ha c (by simp [hc])) (fun c hc => hb c (by simp [hc])) hl' (by omega)
theorem val_dec (u : Nat) : val (Lib.decDigits u) = u := by
 induction u using Nat.strongRecOn with
 | ind u ih =>
  rw [Lib.decDigits]
  split
  ·rename_i h10
   have e := (dig_ofNat u h10).2
   simp only [val, List.foldl_cons, List.foldl_nil, e]
   omega
  ·have e := (dig_ofNat (u % 10) (by omega)).2
   rw [val_snoc, ih (u / 10) (by omega), e]
   omega
theorem dec_len_mono (n : Nat) : ∀ m, m ≤ n → Lib.nDigits m ≤ Lib.nDigits n := by
 induction n using Nat.strongRecOn with
 | ind n ih =>
  intro m hm
  by_cases h : m < 10
  ·rw [Lib.nDigits_small h]; exact Lib.nDigits_pos n
  ·have hn : ¬ n < 10 := by omega
   rw [Lib.nDigits_big h, Lib.nDigits_big hn]
   have := ih (n / 10) (by omega) (m / 10) (by omega)
   omega

theorem itoa_nat (k : Int) (h : 0 ≤ k) : Lib.itoa k = Lib.decDigits k.toNat := by unfold Lib.itoa; rw [if_neg (by omega)]

theorem dec_bad (u : Nat) : badWhole (Lib.decDigits u) = false := by
 by_cases h : u = 0
 ·subst h
  rw [Lib.decDigits_one (by omega)]; decide
 ·exact bad_no _ (dec_ne u) (dec_head u h)

theorem parse_dec (u : Nat) : parse (Lib.decDigits u) = parseOf (⟨false, Lib.decDigits u, [], false, []⟩, true) := by
 have hp := prefix_no (Lib.decDigits u) (fun c hc => dig_ne c 45 (head_of_all _ (dec_dig u) c hc) (by decide))
 unfold parse
 rw [split_digits false _ (Lib.decDigits u) [] hp.1 (by rw [List.append_nil]; exact hp.2) (dec_dig u) (dec_bad u) (fun c h => by cases h) (by simp)]
 rfl

theorem core_len (d : List UInt8) : ∃ b, Lib.trimLeftB d 48 = core d ++ List.replicate b 48 := right_eq _

theorem count_pos (u : Nat) (h0 : u ≠ 0) (h : u ≤ 2000000000) : ∃ b : Nat, (parse (Lib.decDigits u)).1 = ⟨false, core (Lib.decDigits u), b⟩ ∧ Lib.decDigits u = core (Lib.decDigits u) ++ List.replicate b 48 ∧ core (Lib.decDigits u) ≠ [] := by
 obtain ⟨b, hb⟩ := core_len (Lib.decDigits u)
 rw [left_id _ (dec_head u h0)] at hb
 have hlen : (Lib.decDigits u).length ≤ 21 := by
  have := Lib.itoa_length_le u (by omega) (by omega)
  rw [itoa_nat _ (by omega)] at this
  simpa using this
 have hl := congrArg List.length hb
 rw [List.length_append, List.length_replicate] at hl
 have hne : core (Lib.decDigits u) ≠ [] := by
  intro e
  rw [e, List.nil_append] at hb
  have h1 := dec_head u h0
  rw [hb] at h1
  cases b with
  | zero => exact dec_ne u (by rw [hb]; rfl)
  | succ n => rw [List.replicate_succ] at h1; exact h1 rfl
 refine ⟨b, ?_, hb, hne⟩
 have hn : normal false (Lib.decDigits u ++ []) (expOf ⟨false, Lib.decDigits u, [], false, []⟩ - ([] : List UInt8).length) = (⟨false, core (Lib.decDigits u), b⟩, true) := by
  have hx : expOf ⟨false, Lib.decDigits u, [], false, []⟩ = 0 := rfl
  have e : (0 : Int) - (([] : List UInt8).length : Int) + (((Lib.decDigits u).length : Int) - ((core (Lib.decDigits u)).length : Int)) = b := by
   simp only [List.length_nil]; omega
  rw [List.append_nil, hx, normal_core, left_id _ (dec_head u h0), e, if_neg (by simpa using hne), if_neg (by omega)]
 rw [parse_dec, parseOf_eq, hn]
 rfl

theorem count_zero : (parse (Lib.decDigits 0)).1 = Num.zero := by
 rw [Lib.decDigits_one (by omega)]; decide

theorem count_next (u : Nat) (h : u ≤ 1000000000) : cmp (parse (Lib.decDigits u)).1 (parse (Lib.decDigits (u + 1))).1 = -1 := by
 obtain ⟨b2, e2, d2, n2⟩ := count_pos (u + 1) (by omega) (by omega)
 by_cases h0 : u = 0
 ·subst h0
  rw [count_zero, e2]
  have hs : sign ⟨false, core (Lib.decDigits (0 + 1)), b2⟩ = 1 := by
   unfold sign; rw [if_neg (by simpa using n2)]; rfl
  unfold cmp
  rw [hs]
  rfl
 ·obtain ⟨b1, e1, d1, n1⟩ := count_pos u h0 (by omega)
  rw [e1, e2]
  have s1 : sign ⟨false, core (Lib.decDigits u), b1⟩ = 1 := by unfold sign; rw [if_neg (by simpa using n1)]; rfl
  have s2 : sign ⟨false, core (Lib.decDigits (u + 1)), b2⟩ = 1 := by unfold sign; rw [if_neg (by simpa using n2)]; rfl
  have l1 := congrArg List.length d1
  have l2 := congrArg List.length d2
  rw [List.length_append, List.length_replicate] at l1 l2
  have hm := dec_len_mono (u + 1) u (by omega)
  rw [← Lib.decDigits_length, ← Lib.decDigits_length] at hm
  unfold cmp
  rw [s1, s2]
  simp only [(int_zero 1 1).2 rfl, if_true, Bool.false_eq_true, if_false]
  unfold cmpSize
  simp only
  by_cases e : (Lib.decDigits u).length = (Lib.decDigits (u + 1)).length
  ·rw [if_pos ((int_zero _ _).2 (by omega))]
   rw [← pad _ _ b1 b2 (fun c hc => dec_dig _ c (core_mem _ c hc)) (fun c hc => dec_dig _ c (core_mem _ c hc)) (core_last _) (core_last _) (by omega), ← d1, ← d2]
   exact val_order _ _ (dec_dig _) (dec_dig _) e (by rw [val_dec, val_dec]; omega)
  ·have hlt : Lib.compareInt ((core (Lib.decDigits u)).length + (b1 : Int)) ((core (Lib.decDigits (u + 1))).length + (b2 : Int)) = -1 := by
    unfold Lib.compareInt; rw [if_pos (by omega)]
   rw [hlt]; rfl

theorem count_step (k : Int) (h0 : 0 ≤ k) (h1 : k ≤ 1000000000) : cmp (count k) (count (k + 1)) = -1 := by
 unfold count
 rw [itoa_nat k h0, itoa_nat (k + 1) (by omega), show (k + 1).toNat = k.toNat + 1 from by omega]
 exact count_next k.toNat (by omega)
theorem count_whole (k : Int) (h0 : 0 ≤ k) (h1 : k ≤ 1000000000) : 0 ≤ (count k).exp := by
 unfold count
 rw [itoa_nat k h0]
 by_cases h : k.toNat = 0
 ·rw [h, count_zero]; decide
 ·obtain ⟨b, e, _⟩ := count_pos k.toNat h (by omega)
  rw [e]; simp

theorem laws : Laws :=
 ⟨err_range, fun l _ => parse_may l, parse_text, text_len, cmp_range, cmp_flip, cmp_same, fun a b c ha hb _ h1 h2 => cmp_next a b c ha hb h1 h2, fun _ _ _ => parse_may _, count_step, count_whole⟩

end Go.Proofs.YtolkfgikomminaaGreatDoor.Nm

namespace Go.Proofs.YtolkfgikomminaaGreatDoor.Nm

def full (d : List UInt8) (n : Nat) : List UInt8 := if d.isEmpty then [] else d ++ List.replicate n 48

def shorter (x y : List UInt8) : Bool := if x.length = y.length then Op.bytesLess x y else decide (x.length < y.length)

def less (a b : Num) : Bool :=
 if a.neg = b.neg then
  (if a.neg then shorter (full b.digits (b.exp - min a.exp b.exp).toNat) (full a.digits (a.exp - min a.exp b.exp).toNat)
   else shorter (full a.digits (a.exp - min a.exp b.exp).toNat) (full b.digits (b.exp - min a.exp b.exp).toNat))
 else a.neg

def refCmp (a b : Num) : Int := if less a b then -1 else if less b a then 1 else 0

def Small (n : Num) : Prop := n.digits.length ≤ 1000 ∧ -1000 ≤ n.exp ∧ n.exp ≤ 1000

theorem May.small {n : Num} (h : May n) : Small n := by
 rcases h with rfl | ⟨_, _, _, _, h1, h2, h3⟩
 ·exact ⟨by decide, by decide, by decide⟩
 ·exact ⟨by omega, h2, h3⟩

end Go.Proofs.YtolkfgikomminaaGreatDoor.Nm

namespace Go.Proofs.YtolkfgikomminaaGreatDoor.Nm

def endExp (t : List UInt8) : List UInt8 × Bool :=
 match t with
 | [] => ([], true)
 | c :: r => if c = 101 ∨ c = 69 then (suf (unsgn r), !(pre (unsgn r)).isEmpty) else (c :: r, true)
def endPoint (t : List UInt8) : List UInt8 × Bool :=
 match t with
 | 46 :: r => if (pre r).isEmpty then (suf r, false) else endExp (suf r)
 | _ => endExp t
def endOf (t : List UInt8) : List UInt8 × Bool :=
 let t1 := Lib.trimPrefix t [45]
 if (pre t1).isEmpty then (t1, false) else endPoint (if t1.head? = some 48 then t1.drop 1 else suf t1)

theorem endPoint_none (t : List UInt8) (h : ¬ t.head? = some 46) : endPoint t = endExp t := by
 unfold endPoint
 split
 ·simp at h
 ·rfl
theorem endExp_bad (c : UInt8) (r : List UInt8) (h : ¬ (c = 101 ∨ c = 69)) : endExp (c :: r) = (c :: r, true) := by
 simp only [endExp]; rw [if_neg h]
theorem endExp_exp (c : UInt8) (r : List UInt8) (h : c = 101 ∨ c = 69) : endExp (c :: r) = (suf (unsgn r), !(pre (unsgn r)).isEmpty) := by
 simp only [endExp]; rw [if_pos h]

theorem tail_end (neg : Bool) (w f s : List UInt8) : (tail neg w f s).2 = true ↔ endExp s = ([], true) := by
 cases s with
 | nil => simp [tail, endExp]
 | cons c r =>
  by_cases h : c = 101 ∨ c = 69
  ·rw [tail_exp _ _ _ _ _ h, endExp_exp _ _ h]
   simp only [Bool.and_eq_true, Prod.mk.injEq, List.isEmpty_iff]
   exact ⟨fun h => ⟨h.2, h.1⟩, fun h => ⟨h.2, h.1⟩⟩
  ·rw [tail_bad _ _ _ _ _ h, endExp_bad _ _ h]; simp

theorem after_end (neg : Bool) (w s : List UInt8) : (afterWhole neg w s).2 = true ↔ endPoint s = ([], true) := by
 by_cases h : s.head? = some 46
 ·obtain ⟨r, rfl⟩ : ∃ r, s = 46 :: r := by
   cases s with
   | nil => cases h
   | cons d t => exact ⟨t, by rw [Option.some.inj h]⟩
  rw [afterWhole_point, show endPoint (46 :: r) = if (pre r).isEmpty then (suf r, false) else endExp (suf r) from rfl]
  split
  ·simp
  ·exact tail_end _ _ _ _
 ·rw [afterWhole_none _ _ _ h, endPoint_none _ h]
  exact tail_end _ _ _ _

theorem split_end (l : List UInt8) : (split l).2 = true ↔ endOf l = ([], true) := by
 unfold split endOf
 simp only
 generalize Lib.trimPrefix l [45] = t
 have hd0 := pre_dig t
 have ht0 := pre_suf t
 generalize pre t = pt at hd0 ht0 ⊢
 generalize suf t = st at ht0 ⊢
 cases pt with
 | nil => simp [badWhole]
 | cons c r =>
  have ht : t = c :: (r ++ st) := ht0.symm
  have hh : t.head? = some c := by rw [ht]; rfl
  simp only [List.isEmpty_cons, Bool.false_eq_true, if_false, hh]
  by_cases hb : badWhole (c :: r) = true
  ·rw [if_pos hb]
   have hb' : 0 < r.length ∧ c = 48 := by
    simp [badWhole] at hb
    exact ⟨by omega, hb.2⟩
   obtain ⟨hr, rfl⟩ := hb'
   rw [if_pos rfl]
   cases r with
   | nil => simp at hr
   | cons d r =>
    have hd : dig d = true := hd0 d (by simp)
    have e : t.drop 1 = d :: (r ++ st) := by rw [ht]; rfl
    rw [e, endPoint_none _ (by simpa using dig_ne d 46 hd (by decide)), endExp_bad _ _ (by
     rintro (h | h)
     ·exact dig_ne d 101 hd (by decide) h
     ·exact dig_ne d 69 hd (by decide) h)]
    simp
  ·rw [if_neg hb]
   have e : (if some c = some 48 then t.drop 1 else st) = st := by
    split
    ·rename_i h
     have hc : c = 48 := Option.some.inj h
     have hr : r = [] := by
      cases r with
      | nil => rfl
      | cons d r => exact absurd (by simp [badWhole, hc]) hb
     rw [ht, hr]; rfl
    ·rfl
   rw [e]
   exact after_end _ _ _

end Go.Proofs.YtolkfgikomminaaGreatDoor.Nm

namespace Go.Proofs.YtolkfgikomminaaGreatDoor.Nm

structure Sc where
 neg : Bool
 digits : List UInt8
 behind : Nat
 point : Bool
 exp : Int
 down : Bool
 power : Bool

def Sc.start : Sc := ⟨false, [], 0, false, 0, false, false⟩

def stepE (e : Int) (c : UInt8) : Int := if dig c then min (10 * e + (c.toNat : Int) - 48) 1000000 else e

def step (st : Sc) (c : UInt8) : Sc :=
 if st.power then { st with down := st.down || c == 45, exp := stepE st.exp c }
 else if c = 45 then { st with neg := true }
 else if c = 46 then { st with point := true }
 else if c = 101 ∨ c = 69 then { st with power := true }
 else { st with digits := st.digits ++ [c], behind := if st.point then st.behind + 1 else st.behind }

def scan (l : List UInt8) : Sc := l.foldl step Sc.start

theorem scan_snoc (l : List UInt8) (k : Nat) (h : k < l.length) : scan (l.take (k + 1)) = step (scan (l.take k)) l[k] := by
 rw [List.take_succ_eq_append_getElem h]; unfold scan; rw [List.foldl_append]; rfl

theorem stepE_bd (e : Int) (c : UInt8) (h : 0 ≤ e ∧ e ≤ 1000000) : 0 ≤ stepE e c ∧ stepE e c ≤ 1000000 := by
 unfold stepE
 split
 ·have := dig_bd ‹_›; omega
 ·exact h

theorem scan_fold (l : List UInt8) : ∀ st : Sc, 0 ≤ st.exp ∧ st.exp ≤ 1000000 → st.behind ≤ st.digits.length → (0 ≤ (l.foldl step st).exp ∧ (l.foldl step st).exp ≤ 1000000) ∧ (l.foldl step st).behind ≤ (l.foldl step st).digits.length ∧ (l.foldl step st).digits.length ≤ st.digits.length + l.length := by
 induction l with
 | nil => intro st h1 h2; exact ⟨h1, h2, by simp⟩
 | cons c r ih =>
  intro st h1 h2
  rw [List.foldl_cons]
  have key : (0 ≤ (step st c).exp ∧ (step st c).exp ≤ 1000000) ∧ (step st c).behind ≤ (step st c).digits.length ∧ (step st c).digits.length ≤ st.digits.length + 1 := by
   unfold step
   split
   ·exact ⟨stepE_bd _ _ h1, h2, by simp⟩
   ·split
    ·exact ⟨h1, h2, by simp⟩
    ·split
     ·exact ⟨h1, h2, by simp⟩
     ·split
      ·exact ⟨h1, h2, by simp⟩
      ·refine ⟨h1, ?_, by simp⟩
       simp only [List.length_append, List.length_singleton]
       split <;> omega
  have := ih (step st c) key.1 key.2.1
  refine ⟨this.1, this.2.1, ?_⟩
  simp only [List.length_cons]
  omega
theorem scan_bd (l : List UInt8) : (0 ≤ (scan l).exp ∧ (scan l).exp ≤ 1000000) ∧ (scan l).behind ≤ (scan l).digits.length ∧ (scan l).digits.length ≤ l.length := by
 have := scan_fold l Sc.start ⟨by decide, by decide⟩ (by decide)
 exact ⟨this.1, this.2.1, by have h := this.2.2; rw [show Sc.start.digits.length = 0 from rfl, Nat.zero_add] at h; exact h⟩

def mayN (n : Nat) (x : Int) : Bool := !(decide (60 < n) || decide (x < -1000) || decide (1000 < x))

def made (neg : Bool) (d : List UInt8) (x : Int) : Num × Int := if d.isEmpty then (Num.zero, 0) else if mayN d.length x then (⟨neg, d, x⟩, 0) else (Num.zero, 5)

def refNum (st : Sc) : Num × Int := made st.neg (core st.digits) ((if st.down then -st.exp else st.exp) - st.behind + (((Lib.trimLeftB st.digits 48).length : Int) - (core st.digits).length))

def NumLaw (l : List UInt8) : Prop := (split l).2 = true → (∀ c ∈ (scan l).digits, dig c = true) ∧ parse l = refNum (scan l)

end Go.Proofs.YtolkfgikomminaaGreatDoor.Nm

namespace Go.Proofs.YtolkfgikomminaaGreatDoor.Nm

theorem fold_exp (n : Bool) (D : List UInt8) (b : Nat) (pt dn : Bool) : ∀ (d : List UInt8) (e : Int), (∀ c ∈ d, dig c = true) → d.foldl step ⟨n, D, b, pt, e, dn, true⟩ = ⟨n, D, b, pt, d.foldl stepE e, dn, true⟩
 | [], _, _ => rfl
 | c :: r, e, h => by
   have hc : dig c = true := h c (by simp)
   have h45 : (c == 45) = false := by simpa using dig_ne c 45 hc (by decide)
   rw [List.foldl_cons, List.foldl_cons, show step ⟨n, D, b, pt, e, dn, true⟩ c = ⟨n, D, b, pt, stepE e c, dn, true⟩ from by simp [step, h45]]
   exact fold_exp n D b pt dn r _ (fun x hx => h x (by simp [hx]))

theorem fold_dig (n : Bool) (pt : Bool) (e : Int) (dn : Bool) : ∀ (d D : List UInt8) (b : Nat), (∀ c ∈ d, dig c = true) → d.foldl step ⟨n, D, b, pt, e, dn, false⟩ = ⟨n, D ++ d, if pt then b + d.length else b, pt, e, dn, false⟩
 | [], D, b, _ => by cases pt <;> simp
 | c :: r, D, b, h => by
   have hc : dig c = true := h c (by simp)
   have h1 := dig_ne c 45 hc (by decide)
   have h2 := dig_ne c 46 hc (by decide)
   have h3 := dig_ne c 101 hc (by decide)
   have h4 := dig_ne c 69 hc (by decide)
   rw [List.foldl_cons, show step ⟨n, D, b, pt, e, dn, false⟩ c = ⟨n, D ++ [c], if pt then b + 1 else b, pt, e, dn, false⟩ from by simp [step, h1, h2, h3, h4], fold_dig n pt e dn r _ _ (fun x hx => h x (by simp [hx]))]
   cases pt
   ·simp
   ·simp [Nat.add_assoc, Nat.add_comm 1]

def Same (n : Bool) (D : List UInt8) (b : Nat) (sc : Sc) (p : Parts) : Prop :=
 (∀ c ∈ p.exp, dig c = true) ∧ sc.neg = n ∧ sc.digits = D ∧ sc.behind = b ∧ sc.exp = p.exp.foldl stepE 0 ∧ sc.down = p.expNeg

theorem tail_scan (neg : Bool) (w f s : List UInt8) (n : Bool) (D : List UInt8) (b : Nat) (pt : Bool) (h : (tail neg w f s).2 = true) :
  (tail neg w f s).1.neg = neg ∧ (tail neg w f s).1.whole = w ∧ (tail neg w f s).1.frac = f ∧ Same n D b (s.foldl step ⟨n, D, b, pt, 0, false, false⟩) (tail neg w f s).1 := by
 cases s with
 | nil => exact ⟨rfl, rfl, rfl, fun _ h => (by cases h), rfl, rfl, rfl, rfl, rfl⟩
 | cons c r =>
  by_cases hc : c = 101 ∨ c = 69
  ·rw [tail_exp _ _ _ _ _ hc] at h ⊢
   simp only [Bool.and_eq_true, List.isEmpty_iff] at h
   have hr : unsgn r = pre (unsgn r) := by
    have := pre_suf (unsgn r); rw [h.2, List.append_nil] at this; exact this.symm
   have hd := pre_dig (unsgn r)
   refine ⟨rfl, rfl, rfl, hd, ?_⟩
   rw [← hr] at hd ⊢
   simp only
   have h0 : step ⟨n, D, b, pt, 0, false, false⟩ c = ⟨n, D, b, pt, 0, false, true⟩ := by
    rcases hc with rfl | rfl <;> rfl
   rw [List.foldl_cons, h0]
   cases r with
   | nil => exact ⟨rfl, rfl, rfl, rfl, rfl⟩
   | cons d t =>
    by_cases h45 : d = 45
    ·subst h45
     have e1 : unsgn (45 :: t) = t := rfl
     rw [e1] at hd ⊢
     rw [List.foldl_cons, show step ⟨n, D, b, pt, 0, false, true⟩ 45 = ⟨n, D, b, pt, 0, true, true⟩ from rfl, fold_exp _ _ _ _ _ _ _ hd]
     exact ⟨rfl, rfl, rfl, rfl, rfl⟩
    ·by_cases h43 : d = 43
     ·subst h43
      have e1 : unsgn (43 :: t) = t := rfl
      rw [e1] at hd ⊢
      rw [List.foldl_cons, show step ⟨n, D, b, pt, 0, false, true⟩ 43 = ⟨n, D, b, pt, 0, false, true⟩ from rfl, fold_exp _ _ _ _ _ _ _ hd]
      exact ⟨rfl, rfl, rfl, rfl, rfl⟩
     ·have e1 : unsgn (d :: t) = d :: t := by simp [unsgn, h45, h43]
      rw [e1] at hd ⊢
      rw [fold_exp _ _ _ _ _ _ _ hd]
      exact ⟨rfl, rfl, rfl, rfl, by simp [sgn, h45]⟩
  ·rw [tail_bad _ _ _ _ _ hc] at h; cases h

theorem after_scan (neg : Bool) (w s : List UInt8) (h : (afterWhole neg w s).2 = true) :
  (afterWhole neg w s).1.neg = neg ∧ (afterWhole neg w s).1.whole = w ∧ Same neg (w ++ (afterWhole neg w s).1.frac) (afterWhole neg w s).1.frac.length (s.foldl step ⟨neg, w, 0, false, 0, false, false⟩) (afterWhole neg w s).1 := by
 by_cases h46 : s.head? = some 46
 ·obtain ⟨r, rfl⟩ : ∃ r, s = 46 :: r := by
   cases s with
   | nil => cases h46
   | cons d t => exact ⟨t, by rw [Option.some.inj h46]⟩
  rw [afterWhole_point] at h ⊢
  by_cases hp : (pre r).isEmpty = true
  ·rw [if_pos hp] at h; cases h
  ·rw [if_neg hp] at h ⊢
   rw [List.foldl_cons, show step ⟨neg, w, 0, false, 0, false, false⟩ 46 = ⟨neg, w, 0, true, 0, false, false⟩ from rfl]
   have hf : r.foldl step ⟨neg, w, 0, true, 0, false, false⟩ = (suf r).foldl step ⟨neg, w ++ pre r, (pre r).length, true, 0, false, false⟩ := by
    conv => lhs; rw [← pre_suf r]
    rw [List.foldl_append, fold_dig _ _ _ _ _ _ _ (pre_dig r)]
    simp
   rw [hf]
   obtain ⟨a1, a2, a3, a4⟩ := tail_scan neg w (pre r) (suf r) neg (w ++ pre r) (pre r).length true h
   refine ⟨a1, a2, ?_⟩
   rw [a3]
   exact a4
 ·rw [afterWhole_none _ _ _ h46] at h ⊢
  obtain ⟨a1, a2, a3, a4⟩ := tail_scan neg w [] s neg w 0 false h
  refine ⟨a1, a2, ?_⟩
  rw [a3, List.append_nil]
  exact a4

theorem split_scan (l : List UInt8) (h : (split l).2 = true) : Same (split l).1.neg ((split l).1.whole ++ (split l).1.frac) (split l).1.frac.length (scan l) (split l).1 := by
 unfold split at h ⊢
 simp only at h ⊢
 have hl : l.foldl step Sc.start = (Lib.trimPrefix l [45]).foldl step ⟨Lib.hasPrefix l [45], [], 0, false, 0, false, false⟩ := by
  by_cases h45 : l.head? = some 45
  ·obtain ⟨r, rfl⟩ : ∃ r, l = 45 :: r := by
    cases l with
    | nil => cases h45
    | cons d t => exact ⟨t, by rw [Option.some.inj h45]⟩
   rw [(prefix_yes r).1, (prefix_yes r).2]
   rfl
  ·have hn := prefix_no l (fun c hc e => h45 (by rw [hc, e]))
   rw [hn.1, hn.2]
   rfl
 by_cases hb : badWhole (pre (Lib.trimPrefix l [45])) = true
 ·rw [if_pos hb] at h; cases h
 ·rw [if_neg hb] at h ⊢
  obtain ⟨a1, a2, a3⟩ := after_scan _ _ _ h
  rw [a1, a2]
  unfold scan
  rw [hl]
  have e : (Lib.trimPrefix l [45]).foldl step ⟨Lib.hasPrefix l [45], [], 0, false, 0, false, false⟩ = (suf (Lib.trimPrefix l [45])).foldl step ⟨Lib.hasPrefix l [45], pre (Lib.trimPrefix l [45]), 0, false, 0, false, false⟩ := by
   conv => lhs; rw [← pre_suf (Lib.trimPrefix l [45])]
   rw [List.foldl_append, fold_dig _ _ _ _ _ _ _ (pre_dig _)]
   simp
  rw [e]
  exact a3

theorem exp_same : ∀ (l : List UInt8) (e : Int), 0 ≤ e → (∀ c ∈ l, dig c = true) → l.foldl stepE (min e 1000000) = min (l.foldl (fun e c => min (e * 10 + ((c.toNat : Int) - 48)) far) e) 1000000
 | [], _, _, _ => rfl
 | c :: r, e, h0, h => by
   have hc : dig c = true := h c (by simp)
   have hb := dig_bd hc
   rw [List.foldl_cons, List.foldl_cons, show stepE (min e 1000000) c = min (min (e * 10 + ((c.toNat : Int) - 48)) far) 1000000 from by
    unfold stepE far; rw [if_pos hc]; omega]
   exact exp_same r _ (by unfold far; omega) (fun x hx => h x (by simp [hx]))

theorem made_eq (neg : Bool) (d : List UInt8) (X X' : Int) (h : X = X' ∨ ((X < -1000 ∨ 1000 < X) ∧ (X' < -1000 ∨ 1000 < X'))) :
  (if (if 60 < d.length ∨ X < -1000 ∨ 1000 < X then (Num.zero, false) else (⟨neg, d, X⟩, true) : Num × Bool).2 = true then ((if 60 < d.length ∨ X < -1000 ∨ 1000 < X then (Num.zero, false) else (⟨neg, d, X⟩, true) : Num × Bool).1, (0 : Int)) else (Num.zero, 5)) = if mayN d.length X' = true then (⟨neg, d, X'⟩, 0) else (Num.zero, 5) := by
 by_cases hq : 60 < d.length ∨ X < -1000 ∨ 1000 < X
 ·have hm : mayN d.length X' = false := by
   unfold mayN
   simp only [Bool.not_eq_false', Bool.or_eq_true, decide_eq_true_eq]
   omega
  rw [if_pos hq, hm] <;> rfl
 ·have hm : mayN d.length X' = true := by
   unfold mayN
   simp only [Bool.not_eq_true', Bool.or_eq_false_iff, decide_eq_false_iff_not]
   omega
  have e : X = X' := by omega
  subst e
  rw [if_neg hq, hm] <;> rfl

theorem numLaw (l : List UInt8) (hl : l.length ≤ 100000) : NumLaw l := by
 intro h
 obtain ⟨s1, s2, s3, s4, s5, s6⟩ := split_scan l h
 have hs := split_sound l
 have hd := split_dig l
 refine ⟨by rw [s3]; exact hd, ?_⟩
 have he : (scan l).exp = min (expo (split l).1.exp) 1000000 := by
  rw [s5]; exact exp_same _ 0 (by decide) s1
 have hbd := expo_bd _ s1
 unfold parse parseOf refNum
 rw [if_pos h, s2, s3, s4, he, s6]
 obtain ⟨-, -, hz⟩ := hs
 simp only
 rw [normal_core]
 unfold made expOf
 generalize hD : (split l).1.whole ++ (split l).1.frac = D at *
 have hDl : D.length ≤ 100000 := by rw [← hD, List.length_append]; omega
 obtain ⟨a, ha⟩ := left_eq D
 obtain ⟨b, hb⟩ := core_len D
 have hal : D.length = a + (Lib.trimLeftB D 48).length := by
  conv => lhs; rw [ha]
  simp
 have hbl : (Lib.trimLeftB D 48).length = (core D).length + b := by rw [hb]; simp
 generalize (split l).1.frac.length = fl at *
 generalize expo (split l).1.exp = ex at *
 by_cases hc : (core D).isEmpty = true
 ·rw [if_pos hc, if_pos hc]; rfl
 ·rw [if_neg hc, if_neg hc]
  have hfl : fl ≤ 100000 := by omega
  cases (split l).1.expNeg
  all_goals
   simp only [Bool.false_eq_true, if_false, if_true]
   refine made_eq _ _ _ _ ?_
   omega

end Go.Proofs.YtolkfgikomminaaGreatDoor.Nm

namespace Go.Proofs.YtolkfgikomminaaGreatDoor.Nm

theorem less_bytes : ∀ x y : List UInt8, Op.bytesLess x y = decide (Lib.compareBytes x y = -1)
 | [], [] => by decide
 | _ :: _, [] => by simp [Op.bytesLess, Lib.compareBytes]
 | [], _ :: _ => by simp [Op.bytesLess, Lib.compareBytes]
 | a :: x, b :: y => by
  have hcb : Lib.compareBytes (a :: x) (b :: y) = if a < b then -1 else if b < a then 1 else Lib.compareBytes x y := by simp only [Lib.compareBytes]
  rw [Bool.eq_iff_iff, decide_eq_true_eq, hcb, Op.bytesLess, less_bytes x y]
  by_cases h1 : a < b
  ·rw [if_pos h1]; simp [h1]
  ·rw [if_neg h1]
   by_cases h2 : b < a
   ·rw [if_pos h2]
    have hne : (a == b) = false := by
     rw [beq_eq_false_iff_ne]; rintro rfl; exact h1 h2
    simp [h1, hne]
   ·rw [if_neg h2]
    have e : a = b := UInt8.toNat_inj.1 (by simp only [UInt8.lt_iff_toNat_lt] at h1 h2; omega)
    subst e
    simp [h1]

theorem shorter_size (a b : Num) (m : Int) (ha : a.digits ≠ []) (hb : b.digits ≠ []) (da : ∀ c ∈ a.digits, dig c = true) (db : ∀ c ∈ b.digits, dig c = true) (la : a.digits.getLast? ≠ some 48) (lb : b.digits.getLast? ≠ some 48) (h1 : m ≤ a.exp) (h2 : m ≤ b.exp) :
  shorter (full a.digits (a.exp - m).toNat) (full b.digits (b.exp - m).toNat) = decide (cmpSize a b = -1) := by
 rw [Bool.eq_iff_iff, decide_eq_true_eq]
 unfold full
 rw [if_neg (by simpa using ha), if_neg (by simpa using hb)]
 unfold shorter cmpSize
 simp only [List.length_append, List.length_replicate]
 have hz := int_zero (a.digits.length + a.exp) (b.digits.length + b.exp)
 have hl := int_le (a.digits.length + a.exp) (b.digits.length + b.exp)
 have hr := int_range (a.digits.length + a.exp) (b.digits.length + b.exp)
 by_cases e : Lib.compareInt (a.digits.length + a.exp) (b.digits.length + b.exp) = 0
 ·have e' := hz.1 e
  have hlen : a.digits.length + (a.exp - m).toNat = b.digits.length + (b.exp - m).toNat := by omega
  rw [if_pos hlen, if_pos e, less_bytes, decide_eq_true_eq, pad _ _ _ _ da db la lb hlen]
 ·have hne : ¬ (a.digits.length : Int) + a.exp = b.digits.length + b.exp := fun h => e (hz.2 h)
  rw [if_neg (by omega), if_neg e]
  generalize Lib.compareInt (a.digits.length + a.exp) (b.digits.length + b.exp) = ci at *
  rw [decide_eq_true_eq]
  refine ⟨fun h => ?_, fun h => ?_⟩
  ·have := hl.2 (by omega); omega
  ·have := hl.1 (by omega); omega

theorem full_len (d : List UInt8) (n : Nat) (h : d ≠ []) : 0 < (full d n).length := by
 unfold full
 rw [if_neg (by simpa using h)]
 have : 0 < d.length := List.length_pos_iff.2 h
 simp only [List.length_append]; omega

theorem shorter_nil (y : List UInt8) (h : 0 < y.length) : shorter [] y = true ∧ shorter y [] = false := by
 unfold shorter
 simp only [List.length_nil]
 rw [if_neg (by omega), if_neg (by omega)]
 simp; omega

theorem refCmp_eq (a b : Num) (ha : May a) (hb : May b) : refCmp a b = cmp a b := by
 rcases ha with rfl | ⟨ha, da, _, la, _, _, _⟩ <;> rcases hb with rfl | ⟨hb, db, _, lb, _, _, _⟩
 ·decide
 ·have hl := fun n => shorter_nil _ (full_len b.digits n hb)
  have hf : ∀ n, full [] n = [] := fun _ => rfl
  obtain ⟨nb, d, x⟩ := b
  have hs : d.isEmpty = false := by simpa using hb
  cases nb
  ·simp only [refCmp, less, cmp, Num.zero, sign, hf, hs, hl, Lib.compareInt, if_true, if_false, Bool.false_eq_true, List.isEmpty_nil]; simp
  ·simp only [refCmp, less, cmp, Num.zero, sign, hs, Lib.compareInt, if_true, if_false, Bool.false_eq_true, List.isEmpty_nil]; simp
 ·have hl := fun n => shorter_nil _ (full_len a.digits n ha)
  have hf : ∀ n, full [] n = [] := fun _ => rfl
  obtain ⟨na, d, x⟩ := a
  have hs : d.isEmpty = false := by simpa using ha
  cases na
  ·simp only [refCmp, less, cmp, Num.zero, sign, hf, hs, hl, Lib.compareInt, if_true, if_false, Bool.false_eq_true, List.isEmpty_nil]; simp
  ·simp only [refCmp, less, cmp, Num.zero, sign, hs, Lib.compareInt, if_true, if_false, Bool.false_eq_true, List.isEmpty_nil]; simp
 ·have h1 := shorter_size a b (min a.exp b.exp) ha hb da db la lb (by omega) (by omega)
  have h2 := shorter_size b a (min a.exp b.exp) hb ha db da lb la (by omega) (by omega)
  have hm : min b.exp a.exp = min a.exp b.exp := by omega
  have hfl := size_flip a b
  have hra := size_range a b
  have hsa : a.digits.isEmpty = false := by simpa using ha
  have hsb : b.digits.isEmpty = false := by simpa using hb
  unfold refCmp less cmp sign
  rw [hm, h1, h2, hsa, hsb]
  generalize cmpSize a b = s at *
  generalize cmpSize b a = t at *
  cases a.neg <;> cases b.neg
  ·simp [Lib.compareInt]; split
   ·omega
   ·split <;> omega
  ·simp [Lib.compareInt]
  ·simp [Lib.compareInt]
  ·simp [Lib.compareInt]; split
   ·omega
   ·split <;> omega

end Go.Proofs.YtolkfgikomminaaGreatDoor.Nm


