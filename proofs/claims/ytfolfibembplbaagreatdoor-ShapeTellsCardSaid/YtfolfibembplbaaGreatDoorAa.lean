/- Plain mathematics of layer 8 (patch): operations, read out of values. -/
import Derived.Test.YtfolfibembplbaaGreatDoorJa
namespace Go.Proofs.YtfolfibembplbaaGreatDoor.Oq
open Js Pt

/-- An operation of a patch. -/
structure Opn where
  op : Nat
  path : List (List UInt8)
  src : List (List UInt8)
  v : Vl
abbrev Opn.zero : Opn := ⟨0, [], [], Ps.mkN⟩

/-- The number of an operation's name. -/
def numOf (t : List UInt8) : Nat :=
  if t = [97, 100, 100] then 1 else if t = [114, 101, 109, 111, 118, 101] then 2 else if t = [114, 101, 112, 108, 97, 99, 101] then 3
  else if t = [109, 111, 118, 101] then 4 else if t = [99, 111, 112, 121] then 5 else if t = [116, 101, 115, 116] then 6 else 0
def strOf : Vl → Option (List UInt8)
  | .mk k _ _ s _ _ => if k = 3 then some s else none
def textOf (v : Vl) (key : List UInt8) : Option (List UInt8) := (v.find key).bind strOf
def namesOf (t : List UInt8) : Option (List (List UInt8)) :=
  match Pt.parse t with
  | .ok l => some l
  | .bad _ => none
def ptrOf (v : Vl) (key : List UInt8) : Option (List (List UInt8)) := (textOf v key).bind namesOf
abbrev kOp : List UInt8 := [111, 112]
abbrev kPath : List UInt8 := [112, 97, 116, 104]
abbrev kFrom : List UInt8 := [102, 114, 111, 109]
abbrev kValue : List UInt8 := [118, 97, 108, 117, 101]
/-- What is read behind the number and the pointer. -/
def restOf (v : Vl) (op : Nat) (p : List (List UInt8)) : Option Opn :=
  if op = 4 ∨ op = 5 then (ptrOf v kFrom).map fun f => ⟨op, p, f, Ps.mkN⟩
  else if op = 2 then some ⟨op, p, [], Ps.mkN⟩
  else (v.find kValue).map fun u => ⟨op, p, [], u⟩
/-- The operation that a value is. -/
def opn (v : Vl) : Option Opn := (textOf v kOp).bind fun t => if numOf t = 0 then none else (ptrOf v kPath).bind fun p => restOf v (numOf t) p

/-- What Read tells: operations; or an error's number, and its place. -/
inductive Rd where
  | ok (l : List Opn)
  | bad (c i : Nat)
def collect : List Vl → Nat → Rd
  | [], _ => .ok []
  | v :: l, i => match opn v with
    | none => .bad 1 i
    | some o => match collect l (i + 1) with
      | .ok r => .ok (o :: r)
      | .bad c j => .bad c j
def read : Vl → Rd
  | .mk k _ _ _ l _ => if k = 4 then (if 100 < l.length then .bad 5 100 else collect l 0) else .bad 1 0
theorem read_mk (k : Int) (b : Bool) (n : Nm.Num) (s : List UInt8) (l : List Vl) (m : List Mem) : read (.mk k b n s l m) = if k = 4 then (if 100 < l.length then .bad 5 100 else collect l 0) else .bad 1 0 := rfl

theorem numOf_le (t : List UInt8) : numOf t ≤ 6 := by
  unfold numOf
  repeat' split
  all_goals omega
theorem collect_ok {l : List Vl} {r : List Opn} (i : Nat) (h : l.map opn = r.map some) : collect l i = .ok r := by
  induction l generalizing r i with
  | nil => cases r with
    | nil => rfl
    | cons o r => cases h
  | cons v l ih => cases r with
    | nil => cases h
    | cons o r =>
      simp only [List.map_cons, List.cons.injEq] at h
      unfold collect
      rw [h.1]
      simp only
      rw [ih (i + 1) h.2]
theorem collect_bad {a l : List Vl} {v : Vl} {r : List Opn} (i : Nat) (h : a.map opn = r.map some) (hv : opn v = none) : collect (a ++ v :: l) i = .bad 1 (i + a.length) := by
  induction a generalizing r i with
  | nil =>
    show collect (v :: l) i = _
    unfold collect
    rw [hv]; rfl
  | cons u a ih => cases r with
    | nil => cases h
    | cons o r =>
      simp only [List.map_cons, List.cons.injEq] at h
      show collect (u :: (a ++ v :: l)) i = _
      unfold collect
      rw [h.1]
      simp only
      rw [ih (i + 1) h.2, List.length_cons, show i + 1 + a.length = i + (a.length + 1) by omega]
theorem collect_inv {l : List Vl} {r : List Opn} {i : Nat} (h : collect l i = .ok r) : l.map opn = r.map some := by
  induction l generalizing r i with
  | nil => cases h; rfl
  | cons v l ih =>
    unfold collect at h
    cases hv : opn v with
    | none => rw [hv] at h; cases h
    | some o =>
      rw [hv] at h
      simp only at h
      cases hc : collect l (i + 1) with
      | bad c j => rw [hc] at h; cases h
      | ok q =>
        rw [hc] at h
        injection h with h
        subst h
        rw [List.map_cons, List.map_cons, hv, ih hc]
theorem collect_code {l : List Vl} {i c j : Nat} (h : collect l i = .bad c j) : c = 1 ∧ i ≤ j ∧ j < i + l.length := by
  induction l generalizing i with
  | nil => cases h
  | cons v l ih =>
    unfold collect at h
    cases hv : opn v with
    | none => rw [hv] at h; injection h with h1 h2; subst h1 h2; simp
    | some o =>
      rw [hv] at h
      simp only at h
      cases hc : collect l (i + 1) with
      | bad c' j' =>
        rw [hc] at h
        injection h with h1 h2
        subst h1 h2
        have := ih hc
        rw [List.length_cons]
        omega
      | ok q => rw [hc] at h; cases h
theorem read_code {v : Vl} {c j : Nat} (h : read v = .bad c j) : 0 < c ∧ c ≤ 14 ∧ j ≤ 100 := by
  obtain ⟨k, b, n, s, l, m⟩ := v
  rw [read_mk] at h
  split at h
  · split at h
    · injection h with h1 h2; subst h1 h2; omega
    · have := collect_code h; omega
  · injection h with h1 h2; subst h1 h2; omega
theorem read_inv {v : Vl} {r : List Opn} (h : read v = .ok r) : ∃ b n s l m, v = .mk 4 b n s l m ∧ l.length ≤ 100 ∧ l.map opn = r.map some := by
  obtain ⟨k, b, n, s, l, m⟩ := v
  rw [read_mk] at h
  split at h
  · rename_i hk
    split at h
    · cases h
    · subst hk
      exact ⟨b, n, s, l, m, rfl, by omega, collect_inv h⟩
  · cases h
theorem map_len {l : List Vl} {r : List Opn} (h : l.map opn = r.map some) : r.length = l.length := by
  have := congrArg List.length h
  simpa using this.symm
theorem read_len {v : Vl} {r : List Opn} (h : read v = .ok r) : r.length ≤ 100 := by
  obtain ⟨b, n, s, l, m, _, h1, h2⟩ := read_inv h
  rw [map_len h2]; exact h1
theorem read_ok {b : Bool} {n : Nm.Num} {s : List UInt8} {l : List Vl} {m : List Mem} {r : List Opn} (hl : l.length ≤ 100) (h : l.map opn = r.map some) : read (.mk 4 b n s l m) = .ok r := by
  rw [read_mk, if_pos rfl, if_neg (by omega), collect_ok 0 h]
theorem map_at {l : List Vl} {r : List Opn} (h : l.map opn = r.map some) {j : Nat} (hj : j < l.length) : ∃ hr : j < r.length, opn l[j] = some r[j] := by
  have hl := map_len h
  refine ⟨by omega, ?_⟩
  have := congrArg (fun q => q[j]?) h
  simpa [hj, show j < r.length by omega] using this
theorem map_take {l : List Vl} {a : List Opn} {o : Opn} {j : Nat} (hj : j < l.length) (h : (l.take j).map opn = a.map some) (ho : opn l[j] = some o) : (l.take (j + 1)).map opn = (a ++ [o]).map some := by
  rw [List.take_succ_eq_append_getElem hj, List.map_append, List.map_append, h]
  simp [ho]
theorem read_stop {b : Bool} {n : Nm.Num} {s : List UInt8} {l : List Vl} {m : List Mem} {a : List Opn} {j : Nat} (hl : l.length ≤ 100) (hj : j < l.length) (h : (l.take j).map opn = a.map some) (ho : opn l[j] = none) : read (.mk 4 b n s l m) = .bad 1 j := by
  rw [read_mk, if_pos rfl, if_neg (by omega)]
  have e : l = l.take j ++ l[j] :: l.drop (j + 1) := by rw [← List.drop_eq_getElem_cons hj, List.take_append_drop]
  have := collect_bad (l := l.drop (j + 1)) 0 h ho
  rw [← e] at this
  rw [this, List.length_take]
  congr 1
  omega

theorem size_el {l : List Vl} {u : Vl} (h : u ∈ l) : u.size ≤ sizeL l := by
  induction l with
  | nil => cases h
  | cons v l ih =>
    simp only [sizeL]
    rcases List.mem_cons.1 h with rfl | h
    · omega
    · have := ih h; omega
theorem size_mem {m : List Mem} {p : Mem} (h : p ∈ m) : p.2.size ≤ sizeM m := by
  induction m with
  | nil => cases h
  | cons q m ih =>
    obtain ⟨a, v⟩ := q
    simp only [sizeM, sizeP]
    rcases List.mem_cons.1 h with rfl | h
    · simp only; omega
    · have := ih h; omega
/-- What is fit to be read: keys rise, and nothing is too long. -/
structure Fit (v : Vl) : Prop where
  neat : Ed.neat v = true
  size : v.size ≤ 1000000
  slim : v.slim 100000
theorem fit_el {k : Int} {b : Bool} {n : Nm.Num} {s : List UInt8} {l : List Vl} {m : List Mem} (h : Fit (.mk k b n s l m)) {u : Vl} (hu : u ∈ l) : Fit u := by
  obtain ⟨h1, h2, h3⟩ := h
  refine ⟨((Ed.neat_iff _ _ _ _ _ _).1 h1).2.2.1 u hu, ?_, ?_⟩
  · have := size_el hu
    simp only [Vl.size] at h2; omega
  · simp only [Vl.slim] at h3
    exact (slimL_iff _ _).1 h3.2.2.1 u hu
theorem fit_rises {v : Vl} (h : Fit v) : ∃ k b n s l m, v = .mk k b n s l m ∧ rises (m.map (·.1)) = true := by
  obtain ⟨k, b, n, s, l, m⟩ := v
  exact ⟨k, b, n, s, l, m, rfl, ((Ed.neat_iff _ _ _ _ _ _).1 h.neat).2.2.2.2⟩
theorem find_in {v u : Vl} {key : List UInt8} (h : v.find key = some u) : ∃ b n s l m p, v = .mk 5 b n s l m ∧ p ∈ m ∧ p.2 = u := by
  obtain ⟨k, b, n, s, l, m⟩ := v
  unfold Vl.find at h
  simp only at h
  split at h
  · rename_i hk
    subst hk
    unfold Js.find at h
    obtain ⟨p, hp, rfl⟩ := Option.map_eq_some_iff.1 h
    exact ⟨b, n, s, l, m, p, rfl, List.mem_of_find?_eq_some hp, rfl⟩
  · cases h
theorem fit_find {v u : Vl} {key : List UInt8} (h : Fit v) (hu : v.find key = some u) : Fit u := by
  obtain ⟨b, n, s, l, m, p, rfl, hp, rfl⟩ := find_in hu
  obtain ⟨h1, h2, h3⟩ := h
  have hs := size_mem hp
  refine ⟨((Ed.neat_iff _ _ _ _ _ _).1 h1).2.2.2.1 p hp, by simp only [Vl.size] at h2; omega, ?_⟩
  simp only [Vl.slim] at h3
  exact ((slimM_iff _ _).1 h3.2.2.2 p hp).2
theorem text_len {v : Vl} {key t : List UInt8} (h : Fit v) (ht : textOf v key = some t) : t.length ≤ 100000 := by
  unfold textOf at ht
  cases hf : v.find key with
  | none => rw [hf] at ht; cases ht
  | some u =>
    rw [hf] at ht
    have hu := (fit_find h hf).slim
    obtain ⟨k, b, n, s, l, m⟩ := u
    simp only [Vl.slim] at hu
    simp only [Option.bind_some, strOf] at ht
    split at ht
    · injection ht with ht; subst ht; exact hu.2.1
    · cases ht
theorem names_len {t : List UInt8} {l : List (List UInt8)} (h : namesOf t = some l) : l.length ≤ t.length ∧ Pt.parse t = .ok l := by
  unfold namesOf at h
  cases hp : Pt.parse t with
  | ok r => rw [hp] at h; injection h with h; subst h; exact ⟨(parse_back hp).2, rfl⟩
  | bad p => rw [hp] at h; cases h

/-! A member more. -/
theorem find_put_ne {m : List Mem} {nm key : List UInt8} (x : Vl) (h : key ≠ nm) : Js.find (Ed.put m nm x) key = Js.find m key := by
  unfold Js.find Ed.put
  rw [List.find?_append, List.find?_cons_of_neg (by simpa using fun e => h e.symm), List.find?_filter]
  have e1 : (m.dropWhile (Ps.less nm)).find? (fun p => decide (decide (p.1 ≠ nm) = true ∧ decide (p.1 = key) = true)) = (m.dropWhile (Ps.less nm)).find? (fun p => decide (p.1 = key)) := by
    congr 1
    funext p
    by_cases hp : p.1 = key
    · simp [hp, h]
    · simp [hp]
  rw [e1, ← List.find?_append, List.takeWhile_append_dropWhile]
theorem find_more {b : Bool} {n : Nm.Num} {s : List UInt8} {l l' : List Vl} {m : List Mem} {nm key : List UInt8} (x : Vl) (h : key ≠ nm) : (Vl.mk 5 b n s l' (Ed.put m nm x)).find key = (Vl.mk 5 b n s l m).find key := by
  unfold Vl.find
  simp only [if_true]
  exact find_put_ne x h
theorem opn_more {b : Bool} {n : Nm.Num} {s : List UInt8} {l l' : List Vl} {m : List Mem} {nm : List UInt8} (x : Vl) (h1 : kOp ≠ nm) (h2 : kPath ≠ nm) (h3 : kFrom ≠ nm) (h4 : kValue ≠ nm) :
    opn (.mk 5 b n s l' (Ed.put m nm x)) = opn (.mk 5 b n s l m) := by
  unfold opn restOf ptrOf textOf
  simp only [find_more (l := l) x h1, find_more (l := l) x h2, find_more (l := l) x h3, find_more (l := l) x h4]
theorem opn_five {v : Vl} {o : Opn} (h : opn v = some o) : ∃ b n s l m, v = .mk 5 b n s l m := by
  unfold opn at h
  cases ht : textOf v kOp with
  | none => rw [ht] at h; cases h
  | some t =>
    unfold textOf at ht
    cases hf : v.find kOp with
    | none => rw [hf] at ht; cases ht
    | some u =>
      obtain ⟨b, n, s, l, m, p, rfl, _, _⟩ := find_in hf
      exact ⟨b, n, s, l, m, rfl⟩
abbrev tip : Vl := .mk 1 false Nm.Num.zero [] [] []
/-- An operation's value with a member more that means nothing. -/
def moreOf (key : List UInt8) (v : Vl) : Vl :=
  match Ed.edit 1 [122 :: key] v tip with
  | .ok u => u
  | .bad _ => Ps.mkN
theorem more_edit {v : Vl} {o : Opn} (key : List UInt8) (h : opn v = some o) : Ed.edit 1 [122 :: key] v tip = .ok (moreOf key v) ∧ opn (moreOf key v) = some o := by
  obtain ⟨b, n, s, l, m, rfl⟩ := opn_five h
  have e : Ed.edit 1 [122 :: key] (.mk 5 b n s l m) tip = .ok (.mk 5 b n s [] (Ed.put m (122 :: key) tip)) := by
    show Ed.one 1 (122 :: key) (.mk 5 b n s l m) tip = _
    rw [Ed.one_mk, if_neg (by decide), if_pos rfl, if_pos (.inl rfl), if_neg (by decide)]
  have e2 : moreOf key (.mk 5 b n s l m) = .mk 5 b n s [] (Ed.put m (122 :: key) tip) := by
    unfold moreOf; rw [e]
  rw [e2]
  refine ⟨e, ?_⟩
  rw [opn_more (l := l) tip (by simp) (by simp) (by simp) (by simp)]
  exact h
theorem slim_put {N : Nat} {m : List Mem} {nm : List UInt8} {x : Vl} (h : slimM N m) (hn : nm.length ≤ N) (hx : x.slim N) : slimM N (Ed.put m nm x) := by
  rw [slimM_iff] at h ⊢
  intro p hp
  unfold Ed.put at hp
  rcases List.mem_append.1 hp with k | k
  · exact h p ((List.takeWhile_sublist _).subset k)
  · rcases List.mem_cons.1 k with rfl | k
    · exact ⟨hn, hx⟩
    · exact h p ((List.dropWhile_sublist _).subset (List.mem_filter.1 k).1)
theorem tip_slim (N : Nat) : tip.slim N := by simp [Vl.slim, slimL, slimM, Nm.Num.zero]
theorem more_fit {v : Vl} {o : Opn} {key : List UInt8} (hk : key.length ≤ 1000) (h : opn v = some o) (hv : Fit v) (hs : v.size ≤ 999999) : Fit (moreOf key v) ∧ (moreOf key v).size ≤ v.size + 1 := by
  have he := (more_edit key h).1
  have hsz := Ed.size_edit _ hv.neat he
  have h1 : tip.size = 1 := by simp [Vl.size, sizeL, sizeM]
  refine ⟨⟨Ed.neat_edit hv.neat (.inr (by decide)) he, by omega, ?_⟩, by omega⟩
  obtain ⟨b, n, s, l, m, rfl⟩ := opn_five h
  have e2 : moreOf key (.mk 5 b n s l m) = .mk 5 b n s [] (Ed.put m (122 :: key) tip) := by
    unfold moreOf
    have e : Ed.edit 1 [122 :: key] (.mk 5 b n s l m) tip = .ok (.mk 5 b n s [] (Ed.put m (122 :: key) tip)) := by
      show Ed.one 1 (122 :: key) (.mk 5 b n s l m) tip = _
      rw [Ed.one_mk, if_neg (by decide), if_pos rfl, if_pos (.inl rfl), if_neg (by decide)]
    rw [e]
  rw [e2]
  have h3 := hv.slim
  simp only [Vl.slim] at h3 ⊢
  exact ⟨h3.1, h3.2.1, by simp [slimL], slim_put h3.2.2.2 (by simp; omega) (tip_slim _)⟩
/-- An array of values that are fit. -/
theorem fit_list {l : List Vl} (h : ∀ u ∈ l, Fit u) (hs : sizeL l ≤ 999999) : Fit (.mk 4 false Nm.Num.zero [] l []) := by
  refine ⟨(Ed.neat_iff _ _ _ _ _ _).2 ⟨fun h => absurd rfl h, fun _ => rfl, fun v hv => (h v hv).neat, (fun p hp => by cases hp), rfl⟩, ?_, ?_⟩
  · simp only [Vl.size, sizeM]; omega
  · simp only [Vl.slim, slimM]
    exact ⟨by simp [Nm.Num.zero], by simp, (slimL_iff _ _).2 fun v hv => (h v hv).slim, trivial⟩
theorem sizeL_more {l : List Vl} {r : List Opn} {key : List UInt8} (hk : key.length ≤ 1000) (h : l.map opn = r.map some) (hf : ∀ u ∈ l, Fit u ∧ u.size ≤ 999999) : sizeL (l.map (moreOf key)) ≤ sizeL l + l.length := by
  induction l generalizing r with
  | nil => simp
  | cons v l ih => cases r with
    | nil => cases h
    | cons o r =>
      simp only [List.map_cons, List.cons.injEq] at h
      have h1 := (more_fit hk h.1 (hf v (by simp)).1 (hf v (by simp)).2).2
      have h2 := ih h.2 (fun u hu => hf u (by simp [hu]))
      simp only [List.map_cons, sizeL, List.length_cons]
      omega
theorem map_more {l : List Vl} {r : List Opn} (key : List UInt8) (h : l.map opn = r.map some) : (l.map (moreOf key)).map opn = r.map some := by
  induction l generalizing r with
  | nil => exact h
  | cons v l ih => cases r with
    | nil => cases h
    | cons o r =>
      simp only [List.map_cons, List.cons.injEq] at h
      simp only [List.map_cons, (more_edit key h.1).2, ih h.2]

end Go.Proofs.YtfolfibembplbaaGreatDoor.Oq

