/- Ja: Ja Jr, in one text. -/
import Derived.Test.YtccacjkogdmleaaDoorPp
import Derived.Test.YtccacjkogdmleaaDoorMc
/- Ja: Ja Jb Jc, in one text. -/
/- Plain mathematics of layer 7 (edit): a value with one change at a pointer. -/
namespace Go.Proofs.YtccacjkogdmleaaDoor.Ed
open Js Pt
open Ps (less ins rises_iff find_isSome take_less drop_more ins_rises)

/-- What comes of a change: a value, or an error's number. -/
inductive Ch where
  | ok (v : Vl)
  | bad (c : Nat)

def put (m : List Mem) (nm : List UInt8) (x : Vl) : List Mem := m.takeWhile (less nm) ++ (nm, x) :: (m.dropWhile (less nm)).filter fun p => decide (p.1 ≠ nm)
def del (m : List Mem) (nm : List UInt8) : List Mem := m.filter fun p => decide (p.1 ≠ nm)
def upd (m : List Mem) (nm : List UInt8) (z : Vl) : List Mem := m.map fun p => if p.1 = nm then (p.1, z) else p

/-- A change of the list of an array, at place i. -/
def inL (op : Nat) (l : List Vl) (i : Nat) (x : Vl) : List Vl := if op = 1 then l.take i ++ x :: l.drop i else if op = 2 then l.eraseIdx i else l.set i x
/-- A change by one name: add (1), remove (2), replace (3). -/
def one (op : Nat) (nm : List UInt8) : Vl → Vl → Ch
  | .mk k b n s l m, x =>
    if k = 4 then (if (index nm l.length (decide (op = 1))).2 = true then .ok (.mk k b n s (inL op l (index nm l.length (decide (op = 1))).1 x) []) else .bad 6)
    else if k = 5 then (if op = 1 ∨ (Js.find m nm).isSome = true then .ok (.mk k b n s [] (if op = 2 then del m nm else put m nm x)) else .bad 6)
    else .bad 6
/-- A change below one name. -/
def under (nm : List UInt8) (f : Vl → Ch) : Vl → Ch
  | .mk k b n s l m =>
    if k = 4 then (match (if (index nm l.length false).2 = true then l[(index nm l.length false).1]? else none) with
      | some y => (match f y with | .ok z => .ok (.mk k b n s (l.set (index nm l.length false).1 z) []) | .bad c => .bad c)
      | none => .bad 6)
    else if k = 5 then (match Js.find m nm with
      | some y => (match f y with | .ok z => .ok (.mk k b n s [] (upd m nm z)) | .bad c => .bad c)
      | none => .bad 6)
    else .bad 6
def edit (op : Nat) : List (List UInt8) → Vl → Vl → Ch
  | [], _, x => if op = 2 then .bad 7 else .ok x
  | [nm], v, x => one op nm v x
  | nm :: ns, v, x => under nm (fun y => edit op ns y x) v

/-- What one name means in a value. -/
def kid : Vl → List UInt8 → Option Vl
  | .mk k b n s l m, nm => if k = 4 then (if (index nm l.length false).2 = true then l[(index nm l.length false).1]? else none) else (Vl.mk k b n s l m).find nm
theorem kid_mk (k : Int) (b : Bool) (n : Nm.Num) (s : List UInt8) (l : List Vl) (m : List Mem) (nm : List UInt8) :
    kid (.mk k b n s l m) nm = if k = 4 then (if (index nm l.length false).2 = true then l[(index nm l.length false).1]? else none) else (Vl.mk k b n s l m).find nm := rfl
theorem under_mk (nm : List UInt8) (f : Vl → Ch) (k : Int) (b : Bool) (n : Nm.Num) (s : List UInt8) (l : List Vl) (m : List Mem) : under nm f (.mk k b n s l m) =
    if k = 4 then (match (if (index nm l.length false).2 = true then l[(index nm l.length false).1]? else none) with
      | some y => (match f y with | .ok z => .ok (.mk k b n s (l.set (index nm l.length false).1 z) []) | .bad c => .bad c)
      | none => .bad 6)
    else if k = 5 then (match Js.find m nm with
      | some y => (match f y with | .ok z => .ok (.mk k b n s [] (upd m nm z)) | .bad c => .bad c)
      | none => .bad 6)
    else .bad 6 := rfl
theorem edit_more (op : Nat) (nm : List UInt8) {ns : List (List UInt8)} (h : ns ≠ []) (v x : Vl) : edit op (nm :: ns) v x = under nm (fun y => edit op ns y x) v := by
  cases ns with
  | nil => exact absurd rfl h
  | cons a r => rfl
theorem get_kid (v : Vl) (nm : List UInt8) (ns : List (List UInt8)) : get v (nm :: ns) = (kid v nm).bind fun y => get y ns := by
  obtain ⟨k, b, n, s, l, m⟩ := v
  rw [kid_mk]
  show (if k = 4 then
      (match l[(index nm l.length false).1]? with
      | some x => if (index nm l.length false).2 = true then get x ns else none
      | none => none)
    else match (Vl.mk k b n s l m).find nm with
      | some x => get x ns
      | none => none) = _
  by_cases hk : k = 4
  · rw [if_pos hk, if_pos hk]
    by_cases hi : (index nm l.length false).2 = true
    · rw [if_pos hi]
      cases l[(index nm l.length false).1]? with
      | none => rfl
      | some x => simp only; rw [if_pos hi]; rfl
    · rw [if_neg hi]
      cases l[(index nm l.length false).1]? with
      | none => rfl
      | some x => simp only; rw [if_neg hi]; rfl
  · rw [if_neg hk, if_neg hk]
    cases (Vl.mk k b n s l m).find nm <;> rfl

/-! Values whose parts are only their own, and whose keys rise. -/
mutual
def neat : Vl → Bool
  | .mk k _ _ _ l m => (decide (k = 4) || l.isEmpty) && (decide (k = 5) || m.isEmpty) && neatL l && (neatM m && rises (m.map (·.1)))
def neatL : List Vl → Bool
  | [] => true
  | v :: l => neat v && neatL l
def neatM : List Mem → Bool
  | [] => true
  | p :: m => neatP p && neatM m
def neatP : Mem → Bool
  | (_, v) => neat v
end
theorem neatL_iff (l : List Vl) : neatL l = true ↔ ∀ v ∈ l, neat v = true := by
  induction l with
  | nil => simp [neatL]
  | cons v l ih => simp [neatL, ih]
theorem neatM_iff (m : List Mem) : neatM m = true ↔ ∀ p ∈ m, neat p.2 = true := by
  induction m with
  | nil => simp [neatM]
  | cons p m ih => obtain ⟨k, v⟩ := p; simp [neatM, neatP, ih]
theorem neat_iff (k : Int) (b : Bool) (n : Nm.Num) (s : List UInt8) (l : List Vl) (m : List Mem) :
    neat (.mk k b n s l m) = true ↔ (¬ k = 4 → l = []) ∧ (¬ k = 5 → m = []) ∧ (∀ v ∈ l, neat v = true) ∧ (∀ p ∈ m, neat p.2 = true) ∧ rises (m.map (·.1)) = true := by
  simp only [neat, Bool.and_eq_true, Bool.or_eq_true, decide_eq_true_eq, List.isEmpty_iff, neatL_iff, neatM_iff]
  constructor
  · rintro ⟨⟨⟨h1, h2⟩, h3⟩, h4, h5⟩
    exact ⟨fun h => h1.resolve_left h, fun h => h2.resolve_left h, h3, h4, h5⟩
  · rintro ⟨h1, h2, h3, h4, h5⟩
    exact ⟨⟨⟨by by_cases h : k = 4 <;> simp [h]; exact h1 h, by by_cases h : k = 5 <;> simp [h]; exact h2 h⟩, h3⟩, h4, h5⟩
theorem neat_may (v : Vl) (h : v.may = true) : neat v = true := by
  induction v using Vl.ind with
  | h k b n s l m hl hm =>
    obtain ⟨_, _, _, _, _, h4, h5, _, _, hL, hM, hr⟩ := may_own h
    refine (neat_iff _ _ _ _ _ _).2 ⟨h4, h5, fun v hv => hl v hv ((mayL_iff l).1 hL v hv), fun p hp => hm p hp ((mayM_iff m).1 hM p hp).2, hr⟩

/-! Members whose keys rise. -/
theorem put_ins {m : List Mem} {nm : List UInt8} {x : Vl} (h : ∀ p ∈ m, p.1 ≠ nm) : put m nm x = ins m nm x := by
  unfold put ins
  congr 2
  refine List.filter_eq_self.2 fun p hp => ?_
  simpa using h p ((List.dropWhile_sublist _).subset hp)
theorem ne_of_less {a b : List UInt8} (h : Lib.compareBytes a b = -1) : a ≠ b := by
  rintro rfl
  rw [Nm.bytes_self] at h
  omega
/-- Members, parted at one that is there. -/
theorem part {m : List Mem} {nm : List UInt8} {y : Vl} (hr : rises (m.map (·.1)) = true) (h : Js.find m nm = some y) :
    ∃ a c, m = a ++ (nm, y) :: c ∧ (∀ p ∈ a, Lib.compareBytes p.1 nm = -1) ∧ (∀ p ∈ c, Lib.compareBytes nm p.1 = -1) := by
  unfold Js.find at h
  obtain ⟨p, hp, rfl⟩ := Option.map_eq_some_iff.1 h
  have hk : p.1 = nm := by have := List.find?_some hp; simpa using this
  obtain ⟨a, c, rfl⟩ := List.append_of_mem (List.mem_of_find?_eq_some hp)
  refine ⟨a, c, by rw [← hk], ?_⟩
  rw [rises_iff, List.map_append, List.map_cons, List.pairwise_append] at hr
  obtain ⟨_, h2, h3⟩ := hr
  rw [List.pairwise_cons] at h2
  exact ⟨fun q hq => by rw [← hk]; exact h3 _ (List.mem_map_of_mem hq) _ (by simp), fun q hq => by rw [← hk]; exact h2.1 _ (List.mem_map_of_mem hq)⟩
theorem less_self (nm : List UInt8) (y : Vl) : less nm (nm, y) = false := by
  unfold less
  rw [decide_eq_false_iff_not]
  intro h
  exact ne_of_less h rfl
theorem tw_part {a c : List Mem} {nm : List UInt8} {y : Vl} (ha : ∀ p ∈ a, Lib.compareBytes p.1 nm = -1) : (a ++ (nm, y) :: c).takeWhile (less nm) = a ∧ (a ++ (nm, y) :: c).dropWhile (less nm) = (nm, y) :: c := by
  have h1 : ∀ p ∈ a, less nm p = true := fun p hp => by unfold less; simpa using ha p hp
  refine ⟨?_, ?_⟩
  · rw [List.takeWhile_append_of_pos h1, List.takeWhile_cons, less_self]; simp
  · rw [List.dropWhile_append_of_pos h1, List.dropWhile_cons, less_self]; simp
theorem filter_gt {c : List Mem} {nm : List UInt8} (hc : ∀ p ∈ c, Lib.compareBytes nm p.1 = -1) : c.filter (fun p => decide (p.1 ≠ nm)) = c :=
  List.filter_eq_self.2 fun p hp => by have := ne_of_less (hc p hp); simpa using fun e => this e.symm
theorem filter_lt {a : List Mem} {nm : List UInt8} (ha : ∀ p ∈ a, Lib.compareBytes p.1 nm = -1) : a.filter (fun p => decide (p.1 ≠ nm)) = a :=
  List.filter_eq_self.2 fun p hp => by have := ne_of_less (ha p hp); simpa using this
theorem put_part {a c : List Mem} {nm : List UInt8} {y : Vl} (x : Vl) (ha : ∀ p ∈ a, Lib.compareBytes p.1 nm = -1) (hc : ∀ p ∈ c, Lib.compareBytes nm p.1 = -1) : put (a ++ (nm, y) :: c) nm x = a ++ (nm, x) :: c := by
  unfold put
  rw [(tw_part ha).1, (tw_part ha).2, List.filter_cons_of_neg (by simp), filter_gt hc]
theorem del_part {a c : List Mem} {nm : List UInt8} {y : Vl} (ha : ∀ p ∈ a, Lib.compareBytes p.1 nm = -1) (hc : ∀ p ∈ c, Lib.compareBytes nm p.1 = -1) : del (a ++ (nm, y) :: c) nm = a ++ c := by
  unfold del
  rw [List.filter_append, filter_lt ha, List.filter_cons_of_neg (by simp), filter_gt hc]
theorem upd_part {a c : List Mem} {nm : List UInt8} {y : Vl} (x : Vl) (ha : ∀ p ∈ a, Lib.compareBytes p.1 nm = -1) (hc : ∀ p ∈ c, Lib.compareBytes nm p.1 = -1) : upd (a ++ (nm, y) :: c) nm x = a ++ (nm, x) :: c := by
  unfold upd
  rw [List.map_append, List.map_cons, if_pos rfl]
  congr 1
  · conv => rhs; rw [← List.map_id a]
    exact List.map_congr_left fun p hp => by rw [if_neg (ne_of_less (ha p hp))]; rfl
  · congr 1
    conv => rhs; rw [← List.map_id c]
    exact List.map_congr_left fun p hp => by rw [if_neg (fun e => ne_of_less (hc p hp) e.symm)]; rfl
theorem find_part {a c : List Mem} {nm : List UInt8} (x : Vl) (ha : ∀ p ∈ a, Lib.compareBytes p.1 nm = -1) : Js.find (a ++ (nm, x) :: c) nm = some x := by
  unfold Js.find
  rw [List.find?_append, List.find?_eq_none.2 (fun p hp => by simpa using ne_of_less (ha p hp))]
  simp
/-- Members, parted where one would stand. -/
theorem part_none {m : List Mem} {nm : List UInt8} (hr : rises (m.map (·.1)) = true) (h : Js.find m nm = none) :
    ∃ a c, m = a ++ c ∧ (∀ p ∈ a, Lib.compareBytes p.1 nm = -1) ∧ (∀ p ∈ c, Lib.compareBytes nm p.1 = -1) ∧ ∀ x, put m nm x = a ++ (nm, x) :: c := by
  have hn : ∀ p ∈ m, p.1 ≠ nm := find_isSome (by rw [h]; simp)
  refine ⟨m.takeWhile (less nm), m.dropWhile (less nm), List.takeWhile_append_dropWhile.symm, fun p hp => take_less hp, fun p hp => drop_more hr hn hp, fun x => ?_⟩
  rw [put_ins hn]; rfl
theorem find_put {m : List Mem} {nm : List UInt8} (x : Vl) (hr : rises (m.map (·.1)) = true) : Js.find (put m nm x) nm = some x := by
  cases h : Js.find m nm with
  | some y =>
    obtain ⟨a, c, rfl, ha, hc⟩ := part hr h
    rw [put_part x ha hc, find_part x ha]
  | none =>
    obtain ⟨a, c, _, ha, hc, hp⟩ := part_none hr h
    rw [hp x, find_part x ha]
theorem del_put {m : List Mem} {nm : List UInt8} (x : Vl) (hr : rises (m.map (·.1)) = true) (h : Js.find m nm = none) : del (put m nm x) nm = m := by
  obtain ⟨a, c, e, ha, hc, hp⟩ := part_none hr h
  rw [hp x, del_part ha hc, e]
theorem put_del {m : List Mem} {nm : List UInt8} {y : Vl} (hr : rises (m.map (·.1)) = true) (h : Js.find m nm = some y) : Js.find (del m nm) nm = none ∧ put (del m nm) nm y = m := by
  obtain ⟨a, c, rfl, ha, hc⟩ := part hr h
  have hd : del (a ++ (nm, y) :: c) nm = a ++ c := del_part ha hc
  have hn : ∀ p ∈ a ++ c, p.1 ≠ nm := fun p hp => (List.mem_append.1 hp).elim (fun h => ne_of_less (ha p h)) (fun h e => ne_of_less (hc p h) e.symm)
  rw [hd]
  refine ⟨find_none hn, ?_⟩
  rw [put_ins hn]
  unfold ins
  have h1 : ∀ p ∈ a, less nm p = true := fun p hp => by unfold less; simpa using ha p hp
  have h2 : ∀ p ∈ c, less nm p = false := fun p hp => by
    unfold less
    rw [decide_eq_false_iff_not]
    intro h
    have := less_trans h (hc p hp)
    exact ne_of_less this rfl
  rw [List.takeWhile_append_of_pos h1, List.dropWhile_append_of_pos h1]
  cases c with
  | nil => simp
  | cons q c => rw [List.takeWhile_cons, List.dropWhile_cons, h2 q (by simp)]; simp
theorem rises_part {a c : List Mem} {nm : List UInt8} {y : Vl} (x : Vl) (h : rises ((a ++ (nm, y) :: c).map (·.1)) = true) : rises ((a ++ (nm, x) :: c).map (·.1)) = true := by
  simpa using h
theorem rises_put {m : List Mem} {nm : List UInt8} (x : Vl) (hr : rises (m.map (·.1)) = true) : rises ((put m nm x).map (·.1)) = true := by
  cases h : Js.find m nm with
  | some y =>
    obtain ⟨a, c, rfl, ha, hc⟩ := part hr h
    rw [put_part x ha hc]; exact rises_part x hr
  | none =>
    have hn : ∀ p ∈ m, p.1 ≠ nm := find_isSome (by rw [h]; simp)
    rw [put_ins hn]; exact ins_rises x hr hn
theorem rises_sub {m m' : List Mem} (h : m'.Sublist m) (hr : rises (m.map (·.1)) = true) : rises (m'.map (·.1)) = true := by
  rw [rises_iff] at hr ⊢
  exact hr.sublist (h.map _)
theorem keys_upd (m : List Mem) (nm : List UInt8) (z : Vl) : (upd m nm z).map (·.1) = m.map (·.1) := by
  unfold upd
  rw [List.map_map]
  exact List.map_congr_left fun p _ => by
    show (if p.1 = nm then (p.1, z) else p).1 = p.1
    split <;> rfl

end Go.Proofs.YtccacjkogdmleaaDoor.Ed

/- Plain mathematics of layer 7 (edit), second part: a change is there, and can be taken back. -/
namespace Go.Proofs.YtccacjkogdmleaaDoor.Ed
open Js Pt

/-- A value with another one below a name. -/
def setKid : Vl → List UInt8 → Vl → Vl
  | .mk k b n s l m, nm, z => if k = 4 then .mk k b n s (l.set (index nm l.length false).1 z) [] else .mk k b n s [] (upd m nm z)
theorem setKid_mk (k : Int) (b : Bool) (n : Nm.Num) (s : List UInt8) (l : List Vl) (m : List Mem) (nm : List UInt8) (z : Vl) :
    setKid (.mk k b n s l m) nm z = if k = 4 then .mk k b n s (l.set (index nm l.length false).1 z) [] else .mk k b n s [] (upd m nm z) := rfl
theorem find_five {k : Int} {b : Bool} {n : Nm.Num} {s : List UInt8} {l : List Vl} {m : List Mem} {nm : List UInt8} : (Vl.mk k b n s l m).find nm = if k = 5 then Js.find m nm else none := rfl
theorem under_kid (nm : List UInt8) (f : Vl → Ch) (v : Vl) : under nm f v = match kid v nm with
    | some y => (match f y with | .ok z => .ok (setKid v nm z) | .bad c => .bad c)
    | none => .bad 6 := by
  obtain ⟨k, b, n, s, l, m⟩ := v
  rw [under_mk, kid_mk, find_five]
  by_cases hk : k = 4
  · rw [if_pos hk, if_pos hk]
    cases (if (index nm l.length false).2 = true then l[(index nm l.length false).1]? else none) with
    | none => rfl
    | some y =>
      simp only
      cases f y with
      | bad c => rfl
      | ok z => simp only [setKid_mk, if_pos hk]
  · rw [if_neg hk, if_neg hk]
    by_cases h5 : k = 5
    · rw [if_pos h5, if_pos h5]
      cases Js.find m nm with
      | none => rfl
      | some y =>
        simp only
        cases f y with
        | bad c => rfl
        | ok z => simp only [setKid_mk, if_neg hk]
    · rw [if_neg h5, if_neg h5]
theorem kid_neat {v y : Vl} {nm : List UInt8} (hv : neat v = true) (h : kid v nm = some y) : neat y = true := by
  obtain ⟨k, b, n, s, l, m⟩ := v
  obtain ⟨_, _, hl, hm, _⟩ := (neat_iff _ _ _ _ _ _).1 hv
  rw [kid_mk, find_five] at h
  split at h
  · split at h
    · exact hl _ (List.mem_of_getElem? h)
    · cases h
  · split at h
    · unfold Js.find at h
      obtain ⟨p, hp, rfl⟩ := Option.map_eq_some_iff.1 h
      exact hm p (List.mem_of_find?_eq_some hp)
    · cases h
theorem setKid_kid {v y : Vl} {nm : List UInt8} (z : Vl) (hv : neat v = true) (h : kid v nm = some y) : kid (setKid v nm z) nm = some z := by
  obtain ⟨k, b, n, s, l, m⟩ := v
  obtain ⟨_, _, _, _, hr⟩ := (neat_iff _ _ _ _ _ _).1 hv
  rw [kid_mk, find_five] at h
  by_cases hk : k = 4
  · rw [if_pos hk] at h
    split at h
    · rename_i hi
      rw [setKid_mk, if_pos hk, kid_mk, if_pos hk, List.length_set, if_pos hi, List.getElem?_set_self (List.getElem?_eq_some_iff.1 h).1]
    · cases h
  · rw [if_neg hk] at h
    split at h
    · rename_i h5
      obtain ⟨a, c, rfl, ha, hc⟩ := part hr h
      rw [setKid_mk, if_neg hk, kid_mk, if_neg hk, find_five, if_pos h5, upd_part z ha hc, find_part z ha]
    · cases h
theorem setKid_two {v y : Vl} {nm : List UInt8} (z z' : Vl) (hv : neat v = true) (h : kid v nm = some y) : setKid (setKid v nm z) nm z' = setKid v nm z' := by
  obtain ⟨k, b, n, s, l, m⟩ := v
  obtain ⟨_, _, _, _, hr⟩ := (neat_iff _ _ _ _ _ _).1 hv
  rw [kid_mk, find_five] at h
  by_cases hk : k = 4
  · rw [setKid_mk, if_pos hk, setKid_mk, if_pos hk, List.length_set, List.set_set, setKid_mk, if_pos hk]
  · rw [if_neg hk] at h
    split at h
    · obtain ⟨a, c, rfl, ha, hc⟩ := part hr h
      rw [setKid_mk, if_neg hk, setKid_mk, if_neg hk, setKid_mk, if_neg hk, upd_part z ha hc, upd_part z' ha hc, upd_part z' ha hc]
    · cases h
theorem setKid_same {v y : Vl} {nm : List UInt8} (hv : neat v = true) (h : kid v nm = some y) : setKid v nm y = v := by
  obtain ⟨k, b, n, s, l, m⟩ := v
  obtain ⟨h4, h5, _, _, hr⟩ := (neat_iff _ _ _ _ _ _).1 hv
  rw [kid_mk, find_five] at h
  by_cases hk : k = 4
  · rw [if_pos hk] at h
    split at h
    · rw [setKid_mk, if_pos hk, h5 (by omega)]
      obtain ⟨hi, hg⟩ := List.getElem?_eq_some_iff.1 h
      rw [← hg, List.set_getElem_self]
    · cases h
  · rw [if_neg hk] at h
    split at h
    · obtain ⟨a, c, rfl, ha, hc⟩ := part hr h
      rw [setKid_mk, if_neg hk, upd_part y ha hc, h4 hk]
    · cases h
theorem neat_setKid {v y z : Vl} {nm : List UInt8} (hv : neat v = true) (hz : neat z = true) (h : kid v nm = some y) : neat (setKid v nm z) = true := by
  obtain ⟨k, b, n, s, l, m⟩ := v
  obtain ⟨h4, h5, hl, hm, hr⟩ := (neat_iff _ _ _ _ _ _).1 hv
  by_cases hk : k = 4
  · rw [setKid_mk, if_pos hk]
    refine (neat_iff _ _ _ _ _ _).2 ⟨fun h => absurd hk h, fun _ => rfl, fun u hu => ?_, (fun p hp => by cases hp), rfl⟩
    rcases List.mem_or_eq_of_mem_set hu with h | rfl
    · exact hl u h
    · exact hz
  · rw [setKid_mk, if_neg hk]
    refine (neat_iff _ _ _ _ _ _).2 ⟨fun _ => rfl, fun h => ?_, (fun u hu => by cases hu), fun p hp => ?_, by rw [keys_upd]; exact hr⟩
    · rw [h5 h]; rfl
    · obtain ⟨q, hq, rfl⟩ := List.mem_map.1 hp
      by_cases hn : q.1 = nm
      · rw [if_pos hn]; exact hz
      · rw [if_neg hn]; exact hm q hq

/-- A change at the end of names. -/
def modify : List (List UInt8) → (Vl → Ch) → Vl → Ch
  | [], f, v => f v
  | nm :: ns, f, v => under nm (modify ns f) v
theorem edit_modify (op : Nat) (init : List (List UInt8)) (nm : List UInt8) (x : Vl) : ∀ v, edit op (init ++ [nm]) v x = modify init (fun up => one op nm up x) v := by
  induction init with
  | nil => intro v; rfl
  | cons a r ih =>
    intro v
    rw [List.cons_append, edit_more op a (by simp), modify]
    congr 1
    exact funext ih
theorem get_append (a b : List (List UInt8)) : ∀ v, get v (a ++ b) = (get v a).bind fun y => get y b := by
  induction a with
  | nil => intro v; cases v; rfl
  | cons nm a ih =>
    intro v
    rw [List.cons_append, get_kid, get_kid, Option.bind_assoc]
    congr 1
    exact funext ih
theorem get_nil (v : Vl) : get v [] = some v := by cases v; rfl
theorem get_one (v : Vl) (nm : List UInt8) : get v [nm] = kid v nm := by
  rw [get_kid]
  cases kid v nm with
  | none => rfl
  | some y => exact get_nil y
theorem modify_none (f : Vl → Ch) (init : List (List UInt8)) : ∀ v, get v init = none → modify init f v = .bad 6 := by
  induction init with
  | nil => intro v h; rw [get_nil] at h; cases h
  | cons nm ns ih =>
    intro v h
    rw [get_kid] at h
    rw [modify, under_kid]
    cases hk : kid v nm with
    | none => rfl
    | some y =>
      rw [hk] at h
      simp only
      rw [ih y h]
theorem modify_ok (f : Vl → Ch) (init : List (List UInt8)) : ∀ v u, neat v = true → modify init f v = .ok u →
    ∃ up w, get v init = some up ∧ neat up = true ∧ f up = .ok w ∧ get u init = some w ∧ (neat w = true → neat u = true) ∧ ∀ g, modify init g u = modify init (fun _ => g w) v := by
  induction init with
  | nil =>
    intro v u hv h
    exact ⟨v, u, get_nil v, hv, h, get_nil u, id, fun g => rfl⟩
  | cons nm ns ih =>
    intro v u hv h
    rw [modify, under_kid] at h
    cases hk : kid v nm with
    | none => rw [hk] at h; cases h
    | some y =>
      rw [hk] at h
      simp only at h
      cases hy : modify ns f y with
      | bad c => rw [hy] at h; cases h
      | ok z =>
        rw [hy] at h
        injection h with h
        subst h
        have hny := kid_neat hv hk
        obtain ⟨up, w, h1, h2, h3, h4, h5, h6⟩ := ih y z hny hy
        have hkz := setKid_kid z hv hk
        refine ⟨up, w, by rw [get_kid, hk]; exact h1, h2, h3, by rw [get_kid, hkz]; exact h4, fun hw => neat_setKid hv (h5 hw) hk, fun g => ?_⟩
        rw [modify, under_kid, hkz, modify, under_kid, hk]
        simp only
        rw [h6 g]
        cases modify ns (fun _ => g w) y with
        | bad c => rfl
        | ok z' => simp only [setKid_two z z' hv hk]
theorem modify_some (init : List (List UInt8)) : ∀ v up w, get v init = some up → (f : Vl → Ch) → f up = .ok w → ∃ u, modify init f v = .ok u := by
  induction init with
  | nil => intro v up w h f hf; rw [get_nil] at h; injection h with h; subst h; exact ⟨w, hf⟩
  | cons nm ns ih =>
    intro v up w h f hf
    rw [get_kid] at h
    cases hk : kid v nm with
    | none => rw [hk] at h; cases h
    | some y =>
      rw [hk] at h
      obtain ⟨z, hz⟩ := ih y up w h f hf
      refine ⟨setKid v nm z, ?_⟩
      rw [modify, under_kid, hk]
      simp only
      rw [hz]
theorem modify_bad (init : List (List UInt8)) : ∀ v up c, get v init = some up → (f : Vl → Ch) → f up = .bad c → modify init f v = .bad c := by
  induction init with
  | nil => intro v up c h f hf; rw [get_nil] at h; injection h with h; subst h; exact hf
  | cons nm ns ih =>
    intro v up c h f hf
    rw [get_kid] at h
    cases hk : kid v nm with
    | none => rw [hk] at h; cases h
    | some y =>
      rw [hk] at h
      rw [modify, under_kid, hk]
      simp only
      rw [ih y up c h f hf]
theorem modify_back (init : List (List UInt8)) : ∀ v up, neat v = true → get v init = some up → modify init (fun _ => .ok up) v = .ok v := by
  induction init with
  | nil => intro v up _ h; rw [get_nil] at h; injection h with h; subst h; rfl
  | cons nm ns ih =>
    intro v up hv h
    rw [get_kid] at h
    cases hk : kid v nm with
    | none => rw [hk] at h; cases h
    | some y =>
      rw [hk] at h
      rw [modify, under_kid, hk]
      simp only
      rw [ih y up (kid_neat hv hk) h]
      simp only [setKid_same hv hk]

end Go.Proofs.YtccacjkogdmleaaDoor.Ed

/- Plain mathematics of layer 7 (edit), third part: one name; what the stage's own law says. -/
namespace Go.Proofs.YtccacjkogdmleaaDoor.Ed
open Js Pt
open Ps (sizeM_append sizeL_append)

def kindOf : Vl → Int
  | .mk k _ _ _ _ _ => k
def listOf : Vl → List Vl
  | .mk _ _ _ _ l _ => l

/-! Names as places. -/
def good (nm : List UInt8) : Prop := ¬ (nm = [] ∨ ¬ (nm.all Nm.dig = true) ∨ (1 < nm.length ∧ nm.head? = some 48) ∨ 18 < nm.length)
theorem good_dash : ¬ good [45] := fun h => h (.inr (.inl (by decide)))
theorem index_num {nm : List UInt8} {n : Nat} {e : Bool} (h : ¬ (e = true ∧ nm = [45])) (hg : good nm) : index nm n e = if Nm.val nm < n ∨ (Nm.val nm = n ∧ e = true) then (Nm.val nm, true) else (0, false) := by
  unfold index
  rw [if_neg h, if_neg hg]
theorem index_true {nm : List UInt8} {n : Nat} {e : Bool} (h : (index nm n e).2 = true) : (e = true ∧ nm = [45] ∧ (index nm n e).1 = n) ∨ (nm ≠ [45] ∧ good nm ∧ (index nm n e).1 = Nm.val nm ∧ (Nm.val nm < n ∨ (Nm.val nm = n ∧ e = true))) := by
  by_cases h0 : e = true ∧ nm = [45]
  · exact .inl ⟨h0.1, h0.2, by unfold index; rw [if_pos h0]⟩
  · by_cases hg : good nm
    · rw [index_num h0 hg] at h ⊢
      split at h
      · rename_i hv
        refine .inr ⟨fun e => by rw [e] at hg; exact good_dash hg, hg, by rw [if_pos hv], hv⟩
      · cases h
    · unfold index at h
      rw [if_neg h0, if_pos (Classical.not_not.1 hg)] at h
      cases h
theorem index_at_num {nm : List UInt8} {n : Nat} (hg : good nm) (h : Nm.val nm < n) (e : Bool) : index nm n e = (Nm.val nm, true) := by
  rw [index_num (fun h => by rw [h.2] at hg; exact good_dash hg) hg, if_pos (.inl h)]
theorem index_end_num {nm : List UInt8} {n : Nat} (hg : good nm) (h : Nm.val nm ≤ n) : index nm n true = (Nm.val nm, true) := by
  rw [index_num (fun h => by rw [h.2] at hg; exact good_dash hg) hg, if_pos (by rcases Nat.lt_or_eq_of_le h with h | h; exact .inl h; exact .inr ⟨h, rfl⟩)]
theorem dec_len (k : Nat) : ∀ u, u < 10 ^ (k + 1) → (Lib.decDigits u).length ≤ k + 1 := by
  induction k with
  | zero => intro u h; rw [Lib.decDigits, dif_pos (by simpa using h)]; simp
  | succ k ih =>
    intro u h
    rw [Lib.decDigits]
    split
    · simp
    · rw [List.length_append]
      have := ih (u / 10) (by rw [Nat.div_lt_iff_lt_mul (by omega), ← Nat.pow_succ]; exact h)
      simp; omega
theorem dec_good (u : Nat) (h : u ≤ 1000000) : good (Lib.decDigits u) := by
  rintro (h1 | h1 | ⟨h1, h2⟩ | h1)
  · exact Nm.dec_ne u h1
  · exact h1 (List.all_eq_true.2 (Nm.dec_dig u))
  · by_cases h0 : u = 0
    · subst h0
      rw [Lib.decDigits, dif_pos (by decide)] at h1
      simp at h1
    · exact Nm.dec_head u h0 h2
  · have := dec_len 6 u (by omega)
    omega
def fixName (up : Vl) (nm : List UInt8) : List UInt8 := if kindOf up = 4 ∧ nm = [45] then Lib.decDigits (listOf up).length else nm

theorem one_mk (op : Nat) (nm : List UInt8) (k : Int) (b : Bool) (n : Nm.Num) (s : List UInt8) (l : List Vl) (m : List Mem) (x : Vl) : one op nm (.mk k b n s l m) x =
    if k = 4 then (if (index nm l.length (decide (op = 1))).2 = true then .ok (.mk k b n s (inL op l (index nm l.length (decide (op = 1))).1 x) []) else .bad 6)
    else if k = 5 then (if op = 1 ∨ (Js.find m nm).isSome = true then .ok (.mk k b n s [] (if op = 2 then del m nm else put m nm x)) else .bad 6)
    else .bad 6 := rfl
theorem erase_ins (l : List Vl) (i : Nat) (x : Vl) (h : i ≤ l.length) : (l.take i ++ x :: l.drop i).eraseIdx i = l := by
  rw [List.eraseIdx_append_of_length_le (by rw [List.length_take]; omega), List.length_take, Nat.min_eq_left h, Nat.sub_self]
  simp
theorem ins_erase (l : List Vl) (i : Nat) (h : i < l.length) : (l.eraseIdx i).take i ++ l[i] :: (l.eraseIdx i).drop i = l := by
  rw [List.eraseIdx_eq_take_drop_succ]
  have h1 : (l.take i).length = i := by rw [List.length_take]; omega
  rw [List.take_append_of_le_length (by omega), List.take_of_length_le (by omega), List.drop_append_of_le_length (by omega), List.drop_of_length_le (by omega)]
  rw [List.nil_append, ← List.drop_eq_getElem_cons h, List.take_append_drop]
theorem neat_inL {op : Nat} {l : List Vl} {i : Nat} {x : Vl} (hl : ∀ v ∈ l, neat v = true) (hx : op = 2 ∨ neat x = true) : ∀ v ∈ inL op l i x, neat v = true := by
  intro v hv
  unfold inL at hv
  split at hv
  · rename_i h1
    have hx := hx.resolve_left (by omega)
    rcases List.mem_append.1 hv with h | h
    · exact hl v (List.mem_of_mem_take h)
    · rcases List.mem_cons.1 h with rfl | h
      · exact hx
      · exact hl v (List.mem_of_mem_drop h)
  · split at hv
    · exact hl v (List.mem_of_mem_eraseIdx hv)
    · rename_i h2
      rcases List.mem_or_eq_of_mem_set hv with h | rfl
      · exact hl v h
      · exact hx.resolve_left h2
theorem neat_put {m : List Mem} {nm : List UInt8} {x : Vl} (hm : ∀ p ∈ m, neat p.2 = true) (hx : neat x = true) : ∀ p ∈ put m nm x, neat p.2 = true := by
  intro p hp
  unfold put at hp
  rcases List.mem_append.1 hp with h | h
  · exact hm p ((List.takeWhile_sublist _).subset h)
  · rcases List.mem_cons.1 h with rfl | h
    · exact hx
    · exact hm p ((List.dropWhile_sublist _).subset (List.filter_sublist.subset h))
theorem neat_one {op : Nat} {nm : List UInt8} {v x u : Vl} (hv : neat v = true) (hx : op = 2 ∨ neat x = true) (h : one op nm v x = .ok u) : neat u = true := by
  obtain ⟨k, b, n, s, l, m⟩ := v
  obtain ⟨h4, h5, hl, hm, hr⟩ := (neat_iff _ _ _ _ _ _).1 hv
  rw [one_mk] at h
  split at h
  · rename_i hk
    split at h
    · injection h with h
      subst h
      exact (neat_iff _ _ _ _ _ _).2 ⟨fun h => absurd hk h, fun _ => rfl, neat_inL hl hx, (fun p hp => by cases hp), rfl⟩
    · cases h
  · split at h
    · rename_i hk hk5
      split at h
      · injection h with h
        subst h
        refine (neat_iff _ _ _ _ _ _).2 ⟨fun _ => rfl, fun h => absurd hk5 h, (fun p hp => by cases hp), ?_, ?_⟩
        · split
          · exact fun p hp => hm p (List.filter_sublist.subset hp)
          · rename_i h2
            exact neat_put hm (hx.resolve_left h2)
        · split
          · exact rises_sub List.filter_sublist hr
          · exact rises_put x hr
      · cases h
    · cases h

theorem rep_one {nm : List UInt8} {v x u : Vl} (hv : neat v = true) (h : one 3 nm v x = .ok u) : kid u nm = some x := by
  obtain ⟨k, b, n, s, l, m⟩ := v
  obtain ⟨h4, h5, hl, hm, hr⟩ := (neat_iff _ _ _ _ _ _).1 hv
  rw [one_mk] at h
  split at h
  · rename_i hk
    split at h
    · rename_i hi
      injection h with h
      subst h
      have hlt : (index nm l.length false).1 < l.length := index_lt (nm := nm) (n := l.length) (by rw [← hi]; rfl)
      have hL : inL 3 l (index nm l.length (decide (3 = 1))).1 x = l.set (index nm l.length false).1 x := by unfold inL; rw [if_neg (by decide), if_neg (by decide)]; rfl
      rw [hL, kid_mk, if_pos hk, List.length_set, if_pos (by exact hi)]
      exact List.getElem?_set_self hlt
    · cases h
  · split at h
    · rename_i hk hk5
      split at h
      · injection h with h
        subst h
        rw [kid_mk, if_neg hk, find_five, if_pos hk5]
        exact find_put x hr
      · cases h
    · cases h
theorem add_one {nm : List UInt8} {v x u : Vl} (hv : neat v = true) (hlen : (listOf v).length ≤ 1000000) (h : one 1 nm v x = .ok u) :
    kid u (fixName v nm) = some x ∧ ((kindOf v = 4 ∨ kid v nm = none) → ∀ y, one 2 (fixName v nm) u y = .ok v) := by
  obtain ⟨k, b, n, s, l, m⟩ := v
  obtain ⟨h4, h5, hl, hm, hr⟩ := (neat_iff _ _ _ _ _ _).1 hv
  unfold fixName kindOf listOf
  simp only
  unfold listOf at hlen
  simp only at hlen
  rw [one_mk] at h
  split at h
  · rename_i hk
    split at h
    · rename_i hi
      injection h with h
      subst h
      have hw := index_true hi
      rw [show decide ((1 : Nat) = 1) = true from rfl] at hw ⊢
      obtain ⟨i, hii⟩ : ∃ i, (index nm l.length true).1 = i := ⟨_, rfl⟩
      rw [hii] at hw ⊢
      have hile : i ≤ l.length := by rcases hw with ⟨_, _, rfl⟩ | ⟨_, _, h, h2⟩ <;> omega
      have hL : inL 1 l i x = l.take i ++ x :: l.drop i := if_pos rfl
      have hLl : (inL 1 l i x).length = l.length + 1 := by rw [hL]; simp; omega
      have hfx : index (if k = 4 ∧ nm = [45] then Lib.decDigits l.length else nm) (l.length + 1) false = (i, true) := by
        rcases hw with ⟨_, h1, h2⟩ | ⟨h1, h2, h3, _⟩
        · rw [if_pos ⟨hk, h1⟩, index_at_num (dec_good _ hlen) (by rw [Nm.val_dec]; omega), Nm.val_dec, h2]
        · rw [if_neg (fun h => h1 h.2), index_at_num h2 (by omega), h3]
      refine ⟨?_, fun _ y => ?_⟩
      · rw [kid_mk, if_pos hk, hLl, hfx]
        simp only [if_true]
        rw [hL, List.getElem?_append_right (by rw [List.length_take]; omega), List.length_take, Nat.min_eq_left hile, Nat.sub_self]; rfl
      · rw [one_mk, if_pos hk, hLl, show decide ((2 : Nat) = 1) = false from rfl, hfx]
        simp only [if_true]
        unfold inL
        rw [if_pos rfl, if_neg (by decide), if_pos rfl, erase_ins l i x hile, h5 (by omega)]
    · cases h
  · split at h
    · rename_i hk hk5
      rw [if_pos (.inl rfl)] at h
      injection h with h
      subst h
      rw [if_neg (show ¬ (1 : Nat) = 2 by decide), if_neg (show ¬ (k = 4 ∧ nm = [45]) from fun h => hk h.1)]
      refine ⟨by rw [kid_mk, if_neg hk, find_five, if_pos hk5]; exact find_put x hr, fun hc y => ?_⟩
      have hf : Js.find m nm = none := by
        have := hc.resolve_left hk
        rwa [kid_mk, if_neg hk, find_five, if_pos hk5] at this
      rw [one_mk, if_neg hk, if_pos hk5, if_pos (.inr (by rw [find_put x hr]; rfl)), if_pos rfl, del_put x hr hf, h4 hk]
    · cases h
theorem rem_one {nm : List UInt8} {v x u : Vl} (hv : neat v = true) (h : one 2 nm v x = .ok u) : ∃ y, kid v nm = some y ∧ one 1 nm u y = .ok v := by
  obtain ⟨k, b, n, s, l, m⟩ := v
  obtain ⟨h4, h5, hl, hm, hr⟩ := (neat_iff _ _ _ _ _ _).1 hv
  rw [one_mk] at h
  split at h
  · rename_i hk
    split at h
    · rename_i hi
      injection h with h
      subst h
      rw [show decide ((2 : Nat) = 1) = false from rfl] at hi ⊢
      have hlt : (index nm l.length false).1 < l.length := index_lt (nm := nm) (n := l.length) (by rw [← hi])
      have hw := (index_true hi).resolve_left (fun h => by cases h.1)
      obtain ⟨h1, h2, h3, h6⟩ := hw
      rw [h3] at hlt ⊢
      refine ⟨l[Nm.val nm], by rw [kid_mk, if_pos hk, if_pos hi, h3, List.getElem?_eq_getElem hlt], ?_⟩
      have hL : inL 2 l (Nm.val nm) x = l.eraseIdx (Nm.val nm) := by unfold inL; rw [if_neg (by decide), if_pos rfl]
      rw [one_mk, if_pos hk, hL, show decide ((1 : Nat) = 1) = true from rfl, index_end_num h2 (by rw [List.length_eraseIdx]; split <;> omega)]
      simp only [if_true]
      unfold inL
      rw [if_pos rfl, ins_erase l _ hlt, h5 (by omega)]
    · cases h
  · split at h
    · rename_i hk hk5
      split at h
      · rename_i hf
        injection h with h
        subst h
        have hf := hf.resolve_left (by decide)
        obtain ⟨y, hy⟩ := Option.isSome_iff_exists.1 hf
        obtain ⟨h1, h2⟩ := put_del hr hy
        refine ⟨y, by rw [kid_mk, if_neg hk, find_five, if_pos hk5, hy], ?_⟩
        rw [if_pos rfl, one_mk, if_neg hk, if_pos hk5, if_pos (.inl rfl), if_neg (by decide), h2, h4 hk]
      · cases h
    · cases h
theorem rem_some {nm : List UInt8} {v y : Vl} (x : Vl) (h : kid v nm = some y) : ∃ u, one 2 nm v x = .ok u := by
  obtain ⟨k, b, n, s, l, m⟩ := v
  rw [kid_mk, find_five] at h
  rw [one_mk]
  by_cases hk : k = 4
  · rw [if_pos hk] at h ⊢
    split at h
    · rename_i hi
      exact ⟨_, if_pos hi⟩
    · cases h
  · rw [if_neg hk] at h ⊢
    split at h
    · rename_i hk5
      exact ⟨_, by rw [if_pos hk5, if_pos (.inr (by rw [h]; rfl))]⟩
    · cases h

/-! What the stage's own law says. -/
theorem back_replace {l : List (List UInt8)} {v x u : Vl} (hv : neat v = true) (h : edit 3 l v x = .ok u) : get u l = some x := by
  rcases List.eq_nil_or_concat l with rfl | ⟨init, nm, rfl⟩
  · injection h with h; subst h; exact get_nil _
  · rw [List.concat_eq_append] at h ⊢
    rw [edit_modify] at h
    obtain ⟨up, w, h1, h2, h3, h4, _, _⟩ := modify_ok _ _ _ _ hv h
    rw [get_append, h4]
    show get w [nm] = _
    rw [get_one]; exact rep_one h2 h3
theorem back_add {init : List (List UInt8)} {nm : List UInt8} {v x u : Vl} (hv : neat v = true) (hlen : ∀ up, get v init = some up → (listOf up).length ≤ 1000000) (h : edit 1 (init ++ [nm]) v x = .ok u) :
    ∃ up, get v init = some up ∧ get u (init ++ [fixName up nm]) = some x ∧ ((kindOf up = 4 ∨ get v (init ++ [nm]) = none) → ∀ y, edit 2 (init ++ [fixName up nm]) u y = .ok v) := by
  rw [edit_modify] at h
  obtain ⟨up, w, h1, h2, h3, h4, _, h6⟩ := modify_ok _ _ _ _ hv h
  obtain ⟨k1, k2⟩ := add_one h2 (hlen up h1) h3
  refine ⟨up, h1, ?_, fun hc y => ?_⟩
  · rw [get_append, h4]
    show get w [fixName up nm] = _
    rw [get_one]; exact k1
  · have hc2 : kindOf up = 4 ∨ kid up nm = none := by
      rcases hc with h | h
      · exact .inl h
      · rw [get_append, h1] at h
        exact .inr (by rw [← get_one]; exact h)
    rw [edit_modify, h6]
    simp only [k2 hc2 y]
    exact modify_back init v up hv h1
theorem back_remove {l : List (List UInt8)} {v x u : Vl} (hv : neat v = true) (h : edit 2 l v x = .ok u) : l ≠ [] ∧ ∃ y, get v l = some y ∧ edit 1 l u y = .ok v := by
  rcases List.eq_nil_or_concat l with rfl | ⟨init, nm, rfl⟩
  · cases h
  · rw [List.concat_eq_append] at h ⊢
    rw [edit_modify] at h
    obtain ⟨up, w, h1, h2, h3, h4, _, h6⟩ := modify_ok _ _ _ _ hv h
    obtain ⟨y, k1, k2⟩ := rem_one h2 h3
    refine ⟨by simp, y, ?_, ?_⟩
    · rw [get_append, h1]
      show get up [nm] = _
      rw [get_one]; exact k1
    · rw [edit_modify, h6]
      simp only [k2]
      exact modify_back init v up hv h1
theorem back_there {l : List (List UInt8)} {v y : Vl} (x : Vl) (hl : l ≠ []) (h : get v l = some y) : ∃ u, edit 2 l v x = .ok u := by
  rcases List.eq_nil_or_concat l with rfl | ⟨init, nm, rfl⟩
  · exact absurd rfl hl
  · rw [List.concat_eq_append] at h ⊢
    rw [get_append] at h
    cases hg : get v init with
    | none => rw [hg] at h; cases h
    | some up =>
      rw [hg] at h
      have h' : get up [nm] = some y := h
      rw [get_one] at h'
      obtain ⟨w, hw⟩ := rem_some x h'
      rw [edit_modify]
      exact modify_some init v up w hg _ hw
theorem neat_edit {op : Nat} {l : List (List UInt8)} {v x u : Vl} (hv : neat v = true) (hx : op = 2 ∨ neat x = true) (h : edit op l v x = .ok u) : neat u = true := by
  rcases List.eq_nil_or_concat l with rfl | ⟨init, nm, rfl⟩
  · rw [edit] at h
    split at h
    · cases h
    · rename_i h2; injection h with h; subst h; exact hx.resolve_left h2
  · rw [List.concat_eq_append, edit_modify] at h
    obtain ⟨up, w, h1, h2, h3, h4, h5, _⟩ := modify_ok _ _ _ _ hv h
    exact h5 (neat_one h2 hx h3)

end Go.Proofs.YtccacjkogdmleaaDoor.Ed

/- Layer 7 (edit): how great what comes of an edit is. -/
namespace Go.Proofs.YtccacjkogdmleaaDoor.Ed
open Js Pt
open Ps (less)

theorem sizeL_append (a b : List Vl) : sizeL (a ++ b) = sizeL a + sizeL b := by
  induction a with
  | nil => simp [sizeL]
  | cons v a ih => simp only [List.cons_append, sizeL, ih]; omega
theorem sizeM_append (a b : List Mem) : sizeM (a ++ b) = sizeM a + sizeM b := by
  induction a with
  | nil => simp [sizeM]
  | cons v a ih => simp only [List.cons_append, sizeM, ih]; omega
theorem sizeL_set (l : List Vl) (i : Nat) (z : Vl) (h : i < l.length) : sizeL (l.set i z) + l[i].size = sizeL l + z.size := by
  induction l generalizing i with
  | nil => simp at h
  | cons v l ih =>
    cases i with
    | zero => simp only [List.set_cons_zero, sizeL, List.getElem_cons_zero]; omega
    | succ i =>
      have := ih i (by simpa using h)
      simp only [List.set_cons_succ, sizeL, List.getElem_cons_succ]; omega
theorem sizeL_set_le (l : List Vl) (i : Nat) (z : Vl) : sizeL (l.set i z) ≤ sizeL l + z.size := by
  by_cases h : i < l.length
  · have := sizeL_set l i z h; omega
  · rw [List.set_eq_of_length_le (by omega)]; omega
theorem sizeL_erase (l : List Vl) (i : Nat) : sizeL (l.eraseIdx i) ≤ sizeL l := by
  induction l generalizing i with
  | nil => simp
  | cons v l ih =>
    cases i with
    | zero => simp only [List.eraseIdx_cons_zero, sizeL]; omega
    | succ i => have := ih i; simp only [List.eraseIdx_cons_succ, sizeL]; omega
theorem sizeM_filter (m : List Mem) (q : Mem → Bool) : sizeM (m.filter q) ≤ sizeM m := by
  induction m with
  | nil => simp
  | cons p m ih =>
    rw [List.filter_cons]
    split
    · simp only [sizeM]; omega
    · simp only [sizeM]; omega
theorem sizeM_put (m : List Mem) (nm : List UInt8) (x : Vl) : sizeM (put m nm x) ≤ sizeM m + x.size := by
  have h1 : sizeM m = sizeM (m.takeWhile (less nm)) + sizeM (m.dropWhile (less nm)) := by rw [← sizeM_append, List.takeWhile_append_dropWhile]
  unfold put
  rw [sizeM_append]
  have h2 : sizeM ((nm, x) :: (m.dropWhile (less nm)).filter fun p => decide (p.1 ≠ nm)) ≤ x.size + sizeM (m.dropWhile (less nm)) := by
    simp only [sizeM, sizeP]
    exact Nat.add_le_add_left (sizeM_filter _ _) _
  exact Nat.le_trans (Nat.add_le_add_left h2 _) (by omega)
theorem size_inL (op : Nat) (l : List Vl) (i : Nat) (x : Vl) : sizeL (inL op l i x) ≤ sizeL l + x.size := by
  unfold inL
  split
  · have h1 : sizeL l = sizeL (l.take i) + sizeL (l.drop i) := by rw [← sizeL_append, List.take_append_drop]
    rw [sizeL_append]; simp only [sizeL]; omega
  · split
    · have := sizeL_erase l i; omega
    · exact sizeL_set_le l i x
theorem size_one {op : Nat} {nm : List UInt8} {v x u : Vl} (h : one op nm v x = .ok u) : u.size ≤ v.size + x.size := by
  obtain ⟨k, b, n, s, l, m⟩ := v
  rw [one_mk] at h
  split at h
  · split at h
    · injection h with h; subst h
      have := size_inL op l (index nm l.length (decide (op = 1))).1 x
      simp only [Vl.size, sizeM]; omega
    · cases h
  · split at h
    · split at h
      · injection h with h; subst h
        have h2 : sizeM (if op = 2 then del m nm else put m nm x) ≤ sizeM m + x.size := by
          split
          · exact Nat.le_trans (sizeM_filter _ _) (Nat.le_add_right _ _)
          · exact sizeM_put m nm x
        simp only [Vl.size, sizeL]; omega
      · cases h
    · cases h
theorem size_setKid {v y z : Vl} {nm : List UInt8} (hv : neat v = true) (h : kid v nm = some y) : (setKid v nm z).size + y.size ≤ v.size + z.size := by
  obtain ⟨k, b, n, s, l, m⟩ := v
  obtain ⟨_, _, _, _, hr⟩ := (neat_iff _ _ _ _ _ _).1 hv
  rw [kid_mk, find_five] at h
  rw [setKid_mk]
  split at h
  · rename_i hk
    rw [if_pos hk]
    split at h
    · obtain ⟨hi, rfl⟩ := List.getElem?_eq_some_iff.1 h
      have := sizeL_set l _ z hi
      simp only [Vl.size, sizeM]; omega
    · cases h
  · rename_i hk
    rw [if_neg hk]
    split at h
    · obtain ⟨a, c, rfl, ha, hc⟩ := part hr h
      rw [upd_part z ha hc]
      simp only [Vl.size, sizeM_append, sizeM, sizeP, sizeL]; omega
    · cases h
theorem size_edit {op : Nat} (ns : List (List UInt8)) {x : Vl} : ∀ {v u : Vl}, neat v = true → edit op ns v x = .ok u → u.size ≤ v.size + x.size := by
  induction ns with
  | nil =>
    intro v u _ h
    unfold edit at h
    split at h
    · cases h
    · injection h with h; subst h; omega
  | cons nm ns ih =>
    intro v u hv h
    cases ns with
    | nil => exact size_one h
    | cons a r =>
      rw [edit_more op nm (by simp), under_kid] at h
      cases hk : kid v nm with
      | none => rw [hk] at h; cases h
      | some y =>
        rw [hk] at h
        simp only at h
        cases he : edit op (a :: r) y x with
        | bad c => rw [he] at h; cases h
        | ok z =>
          rw [he] at h
          injection h with h; subst h
          have h1 := ih (kid_neat hv hk) he
          have h2 := size_setKid (z := z) hv hk
          omega

end Go.Proofs.YtccacjkogdmleaaDoor.Ed


