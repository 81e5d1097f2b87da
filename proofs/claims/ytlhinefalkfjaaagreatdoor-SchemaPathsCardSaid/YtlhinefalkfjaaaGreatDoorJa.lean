/- Ja: Ja Jr, in one text. -/
import Derived.Test.YtlhinefalkfjaaaGreatDoorPp
import Derived.Test.YtlhinefalkfjaaaGreatDoorMc
namespace Go.Proofs.YtlhinefalkfjaaaGreatDoor.Ed
open Js Pt
open Ps (less ins rises_iff find_isSome take_less drop_more ins_rises)

inductive Ch where
  | ok (v : Vl)
  | bad (c : Nat)

def put (m : List Mem) (nm : List UInt8) (x : Vl) : List Mem := m.takeWhile (less nm) ++ (nm, x) :: (m.dropWhile (less nm)).filter fun p => decide (p.1 ≠ nm)
def del (m : List Mem) (nm : List UInt8) : List Mem := m.filter fun p => decide (p.1 ≠ nm)
def upd (m : List Mem) (nm : List UInt8) (z : Vl) : List Mem := m.map fun p => if p.1 = nm then (p.1, z) else p

def inL (op : Nat) (l : List Vl) (i : Nat) (x : Vl) : List Vl := if op = 1 then l.take i ++ x :: l.drop i else if op = 2 then l.eraseIdx i else l.set i x
def one (op : Nat) (nm : List UInt8) : Vl → Vl → Ch
  | .mk k b n s l m, x =>
    if k = 4 then (if (index nm l.length (decide (op = 1))).2 = true then .ok (.mk k b n s (inL op l (index nm l.length (decide (op = 1))).1 x) []) else .bad 6)
    else if k = 5 then (if op = 1 ∨ (Js.find m nm).isSome = true then .ok (.mk k b n s [] (if op = 2 then del m nm else put m nm x)) else .bad 6)
    else .bad 6
def under (nm : List UInt8) (f : Vl → Ch) : Vl → Ch
  | .mk k b n s l m =>
    if k = 4 then (match (if (index nm l.length false).2 = true then l[(index nm l.length false).1]? else none) with
      | some y => (match f y with | .ok z => .ok (.mk k b n s (l.set (index nm l.length false).1 z) []) | .bad c => .bad c)
      | none => .bad 6)
    else if k = 5 then (match Js.find m nm with
      | some y => (match f y with | .ok z => .ok (.mk k b n s [] (upd m nm z)) | .bad c => .bad c)
      | none => .bad 6)
    else .bad 6
def kid : Vl → List UInt8 → Option Vl
  | .mk k b n s l m, nm => if k = 4 then (if (index nm l.length false).2 = true then l[(index nm l.length false).1]? else none) else (Vl.mk k b n s l m).find nm
theorem kid_mk (k : Int) (b : Bool) (n : Nm.Num) (s : List UInt8) (l : List Vl) (m : List Mem) (nm : List UInt8) :
    kid (.mk k b n s l m) nm = if k = 4 then (if (index nm l.length false).2 = true then l[(index nm l.length false).1]? else none) else (Vl.mk k b n s l m).find nm := rfl
theorem get_kid (v : Vl) (nm : List UInt8) (ns : List (List UInt8)) : get v (nm :: ns) = (kid v nm).bind fun y => get y ns := by
  obtain ⟨k, b, n, s, l, m⟩ := v
  rw [kid_mk]
  show (if k = 4 then
      (match l[(index nm l.length false).1]? with
      | some x => if (index nm l.length false).2 = true then get x ns else none
      | none => none)
    else match (Vl.mk k b n s l m).find nm with
      | some x => get x ns
      | none => none) = _
  by_cases hk : k = 4
  · rw [if_pos hk, if_pos hk]
    by_cases hi : (index nm l.length false).2 = true
    · rw [if_pos hi]
      cases l[(index nm l.length false).1]? with
      | none => rfl
      | some x => simp only; rw [if_pos hi]; rfl
    · rw [if_neg hi]
      cases l[(index nm l.length false).1]? with
      | none => rfl
      | some x => simp only; rw [if_neg hi]; rfl
  · rw [if_neg hk, if_neg hk]
    cases (Vl.mk k b n s l m).find nm <;> rfl

mutual
def neat : Vl → Bool
  | .mk k _ _ _ l m => (decide (k = 4) || l.isEmpty) && (decide (k = 5) || m.isEmpty) && neatL l && (neatM m && rises (m.map (·.1)))
def neatL : List Vl → Bool
  | [] => true
  | v :: l => neat v && neatL l
def neatM : List Mem → Bool
  | [] => true
  | p :: m => neatP p && neatM m
def neatP : Mem → Bool
  | (_, v) => neat v
end
theorem neatL_iff (l : List Vl) : neatL l = true ↔ ∀ v ∈ l, neat v = true := by
  induction l with
  | nil => simp [neatL]
  | cons v l ih => simp [neatL, ih]
theorem neatM_iff (m : List Mem) : neatM m = true ↔ ∀ p ∈ m, neat p.2 = true := by
  induction m with
  | nil => simp [neatM]
  | cons p m ih => obtain ⟨k, v⟩ := p; simp [neatM, neatP, ih]
theorem neat_iff (k : Int) (b : Bool) (n : Nm.Num) (s : List UInt8) (l : List Vl) (m : List Mem) :
    neat (.mk k b n s l m) = true ↔ (¬ k = 4 → l = []) ∧ (¬ k = 5 → m = []) ∧ (∀ v ∈ l, neat v = true) ∧ (∀ p ∈ m, neat p.2 = true) ∧ rises (m.map (·.1)) = true := by
  simp only [neat, Bool.and_eq_true, Bool.or_eq_true, decide_eq_true_eq, List.isEmpty_iff, neatL_iff, neatM_iff]
  constructor
  · rintro ⟨⟨⟨h1, h2⟩, h3⟩, h4, h5⟩
    exact ⟨fun h => h1.resolve_left h, fun h => h2.resolve_left h, h3, h4, h5⟩
  · rintro ⟨h1, h2, h3, h4, h5⟩
    exact ⟨⟨⟨by by_cases h : k = 4 <;> simp [h]; exact h1 h, by by_cases h : k = 5 <;> simp [h]; exact h2 h⟩, h3⟩, h4, h5⟩
theorem put_ins {m : List Mem} {nm : List UInt8} {x : Vl} (h : ∀ p ∈ m, p.1 ≠ nm) : put m nm x = ins m nm x := by
  unfold put ins
  congr 2
  refine List.filter_eq_self.2 fun p hp => ?_
  simpa using h p ((List.dropWhile_sublist _).subset hp)
theorem ne_of_less {a b : List UInt8} (h : Lib.compareBytes a b = -1) : a ≠ b := by
  rintro rfl
  rw [Nm.bytes_self] at h
  omega
theorem part {m : List Mem} {nm : List UInt8} {y : Vl} (hr : rises (m.map (·.1)) = true) (h : Js.find m nm = some y) :
    ∃ a c, m = a ++ (nm, y) :: c ∧ (∀ p ∈ a, Lib.compareBytes p.1 nm = -1) ∧ (∀ p ∈ c, Lib.compareBytes nm p.1 = -1) := by
  unfold Js.find at h
  obtain ⟨p, hp, rfl⟩ := Option.map_eq_some_iff.1 h
  have hk : p.1 = nm := by have := List.find?_some hp; simpa using this
  obtain ⟨a, c, rfl⟩ := List.append_of_mem (List.mem_of_find?_eq_some hp)
  refine ⟨a, c, by rw [← hk], ?_⟩
  rw [rises_iff, List.map_append, List.map_cons, List.pairwise_append] at hr
  obtain ⟨_, h2, h3⟩ := hr
  rw [List.pairwise_cons] at h2
  exact ⟨fun q hq => by rw [← hk]; exact h3 _ (List.mem_map_of_mem hq) _ (by simp), fun q hq => by rw [← hk]; exact h2.1 _ (List.mem_map_of_mem hq)⟩
theorem less_self (nm : List UInt8) (y : Vl) : less nm (nm, y) = false := by
  unfold less
  rw [decide_eq_false_iff_not]
  intro h
  exact ne_of_less h rfl
theorem tw_part {a c : List Mem} {nm : List UInt8} {y : Vl} (ha : ∀ p ∈ a, Lib.compareBytes p.1 nm = -1) : (a ++ (nm, y) :: c).takeWhile (less nm) = a ∧ (a ++ (nm, y) :: c).dropWhile (less nm) = (nm, y) :: c := by
  have h1 : ∀ p ∈ a, less nm p = true := fun p hp => by unfold less; simpa using ha p hp
  refine ⟨?_, ?_⟩
  · rw [List.takeWhile_append_of_pos h1, List.takeWhile_cons, less_self]; simp
  · rw [List.dropWhile_append_of_pos h1, List.dropWhile_cons, less_self]; simp
theorem filter_gt {c : List Mem} {nm : List UInt8} (hc : ∀ p ∈ c, Lib.compareBytes nm p.1 = -1) : c.filter (fun p => decide (p.1 ≠ nm)) = c :=
  List.filter_eq_self.2 fun p hp => by have := ne_of_less (hc p hp); simpa using fun e => this e.symm
theorem put_part {a c : List Mem} {nm : List UInt8} {y : Vl} (x : Vl) (ha : ∀ p ∈ a, Lib.compareBytes p.1 nm = -1) (hc : ∀ p ∈ c, Lib.compareBytes nm p.1 = -1) : put (a ++ (nm, y) :: c) nm x = a ++ (nm, x) :: c := by
  unfold put
  rw [(tw_part ha).1, (tw_part ha).2, List.filter_cons_of_neg (by simp), filter_gt hc]
theorem find_part {a c : List Mem} {nm : List UInt8} (x : Vl) (ha : ∀ p ∈ a, Lib.compareBytes p.1 nm = -1) : Js.find (a ++ (nm, x) :: c) nm = some x := by
  unfold Js.find
  rw [List.find?_append, List.find?_eq_none.2 (fun p hp => by simpa using ne_of_less (ha p hp))]
  simp
theorem part_none {m : List Mem} {nm : List UInt8} (hr : rises (m.map (·.1)) = true) (h : Js.find m nm = none) :
    ∃ a c, m = a ++ c ∧ (∀ p ∈ a, Lib.compareBytes p.1 nm = -1) ∧ (∀ p ∈ c, Lib.compareBytes nm p.1 = -1) ∧ ∀ x, put m nm x = a ++ (nm, x) :: c := by
  have hn : ∀ p ∈ m, p.1 ≠ nm := find_isSome (by rw [h]; simp)
  refine ⟨m.takeWhile (less nm), m.dropWhile (less nm), List.takeWhile_append_dropWhile.symm, fun p hp => take_less hp, fun p hp => drop_more hr hn hp, fun x => ?_⟩
  rw [put_ins hn]; rfl
theorem find_put {m : List Mem} {nm : List UInt8} (x : Vl) (hr : rises (m.map (·.1)) = true) : Js.find (put m nm x) nm = some x := by
  cases h : Js.find m nm with
  | some y =>
    obtain ⟨a, c, rfl, ha, hc⟩ := part hr h
    rw [put_part x ha hc, find_part x ha]
  | none =>
    obtain ⟨a, c, _, ha, hc, hp⟩ := part_none hr h
    rw [hp x, find_part x ha]
end Go.Proofs.YtlhinefalkfjaaaGreatDoor.Ed

namespace Go.Proofs.YtlhinefalkfjaaaGreatDoor.Ed
open Js Pt
theorem find_five {k : Int} {b : Bool} {n : Nm.Num} {s : List UInt8} {l : List Vl} {m : List Mem} {nm : List UInt8} : (Vl.mk k b n s l m).find nm = if k = 5 then Js.find m nm else none := rfl
def modify : List (List UInt8) → (Vl → Ch) → Vl → Ch
  | [], f, v => f v
  | nm :: ns, f, v => under nm (modify ns f) v
end Go.Proofs.YtlhinefalkfjaaaGreatDoor.Ed

namespace Go.Proofs.YtlhinefalkfjaaaGreatDoor.Ed
open Js Pt
open Ps (sizeM_append sizeL_append)

def kindOf : Vl → Int
  | .mk k _ _ _ _ _ => k
def good (nm : List UInt8) : Prop := ¬ (nm = [] ∨ ¬ (nm.all Nm.dig = true) ∨ (1 < nm.length ∧ nm.head? = some 48) ∨ 18 < nm.length)
theorem good_dash : ¬ good [45] := fun h => h (.inr (.inl (by decide)))
theorem index_num {nm : List UInt8} {n : Nat} {e : Bool} (h : ¬ (e = true ∧ nm = [45])) (hg : good nm) : index nm n e = if Nm.val nm < n ∨ (Nm.val nm = n ∧ e = true) then (Nm.val nm, true) else (0, false) := by
  unfold index
  rw [if_neg h, if_neg hg]
theorem index_true {nm : List UInt8} {n : Nat} {e : Bool} (h : (index nm n e).2 = true) : (e = true ∧ nm = [45] ∧ (index nm n e).1 = n) ∨ (nm ≠ [45] ∧ good nm ∧ (index nm n e).1 = Nm.val nm ∧ (Nm.val nm < n ∨ (Nm.val nm = n ∧ e = true))) := by
  by_cases h0 : e = true ∧ nm = [45]
  · exact .inl ⟨h0.1, h0.2, by unfold index; rw [if_pos h0]⟩
  · by_cases hg : good nm
    · rw [index_num h0 hg] at h ⊢
      split at h
      · rename_i hv
        refine .inr ⟨fun e => by rw [e] at hg; exact good_dash hg, hg, by rw [if_pos hv], hv⟩
      · cases h
    · unfold index at h
      rw [if_neg h0, if_pos (Classical.not_not.1 hg)] at h
      cases h
theorem index_at_num {nm : List UInt8} {n : Nat} (hg : good nm) (h : Nm.val nm < n) (e : Bool) : index nm n e = (Nm.val nm, true) := by
  rw [index_num (fun h => by rw [h.2] at hg; exact good_dash hg) hg, if_pos (.inl h)]
theorem dec_len (k : Nat) : ∀ u, u < 10 ^ (k + 1) → (Lib.decDigits u).length ≤ k + 1 := by
  induction k with
  | zero => intro u h; rw [Lib.decDigits, dif_pos (by simpa using h)]; simp
  | succ k ih =>
    intro u h
    rw [Lib.decDigits]
    split
    · simp
    · rw [List.length_append]
      have := ih (u / 10) (by rw [Nat.div_lt_iff_lt_mul (by omega), ← Nat.pow_succ]; exact h)
      simp; omega
theorem dec_good (u : Nat) (h : u ≤ 1000000) : good (Lib.decDigits u) := by
  rintro (h1 | h1 | ⟨h1, h2⟩ | h1)
  · exact Nm.dec_ne u h1
  · exact h1 (List.all_eq_true.2 (Nm.dec_dig u))
  · by_cases h0 : u = 0
    · subst h0
      rw [Lib.decDigits, dif_pos (by decide)] at h1
      simp at h1
    · exact Nm.dec_head u h0 h2
  · have := dec_len 6 u (by omega)
    omega
theorem one_mk (op : Nat) (nm : List UInt8) (k : Int) (b : Bool) (n : Nm.Num) (s : List UInt8) (l : List Vl) (m : List Mem) (x : Vl) : one op nm (.mk k b n s l m) x =
    if k = 4 then (if (index nm l.length (decide (op = 1))).2 = true then .ok (.mk k b n s (inL op l (index nm l.length (decide (op = 1))).1 x) []) else .bad 6)
    else if k = 5 then (if op = 1 ∨ (Js.find m nm).isSome = true then .ok (.mk k b n s [] (if op = 2 then del m nm else put m nm x)) else .bad 6)
    else .bad 6 := rfl
theorem rep_one {nm : List UInt8} {v x u : Vl} (hv : neat v = true) (h : one 3 nm v x = .ok u) : kid u nm = some x := by
  obtain ⟨k, b, n, s, l, m⟩ := v
  obtain ⟨h4, h5, hl, hm, hr⟩ := (neat_iff _ _ _ _ _ _).1 hv
  rw [one_mk] at h
  split at h
  · rename_i hk
    split at h
    · rename_i hi
      injection h with h
      subst h
      have hlt : (index nm l.length false).1 < l.length := index_lt (nm := nm) (n := l.length) (by rw [← hi]; rfl)
      have hL : inL 3 l (index nm l.length (decide (3 = 1))).1 x = l.set (index nm l.length false).1 x := by unfold inL; rw [if_neg (by decide), if_neg (by decide)]; rfl
      rw [hL, kid_mk, if_pos hk, List.length_set, if_pos (by exact hi)]
      exact List.getElem?_set_self hlt
    · cases h
  · split at h
    · rename_i hk hk5
      split at h
      · injection h with h
        subst h
        rw [kid_mk, if_neg hk, find_five, if_pos hk5]
        exact find_put x hr
      · cases h
    · cases h
end Go.Proofs.YtlhinefalkfjaaaGreatDoor.Ed

namespace Go.Proofs.YtlhinefalkfjaaaGreatDoor.Ed
open Js Pt
open Ps (less)

theorem sizeL_append (a b : List Vl) : sizeL (a ++ b) = sizeL a + sizeL b := by
  induction a with
  | nil => simp [sizeL]
  | cons v a ih => simp only [List.cons_append, sizeL, ih]; omega
theorem sizeM_append (a b : List Mem) : sizeM (a ++ b) = sizeM a + sizeM b := by
  induction a with
  | nil => simp [sizeM]
  | cons v a ih => simp only [List.cons_append, sizeM, ih]; omega
end Go.Proofs.YtlhinefalkfjaaaGreatDoor.Ed


