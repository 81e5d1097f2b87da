/- Jd: Jd Jh, in one text. -/
import Derived.Test.YtccacjkogdmleaaDoorVb
import Derived.Test.YtccacjkogdmleaaDoorMq
import Derived.Deep.AppendLies
import Derived.Test.YtccacjkogdmleaaDoorJa
import Derived.Test.YtccacjkogdmleaaDoorPw
import Derived.BigQuiet
import Derived.Deep.RegionLaw
import Derived.Deep.CutRange
/- Jd: Jd Je, in one text. -/
/- A slice that grows in a row of its own, whatever its items are, and what they lead to: blocks that were there, or new ones. -/
namespace Go.Proofs.YtccacjkogdmleaaDoor
open Go.RowKit Js

/-- What an item's parts are: of a value, of a member. -/
def ItV (c : Cl) (v : Vl) (cs : List Value) : Prop := v.In c (.agg cs.toArray)
def ItM (c : Cl) (p : Js.Mem) (cs : List Value) : Prop := ∃ r : Array Value, cs = .string ⟨p.1.toArray⟩ :: r.toList ∧ p.2.In c (.agg r)
theorem ItV.mono {c c' : Cl} (h : c.le c') {v : Vl} {cs : List Value} (k : ItV c v cs) : ItV c' v cs := In.keep h _ _ k
theorem ItM.mono {c c' : Cl} (h : c.le c') {p : Js.Mem} {cs : List Value} (k : ItM c p cs) : ItM c' p cs := by
  obtain ⟨r, h1, h2⟩ := k
  exact ⟨r, h1, In.keep h _ _ h2⟩

theorem on_sub {w : World} {S S' : Nat → Prop} (h : ∀ b, S b → S' b) : Cl.le (w.on S) (w.on S') := fun p u hp => by
  obtain ⟨h1, h2⟩ := on_some.1 hp
  exact on_some.2 ⟨h _ h1, h2⟩
theorem on_keep {w w' : World} {S S' : Nat → Prop} (h : ∀ b, S b → b < w.heap.size → S' b) (hb : ∀ b, S b → b < w.heap.size → w'.heap[b]? = w.heap[b]?) : Cl.le (w.on S) (w'.on S') := fun p u hp => by
  obtain ⟨h1, h2⟩ := on_some.1 hp
  have hlt := World.block_lt_of_cell? w _ h2
  exact on_some.2 ⟨h _ h1 hlt, by rw [World.cell?_of_block (w := w) (hb _ h1 hlt)]; exact h2⟩
theorem on_all (w : World) (S : Nat → Prop) : Cl.le (w.on S) w.cell? := fun _ _ hp => (on_some.1 hp).2

/-- Blocks that were there, or new ones, but the one in which a slice lies. -/
def OffS (S : Nat → Prop) (B : Nat) (A : Option Addr) : Nat → Prop := fun k => (S k ∨ B ≤ k) ∧ ∀ ad, A = some ad → k ≠ ad.block

def RowG {α : Type} (It : Cl → α → List Value → Prop) (T : TypeId) (k : Nat) (S : Nat → Prop) (w : World) (B : Nat) (A : Option Addr) (cp : Nat) (acc : List α) : Prop :=
  ∃ flat, w.ownsRow B T k (.slice A acc.length cp) acc.length flat ∧ (∀ u ∈ flat, u.oneCell' = true) ∧
    ∀ i a, acc[i]? = some a → ∃ cs, It (w.on (OffS S B A)) a cs ∧ ∀ (j : Nat) u, cs[j]? = some u → flat[i * k + j]? = some u

section
variable {α : Type} {It : Cl → α → List Value → Prop} {T : TypeId} {k : Nat} {S : Nat → Prop}

theorem RowG.nil (w : World) (B : Nat) : RowG It T k S w B none 0 [] := ⟨[], ⟨by simp, .inl ⟨rfl, rfl⟩⟩, (fun u h => by cases h), fun i v h => by simp at h⟩
theorem RowG.keep (hmono : ∀ {c c' : Cl}, c.le c' → ∀ {a cs}, It c a cs → It c' a cs) {w w' : World} {B : Nat} {A : Option Addr} {cp : Nat} {acc : List α} (h : RowG It T k S w B A cp acc)
    (hb : ∀ b, (S b ∨ B ≤ b) → b < w.heap.size → w'.heap[b]? = w.heap[b]?) : RowG It T k S w' B A cp acc := by
  obtain ⟨flat, hown, h1, hel⟩ := h
  refine ⟨flat, own_keep hown (fun b h2 h3 => hb b (.inr h2) h3), h1, fun i v hi => ?_⟩
  obtain ⟨cs, hx, hc⟩ := hel i v hi
  exact ⟨cs, hmono (on_keep (fun _ h _ => h) (fun b h h2 => hb b h.1 h2)) hx, hc⟩
theorem RowG.below (hmono : ∀ {c c' : Cl}, c.le c' → ∀ {a cs}, It c a cs → It c' a cs) {w w' : World} {B : Nat} {A : Option Addr} {cp : Nat} {acc : List α} (h : RowG It T k S w B A cp acc) (hb : Below w.heap.size w w') : RowG It T k S w' B A cp acc :=
  h.keep hmono (fun b _ h2 => hb.block b h2)
theorem RowG.le {w : World} {B : Nat} {A : Option Addr} {cp : Nat} {acc : List α} (h : RowG It T k S w B A cp acc) : acc.length ≤ cp ∧ cp ≤ maxLen ∧ (0 < acc.length → ∃ g, A = some ⟨g, 0, none⟩ ∧ B ≤ g ∧ g < w.heap.size) ∧ (∀ ad, A = some ad → B ≤ ad.block ∧ ad.block < w.heap.size) := by
  obtain ⟨flat, hown, _⟩ := h
  have hl := own_le hown
  refine ⟨hl.1, hl.2.1, fun hn => ?_, fun ad ha => ?_⟩
  · cases A with
    | none => have := (hl.2.2.1 rfl).1; omega
    | some ad =>
      obtain ⟨g, rfl, h1, h2⟩ := hl.2.2.2 ad rfl
      exact ⟨g, rfl, h1, h2⟩
  · obtain ⟨g, rfl, h1, h2⟩ := hl.2.2.2 ad ha
    exact ⟨h1, h2⟩
/-- One item more. -/
theorem RowG.push (hmono : ∀ {c c' : Cl}, c.le c' → ∀ {a cs}, It c a cs → It c' a cs) {w wx w6 : World} {B : Nat} {A : Option Addr} {cp : Nat} {acc : List α}
    {flat : List Value} (hown : w.ownsRow B T k (.slice A acc.length cp) acc.length flat) (hone : ∀ u ∈ flat, u.oneCell' = true)
    (hel : ∀ i a, acc[i]? = some a → ∃ cs, It (w.on (OffS S B A)) a cs ∧ ∀ (j : Nat) u, cs[j]? = some u → flat[i * k + j]? = some u)
    (hb : Below w.heap.size w wx) {a : α} {cs : List Value} (ha : It (wx.on (OffS S B A)) a cs) (hcs : ∀ u ∈ cs, u.oneCell' = true) {g cap : Nat}
    (h6 : w6.ownsRow B T k (.slice (some ⟨g, 0, none⟩) (acc.length + 1) cap) (acc.length + 1) (flat ++ cs)) (hg : wx.grownBy w6 (Value.slice A acc.length cp).ownBlock)
    (hat : (Value.slice A acc.length cp).ownBlock = some g ∨ g = wx.heap.size) : RowG It T k S w6 B (some ⟨g, 0, none⟩) cap (acc ++ [a]) := by
  have hA : ∀ b, (∀ ad, A = some ad → b ≠ ad.block) ↔ some b ≠ (Value.slice A acc.length cp).ownBlock := by
    intro b
    cases A with
    | none => simp [Value.ownBlock]
    | some ad => simp [Value.ownBlock]
  have hle : ∀ {v : World}, (∀ b, b < v.heap.size → b < wx.heap.size) → (∀ b, (S b ∨ B ≤ b) → (∀ ad, A = some ad → b ≠ ad.block) → b < v.heap.size → w6.heap[b]? = v.heap[b]?) → Cl.le (v.on (OffS S B A)) (w6.on (OffS S B (some ⟨g, 0, none⟩))) := fun {v} hlt hv =>
    on_keep (fun b h1 h2 => ⟨h1.1, fun ad e => by
      cases e
      rcases hat with h | h
      · intro e2; exact (hA b).1 h1.2 (by rw [h]; exact congrArg some e2)
      · intro e2
        have := hlt b h2
        have e3 : b = g := e2
        omega⟩) (fun b h1 h2 => hv b h1.1 h1.2 h2)
  have hfl : flat.length = acc.length * k := hown.1
  refine ⟨flat ++ cs, by rw [List.length_append, List.length_singleton]; exact h6, fun u hu => (List.mem_append.1 hu).elim (hone u) (hcs u), fun i u hi => ?_⟩
  by_cases hlt : i < acc.length
  · rw [List.getElem?_append_left hlt] at hi
    obtain ⟨ds, hx, hc⟩ := hel i u hi
    refine ⟨ds, hmono (hle (fun b h => Nat.lt_of_lt_of_le h hb.size) (fun b _ h2 h3 => (hg.block b (Nat.lt_of_lt_of_le h3 hb.size) ((hA b).1 h2)).trans (hb.block b h3))) hx, fun j y hy => ?_⟩
    have := hc j y hy
    rw [List.getElem?_append_left (List.getElem?_eq_some_iff.1 this).1]
    exact this
  · obtain rfl : i = acc.length := by
      have := (List.getElem?_eq_some_iff.1 hi).1
      rw [List.length_append, List.length_singleton] at this; omega
    rw [List.getElem?_append_right (Nat.le_refl _)] at hi
    simp at hi
    subst hi
    refine ⟨cs, hmono (hle (fun b h => h) (fun b _ h2 h3 => hg.block b h3 ((hA b).1 h2))) ha, fun j y hy => ?_⟩
    rw [List.getElem?_append_right (by omega), hfl, Nat.add_sub_cancel_left]
    exact hy
end
/-- A value of parts that lie in memory. -/
theorem In.mk' {c : Cl} {k : Int} {b : Bool} {n : Nm.Num} {s : List UInt8} {l : List Vl} {m : List Js.Mem} {A B : Option Addr} {e d : Nat} (hl : SlL c A l) (hm : SlM c B m) (h1 : l.length ≤ e) (h2 : e ≤ maxLen) (h3 : m.length ≤ d) (h4 : d ≤ maxLen) :
    (Vl.mk k b n s l m).In c (vlV k b n.neg n.digits n.exp s (.slice A l.length e) (.slice B m.length d)) := by
  simp only [Vl.In]
  refine ⟨A, e, B, d, rfl, h1, h2, h3, h4, fun hn => ?_, fun hn => ?_⟩
  · cases l with
    | nil => simp at hn
    | cons v l =>
      obtain ⟨g, o, y, rfl, _, _⟩ := hl 0 v rfl
      refine ⟨g, o, rfl, LIn.of fun i u hi => ?_⟩
      obtain ⟨g2, o2, y2, h5, h6, h7⟩ := hl i u hi
      cases h5
      exact ⟨y2, h6, h7⟩
  · cases m with
    | nil => simp at hn
    | cons p m =>
      obtain ⟨g, o, y, rfl, _, _, _⟩ := hm 0 p rfl
      refine ⟨g, o, rfl, MIn.of fun i u hi => ?_⟩
      obtain ⟨g2, o2, y2, h5, h6, h7, h8⟩ := hm i u hi
      cases h5
      exact ⟨h7, y2, h6, h8⟩
theorem slL_nil (c : Cl) (A : Option Addr) : SlL c A [] := fun i v h => by simp at h
theorem slM_nil (c : Cl) (A : Option Addr) : SlM c A [] := fun i v h => by simp at h

end Go.Proofs.YtccacjkogdmleaaDoor

/- The walks of layer 7 (edit): the document's Edit, of no names; of an element. -/
namespace Go.Proofs.YtccacjkogdmleaaDoor
open Go.RowKit Pt Js

/-- What Edit tells. -/
def EditPost (S : Nat → Prop) (r : Ed.Ch) (w : World) (e : Ending) (w' : World) : Prop :=
  Below w.heap.size w w' ∧ ((∃ u y, r = .ok u ∧ e = .returned (.tuple #[y, .int .i64 0]) ∧ u.In (w'.on fun b => S b ∨ w.heap.size ≤ b) y) ∨
    (∃ (c : Nat) (y : Value), r = .bad c ∧ 0 < c ∧ c ≤ 14 ∧ e = .returned (.tuple #[y, .int .i64 c]) ∧ Ps.mkN.In (w'.on fun b => S b ∨ w.heap.size ≤ b) y))
abbrev zeroC : Array Value := #[.int .i64 0, .bool false, .bool false, .string ⟨#[]⟩, .int .i64 0, .string ⟨#[]⟩, .slice none 0 0, .slice none 0 0]
theorem below_three (w : World) (o1 o2 o3 : Obj) : Below w.heap.size w (((w.alloc o1).alloc o2).alloc o3) := (below_two0 w o1 o2).alloc (by simp; omega) _
theorem Blk.new3 (w : World) (o1 o2 : Obj) (t : TypeId) (cs : Array Value) : Blk (((w.alloc o1).alloc o2).alloc (.cells cs t)) (w.heap.size + 2) t cs := by
  have := Blk.new ((w.alloc o1).alloc o2) t cs
  simpa using this

end Go.Proofs.YtccacjkogdmleaaDoor

/- Jh: Jf Jh Jj, in one text. -/
/- Plain mathematics of layer 7 (edit), fourth part: what the document's loops have come to. -/
namespace Go.Proofs.YtccacjkogdmleaaDoor.Ed
open Js Pt
open Ps (less)

/-! The list of an array, round by round. -/
def pieceL (op : Nat) (last : Bool) (l : List Vl) (i0 : Nat) (x z : Vl) (j : Nat) : List Vl :=
  (if j = i0 ∧ last = true ∧ op ≠ 2 then [x] else []) ++ (if j = l.length ∨ (j = i0 ∧ last = true ∧ op ≠ 1) then [] else [if j = i0 ∧ last = false then z else l[j]?.getD z])
def outL (op : Nat) (last : Bool) (l : List Vl) (i0 : Nat) (x z : Vl) : Nat → List Vl
  | 0 => []
  | j + 1 => outL op last l i0 x z j ++ pieceL op last l i0 x z j
theorem outL_succ (op : Nat) (last : Bool) (l : List Vl) (i0 : Nat) (x z : Vl) (j : Nat) : outL op last l i0 x z (j + 1) = outL op last l i0 x z j ++ pieceL op last l i0 x z j := rfl
theorem inL_append {op : Nat} {a b : List Vl} {i : Nat} {x : Vl} (h : i < a.length) : inL op (a ++ b) i x = inL op a i x ++ b := by
  unfold inL
  split
  · rw [List.take_append_of_le_length (by omega), List.drop_append_of_le_length (by omega)]; simp
  · split
    · rw [List.eraseIdx_append_of_lt_length h]
    · rw [List.set_append_left _ _ h]
theorem outL_len (op : Nat) (last : Bool) (l : List Vl) (i0 : Nat) (x z : Vl) (j : Nat) : (outL op last l i0 x z j).length ≤ 2 * j := by
  induction j with
  | zero => simp [outL]
  | succ j ih =>
    rw [outL_succ, List.length_append]
    have : (pieceL op last l i0 x z j).length ≤ 2 := by
      unfold pieceL
      rw [List.length_append]
      have h1 : (if j = i0 ∧ last = true ∧ op ≠ 2 then [x] else []).length ≤ 1 := by split <;> simp
      have h2 : (if j = l.length ∨ (j = i0 ∧ last = true ∧ op ≠ 1) then [] else [if j = i0 ∧ last = false then z else l[j]?.getD z]).length ≤ 1 := by split <;> simp
      omega
    omega
theorem pieceL_far {op : Nat} {last : Bool} {l : List Vl} {i0 : Nat} {x z : Vl} {j : Nat} (h : j < l.length) (h2 : j ≠ i0) : pieceL op last l i0 x z j = [l[j]] := by
  simp [pieceL, h2, show j ≠ l.length by omega, h]
theorem pieceL_end {op : Nat} {last : Bool} {l : List Vl} {i0 : Nat} {x z : Vl} (h2 : l.length ≠ i0) : pieceL op last l i0 x z l.length = [] := by
  simp [pieceL, h2]
theorem pieceL_end1 {l : List Vl} {x z : Vl} : pieceL 1 true l l.length x z l.length = [x] := by
  simp [pieceL]
theorem pieceL_one {l : List Vl} {i0 : Nat} {x z : Vl} (h : i0 < l.length) : pieceL 1 true l i0 x z i0 = [x, l[i0]] := by
  simp [pieceL, show i0 ≠ l.length by omega, h]
theorem pieceL_two {l : List Vl} {i0 : Nat} {x z : Vl} : pieceL 2 true l i0 x z i0 = [] := by
  simp [pieceL]
theorem pieceL_three {l : List Vl} {i0 : Nat} {x z : Vl} : pieceL 3 true l i0 x z i0 = [x] := by
  simp [pieceL]
theorem pieceL_more {op : Nat} {l : List Vl} {i0 : Nat} {x z : Vl} (h : i0 < l.length) : pieceL op false l i0 x z i0 = [z] := by
  simp [pieceL, show i0 ≠ l.length by omega]
theorem outL_at {op : Nat} {l : List Vl} {i0 : Nat} {x z : Vl} (h13 : op = 1 ∨ op = 2 ∨ op = 3) (j : Nat) (hj : j ≤ l.length) : outL op true l i0 x z j = if j ≤ i0 then l.take j else inL op (l.take j) i0 x := by
  induction j with
  | zero => simp [outL]
  | succ j ih =>
    have hlt : j < l.length := hj
    have ht : l.take (j + 1) = l.take j ++ [l[j]] := List.take_succ_eq_append_getElem hlt
    have htl : (l.take j).length = j := by rw [List.length_take]; omega
    have ih2 := ih (by omega)
    clear ih
    by_cases h1 : j < i0
    · rw [if_pos (by omega)] at ih2
      rw [outL_succ, ih2, pieceL_far hlt (by omega), if_pos (by omega), ht]
    · by_cases h2 : j = i0
      · subst h2
        rw [if_pos (Nat.le_refl _)] at ih2
        rw [if_neg (by omega), outL_succ, ih2, ht]
        rcases h13 with rfl | rfl | rfl
        · rw [pieceL_one hlt]
          unfold inL
          have e1 : (l.take j ++ [l[j]]).take j = l.take j := by rw [List.take_append_of_le_length (by omega)]; exact List.take_of_length_le (by omega)
          have e2 : (l.take j ++ [l[j]]).drop j = [l[j]] := by rw [List.drop_append_of_le_length (by omega), List.drop_of_length_le (by omega)]; rfl
          rw [if_pos rfl, e1, e2]
        · rw [pieceL_two]
          unfold inL
          rw [if_neg (by decide), if_pos rfl, List.eraseIdx_append_of_length_le (by omega), htl, Nat.sub_self]; rfl
        · rw [pieceL_three]
          unfold inL
          rw [if_neg (by decide), if_neg (by decide), List.set_append_right _ _ (by omega), htl, Nat.sub_self]; rfl
      · rw [if_neg (by omega)] at ih2
        rw [if_neg (by omega), outL_succ, ih2, pieceL_far hlt h2, ht, inL_append (by omega)]
theorem outL_last {op : Nat} {l : List Vl} {i0 : Nat} {x z : Vl} (h13 : op = 1 ∨ op = 2 ∨ op = 3) (h : i0 < l.length ∨ (i0 = l.length ∧ op = 1)) : outL op true l i0 x z (l.length + 1) = inL op l i0 x := by
  have ho := outL_at (x := x) (z := z) (i0 := i0) h13 l.length (Nat.le_refl _)
  rw [List.take_length] at ho
  rw [outL_succ, ho]
  rcases h with h | ⟨h, rfl⟩
  · rw [if_neg (by omega), pieceL_end (by omega), List.append_nil]
  · subst h
    rw [if_pos (Nat.le_refl _), pieceL_end1]
    unfold inL
    rw [if_pos rfl, List.take_length, List.drop_length]
theorem outL_more {op : Nat} {l : List Vl} {i0 : Nat} {x z : Vl} (h : i0 < l.length) : outL op false l i0 x z (l.length + 1) = l.set i0 z := by
  have hj : ∀ j, j ≤ l.length + 1 → outL op false l i0 x z j = outL 3 true l i0 z z j := by
    intro j
    induction j with
    | zero => intro _; rfl
    | succ j ih =>
      intro hj
      rw [outL_succ, outL_succ, ih (by omega)]
      congr 1
      by_cases h1 : j = l.length
      · subst h1
        rw [pieceL_end (by omega), pieceL_end (by omega)]
      · by_cases h2 : j = i0
        · subst h2; rw [pieceL_more h, pieceL_three]
        · rw [pieceL_far (by omega) h2, pieceL_far (by omega) h2]
  rw [hj _ (Nat.le_refl _), outL_last (.inr (.inr rfl)) (.inl h)]
  rfl

/-! The members of an object, round by round. -/
/-- Has one been come to that is not below the name? -/
def met (nm : List UInt8) (m : List Mem) (j : Nat) : Bool := (m.take j).any fun p => !less nm p
def outM (op : Nat) (last : Bool) (m : List Mem) (nm : List UInt8) (x z : Vl) (j : Nat) : List Mem :=
  if last = true then (if op = 2 then del (m.take j) nm else if met nm m j = true then put (m.take j) nm x else m.take j) else upd (m.take j) nm z
theorem met_zero (nm : List UInt8) (m : List Mem) : met nm m 0 = false := rfl
theorem met_succ (nm : List UInt8) (m : List Mem) (j : Nat) (h : j < m.length) : met nm m (j + 1) = (met nm m j || !less nm m[j]) := by
  unfold met
  rw [List.take_succ_eq_append_getElem h, List.any_append]; simp
theorem outM_zero (op : Nat) (last : Bool) (m : List Mem) (nm : List UInt8) (x z : Vl) : outM op last m nm x z 0 = [] := by
  unfold outM
  cases last <;> simp [met_zero, del, upd]
theorem tw_all {a : List Mem} {nm : List UInt8} (h : (a.any fun p => !less nm p) = false) : a.takeWhile (less nm) = a ∧ a.dropWhile (less nm) = [] := by
  have hp : ∀ p ∈ a, less nm p = true := fun p hp => by
    have := List.any_eq_false.1 h p hp
    simpa using this
  constructor
  · have := List.takeWhile_append_of_pos (l₂ := []) hp
    simpa using this
  · have := List.dropWhile_append_of_pos (l₂ := []) hp
    simpa using this
theorem tw_some {a b : List Mem} {nm : List UInt8} (h : (a.any fun p => !less nm p) = true) : (a ++ b).takeWhile (less nm) = a.takeWhile (less nm) ∧ (a ++ b).dropWhile (less nm) = a.dropWhile (less nm) ++ b := by
  induction a with
  | nil => simp at h
  | cons q a ih =>
    by_cases hq : less nm q = true
    · have h2 : (a.any fun p => !less nm p) = true := by simpa [hq] using h
      obtain ⟨i1, i2⟩ := ih h2
      constructor
      · rw [List.cons_append, List.takeWhile_cons, if_pos hq, List.takeWhile_cons, if_pos hq, i1]
      · rw [List.cons_append, List.dropWhile_cons, if_pos hq, List.dropWhile_cons, if_pos hq, i2]
    · constructor
      · rw [List.cons_append, List.takeWhile_cons, if_neg hq, List.takeWhile_cons, if_neg hq]
      · rw [List.cons_append, List.dropWhile_cons, if_neg hq, List.dropWhile_cons, if_neg hq]; rfl
/-- One member more, where it is neither put nor left out. -/
theorem outM_other {op : Nat} {last : Bool} {m : List Mem} {nm : List UInt8} {x z : Vl} {j : Nat} (hj : j < m.length) (hne : m[j].1 ≠ nm) (hp : last = true → op ≠ 2 → met nm m j = true ∨ less nm m[j] = true) :
    outM op last m nm x z (j + 1) = outM op last m nm x z j ++ [m[j]] := by
  have ht : m.take (j + 1) = m.take j ++ [m[j]] := List.take_succ_eq_append_getElem hj
  unfold outM
  cases last with
  | false => simp only [Bool.false_eq_true, if_false]; rw [ht]; unfold upd; rw [List.map_append]; simp [hne]
  | true =>
    simp only [if_true]
    by_cases h2 : op = 2
    · rw [if_pos h2, if_pos h2, ht]; unfold del; rw [List.filter_append]; simp [hne]
    · rw [if_neg h2, if_neg h2, met_succ nm m j hj]
      cases hm : met nm m j with
      | true =>
        simp only [Bool.true_or, if_true]
        rw [ht]
        unfold put
        obtain ⟨t1, t2⟩ := tw_some (b := [m[j]]) hm
        rw [t1, t2, List.filter_append]; simp [hne]
      | false =>
        have hl := (hp rfl h2).resolve_left (by rw [hm]; decide)
        simp only [hl, Bool.not_true, Bool.or_false, Bool.false_eq_true, if_false]
        exact ht
/-- The name's own member, left out or changed. -/
theorem outM_own {op : Nat} {last : Bool} {m : List Mem} {nm : List UInt8} {x z : Vl} {j : Nat} (hj : j < m.length) (he : m[j].1 = nm) (hp : last = true → op ≠ 2 → met nm m j = true) :
    outM op last m nm x z (j + 1) = outM op last m nm x z j ++ (if last = true then [] else [(nm, z)]) := by
  have ht : m.take (j + 1) = m.take j ++ [m[j]] := List.take_succ_eq_append_getElem hj
  unfold outM
  cases last with
  | false => simp only [Bool.false_eq_true, if_false]; rw [ht]; unfold upd; rw [List.map_append]; simp [he]
  | true =>
    simp only [if_true, List.append_nil]
    by_cases h2 : op = 2
    · rw [if_pos h2, if_pos h2, ht]; unfold del; rw [List.filter_append]; simp [he]
    · have hm := hp rfl h2
      rw [if_neg h2, if_neg h2, met_succ nm m j hj, hm]
      simp only [Bool.true_or, if_true]
      rw [ht]
      unfold put
      obtain ⟨t1, t2⟩ := tw_some (b := [m[j]]) hm
      rw [t1, t2, List.filter_append]; simp [he]
/-- Put ahead of the first that is not below it. -/
theorem outM_put {op : Nat} {m : List Mem} {nm : List UInt8} {x z : Vl} {j : Nat} (hj : j < m.length) (h2 : op ≠ 2) (hm : met nm m j = false) (hl : less nm m[j] = false) :
    outM op true m nm x z (j + 1) = outM op true m nm x z j ++ [(nm, x)] ++ (if m[j].1 = nm then [] else [m[j]]) := by
  have ht : m.take (j + 1) = m.take j ++ [m[j]] := List.take_succ_eq_append_getElem hj
  unfold outM
  simp only [if_true]
  rw [if_neg h2, if_neg h2, met_succ nm m j hj, hm, hl]
  simp only [Bool.not_false, Bool.or_true, if_true, Bool.false_eq_true, if_false]
  rw [ht]
  unfold put
  obtain ⟨t1, t2⟩ := tw_all hm
  have h1 : ∀ p ∈ m.take j, less nm p = true := fun p hp => by
    have := List.any_eq_false.1 hm p hp
    simpa using this
  rw [List.takeWhile_append_of_pos h1, List.dropWhile_append_of_pos h1, List.takeWhile_cons, hl, List.dropWhile_cons, hl]
  by_cases he : m[j].1 = nm
  · simp [he]
  · simp [he]
theorem outM_end {op : Nat} {m : List Mem} {nm : List UInt8} {x z : Vl} (h2 : op ≠ 2) : put m nm x = outM op true m nm x z m.length ++ (if met nm m m.length = true then [] else [(nm, x)]) := by
  unfold outM
  simp only [if_true, if_neg h2, List.take_length]
  cases hm : met nm m m.length with
  | true => simp
  | false =>
    unfold met at hm
    rw [List.take_length] at hm
    obtain ⟨t1, t2⟩ := tw_all hm
    unfold put
    rw [t1, t2]; simp
theorem outM_del {m : List Mem} {nm : List UInt8} {x z : Vl} : outM 2 true m nm x z m.length = del m nm := by
  unfold outM; simp
theorem outM_upd {op : Nat} {m : List Mem} {nm : List UInt8} {x z : Vl} : outM op false m nm x z m.length = upd m nm z := by
  unfold outM; simp

end Go.Proofs.YtccacjkogdmleaaDoor.Ed

/- The walks of layer 7 (edit): the document's Edit, of an element. -/
namespace Go.Proofs.YtccacjkogdmleaaDoor
open Go.RowKit Pt Js

abbrev outC (k : Int) (b : Bool) (n : Nm.Num) (s : List UInt8) (lv mv : Value) : Array Value := #[.int .i64 k, .bool b, .bool n.neg, .string ⟨n.digits.toArray⟩, .int .i64 n.exp, .string ⟨s.toArray⟩, lv, mv]
section
variable {w wr w' : World} {g8 g10 : Nat} {V X O : Array Value}
theorem Blk.grown {w w' : World} {g : Nat} {t : TypeId} {cs : Array Value} {row : Option Nat} (h : Blk w g t cs) (hg : w.grownBy w' row) (hr : ∀ k, row = some k → g < k) : Blk w' g t cs :=
  (hg.block g h.lt (fun e => by have := hr g e.symm; omega)).trans h
theorem Blk.far {w : World} {g h i : Nat} {t : TypeId} {cs : Array Value} {u : Value} (hb : Blk w g t cs) (hn : g ≠ h) : Blk (w.setCell ⟨h, i, none⟩ u) g t cs := by
  unfold Blk at hb ⊢
  simp [World.setCell, Array.getElem?_modify, hb, Ne.symm hn]
end
theorem heap_setCell (w : World) (h i : Nat) (u : Value) {b : Nat} (hb : b ≠ h) : (w.setCell ⟨h, i, none⟩ u).heap[b]? = w.heap[b]? := by
  simp [World.setCell, Array.getElem?_modify, Ne.symm hb]
set_option linter.unusedVariables false in
theorem off_of {S : Nat → Prop} {w w5 : World} {B : Nat} {A : Option Addr} (hS : ∀ b, S b → b < w.heap.size) (hB : w.heap.size ≤ B) (hb : Below w.heap.size w w5) (hA : ∀ ad, A = some ad → B ≤ ad.block) : Cl.le (w.on S) (w5.on (OffS S B A)) :=
  on_keep (fun b h h2 => ⟨.inl h, fun ad e => by have := hA ad e; omega⟩) (fun b _ h2 => hb.block b h2)

theorem conv_one {S : Nat → Prop} {w5 w9 : World} {o : Obj} {z : Vl} {y : Value} (hz : z.In (w9.on fun b => S b ∨ ((w5.alloc o).drew).heap.size ≤ b) y) : z.In (w9.on fun b => S b ∨ w5.heap.size + 1 ≤ b) y :=
  In.keep (on_sub fun b h => h.imp id (fun h => by
    have e : ((w5.alloc o).drew).heap.size = w5.heap.size + 1 := by simp
    omega)) _ _ hz
theorem conv_two {S : Nat → Prop} {w5 w9 : World} {z : Vl} {y : Value} (hz : z.In (w9.on fun b => S b ∨ (w5.drew).heap.size ≤ b) y) : z.In (w9.on fun b => S b ∨ w5.heap.size ≤ b) y :=
  In.keep (on_sub fun b h => h.imp id (fun h => by
    have e : (w5.drew).heap.size = w5.heap.size := by simp
    omega)) _ _ hz
theorem fin_one {S : Nat → Prop} {w5 w9 : World} {z : Vl} {y : Value} (hS : ∀ b, S b → b < w5.heap.size) (hz : z.In (w9.on fun b => S b ∨ w5.heap.size + 1 ≤ b) y) (v0 v1 v2 v3 v4 v5 v6 v7 : Value) :
    z.In ((set8 w9 w5.heap.size v0 v1 v2 v3 v4 v5 v6 v7).on fun b => S b ∨ w5.heap.size ≤ b) y :=
  In.keep (on_keep (fun b h _ => h.imp id (fun h => by omega)) (fun b h _ => heap_set8 _ _ _ (by
    rcases h with h | h
    · have := hS b h; omega
    · omega) _ _ _ _ _ _ _ _)) _ _ hz
theorem fin_two {S : Nat → Prop} {w5 w9 : World} {z : Vl} {y : Value} (hz : z.In (w9.on fun b => S b ∨ w5.heap.size ≤ b) y) (o : Obj) : z.In ((w9.alloc o).on fun b => S b ∨ w5.heap.size ≤ b) y :=
  In.keep (on_keep (fun _ h _ => h) (fun _ _ h2 => Below.heap_alloc _ _ _ h2)) _ _ hz
/-- What came of the part, once it is stored where the element lay. -/
theorem z_on {S : Nat → Prop} {B g : Nat} {w5 wc : World} {z : Vl} {y : Value} {A : Option Addr} (hS : ∀ b, S b → b < B) (hB : B ≤ g) (hg : g < w5.heap.size) (hA : ∀ ad, A = some ad → B ≤ ad.block ∧ ad.block < g) (hz : z.In (wc.on fun b => S b ∨ w5.heap.size ≤ b) y) (v0 v1 v2 v3 v4 v5 v6 v7 : Value) :
    z.In ((set8 wc g v0 v1 v2 v3 v4 v5 v6 v7).on (OffS S B A)) y :=
  In.keep (on_keep (fun b h _ => ⟨h.imp id (fun h => by omega), fun ad e => by
    have := hA ad e
    rcases h with h | h
    · have := hS b h; omega
    · omega⟩) (fun b h _ => heap_set8 _ _ _ (by
    rcases h with h | h
    · have := hS b h; omega
    · omega) _ _ _ _ _ _ _ _)) _ _ hz

end Go.Proofs.YtccacjkogdmleaaDoor

/- The walks of layer 7 (edit): the document's Edit, of a member: what is held. -/
namespace Go.Proofs.YtccacjkogdmleaaDoor.Ed
open Js Pt
open Ps (less)

/-- Has it been put? -/
def hasP (op : Nat) (last : Bool) (m : List Mem) (nm : List UInt8) (j : Nat) : Bool := last && (decide (op ≠ 2) && met nm m j)
/-- Is it put now? -/
def putNow (op : Nat) (last : Bool) (m : List Mem) (nm : List UInt8) (j : Nat) : Bool := last && (decide (op ≠ 2) && (!met nm m j && (m[j]?.all fun p => !less nm p)))
def midM (op : Nat) (last : Bool) (m : List Mem) (nm : List UInt8) (x z : Vl) (j : Nat) : List Mem := outM op last m nm x z j ++ (if putNow op last m nm j = true then [(nm, x)] else [])

section
variable {op : Nat} {last : Bool} {m : List Mem} {nm : List UInt8} {x z : Vl} {j : Nat}
theorem hasP_zero : hasP op last m nm 0 = false := by
  unfold hasP; rw [met_zero, Bool.and_false, Bool.and_false]
theorem hasP_succ (hj : j < m.length) : hasP op last m nm (j + 1) = (hasP op last m nm j || putNow op last m nm j) := by
  unfold hasP putNow
  rw [met_succ nm m j hj, List.getElem?_eq_getElem hj, Option.all_some]
  cases last <;> cases decide (op ≠ 2) <;> cases met nm m j <;> simp
theorem mid_other (hj : j < m.length) (hne : m[j].1 ≠ nm) : outM op last m nm x z (j + 1) = midM op last m nm x z j ++ [m[j]] := by
  unfold midM
  by_cases hp : putNow op last m nm j = true
  · rw [if_pos hp]
    unfold putNow at hp
    rw [List.getElem?_eq_getElem hj, Option.all_some] at hp
    simp only [Bool.and_eq_true, decide_eq_true_eq, Bool.not_eq_true'] at hp
    obtain ⟨rfl, h2, hm, hl⟩ := hp
    rw [outM_put hj h2 hm hl, if_neg hne]
  · rw [if_neg hp, List.append_nil]
    refine outM_other hj hne fun h1 h2 => ?_
    subst h1
    unfold putNow at hp
    rw [List.getElem?_eq_getElem hj, Option.all_some, decide_eq_true h2] at hp
    cases hm : met nm m j with
    | true => exact .inl rfl
    | false =>
      right
      rw [hm] at hp
      simpa using hp
theorem mid_own (hj : j < m.length) (he : m[j].1 = nm) : outM op last m nm x z (j + 1) = midM op last m nm x z j ++ (if last = true then [] else [(nm, z)]) := by
  have hless : less nm m[j] = false := by subst he; exact less_self _ _
  unfold midM
  by_cases hp : putNow op last m nm j = true
  · rw [if_pos hp]
    unfold putNow at hp
    simp only [Bool.and_eq_true, decide_eq_true_eq, Bool.not_eq_true'] at hp
    obtain ⟨rfl, h2, hm, _⟩ := hp
    rw [outM_put hj h2 hm hless, if_pos he, if_pos rfl]
  · rw [if_neg hp, List.append_nil]
    refine outM_own hj he fun h1 h2 => ?_
    subst h1
    unfold putNow at hp
    rw [List.getElem?_eq_getElem hj, Option.all_some, decide_eq_true h2, hless] at hp
    simpa using hp
theorem mid_end : midM op last m nm x z m.length = if last = true then (if op = 2 then del m nm else put m nm x) else upd m nm z := by
  unfold midM putNow
  rw [List.getElem?_eq_none (Nat.le_refl _), Option.all_none, Bool.and_true]
  cases last with
  | false => simp [outM_upd]
  | true =>
    by_cases h2 : op = 2
    · subst h2; simp [outM_del]
    · rw [if_pos rfl, if_neg h2, outM_end (z := z) h2, Bool.true_and, decide_eq_true h2, Bool.true_and]
      cases met nm m m.length <;> simp
theorem outM_len (hj : j ≤ m.length) : (outM op last m nm x z j).length ≤ j + 1 := by
  have ht : (m.take j).length ≤ j := by rw [List.length_take]; omega
  unfold outM
  split
  · split
    · unfold del
      exact Nat.le_trans (List.length_filter_le _ _) (by omega)
    · split
      · unfold put
        have h1 : (m.take j).length = ((m.take j).takeWhile (less nm)).length + ((m.take j).dropWhile (less nm)).length := by
          rw [← List.length_append, List.takeWhile_append_dropWhile]
        rw [List.length_append, List.length_cons]
        refine Nat.le_trans (Nat.add_le_add_left (Nat.succ_le_succ (List.length_filter_le _ _)) _) ?_
        omega
      · omega
  · unfold upd
    rw [List.length_map]; omega
theorem midM_len (hj : j ≤ m.length) : (midM op last m nm x z j).length ≤ j + 2 := by
  have := outM_len (op := op) (last := last) (nm := nm) (x := x) (z := z) hj
  unfold midM
  rw [List.length_append]
  split
  · rw [List.length_singleton]; omega
  · rw [List.length_nil]; omega

theorem find_in {y : Vl} (h : Js.find m nm = some y) : ∃ i, i < m.length ∧ m[i]? = some (nm, y) := by
  unfold Js.find at h
  obtain ⟨p, hp, rfl⟩ := Option.map_eq_some_iff.1 h
  have h1 : p.1 = nm := by simpa using List.find?_some hp
  obtain ⟨i, hi, he⟩ := List.getElem_of_mem (List.mem_of_find?_eq_some hp)
  refine ⟨i, hi, ?_⟩
  rw [List.getElem?_eq_getElem hi, he, ← h1]
theorem edit_not {ns : List (List UInt8)} {k : Int} {b : Bool} {n : Nm.Num} {s : List UInt8} {l : List Vl} (h4 : k ≠ 4) (h : k ≠ 5 ∨ ((Js.find m nm).isSome = false ∧ (op ≠ 1 ∨ ns.isEmpty = false))) :
    edit op (nm :: ns) (.mk k b n s l m) x = .bad 6 := by
  cases ns with
  | nil =>
    show one op nm _ x = _
    rw [one_mk, if_neg h4]
    by_cases h5 : k = 5
    · obtain ⟨h1, h2⟩ := h.resolve_left (fun h => h h5)
      rw [if_pos h5, if_neg]
      rintro (h3 | h3)
      · exact (h2.resolve_right (by decide)) h3
      · rw [h1] at h3; cases h3
    · rw [if_neg h5]
  | cons a r =>
    rw [edit_more op nm (by simp), under_mk, if_neg h4]
    by_cases h5 : k = 5
    · obtain ⟨h1, _⟩ := h.resolve_left (fun h => h h5)
      rw [if_pos h5, Option.isSome_eq_false_iff.1 h1 |> Option.isNone_iff_eq_none.1]
    · rw [if_neg h5]
theorem edit_mem_last {b : Bool} {n : Nm.Num} {s : List UInt8} {l : List Vl} (h : op = 1 ∨ (Js.find m nm).isSome = true) :
    edit op [nm] (.mk 5 b n s l m) x = .ok (.mk 5 b n s [] (if op = 2 then del m nm else put m nm x)) := by
  show one op nm _ x = _
  rw [one_mk, if_neg (by decide), if_pos rfl, if_pos h]
theorem edit_mem_more {ns : List (List UInt8)} {b : Bool} {n : Nm.Num} {s : List UInt8} {l : List Vl} {y : Vl} (hn : ns ≠ []) (h : Js.find m nm = some y) :
    edit op (nm :: ns) (.mk 5 b n s l m) x = match edit op ns y x with | .ok z => .ok (.mk 5 b n s [] (upd m nm z)) | .bad c => .bad c := by
  rw [edit_more op nm hn, under_mk, if_neg (by decide), if_pos rfl, h]
  rfl
end

end Go.Proofs.YtccacjkogdmleaaDoor.Ed
namespace Go.Proofs.YtccacjkogdmleaaDoor
open Go.RowKit Pt Js
/-- What Edit tells, in parts. -/
theorem EditPost.shared {S : Nat → Prop} {r : Ed.Ch} {w w' : World} {e : Ending} (h : EditPost S r w e w') : ∃ (y : Value) (c : Nat) (z : Vl), e = .returned (.tuple #[y, .int .i64 c]) ∧ z.In (w'.on fun b => S b ∨ w.heap.size ≤ b) y ∧ Below w.heap.size w w' ∧ ((c = 0 ∧ r = .ok z) ∨ (0 < c ∧ c ≤ 14 ∧ r = .bad c)) := by
  obtain ⟨hb, ⟨u, y, rfl, rfl, h⟩ | ⟨c, y, rfl, h1, h2, rfl, h⟩⟩ := h
  · exact ⟨y, 0, u, rfl, h, hb, .inl ⟨rfl, rfl⟩⟩
  · exact ⟨y, c, _, rfl, h, hb, .inr ⟨h1, h2, rfl⟩⟩
/-- A key that is not less. -/
theorem geq_yes {a b : List UInt8} (h : ¬ Lib.compareBytes a b = -1) : Op.bytesLess a b = false := by
  rw [Nm.less_bytes]
  exact decide_eq_false h

/-! A member in a block: nine cells. -/
theorem Blk.nineM {w : World} {g : Nat} {t : TypeId} {c0 c1 c2 c3 c4 c5 c6 c7 c8 : Value} (h : Blk w g t #[c0, c1, c2, c3, c4, c5, c6, c7, c8]) :
    w.cell? ⟨g, 0, none⟩ = some c0 ∧ w.cell? ⟨g, 1, none⟩ = some c1 ∧ w.cell? ⟨g, 2, none⟩ = some c2 ∧ w.cell? ⟨g, 3, none⟩ = some c3 ∧ w.cell? ⟨g, 4, none⟩ = some c4 ∧ w.cell? ⟨g, 5, none⟩ = some c5 ∧ w.cell? ⟨g, 6, none⟩ = some c6 ∧ w.cell? ⟨g, 7, none⟩ = some c7 ∧ w.cell? ⟨g, 8, none⟩ = some c8 :=
  ⟨h.cell 0, h.cell 1, h.cell 2, h.cell 3, h.cell 4, h.cell 5, h.cell 6, h.cell 7, h.cell 8⟩
abbrev setv (w : World) (g : Nat) (v0 v1 v2 v3 v4 v5 v6 v7 : Value) : World :=
  (((((((w.setCell ⟨g, 1, none⟩ v0).setCell ⟨g, 2, none⟩ v1).setCell ⟨g, 3, none⟩ v2).setCell ⟨g, 4, none⟩ v3).setCell ⟨g, 5, none⟩ v4).setCell ⟨g, 6, none⟩ v5).setCell ⟨g, 7, none⟩ v6).setCell ⟨g, 8, none⟩ v7
theorem Blk.setv {w : World} {g : Nat} {t : TypeId} {k c0 c1 c2 c3 c4 c5 c6 c7 : Value} (h : Blk w g t #[k, c0, c1, c2, c3, c4, c5, c6, c7]) (v0 v1 v2 v3 v4 v5 v6 v7 : Value) :
    Blk (setv w g v0 v1 v2 v3 v4 v5 v6 v7) g t #[k, v0, v1, v2, v3, v4, v5, v6, v7] :=
  have h1 : Blk _ g t [k, v0, c1, c2, c3, c4, c5, c6, c7].toArray := Blk.setL (l := [k, c0, c1, c2, c3, c4, c5, c6, c7]) h 1 v0
  have h2 : Blk _ g t [k, v0, v1, c2, c3, c4, c5, c6, c7].toArray := h1.setL 2 v1
  have h3 : Blk _ g t [k, v0, v1, v2, c3, c4, c5, c6, c7].toArray := h2.setL 3 v2
  have h4 : Blk _ g t [k, v0, v1, v2, v3, c4, c5, c6, c7].toArray := h3.setL 4 v3
  have h5 : Blk _ g t [k, v0, v1, v2, v3, v4, c5, c6, c7].toArray := h4.setL 5 v4
  have h6 : Blk _ g t [k, v0, v1, v2, v3, v4, v5, c6, c7].toArray := h5.setL 6 v5
  have h7 : Blk _ g t [k, v0, v1, v2, v3, v4, v5, v6, c7].toArray := h6.setL 7 v6
  h7.setL 8 v7
theorem heap_setv (w : World) (g k : Nat) (h : k ≠ g) (v0 v1 v2 v3 v4 v5 v6 v7 : Value) : (setv w g v0 v1 v2 v3 v4 v5 v6 v7).heap[k]? = w.heap[k]? := by
  unfold setv
  rw [Below.heap_setCell _ _ _ _ h, Below.heap_setCell _ _ _ _ h, Below.heap_setCell _ _ _ _ h, Below.heap_setCell _ _ _ _ h, Below.heap_setCell _ _ _ _ h, Below.heap_setCell _ _ _ _ h, Below.heap_setCell _ _ _ _ h, Below.heap_setCell _ _ _ _ h]
theorem below_setv {B : Nat} {a w : World} (h : Below B a w) {g : Nat} (hg : B ≤ g) (v0 v1 v2 v3 v4 v5 v6 v7 : Value) : Below B a (setv w g v0 v1 v2 v3 v4 v5 v6 v7) :=
  (((((((h.setCell (p := ⟨g, 1, none⟩) hg v0).setCell (p := ⟨g, 2, none⟩) hg v1).setCell (p := ⟨g, 3, none⟩) hg v2).setCell (p := ⟨g, 4, none⟩) hg v3).setCell (p := ⟨g, 5, none⟩) hg v4).setCell (p := ⟨g, 6, none⟩) hg v5).setCell (p := ⟨g, 7, none⟩) hg v6).setCell (p := ⟨g, 8, none⟩) hg v7
/-- What came of the part, once it is stored where the member lay. -/
theorem zv_on {S : Nat → Prop} {B g : Nat} {w5 wc : World} {z : Vl} {y : Value} {A : Option Addr} (hS : ∀ b, S b → b < B) (hB : B ≤ g) (hg : g < w5.heap.size) (hA : ∀ ad, A = some ad → B ≤ ad.block ∧ ad.block < g) (hz : z.In (wc.on fun b => S b ∨ w5.heap.size ≤ b) y) (v0 v1 v2 v3 v4 v5 v6 v7 : Value) :
    z.In ((setv wc g v0 v1 v2 v3 v4 v5 v6 v7).on (OffS S B A)) y :=
  In.keep (on_keep (fun b h _ => ⟨h.imp id (fun h => by omega), fun ad e => by
    have := hA ad e
    rcases h with h | h
    · have := hS b h; omega
    · omega⟩) (fun b h _ => heap_setv _ _ _ (by
    rcases h with h | h
    · have := hS b h; omega
    · omega) _ _ _ _ _ _ _ _)) _ _ hz

end Go.Proofs.YtccacjkogdmleaaDoor


