/- Jd: Jd Jh, in one text. -/
import Derived.Test.YtolkfgikomminaaGreatDoorVb
import Derived.Test.YtolkfgikomminaaGreatDoorMq
import Derived.Deep.AppendLies
import Derived.Test.YtolkfgikomminaaGreatDoorJa
import Derived.Test.YtolkfgikomminaaGreatDoorPw
import Derived.BigQuiet
import Derived.Deep.RegionLaw
import Derived.Deep.CutRange
namespace Go.Proofs.YtolkfgikomminaaGreatDoor
open Go.RowKit Js
def ItM (c : Cl) (p : Js.Mem) (cs : List Value) : Prop := ∃ r : Array Value, cs = .string ⟨p.1.toArray⟩ :: r.toList ∧ p.2.In c (.agg r)
theorem ItM.mono {c c' : Cl} (h : c.le c') {p : Js.Mem} {cs : List Value} (k : ItM c p cs) : ItM c' p cs := by
 obtain ⟨r, h1, h2⟩ := k
 exact ⟨r, h1, In.keep h _ _ h2⟩

theorem on_sub {w : World} {S S' : Nat → Prop} (h : ∀ b, S b → S' b) : Cl.le (w.on S) (w.on S') := fun p u hp => by
 obtain ⟨h1, h2⟩ := on_some.1 hp
 exact on_some.2 ⟨h _ h1, h2⟩
theorem on_keep {w w' : World} {S S' : Nat → Prop} (h : ∀ b, S b → b < w.heap.size → S' b) (hb : ∀ b, S b → b < w.heap.size → w'.heap[b]? = w.heap[b]?) : Cl.le (w.on S) (w'.on S') := fun p u hp => by
 obtain ⟨h1, h2⟩ := on_some.1 hp
 have hlt := World.block_lt_of_cell? w _ h2
 exact on_some.2 ⟨h _ h1 hlt, by rw [World.cell?_of_block (w := w) (hb _ h1 hlt)]; exact h2⟩
theorem on_all (w : World) (S : Nat → Prop) : Cl.le (w.on S) w.cell? := fun _ _ hp => (on_some.1 hp).2

def OffS (S : Nat → Prop) (B : Nat) (A : Option Addr) : Nat → Prop := fun k => (S k ∨ B ≤ k) ∧ ∀ ad, A = some ad → k ≠ ad.block

def RowG {α : Type} (It : Cl → α → List Value → Prop) (T : TypeId) (k : Nat) (S : Nat → Prop) (w : World) (B : Nat) (A : Option Addr) (cp : Nat) (acc : List α) : Prop :=
 ∃ flat, w.ownsRow B T k (.slice A acc.length cp) acc.length flat ∧ (∀ u ∈ flat, u.oneCell' = true) ∧
  ∀ i a, acc[i]? = some a → ∃ cs, It (w.on (OffS S B A)) a cs ∧ ∀ (j : Nat) u, cs[j]? = some u → flat[i * k + j]? = some u

section
variable {α : Type} {It : Cl → α → List Value → Prop} {T : TypeId} {k : Nat} {S : Nat → Prop}

theorem RowG.nil (w : World) (B : Nat) : RowG It T k S w B none 0 [] := ⟨[], ⟨by simp, .inl ⟨rfl, rfl⟩⟩, (fun u h => by cases h), fun i v h => by simp at h⟩
theorem RowG.keep (hmono : ∀ {c c' : Cl}, c.le c' → ∀ {a cs}, It c a cs → It c' a cs) {w w' : World} {B : Nat} {A : Option Addr} {cp : Nat} {acc : List α} (h : RowG It T k S w B A cp acc)
  (hb : ∀ b, (S b ∨ B ≤ b) → b < w.heap.size → w'.heap[b]? = w.heap[b]?) : RowG It T k S w' B A cp acc := by
 obtain ⟨flat, hown, h1, hel⟩ := h
 refine ⟨flat, own_keep hown (fun b h2 h3 => hb b (.inr h2) h3), h1, fun i v hi => ?_⟩
 obtain ⟨cs, hx, hc⟩ := hel i v hi
 exact ⟨cs, hmono (on_keep (fun _ h _ => h) (fun b h h2 => hb b h.1 h2)) hx, hc⟩
theorem RowG.below (hmono : ∀ {c c' : Cl}, c.le c' → ∀ {a cs}, It c a cs → It c' a cs) {w w' : World} {B : Nat} {A : Option Addr} {cp : Nat} {acc : List α} (h : RowG It T k S w B A cp acc) (hb : Below w.heap.size w w') : RowG It T k S w' B A cp acc :=
 h.keep hmono (fun b _ h2 => hb.block b h2)
theorem RowG.le {w : World} {B : Nat} {A : Option Addr} {cp : Nat} {acc : List α} (h : RowG It T k S w B A cp acc) : acc.length ≤ cp ∧ cp ≤ maxLen ∧ (0 < acc.length → ∃ g, A = some ⟨g, 0, none⟩ ∧ B ≤ g ∧ g < w.heap.size) ∧ (∀ ad, A = some ad → B ≤ ad.block ∧ ad.block < w.heap.size) := by
 obtain ⟨flat, hown, _⟩ := h
 have hl := own_le hown
 refine ⟨hl.1, hl.2.1, fun hn => ?_, fun ad ha => ?_⟩
 ·cases A with
  | none => have := (hl.2.2.1 rfl).1; omega
  | some ad =>
   obtain ⟨g, rfl, h1, h2⟩ := hl.2.2.2 ad rfl
   exact ⟨g, rfl, h1, h2⟩
 ·obtain ⟨g, rfl, h1, h2⟩ := hl.2.2.2 ad ha
  exact ⟨h1, h2⟩
theorem RowG.push (hmono : ∀ {c c' : Cl}, c.le c' → ∀ {a cs}, It c a cs → It c' a cs) {w wx w6 : World} {B : Nat} {A : Option Addr} {cp : Nat} {acc : List α}
  {flat : List Value} (hown : w.ownsRow B T k (.slice A acc.length cp) acc.length flat) (hone : ∀ u ∈ flat, u.oneCell' = true)
  (hel : ∀ i a, acc[i]? = some a → ∃ cs, It (w.on (OffS S B A)) a cs ∧ ∀ (j : Nat) u, cs[j]? = some u → flat[i * k + j]? = some u)
  (hb : Below w.heap.size w wx) {a : α} {cs : List Value} (ha : It (wx.on (OffS S B A)) a cs) (hcs : ∀ u ∈ cs, u.oneCell' = true) {g cap : Nat}
  (h6 : w6.ownsRow B T k (.slice (some ⟨g, 0, none⟩) (acc.length + 1) cap) (acc.length + 1) (flat ++ cs)) (hg : wx.grownBy w6 (Value.slice A acc.length cp).ownBlock)
  (hat : (Value.slice A acc.length cp).ownBlock = some g ∨ g = wx.heap.size) : RowG It T k S w6 B (some ⟨g, 0, none⟩) cap (acc ++ [a]) := by
 have hA : ∀ b, (∀ ad, A = some ad → b ≠ ad.block) ↔ some b ≠ (Value.slice A acc.length cp).ownBlock := by
  intro b
  cases A with
  | none => simp [Value.ownBlock]
  | some ad => simp [Value.ownBlock]
 have hle : ∀ {v : World}, (∀ b, b < v.heap.size → b < wx.heap.size) → (∀ b, (S b ∨ B ≤ b) → (∀ ad, A = some ad → b ≠ ad.block) → b < v.heap.size → w6.heap[b]? = v.heap[b]?) → Cl.le (v.on (OffS S B A)) (w6.on (OffS S B (some ⟨g, 0, none⟩))) := fun {v} hlt hv =>
  on_keep (fun b h1 h2 => ⟨h1.1, fun ad e => by
   cases e
   rcases hat with h | h
   ·intro e2; exact (hA b).1 h1.2 (by rw [h]; exact congrArg some e2)
   ·intro e2
    have := hlt b h2
    have e3 : b = g := e2
    omega⟩) (fun b h1 h2 => hv b h1.1 h1.2 h2)
 have hfl : flat.length = acc.length * k := hown.1
 refine ⟨flat ++ cs, by rw [List.length_append, List.length_singleton]; exact h6, fun u hu => (List.mem_append.1 hu).elim (hone u) (hcs u), fun i u hi => ?_⟩
 by_cases hlt : i < acc.length
 ·rw [List.getElem?_append_left hlt] at hi
  obtain ⟨ds, hx, hc⟩ := hel i u hi
  refine ⟨ds, hmono (hle (fun b h => Nat.lt_of_lt_of_le h hb.size) (fun b _ h2 h3 => (hg.block b (Nat.lt_of_lt_of_le h3 hb.size) ((hA b).1 h2)).trans (hb.block b h3))) hx, fun j y hy => ?_⟩
  have := hc j y hy
  rw [List.getElem?_append_left (List.getElem?_eq_some_iff.1 this).1]
  exact this
 ·obtain rfl : i = acc.length := by
   have := (List.getElem?_eq_some_iff.1 hi).1
   rw [List.length_append, List.length_singleton] at this; omega
  rw [List.getElem?_append_right (Nat.le_refl _)] at hi
  simp at hi
  subst hi
  refine ⟨cs, hmono (hle (fun b h => h) (fun b _ h2 h3 => hg.block b h3 ((hA b).1 h2))) ha, fun j y hy => ?_⟩
  rw [List.getElem?_append_right (by omega), hfl, Nat.add_sub_cancel_left]
  exact hy
end
theorem RowG.slM {S : Nat → Prop} {w : World} {B : Nat} {A : Option Addr} {cp : Nat} {acc : List Js.Mem} (h : RowG ItM 91 9 S w B A cp acc) : SlM (w.on (fun b => S b ∨ B ≤ b)) A acc := fun i p hi => by
 have hl := h.le
 obtain ⟨flat, hown, _, hel⟩ := h
 obtain ⟨cs, ⟨r, rfl, hx⟩, hc⟩ := hel i p hi
 obtain ⟨g, rfl, hg1, hg2⟩ := hl.2.2.1 (by have := (List.getElem?_eq_some_iff.1 hi).1; omega)
 refine ⟨g, 0, .agg r, rfl, In.keep (on_sub fun b h => h.1) _ _ hx, ?_, fun j u hu => ?_⟩
 ·rw [Nat.zero_add]
  exact on_some.2 ⟨.inr hg1, own_cell hown _ _ (hc 0 _ rfl)⟩
 ·rw [Nat.zero_add]
  refine on_some.2 ⟨.inr hg1, own_cell hown _ _ ?_⟩
  have := hc (j + 1) u (by simpa [Value.cells] using hu)
  rw [show i * 9 + 1 + j = i * 9 + (j + 1) by omega]
  exact this
theorem In.mk' {c : Cl} {k : Int} {b : Bool} {n : Nm.Num} {s : List UInt8} {l : List Vl} {m : List Js.Mem} {A B : Option Addr} {e d : Nat} (hl : SlL c A l) (hm : SlM c B m) (h1 : l.length ≤ e) (h2 : e ≤ maxLen) (h3 : m.length ≤ d) (h4 : d ≤ maxLen) :
  (Vl.mk k b n s l m).In c (vlV k b n.neg n.digits n.exp s (.slice A l.length e) (.slice B m.length d)) := by
 simp only [Vl.In]
 refine ⟨A, e, B, d, rfl, h1, h2, h3, h4, fun hn => ?_, fun hn => ?_⟩
 ·cases l with
  | nil => simp at hn
  | cons v l =>
   obtain ⟨g, o, y, rfl, _, _⟩ := hl 0 v rfl
   refine ⟨g, o, rfl, LIn.of fun i u hi => ?_⟩
   obtain ⟨g2, o2, y2, h5, h6, h7⟩ := hl i u hi
   cases h5
   exact ⟨y2, h6, h7⟩
 ·cases m with
  | nil => simp at hn
  | cons p m =>
   obtain ⟨g, o, y, rfl, _, _, _⟩ := hm 0 p rfl
   refine ⟨g, o, rfl, MIn.of fun i u hi => ?_⟩
   obtain ⟨g2, o2, y2, h5, h6, h7, h8⟩ := hm i u hi
   cases h5
   exact ⟨h7, y2, h6, h8⟩
end Go.Proofs.YtolkfgikomminaaGreatDoor

namespace Go.Proofs.YtolkfgikomminaaGreatDoor
open Go.RowKit Pt Js
end Go.Proofs.YtolkfgikomminaaGreatDoor

namespace Go.Proofs.YtolkfgikomminaaGreatDoor.Ed
open Js Pt
open Ps (less)

def pieceL (op : Nat) (last : Bool) (l : List Vl) (i0 : Nat) (x z : Vl) (j : Nat) : List Vl :=
 (if j = i0 ∧ last = true ∧ op ≠ 2 then [x] else []) ++ (if j = l.length ∨ (j = i0 ∧ last = true ∧ op ≠ 1) then [] else [if j = i0 ∧ last = false then z else l[j]?.getD z])
def outL (op : Nat) (last : Bool) (l : List Vl) (i0 : Nat) (x z : Vl) : Nat → List Vl
 | 0 => []
 | j + 1 => outL op last l i0 x z j ++ pieceL op last l i0 x z j
def met (nm : List UInt8) (m : List Mem) (j : Nat) : Bool := (m.take j).any fun p => !less nm p
end Go.Proofs.YtolkfgikomminaaGreatDoor.Ed

namespace Go.Proofs.YtolkfgikomminaaGreatDoor
open Go.RowKit Pt Js

abbrev outC (k : Int) (b : Bool) (n : Nm.Num) (s : List UInt8) (lv mv : Value) : Array Value := #[.int .i64 k, .bool b, .bool n.neg, .string ⟨n.digits.toArray⟩, .int .i64 n.exp, .string ⟨s.toArray⟩, lv, mv]
section
variable {w wr w' : World} {g8 g10 : Nat} {V X O : Array Value}
theorem Blk.grown {w w' : World} {g : Nat} {t : TypeId} {cs : Array Value} {row : Option Nat} (h : Blk w g t cs) (hg : w.grownBy w' row) (hr : ∀ k, row = some k → g < k) : Blk w' g t cs :=
 (hg.block g h.lt (fun e => by have := hr g e.symm; omega)).trans h
theorem Blk.far {w : World} {g h i : Nat} {t : TypeId} {cs : Array Value} {u : Value} (hb : Blk w g t cs) (hn : g ≠ h) : Blk (w.setCell ⟨h, i, none⟩ u) g t cs := by
 unfold Blk at hb ⊢
 simp [World.setCell, Array.getElem?_modify, hb, Ne.symm hn]
end
theorem heap_setCell (w : World) (h i : Nat) (u : Value) {b : Nat} (hb : b ≠ h) : (w.setCell ⟨h, i, none⟩ u).heap[b]? = w.heap[b]? := by
 simp [World.setCell, Array.getElem?_modify, Ne.symm hb]
set_option linter.unusedVariables false in
theorem off_of {S : Nat → Prop} {w w5 : World} {B : Nat} {A : Option Addr} (hS : ∀ b, S b → b < w.heap.size) (hB : w.heap.size ≤ B) (hb : Below w.heap.size w w5) (hA : ∀ ad, A = some ad → B ≤ ad.block) : Cl.le (w.on S) (w5.on (OffS S B A)) :=
 on_keep (fun b h h2 => ⟨.inl h, fun ad e => by have := hA ad e; omega⟩) (fun b _ h2 => hb.block b h2)

end Go.Proofs.YtolkfgikomminaaGreatDoor

namespace Go.Proofs.YtolkfgikomminaaGreatDoor.Ed
open Js Pt
open Ps (less)
section
variable {op : Nat} {last : Bool} {m : List Mem} {nm : List UInt8} {x z : Vl} {j : Nat}
end

end Go.Proofs.YtolkfgikomminaaGreatDoor.Ed
namespace Go.Proofs.YtolkfgikomminaaGreatDoor
open Go.RowKit Pt Js
end Go.Proofs.YtolkfgikomminaaGreatDoor


