/- Dc: Dc De Dg, in one text. -/
import Derived.Test.YtolkfgikomminaaGreatDoorDa
import Derived.Test.YtolkfgikomminaaGreatDoorJd
import Derived.Test.YtolkfgikomminaaGreatDoorPq
namespace Go.Proofs.YtolkfgikomminaaGreatDoor
open Go.RowKit Js Pt

def ItKid (_ : Cl) (p : List UInt8 × Nat) (cs : List Value) : Prop := cs = [.string ⟨p.1.toArray⟩, .int .i64 p.2]
def SlKid (c : Cl) (A : Option Addr) (ks : List (List UInt8 × Nat)) : Prop := ∀ i p, ks[i]? = some p → ∃ g o, A = some ⟨g, o, none⟩ ∧ c ⟨g, o + i * 2, none⟩ = some (.string ⟨p.1.toArray⟩) ∧ c ⟨g, o + i * 2 + 1, none⟩ = some (.int .i64 p.2)
def ItKey (c : Cl) (k : Cm.Key) (cs : List Value) : Prop := ∃ (r : Array Value) (A : Option Addr) (cp : Nat), cs = .string ⟨k.name.toArray⟩ :: (r.toList ++ [.slice A k.kids.length cp]) ∧ k.v.In c (.agg r) ∧ SlKid c A k.kids ∧ k.kids.length ≤ cp ∧ cp ≤ maxLen
def SlKey (c : Cl) (A : Option Addr) (ks : List Cm.Key) : Prop := ∀ i k, ks[i]? = some k → ∃ g o cs, A = some ⟨g, o, none⟩ ∧ ItKey c k cs ∧ ∀ (j : Nat) u, cs[j]? = some u → c ⟨g, o + i * 10 + j, none⟩ = some u
def ItN (c : Cl) (N : Cm.Node) (cs : List Value) : Prop := ∃ (A : Option Addr) (cp : Nat), cs = [.string ⟨(text N.at_).toArray⟩, .bool N.all, .bool N.pass, .slice A N.keys.length cp] ∧ SlKey c A N.keys ∧ N.keys.length ≤ cp ∧ cp ≤ maxLen
def SlN (c : Cl) (A : Option Addr) (a : List Cm.Node) : Prop := ∀ i N, a[i]? = some N → ∃ g o cs, A = some ⟨g, o, none⟩ ∧ ItN c N cs ∧ ∀ (j : Nat) u, cs[j]? = some u → c ⟨g, o + i * 4 + j, none⟩ = some u
section
variable {c c' : Cl}
theorem ItKid.mono (_ : c.le c') {p : List UInt8 × Nat} {cs : List Value} (h : ItKid c p cs) : ItKid c' p cs := h
theorem SlKid.keep (h : c.le c') {A : Option Addr} {ks : List (List UInt8 × Nat)} (hs : SlKid c A ks) : SlKid c' A ks := fun i p hi => by
 obtain ⟨g, o, h1, h2, h3⟩ := hs i p hi
 exact ⟨g, o, h1, h _ _ h2, h _ _ h3⟩
theorem ItKey.mono (h : c.le c') {k : Cm.Key} {cs : List Value} (hs : ItKey c k cs) : ItKey c' k cs := by
 obtain ⟨r, A, cp, h1, h2, h3, h4, h5⟩ := hs
 exact ⟨r, A, cp, h1, In.keep h _ _ h2, h3.keep h, h4, h5⟩
theorem SlKey.keep (h : c.le c') {A : Option Addr} {ks : List Cm.Key} (hs : SlKey c A ks) : SlKey c' A ks := fun i k hi => by
 obtain ⟨g, o, cs, h1, h2, h3⟩ := hs i k hi
 exact ⟨g, o, cs, h1, h2.mono h, fun j u hu => h _ _ (h3 j u hu)⟩
theorem ItN.mono (h : c.le c') {N : Cm.Node} {cs : List Value} (hs : ItN c N cs) : ItN c' N cs := by
 obtain ⟨A, cp, h1, h2, h3, h4⟩ := hs
 exact ⟨A, cp, h1, h2.keep h, h3, h4⟩
theorem SlN.keep (h : c.le c') {A : Option Addr} {a : List Cm.Node} (hs : SlN c A a) : SlN c' A a := fun i N hi => by
 obtain ⟨g, o, cs, h1, h2, h3⟩ := hs i N hi
 exact ⟨g, o, cs, h1, h2.mono h, fun j u hu => h _ _ (h3 j u hu)⟩
end
structure But (X : Nat → Prop) (w w' : World) : Prop where
 os : w'.os = w.os
 tape : w'.tape = w.tape
 output : w'.output = w.output
 size : w.heap.size ≤ w'.heap.size
 block : ∀ b, b < w.heap.size → ¬ X b → w'.heap[b]? = w.heap[b]?
section
variable {X Y : Nat → Prop} {w w' w'' : World}
theorem But.refl (X : Nat → Prop) (w : World) : But X w w := ⟨rfl, rfl, rfl, Nat.le_refl _, fun _ _ _ => rfl⟩
theorem But.of (h : Below w.heap.size w w') : But X w w' := ⟨h.os, h.tape, h.output, h.size, fun b hb _ => h.block b hb⟩
theorem But.sub (h : But X w w') (hs : ∀ b, b < w.heap.size → X b → Y b) : But Y w w' := ⟨h.os, h.tape, h.output, h.size, fun b hb hy => h.block b hb (fun hx => hy (hs b hb hx))⟩
theorem But.trans (h : But X w w') (h' : But Y w' w'') (hs : ∀ b, b < w.heap.size → Y b → X b) : But X w w'' :=
 ⟨h'.os.trans h.os, h'.tape.trans h.tape, h'.output.trans h.output, Nat.le_trans h.size h'.size, fun b hb hx => (h'.block b (Nat.lt_of_lt_of_le hb h.size) (fun hy => hx (hs b hb hy))).trans (h.block b hb hx)⟩
theorem But.below {B : Nat} (h : But X w w') (hB : B ≤ w.heap.size) (hX : ∀ b, b < B → ¬ X b) : Below B w w' := ⟨h.os, h.tape, h.output, h.size, fun b hb => h.block b (Nat.lt_of_lt_of_le hb hB) (hX b hb)⟩
theorem But.set (h : But X w w') {p : Addr} (hp : w.heap.size ≤ p.block ∨ X p.block) (u : Value) : But X w (w'.setCell p u) :=
 ⟨h.os, h.tape, h.output, by simpa [World.setCell] using h.size, fun b hb hx => (Below.heap_setCell w' p u b (fun e => by subst e; rcases hp with k | k; omega; exact hx k)).trans (h.block b hb hx)⟩
theorem But.grown {row : Option Nat} (h : But X w w') (hg : w'.grownBy w'' row) (hr : ∀ q, row = some q → w.heap.size ≤ q ∨ X q) : But X w w'' :=
 ⟨hg.os.trans h.os, hg.tape.trans h.tape, hg.output.trans h.output, Nat.le_trans h.size hg.size, fun b hb hx => (hg.block b (Nat.lt_of_lt_of_le hb h.size) (fun e => by rcases hr b e.symm with k | k; omega; exact hx k)).trans (h.block b hb hx)⟩
theorem But.blk {g : Nat} {t : TypeId} {cs : Array Value} (h : But X w w') (hb : Blk w g t cs) (hx : ¬ X g) : Blk w' g t cs := (h.block g hb.lt hx).trans hb
theorem But.on (h : But X w w') {S S' : Nat → Prop} (hs : ∀ b, S b → S' b) (hx : ∀ b, S b → b < w.heap.size → ¬ X b) : Cl.le (w.on S) (w'.on S') := on_keep (fun b hb _ => hs b hb) (fun b hb h2 => h.block b h2 (hx b hb h2))
end

def RowX {α : Type} (It : Cl → α → List Value → Prop) (T : TypeId) (k : Nat) (X : Nat → Prop) (w : World) (B : Nat) (A : Option Addr) (cp : Nat) (acc : List α) : Prop :=
 ∃ (R : Nat → Prop) (flat : List Value), (∀ b, R b → b < w.heap.size ∧ ¬ X b ∧ ∀ ad, A = some ad → b ≠ ad.block) ∧ w.ownsRow B T k (.slice A acc.length cp) acc.length flat ∧ (∀ u ∈ flat, u.oneCell' = true) ∧
  ∀ i a, acc[i]? = some a → ∃ cs, It (w.on R) a cs ∧ ∀ (j : Nat) u, cs[j]? = some u → flat[i * k + j]? = some u
section
variable {α : Type} {It : Cl → α → List Value → Prop} {T : TypeId} {k : Nat} {X : Nat → Prop} {w w' : World} {B : Nat} {A : Option Addr} {cp : Nat} {acc : List α}
theorem RowX.nil (w : World) (B : Nat) : RowX It T k X w B none 0 [] := ⟨fun _ => False, [], (fun b h => h.elim), ⟨by simp, .inl ⟨rfl, rfl⟩⟩, (fun u h => by cases h), fun i v h => by simp at h⟩
theorem RowX.le (h : RowX It T k X w B A cp acc) : acc.length ≤ cp ∧ cp ≤ maxLen ∧ (∀ ad, A = some ad → ∃ g, ad = ⟨g, 0, none⟩ ∧ B ≤ g ∧ g < w.heap.size) := by
 obtain ⟨R, flat, _, hown, _⟩ := h
 have hl := own_le hown
 exact ⟨hl.1, hl.2.1, hl.2.2.2⟩
theorem RowX.but (hmono : ∀ {c c' : Cl}, c.le c' → ∀ {a cs}, It c a cs → It c' a cs) {X' : Nat → Prop} (h : RowX It T k X w B A cp acc) (hb : But X w w') (hA : ∀ ad, A = some ad → ¬ X ad.block) (hX : ∀ b, b < w.heap.size → X' b → X b) : RowX It T k X' w' B A cp acc := by
 obtain ⟨R, flat, hR, hown, h1, hel⟩ := h
 refine ⟨R, flat, fun b hb2 => ⟨Nat.lt_of_lt_of_le (hR b hb2).1 hb.size, fun hx => (hR b hb2).2.1 (hX b (hR b hb2).1 hx), (hR b hb2).2.2⟩, ⟨hown.1, ?_⟩, h1, fun i a hi => ?_⟩
 ·rcases hown.2 with h0 | ⟨g, cap, cur, e, h2, h3, h4⟩
  ·exact .inl h0
  ·refine .inr ⟨g, cap, cur, e, h2, ?_, h4⟩
   injection e with e1 _ _
   have hlt : g < w.heap.size := by
    rcases Nat.lt_or_ge g w.heap.size with q | q
    ·exact q
    ·rw [Array.getElem?_eq_none q] at h3; cases h3
   rw [hb.block g hlt (hA _ e1)]; exact h3
 ·obtain ⟨cs, h2, h3⟩ := hel i a hi
  exact ⟨cs, hmono (hb.on (fun _ h => h) (fun b hb2 _ => (hR b hb2).2.1)) h2, h3⟩
theorem RowX.push (hmono : ∀ {c c' : Cl}, c.le c' → ∀ {a cs}, It c a cs → It c' a cs) {j : Nat} (hj : acc.length = j) (h : RowX It T k X w B A cp acc) :
  ∃ flat, w.ownsRow B T k (.slice A j cp) j flat ∧ ∀ {w6 : World} {a : α} {cs : List Value} {g cap : Nat} {Rn : Nat → Prop}, It (w.on Rn) a cs → (∀ b, Rn b → b < w.heap.size ∧ ¬ X b ∧ ∀ ad, A = some ad → b ≠ ad.block) → (∀ u ∈ cs, u.oneCell' = true) → cs.length = k → w6.ownsRow B T k (.slice (some ⟨g, 0, none⟩) (j + 1) cap) (j + 1) (flat ++ cs) → w.grownBy w6 (Value.slice A j cp).ownBlock → ((Value.slice A j cp).ownBlock = some g ∨ g = w.heap.size) → RowX It T k X w6 B (some ⟨g, 0, none⟩) cap (acc ++ [a]) := by
 subst hj
 obtain ⟨R, flat, hR, hown, h1, hel⟩ := h
 refine ⟨flat, hown, ?_⟩
 intro w6 a cs g cap Rn ha hRn hcs hck h6 hg hat
 have hA : ∀ b, (∀ ad, A = some ad → b ≠ ad.block) → some b ≠ (Value.slice A acc.length cp).ownBlock := by
  intro b hb e
  cases A with
  | none => cases e
  | some ad =>
   obtain ⟨g2, rfl, _⟩ := (own_le hown).2.2.2 ad rfl
   exact hb _ rfl (by simpa [Value.ownBlock] using e)
 have hAg : ∀ b, b < w.heap.size → (∀ ad, A = some ad → b ≠ ad.block) → b ≠ g := by
  intro b hb h2 e
  subst e
  rcases hat with hat | hat
  ·exact hA b h2 hat.symm
  ·omega
 have hall : ∀ b, (R b ∨ Rn b) → b < w.heap.size ∧ ¬ X b ∧ ∀ ad, A = some ad → b ≠ ad.block := fun b hb => hb.elim (hR b) (hRn b)
 have hkeep : ∀ (R' : Nat → Prop), (∀ b, R' b → R b ∨ Rn b) → Cl.le (w.on R') (w6.on fun b => R b ∨ Rn b) := fun R' hR' => on_keep (fun b hb _ => hR' b hb) (fun b hb h2 => hg.block b h2 (hA b (hall b (hR' b hb)).2.2))
 refine ⟨fun b => R b ∨ Rn b, flat ++ cs, fun b hb => ⟨Nat.lt_of_lt_of_le (hall b hb).1 hg.size, (hall b hb).2.1, fun ad e => ?_⟩, ?_, ?_, ?_⟩
 ·injection e with e; subst e
  exact hAg b (hall b hb).1 (hall b hb).2.2
 ·rw [List.length_append]; exact h6
 ·intro u hu
  exact (List.mem_append.1 hu).elim (h1 u) (hcs u)
 ·intro i x hi
  by_cases hlt : i < acc.length
  ·rw [List.getElem?_append_left hlt] at hi
   obtain ⟨cs2, h2, h3⟩ := hel i x hi
   exact ⟨cs2, hmono (hkeep R (fun b h => .inl h)) h2, fun j u hu => by
    have := h3 j u hu
    rw [List.getElem?_append_left ((List.getElem?_eq_some_iff.1 this).1)]; exact this⟩
  ·rw [List.getElem?_append_right (by omega)] at hi
   have hl := (List.getElem?_eq_some_iff.1 hi).1
   have h0 : i - acc.length = 0 := by simp at hl; omega
   rw [h0] at hi
   obtain rfl : a = x := by simpa using hi
   refine ⟨cs, hmono (hkeep Rn (fun b h => .inr h)) ha, fun j u hu => ?_⟩
   have hfl : flat.length = acc.length * k := hown.1
   rw [show i = acc.length by omega, List.getElem?_append_right (by rw [hfl]; omega), hfl, Nat.add_sub_cancel_left]
   exact hu
theorem add_at' (g o j : Nat) : (⟨g, o, none⟩ : Addr).add j = ⟨g, o + j, none⟩ := by
 unfold Addr.add
 by_cases hj0 : j = 0 <;> simp [hj0]
theorem RowX.items (h : RowX It T k X w B A cp acc) {i : Nat} {a : α} (hi : acc[i]? = some a) :
  ∃ (R : Nat → Prop) (g : Nat) (cs : List Value), A = some ⟨g, 0, none⟩ ∧ B ≤ g ∧ (∀ b, R b → b < w.heap.size ∧ ¬ X b ∧ b ≠ g) ∧ It (w.on R) a cs ∧ ∀ (j : Nat) u, cs[j]? = some u → w.cell? ⟨g, i * k + j, none⟩ = some u := by
 obtain ⟨R, flat, hR, hown, _, hel⟩ := h
 obtain ⟨cs, h1, h2⟩ := hel i a hi
 have hil := (List.getElem?_eq_some_iff.1 hi).1
 rcases hown.2 with ⟨e, h0⟩ | ⟨g, cap, cur, e, hbg, _⟩
 ·omega
 ·injection e with e1 e2 e3
  subst e1
  have hc := hown.cells (g := g) rfl
  refine ⟨R, g, cs, rfl, hbg, fun b hb => ⟨(hR b hb).1, (hR b hb).2.1, (hR b hb).2.2 _ rfl⟩, h1, fun j u hu => ?_⟩
  have := hc _ _ (h2 j u hu)
  rw [add_at', Nat.zero_add] at this
  exact this
end
theorem RowX.slN {X : Nat → Prop} {w : World} {B : Nat} {A : Option Addr} {cp : Nat} {a : List Cm.Node} (h : RowX ItN 39 4 X w B A cp a) : SlN w.cell? A a := fun i N hi => by
 obtain ⟨R, g, cs, hA, _, _, h1, h2⟩ := RowX.items (It := ItN) h hi
 exact ⟨g, 0, cs, hA, h1.mono (on_all _ _), fun j u hu => by rw [Nat.zero_add]; exact h2 j u hu⟩
theorem RowX.slKey {X : Nat → Prop} {w : World} {B : Nat} {A : Option Addr} {cp : Nat} {a : List Cm.Key} (h : RowX ItKey 43 10 X w B A cp a) (hA0 : ∀ ad, A = some ad → ¬ X ad.block) : ∃ Rn : Nat → Prop, (∀ b, Rn b → b < w.heap.size ∧ ¬ X b) ∧ SlKey (w.on Rn) A a := by
 refine ⟨fun b => b < w.heap.size ∧ ¬ X b, fun b h => h, fun i N hi => ?_⟩
 obtain ⟨R, g, cs, hA, _, hR, h1, h2⟩ := RowX.items (It := ItKey) h hi
 refine ⟨g, 0, cs, hA, h1.mono (on_sub fun b hb => ⟨(hR b hb).1, (hR b hb).2.1⟩), fun j u hu => ?_⟩
 have hc := h2 j u hu
 rw [Nat.zero_add]
 exact on_some.2 ⟨⟨World.block_lt_of_cell? _ _ hc, hA0 ⟨g, 0, none⟩ hA⟩, hc⟩
end Go.Proofs.YtolkfgikomminaaGreatDoor

namespace Go.Proofs.YtolkfgikomminaaGreatDoor
open Go.RowKit Js Pt

def Bk (A : Option Addr) (b : Nat) : Prop := ∃ ad, A = some ad ∧ b = ad.block
structure Mk (gm : Nat) (Y : Nat → Prop) (A : Option Addr) (cp : Nat) (acc : List Cm.Node) (bad : Nat) (p : List UInt8) (w : World) : Prop where
 blk : Blk w gm 74 #[.slice A acc.length cp, .int .i64 bad, .string ⟨p.toArray⟩]
 row : RowX ItN 39 4 (fun b => b = gm ∨ Y b) w (gm + 1) A cp acc
 few : acc.length ≤ 200
 apart : ∀ b, Bk A b → ¬ Y b
 ng : ¬ Y gm
 yl : ∀ b, Y b → b < w.heap.size
def LX (gm : Nat) (A : Option Addr) (b : Nat) : Prop := b = gm ∨ Bk A b
def RowOn (A A' : Option Addr) (w : World) : Prop := ∀ b, Bk A' b → Bk A b ∨ w.heap.size ≤ b
theorem RowOn.refl (A : Option Addr) (w : World) : RowOn A A w := fun _ h => .inl h
theorem RowOn.trans {A A' A'' : Option Addr} {w w' : World} (h : RowOn A A' w) (h' : RowOn A' A'' w') (hs : w.heap.size ≤ w'.heap.size) : RowOn A A'' w := fun b e => by
 rcases h' b e with e1 | e1
 ·exact h b e1
 ·exact .inr (Nat.le_trans hs e1)
theorem LX.back {gm : Nat} {A A' : Option Addr} {w : World} (h : RowOn A A' w) (b : Nat) (hb : b < w.heap.size) (hx : LX gm A' b) : LX gm A b := by
 rcases hx with hx | hx
 ·exact .inl hx
 ·rcases h b hx with e | e
  ·exact .inr e
  ·omega
structure NodeL (gm : Nat) (Y : Nat → Prop) (A : Option Addr) (A' : Option Addr) (cp' : Nat) (acc' : List Cm.Node) (bad' : Nat) (p' : List UInt8) (w w' : World) : Prop where
 maker : Mk gm Y A' cp' acc' bad' p' w'
 but : But (LX gm A) w w'
 on : RowOn A A' w
def NodeR (acc : List Cm.Node) (p : List UInt8) (r : Cm.Res (List Cm.Node)) (acc' : List Cm.Node) (bad' : Nat) (p' : List UInt8) : Prop :=
 (∃ a, r = .ok a ∧ acc' = acc ++ a ∧ bad' = 0 ∧ p' = p) ∨ (∃ c q, r = .bad c q ∧ ¬ c = 0 ∧ c ≤ 14 ∧ bad' = c ∧ p' = text q ∧ acc.length ≤ acc'.length)
section
variable {gm : Nat} {Y Y0 Y' : Nat → Prop} {A : Option Addr} {cp : Nat} {acc : List Cm.Node} {bad : Nat} {p : List UInt8} {w w' : World}
theorem Mk.lt (h : Mk gm Y A cp acc bad p w) : gm < w.heap.size := h.blk.lt
theorem Mk.rowAt (h : Mk gm Y A cp acc bad p w) {b : Nat} (e : Bk A b) : gm < b ∧ b < w.heap.size := by
 obtain ⟨ad, e, rfl⟩ := e
 obtain ⟨g, rfl, hg, hl⟩ := h.row.le.2.2 ad e
 exact ⟨hg, hl⟩
theorem Mk.but (h : Mk gm Y A cp acc bad p w) (hb : But Y0 w w') (h0 : ∀ b, b < w.heap.size → Y0 b → Y b) (hy : ∀ b, b < w.heap.size → Y' b → Y b) (hl : ∀ b, Y' b → b < w'.heap.size) : Mk gm Y' A cp acc bad p w' where
 blk := hb.blk h.blk (fun k => h.ng (h0 gm h.lt k))
 row := RowX.but (It := ItN) (fun h => ItN.mono h) h.row (hb.sub (Y := fun b => b = gm ∨ Y b) (fun b hb k => .inr (h0 b hb k))) (fun ad e k => by
  have hr := h.rowAt ⟨ad, e, rfl⟩
  rcases k with k | k
  ·omega
  ·exact h.apart _ ⟨ad, e, rfl⟩ k) (fun b hb k => k.imp id (hy b hb))
 few := h.few
 apart := fun b e k => h.apart b e (hy b (h.rowAt e).2 k)
 ng := fun k => h.ng (hy gm h.lt k)
 yl := hl
theorem Mk.on (h : Mk gm Y A cp acc bad p w) (hb : Below w.heap.size w w') : Mk gm Y A cp acc bad p w' :=
 h.but (Y0 := fun _ => False) (But.of hb) (fun _ _ k => k.elim) (fun _ _ k => k) (fun b k => Nat.lt_of_lt_of_le (h.yl b k) hb.size)
theorem Mk.set (h : Mk gm Y A cp acc bad p w) (i : Nat) (u : Value) {bad' : Nat} {p' : List UInt8} (hc : Blk (w.setCell ⟨gm, i, none⟩ u) gm 74 #[.slice A acc.length cp, .int .i64 bad', .string ⟨p'.toArray⟩]) : Mk gm Y A cp acc bad' p' (w.setCell ⟨gm, i, none⟩ u) where
 blk := hc
 row := RowX.but (It := ItN) (fun h => ItN.mono h) h.row ((But.refl (fun b => b = gm ∨ Y b) w).set (p := ⟨gm, i, none⟩) (.inr (.inl rfl)) u) (fun ad e k => by
  have hr := h.rowAt ⟨ad, e, rfl⟩
  rcases k with k | k
  ·omega
  ·exact h.apart _ ⟨ad, e, rfl⟩ k) (fun b hb k => k)
 few := h.few
 apart := h.apart
 ng := h.ng
 yl := fun b k => by simpa [World.setCell] using h.yl b k
theorem Mk.setBad (h : Mk gm Y A cp acc bad p w) (c : Nat) : Mk gm Y A cp acc c p (w.setCell ⟨gm, 1, none⟩ (.int .i64 c)) :=
 h.set 1 _ (Blk.setL (l := [.slice A acc.length cp, .int .i64 bad, .string ⟨p.toArray⟩]) h.blk 1 _)
theorem Mk.setPath (h : Mk gm Y A cp acc bad p w) (q : List UInt8) : Mk gm Y A cp acc bad q (w.setCell ⟨gm, 2, none⟩ (.string ⟨q.toArray⟩)) :=
 h.set 2 _ (Blk.setL (l := [.slice A acc.length cp, .int .i64 bad, .string ⟨p.toArray⟩]) h.blk 2 _)
end

structure NodeW (w : World) (gm : Nat) (Y : Nat → Prop) (A : Option Addr) (cs : Array Value) (A' : Option Addr) (cp' : Nat) (acc' : List Cm.Node) (bad' : Nat) (p' : List UInt8) (Ak : Option Addr) (ck : Nat) (keys : List Cm.Key) (Z : Nat → Prop) (W : World) : Prop where
 box : Blk W w.heap.size 31 cs
 maker : Mk gm (fun b => Y b ∨ Bk Ak b ∨ Z b) A' cp' acc' bad' p' W
 but : But (LX gm A) w W
 on : RowOn A A' w
 lt : gm < w.heap.size
 far : ¬ Bk A' w.heap.size
 keys : RowX ItKey 43 10 (fun b => LX gm A' b ∨ Y b ∨ Z b) W (w.heap.size + 1) Ak ck keys
 yl : ∀ b, Y b → b < w.heap.size
 zl : ∀ b, Z b → w.heap.size < b
 zk : ∀ b, Bk Ak b → ¬ Z b
section
variable {w : World} {gm : Nat} {Y : Nat → Prop} {A : Option Addr} {cs : Array Value} {A' A'' : Option Addr} {cp' cp'' : Nat} {acc' acc'' : List Cm.Node} {bad' bad'' : Nat} {p' p'' : List UInt8} {Ak Ak' : Option Addr} {ck ck' : Nat} {keys keys' : List Cm.Key} {Z Z' : Nat → Prop} {W W' : World}
theorem NodeW.keyAt (h : NodeW w gm Y A cs A' cp' acc' bad' p' Ak ck keys Z W) {b : Nat} (e : Bk Ak b) : w.heap.size < b ∧ b < W.heap.size := by
 obtain ⟨ad, e, rfl⟩ := e
 obtain ⟨g, rfl, hg, hl⟩ := h.keys.le.2.2 ad e
 exact ⟨hg, hl⟩
theorem NodeW.boxX (h : NodeW w gm Y A cs A' cp' acc' bad' p' Ak ck keys Z W) : ¬ LX gm A' w.heap.size := by
 rintro (e | e)
 ·have := h.lt; omega
 ·exact h.far e
theorem NodeW.keyX (h : NodeW w gm Y A cs A' cp' acc' bad' p' Ak ck keys Z W) {b : Nat} (e : Bk Ak b) : ¬ (LX gm A' b ∨ Y b ∨ Z b) := by
 have hk := h.keyAt e
 rintro ((k | k) | k | k)
 ·have := h.lt; omega
 ·exact h.maker.apart b k (.inr (.inl e))
 ·have := h.yl b k; omega
 ·exact h.zk b e k
theorem NodeW.call (h : NodeW w gm Y A cs A' cp' acc' bad' p' Ak ck keys Z W) (hb : But (LX gm A') W W') (hr : RowOn A' A'' W) (hm : Mk gm (fun b => Y b ∨ Bk Ak b ∨ Z b) A'' cp'' acc'' bad'' p'' W') : NodeW w gm Y A cs A'' cp'' acc'' bad'' p'' Ak ck keys Z W' where
 box := hb.blk h.box h.boxX
 maker := hm
 but := h.but.trans hb (fun b hb2 k => LX.back h.on b hb2 k)
 on := h.on.trans hr h.but.size
 lt := h.lt
 far := fun k => by
  rcases hr _ k with k | k
  ·exact h.far k
  ·have := h.box.lt; omega
 keys := RowX.but (It := ItKey) (fun h => ItKey.mono h) h.keys (hb.sub (fun b _ k => .inl k)) (fun ad e => h.keyX ⟨ad, e, rfl⟩) (fun b hb2 k => k.imp (LX.back hr b hb2) id)
 yl := h.yl
 zl := h.zl
 zk := h.zk
theorem NodeW.next (h : NodeW w gm Y A cs A' cp' acc' bad' p' Ak ck keys Z W) (hb : Below W.heap.size W W') : NodeW w gm Y A cs A' cp' acc' bad' p' Ak ck keys Z W' :=
 h.call (But.of hb) (RowOn.refl _ _) (h.maker.on hb)
theorem NodeW.start {cp : Nat} {acc : List Cm.Node} {bad : Nat} {p : List UInt8} (h : Mk gm Y A cp acc bad p w) (cs : Array Value) : NodeW w gm Y A cs A cp acc bad p none 0 [] (fun _ => False) (w.alloc (.cells cs 31)) where
 box := Blk.new w _ _
 maker := h.but (Y0 := fun _ => False) (But.of ((Below.refl _ _).alloc (Nat.le_refl _) _)) (fun _ _ k => k.elim) (fun b _ k => by rcases k with k | ⟨ad, e, _⟩ | k; exact k; cases e; exact k.elim) (fun b k => by
  rcases k with k | ⟨ad, e, _⟩ | k
  ·have := h.yl b k; simp; omega
  ·cases e
  ·exact k.elim)
 but := But.of ((Below.refl _ _).alloc (Nat.le_refl _) _)
 on := RowOn.refl _ _
 lt := h.lt
 far := fun k => by have := (h.rowAt k).2; omega
 keys := RowX.nil _ _
 yl := h.yl
 zl := fun b k => k.elim
 zk := fun b k _ => by obtain ⟨ad, e, _⟩ := k; cases e
theorem NodeW.setBad (h : NodeW w gm Y A cs A' cp' acc' bad' p' Ak ck keys Z W) (c : Nat) : NodeW w gm Y A cs A' cp' acc' c p' Ak ck keys Z (W.setCell ⟨gm, 1, none⟩ (.int .i64 c)) :=
 h.call ((But.refl (LX gm A') W).set (p := ⟨gm, 1, none⟩) (.inr (.inl rfl)) _) (RowOn.refl _ _) (h.maker.setBad c)
theorem NodeW.setPath (h : NodeW w gm Y A cs A' cp' acc' bad' p' Ak ck keys Z W) (q : List UInt8) : NodeW w gm Y A cs A' cp' acc' bad' q Ak ck keys Z (W.setCell ⟨gm, 2, none⟩ (.string ⟨q.toArray⟩)) :=
 h.call ((But.refl (LX gm A') W).set (p := ⟨gm, 2, none⟩) (.inr (.inl rfl)) _) (RowOn.refl _ _) (h.maker.setPath q)
theorem NodeW.make (h : NodeW w gm Y A cs A' cp' acc' bad' p' Ak ck keys Z W) (hb : But Z W W') (hz : ∀ b, b < W.heap.size → Z' b → Z b) (hl : ∀ b, Z' b → b < W'.heap.size) : NodeW w gm Y A cs A' cp' acc' bad' p' Ak ck keys Z' W' where
 box := hb.blk h.box (fun k => Nat.lt_irrefl _ (h.zl _ k))
 maker := h.maker.but hb (fun b _ k => .inr (.inr k)) (fun b hb2 k => k.imp id (Or.imp id (hz b hb2))) (fun b k => by
  rcases k with k | k | k
  ·exact Nat.lt_of_lt_of_le (h.maker.yl b (.inl k)) hb.size
  ·exact Nat.lt_of_lt_of_le (h.keyAt k).2 hb.size
  ·exact hl b k)
 but := h.but.trans hb (fun b hb2 k => by have := h.zl b k; omega)
 on := h.on
 lt := h.lt
 far := h.far
 keys := RowX.but (It := ItKey) (fun h => ItKey.mono h) h.keys (hb.sub (fun b _ k => .inr (.inr k))) (fun ad e => h.keyX ⟨ad, e, rfl⟩) (fun b hb2 k => k.imp id (Or.imp id (hz b hb2)))
 yl := h.yl
 zl := fun b k => by
  rcases Nat.lt_or_ge b W.heap.size with q | q
  ·exact h.zl b (hz b q k)
  ·have := h.box.lt; omega
 zk := fun b k k2 => h.zk b k (hz b (h.keyAt k).2 k2)
theorem NodeW.keyed (h : NodeW w gm Y A cs A' cp' acc' bad' p' Ak ck keys Z W) (hb : But (Bk Ak) W W') (hr : RowOn Ak Ak' W) (hk : RowX ItKey 43 10 (fun b => LX gm A' b ∨ Y b ∨ Z b) W' (w.heap.size + 1) Ak' ck' keys') (hz : ∀ b, Z b → b < W.heap.size) : NodeW w gm Y A cs A' cp' acc' bad' p' Ak' ck' keys' Z W' where
 box := hb.blk h.box (fun k => by have := (h.keyAt k).1; omega)
 maker := h.maker.but hb (fun b _ k => .inr (.inl k)) (fun b hb2 k => by
  rcases k with k | k | k
  ·exact .inl k
  ·rcases hr b k with k | k
   ·exact .inr (.inl k)
   ·omega
  ·exact .inr (.inr k)) (fun b k => by
  rcases k with k | k | k
  ·exact Nat.lt_of_lt_of_le (h.maker.yl b (.inl k)) hb.size
  ·obtain ⟨ad, e, rfl⟩ := k
   obtain ⟨g, rfl, _, hl⟩ := hk.le.2.2 ad e
   exact hl
  ·exact Nat.lt_of_lt_of_le (hz b k) hb.size)
 but := h.but.trans hb (fun b hb2 k => by have := (h.keyAt k).1; omega)
 on := h.on
 lt := h.lt
 far := h.far
 keys := hk
 yl := h.yl
 zl := h.zl
 zk := fun b k k2 => by
  rcases hr b k with k | k
  ·exact h.zk b k k2
  ·have := hz b k2; omega
theorem NodeW.grow (h : NodeW w gm Y A cs A' cp' acc' bad' p' Ak ck keys Z W) {w6 : World} (hb : But (Bk A') W w6) (hr : RowOn A' A'' W) {N : Cm.Node} (hrow : RowX ItN 39 4 (fun b => b = gm ∨ Y b ∨ Bk Ak b ∨ Z b) w6 (gm + 1) A'' cp'' (acc' ++ [N])) (hf : acc'.length < 200) :
  NodeW w gm Y A cs A'' cp'' (acc' ++ [N]) bad' p' Ak ck keys Z (w6.setCell ⟨gm, 0, none⟩ (.slice A'' (acc'.length + 1) cp'')) := by
 have hb2 : But (LX gm A') W w6 := hb.sub (fun b _ k => .inr k)
 have hgm : ¬ Bk A' gm := fun k => by have := (h.maker.rowAt k).1; omega
 have hbl := hb.blk h.maker.blk hgm
 have h6 := Blk.setL (l := [.slice A' acc'.length cp', .int .i64 bad', .string ⟨p'.toArray⟩]) hbl 0 (.slice A'' (acc'.length + 1) cp'')
 have hap : ∀ b, Bk A'' b → ¬ (Y b ∨ Bk Ak b ∨ Z b) := fun b e k => by
  rcases hr b e with k2 | k2
  ·exact h.maker.apart b k2 k
  ·have := h.maker.yl b k; omega
 refine h.call (hb2.set (p := ⟨gm, 0, none⟩) (.inr (.inl rfl)) _) hr ⟨?_, ?_, by simp; omega, hap, h.maker.ng, fun b k => ?_⟩
 ·rw [List.length_append]; exact h6
 ·refine RowX.but (It := ItN) (fun h => ItN.mono h) hrow ((But.refl _ w6).set (p := ⟨gm, 0, none⟩) (.inr (.inl rfl)) _) (fun ad e k => ?_) (fun b _ k => k)
  rcases k with k | k
  ·obtain ⟨g, rfl, hg, _⟩ := hrow.le.2.2 ad e
   simp only at k; omega
  ·exact hap _ ⟨ad, e, rfl⟩ k
 ·have := Nat.lt_of_lt_of_le (h.maker.yl b k) hb.size
  simpa [World.setCell] using this
end

end Go.Proofs.YtolkfgikomminaaGreatDoor

namespace Go.Proofs.YtolkfgikomminaaGreatDoor
open Go.RowKit Js Pt

theorem RowX.kidAny {X : Nat → Prop} {w : World} {B : Nat} {A : Option Addr} {cp : Nat} {ks : List (List UInt8 × Nat)} (h : RowX ItKid 78 2 X w B A cp ks) (X' : Nat → Prop) : RowX ItKid 78 2 X' w B A cp ks := by
 obtain ⟨R, flat, _, hown, h1, hel⟩ := h
 exact ⟨fun _ => False, flat, fun b k => k.elim, hown, h1, fun i a hi => by obtain ⟨cs, h2, h3⟩ := hel i a hi; exact ⟨cs, h2, h3⟩⟩
section
variable {w : World} {gm : Nat} {Y : Nat → Prop} {A : Option Addr} {cs : Array Value} {A' A'' : Option Addr} {cp' cp'' : Nat} {acc' acc'' : List Cm.Node} {bad' bad'' : Nat} {p' p'' : List UInt8} {Ak Ak' : Option Addr} {ck ck' : Nat} {keys keys' : List Cm.Key} {Z Z' : Nat → Prop} {W W' : World}
theorem NodeW.finish (h : NodeW w gm Y A cs A' cp' acc' bad' p' Ak ck keys (fun _ => False) W) {i : Nat} (hi : i < acc'.length) :
  ∃ g, A' = some ⟨g, 0, none⟩ ∧ (∃ u, W.cell? ⟨g, i * 4 + 3, none⟩ = some u) ∧ W.frozen? ⟨g, i * 4 + 3, none⟩ = false ∧ NodeL gm Y A A' cp' (acc'.set i { acc'[i] with keys := keys }) bad' p' w (W.setCell ⟨g, i * 4 + 3, none⟩ (.slice Ak keys.length ck)) := by
 have hk := RowX.slKey h.keys (fun ad e => h.keyX ⟨ad, e, rfl⟩)
 obtain ⟨Rn, hRn, hsl⟩ := hk
 obtain ⟨R, flat, hR, hown, h1, hel⟩ := h.maker.row
 obtain ⟨c0, hc0, hf0⟩ := hel i _ (List.getElem?_eq_getElem hi)
 obtain ⟨A0, cp0, rfl, _, _, _⟩ := hc0
 obtain ⟨g, rfl⟩ : ∃ g, A' = some ⟨g, 0, none⟩ := by
  cases hA : A' with
  | none => subst hA; have hb := (own_le hown).2.2.1 rfl; omega
  | some ad => subst hA; obtain ⟨g, rfl, _⟩ := (own_le hown).2.2.2 ad rfl; exact ⟨g, rfl⟩
 have hbg : Bk (some (⟨g, 0, none⟩ : Addr)) g := ⟨_, rfl, rfl⟩
 have hg := h.maker.rowAt hbg
 have hkl := RowX.le h.keys
 have hcell := own_cell hown (i * 4 + 3) _ (hf0 3 _ rfl)
 refine ⟨g, rfl, ⟨_, hcell⟩, World.ownsRow.frozenAt hown _, ?_, ?_, h.on⟩
 ·have hko : ∀ b, b ≠ g → (W.setCell ⟨g, i * 4 + 3, none⟩ (.slice Ak keys.length ck)).heap[b]? = W.heap[b]? := fun b hb => Below.heap_setCell W ⟨g, i * 4 + 3, none⟩ _ b hb
  have hRg : ∀ b, R b ∨ Rn b → b < W.heap.size ∧ ¬ (b = gm ∨ Y b) ∧ b ≠ g := by
   rintro b (k | k)
   ·obtain ⟨k1, k2, k3⟩ := hR b k
    exact ⟨k1, fun q => k2 (q.imp id .inl), k3 _ rfl⟩
   ·obtain ⟨k1, k2⟩ := hRn b k
    refine ⟨k1, fun q => k2 ?_, fun e => k2 (.inl (.inr ⟨_, rfl, e⟩))⟩
    rcases q with q | q
    ·exact .inl (.inl q)
    ·exact .inr (.inl q)
  refine ⟨?_, ⟨fun b => R b ∨ Rn b, flat.set (i * 4 + 3) (.slice Ak keys.length ck), fun b hb => ⟨by simpa [World.setCell] using (hRg b hb).1, (hRg b hb).2.1, fun ad e => by injection e with e; subst e; exact (hRg b hb).2.2⟩, ?_, ?_, ?_⟩, ?_, fun b e k => h.maker.apart b e (.inl k), fun k => h.maker.ng (.inl k), fun b k => ?_⟩
  ·rw [List.length_set]; exact (hko gm (by omega)).trans h.maker.blk
  ·rw [List.length_set]; exact own_set hown _ _
  ·intro u hu
   rcases List.mem_or_eq_of_mem_set hu with k | k
   ·exact h1 u k
   ·subst k; rfl
  ·intro j N hj
   have hle : ∀ S0 : Nat → Prop, (∀ b, S0 b → R b ∨ Rn b) → Cl.le (W.on S0) ((W.setCell ⟨g, i * 4 + 3, none⟩ (.slice Ak keys.length ck)).on fun b => R b ∨ Rn b) := fun S0 hS0 => on_keep (fun b hb _ => hS0 b hb) (fun b hb _ => hko b (hRg b (hS0 b hb)).2.2)
   by_cases e : i = j
   ·subst e
    rw [List.getElem?_set_self hi] at hj
    injection hj with hj
    subst hj
    refine ⟨_, ⟨Ak, ck, rfl, hsl.keep (hle Rn fun b k => .inr k), hkl.1, hkl.2.1⟩, fun q u hu => ?_⟩
    match q, hu with
    | 0, hu => rw [List.getElem?_set_ne (by omega)]; exact hf0 0 u hu
    | 1, hu => rw [List.getElem?_set_ne (by omega)]; exact hf0 1 u hu
    | 2, hu => rw [List.getElem?_set_ne (by omega)]; exact hf0 2 u hu
    | 3, hu =>
     have := hf0 3 _ rfl
     rw [List.getElem?_set_self (List.getElem?_eq_some_iff.1 this).1]; exact hu
    | q + 4, hu => simp at hu
   ·rw [List.getElem?_set_ne e] at hj
    obtain ⟨c1, hc1, hf1⟩ := hel j N hj
    refine ⟨c1, hc1.mono (hle R fun b k => .inl k), fun q u hu => ?_⟩
    obtain ⟨A1, cp1, rfl, _⟩ := hc1
    have hq : q < 4 := (List.getElem?_eq_some_iff.1 hu).1
    rw [List.getElem?_set_ne (by omega)]
    exact hf1 q u hu
  ·rw [List.length_set]; exact h.maker.few
  ·simpa [World.setCell] using h.maker.yl b (.inl k)
 ·refine h.but.set (p := ⟨g, i * 4 + 3, none⟩) ?_ _
  rcases h.on g hbg with k | k
  ·exact .inr (.inr k)
  ·exact .inl k

structure KeyW (w : World) (gm : Nat) (Y : Nat → Prop) (A : Option Addr) (cs : Array Value) (A' : Option Addr) (cp' : Nat) (acc' : List Cm.Node) (bad' : Nat) (p' : List UInt8) (Ak : Option Addr) (ck : Nat) (keys : List Cm.Key) (gk : Nat) (kc : List Value) (Ad : Option Addr) (cd : Nat) (ks : List (List UInt8 × Nat)) (W : World) : Prop where
 node : NodeW w gm Y A cs A' cp' acc' bad' p' Ak ck keys (fun b => b = gk ∨ Bk Ad b) W
 key : Blk W gk 43 (kc ++ [Value.slice Ad ks.length cd]).toArray
 kids : RowX ItKid 78 2 (LX gm A') W (gk + 1) Ad cd ks
 gt : w.heap.size < gk
variable {gk : Nat} {kc : List Value} {Ad Ad' : Option Addr} {cd cd' : Nat} {ks ks' : List (List UInt8 × Nat)}
theorem KeyW.kidAt (h : KeyW w gm Y A cs A' cp' acc' bad' p' Ak ck keys gk kc Ad cd ks W) {b : Nat} (e : Bk Ad b) : gk < b ∧ b < W.heap.size ∧ ¬ LX gm A' b := by
 have hb : gk < b ∧ b < W.heap.size := by
  obtain ⟨ad, e, rfl⟩ := e
  obtain ⟨g, rfl, hg, hl⟩ := h.kids.le.2.2 ad e
  exact ⟨hg, hl⟩
 refine ⟨hb.1, hb.2, ?_⟩
 rintro (k | k)
 ·have := h.gt; have := h.node.lt; omega
 ·exact h.node.maker.apart b k (.inr (.inr (.inr e)))
theorem KeyW.keyX (h : KeyW w gm Y A cs A' cp' acc' bad' p' Ak ck keys gk kc Ad cd ks W) : ¬ LX gm A' gk := by
 rintro (k | k)
 ·have := h.gt; have := h.node.lt; omega
 ·exact h.node.maker.apart gk k (.inr (.inr (.inl rfl)))
theorem KeyW.call (h : KeyW w gm Y A cs A' cp' acc' bad' p' Ak ck keys gk kc Ad cd ks W) (hb : But (LX gm A') W W') (hr : RowOn A' A'' W) (hm : Mk gm (fun b => Y b ∨ Bk Ak b ∨ b = gk ∨ Bk Ad b) A'' cp'' acc'' bad'' p'' W') : KeyW w gm Y A cs A'' cp'' acc'' bad'' p'' Ak ck keys gk kc Ad cd ks W' where
 node := h.node.call hb hr hm
 key := hb.blk h.key h.keyX
 kids := RowX.but (It := ItKid) (fun h => ItKid.mono h) h.kids hb (fun ad e => (h.kidAt ⟨ad, e, rfl⟩).2.2) (LX.back hr)
 gt := h.gt
theorem KeyW.next (h : KeyW w gm Y A cs A' cp' acc' bad' p' Ak ck keys gk kc Ad cd ks W) (hb : Below W.heap.size W W') : KeyW w gm Y A cs A' cp' acc' bad' p' Ak ck keys gk kc Ad cd ks W' :=
 h.call (But.of hb) (RowOn.refl _ _) (h.node.maker.on hb)
theorem KeyW.start (h : NodeW w gm Y A cs A' cp' acc' bad' p' Ak ck keys (fun _ => False) W) (hb : Below W.heap.size W W') (hk : Blk W' W.heap.size 43 (kc ++ [Value.slice none 0 0]).toArray) : KeyW w gm Y A cs A' cp' acc' bad' p' Ak ck keys W.heap.size kc none 0 [] W' where
 node := h.make (But.of hb) (fun b hb2 k => by
  rcases k with k | ⟨ad, e, _⟩
  ·omega
  ·cases e) (fun b k => by
  rcases k with k | ⟨ad, e, _⟩
  ·rw [k]; exact hk.lt
  ·cases e)
 key := hk
 kids := RowX.nil _ _
 gt := h.box.lt
theorem KeyW.grow (h : KeyW w gm Y A cs A' cp' acc' bad' p' Ak ck keys gk kc Ad cd ks W) (h9 : kc.length = 9) {w6 : World} (hb : But (Bk Ad) W w6) (hr : RowOn Ad Ad' W) (hrow : RowX ItKid 78 2 (LX gm A') w6 (gk + 1) Ad' cd' ks') :
  KeyW w gm Y A cs A' cp' acc' bad' p' Ak ck keys gk kc Ad' cd' ks' (w6.setCell ⟨gk, 9, none⟩ (.slice Ad' ks'.length cd')) := by
 have hb2 : But (fun b => b = gk ∨ Bk Ad b) W (w6.setCell ⟨gk, 9, none⟩ (.slice Ad' ks'.length cd')) := (hb.sub (fun b _ k => .inr k)).set (p := ⟨gk, 9, none⟩) (.inr (.inl rfl)) _
 have hgk : ¬ Bk Ad gk := fun k => by have := (h.kidAt k).1; omega
 have h6 := Blk.setL (hb.blk h.key hgk) 9 (.slice Ad' ks'.length cd')
 have hap : ∀ b, Bk Ad' b → gk < b ∧ b < w6.heap.size ∧ ¬ LX gm A' b := fun b e => by
  have h1 : gk < b ∧ b < w6.heap.size := by
   obtain ⟨ad, e, rfl⟩ := e
   obtain ⟨g, rfl, hg, hl⟩ := hrow.le.2.2 ad e
   exact ⟨hg, hl⟩
  refine ⟨h1.1, h1.2, fun k => ?_⟩
  rcases hr b e with q | q
  ·exact (h.kidAt q).2.2 k
  ·rcases k with k | k
   ·have := h.node.lt; have := h.gt; omega
   ·have := (h.node.maker.rowAt k).2; omega
 refine ⟨h.node.make hb2 (fun b hb3 k => ?_) (fun b k => ?_), ?_, ?_, h.gt⟩
 ·rcases k with k | k
  ·exact .inl k
  ·rcases hr b k with q | q
   ·exact .inr q
   ·omega
 ·have hs := hb2.size
  rcases k with k | k
  ·have := h.key.lt; omega
  ·simpa [World.setCell] using (hap b k).2.1
 ·rw [List.set_append_right _ _ (by omega), h9] at h6
  exact h6
 ·refine RowX.but (It := ItKid) (fun h => ItKid.mono h) (X' := LX gm A') (X := fun b => LX gm A' b ∨ b = gk) ?_ ((But.refl _ w6).set (p := ⟨gk, 9, none⟩) (.inr (.inr rfl)) _) (fun ad e k => ?_) (fun b _ k => .inl k)
  ·exact hrow.kidAny _
  ·have := hap _ ⟨ad, e, rfl⟩
   rcases k with k | k
   ·exact this.2.2 k
   ·omega
theorem KeyW.done (h : KeyW w gm Y A cs A' cp' acc' bad' p' Ak ck keys gk kc Ad cd ks W) {S : Nat → Prop} (hS : ∀ b, S b → b < w.heap.size ∧ ¬ LX gm A b ∧ ¬ Y b) {nm : List UInt8} {v : Vl} {r : Array Value} (hv : v.In (w.on S) (.agg r)) (hkc : kc = .string ⟨nm.toArray⟩ :: r.toList) :
  NodeW w gm Y A cs A' cp' acc' bad' p' Ak ck keys (fun _ => False) W ∧ ∃ Rn : Nat → Prop, (∀ b, Rn b → b < W.heap.size ∧ ¬ (LX gm A' b ∨ Y b ∨ False) ∧ ∀ ad, Ak = some ad → b ≠ ad.block) ∧ ItKey (W.on Rn) ⟨nm, v, ks⟩ (kc ++ [Value.slice Ad ks.length cd]) := by
 have hl := RowX.le h.kids
 refine ⟨h.node.make (But.refl _ _) (fun _ _ k => k.elim) (fun _ k => k.elim), fun b => S b ∨ Bk Ad b, ?_, r, Ad, cd, by rw [hkc]; rfl, ?_, fun i q hi => ?_, hl.1, hl.2.1⟩
 ·rintro b (k | k)
  ·obtain ⟨h1, h2, h3⟩ := hS b k
   refine ⟨Nat.lt_of_lt_of_le h1 h.node.but.size, ?_, fun ad e e2 => ?_⟩
   ·rintro (q | q | q)
    ·exact h2 (LX.back h.node.on b h1 q)
    ·exact h3 q
    ·exact q
   ·have := (h.node.keyAt ⟨ad, e, e2⟩).1; omega
  ·obtain ⟨h1, h2, h3⟩ := h.kidAt k
   refine ⟨h2, ?_, fun ad e e2 => h.node.zk b ⟨ad, e, e2⟩ (.inr k)⟩
   rintro (q | q | q)
   ·exact h3 q
   ·have := h.node.yl b q; have := h.gt; omega
   ·exact q
 ·exact In.keep (h.node.but.on (fun b k => .inl k) (fun b k _ => (hS b k).2.1)) _ _ hv
 ·obtain ⟨R, g, cs, hA, _, _, rfl, h2⟩ := RowX.items (It := ItKid) h.kids hi
  have e0 := h2 0 _ rfl
  have e1 := h2 1 _ rfl
  refine ⟨g, 0, hA, ?_, ?_⟩
  ·rw [Nat.zero_add]; exact on_some.2 ⟨.inr ⟨_, hA, rfl⟩, e0⟩
  ·rw [Nat.zero_add]; exact on_some.2 ⟨.inr ⟨_, hA, rfl⟩, e1⟩
end

end Go.Proofs.YtolkfgikomminaaGreatDoor


