/- The walk of the document's Maker.node (layer 11). (By gen_dh.py.) -/
import Derived.Test.YtolkfgikomminaaGreatDoorDc
import Derived.Test.YtolkfgikomminaaGreatDoorCb
namespace Go.Proofs.YtolkfgikomminaaGreatDoor
open Go.RowKit Js Pt

theorem info_of10 {P : Program} {t : TypeId} {z : Value} {s b : Nat} (h : (P.info? t).map (fun i => (i.zero, i.size, i.bytes)) = some (some z, s, b)) : ∃ i, P.info? t = some i ∧ i.zero = some z ∧ i.size = s ∧ i.bytes = b := by
 cases hq : P.info? t with
 | none => rw [hq] at h; cases h
 | some i =>
  rw [hq] at h
  simp only [Option.map_some, Option.some.injEq, Prod.mk.injEq] at h
  exact ⟨i, rfl, h.1, h.2.1, h.2.2⟩
theorem infoNode : ∃ i, Tryz.prog.info? 39 = some i ∧ i.zero = some (.agg #[.string ⟨#[]⟩, .bool false, .bool false, .slice none 0 0]) ∧ i.size = 4 ∧ i.bytes = 48 := info_of10 (by kernel_rfl)
theorem infoKey : ∃ i, Tryz.prog.info? 43 = some i ∧ i.zero = some (.agg #[.string ⟨#[]⟩, .int .i64 0, .bool false, .bool false, .string ⟨#[]⟩, .int .i64 0, .string ⟨#[]⟩, .slice none 0 0, .slice none 0 0, .slice none 0 0]) ∧ i.size = 10 ∧ i.bytes = 152 := info_of10 (by kernel_rfl)
theorem infoKid : ∃ i, Tryz.prog.info? 78 = some i ∧ i.zero = some (.agg #[.string ⟨#[]⟩, .int .i64 0]) ∧ i.size = 2 ∧ i.bytes = 24 := info_of10 (by kernel_rfl)

def NodeC (f : Nat) : Prop := ∀ (v : Vl), v.size ≤ f → v.slim 1000000 → v.size ≤ 1000000 → ∀ (gm : Nat) (Y : Nat → Prop) (A : Option Addr) (cp : Nat) (acc : List Cm.Node) (p : List UInt8) (P : Cm.Names) (w : World) (x : Value) (S : Nat → Prop), Mk gm Y A cp acc 0 p w → (∀ b, S b → b < w.heap.size ∧ ¬ LX gm A b ∧ ¬ Y b) → v.In (w.on S) x → (text P).length + 5000000 * v.size ≤ 10000000000000 →
 Calls Tryz.prog 37 #[.pointer (some ⟨gm, 0, none⟩), .string ⟨(text P).toArray⟩, x] w fun e w' => e = .returned (.tuple #[]) ∧ ∃ (A' : Option Addr) (cp' : Nat) (acc' : List Cm.Node) (bad' : Nat) (p' : List UInt8), NodeL gm Y A A' cp' acc' bad' p' w w' ∧ NodeR acc p (Cm.node f acc.length P v) acc' bad' p'
theorem NodeW.leave {w : World} {gm : Nat} {Y : Nat → Prop} {A : Option Addr} {cs : Array Value} {A' : Option Addr} {cp' : Nat} {acc' : List Cm.Node} {bad' : Nat} {p' : List UInt8} {Ak : Option Addr} {ck : Nat} {keys : List Cm.Key} {Z : Nat → Prop} {W : World} (h : NodeW w gm Y A cs A' cp' acc' bad' p' Ak ck keys Z W) : NodeL gm Y A A' cp' acc' bad' p' w W :=
 ⟨h.maker.but (Y0 := fun _ => False) (But.refl _ _) (fun _ _ k => k.elim) (fun _ _ k => .inl k) (fun b k => h.maker.yl b (.inl k)), h.but, h.on⟩
theorem row_on {A : Option Addr} {n c g B N : Nat} {W w6 : World} (hle : ∀ ad, A = some ad → ∃ g, ad = ⟨g, 0, none⟩ ∧ B ≤ g ∧ g < N) (hg : W.grownBy w6 (Value.slice A n c).ownBlock) (hat : (Value.slice A n c).ownBlock = some g ∨ g = W.heap.size) : But (Bk A) W w6 ∧ RowOn A (some ⟨g, 0, none⟩) W := by
 have hb : ∀ q, (Value.slice A n c).ownBlock = some q → Bk A q := fun q hq => by
  cases A with
  | none => cases hq
  | some ad =>
   obtain ⟨g2, rfl, _⟩ := hle ad rfl
   exact ⟨_, rfl, by simpa [Value.ownBlock] using hq.symm⟩
 refine ⟨(But.refl (Bk A) W).grown hg (fun q hq => .inr (hb q hq)), fun b k => ?_⟩
 obtain ⟨ad, e, rfl⟩ := k
 injection e with e; subst e
 rcases hat with k | k
 ·exact .inl (hb _ k)
 ·exact .inr (Nat.le_of_eq k.symm)
def Mode1 (f : Nat) (acc : List Cm.Node) (p : List UInt8) (P : Cm.Names) (k : Int) (b : Bool) (m : List Js.Mem) (i : Nat) (keys : List Cm.Key) (acc' : List Cm.Node) (bad' : Nat) (p' : List UInt8) : Prop :=
 (∃ r, Cm.memsN (Cm.node f) P (acc.length + 1) (m.take i) = .ok (keys, r) ∧ acc' = acc ++ ⟨P, decide (k = 1), b, []⟩ :: r ∧ bad' = 0 ∧ p' = p) ∨ (∃ c q, Cm.memsN (Cm.node f) P (acc.length + 1) m = .bad c q ∧ ¬ c = 0 ∧ c ≤ 14 ∧ bad' = c ∧ p' = text q ∧ acc.length + 1 ≤ acc'.length)
theorem Mode1.lt {f : Nat} {acc : List Cm.Node} {p : List UInt8} {P : Cm.Names} {k : Int} {b : Bool} {m : List Js.Mem} {i : Nat} {keys : List Cm.Key} {acc' : List Cm.Node} {bad' : Nat} {p' : List UInt8} (h : Mode1 f acc p P k b m i keys acc' bad' p') : acc.length < acc'.length := by
 rcases h with ⟨r, _, rfl, _⟩ | ⟨c, q, _, _, _, _, _, h⟩
 ·simp
 ·exact h
theorem node_exit {f : Nat} {acc : List Cm.Node} {p : List UInt8} {P : Cm.Names} {k : Int} {b : Bool} {n : Nm.Num} {s : List UInt8} {l : List Vl} {m : List Js.Mem} {i : Nat} {keys : List Cm.Key} {acc' : List Cm.Node} {bad' : Nat} {p' : List UInt8} (h0 : ¬ acc.length = 200) (hm : Mode1 f acc p P k b m i keys acc' bad' p') (hi : i = m.length ∨ ¬ bad' = 0) (hl : acc.length < acc'.length) :
  NodeR acc p (Cm.node (f + 1) acc.length P (.mk k b n s l m)) (acc'.set acc.length { acc'[acc.length] with keys := keys }) bad' p' := by
 rcases hm with ⟨r, h1, rfl, h2, h3⟩ | ⟨c, q, h1, h2, h3, h4, h5, h6⟩
 ·have hi2 : i = m.length := hi.elim id (fun k => absurd h2 k)
  rw [hi2, List.take_length] at h1
  refine .inl ⟨_, Cm.node_ok h0 h1, ?_, h2, h3⟩
  simp
 ·exact .inr ⟨c, q, Cm.node_bad h0 h1, h2, h3, h4, h5, by rw [List.length_set]; omega⟩
theorem strs_one10 (w : World) (t : TypeId) (nm : List UInt8) : Strs (w.alloc (.cells #[.string ⟨nm.toArray⟩] t)).cell? (some ⟨w.heap.size, 0, none⟩) [nm] := fun j n hj => by
 have hl := (List.getElem?_eq_some_iff.1 hj).1
 obtain rfl : j = 0 := by simpa using hl
 obtain rfl : nm = n := by simpa using hj
 exact ⟨w.heap.size, 0, rfl, (Blk.new w t _).cell 0⟩
theorem kids_len10 (nm : List UInt8) (v : Vl) : (Sh.kids nm v).length ≤ v.size := by
 obtain ⟨k, b, n, s, l, m⟩ := v
 have h1 : l.length ≤ sizeL l := sizeL_len l
 have h2 : m.length ≤ sizeM m := sizeM_len m
 rw [Sh.kids_mk]
 simp only [Vl.size]
 split
 ·simp; omega
 ·split
  ·omega
  ·split
   ·rw [Sh.numbered_len]; omega
   ·simp
theorem kids_slim10 {N : Nat} (hN : 25 ≤ N) {nm : List UInt8} {v : Vl} (hv : v.slim N) (hz : v.size ≤ 1000000) {p : Js.Mem} (h : p ∈ Sh.kids nm v) : p.1.length ≤ N ∧ p.2.slim N := by
 have hv0 := hv
 obtain ⟨k, b, n, s, l, m⟩ := v
 have h1 : l.length ≤ sizeL l := sizeL_len l
 simp only [Vl.size] at hz
 simp only [Vl.slim] at hv
 obtain ⟨_, _, hl, hm⟩ := hv
 rw [Sh.kids_mk] at h
 split at h
 ·obtain rfl := List.mem_singleton.1 h; exact ⟨Nat.zero_le _, hv0⟩
 ·split at h
  ·exact (slimM_iff N m).1 hm p h
  ·split at h
   ·obtain ⟨i, hi⟩ := List.getElem?_of_mem h
    obtain ⟨u, hu, rfl⟩ := Sh.numbered_get hi
    have hil := (List.getElem?_eq_some_iff.1 hu).1
    have := dec_len i (by omega)
    exact ⟨by simp only; omega, (slimL_iff N l).1 hl _ (List.mem_of_getElem? hu)⟩
   ·cases h
def Mode2 (f : Nat) (single : Bool) (under : Cm.Names) (kids : List Js.Mem) (acc1 : List Cm.Node) (p : List UInt8) (j : Nat) (ks : List (List UInt8 × Nat)) (acc' : List Cm.Node) (bad' : Nat) (p' : List UInt8) : Prop :=
 (∃ a, Cm.kidsN (Cm.node f) single under acc1.length (kids.take j) = .ok (ks, a) ∧ acc' = acc1 ++ a ∧ bad' = 0 ∧ p' = p) ∨ (∃ c q, Cm.kidsN (Cm.node f) single under acc1.length kids = .bad c q ∧ ¬ c = 0 ∧ c ≤ 14 ∧ bad' = c ∧ p' = text q ∧ acc1.length ≤ acc'.length)
def Off10 (Sk : Nat → Prop) (gm : Nat) (Y : Nat → Prop) (A' Ak : Option Addr) (gk : Nat) (Ad : Option Addr) (W : World) : Prop := ∀ b, Sk b → b < W.heap.size ∧ ¬ LX gm A' b ∧ ¬ (Y b ∨ Bk Ak b ∨ b = gk ∨ Bk Ad b)
theorem Off10.step {Sk : Nat → Prop} {gm : Nat} {Y : Nat → Prop} {A' A'' Ak : Option Addr} {gk : Nat} {Ad Ad' : Option Addr} {W W' : World} (h : Off10 Sk gm Y A' Ak gk Ad W) (hr : RowOn A' A'' W) (hd : RowOn Ad Ad' W) (hs : W.heap.size ≤ W'.heap.size) : Off10 Sk gm Y A'' Ak gk Ad' W' := fun b hb => by
 obtain ⟨h1, h2, h3⟩ := h b hb
 refine ⟨Nat.lt_of_lt_of_le h1 hs, fun k => h2 (LX.back hr b h1 k), fun k => h3 ?_⟩
 rcases k with k | k | k | k
 ·exact .inl k
 ·exact .inr (.inl k)
 ·exact .inr (.inr (.inl k))
 ·rcases hd b k with k | k
  ·exact .inr (.inr (.inr k))
  ·omega
theorem KeyW.off10 {w : World} {gm : Nat} {Y : Nat → Prop} {A : Option Addr} {cs : Array Value} {A' : Option Addr} {cp' : Nat} {acc' : List Cm.Node} {bad' : Nat} {p' : List UInt8} {Ak : Option Addr} {ck : Nat} {keys : List Cm.Key} {W W5 : World} {gk : Nat} {kc : List Value} {Ad : Option Addr} {cd : Nat} {ks : List (List UInt8 × Nat)} {S : Nat → Prop}
  (h : KeyW w gm Y A cs A' cp' acc' bad' p' Ak ck keys gk kc Ad cd ks W) (hS : ∀ b, S b → b < w.heap.size ∧ ¬ LX gm A b ∧ ¬ Y b) : Off10 (fun b => (S b ∨ W.heap.size ≤ b) ∧ b < W5.heap.size) gm Y A' Ak gk Ad W5 := fun b hb => by
 obtain ⟨hb, hlt⟩ := hb
 have hgt := h.gt
 have hkl := h.key.lt
 refine ⟨hlt, fun k => ?_, fun k => ?_⟩
 ·rcases hb with hb | hb
  ·exact (hS b hb).2.1 (LX.back h.node.on b (hS b hb).1 k)
  ·rcases k with k | k
   ·have := h.node.lt; omega
   ·have := (h.node.maker.rowAt k).2; omega
 ·rcases hb with hb | hb
  ·have h1 := (hS b hb).1
   rcases k with k | k | k | k
   ·exact (hS b hb).2.2 k
   ·have := (h.node.keyAt k).1; omega
   ·omega
   ·have := (h.kidAt k).1; omega
  ·rcases k with k | k | k | k
   ·have := h.node.yl b k; omega
   ·have := (h.node.keyAt k).2; omega
   ·omega
   ·have := (h.kidAt k).2.1; omega
theorem NodeW.pushKey {w : World} {gm : Nat} {Y : Nat → Prop} {A : Option Addr} {cs : Array Value} {A' : Option Addr} {cp' : Nat} {acc' : List Cm.Node} {bad' : Nat} {p' : List UInt8} {Ak : Option Addr} {ck : Nat} {keys : List Cm.Key} {W : World} {i : Nat} (h : NodeW w gm Y A cs A' cp' acc' bad' p' Ak ck keys (fun _ => False) W) (hi : keys.length = i)
  {Rn : Nat → Prop} (hRn : ∀ b, Rn b → b < W.heap.size ∧ ¬ (LX gm A' b ∨ Y b ∨ False) ∧ ∀ ad, Ak = some ad → b ≠ ad.block) {K : Cm.Key} {kcs : List Value} (hit : ItKey (W.on Rn) K kcs) (h1 : ∀ u ∈ kcs, u.oneCell' = true) (h10 : kcs.length = 10) :
  ∃ flat, W.ownsRow (w.heap.size + 1) 43 10 (.slice Ak i ck) i flat ∧ ∀ (w6 : World) (g cap : Nat), w6.ownsRow (w.heap.size + 1) 43 10 (.slice (some ⟨g, 0, none⟩) (i + 1) cap) (i + 1) (flat ++ kcs) → W.grownBy w6 (Value.slice Ak i ck).ownBlock → ((Value.slice Ak i ck).ownBlock = some g ∨ g = W.heap.size) →
   NodeW w gm Y A cs A' cp' acc' bad' p' (some ⟨g, 0, none⟩) cap (keys ++ [K]) (fun _ => False) w6 := by
 obtain ⟨flat, hown, hpush⟩ := RowX.push (It := ItKey) (fun h => ItKey.mono h) hi h.keys
 refine ⟨flat, hown, fun w6 g cap h6 hg hat => ?_⟩
 have hrow := hpush hit hRn h1 h10 h6 hg hat
 have hro := row_on (RowX.le h.keys).2.2 hg hat
 exact h.keyed hro.1 hro.2 hrow (fun b k => k.elim)
theorem mode_next {f : Nat} {acc acc2 acc3 : List Cm.Node} {p : List UInt8} {P : Cm.Names} {k : Int} {b : Bool} {m : List Js.Mem} {i : Nat} {keys : List Cm.Key} {r1 : List Cm.Node} {nm : List UInt8} {v : Vl} {sg : Bool} {kids : List Js.Mem} {j : Nat} {ks : List (List UInt8 × Nat)} {bad3 : Nat} {p3 : List UInt8}
  (hn : (∀ ks b', Cm.kidsN (Cm.node f) sg (P ++ [nm]) (acc.length + 1 + r1.length) kids = .ok (ks, b') → Cm.memsN (Cm.node f) P (acc.length + 1) (m.take (i + 1)) = .ok (keys ++ [⟨nm, v, ks⟩], r1 ++ b')) ∧ (∀ c q, Cm.kidsN (Cm.node f) sg (P ++ [nm]) (acc.length + 1 + r1.length) kids = .bad c q → Cm.memsN (Cm.node f) P (acc.length + 1) m = .bad c q))
  (ha : acc2 = acc ++ ⟨P, decide (k = 1), b, []⟩ :: r1) (hm : Mode2 f sg (P ++ [nm]) kids acc2 p j ks acc3 bad3 p3) (hj : j = kids.length) : Mode1 f acc p P k b m (i + 1) (keys ++ [⟨nm, v, ks⟩]) acc3 bad3 p3 := by
 have hl : acc2.length = acc.length + 1 + r1.length := by rw [ha]; simp; omega
 rcases hm with ⟨a, h1, h2, h3, h4⟩ | ⟨c, q, h1, h2, h3, h4, h5, h6⟩
 ·rw [hj, List.take_length, hl] at h1
  exact .inl ⟨_, hn.1 _ _ h1, by rw [h2, ha]; simp, h3, h4⟩
 ·rw [hl] at h1
  exact .inr ⟨c, q, hn.2 _ _ h1, h2, h3, h4, h5, by omega⟩
theorem Blk.ten {w : World} {g : Nat} {t : TypeId} {c0 c1 c2 c3 c4 c5 c6 c7 c8 c9 : Value} (h : Blk w g t #[c0, c1, c2, c3, c4, c5, c6, c7, c8, c9]) :
  w.cell? ⟨g, 0, none⟩ = some c0 ∧ w.cell? ⟨g, 1, none⟩ = some c1 ∧ w.cell? ⟨g, 2, none⟩ = some c2 ∧ w.cell? ⟨g, 3, none⟩ = some c3 ∧ w.cell? ⟨g, 4, none⟩ = some c4 ∧ w.cell? ⟨g, 5, none⟩ = some c5 ∧ w.cell? ⟨g, 6, none⟩ = some c6 ∧ w.cell? ⟨g, 7, none⟩ = some c7 ∧ w.cell? ⟨g, 8, none⟩ = some c8 ∧ w.cell? ⟨g, 9, none⟩ = some c9 :=
 ⟨h.cell 0, h.cell 1, h.cell 2, h.cell 3, h.cell 4, h.cell 5, h.cell 6, h.cell 7, h.cell 8, h.cell 9⟩
theorem mode2_ok {f : Nat} {sg : Bool} {under : Cm.Names} {kids : List Js.Mem} {acc2 acc3 acc4 : List Cm.Node} {p p3 p4 : List UInt8} {j : Nat} {ks : List (List UInt8 × Nat)} {bad4 : Nat} {key : List UInt8} {kv : Vl}
  (hm : Mode2 f sg under kids acc2 p j ks acc3 0 p3)
  (hn : ∀ ks a, Cm.kidsN (Cm.node f) sg under acc2.length (kids.take j) = .ok (ks, a) → (∀ b, Cm.node f (acc2.length + a.length) (if sg = true then under else under ++ [key]) kv = .ok b → Cm.kidsN (Cm.node f) sg under acc2.length (kids.take (j + 1)) = .ok (ks ++ [(key, acc2.length + a.length)], a ++ b)) ∧ (∀ c q, Cm.node f (acc2.length + a.length) (if sg = true then under else under ++ [key]) kv = .bad c q → Cm.kidsN (Cm.node f) sg under acc2.length kids = .bad c q))
  (hR : NodeR acc3 p3 (Cm.node f acc3.length (if sg = true then under else under ++ [key]) kv) acc4 bad4 p4) : Mode2 f sg under kids acc2 p (j + 1) (ks ++ [(key, acc3.length)]) acc4 bad4 p4 := by
 rcases hm with ⟨a, h1, h2, _, h4⟩ | ⟨c, q, _, h2, _, h4, _, _⟩
 ·have hl : acc3.length = acc2.length + a.length := by rw [h2, List.length_append]
  obtain ⟨n1, n2⟩ := hn _ _ h1
  rw [← hl] at n1 n2
  rcases hR with ⟨b, r1, r2, r3, r4⟩ | ⟨c, q, r1, r2, r3, r4, r5, r6⟩
  ·exact .inl ⟨_, n1 b r1, by rw [r2, h2, List.append_assoc], r3, r4.trans h4⟩
  ·exact .inr ⟨c, q, n2 c q r1, r2, r3, r4, r5, by omega⟩
 ·exact absurd h4.symm h2
theorem mode2_bad {f : Nat} {sg : Bool} {under : Cm.Names} {kids : List Js.Mem} {acc2 acc3 : List Cm.Node} {p p3 : List UInt8} {j : Nat} {ks : List (List UInt8 × Nat)} {bad3 : Nat} (hm : Mode2 f sg under kids acc2 p j ks acc3 bad3 p3) (hb : ¬ bad3 = 0) (j' : Nat) (ks' : List (List UInt8 × Nat)) : Mode2 f sg under kids acc2 p j' ks' acc3 bad3 p3 := by
 rcases hm with ⟨_, _, _, h, _⟩ | h
 ·exact absurd h hb
 ·exact .inr h
theorem Blk.three {w : World} {g : Nat} {t : TypeId} {c0 c1 c2 : Value} (h : Blk w g t #[c0, c1, c2]) : w.cell? ⟨g, 0, none⟩ = some c0 ∧ w.cell? ⟨g, 1, none⟩ = some c1 ∧ w.cell? ⟨g, 2, none⟩ = some c2 ∧ w.frozen? ⟨g, 0, none⟩ = false ∧ w.frozen? ⟨g, 1, none⟩ = false ∧ w.frozen? ⟨g, 2, none⟩ = false :=
 ⟨h.cell 0, h.cell 1, h.cell 2, h.frozen 0, h.frozen 1, h.frozen 2⟩

set_option linter.unusedVariables false in
set_option linter.unusedSimpArgs false in
set_option maxRecDepth 100000 in
set_option maxHeartbeats 2000000 in
theorem node_skip (gm : Nat) (Y : Nat → Prop) (A : Option Addr) (cp : Nat) (acc : List Cm.Node) (bad : Nat) (h0 : ¬ bad = 0) (p : List UInt8) (q : List UInt8) (w : World) (k : Int) (b ng : Bool) (dg : List UInt8) (ex : Int) (s : List UInt8) (Al : Option Addr) (ln e : Nat) (B : Option Addr) (mn d : Nat) (hM : Mk gm Y A cp acc bad p w) :
  Calls Tryz.prog 37 #[.pointer (some ⟨gm, 0, none⟩), .string ⟨q.toArray⟩, .agg #[.int .i64 k, .bool b, .bool ng, .string ⟨dg.toArray⟩, .int .i64 ex, .string ⟨s.toArray⟩, .slice Al ln e, .slice B mn d]] w fun e w' => e = .returned (.tuple #[]) ∧ Below w.heap.size w w' := by
 have HM := Lib.hid (hM.on ((Below.refl w.heap.size w).alloc (Nat.le_refl _) (.cells #[.int .i64 k, .bool b, .bool ng, .string ⟨dg.toArray⟩, .int .i64 ex, .string ⟨s.toArray⟩, .slice Al ln e, .slice B mn d] 31)))
 have HB := Lib.hid ((Below.refl w.heap.size w).alloc (Nat.le_refl _) (.cells #[.int .i64 k, .bool b, .bool ng, .string ⟨dg.toArray⟩, .int .i64 ex, .string ⟨s.toArray⟩, .slice Al ln e, .slice B mn d] 31))
 have hb0 : ((bad : Int) == 0) = false := by rw [beq_eq_false_iff_ne]; omega
 clear hM
 go_enter Tryz.func37, Tryz.ntmps37
 go_upto_region 1 with (fail)
 generalize w.alloc (.cells #[.int .i64 k, .bool b, .bool ng, .string ⟨dg.toArray⟩, .int .i64 ex, .string ⟨s.toArray⟩, .slice Al ln e, .slice B mn d] 31) = w0 at *
 obtain ⟨g0, g1, g2, g3, g4, g5⟩ := HM.out.blk.three
 go_wp2_with fail
 refine bodyPost_ret (results_none rfl _ _ _) rfl ?_
 exact ⟨rfl, HB.out⟩

set_option linter.unusedVariables false in
set_option linter.unusedSimpArgs false in
set_option maxRecDepth 100000 in
set_option maxHeartbeats 9000000 in
theorem node_step (f : Nat) (IH : NodeC f) : NodeC (f + 1) := by
 intro v hvf hsl hsz gm Y A cp acc p P w x S hM hS hx hlen
 obtain ⟨k, b, n, s, l, m⟩ := v
 obtain ⟨Al, e, B, d, rfl, q1, q2, q3, q4, q5, q6⟩ := In.form hx
 have HIH := Lib.hid IH
 have HW := Lib.hid (NodeW.start hM #[.int .i64 k, .bool b, .bool n.neg, .string ⟨n.digits.toArray⟩, .int .i64 n.exp, .string ⟨s.toArray⟩, .slice Al l.length e, .slice B m.length d])
 have HS := Lib.hid hS
 have HM6 := Lib.hid q6
 have hfew := hM.few
 have HSL := Lib.hid hsl
 have hml : m.length ≤ 1000000 := by
  have h : m.length ≤ sizeM m := sizeM_len m
  simp only [Vl.size] at hsz; omega
 unfold maxLen at q4
 clear hM hS hx q5 q6 hsl q1 q2 IH
 go_enter Tryz.func37, Tryz.ntmps37
 go_upto_region 1 with (fail)
 generalize w.alloc (.cells #[.int .i64 k, .bool b, .bool n.neg, .string ⟨n.digits.toArray⟩, .int .i64 n.exp, .string ⟨s.toArray⟩, .slice Al l.length e, .slice B m.length d] 31) = w0 at *
 obtain ⟨g0, g1, g2, g3, g4, g5⟩ := HW.out.maker.blk.three
 by_cases h200 : acc.length = 200
 ·have hb2 : ((acc.length : Int) == 200) = true := by rw [beq_iff_eq]; omega
  go_wp2_with fail
  refine bodyPost_ret (results_none rfl _ _ _) rfl ?_
  refine ⟨rfl, A, cp, acc, 5, text P, ((HW.out.setBad 5).setPath (text P)).leave, .inr ⟨5, P, Cm.node_full h200, by decide, by decide, rfl, rfl, Nat.le_refl _⟩⟩
 ·have hb2 : ((acc.length : Int) == 200) = false := by rw [beq_eq_false_iff_ne]; omega
  go_upto_region 6 with (fail)
  go_cut [51] from 36 to 51 (fun v51 wc => v51 = (.pointer (some ⟨gm, 0, none⟩)) ∧ ∃ (A1 : Option Addr) (c1 : Nat), NodeW w gm Y A #[.int .i64 k, .bool b, .bool n.neg, .string ⟨n.digits.toArray⟩, .int .i64 n.exp, .string ⟨s.toArray⟩, .slice Al l.length e, .slice B m.length d] A1 c1 (acc ++ [⟨P, decide (k = 1), b, []⟩]) 0 p none 0 [] (fun _ => False) wc)
  case first =>
   have HDR := Lib.hid (show NodeW w gm Y A #[.int .i64 k, .bool b, .bool n.neg, .string ⟨n.digits.toArray⟩, .int .i64 n.exp, .string ⟨s.toArray⟩, .slice Al l.length e, .slice B m.length d] A cp acc 0 p none 0 [] (fun _ => False) w0.drew from HW.out.next (below_drewN (Below.refl _ _) 1))
   clear g0 g1 g2 g3 g4 g5 HW
   refine wp_region_held_drew (S := (fun W9 => Blk W9 w.heap.size 31 #[.int .i64 k, .bool b, .bool n.neg, .string ⟨n.digits.toArray⟩, .int .i64 n.exp, .string ⟨s.toArray⟩, .slice Al l.length e, .slice B m.length d])) (by kernel_rfl) HDR.out.box (fun ht => ?_)
   generalize w0.drew = w1 at *
   refine wpAnyH_take (i := 0) (oi := ⟨some _, _, _, _, _, _⟩) (v := (.pointer (some ⟨gm, 0, none⟩))) rfl (by kernel_rfl) (by kernel_rfl) (by kernel_rfl) (fun _ _ _ h => h) (Or.inl ⟨by rfl, ?_⟩) ht ?_
   ·intro W9 hSw
    go_simp
   try simp only [Act.put, List.setIfInBounds_toArray, List.set_cons_zero, List.set_cons_succ]
   refine wpAnyH_take (i := 1) (oi := ⟨some _, _, _, _, _, _⟩) (v := (.pointer (some ⟨gm, 0, none⟩))) rfl (by kernel_rfl) (by kernel_rfl) (by kernel_rfl) (fun _ _ _ h => h) (Or.inl ⟨by rfl, ?_⟩) ht ?_
   ·intro W9 hSw
    go_simp
   try simp only [Act.put, List.setIfInBounds_toArray, List.set_cons_zero, List.set_cons_succ]
   refine wpAnyH_take (i := 2) (oi := ⟨some _, _, _, _, _, _⟩) (v := (.pointer (some ⟨gm, 0, none⟩))) rfl (by kernel_rfl) (by kernel_rfl) (by kernel_rfl) (fun _ _ _ h => h) (Or.inl ⟨by rfl, ?_⟩) ht ?_
   ·intro W9 hSw
    go_simp
   try simp only [Act.put, List.setIfInBounds_toArray, List.set_cons_zero, List.set_cons_succ]
   refine wpAnyH_take (i := 3) (oi := ⟨some _, _, _, _, _, _⟩) (v := (.pointer (some ⟨gm, 0, none⟩))) rfl (by kernel_rfl) (by kernel_rfl) (by kernel_rfl) (fun _ _ _ h => h) (Or.inl ⟨by rfl, ?_⟩) ht ?_
   ·intro W9 hSw
    go_simp
   try simp only [Act.put, List.setIfInBounds_toArray, List.set_cons_zero, List.set_cons_succ]
   refine wpAnyH_take (i := 5) (oi := ⟨some _, _, _, _, _, _⟩) (v := (.string ⟨(text P).toArray⟩)) rfl (by kernel_rfl) (by kernel_rfl) (by kernel_rfl) (fun _ _ _ h => h) (Or.inl ⟨by rfl, ?_⟩) ht ?_
   ·intro W9 hSw
    go_simp
   try simp only [Act.put, List.setIfInBounds_toArray, List.set_cons_zero, List.set_cons_succ]
   refine wpAnyH_take (i := 6) (oi := ⟨some _, _, _, _, _, _⟩) (v := (.pointer (some ⟨w.heap.size, 0, none⟩))) rfl (by kernel_rfl) (by kernel_rfl) (by kernel_rfl) (fun _ _ _ h => h) (Or.inl ⟨by rfl, ?_⟩) ht ?_
   ·intro W9 hSw
    go_simp
   try simp only [Act.put, List.setIfInBounds_toArray, List.set_cons_zero, List.set_cons_succ]
   refine wpAnyH_take (i := 7) (oi := ⟨some _, _, _, _, _, _⟩) (v := (.int .i64 k)) rfl (by kernel_rfl) (by kernel_rfl) (by kernel_rfl) (fun _ _ _ h => h) (Or.inl ⟨by rfl, ?_⟩) ht ?_
   ·intro W9 hSw
    obtain ⟨f0, f1, f2, f3, f4, f5, f6, f7⟩ := hSw.eight
    go_simp
   try simp only [Act.put, List.setIfInBounds_toArray, List.set_cons_zero, List.set_cons_succ]
   refine wpAnyH_take (i := 8) (oi := ⟨some _, _, _, _, _, _⟩) (v := (.bool (k == 1))) rfl (by kernel_rfl) (by kernel_rfl) (by kernel_rfl) (fun _ _ _ h => h) (Or.inl ⟨by rfl, ?_⟩) ht ?_
   ·intro W9 hSw
    go_simp
   try simp only [Act.put, List.setIfInBounds_toArray, List.set_cons_zero, List.set_cons_succ]
   refine wpAnyH_take (i := 9) (oi := ⟨some _, _, _, _, _, _⟩) (v := (.pointer (some ⟨w.heap.size, 1, none⟩))) rfl (by kernel_rfl) (by kernel_rfl) (by kernel_rfl) (fun _ _ _ h => h) (Or.inl ⟨by rfl, ?_⟩) ht ?_
   ·intro W9 hSw
    go_simp
   try simp only [Act.put, List.setIfInBounds_toArray, List.set_cons_zero, List.set_cons_succ]
   refine wpAnyH_take (i := 10) (oi := ⟨some _, _, _, _, _, _⟩) (v := (.bool b)) rfl (by kernel_rfl) (by kernel_rfl) (by kernel_rfl) (fun _ _ _ h => h) (Or.inl ⟨by rfl, ?_⟩) ht ?_
   ·intro W9 hSw
    obtain ⟨f0, f1, f2, f3, f4, f5, f6, f7⟩ := hSw.eight
    go_simp
   try simp only [Act.put, List.setIfInBounds_toArray, List.set_cons_zero, List.set_cons_succ]
   refine wpAnyH_take (i := 11) (oi := ⟨some _, _, _, _, _, _⟩) (v := (.agg #[.string ⟨(text P).toArray⟩, .bool (k == 1), .bool b, .slice none 0 0])) rfl (by kernel_rfl) (by kernel_rfl) (by kernel_rfl) (fun _ _ _ h => h) (Or.inl ⟨by rfl, ?_⟩) ht ?_
   ·intro W9 hSw
    go_simp
   try simp only [Act.put, List.setIfInBounds_toArray, List.set_cons_zero, List.set_cons_succ]
   refine wpAnyH_ready (rs := [4, 12]) (by kernel_rfl) (by simp) ?_
   refine AllReadyH.cons (o := ⟨some _, _, _, _, _, _⟩) rfl (fun K hK => ?_) (AllReadyH.cons (o := ⟨some _, _, _, _, _, _⟩) rfl (fun K hK => ?_) (AllReadyH.nil))
   ·obtain ⟨t0, t1, t2, t3, t4, t5⟩ := HDR.out.maker.blk.three
    go_simp
    refine hK.out _ _ ht (fun ht => ?_)
    clear hK K t0 t1 t2 t3 t4 t5
    try simp only [Act.put, List.setIfInBounds_toArray, List.set_cons_zero, List.set_cons_succ]
    refine wpAnyH_ready (rs := [12]) (by kernel_rfl) (by simp) ?_
    refine AllReadyH.cons (o := ⟨some _, _, _, _, _, _⟩) rfl (fun K hK => ?_) (AllReadyH.nil)
    go_simp
    refine via10 (K := K) (fun W9 => (fun W9 => Blk W9 w.heap.size 31 #[.int .i64 k, .bool b, .bool n.neg, .string ⟨n.digits.toArray⟩, .int .i64 n.exp, .string ⟨s.toArray⟩, .slice Al l.length e, .slice B m.length d]) W9 ∧ Blk W9 w1.heap.size 39 #[.string ⟨(text P).toArray⟩, .bool (k == 1), .bool b, .slice none 0 0] ∧ NodeW w gm Y A #[.int .i64 k, .bool b, .bool n.neg, .string ⟨n.digits.toArray⟩, .int .i64 n.exp, .string ⟨s.toArray⟩, .slice Al l.length e, .slice B m.length d] A cp acc 0 p none 0 [] (fun _ => False) W9) ⟨ht.alloc _, Blk.new w1 _ _, HDR.out.next ((Below.refl _ _).alloc (Nat.le_refl _) _)⟩ ?_
    rintro w3 ⟨ht3, hn, hr3⟩
    have HN := Lib.hid hn
    clear hn ht
    refine hK.out _ _ ht3 (fun ht => ?_)
    clear hK K ht3
    try simp only [Act.put, List.setIfInBounds_toArray, List.set_cons_zero, List.set_cons_succ]
    obtain ⟨gN, hgN⟩ : ∃ g, g = w1.heap.size := ⟨_, rfl⟩
    rw [← hgN] at HN ⊢
    clear hgN HDR
    have HDR := Lib.hid hr3
    clear hr3
    obtain ⟨flat, hown, hpush⟩ := RowX.push (It := ItN) (fun h => ItN.mono h) rfl HDR.out.maker.row
    obtain ⟨i0, hi0, hz0, hz1, hz2⟩ := infoNode
    have hsz3 : gm + 1 ≤ w3.heap.size := HDR.out.maker.lt
    refine wpAnyH_ready (rs := [13]) (by kernel_rfl) (by simp) ?_
    refine AllReadyH.cons (o := ⟨some _, _, _, _, _, _⟩) rfl (fun K hK => ?_) (AllReadyH.nil)
    refine step_append_lies _ rfl _ _ _ rfl (gm + 1) 39 i0 _ 4 48 Tryz.underlying23 hi0 hz0 hz1 hz2 rfl (by omega) (.slice A acc.length cp) acc.length flat rfl hown ⟨gN, 0, none⟩ 1 1 (#[.string ⟨(text P).toArray⟩, .bool (k == 1), .bool b, .slice none 0 0] : Array Value).toList rfl rfl (World.news_of_block HN.out) (by simp [Value.oneCell']) (by omega) (by unfold maxLen; omega) (by omega) hsz3 _ rfl ?_
    intro g6 cap6 w6 hown6 hgr6 hat6 hlt6
    have hro := row_on (fun ad e => (HDR.out.maker.row.le).2.2 ad e) hgr6 hat6
    have HR6 := Lib.hid (hpush (a := ⟨P, decide (k = 1), b, []⟩) (Rn := fun _ => False) ⟨none, 0, rfl, (fun i q h => by simp at h), Nat.le_refl _, Nat.zero_le _⟩ (fun b h => h.elim) (by simp [Value.oneCell']) rfl hown6 hgr6 hat6)
    have HG6 := Lib.hid (HDR.out.grow hro.1 hro.2 HR6.out (by omega))
    have ht6 := hro.1.blk ht HDR.out.far
    have HM6b := Lib.hid (hro.1.blk HDR.out.maker.blk (fun k => by have := (HDR.out.maker.rowAt k).1; omega))
    clear hown6 hgr6 hat6 hown hpush ht hro HR6 HDR HN
    refine hK.out _ _ ht6 (fun ht => ?_)
    clear hK K ht6
    try simp only [Act.put, List.setIfInBounds_toArray, List.set_cons_zero, List.set_cons_succ]
    refine wpAnyH_take (i := 14) (oi := ⟨some _, _, _, _, _, _⟩) (v := (.pointer (some ⟨gm, 0, none⟩))) rfl (by kernel_rfl) (by kernel_rfl) (by kernel_rfl) (fun _ _ _ h => h) (Or.inl ⟨by rfl, ?_⟩) ht ?_
    ·intro W9 hSw
     go_simp
    try simp only [Act.put, List.setIfInBounds_toArray, List.set_cons_zero, List.set_cons_succ]
    refine wpAnyH_take (i := 15) (oi := ⟨some _, _, _, _, _, _⟩) (v := (.pointer (some ⟨gm, 0, none⟩))) rfl (by kernel_rfl) (by kernel_rfl) (by kernel_rfl) (fun _ _ _ h => h) (Or.inl ⟨by rfl, ?_⟩) ht ?_
    ·intro W9 hSw
     go_simp
    try simp only [Act.put, List.setIfInBounds_toArray, List.set_cons_zero, List.set_cons_succ]
    refine wpAnyH_ready (rs := [16]) (by kernel_rfl) (by simp) ?_
    refine AllReadyH.cons (o := ⟨none, _, _, _, _, _⟩) rfl (fun K hK => ?_) (AllReadyH.nil)
    obtain ⟨t0, t1, t2, t3, t4, t5⟩ := HM6b.out.three
    have zl := HM6b.out.lt
    go_simp
    refine via10 (K := K) (fun W9 => (fun W9 => Blk W9 w.heap.size 31 #[.int .i64 k, .bool b, .bool n.neg, .string ⟨n.digits.toArray⟩, .int .i64 n.exp, .string ⟨s.toArray⟩, .slice Al l.length e, .slice B m.length d]) W9 ∧ NodeW w gm Y A #[.int .i64 k, .bool b, .bool n.neg, .string ⟨n.digits.toArray⟩, .int .i64 n.exp, .string ⟨s.toArray⟩, .slice Al l.length e, .slice B m.length d] (some ⟨g6, 0, none⟩) cap6 (acc ++ [⟨P, decide (k = 1), b, []⟩]) 0 p none 0 [] (fun _ => False) W9) ⟨HG6.out.box, HG6.out⟩ ?_
    rintro w7 ⟨ht7, hr7⟩
    have HW := Lib.hid hr7
    clear hr7 HG6 HM6b t0 t1 t2 t3 t4 t5 zl
    refine hK.out _ _ ht7 (fun ht => ?_)
    clear hK K ht7
    try simp only [Act.put, List.setIfInBounds_toArray, List.set_cons_zero, List.set_cons_succ]
    refine wpAnyH_done (by kernel_rfl) ?_ _
    clear ht
    go_wp2_with fail
    go_meet
    case rel => exact ⟨rfl, _, _, HW.out⟩
   ·go_simp
    refine via10 (K := K) (fun W9 => (fun W9 => Blk W9 w.heap.size 31 #[.int .i64 k, .bool b, .bool n.neg, .string ⟨n.digits.toArray⟩, .int .i64 n.exp, .string ⟨s.toArray⟩, .slice Al l.length e, .slice B m.length d]) W9 ∧ Blk W9 w1.heap.size 39 #[.string ⟨(text P).toArray⟩, .bool (k == 1), .bool b, .slice none 0 0] ∧ NodeW w gm Y A #[.int .i64 k, .bool b, .bool n.neg, .string ⟨n.digits.toArray⟩, .int .i64 n.exp, .string ⟨s.toArray⟩, .slice Al l.length e, .slice B m.length d] A cp acc 0 p none 0 [] (fun _ => False) W9) ⟨ht.alloc _, Blk.new w1 _ _, HDR.out.next ((Below.refl _ _).alloc (Nat.le_refl _) _)⟩ ?_
    rintro w3 ⟨ht3, hn, hr3⟩
    have HN := Lib.hid hn
    clear hn ht
    refine hK.out _ _ ht3 (fun ht => ?_)
    clear hK K ht3
    try simp only [Act.put, List.setIfInBounds_toArray, List.set_cons_zero, List.set_cons_succ]
    obtain ⟨gN, hgN⟩ : ∃ g, g = w1.heap.size := ⟨_, rfl⟩
    rw [← hgN] at HN ⊢
    clear hgN HDR
    have HDR := Lib.hid hr3
    clear hr3
    refine wpAnyH_ready (rs := [4]) (by kernel_rfl) (by simp) ?_
    refine AllReadyH.cons (o := ⟨some _, _, _, _, _, _⟩) rfl (fun K hK => ?_) (AllReadyH.nil)
    obtain ⟨t0, t1, t2, t3, t4, t5⟩ := HDR.out.maker.blk.three
    go_simp
    refine hK.out _ _ ht (fun ht => ?_)
    clear hK K t0 t1 t2 t3 t4 t5
    try simp only [Act.put, List.setIfInBounds_toArray, List.set_cons_zero, List.set_cons_succ]
    obtain ⟨flat, hown, hpush⟩ := RowX.push (It := ItN) (fun h => ItN.mono h) rfl HDR.out.maker.row
    obtain ⟨i0, hi0, hz0, hz1, hz2⟩ := infoNode
    have hsz3 : gm + 1 ≤ w3.heap.size := HDR.out.maker.lt
    refine wpAnyH_ready (rs := [13]) (by kernel_rfl) (by simp) ?_
    refine AllReadyH.cons (o := ⟨some _, _, _, _, _, _⟩) rfl (fun K hK => ?_) (AllReadyH.nil)
    refine step_append_lies _ rfl _ _ _ rfl (gm + 1) 39 i0 _ 4 48 Tryz.underlying23 hi0 hz0 hz1 hz2 rfl (by omega) (.slice A acc.length cp) acc.length flat rfl hown ⟨gN, 0, none⟩ 1 1 (#[.string ⟨(text P).toArray⟩, .bool (k == 1), .bool b, .slice none 0 0] : Array Value).toList rfl rfl (World.news_of_block HN.out) (by simp [Value.oneCell']) (by omega) (by unfold maxLen; omega) (by omega) hsz3 _ rfl ?_
    intro g6 cap6 w6 hown6 hgr6 hat6 hlt6
    have hro := row_on (fun ad e => (HDR.out.maker.row.le).2.2 ad e) hgr6 hat6
    have HR6 := Lib.hid (hpush (a := ⟨P, decide (k = 1), b, []⟩) (Rn := fun _ => False) ⟨none, 0, rfl, (fun i q h => by simp at h), Nat.le_refl _, Nat.zero_le _⟩ (fun b h => h.elim) (by simp [Value.oneCell']) rfl hown6 hgr6 hat6)
    have HG6 := Lib.hid (HDR.out.grow hro.1 hro.2 HR6.out (by omega))
    have ht6 := hro.1.blk ht HDR.out.far
    have HM6b := Lib.hid (hro.1.blk HDR.out.maker.blk (fun k => by have := (HDR.out.maker.rowAt k).1; omega))
    clear hown6 hgr6 hat6 hown hpush ht hro HR6 HDR HN
    refine hK.out _ _ ht6 (fun ht => ?_)
    clear hK K ht6
    try simp only [Act.put, List.setIfInBounds_toArray, List.set_cons_zero, List.set_cons_succ]
    refine wpAnyH_take (i := 14) (oi := ⟨some _, _, _, _, _, _⟩) (v := (.pointer (some ⟨gm, 0, none⟩))) rfl (by kernel_rfl) (by kernel_rfl) (by kernel_rfl) (fun _ _ _ h => h) (Or.inl ⟨by rfl, ?_⟩) ht ?_
    ·intro W9 hSw
     go_simp
    try simp only [Act.put, List.setIfInBounds_toArray, List.set_cons_zero, List.set_cons_succ]
    refine wpAnyH_take (i := 15) (oi := ⟨some _, _, _, _, _, _⟩) (v := (.pointer (some ⟨gm, 0, none⟩))) rfl (by kernel_rfl) (by kernel_rfl) (by kernel_rfl) (fun _ _ _ h => h) (Or.inl ⟨by rfl, ?_⟩) ht ?_
    ·intro W9 hSw
     go_simp
    try simp only [Act.put, List.setIfInBounds_toArray, List.set_cons_zero, List.set_cons_succ]
    refine wpAnyH_ready (rs := [16]) (by kernel_rfl) (by simp) ?_
    refine AllReadyH.cons (o := ⟨none, _, _, _, _, _⟩) rfl (fun K hK => ?_) (AllReadyH.nil)
    obtain ⟨t0, t1, t2, t3, t4, t5⟩ := HM6b.out.three
    have zl := HM6b.out.lt
    go_simp
    refine via10 (K := K) (fun W9 => (fun W9 => Blk W9 w.heap.size 31 #[.int .i64 k, .bool b, .bool n.neg, .string ⟨n.digits.toArray⟩, .int .i64 n.exp, .string ⟨s.toArray⟩, .slice Al l.length e, .slice B m.length d]) W9 ∧ NodeW w gm Y A #[.int .i64 k, .bool b, .bool n.neg, .string ⟨n.digits.toArray⟩, .int .i64 n.exp, .string ⟨s.toArray⟩, .slice Al l.length e, .slice B m.length d] (some ⟨g6, 0, none⟩) cap6 (acc ++ [⟨P, decide (k = 1), b, []⟩]) 0 p none 0 [] (fun _ => False) W9) ⟨HG6.out.box, HG6.out⟩ ?_
    rintro w7 ⟨ht7, hr7⟩
    have HW := Lib.hid hr7
    clear hr7 HG6 HM6b t0 t1 t2 t3 t4 t5 zl
    refine hK.out _ _ ht7 (fun ht => ?_)
    clear hK K ht7
    try simp only [Act.put, List.setIfInBounds_toArray, List.set_cons_zero, List.set_cons_succ]
    refine wpAnyH_done (by kernel_rfl) ?_ _
    clear ht
    go_wp2_with fail
    go_meet
    case rel => exact ⟨rfl, _, _, HW.out⟩
  case rest =>
   obtain ⟨rfl, A1, c1, hNW⟩ := hcut
   have HW1 := Lib.hid hNW
   clear hNW HW g0 g1 g2 g3 g4 g5
   go_wp2_with fail
   go_loopw [7, 8] (fun o7 i8 wr => ∃ (i : Nat) (A2 : Option Addr) (c2 : Nat) (acc2 : List Cm.Node) (bad2 : Nat) (p2 : List UInt8) (Ak : Option Addr) (ck : Nat) (keys : List Cm.Key), o7 = .slice Ak i ck ∧ i8 = .int .i64 i ∧ i ≤ m.length ∧ keys.length = i ∧ NodeW w gm Y A #[.int .i64 k, .bool b, .bool n.neg, .string ⟨n.digits.toArray⟩, .int .i64 n.exp, .string ⟨s.toArray⟩, .slice Al l.length e, .slice B m.length d] A2 c2 acc2 bad2 p2 Ak ck keys (fun _ => False) wr ∧ Mode1 f acc p P k b m i keys acc2 bad2 p2) (fun _ i _ => m.length - (intOf i).toNat)
   case atStart => exact ⟨0, A1, c1, _, 0, p, none, 0, [], rfl, rfl, Nat.zero_le _, rfl, HW1.out, .inl ⟨[], rfl, rfl, rfl, rfl⟩⟩
   case round =>
    obtain ⟨i, A2, c2, acc2, bad2, p2, Ak, ck, keys, rfl, rfl, hi, hlen2, hNW, hmode⟩ := hrel
    clear HW1
    have HW := Lib.hid hNW
    have HMD := Lib.hid hmode
    have HKL := Lib.hid hlen2
    clear hNW hmode hlen2
    obtain ⟨t0, t1, t2, t3, t4, t5⟩ := HW.out.maker.blk.three
    obtain ⟨f0, f1, f2, f3, f4, f5, f6, f7⟩ := HW.out.box.eight
    by_cases hgo : i < m.length ∧ bad2 = 0
    ·skip
     obtain ⟨hlt, rfl⟩ := hgo
     have hlt2 : (i : Int) < (m.length : Int) := by omega
     obtain ⟨g, o, y, rfl, hy, hnm, hc⟩ := HM6.out i _ (List.getElem?_eq_getElem hlt)
     obtain ⟨y_1, y_2, y_3, y_4, y_5, y_6, y_7, y_8, y_9, y_a, y_b, y_c, rfl⟩ := In.cells hy
     have hcl : Cl.le (w.on S) wr.cell? := (HW.out.but.on (S' := S) (fun b k => k) (fun b k _ => (HS.out b k).2.1)).trans (on_all _ _)
     have hsv := sizeM_mem (List.getElem_mem hlt)
     have hsl2 := (slimM_iff 1000000 m).1 (by have h := HSL.out; simp only [Vl.slim] at h; exact h.2.2.2) _ (List.getElem_mem hlt)
     have HNX := Lib.hid (fun keys r (h : Cm.memsN (Cm.node f) P (acc.length + 1) (m.take i) = .ok (keys, r)) => Cm.memsN_next hlt h)
     have e9 := hcl _ _ hnm
     have HC := Lib.hid (hc.keep hcl)
     have HY := Lib.hid hy
     clear hy hnm hc hcl f0 f1 f2 f3 f4 f5 f6
     generalize m[i]'hlt = q at *
     obtain ⟨nm, v⟩ := q
     simp only at hsv hsl2 e9 HNX HY
     obtain ⟨hnl, hvsl⟩ := hsl2
     simp only [Vl.size] at hvf hsz hlen
     have hvz : v.size ≤ f ∧ v.size ≤ 1000000 := by omega
     have htl : (text [nm]).length ≤ 2500000 := by
      have := text_len 1000000 [nm] (fun n hn => by rw [List.mem_singleton.1 hn]; exact hnl)
      simp at this; omega
     have hplen : (text P).length ≤ 9999995000000 ∧ (text (P ++ [nm])).length + 5000000 * v.size + 2000001 ≤ 10000000000000 := by
      rw [text_append, List.length_append]; omega
     have HP := Lib.hid (fun W (h : Strs W.cell? (some ⟨wr.heap.size, 0, none⟩) [nm]) => refPath_any [nm] (some ⟨wr.heap.size, 0, none⟩) 1 W h (Nat.le_refl _) (by unfold maxLen; omega) (by omega))
     have hcat : ∀ W, (Op.stringOp .add ⟨(text P).toArray⟩ ⟨(text [nm]).toArray⟩).run Tryz.prog W = .ok (.string ⟨(text (P ++ [nm])).toArray⟩) W := fun W => by rw [text_append]; exact cat_mk W _ _ (by omega)
     have HPL := Lib.hid hplen
     have HVZ := Lib.hid hvz
     have hgl := World.block_lt_of_cell? _ _ e9
     clear hplen hvz htl hsv
     go_upto_region 12 with (fail)
     go_wp2_with fail
     refine (HP.out _ (strs_one10 wr _ nm)).mono ?_
     rintro e2 w2 ⟨rfl, hb2⟩
     have hb3 := ((Below.refl wr.heap.size wr).alloc (Nat.le_refl _) (.cells #[.string ⟨nm.toArray⟩] 9)).trans (hb2.mono (by simp))
     have HW2 := Lib.hid (HW.out.next hb3)
     have HSH := Lib.hid (refShape_any nm v _ w2 (In.keep ((HW2.out.but.on (S' := S) (fun b k => k) (fun b k _ => (HS.out b k).2.1)).trans (on_all _ _)) _ _ HY.out) (by have := HVZ.out; omega))
     have HC2 := Lib.hid (HC.out.keep (le_below hb3))
     clear HW hb2 hb3 HP HC t0 t1 t2 t3 t4 t5 f7 e9
     obtain ⟨t0, t1, t2, t3, t4, t5⟩ := HW2.out.maker.blk.three
     obtain ⟨f0, f1, f2, f3, f4, f5, f6, f7⟩ := HW2.out.box.eight
     obtain ⟨e0, e1, e2, e3, e4, e5, e6, e7⟩ := HC2.out.eight
     clear f0 f1 f2 f3 f4 f5 f6
     go_wp2_with fail
     refine HSH.out.mono ?_
     rintro e3 w3 ⟨rfl, hb4⟩
     have HW3 := Lib.hid (HW2.out.next hb4)
     have HC3 := Lib.hid (HC2.out.keep (le_below hb4))
     clear HW2 HC2 HSH hb4 t0 t1 t2 t3 t4 t5 f7 e0 e1 e2 e3 e4 e5 e6 e7
     obtain ⟨sh, hsh⟩ : ∃ sh, sh = Sh.shape nm v := ⟨_, rfl⟩
     rw [← hsh]
     have HSH := Lib.hid hsh
     clear hsh
     obtain ⟨r1, hm1, hacc2, _, hp2⟩ : ∃ r, Cm.memsN (Cm.node f) P (acc.length + 1) (m.take i) = .ok (keys, r) ∧ acc2 = acc ++ ⟨P, decide (k = 1), b, []⟩ :: r ∧ (0 : Nat) = 0 ∧ p2 = p := by
      rcases HMD.out with h | ⟨c, q, _, h2, _, h4, _, _⟩
      ·exact h
      ·exact absurd h4.symm h2
     have HN1 := Lib.hid (HNX.out _ _ hm1)
     have HM1 := Lib.hid hm1
     have HA1 := Lib.hid hacc2
     have HP2 := Lib.hid hp2
     clear hm1 hacc2 hp2 HNX HMD
     obtain ⟨t0, t1, t2, t3, t4, t5⟩ := HW3.out.maker.blk.three
     by_cases hsh0 : sh = 0
     ·have hs0 : ((sh : Int) != 0) = false := by simp [hsh0]
      obtain ⟨f0, f1, f2, f3, f4, f5, f6, f7⟩ := HW3.out.box.eight
      obtain ⟨e0, e1, e2, e3, e4, e5, e6, e7⟩ := HC3.out.eight
      clear f0 f1 f2 f3 f4 f5 f6 t0 t1 t2 t3 t4 t5
      go_upto_region 18 with (fail)
      have HK := Lib.hid (KeyW.start (kc := [.string ⟨nm.toArray⟩, .int .i64 y_1, .bool y_2, .bool y_3, .string ⟨y_4.toArray⟩, .int .i64 y_5, .string ⟨y_6.toArray⟩, .slice y_7 y_8 y_9, .slice y_a y_b y_c]) HW3.out ((Below.refl w3.heap.size w3).alloc (Nat.le_refl _) (.cells #[.string ⟨nm.toArray⟩, .int .i64 y_1, .bool y_2, .bool y_3, .string ⟨y_4.toArray⟩, .int .i64 y_5, .string ⟨y_6.toArray⟩, .slice y_7 y_8 y_9, .slice y_a y_b y_c, .slice none 0 0] 43)) (Blk.new w3 _ _))
      have HC4 := Lib.hid (HC3.out.keep (le_below ((Below.refl w3.heap.size w3).alloc (Nat.le_refl _) (.cells #[.string ⟨nm.toArray⟩, .int .i64 y_1, .bool y_2, .bool y_3, .string ⟨y_4.toArray⟩, .int .i64 y_5, .string ⟨y_6.toArray⟩, .slice y_7 y_8 y_9, .slice y_a y_b y_c, .slice none 0 0] 43))))
      clear e0 e1 e2 e3 e4 e5 e6 e7 f7 HW3 HC3
      generalize w3.alloc (.cells #[.string ⟨nm.toArray⟩, .int .i64 y_1, .bool y_2, .bool y_3, .string ⟨y_4.toArray⟩, .int .i64 y_5, .string ⟨y_6.toArray⟩, .slice y_7 y_8 y_9, .slice y_a y_b y_c, .slice none 0 0] 43) = w4 at *
      generalize w3.heap.size = gk at *
      have HKD := Lib.hid (refKids_any S nm v _ w4 (fun b hb => Nat.lt_of_lt_of_le (HS.out b hb).1 HK.out.node.but.size) (In.keep (HK.out.node.but.on (fun b k => k) (fun b k _ => (HS.out b k).2.1)) _ _ HY.out) HVZ.out.2)
      have HSG := Lib.hid (refSingle_any nm)
      obtain ⟨f0, f1, f2, f3, f4, f5, f6, f7⟩ := HK.out.node.box.eight
      obtain ⟨e0, e1, e2, e3, e4, e5, e6, e7⟩ := HC4.out.eight
      clear f0 f1 f2 f3 f4 f5 f6
      go_wp2_with fail
      refine HKD.out.mono ?_
      rintro e5 w5 ⟨B5, cb5, rfl, hsm, hle1, hle2, hb5⟩
      have HK5 := Lib.hid (HK.out.next hb5)
      have HOF := Lib.hid (HK.out.off10 (W5 := w5) HS.out)
      have HSM := Lib.hid (hsm.keep (on_keep (w := w5) (w' := w5) (S' := fun b => (S b ∨ w4.heap.size ≤ b) ∧ b < w5.heap.size) (fun b h h2 => ⟨h, h2⟩) (fun _ _ _ => rfl)))
      have hkl := kids_len10 nm v
      have HKS := Lib.hid (fun q (hq : q ∈ Sh.kids nm v) => (kids_slim10 (by omega) hvsl HVZ.out.2 hq))
      have HKZ := Lib.hid (fun q (hq : q ∈ Sh.kids nm v) => Cm.kids_size hq)
      have HN2 := Lib.hid (HN1.out.2 (by rw [← HSH.out]; exact hsh0))
      clear hsm hb5 HK HKD HC4 e0 e1 e2 e3 e4 e5 e6 e7 f7 HN1
      generalize Sh.kids nm v = kids at *
      generalize (fun b => (S b ∨ w4.heap.size ≤ b) ∧ b < w5.heap.size) = Sk at *
      go_wp2_with fail
      refine (HSG.out _).mono ?_
      rintro e6 w6 ⟨rfl, hw6⟩
      rw [hw6]
      clear hw6 w6
      generalize Sh.single nm = sg at *
      go_wp2_with fail
      clear hle1 hle2
      go_loopw [15] (fun i15 wr => ∃ (j : Nat) (A3 : Option Addr) (c3 : Nat) (acc3 : List Cm.Node) (bad3 : Nat) (p3 : List UInt8) (Ad : Option Addr) (cd : Nat) (ks : List (List UInt8 × Nat)), i15 = .int .i64 j ∧ j ≤ kids.length ∧ ks.length = j ∧ KeyW w gm Y A #[.int .i64 k, .bool b, .bool n.neg, .string ⟨n.digits.toArray⟩, .int .i64 n.exp, .string ⟨s.toArray⟩, .slice Al l.length e, .slice (some ⟨g, o, none⟩) m.length d] A3 c3 acc3 bad3 p3 Ak ck keys gk [.string ⟨nm.toArray⟩, .int .i64 y_1, .bool y_2, .bool y_3, .string ⟨y_4.toArray⟩, .int .i64 y_5, .string ⟨y_6.toArray⟩, .slice y_7 y_8 y_9, .slice y_a y_b y_c] Ad cd ks wr ∧ SlM (wr.on Sk) B5 kids ∧ Off10 Sk gm Y A3 Ak gk Ad wr ∧ Mode2 f sg (P ++ [nm]) kids acc2 p j ks acc3 bad3 p3) (fun i _ => kids.length - (intOf i).toNat)
      case atStart => exact ⟨0, A2, c2, acc2, 0, p2, none, 0, [], rfl, Nat.zero_le _, rfl, HK5.out, HSM.out, HOF.out, .inl ⟨[], rfl, by simp, rfl, HP2.out⟩⟩
      case round =>
       obtain ⟨j, A3, c3, acc3, bad3, p3, Ad, cd, ks, rfl, hj, hks, hK, hsm, hof, hmode⟩ := hrel
       have HK := Lib.hid hK
       have HSM3 := Lib.hid hsm
       have HOF3 := Lib.hid hof
       have HMD := Lib.hid hmode
       have HKS3 := Lib.hid hks
       clear hK hsm hof hmode hks HK5 HSM HOF
       by_cases hlt3 : j < kids.length
       ·have hlt4 : (j : Int) < (kids.length : Int) := by omega
        obtain ⟨gK, oK, u, rfl, hu, hkn, hkc⟩ := HSM3.out j _ (List.getElem?_eq_getElem hlt3)
        obtain ⟨u_1, u_2, u_3, u_4, u_5, u_6, u_7, u_8, u_9, u_a, u_b, u_c, rfl⟩ := In.cells hu
        have hq1 := HKS.out _ (List.getElem_mem hlt3)
        have hq2 := HKZ.out _ (List.getElem_mem hlt3)
        have HNX2 := Lib.hid (fun ks a (h : Cm.kidsN (Cm.node f) sg (P ++ [nm]) acc2.length (kids.take j) = .ok (ks, a)) => Cm.kidsN_next hlt3 h)
        have hofk := HOF3.out gK (on_some.1 hkn).1
        have HOFK := Lib.hid (on_some.1 hkn).1
        have e9 := (on_some.1 hkn).2
        have HKC := Lib.hid (hkc.keep (on_all _ _))
        have HU := Lib.hid hu
        clear hu hkn hkc
        generalize kids[j]'hlt3 = q at *
        obtain ⟨key, kv⟩ := q
        simp only at hq1 hq2 e9 HNX2 HU
        obtain ⟨hkl2, hksl⟩ := hq1
        have htk : (text [key]).length ≤ 2000001 := by
         have := text_len 1000000 [key] (fun n hn => by rw [List.mem_singleton.1 hn]; exact hkl2)
         simp at this; omega
        have hpl := HPL.out
        have hvz2 := HVZ.out
        have htp : (text (P ++ [nm])).length ≤ 10000000000000 := by omega
        have HPK := Lib.hid (fun W (h : Strs W.cell? (some ⟨wr.heap.size, 0, none⟩) [key]) => refPath_any [key] (some ⟨wr.heap.size, 0, none⟩) 1 W h (Nat.le_refl _) (by unfold maxLen; omega) (by omega))
        have hcat2 : ∀ W, (Op.stringOp .add ⟨(text (P ++ [nm])).toArray⟩ ⟨(text [key]).toArray⟩).run Tryz.prog W = .ok (.string ⟨(text (P ++ [nm] ++ [key])).toArray⟩) W := fun W => by rw [text_append (P ++ [nm])]; exact cat_mk W _ _ (by omega)
        have HNL := Lib.hid (show (text (if sg = true then P ++ [nm] else P ++ [nm] ++ [key])).length + 5000000 * kv.size ≤ 10000000000000 by
         have h5 : (text (P ++ [nm] ++ [key])).length = (text (P ++ [nm])).length + (text [key]).length := by rw [text_append (P ++ [nm]), List.length_append]
         split
         ·omega
         ·omega)
        clear htk hpl htp
        have hgkl := hofk.1
        obtain ⟨NX, hNX⟩ : ∃ NX, NX = if sg = true then P ++ [nm] else P ++ [nm] ++ [key] := ⟨_, rfl⟩
        rw [← hNX] at HNL
        have HNXE := Lib.hid hNX
        clear hNX
        go_upto_if 121 with (fail)
        obtain ⟨ns, hns⟩ : ∃ ns, (!sg) = ns := ⟨_, rfl⟩
        rw [hns]
        have HNS := Lib.hid hns
        clear hns
        go_cut [16] from 121 to 130 (fun v16 wc => v16 = .string ⟨(text NX).toArray⟩ ∧ Below wr.heap.size wr wc)
        case first =>
         go_wp2_with fail
         ·have hsg : ns = true := by assumption
          have hsgn : Hid (sg = false) := Lib.hid (by have := HNS.out; rw [hsg] at this; simpa using this)
          refine (HPK.out _ (strs_one10 wr _ key)).mono ?_
          rintro e7 w7 ⟨rfl, hb7⟩
          have HB7 := Lib.hid (((Below.refl wr.heap.size wr).alloc (Nat.le_refl _) (.cells #[.string ⟨key.toArray⟩] 9)).trans (hb7.mono (by simp)))
          clear hb7
          go_wp2_with fail
          go_meet
          case rel => exact ⟨by rw [HNXE.out, hsgn.out, if_neg (by decide)]; simp, HB7.out⟩
         ·have hsg : ns = false := by assumption
          have hsgn : Hid (sg = true) := Lib.hid (by have := HNS.out; rw [hsg] at this; simpa using this)
          go_meet
          case rel => exact ⟨by rw [HNXE.out, if_pos hsgn.out], Below.refl _ _⟩
        case rest =>
         obtain ⟨rfl, hbw⟩ := hcut
         obtain ⟨wa, hwa⟩ : ∃ W, W = wc := ⟨_, rfl⟩
         subst hwa
         have HK7 := Lib.hid (HK.out.next hbw)
         have HOF7 := Lib.hid (HOF3.out.step (RowOn.refl _ _) (RowOn.refl _ _) hbw.size)
         have hle7 : Cl.le (wr.on Sk) (wa.on Sk) := on_keep (fun b h _ => h) (fun b h _ => hbw.block b (HOF3.out b h).1)
         have HSM7 := Lib.hid (HSM3.out.keep hle7)
         have HU7 := Lib.hid (In.keep hle7 _ _ HU.out)
         have HKC7 := Lib.hid (HKC.out.keep (le_below hbw))
         have e97 := le_below hbw _ _ e9
         have hofk7 := HOF7.out gK HOFK.out
         clear HK HOF3 hle7 HSM3 HU HKC e9 hofk hbw HPK hcat2 hgkl
         go_upto_region 26 with (fail)
         go_cut [146] from 131 to 146 (fun v146 wc => v146 = .pointer (some ⟨gk, 9, none⟩) ∧ ∃ (Ad2 : Option Addr) (cd2 : Nat), KeyW w gm Y A #[.int .i64 k, .bool b, .bool n.neg, .string ⟨n.digits.toArray⟩, .int .i64 n.exp, .string ⟨s.toArray⟩, .slice Al l.length e, .slice (some ⟨g, o, none⟩) m.length d] A3 c3 acc3 bad3 p3 Ak ck keys gk [.string ⟨nm.toArray⟩, .int .i64 y_1, .bool y_2, .bool y_3, .string ⟨y_4.toArray⟩, .int .i64 y_5, .string ⟨y_6.toArray⟩, .slice y_7 y_8 y_9, .slice y_a y_b y_c] Ad2 cd2 (ks ++ [(key, acc3.length)]) wc ∧ RowOn Ad Ad2 wa ∧ But (fun b => b = gk ∨ Bk Ad b) wa wc)
         case first =>
          have HDR := Lib.hid (show KeyW w gm Y A #[.int .i64 k, .bool b, .bool n.neg, .string ⟨n.digits.toArray⟩, .int .i64 n.exp, .string ⟨s.toArray⟩, .slice Al l.length e, .slice (some ⟨g, o, none⟩) m.length d] A3 c3 acc3 bad3 p3 Ak ck keys gk [.string ⟨nm.toArray⟩, .int .i64 y_1, .bool y_2, .bool y_3, .string ⟨y_4.toArray⟩, .int .i64 y_5, .string ⟨y_6.toArray⟩, .slice y_7 y_8 y_9, .slice y_a y_b y_c] Ad cd ks wa.drew from HK7.out.next (below_drewN (Below.refl _ _) 1))
          have HBD := Lib.hid (show But (fun b => b = gk ∨ Bk Ad b) wa wa.drew from But.of (below_drewN (Below.refl _ _) 1))
          have hksz : ks.length ≤ 1000000 := by have := HKS3.out; omega
          have hggk : ¬ gm = gk := by have := HK7.out.gt; have := HK7.out.node.lt; omega
          refine wp_region_held_drew (S := (fun W9 => Blk W9 gm 74 #[.slice A3 acc3.length c3, .int .i64 bad3, .string ⟨p3.toArray⟩] ∧ W9.cell? ⟨gK, oK + j * 9, none⟩ = some (.string ⟨key.toArray⟩))) (by kernel_rfl) ⟨HDR.out.node.maker.blk, e97⟩ (fun ht => ?_)
          have HSZ8 := Lib.hid (show wa.heap.size ≤ wa.drew.heap.size from Nat.le_refl _)
          generalize wa.drew = w8 at *
          refine wpAnyH_take (i := 0) (oi := ⟨some _, _, _, _, _, _⟩) (v := (.pointer (some ⟨gk, 9, none⟩))) rfl (by kernel_rfl) (by kernel_rfl) (by kernel_rfl) (fun _ _ _ h => h) (Or.inl ⟨by rfl, ?_⟩) ht ?_
          ·intro W9 hSw
           go_simp
          try simp only [Act.put, List.setIfInBounds_toArray, List.set_cons_zero, List.set_cons_succ]
          refine wpAnyH_take (i := 2) (oi := ⟨some _, _, _, _, _, _⟩) (v := (.slice (some ⟨gK, oK, none⟩) kids.length cb5)) rfl (by kernel_rfl) (by kernel_rfl) (by kernel_rfl) (fun _ _ _ h => h) (Or.inl ⟨by rfl, ?_⟩) ht ?_
          ·intro W9 hSw
           go_simp
          try simp only [Act.put, List.setIfInBounds_toArray, List.set_cons_zero, List.set_cons_succ]
          refine wpAnyH_take (i := 3) (oi := ⟨some _, _, _, _, _, _⟩) (v := (.int .i64 j)) rfl (by kernel_rfl) (by kernel_rfl) (by kernel_rfl) (fun _ _ _ h => h) (Or.inl ⟨by rfl, ?_⟩) ht ?_
          ·intro W9 hSw
           go_simp
          try simp only [Act.put, List.setIfInBounds_toArray, List.set_cons_zero, List.set_cons_succ]
          refine wpAnyH_take (i := 4) (oi := ⟨some _, _, _, _, _, _⟩) (v := (.pointer (some ⟨gK, oK + j * 9, none⟩))) rfl (by kernel_rfl) (by kernel_rfl) (by kernel_rfl) (fun _ _ _ h => h) (Or.inl ⟨by rfl, ?_⟩) ht ?_
          ·intro W9 hSw
           go_simp
          try simp only [Act.put, List.setIfInBounds_toArray, List.set_cons_zero, List.set_cons_succ]
          refine wpAnyH_take (i := 5) (oi := ⟨some _, _, _, _, _, _⟩) (v := (.pointer (some ⟨gK, oK + j * 9, none⟩))) rfl (by kernel_rfl) (by kernel_rfl) (by kernel_rfl) (fun _ _ _ h => h) (Or.inl ⟨by rfl, ?_⟩) ht ?_
          ·intro W9 hSw
           go_simp
          try simp only [Act.put, List.setIfInBounds_toArray, List.set_cons_zero, List.set_cons_succ]
          refine wpAnyH_take (i := 6) (oi := ⟨some _, _, _, _, _, _⟩) (v := (.string ⟨key.toArray⟩)) rfl (by kernel_rfl) (by kernel_rfl) (by kernel_rfl) (fun _ _ _ h => h) (Or.inl ⟨by rfl, ?_⟩) ht ?_
          ·intro W9 hSw
           obtain ⟨_, hs2⟩ := hSw
           go_simp
          try simp only [Act.put, List.setIfInBounds_toArray, List.set_cons_zero, List.set_cons_succ]
          refine wpAnyH_take (i := 7) (oi := ⟨some _, _, _, _, _, _⟩) (v := (.pointer (some ⟨gm, 0, none⟩))) rfl (by kernel_rfl) (by kernel_rfl) (by kernel_rfl) (fun _ _ _ h => h) (Or.inl ⟨by rfl, ?_⟩) ht ?_
          ·intro W9 hSw
           go_simp
          try simp only [Act.put, List.setIfInBounds_toArray, List.set_cons_zero, List.set_cons_succ]
          refine wpAnyH_take (i := 8) (oi := ⟨some _, _, _, _, _, _⟩) (v := (.pointer (some ⟨gm, 0, none⟩))) rfl (by kernel_rfl) (by kernel_rfl) (by kernel_rfl) (fun _ _ _ h => h) (Or.inl ⟨by rfl, ?_⟩) ht ?_
          ·intro W9 hSw
           go_simp
          try simp only [Act.put, List.setIfInBounds_toArray, List.set_cons_zero, List.set_cons_succ]
          refine wpAnyH_take (i := 9) (oi := ⟨some _, _, _, _, _, _⟩) (v := (.pointer (some ⟨gm, 0, none⟩))) rfl (by kernel_rfl) (by kernel_rfl) (by kernel_rfl) (fun _ _ _ h => h) (Or.inl ⟨by rfl, ?_⟩) ht ?_
          ·intro W9 hSw
           go_simp
          try simp only [Act.put, List.setIfInBounds_toArray, List.set_cons_zero, List.set_cons_succ]
          refine wpAnyH_take (i := 10) (oi := ⟨some _, _, _, _, _, _⟩) (v := (.slice A3 acc3.length c3)) rfl (by kernel_rfl) (by kernel_rfl) (by kernel_rfl) (fun _ _ _ h => h) (Or.inl ⟨by rfl, ?_⟩) ht ?_
          ·intro W9 hSw
           obtain ⟨t0, t1, t2, t3, t4, t5⟩ := hSw.1.three
           go_simp
          try simp only [Act.put, List.setIfInBounds_toArray, List.set_cons_zero, List.set_cons_succ]
          refine wpAnyH_take (i := 11) (oi := ⟨some _, _, _, _, _, _⟩) (v := (.int .i64 acc3.length)) rfl (by kernel_rfl) (by kernel_rfl) (by kernel_rfl) (fun _ _ _ h => h) (Or.inl ⟨by rfl, ?_⟩) ht ?_
          ·intro W9 hSw
           go_simp
          try simp only [Act.put, List.setIfInBounds_toArray, List.set_cons_zero, List.set_cons_succ]
          refine wpAnyH_take (i := 12) (oi := ⟨some _, _, _, _, _, _⟩) (v := (.agg #[.string ⟨key.toArray⟩, .int .i64 acc3.length])) rfl (by kernel_rfl) (by kernel_rfl) (by kernel_rfl) (fun _ _ _ h => h) (Or.inl ⟨by rfl, ?_⟩) ht ?_
          ·intro W9 hSw
           go_simp
          try simp only [Act.put, List.setIfInBounds_toArray, List.set_cons_zero, List.set_cons_succ]
          refine wpAnyH_ready (rs := [1, 13]) (by kernel_rfl) (by simp) ?_
          refine AllReadyH.cons (o := ⟨some _, _, _, _, _, _⟩) rfl (fun K hK => ?_) (AllReadyH.cons (o := ⟨some _, _, _, _, _, _⟩) rfl (fun K hK => ?_) (AllReadyH.nil))
          ·obtain ⟨z0, z1, z2, z3, z4, z5, z6, z7, z8, z9⟩ := HDR.out.key.ten
           go_simp
           refine hK.out _ _ ht (fun ht => ?_)
           clear hK K z0 z1 z2 z3 z4 z5 z6 z7 z8 z9
           try simp only [Act.put, List.setIfInBounds_toArray, List.set_cons_zero, List.set_cons_succ]
           refine wpAnyH_ready (rs := [13]) (by kernel_rfl) (by simp) ?_
           refine AllReadyH.cons (o := ⟨some _, _, _, _, _, _⟩) rfl (fun K hK => ?_) (AllReadyH.nil)
           go_simp
           refine via10 (K := K) (fun W9 => (fun W9 => Blk W9 gm 74 #[.slice A3 acc3.length c3, .int .i64 bad3, .string ⟨p3.toArray⟩] ∧ W9.cell? ⟨gK, oK + j * 9, none⟩ = some (.string ⟨key.toArray⟩)) W9 ∧ Blk W9 w8.heap.size 78 #[.string ⟨key.toArray⟩, .int .i64 acc3.length] ∧ KeyW w gm Y A #[.int .i64 k, .bool b, .bool n.neg, .string ⟨n.digits.toArray⟩, .int .i64 n.exp, .string ⟨s.toArray⟩, .slice Al l.length e, .slice (some ⟨g, o, none⟩) m.length d] A3 c3 acc3 bad3 p3 Ak ck keys gk [.string ⟨nm.toArray⟩, .int .i64 y_1, .bool y_2, .bool y_3, .string ⟨y_4.toArray⟩, .int .i64 y_5, .string ⟨y_6.toArray⟩, .slice y_7 y_8 y_9, .slice y_a y_b y_c] Ad cd ks W9 ∧ But (fun b => b = gk ∨ Bk Ad b) wa W9 ∧ w8.heap.size ≤ W9.heap.size) ⟨⟨ht.1.alloc _, (le_alloc _ _ _ _ ht.2)⟩, Blk.new w8 _ _, HDR.out.next ((Below.refl _ _).alloc (Nat.le_refl _) _), HBD.out.trans (But.of ((Below.refl _ _).alloc (Nat.le_refl _) _) (X := fun b => b = gk ∨ Bk Ad b)) (fun _ _ k => k), by simp⟩ ?_
           rintro w3 ⟨ht3, hn, hr3, hb3, hs3⟩
           have HN := Lib.hid hn
           clear hn ht
           refine hK.out _ _ ht3 (fun ht => ?_)
           clear hK K ht3
           try simp only [Act.put, List.setIfInBounds_toArray, List.set_cons_zero, List.set_cons_succ]
           obtain ⟨gN, hgN⟩ : ∃ g, g = w8.heap.size := ⟨_, rfl⟩
           rw [← hgN] at HN ⊢
           have hsw : wa.heap.size ≤ w3.heap.size := by have := HSZ8.out; omega
           clear hgN HDR HBD hs3
           have HDR := Lib.hid hr3
           have HBD := Lib.hid hb3
           clear hr3 hb3
           obtain ⟨flat, hown, hpush⟩ := RowX.push (It := ItKid) (fun h => ItKid.mono h) rfl HDR.out.kids
           obtain ⟨i0, hi0, hz0, hz1, hz2⟩ := infoKid
           have hsz3 : gk + 1 ≤ w3.heap.size := HDR.out.key.lt
           refine wpAnyH_ready (rs := [14]) (by kernel_rfl) (by simp) ?_
           refine AllReadyH.cons (o := ⟨some _, _, _, _, _, _⟩) rfl (fun K hK => ?_) (AllReadyH.nil)
           refine step_append_lies _ rfl _ _ _ rfl (gk + 1) 78 i0 _ 2 24 Tryz.underlying41 hi0 hz0 hz1 hz2 rfl (by omega) (.slice Ad ks.length cd) ks.length flat rfl hown ⟨gN, 0, none⟩ 1 1 (#[.string ⟨key.toArray⟩, .int .i64 acc3.length] : Array Value).toList rfl rfl (World.news_of_block HN.out) (by simp [Value.oneCell']) (by omega) (by unfold maxLen; omega) (by omega) hsz3 _ rfl ?_
           intro g6 cap6 w6 hown6 hgr6 hat6 hlt6
           have hro := row_on (RowX.le HDR.out.kids).2.2 hgr6 hat6
           have HR6 := Lib.hid (hpush (a := (key, acc3.length)) (Rn := fun _ => False) rfl (fun b h => h.elim) (by simp [Value.oneCell']) rfl hown6 hgr6 hat6)
           have hg6 := HDR.out.grow rfl hro.1 hro.2 HR6.out
           rw [show (ks ++ [(key, acc3.length)]).length = ks.length + 1 by simp] at hg6
           have HG6 := Lib.hid hg6
           have HBE := Lib.hid ((HBD.out.trans hro.1 (fun _ _ k => .inr k)).set (p := ⟨gk, 9, none⟩) (.inr (.inl rfl)) (.slice (some ⟨g6, 0, none⟩) (ks.length + 1) cap6))
           have HRO := Lib.hid (show RowOn Ad (some ⟨g6, 0, none⟩) wa from fun b hb => (hro.2 b hb).imp id (fun k => by omega))
           have HKB := Lib.hid (hro.1.blk HDR.out.key (fun k => by have := (HDR.out.kidAt k).1; omega))
           have ht6 : (fun W9 => Blk W9 gm 74 #[.slice A3 acc3.length c3, .int .i64 bad3, .string ⟨p3.toArray⟩] ∧ W9.cell? ⟨gK, oK + j * 9, none⟩ = some (.string ⟨key.toArray⟩)) w6 := ⟨hro.1.blk ht.1 (fun k => (HDR.out.kidAt k).2.2 (.inl rfl)), (World.cell?_of_block (hro.1.block gK (by omega) (fun k => hofk7.2.2 (.inr (.inr (.inr k)))))).trans ht.2⟩
           have hgKk : ¬ gK = gk := fun k => hofk7.2.2 (.inr (.inr (.inl k)))
           clear hown6 hgr6 hat6 hown hpush ht hro HR6 HDR HN HBD hg6
           refine hK.out _ _ ht6 (fun ht => ?_)
           clear hK K ht6
           try simp only [Act.put, List.setIfInBounds_toArray, List.set_cons_zero, List.set_cons_succ]
           refine wpAnyH_take (i := 15) (oi := ⟨some _, _, _, _, _, _⟩) (v := (.pointer (some ⟨gk, 9, none⟩))) rfl (by kernel_rfl) (by kernel_rfl) (by kernel_rfl) (fun _ _ _ h => h) (Or.inl ⟨by rfl, ?_⟩) ht ?_
           ·intro W9 hSw
            go_simp
           try simp only [Act.put, List.setIfInBounds_toArray, List.set_cons_zero, List.set_cons_succ]
           refine wpAnyH_ready (rs := [16]) (by kernel_rfl) (by simp) ?_
           refine AllReadyH.cons (o := ⟨none, _, _, _, _, _⟩) rfl (fun K hK => ?_) (AllReadyH.nil)
           obtain ⟨z0, z1, z2, z3, z4, z5, z6, z7, z8, z9⟩ := HKB.out.ten
           have zf := HKB.out.frozen 9
           have zl := HKB.out.lt
           go_simp
           refine via10 (K := K) (fun W9 => (fun W9 => Blk W9 gm 74 #[.slice A3 acc3.length c3, .int .i64 bad3, .string ⟨p3.toArray⟩] ∧ W9.cell? ⟨gK, oK + j * 9, none⟩ = some (.string ⟨key.toArray⟩)) W9 ∧ KeyW w gm Y A #[.int .i64 k, .bool b, .bool n.neg, .string ⟨n.digits.toArray⟩, .int .i64 n.exp, .string ⟨s.toArray⟩, .slice Al l.length e, .slice (some ⟨g, o, none⟩) m.length d] A3 c3 acc3 bad3 p3 Ak ck keys gk [.string ⟨nm.toArray⟩, .int .i64 y_1, .bool y_2, .bool y_3, .string ⟨y_4.toArray⟩, .int .i64 y_5, .string ⟨y_6.toArray⟩, .slice y_7 y_8 y_9, .slice y_a y_b y_c] (some ⟨g6, 0, none⟩) cap6 (ks ++ [(key, acc3.length)]) W9 ∧ But (fun b => b = gk ∨ Bk Ad b) wa W9) ⟨⟨HG6.out.node.maker.blk, (World.cell?_of_block (Below.heap_setCell _ _ _ gK hgKk)).trans ht.2⟩, HG6.out, HBE.out⟩ ?_
           rintro w7 ⟨ht7, hr7, hb7⟩
           have HKN := Lib.hid hr7
           have HBN := Lib.hid hb7
           clear hr7 hb7 HG6 HBE HKB z0 z1 z2 z3 z4 z5 z6 z7 z8 z9 zf zl
           refine hK.out _ _ ht7 (fun ht => ?_)
           clear hK K ht7
           try simp only [Act.put, List.setIfInBounds_toArray, List.set_cons_zero, List.set_cons_succ]
           refine wpAnyH_done (by kernel_rfl) ?_ _
           clear ht
           go_wp2_with fail
           go_meet
           case rel => exact ⟨rfl, _, _, HKN.out, HRO.out, HBN.out⟩
          ·go_simp
           refine via10 (K := K) (fun W9 => (fun W9 => Blk W9 gm 74 #[.slice A3 acc3.length c3, .int .i64 bad3, .string ⟨p3.toArray⟩] ∧ W9.cell? ⟨gK, oK + j * 9, none⟩ = some (.string ⟨key.toArray⟩)) W9 ∧ Blk W9 w8.heap.size 78 #[.string ⟨key.toArray⟩, .int .i64 acc3.length] ∧ KeyW w gm Y A #[.int .i64 k, .bool b, .bool n.neg, .string ⟨n.digits.toArray⟩, .int .i64 n.exp, .string ⟨s.toArray⟩, .slice Al l.length e, .slice (some ⟨g, o, none⟩) m.length d] A3 c3 acc3 bad3 p3 Ak ck keys gk [.string ⟨nm.toArray⟩, .int .i64 y_1, .bool y_2, .bool y_3, .string ⟨y_4.toArray⟩, .int .i64 y_5, .string ⟨y_6.toArray⟩, .slice y_7 y_8 y_9, .slice y_a y_b y_c] Ad cd ks W9 ∧ But (fun b => b = gk ∨ Bk Ad b) wa W9 ∧ w8.heap.size ≤ W9.heap.size) ⟨⟨ht.1.alloc _, (le_alloc _ _ _ _ ht.2)⟩, Blk.new w8 _ _, HDR.out.next ((Below.refl _ _).alloc (Nat.le_refl _) _), HBD.out.trans (But.of ((Below.refl _ _).alloc (Nat.le_refl _) _) (X := fun b => b = gk ∨ Bk Ad b)) (fun _ _ k => k), by simp⟩ ?_
           rintro w3 ⟨ht3, hn, hr3, hb3, hs3⟩
           have HN := Lib.hid hn
           clear hn ht
           refine hK.out _ _ ht3 (fun ht => ?_)
           clear hK K ht3
           try simp only [Act.put, List.setIfInBounds_toArray, List.set_cons_zero, List.set_cons_succ]
           obtain ⟨gN, hgN⟩ : ∃ g, g = w8.heap.size := ⟨_, rfl⟩
           rw [← hgN] at HN ⊢
           have hsw : wa.heap.size ≤ w3.heap.size := by have := HSZ8.out; omega
           clear hgN HDR HBD hs3
           have HDR := Lib.hid hr3
           have HBD := Lib.hid hb3
           clear hr3 hb3
           refine wpAnyH_ready (rs := [1]) (by kernel_rfl) (by simp) ?_
           refine AllReadyH.cons (o := ⟨some _, _, _, _, _, _⟩) rfl (fun K hK => ?_) (AllReadyH.nil)
           obtain ⟨z0, z1, z2, z3, z4, z5, z6, z7, z8, z9⟩ := HDR.out.key.ten
           go_simp
           refine hK.out _ _ ht (fun ht => ?_)
           clear hK K z0 z1 z2 z3 z4 z5 z6 z7 z8 z9
           try simp only [Act.put, List.setIfInBounds_toArray, List.set_cons_zero, List.set_cons_succ]
           obtain ⟨flat, hown, hpush⟩ := RowX.push (It := ItKid) (fun h => ItKid.mono h) rfl HDR.out.kids
           obtain ⟨i0, hi0, hz0, hz1, hz2⟩ := infoKid
           have hsz3 : gk + 1 ≤ w3.heap.size := HDR.out.key.lt
           refine wpAnyH_ready (rs := [14]) (by kernel_rfl) (by simp) ?_
           refine AllReadyH.cons (o := ⟨some _, _, _, _, _, _⟩) rfl (fun K hK => ?_) (AllReadyH.nil)
           refine step_append_lies _ rfl _ _ _ rfl (gk + 1) 78 i0 _ 2 24 Tryz.underlying41 hi0 hz0 hz1 hz2 rfl (by omega) (.slice Ad ks.length cd) ks.length flat rfl hown ⟨gN, 0, none⟩ 1 1 (#[.string ⟨key.toArray⟩, .int .i64 acc3.length] : Array Value).toList rfl rfl (World.news_of_block HN.out) (by simp [Value.oneCell']) (by omega) (by unfold maxLen; omega) (by omega) hsz3 _ rfl ?_
           intro g6 cap6 w6 hown6 hgr6 hat6 hlt6
           have hro := row_on (RowX.le HDR.out.kids).2.2 hgr6 hat6
           have HR6 := Lib.hid (hpush (a := (key, acc3.length)) (Rn := fun _ => False) rfl (fun b h => h.elim) (by simp [Value.oneCell']) rfl hown6 hgr6 hat6)
           have hg6 := HDR.out.grow rfl hro.1 hro.2 HR6.out
           rw [show (ks ++ [(key, acc3.length)]).length = ks.length + 1 by simp] at hg6
           have HG6 := Lib.hid hg6
           have HBE := Lib.hid ((HBD.out.trans hro.1 (fun _ _ k => .inr k)).set (p := ⟨gk, 9, none⟩) (.inr (.inl rfl)) (.slice (some ⟨g6, 0, none⟩) (ks.length + 1) cap6))
           have HRO := Lib.hid (show RowOn Ad (some ⟨g6, 0, none⟩) wa from fun b hb => (hro.2 b hb).imp id (fun k => by omega))
           have HKB := Lib.hid (hro.1.blk HDR.out.key (fun k => by have := (HDR.out.kidAt k).1; omega))
           have ht6 : (fun W9 => Blk W9 gm 74 #[.slice A3 acc3.length c3, .int .i64 bad3, .string ⟨p3.toArray⟩] ∧ W9.cell? ⟨gK, oK + j * 9, none⟩ = some (.string ⟨key.toArray⟩)) w6 := ⟨hro.1.blk ht.1 (fun k => (HDR.out.kidAt k).2.2 (.inl rfl)), (World.cell?_of_block (hro.1.block gK (by omega) (fun k => hofk7.2.2 (.inr (.inr (.inr k)))))).trans ht.2⟩
           have hgKk : ¬ gK = gk := fun k => hofk7.2.2 (.inr (.inr (.inl k)))
           clear hown6 hgr6 hat6 hown hpush ht hro HR6 HDR HN HBD hg6
           refine hK.out _ _ ht6 (fun ht => ?_)
           clear hK K ht6
           try simp only [Act.put, List.setIfInBounds_toArray, List.set_cons_zero, List.set_cons_succ]
           refine wpAnyH_take (i := 15) (oi := ⟨some _, _, _, _, _, _⟩) (v := (.pointer (some ⟨gk, 9, none⟩))) rfl (by kernel_rfl) (by kernel_rfl) (by kernel_rfl) (fun _ _ _ h => h) (Or.inl ⟨by rfl, ?_⟩) ht ?_
           ·intro W9 hSw
            go_simp
           try simp only [Act.put, List.setIfInBounds_toArray, List.set_cons_zero, List.set_cons_succ]
           refine wpAnyH_ready (rs := [16]) (by kernel_rfl) (by simp) ?_
           refine AllReadyH.cons (o := ⟨none, _, _, _, _, _⟩) rfl (fun K hK => ?_) (AllReadyH.nil)
           obtain ⟨z0, z1, z2, z3, z4, z5, z6, z7, z8, z9⟩ := HKB.out.ten
           have zf := HKB.out.frozen 9
           have zl := HKB.out.lt
           go_simp
           refine via10 (K := K) (fun W9 => (fun W9 => Blk W9 gm 74 #[.slice A3 acc3.length c3, .int .i64 bad3, .string ⟨p3.toArray⟩] ∧ W9.cell? ⟨gK, oK + j * 9, none⟩ = some (.string ⟨key.toArray⟩)) W9 ∧ KeyW w gm Y A #[.int .i64 k, .bool b, .bool n.neg, .string ⟨n.digits.toArray⟩, .int .i64 n.exp, .string ⟨s.toArray⟩, .slice Al l.length e, .slice (some ⟨g, o, none⟩) m.length d] A3 c3 acc3 bad3 p3 Ak ck keys gk [.string ⟨nm.toArray⟩, .int .i64 y_1, .bool y_2, .bool y_3, .string ⟨y_4.toArray⟩, .int .i64 y_5, .string ⟨y_6.toArray⟩, .slice y_7 y_8 y_9, .slice y_a y_b y_c] (some ⟨g6, 0, none⟩) cap6 (ks ++ [(key, acc3.length)]) W9 ∧ But (fun b => b = gk ∨ Bk Ad b) wa W9) ⟨⟨HG6.out.node.maker.blk, (World.cell?_of_block (Below.heap_setCell _ _ _ gK hgKk)).trans ht.2⟩, HG6.out, HBE.out⟩ ?_
           rintro w7 ⟨ht7, hr7, hb7⟩
           have HKN := Lib.hid hr7
           have HBN := Lib.hid hb7
           clear hr7 hb7 HG6 HBE HKB z0 z1 z2 z3 z4 z5 z6 z7 z8 z9 zf zl
           refine hK.out _ _ ht7 (fun ht => ?_)
           clear hK K ht7
           try simp only [Act.put, List.setIfInBounds_toArray, List.set_cons_zero, List.set_cons_succ]
           refine wpAnyH_done (by kernel_rfl) ?_ _
           clear ht
           go_wp2_with fail
           go_meet
           case rel => exact ⟨rfl, _, _, HKN.out, HRO.out, HBN.out⟩
         case rest =>
          obtain ⟨rfl, Ad2, cd2, hKd, hrd, hbd⟩ := hcut
          have HK8 := Lib.hid hKd
          have HOF8 := Lib.hid (HOF7.out.step (RowOn.refl _ _) hrd hbd.size)
          have hle8 : Cl.le (wa.on Sk) (wc.on Sk) := hbd.on (fun b h => h) (fun b h _ k => (HOF7.out b h).2.2 (.inr (.inr k)))
          have HSM8 := Lib.hid (HSM7.out.keep hle8)
          have HU8 := Lib.hid (In.keep hle8 _ _ HU7.out)
          have HKC8 := Lib.hid (show CellsAt wc.cell? gK (oK + j * 9 + 1) (.agg #[.int .i64 u_1, .bool u_2, .bool u_3, .string ⟨u_4.toArray⟩, .int .i64 u_5, .string ⟨u_6.toArray⟩, .slice u_7 u_8 u_9, .slice u_a u_b u_c]) from fun q z hz => by
           have := HKC7.out q z hz
           rw [World.cell?_of_block (w := wa) (hbd.block gK hofk7.1 (fun k => hofk7.2.2 (.inr (.inr k))))]; exact this)
          obtain ⟨e0, e1, e2, e3, e4, e5, e6, e7⟩ := HKC8.out.eight
          have HSZ := Lib.hid (show (ks ++ [(key, acc3.length)]).length = j + 1 by rw [List.length_append, HKS3.out]; rfl)
          clear hKd hrd hbd HK7 HOF7 HSM7 HU7 HKC7 e97 hle8
          by_cases hb3 : bad3 = 0
          ·subst hb3
           have HCALL := Lib.hid (HIH.out kv (by omega) hksl (by omega) gm _ A3 c3 acc3 p3 NX wc _ Sk HK8.out.node.maker (fun b hb => HOF8.out b hb) HU8.out HNL.out)
           go_wp2_with fail
           refine HCALL.out.mono ?_
           rintro e8 w9 ⟨rfl, A4, c4, acc4, bad4, p4, hL, hR⟩
           have HK9 := Lib.hid (HK8.out.call hL.but hL.on hL.maker)
           have HOF9 := Lib.hid (HOF8.out.step hL.on (RowOn.refl _ _) hL.but.size)
           have HSM9 := Lib.hid (HSM8.out.keep (hL.but.on (S := Sk) (S' := Sk) (fun b h => h) (fun b h _ => (HOF8.out b h).2.1)))
           have HM9 := Lib.hid (mode2_ok HMD.out HNX2.out (by rw [← HNXE.out]; exact hR))
           clear hL hR HK8 HOF8 HSM8 HCALL e0 e1 e2 e3 e4 e5 e6 e7
           go_wp2_with fail
           go_roundw
           case rel => exact ⟨j + 1, A4, c4, acc4, bad4, p4, Ad2, cd2, _, by go_num, by omega, HSZ.out, HK9.out, HSM9.out, HOF9.out, HM9.out⟩
           case measure => simp [intOf]; omega
          ·have HSKIP := Lib.hid (node_skip gm _ A3 c3 acc3 bad3 hb3 p3 (text NX) wc u_1 u_2 u_3 u_4 u_5 u_6 u_7 u_8 u_9 u_a u_b u_c HK8.out.node.maker)
           go_wp2_with fail
           refine HSKIP.out.mono ?_
           rintro e8 w9 ⟨rfl, hb9⟩
           have HK9 := Lib.hid (HK8.out.next hb9)
           have HOF9 := Lib.hid (HOF8.out.step (RowOn.refl _ _) (RowOn.refl _ _) hb9.size)
           have HSM9 := Lib.hid (HSM8.out.keep (on_keep (S := Sk) (S' := Sk) (fun b h _ => h) (fun b h _ => hb9.block b (HOF8.out b h).1)))
           have HM9 := Lib.hid (mode2_bad HMD.out hb3 (j + 1) (ks ++ [(key, acc3.length)]))
           clear hb9 HK8 HOF8 HSM8 HSKIP e0 e1 e2 e3 e4 e5 e6 e7
           go_wp2_with fail
           go_roundw
           case rel => exact ⟨j + 1, A3, c3, acc3, bad3, p3, Ad2, cd2, _, by go_num, by omega, HSZ.out, HK9.out, HSM9.out, HOF9.out, HM9.out⟩
           case measure => simp [intOf]; omega
       ·have hje : j = kids.length := by omega
        have HMN := Lib.hid (mode_next HN2.out HA1.out HMD.out hje)
        obtain ⟨hN7, Rn, hRn, hit⟩ := HK.out.done HS.out HY.out rfl
        have hal := (Below.refl wr.heap.size wr).alloc (Nat.le_refl _) (.cells #[.string ⟨nm.toArray⟩, .int .i64 y_1, .bool y_2, .bool y_3, .string ⟨y_4.toArray⟩, .int .i64 y_5, .string ⟨y_6.toArray⟩, .slice y_7 y_8 y_9, .slice y_a y_b y_c, .slice Ad ks.length cd] 43)
        obtain ⟨flat, hown, hpush⟩ := (hN7.next hal).pushKey HKL.out (fun b hb => ⟨Nat.lt_of_lt_of_le (hRn b hb).1 hal.size, (hRn b hb).2⟩) (hit.mono (on_keep (fun b h _ => h) (fun b _ h2 => hal.block b h2))) (by simp [Value.oneCell']) rfl
        have HOWN := Lib.hid hown
        have HPUSH := Lib.hid hpush
        obtain ⟨i0, hi0, hz0, hz1, hz2⟩ := infoKey
        obtain ⟨z0, z1, z2, z3, z4, z5, z6, z7, z8, z9⟩ := HK.out.key.ten
        have hbs := HK.out.node.box.lt
        have hbk := HK.out.key.lt
        clear hown hpush hit hRn hN7 hal
        go_wp2_with (refine wpList_append_lies _ rfl _ _ _ rfl (w.heap.size + 1) 43 i0 _ 10 152 Tryz.underlying37 hi0 hz0 hz1 hz2 rfl (by omega) (.slice Ak i ck) i flat rfl HOWN.out ⟨wr.heap.size, 0, none⟩ 1 1 [.string ⟨nm.toArray⟩, .int .i64 y_1, .bool y_2, .bool y_3, .string ⟨y_4.toArray⟩, .int .i64 y_5, .string ⟨y_6.toArray⟩, .slice y_7 y_8 y_9, .slice y_a y_b y_c, .slice Ad ks.length cd] rfl rfl (World.news_of_block (heap_alloc_new wr _)) (by simp [Value.oneCell']) (by omega) (by unfold maxLen; omega) (by omega) (by simp; omega) _ rfl ?_; intro g6 cap6 w8 hown6 hgrow6 hat6 hlt6; have HST := Lib.hid (HPUSH.out _ _ _ hown6 hgrow6 hat6); clear hown6 hgrow6 hat6)
        go_roundw
        case rel => exact ⟨i + 1, A3, c3, acc3, bad3, p3, some ⟨g6, 0, none⟩, cap6, keys ++ [⟨nm, v, ks⟩], rfl, by go_num, by omega, by rw [List.length_append, HKL.out]; rfl, HST.out, HMN.out⟩
        case measure => simp [intOf]; omega
     ·have hs0 : ((sh : Int) != 0) = true := by simp [hsh0]
      have hn1 := HN1.out.1 (by rw [← HSH.out]; exact hsh0)
      rw [← HSH.out] at hn1
      have HBD := Lib.hid (Cm.node_bad (k := k) (b := b) (n := n) (s := s) (l := l) h200 hn1)
      clear hn1
      have HL := Lib.hid ((HW3.out.setBad sh).setPath (text (P ++ [nm]))).leave
      have hsh14 : sh ≤ 14 := by rw [HSH.out]; exact Sh.shape_le nm v
      have HAL := Lib.hid (show acc.length ≤ acc2.length by rw [HA1.out]; simp)
      have g3 : w3.frozen? ⟨gm, 1, none⟩ = false := t4
      go_wp2_with fail
      refine bodyPost_ret (results_none rfl _ _ _) rfl ?_
      exact ⟨rfl, _, _, _, _, _, HL.out, .inr ⟨sh, P ++ [nm], HBD.out, hsh0, hsh14, rfl, rfl, HAL.out⟩⟩
    ·have HGO := Lib.hid (show i = m.length ∨ ¬ bad2 = 0 by omega)
     have hltn := HMD.out.lt
     obtain ⟨g, rfl, ⟨u0, hu0⟩, hfz, hfin⟩ := HW.out.finish hltn
     have HFIN := Lib.hid hfin
     have HR := Lib.hid (node_exit (n := n) (s := s) (l := l) h200 HMD.out HGO.out hltn)
     clear hfin
     have hdone : True := trivial
     rw [HKL.out] at HFIN
     by_cases hlt : i < m.length
     ·have hb0 : ((bad2 : Int) == 0) = false := by rw [beq_eq_false_iff_ne]; omega
      have hlt2 : (i : Int) < (m.length : Int) := by omega
      go_wp2_with fail
      refine bodyPost_end (results_none rfl _ _ _) rfl ?_
      exact ⟨rfl, _, _, _, _, _, HFIN.out, HR.out⟩
     ·obtain rfl : i = m.length := by omega
      go_wp2_with fail
      refine bodyPost_end (results_none rfl _ _ _) rfl ?_
      exact ⟨rfl, _, _, _, _, _, HFIN.out, HR.out⟩

end Go.Proofs.YtolkfgikomminaaGreatDoor

