/- Hk: Hk Hl, in one text. -/
import Derived.Test.YtolkfgikomminaaGreatDoorHj
import Derived.Deep.CutRange
import Derived.Test.YtolkfgikomminaaGreatDoorLa
import Derived.Test.YtolkfgikomminaaGreatDoorJa
namespace Go.Proofs.YtolkfgikomminaaGreatDoor
open Go.RowKit Js Pt

set_option linter.unusedVariables false in
set_option linter.unusedSimpArgs false in
set_option maxRecDepth 100000 in
set_option maxHeartbeats 16000000 in
theorem keySide_any (nm : List UInt8) (k : Vl) (xk : Value) (w : World) (hx : k.In w.cell? xk) :
  Calls Tryz.prog 11 #[.string ⟨nm.toArray⟩, xk] w fun e w' => ∃ g, e = .returned (.agg #[.string ⟨#[]⟩, .bool false, .bool false, .slice (some ⟨g, 0, none⟩) 1 1]) ∧ SlKey w'.cell? (some ⟨g, 0, none⟩) [⟨nm, k, []⟩] ∧ Below w.heap.size w w' := by
 obtain ⟨k_1, k_2, k_3, k_4, k_5, k_6, k_7, k_8, k_9, k_a, k_b, k_c, rfl⟩ := In.cells hx
 have HX := Lib.hid hx
 have HB0 := Lib.hid (show Below w.heap.size w ((w.alloc (.cells #[.int .i64 k_1, .bool k_2, .bool k_3, .string ⟨k_4.toArray⟩, .int .i64 k_5, .string ⟨k_6.toArray⟩, .slice k_7 k_8 k_9, .slice k_a k_b k_c] 31)).alloc (.cells #[.string ⟨#[]⟩, .bool false, .bool false, .slice none 0 0] 39)) from ((Below.refl _ _).alloc (Nat.le_refl _) _).alloc (by simp) _)
 have HV0 := Lib.hid (show Blk ((w.alloc (.cells #[.int .i64 k_1, .bool k_2, .bool k_3, .string ⟨k_4.toArray⟩, .int .i64 k_5, .string ⟨k_6.toArray⟩, .slice k_7 k_8 k_9, .slice k_a k_b k_c] 31)).alloc (.cells #[.string ⟨#[]⟩, .bool false, .bool false, .slice none 0 0] 39)) w.heap.size 31 #[.int .i64 k_1, .bool k_2, .bool k_3, .string ⟨k_4.toArray⟩, .int .i64 k_5, .string ⟨k_6.toArray⟩, .slice k_7 k_8 k_9, .slice k_a k_b k_c] from (Blk.new w _ _).alloc _)
 have HN0 := Lib.hid (show Blk ((w.alloc (.cells #[.int .i64 k_1, .bool k_2, .bool k_3, .string ⟨k_4.toArray⟩, .int .i64 k_5, .string ⟨k_6.toArray⟩, .slice k_7 k_8 k_9, .slice k_a k_b k_c] 31)).alloc (.cells #[.string ⟨#[]⟩, .bool false, .bool false, .slice none 0 0] 39)) (w.heap.size + 1) 39 #[.string ⟨#[]⟩, .bool false, .bool false, .slice none 0 0] from Blk.new2 w (.cells #[.int .i64 k_1, .bool k_2, .bool k_3, .string ⟨k_4.toArray⟩, .int .i64 k_5, .string ⟨k_6.toArray⟩, .slice k_7 k_8 k_9, .slice k_a k_b k_c] 31) 39 _)
 clear hx
 go_enter Tryz.func11, Tryz.ntmps11
 go_upto_region 1 with (fail)
 generalize (w.alloc (.cells #[.int .i64 k_1, .bool k_2, .bool k_3, .string ⟨k_4.toArray⟩, .int .i64 k_5, .string ⟨k_6.toArray⟩, .slice k_7 k_8 k_9, .slice k_a k_b k_c] 31)).alloc (.cells #[.string ⟨#[]⟩, .bool false, .bool false, .slice none 0 0] 39) = w0 at *
 obtain ⟨a0, a1, a2, a3, a4, a5, a6, a7⟩ := HV0.out.eight
 have al := HV0.out.lt
 have nf := HN0.out.frozen
 have nl := HN0.out.lt
 obtain ⟨b0, b1, b2, b3⟩ := HN0.out.four14
 obtain ⟨w2, hw2⟩ : ∃ W, W = ((((w0.setCell ⟨w.heap.size + 1, 0, none⟩ (.string ⟨#[]⟩)).setCell ⟨w.heap.size + 1, 1, none⟩ (.bool false)).setCell ⟨w.heap.size + 1, 2, none⟩ (.bool false)).setCell ⟨w.heap.size + 1, 3, none⟩ (.slice (some ⟨w0.heap.size, 0, none⟩) 1 1)) := ⟨_, rfl⟩
 have hz : w2.heap.size = w0.heap.size := by rw [hw2]; simp [World.setCell]
 have hn2 : Blk w2 (w.heap.size + 1) 39 #[.string ⟨#[]⟩, .bool false, .bool false, .slice (some ⟨w0.heap.size, 0, none⟩) 1 1] := by
  rw [hw2]
  have h0 : Blk _ (w.heap.size + 1) 39 [.string ⟨#[]⟩, .bool false, .bool false, .slice none 0 0].toArray := Blk.setL (l := [.string ⟨#[]⟩, .bool false, .bool false, .slice none 0 0]) HN0.out 0 (.string ⟨#[]⟩)
  exact ((h0.setL 1 (.bool false)).setL 2 (.bool false)).setL 3 _
 have hb2 : Below w.heap.size w w2 := by
  rw [hw2]
  exact (((HB0.out.setCell (p := ⟨w.heap.size + 1, 0, none⟩) (by show w.heap.size ≤ w.heap.size + 1; omega) _).setCell (p := ⟨w.heap.size + 1, 1, none⟩) (by show w.heap.size ≤ w.heap.size + 1; omega) _).setCell (p := ⟨w.heap.size + 1, 2, none⟩) (by show w.heap.size ≤ w.heap.size + 1; omega) _).setCell (p := ⟨w.heap.size + 1, 3, none⟩) (by show w.heap.size ≤ w.heap.size + 1; omega) _
 have hb1 := (Below.refl w2.heap.size w2).alloc (Nat.le_refl _) (.cells #[.string ⟨nm.toArray⟩, .int .i64 k_1, .bool k_2, .bool k_3, .string ⟨k_4.toArray⟩, .int .i64 k_5, .string ⟨k_6.toArray⟩, .slice k_7 k_8 k_9, .slice k_a k_b k_c, .slice none 0 0] 43)
 have hkb := Blk.new w2 43 #[.string ⟨nm.toArray⟩, .int .i64 k_1, .bool k_2, .bool k_3, .string ⟨k_4.toArray⟩, .int .i64 k_5, .string ⟨k_6.toArray⟩, .slice k_7 k_8 k_9, .slice k_a k_b k_c, .slice none 0 0]
 rw [hz] at hkb
 have HB3 := Lib.hid (hb2.trans (hb1.mono hb2.size))
 have HN3 := Lib.hid (hn2.on hb1)
 have HK3 := Lib.hid (show SlKey (w2.alloc (.cells #[.string ⟨nm.toArray⟩, .int .i64 k_1, .bool k_2, .bool k_3, .string ⟨k_4.toArray⟩, .int .i64 k_5, .string ⟨k_6.toArray⟩, .slice k_7 k_8 k_9, .slice k_a k_b k_c, .slice none 0 0] 43)).cell? (some ⟨w0.heap.size, 0, none⟩) [⟨nm, k, []⟩] from fun i K hi => by
  have hi0 := (List.getElem?_eq_some_iff.1 hi).1
  obtain rfl : i = 0 := by simpa using hi0
  obtain rfl : (⟨nm, k, []⟩ : Cm.Key) = K := by simpa using hi
  refine ⟨w0.heap.size, 0, [.string ⟨nm.toArray⟩, .int .i64 k_1, .bool k_2, .bool k_3, .string ⟨k_4.toArray⟩, .int .i64 k_5, .string ⟨k_6.toArray⟩, .slice k_7 k_8 k_9, .slice k_a k_b k_c, .slice none 0 0], rfl, ⟨#[.int .i64 k_1, .bool k_2, .bool k_3, .string ⟨k_4.toArray⟩, .int .i64 k_5, .string ⟨k_6.toArray⟩, .slice k_7 k_8 k_9, .slice k_a k_b k_c], none, 0, rfl, In.keep (le_below HB3.out) _ _ HX.out, (fun i p h => by simp at h), Nat.le_refl _, by unfold maxLen; omega⟩, fun j u hu => ?_⟩
  rw [show 0 + 0 * 10 + j = j by omega, hkb.cell]
  simpa using hu)
 have HW2 := Lib.hid hw2
 clear hb1 hkb HX hz hn2 hb2 hw2
 go_wp2_with fail
 rw [← HW2.out]
 refine bodyPost_ret (results_row1 (l := [_, _, _, _]) rfl _ _ _ rfl HN3.out Tryz.underlying39 rfl (by kernel_rfl)) rfl ?_
 exact ⟨_, rfl, HK3.out, HB3.out⟩

theorem slL_two14 {w : World} {g : Nat} {t : TypeId} {v y : Vl} {c0 c1 c2 c3 c4 c5 c6 c7 d0 d1 d2 d3 d4 d5 d6 d7 : Value} (hb : Blk w g t #[c0, c1, c2, c3, c4, c5, c6, c7, d0, d1, d2, d3, d4, d5, d6, d7]) (hv : v.In w.cell? (.agg #[c0, c1, c2, c3, c4, c5, c6, c7])) (hy : y.In w.cell? (.agg #[d0, d1, d2, d3, d4, d5, d6, d7])) : SlL w.cell? (some ⟨g, 0, none⟩) [v, y] := fun i x hi => by
 have hl := (List.getElem?_eq_some_iff.1 hi).1
 rcases (show i = 0 ∨ i = 1 by simp at hl; omega) with rfl | rfl
 ·obtain rfl : v = x := by simpa using hi
  refine ⟨g, 0, _, rfl, hv, fun q z hz => ?_⟩
  have hq : q < 8 := (Array.getElem?_eq_some_iff.1 hz).1
  rw [show 0 + 0 * 8 + q = q by omega, hb.cell, ← hz]
  match q, hq with
  | 0, _ => rfl
  | 1, _ => rfl
  | 2, _ => rfl
  | 3, _ => rfl
  | 4, _ => rfl
  | 5, _ => rfl
  | 6, _ => rfl
  | 7, _ => rfl
 ·obtain rfl : y = x := by simpa using hi
  refine ⟨g, 0, _, rfl, hy, fun q z hz => ?_⟩
  have hq : q < 8 := (Array.getElem?_eq_some_iff.1 hz).1
  rw [show 0 + 1 * 8 + q = 8 + q by omega, hb.cell, ← hz]
  match q, hq with
  | 0, _ => rfl
  | 1, _ => rfl
  | 2, _ => rfl
  | 3, _ => rfl
  | 4, _ => rfl
  | 5, _ => rfl
  | 6, _ => rfl
  | 7, _ => rfl
theorem arr_in14 {c : Cl} {A : Option Addr} {l : List Vl} {e n : Nat} (h : SlL c A l) (hn : n = l.length) (h1 : l.length ≤ e) (h2 : e ≤ maxLen) : (Vl.mk 4 false Nm.Num.zero [] l []).In c (.agg #[.int .i64 4, .bool false, .bool false, .string ⟨#[]⟩, .int .i64 0, .string ⟨#[]⟩, .slice A n e, .slice none 0 0]) := by
 subst hn
 exact In.mk' (k := 4) (b := false) (n := Nm.Num.zero) (s := []) h (fun i p hp => by simp at hp) h1 h2 (Nat.le_refl _) (Nat.zero_le _)
end Go.Proofs.YtolkfgikomminaaGreatDoor

namespace Go.Proofs.YtolkfgikomminaaGreatDoor
open Go.RowKit Pt Js

theorem step_append_src14 {P : Program} (w : World) {ops : Array Oper} {o : Oper} {a : Act} {K : Act → World → Prop} {Q : Exit → Act → World → Prop} {E : Prop} (hgd : o.guard = none) (s x : Operand) (t : TypeId)
  (ho : o.op = .call { callee := .builtin .append, args := #[s, x], argTypes := #[t, t] })
  (base : Nat) (e : TypeId) (i : TypeInfo) (z : Value) (size bytes : Nat) (ht : P.underlying t = some (.slice e)) (hi : P.info? e = some i) (hz : i.zero = some z)
  (hsize : i.size = size) (hby : i.bytes = bytes) (hzs : z.cells.size = size) (hsz : 0 < size)
  (v : Value) (n : Nat) (xs : List Value) (hs : a.eval s = v) (hown : w.ownsRow base e size v n xs)
  (A : Option Addr) (m c : Nat) (news : List Value) (hx : a.eval x = .slice A m c) (hl : news.length = m * size) (hsrc : SrcX w A m news) (h1 : ∀ u ∈ news, u.oneCell' = true)
  (h63 : n + m ≤ maxLen) (hbytes : (n + m) * bytes ≤ 140737488355328) (hbase : base ≤ w.heap.size) (N : Nat) (hN : n + m = N)
  (h : ∀ A' c' w', w'.ownsRow base e size (.slice A' N c') N (xs ++ news) → w.grownBy w' v.ownBlock → ((Value.slice A' N c').ownBlock = v.ownBlock ∨ (Value.slice A' N c').ownBlock = some w.heap.size) → K (a.put o.dst (.slice A' N c')) w') :
  if Region.wanted o (yielded ops a.tmps) = true then Oper.wp P o a w K Q else E := by
 have hw : Region.wanted o (yielded ops a.tmps) = true := by simp [Region.wanted, hgd]
 rw [if_pos hw]
 subst hN
 obtain ⟨v', w', hrun, k1, k2, k3⟩ : ∃ v' w', (Builtin.append_ #[t, t] o.type #[v, .slice A m c]).run P w = .ok v' w' ∧ w'.ownsRow base e size v' (n + m) (xs ++ news) ∧ w.grownBy w' v.ownBlock ∧ (v'.ownBlock = v.ownBlock ∨ v'.ownBlock = some w.heap.size) := by
  cases A with
  | none =>
   have h0 := hsrc.1 rfl
   subst h0
   have hn : news = [] := List.eq_nil_of_length_eq_zero (by rw [hl, Nat.zero_mul])
   subst hn
   exact ⟨v, w, run_append_none_any w base t o.type e i size ht hi v n xs hown c, by simpa using hown, World.grownBy.refl w _, .inl rfl⟩
  | some ad =>
   obtain ⟨v', w', r1, r2, r3, _, r5⟩ := run_append_own_at (P := P) w base t o.type e i z size bytes ht hi hz hsize hby hzs hsz v n xs hown ad m c news hl (hsrc.2 ad rfl) h1 h63 hbytes hbase
   exact ⟨v', w', r1, r2, r3, r5⟩
 obtain ⟨A', c', rfl⟩ := slice_of_own k1
 unfold Oper.wp
 simp [execOp, ho, resolve, invoke, builtin, hs, hx, hrun, Result.andThen]
 exact h A' c' w' k1 k2 k3

theorem heap_set8x14 (w : World) (g : Nat) (v0 v1 v2 v3 v4 v5 v6 v7 : Value) {b : Nat} (hb : b ≠ g) : (set8 w g v0 v1 v2 v3 v4 v5 v6 v7).heap[b]? = w.heap[b]? := by
 simp only [set8, heap_setCell _ _ _ _ hb]
structure ZAt14 (cs : Array Value) (w : World) (B gZ : Nat) (A : Option Addr) : Prop where
 blk : Blk w gZ 31 cs
 ge : B ≤ gZ
 ne : ∀ ad, A = some ad → ad.block ≠ gZ
theorem ZAt14.new {cs : Array Value} {w : World} {B : Nat} {A : Option Addr} (hB : B ≤ w.heap.size) (hA : ∀ ad, A = some ad → ad.block < w.heap.size) : ZAt14 cs (w.alloc (.cells cs 31)) B w.heap.size A :=
 ⟨Blk.new _ _ _, hB, fun ad e => by have := hA ad e; omega⟩
theorem ZAt14.row {cs : Array Value} {w : World} {B gZ : Nat} (h : ZAt14 cs w B gZ none) (o : Obj) : ZAt14 cs (w.alloc o) B gZ (some ⟨w.heap.size, 0, none⟩) :=
 ⟨h.blk.alloc _, h.ge, fun ad e => by cases e; have := h.blk.lt; show w.heap.size ≠ gZ; omega⟩
theorem ZAt14.grown {cs : Array Value} {w w' : World} {B gZ n c n' c' : Nat} {A A' : Option Addr} (h : ZAt14 cs w B gZ A) (hg : w.grownBy w' (Value.slice A n c).ownBlock) (hat : (Value.slice A' n' c').ownBlock = (Value.slice A n c).ownBlock ∨ (Value.slice A' n' c').ownBlock = some w.heap.size) : ZAt14 cs w' B gZ A' := by
 have hlt := h.blk.lt
 refine ⟨(hg.block gZ hlt (fun e => ?_)).trans h.blk, h.ge, fun ad e => ?_⟩
 ·cases A with
  | none => cases e
  | some ad =>
   have e2 : ad.block = gZ := by simpa [Value.ownBlock] using e.symm
   exact h.ne ad rfl e2
 ·subst e
  rcases hat with k | k
  ·cases A with
   | none => cases k
   | some ad2 =>
    have e2 : ad.block = ad2.block := by simpa [Value.ownBlock] using k
    rw [e2]; exact h.ne ad2 rfl
  ·have e2 : ad.block = w.heap.size := by simpa [Value.ownBlock] using k
   omega
theorem own_lt14 {w : World} {B n c : Nat} {e : TypeId} {sz : Nat} {A : Option Addr} {f : List Value} (h : w.ownsRow B e sz (.slice A n c) n f) : ∀ ad, A = some ad → ad.block < w.heap.size := fun ad ha => by
 obtain ⟨g, rfl, _, h2⟩ := (own_le h).2.2.2 ad ha; exact h2
theorem FlatV.sl14 {w : World} {B : Nat} {A : Option Addr} {N c : Nat} {r : Cl} {m : List Vl} {f : List Value} (h : FlatV r m f) (hr : ∀ g j u, A = some ⟨g, 0, none⟩ → w.cell? ⟨g, j, none⟩ = some u → r ⟨g, j, none⟩ = some u) (hown : w.ownsRow B 31 8 (.slice A N c) N f) : SlL r A m := fun i p hi => by
 obtain ⟨y, h1, h3⟩ := h.2.2 i p hi
 have hil := (List.getElem?_eq_some_iff.1 hi).1
 rcases hown.2 with ⟨_, h0⟩ | ⟨g, cap, cur, e, hbg, _⟩
 ·have := hown.1; have := h.1; omega
 ·injection e with e1 e2 e3
  subst e1
  have hc := hown.cells (g := g) rfl
  refine ⟨g, 0, y, rfl, h1, fun j u hj => ?_⟩
  have := hc _ _ (h3 j u hj); rw [add_at] at this; rw [show 0 + i * 8 + j = 0 + (i * 8 + j) by omega]; exact hr _ _ _ rfl this
def Fin14 (w : World) (La Lb : List Vl) (gZ : Nat) (A : Option Addr) (c : Nat) (w' : World) : Prop :=
 Blk w' gZ 31 #[.int .i64 4, .bool false, .bool false, .string ⟨#[]⟩, .int .i64 0, .string ⟨#[]⟩, .slice A (La.length + Lb.length) c, .slice none 0 0] ∧ SlL w'.cell? A (La ++ Lb) ∧ La.length + Lb.length ≤ c ∧ c ≤ maxLen ∧ Below w.heap.size w w'
theorem fin14x {w w' W : World} {La Lb : List Vl} {gZ c : Nat} {A : Option Addr} {f : List Value} (hf : FlatV (w.on fun b => b < w.heap.size) (La ++ Lb) f) (hown : w'.ownsRow w.heap.size 31 8 (.slice A (La.length + Lb.length) c) (La.length + Lb.length) f)
  (hne : ∀ ad, A = some ad → ad.block ≠ gZ) (hge : w.heap.size ≤ gZ) (hb : Below w.heap.size w w') (hblk : Blk W gZ 31 #[.int .i64 4, .bool false, .bool false, .string ⟨#[]⟩, .int .i64 0, .string ⟨#[]⟩, .slice A (La.length + Lb.length) c, .slice none 0 0])
  (hbel : Below w.heap.size w W) (hk : ∀ b, b ≠ gZ → W.heap[b]? = w'.heap[b]?) : Fin14 w La Lb gZ A c W := by
 have hle := own_le hown
 refine ⟨hblk, FlatV.sl14 (r := W.cell?) (FlatV.keep (c' := W.cell?) (fun p u hp => ?_) hf) (fun g j u e hu => ?_) hown, hle.1, hle.2.1, hbel⟩
 ·obtain ⟨h1, h2⟩ := on_some.1 hp
  have h3 := le_below hb _ _ h2
  have h4 : p.block < w.heap.size := h1
  rw [World.cell?_of_block (w := w') (hk p.block (by omega))]
  exact h3
 ·have h4 : g ≠ gZ := hne _ e
  rw [World.cell?_of_block (w := w') (hk g h4)]
  exact hu
theorem fin14 {w w' : World} {La Lb : List Vl} {gZ c : Nat} {A : Option Addr} {f : List Value} (hf : FlatV (w.on fun b => b < w.heap.size) (La ++ Lb) f) (hown : w'.ownsRow w.heap.size 31 8 (.slice A (La.length + Lb.length) c) (La.length + Lb.length) f)
  (hz : ZAt14 zero8 w' w.heap.size gZ A) (hb : Below w.heap.size w w') :
  Fin14 w La Lb gZ A c (set8 w' gZ (.int .i64 4) (.bool false) (.bool false) (.string ⟨#[]⟩) (.int .i64 0) (.string ⟨#[]⟩) (.slice A (La.length + Lb.length) c) (.slice none 0 0)) :=
 fin14x hf hown hz.ne hz.ge hb (hz.blk.set8 _ _ _ _ _ _ _ _) (below_set8 hb hz.ge _ _ _ _ _ _ _ _) (fun _ hne => heap_set8x14 _ _ _ _ _ _ _ _ _ _ hne)

theorem slimL_mem14 {N : Nat} : ∀ {l : List Vl} {x : Vl}, slimL N l → x ∈ l → x.slim N
 | _ :: _, _, h, hx => by
  rcases List.mem_cons.1 hx with rfl | hx
  ·exact h.1
  ·exact slimL_mem14 h.2 hx
theorem len_sizeL14 : ∀ (l : List Vl), l.length ≤ sizeL l
 | [] => Nat.zero_le _
 | v :: l => by
  have := len_sizeL14 l
  have hv : 1 ≤ v.size := by cases v; simp only [Vl.size]; omega
  simp only [sizeL, List.length_cons]; omega

theorem slimL_append14 {N : Nat} : ∀ {a b : List Vl}, slimL N a → slimL N b → slimL N (a ++ b)
 | [], _, _, h => h
 | _ :: _, _, h, k => ⟨h.1, slimL_append14 h.2 k⟩
theorem wide_list14 {l : List Vl} (hm : mayL l = true) (hz : sizeL l ≤ 999999) (hs : slimL 1000000 l) : Wide (.mk 4 false Nm.Num.zero [] l []) :=
 ⟨by simp only [Vl.may, hm]; simp [ownOf, mayM, rises]; exact ⟨by decide, by decide⟩, by simp only [Vl.size, sizeM]; omega, ⟨by decide, by decide, hs, trivial⟩⟩
theorem wide_bool14 (b : Bool) : Wide (.mk 1 b Nm.Num.zero [] [] []) := ⟨by cases b <;> decide, by cases b <;> decide, ⟨by decide, by decide, trivial, trivial⟩⟩
theorem wide_two14 {v y : Vl} (hv : Fine v) (hy : Fine y) : Wide (.mk 4 false Nm.Num.zero [] [y, v] []) :=
 wide_list14 (by simp [mayL, hv.1, hy.1]) (by have := hv.2.1; have := hy.2.1; simp only [sizeL]; omega) ⟨slim_mono (by omega) y hy.2.2.2.2, slim_mono (by omega) v hv.2.2.2.2, trivial⟩
theorem wide_twice14 {k : Int} {b : Bool} {n : Nm.Num} {s : List UInt8} {l : List Vl} {m : List Js.Mem} (hv : Fine (.mk k b n s l m)) {x : Vl} (hx : x ∈ l) : Wide (.mk 4 false Nm.Num.zero [] (l ++ [x]) []) := by
 obtain ⟨_, _, _, _, _, _, _, _, _, hl, _, _⟩ := may_own hv.1
 have hz : sizeL l ≤ 2000 := by have := hv.2.1; simp only [Vl.size] at this; omega
 have hs : slimL 1000000 l := (slim_mono (by omega) _ hv.2.2.2.2 : Vl.slim 1000000 (.mk k b n s l m)).2.2.1
 have hxz := sizeL_mem hx
 refine wide_list14 ((mayL_iff _).2 fun u hu => ?_) ?_ (slimL_append14 hs ⟨?_, trivial⟩)
 ·rcases List.mem_append.1 hu with h | h
  ·exact (mayL_iff _).1 hl u h
  ·rw [List.mem_singleton.1 h]; exact (mayL_iff _).1 hl x hx
 ·rw [Ed.sizeL_append]; simp only [sizeL]; omega
 ·exact slimL_mem14 hs hx
theorem len_small14 {k : Int} {b : Bool} {n : Nm.Num} {s : List UInt8} {l : List Vl} {m : List Js.Mem} (hv : Fine (.mk k b n s l m)) : l.length ≤ 2000 := by
 have hz : sizeL l ≤ 2000 := by have := hv.2.1; simp only [Vl.size] at this; omega
 exact Nat.le_trans (len_sizeL14 l) hz
theorem wide_twiceV14 {v : Vl} (hv : Fine v) {x : Vl} (hx : x ∈ Ow.listOf v) : Wide (.mk 4 false Nm.Num.zero [] (Ow.listOf v ++ [x]) []) := by
 obtain ⟨k, b, n, s, l, m⟩ := v
 exact wide_twice14 hv hx
theorem lenV14 {v : Vl} (hv : Fine v) : (Ow.listOf v).length ≤ 2000 := by
 obtain ⟨k, b, n, s, l, m⟩ := v
 exact len_small14 hv
theorem bool_in14 (c : Cl) (b : Bool) : (Vl.mk 1 b Nm.Num.zero [] [] []).In c (.agg #[.int .i64 1, .bool b, .bool false, .string ⟨#[]⟩, .int .i64 0, .string ⟨#[]⟩, .slice none 0 0, .slice none 0 0]) :=
 In.mk' (k := 1) (b := b) (n := Nm.Num.zero) (s := []) (l := []) (m := []) (A := none) (B := none) (e := 0) (d := 0) (fun i p hp => by simp at hp) (fun i p hp => by simp at hp) (Nat.le_refl _) (Nat.zero_le _) (Nat.le_refl _) (Nat.zero_le _)
theorem le_whole14 (w : World) : Cl.le w.cell? (w.on fun b => b < w.heap.size) := fun _ _ hp => on_some.2 ⟨World.block_lt_of_cell? w _ hp, hp⟩
theorem ZAt14.on {cs : Array Value} {w : World} {B g : Nat} {A : Option Addr} (h : ZAt14 cs w B g A) (o : Obj) : ZAt14 cs (w.alloc o) B g A := ⟨h.blk.alloc _, h.ge, h.ne⟩
theorem below_grown14 {w w' w'' : World} {n c : Nat} {A : Option Addr} {f : List Value} (h : Below w.heap.size w w') (hown : w'.ownsRow w.heap.size 31 8 (.slice A n c) n f) (hg : w'.grownBy w'' (Value.slice A n c).ownBlock) : Below w.heap.size w w'' := by
 have hle := own_le hown
 exact h.grown hg h.size (fun k hk => own_new (fun ad e => by obtain ⟨g, rfl, h1, _⟩ := hle.2.2.2 ad e; exact h1) hk)
theorem src_one14 {w : World} {g : Nat} {t : TypeId} {l : List Value} (h : Blk w g t l.toArray) : SrcX w (some ⟨g, 0, none⟩) 1 l :=
 ⟨fun h => (by cases h), fun ad e j u hu => by cases e; rw [add_at, Nat.zero_add, h.cell]; simpa using hu⟩

end Go.Proofs.YtolkfgikomminaaGreatDoor


