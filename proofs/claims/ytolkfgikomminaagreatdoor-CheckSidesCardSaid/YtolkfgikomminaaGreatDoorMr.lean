/- Mr: Qk Ql Qm Qn Ra Rb, in one text. -/
import Derived.Test.YtolkfgikomminaaGreatDoorMq
import Derived.Deep.Cut
namespace Go.Proofs.YtolkfgikomminaaGreatDoor
open Go.RowKit Js

def twiceR {α : Type} (b : Bool) (l : Nat) : Ps.R α → Ps.R α
 | .ok v u => if b = true then .bad 4 l else .ok v u
 | .bad c k => .bad c k
def memR (f d : Nat) (t : List UInt8) (b : Bool) : Ps.R Vl := R_then (R_then (twiceR b (Ps.skip t).length (Ps.qtext (Ps.skip t))).trail (Ps.lit [58])) (Ps.value f d)

theorem mems_eq (f d : Nat) (t : List UInt8) (acc : List Js.Mem) (key : List UInt8) (hk : ∀ k u, Ps.qtext (Ps.skip t) = .ok k u → key = k) : Ps.mems (f + 1) d t acc = match memR f d t (Js.find acc key).isSome with
  | .bad c l => .bad c l
  | .ok v t2 => if t2.head? = some 44 then Ps.mems f d t2.tail (Ps.ins acc key v) else (Ps.lit [125] t2).map (fun _ => Ps.mkO (Ps.ins acc key v)) := by
 rw [Ps.mems]
 unfold memR
 cases hq : Ps.qtext (Ps.skip t) with
 | bad c l => rfl
 | ok k u =>
  obtain rfl := hk k u hq
  simp only [twiceR]
  by_cases hf : (Js.find acc key).isSome = true
  ·rw [if_pos hf, if_pos hf]; rfl
  ·rw [if_neg hf, if_neg hf]
   simp only [Ps.R.trail, R_then]
   rw [lit1]
   cases hs : Ps.skip u with
   | nil => rfl
   | cons c t4 =>
    simp only [List.head?_cons, List.tail_cons, Option.some.injEq]
    by_cases hc : c = 58
    ·rw [if_pos hc, if_pos hc]
     simp only
     cases Ps.value f d t4 with
     | bad c l => rfl
     | ok v t2 =>
      cases t2 with
      | nil => rfl
      | cons c u =>
       simp only [List.head?_cons, List.tail_cons, Option.some.injEq]
       by_cases h : c = 44
       ·rw [if_pos h, if_pos h]
       ·rw [if_neg h, if_neg h, lit1]
        by_cases h2 : c = 125
        ·subst h2; rfl
        ·rw [if_neg h2, if_neg (by simpa using h2)]; rfl
    ·rw [if_neg hc, if_neg hc]

theorem memR_len (t : List UInt8) (b : Bool) : ∀ v u, R_then (twiceR b (Ps.skip t).length (Ps.qtext (Ps.skip t))).trail (Ps.lit [58]) = .ok v u → u.length + 2 ≤ t.length := by
 intro v u h
 cases hq : Ps.qtext (Ps.skip t) with
 | bad c l => rw [hq] at h; cases h
 | ok k t2 =>
  rw [hq] at h
  simp only [twiceR] at h
  split at h
  ·cases h
  ·have h1 := Ps.qtext_ok hq
   have h2 := congrArg List.length (Ps.lit_ok (show Ps.lit [58] (Ps.skip t2) = .ok v u from h))
   have h3 := Ps.skip_len t2
   have h4 := Ps.skip_len t
   simp at h2
   omega

theorem memR_ok_len (f d : Nat) (t : List UInt8) (b : Bool) (hd : d ≤ 32) {v : Vl} {t2 : List UInt8} (h : memR f d t b = .ok v t2) : t2.length + 3 ≤ t.length := by
 unfold memR at h
 cases hq : R_then (twiceR b (Ps.skip t).length (Ps.qtext (Ps.skip t))).trail (Ps.lit [58]) with
 | bad c l => rw [hq] at h; cases h
 | ok x u =>
  have h1 := memR_len t b x u hq
  rw [hq] at h
  have h2 := (Ps.told f).1 d u hd
  rw [show Ps.value f d u = .ok v t2 from h] at h2
  have := h2.2
  have := size_pos v
  omega

theorem fail_any {α : Type} {rb : Nat} {s : ByteArray} {d : Nat} {w : World} {r : Ps.R α} (h : After rb s d w r) (p l : Nat) (hp : p + l = s.size) :
  Calls Tryz.prog 20 #[.pointer (some ⟨rb, 0, none⟩), .int .i64 p, .int .i64 4] w fun e w' => e = .returned (.tuple #[]) ∧ After rb s d w' (twiceR true l r) ∧ Sole rb w w' := by
 cases r with
 | ok v u => obtain ⟨a, hR⟩ := h; exact fail_ok hR p 4 l hp (by omega)
 | bad c k =>
  refine (fail_bad h _ _).mono ?_
  rintro e w' ⟨rfl, rfl⟩
  exact ⟨rfl, h, .refl _ _⟩
theorem twice_no {α : Type} (l : Nat) (r : Ps.R α) : twiceR false l r = r := by cases r <;> rfl

theorem not_less {m : List Js.Mem} {key : List UInt8} {n : Nat} {p : Js.Mem} (hn : n = (m.takeWhile (Ps.less key)).length) (hp : m[n]? = some p) : ¬ Lib.compareBytes p.1 key = -1 := by
 subst hn
 induction m with
 | nil => simp at hp
 | cons q m ih =>
  by_cases hq : Ps.less key q = true
  ·rw [List.takeWhile_cons_of_pos hq] at hp
   exact ih (by simpa using hp)
  ·rw [List.takeWhile_cons_of_neg hq] at hp
   simp at hp
   subst hp
   simpa [Ps.less] using hq

def Objing (rb : Nat) (s : ByteArray) (u : List UInt8) (d f : Nat) (R : Ps.R Vl) (w : World) (k : Nat) (wr : World) : Prop :=
 ∃ a t A cp acc f', Rd wr rb s a t (d + 1) ∧ t.length = k ∧ acc.length + t.length ≤ u.length ∧ 3 * t.length + 2 ≤ f' ∧ f' ≤ f ∧ Ps.mems f' (d + 1) t acc = R ∧ (acc = [] → ¬ t.head? = some 125) ∧
  RowM wr (w.heap.size + 2) A cp acc ∧ Blk wr w.heap.size 31 zero8 ∧ Blk wr (w.heap.size + 1) 31 (obj8 (.slice A acc.length cp)) ∧ Sole rb w wr

def Keyed (rb : Nat) (s : ByteArray) (d : Nat) (r : Ps.R (List UInt8)) (A : Option Addr) (cp : Nat) (acc : List Js.Mem) (w wr : World) : Prop :=
 After rb s (d + 1) wr r ∧ RowM wr (w.heap.size + 2) A cp acc ∧ Blk wr w.heap.size 31 zero8 ∧ Blk wr (w.heap.size + 1) 31 (obj8 (.slice A acc.length cp)) ∧ Sole rb w wr

theorem grown_new {w w' : World} {o : Obj} {n c : Nat} (hg : ((w.alloc o).drew).grownBy w' (Value.slice (some ⟨w.heap.size, 0, none⟩) n c).ownBlock) : Below w.heap.size w w' :=
 (((Below.refl _ _).alloc (Nat.le_refl _) o).drew).grown hg (by simp) (fun k hk => by cases hk; exact Nat.le_refl _)
theorem grown_new' {w w' : World} {o : Obj} {n c : Nat} (hg : (w.alloc o).grownBy w' (Value.slice (some ⟨w.heap.size, 0, none⟩) n c).ownBlock) : Below w.heap.size w w' :=
 ((Below.refl _ _).alloc (Nat.le_refl _) o).grown hg (by simp) (fun k hk => by cases hk; exact Nat.le_refl _)
theorem new_of {A A' : Option Addr} {n c n' c' b h : Nat} (hA : ∀ ad, A = some ad → b ≤ ad.block) (hh : b ≤ h) (hat : (Value.slice A' n' c').ownBlock = (Value.slice A n c).ownBlock ∨ (Value.slice A' n' c').ownBlock = some h) : ∀ ad, A' = some ad → b ≤ ad.block := by
 rintro ad rfl
 rcases hat with e | e
 ·cases A with
  | none => cases e
  | some x =>
   have : ad.block = x.block := by simpa [Value.ownBlock] using e
   rw [this]; exact hA x rfl
 ·have : ad.block = h := by simpa [Value.ownBlock] using e
  omega
theorem own_new {A : Option Addr} {n c b k : Nat} (hA : ∀ ad, A = some ad → b ≤ ad.block) (hk : (Value.slice A n c).ownBlock = some k) : b ≤ k := by
 cases A with
 | none => cases hk
 | some x => have : x.block = k := by simpa [Value.ownBlock] using hk
             rw [← this]; exact hA x rfl
theorem src_take {w w' : World} {B : Nat} {e : TypeId} {A : Option Addr} {n cp k : Nat} {flat : List Value} (h : w.ownsRow B e 9 (.slice A n cp) n flat) (hk : k ≤ n) (hh : ∀ b, b < w.heap.size → w'.heap[b]? = w.heap[b]?) : Src w' A k cp (flat.take (k * 9)) := by
 have hl := own_le h
 have hfl := h.1
 cases A with
 | none =>
  obtain ⟨rfl, rfl⟩ := hl.2.2.1 rfl
  obtain rfl : k = 0 := by omega
  exact .inl ⟨rfl, rfl, rfl, by simp⟩
 | some ad =>
  obtain ⟨g, rfl, hg1, hg2⟩ := hl.2.2.2 ad rfl
  refine .inr ⟨_, rfl, fun j u hu => ?_⟩
  rw [List.getElem?_take] at hu
  split at hu
  ·rw [Addr.add_mid, Nat.zero_add, World.cell?_of_block (w := w) (hh g hg2)]
   exact own_cell h _ _ hu
  ·cases hu
theorem src_all {w w' : World} {B : Nat} {e : TypeId} {size : Nat} {A : Option Addr} {n cp : Nat} {flat : List Value} (h : w.ownsRow B e size (.slice A n cp) n flat) (hh : ∀ b, b < w.heap.size → w'.heap[b]? = w.heap[b]?) : Src w' A n cp flat := by
 have hl := own_le h
 cases A with
 | none =>
  obtain ⟨rfl, rfl⟩ := hl.2.2.1 rfl
  exact .inl ⟨rfl, rfl, rfl, List.eq_nil_of_length_eq_zero (by have := h.1; omega)⟩
 | some ad =>
  obtain ⟨g, rfl, hg1, hg2⟩ := hl.2.2.2 ad rfl
  refine .inr ⟨_, rfl, fun j u hu => ?_⟩
  rw [Addr.add_mid, Nat.zero_add, World.cell?_of_block (w := w) (hh g hg2)]
  exact own_cell h _ _ hu

def Objed (rb : Nat) (s : ByteArray) (d : Nat) (rv : Ps.R Vl) (m : List Js.Mem) (w wr : World) : Prop :=
 ∃ A cp, After rb s (d + 1) wr rv ∧ RowM wr (w.heap.size + 2) A cp m ∧ Blk wr w.heap.size 31 zero8 ∧ Blk wr (w.heap.size + 1) 31 (obj8 (.slice A m.length cp)) ∧ Sole rb w wr

theorem obj_step {rb : Nat} {s : ByteArray} {d : Nat} {rv : Ps.R Vl} {acc m : List Js.Mem} {w wc w15 : World} {A A3 : Option Addr} {cp c3 : Nat} (hrb : rb < w.heap.size) (hS : Sole rb w wc) (hz : Blk wc w.heap.size 31 zero8) (hv : Blk wc (w.heap.size + 1) 31 (obj8 (.slice A acc.length cp)))
  (hA : After rb s (d + 1) wc rv) (hb : Below wc.heap.size wc w15) (hrow : RowM w15 (w.heap.size + 2) A3 c3 m) : Objed rb s d rv m w (w15.setCell ⟨w.heap.size + 1, 7, none⟩ (.slice A3 m.length c3)) := by
 have hset : ∀ k, k ≠ w.heap.size + 1 → (w15.setCell ⟨w.heap.size + 1, 7, none⟩ (.slice A3 m.length c3)).heap[k]? = w15.heap[k]? := fun k hk => Below.heap_setCell _ _ _ _ hk
 have hvl := hv.lt
 refine ⟨A3, c3, hA.far ?_, hrow.keep (fun k hk _ => hset k (by omega)), (hset _ (by omega)).trans (hz.on hb), ?_, ?_⟩
 ·rw [hset _ (by omega), hb.block _ (by omega)]
 ·exact Blk.setL (l := [.int .i64 5, .bool false, .bool false, .string ⟨#[]⟩, .int .i64 0, .string ⟨#[]⟩, .slice none 0 0, .slice A acc.length cp]) (hv.on hb) 7 _
 ·have h2 := hS.trans (.of_below hb)
  refine ⟨h2.os, h2.tape, h2.output, by simpa [World.setCell] using h2.size, fun k hk hr => by rw [hset _ (by omega)]; exact h2.block k hk hr⟩

theorem src_drop {w w' : World} {B : Nat} {e : TypeId} {A AJ : Option Addr} {n cp k : Nat} {flat : List Value} (h : w.ownsRow B e 9 (.slice A n cp) n flat) (hk : k ≤ n) (hA : (if cp = k then A else Option.map (fun x => x.add (k * 9)) A) = AJ) (hh : ∀ b, b < w.heap.size → w'.heap[b]? = w.heap[b]?) : Src w' AJ (n - k) (cp - k) (flat.drop (k * 9)) := by
 have hl := own_le h
 have hfl := h.1
 cases A with
 | none =>
  obtain ⟨rfl, rfl⟩ := hl.2.2.1 rfl
  obtain rfl : k = 0 := by omega
  rw [if_pos rfl] at hA
  subst hA
  exact .inl ⟨rfl, rfl, rfl, List.eq_nil_of_length_eq_zero (by rw [List.length_drop, hfl])⟩
 | some ad =>
  obtain ⟨g, rfl, hg1, hg2⟩ := hl.2.2.2 ad rfl
  by_cases hc : cp = k
  ·rw [if_pos hc] at hA
   subst hA
   refine .inr ⟨_, rfl, fun j u hu => ?_⟩
   have := (List.getElem?_eq_some_iff.1 hu).1
   rw [List.length_drop, hfl] at this
   have := hl.1
   omega
  ·rw [if_neg hc] at hA
   subst hA
   refine .inr ⟨_, rfl, fun j u hu => ?_⟩
   rw [List.getElem?_drop] at hu
   have e1 : ((⟨g, 0, none⟩ : Addr).add (k * 9)).add j = ⟨g, k * 9 + j, none⟩ := by rw [Addr.add_mid, Addr.add_mid]; simp
   rw [e1, World.cell?_of_block (w := w) (hh g hg2)]
   exact own_cell h _ _ hu

def ObjAt (vb xb : Nat) (mv c0 c1 c2 c3 c4 c5 c6 c7 : Value) (w w' : World) : Prop :=
 (w'.cell? ⟨xb, 0, none⟩ = some c0 ∧ w'.cell? ⟨xb, 1, none⟩ = some c1 ∧ w'.cell? ⟨xb, 2, none⟩ = some c2 ∧ w'.cell? ⟨xb, 3, none⟩ = some c3 ∧ w'.cell? ⟨xb, 4, none⟩ = some c4 ∧ w'.cell? ⟨xb, 5, none⟩ = some c5 ∧ w'.cell? ⟨xb, 6, none⟩ = some c6 ∧ w'.cell? ⟨xb, 7, none⟩ = some c7) ∧
  w'.cell? ⟨vb, 7, none⟩ = some mv ∧ Below w.heap.size w w'
theorem ObjAt.on {vb xb : Nat} {mv c0 c1 c2 c3 c4 c5 c6 c7 : Value} {w W w1 : World} (h : ObjAt vb xb mv c0 c1 c2 c3 c4 c5 c6 c7 w W) (hb : Below W.heap.size W w1) : ObjAt vb xb mv c0 c1 c2 c3 c4 c5 c6 c7 w w1 := by
 obtain ⟨⟨h0, h1, h2, h3, h4, h5, h6, h7⟩, h8, h9⟩ := h
 have hc : ∀ b i v, W.cell? ⟨b, i, none⟩ = some v → w1.cell? ⟨b, i, none⟩ = some v := fun b i v h => (hb.cell (p := ⟨b, i, none⟩) (World.block_lt_of_cell? W _ h)).trans h
 exact ⟨⟨hc _ _ _ h0, hc _ _ _ h1, hc _ _ _ h2, hc _ _ _ h3, hc _ _ _ h4, hc _ _ _ h5, hc _ _ _ h6, hc _ _ _ h7⟩, hc _ _ _ h8, h9.trans (hb.mono h9.size)⟩
theorem ObjAt.drew {vb xb : Nat} {mv c0 c1 c2 c3 c4 c5 c6 c7 : Value} {w W : World} (h : ObjAt vb xb mv c0 c1 c2 c3 c4 c5 c6 c7 w W) : ObjAt vb xb mv c0 c1 c2 c3 c4 c5 c6 c7 w W.drew := ⟨h.1, h.2.1, h.2.2.drew⟩
theorem ObjAt.alloc {vb xb : Nat} {mv c0 c1 c2 c3 c4 c5 c6 c7 : Value} {w W : World} (h : ObjAt vb xb mv c0 c1 c2 c3 c4 c5 c6 c7 w W) (o : Obj) : ObjAt vb xb mv c0 c1 c2 c3 c4 c5 c6 c7 w (W.alloc o) := h.on ((Below.refl _ _).alloc (Nat.le_refl _) _)

set_option linter.unusedSimpArgs false in
set_option linter.unusedVariables false in
set_option maxRecDepth 100000 in
set_option maxHeartbeats 8000000 in
theorem object_more {rb : Nat} {s : ByteArray} {a : Nat} {c : UInt8} {u : List UInt8} {d : Nat} {w : World} (f : Nat) (HVC : ∀ f', f' ≤ f → VC f') (h : Rd w rb s a (c :: u) d) (hs0 : s.size ≤ 100000) (hdl : d < 32) (hh : ¬ (Ps.skip u).head? = some 125) (hf : 3 * u.length + 3 ≤ f + 1) :
  Calls Tryz.prog 42 #[.pointer (some ⟨rb, 0, none⟩)] w (VPost rb s d (Ps.obj (f + 1) d u) w) := by
 have hs : s.size ≤ 1000000 := by omega
 have HO := Lib.hid (open_ok (h.on (objW_below w)) hs (by omega))
 have hrb := h.lt
 have hus : u.length ≤ 1000000 := by have := h.2.1; simp only [List.length_cons] at this; omega
 have HRQ := Lib.hid (show Ps.obj (f + 1) d u = Ps.mems f (d + 1) (Ps.skip u) [] from by unfold Ps.obj; rw [if_neg (by omega), if_neg hh])
 have HZ := Lib.hid ((Blk.new w 31 zero8).alloc (.cells (obj8 (.slice none 0 0)) 31))
 have HV := Lib.hid (Blk.new2 w (.cells zero8 31) 31 (obj8 (.slice none 0 0)))
 have HB := Lib.hid (objW_below w)
 have HH := Lib.hid hh
 have HVC' := Lib.hid HVC
 have hskl := Ps.skip_len u
 clear h hh HVC
 rw [HRQ.out]
 generalize hRR : Ps.mems f (d + 1) (Ps.skip u) [] = R
 have HRR := Lib.hid hRR
 clear HRQ hRR
 go_enter Tryz.func42, Tryz.ntmps42
 go_wp2_with fail
 refine HO.out.mono ?_
 rintro e w2 ⟨rfl, hRB, hS⟩
 rw [if_neg (by omega)] at hRB
 obtain ⟨a2, hR2⟩ := hRB
 have HR2 := Lib.hid hR2
 have HS := Lib.hid ((Sole.of_below HB.out).trans hS)
 have HZ2 := Lib.hid (hS.blk HZ.out (by omega))
 have HV2 := Lib.hid (hS.blk HV.out (by omega))
 clear hR2 hS
 go_wp2_with fail
 go_loopg [4, 5, 6, 7, 8, 9, 10] (Ps.skip u).length (fun k _ _ _ _ _ _ _ wr => Objing rb s u d f R w k wr)
 case atStart => exact ⟨a2, Ps.skip u, none, 0, [], f, HR2.out, rfl, by simpa using hskl, by omega, Nat.le_refl _, HRR.out, fun _ => HH.out, RowM.nil _ _, HZ2.out, HV2.out, HS.out⟩
 case round =>
  obtain ⟨a1, t, A, cp, acc, f', hR, hk, hal, hf1, hf2, hel, hne, hrow, hz, hv, hW⟩ := hrel
  obtain ⟨f', rfl⟩ : ∃ f0, f' = f0 + 1 := ⟨f' - 1, by omega⟩
  have HK := Lib.hid hk
  have HEL := Lib.hid hel
  have HR := Lib.hid hR
  have HROW := Lib.hid hrow
  have hal2 : acc.length ≤ 1000000 := by omega
  have HZ3 := Lib.hid hz
  have HV3 := Lib.hid hv
  have HW := Lib.hid hW
  have HP := Lib.hid (peek_ok hR (by omega))
  have hv7 := hv.cell 7
  obtain ⟨c0, c1, c2, c3, c4⟩ := hR.1.five
  have hwl := hv.lt
  have hcond : ((hd t : Int) != 125) = true ∨ (((hd t : Int) != 125) = false ∧ decide (0 < acc.length) = true) := by
   by_cases e : t.head? = some 125
   ·exact .inr ⟨hd_eq e, by
     cases acc with
     | nil => exact absurd e (hne rfl)
     | cons x l => simp⟩
   ·exact .inl (hd_ne e)
  have HBL := Lib.hid (fun n => blank_ok (HR.out.drewN n) (show s.size ≤ 1000000000000 by omega))
  clear hel hR hrow hz hv hW hne hk
  generalize hd t = q at HP hcond
  go_upto_region 3 with (fail)
  go_cut [29] from 14 to 98 (fun b wc => b = .bool true ∧ ∃ n, wc = wr.drewN n)
  case first =>
   rcases hcond with q1 | ⟨q1, q2⟩
   all_goals
    go_wp2_with fail
    refine HP.out.mono ?_
    rintro e w3 ⟨rfl, n, rfl⟩
    go_wp2_with fail
    go_meet
    case rel => exact ⟨rfl, n, rfl⟩
  case rest =>
   obtain ⟨rfl, n, rfl⟩ := hcut
   clear hcond HP hv7
   go_wp2_with fail
   refine (HBL.out n).mono ?_
   rintro e w3 ⟨rfl, ⟨a3, hR3⟩, hS3⟩
   have HS3 := Lib.hid ((HW.out.drewN n).trans hS3)
   have HZ4 := Lib.hid (show Blk w3 w.heap.size 31 zero8 from hS3.blk HZ3.out (by omega))
   have HV4 := Lib.hid (show Blk w3 (w.heap.size + 1) 31 (obj8 (.slice A acc.length cp)) from hS3.blk HV3.out (by omega))
   have HROW3 := Lib.hid (show RowM w3 (w.heap.size + 2) A cp acc from HROW.out.keep (fun k hk hlt => hS3.block k hlt (by omega)))
   have HT := Lib.hid (text_ok hR3 hs)
   have hal3 := hR3.2.1
   have HA3 := Lib.hid hal3
   clear c0 c1 c2 c3 c4
   obtain ⟨c0, c1, c2, c3, c4⟩ := hR3.1.five
   clear hR3 hS3 hal3
   go_wp2_with fail
   refine HT.out.mono ?_
   rintro e w4 ⟨key, rfl, hkey, hA4, hS4⟩
   have HKEY := Lib.hid hkey
   have HA4 := Lib.hid hA4
   have HS4 := Lib.hid (HS3.out.trans hS4)
   have HZ5 := Lib.hid (hS4.blk HZ4.out (by omega))
   have HV5 := Lib.hid (hS4.blk HV4.out (by omega))
   have HROW4 := Lib.hid (HROW3.out.keep (fun k hk hlt => hS4.block k hlt (by omega)))
   clear c0 c1 c2 c3 c4 hkey hA4 hS4
   obtain ⟨v0, v1, v2, v3, v4, v5, v6, v7⟩ := HV5.out.eight
   have HFI := Lib.hid (refFind_any (Ps.mkO acc) key _ w4 (In.keep (le_on _ _) _ _ (HROW4.out.in_ (Nat.le_refl _))))
   go_wp2_with fail
   refine HFI.out.mono ?_
   rintro e w5 ⟨x, rfl, hx, hb5⟩
   obtain ⟨k1, b1, n1, g1, x1, s1, A1, l1, p1, B1, m1, d1, rfl⟩ := In.cells hx
   have hfk : (Ps.mkO acc).find key = Js.find acc key := by simp [Vl.find]
   rw [hfk]
   generalize hb : (Js.find acc key).isSome = b
   have HBE := Lib.hid hb
   have h56 : Below w4.heap.size w4 (w5.alloc (.cells #[.int .i64 k1, .bool b1, .bool n1, .string ⟨g1.toArray⟩, .int .i64 x1, .string ⟨s1.toArray⟩, .slice A1 l1 p1, .slice B1 m1 d1] 31)) := hb5.alloc hb5.size _
   have HA6 := Lib.hid (HA4.out.far (h56.block rb (by have := HS4.out.size; omega)))
   have HS6 := Lib.hid (HS4.out.trans (.of_below h56))
   have HZ6 := Lib.hid (HZ5.out.on h56)
   have HV6 := Lib.hid (HV5.out.on h56)
   have HROW6 := Lib.hid (HROW4.out.keep (fun k hk hlt => h56.block k hlt))
   clear hfk hb hx hb5 h56 v0 v1 v2 v3 v4 v5 v6 v7
   go_upto_if 44 with (fail)
   go_cut [] from 14 to 98 (fun wc => Keyed rb s d (twiceR b (Ps.skip t).length (Ps.qtext (Ps.skip t))) A cp acc w wc)
   case first =>
    cases b with
    | true =>
     go_wp2_with fail
     refine (fail_any HA6.out a3 (Ps.skip t).length HA3.out).mono ?_
     rintro e w7 ⟨rfl, hA7, hS7⟩
     have HF := Lib.hid (show Keyed rb s d (twiceR true (Ps.skip t).length (Ps.qtext (Ps.skip t))) A cp acc w w7 from ⟨hA7, HROW6.out.keep (fun k hk hlt => hS7.block k hlt (by omega)), hS7.blk HZ6.out (by omega), hS7.blk HV6.out (by omega), HS6.out.trans hS7⟩)
     clear hA7 hS7
     go_wp2_with fail
     go_meet
     case rel => exact HF.out
    | false =>
     have HF := Lib.hid (show Keyed rb s d (twiceR false (Ps.skip t).length (Ps.qtext (Ps.skip t))) A cp acc w _ from ⟨by rw [twice_no]; exact HA6.out, HROW6.out, HZ6.out, HV6.out, HS6.out⟩)
     go_wp2_with fail
     go_meet
     case rel => exact HF.out
   case rest =>
    obtain ⟨hA, hrow, hz, hv, hS⟩ := hcut
    have he := HEL.out
    rw [mems_eq f' (d + 1) t acc key HKEY.out, HBE.out] at he
    have HE := Lib.hid he
    have HLEN := Lib.hid (memR_len t b)
    have HROW7 := Lib.hid hrow
    have HZ7 := Lib.hid hz
    have HV7 := Lib.hid hv
    have HS7 := Lib.hid hS
    have HBA := Lib.hid (blank_any hA (show s.size ≤ 1000000000000 by omega))
    clear he hA hrow hz hv hS
    go_wp2_with fail
    refine HBA.out.mono ?_
    rintro e w8 ⟨rfl, hA8, hS8⟩
    have HW8 := Lib.hid (want_any hA8 (show s.size ≤ 1000000000000 by omega) ⟨#[58]⟩ (by decide) (by decide))
    have HS8 := Lib.hid hS8
    clear hA8 hS8
    go_wp2_with fail
    refine HW8.out.mono ?_
    rintro e w9 ⟨rfl, hA9, hS9⟩
    have HS9 := Lib.hid (HS8.out.trans hS9)
    have HVA := Lib.hid (value_any (HVC'.out f' (by omega)) hA9 hs0 (by omega) (fun v u e => by have := HLEN.out v u e; omega))
    clear hA9 hS9
    go_wp2_with fail
    refine HVA.out.mono ?_
    rintro e w10 ⟨v, x, rfl, hin, hS10, hv10, hA10⟩
    obtain ⟨k1, b1, n1, g1, x1, s1, A1, l1, p1, B1, m1, d1, rfl⟩ := In.cells hin
    have h9z := HS9.out.size
    have hw11 : Below w10.heap.size w10 (w10.alloc (.cells #[.int .i64 k1, .bool b1, .bool n1, .string ⟨g1.toArray⟩, .int .i64 x1, .string ⟨s1.toArray⟩, .slice A1 l1 p1, .slice B1 m1 d1] 31)) := (Below.refl _ _).alloc (Nat.le_refl _) _
    have hS11 := hS10.trans (.of_below hw11)
    have HX11 := Lib.hid (Blk.new w10 31 #[.int .i64 k1, .bool b1, .bool n1, .string ⟨g1.toArray⟩, .int .i64 x1, .string ⟨s1.toArray⟩, .slice A1 l1 p1, .slice B1 m1 d1])
    have HIN11 := Lib.hid (show v.In ((w10.alloc (.cells #[.int .i64 k1, .bool b1, .bool n1, .string ⟨g1.toArray⟩, .int .i64 x1, .string ⟨s1.toArray⟩, .slice A1 l1 p1, .slice B1 m1 d1] 31)).on (w.heap.size + 2 ≤ ·)) (vlV k1 b1 n1 g1 x1 s1 (.slice A1 l1 p1) (.slice B1 m1 d1)) from In.keep (fun p y hp => by
     obtain ⟨e1, e2⟩ := on_some.1 hp
     have hl7 := HV7.out.lt
     have hl8 := HS8.out.size
     exact on_some.2 ⟨by have := hS10.size; omega, by rw [World.cell?_alloc_lt _ _ _ (World.block_lt_of_cell? w10 _ e2)]; exact e2⟩) _ _ hin)
    have HS11 := Lib.hid (HS7.out.trans (HS9.out.trans hS11))
    have HV11 := Lib.hid ((HS9.out.trans hS11).blk HV7.out (by omega))
    have HZ11 := Lib.hid ((HS9.out.trans hS11).blk HZ7.out (by omega))
    have HROW11 := Lib.hid (HROW7.out.keep (fun k hk hlt => (HS9.out.trans hS11).block k hlt (by omega)))
    have HA11 := Lib.hid (hA10.far (hw11.block rb (by have := hS10.size; have := HS9.out.size; have := HS7.out.size; omega)))
    have HV10 := Lib.hid hv10
    have hxb : w.heap.size + 2 ≤ w10.heap.size := by have := HV7.out.lt; have := (HS9.out.trans hS10).size; omega
    clear hin hS10 hv10 hA10 hw11 hS11 h9z
    go_wp2_with fail
    generalize w10.alloc (.cells #[.int .i64 k1, .bool b1, .bool n1, .string ⟨g1.toArray⟩, .int .i64 x1, .string ⟨s1.toArray⟩, .slice A1 l1 p1, .slice B1 m1 d1] 31) = w11 at *
    generalize w10.heap.size = xb at *
    obtain ⟨n0, hn0⟩ : ∃ n0, n0 = (acc.takeWhile (Ps.less key)).length := ⟨_, rfl⟩
    have hn0l : n0 ≤ acc.length := by rw [hn0]; exact (List.takeWhile_sublist _).length_le
    have HN0 := Lib.hid hn0
    clear hn0
    have hv7 := HV11.out.cell 7
    have hvl := HV11.out.lt
    go_loop [9] (fun i => ∃ j : Nat, j ≤ n0 ∧ i = .int .i64 j) (fun i => n0 - (intOf i).toNat)
    case atStart => exact ⟨0, Nat.zero_le _, rfl⟩
    case round =>
     obtain ⟨j, hj, rfl⟩ := hrel
     obtain ⟨flat, hown, hone, hel⟩ := HROW11.out
     have hole := own_le hown
     have HOWN := Lib.hid hown
     have HONE := Lib.hid hone
     have HELS := Lib.hid hel
     have hcp1 := hole.1
     have hcp2 := hole.2.1
     unfold maxLen at hcp2
     have HNIL := Lib.hid hole.2.2.1
     have HAD := Lib.hid hole.2.2.2
     clear hown hone hel hole
     by_cases hjn : j < n0
     ·obtain ⟨g, rfl, hg1, hg2⟩ : ∃ g, A = some ⟨g, 0, none⟩ ∧ w.heap.size + 2 ≤ g ∧ g < w11.heap.size := by
       cases A with
       | none => have := (HNIL.out rfl).1; omega
       | some ad => obtain ⟨g, rfl, h1, h2⟩ := HAD.out ad rfl; exact ⟨g, rfl, h1, h2⟩
      have hp := List.getElem?_eq_getElem (show j < acc.length by omega)
      have hc := own_cell HOWN.out _ _ (HELS.out j _ hp).1
      have hless : Op.bytesLess acc[j].1 key = true := by
       rw [Nm.less_bytes]
       have hm : acc[j] ∈ acc.takeWhile (Ps.less key) := by
        have e := take_of_app (List.takeWhile_append_dropWhile (p := Ps.less key) (l := acc))
        rw [← e, ← HN0.out]
        exact List.mem_take_iff_getElem.2 ⟨j, by omega, rfl⟩
       exact decide_eq_true (Ps.take_less hm)
      have hjl : j < acc.length := by omega
      clear hp
      generalize acc[j].1 = kj at hc hless
      go_wp2_with fail
      go_round
      case rel => exact ⟨j + 1, by omega, by go_num⟩
      case measure => simp [intOf]; omega
     ·obtain rfl : j = n0 := by omega
      have hstop : decide (j < acc.length) = false ∨ (decide (j < acc.length) = true ∧ ∃ g, ∃ kj : List UInt8, A = some ⟨g, 0, none⟩ ∧ w11.cell? ⟨g, j * 9, none⟩ = some (.string ⟨kj.toArray⟩) ∧ Op.bytesLess kj key = false) := by
       by_cases hjl : j < acc.length
       ·right
        refine ⟨by simpa using hjl, ?_⟩
        obtain ⟨g, rfl, hg1, hg2⟩ : ∃ g, A = some ⟨g, 0, none⟩ ∧ w.heap.size + 2 ≤ g ∧ g < w11.heap.size := by
         cases A with
         | none => have := (HNIL.out rfl).1; omega
         | some ad => obtain ⟨g, rfl, h1, h2⟩ := HAD.out ad rfl; exact ⟨g, rfl, h1, h2⟩
        have hp := List.getElem?_eq_getElem hjl
        refine ⟨g, _, rfl, own_cell HOWN.out _ _ (HELS.out j _ hp).1, ?_⟩
        rw [Nm.less_bytes]
        exact decide_eq_false (not_less HN0.out hp)
       ·left; simpa using hjl
      go_upto_region 14 with (fail)
      go_cut [68] from 54 to 70 (fun b wc => b = .bool false ∧ wc = w11)
      case first =>
       rcases hstop with q1 | ⟨q1, g, kj, rfl, q2, q3⟩
       ·go_wp2_with fail
        go_meet
        case rel => exact ⟨rfl, rfl⟩
       ·have hjl : j < acc.length := by simpa using q1
        go_wp2_with fail
        go_meet
        case rel => exact ⟨rfl, rfl⟩
      case rest =>
       obtain ⟨rfl, rfl⟩ := hcut
       clear hstop
       obtain ⟨z0, z1, z2, z3, z4, z5, z6, z7⟩ := HX11.out.eight
       have hxl := HX11.out.lt
       go_wp2_with fail
       obtain ⟨i0, hi0, hz0, hz1, hz2⟩ := infoM'
       obtain ⟨AJ, hAJ⟩ : ∃ AJ, (if cp = j then A else Option.map (fun x => x.add (j * 9)) A) = AJ := ⟨_, rfl⟩
       have hfl := HOWN.out.1
       have HDL := Lib.hid (show (flat.drop (j * 9)).length = (acc.length - j) * 9 by rw [List.length_drop, hfl]; omega)
       have HD1 := Lib.hid (show ∀ u ∈ flat.drop (j * 9), u.oneCell' = true from fun u hu => HONE.out u (List.mem_of_mem_drop hu))
       have HOWND := Lib.hid (show ((wc.alloc (.cells #[.string ⟨key.toArray⟩, .int .i64 k1, .bool b1, .bool n1, .string ⟨g1.toArray⟩, .int .i64 x1, .string ⟨s1.toArray⟩, .slice A1 l1 p1, .slice B1 m1 d1] 91)).drew).ownsRow (w.heap.size + 2) 91 9 (.slice (some ⟨wc.heap.size, 0, none⟩) 1 1) 1 [.string ⟨key.toArray⟩, .int .i64 k1, .bool b1, .bool n1, .string ⟨g1.toArray⟩, .int .i64 x1, .string ⟨s1.toArray⟩, .slice A1 l1 p1, .slice B1 m1 d1] from World.ownsRow_lit wc #[.string ⟨key.toArray⟩, .int .i64 k1, .bool b1, .bool n1, .string ⟨g1.toArray⟩, .int .i64 x1, .string ⟨s1.toArray⟩, .slice A1 l1 p1, .slice B1 m1 d1] 1 (by omega) (by unfold maxLen; omega) rfl)
       have HSRC := Lib.hid (show Src ((wc.alloc (.cells #[.string ⟨key.toArray⟩, .int .i64 k1, .bool b1, .bool n1, .string ⟨g1.toArray⟩, .int .i64 x1, .string ⟨s1.toArray⟩, .slice A1 l1 p1, .slice B1 m1 d1] 91)).drew) AJ (acc.length - j) (cp - j) (flat.drop (j * 9)) from src_drop HOWN.out hn0l hAJ (fun k hk => Below.heap_alloc _ _ _ hk))
       clear hfl
       have HF0 := Lib.hid (show ObjAt (w.heap.size + 1) xb (.slice A acc.length cp) (.int .i64 k1) (.bool b1) (.bool n1) (.string ⟨g1.toArray⟩) (.int .i64 x1) (.string ⟨s1.toArray⟩) (.slice A1 l1 p1) (.slice B1 m1 d1) wc wc from ⟨⟨z0, z1, z2, z3, z4, z5, z6, z7⟩, hv7, Below.refl _ _⟩)
       have HF := Lib.hid (show ObjAt (w.heap.size + 1) xb (.slice A acc.length cp) (.int .i64 k1) (.bool b1) (.bool n1) (.string ⟨g1.toArray⟩) (.int .i64 x1) (.string ⟨s1.toArray⟩) (.slice A1 l1 p1) (.slice B1 m1 d1) wc wc.drew from ⟨⟨z0, z1, z2, z3, z4, z5, z6, z7⟩, hv7, (Below.refl _ _).drew⟩)
       go_region_held3 (fun w' => (w'.cell? ⟨xb, 0, none⟩ = some (.int .i64 k1) ∧ w'.cell? ⟨xb, 1, none⟩ = some (.bool b1) ∧ w'.cell? ⟨xb, 2, none⟩ = some (.bool n1) ∧ w'.cell? ⟨xb, 3, none⟩ = some (.string ⟨g1.toArray⟩) ∧ w'.cell? ⟨xb, 4, none⟩ = some (.int .i64 x1) ∧ w'.cell? ⟨xb, 5, none⟩ = some (.string ⟨s1.toArray⟩) ∧ w'.cell? ⟨xb, 6, none⟩ = some (.slice A1 l1 p1) ∧ w'.cell? ⟨xb, 7, none⟩ = some (.slice B1 m1 d1)) ∧ w'.cell? ⟨w.heap.size + 1, 7, none⟩ = some (.slice A acc.length cp) ∧ Below wc.heap.size wc w')
        ((show ObjAt (w.heap.size + 1) xb (.slice A acc.length cp) (.int .i64 k1) (.bool b1) (.bool n1) (.string ⟨g1.toArray⟩) (.int .i64 x1) (.string ⟨s1.toArray⟩) (.slice A1 l1 p1) (.slice B1 m1 d1) wc _; first | (with_reducible exact ht) | (with_reducible exact HF.out) | (with_reducible exact ObjAt.drew (ObjAt.alloc HF0.out _))))
        (first | (refine step_append_src _ (by rfl) _ _ _ (by rfl) (w.heap.size + 2) 91 i0 _ 9 128 Tryz.underlying29 hi0 hz0 hz1 hz2 rfl (by omega) (.slice (some ⟨wc.heap.size, 0, none⟩) 1 1) 1 [.string ⟨key.toArray⟩, .int .i64 k1, .bool b1, .bool n1, .string ⟨g1.toArray⟩, .int .i64 x1, .string ⟨s1.toArray⟩, .slice A1 l1 p1, .slice B1 m1 d1] (by rfl) HOWND.out AJ (acc.length - j) (cp - j) (flat.drop (j * 9)) (by rfl) HDL.out HSRC.out HD1.out (by unfold maxLen; omega) (by omega) (by simp; omega) (1 + (acc.length - j)) rfl ?_; intro A' c' w12 hown12 hg12 hat12; have hbl12 := grown_new hg12; have ht := ObjAt.on HF0.out hbl12; have HOWN12 := Lib.hid hown12; have HAT12 := Lib.hid hat12; clear hown12 hg12 hat12 hbl12))
       obtain ⟨y1, y7, hbl12⟩ := ht
       have hb12z := hbl12.size
       have HB12 := Lib.hid hbl12
       have hvb12 := HV11.out.on hbl12
       have q7 := hvb12.cell 7
       have ql := hvb12.lt
       have hadd0 : Option.map (fun x : Addr => x.add 0) A = A := by cases A <;> simp [Addr.add]
       have HOWNE := Lib.hid (show (w12.alloc (.cells #[] 91)).ownsRow (w.heap.size + 2) 91 9 (.slice (some ⟨w12.heap.size, 0, none⟩) 0 0) 0 [] from World.ownsRow_lit w12 #[] 0 (by omega) (by unfold maxLen; omega) rfl)
       have HTL := Lib.hid (show (flat.take (j * 9)).length = j * 9 by rw [List.length_take, HOWN.out.1]; omega)
       have HD2 := Lib.hid (show ∀ u ∈ flat.take (j * 9), u.oneCell' = true from fun u hu => HONE.out u (List.mem_of_mem_take hu))
       have HSRC2 := Lib.hid (show Src (w12.alloc (.cells #[] 91)) A j cp (flat.take (j * 9)) from src_take HOWN.out hn0l (fun k hk => (Below.heap_alloc _ _ _ (by omega)).trans (hbl12.block k hk)))
       have HL3 := Lib.hid (show (([.string ⟨key.toArray⟩, .int .i64 k1, .bool b1, .bool n1, .string ⟨g1.toArray⟩, .int .i64 x1, .string ⟨s1.toArray⟩, .slice A1 l1 p1, .slice B1 m1 d1] : List Value) ++ flat.drop (j * 9)).length = (1 + (acc.length - j)) * 9 by rw [List.length_append, HDL.out]; simp; omega)
       have HD3 := Lib.hid (show ∀ u ∈ ([.string ⟨key.toArray⟩, .int .i64 k1, .bool b1, .bool n1, .string ⟨g1.toArray⟩, .int .i64 x1, .string ⟨s1.toArray⟩, .slice A1 l1 p1, .slice B1 m1 d1] : List Value) ++ flat.drop (j * 9), u.oneCell' = true from fun u hu => (List.mem_append.1 hu).elim (fun h => by simp at h; rcases h with rfl | rfl | rfl | rfl | rfl | rfl | rfl | rfl | rfl <;> rfl) (HD1.out u))
       clear y1 y7 hbl12 hvb12
       go_wp2_with (first
        | (at_builtin; refine wpList_append_src _ rfl _ _ _ rfl (w.heap.size + 2) 91 i0 _ 9 128 Tryz.underlying29 hi0 hz0 hz1 hz2 rfl (by omega) (.slice (some ⟨w12.heap.size, 0, none⟩) 0 0) 0 [] rfl HOWNE.out A j cp (flat.take (j * 9)) rfl HTL.out HSRC2.out HD2.out (by unfold maxLen; omega) (by omega) (by simp; omega) j (by omega) ?_; intro A2 c2 w14 hown14 hg14 hat14; have hb14 := grown_new' hg14; have hnew14 := new_of (b := w12.heap.size) (fun ad e => by cases e; exact Nat.le_refl _) (by simp) hat14; have HSRC3 := Lib.hid (src_all HOWN12.out (w' := w14) (fun k hk => hb14.block k hk)); have HOWN14 := Lib.hid hown14; have HB14 := Lib.hid hb14; have HNEW14 := Lib.hid hnew14; have hz14 := hb14.size; clear hown14 hg14 hat14 hb14 hnew14)
        | (at_builtin; refine wpList_append_src _ rfl _ _ _ rfl (w.heap.size + 2) 91 i0 _ 9 128 Tryz.underlying29 hi0 hz0 hz1 hz2 rfl (by omega) (.slice A2 j c2) j _ rfl HOWN14.out A' (1 + (acc.length - j)) c' _ rfl HL3.out HSRC3.out HD3.out (by unfold maxLen; omega) (by omega) (by omega) (acc.length + 1) (by omega) ?_; intro A3 c3 w15 hown15 hg15 hat15; have hb15 := HB14.out.grown hg15 (by omega) (fun k hk => own_new HNEW14.out hk); have hnew15 := new_of HNEW14.out hz14 hat15; have HOWN15 := Lib.hid hown15; have HB15 := Lib.hid (HB12.out.trans (hb15.mono hb12z)); have HNEW15 := Lib.hid hnew15; have hvb15 := HV11.out.on HB15.out; have r7 := hvb15.cell 7; have rf := hvb15.frozen; clear hown15 hg15 hat15 hb15 hnew15 hvb15))
       have hc1 : ∀ u ∈ (#[.int .i64 k1, .bool b1, .bool n1, .string ⟨g1.toArray⟩, .int .i64 x1, .string ⟨s1.toArray⟩, .slice A1 l1 p1, .slice B1 m1 d1] : Array Value).toList, u.oneCell' = true := fun u h => by simp at h; rcases h with rfl | rfl | rfl | rfl | rfl | rfl | rfl | rfl <;> rfl
       have hrow15 := RowM.ins (k := j) HOWN.out HONE.out HELS.out HIN11.out rfl hc1 (fun k hk hlt => HB15.out.block k hlt) HN0.out HOWN15.out (fun ad e => Nat.le_trans hb12z (HNEW15.out ad e))
       obtain ⟨acc', hacc⟩ : ∃ acc', Ps.ins acc key v = acc' := ⟨_, rfl⟩
       rw [hacc] at hrow15
       have hacl : acc'.length = acc.length + 1 := by rw [← hacc, Ps.ins_length]
       have hobj := obj_step hrb HS11.out HZ11.out HV11.out HA11.out HB15.out hrow15
       rw [hacl] at hobj
       have HACL := Lib.hid hacl
       have HACC := Lib.hid hacc
       clear hc1 hrow15 hacl hacc r7 rf q7 ql z0 z1 z2 z3 z4 z5 z6 z7 hadd0 hAJ hv7
       generalize w15.setCell ⟨w.heap.size + 1, 7, none⟩ (.slice A3 (acc.length + 1) c3) = w16 at hobj ⊢
       obtain ⟨A4, cp4, hA', hrow', hz', hv8', hS'⟩ := hobj
       have HA' := Lib.hid (show After rb s (d + 1) w16 (memR f' (d + 1) t b) from hA')
       have HROW' := Lib.hid hrow'
       have HZ' := Lib.hid hz'
       have HV8 := Lib.hid hv8'
       have HS' := Lib.hid hS'
       have he := HE.out
       clear hA' hrow' hz' hS'
       obtain ⟨v0, v1, v2, v3, v4, v5, v6, v7⟩ := hv8'.eight
       have hrb2 : rb < w.heap.size + 2 := by omega
       cases hrv : memR f' (d + 1) t b with
       | bad c l =>
        rw [hrv] at he HA'
        simp only at he
        have HRQ := Lib.hid (show R = (R_then (Ps.R.bad (α := Unit) c l) (Ps.lit [125])).map (fun _ => Ps.mkO acc') ∧ ∀ r : Ps.R Unit, ∀ v0 u, r.map (fun _ => Ps.mkO acc') = .ok v0 u → Ps.mkO acc' = v0 from ⟨he.symm, fun r => map_ok r _⟩)
        have HPB := Lib.hid (peek_bad HA'.out)
        clear he hrv hv8'
        go_wp2_with fail
        refine HPB.out.mono ?_
        rintro e w17 ⟨rfl, m, rfl⟩
        clear v0 v1 v2 v3 v4 v5 v6 v7
        go_wp2_with fail
        refine (want_any (show After rb s (d + 1) (w16.drewN m) (Ps.R.bad (α := Unit) c l) from HA'.out) (by omega) ⟨#[125]⟩ (by decide) (by decide)).mono ?_
        rintro e w4 ⟨rfl, hA4, hS4⟩
        have HA4 := Lib.hid hA4
        have HS4 := Lib.hid ((HS'.out.drewN m).trans hS4)
        have HZ4 := Lib.hid (hS4.blk HZ'.out (by omega))
        have HV4 := Lib.hid (hS4.blk HV8.out (by omega))
        have HROW4 := Lib.hid ((show RowM (w16.drewN m) (w.heap.size + 2) A4 cp4 acc' from HROW'.out).keep (fun k hk hlt => hS4.block k hlt (by omega)))
        clear hA4 hS4
        obtain ⟨a4, d4, b4, p4, hB4, hA5⟩ := HA4.out.up (by omega)
        obtain ⟨z0, z1, z2, z3, z4, z5, z6, z7⟩ := HZ4.out.eight
        obtain ⟨v0, v1, v2, v3, v4, v5, v6, v7⟩ := HV4.out.eight
        have zf := HZ4.out.frozen
        have vf := HV4.out.frozen
        obtain ⟨c0, c1, c2, c3, c4⟩ := hB4.five
        have hf := hB4.frozen
        have HA5 := Lib.hid hA5
        clear hB4 hA5
        go_wp2_with fail
        have hfin := read_fin (v := Ps.mkO acc') (d := d) hrb (HS4.out.set 2 (.int .i64 (wrap64 (d4 - 1)))) (Sole.blk ((Sole.refl rb w4).set 2 (.int .i64 (wrap64 (d4 - 1)))) HZ4.out (by omega)) ((HROW4.out.keep (fun k hk hlt => ((Sole.refl rb w4).set 2 (.int .i64 (wrap64 (d4 - 1)))).block k hlt (by omega))).in_ (Nat.le_succ _)) (HRQ.out.2 _) (HA5.out.map (fun _ => Ps.mkO acc'))
        refine bodyPost_ret (results_row1 (l := [_, _, _, _, _, _, _, _]) rfl _ _ _ rfl hfin.1 Tryz.underlying31 rfl (by kernel_rfl)) rfl ?_
        rw [HRQ.out.1]
        exact hfin.2
       | ok v0' t2 =>
        obtain rfl := HV10.out v0' t2 hrv
        rw [hrv] at he HA'
        simp only at he
        rw [HACC.out] at he
        obtain ⟨a9, hR9⟩ := HA'.out
        have HR9 := Lib.hid hR9
        have HP9 := Lib.hid (peek_ok hR9 (by omega))
        have hlen2 := memR_ok_len f' (d + 1) t b (by omega) hrv
        by_cases h44 : t2.head? = some 44
        ·rw [if_pos h44] at he
         obtain ⟨u2, rfl⟩ : ∃ u2, t2 = 44 :: u2 := by
          cases t2 with
          | nil => cases h44
          | cons b u2 => cases h44; exact ⟨u2, rfl⟩
         have HE9 := Lib.hid he
         have hk44 : hd (44 :: u2) = 44 := rfl
         rw [hk44] at HP9
         simp only [List.length_cons] at hlen2
         obtain ⟨c0, c1, c2, c3', c4⟩ := hR9.1.five
         have hf := hR9.1.frozen
         have ha9 : a9 + (u2.length + 1) = s.size := by simpa using hR9.2.1
         have HST := Lib.hid (fun m => (HR9.out.drewN m).step)
         clear he hrv hv8' hR9 h44
         go_wp2_with fail
         refine HP9.out.mono ?_
         rintro e w17 ⟨rfl, m, rfl⟩
         go_wp2_with fail
         go_roundg u2.length
         case rel =>
          refine ⟨a9 + 1, u2, A4, cp4, acc', f', HST.out m, rfl, ?_, ?_, by omega, HE9.out, fun e => by have := HACL.out; rw [e] at this; simp at this, ?_, ?_, ?_, (HS'.out.drewN m).set _ _⟩
          ·have := HACL.out; omega
          ·omega
          ·exact HROW'.out.keep (fun k hk hlt => Below.heap_setCell _ _ _ _ (by show k ≠ rb; omega))
          ·exact (Below.heap_setCell (w16.drewN m) ⟨rb, 1, none⟩ _ _ (by show w.heap.size ≠ rb; omega)).trans HZ'.out
          ·exact (Below.heap_setCell (w16.drewN m) ⟨rb, 1, none⟩ _ _ (by show w.heap.size + 1 ≠ rb; omega)).trans HV8.out
         case measure => have := HK.out; omega
        ·rw [if_neg h44] at he
         have HRQ := Lib.hid (show R = (R_then (Ps.R.ok () t2) (Ps.lit [125])).map (fun _ => Ps.mkO acc') ∧ ∀ r : Ps.R Unit, ∀ v0 u, r.map (fun _ => Ps.mkO acc') = .ok v0 u → Ps.mkO acc' = v0 from ⟨he.symm, fun r => map_ok r _⟩)
         have h1' : ((hd t2 : Int) != 44) = true := hd_ne h44
         clear he hrv hv8' hR9 h44
         generalize hd t2 = q9 at HP9 h1'
         go_wp2_with fail
         refine HP9.out.mono ?_
         rintro e w17 ⟨rfl, m, rfl⟩
         clear v0 v1 v2 v3 v4 v5 v6 v7
         go_wp2_with fail
         refine (want_any (show After rb s (d + 1) (w16.drewN m) (Ps.R.ok () t2) from ⟨a9, HR9.out⟩) (by omega) ⟨#[125]⟩ (by decide) (by decide)).mono ?_
         rintro e w4 ⟨rfl, hA4, hS4⟩
         have HA4 := Lib.hid hA4
         have HS4 := Lib.hid ((HS'.out.drewN m).trans hS4)
         have HZ4 := Lib.hid (hS4.blk HZ'.out (by omega))
         have HV4 := Lib.hid (hS4.blk HV8.out (by omega))
         have HROW4 := Lib.hid ((show RowM (w16.drewN m) (w.heap.size + 2) A4 cp4 acc' from HROW'.out).keep (fun k hk hlt => hS4.block k hlt (by omega)))
         clear hA4 hS4
         obtain ⟨a4, d4, b4, p4, hB4, hA5⟩ := HA4.out.up (by omega)
         obtain ⟨z0, z1, z2, z3, z4, z5, z6, z7⟩ := HZ4.out.eight
         obtain ⟨v0, v1, v2, v3, v4, v5, v6, v7⟩ := HV4.out.eight
         have zf := HZ4.out.frozen
         have vf := HV4.out.frozen
         obtain ⟨c0, c1, c2, c3, c4⟩ := hB4.five
         have hf := hB4.frozen
         have HA5 := Lib.hid hA5
         clear hB4 hA5
         go_wp2_with fail
         have hfin := read_fin (v := Ps.mkO acc') (d := d) hrb (HS4.out.set 2 (.int .i64 (wrap64 (d4 - 1)))) (Sole.blk ((Sole.refl rb w4).set 2 (.int .i64 (wrap64 (d4 - 1)))) HZ4.out (by omega)) ((HROW4.out.keep (fun k hk hlt => ((Sole.refl rb w4).set 2 (.int .i64 (wrap64 (d4 - 1)))).block k hlt (by omega))).in_ (Nat.le_succ _)) (HRQ.out.2 _) (HA5.out.map (fun _ => Ps.mkO acc'))
         refine bodyPost_ret (results_row1 (l := [_, _, _, _, _, _, _, _]) rfl _ _ _ rfl hfin.1 Tryz.underlying31 rfl (by kernel_rfl)) rfl ?_
         rw [HRQ.out.1]
         exact hfin.2

end Go.Proofs.YtolkfgikomminaaGreatDoor

namespace Go.Proofs.YtolkfgikomminaaGreatDoor
open Go.RowKit Js

theorem object_ok {rb : Nat} {s : ByteArray} {a : Nat} {c : UInt8} {u : List UInt8} {d : Nat} {w : World} (f : Nat) (HVC : ∀ f', f' ≤ f → VC f') (h : Rd w rb s a (c :: u) d) (hs0 : s.size ≤ 100000) (hdl : d ≤ 32) (hf : 3 * u.length + 3 ≤ f + 1) :
  Calls Tryz.prog 42 #[.pointer (some ⟨rb, 0, none⟩)] w (VPost rb s d (Ps.obj (f + 1) d u) w) := by
 have hs : s.size ≤ 1000000 := by omega
 by_cases h32 : d = 32
 ·subst h32; exact object_deep h hs f
 ·by_cases h93 : (Ps.skip u).head? = some 125
  ·exact object_empty h hs (by omega) h93 f
  ·exact object_more f HVC h hs0 (by omega) h93 hf

theorem trail_eq {r : Ps.R Vl} {v : Vl} (h : ∀ v0 u, r = .ok v0 u → v = v0) : ∀ v0 u, r.trail = .ok v0 u → v = v0 := by
 cases r with
 | ok x t => intro v0 u e; injection e with e1 e2; rw [← e1]; exact h x t rfl
 | bad c l => intro v0 u e; cases e

theorem value_head (f d : Nat) (t : List UInt8) : Ps.value (f + 1) d t = Ps.R.trail (match Ps.skip t with
  | [] => .bad 1 0
  | c :: u => if c = 123 then Ps.obj f d u else if c = 91 then Ps.arr f d u else Ps.single c u) := by
 rw [Ps.value]
 cases Ps.skip t <;> rfl

end Go.Proofs.YtolkfgikomminaaGreatDoor

namespace Go.Proofs.YtolkfgikomminaaGreatDoor
open Go.RowKit Js

theorem leaf_in (c : Cl) (k : Int) (b : Bool) (n : Nm.Num) (s : List UInt8) : (Vl.mk k b n s [] []).In c (vlV k b n.neg n.digits n.exp s (.slice none 0 0) (.slice none 0 0)) := by
 simp only [Vl.In]
 exact ⟨none, 0, none, 0, rfl, Nat.le_refl _, by simp [maxLen], Nat.le_refl _, by simp [maxLen], fun h => absurd h (by simp), fun h => absurd h (by simp)⟩
theorem Sole.set8 {rb : Nat} {w w' : World} (h : Sole rb w w') {g : Nat} (hg : w.heap.size ≤ g) (v0 v1 v2 v3 v4 v5 v6 v7 : Value) : Sole rb w (Go.Proofs.YtolkfgikomminaaGreatDoor.set8 w' g v0 v1 v2 v3 v4 v5 v6 v7) :=
 (((((((h.setNew hg 0 v0).setNew hg 1 v1).setNew hg 2 v2).setNew hg 3 v3).setNew hg 4 v4).setNew hg 5 v5).setNew hg 6 v6).setNew hg 7 v7
theorem in_set8 {w : World} {B g : Nat} {v : Vl} {x : Value} (h : v.In (w.on (B ≤ ·)) x) (hg : g < B) {B' : Nat} (hB : B' ≤ B) (v0 v1 v2 v3 v4 v5 v6 v7 : Value) : v.In ((Go.Proofs.YtolkfgikomminaaGreatDoor.set8 w g v0 v1 v2 v3 v4 v5 v6 v7).on (B' ≤ ·)) x :=
 In.keep (fun p u hp => by
  obtain ⟨h1, h2⟩ := on_some.1 hp
  exact on_some.2 ⟨by omega, by rw [World.cell?_of_block (w := w) (heap_set8 _ _ _ (by omega) _ _ _ _ _ _ _ _)]; exact h2⟩) _ _ h

set_option linter.unusedSimpArgs false in
set_option linter.unusedVariables false in
set_option maxRecDepth 100000 in
set_option maxHeartbeats 4000000 in
theorem value_obj {rb : Nat} {s : ByteArray} {a : Nat} {t : List UInt8} {d : Nat} {w : World} (h : Rd w rb s a t d) (hs0 : s.size ≤ 100000) (hdl : d ≤ 32) {u : List UInt8} (hsk : Ps.skip t = 123 :: u) (f : Nat) (HVC : ∀ f', f' < f → VC f') (hf : 3 * u.length + 3 ≤ f) :
  Calls Tryz.prog 19 #[.pointer (some ⟨rb, 0, none⟩)] w (VPost rb s d (Ps.value (f + 1) d t) w) := by
 have hs : s.size ≤ 1000000 := by omega
 have hrb := h.lt
 have HBk := Lib.hid (blank_ok (h.on (valW_below w)) (show s.size ≤ 1000000000000 by omega))
 have HZ := Lib.hid ((Blk.new w 31 zero8).alloc (.cells zero8 31))
 have HV := Lib.hid (Blk.new2 w (.cells zero8 31) 31 zero8)
 have HB := Lib.hid (valW_below w)
 have HSK := Lib.hid hsk
 have HRQ := Lib.hid (show Ps.value (f + 1) d t = Ps.R.trail (Ps.obj f d u) from by rw [value_head, hsk]; simp)
 clear h hsk
 go_enter Tryz.func19, Tryz.ntmps19
 go_wp2_with fail
 refine HBk.out.mono ?_
 rintro e w2 ⟨rfl, ⟨a2, hR2⟩, hS2⟩
 rw [HSK.out] at hR2
 have HP := Lib.hid (peek_ok hR2 (show s.size ≤ 1000000000000 by omega))
 have HR2 := Lib.hid hR2
 have HS2 := Lib.hid ((Sole.of_below HB.out).trans hS2)
 have HZ2 := Lib.hid (hS2.blk HZ.out (by omega))
 have HV2 := Lib.hid (hS2.blk HV.out (by omega))
 clear hR2 hS2
 simp only [hd] at HP
 go_wp2_with fail
 refine HP.out.mono ?_
 rintro e w3 ⟨rfl, n, rfl⟩
 have HR3 := Lib.hid (HR2.out.drewN n)
 have HS3 := Lib.hid (HS2.out.drewN n)
 have HZ3 := Lib.hid (show Blk (w2.drewN n) w.heap.size 31 zero8 from HZ2.out)
 have HV3 := Lib.hid (show Blk (w2.drewN n) (w.heap.size + 1) 31 zero8 from HV2.out)
 clear HR2 HS2 HZ2 HV2 HP
 generalize w2.drewN n = w3 at *
 have hl3 := HV3.out.lt
 obtain ⟨f0, rfl⟩ : ∃ f0, f = f0 + 1 := ⟨f - 1, by omega⟩
 have HC := Lib.hid (object_ok f0 (fun f' h => HVC f' (by omega)) HR3.out hs0 hdl hf)
 clear HVC
 go_wp2_with fail
 refine HC.out.mono ?_
 rintro e w4 ⟨v, x, rfl, hin, hS4, hv4, hA4⟩
 obtain ⟨k1, b1, n1, g1, x1, s1, A1, l1, p1, B1, m1, d1, rfl⟩ := In.cells hin
 have HZ4 := Lib.hid (hS4.blk HZ3.out (by omega))
 have HV4 := Lib.hid (hS4.blk HV3.out (by omega))
 have HS4 := Lib.hid (HS3.out.trans hS4)
 have HIN4 := Lib.hid hin
 have HVQ := Lib.hid hv4
 have HA4 := Lib.hid hA4
 have hl4 := HV4.out.lt
 have vf := HV4.out.frozen
 obtain ⟨v0, v1, v2, v3, v4, v5, v6, v7⟩ := HV4.out.eight
 clear hin hS4 hv4 hA4
 go_wp2_with fail
 clear v0 v1 v2 v3 v4 v5 v6 v7
 refine (blank_any (HA4.out.far (heap_set8 _ _ _ (show rb ≠ w.heap.size + 1 by omega) (.int .i64 k1) (.bool b1) (.bool n1) (.string ⟨g1.toArray⟩) (.int .i64 x1) (.string ⟨s1.toArray⟩) (.slice A1 l1 p1) (.slice B1 m1 d1))) (show s.size ≤ 1000000000000 by omega)).mono ?_
 rintro e w8 ⟨rfl, hA8, hS8⟩
 have HS8 := Lib.hid (Sole.trans (HS4.out.set8 (show w.heap.size ≤ w.heap.size + 1 by omega) (.int .i64 k1) (.bool b1) (.bool n1) (.string ⟨g1.toArray⟩) (.int .i64 x1) (.string ⟨s1.toArray⟩) (.slice A1 l1 p1) (.slice B1 m1 d1)) hS8)
 have HZ8 := Lib.hid (hS8.blk (show Blk (set8 w4 (w.heap.size + 1) (.int .i64 k1) (.bool b1) (.bool n1) (.string ⟨g1.toArray⟩) (.int .i64 x1) (.string ⟨s1.toArray⟩) (.slice A1 l1 p1) (.slice B1 m1 d1)) w.heap.size 31 zero8 from (heap_set8 _ _ _ (by omega) (.int .i64 k1) (.bool b1) (.bool n1) (.string ⟨g1.toArray⟩) (.int .i64 x1) (.string ⟨s1.toArray⟩) (.slice A1 l1 p1) (.slice B1 m1 d1)).trans HZ4.out) (by omega))
 have HV8 := Lib.hid (hS8.blk (HV4.out.set8 (.int .i64 k1) (.bool b1) (.bool n1) (.string ⟨g1.toArray⟩) (.int .i64 x1) (.string ⟨s1.toArray⟩) (.slice A1 l1 p1) (.slice B1 m1 d1)) (by omega))
 have HIN8 := Lib.hid (In.keep (hS8.le (B := w.heap.size + 1) (by omega)) _ _ (in_set8 HIN4.out (show w.heap.size + 1 < w3.heap.size by omega) (by omega) (.int .i64 k1) (.bool b1) (.bool n1) (.string ⟨g1.toArray⟩) (.int .i64 x1) (.string ⟨s1.toArray⟩) (.slice A1 l1 p1) (.slice B1 m1 d1)))
 have HA8 := Lib.hid hA8
 clear hA8 hS8
 obtain ⟨z0, z1, z2, z3, z4, z5, z6, z7⟩ := HZ8.out.eight
 obtain ⟨v0, v1, v2, v3, v4, v5, v6, v7⟩ := HV8.out.eight
 have zf := HZ8.out.frozen
 go_wp2_with fail
 have hfin := read_fin (v := v) (d := d) hrb HS8.out HZ8.out HIN8.out (trail_eq HVQ.out) HA8.out
 refine bodyPost_ret (results_row1 (l := [_, _, _, _, _, _, _, _]) rfl _ _ _ rfl hfin.1 Tryz.underlying31 rfl (by kernel_rfl)) rfl ?_
 rw [HRQ.out]
 exact hfin.2

set_option linter.unusedSimpArgs false in
set_option linter.unusedVariables false in
set_option maxRecDepth 100000 in
set_option maxHeartbeats 4000000 in
theorem value_arr {rb : Nat} {s : ByteArray} {a : Nat} {t : List UInt8} {d : Nat} {w : World} (h : Rd w rb s a t d) (hs0 : s.size ≤ 100000) (hdl : d ≤ 32) {u : List UInt8} (hsk : Ps.skip t = 91 :: u) (f : Nat) (HVC : ∀ f', f' < f → VC f') (hf : 3 * u.length + 3 ≤ f) :
  Calls Tryz.prog 19 #[.pointer (some ⟨rb, 0, none⟩)] w (VPost rb s d (Ps.value (f + 1) d t) w) := by
 have hs : s.size ≤ 1000000 := by omega
 have hrb := h.lt
 have HBk := Lib.hid (blank_ok (h.on (valW_below w)) (show s.size ≤ 1000000000000 by omega))
 have HZ := Lib.hid ((Blk.new w 31 zero8).alloc (.cells zero8 31))
 have HV := Lib.hid (Blk.new2 w (.cells zero8 31) 31 zero8)
 have HB := Lib.hid (valW_below w)
 have HSK := Lib.hid hsk
 have HRQ := Lib.hid (show Ps.value (f + 1) d t = Ps.R.trail (Ps.arr f d u) from by rw [value_head, hsk]; simp)
 clear h hsk
 go_enter Tryz.func19, Tryz.ntmps19
 go_wp2_with fail
 refine HBk.out.mono ?_
 rintro e w2 ⟨rfl, ⟨a2, hR2⟩, hS2⟩
 rw [HSK.out] at hR2
 have HP := Lib.hid (peek_ok hR2 (show s.size ≤ 1000000000000 by omega))
 have HR2 := Lib.hid hR2
 have HS2 := Lib.hid ((Sole.of_below HB.out).trans hS2)
 have HZ2 := Lib.hid (hS2.blk HZ.out (by omega))
 have HV2 := Lib.hid (hS2.blk HV.out (by omega))
 clear hR2 hS2
 simp only [hd] at HP
 go_wp2_with fail
 refine HP.out.mono ?_
 rintro e w3 ⟨rfl, n, rfl⟩
 have HR3 := Lib.hid (HR2.out.drewN n)
 have HS3 := Lib.hid (HS2.out.drewN n)
 have HZ3 := Lib.hid (show Blk (w2.drewN n) w.heap.size 31 zero8 from HZ2.out)
 have HV3 := Lib.hid (show Blk (w2.drewN n) (w.heap.size + 1) 31 zero8 from HV2.out)
 clear HR2 HS2 HZ2 HV2 HP
 generalize w2.drewN n = w3 at *
 have hl3 := HV3.out.lt
 obtain ⟨f0, rfl⟩ : ∃ f0, f = f0 + 1 := ⟨f - 1, by omega⟩
 have HC := Lib.hid (array_ok f0 (fun f' h => HVC f' (by omega)) HR3.out hs0 hdl hf)
 clear HVC
 go_wp2_with fail
 refine HC.out.mono ?_
 rintro e w4 ⟨v, x, rfl, hin, hS4, hv4, hA4⟩
 obtain ⟨k1, b1, n1, g1, x1, s1, A1, l1, p1, B1, m1, d1, rfl⟩ := In.cells hin
 have HZ4 := Lib.hid (hS4.blk HZ3.out (by omega))
 have HV4 := Lib.hid (hS4.blk HV3.out (by omega))
 have HS4 := Lib.hid (HS3.out.trans hS4)
 have HIN4 := Lib.hid hin
 have HVQ := Lib.hid hv4
 have HA4 := Lib.hid hA4
 have hl4 := HV4.out.lt
 have vf := HV4.out.frozen
 obtain ⟨v0, v1, v2, v3, v4, v5, v6, v7⟩ := HV4.out.eight
 clear hin hS4 hv4 hA4
 go_wp2_with fail
 clear v0 v1 v2 v3 v4 v5 v6 v7
 refine (blank_any (HA4.out.far (heap_set8 _ _ _ (show rb ≠ w.heap.size + 1 by omega) (.int .i64 k1) (.bool b1) (.bool n1) (.string ⟨g1.toArray⟩) (.int .i64 x1) (.string ⟨s1.toArray⟩) (.slice A1 l1 p1) (.slice B1 m1 d1))) (show s.size ≤ 1000000000000 by omega)).mono ?_
 rintro e w8 ⟨rfl, hA8, hS8⟩
 have HS8 := Lib.hid (Sole.trans (HS4.out.set8 (show w.heap.size ≤ w.heap.size + 1 by omega) (.int .i64 k1) (.bool b1) (.bool n1) (.string ⟨g1.toArray⟩) (.int .i64 x1) (.string ⟨s1.toArray⟩) (.slice A1 l1 p1) (.slice B1 m1 d1)) hS8)
 have HZ8 := Lib.hid (hS8.blk (show Blk (set8 w4 (w.heap.size + 1) (.int .i64 k1) (.bool b1) (.bool n1) (.string ⟨g1.toArray⟩) (.int .i64 x1) (.string ⟨s1.toArray⟩) (.slice A1 l1 p1) (.slice B1 m1 d1)) w.heap.size 31 zero8 from (heap_set8 _ _ _ (by omega) (.int .i64 k1) (.bool b1) (.bool n1) (.string ⟨g1.toArray⟩) (.int .i64 x1) (.string ⟨s1.toArray⟩) (.slice A1 l1 p1) (.slice B1 m1 d1)).trans HZ4.out) (by omega))
 have HV8 := Lib.hid (hS8.blk (HV4.out.set8 (.int .i64 k1) (.bool b1) (.bool n1) (.string ⟨g1.toArray⟩) (.int .i64 x1) (.string ⟨s1.toArray⟩) (.slice A1 l1 p1) (.slice B1 m1 d1)) (by omega))
 have HIN8 := Lib.hid (In.keep (hS8.le (B := w.heap.size + 1) (by omega)) _ _ (in_set8 HIN4.out (show w.heap.size + 1 < w3.heap.size by omega) (by omega) (.int .i64 k1) (.bool b1) (.bool n1) (.string ⟨g1.toArray⟩) (.int .i64 x1) (.string ⟨s1.toArray⟩) (.slice A1 l1 p1) (.slice B1 m1 d1)))
 have HA8 := Lib.hid hA8
 clear hA8 hS8
 obtain ⟨z0, z1, z2, z3, z4, z5, z6, z7⟩ := HZ8.out.eight
 obtain ⟨v0, v1, v2, v3, v4, v5, v6, v7⟩ := HV8.out.eight
 have zf := HZ8.out.frozen
 go_wp2_with fail
 have hfin := read_fin (v := v) (d := d) hrb HS8.out HZ8.out HIN8.out (trail_eq HVQ.out) HA8.out
 refine bodyPost_ret (results_row1 (l := [_, _, _, _, _, _, _, _]) rfl _ _ _ rfl hfin.1 Tryz.underlying31 rfl (by kernel_rfl)) rfl ?_
 rw [HRQ.out]
 exact hfin.2

set_option linter.unusedSimpArgs false in
set_option linter.unusedVariables false in
set_option maxRecDepth 100000 in
set_option maxHeartbeats 4000000 in
theorem value_str {rb : Nat} {s : ByteArray} {a : Nat} {t : List UInt8} {d : Nat} {w : World} (h : Rd w rb s a t d) (hs0 : s.size ≤ 100000) (hdl : d ≤ 32) {u : List UInt8} (hsk : Ps.skip t = 34 :: u) (f : Nat) :
  Calls Tryz.prog 19 #[.pointer (some ⟨rb, 0, none⟩)] w (VPost rb s d (Ps.value (f + 1) d t) w) := by
 have hs : s.size ≤ 1000000 := by omega
 have hrb := h.lt
 have HBk := Lib.hid (blank_ok (h.on (valW_below w)) (show s.size ≤ 1000000000000 by omega))
 have HZ := Lib.hid ((Blk.new w 31 zero8).alloc (.cells zero8 31))
 have HV := Lib.hid (Blk.new2 w (.cells zero8 31) 31 zero8)
 have HB := Lib.hid (valW_below w)
 have HSK := Lib.hid hsk
 have HRQ := Lib.hid (show Ps.value (f + 1) d t = Ps.R.trail ((Ps.qtext (34 :: u)).map Ps.mkS) from by rw [value_head, hsk]; simp [Ps.single])
 clear h hsk
 go_enter Tryz.func19, Tryz.ntmps19
 go_wp2_with fail
 refine HBk.out.mono ?_
 rintro e w2 ⟨rfl, ⟨a2, hR2⟩, hS2⟩
 rw [HSK.out] at hR2
 have HP := Lib.hid (peek_ok hR2 (show s.size ≤ 1000000000000 by omega))
 have HR2 := Lib.hid hR2
 have HS2 := Lib.hid ((Sole.of_below HB.out).trans hS2)
 have HZ2 := Lib.hid (hS2.blk HZ.out (by omega))
 have HV2 := Lib.hid (hS2.blk HV.out (by omega))
 clear hR2 hS2
 simp only [hd] at HP
 go_wp2_with fail
 refine HP.out.mono ?_
 rintro e w3 ⟨rfl, n, rfl⟩
 have HR3 := Lib.hid (HR2.out.drewN n)
 have HS3 := Lib.hid (HS2.out.drewN n)
 have HZ3 := Lib.hid (show Blk (w2.drewN n) w.heap.size 31 zero8 from HZ2.out)
 have HV3 := Lib.hid (show Blk (w2.drewN n) (w.heap.size + 1) 31 zero8 from HV2.out)
 clear HR2 HS2 HZ2 HV2 HP
 generalize w2.drewN n = w3 at *
 have hl3 := HV3.out.lt
 have HT := Lib.hid (text_ok HR3.out hs)
 go_wp2_with fail
 refine HT.out.mono ?_
 rintro e w4 ⟨o, rfl, ho, hA4, hS4⟩
 have HVQ := Lib.hid (show ∀ v0 u', (Ps.qtext (34 :: u)).map Ps.mkS = .ok v0 u' → Ps.mkS o = v0 from by
  intro v0 u' e
  cases hq : Ps.qtext (34 :: u) with
  | ok k t2 => rw [hq] at e; injection e with e1 e2; rw [← e1, ho k t2 hq]
  | bad c l => rw [hq] at e; cases e)
 clear ho
 have HZ4 := Lib.hid (hS4.blk HZ3.out (by omega))
 have HV4 := Lib.hid (hS4.blk HV3.out (by omega))
 have HS4 := Lib.hid (HS3.out.trans hS4)
 have HA4 := Lib.hid hA4
 have hl4 := HV4.out.lt
 have vf := HV4.out.frozen
 obtain ⟨v0, v1, v2, v3, v4, v5, v6, v7⟩ := HV4.out.eight
 clear hS4 hA4
 go_wp2_with fail
 clear v0 v1 v2 v3 v4 v5 v6 v7
 refine (blank_any ((HA4.out.far (heap_set8 _ _ _ (show rb ≠ w.heap.size + 1 by omega) (.int .i64 3) (.bool false) (.bool false) (.string ⟨#[]⟩) (.int .i64 0) (.string ⟨o.toArray⟩) (.slice none 0 0) (.slice none 0 0))).map Ps.mkS) (show s.size ≤ 1000000000000 by omega)).mono ?_
 rintro e w8 ⟨rfl, hA8, hS8⟩
 have HS8 := Lib.hid (Sole.trans (HS4.out.set8 (show w.heap.size ≤ w.heap.size + 1 by omega) (.int .i64 3) (.bool false) (.bool false) (.string ⟨#[]⟩) (.int .i64 0) (.string ⟨o.toArray⟩) (.slice none 0 0) (.slice none 0 0)) hS8)
 have HZ8 := Lib.hid (hS8.blk (show Blk (set8 w4 (w.heap.size + 1) (.int .i64 3) (.bool false) (.bool false) (.string ⟨#[]⟩) (.int .i64 0) (.string ⟨o.toArray⟩) (.slice none 0 0) (.slice none 0 0)) w.heap.size 31 zero8 from (heap_set8 _ _ _ (by omega) (.int .i64 3) (.bool false) (.bool false) (.string ⟨#[]⟩) (.int .i64 0) (.string ⟨o.toArray⟩) (.slice none 0 0) (.slice none 0 0)).trans HZ4.out) (by omega))
 have HV8 := Lib.hid (hS8.blk (HV4.out.set8 (.int .i64 3) (.bool false) (.bool false) (.string ⟨#[]⟩) (.int .i64 0) (.string ⟨o.toArray⟩) (.slice none 0 0) (.slice none 0 0)) (by omega))
 have HIN8 := Lib.hid (In.keep (hS8.le (B := w.heap.size + 1) (by omega)) _ _ (leaf_in _ 3 false Nm.Num.zero o))
 have HA8 := Lib.hid hA8
 clear hA8 hS8
 obtain ⟨z0, z1, z2, z3, z4, z5, z6, z7⟩ := HZ8.out.eight
 obtain ⟨v0, v1, v2, v3, v4, v5, v6, v7⟩ := HV8.out.eight
 have zf := HZ8.out.frozen
 go_wp2_with fail
 have hfin := read_fin (v := Ps.mkS o) (d := d) hrb HS8.out HZ8.out HIN8.out (trail_eq HVQ.out) HA8.out
 refine bodyPost_ret (results_row1 (l := [_, _, _, _, _, _, _, _]) rfl _ _ _ rfl hfin.1 Tryz.underlying31 rfl (by kernel_rfl)) rfl ?_
 rw [HRQ.out]
 exact hfin.2

set_option linter.unusedSimpArgs false in
set_option linter.unusedVariables false in
set_option maxRecDepth 100000 in
set_option maxHeartbeats 4000000 in
theorem value_null {rb : Nat} {s : ByteArray} {a : Nat} {t : List UInt8} {d : Nat} {w : World} (h : Rd w rb s a t d) (hs0 : s.size ≤ 100000) (hdl : d ≤ 32) {u : List UInt8} (hsk : Ps.skip t = 110 :: u) (f : Nat) :
  Calls Tryz.prog 19 #[.pointer (some ⟨rb, 0, none⟩)] w (VPost rb s d (Ps.value (f + 1) d t) w) := by
 have hs : s.size ≤ 1000000 := by omega
 have hrb := h.lt
 have HBk := Lib.hid (blank_ok (h.on (valW_below w)) (show s.size ≤ 1000000000000 by omega))
 have HZ := Lib.hid ((Blk.new w 31 zero8).alloc (.cells zero8 31))
 have HV := Lib.hid (Blk.new2 w (.cells zero8 31) 31 zero8)
 have HB := Lib.hid (valW_below w)
 have HSK := Lib.hid hsk
 have HRQ := Lib.hid (show Ps.value (f + 1) d t = Ps.R.trail ((Ps.lit [110, 117, 108, 108] (110 :: u)).map fun _ => Ps.mkN) from by rw [value_head, hsk]; simp [Ps.single])
 clear h hsk
 go_enter Tryz.func19, Tryz.ntmps19
 go_wp2_with fail
 refine HBk.out.mono ?_
 rintro e w2 ⟨rfl, ⟨a2, hR2⟩, hS2⟩
 rw [HSK.out] at hR2
 have HP := Lib.hid (peek_ok hR2 (show s.size ≤ 1000000000000 by omega))
 have HR2 := Lib.hid hR2
 have HS2 := Lib.hid ((Sole.of_below HB.out).trans hS2)
 have HZ2 := Lib.hid (hS2.blk HZ.out (by omega))
 have HV2 := Lib.hid (hS2.blk HV.out (by omega))
 clear hR2 hS2
 simp only [hd] at HP
 go_wp2_with fail
 refine HP.out.mono ?_
 rintro e w3 ⟨rfl, n, rfl⟩
 have HR3 := Lib.hid (HR2.out.drewN n)
 have HS3 := Lib.hid (HS2.out.drewN n)
 have HZ3 := Lib.hid (show Blk (w2.drewN n) w.heap.size 31 zero8 from HZ2.out)
 have HV3 := Lib.hid (show Blk (w2.drewN n) (w.heap.size + 1) 31 zero8 from HV2.out)
 clear HR2 HS2 HZ2 HV2 HP
 generalize w2.drewN n = w3 at *
 have hl3 := HV3.out.lt
 have HT := Lib.hid (want_ok HR3.out (show s.size ≤ 1000000000000 by omega) ⟨#[110, 117, 108, 108]⟩ (by decide))
 go_wp2_with fail
 refine HT.out.mono ?_
 rintro e w4 ⟨rfl, hA4, hS4⟩
 have HZ4 := Lib.hid (hS4.blk HZ3.out (by omega))
 have HV4 := Lib.hid (hS4.blk HV3.out (by omega))
 have HS4 := Lib.hid (HS3.out.trans hS4)
 have HA4 := Lib.hid hA4
 have hl4 := HV4.out.lt
 have vf := HV4.out.frozen
 obtain ⟨v0, v1, v2, v3, v4, v5, v6, v7⟩ := HV4.out.eight
 clear hS4 hA4
 go_wp2_with fail
 clear v0 v1 v2 v3 v4 v5 v6 v7
 refine (blank_any (HA4.out.map (fun _ => Ps.mkN)) (show s.size ≤ 1000000000000 by omega)).mono ?_
 rintro e w8 ⟨rfl, hA8, hS8⟩
 have HS8 := Lib.hid (Sole.trans HS4.out hS8)
 have HZ8 := Lib.hid (hS8.blk HZ4.out (by omega))
 have HV8 := Lib.hid (hS8.blk HV4.out (by omega))
 have HIN8 := Lib.hid (In.keep (hS8.le (B := w.heap.size + 1) (by omega)) _ _ (leaf_in _ 0 false Nm.Num.zero []))
 have HA8 := Lib.hid hA8
 clear hA8 hS8
 obtain ⟨z0, z1, z2, z3, z4, z5, z6, z7⟩ := HZ8.out.eight
 obtain ⟨v0, v1, v2, v3, v4, v5, v6, v7⟩ := HV8.out.eight
 have zf := HZ8.out.frozen
 go_wp2_with fail
 have hfin := read_fin (v := Ps.mkN) (d := d) hrb HS8.out HZ8.out HIN8.out (trail_eq (map_ok _ _)) HA8.out
 refine bodyPost_ret (results_row1 (l := [_, _, _, _, _, _, _, _]) rfl _ _ _ rfl hfin.1 Tryz.underlying31 rfl (by kernel_rfl)) rfl ?_
 rw [HRQ.out]
 exact hfin.2

set_option linter.unusedSimpArgs false in
set_option linter.unusedVariables false in
set_option maxRecDepth 100000 in
set_option maxHeartbeats 4000000 in
theorem value_true {rb : Nat} {s : ByteArray} {a : Nat} {t : List UInt8} {d : Nat} {w : World} (h : Rd w rb s a t d) (hs0 : s.size ≤ 100000) (hdl : d ≤ 32) {u : List UInt8} (hsk : Ps.skip t = 116 :: u) (f : Nat) :
  Calls Tryz.prog 19 #[.pointer (some ⟨rb, 0, none⟩)] w (VPost rb s d (Ps.value (f + 1) d t) w) := by
 have hs : s.size ≤ 1000000 := by omega
 have hrb := h.lt
 have HBk := Lib.hid (blank_ok (h.on (valW_below w)) (show s.size ≤ 1000000000000 by omega))
 have HZ := Lib.hid ((Blk.new w 31 zero8).alloc (.cells zero8 31))
 have HV := Lib.hid (Blk.new2 w (.cells zero8 31) 31 zero8)
 have HB := Lib.hid (valW_below w)
 have HSK := Lib.hid hsk
 have HRQ := Lib.hid (show Ps.value (f + 1) d t = Ps.R.trail ((Ps.lit [116, 114, 117, 101] (116 :: u)).map fun _ => (Ps.mkB true)) from by rw [value_head, hsk]; simp [Ps.single])
 clear h hsk
 go_enter Tryz.func19, Tryz.ntmps19
 go_wp2_with fail
 refine HBk.out.mono ?_
 rintro e w2 ⟨rfl, ⟨a2, hR2⟩, hS2⟩
 rw [HSK.out] at hR2
 have HP := Lib.hid (peek_ok hR2 (show s.size ≤ 1000000000000 by omega))
 have HR2 := Lib.hid hR2
 have HS2 := Lib.hid ((Sole.of_below HB.out).trans hS2)
 have HZ2 := Lib.hid (hS2.blk HZ.out (by omega))
 have HV2 := Lib.hid (hS2.blk HV.out (by omega))
 clear hR2 hS2
 simp only [hd] at HP
 go_wp2_with fail
 refine HP.out.mono ?_
 rintro e w3 ⟨rfl, n, rfl⟩
 have HR3 := Lib.hid (HR2.out.drewN n)
 have HS3 := Lib.hid (HS2.out.drewN n)
 have HZ3 := Lib.hid (show Blk (w2.drewN n) w.heap.size 31 zero8 from HZ2.out)
 have HV3 := Lib.hid (show Blk (w2.drewN n) (w.heap.size + 1) 31 zero8 from HV2.out)
 clear HR2 HS2 HZ2 HV2 HP
 generalize w2.drewN n = w3 at *
 have hl3 := HV3.out.lt
 have HT := Lib.hid (want_ok HR3.out (show s.size ≤ 1000000000000 by omega) ⟨#[116, 114, 117, 101]⟩ (by decide))
 go_wp2_with fail
 refine HT.out.mono ?_
 rintro e w4 ⟨rfl, hA4, hS4⟩
 have HZ4 := Lib.hid (hS4.blk HZ3.out (by omega))
 have HV4 := Lib.hid (hS4.blk HV3.out (by omega))
 have HS4 := Lib.hid (HS3.out.trans hS4)
 have HA4 := Lib.hid hA4
 have hl4 := HV4.out.lt
 have vf := HV4.out.frozen
 obtain ⟨v0, v1, v2, v3, v4, v5, v6, v7⟩ := HV4.out.eight
 clear hS4 hA4
 go_wp2_with fail
 clear v0 v1 v2 v3 v4 v5 v6 v7
 refine (blank_any ((HA4.out.far (heap_set8 _ _ _ (show rb ≠ w.heap.size + 1 by omega) (.int .i64 1) (.bool true) (.bool false) (.string ⟨#[]⟩) (.int .i64 0) (.string ⟨#[]⟩) (.slice none 0 0) (.slice none 0 0))).map (fun _ => (Ps.mkB true))) (show s.size ≤ 1000000000000 by omega)).mono ?_
 rintro e w8 ⟨rfl, hA8, hS8⟩
 have HS8 := Lib.hid (Sole.trans (HS4.out.set8 (show w.heap.size ≤ w.heap.size + 1 by omega) (.int .i64 1) (.bool true) (.bool false) (.string ⟨#[]⟩) (.int .i64 0) (.string ⟨#[]⟩) (.slice none 0 0) (.slice none 0 0)) hS8)
 have HZ8 := Lib.hid (hS8.blk (show Blk (set8 w4 (w.heap.size + 1) (.int .i64 1) (.bool true) (.bool false) (.string ⟨#[]⟩) (.int .i64 0) (.string ⟨#[]⟩) (.slice none 0 0) (.slice none 0 0)) w.heap.size 31 zero8 from (heap_set8 _ _ _ (by omega) (.int .i64 1) (.bool true) (.bool false) (.string ⟨#[]⟩) (.int .i64 0) (.string ⟨#[]⟩) (.slice none 0 0) (.slice none 0 0)).trans HZ4.out) (by omega))
 have HV8 := Lib.hid (hS8.blk (HV4.out.set8 (.int .i64 1) (.bool true) (.bool false) (.string ⟨#[]⟩) (.int .i64 0) (.string ⟨#[]⟩) (.slice none 0 0) (.slice none 0 0)) (by omega))
 have HIN8 := Lib.hid (In.keep (hS8.le (B := w.heap.size + 1) (by omega)) _ _ (leaf_in _ 1 true Nm.Num.zero []))
 have HA8 := Lib.hid hA8
 clear hA8 hS8
 obtain ⟨z0, z1, z2, z3, z4, z5, z6, z7⟩ := HZ8.out.eight
 obtain ⟨v0, v1, v2, v3, v4, v5, v6, v7⟩ := HV8.out.eight
 have zf := HZ8.out.frozen
 go_wp2_with fail
 have hfin := read_fin (v := (Ps.mkB true)) (d := d) hrb HS8.out HZ8.out HIN8.out (trail_eq (map_ok _ _)) HA8.out
 refine bodyPost_ret (results_row1 (l := [_, _, _, _, _, _, _, _]) rfl _ _ _ rfl hfin.1 Tryz.underlying31 rfl (by kernel_rfl)) rfl ?_
 rw [HRQ.out]
 exact hfin.2

set_option linter.unusedSimpArgs false in
set_option linter.unusedVariables false in
set_option maxRecDepth 100000 in
set_option maxHeartbeats 4000000 in
theorem value_false {rb : Nat} {s : ByteArray} {a : Nat} {t : List UInt8} {d : Nat} {w : World} (h : Rd w rb s a t d) (hs0 : s.size ≤ 100000) (hdl : d ≤ 32) {u : List UInt8} (hsk : Ps.skip t = 102 :: u) (f : Nat) :
  Calls Tryz.prog 19 #[.pointer (some ⟨rb, 0, none⟩)] w (VPost rb s d (Ps.value (f + 1) d t) w) := by
 have hs : s.size ≤ 1000000 := by omega
 have hrb := h.lt
 have HBk := Lib.hid (blank_ok (h.on (valW_below w)) (show s.size ≤ 1000000000000 by omega))
 have HZ := Lib.hid ((Blk.new w 31 zero8).alloc (.cells zero8 31))
 have HV := Lib.hid (Blk.new2 w (.cells zero8 31) 31 zero8)
 have HB := Lib.hid (valW_below w)
 have HSK := Lib.hid hsk
 have HRQ := Lib.hid (show Ps.value (f + 1) d t = Ps.R.trail ((Ps.lit [102, 97, 108, 115, 101] (102 :: u)).map fun _ => (Ps.mkB false)) from by rw [value_head, hsk]; simp [Ps.single])
 clear h hsk
 go_enter Tryz.func19, Tryz.ntmps19
 go_wp2_with fail
 refine HBk.out.mono ?_
 rintro e w2 ⟨rfl, ⟨a2, hR2⟩, hS2⟩
 rw [HSK.out] at hR2
 have HP := Lib.hid (peek_ok hR2 (show s.size ≤ 1000000000000 by omega))
 have HR2 := Lib.hid hR2
 have HS2 := Lib.hid ((Sole.of_below HB.out).trans hS2)
 have HZ2 := Lib.hid (hS2.blk HZ.out (by omega))
 have HV2 := Lib.hid (hS2.blk HV.out (by omega))
 clear hR2 hS2
 simp only [hd] at HP
 go_wp2_with fail
 refine HP.out.mono ?_
 rintro e w3 ⟨rfl, n, rfl⟩
 have HR3 := Lib.hid (HR2.out.drewN n)
 have HS3 := Lib.hid (HS2.out.drewN n)
 have HZ3 := Lib.hid (show Blk (w2.drewN n) w.heap.size 31 zero8 from HZ2.out)
 have HV3 := Lib.hid (show Blk (w2.drewN n) (w.heap.size + 1) 31 zero8 from HV2.out)
 clear HR2 HS2 HZ2 HV2 HP
 generalize w2.drewN n = w3 at *
 have hl3 := HV3.out.lt
 have HT := Lib.hid (want_ok HR3.out (show s.size ≤ 1000000000000 by omega) ⟨#[102, 97, 108, 115, 101]⟩ (by decide))
 go_wp2_with fail
 refine HT.out.mono ?_
 rintro e w4 ⟨rfl, hA4, hS4⟩
 have HZ4 := Lib.hid (hS4.blk HZ3.out (by omega))
 have HV4 := Lib.hid (hS4.blk HV3.out (by omega))
 have HS4 := Lib.hid (HS3.out.trans hS4)
 have HA4 := Lib.hid hA4
 have hl4 := HV4.out.lt
 have vf := HV4.out.frozen
 obtain ⟨v0, v1, v2, v3, v4, v5, v6, v7⟩ := HV4.out.eight
 clear hS4 hA4
 go_wp2_with fail
 clear v0 v1 v2 v3 v4 v5 v6 v7
 refine (blank_any ((HA4.out.far (heap_set8 _ _ _ (show rb ≠ w.heap.size + 1 by omega) (.int .i64 1) (.bool false) (.bool false) (.string ⟨#[]⟩) (.int .i64 0) (.string ⟨#[]⟩) (.slice none 0 0) (.slice none 0 0))).map (fun _ => (Ps.mkB false))) (show s.size ≤ 1000000000000 by omega)).mono ?_
 rintro e w8 ⟨rfl, hA8, hS8⟩
 have HS8 := Lib.hid (Sole.trans (HS4.out.set8 (show w.heap.size ≤ w.heap.size + 1 by omega) (.int .i64 1) (.bool false) (.bool false) (.string ⟨#[]⟩) (.int .i64 0) (.string ⟨#[]⟩) (.slice none 0 0) (.slice none 0 0)) hS8)
 have HZ8 := Lib.hid (hS8.blk (show Blk (set8 w4 (w.heap.size + 1) (.int .i64 1) (.bool false) (.bool false) (.string ⟨#[]⟩) (.int .i64 0) (.string ⟨#[]⟩) (.slice none 0 0) (.slice none 0 0)) w.heap.size 31 zero8 from (heap_set8 _ _ _ (by omega) (.int .i64 1) (.bool false) (.bool false) (.string ⟨#[]⟩) (.int .i64 0) (.string ⟨#[]⟩) (.slice none 0 0) (.slice none 0 0)).trans HZ4.out) (by omega))
 have HV8 := Lib.hid (hS8.blk (HV4.out.set8 (.int .i64 1) (.bool false) (.bool false) (.string ⟨#[]⟩) (.int .i64 0) (.string ⟨#[]⟩) (.slice none 0 0) (.slice none 0 0)) (by omega))
 have HIN8 := Lib.hid (In.keep (hS8.le (B := w.heap.size + 1) (by omega)) _ _ (leaf_in _ 1 false Nm.Num.zero []))
 have HA8 := Lib.hid hA8
 clear hA8 hS8
 obtain ⟨z0, z1, z2, z3, z4, z5, z6, z7⟩ := HZ8.out.eight
 obtain ⟨v0, v1, v2, v3, v4, v5, v6, v7⟩ := HV8.out.eight
 have zf := HZ8.out.frozen
 go_wp2_with fail
 have hfin := read_fin (v := (Ps.mkB false)) (d := d) hrb HS8.out HZ8.out HIN8.out (trail_eq (map_ok _ _)) HA8.out
 refine bodyPost_ret (results_row1 (l := [_, _, _, _, _, _, _, _]) rfl _ _ _ rfl hfin.1 Tryz.underlying31 rfl (by kernel_rfl)) rfl ?_
 rw [HRQ.out]
 exact hfin.2

set_option linter.unusedSimpArgs false in
set_option linter.unusedVariables false in
set_option maxRecDepth 100000 in
set_option maxHeartbeats 4000000 in
theorem value_none {rb : Nat} {s : ByteArray} {a : Nat} {t : List UInt8} {d : Nat} {w : World} {f : Nat} (h : Rd w rb s a t d) (hs0 : s.size ≤ 100000) (hdl : d ≤ 32) (hq : hd (Ps.skip t) ≠ 123 ∧ hd (Ps.skip t) ≠ 91 ∧ hd (Ps.skip t) ≠ 34 ∧ hd (Ps.skip t) ≠ 110 ∧ hd (Ps.skip t) ≠ 116 ∧ hd (Ps.skip t) ≠ 102 ∧ hd (Ps.skip t) ≠ 45 ∧ (hd (Ps.skip t) < 48 ∨ 57 < hd (Ps.skip t))) (hsk : Ps.value (f + 1) d t = Ps.R.trail (.bad 1 (Ps.skip t).length)) :
  Calls Tryz.prog 19 #[.pointer (some ⟨rb, 0, none⟩)] w (VPost rb s d (Ps.value (f + 1) d t) w) := by
 have hs : s.size ≤ 1000000 := by omega
 have hrb := h.lt
 have HBk := Lib.hid (blank_ok (h.on (valW_below w)) (show s.size ≤ 1000000000000 by omega))
 have HZ := Lib.hid ((Blk.new w 31 zero8).alloc (.cells zero8 31))
 have HV := Lib.hid (Blk.new2 w (.cells zero8 31) 31 zero8)
 have HB := Lib.hid (valW_below w)
 have HSK := Lib.hid hsk
 have HRQ := Lib.hid (show Ps.value (f + 1) d t = Ps.R.trail (.bad 1 (Ps.skip t).length) from by exact hsk)
 have HQ := Lib.hid hq
 clear h hsk hq
 go_enter Tryz.func19, Tryz.ntmps19
 go_wp2_with fail
 refine HBk.out.mono ?_
 rintro e w2 ⟨rfl, ⟨a2, hR2⟩, hS2⟩
 have HP := Lib.hid (peek_ok hR2 (show s.size ≤ 1000000000000 by omega))
 have HR2 := Lib.hid hR2
 have HS2 := Lib.hid ((Sole.of_below HB.out).trans hS2)
 have HZ2 := Lib.hid (hS2.blk HZ.out (by omega))
 have HV2 := Lib.hid (hS2.blk HV.out (by omega))
 clear hR2 hS2
 generalize hqq : hd (Ps.skip t) = q at HP HQ
 obtain ⟨q1, q2, q3, q4, q5, q6, q7, q8⟩ := HQ.out
 have t1 : (q == 123) = false := by simpa using q1
 have t2 : (q == 91) = false := by simpa using q2
 have t3 : (q == 34) = false := by simpa using q3
 have t4 : (q == 110) = false := by simpa using q4
 have t5 : (q == 116) = false := by simpa using q5
 have t6 : (q == 102) = false := by simpa using q6
 have t7 : (q == 45) = false := by simpa using q7
 have hal := HR2.out.2.1
 have HAL := Lib.hid hal
 clear hqq q1 q2 q3 q4 q5 q6 q7 hal
 go_wp2_with fail
 refine HP.out.mono ?_
 rintro e w3 ⟨rfl, n, rfl⟩
 have HR3 := Lib.hid (HR2.out.drewN n)
 have HS3 := Lib.hid (HS2.out.drewN n)
 have HZ3 := Lib.hid (show Blk (w2.drewN n) w.heap.size 31 zero8 from HZ2.out)
 have HV3 := Lib.hid (show Blk (w2.drewN n) (w.heap.size + 1) 31 zero8 from HV2.out)
 clear HR2 HS2 HZ2 HV2 HP
 generalize w2.drewN n = w3 at *
 have hl3 := HV3.out.lt
 obtain ⟨c0, c1, c2, c3, c4⟩ := HR3.out.1.five
 have HF := Lib.hid (fail_ok HR3.out a2 1 (Ps.skip t).length HAL.out (by omega))
 rcases q8 with q8 | q8
 all_goals
  go_wp2_with fail
  refine HF.out.mono ?_
  rintro e w4 ⟨rfl, hRB4, hS4⟩
  have hA4 : After rb s d w4 (Ps.R.bad (α := Vl) 1 (Ps.skip t).length) := hRB4
  clear hRB4 c0 c1 c2 c3 c4
  have HZ4 := Lib.hid (hS4.blk HZ3.out (by omega))
  have HV4 := Lib.hid (hS4.blk HV3.out (by omega))
  have HS4 := Lib.hid (HS3.out.trans hS4)
  have HA4 := Lib.hid hA4
  have hl4 := HV4.out.lt
  have vf := HV4.out.frozen
  obtain ⟨v0, v1, v2, v3, v4, v5, v6, v7⟩ := HV4.out.eight
  clear hS4 hA4
  go_wp2_with fail
  clear v0 v1 v2 v3 v4 v5 v6 v7
  refine (blank_any HA4.out (show s.size ≤ 1000000000000 by omega)).mono ?_
  rintro e w8 ⟨rfl, hA8, hS8⟩
  have HS8 := Lib.hid (Sole.trans HS4.out hS8)
  have HZ8 := Lib.hid (hS8.blk HZ4.out (by omega))
  have HV8 := Lib.hid (hS8.blk HV4.out (by omega))
  have HIN8 := Lib.hid (In.keep (hS8.le (B := w.heap.size + 1) (by omega)) _ _ (leaf_in _ 0 false Nm.Num.zero []))
  have HA8 := Lib.hid hA8
  clear hA8 hS8
  obtain ⟨z0, z1, z2, z3, z4, z5, z6, z7⟩ := HZ8.out.eight
  obtain ⟨v0, v1, v2, v3, v4, v5, v6, v7⟩ := HV8.out.eight
  have zf := HZ8.out.frozen
  go_wp2_with fail
  have hfin := read_fin (v := Ps.mkN) (d := d) hrb HS8.out HZ8.out HIN8.out (trail_eq (fun v0 u e => by cases e)) HA8.out
  refine bodyPost_ret (results_row1 (l := [_, _, _, _, _, _, _, _]) rfl _ _ _ rfl hfin.1 Tryz.underlying31 rfl (by kernel_rfl)) rfl ?_
  rw [HRQ.out]
  exact hfin.2

end Go.Proofs.YtolkfgikomminaaGreatDoor

namespace Go.Proofs.YtolkfgikomminaaGreatDoor
open Go.RowKit Js

def ReadB (rb : Nat) (s : ByteArray) (a d b p : Int) (w w' : World) : Prop :=
 (w'.cell? ⟨rb, 0, none⟩ = some (.string s) ∧ w'.cell? ⟨rb, 1, none⟩ = some (.int .i64 a) ∧ w'.cell? ⟨rb, 2, none⟩ = some (.int .i64 d) ∧ w'.cell? ⟨rb, 3, none⟩ = some (.int .i64 b) ∧ w'.cell? ⟨rb, 4, none⟩ = some (.int .i64 p)) ∧ Below w.heap.size w w'
theorem ReadB.on {rb : Nat} {s : ByteArray} {a d b p : Int} {w W w1 : World} (h : ReadB rb s a d b p w W) (hb : Below W.heap.size W w1) : ReadB rb s a d b p w w1 := by
 obtain ⟨⟨h0, h1, h2, h3, h4⟩, h5⟩ := h
 have hc : ∀ i v, W.cell? ⟨rb, i, none⟩ = some v → w1.cell? ⟨rb, i, none⟩ = some v := fun i v h => (hb.cell (p := ⟨rb, i, none⟩) (World.block_lt_of_cell? W _ h)).trans h
 exact ⟨⟨hc _ _ h0, hc _ _ h1, hc _ _ h2, hc _ _ h3, hc _ _ h4⟩, h5.trans (hb.mono h5.size)⟩
theorem ReadB.alloc {rb : Nat} {s : ByteArray} {a d b p : Int} {w W : World} (h : ReadB rb s a d b p w W) (o : Obj) : ReadB rb s a d b p w (W.alloc o) := h.on ((Below.refl _ _).alloc (Nat.le_refl _) _)

theorem ReadB.drew {rb : Nat} {s : ByteArray} {a d b p : Int} {w W : World} (h : ReadB rb s a d b p w W) : ReadB rb s a d b p w W.drew := ⟨h.1, h.2.drew⟩
theorem ReadB.set3 {rb : Nat} {s : ByteArray} {a d b p : Int} {w W : World} (h : ReadB rb s a d b p w W) (hr : rb < w.heap.size) (u0 u1 u2 : Value) :
  ReadB rb s a d b p w (((W.setCell ⟨w.heap.size, 0, none⟩ u0).setCell ⟨w.heap.size, 1, none⟩ u1).setCell ⟨w.heap.size, 2, none⟩ u2) := by
 obtain ⟨⟨h0, h1, h2, h3, h4⟩, h5⟩ := h
 have hc : ∀ i v, W.cell? ⟨rb, i, none⟩ = some v → (((W.setCell ⟨w.heap.size, 0, none⟩ u0).setCell ⟨w.heap.size, 1, none⟩ u1).setCell ⟨w.heap.size, 2, none⟩ u2).cell? ⟨rb, i, none⟩ = some v := fun i v h => by
  rw [World.cell?_setCell_other _ _ _ _ (by intro e; injection e with e1; omega), World.cell?_setCell_other _ _ _ _ (by intro e; injection e with e1; omega), World.cell?_setCell_other _ _ _ _ (by intro e; injection e with e1; omega)]; exact h
 exact ⟨⟨hc _ _ h0, hc _ _ h1, hc _ _ h2, hc _ _ h3, hc _ _ h4⟩, ((h5.setCell (p := ⟨w.heap.size, 0, none⟩) (Nat.le_refl _) u0).setCell (p := ⟨w.heap.size, 1, none⟩) (Nat.le_refl _) u1).setCell (p := ⟨w.heap.size, 2, none⟩) (Nat.le_refl _) u2⟩
theorem num_new {W w6 : World} (h : Below ((W.alloc (.cells #[.bool false, .string ⟨#[]⟩, .int .i64 0] 27)).drew).heap.size ((W.alloc (.cells #[.bool false, .string ⟨#[]⟩, .int .i64 0] 27)).drew) w6) :
  w6.cell? ⟨W.heap.size, 0, none⟩ = some (.bool false) ∧ w6.cell? ⟨W.heap.size, 1, none⟩ = some (.string ⟨#[]⟩) ∧ w6.cell? ⟨W.heap.size, 2, none⟩ = some (.int .i64 0) ∧ (∀ i, w6.frozen? ⟨W.heap.size, i, none⟩ = false) ∧ Blk w6 W.heap.size 27 #[.bool false, .string ⟨#[]⟩, .int .i64 0] := by
 have hb : Blk w6 W.heap.size 27 #[.bool false, .string ⟨#[]⟩, .int .i64 0] := (h.block W.heap.size (by show W.heap.size < (W.alloc _).heap.size; simp)).trans (heap_alloc_new W _)
 exact ⟨hb.cell 0, hb.cell 1, hb.cell 2, hb.frozen, hb⟩
def Numbered (pn : Bool) (pd : List UInt8) (px pe : Int) (w : World) (x y : Value) (wr : World) : Prop :=
 ∃ nb, x = .pointer (some ⟨nb, 0, none⟩) ∧ y = .int .i64 pe ∧ w.heap.size ≤ nb ∧ Blk wr nb 27 #[.bool pn, .string ⟨pd.toArray⟩, .int .i64 px] ∧ Below w.heap.size w wr

theorem numbered_a {pn : Bool} {pd : List UInt8} {px pe : Int} {w w6 : World} (hb : Below w.heap.size w w6) : Numbered pn pd px pe w (.pointer (some ⟨w6.heap.size, 0, none⟩)) (.int .i64 pe) (w6.alloc (.cells #[.bool pn, .string ⟨pd.toArray⟩, .int .i64 px] 27)) :=
 ⟨_, rfl, rfl, hb.size, Blk.new w6 _ _, hb.alloc hb.size _⟩
theorem numbered_b {pn : Bool} {pd : List UInt8} {px pe : Int} {w w6 : World} (hb : Below w.heap.size w w6) (h : Blk w6 w.heap.size 27 #[.bool false, .string ⟨#[]⟩, .int .i64 0]) :
  Numbered pn pd px pe w (.pointer (some ⟨w.heap.size, 0, none⟩)) (.int .i64 pe) (((w6.setCell ⟨w.heap.size, 0, none⟩ (.bool pn)).setCell ⟨w.heap.size, 1, none⟩ (.string ⟨pd.toArray⟩)).setCell ⟨w.heap.size, 2, none⟩ (.int .i64 px)) := by
 have h0 : Blk _ w.heap.size 27 [.bool pn, .string ⟨#[]⟩, .int .i64 0].toArray := Blk.setL (l := [.bool false, .string ⟨#[]⟩, .int .i64 0]) h 0 (.bool pn)
 have h1 : Blk _ w.heap.size 27 [.bool pn, .string ⟨pd.toArray⟩, .int .i64 0].toArray := h0.setL 1 (.string ⟨pd.toArray⟩)
 exact ⟨_, rfl, rfl, Nat.le_refl _, h1.setL 2 (.int .i64 px), ((hb.setCell (p := ⟨w.heap.size, 0, none⟩) (Nat.le_refl _) _).setCell (p := ⟨w.heap.size, 1, none⟩) (Nat.le_refl _) _).setCell (p := ⟨w.heap.size, 2, none⟩) (Nat.le_refl _) _⟩

set_option maxRecDepth 100000 in
set_option maxHeartbeats 1000000 in
theorem fail_blk {rb : Nat} {s : ByteArray} {a d : Int} {w : World} (hb : Blk w rb 57 #[.string s, .int .i64 a, .int .i64 d, .int .i64 0, .int .i64 0]) (p c : Int) :
  Calls Tryz.prog 20 #[.pointer (some ⟨rb, 0, none⟩), .int .i64 p, .int .i64 c] w fun e w' => e = .returned (.tuple #[]) ∧ Blk w' rb 57 #[.string s, .int .i64 a, .int .i64 d, .int .i64 c, .int .i64 p] ∧ Sole rb w w' := by
 obtain ⟨c0, c1, c2, c3, c4⟩ := hb.five
 have hf := hb.frozen
 have H := Lib.hid (show Blk ((w.setCell ⟨rb, 3, none⟩ (.int .i64 c)).setCell ⟨rb, 4, none⟩ (.int .i64 p)) rb 57 #[.string s, .int .i64 a, .int .i64 d, .int .i64 c, .int .i64 p] from by
  have h3 := Blk.setL (l := [.string s, .int .i64 a, .int .i64 d, .int .i64 0, .int .i64 0]) hb 3 (.int .i64 c)
  exact Blk.setL (l := [.string s, .int .i64 a, .int .i64 d, .int .i64 c, .int .i64 0]) h3 4 (.int .i64 p))
 have HS := Lib.hid (((Sole.refl rb w).set 3 (.int .i64 c)).set 4 (.int .i64 p))
 clear hb
 go_enter Tryz.func20, Tryz.ntmps20
 go_wp2
 go_end0
 exact ⟨rfl, H.out, HS.out⟩

set_option linter.unusedSimpArgs false in
set_option linter.unusedVariables false in
set_option maxRecDepth 100000 in
set_option maxHeartbeats 4000000 in
theorem value_num {rb : Nat} {s : ByteArray} {a : Nat} {t : List UInt8} {d : Nat} {w : World} (h : Rd w rb s a t d) (hs0 : s.size ≤ 100000) (hdl : d ≤ 32) {c : UInt8} {u : List UInt8} (hsk : Ps.skip t = c :: u) (hc : c = 45 ∨ Nm.dig c = true) (f : Nat) :
  Calls Tryz.prog 19 #[.pointer (some ⟨rb, 0, none⟩)] w (VPost rb s d (Ps.value (f + 1) d t) w) := by
 have hs : s.size ≤ 1000000 := by omega
 have hrb := h.lt
 have HBk := Lib.hid (blank_ok (h.on (valW_below w)) (show s.size ≤ 1000000000000 by omega))
 have HZ := Lib.hid ((Blk.new w 31 zero8).alloc (.cells zero8 31))
 have HV := Lib.hid (Blk.new2 w (.cells zero8 31) 31 zero8)
 have HB := Lib.hid (valW_below w)
 have HSK := Lib.hid hsk
 have HRQ := Lib.hid (show Ps.value (f + 1) d t = Ps.R.trail ((Ps.number (c :: u)).map Ps.mkD) from by 
  have hd : ∀ k : UInt8, (k.toNat < 45 ∨ (45 < k.toNat ∧ k.toNat < 48) ∨ 57 < k.toNat) → ¬ c = k := by
   intro k hk e
   subst e
   rcases hc with rfl | hc
   ·revert hk; decide
   ·simp only [Nm.dig, Bool.and_eq_true, decide_eq_true_eq] at hc; omega
  rw [value_head, hsk]; simp only; rw [if_neg (hd 123 (by decide)), if_neg (hd 91 (by decide))]
  unfold Ps.single
  rw [if_neg (hd 34 (by decide)), if_neg (hd 110 (by decide)), if_neg (hd 116 (by decide)), if_neg (hd 102 (by decide)), if_pos hc])
 have hq : ((c.toNat : Int) = 45 ∨ ((c.toNat : Int) ≠ 45 ∧ 48 ≤ (c.toNat : Int) ∧ (c.toNat : Int) ≤ 57)) := by
  rcases hc with rfl | hc
  ·left; rfl
  ·right; simp only [Nm.dig, Bool.and_eq_true, decide_eq_true_eq] at hc; omega
 clear h hsk hc
 go_enter Tryz.func19, Tryz.ntmps19
 go_wp2_with fail
 refine HBk.out.mono ?_
 rintro e w2 ⟨rfl, ⟨a2, hR2⟩, hS2⟩
 rw [HSK.out] at hR2
 have HP := Lib.hid (peek_ok hR2 (show s.size ≤ 1000000000000 by omega))
 have HR2 := Lib.hid hR2
 have HS2 := Lib.hid ((Sole.of_below HB.out).trans hS2)
 have HZ2 := Lib.hid (hS2.blk HZ.out (by omega))
 have HV2 := Lib.hid (hS2.blk HV.out (by omega))
 clear hR2 hS2
 simp only [hd] at HP
 have hal := HR2.out.2.1
 have hdr := HR2.out.2.2
 have her := Ps.end_rest (c :: u)
 have hrl := her.1.len
 have hre := her.1.eq
 obtain ⟨E, hE⟩ : ∃ E : Nat, E = a2 + ((c :: u).length - (Nm.endOf (c :: u)).1.length) := ⟨_, rfl⟩
 have HFROM := Lib.hid (show From s (a2 : Int) (c :: u) from ⟨by omega, by omega, by rw [Int.toNat_natCast]; exact hdr⟩)
 have HEND := Lib.hid (fun W : World => (end_any s (a2 : Int) (c :: u) W HFROM.out (by omega)).mono (fun e w' (h : Ends s (c :: u) W e w') => show e = .returned (.tuple #[.int .i64 (E : Nat), .bool (Nm.endOf (c :: u)).2]) ∧ ∃ n, w' = W.drewN n from by
  obtain ⟨h1, h2⟩ := h
  refine ⟨?_, 0, h2.symm⟩
  rw [h1, show ((s.size : Int) - ((Nm.endOf (c :: u)).1.length : Int)) = ((E : Nat) : Int) by omega]))
 have hEs : E ≤ s.size := by omega
 have haE : a2 ≤ E := by omega
 have hEX : s.extract a2 E = ⟨((c :: u).take ((c :: u).length - (Nm.endOf (c :: u)).1.length)).toArray⟩ := by
  rw [Lib.extract_eq, hdr, hE, Nat.add_sub_cancel_left]
 have HEX := Lib.hid hEX
 have hll : ((c :: u).take ((c :: u).length - (Nm.endOf (c :: u)).1.length)).length ≤ 100000 := by rw [List.length_take]; omega
 have HRES := Lib.hid (show E + (Nm.endOf (c :: u)).1.length = s.size ∧ s.data.toList.drop E = (Nm.endOf (c :: u)).1 from ⟨by omega, by rw [hE, ← List.drop_drop, hdr]; exact hre.symm⟩)
 have HNUMDEF := Lib.hid (show Ps.number (c :: u) = if (Nm.endOf (c :: u)).2 = false then .bad 1 (Nm.endOf (c :: u)).1.length else if (Nm.parse ((c :: u).take ((c :: u).length - (Nm.endOf (c :: u)).1.length))).2 = 0 then .ok (Nm.parse ((c :: u).take ((c :: u).length - (Nm.endOf (c :: u)).1.length))).1 (Nm.endOf (c :: u)).1 else .bad 5 (c :: u).length from rfl)
 have HNUM := Lib.hid (fun W : World => number_any ⟨((c :: u).take ((c :: u).length - (Nm.endOf (c :: u)).1.length)).toArray⟩ W (by rw [Lib.size_mk]; exact hll) (Nm.numLaw _ hll))
 rw [show (⟨((c :: u).take ((c :: u).length - (Nm.endOf (c :: u)).1.length)).toArray⟩ : ByteArray).data.toList = (c :: u).take ((c :: u).length - (Nm.endOf (c :: u)).1.length) from rfl] at HNUM
 have HAL := Lib.hid hal
 clear hal hdr her hrl hre hE hEX hll
 generalize (c :: u).take ((c :: u).length - (Nm.endOf (c :: u)).1.length) = l at HEX HNUM HNUMDEF
 rw [← HEX.out] at HNUM
 generalize Nm.parse l = pp at HNUM HNUMDEF
 obtain ⟨⟨pn, pd, px⟩, pe⟩ := pp
 generalize Nm.endOf (c :: u) = eo at HEND HRES HNUMDEF
 obtain ⟨r, ok⟩ := eo
 simp only at HEND HRES HNUMDEF HNUM
 generalize (c.toNat : Int) = q at HP hq
 go_wp2_with fail
 refine HP.out.mono ?_
 rintro e w3 ⟨rfl, n, rfl⟩
 have HR3 := Lib.hid (HR2.out.drewN n)
 have HS3 := Lib.hid (HS2.out.drewN n)
 have HZ3 := Lib.hid (show Blk (w2.drewN n) w.heap.size 31 zero8 from HZ2.out)
 have HV3 := Lib.hid (show Blk (w2.drewN n) (w.heap.size + 1) 31 zero8 from HV2.out)
 clear HR2 HS2 HZ2 HV2 HP
 generalize w2.drewN n = w3 at *
 have hl3 := HV3.out.lt
 obtain ⟨c0, c1, c2, c3, c4⟩ := HR3.out.1.five
 have hqq : (q == 45) = true ∨ ((q == 45) = false ∧ 48 ≤ q ∧ q ≤ 57) := by
  rcases hq with rfl | ⟨h1, h2⟩
  ·left; rfl
  ·right; exact ⟨by simpa using h1, h2⟩
 have t1 : (q == 123) = false := by simp; omega
 have t2 : (q == 91) = false := by simp; omega
 have t3 : (q == 34) = false := by simp; omega
 have t4 : (q == 110) = false := by simp; omega
 have t5 : (q == 116) = false := by simp; omega
 have t6 : (q == 102) = false := by simp; omega
 clear hq
 have HRB3 := Lib.hid HR3.out.1
 go_upto_region 18 with (fail)
 go_cut [49] from 9 to 103 (fun b wc => b = .bool true ∧ wc = w3)
 case first =>
  rcases hqq with q1 | ⟨q1, q2, q3⟩
  all_goals
   go_wp2_with fail
   go_meet
   case rel => exact ⟨rfl, rfl⟩
 case rest =>
 obtain ⟨rfl, rfl⟩ := hcut
 clear hqq t1 t2 t3 t4 t5 t6
 go_wp2_with fail
 go_quiet ((go_at_call 46; exact Calls.quiet_of (HEND.out _)))
 have HRB5 := Lib.hid (show Blk (wc.drewN nq) rb 57 _ from HRB3.out)
 have HR5 := Lib.hid (HR3.out.drewN nq)
 have HS5 := Lib.hid (HS3.out.drewN nq)
 have HZ5 := Lib.hid (show Blk (wc.drewN nq) w.heap.size 31 zero8 from HZ3.out)
 have HV5 := Lib.hid (show Blk (wc.drewN nq) (w.heap.size + 1) 31 zero8 from HV3.out)
 have HLT := Lib.hid (show rb < (wc.drewN nq).heap.size from HRB3.out.lt)
 clear HRB3 HR3 HS3 HZ3 HV3 c0 c1 c2 c3 c4 hl3
 generalize wc.drewN nq = w5 at *
 obtain ⟨c0, c1, c2, c3, c4⟩ := HRB5.out.five
 cases ok with
 | true =>
  go_wp2_with fail
  have HF0 := Lib.hid (show ReadB rb s a2 d 0 0 w5 w5 from ⟨HRB5.out.five, Below.refl _ _⟩)
  have HFd := Lib.hid (ReadB.drew HF0.out)
  clear c0 c1 c2 c3 c4
  go_cut [7, 8] from 9 to 103 (fun x y wc => Numbered pn pd px pe w5 x y wc)
  case first =>
   go_region_held3 (fun w' => (w'.cell? ⟨rb, 0, none⟩ = some (.string s) ∧ w'.cell? ⟨rb, 1, none⟩ = some (.int .i64 a2) ∧ w'.cell? ⟨rb, 2, none⟩ = some (.int .i64 d) ∧ w'.cell? ⟨rb, 3, none⟩ = some (.int .i64 0) ∧ w'.cell? ⟨rb, 4, none⟩ = some (.int .i64 0)) ∧ Below w5.heap.size w5 w')
    ((show ReadB rb s a2 d 0 0 w5 _; first | (with_reducible exact ht) | (with_reducible exact HFd.out) | (with_reducible exact ReadB.alloc ht _) | (with_reducible exact ReadB.drew (ReadB.alloc HF0.out _)) | (with_reducible exact ReadB.set3 ht HLT.out _ _ _)))
    (first | (go_at_call 47; refine (HNUM.out _).mono ?_; rintro e w6 ⟨rfl, hb6⟩; have hz6 := hb6.size; (first | (have ht : ReadB rb s a2 d 0 0 w5 w6 := (by with_reducible exact ReadB.on HFd.out hb6)) | (have ht : ReadB rb s a2 d 0 0 w5 w6 := (by with_reducible exact ReadB.on (ReadB.drew (ReadB.alloc HF0.out _)) hb6); obtain ⟨nb0, nb1, nb2, nbf, nbk⟩ := num_new hb6; have HNBK := Lib.hid nbk; clear nbk)); have HBW : Hid (Below w5.heap.size w5 w6) := Lib.hid ht.2; clear hb6))
   ·go_wp2_with fail
    go_meet
    case rel => first | exact numbered_a HBW.out | exact numbered_b HBW.out HNBK.out
   ·go_wp2_with fail
    go_meet
    case rel => first | exact numbered_b HBW.out HNBK.out | exact numbered_a HBW.out
  case rest =>
   obtain ⟨nb, rfl, rfl, hnb, hblk, hbl⟩ := hcut
   have HNB := Lib.hid hblk
   have HR6 := Lib.hid (HR5.out.on hbl)
   have HZ6 := Lib.hid (HZ5.out.on hbl)
   have HV6 := Lib.hid (HV5.out.on hbl)
   have HS6 := Lib.hid (HS5.out.trans (.of_below hbl))
   have hl5 := HV5.out.lt
   have hl6 := hbl.size
   have hrb5 := HLT.out
   clear hblk hbl
   obtain ⟨c0, c1, c2, c3, c4⟩ := HR6.out.1.five
   have rf := HR6.out.1.frozen
   obtain ⟨v0, v1, v2, v3, v4, v5, v6, v7⟩ := HV6.out.eight
   have vf := HV6.out.frozen
   obtain ⟨n0, n1, n2⟩ : wc.cell? ⟨nb, 0, none⟩ = some (.bool pn) ∧ wc.cell? ⟨nb, 1, none⟩ = some (.string ⟨pd.toArray⟩) ∧ wc.cell? ⟨nb, 2, none⟩ = some (.int .i64 px) := ⟨HNB.out.cell 0, HNB.out.cell 1, HNB.out.cell 2⟩
   by_cases hpe : pe = 0
   ·subst hpe
    have HRN := Lib.hid (show Ps.number (c :: u) = .ok ⟨pn, pd, px⟩ r by rw [HNUMDEF.out]; simp)
    have HR7 := Lib.hid (show After rb s d (wc.setCell ⟨rb, 1, none⟩ (.int .i64 E)) ((Ps.number (c :: u)).map Ps.mkD) by rw [HRN.out]; exact ⟨E, HR6.out.goTo rfl HRES.out.1 HRES.out.2⟩)
    have HVQ := Lib.hid (show ∀ v0 u', (Ps.number (c :: u)).map Ps.mkD = .ok v0 u' → Ps.mkD ⟨pn, pd, px⟩ = v0 by rw [HRN.out]; intro v0 u' e; injection e)
    have HS7 := Lib.hid (HS6.out.set 1 (.int .i64 E))
    have HV7 := Lib.hid (show Blk (wc.setCell ⟨rb, 1, none⟩ (.int .i64 E)) (w.heap.size + 1) 31 zero8 from (Below.heap_setCell _ _ _ _ (by show _ ≠ rb; omega)).trans HV6.out)
    have HZ7 := Lib.hid (show Blk (wc.setCell ⟨rb, 1, none⟩ (.int .i64 E)) w.heap.size 31 zero8 from (Below.heap_setCell _ _ _ _ (by show _ ≠ rb; omega)).trans HZ6.out)
    go_wp2_with fail
    clear c0 c1 c2 c3 c4 v0 v1 v2 v3 v4 v5 v6 v7
    refine (blank_any (HR7.out.far (heap_set8 _ _ _ (show rb ≠ w.heap.size + 1 by omega) (.int .i64 2) (.bool false) (.bool pn) (.string ⟨pd.toArray⟩) (.int .i64 px) (.string ⟨#[]⟩) (.slice none 0 0) (.slice none 0 0))) (show s.size ≤ 1000000000000 by omega)).mono ?_
    rintro e w8 ⟨rfl, hA8, hS8⟩
    have HS8 := Lib.hid (Sole.trans (HS7.out.set8 (show w.heap.size ≤ w.heap.size + 1 by omega) (.int .i64 2) (.bool false) (.bool pn) (.string ⟨pd.toArray⟩) (.int .i64 px) (.string ⟨#[]⟩) (.slice none 0 0) (.slice none 0 0)) hS8)
    have HZ8 := Lib.hid (hS8.blk (show Blk (set8 (wc.setCell ⟨rb, 1, none⟩ (.int .i64 E)) (w.heap.size + 1) (.int .i64 2) (.bool false) (.bool pn) (.string ⟨pd.toArray⟩) (.int .i64 px) (.string ⟨#[]⟩) (.slice none 0 0) (.slice none 0 0)) w.heap.size 31 zero8 from (heap_set8 _ _ _ (by omega) (.int .i64 2) (.bool false) (.bool pn) (.string ⟨pd.toArray⟩) (.int .i64 px) (.string ⟨#[]⟩) (.slice none 0 0) (.slice none 0 0)).trans HZ7.out) (by omega))
    have HV8 := Lib.hid (hS8.blk (HV7.out.set8 (.int .i64 2) (.bool false) (.bool pn) (.string ⟨pd.toArray⟩) (.int .i64 px) (.string ⟨#[]⟩) (.slice none 0 0) (.slice none 0 0)) (by omega))
    have HIN8 := Lib.hid (In.keep (hS8.le (B := w.heap.size + 1) (by omega)) _ _ (leaf_in _ 2 false ⟨pn, pd, px⟩ []))
    have HA8 := Lib.hid hA8
    clear hA8 hS8
    obtain ⟨z0, z1, z2, z3, z4, z5, z6, z7⟩ := HZ8.out.eight
    obtain ⟨v0, v1, v2, v3, v4, v5, v6, v7⟩ := HV8.out.eight
    have zf := HZ8.out.frozen
    go_wp2_with fail
    have hfin := read_fin (v := (Ps.mkD ⟨pn, pd, px⟩)) (d := d) hrb HS8.out HZ8.out HIN8.out (trail_eq HVQ.out) HA8.out
    refine bodyPost_ret (results_row1 (l := [_, _, _, _, _, _, _, _]) rfl _ _ _ rfl hfin.1 Tryz.underlying31 rfl (by kernel_rfl)) rfl ?_
    rw [HRQ.out]
    exact hfin.2
   ·have HF := Lib.hid (fail_ok HR6.out a2 5 (c :: u).length HAL.out (by omega))
    have HRN := Lib.hid (show Ps.number (c :: u) = .bad 5 (c :: u).length by rw [HNUMDEF.out]; simp [hpe])
    have tpe : (pe == 0) = false := by simpa using hpe
    have tpe2 : (pe != 0) = true := by simpa using hpe
    have HVQ := Lib.hid (show ∀ v0 u', (Ps.number (c :: u)).map Ps.mkD = .ok v0 u' → Ps.mkD ⟨pn, pd, px⟩ = v0 by rw [HRN.out]; intro v0 u' e; cases e)
    go_wp2_with fail
    refine HF.out.mono ?_
    rintro e w6 ⟨rfl, hRB7, hS6⟩
    have HR7 := Lib.hid (show After rb s d (w6.setCell ⟨rb, 1, none⟩ (.int .i64 E)) ((Ps.number (c :: u)).map Ps.mkD) by rw [HRN.out]; exact hRB7.setAt _)
    have HV5 := Lib.hid (hS6.blk HV6.out (by omega))
    have HZ5 := Lib.hid (hS6.blk HZ6.out (by omega))
    have HNB5 := Lib.hid (hS6.blk HNB.out (by omega))
    have HS7 := Lib.hid ((HS6.out.trans hS6).set 1 (.int .i64 E))
    have HV7 := Lib.hid (show Blk (w6.setCell ⟨rb, 1, none⟩ (.int .i64 E)) (w.heap.size + 1) 31 zero8 from (Below.heap_setCell _ _ _ _ (by show _ ≠ rb; omega)).trans HV5.out)
    have HZ7 := Lib.hid (show Blk (w6.setCell ⟨rb, 1, none⟩ (.int .i64 E)) w.heap.size 31 zero8 from (Below.heap_setCell _ _ _ _ (by show _ ≠ rb; omega)).trans HZ5.out)
    have hl7 := hS6.size
    obtain ⟨a7, d7, p7, hb7, _, _⟩ := hRB7
    clear c0 c1 c2 c3 c4 v0 v1 v2 v3 v4 v5 v6 v7 n0 n1 n2 rf vf
    obtain ⟨c0, c1, c2, c3, c4⟩ := hb7.five
    have rf := hb7.frozen
    obtain ⟨v0, v1, v2, v3, v4, v5, v6, v7⟩ := HV5.out.eight
    have vf := HV5.out.frozen
    obtain ⟨n0, n1, n2⟩ : w6.cell? ⟨nb, 0, none⟩ = some (.bool pn) ∧ w6.cell? ⟨nb, 1, none⟩ = some (.string ⟨pd.toArray⟩) ∧ w6.cell? ⟨nb, 2, none⟩ = some (.int .i64 px) := ⟨HNB5.out.cell 0, HNB5.out.cell 1, HNB5.out.cell 2⟩
    clear hb7 hS6
    go_wp2_with fail
    clear c0 c1 c2 c3 c4 v0 v1 v2 v3 v4 v5 v6 v7
    refine (blank_any (HR7.out.far (heap_set8 _ _ _ (show rb ≠ w.heap.size + 1 by omega) (.int .i64 2) (.bool false) (.bool pn) (.string ⟨pd.toArray⟩) (.int .i64 px) (.string ⟨#[]⟩) (.slice none 0 0) (.slice none 0 0))) (show s.size ≤ 1000000000000 by omega)).mono ?_
    rintro e w8 ⟨rfl, hA8, hS8⟩
    have HS8 := Lib.hid (Sole.trans (HS7.out.set8 (show w.heap.size ≤ w.heap.size + 1 by omega) (.int .i64 2) (.bool false) (.bool pn) (.string ⟨pd.toArray⟩) (.int .i64 px) (.string ⟨#[]⟩) (.slice none 0 0) (.slice none 0 0)) hS8)
    have HZ8 := Lib.hid (hS8.blk (show Blk (set8 (w6.setCell ⟨rb, 1, none⟩ (.int .i64 E)) (w.heap.size + 1) (.int .i64 2) (.bool false) (.bool pn) (.string ⟨pd.toArray⟩) (.int .i64 px) (.string ⟨#[]⟩) (.slice none 0 0) (.slice none 0 0)) w.heap.size 31 zero8 from (heap_set8 _ _ _ (by omega) (.int .i64 2) (.bool false) (.bool pn) (.string ⟨pd.toArray⟩) (.int .i64 px) (.string ⟨#[]⟩) (.slice none 0 0) (.slice none 0 0)).trans HZ7.out) (by omega))
    have HV8 := Lib.hid (hS8.blk (HV7.out.set8 (.int .i64 2) (.bool false) (.bool pn) (.string ⟨pd.toArray⟩) (.int .i64 px) (.string ⟨#[]⟩) (.slice none 0 0) (.slice none 0 0)) (by omega))
    have HIN8 := Lib.hid (In.keep (hS8.le (B := w.heap.size + 1) (by omega)) _ _ (leaf_in _ 2 false ⟨pn, pd, px⟩ []))
    have HA8 := Lib.hid hA8
    clear hA8 hS8
    obtain ⟨z0, z1, z2, z3, z4, z5, z6, z7⟩ := HZ8.out.eight
    obtain ⟨v0, v1, v2, v3, v4, v5, v6, v7⟩ := HV8.out.eight
    have zf := HZ8.out.frozen
    go_wp2_with fail
    have hfin := read_fin (v := (Ps.mkD ⟨pn, pd, px⟩)) (d := d) hrb HS8.out HZ8.out HIN8.out (trail_eq HVQ.out) HA8.out
    refine bodyPost_ret (results_row1 (l := [_, _, _, _, _, _, _, _]) rfl _ _ _ rfl hfin.1 Tryz.underlying31 rfl (by kernel_rfl)) rfl ?_
    rw [HRQ.out]
    exact hfin.2
 | false =>
  have HFB := Lib.hid (fail_blk HRB5.out (E : Int) 1)
  go_wp2_with fail
  refine HFB.out.mono ?_
  rintro e w4 ⟨rfl, hb5, hs5⟩
  have HRB4 := Lib.hid hb5
  have HS4 := Lib.hid (HS5.out.trans hs5)
  have HZ4 := Lib.hid (hs5.blk HZ5.out (by omega))
  have HV4 := Lib.hid (hs5.blk HV5.out (by omega))
  have HLT4 := Lib.hid (show rb < w4.heap.size from hb5.lt)
  clear HRB5 HR5 HS5 HZ5 HV5 HLT HFB c0 c1 c2 c3 c4
  obtain ⟨c0, c1, c2, c3, c4⟩ := hb5.five
  clear hb5 hs5
  have HRN := Lib.hid (show Ps.number (c :: u) = .bad 1 r.length by rw [HNUMDEF.out]; simp)
  have HVQ := Lib.hid (show ∀ v0 u', (Ps.number (c :: u)).map Ps.mkD = .ok v0 u' → Ps.mkD ⟨pn, pd, px⟩ = v0 by rw [HRN.out]; intro v0 u' e; cases e)
  go_wp2_with fail
  have HF0 := Lib.hid (show ReadB rb s a2 d 1 E w4 w4 from ⟨HRB4.out.five, Below.refl _ _⟩)
  have HFd := Lib.hid (ReadB.drew HF0.out)
  clear c0 c1 c2 c3 c4
  go_cut [7, 8] from 9 to 103 (fun x y wc => Numbered pn pd px pe w4 x y wc)
  case first =>
   go_region_held3 (fun w' => (w'.cell? ⟨rb, 0, none⟩ = some (.string s) ∧ w'.cell? ⟨rb, 1, none⟩ = some (.int .i64 a2) ∧ w'.cell? ⟨rb, 2, none⟩ = some (.int .i64 d) ∧ w'.cell? ⟨rb, 3, none⟩ = some (.int .i64 1) ∧ w'.cell? ⟨rb, 4, none⟩ = some (.int .i64 E)) ∧ Below w4.heap.size w4 w')
    ((show ReadB rb s a2 d 1 E w4 _; first | (with_reducible exact ht) | (with_reducible exact HFd.out) | (with_reducible exact ReadB.alloc ht _) | (with_reducible exact ReadB.drew (ReadB.alloc HF0.out _)) | (with_reducible exact ReadB.set3 ht HLT4.out _ _ _)))
    (first | (go_at_call 47; refine (HNUM.out _).mono ?_; rintro e w6 ⟨rfl, hb6⟩; have hz6 := hb6.size; (first | (have ht : ReadB rb s a2 d 1 E w4 w6 := (by with_reducible exact ReadB.on HFd.out hb6)) | (have ht : ReadB rb s a2 d 1 E w4 w6 := (by with_reducible exact ReadB.on (ReadB.drew (ReadB.alloc HF0.out _)) hb6); obtain ⟨nb0, nb1, nb2, nbf, nbk⟩ := num_new hb6; have HNBK := Lib.hid nbk; clear nbk)); have HBW : Hid (Below w4.heap.size w4 w6) := Lib.hid ht.2; clear hb6))
   ·go_wp2_with fail
    go_meet
    case rel => first | exact numbered_a HBW.out | exact numbered_b HBW.out HNBK.out
   ·go_wp2_with fail
    go_meet
    case rel => first | exact numbered_b HBW.out HNBK.out | exact numbered_a HBW.out
  case rest =>
   obtain ⟨nb, rfl, rfl, hnb, hblk, hbl⟩ := hcut
   have HNB := Lib.hid hblk
   have HRB6 := Lib.hid (HRB4.out.on hbl)
   have HZ6 := Lib.hid (HZ4.out.on hbl)
   have HV6 := Lib.hid (HV4.out.on hbl)
   have HS6 := Lib.hid (HS4.out.trans (.of_below hbl))
   have hl5 := HV4.out.lt
   have hl6 := hbl.size
   have hrb5 := HLT4.out
   have HRD6 := Lib.hid (show RdB wc rb s 1 r.length from ⟨_, _, E, HRB6.out, HRES.out.1, Nat.le_refl _⟩)
   clear hblk hbl
   obtain ⟨c0, c1, c2, c3, c4⟩ := HRB6.out.five
   have rf := HRB6.out.frozen
   obtain ⟨v0, v1, v2, v3, v4, v5, v6, v7⟩ := HV6.out.eight
   have vf := HV6.out.frozen
   obtain ⟨n0, n1, n2⟩ : wc.cell? ⟨nb, 0, none⟩ = some (.bool pn) ∧ wc.cell? ⟨nb, 1, none⟩ = some (.string ⟨pd.toArray⟩) ∧ wc.cell? ⟨nb, 2, none⟩ = some (.int .i64 px) := ⟨HNB.out.cell 0, HNB.out.cell 1, HNB.out.cell 2⟩
   have HR7 := Lib.hid (show After rb s d (wc.setCell ⟨rb, 1, none⟩ (.int .i64 E)) ((Ps.number (c :: u)).map Ps.mkD) by rw [HRN.out]; exact HRD6.out.setAt _)
   have HS7 := Lib.hid (HS6.out.set 1 (.int .i64 E))
   have HV7 := Lib.hid (show Blk (wc.setCell ⟨rb, 1, none⟩ (.int .i64 E)) (w.heap.size + 1) 31 zero8 from (Below.heap_setCell _ _ _ _ (by show _ ≠ rb; omega)).trans HV6.out)
   have HZ7 := Lib.hid (show Blk (wc.setCell ⟨rb, 1, none⟩ (.int .i64 E)) w.heap.size 31 zero8 from (Below.heap_setCell _ _ _ _ (by show _ ≠ rb; omega)).trans HZ6.out)
   by_cases hpe : pe = 0
   ·subst hpe
    go_wp2_with fail
    clear c0 c1 c2 c3 c4 v0 v1 v2 v3 v4 v5 v6 v7
    refine (blank_any (HR7.out.far (heap_set8 _ _ _ (show rb ≠ w.heap.size + 1 by omega) (.int .i64 2) (.bool false) (.bool pn) (.string ⟨pd.toArray⟩) (.int .i64 px) (.string ⟨#[]⟩) (.slice none 0 0) (.slice none 0 0))) (show s.size ≤ 1000000000000 by omega)).mono ?_
    rintro e w8 ⟨rfl, hA8, hS8⟩
    have HS8 := Lib.hid (Sole.trans (HS7.out.set8 (show w.heap.size ≤ w.heap.size + 1 by omega) (.int .i64 2) (.bool false) (.bool pn) (.string ⟨pd.toArray⟩) (.int .i64 px) (.string ⟨#[]⟩) (.slice none 0 0) (.slice none 0 0)) hS8)
    have HZ8 := Lib.hid (hS8.blk (show Blk (set8 (wc.setCell ⟨rb, 1, none⟩ (.int .i64 E)) (w.heap.size + 1) (.int .i64 2) (.bool false) (.bool pn) (.string ⟨pd.toArray⟩) (.int .i64 px) (.string ⟨#[]⟩) (.slice none 0 0) (.slice none 0 0)) w.heap.size 31 zero8 from (heap_set8 _ _ _ (by omega) (.int .i64 2) (.bool false) (.bool pn) (.string ⟨pd.toArray⟩) (.int .i64 px) (.string ⟨#[]⟩) (.slice none 0 0) (.slice none 0 0)).trans HZ7.out) (by omega))
    have HV8 := Lib.hid (hS8.blk (HV7.out.set8 (.int .i64 2) (.bool false) (.bool pn) (.string ⟨pd.toArray⟩) (.int .i64 px) (.string ⟨#[]⟩) (.slice none 0 0) (.slice none 0 0)) (by omega))
    have HIN8 := Lib.hid (In.keep (hS8.le (B := w.heap.size + 1) (by omega)) _ _ (leaf_in _ 2 false ⟨pn, pd, px⟩ []))
    have HA8 := Lib.hid hA8
    clear hA8 hS8
    obtain ⟨z0, z1, z2, z3, z4, z5, z6, z7⟩ := HZ8.out.eight
    obtain ⟨v0, v1, v2, v3, v4, v5, v6, v7⟩ := HV8.out.eight
    have zf := HZ8.out.frozen
    go_wp2_with fail
    have hfin := read_fin (v := (Ps.mkD ⟨pn, pd, px⟩)) (d := d) hrb HS8.out HZ8.out HIN8.out (trail_eq HVQ.out) HA8.out
    refine bodyPost_ret (results_row1 (l := [_, _, _, _, _, _, _, _]) rfl _ _ _ rfl hfin.1 Tryz.underlying31 rfl (by kernel_rfl)) rfl ?_
    rw [HRQ.out]
    exact hfin.2
   ·have HF := Lib.hid (fail_bad HRD6.out a2 5)
    have tpe : (pe == 0) = false := by simpa using hpe
    have tpe2 : (pe != 0) = true := by simpa using hpe
    go_wp2_with fail
    refine HF.out.mono ?_
    rintro e w6 ⟨rfl, rfl⟩
    go_wp2_with fail
    clear c0 c1 c2 c3 c4 v0 v1 v2 v3 v4 v5 v6 v7
    refine (blank_any (HR7.out.far (heap_set8 _ _ _ (show rb ≠ w.heap.size + 1 by omega) (.int .i64 2) (.bool false) (.bool pn) (.string ⟨pd.toArray⟩) (.int .i64 px) (.string ⟨#[]⟩) (.slice none 0 0) (.slice none 0 0))) (show s.size ≤ 1000000000000 by omega)).mono ?_
    rintro e w8 ⟨rfl, hA8, hS8⟩
    have HS8 := Lib.hid (Sole.trans (HS7.out.set8 (show w.heap.size ≤ w.heap.size + 1 by omega) (.int .i64 2) (.bool false) (.bool pn) (.string ⟨pd.toArray⟩) (.int .i64 px) (.string ⟨#[]⟩) (.slice none 0 0) (.slice none 0 0)) hS8)
    have HZ8 := Lib.hid (hS8.blk (show Blk (set8 (wc.setCell ⟨rb, 1, none⟩ (.int .i64 E)) (w.heap.size + 1) (.int .i64 2) (.bool false) (.bool pn) (.string ⟨pd.toArray⟩) (.int .i64 px) (.string ⟨#[]⟩) (.slice none 0 0) (.slice none 0 0)) w.heap.size 31 zero8 from (heap_set8 _ _ _ (by omega) (.int .i64 2) (.bool false) (.bool pn) (.string ⟨pd.toArray⟩) (.int .i64 px) (.string ⟨#[]⟩) (.slice none 0 0) (.slice none 0 0)).trans HZ7.out) (by omega))
    have HV8 := Lib.hid (hS8.blk (HV7.out.set8 (.int .i64 2) (.bool false) (.bool pn) (.string ⟨pd.toArray⟩) (.int .i64 px) (.string ⟨#[]⟩) (.slice none 0 0) (.slice none 0 0)) (by omega))
    have HIN8 := Lib.hid (In.keep (hS8.le (B := w.heap.size + 1) (by omega)) _ _ (leaf_in _ 2 false ⟨pn, pd, px⟩ []))
    have HA8 := Lib.hid hA8
    clear hA8 hS8
    obtain ⟨z0, z1, z2, z3, z4, z5, z6, z7⟩ := HZ8.out.eight
    obtain ⟨v0, v1, v2, v3, v4, v5, v6, v7⟩ := HV8.out.eight
    have zf := HZ8.out.frozen
    go_wp2_with fail
    have hfin := read_fin (v := (Ps.mkD ⟨pn, pd, px⟩)) (d := d) hrb HS8.out HZ8.out HIN8.out (trail_eq HVQ.out) HA8.out
    refine bodyPost_ret (results_row1 (l := [_, _, _, _, _, _, _, _]) rfl _ _ _ rfl hfin.1 Tryz.underlying31 rfl (by kernel_rfl)) rfl ?_
    rw [HRQ.out]
    exact hfin.2

end Go.Proofs.YtolkfgikomminaaGreatDoor

namespace Go.Proofs.YtolkfgikomminaaGreatDoor
open Go.RowKit Js

theorem value_all : ∀ f, VC f := by
 intro f
 induction f using Nat.strongRecOn with
 | _ f ih =>
  intro rb s a t d w h hs hd hf
  cases f with
  | zero => omega
  | succ f =>
   have hsl := Ps.skip_len t
   cases hsk : Ps.skip t with
   | nil =>
    refine value_none h hs hd ?_ ?_
    ·rw [hsk]; simp [Go.Proofs.YtolkfgikomminaaGreatDoor.hd]
    ·rw [value_head, hsk]; simp
   | cons c u =>
    rw [hsk, List.length_cons] at hsl
    by_cases h1 : c = 123
    ·subst h1; exact value_obj h hs hd hsk f (fun f' hlt => ih f' (by omega)) (by omega)
    by_cases h2 : c = 91
    ·subst h2; exact value_arr h hs hd hsk f (fun f' hlt => ih f' (by omega)) (by omega)
    by_cases h3 : c = 34
    ·subst h3; exact value_str h hs hd hsk f
    by_cases h4 : c = 110
    ·subst h4; exact value_null h hs hd hsk f
    by_cases h5 : c = 116
    ·subst h5; exact value_true h hs hd hsk f
    by_cases h6 : c = 102
    ·subst h6; exact value_false h hs hd hsk f
    by_cases h7 : c = 45 ∨ Nm.dig c = true
    ·exact value_num h hs hd hsk h7 f
    ·have hne : ∀ k : UInt8, ¬ c = k → (c.toNat : Int) ≠ (k.toNat : Int) := fun k hk e => hk (UInt8.toNat_inj.1 (by omega))
     refine value_none h hs hd ?_ ?_
     ·rw [hsk]
      refine ⟨hne 123 h1, hne 91 h2, hne 34 h3, hne 110 h4, hne 116 h5, hne 102 h6, hne 45 (fun e => h7 (.inl e)), ?_⟩
      have hnd : ¬ Nm.dig c = true := fun e => h7 (.inr e)
      simp only [Nm.dig, Bool.and_eq_true, decide_eq_true_eq] at hnd
      show (c.toNat : Int) < 48 ∨ 57 < (c.toNat : Int)
      omega
     ·rw [value_head, hsk]
      simp only
      rw [if_neg h1, if_neg h2]
      unfold Ps.single
      rw [if_neg h3, if_neg h4, if_neg h5, if_neg h6, if_neg h7]

def PPost (s : ByteArray) (w : World) (e : Ending) (w' : World) : Prop :=
 ∃ (v : Vl) (x : Value) (c p : Int), e = .returned (.tuple #[x, .int .i64 c, .int .i64 p]) ∧ v.In (w'.on (w.heap.size ≤ ·)) x ∧ Below w.heap.size w w' ∧
  (match Ps.parse s.data.toList with
   | .ok v0 _ => v = v0 ∧ c = 0 ∧ p = 0
   | .bad c0 l => v = Ps.mkN ∧ c = c0 ∧ p = (s.size : Int) - l)

theorem results_row3 {fn : Func} {p u t : Tmp} {ty : TypeId} (h : fn.results = #[.cell p ty, .tmp u, .tmp t]) (tmps : Array Value) (P : Program) (w : World) {g : Nat} {bt : TypeId} {l : List Value} {d : TypeDesc}
  (hp : tmps.getD p undef = .pointer (some ⟨g, 0, none⟩)) (hg : Blk w g bt l.toArray) (hu : P.underlying ty = some d) (hd : d.isRow = true) (hi : (P.info? ty).map (·.size) = some l.length) :
  (results fn tmps).run P w = .ok (.tuple #[.agg l.toArray, tmps.getD u undef, tmps.getD t undef]) w := by
 have hl : (loadVar ty ⟨g, 0, none⟩).run P w = .ok (.agg l.toArray) w := run_loadVar_mid w g 0 ty l d (fun j v hv => by rw [Nat.zero_add, hg.cell j]; simpa using hv) hu hd hi
 have hp' : tmps[p]?.getD undef = .pointer (some ⟨g, 0, none⟩) := by simpa using hp
 simp [results, h, hp', asAddr, hl]

theorem Blk.drew {w : World} {g : Nat} {t : TypeId} {cs : Array Value} (h : Blk w g t cs) : Blk w.drew g t cs := h
theorem parse_bad_fin {s : ByteArray} {w w' : World} {c l p : Nat} (hP : Ps.parse s.data.toList = .bad c l) (hp : p + l = s.size) (hB : Below w.heap.size w w') : PPost s w (.returned (.tuple #[.agg zero8, .int .i64 c, .int .i64 p])) w' := by
 refine ⟨Ps.mkN, _, c, p, rfl, leaf_in _ 0 false Nm.Num.zero [], hB, ?_⟩
 rw [hP]
 exact ⟨rfl, rfl, by omega⟩

set_option linter.unusedSimpArgs false in
set_option linter.unusedVariables false in
set_option maxRecDepth 100000 in
set_option maxHeartbeats 4000000 in
theorem refParse_any (s : ByteArray) (hs : s.size ≤ 1000000000000) (w : World) : Calls Tryz.prog 13 #[.string s] w (PPost s w) := by
 have HZ := Lib.hid (Blk.new w 31 zero8)
 by_cases hbig : 20000 < s.size
 ·have t1 : decide ((20000 : Int) < (s.size : Int)) = true := by simp; omega
  have HP := Lib.hid (show Ps.parse s.data.toList = .bad 5 (s.size - 20000) by
   unfold Ps.parse
   have hl : s.data.toList.length = s.size := Array.length_toList
   rw [if_pos (by omega), hl])
  obtain ⟨z0, z1, z2, z3, z4, z5, z6, z7⟩ := HZ.out.eight
  have zf := HZ.out.frozen
  go_enter Tryz.func13, Tryz.ntmps13
  go_wp2_with fail
  refine bodyPost_ret (results_row3 (l := [_, _, _, _, _, _, _, _]) rfl _ _ _ rfl HZ.out Tryz.underlying31 rfl (by kernel_rfl)) rfl ?_
  refine ⟨Ps.mkN, _, 5, 20000, rfl, leaf_in _ 0 false Nm.Num.zero [], (Below.refl _ _).alloc (Nat.le_refl _) _, ?_⟩
  rw [HP.out]
  exact ⟨rfl, rfl, by omega⟩
 ·have t1 : decide ((20000 : Int) < (s.size : Int)) = false := by simp; omega
  have HRd := Lib.hid (show Rd ((w.alloc (.cells zero8 31)).alloc (.cells #[.string s, .int .i64 0, .int .i64 0, .int .i64 0, .int .i64 0] 57)) (w.heap.size + 1) s 0 s.data.toList 0 from ⟨Blk.new2 w _ _ _, by rw [Nat.zero_add]; exact Array.length_toList, rfl⟩)
  have HV := Lib.hid (value_all (3 * s.data.toList.length + 1) _ _ _ _ _ _ HRd.out (by omega) (by omega) (Nat.le_refl _))
  have HB := Lib.hid (show Below w.heap.size w ((w.alloc (.cells zero8 31)).alloc (.cells #[.string s, .int .i64 0, .int .i64 0, .int .i64 0, .int .i64 0] 57)) from ((Below.refl _ _).alloc (Nat.le_refl _) _).alloc (by simp) _)
  have HZ1 := Lib.hid (HZ.out.alloc (.cells #[.string s, .int .i64 0, .int .i64 0, .int .i64 0, .int .i64 0] 57))
  have HP := Lib.hid (show Ps.parse s.data.toList = match Ps.value (3 * s.data.toList.length + 1) 0 s.data.toList with
    | .bad c l => .bad c l
    | .ok v [] => .ok v []
    | .ok _ (c :: u) => .bad 1 (c :: u).length by
   unfold Ps.parse
   have hl : s.data.toList.length = s.size := Array.length_toList
   rw [if_neg (by omega)]
   rfl)
  go_enter Tryz.func13, Tryz.ntmps13
  go_wp2_with fail
  refine HV.out.mono ?_
  rintro e w3 ⟨v, x, rfl, hin, hS, hv, hA⟩
  obtain ⟨k1, b1, n1, g1, x1, s1, A1, l1, p1, B1, m1, d1, rfl⟩ := In.cells hin
  rw [show ((w.alloc (.cells zero8 31)).alloc (.cells #[.string s, .int .i64 0, .int .i64 0, .int .i64 0, .int .i64 0] 57)).heap.size = w.heap.size + 2 by simp] at hin
  have hsz : w.heap.size + 2 ≤ w3.heap.size := by have := hS.size; simp at this; omega
  have HIN := Lib.hid hin
  have HZ3 := Lib.hid (hS.blk HZ1.out (by omega))
  have HB3 := Lib.hid (HB.out.trans (hS.below (by omega) (by simp; omega)))
  clear hin hS
  generalize Ps.value (3 * s.data.toList.length + 1) 0 s.data.toList = r at HP hv hA
  have hsz1 : w.heap.size + 1 < w3.heap.size := by omega
  have hsz0 : w.heap.size < w3.heap.size := by omega
  have BOX := Lib.hid (Blk.new w3 31 #[.int .i64 k1, .bool b1, .bool n1, .string ⟨g1.toArray⟩, .int .i64 x1, .string ⟨s1.toArray⟩, .slice A1 l1 p1, .slice B1 m1 d1])
  have hb4 := (Below.refl w3.heap.size w3).alloc (Nat.le_refl _) (.cells #[.int .i64 k1, .bool b1, .bool n1, .string ⟨g1.toArray⟩, .int .i64 x1, .string ⟨s1.toArray⟩, .slice A1 l1 p1, .slice B1 m1 d1] 31)
  have HZ4 := Lib.hid (HZ3.out.on hb4)
  have HB4 := Lib.hid (HB3.out.trans (hb4.mono (by omega)))
  obtain ⟨z0, z1, z2, z3, z4, z5, z6, z7⟩ := HZ4.out.eight
  have zf := HZ4.out.frozen
  cases r with
  | bad c l =>
   obtain ⟨a9, d9, p9, hb, h1, h2⟩ := hA
   obtain ⟨c0, c1, c2, c3, c4⟩ := (hb.on hb4).five
   have rf := (hb.on hb4).frozen
   have t2 : ((c : Int) == 0) = false := by simp; omega
   have t3 : ((c : Int) != 0) = true := by simp; omega
   have hfr := (Below.mono hb4 (show 0 ≤ _ by omega)).size
   clear hv hb hb4
   go_wp2_with fail
   generalize w3.alloc (.cells #[.int .i64 k1, .bool b1, .bool n1, .string ⟨g1.toArray⟩, .int .i64 x1, .string ⟨s1.toArray⟩, .slice A1 l1 p1, .slice B1 m1 d1] 31) = w4 at *
   go_region
   all_goals
    go_wp2_with fail
    have hfin := (HZ4.out.set8 (.int .i64 0) (.bool false) (.bool false) (.string ⟨#[]⟩) (.int .i64 0) (.string ⟨#[]⟩) (.slice none 0 0) (.slice none 0 0)).drew
    refine bodyPost_ret (results_row3 (l := [_, _, _, _, _, _, _, _]) rfl _ _ _ rfl hfin Tryz.underlying31 rfl (by kernel_rfl)) rfl ?_
    exact parse_bad_fin HP.out (by omega) (below_set8 HB4.out (Nat.le_refl _) (.int .i64 0) (.bool false) (.bool false) (.string ⟨#[]⟩) (.int .i64 0) (.string ⟨#[]⟩) (.slice none 0 0) (.slice none 0 0)).drew
  | ok v0 u =>
   obtain rfl := hv v0 u rfl
   obtain ⟨a9, hb, h1, h2⟩ := hA
   cases u with
   | nil =>
    simp only [List.length_nil, Nat.add_zero] at h1
    obtain ⟨c0, c1, c2, c3, c4⟩ := (hb.on hb4).five
    have rf := (hb.on hb4).frozen
    obtain ⟨y0, y1, y2, y3, y4, y5, y6, y7⟩ := BOX.out.eight
    have t2 : decide ((a9 : Int) < (s.size : Int)) = false := by simp; omega
    have HIN4 := Lib.hid (show v.In ((w3.alloc (.cells #[.int .i64 k1, .bool b1, .bool n1, .string ⟨g1.toArray⟩, .int .i64 x1, .string ⟨s1.toArray⟩, .slice A1 l1 p1, .slice B1 m1 d1] 31)).on (w.heap.size + 1 ≤ ·)) (vlV k1 b1 n1 g1 x1 s1 (.slice A1 l1 p1) (.slice B1 m1 d1)) from In.keep (fun p u hp => by
     obtain ⟨hp1, hp2⟩ := on_some.1 hp
     exact on_some.2 ⟨by omega, by rw [hb4.cell (World.block_lt_of_cell? w3 _ hp2)]; exact hp2⟩) _ _ HIN.out)
    have HP4 := Lib.hid (show Ps.parse s.data.toList = .ok v [] from HP.out)
    clear hv hb hb4
    go_upto_region 5 with (fail)
    generalize w3.alloc (.cells #[.int .i64 k1, .bool b1, .bool n1, .string ⟨g1.toArray⟩, .int .i64 x1, .string ⟨s1.toArray⟩, .slice A1 l1 p1, .slice B1 m1 d1] 31) = w4 at *
    go_wp2_with fail
    have hfin := HZ4.out.set8 (.int .i64 k1) (.bool b1) (.bool n1) (.string ⟨g1.toArray⟩) (.int .i64 x1) (.string ⟨s1.toArray⟩) (.slice A1 l1 p1) (.slice B1 m1 d1)
    refine bodyPost_ret (results_row3 (l := [_, _, _, _, _, _, _, _]) rfl _ _ _ rfl hfin Tryz.underlying31 rfl (by kernel_rfl)) rfl ?_
    refine ⟨v, _, 0, 0, rfl, in_set8 HIN4.out (Nat.lt_succ_self _) (Nat.le_succ _) (.int .i64 k1) (.bool b1) (.bool n1) (.string ⟨g1.toArray⟩) (.int .i64 x1) (.string ⟨s1.toArray⟩) (.slice A1 l1 p1) (.slice B1 m1 d1), below_set8 HB4.out (Nat.le_refl _) (.int .i64 k1) (.bool b1) (.bool n1) (.string ⟨g1.toArray⟩) (.int .i64 x1) (.string ⟨s1.toArray⟩) (.slice A1 l1 p1) (.slice B1 m1 d1), ?_⟩
    rw [HP4.out]
    exact ⟨rfl, rfl, rfl⟩
   | cons q u =>
    have hlen : (q :: u).length = u.length + 1 := rfl
    obtain ⟨c0, c1, c2, c3, c4⟩ := (hb.on hb4).five
    have rf := (hb.on hb4).frozen
    have t2 : decide ((a9 : Int) < (s.size : Int)) = true := by simp; omega
    have HF := Lib.hid (fail_ok (show Rd (w3.alloc (.cells #[.int .i64 k1, .bool b1, .bool n1, .string ⟨g1.toArray⟩, .int .i64 x1, .string ⟨s1.toArray⟩, .slice A1 l1 p1, .slice B1 m1 d1] 31)) (w.heap.size + 1) s a9 (q :: u) 0 from ⟨hb.on hb4, h1, h2⟩) a9 1 (q :: u).length h1 (Nat.le_refl _))
    have HP4 := Lib.hid (show Ps.parse s.data.toList = .bad 1 (q :: u).length from HP.out)
    have hsz4 : w.heap.size + 1 < (w3.alloc (.cells #[.int .i64 k1, .bool b1, .bool n1, .string ⟨g1.toArray⟩, .int .i64 x1, .string ⟨s1.toArray⟩, .slice A1 l1 p1, .slice B1 m1 d1] 31)).heap.size := by have := hb4.size; omega
    clear hv hb hb4
    go_upto_region 5 with (fail)
    generalize w3.alloc (.cells #[.int .i64 k1, .bool b1, .bool n1, .string ⟨g1.toArray⟩, .int .i64 x1, .string ⟨s1.toArray⟩, .slice A1 l1 p1, .slice B1 m1 d1] 31) = w4 at *
    go_wp2_with fail
    refine HF.out.mono ?_
    rintro e w5 ⟨rfl, hRB5, hS5⟩
    have HZ5 := Lib.hid (hS5.blk HZ4.out (by omega))
    have HB5 := Lib.hid (HB4.out.trans (hS5.below (B := w.heap.size) (by omega) (by omega)))
    obtain ⟨a5, d5, p5, hb5, h3, _⟩ := hRB5
    clear c0 c1 c2 c3 c4 z0 z1 z2 z3 z4 z5 z6 z7 zf rf hS5
    obtain ⟨c0, c1, c2, c3, c4⟩ := hb5.five
    obtain ⟨z0, z1, z2, z3, z4, z5, z6, z7⟩ := HZ5.out.eight
    have zf := HZ5.out.frozen
    clear hb5
    go_wp2_with fail
    go_region
    all_goals
     go_wp2_with fail
     have hfin := (HZ5.out.set8 (.int .i64 0) (.bool false) (.bool false) (.string ⟨#[]⟩) (.int .i64 0) (.string ⟨#[]⟩) (.slice none 0 0) (.slice none 0 0)).drew
     refine bodyPost_ret (results_row3 (l := [_, _, _, _, _, _, _, _]) rfl _ _ _ rfl hfin Tryz.underlying31 rfl (by kernel_rfl)) rfl ?_
     exact parse_bad_fin HP4.out h3 (below_set8 HB5.out (Nat.le_refl _) (.int .i64 0) (.bool false) (.bool false) (.string ⟨#[]⟩) (.int .i64 0) (.string ⟨#[]⟩) (.slice none 0 0) (.slice none 0 0)).drew

end Go.Proofs.YtolkfgikomminaaGreatDoor

namespace Go.Proofs.YtolkfgikomminaaGreatDoor
open Go.RowKit Js

def VlPost (s : ByteArray) (w : World) (e : Ending) (w' : World) : Prop :=
 Below w.heap.size w w' ∧ ((∃ x, e = .returned (.tuple #[x, .int .i64 0]) ∧ Vl.In (w'.on (w.heap.size ≤ ·)) Ps.mkN x) ∨
  (∃ v u x, s.size ≤ 2000 ∧ Ps.parse s.data.toList = .ok v u ∧ e = .returned (.tuple #[x, .int .i64 1]) ∧ v.In (w'.on (w.heap.size ≤ ·)) x))

set_option linter.unusedSimpArgs false in
set_option linter.unusedVariables false in
set_option maxRecDepth 100000 in
set_option maxHeartbeats 4000000 in
theorem value_law (s : ByteArray) (hs : s.size ≤ 1000000000000000000) (w : World) : Calls Tryz.prog 7 #[.string s] w (VlPost s w) := by
 have HZ := Lib.hid (Blk.new w 31 zero8)
 by_cases hbig : 2000 < s.size
 ·have t1 : decide ((2000 : Int) < (s.size : Int)) = true := by simp; omega
  obtain ⟨z0, z1, z2, z3, z4, z5, z6, z7⟩ := HZ.out.eight
  have zf := HZ.out.frozen
  go_enter Tryz.func7, Tryz.ntmps7
  go_wp2_with fail
  refine bodyPost_ret (results_row (l := [_, _, _, _, _, _, _, _]) rfl _ _ _ rfl HZ.out Tryz.underlying31 rfl (by kernel_rfl)) rfl ?_
  exact ⟨(Below.refl _ _).alloc (Nat.le_refl _) _, .inl ⟨_, rfl, leaf_in _ 0 false Nm.Num.zero []⟩⟩
 ·have t1 : decide ((2000 : Int) < (s.size : Int)) = false := by simp; omega
  have HP := Lib.hid (refParse_any s (by omega) (w.alloc (.cells zero8 31)))
  have HB := Lib.hid (show Below w.heap.size w (w.alloc (.cells zero8 31)) from (Below.refl _ _).alloc (Nat.le_refl _) _)
  go_enter Tryz.func7, Tryz.ntmps7
  go_wp2_with fail
  refine HP.out.mono ?_
  rintro e w3 ⟨v, x, c, p, rfl, hin, hb3, hp⟩
  obtain ⟨k1, b1, n1, g1, x1, s1, A1, l1, p1, B1, m1, d1, rfl⟩ := In.cells hin
  rw [show (w.alloc (.cells zero8 31)).heap.size = w.heap.size + 1 by simp] at hin hb3
  have hsz : w.heap.size + 1 ≤ w3.heap.size := hb3.size |> fun h => by simp at h; omega
  have hsz0 : w.heap.size < w3.heap.size := by omega
  have HZ3 := Lib.hid (HZ.out.below hb3 (by omega))
  have HB3 := Lib.hid (HB.out.trans (hb3.mono (by omega)))
  have hb4 := (Below.refl w3.heap.size w3).alloc (Nat.le_refl _) (.cells #[.int .i64 k1, .bool b1, .bool n1, .string ⟨g1.toArray⟩, .int .i64 x1, .string ⟨s1.toArray⟩, .slice A1 l1 p1, .slice B1 m1 d1] 31)
  have BOX := Lib.hid (Blk.new w3 31 #[.int .i64 k1, .bool b1, .bool n1, .string ⟨g1.toArray⟩, .int .i64 x1, .string ⟨s1.toArray⟩, .slice A1 l1 p1, .slice B1 m1 d1])
  have HZ4 := Lib.hid (HZ3.out.on hb4)
  have HB4 := Lib.hid (HB3.out.trans (hb4.mono (by omega)))
  have HIN4 := Lib.hid (show v.In ((w3.alloc (.cells #[.int .i64 k1, .bool b1, .bool n1, .string ⟨g1.toArray⟩, .int .i64 x1, .string ⟨s1.toArray⟩, .slice A1 l1 p1, .slice B1 m1 d1] 31)).on (w.heap.size + 1 ≤ ·)) (vlV k1 b1 n1 g1 x1 s1 (.slice A1 l1 p1) (.slice B1 m1 d1)) from In.keep (fun p u hp => by
     obtain ⟨hp1, hp2⟩ := on_some.1 hp
     exact on_some.2 ⟨by omega, by rw [hb4.cell (World.block_lt_of_cell? w3 _ hp2)]; exact hp2⟩) _ _ hin)
  have hc : (c ≠ 0) ∨ (c = 0 ∧ ∃ u, Ps.parse s.data.toList = .ok v u) := by
   cases hq : Ps.parse s.data.toList with
   | ok v0 u =>
    rw [hq] at hp
    exact .inr ⟨hp.2.1, u, by rw [hp.1]⟩
   | bad c0 l =>
    rw [hq] at hp
    have := (Ps.parse_told s.data.toList)
    rw [hq] at this
    left
    rw [hp.2.1]
    have h1 := this.1
    omega
  clear hin hb3 hp hb4
  rcases hc with hc | ⟨rfl, u, hu⟩
  ·have t2 : (c != 0) = true := by simpa using hc
   obtain ⟨z0, z1, z2, z3, z4, z5, z6, z7⟩ := HZ4.out.eight
   have zf := HZ4.out.frozen
   go_upto_region 4 with (fail)
   generalize w3.alloc (.cells #[.int .i64 k1, .bool b1, .bool n1, .string ⟨g1.toArray⟩, .int .i64 x1, .string ⟨s1.toArray⟩, .slice A1 l1 p1, .slice B1 m1 d1] 31) = w4 at *
   go_wp2_with fail
   have hfin := HZ4.out.set8 (.int .i64 0) (.bool false) (.bool false) (.string ⟨#[]⟩) (.int .i64 0) (.string ⟨#[]⟩) (.slice none 0 0) (.slice none 0 0)
   refine bodyPost_ret (results_row (l := [_, _, _, _, _, _, _, _]) rfl _ _ _ rfl hfin Tryz.underlying31 rfl (by kernel_rfl)) rfl ?_
   exact ⟨below_set8 HB4.out (Nat.le_refl _) _ _ _ _ _ _ _ _, .inl ⟨_, rfl, leaf_in _ 0 false Nm.Num.zero []⟩⟩
  ·obtain ⟨z0, z1, z2, z3, z4, z5, z6, z7⟩ := HZ4.out.eight
   have zf := HZ4.out.frozen
   obtain ⟨y0, y1, y2, y3, y4, y5, y6, y7⟩ := BOX.out.eight
   have HU := Lib.hid hu
   clear hu
   go_upto_region 4 with (fail)
   generalize w3.alloc (.cells #[.int .i64 k1, .bool b1, .bool n1, .string ⟨g1.toArray⟩, .int .i64 x1, .string ⟨s1.toArray⟩, .slice A1 l1 p1, .slice B1 m1 d1] 31) = w4 at *
   go_wp2_with fail
   have hfin := HZ4.out.set8 (.int .i64 k1) (.bool b1) (.bool n1) (.string ⟨g1.toArray⟩) (.int .i64 x1) (.string ⟨s1.toArray⟩) (.slice A1 l1 p1) (.slice B1 m1 d1)
   refine bodyPost_ret (results_row (l := [_, _, _, _, _, _, _, _]) rfl _ _ _ rfl hfin Tryz.underlying31 rfl (by kernel_rfl)) rfl ?_
   exact ⟨below_set8 HB4.out (Nat.le_refl _) _ _ _ _ _ _ _ _, .inr ⟨v, u, _, by omega, HU.out, rfl, in_set8 HIN4.out (Nat.lt_succ_self _) (Nat.le_succ _) _ _ _ _ _ _ _ _⟩⟩

end Go.Proofs.YtolkfgikomminaaGreatDoor


