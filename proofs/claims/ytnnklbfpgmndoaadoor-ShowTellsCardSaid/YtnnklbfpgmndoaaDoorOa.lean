/- Oa: Pa Pb Pc Pd, in one text. -/
import Derived.Test.YtnnklbfpgmndoaaDoorMm
import Derived.Test.YtnnklbfpgmndoaaDoorYb
import Derived.Test.YtnnklbfpgmndoaaDoorVb
import Derived.Lib.OthersKept
import Derived.Test.YtnnklbfpgmndoaaDoorNd

/- The walks of layer 5 (show), first part: the Builder's writing methods, and what they keep above the builder. -/
namespace Go.Proofs.YtnnklbfpgmndoaaDoor
open Go.RowKit

/-- Every block but the builder's and rows of bytes is as it was. -/
abbrev Kept (b : Nat) (w w' : World) : Prop := Lib.OthersKept 5 (some b) w w'
theorem kept_below {b : Nat} {a w w' : World} (h : Kept b a w) (hb : Below w.heap.size w w') : Kept b a w' := by
  intro k x hk hn hx
  have h1 := h k x hk hn hx
  rw [hb.block k (Array.getElem?_eq_some_iff.1 h1).1]
  exact h1
theorem own_kind {B : Nat} {e : TypeId} {k n : Nat} {v : Value} {bs : List Value} {w : World} (h : w.ownsRow B e k v n bs) : ∀ g, v.ownBlock = some g → ∃ c fz, w.heap[g]? = some (.cells c e fz) := by
  rintro g hg
  rcases h.2 with ⟨hv, _⟩ | ⟨g', cap, cur, hv, _, hcur, _⟩
  · subst hv; simp [Value.ownBlock] at hg
  · subst hv
    simp [Value.ownBlock] at hg
    subst hg
    exact ⟨_, _, hcur⟩

/-- Behind copyCheck the builder holds what it held, and its own address. -/
theorem copyCheck_k (B b : Nat) (bs : List Value) (w : World) (h : Lib.IsBuilder 38 5 B b bs w) :
    Calls Tryd.prog 31 #[.pointer (some ⟨b, 0, none⟩)] w fun e w' => e = .returned (.tuple #[]) ∧ (Lib.BuilderAt 38 5 B b (.pointer (some ⟨b, 0, none⟩)) bs w' ∧ Below B w w' ∧ Kept b w w') := by
  rcases h with h | h
  · refine (copyCheck_fresh b w h.cell0 h.shape h.frozen0).mono ?_
    rintro e w' ⟨rfl, rfl⟩
    exact ⟨rfl, h.used _, (Below.refl B w).setCell (p := ⟨b, 0, none⟩) h.1 _, (Lib.OthersKept.refl _ _ w).setCell ⟨b, 0, none⟩ rfl _⟩
  · refine (copyCheck_used b w h.cell0).mono ?_
    rintro e w' ⟨rfl, rfl⟩
    exact ⟨rfl, h, Below.refl B _, Lib.OthersKept.refl _ _ _⟩

set_option maxHeartbeats 2000000 in
set_option maxRecDepth 100000 in
/-- WriteByte: a byte more. -/
theorem writeByte_k (B b : Nat) (bs : List Value) (c : Int) (w : World) (h : Lib.IsBuilder 38 5 B b bs w) (hlen : bs.length + 1 ≤ 140737488355328) (hBw : B ≤ w.heap.size) :
    Calls Tryd.prog 33 #[.pointer (some ⟨b, 0, none⟩), .int .u8 c] w fun e w' => e = .returned .nilIface ∧ (Lib.IsBuilder 38 5 B b (bs ++ [.int .u8 c]) w' ∧ Below B w w' ∧ Kept b w w') := by
  obtain ⟨i0, hi, hz0, hz1, hz2⟩ := info_parts infoByte
  go_enter Tryd.func33, Tryd.ntmps33
  go_wp2_with (go_at_call 31; refine (copyCheck_k B b bs _ h).mono ?_)
  rintro e w1 ⟨rfl, h1, hb1, hk1⟩
  obtain ⟨hB, v, hbk, hown, hne⟩ := h1
  have c0 : w1.cell? ⟨b, 0, none⟩ = some (.pointer (some ⟨b, 0, none⟩)) := by rw [Lib.cell_of_heap hbk]; rfl
  have c1 : w1.cell? ⟨b, 1, none⟩ = some v := by rw [Lib.cell_of_heap hbk]; rfl
  go_wp2_with (at_builtin; refine wpList_append_own _ rfl _ _ 36 rfl B 5 i0 (.int .u8 0) 1 1 Tryd.underlying36 hi hz0 hz1 hz2 rfl (by decide) _ _ _ rfl (hown.alloc _) ⟨w1.heap.size, 0, none⟩ 1 1 [.int .u8 c] rfl rfl ?c1 ?c2 ?c3 ?c4 ?c5 ?_)
  case c1 =>
    intro j u hj
    match j, hj with
    | 0, hj => simp at hj; subst hj; simp [Addr.add]
  case c2 => intro u hu; simp at hu; subst hu; rfl
  case c3 => unfold maxLen; omega
  case c4 => omega
  case c5 => have := hb1.size; simp; omega
  intro v' w2 hown' hgrow _
  have hlt : b < w1.heap.size := Lib.BuilderAt.lt (B := B) (p := .pointer (some ⟨b, 0, none⟩)) ⟨hB, v, hbk, hown, hne⟩
  have hb2 : w2.heap[b]? = some (.cells #[.pointer (some ⟨b, 0, none⟩), v] 38 (0, 0)) := by
    rw [hgrow.block b (by simp; omega) (fun e => hne e.symm), Lib.alloc_old w1 _ b hlt]
    exact hbk
  have d0 : w2.cell? ⟨b, 0, none⟩ = some (.pointer (some ⟨b, 0, none⟩)) := by rw [Lib.cell_of_heap hb2]; rfl
  have d1 : w2.cell? ⟨b, 1, none⟩ = some v := by rw [Lib.cell_of_heap hb2]; rfl
  have f1 : w2.frozen? ⟨b, 1, none⟩ = false := Lib.frozen_of_heap hb2 1
  obtain ⟨g, cap, rfl⟩ : ∃ g cap, v' = .slice (some ⟨g, 0, none⟩) (bs.length + 1) cap := by
    rcases hown'.2 with ⟨_, h0⟩ | ⟨g, cap, cur, hv, _⟩
    · omega
    · exact ⟨g, cap, hv⟩
  go_wp2
  go_ret
  refine ⟨rfl, .inr ?_, ?_, ((hk1.alloc _).grown hgrow (own_kind (hown.alloc _))).setCell ⟨b, 1, none⟩ rfl _⟩
  · exact Lib.BuilderAt.put (T := 38) (e := 5) hB hb2 (bs' := bs ++ [.int .u8 c]) (by simpa using hown') (by decide)
  · exact ((hb1.alloc (by have := hb1.size; omega) _).grown hgrow (by have := hb1.size; simp; omega) (fun k hk => (hown.lt k hk).1)).setCell (p := ⟨b, 1, none⟩) hB _

set_option maxHeartbeats 2000000 in
set_option maxRecDepth 100000 in
/-- WriteString: a text more. -/
theorem writeString_k (B b : Nat) (bs : List Value) (s : ByteArray) (w : World) (h : Lib.IsBuilder 38 5 B b bs w) (hlen : bs.length + s.size ≤ 140737488355328) (hBw : B ≤ w.heap.size) :
    Calls Tryd.prog 15 #[.pointer (some ⟨b, 0, none⟩), .string s] w fun e w' => e = .returned (.tuple #[.int .i64 s.size, .nilIface]) ∧ (Lib.IsBuilder 38 5 B b (bs ++ Lib.strCells s) w' ∧ Below B w w' ∧ Kept b w w') := by
  obtain ⟨i0, hi, hz0, hz1, hz2⟩ := info_parts infoByte
  go_enter Tryd.func15, Tryd.ntmps15
  go_wp2_with (go_at_call 31; refine (copyCheck_k B b bs _ h).mono ?_)
  rintro e w1 ⟨rfl, h1, hb1, hk1⟩
  obtain ⟨hB, v, hbk, hown, hne⟩ := h1
  have c0 : w1.cell? ⟨b, 0, none⟩ = some (.pointer (some ⟨b, 0, none⟩)) := by rw [Lib.cell_of_heap hbk]; rfl
  have c1 : w1.cell? ⟨b, 1, none⟩ = some v := by rw [Lib.cell_of_heap hbk]; rfl
  go_wp2_with (at_builtin; refine Lib.wpList_append_own_string _ rfl _ _ 36 9 rfl B 5 i0 Tryd.underlying36 Tryd.underlying9 hi hz0 hz1 hz2 _ _ _ rfl hown s rfl ?c3 ?c4 ?c5 ?_)
  case c3 => unfold maxLen; omega
  case c4 => omega
  case c5 => have := hb1.size; omega
  intro v' w2 hown' hgrow _
  have hlt : b < w1.heap.size := Lib.BuilderAt.lt (B := B) (p := .pointer (some ⟨b, 0, none⟩)) ⟨hB, v, hbk, hown, hne⟩
  have hb2 : w2.heap[b]? = some (.cells #[.pointer (some ⟨b, 0, none⟩), v] 38 (0, 0)) := by
    rw [hgrow.block b hlt (fun e => hne e.symm)]
    exact hbk
  have d0 : w2.cell? ⟨b, 0, none⟩ = some (.pointer (some ⟨b, 0, none⟩)) := by rw [Lib.cell_of_heap hb2]; rfl
  have d1 : w2.cell? ⟨b, 1, none⟩ = some v := by rw [Lib.cell_of_heap hb2]; rfl
  have f1 : w2.frozen? ⟨b, 1, none⟩ = false := Lib.frozen_of_heap hb2 1
  obtain ⟨ao, n', cap, rfl⟩ : ∃ ao n' cap, v' = .slice ao n' cap := by
    rcases hown'.2 with ⟨hv, _⟩ | ⟨g, cap, cur, hv, _⟩
    · exact ⟨_, _, _, hv⟩
    · exact ⟨_, _, _, hv⟩
  go_wp2
  go_ret2
  refine ⟨rfl, .inr ?_, ?_, (hk1.grown hgrow (own_kind hown)).setCell ⟨b, 1, none⟩ rfl _⟩
  · exact Lib.BuilderAt.put (T := 38) (e := 5) hB hb2 (bs' := bs ++ Lib.strCells s) (by simpa [Lib.strCells_length] using hown') (by decide)
  · exact (hb1.grown hgrow (by have := hb1.size; omega) (fun k hk => (hown.lt k hk).1)).setCell (p := ⟨b, 1, none⟩) hB _


end Go.Proofs.YtnnklbfpgmndoaaDoor

/- The walks of layer 5 (show), second part: what the writing functions hold to; a member's; a list's. -/
namespace Go.Proofs.YtnnklbfpgmndoaaDoor
open Go.RowKit Js

/-- The builder has these bytes; the table of powers is there. -/
structure Wr (B b : Nat) (out : List UInt8) (w : World) : Prop where
  bd : Lib.IsBuilder 38 5 B b (Lib.byteCells out) w
  le : B ≤ w.heap.size
  tab : Tab w
  low : 0 < B
/-- What has been written, and kept. -/
structure Wrote (B b : Nat) (out : List UInt8) (w w' : World) : Prop where
  wr : Wr B b out w'
  below : Below B w w'
  kept : Kept b w w'

theorem Tab.low {w w' : World} {B : Nat} (h : Tab w) (hb : Below B w w') (hg : 0 < B) : Tab w' := by
  unfold Tab Lib.TabIs World.var? at h ⊢
  have e : Tryd.prog.globalNamed "internal/strconv.uint64pow10" = some 0 := by kernel_rfl
  rw [e] at h ⊢
  simp only [Option.bind_some] at h ⊢
  rw [hb.block _ hg]
  exact h
theorem Wr.on {B b : Nat} {out : List UInt8} {w w' : World} (h : Wr B b out w) (hb : Below w.heap.size w w') : Wr B b out w' :=
  ⟨builder_keep h.bd hb, Nat.le_trans h.le hb.size, h.tab.keep hb, h.low⟩
theorem Wr.start {B b : Nat} {out : List UInt8} {w w' : World} (h : Wr B b out w) (hb : Below w.heap.size w w') : Wrote B b out w w' :=
  ⟨h.on hb, hb.mono h.le, kept_below (Lib.OthersKept.refl _ _ _) hb⟩
theorem Wrote.trans {B b : Nat} {o1 o2 : List UInt8} {w w1 w2 : World} (h : Wrote B b o1 w w1) (k : Wrote B b o2 w1 w2) : Wrote B b o2 w w2 :=
  ⟨k.wr, h.below.trans k.below, h.kept.trans k.kept⟩
theorem Wrote.eq {B b : Nat} {o1 o2 : List UInt8} {w w1 : World} (h : Wrote B b o1 w w1) (e : o1 = o2) : Wrote B b o2 w w1 := e ▸ h
theorem Wrote.blk {B b : Nat} {o : List UInt8} {w w' : World} {g : Nat} {t : TypeId} {cs : Array Value} (h : Wrote B b o w w') (hg : Blk w g t cs) (hn : g ≠ b) (ht : t ≠ 5) : Blk w' g t cs :=
  h.kept g _ hg (fun e => hn (Option.some.inj e)) (fun c fz e => ht (by cases e; rfl))

theorem wr_byte {B b : Nat} {out : List UInt8} {w : World} (h : Wr B b out w) (c : UInt8) (ci : Int) (hc : ci = (c.toNat : Int)) (hl : out.length + 1 ≤ 140737488355328) :
    Calls Tryd.prog 33 #[.pointer (some ⟨b, 0, none⟩), .int .u8 ci] w fun e w' => e = .returned .nilIface ∧ Wrote B b (out ++ [c]) w w' := by
  subst hc
  refine (writeByte_k B b _ _ w h.bd (by rw [Lib.byteCells_length]; exact hl) h.le).mono ?_
  rintro e w' ⟨rfl, h1, h2, h3⟩
  exact ⟨rfl, ⟨by rw [Lib.byteCells_append]; exact h1, Nat.le_trans h.le h2.size, h.tab.low h2 h.low, h.low⟩, h2, h3⟩
theorem wr_text {B b : Nat} {out : List UInt8} {w : World} (h : Wr B b out w) (l : List UInt8) (hl : out.length + l.length ≤ 140737488355328) :
    Calls Tryd.prog 15 #[.pointer (some ⟨b, 0, none⟩), .string ⟨l.toArray⟩] w fun e w' => e = .returned (.tuple #[.int .i64 l.length, .nilIface]) ∧ Wrote B b (out ++ l) w w' := by
  refine (writeString_k B b _ ⟨l.toArray⟩ w h.bd (by rw [Lib.byteCells_length, Lib.size_mk]; exact hl) h.le).mono ?_
  rintro e w' ⟨rfl, h1, h2, h3⟩
  exact ⟨by rw [Lib.size_mk], ⟨by rw [Lib.byteCells_append]; exact h1, Nat.le_trans h.le h2.size, h.tab.low h2 h.low, h.low⟩, h2, h3⟩

theorem qc_one (c : UInt8) : 1 ≤ (St.qc c).length := by
  unfold St.qc; repeat' split
  all_goals simp
theorem qb_ge (l : List UInt8) : l.length ≤ (St.qb l).length := by
  induction l with
  | nil => simp [St.qb]
  | cons c t ih => rw [St.qb_cons, List.length_append, List.length_cons]; have := qc_one c; omega
theorem Wr.lt {B b : Nat} {out : List UInt8} {w : World} (h : Wr B b out w) : b < w.heap.size := by
  rcases h.bd with h | h
  all_goals exact h.lt

/-- What write does with a value. -/
def WrC (v : Vl) : Prop := ∀ (B b : Nat) (out : List UInt8) (w : World) (x : Value), Wr B b out w → v.In (w.on (· < B)) x → v.may = true → out.length + v.shown.length ≤ 1000000 →
  Calls Tryd.prog 9 #[.pointer (some ⟨b, 0, none⟩), x] w fun e w' => e = .returned (.tuple #[]) ∧ Wrote B b (out ++ v.shown) w w'

theorem le_low {B : Nat} {w w' : World} (h : Below B w w') : Cl.le (w.on (· < B)) (w'.on (· < B)) := fun p u hp => by
  obtain ⟨h1, h2⟩ := on_some.1 hp
  exact on_some.2 ⟨h1, (h.cell h1).trans h2⟩

set_option linter.unusedVariables false in
set_option maxRecDepth 100000 in
set_option maxHeartbeats 2000000 in
theorem writeMember_any {B b : Nat} {out key : List UInt8} {v : Vl} {k1 : Int} {b1 n1 : Bool} {g1 : List UInt8} {x1 : Int} {s1 : List UInt8} {A1 : Option Addr} {l1 p1 : Nat} {B1 : Option Addr} {m1 d1 : Nat} {w : World}
    (h : Wr B b out w) (hx : v.In (w.on (· < B)) (vlV k1 b1 n1 g1 x1 s1 (.slice A1 l1 p1) (.slice B1 m1 d1))) (hv : v.may = true) (HC : WrC v) (hl : out.length + ((St.quote key).length + (v.shown.length + 1)) ≤ 1000000) :
    Calls Tryd.prog 21 #[.pointer (some ⟨b, 0, none⟩), .agg #[.string ⟨key.toArray⟩, .int .i64 k1, .bool b1, .bool n1, .string ⟨g1.toArray⟩, .int .i64 x1, .string ⟨s1.toArray⟩, .slice A1 l1 p1, .slice B1 m1 d1]] w
      fun e w' => e = .returned (.tuple #[]) ∧ Wrote B b (out ++ shownP (key, v)) w w' := by
  have hkl : key.length ≤ (St.quote key).length := by
    rw [St.quote_length]; have := qb_ge key; omega
  have HX := Lib.hid hx
  have HV := Lib.hid hv
  have hW0 := h.start ((Below.refl _ _).alloc (Nat.le_refl _) (.cells #[.string ⟨key.toArray⟩, .int .i64 k1, .bool b1, .bool n1, .string ⟨g1.toArray⟩, .int .i64 x1, .string ⟨s1.toArray⟩, .slice A1 l1 p1, .slice B1 m1 d1] 44))
  have HW0 := Lib.hid hW0
  have HB0 := Lib.hid (Blk.new w 44 #[.string ⟨key.toArray⟩, .int .i64 k1, .bool b1, .bool n1, .string ⟨g1.toArray⟩, .int .i64 x1, .string ⟨s1.toArray⟩, .slice A1 l1 p1, .slice B1 m1 d1])
  have hne : w.heap.size ≠ b := fun e => by have := h.lt; omega
  have HNE := Lib.hid hne
  have HCC := Lib.hid HC
  clear HC h hx hv hW0 hne
  go_enter Tryd.func21, Tryd.ntmps21
  go_wp2_with fail
  refine (quote_any ⟨key.toArray⟩ _ (by rw [Lib.size_mk]; omega)).mono ?_
  rintro e w1 ⟨rfl, hb1⟩
  have HW1 := Lib.hid (HW0.out.trans (HW0.out.wr.start hb1))
  have HB1 := Lib.hid (HB0.out.on hb1)
  clear hb1
  go_wp2_with fail
  refine (wr_text HW1.out.wr (St.quote key) (by omega)).mono ?_
  rintro e w2 ⟨rfl, hw2⟩
  have HW2 := Lib.hid (HW1.out.trans hw2)
  have HB2 := Lib.hid (hw2.blk HB1.out HNE.out (by decide))
  clear hw2
  go_wp2_with fail
  refine (wr_byte HW2.out.wr 58 58 rfl (by rw [List.length_append]; omega)).mono ?_
  rintro e w3 ⟨rfl, hw3⟩
  have HW3 := Lib.hid (HW2.out.trans hw3)
  have hb3 := (hw3.blk HB2.out HNE.out (by decide))
  obtain ⟨e0, e1, e2, e3, e4, e5, e6, e7, e8⟩ := hb3.nine
  clear hw3 hb3
  go_wp2_with fail
  refine (HCC.out B b _ w3 _ HW3.out.wr (In.keep (le_low HW3.out.below) _ _ HX.out) HV.out (by simp only [List.length_append, List.length_singleton]; omega)).mono ?_
  rintro e w4 ⟨rfl, hw4⟩
  go_wp2_with fail
  go_end0
  exact ⟨rfl, (HW3.out.trans hw4).eq (by simp [shownP])⟩

end Go.Proofs.YtnnklbfpgmndoaaDoor

/- The walks of layer 5 (show), third part: writeList, at values and at members. (By gen_wlist.py.) -/
namespace Go.Proofs.YtnnklbfpgmndoaaDoor
open Go.RowKit Js

theorem shownL_len (l : List Vl) (j : Nat) (h : j < l.length) : (shownL (l.take j)).length + (1 + l[j].shown.length) ≤ (shownL l).length := by
  have e : shownL l = shownL (l.take (j + 1)) ++ shownL (l.drop (j + 1)) := by rw [← shownL_append, List.take_append_drop]
  rw [e, shownL_take l j h]
  simp only [List.length_append, List.length_cons]
  omega
theorem shownM_len (m : List Js.Mem) (j : Nat) (h : j < m.length) : (shownM (m.take j)).length + (1 + ((St.quote m[j].1).length + (m[j].2.shown.length + 1))) ≤ (shownM m).length := by
  have e : shownM m = shownM (m.take (j + 1)) ++ shownM (m.drop (j + 1)) := by rw [← shownM_append, List.take_append_drop]
  rw [e, shownM_take m j h]
  simp only [List.length_append, List.length_cons]
  omega
theorem may_at {l : List Vl} (h : mayL l = true) {j : Nat} (hj : j < l.length) : l[j].may = true := by
  have h := (mayL_iff _).1 h
  exact h _ (List.getElem_mem _)
theorem may_atM {m : List Js.Mem} (h : mayM m = true) {j : Nat} (hj : j < m.length) : m[j].2.may = true := by
  have h := (mayM_iff _).1 h
  exact (h _ (List.getElem_mem _)).2
theorem tail_len {α : Type} (l : List α) : l.tail.length = l.length - 1 := by simp

/-- How far the list has been written. -/
def Listing (B b : Nat) (c : UInt8) (out : List UInt8) (n : Nat) (f : Nat → List UInt8) (w : World) (i : Value) (wr : World) : Prop :=
  ∃ j : Nat, j ≤ n ∧ i = .int .i64 j ∧ Wrote B b (out ++ c :: (f j).tail) w wr

set_option linter.unusedVariables false in
set_option linter.unusedSimpArgs false in
set_option maxRecDepth 100000 in
set_option maxHeartbeats 600000 in
theorem writeV_any {B b : Nat} {out : List UInt8} {l : List Vl} {A : Option Addr} {e : Nat} {w : World} (h : Wr B b out w) (hs : SlL (w.on (· < B)) A l) (he : l.length ≤ e) (hm : e ≤ maxLen) (hmay : mayL l = true) (HC : ∀ v ∈ l, WrC v) (hl : out.length + (shownL l).length + 2 ≤ 1000001) :
    Calls Tryd.prog 19 #[.pointer (some ⟨b, 0, none⟩), .string ⟨#[91, 93]⟩, .slice A l.length e, .func (.func 9) #[] #[]] w fun e w' => e = .returned (.tuple #[]) ∧ Wrote B b (out ++ 91 :: ((shownL l).tail ++ [93])) w w' := by
  unfold maxLen at hm
  have HS := Lib.hid hs
  have HCC := Lib.hid HC
  have HMAY := Lib.hid hmay
  have HN := Lib.hid (wr_byte h 91 91 rfl (by omega))
  clear hs HC hmay h
  go_enter Tryd.func19, Tryd.ntmps19
  go_wp2_with fail
  refine HN.out.mono ?_
  rintro e w1 ⟨rfl, hw1⟩
  have HW1 := Lib.hid hw1
  clear hw1
  go_wp2_with fail
  go_loopw [16] (Listing B b 91 out l.length (fun j => shownL (l.take j)) w) (fun i _ => l.length - (intOf i).toNat)
  case atStart => exact ⟨0, by omega, rfl, HW1.out.eq (by simp [shownL])⟩
  case round =>
    obtain ⟨j, hj, rfl, hW⟩ := hrel
    have HW := Lib.hid hW
    clear hW HN
    by_cases hlt : j < l.length
    · obtain ⟨g, o, y, rfl, hy, hc⟩ := HS.out j _ (List.getElem?_eq_getElem hlt)
      obtain ⟨k1, b1, n1, g1, x1, s1, A1, l1, p1, B1, m1, d1, rfl⟩ := In.cells hy
      have hle : Cl.le (w.on (· < B)) (wr.on (· < B)) := le_low HW.out.below
      have hlen := shownL_len l j hlt
      obtain ⟨e0, e1, e2, e3, e4, e5, e6, e7⟩ := (hc.keep (hle.trans (le_on _ _))).eight

      have HY := Lib.hid hy
      have HVM := Lib.hid (may_at HMAY.out hlt)
      have HCV := Lib.hid (HCC.out l[j] (List.getElem_mem _))
      have htl := tail_len (shownL (l.take j))
      have HTK := Lib.hid (shownL_take l j hlt)
      generalize l[j] = v at *
      have hbx := Blk.new wr 28 #[.int .i64 k1, .bool b1, .bool n1, .string ⟨g1.toArray⟩, .int .i64 x1, .string ⟨s1.toArray⟩, .slice A1 l1 p1, .slice B1 m1 d1]
      have hbl := (Below.refl wr.heap.size wr).alloc (Nat.le_refl _) (.cells #[.int .i64 k1, .bool b1, .bool n1, .string ⟨g1.toArray⟩, .int .i64 x1, .string ⟨s1.toArray⟩, .slice A1 l1 p1, .slice B1 m1 d1] 28)
      have HBX := Lib.hid hbx
      have HWX := Lib.hid (HW.out.trans (HW.out.wr.start hbl))
      have HNE := Lib.hid (show wr.heap.size ≠ b by have := HW.out.wr.lt; omega)
      clear hc hy hle hbx hbl 
      by_cases h0 : j = 0
      · have hd0 : decide (0 < j) = false := by simp [h0]
        have HEN := Lib.hid hlen
        have HTT := Lib.hid htl
        have HJ0 := Lib.hid h0
        clear hlen htl h0
        go_wp2_with fail
        have hlen := HEN.out
        have htl0 := HTT.out
        have h0 := HJ0.out
        have hz0 : (shownL (l.take j)).length = 0 := by rw [h0]; simp [shownL]
        refine (HCV.out B b _ _ _ HWX.out.wr (In.keep (le_low HWX.out.below) _ _ HY.out) HVM.out (by simp only [List.length_append, List.length_cons, List.length_singleton, List.length_nil, htl0, hz0]; omega)).mono ?_
        rintro e' w2 ⟨rfl, hw2⟩
        have HW2 := Lib.hid (HWX.out.trans hw2)
        clear hw2
        go_wp2_with fail
        go_roundw
        case rel => exact ⟨j + 1, by omega, by go_num, HW2.out.eq (by have h0 := HJ0.out; subst h0; show _ = out ++ (91 : UInt8) :: (shownL (List.take (0 + 1) l)).tail; rw [HTK.out]; simp [shownL])⟩
        case measure => simp [intOf]; omega
      · have hd0 : decide (0 < j) = true := by simp; omega
        have hout : (out ++ (91 : UInt8) :: (shownL (l.take j)).tail).length = out.length + ((shownL (l.take j)).length - 1 + 1) := by rw [List.length_append, List.length_cons, htl]
        have hne : 1 ≤ (shownL (l.take j)).length := by
          cases hq : l.take j with
          | nil => have := congrArg List.length hq; rw [List.length_take, List.length_nil] at this; omega
          | cons a r => simp [shownL]
        have HTL := Lib.hid (show (shownL (l.take (j + 1))).tail = (shownL (l.take j)).tail ++ 44 :: v.shown by
          rw [HTK.out]
          cases hq : shownL (l.take j) with
          | nil => rw [hq] at hne; simp at hne
          | cons a r => simp)
        have HB1 := Lib.hid (wr_byte HWX.out.wr 44 44 rfl (by show (out ++ (91 : UInt8) :: (shownL (l.take j)).tail).length + 1 ≤ _; omega))
        have HEN := Lib.hid hlen
        have HTT := Lib.hid htl
        have HNN := Lib.hid hne
        have HJ0 := Lib.hid h0
        clear hlen htl hout hne h0
        go_wp2_with fail
        refine HB1.out.mono ?_
        rintro e' w2 ⟨rfl, hw2⟩
        have HW2 := Lib.hid (HWX.out.trans hw2)
        have hb2 := hw2.blk HBX.out HNE.out (by decide)
        obtain ⟨f0, f1, f2, f3, f4, f5, f6, f7⟩ := hb2.eight
        clear hw2 hb2
        go_wp2_with fail
        have hlen := HEN.out
        have htl0 := HTT.out
        have hne := HNN.out
        refine (HCV.out B b _ _ _ HW2.out.wr (In.keep (le_low HW2.out.below) _ _ HY.out) HVM.out (by simp only [List.length_append, List.length_cons, List.length_singleton, List.length_nil, htl0]; omega)).mono ?_
        rintro e' w3 ⟨rfl, hw3⟩
        have HW3 := Lib.hid (HW2.out.trans hw3)
        clear hw3
        go_wp2_with fail
        go_roundw
        case rel => exact ⟨j + 1, by omega, by go_num, HW3.out.eq (by show _ = out ++ (91 : UInt8) :: (shownL (List.take (j + 1) l)).tail; rw [HTL.out]; simp [])⟩
        case measure => simp [intOf]; omega
    · obtain rfl : j = l.length := by omega
      have HT := Lib.hid (show l.take l.length = l from List.take_length)
      have htl := tail_len (shownL l)
      have HW4 := Lib.hid (HW.out.eq (o2 := out ++ 91 :: (shownL l).tail) (by simp only [HT.out]))
      have HB4 := Lib.hid (wr_byte HW4.out.wr 93 93 rfl (by rw [List.length_append, List.length_cons, htl]; omega))
      go_wp2_with fail
      refine HB4.out.mono ?_
      rintro e' w2 ⟨rfl, hw2⟩
      go_wp2_with fail
      go_end0
      exact ⟨rfl, (HW4.out.trans hw2).eq (by simp)⟩

set_option linter.unusedVariables false in
set_option linter.unusedSimpArgs false in
set_option maxRecDepth 100000 in
set_option maxHeartbeats 600000 in
theorem writeM_any {B b : Nat} {out : List UInt8} {l : List Js.Mem} {A : Option Addr} {e : Nat} {w : World} (h : Wr B b out w) (hs : SlM (w.on (· < B)) A l) (he : l.length ≤ e) (hm : e ≤ maxLen) (hmay : mayM l = true) (HC : ∀ p ∈ l, WrC p.2) (hl : out.length + (shownM l).length + 2 ≤ 1000001) :
    Calls Tryd.prog 20 #[.pointer (some ⟨b, 0, none⟩), .string ⟨#[123, 125]⟩, .slice A l.length e, .func (.func 21) #[] #[]] w fun e w' => e = .returned (.tuple #[]) ∧ Wrote B b (out ++ 123 :: ((shownM l).tail ++ [125])) w w' := by
  unfold maxLen at hm
  have HS := Lib.hid hs
  have HCC := Lib.hid HC
  have HMAY := Lib.hid hmay
  have HN := Lib.hid (wr_byte h 123 123 rfl (by omega))
  clear hs HC hmay h
  go_enter Tryd.func20, Tryd.ntmps20
  go_wp2_with fail
  refine HN.out.mono ?_
  rintro e w1 ⟨rfl, hw1⟩
  have HW1 := Lib.hid hw1
  clear hw1
  go_wp2_with fail
  go_loopw [16] (Listing B b 123 out l.length (fun j => shownM (l.take j)) w) (fun i _ => l.length - (intOf i).toNat)
  case atStart => exact ⟨0, by omega, rfl, HW1.out.eq (by simp [shownM])⟩
  case round =>
    obtain ⟨j, hj, rfl, hW⟩ := hrel
    have HW := Lib.hid hW
    clear hW HN
    by_cases hlt : j < l.length
    · obtain ⟨g, o, y, rfl, hy, hk, hc⟩ := HS.out j _ (List.getElem?_eq_getElem hlt)
      obtain ⟨k1, b1, n1, g1, x1, s1, A1, l1, p1, B1, m1, d1, rfl⟩ := In.cells hy
      have hle : Cl.le (w.on (· < B)) (wr.on (· < B)) := le_low HW.out.below
      have hlen := shownM_len l j hlt
      obtain ⟨e0, e1, e2, e3, e4, e5, e6, e7⟩ := (hc.keep (hle.trans (le_on _ _))).eight
      have ek := (hle.trans (le_on _ _)) _ _ hk
      have HY := Lib.hid hy
      have HVM := Lib.hid (may_atM HMAY.out hlt)
      have HCV := Lib.hid (HCC.out l[j] (List.getElem_mem _))
      have htl := tail_len (shownM (l.take j))
      have HTK := Lib.hid (shownM_take l j hlt)
      generalize l[j] = p at *
      obtain ⟨key, v⟩ := p
      simp only at *
      have hbx := Blk.new wr 44 #[.string ⟨key.toArray⟩, .int .i64 k1, .bool b1, .bool n1, .string ⟨g1.toArray⟩, .int .i64 x1, .string ⟨s1.toArray⟩, .slice A1 l1 p1, .slice B1 m1 d1]
      have hbl := (Below.refl wr.heap.size wr).alloc (Nat.le_refl _) (.cells #[.string ⟨key.toArray⟩, .int .i64 k1, .bool b1, .bool n1, .string ⟨g1.toArray⟩, .int .i64 x1, .string ⟨s1.toArray⟩, .slice A1 l1 p1, .slice B1 m1 d1] 44)
      have HBX := Lib.hid hbx
      have HWX := Lib.hid (HW.out.trans (HW.out.wr.start hbl))
      have HNE := Lib.hid (show wr.heap.size ≠ b by have := HW.out.wr.lt; omega)
      clear hc hy hle hbx hbl hk
      by_cases h0 : j = 0
      · have hd0 : decide (0 < j) = false := by simp [h0]
        have HEN := Lib.hid hlen
        have HTT := Lib.hid htl
        have HJ0 := Lib.hid h0
        clear hlen htl h0
        go_wp2_with fail
        have hlen := HEN.out
        have htl0 := HTT.out
        have h0 := HJ0.out
        have hz0 : (shownM (l.take j)).length = 0 := by rw [h0]; simp [shownM]
        refine (writeMember_any (key := key) HWX.out.wr (In.keep (le_low HWX.out.below) _ _ HY.out) HVM.out HCV.out (by simp only [List.length_append, List.length_cons, List.length_singleton, List.length_nil, htl0, hz0]; omega)).mono ?_
        rintro e' w2 ⟨rfl, hw2⟩
        have HW2 := Lib.hid (HWX.out.trans hw2)
        clear hw2
        go_wp2_with fail
        go_roundw
        case rel => exact ⟨j + 1, by omega, by go_num, HW2.out.eq (by have h0 := HJ0.out; subst h0; show _ = out ++ (123 : UInt8) :: (shownM (List.take (0 + 1) l)).tail; rw [HTK.out]; simp [shownM, shownP])⟩
        case measure => simp [intOf]; omega
      · have hd0 : decide (0 < j) = true := by simp; omega
        have hout : (out ++ (123 : UInt8) :: (shownM (l.take j)).tail).length = out.length + ((shownM (l.take j)).length - 1 + 1) := by rw [List.length_append, List.length_cons, htl]
        have hne : 1 ≤ (shownM (l.take j)).length := by
          cases hq : l.take j with
          | nil => have := congrArg List.length hq; rw [List.length_take, List.length_nil] at this; omega
          | cons a r => simp [shownM]
        have HTL := Lib.hid (show (shownM (l.take (j + 1))).tail = (shownM (l.take j)).tail ++ 44 :: shownP (key, v) by
          rw [HTK.out]
          cases hq : shownM (l.take j) with
          | nil => rw [hq] at hne; simp at hne
          | cons a r => simp [shownP])
        have HB1 := Lib.hid (wr_byte HWX.out.wr 44 44 rfl (by show (out ++ (123 : UInt8) :: (shownM (l.take j)).tail).length + 1 ≤ _; omega))
        have HEN := Lib.hid hlen
        have HTT := Lib.hid htl
        have HNN := Lib.hid hne
        have HJ0 := Lib.hid h0
        clear hlen htl hout hne h0
        go_wp2_with fail
        refine HB1.out.mono ?_
        rintro e' w2 ⟨rfl, hw2⟩
        have HW2 := Lib.hid (HWX.out.trans hw2)
        have hb2 := hw2.blk HBX.out HNE.out (by decide)
        obtain ⟨f0, f1, f2, f3, f4, f5, f6, f7, f8⟩ := hb2.nine
        clear hw2 hb2
        go_wp2_with fail
        have hlen := HEN.out
        have htl0 := HTT.out
        have hne := HNN.out
        refine (writeMember_any (key := key) HW2.out.wr (In.keep (le_low HW2.out.below) _ _ HY.out) HVM.out HCV.out (by simp only [List.length_append, List.length_cons, List.length_singleton, List.length_nil, htl0]; omega)).mono ?_
        rintro e' w3 ⟨rfl, hw3⟩
        have HW3 := Lib.hid (HW2.out.trans hw3)
        clear hw3
        go_wp2_with fail
        go_roundw
        case rel => exact ⟨j + 1, by omega, by go_num, HW3.out.eq (by show _ = out ++ (123 : UInt8) :: (shownM (List.take (j + 1) l)).tail; rw [HTL.out]; simp [shownP])⟩
        case measure => simp [intOf]; omega
    · obtain rfl : j = l.length := by omega
      have HT := Lib.hid (show l.take l.length = l from List.take_length)
      have htl := tail_len (shownM l)
      have HW4 := Lib.hid (HW.out.eq (o2 := out ++ 123 :: (shownM l).tail) (by simp only [HT.out]))
      have HB4 := Lib.hid (wr_byte HW4.out.wr 125 125 rfl (by rw [List.length_append, List.length_cons, htl]; omega))
      go_wp2_with fail
      refine HB4.out.mono ?_
      rintro e' w2 ⟨rfl, hw2⟩
      go_wp2_with fail
      go_end0
      exact ⟨rfl, (HW4.out.trans hw2).eq (by simp)⟩

end Go.Proofs.YtnnklbfpgmndoaaDoor

/- The walks of layer 5 (show), fourth part: write, and Show. -/
namespace Go.Proofs.YtnnklbfpgmndoaaDoor
open Go.RowKit Js

theorem word_null : (⟨#[110, 117, 108, 108]⟩ : ByteArray) = ⟨([110, 117, 108, 108] : List UInt8).toArray⟩ := rfl
theorem bool_shown (b : Bool) : Lib.formatBool b = if b then [116, 114, 117, 101] else [102, 97, 108, 115, 101] := by cases b <;> rfl

set_option linter.unusedVariables false in
set_option linter.unusedSimpArgs false in
set_option maxRecDepth 100000 in
set_option maxHeartbeats 1000000 in
theorem write_any (v : Vl) : WrC v := by
  induction v using Vl.ind with
  | h k b n s l m hl hm =>
  intro B bb out w x h hx hmay hlen
  obtain ⟨A, e, B', d, rfl, q1, q2, q3, q4, q5, q6⟩ := In.form hx
  obtain ⟨m1, m2, m3, m4, m5, m6, m7, m8, m9, m10, m11, m12⟩ := may_own hmay
  have HL := Lib.hid hl
  have HM := Lib.hid (show ∀ p ∈ m, WrC p.2 from hm)
  have H5 := Lib.hid q5
  have H6 := Lib.hid q6
  have HMN := Lib.hid m8
  have HML := Lib.hid m10
  have HMM := Lib.hid m11
  have HW0 := Lib.hid (h.start ((Below.refl _ _).alloc (Nat.le_refl _) (.cells #[.int .i64 k, .bool b, .bool n.neg, .string ⟨n.digits.toArray⟩, .int .i64 n.exp, .string ⟨s.toArray⟩, .slice A l.length e, .slice B' m.length d] 28)))
  have HQ := Lib.hid hlen
  clear hl hm q5 q6 m8 m10 m11 m12 m9 h hx hmay m3 m4 m5 m6 m7 hlen
  have hk : k = 0 ∨ k = 1 ∨ k = 2 ∨ k = 3 ∨ k = 4 ∨ k = 5 := by omega
  clear m1 m2
  rcases hk with rfl | rfl | rfl | rfl | rfl | rfl
  · have hsh : (Vl.mk 0 b n s l m).shown = [110, 117, 108, 108] := by simp [Vl.shown]
    have HSH := Lib.hid hsh
    have HB := Lib.hid (wr_text HW0.out.wr [110, 117, 108, 108] (by have := HQ.out; rw [hsh] at this; simp only [List.length_cons, List.length_nil] at this ⊢; omega))
    clear hsh
    go_enter Tryd.func9, Tryd.ntmps9
    go_wp2_with fail
    refine HB.out.mono ?_
    rintro e' w2 ⟨rfl, hw2⟩
    go_wp2_with fail
    go_end0
    exact ⟨rfl, by rw [HSH.out]; exact HW0.out.trans hw2⟩
  · have hsh : (Vl.mk 1 b n s l m).shown = Lib.formatBool b := by rw [bool_shown]; simp [Vl.shown]
    have HSH := Lib.hid hsh
    have HB := Lib.hid (wr_text HW0.out.wr (Lib.formatBool b) (by have := HQ.out; rw [hsh] at this; omega))
    clear hsh
    go_enter Tryd.func9, Tryd.ntmps9
    go_wp2_with fail
    refine (Tryd.strconv_FormatBool _ _).mono ?_
    rintro e' w1 ⟨rfl, rfl⟩
    go_wp2_with fail
    refine HB.out.mono ?_
    rintro e' w2 ⟨rfl, hw2⟩
    go_wp2_with fail
    go_end0
    exact ⟨rfl, by rw [HSH.out]; exact HW0.out.trans hw2⟩
  · have hsh : (Vl.mk 2 b n s l m).shown = Nm.text n := by simp [Vl.shown]
    have HSH := Lib.hid hsh
    have HQQ := Lib.hid (show out.length + (Nm.text n).length ≤ 1000000 by have := HQ.out; rw [hsh] at this; exact this)
    have HB := Lib.hid (show_any n.neg n.digits n.exp _ (mayNum_May HMN.out).fair HW0.out.wr.tab)
    clear hsh
    go_enter Tryd.func9, Tryd.ntmps9
    go_wp2_with fail
    refine HB.out.mono ?_
    rintro e' w1 ⟨rfl, hb1⟩
    have HW1 := Lib.hid (HW0.out.trans (HW0.out.wr.start hb1))
    clear hb1
    go_wp2_with fail
    refine (wr_text HW1.out.wr (Nm.text n) (by have := HQQ.out; omega)).mono ?_
    rintro e' w2 ⟨rfl, hw2⟩
    go_wp2_with fail
    go_end0
    exact ⟨rfl, by rw [HSH.out]; exact HW1.out.trans hw2⟩
  · have hsh : (Vl.mk 3 b n s l m).shown = St.quote s := by simp [Vl.shown]
    have HSH := Lib.hid hsh
    have HQQ := Lib.hid (show out.length + (St.quote s).length ≤ 1000000 by have := HQ.out; rw [hsh] at this; exact this)
    have HB := Lib.hid (fun w => quote_any ⟨s.toArray⟩ w (by rw [Lib.size_mk]; have := qb_ge s; have := HQQ.out; have := St.quote_length s; omega))
    clear hsh
    go_enter Tryd.func9, Tryd.ntmps9
    go_wp2_with fail
    refine (HB.out _).mono ?_
    rintro e' w1 ⟨rfl, hb1⟩
    have HW1 := Lib.hid (HW0.out.trans (HW0.out.wr.start hb1))
    clear hb1
    go_wp2_with fail
    refine (wr_text HW1.out.wr (St.quote s) (by have := HQQ.out; omega)).mono ?_
    rintro e' w2 ⟨rfl, hw2⟩
    go_wp2_with fail
    go_end0
    exact ⟨rfl, by rw [HSH.out]; exact HW1.out.trans hw2⟩
  · have hsh : (Vl.mk 4 b n s l m).shown = 91 :: ((shownL l).tail ++ [93]) := by simp [Vl.shown]
    have HSH := Lib.hid hsh
    have htl := tail_len (shownL l)
    have HB := Lib.hid (writeV_any HW0.out.wr (show SlL (World.on _ (· < B)) A l from SlL.keep (le_low HW0.out.below) H5.out) q1 q2 HML.out HL.out (by have := HQ.out; rw [hsh] at this; simp only [List.length_cons, List.length_append, List.length_nil, htl] at this; omega))
    clear hsh htl
    go_enter Tryd.func9, Tryd.ntmps9
    go_wp2_with fail
    refine HB.out.mono ?_
    rintro e' w2 ⟨rfl, hw2⟩
    go_wp2_with fail
    go_end0
    exact ⟨rfl, by rw [HSH.out]; exact HW0.out.trans hw2⟩
  · have hsh : (Vl.mk 5 b n s l m).shown = 123 :: ((shownM m).tail ++ [125]) := by simp [Vl.shown]
    have HSH := Lib.hid hsh
    have htl := tail_len (shownM m)
    have HB := Lib.hid (writeM_any HW0.out.wr (show SlM (World.on _ (· < B)) B' m from SlM.keep (le_low HW0.out.below) H6.out) q3 q4 HMM.out HM.out (by have := HQ.out; rw [hsh] at this; simp only [List.length_cons, List.length_append, List.length_nil, htl] at this; omega))
    clear hsh htl
    go_enter Tryd.func9, Tryd.ntmps9
    go_wp2_with fail
    refine HB.out.mono ?_
    rintro e' w2 ⟨rfl, hw2⟩
    go_wp2_with fail
    go_end0
    exact ⟨rfl, by rw [HSH.out]; exact HW0.out.trans hw2⟩

theorem shown_ne {v : Vl} (h : v.may = true) : v.shown ≠ [] := by
  obtain ⟨c, t, e, _⟩ := Ps.shown_first h
  rw [e]; exact List.cons_ne_nil _ _

set_option linter.unusedVariables false in
set_option maxRecDepth 100000 in
set_option maxHeartbeats 1000000 in
theorem showV_any (v : Vl) (x : Value) (w : World) (hx : v.In w.cell? x) (hmay : v.may = true) (hlen : v.shown.length ≤ 1000000) (htab : Tab w) (hg : 0 < w.heap.size) :
    Calls Tryd.prog 6 #[x] w fun e w' => e = .returned (.string ⟨v.shown.toArray⟩) ∧ Below w.heap.size w w' := by
  obtain ⟨k1, b1, n1, g1, x1, s1, A1, l1, p1, B1, m1, d1, rfl⟩ := In.cells hx
  have hb0 : Below w.heap.size w ((w.alloc (.cells #[.int .i64 k1, .bool b1, .bool n1, .string ⟨g1.toArray⟩, .int .i64 x1, .string ⟨s1.toArray⟩, .slice A1 l1 p1, .slice B1 m1 d1] 28)).alloc (.cells #[.pointer none, .slice none 0 0] 38)) := below_two0 w _ _
  have HB0 := Lib.hid hb0
  have HW0 := Lib.hid (show Wr (w.heap.size + 1) (w.heap.size + 1) [] ((w.alloc (.cells #[.int .i64 k1, .bool b1, .bool n1, .string ⟨g1.toArray⟩, .int .i64 x1, .string ⟨s1.toArray⟩, .slice A1 l1 p1, .slice B1 m1 d1] 28)).alloc (.cells #[.pointer none, .slice none 0 0] 38)) from
    ⟨builder_fresh w _, by simp, htab.keep hb0, by omega⟩)
  have HX := Lib.hid (show v.In (World.on _ (· < w.heap.size + 1)) _ from In.keep (fun p u hp => on_some.2 ⟨Nat.lt_succ_of_lt (World.block_lt_of_cell? w _ hp), (hb0.cell (World.block_lt_of_cell? w _ hp)).trans hp⟩) _ _ hx)
  have HC := Lib.hid (write_any v _ _ _ _ _ HW0.out HX.out hmay (by simpa using hlen))
  have HNE := Lib.hid (shown_ne hmay)
  clear hx hb0 htab hmay hlen
  go_enter Tryd.func6, Tryd.ntmps6
  go_wp2_with fail
  refine HC.out.mono ?_
  rintro e w2 ⟨rfl, hw2⟩
  have HW2 := Lib.hid hw2
  clear hw2
  go_wp2_with fail
  refine (Tryd.Builder_String _ _ _ _ HW2.out.wr.bd HNE.out).mono ?_
  rintro e w3 ⟨rfl, hb3⟩
  have HB := Lib.hid (HB0.out.trans ((HW2.out.below.mono (Nat.le_succ _)).trans (hb3.mono (Nat.le_succ _))))
  clear hb3
  go_wp2
  go_ret
  exact ⟨by simp, HB.out⟩

end Go.Proofs.YtnnklbfpgmndoaaDoor

