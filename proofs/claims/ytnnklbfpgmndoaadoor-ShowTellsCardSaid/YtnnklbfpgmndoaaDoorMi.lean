/- Mi: We Wf, in one text. -/
import Derived.Test.YtnnklbfpgmndoaaDoorMh
import Derived.Lib.Builder
import Derived.Lib.AppendStr
import Derived.Laws.Externs
import Derived.Lib.SmallJoins
import Derived.Lib.UnsafeStr
import Derived.Lib.AppendIntMem
/- The walks of layer 1 (num), fifth part: the Builder at this translation, Show, the law's Code. -/
namespace Go.Proofs.YtnnklbfpgmndoaaDoor
open Go.RowKit

theorem sizeBuilder : (Tryd.prog.info? 38).map (·.size) = some 2 := by kernel_rfl
theorem liesBuilder : liesAt Tryd.prog Tryd.prog.depth 38 (2 / Tryd.prog.cellsOf 38) 0 38 1 = true := by kernel_rfl
theorem infoByte : (Tryd.prog.info? 5).map (fun i => (i.zero, i.size, i.bytes)) = some (some (.int .u8 0), 1, 1) := by kernel_rfl

set_option maxHeartbeats 1000000 in
set_option maxRecDepth 100000 in
theorem copyCheck_used (b : Nat) (w : World) (h0 : w.cell? ⟨b, 0, none⟩ = some (.pointer (some ⟨b, 0, none⟩))) :
    Calls Tryd.prog 31 #[.pointer (some ⟨b, 0, none⟩)] w fun e w' => e = .returned (.tuple #[]) ∧ w' = w := by
  obtain ⟨j, hj, _⟩ := Option.map_eq_some_iff.1 sizeBuilder
  go_enter Tryd.func31, Tryd.ntmps31
  go_wp2
  rw [Lib.run_neq_ptr_same w _ Tryd.underlying35 hj]
  go_wp2
  go_end0
  exact ⟨rfl, rfl⟩

set_option maxHeartbeats 1000000 in
set_option maxRecDepth 100000 in
theorem copyCheck_fresh (b : Nat) (w : World) (h0 : w.cell? ⟨b, 0, none⟩ = some (.pointer none)) (hsh : w.shape? b = some (38, 2)) (hfz : w.frozen? ⟨b, 0, none⟩ = false) :
    Calls Tryd.prog 31 #[.pointer (some ⟨b, 0, none⟩)] w fun e w' => e = .returned (.tuple #[]) ∧ w' = w.setCell ⟨b, 0, none⟩ (.pointer (some ⟨b, 0, none⟩)) := by
  obtain ⟨j, hj, hjs⟩ := Option.map_eq_some_iff.1 sizeBuilder
  go_enter Tryd.func31, Tryd.ntmps31
  go_wp2
  rw [Lib.run_to_unsafe w ⟨b, 0, none⟩ Tryd.underlying35 Tryd.underlying74 hj (by rw [hjs]; decide) hsh (Nat.zero_lt_succ 1)]
  simp only [Result.andThen]
  rw [Oper.upon_value]
  go_wp2
  rw [run_callFunc_extern Tryd.func40 (by kernel_rfl) (by kernel_rfl) (by kernel_rfl) (e := Extern.AbiNoEscape.same) (by kernel_rfl)]
  rw [Lib.run_noEscape]
  simp only [Result.andThen]
  rw [Oper.upon_value]
  go_wp2
  rw [Lib.run_from_unsafe w ⟨b, 0, none⟩ Tryd.underlying74 Tryd.underlying35 hj hsh liesBuilder]
  simp only [Result.andThen]
  rw [Oper.upon_value]
  go_wp2
  go_end0
  exact ⟨rfl, rfl⟩

/-- Behind copyCheck the builder holds what it held, and its own address. -/
theorem copyCheck_any (B b : Nat) (bs : List Value) (w : World) (h : Lib.IsBuilder 38 5 B b bs w) :
    Calls Tryd.prog 31 #[.pointer (some ⟨b, 0, none⟩)] w fun e w' => e = .returned (.tuple #[]) ∧ (Lib.BuilderAt 38 5 B b (.pointer (some ⟨b, 0, none⟩)) bs w' ∧ Below B w w') := by
  rcases h with h | h
  · refine (copyCheck_fresh b w h.cell0 h.shape h.frozen0).mono ?_
    rintro e w' ⟨rfl, rfl⟩
    exact ⟨rfl, h.used _, (Below.refl B w).setCell (p := ⟨b, 0, none⟩) h.1 _⟩
  · refine (copyCheck_used b w h.cell0).mono ?_
    rintro e w' ⟨rfl, rfl⟩
    exact ⟨rfl, h, Below.refl B _⟩

set_option maxHeartbeats 2000000 in
set_option maxRecDepth 100000 in
/-- WriteByte: a byte more. -/
theorem writeByte_any (B b : Nat) (bs : List Value) (c : Int) (w : World) (h : Lib.IsBuilder 38 5 B b bs w) (hlen : bs.length + 1 ≤ 140737488355328) (hBw : B ≤ w.heap.size) :
    Calls Tryd.prog 33 #[.pointer (some ⟨b, 0, none⟩), .int .u8 c] w fun e w' => e = .returned .nilIface ∧ (Lib.IsBuilder 38 5 B b (bs ++ [.int .u8 c]) w' ∧ Below B w w') := by
  obtain ⟨i0, hi, hz0, hz1, hz2⟩ := info_parts infoByte
  go_enter Tryd.func33, Tryd.ntmps33
  go_wp2_with (go_at_call 31; refine (copyCheck_any B b bs _ h).mono ?_)
  rintro e w1 ⟨rfl, h1, hb1⟩
  obtain ⟨hB, v, hbk, hown, hne⟩ := h1
  have c0 : w1.cell? ⟨b, 0, none⟩ = some (.pointer (some ⟨b, 0, none⟩)) := by rw [Lib.cell_of_heap hbk]; rfl
  have c1 : w1.cell? ⟨b, 1, none⟩ = some v := by rw [Lib.cell_of_heap hbk]; rfl
  go_wp2_with (at_builtin; refine wpList_append_own _ rfl _ _ 36 rfl B 5 i0 (.int .u8 0) 1 1 Tryd.underlying36 hi hz0 hz1 hz2 rfl (by decide) _ _ _ rfl (hown.alloc _) ⟨w1.heap.size, 0, none⟩ 1 1 [.int .u8 c] rfl rfl ?c1 ?c2 ?c3 ?c4 ?c5 ?_)
  case c1 =>
    intro j u hj
    match j, hj with
    | 0, hj => simp at hj; subst hj; simp [Addr.add]
  case c2 => intro u hu; simp at hu; subst hu; rfl
  case c3 => unfold maxLen; omega
  case c4 => omega
  case c5 => have := hb1.size; simp; omega
  intro v' w2 hown' hgrow _
  have hlt : b < w1.heap.size := Lib.BuilderAt.lt (B := B) (p := .pointer (some ⟨b, 0, none⟩)) ⟨hB, v, hbk, hown, hne⟩
  have hb2 : w2.heap[b]? = some (.cells #[.pointer (some ⟨b, 0, none⟩), v] 38 (0, 0)) := by
    rw [hgrow.block b (by simp; omega) (fun e => hne e.symm), Lib.alloc_old w1 _ b hlt]
    exact hbk
  have d0 : w2.cell? ⟨b, 0, none⟩ = some (.pointer (some ⟨b, 0, none⟩)) := by rw [Lib.cell_of_heap hb2]; rfl
  have d1 : w2.cell? ⟨b, 1, none⟩ = some v := by rw [Lib.cell_of_heap hb2]; rfl
  have f1 : w2.frozen? ⟨b, 1, none⟩ = false := Lib.frozen_of_heap hb2 1
  obtain ⟨g, cap, rfl⟩ : ∃ g cap, v' = .slice (some ⟨g, 0, none⟩) (bs.length + 1) cap := by
    rcases hown'.2 with ⟨_, h0⟩ | ⟨g, cap, cur, hv, _⟩
    · omega
    · exact ⟨g, cap, hv⟩
  go_wp2
  go_ret
  refine ⟨rfl, .inr ?_, ?_⟩
  · exact Lib.BuilderAt.put (T := 38) (e := 5) hB hb2 (bs' := bs ++ [.int .u8 c]) (by simpa using hown') (by decide)
  · exact ((hb1.alloc (by have := hb1.size; omega) _).grown hgrow (by have := hb1.size; simp; omega) (fun k hk => (hown.lt k hk).1)).setCell (p := ⟨b, 1, none⟩) hB _

set_option maxHeartbeats 2000000 in
set_option maxRecDepth 100000 in
/-- WriteString: a text more. -/
theorem writeString_any (B b : Nat) (bs : List Value) (s : ByteArray) (w : World) (h : Lib.IsBuilder 38 5 B b bs w) (hlen : bs.length + s.size ≤ 140737488355328) (hBw : B ≤ w.heap.size) :
    Calls Tryd.prog 15 #[.pointer (some ⟨b, 0, none⟩), .string s] w fun e w' => e = .returned (.tuple #[.int .i64 s.size, .nilIface]) ∧ (Lib.IsBuilder 38 5 B b (bs ++ Lib.strCells s) w' ∧ Below B w w') := by
  obtain ⟨i0, hi, hz0, hz1, hz2⟩ := info_parts infoByte
  go_enter Tryd.func15, Tryd.ntmps15
  go_wp2_with (go_at_call 31; refine (copyCheck_any B b bs _ h).mono ?_)
  rintro e w1 ⟨rfl, h1, hb1⟩
  obtain ⟨hB, v, hbk, hown, hne⟩ := h1
  have c0 : w1.cell? ⟨b, 0, none⟩ = some (.pointer (some ⟨b, 0, none⟩)) := by rw [Lib.cell_of_heap hbk]; rfl
  have c1 : w1.cell? ⟨b, 1, none⟩ = some v := by rw [Lib.cell_of_heap hbk]; rfl
  go_wp2_with (at_builtin; refine Lib.wpList_append_own_string _ rfl _ _ 36 9 rfl B 5 i0 Tryd.underlying36 Tryd.underlying9 hi hz0 hz1 hz2 _ _ _ rfl hown s rfl ?c3 ?c4 ?c5 ?_)
  case c3 => unfold maxLen; omega
  case c4 => omega
  case c5 => have := hb1.size; omega
  intro v' w2 hown' hgrow _
  have hlt : b < w1.heap.size := Lib.BuilderAt.lt (B := B) (p := .pointer (some ⟨b, 0, none⟩)) ⟨hB, v, hbk, hown, hne⟩
  have hb2 : w2.heap[b]? = some (.cells #[.pointer (some ⟨b, 0, none⟩), v] 38 (0, 0)) := by
    rw [hgrow.block b hlt (fun e => hne e.symm)]
    exact hbk
  have d0 : w2.cell? ⟨b, 0, none⟩ = some (.pointer (some ⟨b, 0, none⟩)) := by rw [Lib.cell_of_heap hb2]; rfl
  have d1 : w2.cell? ⟨b, 1, none⟩ = some v := by rw [Lib.cell_of_heap hb2]; rfl
  have f1 : w2.frozen? ⟨b, 1, none⟩ = false := Lib.frozen_of_heap hb2 1
  obtain ⟨ao, n', cap, rfl⟩ : ∃ ao n' cap, v' = .slice ao n' cap := by
    rcases hown'.2 with ⟨hv, _⟩ | ⟨g, cap, cur, hv, _⟩
    · exact ⟨_, _, _, hv⟩
    · exact ⟨_, _, _, hv⟩
  go_wp2
  go_ret2
  refine ⟨rfl, .inr ?_, ?_⟩
  · exact Lib.BuilderAt.put (T := 38) (e := 5) hB hb2 (bs' := bs ++ Lib.strCells s) (by simpa [Lib.strCells_length] using hown') (by decide)
  · exact (hb1.grown hgrow (by have := hb1.size; omega) (fun k hk => (hown.lt k hk).1)).setCell (p := ⟨b, 1, none⟩) hB _

end Go.Proofs.YtnnklbfpgmndoaaDoor

/- The walks of layer 1 (num), sixth part: Show. -/
namespace Go.Proofs.YtnnklbfpgmndoaaDoor
open Go.RowKit

/-- The table that Itoa reads: what it holds. -/
abbrev Tab (w : World) : Prop := Lib.TabIs Tryd.prog w "internal/strconv.uint64pow10" .u64 Lib.pow10Tab

theorem Tab.keep {w w' : World} (h : Tab w) (hb : Below w.heap.size w w') : Tab w' :=
  Joins.tab_stays (g := 0) (by kernel_rfl) h hb (Nat.le_refl _)

theorem below_grow (w : World) (k : Nat) (os : Array Obj) : Below w.heap.size w (Sort.grow (w.drewN k) os) :=
  ⟨rfl, rfl, rfl, by simp [Sort.grow], fun j hj => by simp [Sort.grow, Array.getElem?_append_left hj]⟩

theorem builder_keep {T e : TypeId} {B b : Nat} {bs : List Value} {w w' : World} (h : Lib.IsBuilder T e B b bs w) (hb : Below w.heap.size w w') : Lib.IsBuilder T e B b bs w' := by
  have hg : w.grownBy w' none := ⟨hb.os, hb.tape, hb.output, hb.size, fun k hk _ => hb.block k hk⟩
  rcases h with h | h
  all_goals
    have hlt := h.lt
    obtain ⟨hB, v, hbk, hown, hne⟩ := h
  · exact .inl ⟨hB, v, (hb.block b hlt).trans hbk, hown.kept hg (by cases v.ownBlock <;> simp), hne⟩
  · exact .inr ⟨hB, v, (hb.block b hlt).trans hbk, hown.kept hg (by cases v.ownBlock <;> simp), hne⟩

/-- A fresh builder behind one block. -/
theorem builder_fresh (w : World) (o : Obj) : Lib.IsBuilder 38 5 (w.heap.size + 1) (w.heap.size + 1) (Lib.byteCells []) ((w.alloc o).alloc (.cells #[.pointer none, .slice none 0 0] 38)) := by
  have h := Lib.fresh_isBuilder 38 5 (w.alloc o)
  simpa [Lib.byteCells] using h

/-- What the walk of Show knows behind each call: the box, the builder with its bytes, what is older. -/
structure Showing (w : World) (neg : Bool) (ds : List UInt8) (x : Int) (l : List UInt8) (w' : World) : Prop where
  c0 : w'.cell? ⟨w.heap.size, 0, none⟩ = some (.bool neg)
  c1 : w'.cell? ⟨w.heap.size, 1, none⟩ = some (.string ⟨ds.toArray⟩)
  c2 : w'.cell? ⟨w.heap.size, 2, none⟩ = some (.int .i64 x)
  b : Lib.IsBuilder 38 5 (w.heap.size + 1) (w.heap.size + 1) (Lib.byteCells l) w'
  below : Below w.heap.size w w'
  size : w.heap.size + 1 ≤ w'.heap.size

theorem Showing.start (w : World) (neg : Bool) (ds : List UInt8) (x : Int) : Showing w neg ds x [] ((w.alloc (.cells #[.bool neg, .string ⟨ds.toArray⟩, .int .i64 x] 24)).alloc (.cells #[.pointer none, .slice none 0 0] 38)) :=
  ⟨by simp, by simp, by simp, builder_fresh w _, below_two0 w _ _, by simp⟩

theorem Showing.next {w : World} {neg : Bool} {ds : List UInt8} {x : Int} {l l' : List UInt8} {W w' : World} (h : Showing w neg ds x l W) (hb : Below (w.heap.size + 1) W w') (hl : Lib.IsBuilder 38 5 (w.heap.size + 1) (w.heap.size + 1) (Lib.byteCells l') w') : Showing w neg ds x l' w' :=
  ⟨(hb.cell (p := ⟨w.heap.size, 0, none⟩) (Nat.lt_succ_self _)).trans h.c0, (hb.cell (p := ⟨w.heap.size, 1, none⟩) (Nat.lt_succ_self _)).trans h.c1, (hb.cell (p := ⟨w.heap.size, 2, none⟩) (Nat.lt_succ_self _)).trans h.c2, hl, h.below.trans (hb.mono (Nat.le_succ _)), Nat.le_trans h.size hb.size⟩

set_option linter.unusedSimpArgs false in
set_option maxHeartbeats 1000000 in
theorem show_any (neg : Bool) (ds : List UInt8) (x : Int) (w : World) (hn : Nm.Fair ⟨neg, ds, x⟩) (htab : Tab w) :
    Calls Tryd.prog 17 #[.agg #[.bool neg, .string ⟨ds.toArray⟩, .int .i64 x]] w fun e w' => e = .returned (.string ⟨(Nm.text ⟨neg, ds, x⟩).toArray⟩) ∧ Below w.heap.size w w' := by
  obtain ⟨hn1, hn2, hn3⟩ := hn
  simp only at hn1 hn2 hn3
  have HT := Lib.hid htab
  clear htab
  rcases ds with _ | ⟨c, r⟩
  · go_enter Tryd.func17, Tryd.ntmps17
    go_wp2
    go_ret
    exact ⟨rfl, (Below.refl _ _).alloc (Nat.le_refl _) _⟩
  · have h0 := Showing.start w neg (c :: r) x
    cases neg
    · go_enter Tryd.func17, Tryd.ntmps17
      go_wp2_with fail
      refine (writeString_any _ _ _ _ _ h0.b (by rw [Lib.size_mk]; simp [Lib.byteCells] at hn1 ⊢; omega) (by simp)).mono ?_
      rintro e w2 ⟨rfl, b1, hb1⟩
      have h2 := Showing.next h0 hb1 (l' := c :: r) b1
      clear h0 b1 hb1
      obtain ⟨c0, c1, c2, b2, hbl2, hz2⟩ := h2
      have B2 := Lib.hid b2
      clear b2
      by_cases hx : x = 0
      · subst hx
        go_wp2_with fail
        refine (Tryd.Builder_String_any _ _ _ _ B2.out hz2).mono ?_
        rintro e w3 ⟨rfl, hb3⟩
        go_wp2
        go_ret
        exact ⟨by simp [Nm.text], hbl2.trans (hb3.mono (by omega))⟩
      · have e1 : (x == 0) = false := by simpa using hx
        have e2 : (x != 0) = true := by simpa using hx
        have HX := Lib.hid hx
        clear hx
        go_wp2_with fail
        refine (writeByte_any _ _ _ _ _ B2.out (by rw [Lib.byteCells_length]; simp at hn1 ⊢; omega) hz2).mono ?_
        rintro e w3 ⟨rfl, b3, hb3⟩
        obtain ⟨d0, d1, d2, b3, hbl3, hz3⟩ := Showing.next ⟨c0, c1, c2, B2.out, hbl2, hz2⟩ hb3 (l' := (c :: r) ++ [101]) (by rw [Lib.byteCells_append]; exact b3)
        have B3 := Lib.hid b3
        clear b3 c0 c1 c2 hb3
        go_wp2_with fail
        refine (Tryd.strconv_Itoa _ (by omega) (by omega) _ (HT.out.keep hbl3)).mono ?_
        rintro e w4 ⟨rfl, k4, os4, rfl⟩
        have hb4 := below_grow w3 k4 os4
        generalize Sort.grow (w3.drewN k4) os4 = w4 at hb4 ⊢
        have hz4 := hb4.size
        have hit := Lib.itoa_length_le x (by omega) (by omega)
        go_wp2_with fail
        refine (writeString_any _ _ _ _ _ (builder_keep B3.out hb4) (by rw [Lib.size_mk, Lib.byteCells_length]; simp at hn1 ⊢; omega) (by omega)).mono ?_
        rintro e w5 ⟨rfl, b5, hb5⟩
        have b5' : Lib.IsBuilder 38 5 (w.heap.size + 1) (w.heap.size + 1) (Lib.byteCells ((c :: r) ++ [101] ++ Lib.itoa x)) w5 := by rw [Lib.byteCells_append ((c :: r) ++ [101])]; exact b5
        have B5 := Lib.hid b5'
        clear b5 b5'
        have hz5 := hb5.size
        go_wp2_with fail
        refine (Tryd.Builder_String_any _ _ _ _ B5.out (by omega)).mono ?_
        rintro e w6 ⟨rfl, hb6⟩
        go_wp2
        go_ret
        exact ⟨by simp [Nm.text, HX.out], hbl3.trans ((hb4.mono (by omega)).trans ((hb5.mono (by omega)).trans (hb6.mono (by omega))))⟩
    · go_enter Tryd.func17, Tryd.ntmps17
      go_wp2_with fail
      refine (writeByte_any _ _ _ _ _ h0.b (by simp [Lib.byteCells]) (by simp)).mono ?_
      rintro e w1 ⟨rfl, b1, hb1⟩
      have h1 := Showing.next h0 hb1 (l' := [45]) b1
      clear h0 b1 hb1
      obtain ⟨a0, a1, a2, b1, hbl1, hz1⟩ := h1
      have B1 := Lib.hid b1
      clear b1
      go_wp2_with fail
      refine (writeString_any _ _ _ _ _ B1.out (by rw [Lib.size_mk]; simp [Lib.byteCells] at hn1 ⊢; omega) hz1).mono ?_
      rintro e w2 ⟨rfl, b2, hb2⟩
      have h2 := Showing.next ⟨a0, a1, a2, B1.out, hbl1, hz1⟩ hb2 (l' := [45] ++ (c :: r)) (by rw [Lib.byteCells_append]; exact b2)
      clear b2 hb2 a0 a1 a2
      obtain ⟨c0, c1, c2, b2, hbl2, hz2⟩ := h2
      have B2 := Lib.hid b2
      clear b2
      by_cases hx : x = 0
      · subst hx
        go_wp2_with fail
        refine (Tryd.Builder_String_any _ _ _ _ B2.out hz2).mono ?_
        rintro e w3 ⟨rfl, hb3⟩
        go_wp2
        go_ret
        exact ⟨by simp [Nm.text], hbl2.trans (hb3.mono (by omega))⟩
      · have e1 : (x == 0) = false := by simpa using hx
        have e2 : (x != 0) = true := by simpa using hx
        have HX := Lib.hid hx
        clear hx
        go_wp2_with fail
        refine (writeByte_any _ _ _ _ _ B2.out (by rw [Lib.byteCells_length]; simp at hn1 ⊢; omega) hz2).mono ?_
        rintro e w3 ⟨rfl, b3, hb3⟩
        obtain ⟨d0, d1, d2, b3, hbl3, hz3⟩ := Showing.next ⟨c0, c1, c2, B2.out, hbl2, hz2⟩ hb3 (l' := ([45] ++ (c :: r)) ++ [101]) (by rw [Lib.byteCells_append]; exact b3)
        have B3 := Lib.hid b3
        clear b3 c0 c1 c2 hb3
        go_wp2_with fail
        refine (Tryd.strconv_Itoa _ (by omega) (by omega) _ (HT.out.keep hbl3)).mono ?_
        rintro e w4 ⟨rfl, k4, os4, rfl⟩
        have hb4 := below_grow w3 k4 os4
        generalize Sort.grow (w3.drewN k4) os4 = w4 at hb4 ⊢
        have hz4 := hb4.size
        have hit := Lib.itoa_length_le x (by omega) (by omega)
        go_wp2_with fail
        refine (writeString_any _ _ _ _ _ (builder_keep B3.out hb4) (by rw [Lib.size_mk, Lib.byteCells_length]; simp at hn1 ⊢; omega) (by omega)).mono ?_
        rintro e w5 ⟨rfl, b5, hb5⟩
        have b5' : Lib.IsBuilder 38 5 (w.heap.size + 1) (w.heap.size + 1) (Lib.byteCells (([45] ++ (c :: r)) ++ [101] ++ Lib.itoa x)) w5 := by rw [Lib.byteCells_append (([45] ++ (c :: r)) ++ [101])]; exact b5
        have B5 := Lib.hid b5'
        clear b5 b5'
        have hz5 := hb5.size
        go_wp2_with fail
        refine (Tryd.Builder_String_any _ _ _ _ B5.out (by omega)).mono ?_
        rintro e w6 ⟨rfl, hb6⟩
        go_wp2
        go_ret
        exact ⟨by simp [Nm.text, HX.out], hbl3.trans ((hb4.mono (by omega)).trans ((hb5.mono (by omega)).trans (hb6.mono (by omega))))⟩

end Go.Proofs.YtnnklbfpgmndoaaDoor


