/- The walks of layer 1 (num), sixth part: Show. -/
import Derived.Test.YtbcoakonjgakbaaDoorWe
import Derived.Lib.SmallJoins
import Derived.Lib.UnsafeStr
import Derived.Lib.AppendIntMem
namespace Go.Proofs.YtbcoakonjgakbaaDoor
open Go.RowKit

/-- The table that Itoa reads: what it holds. -/
abbrev Tab (w : World) : Prop := Lib.TabIs Tryd.prog w "internal/strconv.uint64pow10" .u64 Lib.pow10Tab

theorem Tab.keep {w w' : World} (h : Tab w) (hb : Below w.heap.size w w') : Tab w' :=
  Joins.tab_stays (g := 3) (by kernel_rfl) h hb (Nat.le_refl _)

theorem below_grow (w : World) (k : Nat) (os : Array Obj) : Below w.heap.size w (Sort.grow (w.drewN k) os) :=
  ⟨rfl, rfl, rfl, by simp [Sort.grow], fun j hj => by simp [Sort.grow, Array.getElem?_append_left hj]⟩

theorem builder_keep {T e : TypeId} {B b : Nat} {bs : List Value} {w w' : World} (h : Lib.IsBuilder T e B b bs w) (hb : Below w.heap.size w w') : Lib.IsBuilder T e B b bs w' := by
  have hg : w.grownBy w' none := ⟨hb.os, hb.tape, hb.output, hb.size, fun k hk _ => hb.block k hk⟩
  rcases h with h | h
  all_goals
    have hlt := h.lt
    obtain ⟨hB, v, hbk, hown, hne⟩ := h
  · exact .inl ⟨hB, v, (hb.block b hlt).trans hbk, hown.kept hg (by cases v.ownBlock <;> simp), hne⟩
  · exact .inr ⟨hB, v, (hb.block b hlt).trans hbk, hown.kept hg (by cases v.ownBlock <;> simp), hne⟩

/-- A fresh builder behind one block. -/
theorem builder_fresh (w : World) (o : Obj) : Lib.IsBuilder 63 5 (w.heap.size + 1) (w.heap.size + 1) (Lib.byteCells []) ((w.alloc o).alloc (.cells #[.pointer none, .slice none 0 0] 63)) := by
  have h := Lib.fresh_isBuilder 63 5 (w.alloc o)
  simpa [Lib.byteCells] using h

/-- What the walk of Show knows behind each call: the box, the builder with its bytes, what is older. -/
structure Showing (w : World) (neg : Bool) (ds : List UInt8) (x : Int) (l : List UInt8) (w' : World) : Prop where
  c0 : w'.cell? ⟨w.heap.size, 0, none⟩ = some (.bool neg)
  c1 : w'.cell? ⟨w.heap.size, 1, none⟩ = some (.string ⟨ds.toArray⟩)
  c2 : w'.cell? ⟨w.heap.size, 2, none⟩ = some (.int .i64 x)
  b : Lib.IsBuilder 63 5 (w.heap.size + 1) (w.heap.size + 1) (Lib.byteCells l) w'
  below : Below w.heap.size w w'
  size : w.heap.size + 1 ≤ w'.heap.size

theorem Showing.start (w : World) (neg : Bool) (ds : List UInt8) (x : Int) : Showing w neg ds x [] ((w.alloc (.cells #[.bool neg, .string ⟨ds.toArray⟩, .int .i64 x] 24)).alloc (.cells #[.pointer none, .slice none 0 0] 63)) :=
  ⟨by simp, by simp, by simp, builder_fresh w _, below_two0 w _ _, by simp⟩

theorem Showing.next {w : World} {neg : Bool} {ds : List UInt8} {x : Int} {l l' : List UInt8} {W w' : World} (h : Showing w neg ds x l W) (hb : Below (w.heap.size + 1) W w') (hl : Lib.IsBuilder 63 5 (w.heap.size + 1) (w.heap.size + 1) (Lib.byteCells l') w') : Showing w neg ds x l' w' :=
  ⟨(hb.cell (p := ⟨w.heap.size, 0, none⟩) (Nat.lt_succ_self _)).trans h.c0, (hb.cell (p := ⟨w.heap.size, 1, none⟩) (Nat.lt_succ_self _)).trans h.c1, (hb.cell (p := ⟨w.heap.size, 2, none⟩) (Nat.lt_succ_self _)).trans h.c2, hl, h.below.trans (hb.mono (Nat.le_succ _)), Nat.le_trans h.size hb.size⟩

set_option linter.unusedSimpArgs false in
set_option maxHeartbeats 1000000 in
theorem show_any (neg : Bool) (ds : List UInt8) (x : Int) (w : World) (hn : Nm.Fair ⟨neg, ds, x⟩) (htab : Tab w) :
    Calls Tryd.prog 13 #[.agg #[.bool neg, .string ⟨ds.toArray⟩, .int .i64 x]] w fun e w' => e = .returned (.string ⟨(Nm.text ⟨neg, ds, x⟩).toArray⟩) ∧ Below w.heap.size w w' := by
  obtain ⟨hn1, hn2, hn3⟩ := hn
  simp only at hn1 hn2 hn3
  have HT := Lib.hid htab
  clear htab
  rcases ds with _ | ⟨c, r⟩
  · go_enter Tryd.func13, Tryd.ntmps13
    go_wp2
    go_ret
    exact ⟨rfl, (Below.refl _ _).alloc (Nat.le_refl _) _⟩
  · have h0 := Showing.start w neg (c :: r) x
    cases neg
    · go_enter Tryd.func13, Tryd.ntmps13
      go_wp2_with fail
      refine (writeString_any _ _ _ _ _ h0.b (by rw [Lib.size_mk]; simp [Lib.byteCells] at hn1 ⊢; omega) (by simp)).mono ?_
      rintro e w2 ⟨rfl, b1, hb1⟩
      have h2 := Showing.next h0 hb1 (l' := c :: r) b1
      clear h0 b1 hb1
      obtain ⟨c0, c1, c2, b2, hbl2, hz2⟩ := h2
      have B2 := Lib.hid b2
      clear b2
      by_cases hx : x = 0
      · subst hx
        go_wp2_with fail
        refine (Tryd.Builder_String_any _ _ _ _ B2.out hz2).mono ?_
        rintro e w3 ⟨rfl, hb3⟩
        go_wp2
        go_ret
        exact ⟨by simp [Nm.text], hbl2.trans (hb3.mono (by omega))⟩
      · have e1 : (x == 0) = false := by simpa using hx
        have e2 : (x != 0) = true := by simpa using hx
        have HX := Lib.hid hx
        clear hx
        go_wp2_with fail
        refine (writeByte_any _ _ _ _ _ B2.out (by rw [Lib.byteCells_length]; simp at hn1 ⊢; omega) hz2).mono ?_
        rintro e w3 ⟨rfl, b3, hb3⟩
        obtain ⟨d0, d1, d2, b3, hbl3, hz3⟩ := Showing.next ⟨c0, c1, c2, B2.out, hbl2, hz2⟩ hb3 (l' := (c :: r) ++ [101]) (by rw [Lib.byteCells_append]; exact b3)
        have B3 := Lib.hid b3
        clear b3 c0 c1 c2 hb3
        go_wp2_with fail
        refine (Tryd.strconv_Itoa _ (by omega) (by omega) _ (HT.out.keep hbl3)).mono ?_
        rintro e w4 ⟨rfl, k4, os4, rfl⟩
        have hb4 := below_grow w3 k4 os4
        generalize Sort.grow (w3.drewN k4) os4 = w4 at hb4 ⊢
        have hz4 := hb4.size
        have hit := Lib.itoa_length_le x (by omega) (by omega)
        go_wp2_with fail
        refine (writeString_any _ _ _ _ _ (builder_keep B3.out hb4) (by rw [Lib.size_mk, Lib.byteCells_length]; simp at hn1 ⊢; omega) (by omega)).mono ?_
        rintro e w5 ⟨rfl, b5, hb5⟩
        have b5' : Lib.IsBuilder 63 5 (w.heap.size + 1) (w.heap.size + 1) (Lib.byteCells ((c :: r) ++ [101] ++ Lib.itoa x)) w5 := by rw [Lib.byteCells_append ((c :: r) ++ [101])]; exact b5
        have B5 := Lib.hid b5'
        clear b5 b5'
        have hz5 := hb5.size
        go_wp2_with fail
        refine (Tryd.Builder_String_any _ _ _ _ B5.out (by omega)).mono ?_
        rintro e w6 ⟨rfl, hb6⟩
        go_wp2
        go_ret
        exact ⟨by simp [Nm.text, HX.out], hbl3.trans ((hb4.mono (by omega)).trans ((hb5.mono (by omega)).trans (hb6.mono (by omega))))⟩
    · go_enter Tryd.func13, Tryd.ntmps13
      go_wp2_with fail
      refine (writeByte_any _ _ _ _ _ h0.b (by simp [Lib.byteCells]) (by simp)).mono ?_
      rintro e w1 ⟨rfl, b1, hb1⟩
      have h1 := Showing.next h0 hb1 (l' := [45]) b1
      clear h0 b1 hb1
      obtain ⟨a0, a1, a2, b1, hbl1, hz1⟩ := h1
      have B1 := Lib.hid b1
      clear b1
      go_wp2_with fail
      refine (writeString_any _ _ _ _ _ B1.out (by rw [Lib.size_mk]; simp [Lib.byteCells] at hn1 ⊢; omega) hz1).mono ?_
      rintro e w2 ⟨rfl, b2, hb2⟩
      have h2 := Showing.next ⟨a0, a1, a2, B1.out, hbl1, hz1⟩ hb2 (l' := [45] ++ (c :: r)) (by rw [Lib.byteCells_append]; exact b2)
      clear b2 hb2 a0 a1 a2
      obtain ⟨c0, c1, c2, b2, hbl2, hz2⟩ := h2
      have B2 := Lib.hid b2
      clear b2
      by_cases hx : x = 0
      · subst hx
        go_wp2_with fail
        refine (Tryd.Builder_String_any _ _ _ _ B2.out hz2).mono ?_
        rintro e w3 ⟨rfl, hb3⟩
        go_wp2
        go_ret
        exact ⟨by simp [Nm.text], hbl2.trans (hb3.mono (by omega))⟩
      · have e1 : (x == 0) = false := by simpa using hx
        have e2 : (x != 0) = true := by simpa using hx
        have HX := Lib.hid hx
        clear hx
        go_wp2_with fail
        refine (writeByte_any _ _ _ _ _ B2.out (by rw [Lib.byteCells_length]; simp at hn1 ⊢; omega) hz2).mono ?_
        rintro e w3 ⟨rfl, b3, hb3⟩
        obtain ⟨d0, d1, d2, b3, hbl3, hz3⟩ := Showing.next ⟨c0, c1, c2, B2.out, hbl2, hz2⟩ hb3 (l' := ([45] ++ (c :: r)) ++ [101]) (by rw [Lib.byteCells_append]; exact b3)
        have B3 := Lib.hid b3
        clear b3 c0 c1 c2 hb3
        go_wp2_with fail
        refine (Tryd.strconv_Itoa _ (by omega) (by omega) _ (HT.out.keep hbl3)).mono ?_
        rintro e w4 ⟨rfl, k4, os4, rfl⟩
        have hb4 := below_grow w3 k4 os4
        generalize Sort.grow (w3.drewN k4) os4 = w4 at hb4 ⊢
        have hz4 := hb4.size
        have hit := Lib.itoa_length_le x (by omega) (by omega)
        go_wp2_with fail
        refine (writeString_any _ _ _ _ _ (builder_keep B3.out hb4) (by rw [Lib.size_mk, Lib.byteCells_length]; simp at hn1 ⊢; omega) (by omega)).mono ?_
        rintro e w5 ⟨rfl, b5, hb5⟩
        have b5' : Lib.IsBuilder 63 5 (w.heap.size + 1) (w.heap.size + 1) (Lib.byteCells (([45] ++ (c :: r)) ++ [101] ++ Lib.itoa x)) w5 := by rw [Lib.byteCells_append (([45] ++ (c :: r)) ++ [101])]; exact b5
        have B5 := Lib.hid b5'
        clear b5 b5'
        have hz5 := hb5.size
        go_wp2_with fail
        refine (Tryd.Builder_String_any _ _ _ _ B5.out (by omega)).mono ?_
        rintro e w6 ⟨rfl, hb6⟩
        go_wp2
        go_ret
        exact ⟨by simp [Nm.text, HX.out], hbl3.trans ((hb4.mono (by omega)).trans ((hb5.mono (by omega)).trans (hb6.mono (by omega))))⟩

end Go.Proofs.YtbcoakonjgakbaaDoor
