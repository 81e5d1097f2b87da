/- Mm: Sj Sk Sl, in one text. -/
import Derived.Test.YtnnklbfpgmndoaaDoorMl
import Derived.Test.YtnnklbfpgmndoaaDoorMd
import Derived.Test.YtnnklbfpgmndoaaDoorMi
/- The walks of layer 2 (str), fifth part: character, the Builder's WriteRune. -/
namespace Go.Proofs.YtnnklbfpgmndoaaDoor
open Go.RowKit
end Go.Proofs.YtnnklbfpgmndoaaDoor

/- The walks of layer 2 (str), sixth part: Unquote. -/
namespace Go.Proofs.YtnnklbfpgmndoaaDoor
open Go.RowKit
theorem builder_on {T e : TypeId} {B b : Nat} {bs : List Value} {w w' : World} (h : Lib.IsBuilder T e B b bs w) (hb : Below w.heap.size w w') : Lib.IsBuilder T e B b bs w' := by
  have hg : w.grownBy w' none := ⟨hb.os, hb.tape, hb.output, hb.size, fun k hk _ => hb.block k hk⟩
  rcases h with h | h
  all_goals
    have hlt := h.lt
    obtain ⟨hB, v, hbk, hown, hne⟩ := h
  · exact .inl ⟨hB, v, (hb.block b hlt).trans hbk, hown.kept hg (by cases v.ownBlock <;> simp), hne⟩
  · exact .inr ⟨hB, v, (hb.block b hlt).trans hbk, hown.kept hg (by cases v.ownBlock <;> simp), hne⟩

/-- The world while Unquote goes over its text: the builder with its bytes; what is older is as it was. -/
structure Writing (w : World) (out : List UInt8) (wr : World) : Prop where
  b : Lib.IsBuilder 38 5 w.heap.size w.heap.size (Lib.byteCells out) wr
  below : Below w.heap.size w wr
  size : w.heap.size + 1 ≤ wr.heap.size

theorem Writing.start (w : World) : Writing w [] (w.alloc (.cells #[.pointer none, .slice none 0 0] 38)) :=
  ⟨by have h := Lib.fresh_isBuilder 38 5 w; simpa [Lib.byteCells] using h, (Below.refl _ _).alloc (Nat.le_refl _) _, by simp⟩
theorem Writing.on {w : World} {out : List UInt8} {wr w' : World} (h : Writing w out wr) (hb : Below wr.heap.size wr w') : Writing w out w' :=
  ⟨builder_on h.b hb, h.below.trans (hb.mono h.below.size), by have := hb.size; have := h.size; omega⟩
theorem Writing.next {w : World} {out out' : List UInt8} {wr w' : World} (h : Writing w out wr) (hb : Below w.heap.size wr w') (hl : Lib.IsBuilder 38 5 w.heap.size w.heap.size (Lib.byteCells out') w') : Writing w out' w' :=
  ⟨hl, h.below.trans hb, by have := hb.size; have := h.size; omega⟩

/-- How far Unquote has come. -/
def Goes (w : World) (l : List UInt8) (n : Nat) (R : St.Res) (v : Value) (wr : World) (k : Nat) : Prop :=
  ∃ out f, n < k ∧ k ≤ l.length ∧ v = .int .i64 k ∧ out.length ≤ 4 * k ∧ l.length - k < f ∧ St.run f (l.drop k) out k = R ∧ Writing w out wr

end Go.Proofs.YtnnklbfpgmndoaaDoor

/- The walks of layer 2 (str), seventh part: Quote. -/
namespace Go.Proofs.YtnnklbfpgmndoaaDoor
open Go.RowKit

theorem byteCells_one (out : List UInt8) (c : UInt8) : Lib.byteCells out ++ [Value.int .u8 (c.toNat : Int)] = Lib.byteCells (out ++ [c]) := by
  rw [Lib.byteCells_append]; rfl

/-- WriteByte while a text is written. -/
theorem write_byte (w : World) (out : List UInt8) (c : UInt8) (wr : World) (h : Writing w out wr) (hl : out.length ≤ 100000000) :
    Calls Tryd.prog 33 #[.pointer (some ⟨w.heap.size, 0, none⟩), .int .u8 c.toNat] wr fun e w' => e = .returned .nilIface ∧ Writing w (out ++ [c]) w' := by
  refine (writeByte_any _ _ _ _ _ h.b (by rw [Lib.byteCells_length]; omega) h.below.size).mono ?_
  rw [byteCells_one]
  rintro e w' ⟨he, hb1, hb2⟩
  exact ⟨he, h.next hb2 hb1⟩
theorem write_text (w : World) (out : List UInt8) (t : List UInt8) (wr : World) (h : Writing w out wr) (hl : out.length + t.length ≤ 100000000) :
    Calls Tryd.prog 15 #[.pointer (some ⟨w.heap.size, 0, none⟩), .string ⟨t.toArray⟩] wr fun e w' => e = .returned (.tuple #[.int .i64 (⟨t.toArray⟩ : ByteArray).size, .nilIface]) ∧ Writing w (out ++ t) w' := by
  refine (writeString_any _ _ _ _ _ h.b (by rw [Lib.byteCells_length, Lib.size_mk]; omega) h.below.size).mono ?_
  rw [show Lib.strCells ⟨t.toArray⟩ = Lib.byteCells t from rfl, ← Lib.byteCells_append]
  rintro e w' ⟨he, hb1, hb2⟩
  exact ⟨he, h.next hb2 hb1⟩

theorem qb_take (l : List UInt8) (k : Nat) (h : k < l.length) : St.qb (l.take (k + 1)) = St.qb (l.take k) ++ St.qc l[k] := by
  rw [List.take_succ_eq_append_getElem h, St.qb_append]
  simp [St.qb]
theorem qc_len (c : UInt8) : (St.qc c).length ≤ 6 := by
  unfold St.qc; repeat' split
  all_goals simp
theorem qb_len (l : List UInt8) : (St.qb l).length ≤ 6 * l.length := by
  induction l with
  | nil => simp [St.qb]
  | cons c t ih => rw [St.qb_cons, List.length_append, List.length_cons]; have := qc_len c; omega

theorem hexTab : ∀ (d : Nat) (h : d < 16), (⟨#[48, 49, 50, 51, 52, 53, 54, 55, 56, 57, 97, 98, 99, 100, 101, 102]⟩ : ByteArray)[d]'h = St.hexd d := by decide

/-- How far Quote has come. -/
def Quoting (w : World) (l : List UInt8) (v : Value) (wr : World) (k : Nat) : Prop :=
  k ≤ l.length ∧ v = .int .i64 k ∧ Writing w (34 :: St.qb (l.take k)) wr

set_option linter.unusedSimpArgs false in
set_option maxRecDepth 100000 in
set_option maxHeartbeats 1000000 in
theorem quote_any (s : ByteArray) (w : World) (hs : s.size ≤ 1000000) :
    Calls Tryd.prog 18 #[.string s] w fun e w' => e = .returned (.string ⟨(St.quote s.data.toList).toArray⟩) ∧ Below w.heap.size w w' := by
  have hsl : s.data.toList.length = s.size := (Lib.size_eq s).symm
  have HSL := Lib.hid hsl
  clear hsl
  go_enter Tryd.func18, Tryd.ntmps18
  go_wp2_with fail
  refine (write_byte w [] 34 _ (Writing.start w) (by simp)).mono ?_
  rintro e w1 ⟨rfl, hw1⟩
  have hw1' : Writing w (34 :: St.qb (s.data.toList.take 0)) w1 := hw1
  clear hw1
  go_wp2_with fail
  go_loopw [9] (fun v wr => ∃ k, Quoting w s.data.toList v wr k) (fun v _ => s.size - (intOf v).toNat)
  case atStart => exact ⟨0, by omega, rfl, hw1'⟩
  case round =>
    obtain ⟨k, hk, rfl, hW⟩ := hrel
    rw [HSL.out] at hk
    by_cases hlt : k < s.size
    · have HQ := Lib.hid (qb_take s.data.toList k (len_at hlt))
      have hix : ∀ h, s[k]'h = s.data.toList[k]'(len_at hlt) := fun _ => rfl
      have hql : (St.qb (s.data.toList.take k)).length ≤ 6000000 := by
        have h1 := qb_len (s.data.toList.take k)
        have h2 := List.length_take_le k s.data.toList
        omega
      generalize s.data.toList[k]'(len_at hlt) = c at HQ hix
      generalize St.qb (s.data.toList.take k) = out at HQ hW hql
      by_cases c1 : c = 34 ∨ c = 92
      · have HC : Hid (St.qc c = [92, c]) := Lib.hid (by unfold St.qc; rw [if_pos c1])
        have hb : ((c.toNat : Int) == 34) = true ∨ (((c.toNat : Int) == 34) = false ∧ ((c.toNat : Int) == 92) = true) := by
          rcases c1 with rfl | rfl
          · left; rfl
          · right; exact ⟨rfl, rfl⟩
        clear c1
        rcases hb with hb | ⟨hb, hb'⟩
        all_goals
          go_wp2_with fail
          refine (write_byte w _ 92 _ hW (by rw [List.length_cons]; omega)).mono ?_
          rintro e w2 ⟨rfl, hw2⟩
          go_wp2_with fail
          refine (write_byte w _ c _ hw2 (by rw [List.length_append, List.length_cons]; simp; omega)).mono ?_
          rintro e w3 ⟨rfl, hw3⟩
          go_wp2
          go_roundw
          case rel => exact ⟨k + 1, by rw [HSL.out]; omega, by go_num, by rw [HQ.out, HC.out]; simpa using hw3⟩
          case measure => simp [intOf]; omega
      · by_cases c2 : c.toNat < 32
        · have HC : Hid (St.qc c = [92, 117, 48, 48, St.hexd (c.toNat / 16), St.hexd (c.toNat % 16)]) := Lib.hid (by unfold St.qc; rw [if_neg c1, if_pos c2])
          have b1 : ((c.toNat : Int) == 34) = false := byte_neb 34 (fun e => c1 (.inl e))
          have b2 : ((c.toNat : Int) == 92) = false := byte_neb 92 (fun e => c1 (.inr e))
          clear c1
          go_wp2_with fail
          refine (write_text w _ [92, 117, 48, 48] _ hW (by rw [List.length_cons]; simp; omega)).mono ?_
          rintro e w2 ⟨rfl, hw2⟩
          go_wp2_with fail
          refine (write_byte w _ _ _ hw2 (by rw [List.length_append, List.length_cons]; simp; omega)).mono ?_
          rintro e w3 ⟨rfl, hw3⟩
          rw [hexTab (c.toNat / 16) (by omega)] at hw3
          go_wp2_with fail
          refine (write_byte w _ _ _ hw3 (by rw [List.length_append, List.length_append, List.length_cons]; simp; omega)).mono ?_
          rintro e w4 ⟨rfl, hw4⟩
          rw [hexTab (c.toNat % 16) (by omega)] at hw4
          go_wp2
          go_roundw
          case rel => exact ⟨k + 1, by rw [HSL.out]; omega, by go_num, by rw [HQ.out, HC.out]; simpa using hw4⟩
          case measure => simp [intOf]; omega
        · have HC : Hid (St.qc c = [c]) := Lib.hid (by unfold St.qc; rw [if_neg c1, if_neg c2])
          have b1 : ((c.toNat : Int) == 34) = false := byte_neb 34 (fun e => c1 (.inl e))
          have b2 : ((c.toNat : Int) == 92) = false := byte_neb 92 (fun e => c1 (.inr e))
          clear c1
          go_wp2_with fail
          refine (write_byte w _ c _ hW (by rw [List.length_cons]; omega)).mono ?_
          rintro e w2 ⟨rfl, hw2⟩
          go_wp2
          go_roundw
          case rel => exact ⟨k + 1, by rw [HSL.out]; omega, by go_num, by rw [HQ.out, HC.out]; simpa using hw2⟩
          case measure => simp [intOf]; omega
    · obtain rfl : k = s.size := by omega
      have hql := qb_len s.data.toList
      rw [HSL.out] at hql
      rw [show s.data.toList.take s.size = s.data.toList from by rw [← HSL.out, List.take_length]] at hW
      go_wp2_with fail
      refine (write_byte w _ 34 _ hW (by rw [List.length_cons]; omega)).mono ?_
      rintro e w2 ⟨rfl, hw2⟩
      go_wp2_with fail
      refine (Tryd.Builder_String_any _ _ _ _ hw2.b hw2.below.size).mono ?_
      rintro e w3 ⟨rfl, hb3⟩
      go_wp2
      go_ret
      exact ⟨rfl, hw2.below.trans hb3⟩

end Go.Proofs.YtnnklbfpgmndoaaDoor


