/- Mk: Mk Md Mm, in one text. -/
import Derived.Test.YtccacjkogdmleaaDoorRows
import Derived.Test.YtccacjkogdmleaaDoorMb
import Derived.WalkKit
import Derived.WalkSpells
import Derived.WalkLawsBesides
import Derived.Deep.QuietTactic
import Derived.BigQuiet
import Derived.RegionTactic
import Derived.Lib.Hide
import Derived.Lib.Strings
import Derived.Laws.BitsLemmas
import Derived.Test.YtccacjkogdmleaaDoorWa
import Derived.Lib.RuneBytes
import Derived.Lib.DecodeN
import Derived.Lib.TrimByte
import Derived.Shelf.Unicode.DecodeSlow
import Derived.Lib.ValidLaws
import Derived.Test.YtccacjkogdmleaaDoorMh
/- Mk: Mk Ml, in one text. -/
/- Mk: Sc Sd, in one text. -/
/- The walks of layer 2 (str), first part: wrong, isHigh, isLow, digit, fourDigits. -/
namespace Go.Proofs.YtccacjkogdmleaaDoor
open Go.RowKit
/-- What a digit of 16 counts, as digit tells it. -/
abbrev digV (c : UInt8) : Value := .tuple #[.int .i32 ((St.hexv c).getD 0 : Nat), .bool (St.hexv c).isSome]

end Go.Proofs.YtccacjkogdmleaaDoor

/- The walks of layer 2 (str), second part: fourDigits. -/
namespace Go.Proofs.YtccacjkogdmleaaDoor
open Go.RowKit

/-- One round of fourDigits. -/
theorem St.fourGo_step (l : List UInt8) (j k r : Nat) (hk : k < l.length) : St.fourGo (j + 1) r k (l.drop k) = match St.hexv l[k] with
    | none => (r, k)
    | some d => St.fourGo j (16 * r + d) (k + 1) (l.drop (k + 1)) := by
  rw [List.drop_eq_getElem_cons hk]
  rfl
theorem St.fourGo_stop (l : List UInt8) (j k r : Nat) (hk : l.length ≤ k) : St.fourGo j r k (l.drop k) = (r, k) := by
  rw [List.drop_eq_nil_of_le hk]
  cases j <;> rfl

theorem wrap32 (n : Int) (h0 : 0 ≤ n) (h1 : n < 2 ^ 16) : IntKind.i32.wrap n = n := by
  have h2 : n < 65536 := h1
  simp [IntKind.wrap, IntKind.bits, IntKind.signed]
  omega

theorem or4 (r d : Nat) (hr : r < 4096) (hd : d < 16) : bits .or .i32 ((r : Int) * 16) (d : Int) = ((16 * r + d : Nat) : Int) := by
  rw [bits_join .i32 16 (by decide) wrap32 4 ((r : Int) * 16) d (by omega) (by omega) (by omega) (by omega) (by omega) (by omega)]
  omega

/-- How great a number of k digits of 16 can be. -/
def Bd (k r : Nat) : Prop := (k = 0 → r < 1) ∧ (k ≤ 1 → r < 16) ∧ (k ≤ 2 → r < 256) ∧ (k ≤ 3 → r < 4096) ∧ r < 65536
theorem Bd.next {k r d : Nat} (h : Bd k r) (hk : k < 4) (hd : d < 16) : Bd (k + 1) (16 * r + d) := by
  unfold Bd at *; omega
theorem Bd.lt {k r : Nat} (h : Bd k r) (hk : k < 4) : r < 4096 := h.2.2.2.1 (by omega)

end Go.Proofs.YtccacjkogdmleaaDoor

/- Ml: Sg Sh, in one text. -/
/- The walks of layer 2 (str), third part: lowHalf, numbered. -/
namespace Go.Proofs.YtccacjkogdmleaaDoor
open Go.RowKit

theorem St.half_hit (t : List UInt8) : Lib.hasPrefix (92 :: 117 :: t) [92, 117] = true ∧ Lib.trimPrefix (92 :: 117 :: t) [92, 117] = t := by
  have h : Lib.hasPrefix (92 :: 117 :: t) [92, 117] = true := by simp [Lib.hasPrefix]
  exact ⟨h, by unfold Lib.trimPrefix; rw [h]; rfl⟩

theorem St.half_miss (l : List UInt8) : (∃ t, l = 92 :: 117 :: t) ∨ (Lib.hasPrefix l [92, 117] = false ∧ St.half l = (0, false)) := by
  match l with
  | [] => exact .inr ⟨rfl, rfl⟩
  | [a] => exact .inr ⟨by simp [Lib.hasPrefix, List.isPrefixOf], rfl⟩
  | a :: b :: t =>
    by_cases h : a = 92 ∧ b = 117
    · obtain ⟨rfl, rfl⟩ := h; exact .inl ⟨t, rfl⟩
    · refine .inr ⟨?_, by rw [St.half_two, if_neg h]⟩
      simp only [Lib.hasPrefix, List.isPrefixOf, Bool.and_true, Bool.and_eq_false_iff, beq_eq_false_iff_ne, ne_eq]
      by_cases e : a = 92
      · right; intro e2; exact h ⟨e, e2.symm⟩
      · left; intro e2; exact e e2.symm

/-- An error with its place, in a world. -/
def SpotAt (w : World) (b : Nat) (a k : Int) : Prop := w.cell? ⟨b, 0, none⟩ = some (.int .i64 a) ∧ w.cell? ⟨b, 1, none⟩ = some (.int .i64 k)

end Go.Proofs.YtccacjkogdmleaaDoor

/- The walks of layer 2 (str), fourth part: escape. -/
namespace Go.Proofs.YtccacjkogdmleaaDoor
open Go.RowKit

theorem len_at {s : ByteArray} {i : Nat} (h : i < s.size) : i < s.data.toList.length := by rw [← Lib.size_eq]; exact h
theorem drop_at (s : ByteArray) (i : Nat) (h : i < s.size) : s.data.toList.drop i = s.data.toList[i]'(len_at h) :: s.data.toList.drop (i + 1) := List.drop_eq_getElem_cons (len_at h)

theorem byte_eqb {c : UInt8} (k : UInt8) (h : c = k) : ((c.toNat : Int) == (k.toNat : Int)) = true := by subst h; simp
theorem byte_neb {c : UInt8} (k : UInt8) (h : ¬ c = k) : ((c.toNat : Int) == (k.toNat : Int)) = false := by
  rw [beq_eq_false_iff_ne]
  intro e
  exact h (UInt8.toNat_inj.1 (by omega))

end Go.Proofs.YtccacjkogdmleaaDoor

/- Md: Si Re, in one text. -/
/- Plain mathematics of layer 2 (str), fourth part: Go's own way to tell a character is the document's. -/
namespace Go.Proofs.YtccacjkogdmleaaDoor.St

set_option maxRecDepth 100000 in
set_option maxHeartbeats 4000000 in
theorem decodeN_eq (n b0 b1 b2 b3 : Nat) (hn : 1 ≤ n) (h0 : b0 < 256) (h1 : b1 < 256) (h2 : b2 < 256) (h3 : b3 < 256) :
    Lib.decodeN n b0 b1 b2 b3 = if width n b0 b1 b2 b3 = 0 then (65533, 1) else (value b0 b1 b2 b3, width n b0 b1 b2 b3) := by
  by_cases c1 : b0 < 128
  · have e : width n b0 b1 b2 b3 = 1 := width_low c1 (by omega)
    rw [e, if_neg (by decide)]
    unfold Lib.decodeN value
    rw [if_pos c1, if_pos c1]
  · by_cases c2 : b0 < 192
    · rw [width_none (by omega), if_pos rfl]
      unfold Lib.decodeN
      rw [if_neg c1, if_neg (by omega), if_neg (by omega), if_neg (by omega)]
    · by_cases c3 : b0 < 224
      · unfold Lib.decodeN width value
        simp only [if_neg c1, if_neg c2, if_pos c3]
        repeat' split
        all_goals first | rfl | (exfalso; omega) | (apply Prod.ext <;> simp only <;> omega)
      · by_cases c4 : b0 < 240
        · unfold Lib.decodeN width value
          simp only [if_neg c1, if_neg c2, if_neg c3, if_pos c4]
          repeat' split
          all_goals first | rfl | (exfalso; omega) | (apply Prod.ext <;> simp only <;> omega)
        · by_cases c5 : b0 < 248
          · unfold Lib.decodeN width value
            simp only [if_neg c1, if_neg c2, if_neg c3, if_neg c4, if_pos c5]
            repeat' split
            all_goals first | rfl | (exfalso; omega) | (apply Prod.ext <;> simp only <;> omega)
          · rw [width_none (by omega), if_pos rfl]
            unfold Lib.decodeN
            rw [if_neg c1, if_neg (by omega), if_neg (by omega), if_neg (by omega)]

theorem get_g (l : List UInt8) (k : Nat) : ((⟨l.toArray⟩ : ByteArray).get! k).toNat = g l k := by
  unfold g
  congr 1
  show l.toArray[k]! = _
  by_cases h : k < l.length
  · simp [h]
  · simp [h, List.getD_eq_getElem?_getD]
    rfl

theorem decode_eq (l : List UInt8) (h : l ≠ []) : Lib.decodeGo ⟨l.toArray⟩ = if utf8 l = 0 then (65533, 1) else (rune l, utf8 l) := by
  have hl : 1 ≤ l.length := by
    cases l with
    | nil => exact absurd rfl h
    | cons a t => simp
  unfold Lib.decodeGo
  rw [if_neg (by rw [Lib.size_mk]; omega), Lib.decode_at]
  simp only [Nat.sub_zero, Nat.zero_add, get_g]
  rw [Lib.size_mk, decodeN_eq _ _ _ _ _ hl (g_lt l 0) (g_lt l 1) (g_lt l 2) (g_lt l 3)]
  rfl

/-- What Go's own way tells where a character is none. -/
theorem decode_bad {l : List UInt8} (h : l ≠ []) (hu : utf8 l = 0) : Lib.decodeGo ⟨l.toArray⟩ = (65533, 1) := by
  rw [decode_eq l h, if_pos hu]
/-- .. and where there is one. -/
theorem decode_good {l : List UInt8} (h : l ≠ []) (hu : utf8 l ≠ 0) : Lib.decodeGo ⟨l.toArray⟩ = (rune l, utf8 l) ∧ (¬ rune l = 65533 ∨ ¬ utf8 l = 1) := by
  refine ⟨by rw [decode_eq l h, if_neg hu], ?_⟩
  rcases utf8_cases l hu with ⟨e, k0, hr, hl⟩ | ⟨e, k0, k0', k1, hr, hr', hl⟩ | ⟨e, k0, k0', k1, k2, hr, hr', hs, hl⟩ | ⟨e, k0, k0', k1, k2, k3, hr, hr', hs, hl⟩
  · left; omega
  all_goals right; omega

end Go.Proofs.YtccacjkogdmleaaDoor.St

/- A text in the document's sense is what utf8.ValidString lets pass. -/
namespace Go.Proofs.YtccacjkogdmleaaDoor
open Go.RowKit

theorem textGo_valid : ∀ (f : Nat) (l : List UInt8), l.length ≤ f → St.textGo f l = Lib.validD l
  | 0, [], _ => rfl
  | f + 1, [], _ => rfl
  | 0, c :: t, h => by simp at h
  | f + 1, c :: t, h => by
    rw [Lib.validD_step _ (by simp), Lib.decodeL_N]
    have hn : 1 ≤ (c :: t).length := by simp
    have hg : ∀ k, ((c :: t).getD k 0).toNat = St.g (c :: t) k := fun k => rfl
    rw [hg 0, hg 1, hg 2, hg 3]
    rw [St.decodeN_eq _ _ _ _ _ hn (St.g_lt (c :: t) 0) (St.g_lt (c :: t) 1) (St.g_lt (c :: t) 2) (St.g_lt (c :: t) 3)]
    unfold St.textGo
    have hw : St.width (c :: t).length (St.g (c :: t) 0) (St.g (c :: t) 1) (St.g (c :: t) 2) (St.g (c :: t) 3) = St.utf8 (c :: t) := rfl
    rw [hw]
    by_cases hz : St.utf8 (c :: t) = 0
    · rw [if_pos hz, if_pos hz]; simp
    · rw [if_neg hz, if_neg hz]
      have hne : ¬ (St.value (St.g (c :: t) 0) (St.g (c :: t) 1) (St.g (c :: t) 2) (St.g (c :: t) 3) = 65533 ∧ St.utf8 (c :: t) = 1) := by
        rintro ⟨h1, h2⟩
        rw [← hw] at h2
        have h0 : (St.g (c :: t) 0) < 128 := by
          unfold St.width at h2
          by_cases hb : (St.g (c :: t) 0) < 128
          · exact hb
          · rw [if_neg hb] at h2
            repeat' split at h2
            all_goals omega
        unfold St.value at h1
        rw [if_pos h0] at h1
        omega
      simp only
      rw [if_neg hne]
      exact textGo_valid f _ (by rw [List.length_drop]; simp only [List.length_cons] at h ⊢; omega)
theorem text_valid (l : List UInt8) : St.text l = Lib.validD l := textGo_valid _ l (Nat.le_refl _)

end Go.Proofs.YtccacjkogdmleaaDoor

/- Mm: Sj Sk Sl, in one text. -/
/- The walks of layer 2 (str), fifth part: character, the Builder's WriteRune. -/
namespace Go.Proofs.YtccacjkogdmleaaDoor
open Go.RowKit

/-- The two tables of Go's library that a character is told by. -/
abbrev Tabs (w : World) : Prop := Lib.Utf8Tabs 1 2 w

theorem Tabs.keep {w w' : World} {B : Nat} (h : Tabs w) (hb : Below B w w') (h1 : 1 < B) (h2 : 2 < B) : Tabs w' := by
  obtain ⟨a, b⟩ := h
  exact ⟨fun c hc => (hb.cell (p := ⟨_, c, none⟩) h1).trans (a c hc), fun i hi => ⟨(hb.cell (p := ⟨_, 2 * i, none⟩) h2).trans (b i hi).1, (hb.cell (p := ⟨_, 2 * i + 1, none⟩) h2).trans (b i hi).2⟩⟩
theorem Tabs.lt {w : World} (h : Tabs w) : 1 < w.heap.size ∧ 2 < w.heap.size :=
  ⟨World.block_lt_of_cell? w _ (h.1 0 (by decide)), World.block_lt_of_cell? w _ (h.2 0 (by decide)).1⟩
theorem Tabs.on {w w' : World} (h : Tabs w) (hb : Below w.heap.size w w') : Tabs w' := h.keep hb h.lt.1 h.lt.2

end Go.Proofs.YtccacjkogdmleaaDoor

/- The walks of layer 2 (str), sixth part: Unquote. -/
namespace Go.Proofs.YtccacjkogdmleaaDoor
open Go.RowKit
theorem builder_on {T e : TypeId} {B b : Nat} {bs : List Value} {w w' : World} (h : Lib.IsBuilder T e B b bs w) (hb : Below w.heap.size w w') : Lib.IsBuilder T e B b bs w' := by
  have hg : w.grownBy w' none := ⟨hb.os, hb.tape, hb.output, hb.size, fun k hk _ => hb.block k hk⟩
  rcases h with h | h
  all_goals
    have hlt := h.lt
    obtain ⟨hB, v, hbk, hown, hne⟩ := h
  · exact .inl ⟨hB, v, (hb.block b hlt).trans hbk, hown.kept hg (by cases v.ownBlock <;> simp), hne⟩
  · exact .inr ⟨hB, v, (hb.block b hlt).trans hbk, hown.kept hg (by cases v.ownBlock <;> simp), hne⟩

/-- The world while Unquote goes over its text: the builder with its bytes; what is older is as it was. -/
structure Writing (w : World) (out : List UInt8) (wr : World) : Prop where
  b : Lib.IsBuilder 42 5 w.heap.size w.heap.size (Lib.byteCells out) wr
  below : Below w.heap.size w wr
  size : w.heap.size + 1 ≤ wr.heap.size

theorem Writing.start (w : World) : Writing w [] (w.alloc (.cells #[.pointer none, .slice none 0 0] 42)) :=
  ⟨by have h := Lib.fresh_isBuilder 42 5 w; simpa [Lib.byteCells] using h, (Below.refl _ _).alloc (Nat.le_refl _) _, by simp⟩
theorem Writing.on {w : World} {out : List UInt8} {wr w' : World} (h : Writing w out wr) (hb : Below wr.heap.size wr w') : Writing w out w' :=
  ⟨builder_on h.b hb, h.below.trans (hb.mono h.below.size), by have := hb.size; have := h.size; omega⟩
theorem Writing.next {w : World} {out out' : List UInt8} {wr w' : World} (h : Writing w out wr) (hb : Below w.heap.size wr w') (hl : Lib.IsBuilder 42 5 w.heap.size w.heap.size (Lib.byteCells out') w') : Writing w out' w' :=
  ⟨hl, h.below.trans hb, by have := hb.size; have := h.size; omega⟩

/-- How far Unquote has come. -/
def Goes (w : World) (l : List UInt8) (n : Nat) (R : St.Res) (v : Value) (wr : World) (k : Nat) : Prop :=
  ∃ out f, n < k ∧ k ≤ l.length ∧ v = .int .i64 k ∧ out.length ≤ 4 * k ∧ l.length - k < f ∧ St.run f (l.drop k) out k = R ∧ Writing w out wr

end Go.Proofs.YtccacjkogdmleaaDoor

/- The walks of layer 2 (str), seventh part: Quote. -/
namespace Go.Proofs.YtccacjkogdmleaaDoor
open Go.RowKit

theorem byteCells_one (out : List UInt8) (c : UInt8) : Lib.byteCells out ++ [Value.int .u8 (c.toNat : Int)] = Lib.byteCells (out ++ [c]) := by
  rw [Lib.byteCells_append]; rfl

/-- WriteByte while a text is written. -/
theorem write_byte (w : World) (out : List UInt8) (c : UInt8) (wr : World) (h : Writing w out wr) (hl : out.length ≤ 100000000) :
    Calls Tryd.prog 21 #[.pointer (some ⟨w.heap.size, 0, none⟩), .int .u8 c.toNat] wr fun e w' => e = .returned .nilIface ∧ Writing w (out ++ [c]) w' := by
  refine (writeByte_any _ _ _ _ _ h.b (by rw [Lib.byteCells_length]; omega) h.below.size).mono ?_
  rw [byteCells_one]
  rintro e w' ⟨he, hb1, hb2⟩
  exact ⟨he, h.next hb2 hb1⟩
theorem write_text (w : World) (out : List UInt8) (t : List UInt8) (wr : World) (h : Writing w out wr) (hl : out.length + t.length ≤ 100000000) :
    Calls Tryd.prog 22 #[.pointer (some ⟨w.heap.size, 0, none⟩), .string ⟨t.toArray⟩] wr fun e w' => e = .returned (.tuple #[.int .i64 (⟨t.toArray⟩ : ByteArray).size, .nilIface]) ∧ Writing w (out ++ t) w' := by
  refine (writeString_any _ _ _ _ _ h.b (by rw [Lib.byteCells_length, Lib.size_mk]; omega) h.below.size).mono ?_
  rw [show Lib.strCells ⟨t.toArray⟩ = Lib.byteCells t from rfl, ← Lib.byteCells_append]
  rintro e w' ⟨he, hb1, hb2⟩
  exact ⟨he, h.next hb2 hb1⟩

theorem qb_take (l : List UInt8) (k : Nat) (h : k < l.length) : St.qb (l.take (k + 1)) = St.qb (l.take k) ++ St.qc l[k] := by
  rw [List.take_succ_eq_append_getElem h, St.qb_append]
  simp [St.qb]
theorem qc_len (c : UInt8) : (St.qc c).length ≤ 6 := by
  unfold St.qc; repeat' split
  all_goals simp
theorem qb_len (l : List UInt8) : (St.qb l).length ≤ 6 * l.length := by
  induction l with
  | nil => simp [St.qb]
  | cons c t ih => rw [St.qb_cons, List.length_append, List.length_cons]; have := qc_len c; omega

theorem hexTab : ∀ (d : Nat) (h : d < 16), (⟨#[48, 49, 50, 51, 52, 53, 54, 55, 56, 57, 97, 98, 99, 100, 101, 102]⟩ : ByteArray)[d]'h = St.hexd d := by decide

/-- How far Quote has come. -/
def Quoting (w : World) (l : List UInt8) (v : Value) (wr : World) (k : Nat) : Prop :=
  k ≤ l.length ∧ v = .int .i64 k ∧ Writing w (34 :: St.qb (l.take k)) wr

end Go.Proofs.YtccacjkogdmleaaDoor


