/- Ka: Ka Kb Kc, in one text. -/
import Derived.Test.YtlhinefalkfjaaaGreatDoorPp
import Derived.Lib.ReplaceLaws
import Derived.Lib.SplitLaws
import Derived.Test.YtlhinefalkfjaaaGreatDoorPq
import Derived.Test.YtlhinefalkfjaaaGreatDoorSf
import Derived.Lib.ConvBytes
import Derived.Test.YtlhinefalkfjaaaGreatDoorShelf
import Derived.Lib.Hide
import Derived.Test.YtlhinefalkfjaaaGreatDoorMk
namespace Go.Proofs.YtlhinefalkfjaaaGreatDoor.Pt
open Go.Lib (replaceAll replace replaceNum replaceK replaceK_hit count_miss count_hit count_one splitK index_ge)

theorem rep_nil {old new : List UInt8} (h : old ≠ []) (hn : old ≠ new) : replaceAll [] old new = [] := by
  have hi : Lib.index [] old = -1 := by cases old with
    | nil => exact absurd rfl h
    | cons => rfl
  have hb : (old == new) = false := by simpa using hn
  unfold replaceAll replace
  rw [hb, if_neg (by decide)]
  unfold replaceNum
  rw [if_pos (.inl (by decide)), count_miss hi]; rfl
theorem rep_all {s old new : List UInt8} (hn : old ≠ new) : replaceAll s old new = replaceK old new (Lib.count s old) s := by
  have hb : (old == new) = false := by simpa using hn
  unfold replaceAll replace
  rw [hb, if_neg (by decide)]
  unfold replaceNum
  rw [if_pos (.inl (by decide))]
theorem rep_hit {s old new : List UInt8} (h : old ≠ []) (hn : old ≠ new) : replaceAll (old ++ s) old new = new ++ replaceAll s old new := by
  have hi : Lib.index (old ++ s) old = ((0 : Nat) : Int) := by
    cases old with
    | nil => exact absurd rfl h
    | cons b l =>
      rw [List.cons_append, Lib.index, ← List.cons_append, if_pos (by rw [List.isPrefixOf_iff_prefix]; exact List.prefix_append _ _)]; rfl
  rw [rep_all hn, rep_all hn, count_hit h hi, Nat.add_comm, replaceK_hit _ _ _ _ _ hi]
  simp
theorem rep_miss {c : UInt8} {s old new : List UInt8} (h : old ≠ []) (hn : old ≠ new) (hp : old.isPrefixOf (c :: s) = false) : replaceAll (c :: s) old new = c :: replaceAll s old new := by
  rw [rep_all hn, rep_all hn]
  have hx : Lib.index (c :: s) old = if Lib.index s old == -1 then -1 else Lib.index s old + 1 := by rw [Lib.index, hp]; rfl
  have hge := index_ge s old
  by_cases hm : Lib.index s old = -1
  · have h1 : Lib.index (c :: s) old = -1 := by rw [hx, hm]; rfl
    rw [count_miss hm, count_miss h1]; rfl
  · obtain ⟨i, hi⟩ : ∃ i : Nat, Lib.index s old = i := ⟨(Lib.index s old).toNat, by omega⟩
    have h1 : Lib.index (c :: s) old = ((i + 1 : Nat) : Int) := by
      rw [hx, if_neg (by simpa using hm), hi]; rfl
    rw [count_hit h hi, count_hit h h1, Nat.add_comm 1, Nat.add_comm 1, replaceK_hit _ _ _ _ _ hi, replaceK_hit _ _ _ _ _ h1]
    rw [show i + 1 + old.length = (i + old.length) + 1 by omega]
    simp
theorem rep_one {a : UInt8} {new : List UInt8} (hn : [a] ≠ new) (s : List UInt8) : replaceAll s [a] new = s.flatMap fun c => if c = a then new else [c] := by
  induction s with
  | nil => exact rep_nil (by simp) hn
  | cons c s ih =>
    by_cases h : c = a
    · subst h
      rw [show c :: s = [c] ++ s from rfl, rep_hit (by simp) hn, ih]
      simp
    · rw [rep_miss (by simp) hn (by simp [List.isPrefixOf, Ne.symm h]), ih]
      simp [h]
theorem escaped_eq (n : List UInt8) : replaceAll (replaceAll n [126] [126, 48]) [47] [126, 49] = name n := by
  rw [rep_one (by decide), rep_one (by decide)]
  induction n with
  | nil => rfl
  | cons c n ih =>
    have e : name (c :: n) = esc c ++ name n := by simp [name]
    rw [e, ← ih, List.flatMap_cons, List.flatMap_append]
    congr 1
    unfold esc
    by_cases h1 : c = 126
    · subst h1; decide
    · rw [if_neg h1, if_neg h1]
      by_cases h2 : c = 47
      · subst h2; decide
      · rw [if_neg h2]; simp [h2]
theorem esc1_len (n : List UInt8) : (replaceAll n [126] [126, 48]).length ≤ 2 * n.length := by
  rw [rep_one (by decide)]
  induction n with
  | nil => simp
  | cons c n ih =>
    rw [List.flatMap_cons, List.length_append, List.length_cons]
    have h2 : (if c = 126 then [126, 48] else [c] : List UInt8).length ≤ 2 := by split <;> simp
    omega

def half : List UInt8 → List UInt8
  | [] => []
  | c :: n => (if c = 126 then [126, 48] else [c]) ++ half n
end Go.Proofs.YtlhinefalkfjaaaGreatDoor.Pt

namespace Go.Proofs.YtlhinefalkfjaaaGreatDoor
open Go.RowKit Pt
end Go.Proofs.YtlhinefalkfjaaaGreatDoor

namespace Go.Proofs.YtlhinefalkfjaaaGreatDoor
open Go.RowKit Pt

def MaxT (w : World) : Prop := ∃ m : Int, w.cell? ⟨1, 0, none⟩ = some (.int .i64 m)
theorem MaxT.on {w w' : World} (h : MaxT w) (hb : Below w.heap.size w w') : MaxT w' := by
  obtain ⟨m, hm⟩ := h
  exact ⟨m, le_below hb _ _ hm⟩
theorem MaxT.keep {B : Nat} {w w' : World} (h : MaxT w) (hb : Below B w w') (hB : w.heap.size ≤ B) : MaxT w' := h.on (hb.mono hB)

theorem repl_on (s old new : List UInt8) (q : List UInt8) (hq : Lib.replaceAll s old new = q) (w : World) (hT : MaxT w) (hs : s.length ≤ 100000000) (h1 : old ≠ []) (h2 : new.length ≤ 2) :
    Calls Tryz.prog 72 #[.string ⟨s.toArray⟩, .string ⟨old.toArray⟩, .string ⟨new.toArray⟩] w fun e w' => e = .returned (.string ⟨q.toArray⟩) ∧ Below w.heap.size w w' := by
  obtain ⟨m, hm⟩ := hT
  subst hq
  have hl : (⟨s.toArray⟩ : ByteArray).size = s.length := Lib.size_mk s
  have ho : 1 ≤ (⟨old.toArray⟩ : ByteArray).size := by rw [Lib.size_mk]; exact List.length_pos_iff.2 h1
  have hc := Lib.countB_le ⟨old.toArray⟩ ho s.length ⟨s.toArray⟩ (by omega)
  have hn : (⟨new.toArray⟩ : ByteArray).size ≤ 2 := by rw [Lib.size_mk]; exact h2
  have hmul := Nat.mul_le_mul hc hn
  exact Tryz.strings_ReplaceAll ⟨s.toArray⟩ ⟨old.toArray⟩ ⟨new.toArray⟩ m w (by omega) hm ho (by omega)

set_option linter.unusedSimpArgs false in
set_option linter.unusedVariables false in
set_option maxRecDepth 100000 in
set_option maxHeartbeats 1000000 in
theorem escaped_any (n : List UInt8) (w : World) (hT : MaxT w) (hs : n.length ≤ 10000000) :
    Calls Tryz.prog 57 #[.string ⟨n.toArray⟩] w fun e w' => e = .returned (.string ⟨(name n).toArray⟩) ∧ Below w.heap.size w w' := by
  have hh := esc1_len n
  have H1 := Lib.hid (repl_on n [126] [126, 48] _ rfl w hT (by omega) (by simp) (by simp))
  have H2 := Lib.hid (fun W hT => repl_on (Lib.replaceAll n [126] [126, 48]) [47] [126, 49] (name n) (escaped_eq n) W hT (by omega) (by simp) (by simp))
  have HT := Lib.hid hT
  clear hT
  generalize Lib.replaceAll n [126] [126, 48] = h at *
  go_enter Tryz.func57, Tryz.ntmps57
  go_wp2_with fail
  refine H1.out.mono ?_
  rintro e w1 ⟨rfl, hb1⟩
  go_wp2_with fail
  refine (H2.out _ (HT.out.on hb1)).mono ?_
  rintro e w2 ⟨rfl, hb2⟩
  go_wp2_with fail
  go_ret
  exact ⟨rfl, hb1.trans (hb2.mono hb1.size)⟩

end Go.Proofs.YtlhinefalkfjaaaGreatDoor

namespace Go.Proofs.YtlhinefalkfjaaaGreatDoor
open Go.RowKit Pt
end Go.Proofs.YtlhinefalkfjaaaGreatDoor


