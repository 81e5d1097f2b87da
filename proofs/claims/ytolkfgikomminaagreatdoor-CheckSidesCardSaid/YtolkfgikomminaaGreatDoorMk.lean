/- Mk: Mk Md Mm, in one text. -/
import Derived.Test.YtolkfgikomminaaGreatDoorRows
import Derived.Test.YtolkfgikomminaaGreatDoorMb
import Derived.WalkKit
import Derived.WalkSpells
import Derived.WalkLawsBesides
import Derived.Deep.QuietTactic
import Derived.BigQuiet
import Derived.RegionTactic
import Derived.Lib.Hide
import Derived.Lib.Strings
import Derived.Laws.BitsLemmas
import Derived.Test.YtolkfgikomminaaGreatDoorWa
import Derived.Lib.RuneBytes
import Derived.Lib.DecodeN
import Derived.Lib.TrimByte
import Derived.Shelf.Unicode.DecodeSlow
import Derived.Lib.ValidLaws
import Derived.Test.YtolkfgikomminaaGreatDoorMh
namespace Go.Proofs.YtolkfgikomminaaGreatDoor
open Go.RowKit
end Go.Proofs.YtolkfgikomminaaGreatDoor

namespace Go.Proofs.YtolkfgikomminaaGreatDoor
open Go.RowKit

theorem St.fourGo_step (l : List UInt8) (j k r : Nat) (hk : k < l.length) : St.fourGo (j + 1) r k (l.drop k) = match St.hexv l[k] with
  | none => (r, k)
  | some d => St.fourGo j (16 * r + d) (k + 1) (l.drop (k + 1)) := by
 rw [List.drop_eq_getElem_cons hk]
 rfl
theorem St.fourGo_stop (l : List UInt8) (j k r : Nat) (hk : l.length ≤ k) : St.fourGo j r k (l.drop k) = (r, k) := by
 rw [List.drop_eq_nil_of_le hk]
 cases j <;> rfl

def Bd (k r : Nat) : Prop := (k = 0 → r < 1) ∧ (k ≤ 1 → r < 16) ∧ (k ≤ 2 → r < 256) ∧ (k ≤ 3 → r < 4096) ∧ r < 65536
theorem Bd.next {k r d : Nat} (h : Bd k r) (hk : k < 4) (hd : d < 16) : Bd (k + 1) (16 * r + d) := by
 unfold Bd at *; omega
theorem Bd.lt {k r : Nat} (h : Bd k r) (hk : k < 4) : r < 4096 := h.2.2.2.1 (by omega)

end Go.Proofs.YtolkfgikomminaaGreatDoor

namespace Go.Proofs.YtolkfgikomminaaGreatDoor
open Go.RowKit
end Go.Proofs.YtolkfgikomminaaGreatDoor

namespace Go.Proofs.YtolkfgikomminaaGreatDoor
open Go.RowKit

theorem len_at {s : ByteArray} {i : Nat} (h : i < s.size) : i < s.data.toList.length := by rw [← Lib.size_eq]; exact h
theorem drop_at (s : ByteArray) (i : Nat) (h : i < s.size) : s.data.toList.drop i = s.data.toList[i]'(len_at h) :: s.data.toList.drop (i + 1) := List.drop_eq_getElem_cons (len_at h)

theorem byte_eqb {c : UInt8} (k : UInt8) (h : c = k) : ((c.toNat : Int) == (k.toNat : Int)) = true := by subst h; simp
theorem byte_neb {c : UInt8} (k : UInt8) (h : ¬ c = k) : ((c.toNat : Int) == (k.toNat : Int)) = false := by
 rw [beq_eq_false_iff_ne]
 intro e
 exact h (UInt8.toNat_inj.1 (by omega))

end Go.Proofs.YtolkfgikomminaaGreatDoor

namespace Go.Proofs.YtolkfgikomminaaGreatDoor.St

set_option maxRecDepth 100000 in
set_option maxHeartbeats 4000000 in
theorem decodeN_eq (n b0 b1 b2 b3 : Nat) (hn : 1 ≤ n) (h0 : b0 < 256) (h1 : b1 < 256) (h2 : b2 < 256) (h3 : b3 < 256) :
  Lib.decodeN n b0 b1 b2 b3 = if width n b0 b1 b2 b3 = 0 then (65533, 1) else (value b0 b1 b2 b3, width n b0 b1 b2 b3) := by
 by_cases c1 : b0 < 128
 ·have e : width n b0 b1 b2 b3 = 1 := width_low c1 (by omega)
  rw [e, if_neg (by decide)]
  unfold Lib.decodeN value
  rw [if_pos c1, if_pos c1]
 ·by_cases c2 : b0 < 192
  ·rw [width_none (by omega), if_pos rfl]
   unfold Lib.decodeN
   rw [if_neg c1, if_neg (by omega), if_neg (by omega), if_neg (by omega)]
  ·by_cases c3 : b0 < 224
   ·unfold Lib.decodeN width value
    simp only [if_neg c1, if_neg c2, if_pos c3]
    repeat' split
    all_goals first | rfl | (exfalso; omega) | (apply Prod.ext <;> simp only <;> omega)
   ·by_cases c4 : b0 < 240
    ·unfold Lib.decodeN width value
     simp only [if_neg c1, if_neg c2, if_neg c3, if_pos c4]
     repeat' split
     all_goals first | rfl | (exfalso; omega) | (apply Prod.ext <;> simp only <;> omega)
    ·by_cases c5 : b0 < 248
     ·unfold Lib.decodeN width value
      simp only [if_neg c1, if_neg c2, if_neg c3, if_neg c4, if_pos c5]
      repeat' split
      all_goals first | rfl | (exfalso; omega) | (apply Prod.ext <;> simp only <;> omega)
     ·rw [width_none (by omega), if_pos rfl]
      unfold Lib.decodeN
      rw [if_neg c1, if_neg (by omega), if_neg (by omega), if_neg (by omega)]

end Go.Proofs.YtolkfgikomminaaGreatDoor.St

namespace Go.Proofs.YtolkfgikomminaaGreatDoor
open Go.RowKit
end Go.Proofs.YtolkfgikomminaaGreatDoor

namespace Go.Proofs.YtolkfgikomminaaGreatDoor
open Go.RowKit
end Go.Proofs.YtolkfgikomminaaGreatDoor

namespace Go.Proofs.YtolkfgikomminaaGreatDoor
open Go.RowKit
end Go.Proofs.YtolkfgikomminaaGreatDoor

namespace Go.Proofs.YtolkfgikomminaaGreatDoor
open Go.RowKit
end Go.Proofs.YtolkfgikomminaaGreatDoor


