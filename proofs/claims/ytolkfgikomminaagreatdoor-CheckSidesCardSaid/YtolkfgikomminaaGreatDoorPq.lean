/- Pq: Pq Pu, in one text. -/
import Derived.Test.YtolkfgikomminaaGreatDoorPp
import Derived.Test.YtolkfgikomminaaGreatDoorVb
import Derived.Test.YtolkfgikomminaaGreatDoorSf
import Derived.BigQuiet
import Derived.Test.YtolkfgikomminaaGreatDoorMo
namespace Go.Proofs.YtolkfgikomminaaGreatDoor
open Go.RowKit Pt

def Strs (c : Cl) (A : Option Addr) (l : List (List UInt8)) : Prop := ∀ i n, l[i]? = some n → ∃ g o, A = some ⟨g, o, none⟩ ∧ c ⟨g, o + i, none⟩ = some (.string ⟨n.toArray⟩)
theorem Strs.keep {c c' : Cl} (h : c.le c') {A : Option Addr} {l : List (List UInt8)} (hs : Strs c A l) : Strs c' A l := fun i n hi => by
 obtain ⟨g, o, h1, h2⟩ := hs i n hi
 exact ⟨g, o, h1, h _ _ h2⟩

def Pathing (w : World) (l : List (List UInt8)) (o v : Value) (wr : World) : Prop :=
 ∃ j : Nat, j ≤ l.length ∧ v = .int .i64 j ∧ o = .string ⟨(text (l.take j)).toArray⟩ ∧ Below w.heap.size w wr
def Naming (w : World) (out n : List UInt8) (o v : Value) (wr : World) : Prop :=
 ∃ k : Nat, k ≤ n.length ∧ v = .int .i64 k ∧ o = .string ⟨(out ++ name (n.take k)).toArray⟩ ∧ Below w.heap.size w wr

theorem name_take_len (n : List UInt8) (k : Nat) : (name (n.take k)).length ≤ (name n).length := by
 have e : name n = name (n.take k) ++ name (n.drop k) := by rw [← name_append, List.take_append_drop]
 rw [e, List.length_append]; omega
theorem name_ge (n : List UInt8) : n.length ≤ (name n).length := by
 induction n with
 | nil => simp [name]
 | cons c n ih =>
  have e : name (c :: n) = esc c ++ name n := by simp [name]
  rw [e, List.length_append, List.length_cons]
  have := esc_len c
  omega
theorem text_take_len (l : List (List UInt8)) (j : Nat) (h : j < l.length) : (text (l.take j)).length + (1 + (name l[j]).length) ≤ (text l).length := by
 have e : text l = text (l.take (j + 1)) ++ text (l.drop (j + 1)) := by rw [← text_append, List.take_append_drop]
 rw [e, text_take l j h]
 simp only [List.length_append, List.length_cons]; omega

set_option linter.unusedSimpArgs false in
set_option linter.unusedVariables false in
set_option maxRecDepth 100000 in
set_option maxHeartbeats 1000000 in
theorem refPath_any (l : List (List UInt8)) (A : Option Addr) (e : Nat) (w : World) (hs : Strs w.cell? A l) (he : l.length ≤ e) (hm : e ≤ maxLen) (hlen : (text l).length ≤ 10000000) :
  Calls Tryz.prog 38 #[.slice A l.length e] w fun e w' => e = .returned (.string ⟨(text l).toArray⟩) ∧ Below w.heap.size w w' := by
 unfold maxLen at hm
 have HS := Lib.hid hs
 clear hs
 go_enter Tryz.func38, Tryz.ntmps38
 go_wp2_with fail
 go_loopw [3, 4] (Pathing w l) (fun _ v _ => l.length - (intOf v).toNat)
 case atStart => exact ⟨0, by omega, rfl, by simp [text], Below.refl _ _⟩
 case round =>
  obtain ⟨j, hj, rfl, rfl, hW⟩ := hrel
  have HW := Lib.hid hW
  clear hW
  by_cases hlt : j < l.length
  ·obtain ⟨g, o, rfl, hc⟩ := HS.out j _ (List.getElem?_eq_getElem hlt)
   have hc1 := le_below HW.out _ _ hc
   have HTK := Lib.hid (text_take l j hlt)
   have hl1 := text_take_len l j hlt
   have HC := Lib.hid hc
   clear hc
   generalize l[j] = n at *
   have hnn : n.length ≤ 10000000 := by have := name_ge n; omega
   generalize hta : text (l.take j) = ta at *
   have ha1 := fun W => cat_lists W ta [47] (by simp only [List.length_singleton]; omega)
   generalize htb : ta ++ [47] = tb at *
   have hbl : tb.length = ta.length + 1 := by rw [← htb]; simp
   have HTB := Lib.hid htb
   clear htb
   go_wp2_with fail
   go_loopw [3, 5] (Naming w tb n) (fun _ v _ => n.length - (intOf v).toNat)
   case atStart => exact ⟨0, by omega, rfl, by simp [name], HW.out⟩
   case round =>
    obtain ⟨k, hk, rfl, rfl, hW2⟩ := hrel
    have HW2 := Lib.hid hW2
    clear hW2 hc1
    have hc1 := le_below HW2.out _ _ HC.out
    have hsz : (⟨n.toArray⟩ : ByteArray).size = n.length := Lib.size_mk n
    by_cases hk2 : k < n.length
    ·have HN := Lib.hid (name_take n k hk2)
     have hnl := name_take_len n k
     have hix : ∀ h, (⟨n.toArray⟩ : ByteArray)[k]'h = n[k] := fun _ => rfl
     generalize hnk : n[k] = c at HN hix
     generalize htc : tb ++ name (n.take k) = tc at *
     have hcl : tc.length ≤ 20000000 := by rw [← htc, List.length_append]; omega
     have HTC := Lib.hid htc
     clear htc hnl
     by_cases c1 : c = 126
     ·have hE := Lib.hid (show esc c = [126, 48] by unfold esc; rw [if_pos c1])
      have b1 : ((c.toNat : Int) == 126) = true := by rw [c1]; rfl
      have ha2 := fun W => cat_lists W tc [126, 48] (by simp; omega)
      clear c1
      go_wp2
      go_roundw
      case rel => exact ⟨k + 1, by omega, by go_num, by rw [HN.out, hE.out, ← HTC.out]; simp, HW2.out⟩
      case measure => simp [intOf]; omega
     ·have b1 : ((c.toNat : Int) == 126) = false := byte_neb 126 c1
      by_cases c2 : c = 47
      ·have hE := Lib.hid (show esc c = [126, 49] by unfold esc; rw [if_neg c1, if_pos c2])
       have b2 : ((c.toNat : Int) == 47) = true := by rw [c2]; rfl
       have ha2 := fun W => cat_lists W tc [126, 49] (by simp; omega)
       clear c1 c2
       go_wp2
       go_roundw
       case rel => exact ⟨k + 1, by omega, by go_num, by rw [HN.out, hE.out, ← HTC.out]; simp, HW2.out⟩
       case measure => simp [intOf]; omega
      ·have hE := Lib.hid (show esc c = [c] by unfold esc; rw [if_neg c1, if_neg c2])
       have b2 : ((c.toNat : Int) == 47) = false := byte_neb 47 c2
       have ha2 := fun W => cat_lists W tc [c] (by simp; omega)
       have hcw := one_str wr c
       clear c1 c2
       go_wp2
       go_roundw
       case rel => exact ⟨k + 1, by omega, by go_num, by rw [HN.out, hE.out, ← HTC.out]; simp, HW2.out.alloc HW2.out.size _⟩
       case measure => simp [intOf]; omega
    ·obtain rfl : k = n.length := by omega
     rw [List.take_length]
     go_wp2
     go_roundw
     case rel => exact ⟨j + 1, by omega, by go_num, by rw [HTK.out, ← HTB.out]; simp [hta], HW2.out⟩
     case measure => simp [intOf]; omega
  ·obtain rfl : j = l.length := by omega
   rw [List.take_length]
   go_wp2
   go_ret
   exact ⟨rfl, HW.out⟩

end Go.Proofs.YtolkfgikomminaaGreatDoor

namespace Go.Proofs.YtolkfgikomminaaGreatDoor.Pt
end Go.Proofs.YtolkfgikomminaaGreatDoor.Pt
namespace Go.Proofs.YtolkfgikomminaaGreatDoor
open Go.RowKit Pt
end Go.Proofs.YtolkfgikomminaaGreatDoor

namespace Go.Proofs.YtolkfgikomminaaGreatDoor
open Go.RowKit Pt
def strs (l : List (List UInt8)) : List Value := l.map fun n => Value.string ⟨n.toArray⟩
theorem own_set {w : World} {base : Nat} {e : TypeId} {size g n cap : Nat} {xs : List Value} (h : w.ownsRow base e size (.slice (some ⟨g, 0, none⟩) n cap) n xs) (i : Nat) (u : Value) :
  (w.setCell ⟨g, i, none⟩ u).ownsRow base e size (.slice (some ⟨g, 0, none⟩) n cap) n (xs.set i u) := by
 obtain ⟨hl, h⟩ := h
 rcases h with ⟨h, _⟩ | ⟨g', cap', cur, hv, hb, hc, h1, h2, h3, h4⟩
 ·cases h
 ·injection hv with ha hn hcap
  injection ha with ha
  injection ha with hg _ _
  subst hg hcap
  refine ⟨by simpa using hl, .inr ⟨g, cap, cur.setIfInBounds i u, rfl, hb, ?_, h1, h2, by simpa using h3, ?_⟩⟩
  ·simp [World.setCell, Array.getElem?_modify, hc]
  ·rw [Array.toList_setIfInBounds, List.take_set, h4]
end Go.Proofs.YtolkfgikomminaaGreatDoor


