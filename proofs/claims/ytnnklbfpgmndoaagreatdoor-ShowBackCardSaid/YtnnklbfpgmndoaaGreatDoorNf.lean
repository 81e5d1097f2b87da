/- Nf: Zi Zj, in one text. -/
import Derived.Test.YtnnklbfpgmndoaaGreatDoorNb
import Derived.Test.YtnnklbfpgmndoaaGreatDoorZh
import Derived.Test.YtnnklbfpgmndoaaGreatDoorNc
/- The program's parse, ninth part: wayOf. (Its cases by a program.) -/
namespace Go.Proofs.YtnnklbfpgmndoaaGreatDoor
open Go.RowKit Js

/-- How a value is read that begins with a byte. -/
def wayV (c : Int) : Value :=
  if c = 110 then .func (.func 41) #[] #[]
  else if c = 116 then .func (.func 42) #[] #[]
  else if c = 102 then .func (.func 43) #[] #[]
  else if c = 45 ∨ (48 ≤ c ∧ c ≤ 57) then .func (.func 44) #[] #[]
  else if c = 34 then .func (.func 45) #[] #[]
  else if c = 91 then .func (.func 46) #[] #[]
  else if c = 123 then .func (.func 47) #[] #[]
  else .nilFunc

set_option maxRecDepth 100000 in
set_option maxHeartbeats 4000000 in
theorem wayOf_any (c : Int) (w : World) : Calls Tryz.prog 23 #[.int .u8 c] w fun e w' => e = .returned (wayV c) ∧ w = w' := by
  by_cases h110 : c = 110
  · subst h110
    go_enter Tryz.func23, Tryz.ntmps23
    go_wp2
    go_ret
    exact ⟨rfl, rfl⟩
  by_cases h116 : c = 116
  · subst h116
    go_enter Tryz.func23, Tryz.ntmps23
    go_wp2
    go_ret
    exact ⟨rfl, rfl⟩
  by_cases h102 : c = 102
  · subst h102
    go_enter Tryz.func23, Tryz.ntmps23
    go_wp2
    go_ret
    exact ⟨rfl, rfl⟩
  by_cases h45 : c = 45
  · subst h45
    go_enter Tryz.func23, Tryz.ntmps23
    go_wp2
    go_ret
    exact ⟨rfl, rfl⟩
  by_cases h48 : c = 48
  · subst h48
    go_enter Tryz.func23, Tryz.ntmps23
    go_wp2
    go_ret
    exact ⟨rfl, rfl⟩
  by_cases h49 : c = 49
  · subst h49
    go_enter Tryz.func23, Tryz.ntmps23
    go_wp2
    go_ret
    exact ⟨rfl, rfl⟩
  by_cases h50 : c = 50
  · subst h50
    go_enter Tryz.func23, Tryz.ntmps23
    go_wp2
    go_ret
    exact ⟨rfl, rfl⟩
  by_cases h51 : c = 51
  · subst h51
    go_enter Tryz.func23, Tryz.ntmps23
    go_wp2
    go_ret
    exact ⟨rfl, rfl⟩
  by_cases h52 : c = 52
  · subst h52
    go_enter Tryz.func23, Tryz.ntmps23
    go_wp2
    go_ret
    exact ⟨rfl, rfl⟩
  by_cases h53 : c = 53
  · subst h53
    go_enter Tryz.func23, Tryz.ntmps23
    go_wp2
    go_ret
    exact ⟨rfl, rfl⟩
  by_cases h54 : c = 54
  · subst h54
    go_enter Tryz.func23, Tryz.ntmps23
    go_wp2
    go_ret
    exact ⟨rfl, rfl⟩
  by_cases h55 : c = 55
  · subst h55
    go_enter Tryz.func23, Tryz.ntmps23
    go_wp2
    go_ret
    exact ⟨rfl, rfl⟩
  by_cases h56 : c = 56
  · subst h56
    go_enter Tryz.func23, Tryz.ntmps23
    go_wp2
    go_ret
    exact ⟨rfl, rfl⟩
  by_cases h57 : c = 57
  · subst h57
    go_enter Tryz.func23, Tryz.ntmps23
    go_wp2
    go_ret
    exact ⟨rfl, rfl⟩
  by_cases h34 : c = 34
  · subst h34
    go_enter Tryz.func23, Tryz.ntmps23
    go_wp2
    go_ret
    exact ⟨rfl, rfl⟩
  by_cases h91 : c = 91
  · subst h91
    go_enter Tryz.func23, Tryz.ntmps23
    go_wp2
    go_ret
    exact ⟨rfl, rfl⟩
  by_cases h123 : c = 123
  · subst h123
    go_enter Tryz.func23, Tryz.ntmps23
    go_wp2
    go_ret
    exact ⟨rfl, rfl⟩
  have t110 : (c == 110) = false := by simpa using h110
  have t116 : (c == 116) = false := by simpa using h116
  have t102 : (c == 102) = false := by simpa using h102
  have t45 : (c == 45) = false := by simpa using h45
  have t48 : (c == 48) = false := by simpa using h48
  have t49 : (c == 49) = false := by simpa using h49
  have t50 : (c == 50) = false := by simpa using h50
  have t51 : (c == 51) = false := by simpa using h51
  have t52 : (c == 52) = false := by simpa using h52
  have t53 : (c == 53) = false := by simpa using h53
  have t54 : (c == 54) = false := by simpa using h54
  have t55 : (c == 55) = false := by simpa using h55
  have t56 : (c == 56) = false := by simpa using h56
  have t57 : (c == 57) = false := by simpa using h57
  have t34 : (c == 34) = false := by simpa using h34
  have t91 : (c == 91) = false := by simpa using h91
  have t123 : (c == 123) = false := by simpa using h123
  have HF := Lib.hid (show wayV c = .nilFunc by
    unfold wayV
    rw [if_neg h110, if_neg h116, if_neg h102, if_neg (by omega), if_neg h34, if_neg h91, if_neg h123])
  clear h110 h116 h102 h45 h48 h49 h50 h51 h52 h53 h54 h55 h56 h57 h34 h91 h123
  go_enter Tryz.func23, Tryz.ntmps23
  go_wp2
  go_ret
  exact ⟨by rw [HF.out]; rfl, rfl⟩

end Go.Proofs.YtnnklbfpgmndoaaGreatDoor

/- The program's parse, tenth part: value, if array and object are as they should be. -/
namespace Go.Proofs.YtnnklbfpgmndoaaGreatDoor
open Go.RowKit Js

/-- What array and object come to, with so much fuel. -/
def ArrC (f : Nat) : Prop := ∀ (rb : Nat) (s : ByteArray) (a : Nat) (u : List UInt8) (d : Nat) (w : World), Pr w rb s a (91 :: u) d → s.size ≤ 100000 → TabsR rb w → d ≤ 32 → 3 * u.length + 3 ≤ f →
  Calls Tryz.prog 46 #[.pointer (some ⟨rb, 0, none⟩)] w (VWent rb s d w (Ps.arr f d u))
def ObjC (f : Nat) : Prop := ∀ (rb : Nat) (s : ByteArray) (a : Nat) (u : List UInt8) (d : Nat) (w : World), Pr w rb s a (123 :: u) d → s.size ≤ 100000 → TabsR rb w → d ≤ 32 → 3 * u.length + 3 ≤ f →
  Calls Tryz.prog 47 #[.pointer (some ⟨rb, 0, none⟩)] w (VWent rb s d w (Ps.obj f d u))

theorem wayV_of (c : UInt8) :
    (c = 110 ∧ wayV c.toNat = .func (.func 41) #[] #[]) ∨ (c = 116 ∧ wayV c.toNat = .func (.func 42) #[] #[]) ∨ (c = 102 ∧ wayV c.toNat = .func (.func 43) #[] #[]) ∨
    ((c = 45 ∨ Nm.dig c = true) ∧ wayV c.toNat = .func (.func 44) #[] #[]) ∨ (c = 34 ∧ wayV c.toNat = .func (.func 45) #[] #[]) ∨
    (c = 91 ∧ wayV c.toNat = .func (.func 46) #[] #[]) ∨ (c = 123 ∧ wayV c.toNat = .func (.func 47) #[] #[]) ∨
    ((¬ c = 110 ∧ ¬ c = 116 ∧ ¬ c = 102 ∧ ¬ (c = 45 ∨ Nm.dig c = true) ∧ ¬ c = 34 ∧ ¬ c = 91 ∧ ¬ c = 123) ∧ wayV c.toNat = .nilFunc) := by
  have e : ∀ k : UInt8, ((c.toNat : Int) = (k.toNat : Int)) ↔ c = k := fun k => ⟨fun h => UInt8.toNat_inj.1 (by omega), fun h => by rw [h]⟩
  have e110 : ((c.toNat : Int) = 110) ↔ c = 110 := e 110
  have e116 : ((c.toNat : Int) = 116) ↔ c = 116 := e 116
  have e102 : ((c.toNat : Int) = 102) ↔ c = 102 := e 102
  have e45 : ((c.toNat : Int) = 45) ↔ c = 45 := e 45
  have e34 : ((c.toNat : Int) = 34) ↔ c = 34 := e 34
  have e91 : ((c.toNat : Int) = 91) ↔ c = 91 := e 91
  have e123 : ((c.toNat : Int) = 123) ↔ c = 123 := e 123
  have ed : (48 ≤ (c.toNat : Int) ∧ (c.toNat : Int) ≤ 57) ↔ Nm.dig c = true := by
    rw [← dig_int]; simp [dgB]
  unfold wayV
  simp only [e110, e116, e102, e45, e34, e91, e123, ed]
  by_cases h1 : c = 110
  · left; exact ⟨h1, by rw [if_pos h1]⟩
  by_cases h2 : c = 116
  · right; left; exact ⟨h2, by rw [if_neg h1, if_pos h2]⟩
  by_cases h3 : c = 102
  · right; right; left; exact ⟨h3, by rw [if_neg h1, if_neg h2, if_pos h3]⟩
  by_cases h4 : c = 45 ∨ Nm.dig c = true
  · right; right; right; left; exact ⟨h4, by rw [if_neg h1, if_neg h2, if_neg h3, if_pos h4]⟩
  by_cases h5 : c = 34
  · right; right; right; right; left; exact ⟨h5, by rw [if_neg h1, if_neg h2, if_neg h3, if_neg h4, if_pos h5]⟩
  by_cases h6 : c = 91
  · right; right; right; right; right; left; exact ⟨h6, by rw [if_neg h1, if_neg h2, if_neg h3, if_neg h4, if_neg h5, if_pos h6]⟩
  by_cases h7 : c = 123
  · right; right; right; right; right; right; left; exact ⟨h7, by rw [if_neg h1, if_neg h2, if_neg h3, if_neg h4, if_neg h5, if_neg h6, if_pos h7]⟩
  right; right; right; right; right; right; right
  exact ⟨⟨h1, h2, h3, h4, h5, h6, h7⟩, by rw [if_neg h1, if_neg h2, if_neg h3, if_neg h4, if_neg h5, if_neg h6, if_neg h7]⟩

end Go.Proofs.YtnnklbfpgmndoaaGreatDoor


