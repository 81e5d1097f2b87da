/- The walks of layer 6 (ptr): the document's Path. -/
import Derived.Test.YtjdkfkjkmjodlaaDoorPp
import Derived.Test.YtjdkfkjkmjodlaaDoorVb
import Derived.Test.YtjdkfkjkmjodlaaDoorMn
import Derived.BigQuiet
namespace Go.Proofs.YtjdkfkjkmjodlaaDoor
open Go.RowKit Pt

/-- A slice of strings lies in memory. -/
def Strs (c : Cl) (A : Option Addr) (l : List (List UInt8)) : Prop := ∀ i n, l[i]? = some n → ∃ g o, A = some ⟨g, o, none⟩ ∧ c ⟨g, o + i, none⟩ = some (.string ⟨n.toArray⟩)
theorem Strs.keep {c c' : Cl} (h : c.le c') {A : Option Addr} {l : List (List UInt8)} (hs : Strs c A l) : Strs c' A l := fun i n hi => by
  obtain ⟨g, o, h1, h2⟩ := hs i n hi
  exact ⟨g, o, h1, h _ _ h2⟩

def Pathing (w : World) (l : List (List UInt8)) (o v : Value) (wr : World) : Prop :=
  ∃ j : Nat, j ≤ l.length ∧ v = .int .i64 j ∧ o = .string ⟨(text (l.take j)).toArray⟩ ∧ Below w.heap.size w wr
def Naming (w : World) (out n : List UInt8) (o v : Value) (wr : World) : Prop :=
  ∃ k : Nat, k ≤ n.length ∧ v = .int .i64 k ∧ o = .string ⟨(out ++ name (n.take k)).toArray⟩ ∧ Below w.heap.size w wr

theorem name_take_len (n : List UInt8) (k : Nat) : (name (n.take k)).length ≤ (name n).length := by
  have e : name n = name (n.take k) ++ name (n.drop k) := by rw [← name_append, List.take_append_drop]
  rw [e, List.length_append]; omega
theorem name_ge (n : List UInt8) : n.length ≤ (name n).length := by
  induction n with
  | nil => simp [name]
  | cons c n ih =>
    have e : name (c :: n) = esc c ++ name n := by simp [name]
    rw [e, List.length_append, List.length_cons]
    have := esc_len c
    omega
theorem text_take_len (l : List (List UInt8)) (j : Nat) (h : j < l.length) : (text (l.take j)).length + (1 + (name l[j]).length) ≤ (text l).length := by
  have e : text l = text (l.take (j + 1)) ++ text (l.drop (j + 1)) := by rw [← text_append, List.take_append_drop]
  rw [e, text_take l j h]
  simp only [List.length_append, List.length_cons]; omega

set_option linter.unusedSimpArgs false in
set_option linter.unusedVariables false in
set_option maxRecDepth 100000 in
set_option maxHeartbeats 1000000 in
theorem refPath_any (l : List (List UInt8)) (A : Option Addr) (e : Nat) (w : World) (hs : Strs w.cell? A l) (he : l.length ≤ e) (hm : e ≤ maxLen) (hlen : (text l).length ≤ 10000000) :
    Calls Tryd.prog 13 #[.slice A l.length e] w fun e w' => e = .returned (.string ⟨(text l).toArray⟩) ∧ Below w.heap.size w w' := by
  unfold maxLen at hm
  have HS := Lib.hid hs
  clear hs
  go_enter Tryd.func13, Tryd.ntmps13
  go_wp2_with fail
  go_loopw [3, 4] (Pathing w l) (fun _ v _ => l.length - (intOf v).toNat)
  case atStart => exact ⟨0, by omega, rfl, by simp [text], Below.refl _ _⟩
  case round =>
    obtain ⟨j, hj, rfl, rfl, hW⟩ := hrel
    have HW := Lib.hid hW
    clear hW
    by_cases hlt : j < l.length
    · obtain ⟨g, o, rfl, hc⟩ := HS.out j _ (List.getElem?_eq_getElem hlt)
      have hc1 := le_below HW.out _ _ hc
      have HTK := Lib.hid (text_take l j hlt)
      have hl1 := text_take_len l j hlt
      have HC := Lib.hid hc
      clear hc
      generalize l[j] = n at *
      have hnn : n.length ≤ 10000000 := by have := name_ge n; omega
      generalize hta : text (l.take j) = ta at *
      have ha1 := fun W => cat_lists W ta [47] (by simp only [List.length_singleton]; omega)
      generalize htb : ta ++ [47] = tb at *
      have hbl : tb.length = ta.length + 1 := by rw [← htb]; simp
      have HTB := Lib.hid htb
      clear htb
      go_wp2_with fail
      go_loopw [3, 5] (Naming w tb n) (fun _ v _ => n.length - (intOf v).toNat)
      case atStart => exact ⟨0, by omega, rfl, by simp [name], HW.out⟩
      case round =>
        obtain ⟨k, hk, rfl, rfl, hW2⟩ := hrel
        have HW2 := Lib.hid hW2
        clear hW2 hc1
        have hc1 := le_below HW2.out _ _ HC.out
        have hsz : (⟨n.toArray⟩ : ByteArray).size = n.length := Lib.size_mk n
        by_cases hk2 : k < n.length
        · have HN := Lib.hid (name_take n k hk2)
          have hnl := name_take_len n k
          have hix : ∀ h, (⟨n.toArray⟩ : ByteArray)[k]'h = n[k] := fun _ => rfl
          generalize hnk : n[k] = c at HN hix
          generalize htc : tb ++ name (n.take k) = tc at *
          have hcl : tc.length ≤ 20000000 := by rw [← htc, List.length_append]; omega
          have HTC := Lib.hid htc
          clear htc hnl
          by_cases c1 : c = 126
          · have hE := Lib.hid (show esc c = [126, 48] by unfold esc; rw [if_pos c1])
            have b1 : ((c.toNat : Int) == 126) = true := by rw [c1]; rfl
            have ha2 := fun W => cat_lists W tc [126, 48] (by simp; omega)
            clear c1
            go_wp2
            go_roundw
            case rel => exact ⟨k + 1, by omega, by go_num, by rw [HN.out, hE.out, ← HTC.out]; simp, HW2.out⟩
            case measure => simp [intOf]; omega
          · have b1 : ((c.toNat : Int) == 126) = false := byte_neb 126 c1
            by_cases c2 : c = 47
            · have hE := Lib.hid (show esc c = [126, 49] by unfold esc; rw [if_neg c1, if_pos c2])
              have b2 : ((c.toNat : Int) == 47) = true := by rw [c2]; rfl
              have ha2 := fun W => cat_lists W tc [126, 49] (by simp; omega)
              clear c1 c2
              go_wp2
              go_roundw
              case rel => exact ⟨k + 1, by omega, by go_num, by rw [HN.out, hE.out, ← HTC.out]; simp, HW2.out⟩
              case measure => simp [intOf]; omega
            · have hE := Lib.hid (show esc c = [c] by unfold esc; rw [if_neg c1, if_neg c2])
              have b2 : ((c.toNat : Int) == 47) = false := byte_neb 47 c2
              have ha2 := fun W => cat_lists W tc [c] (by simp; omega)
              have hcw := one_str wr c
              clear c1 c2
              go_wp2
              go_roundw
              case rel => exact ⟨k + 1, by omega, by go_num, by rw [HN.out, hE.out, ← HTC.out]; simp, HW2.out.alloc HW2.out.size _⟩
              case measure => simp [intOf]; omega
        · obtain rfl : k = n.length := by omega
          rw [List.take_length]
          go_wp2
          go_roundw
          case rel => exact ⟨j + 1, by omega, by go_num, by rw [HTK.out, ← HTB.out]; simp [hta], HW2.out⟩
          case measure => simp [intOf]; omega
    · obtain rfl : j = l.length := by omega
      rw [List.take_length]
      go_wp2
      go_ret
      exact ⟨rfl, HW.out⟩

/-- 1, if two lists of names are the same; else 0. -/
def alike (l m : List (List UInt8)) : Int := if l = m then 1 else 0
theorem alike_eq {l m : List (List UInt8)} (h : l = m) : alike l m = 1 := if_pos h
theorem alike_ne {l m : List (List UInt8)} (h : ¬ l = m) : alike l m = 0 := if_neg h
/-- How far two lists of names are the same. -/
def Matching (w : World) (l m : List (List UInt8)) (v : Value) (wr : World) : Prop :=
  ∃ j : Nat, j ≤ l.length ∧ v = .int .i64 j ∧ l.take j = m.take j ∧ Below w.heap.size w wr

set_option linter.unusedSimpArgs false in
set_option linter.unusedVariables false in
set_option maxRecDepth 100000 in
set_option maxHeartbeats 1000000 in
theorem names_any (l m : List (List UInt8)) (A B : Option Addr) (e d : Nat) (w : World) (hs : Strs w.cell? A l) (ht : Strs w.cell? B m) (he : l.length ≤ e) (he2 : e ≤ maxLen) (hd : m.length ≤ d) (hd2 : d ≤ maxLen) :
    Calls Tryd.prog 9 #[.slice A l.length e, .slice B m.length d] w fun e w' => e = .returned (.int .i64 (alike l m)) ∧ Below w.heap.size w w' := by
  unfold maxLen at he2 hd2
  have HS := Lib.hid hs
  have HU := Lib.hid ht
  clear hs ht
  by_cases hlen : l.length = m.length
  · have t1 : ((l.length : Int) == (m.length : Int)) = true := by simp [hlen]
    have t2 : ((l.length : Int) != (m.length : Int)) = false := by simp [hlen]
    have HLEN := Lib.hid hlen
    clear hlen
    go_enter Tryd.func9, Tryd.ntmps9
    go_wp2_with fail
    go_loopw [5] (Matching w l m) (fun v _ => l.length - (intOf v).toNat)
    case atStart => exact ⟨0, by omega, rfl, by simp, Below.refl _ _⟩
    case round =>
      obtain ⟨j, hj, rfl, heq, hW⟩ := hrel
      have HE := Lib.hid heq
      have HW := Lib.hid hW
      clear heq hW
      by_cases hlt : j < l.length
      · have hlt' : j < m.length := by have := HLEN.out; omega
        obtain ⟨g, o, rfl, hc⟩ := HS.out j _ (List.getElem?_eq_getElem hlt)
        obtain ⟨g', o', rfl, hc'⟩ := HU.out j _ (List.getElem?_eq_getElem hlt')
        have hc1 := le_below HW.out _ _ hc
        have hc2 := le_below HW.out _ _ hc'
        have HN := Lib.hid (show l.take (j + 1) = l.take j ++ [l[j]] from List.take_succ_eq_append_getElem hlt)
        have HN' := Lib.hid (show m.take (j + 1) = m.take j ++ [m[j]] from List.take_succ_eq_append_getElem hlt')
        have HNE := Lib.hid (show ¬ l[j] = m[j] → ¬ l = m from fun h e => h (by subst e; rfl))
        clear hc hc'
        generalize l[j] = n at *
        generalize m[j] = n' at *
        have hj1 : (j : Int) < (l.length : Int) := by omega
        have hj2 : (j : Int) < (m.length : Int) := by omega
        by_cases hn : n = n'
        · subst hn
          have hb1 : (n == n) = true := by simp
          have hb2 : (n != n) = false := by simp
          go_wp2_with fail
          go_quiet (fail)
          go_wp2_with fail
          go_roundw
          case rel => exact ⟨j + 1, by omega, by go_num, by rw [HN.out, HN'.out, HE.out], below_drewN HW.out _⟩
          case measure => simp [intOf]; omega
        · have hb1 : (n == n') = false := by simpa using hn
          have hb2 : (n != n') = true := by simpa using hn
          have HF := Lib.hid (HNE.out hn)
          clear hn
          go_wp2_with fail
          go_quiet (fail)
          go_wp2_with fail
          go_ret
          exact ⟨by rw [alike_ne HF.out]; rfl, below_drewN HW.out _⟩
      · obtain rfl : j = l.length := by omega
        have HF := Lib.hid (show l = m by have := HE.out; rwa [List.take_length, HLEN.out, List.take_length] at this)
        go_wp2_with fail
        go_ret
        exact ⟨by rw [alike_eq HF.out]; rfl, HW.out⟩
  · have t1 : ((l.length : Int) == (m.length : Int)) = false := by simp; omega
    have t2 : ((l.length : Int) != (m.length : Int)) = true := by simp; omega
    have HF := Lib.hid (show ¬ l = m from fun e => hlen (by rw [e]))
    clear hlen
    go_enter Tryd.func9, Tryd.ntmps9
    go_wp2_with fail
    go_ret
    exact ⟨by rw [alike_ne HF.out]; rfl, Below.refl _ _⟩

end Go.Proofs.YtjdkfkjkmjodlaaDoor

