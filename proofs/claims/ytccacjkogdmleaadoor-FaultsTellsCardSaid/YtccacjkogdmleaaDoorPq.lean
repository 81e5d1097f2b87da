/- Pq: Pq Pu, in one text. -/
import Derived.Test.YtccacjkogdmleaaDoorPp
import Derived.Test.YtccacjkogdmleaaDoorVb
import Derived.Test.YtccacjkogdmleaaDoorSf
import Derived.BigQuiet
import Derived.Test.YtccacjkogdmleaaDoorMo
/- The walks of layer 6 (ptr): the document's Path. -/
namespace Go.Proofs.YtccacjkogdmleaaDoor
open Go.RowKit Pt

/-- A slice of strings lies in memory. -/
def Strs (c : Cl) (A : Option Addr) (l : List (List UInt8)) : Prop := ∀ i n, l[i]? = some n → ∃ g o, A = some ⟨g, o, none⟩ ∧ c ⟨g, o + i, none⟩ = some (.string ⟨n.toArray⟩)
theorem Strs.keep {c c' : Cl} (h : c.le c') {A : Option Addr} {l : List (List UInt8)} (hs : Strs c A l) : Strs c' A l := fun i n hi => by
  obtain ⟨g, o, h1, h2⟩ := hs i n hi
  exact ⟨g, o, h1, h _ _ h2⟩

def Pathing (w : World) (l : List (List UInt8)) (o v : Value) (wr : World) : Prop :=
  ∃ j : Nat, j ≤ l.length ∧ v = .int .i64 j ∧ o = .string ⟨(text (l.take j)).toArray⟩ ∧ Below w.heap.size w wr
def Naming (w : World) (out n : List UInt8) (o v : Value) (wr : World) : Prop :=
  ∃ k : Nat, k ≤ n.length ∧ v = .int .i64 k ∧ o = .string ⟨(out ++ name (n.take k)).toArray⟩ ∧ Below w.heap.size w wr

theorem name_take_len (n : List UInt8) (k : Nat) : (name (n.take k)).length ≤ (name n).length := by
  have e : name n = name (n.take k) ++ name (n.drop k) := by rw [← name_append, List.take_append_drop]
  rw [e, List.length_append]; omega
theorem name_ge (n : List UInt8) : n.length ≤ (name n).length := by
  induction n with
  | nil => simp [name]
  | cons c n ih =>
    have e : name (c :: n) = esc c ++ name n := by simp [name]
    rw [e, List.length_append, List.length_cons]
    have := esc_len c
    omega
theorem text_take_len (l : List (List UInt8)) (j : Nat) (h : j < l.length) : (text (l.take j)).length + (1 + (name l[j]).length) ≤ (text l).length := by
  have e : text l = text (l.take (j + 1)) ++ text (l.drop (j + 1)) := by rw [← text_append, List.take_append_drop]
  rw [e, text_take l j h]
  simp only [List.length_append, List.length_cons]; omega

set_option linter.unusedSimpArgs false in
set_option linter.unusedVariables false in
set_option maxRecDepth 100000 in
set_option maxHeartbeats 1000000 in
theorem refPath_any (l : List (List UInt8)) (A : Option Addr) (e : Nat) (w : World) (hs : Strs w.cell? A l) (he : l.length ≤ e) (hm : e ≤ maxLen) (hlen : (text l).length ≤ 10000000) :
    Calls Tryd.prog 7 #[.slice A l.length e] w fun e w' => e = .returned (.string ⟨(text l).toArray⟩) ∧ Below w.heap.size w w' := by
  unfold maxLen at hm
  have HS := Lib.hid hs
  clear hs
  go_enter Tryd.func7, Tryd.ntmps7
  go_wp2_with fail
  go_loopw [3, 4] (Pathing w l) (fun _ v _ => l.length - (intOf v).toNat)
  case atStart => exact ⟨0, by omega, rfl, by simp [text], Below.refl _ _⟩
  case round =>
    obtain ⟨j, hj, rfl, rfl, hW⟩ := hrel
    have HW := Lib.hid hW
    clear hW
    by_cases hlt : j < l.length
    · obtain ⟨g, o, rfl, hc⟩ := HS.out j _ (List.getElem?_eq_getElem hlt)
      have hc1 := le_below HW.out _ _ hc
      have HTK := Lib.hid (text_take l j hlt)
      have hl1 := text_take_len l j hlt
      have HC := Lib.hid hc
      clear hc
      generalize l[j] = n at *
      have hnn : n.length ≤ 10000000 := by have := name_ge n; omega
      generalize hta : text (l.take j) = ta at *
      have ha1 := fun W => cat_lists W ta [47] (by simp only [List.length_singleton]; omega)
      generalize htb : ta ++ [47] = tb at *
      have hbl : tb.length = ta.length + 1 := by rw [← htb]; simp
      have HTB := Lib.hid htb
      clear htb
      go_wp2_with fail
      go_loopw [3, 5] (Naming w tb n) (fun _ v _ => n.length - (intOf v).toNat)
      case atStart => exact ⟨0, by omega, rfl, by simp [name], HW.out⟩
      case round =>
        obtain ⟨k, hk, rfl, rfl, hW2⟩ := hrel
        have HW2 := Lib.hid hW2
        clear hW2 hc1
        have hc1 := le_below HW2.out _ _ HC.out
        have hsz : (⟨n.toArray⟩ : ByteArray).size = n.length := Lib.size_mk n
        by_cases hk2 : k < n.length
        · have HN := Lib.hid (name_take n k hk2)
          have hnl := name_take_len n k
          have hix : ∀ h, (⟨n.toArray⟩ : ByteArray)[k]'h = n[k] := fun _ => rfl
          generalize hnk : n[k] = c at HN hix
          generalize htc : tb ++ name (n.take k) = tc at *
          have hcl : tc.length ≤ 20000000 := by rw [← htc, List.length_append]; omega
          have HTC := Lib.hid htc
          clear htc hnl
          by_cases c1 : c = 126
          · have hE := Lib.hid (show esc c = [126, 48] by unfold esc; rw [if_pos c1])
            have b1 : ((c.toNat : Int) == 126) = true := by rw [c1]; rfl
            have ha2 := fun W => cat_lists W tc [126, 48] (by simp; omega)
            clear c1
            go_wp2
            go_roundw
            case rel => exact ⟨k + 1, by omega, by go_num, by rw [HN.out, hE.out, ← HTC.out]; simp, HW2.out⟩
            case measure => simp [intOf]; omega
          · have b1 : ((c.toNat : Int) == 126) = false := byte_neb 126 c1
            by_cases c2 : c = 47
            · have hE := Lib.hid (show esc c = [126, 49] by unfold esc; rw [if_neg c1, if_pos c2])
              have b2 : ((c.toNat : Int) == 47) = true := by rw [c2]; rfl
              have ha2 := fun W => cat_lists W tc [126, 49] (by simp; omega)
              clear c1 c2
              go_wp2
              go_roundw
              case rel => exact ⟨k + 1, by omega, by go_num, by rw [HN.out, hE.out, ← HTC.out]; simp, HW2.out⟩
              case measure => simp [intOf]; omega
            · have hE := Lib.hid (show esc c = [c] by unfold esc; rw [if_neg c1, if_neg c2])
              have b2 : ((c.toNat : Int) == 47) = false := byte_neb 47 c2
              have ha2 := fun W => cat_lists W tc [c] (by simp; omega)
              have hcw := one_str wr c
              clear c1 c2
              go_wp2
              go_roundw
              case rel => exact ⟨k + 1, by omega, by go_num, by rw [HN.out, hE.out, ← HTC.out]; simp, HW2.out.alloc HW2.out.size _⟩
              case measure => simp [intOf]; omega
        · obtain rfl : k = n.length := by omega
          rw [List.take_length]
          go_wp2
          go_roundw
          case rel => exact ⟨j + 1, by omega, by go_num, by rw [HTK.out, ← HTB.out]; simp [hta], HW2.out⟩
          case measure => simp [intOf]; omega
    · obtain rfl : j = l.length := by omega
      rw [List.take_length]
      go_wp2
      go_ret
      exact ⟨rfl, HW.out⟩

/-- 1, if two lists of names are the same; else 0. -/
def alike (l m : List (List UInt8)) : Int := if l = m then 1 else 0
theorem alike_eq {l m : List (List UInt8)} (h : l = m) : alike l m = 1 := if_pos h
theorem alike_ne {l m : List (List UInt8)} (h : ¬ l = m) : alike l m = 0 := if_neg h
/-- How far two lists of names are the same. -/
def Matching (w : World) (l m : List (List UInt8)) (v : Value) (wr : World) : Prop :=
  ∃ j : Nat, j ≤ l.length ∧ v = .int .i64 j ∧ l.take j = m.take j ∧ Below w.heap.size w wr

end Go.Proofs.YtccacjkogdmleaaDoor

/- Pu: Pu Pv, in one text. -/
/- The walks of layer 6 (ptr): the document's Index. -/
namespace Go.Proofs.YtccacjkogdmleaaDoor.Pt

theorem pre_full (nm : List UInt8) : (Nm.pre nm).length = nm.length ↔ nm.all Nm.dig = true := by
  constructor
  · intro h
    have hs : Nm.pre nm = nm := (List.takeWhile_sublist Nm.dig).eq_of_length h
    rw [List.all_eq_true]
    intro c hc
    exact Nm.pre_dig nm c (by rw [hs]; exact hc)
  · intro h
    have : Nm.pre nm = nm := by
      have := (Nm.pre_all nm [] (fun c hc => (List.all_eq_true.1 h) c hc) (fun c hc => by cases hc)).1
      rwa [List.append_nil] at this
    rw [this]
theorem val_take (nm : List UInt8) (j : Nat) (h : j < nm.length) : Nm.val (nm.take (j + 1)) = 10 * Nm.val (nm.take j) + (nm[j].toNat - 48) := by
  rw [List.take_succ_eq_append_getElem h, Nm.val_snoc]
theorem val_small (nm : List UInt8) (h : nm.all Nm.dig = true) (hl : nm.length ≤ 18) (j : Nat) : Nm.val (nm.take j) < 1000000000000000000 := by
  have h1 := Nm.val_lt (nm.take j) (fun c hc => (List.all_eq_true.1 h) c (List.mem_of_mem_take hc))
  have h2 : (nm.take j).length ≤ 18 := by rw [List.length_take]; omega
  have h3 : 10 ^ (nm.take j).length ≤ 10 ^ 18 := Nat.pow_le_pow_right (by omega) h2
  omega
theorem val_step (nm : List UInt8) (h : nm.all Nm.dig = true) (hl : nm.length ≤ 18) (j : Nat) (hj : j < nm.length) : Nm.val (nm.take j) < 100000000000000000 := by
  have h1 := Nm.val_lt (nm.take j) (fun c hc => (List.all_eq_true.1 h) c (List.mem_of_mem_take hc))
  have h2 : (nm.take j).length ≤ 17 := by rw [List.length_take]; omega
  have h3 : 10 ^ (nm.take j).length ≤ 10 ^ 17 := Nat.pow_le_pow_right (by omega) h2
  omega

end Go.Proofs.YtccacjkogdmleaaDoor.Pt
namespace Go.Proofs.YtccacjkogdmleaaDoor
open Go.RowKit Pt

def Counting (nm : List UInt8) (w : World) (v i : Value) (wr : World) : Prop :=
  ∃ j : Nat, j ≤ nm.length ∧ i = .int .i64 j ∧ v = .int .i64 (Nm.val (nm.take j)) ∧ wr = w

end Go.Proofs.YtccacjkogdmleaaDoor

/- The walks of layer 6 (ptr): the document's Pointer. -/
namespace Go.Proofs.YtccacjkogdmleaaDoor
open Go.RowKit Pt

theorem infoString : (Tryd.prog.info? 9).map (fun i => (i.zero, i.size, i.bytes)) = some (some (.string ⟨#[]⟩), 1, 16) := by kernel_rfl

theorem one_str_drew (W : World) (c : UInt8) :
    (convert 34 9 (.slice (some ⟨W.heap.size, 0, none⟩) 1 1)).run Tryd.prog (W.alloc (.cells #[.int .u8 (c.toNat : Int)] 5)).drew = .ok (.string ⟨[c].toArray⟩) (W.alloc (.cells #[.int .u8 (c.toNat : Int)] 5)).drew := by
  refine bytes_str _ _ 1 [c] rfl ?_
  intro j hj
  have hj' : j = 0 := by simp at hj; omega
  subst hj'; simp

/-- Names, as they stand in cells. -/
def strs (l : List (List UInt8)) : List Value := l.map fun n => Value.string ⟨n.toArray⟩
theorem strs_append (a b : List (List UInt8)) : strs (a ++ b) = strs a ++ strs b := by simp [strs]
theorem strs_length (l : List (List UInt8)) : (strs l).length = l.length := by simp [strs]

theorem own_set {w : World} {base : Nat} {e : TypeId} {size g n cap : Nat} {xs : List Value} (h : w.ownsRow base e size (.slice (some ⟨g, 0, none⟩) n cap) n xs) (i : Nat) (u : Value) :
    (w.setCell ⟨g, i, none⟩ u).ownsRow base e size (.slice (some ⟨g, 0, none⟩) n cap) n (xs.set i u) := by
  obtain ⟨hl, h⟩ := h
  rcases h with ⟨h, _⟩ | ⟨g', cap', cur, hv, hb, hc, h1, h2, h3, h4⟩
  · cases h
  · injection hv with ha hn hcap
    injection ha with ha
    injection ha with hg _ _
    subst hg hcap
    refine ⟨by simpa using hl, .inr ⟨g, cap, cur.setIfInBounds i u, rfl, hb, ?_, h1, h2, by simpa using h3, ?_⟩⟩
    · simp [World.setCell, Array.getElem?_modify, hc]
    · rw [Array.toList_setIfInBounds, List.take_set, h4]
theorem own_at {w : World} {base : Nat} {e : TypeId} {g n cap : Nat} {xs : List Value} (h : w.ownsRow base e 1 (.slice (some ⟨g, 0, none⟩) n cap) n xs) {i : Nat} {u : Value} (hi : xs[i]? = some u) :
    w.cell? ⟨g, i, none⟩ = some u ∧ w.frozen? ⟨g, i, none⟩ = false ∧ base ≤ g ∧ g < w.heap.size := by
  obtain ⟨hl, h⟩ := h
  rcases h with ⟨h, _⟩ | ⟨g', cap', cur, hv, hb, hc, h1, h2, h3, h4⟩
  · cases h
  · injection hv with ha hn hcap
    injection ha with ha
    injection ha with hg _ _
    subst hg hcap
    refine ⟨?_, frozen_of_row w g i cur e hc, hb, (Array.getElem?_eq_some_iff.1 hc).1⟩
    rw [cell_of_row w g i cur e (0, 0) hc]
    rw [← h4] at hi
    have := List.getElem?_eq_some_iff.1 hi
    obtain ⟨h5, h6⟩ := this
    rw [List.getElem_take] at h6
    rw [← Array.getElem?_toList, List.getElem?_eq_some_iff]
    exact ⟨_, h6⟩

/-- What the document's Pointer tells. -/
def PtrPost (t : List UInt8) (w : World) (e : Ending) (w' : World) : Prop :=
  Below w.heap.size w w' ∧ ((∃ l A cp, parse t = .ok l ∧ e = .returned (.tuple #[.slice A l.length cp, .int .i64 (-1)]) ∧ w'.ownsRow w.heap.size 9 1 (.slice A l.length cp) l.length (strs l)) ∨
    (∃ p : Nat, parse t = .bad p ∧ e = .returned (.tuple #[.slice none 0 0, .int .i64 p])))
/-- How far it has come. -/
structure Pointing0 (t : List UInt8) (w : World) (i : Nat) (l : List (List UInt8)) (A : Option Addr) (cp : Nat) (wr : World) : Prop where
  hi : i ≤ t.length
  own : wr.ownsRow w.heap.size 9 1 (.slice A l.length cp) l.length (strs l)
  below : Below w.heap.size w wr
  res : go (t.drop i) i l = parse t
  first : l = [] → (t.drop i).head? = some 47
  len : l.length ≤ i
  lens : ∀ n ∈ l, n.length ≤ i
def Pointing (t : List UInt8) (w : World) (v4 v5 : Value) (wr : World) : Prop :=
  ∃ (i : Nat) (l : List (List UInt8)) (A : Option Addr) (cp : Nat), v5 = .int .i64 i ∧ v4 = .slice A l.length cp ∧ Pointing0 t w i l A cp wr

theorem pointing_push {s : List UInt8} {w wr : World} {i i' g cp : Nat} {a : List (List UInt8)} {b : List UInt8} {c : UInt8} (h : Pointing0 s w i (a ++ [b]) (some ⟨g, 0, none⟩) cp wr) (hi : i < i') (hi2 : i' ≤ s.length)
    (hgo : go (s.drop i') i' (push (a ++ [b]) c) = parse s) (hg : w.heap.size ≤ g) (o : Obj) :
    Pointing0 s w i' (push (a ++ [b]) c) (some ⟨g, 0, none⟩) cp (((wr.setCell ⟨g, a.length, none⟩ (.string ⟨(b ++ [c]).toArray⟩)).alloc o).drew) := by
  have hl : (push (a ++ [b]) c).length = (a ++ [b]).length := push_length (by simp) c
  refine ⟨hi2, ?_, (((h.below.setCell (p := ⟨g, a.length, none⟩) hg _).alloc ?_ o).drew), hgo, fun e => absurd e (push_ne _ _), by have := h.len; omega, ?_⟩
  · have := (own_set h.own a.length (.string ⟨(b ++ [c]).toArray⟩)).alloc o
    rw [hl]
    have e : strs (push (a ++ [b]) c) = (strs (a ++ [b])).set a.length (.string ⟨(b ++ [c]).toArray⟩) := by
      rw [push_last]; simp [strs]
    rw [e]
    exact this
  · have := h.below.size; simpa [World.setCell] using this
  · intro n hn
    rw [push_last] at hn
    rcases List.mem_append.1 hn with k | k
    · have := h.lens n (List.mem_append_left _ k); omega
    · have hb := h.lens b (by simp)
      simp at k; subst k; simp; omega

theorem own_nil (w : World) (base : Nat) : w.ownsRow base 9 1 (.slice none 0 0) 0 (strs []) := ⟨rfl, .inl ⟨rfl, rfl⟩⟩

end Go.Proofs.YtccacjkogdmleaaDoor


