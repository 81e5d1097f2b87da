/- The walks of layer 2, fifth part of the document's answers: the laws' Spot, the document's Quote. -/
import Derived.Test.YtbcoakonjgakbaaDoorUc
import Derived.Test.YtbcoakonjgakbaaDoorSn
namespace Go.Proofs.YtbcoakonjgakbaaDoor
open Go.RowKit

set_option maxHeartbeats 400000 in
theorem spot_nil (w : World) :
    Calls Tryd.prog 22 #[.nilIface] w fun e w' => e = .returned (.tuple #[.int .i64 0, .int .i64 0]) ∧ w = w' := by
  go_enter Tryd.func22, Tryd.ntmps22
  go_wp2
  go_ret2
  exact ⟨rfl, rfl⟩

theorem assert_spot (v : Value) (w : World) : (Instr.typeAssert (.iface 76 v) 26 76 true).run Tryd.prog w = .ok (.tuple #[v, .bool true]) w := by
  simp [Instr.typeAssert, run_underlying Tryd.underlying76]

set_option maxRecDepth 100000 in
set_option maxHeartbeats 400000 in
theorem spot_at (b : Nat) (a k : Int) (w : World) (h : SpotAt w b a k) :
    Calls Tryd.prog 22 #[spotV b] w fun e w' => e = .returned (.tuple #[.int .i64 k, .int .i64 a]) ∧ Below w.heap.size w w' := by
  obtain ⟨h0, h1⟩ := h
  unfold spotV
  have has := assert_spot (.pointer (some ⟨b, 0, none⟩)) w
  go_enter Tryd.func22, Tryd.ntmps22
  go_wp2
  go_quiet (fail)
  go_wp2
  go_ret2
  exact ⟨rfl, below_drewN (Below.refl _ _) _⟩

/-- Bytes, laid in a new block, as a string. -/
theorem list_str (W : World) (l : List UInt8) :
    (convert 59 9 (.slice (some ⟨W.heap.size, 0, none⟩) l.length l.length)).run Tryd.prog (W.alloc (.cells (l.map (fun c => Value.int .u8 (c.toNat : Int))).toArray 5)) = .ok (.string ⟨l.toArray⟩) (W.alloc (.cells (l.map (fun c => Value.int .u8 (c.toNat : Int))).toArray 5)) := by
  refine bytes_str _ _ _ _ rfl ?_
  intro j hj
  simp [hj]
theorem one_str (W : World) (c : UInt8) :
    (convert 59 9 (.slice (some ⟨W.heap.size, 0, none⟩) 1 1)).run Tryd.prog (W.alloc (.cells #[.int .u8 (c.toNat : Int)] 5)) = .ok (.string ⟨[c].toArray⟩) (W.alloc (.cells #[.int .u8 (c.toNat : Int)] 5)) := list_str W [c]

theorem two_str (W : World) (c d : UInt8) :
    (convert 59 9 (.slice (some ⟨W.heap.size, 0, none⟩) 2 2)).run Tryd.prog (W.alloc (.cells #[.int .u8 (c.toNat : Int), .int .u8 (d.toNat : Int)] 5)).drew = .ok (.string ⟨[c, d].toArray⟩) (W.alloc (.cells #[.int .u8 (c.toNat : Int), .int .u8 (d.toNat : Int)] 5)).drew := by
  refine bytes_str _ _ 2 [c, d] rfl ?_
  intro j hj
  have hj' : j = 0 ∨ j = 1 := by simp at hj; omega
  rcases hj' with rfl | rfl <;> simp

/-- How far the document's Quote has come. -/
def RQuoting (w : World) (l : List UInt8) (o v : Value) (wr : World) (k : Nat) : Prop :=
  k ≤ l.length ∧ v = .int .i64 k ∧ o = .string ⟨(34 :: St.qb (l.take k)).toArray⟩ ∧ Below w.heap.size w wr

set_option linter.unusedSimpArgs false in
set_option maxRecDepth 100000 in
set_option maxHeartbeats 1000000 in
theorem refQuote_any (s : ByteArray) (w : World) (hs : s.size ≤ 1000000) :
    Calls Tryd.prog 25 #[.string s] w fun e w' => e = .returned (.string ⟨(St.quote s.data.toList).toArray⟩) ∧ Below w.heap.size w w' := by
  have hsl : s.data.toList.length = s.size := (Lib.size_eq s).symm
  have HSL := Lib.hid hsl
  clear hsl
  go_enter Tryd.func25, Tryd.ntmps25
  go_wp2
  go_loopw [3, 4] (fun o v wr => ∃ k, RQuoting w s.data.toList o v wr k) (fun _ v _ => s.size - (intOf v).toNat)
  case atStart => exact ⟨0, by omega, rfl, rfl, Below.refl _ _⟩
  case round =>
    obtain ⟨k, hk, rfl, rfl, hW⟩ := hrel
    rw [HSL.out] at hk
    by_cases hlt : k < s.size
    · have HQ := Lib.hid (qb_take s.data.toList k (len_at hlt))
      have hix : ∀ h, s[k]'h = s.data.toList[k]'(len_at hlt) := fun _ => rfl
      have hql : (St.qb (s.data.toList.take k)).length ≤ 6000000 := by
        have h1 := qb_len (s.data.toList.take k)
        have h2 := List.length_take_le k s.data.toList
        omega
      generalize s.data.toList[k]'(len_at hlt) = c at HQ hix
      generalize hout : (34 : UInt8) :: St.qb (s.data.toList.take k) = out
      have hol : out.length ≤ 6000001 := by rw [← hout, List.length_cons]; omega
      have HO := Lib.hid hout
      clear hout hql
      have hcw := one_str wr c
      by_cases c1 : c = 34 ∨ c = 92
      · have HC : Hid (St.qc c = [92, c]) := Lib.hid (by unfold St.qc; rw [if_pos c1])
        have hb : ((c.toNat : Int) == 34) = true ∨ (((c.toNat : Int) == 34) = false ∧ ((c.toNat : Int) == 92) = true) := by
          rcases c1 with rfl | rfl
          · left; rfl
          · right; exact ⟨rfl, rfl⟩
        clear c1
        have ha1 := fun W => cat_lists W out [92] (by simp; omega)
        have ha2 := fun W => cat_lists W (out ++ [92]) [c] (by simp; omega)
        rcases hb with hb | ⟨hb, hb'⟩
        all_goals
          go_wp2
          go_roundw
          case rel => exact ⟨k + 1, by rw [HSL.out]; omega, by go_num, by rw [HQ.out, HC.out, ← HO.out]; simp, hW.alloc hW.size _⟩
          case measure => simp [intOf]; omega
      · by_cases c2 : c.toNat < 32
        · have HC : Hid (St.qc c = [92, 117, 48, 48, St.hexd (c.toNat / 16), St.hexd (c.toNat % 16)]) := Lib.hid (by unfold St.qc; rw [if_neg c1, if_pos c2])
          have b1 : ((c.toNat : Int) == 34) = false := byte_neb 34 (fun e => c1 (.inl e))
          have b2 : ((c.toNat : Int) == 92) = false := byte_neb 92 (fun e => c1 (.inr e))
          clear c1 hcw
          have ha1 := fun W => cat_lists W out [92, 117, 48, 48] (by simp; omega)
          have ha2 := fun W => cat_lists W (out ++ [92, 117, 48, 48]) [St.hexd (c.toNat / 16), St.hexd (c.toNat % 16)] (by simp; omega)
          have hm0 : (0 : Int) ≤ (c.toNat : Int) % 16 := by omega
          have hm1 : (c.toNat : Int) % 16 < 16 := by omega
          have hd0 : (0 : Int) ≤ (c.toNat : Int) / 16 := by omega
          have hd1 : (c.toNat : Int) / 16 < 16 := by omega
          have ht1 : ∀ h, (⟨#[48, 49, 50, 51, 52, 53, 54, 55, 56, 57, 97, 98, 99, 100, 101, 102]⟩ : ByteArray)[c.toNat / 16]'h = St.hexd (c.toNat / 16) := fun h => hexTab _ (by omega)
          have ht2 : ∀ h, (⟨#[48, 49, 50, 51, 52, 53, 54, 55, 56, 57, 97, 98, 99, 100, 101, 102]⟩ : ByteArray)[c.toNat % 16]'h = St.hexd (c.toNat % 16) := fun h => hexTab _ (by omega)
          generalize St.hexd (c.toNat / 16) = x at HC ht1 ha2
          generalize St.hexd (c.toNat % 16) = y at HC ht2 ha2
          have hcw := two_str wr x y
          go_wp2
          go_region
          go_wp2
          go_roundw
          case rel => exact ⟨k + 1, by rw [HSL.out]; omega, by go_num, by rw [HQ.out, HC.out, ← HO.out]; simp, (hW.alloc hW.size _).drew⟩
          case measure => simp [intOf]; omega
        · have HC : Hid (St.qc c = [c]) := Lib.hid (by unfold St.qc; rw [if_neg c1, if_neg c2])
          have b1 : ((c.toNat : Int) == 34) = false := byte_neb 34 (fun e => c1 (.inl e))
          have b2 : ((c.toNat : Int) == 92) = false := byte_neb 92 (fun e => c1 (.inr e))
          clear c1
          have ha1 := fun W => cat_lists W out [c] (by simp; omega)
          go_wp2
          go_roundw
          case rel => exact ⟨k + 1, by rw [HSL.out]; omega, by go_num, by rw [HQ.out, HC.out, ← HO.out]; simp, hW.alloc hW.size _⟩
          case measure => simp [intOf]; omega
    · obtain rfl : k = s.size := by omega
      have hql := qb_len s.data.toList
      rw [HSL.out] at hql
      rw [show s.data.toList.take s.size = s.data.toList from by rw [← HSL.out, List.take_length]]
      have ha1 := fun W => cat_lists W (34 :: St.qb s.data.toList) [34] (by simp; omega)
      go_wp2
      go_ret
      exact ⟨rfl, hW⟩

end Go.Proofs.YtbcoakonjgakbaaDoor
