/- Ke: Bm Ke, in one text. -/
import Derived.Test.YtccacjkogdmleaaDoorProg
import Derived.WalkKit
import Derived.LaidEql
import Derived.RowKitTokens
import Derived.Below
import Derived.Test.YtccacjkogdmleaaDoorKa
import Derived.Test.YtccacjkogdmleaaDoorMh
namespace Go.Proofs.YtccacjkogdmleaaDoor
open Go.RowKit Go.Extern.Stop Go.Stop Go.Extern
theorem as_rlm (z : Sem Value) (f : TypeId → Addr → Nat → Nat → Sem Value) (v : Value) :
    ReflectliteValue.method z f #[v] = (do match ← ReflectliteValue.parts v with | none => z | some (t, a, fl) => f t a fl (fl % 32)) := rfl
theorem as_rls (v x : Value) : ReflectliteValue.set #[v, x] = (do
    let (some (dst, a, fl), some (src, b, _)) := (← ReflectliteValue.parts v, ← ReflectliteValue.parts x)
      | unsupported (.noEntry "extern/(internal/reflectlite.Value).Set.zeroValue")
    if fl / ReflectliteValue.flagAddr % 2 == 0 then unsupported (.noEntry "extern/(internal/reflectlite.Value).Set.unaddressable")
    let val ← loadVar src b
    if ← Rtype.directlyAssignable dst src then storeVar dst a val
    else if ← Rtype.implements dst src then
      if (← Rtype.kind src) == 20 then
        match val with
        | .nilIface => unsupported (.noEntry "extern/reflectlite: a nil value of one interface type handed on as a value of another")
        | _ => storeVar dst a val
      else storeVar dst a (.iface src val)
    else panicString ("reflectlite.Set: value of type " ++ (← Rtype.spelt src) ++ " is not assignable to type " ++ (← Rtype.spelt dst))
    pure (.tuple #[])) := rfl
end Go.Proofs.YtccacjkogdmleaaDoor

/- The walks of layer 6 (ptr): the program's Show. -/
namespace Go.Proofs.YtccacjkogdmleaaDoor
open Go.RowKit Pt

/-- How far Show has come. -/
def PShowing (l : List (List UInt8)) (w : World) (v : Value) (wr : World) : Prop :=
  ∃ j : Nat, j ≤ l.length ∧ v = .int .i64 j ∧ Lib.IsBuilder 42 5 w.heap.size w.heap.size (Lib.byteCells (text (l.take j))) wr ∧ Below w.heap.size w wr

set_option linter.unusedSimpArgs false in
set_option linter.unusedVariables false in
set_option maxRecDepth 100000 in
set_option maxHeartbeats 1000000 in
theorem ptrShow_any (l : List (List UInt8)) (A : Option Addr) (e : Nat) (w : World) (hT : MaxT w) (hs : Strs w.cell? A l) (he : l.length ≤ e) (hm : e ≤ maxLen) (hlen : (text l).length ≤ 10000000) :
    Calls Tryd.prog 16 #[.slice A l.length e] w fun e w' => e = .returned (.string ⟨(text l).toArray⟩) ∧ Below w.heap.size w w' := by
  unfold maxLen at hm
  have HS := Lib.hid hs
  have HT := Lib.hid hT
  clear hs hT
  go_enter Tryd.func16, Tryd.ntmps16
  go_wp2_with fail
  go_loopw [8] (PShowing l w) (fun v _ => l.length - (intOf v).toNat)
  case atStart => exact ⟨0, by omega, rfl, by have := Lib.fresh_isBuilder 42 5 w; simpa [Lib.byteCells, text] using this, (Below.refl _ _).alloc (Nat.le_refl _) _⟩
  case round =>
    obtain ⟨j, hj, rfl, hB, hW⟩ := hrel
    have HB := Lib.hid hB
    have HW := Lib.hid hW
    clear hB hW
    by_cases hlt : j < l.length
    · obtain ⟨g, o, rfl, hc⟩ := HS.out j _ (List.getElem?_eq_getElem hlt)
      have hc1 := le_below HW.out _ _ hc
      have HTK := Lib.hid (text_take l j hlt)
      have hl1 := text_take_len l j hlt
      have hsz := HW.out.size
      clear hc
      generalize l[j] = n at *
      have hnn : n.length ≤ 10000000 := by have := name_ge n; omega
      have HE := Lib.hid (fun W hT => escaped_any n W hT hnn)
      generalize text (l.take j) = ta at *
      go_wp2_with fail
      refine (writeByte_any w.heap.size w.heap.size _ 47 wr HB.out (by rw [Lib.byteCells_length]; omega) HW.out.size).mono ?_
      rintro e w2 ⟨rfl, hb2, hw2⟩
      have HB2 := Lib.hid hb2
      have HW2 := Lib.hid (HW.out.trans hw2)
      clear hb2 hw2
      go_wp2_with fail
      refine (HE.out _ (HT.out.on HW2.out)).mono ?_
      rintro e w3 ⟨rfl, hw3⟩
      have HB3 := Lib.hid (builder_keep HB2.out hw3)
      have HW3 := Lib.hid (HW2.out.trans (hw3.mono HW2.out.size))
      clear hw3 hc1
      go_wp2_with fail
      refine (writeString_any w.heap.size w.heap.size _ ⟨(name n).toArray⟩ w3 HB3.out (by rw [List.length_append, Lib.byteCells_length, Lib.size_mk]; simp only [List.length_singleton]; omega) HW3.out.size).mono ?_
      rintro e w4 ⟨rfl, hb4, hw4⟩
      have HB4 := Lib.hid (show Lib.IsBuilder 42 5 w.heap.size w.heap.size (Lib.byteCells (text (l.take (j + 1)))) w4 by
        rw [HTK.out]
        have := hb4
        rw [Lib.strCells_eq] at this
        simpa [Lib.byteCells, List.append_assoc] using this)
      have HW4 := Lib.hid (HW3.out.trans hw4)
      clear hb4 hw4
      go_wp2_with fail
      go_roundw
      case rel => exact ⟨j + 1, by omega, by go_num, HB4.out, HW4.out⟩
      case measure => simp [intOf]; omega
    · obtain rfl : j = l.length := by omega
      have HF := Lib.hid (show text (l.take l.length) = text l by rw [List.take_length])
      rw [HF.out] at HB
      go_wp2_with fail
      refine (Tryd.Builder_String_any w.heap.size w.heap.size _ wr HB.out HW.out.size).mono ?_
      rintro e w3 ⟨rfl, hb3⟩
      go_wp2_with fail
      go_ret
      exact ⟨rfl, HW.out.trans hb3⟩

end Go.Proofs.YtccacjkogdmleaaDoor


