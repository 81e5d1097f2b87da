/- Ke: Bm Ke, in one text. -/
import Derived.Test.YticpgjhckjhfeaaDoorProg
import Derived.WalkKit
import Derived.LaidEql
import Derived.RowKitTokens
import Derived.Below
import Derived.Test.YticpgjhckjhfeaaDoorKa
import Derived.Test.YticpgjhckjhfeaaDoorMh
/- errors.As at a target of type *api.Code, where the error is a Code; an operation's error, told with its place (apply's spot). After the kit's worked example of errors.As. -/
namespace Go.Proofs.YticpgjhckjhfeaaDoor
open Go.RowKit Go.Extern.Stop Go.Stop Go.Extern
theorem as_kindC (w : World) : ((ReflectliteType.abiMethod fun t => (fun a : Nat => Value.int IntKind.u8 (a : Int)) <$> Rtype.kind t) #[.pointer (some ⟨3, 62, none⟩)]).run Tryd.prog w = .ok (.int .u8 2) w := by kernel_rfl
theorem as_valueOfC (k : Int) (w : World) : (ReflectliteValue.unpack (.iface 62 (.int .i64 k))).run Tryd.prog w
    = .ok (.agg #[.pointer (some ⟨3, 62, none⟩), .pointer (some ⟨w.heap.size, 0, none⟩), .int .u64 130]) (w.alloc (.cells #[.int .i64 k] 62)) := by kernel_rfl
theorem as_mkC (p : Addr) (w : World) : (ReflectliteValue.mk 62 p ReflectliteValue.flagAddr).run Tryd.prog w = .ok (.agg #[.pointer (some ⟨3, 62, none⟩), .pointer (some p), .int .u64 386]) w := by kernel_rfl
theorem as_rlm (z : Sem Value) (f : TypeId → Addr → Nat → Nat → Sem Value) (v : Value) :
    ReflectliteValue.method z f #[v] = (do match ← ReflectliteValue.parts v with | none => z | some (t, a, fl) => f t a fl (fl % 32)) := rfl
theorem as_rls (v x : Value) : ReflectliteValue.set #[v, x] = (do
    let (some (dst, a, fl), some (src, b, _)) := (← ReflectliteValue.parts v, ← ReflectliteValue.parts x)
      | unsupported (.noEntry "extern/(internal/reflectlite.Value).Set.zeroValue")
    if fl / ReflectliteValue.flagAddr % 2 == 0 then unsupported (.noEntry "extern/(internal/reflectlite.Value).Set.unaddressable")
    let val ← loadVar src b
    if ← Rtype.directlyAssignable dst src then storeVar dst a val
    else if ← Rtype.implements dst src then
      if (← Rtype.kind src) == 20 then
        match val with
        | .nilIface => unsupported (.noEntry "extern/reflectlite: a nil value of one interface type handed on as a value of another")
        | _ => storeVar dst a val
      else storeVar dst a (.iface src val)
    else panicString ("reflectlite.Set: value of type " ++ (← Rtype.spelt src) ++ " is not assignable to type " ++ (← Rtype.spelt dst))
    pure (.tuple #[])) := rfl
theorem as_partsCa (a : Addr) (w : World) : (ReflectliteValue.parts (.agg #[.pointer (some ⟨3, 62, none⟩), .pointer (some a), .int .u64 386])).run Tryd.prog w = .ok (some (62, a, 386)) w := by kernel_rfl
theorem as_partsC (a : Addr) (w : World) : (ReflectliteValue.parts (.agg #[.pointer (some ⟨3, 62, none⟩), .pointer (some a), .int .u64 130])).run Tryd.prog w = .ok (some (62, a, 130)) w := by kernel_rfl
theorem as_directC (w : World) : (Rtype.directlyAssignable 62 62).run Tryd.prog w = .ok true w := by kernel_rfl
/-- (Value).Set: the variable at ta gets what the Value's own variable b holds. -/
theorem as_setC (ta b : Addr) (k : Int) (old : Value) (W : World) (hb : W.cell? b = some (.int .i64 k)) (ht : W.cell? ta = some old) (hf : W.frozen? ta = false) :
    (ReflectliteValue.set #[.agg #[.pointer (some ⟨3, 62, none⟩), .pointer (some ta), .int .u64 386], .agg #[.pointer (some ⟨3, 62, none⟩), .pointer (some b), .int .u64 130]]).run Tryd.prog W
      = .ok (.tuple #[]) (W.setCell ta (.int .i64 k)) := by
  rw [as_rls]
  simp only [Sem.run_bind, as_partsCa, as_partsC, Result.andThen]
  simp [ReflectliteValue.flagAddr, loadVar, isAgg, underlying, Tryd.underlying62, hb, Result.andThen, as_directC, storeVar, Value.cells, storeCells, Addr.add]
  rw [run_store Tryd.prog W ta _ _ (by rfl)]
  simp [ht, hf]

end Go.Proofs.YticpgjhckjhfeaaDoor

/- The walks of layer 6 (ptr): the program's Show. -/
namespace Go.Proofs.YticpgjhckjhfeaaDoor
open Go.RowKit Pt

/-- How far Show has come. -/
def PShowing (l : List (List UInt8)) (w : World) (v : Value) (wr : World) : Prop :=
  ∃ j : Nat, j ≤ l.length ∧ v = .int .i64 j ∧ Lib.IsBuilder 101 5 w.heap.size w.heap.size (Lib.byteCells (text (l.take j))) wr ∧ Below w.heap.size w wr

set_option linter.unusedSimpArgs false in
set_option linter.unusedVariables false in
set_option maxRecDepth 100000 in
set_option maxHeartbeats 1000000 in
theorem ptrShow_any (l : List (List UInt8)) (A : Option Addr) (e : Nat) (w : World) (hT : MaxT w) (hs : Strs w.cell? A l) (he : l.length ≤ e) (hm : e ≤ maxLen) (hlen : (text l).length ≤ 10000000) :
    Calls Tryd.prog 29 #[.slice A l.length e] w fun e w' => e = .returned (.string ⟨(text l).toArray⟩) ∧ Below w.heap.size w w' := by
  unfold maxLen at hm
  have HS := Lib.hid hs
  have HT := Lib.hid hT
  clear hs hT
  go_enter Tryd.func29, Tryd.ntmps29
  go_wp2_with fail
  go_loopw [8] (PShowing l w) (fun v _ => l.length - (intOf v).toNat)
  case atStart => exact ⟨0, by omega, rfl, by have := Lib.fresh_isBuilder 101 5 w; simpa [Lib.byteCells, text] using this, (Below.refl _ _).alloc (Nat.le_refl _) _⟩
  case round =>
    obtain ⟨j, hj, rfl, hB, hW⟩ := hrel
    have HB := Lib.hid hB
    have HW := Lib.hid hW
    clear hB hW
    by_cases hlt : j < l.length
    · obtain ⟨g, o, rfl, hc⟩ := HS.out j _ (List.getElem?_eq_getElem hlt)
      have hc1 := le_below HW.out _ _ hc
      have HTK := Lib.hid (text_take l j hlt)
      have hl1 := text_take_len l j hlt
      have hsz := HW.out.size
      clear hc
      generalize l[j] = n at *
      have hnn : n.length ≤ 10000000 := by have := name_ge n; omega
      have HE := Lib.hid (fun W hT => escaped_any n W hT hnn)
      generalize text (l.take j) = ta at *
      go_wp2_with fail
      refine (writeByte_any w.heap.size w.heap.size _ 47 wr HB.out (by rw [Lib.byteCells_length]; omega) HW.out.size).mono ?_
      rintro e w2 ⟨rfl, hb2, hw2⟩
      have HB2 := Lib.hid hb2
      have HW2 := Lib.hid (HW.out.trans hw2)
      clear hb2 hw2
      go_wp2_with fail
      refine (HE.out _ (HT.out.on HW2.out)).mono ?_
      rintro e w3 ⟨rfl, hw3⟩
      have HB3 := Lib.hid (builder_keep HB2.out hw3)
      have HW3 := Lib.hid (HW2.out.trans (hw3.mono HW2.out.size))
      clear hw3 hc1
      go_wp2_with fail
      refine (writeString_any w.heap.size w.heap.size _ ⟨(name n).toArray⟩ w3 HB3.out (by rw [List.length_append, Lib.byteCells_length, Lib.size_mk]; simp only [List.length_singleton]; omega) HW3.out.size).mono ?_
      rintro e w4 ⟨rfl, hb4, hw4⟩
      have HB4 := Lib.hid (show Lib.IsBuilder 101 5 w.heap.size w.heap.size (Lib.byteCells (text (l.take (j + 1)))) w4 by
        rw [HTK.out]
        have := hb4
        rw [Lib.strCells_eq] at this
        simpa [Lib.byteCells, List.append_assoc] using this)
      have HW4 := Lib.hid (HW3.out.trans hw4)
      clear hb4 hw4
      go_wp2_with fail
      go_roundw
      case rel => exact ⟨j + 1, by omega, by go_num, HB4.out, HW4.out⟩
      case measure => simp [intOf]; omega
    · obtain rfl : j = l.length := by omega
      have HF := Lib.hid (show text (l.take l.length) = text l by rw [List.take_length])
      rw [HF.out] at HB
      go_wp2_with fail
      refine (Tryd.Builder_String_any w.heap.size w.heap.size _ wr HB.out HW.out.size).mono ?_
      rintro e w3 ⟨rfl, hb3⟩
      go_wp2_with fail
      go_ret
      exact ⟨rfl, HW.out.trans hb3⟩

end Go.Proofs.YticpgjhckjhfeaaDoor


