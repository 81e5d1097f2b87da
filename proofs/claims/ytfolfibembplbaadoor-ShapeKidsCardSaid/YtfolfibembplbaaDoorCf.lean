/- The laws of layer 10 (shape), given what the program's Check, Single and Kids are to do. (By gen_cf.py.) -/
import Derived.Test.YtfolfibembplbaaDoorCe
import Derived.Test.YtfolfibembplbaaDoorMt
import Derived.Test.YtfolfibembplbaaDoorWg
import Derived.Test.YtfolfibembplbaaDoorRg
namespace Go.Proofs.YtfolfibembplbaaDoor
open Go.RowKit Js

/-- What holds of the world, and stays so. -/
def Stays (G : World → Prop) : Prop := ∀ w w' : World, G w → Below w.heap.size w w' → G w'
/-- What the program's Check, Single, Kids are to do. -/
def CheckT (G : World → Prop) : Prop := ∀ (nm : List UInt8) (v : Vl) (x : Value) (w : World), G w → nm.length ≤ 1000 → Fine v → v.In w.cell? x → Calls Tryd.prog 6 #[.string ⟨nm.toArray⟩, x] w fun e w' => e = .returned (errV (Sh.shape nm v)) ∧ Below w.heap.size w w'
def SingleT (G : World → Prop) : Prop := ∀ (nm : List UInt8) (w : World), G w → nm.length ≤ 1000 → Calls Tryd.prog 8 #[.string ⟨nm.toArray⟩] w fun e w' => e = .returned (.bool (Sh.single nm)) ∧ Below w.heap.size w w'
/-- What each Kids tells. -/
def KidsE (r : List Js.Mem) (w : World) (e : Ending) (w' : World) : Prop :=
  ∃ (A : Option Addr) (cp : Nat), e = .returned (.slice A r.length cp) ∧ SlM w'.cell? A r ∧ r.length ≤ cp ∧ cp ≤ maxLen ∧ Below w.heap.size w w'
def KidsT (G : World → Prop) : Prop := ∀ (nm : List UInt8) (v : Vl) (x : Value) (w : World), G w → nm.length ≤ 1000 → Fine v → v.In w.cell? x → Sh.shape nm v = 0 → Calls Tryd.prog 7 #[.string ⟨nm.toArray⟩, x] w (KidsE (Sh.kids nm v) w)
/-- A world behind another one. -/
def Since10 (w W : World) : Prop := Below w.heap.size w W

/-- The document's example. -/
def Sh.exV : Vl := Ps.mkS [105, 110, 116, 101, 103, 101, 114]
set_option linter.unusedVariables false in
set_option linter.unusedSimpArgs false in
set_option maxRecDepth 100000 in
set_option maxHeartbeats 2000000 in
theorem up10_any {G : World → Prop} (hG : Stays G) (hC : CheckT G) (hS : SingleT G) (w : World) (hg : G w) : Calls Tryd.prog 4 #[] w fun e w' => e = .returned (.bool true) ∧ Below w.heap.size w w' := by
  have HX := Lib.hid (show ∀ c : Cl, Sh.exV.In c (.agg #[.int .i64 3, .bool false, .bool false, .string ⟨#[]⟩, .int .i64 0, .string ⟨#[105, 110, 116, 101, 103, 101, 114]⟩, .slice none 0 0, .slice none 0 0]) from fun c => leaf_in c 3 false Nm.Num.zero [105, 110, 116, 101, 103, 101, 114])
  have hf : Fine Sh.exV := by unfold Sh.exV; exact ⟨by decide, by decide, by decide, by decide, by simp [Ps.mkS, Vl.slim, slimL, slimM, Nm.Num.zero]⟩
  have HBA := Lib.hid ((Below.refl w.heap.size w).alloc (Nat.le_refl _) (.cells #[.int .i64 3, .bool false, .bool false, .string ⟨#[]⟩, .int .i64 0, .string ⟨#[105, 110, 116, 101, 103, 101, 114]⟩, .slice none 0 0, .slice none 0 0] 28))
  have HKA := Lib.hid (Blk.new w 28 #[.int .i64 3, .bool false, .bool false, .string ⟨#[]⟩, .int .i64 0, .string ⟨#[105, 110, 116, 101, 103, 101, 114]⟩, .slice none 0 0, .slice none 0 0])
  have HC1 := Lib.hid (fun (W : World) (h : Below w.heap.size w W) => hC [116, 121, 112, 101] Sh.exV _ W (hG _ _ hg h) (by decide) hf (HX.out W.cell?))
  have HC2 := Lib.hid (fun (W : World) (h : Below w.heap.size w W) => hC [116, 121, 112] Sh.exV _ W (hG _ _ hg h) (by decide) hf (HX.out W.cell?))
  have HC3 := Lib.hid (fun (W : World) (h : Below w.heap.size w W) => hC [101, 110, 117, 109] Sh.exV _ W (hG _ _ hg h) (by decide) hf (HX.out W.cell?))
  have HS := Lib.hid (fun (W : World) (h : Below w.heap.size w W) => hS [110, 111, 116] W (hG _ _ hg h) (by decide))
  rw [show errV ((Sh.shape [116, 121, 112, 101] Sh.exV : Nat) : Int) = .nilIface by kernel_rfl] at HC1
  rw [show errV ((Sh.shape [116, 121, 112] Sh.exV : Nat) : Int) = errV 10 by kernel_rfl] at HC2
  rw [show errV ((Sh.shape [101, 110, 117, 109] Sh.exV : Nat) : Int) = errV 11 by kernel_rfl] at HC3
  rw [show Sh.single [110, 111, 116] = true by decide] at HS
  have HD := Lib.hid (fun (k : Int) (W : World) (h0 : 0 ≤ k) (h1 : k ≤ 14) => code_any k W h0 h1)
  clear hG hC hS hg hf
  go_enter Tryd.func4, Tryd.ntmps4
  go_upto_region 2 with (fail)
  generalize w.alloc (.cells #[.int .i64 3, .bool false, .bool false, .string ⟨#[]⟩, .int .i64 0, .string ⟨#[105, 110, 116, 101, 103, 101, 114]⟩, .slice none 0 0, .slice none 0 0] 28) = w0 at *
  obtain ⟨a0, a1, a2, a3, a4, a5, a6, a7⟩ := HKA.out.eight
  go_wp2_with fail
  refine (HC1.out _ HBA.out).mono ?_
  rintro e1 w1 ⟨rfl, hb1⟩
  have HB1 := Lib.hid (HBA.out.trans (hb1.mono HBA.out.size))
  have HK1 := Lib.hid (HKA.out.on hb1)
  clear hb1 a0 a1 a2 a3 a4 a5 a6 a7
  obtain ⟨a0, a1, a2, a3, a4, a5, a6, a7⟩ := HK1.out.eight
  go_wp2_with fail
  refine (HC2.out _ HB1.out).mono ?_
  rintro e2 w2 ⟨rfl, hb2⟩
  have HB2 := Lib.hid (HB1.out.trans (hb2.mono HB1.out.size))
  have HK2 := Lib.hid (HK1.out.on hb2)
  clear hb2 a0 a1 a2 a3 a4 a5 a6 a7
  go_wp2_with fail
  refine (HD.out 10 _ (by omega) (by omega)).mono ?_
  rintro e3 w3 ⟨rfl, rfl⟩
  obtain ⟨a0, a1, a2, a3, a4, a5, a6, a7⟩ := HK2.out.eight
  go_wp2_with fail
  refine (HC3.out _ HB2.out).mono ?_
  rintro e4 w4 ⟨rfl, hb4⟩
  have HB4 := Lib.hid (HB2.out.trans (hb4.mono HB2.out.size))
  clear hb4 a0 a1 a2 a3 a4 a5 a6 a7
  go_wp2_with fail
  refine (HD.out 11 _ (by omega) (by omega)).mono ?_
  rintro e5 w5 ⟨rfl, rfl⟩
  go_wp2_with fail
  refine (HS.out _ HB4.out).mono ?_
  rintro e6 w6 ⟨rfl, hb6⟩
  have HB6 := Lib.hid (HB4.out.trans (hb6.mono HB4.out.size))
  clear hb6
  go_wp2_with fail
  go_ret
  exact ⟨rfl, HB6.out⟩

/-- A value in a block, while a law goes on. -/
structure Part10 (gV : Nat) (V : Array Value) (wr W : World) : Prop where
  v : Blk W gV 28 V
  since : Below wr.heap.size wr W
theorem Part10.on {gV : Nat} {V : Array Value} {wr w' w'' : World} (h : Part10 gV V wr w') (hb : Below w'.heap.size w' w'') : Part10 gV V wr w'' := ⟨h.v.on hb, h.since.trans (hb.mono h.since.size)⟩

end Go.Proofs.YtfolfibembplbaaDoor

