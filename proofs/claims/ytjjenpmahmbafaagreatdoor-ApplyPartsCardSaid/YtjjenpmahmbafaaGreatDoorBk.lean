/- The laws of layer 9 (apply): ApplyParts. (The walk by gen_bk.py.) -/
import Derived.Test.YtjjenpmahmbafaaGreatDoorBi
import Derived.Test.YtjjenpmahmbafaaGreatDoorPh
import Derived.Test.YtjjenpmahmbafaaGreatDoorYb
import Derived.Test.YtjjenpmahmbafaaGreatDoorJg
import Derived.Deep.CutRange
namespace Go.Proofs.YtjjenpmahmbafaaGreatDoor
open Go.RowKit Pt Js Oq

def tailA (A : Option Addr) (k cp : Nat) : Option Addr := if cp = k then A else Option.map (fun x => x.add (k * 11)) A
theorem SlO.drop {c : Cl} {A : Option Addr} {l : List Opn} (h : SlO c A l) {k cp : Nat} (hc : l.length ≤ cp) : SlO c (tailA A k cp) (l.drop k) := fun i o hi => by
  rw [List.getElem?_drop] at hi
  have hlt := (List.getElem?_eq_some_iff.1 hi).1
  obtain ⟨g, off, y, rfl, h2, h3⟩ := h _ _ hi
  refine ⟨g, off + k * 11, y, ?_, h2, ?_⟩
  · unfold tailA; rw [if_neg (by omega)]; simp [Addr.add]
  · rw [show off + k * 11 + i * 11 = off + (k + i) * 11 by omega]; exact h3

def Bx9 (w : World) (g : Nat) (v : Vl) (cs : Array Value) : Prop := Blk w g 28 cs ∧ v.In w.cell? (.agg cs)
theorem Bx9.on {w w' : World} {g : Nat} {v : Vl} {cs : Array Value} (h : Bx9 w g v cs) (hb : Below w.heap.size w w') : Bx9 w' g v cs := ⟨h.1.on hb, In.keep (le_below hb) _ _ h.2⟩
theorem cellsAt11 {w : World} {g off : Nat} {t : TypeId} {cs : Array Value} (h : Blk w g t cs) {c0 c1 c2 c3 c4 c5 c6 c7 c8 c9 c10 : Value} (e0 : cs[off + 0]? = some c0) (e1 : cs[off + 1]? = some c1) (e2 : cs[off + 2]? = some c2) (e3 : cs[off + 3]? = some c3) (e4 : cs[off + 4]? = some c4) (e5 : cs[off + 5]? = some c5) (e6 : cs[off + 6]? = some c6) (e7 : cs[off + 7]? = some c7) (e8 : cs[off + 8]? = some c8) (e9 : cs[off + 9]? = some c9) (e10 : cs[off + 10]? = some c10) : CellsAt w.cell? g off (.agg #[c0, c1, c2, c3, c4, c5, c6, c7, c8, c9, c10]) := fun j u hu => by
  rw [h.cell]
  match j, hu with
  | 0, hu => rw [e0]; exact hu
  | 1, hu => rw [e1]; exact hu
  | 2, hu => rw [e2]; exact hu
  | 3, hu => rw [e3]; exact hu
  | 4, hu => rw [e4]; exact hu
  | 5, hu => rw [e5]; exact hu
  | 6, hu => rw [e6]; exact hu
  | 7, hu => rw [e7]; exact hu
  | 8, hu => rw [e8]; exact hu
  | 9, hu => rw [e9]; exact hu
  | 10, hu => rw [e10]; exact hu
  | j + 11, hu => simp [Value.cells] at hu
def there3 (ns : List (List UInt8)) (th : Vl) : List Opn := [⟨6, ns, [], th⟩, ⟨4, ns, ns, Ps.mkN⟩, ⟨3, ns, [], th⟩]
theorem strs_nil9 (c : Cl) (A : Option Addr) : Strs c A [] := fun i n h => by simp at h
theorem there3_in {w : World} {g : Nat} {ns : List (List UInt8)} {NA : Option Addr} {ncp : Nat} {th : Vl} {x_1 : Int} {x_2 x_3 : Bool} {x_4 : List UInt8} {x_5 : Int} {x_6 : List UInt8} {x_7 : Option Addr} {x_8 x_9 : Nat} {x_a : Option Addr} {x_b x_c : Nat}
    (h : Blk w g 52 #[.int .i64 6, .slice NA ns.length ncp, .slice none 0 0, .int .i64 x_1, .bool x_2, .bool x_3, .string ⟨x_4.toArray⟩, .int .i64 x_5, .string ⟨x_6.toArray⟩, .slice x_7 x_8 x_9, .slice x_a x_b x_c, .int .i64 4, .slice NA ns.length ncp, .slice NA ns.length ncp, .int .i64 0, .bool false, .bool false, .string ⟨#[]⟩, .int .i64 0, .string ⟨#[]⟩, .slice none 0 0, .slice none 0 0, .int .i64 3, .slice NA ns.length ncp, .slice none 0 0, .int .i64 x_1, .bool x_2, .bool x_3, .string ⟨x_4.toArray⟩, .int .i64 x_5, .string ⟨x_6.toArray⟩, .slice x_7 x_8 x_9, .slice x_a x_b x_c]) (hns : Strs w.cell? NA ns) (h1 : ns.length ≤ ncp) (h2 : ncp ≤ maxLen) (hth : th.In w.cell? (.agg #[.int .i64 x_1, .bool x_2, .bool x_3, .string ⟨x_4.toArray⟩, .int .i64 x_5, .string ⟨x_6.toArray⟩, .slice x_7 x_8 x_9, .slice x_a x_b x_c])) : SlO w.cell? (some ⟨g, 0, none⟩) (there3 ns th) := by
  have k1 : (Opn.mk 6 ns [] th).In w.cell? (.agg #[.int .i64 6, .slice NA ns.length ncp, .slice none 0 0, .int .i64 x_1, .bool x_2, .bool x_3, .string ⟨x_4.toArray⟩, .int .i64 x_5, .string ⟨x_6.toArray⟩, .slice x_7 x_8 x_9, .slice x_a x_b x_c]) := ⟨NA, ncp, none, 0, x_1, x_2, x_3, x_4, x_5, x_6, x_7, x_8, x_9, x_a, x_b, x_c, rfl, hns, h1, h2, strs_nil9 _ _, Nat.le_refl _, Nat.zero_le _, hth⟩
  have k2 : (Opn.mk 4 ns ns Ps.mkN).In w.cell? (.agg #[.int .i64 4, .slice NA ns.length ncp, .slice NA ns.length ncp, .int .i64 0, .bool false, .bool false, .string ⟨#[]⟩, .int .i64 0, .string ⟨#[]⟩, .slice none 0 0, .slice none 0 0]) := ⟨NA, ncp, NA, ncp, 0, false, false, [], 0, [], none, 0, 0, none, 0, 0, rfl, hns, h1, h2, hns, h1, h2, leaf_in _ 0 false Nm.Num.zero []⟩
  have k3 : (Opn.mk 3 ns [] th).In w.cell? (.agg #[.int .i64 3, .slice NA ns.length ncp, .slice none 0 0, .int .i64 x_1, .bool x_2, .bool x_3, .string ⟨x_4.toArray⟩, .int .i64 x_5, .string ⟨x_6.toArray⟩, .slice x_7 x_8 x_9, .slice x_a x_b x_c]) := ⟨NA, ncp, none, 0, x_1, x_2, x_3, x_4, x_5, x_6, x_7, x_8, x_9, x_a, x_b, x_c, rfl, hns, h1, h2, strs_nil9 _ _, Nat.le_refl _, Nat.zero_le _, hth⟩
  intro i o hi
  match i, hi with
  | 0, hi => injection hi with hi; subst hi; exact ⟨g, 0, _, rfl, k1, cellsAt11 h rfl rfl rfl rfl rfl rfl rfl rfl rfl rfl rfl⟩
  | 1, hi => injection hi with hi; subst hi; exact ⟨g, 0, _, rfl, k2, cellsAt11 h rfl rfl rfl rfl rfl rfl rfl rfl rfl rfl rfl⟩
  | 2, hi => injection hi with hi; subst hi; exact ⟨g, 0, _, rfl, k3, cellsAt11 h rfl rfl rfl rfl rfl rfl rfl rfl rfl rfl rfl⟩
  | i + 3, hi => simp [there3] at hi
theorem there3_fit {v th : Vl} {ns : List (List UInt8)} (hv : Ap.ValFit v) (hs : v.size ≤ 2000) (hg : get v ns = some th) (ht : (text ns).length ≤ 500) : Ap.OpsFit (there3 ns th) := by
  obtain ⟨h1, h2⟩ := Ap.get_neat ns hv.neat hg
  have h3 := Ap.tame_get ns hv.tame hg
  have hm : Ed.neat Ps.mkN = true := by decide
  have hm2 : Ps.mkN.size ≤ 2000 := by decide
  have h0 : (text []).length ≤ 100000 := by show 0 ≤ 100000; omega
  constructor
  · intro o ho
    simp only [there3, List.mem_cons, List.not_mem_nil, or_false] at ho
    rcases ho with rfl | rfl | rfl
    · exact ⟨⟨by show 1 ≤ 6; omega, by show 6 ≤ 6; omega⟩, h1, by show th.size ≤ 2000; omega, by show (text ns).length ≤ 100000; omega, h0⟩
    · exact ⟨⟨by show 1 ≤ 4; omega, by show 4 ≤ 6; omega⟩, hm, hm2, by show (text ns).length ≤ 100000; omega, by show (text ns).length ≤ 100000; omega⟩
    · exact ⟨⟨by show 1 ≤ 3; omega, by show 3 ≤ 6; omega⟩, h1, by show th.size ≤ 2000; omega, by show (text ns).length ≤ 100000; omega, h0⟩
  · intro o ho
    simp only [there3, List.mem_cons, List.not_mem_nil, or_false] at ho
    rcases ho with rfl | rfl | rfl
    · exact h3
    · exact Ap.tame_null
    · exact h3

def LPtr9 (t : List UInt8) (w : World) (e : Ending) (w' : World) : Prop :=
  ∃ (l : List (List UInt8)) (A : Option Addr) (cp : Nat) (c : Int), e = .returned (.tuple #[.slice A l.length cp, .int .i64 c]) ∧ Strs w'.cell? A l ∧ l.length ≤ cp ∧ cp ≤ maxLen ∧ Below w.heap.size w w' ∧
    ((c = 0 ∧ l = []) ∨ (c = 1 ∧ parse t = .ok l ∧ t.length ≤ 500))
theorem LPtr9.no {t : List UInt8} {w w' : World} (hb : Below w.heap.size w w') : LPtr9 t w (.returned (.tuple #[.slice none 0 0, .int .i64 0])) w' :=
  ⟨[], none, 0, 0, rfl, fun i n h => by simp at h, Nat.le_refl _, by unfold maxLen; omega, hb, .inl ⟨rfl, rfl⟩⟩

set_option linter.unusedSimpArgs false in
set_option linter.unusedVariables false in
set_option maxRecDepth 100000 in
set_option maxHeartbeats 1000000 in
theorem lawPointer9_any (t : List UInt8) (w : World) (ht : t.length ≤ 1000000000000000000) : Calls Tryz.prog 14 #[.string ⟨t.toArray⟩] w (LPtr9 t w) := by
  have HTX := Lib.hid (text_any ⟨t.toArray⟩ w (by rw [Lib.size_mk]; exact ht))
  have htx : (⟨t.toArray⟩ : ByteArray).data.toList = t := rfl
  rw [htx] at HTX
  obtain ⟨q, hq⟩ : ∃ q, St.text t = q := ⟨_, rfl⟩
  have HQ := Lib.hid hq
  rw [hq] at HTX
  clear hq htx
  go_enter Tryz.func14, Tryz.ntmps14
  go_wp2_with fail
  refine HTX.out.mono ?_
  rintro e w1 ⟨rfl, hw⟩
  subst hw
  clear HTX
  by_cases g1 : 500 < t.length
  · have g1' : (500 : Int) < (t.length : Int) := by omega
    go_wp2_with fail
    go_ret2
    exact LPtr9.no (Below.refl _ _)
  have g1' : ¬ (500 : Int) < (t.length : Int) := by omega
  cases q with
  | false =>
    go_wp2_with fail
    go_ret2
    exact LPtr9.no (Below.refl _ _)
  | true =>
    have HP := Lib.hid (refPointer_any t w (by omega))
    go_wp2_with fail
    refine HP.out.mono ?_
    rintro e2 w2 ⟨hb, ⟨l, A, cp, hp, rfl, ho⟩ | ⟨p, hp, rfl⟩⟩
    · obtain ⟨o1, o2, o3, o4⟩ := own_names ho
      have HF := Lib.hid (show LPtr9 t w (.returned (.tuple #[.slice A l.length cp, .int .i64 1])) w2 from ⟨l, A, cp, 1, rfl, o1, o2, o3, hb, .inr ⟨rfl, hp, by omega⟩⟩)
      clear ho o1 o2 o3 o4 hb
      go_wp2_with fail
      go_ret2
      exact HF.out
    · have HF := Lib.hid (show LPtr9 t w (.returned (.tuple #[.slice none 0 0, .int .i64 0])) w2 from LPtr9.no hb)
      clear hb
      have hp0 : (0 : Int) ≤ (p : Int) := by omega
      go_wp2_with fail
      go_ret2
      exact HF.out
def Told9 (w : World) (e : Ending) (w' : World) : Prop :=
  ∃ (v : Vl) (x : Value) (c : Int), e = .returned (.tuple #[x, .int .i64 c]) ∧ v.In w'.cell? x ∧ Below w.heap.size w w' ∧ (c = 0 ∨ (c = 1 ∧ Fine v ∧ v.shown.length ≤ 20000))
theorem value_told9 (s : ByteArray) (hs : s.size ≤ 1000000000000000000) (w : World) : Calls Tryz.prog 6 #[.string s] w (Told9 w) := by
  refine (value_law s hs w).mono ?_
  rintro e w' ⟨hb, ⟨x, rfl, hin⟩ | ⟨v, u, x, hsz, hp, rfl, hin⟩⟩
  · exact ⟨_, x, 0, rfl, In.keep (le_on _ _) _ _ hin, hb, .inl rfl⟩
  · have hl : s.data.toList.length ≤ 2000 := by rw [← Lib.size_eq]; exact hsz
    have hr := Ps.parse_room hp
    exact ⟨v, x, 1, rfl, In.keep (le_on _ _) _ _ hin, hb, .inr ⟨rfl, fine_of hl hp, by omega⟩⟩

set_option linter.unusedVariables false in
set_option linter.unusedSimpArgs false in
set_option maxRecDepth 100000 in
set_option maxHeartbeats 8000000 in
theorem applyParts_any (hA : ApplyT) (hU : ∀ w : World, ErrT w → Calls Tryz.prog 5 #[] w fun e w' => e = .returned (.bool true) ∧ Below w.heap.size w w') (s p : ByteArray) (n : Int) (t : List UInt8) (w : World) (hE : ErrT w) (hs : s.size ≤ 1000000000000000000) (hp : p.size ≤ 1000000000000000000) (hq : t.length ≤ 1000000000000000000) :
    Calls Tryz.prog 4 #[.string s, .string p, .int .i64 n, .string ⟨t.toArray⟩] w fun e w' => e = .returned (.bool true) ∧ Below w.heap.size w w' := by
  have HA := Lib.hid hA
  have HU := Lib.hid (hU w hE)
  have HERR := Lib.hid hE
  clear hA hU hE
  go_enter Tryz.func4, Tryz.ntmps4
  go_wp2_with fail
  refine HU.out.mono ?_
  rintro e w0 ⟨rfl, hb0⟩
  have HB := Lib.hid hb0
  have HVT := Lib.hid (value_told9 s hs w0)
  clear hb0 HU
  go_wp2_with fail
  refine HVT.out.mono ?_
  rintro e1 w1 ⟨v, x, c, rfl, hx, hb1, hc⟩
  obtain ⟨k_1, k_2, k_3, k_4, k_5, k_6, k_7, k_8, k_9, k_a, k_b, k_c, rfl⟩ := In.cells hx
  have hbb := hb1.alloc hb1.size (.cells #[.int .i64 k_1, .bool k_2, .bool k_3, .string ⟨k_4.toArray⟩, .int .i64 k_5, .string ⟨k_6.toArray⟩, .slice k_7 k_8 k_9, .slice k_a k_b k_c] 28)
  have HV := Lib.hid (show Bx9 (w1.alloc (.cells #[.int .i64 k_1, .bool k_2, .bool k_3, .string ⟨k_4.toArray⟩, .int .i64 k_5, .string ⟨k_6.toArray⟩, .slice k_7 k_8 k_9, .slice k_a k_b k_c] 28)) w1.heap.size v #[.int .i64 k_1, .bool k_2, .bool k_3, .string ⟨k_4.toArray⟩, .int .i64 k_5, .string ⟨k_6.toArray⟩, .slice k_7 k_8 k_9, .slice k_a k_b k_c] from ⟨Blk.new w1 28 #[.int .i64 k_1, .bool k_2, .bool k_3, .string ⟨k_4.toArray⟩, .int .i64 k_5, .string ⟨k_6.toArray⟩, .slice k_7 k_8 k_9, .slice k_a k_b k_c], In.keep (le_alloc w1 (.cells #[.int .i64 k_1, .bool k_2, .bool k_3, .string ⟨k_4.toArray⟩, .int .i64 k_5, .string ⟨k_6.toArray⟩, .slice k_7 k_8 k_9, .slice k_a k_b k_c] 28)) _ _ hx⟩)
  have HB' := Lib.hid (HB.out.trans (hbb.mono HB.out.size))
  clear HB
  have HB := Lib.hid HB'.out
  clear HB'
  clear hx hb1 hbb HVT
  go_upto_region 3 with (fail)
  generalize w1.alloc (.cells #[.int .i64 k_1, .bool k_2, .bool k_3, .string ⟨k_4.toArray⟩, .int .i64 k_5, .string ⟨k_6.toArray⟩, .slice k_7 k_8 k_9, .slice k_a k_b k_c] 28) = wa at *
  generalize w1.heap.size = gk at *
  have HO := Lib.hid (ops_any p hp wa)
  go_wp2_with fail
  refine HO.out.mono ?_
  rintro e2 w2 ⟨l, A, cp, d, rfl, hl, hc1, hc2, hb2, hd⟩
  have HB' := Lib.hid (HB.out.trans (hb2.mono HB.out.size))
  have HV' := Lib.hid (HV.out.on hb2)
  clear HB HV
  have HB := Lib.hid HB'.out
  have HV := Lib.hid HV'.out
  clear HB' HV'
  have HL := Lib.hid hl
  clear hl hb2 HO
  rcases hc with rfl | ⟨rfl, hf, hsh⟩
  · go_wp2_with fail
    go_ret
    exact ⟨rfl, HB.out⟩
  rcases hd with rfl | ⟨rfl, hof, hol⟩
  · go_wp2_with fail
    go_ret
    exact ⟨rfl, HB.out⟩
  have hval := fine_val hf
  have HVAL := Lib.hid hval
  have HOF := Lib.hid hof
  have HFI := Lib.hid hf
  obtain ⟨tx, htx⟩ : ∃ tx, v.shown = tx := ⟨_, rfl⟩
  have HSH := Lib.hid (fun W (h : Bx9 W gk v #[.int .i64 k_1, .bool k_2, .bool k_3, .string ⟨k_4.toArray⟩, .int .i64 k_5, .string ⟨k_6.toArray⟩, .slice k_7 k_8 k_9, .slice k_a k_b k_c]) => refShowV_any v _ W h.2 hf.1 (by omega))
  rw [htx] at HSH
  obtain ⟨k, hk, hkl⟩ : ∃ k : Nat, n % ((l.length : Int) + 1) = k ∧ k ≤ l.length := ⟨(n % ((l.length : Int) + 1)).toNat, by have := Int.emod_nonneg n (show ((l.length : Int) + 1) ≠ 0 by omega); omega, by have := Int.emod_lt_of_pos n (show 0 < ((l.length : Int) + 1) by omega); omega⟩
  have HPK := Lib.hid (fun W => pick_any n ((l.length : Int) + 1) W (by omega) (by omega))
  rw [hk] at HPK
  have hwr : IntKind.i64.wrap ((l.length : Int) + 1) = (l.length : Int) + 1 := by rw [IntKind.wrap_i64]; omega
  clear hk hsh htx hval hf
  obtain ⟨a0, a1, a2, a3, a4, a5, a6, a7⟩ := HV.out.1.eight
  go_wp2_with fail
  refine (HSH.out _ HV.out).mono ?_
  rintro e4 w4 ⟨rfl, hb4⟩
  clear a0 a1 a2 a3 a4 a5 a6 a7
  have HB' := Lib.hid (HB.out.trans (hb4.mono HB.out.size))
  have HV' := Lib.hid (HV.out.on hb4)
  have HL' := Lib.hid (HL.out.keep (le_below hb4))
  clear HB HV HL
  have HB := Lib.hid HB'.out
  have HV := Lib.hid HV'.out
  have HL := Lib.hid HL'.out
  clear HB' HV' HL'
  clear hb4
  go_wp2_with fail
  refine (HPK.out _).mono ?_
  rintro e5 w5 ⟨rfl, rfl⟩
  clear HPK hwr
  obtain ⟨r, hr⟩ : ∃ r, Ap.applyAt v l 0 = r := ⟨_, rfl⟩
  have HR := Lib.hid hr
  have HC := Lib.hid (HA.out _ v l _ _ _ _ (Handed9.of HV.out.2 HL.out hc1 hc2 HVAL.out hof hol (HERR.out.on HB.out)))
  rw [hr] at HC
  clear hr
  obtain ⟨a0, a1, a2, a3, a4, a5, a6, a7⟩ := HV.out.1.eight
  go_wp2_with fail
  refine HC.out.mono ?_
  rintro e6 w6 ⟨y6, ev, rfl, hy6, hsp, hb6⟩
  obtain ⟨j_1, j_2, j_3, j_4, j_5, j_6, j_7, j_8, j_9, j_a, j_b, j_c, rfl⟩ := In.cells hy6
  have hbb := hb6.alloc hb6.size (.cells #[.int .i64 j_1, .bool j_2, .bool j_3, .string ⟨j_4.toArray⟩, .int .i64 j_5, .string ⟨j_6.toArray⟩, .slice j_7 j_8 j_9, .slice j_a j_b j_c] 28)
  clear a0 a1 a2 a3 a4 a5 a6 a7
  have HB' := Lib.hid (HB.out.trans (hbb.mono HB.out.size))
  have HV' := Lib.hid (HV.out.on hbb)
  have HL' := Lib.hid (HL.out.keep (le_below hbb))
  clear HB HV HL
  have HB := Lib.hid HB'.out
  have HV := Lib.hid HV'.out
  have HL := Lib.hid HL'.out
  clear HB' HV' HL'
  have HX := Lib.hid (show Bx9 (w6.alloc (.cells #[.int .i64 j_1, .bool j_2, .bool j_3, .string ⟨j_4.toArray⟩, .int .i64 j_5, .string ⟨j_6.toArray⟩, .slice j_7 j_8 j_9, .slice j_a j_b j_c] 28)) w6.heap.size r.z #[.int .i64 j_1, .bool j_2, .bool j_3, .string ⟨j_4.toArray⟩, .int .i64 j_5, .string ⟨j_6.toArray⟩, .slice j_7 j_8 j_9, .slice j_a j_b j_c] from ⟨Blk.new w6 28 #[.int .i64 j_1, .bool j_2, .bool j_3, .string ⟨j_4.toArray⟩, .int .i64 j_5, .string ⟨j_6.toArray⟩, .slice j_7 j_8 j_9, .slice j_a j_b j_c], In.keep ((on_all _ _).trans (le_alloc w6 (.cells #[.int .i64 j_1, .bool j_2, .bool j_3, .string ⟨j_4.toArray⟩, .int .i64 j_5, .string ⟨j_6.toArray⟩, .slice j_7 j_8 j_9, .slice j_a j_b j_c] 28))) _ _ hy6⟩)
  have HSP := Lib.hid ((hsp.on ((Below.refl w6.heap.size w6).alloc (Nat.le_refl _) (.cells #[.int .i64 j_1, .bool j_2, .bool j_3, .string ⟨j_4.toArray⟩, .int .i64 j_5, .string ⟨j_6.toArray⟩, .slice j_7 j_8 j_9, .slice j_a j_b j_c] 28))).spots9)
  clear hy6 hsp hb6 hbb HC
  go_upto_region 9 with (fail)
  generalize w6.alloc (.cells #[.int .i64 j_1, .bool j_2, .bool j_3, .string ⟨j_4.toArray⟩, .int .i64 j_5, .string ⟨j_6.toArray⟩, .slice j_7 j_8 j_9, .slice j_a j_b j_c] 28) = wb at *
  generalize w6.heap.size = g16 at *
  obtain ⟨r1, hr1⟩ : ∃ r1, Ap.applyAt v (l.take k) 0 = r1 := ⟨_, rfl⟩
  have HR1 := Lib.hid hr1
  have hlk : (l.take k).length = k := by rw [List.length_take]; omega
  have HP := Lib.hid (show Part9 gk #[.int .i64 k_1, .bool k_2, .bool k_3, .string ⟨k_4.toArray⟩, .int .i64 k_5, .string ⟨k_6.toArray⟩, .slice k_7 k_8 k_9, .slice k_a k_b k_c] wb wb from ⟨HV.out.1, Below.refl _ _, HV.out.1.lt⟩)
  have HH := Lib.hid (show ∀ (W : World), Below wb.heap.size wb W → Calls Tryz.prog 8 #[.agg #[.int .i64 k_1, .bool k_2, .bool k_3, .string ⟨k_4.toArray⟩, .int .i64 k_5, .string ⟨k_6.toArray⟩, .slice k_7 k_8 k_9, .slice k_a k_b k_c], .slice A k cp] W (ApplyE (fun b => b < wb.heap.size) r1 W) from fun W hb => by
    have h := HA.out (fun b => b < wb.heap.size) v (l.take k) (.agg #[.int .i64 k_1, .bool k_2, .bool k_3, .string ⟨k_4.toArray⟩, .int .i64 k_5, .string ⟨k_6.toArray⟩, .slice k_7 k_8 k_9, .slice k_a k_b k_c]) A cp W ⟨fun b h => Nat.lt_of_lt_of_le h hb.size, In.keep ((le_whole wb).trans (on_keep (fun _ h _ => h) (fun b h _ => hb.block b h))) _ _ HV.out.2, ((HL.out.take k).keep ((le_whole wb).trans (on_keep (fun _ h _ => h) (fun b h _ => hb.block b h)))), (by omega), hc2, HVAL.out, HOF.out.take k, (by omega), (HERR.out.on HB.out).on hb⟩
    rw [hlk, hr1] at h
    exact h)
  have hc3 : cp ≤ 2 ^ 63 - 1 := hc2
  clear hr1 hlk
  go_cut [18, 19] from 68 to 68 (fun v18 v19 wc => ∃ (gZ : Nat) (ev2 : Value) (m_1 : Int) (m_2 m_3 : Bool) (m_4 : List UInt8) (m_5 : Int) (m_6 : List UInt8) (m_7 : Option Addr) (m_8 m_9 : Nat) (m_a : Option Addr) (m_b m_c : Nat), v18 = .pointer (some ⟨gZ, 0, none⟩) ∧ v19 = ev2 ∧ Below wb.heap.size wb wc ∧ Got9 wb gZ r1 (.agg #[.int .i64 m_1, .bool m_2, .bool m_3, .string ⟨m_4.toArray⟩, .int .i64 m_5, .string ⟨m_6.toArray⟩, .slice m_7 m_8 m_9, .slice m_a m_b m_c]) ev2 #[.int .i64 m_1, .bool m_2, .bool m_3, .string ⟨m_4.toArray⟩, .int .i64 m_5, .string ⟨m_6.toArray⟩, .slice m_7 m_8 m_9, .slice m_a m_b m_c] wc)
  case first =>
    refine wp_region_held_drew (S := Part9 gk #[.int .i64 k_1, .bool k_2, .bool k_3, .string ⟨k_4.toArray⟩, .int .i64 k_5, .string ⟨k_6.toArray⟩, .slice k_7 k_8 k_9, .slice k_a k_b k_c] wb) (by kernel_rfl) HP.out.drew (fun ht => ?_)
    refine wpAnyH_take (i := 0) (oi := ⟨some _, _, _, _, _, _⟩) (v := (.agg #[.int .i64 k_1, .bool k_2, .bool k_3, .string ⟨k_4.toArray⟩, .int .i64 k_5, .string ⟨k_6.toArray⟩, .slice k_7 k_8 k_9, .slice k_a k_b k_c])) rfl (by kernel_rfl) (by kernel_rfl) (by kernel_rfl) (fun _ _ _ h => h) (Or.inl ⟨by rfl, ?_⟩) ht ?_
    · intro W9 hSw
      obtain ⟨c0, c1, c2, c3, c4, c5, c6, c7⟩ := hSw.v.eight
      go_simp
    try simp only [Act.put, List.setIfInBounds_toArray, List.set_cons_zero, List.set_cons_succ]
    refine wpAnyH_take (i := 1) (oi := ⟨some _, _, _, _, _, _⟩) (v := (.slice A l.length cp)) rfl (by kernel_rfl) (by kernel_rfl) (by kernel_rfl) (fun _ _ _ h => h) (Or.inl ⟨by rfl, ?_⟩) ht ?_
    · intro W9 hSw
      go_simp
    try simp only [Act.put, List.setIfInBounds_toArray, List.set_cons_zero, List.set_cons_succ]
    refine wpAnyH_take (i := 2) (oi := ⟨some _, _, _, _, _, _⟩) (v := (.int .i64 k)) rfl (by kernel_rfl) (by kernel_rfl) (by kernel_rfl) (fun _ _ _ h => h) (Or.inl ⟨by rfl, ?_⟩) ht ?_
    · intro W9 hSw
      go_simp
    try simp only [Act.put, List.setIfInBounds_toArray, List.set_cons_zero, List.set_cons_succ]
    refine wpAnyH_take (i := 3) (oi := ⟨some _, _, _, _, _, _⟩) (v := (.slice A k cp)) rfl (by kernel_rfl) (by kernel_rfl) (by kernel_rfl) (fun _ _ _ h => h) (Or.inl ⟨by rfl, ?_⟩) ht ?_
    · intro W9 hSw
      go_simp
      intro h; omega
    try simp only [Act.put, List.setIfInBounds_toArray, List.set_cons_zero, List.set_cons_succ]
    refine wpAnyH_ready (rs := [4, 8]) (by kernel_rfl) (by simp) ?_
    refine AllReadyH.cons (o := ⟨some _, _, _, _, _, _⟩) rfl (fun K hK => ?_) (AllReadyH.cons (o := ⟨some _, _, _, _, _, _⟩) rfl (fun K hK => ?_) (AllReadyH.nil))
    · go_simp
      refine (HH.out _ ht.since).mono ?_
      rintro e2 w2 ⟨y2, ev2, rfl, hz2, hsp2, hb2⟩
      obtain ⟨m_1, m_2, m_3, m_4, m_5, m_6, m_7, m_8, m_9, m_a, m_b, m_c, rfl⟩ := In.cells hz2
      have hs : Part9 gk #[.int .i64 k_1, .bool k_2, .bool k_3, .string ⟨k_4.toArray⟩, .int .i64 k_5, .string ⟨k_6.toArray⟩, .slice k_7 k_8 k_9, .slice k_a k_b k_c] wb w2 := ht.on hb2
      have HZ2 := Lib.hid (In.keep (on_all _ _) _ _ hz2)
      have HSP2 := Lib.hid hsp2.spots9
      clear hz2 hsp2 hb2 ht
      go_wp2_with fail
      refine hK.out _ _ hs (fun ht => ?_)
      clear hK K hs
      try simp only [Act.put, List.setIfInBounds_toArray, List.set_cons_zero, List.set_cons_succ]
      refine wpAnyH_take (i := 5) (oi := ⟨some _, _, _, _, _, _⟩) (v := (.tuple #[.agg #[.int .i64 m_1, .bool m_2, .bool m_3, .string ⟨m_4.toArray⟩, .int .i64 m_5, .string ⟨m_6.toArray⟩, .slice m_7 m_8 m_9, .slice m_a m_b m_c], ev2])) rfl (by kernel_rfl) (by kernel_rfl) (by kernel_rfl) (fun _ _ _ h => h) (Or.inl ⟨by rfl, ?_⟩) ht ?_
      · intro W9 hSw
        go_simp
      try simp only [Act.put, List.setIfInBounds_toArray, List.set_cons_zero, List.set_cons_succ]
      refine wpAnyH_take (i := 6) (oi := ⟨some _, _, _, _, _, _⟩) (v := (.agg #[.int .i64 m_1, .bool m_2, .bool m_3, .string ⟨m_4.toArray⟩, .int .i64 m_5, .string ⟨m_6.toArray⟩, .slice m_7 m_8 m_9, .slice m_a m_b m_c])) rfl (by kernel_rfl) (by kernel_rfl) (by kernel_rfl) (fun _ _ _ h => h) (Or.inl ⟨by rfl, ?_⟩) ht ?_
      · intro W9 hSw
        go_simp
      try simp only [Act.put, List.setIfInBounds_toArray, List.set_cons_zero, List.set_cons_succ]
      refine wpAnyH_take (i := 7) (oi := ⟨some _, _, _, _, _, _⟩) (v := ev2) rfl (by kernel_rfl) (by kernel_rfl) (by kernel_rfl) (fun _ _ _ h => h) (Or.inl ⟨by rfl, ?_⟩) ht ?_
      · intro W9 hSw
        go_simp
      try simp only [Act.put, List.setIfInBounds_toArray, List.set_cons_zero, List.set_cons_succ]
      refine wpAnyH_ready (rs := [8]) (by kernel_rfl) (by simp) ?_
      refine AllReadyH.cons (o := ⟨some _, _, _, _, _, _⟩) rfl (fun K hK => ?_) (AllReadyH.nil)
      go_simp
      refine via9 (K := K) (fun W9 => Part9 gk #[.int .i64 k_1, .bool k_2, .bool k_3, .string ⟨k_4.toArray⟩, .int .i64 k_5, .string ⟨k_6.toArray⟩, .slice k_7 k_8 k_9, .slice k_a k_b k_c] wb W9 ∧ Got9 wb w2.heap.size (r1) (.agg #[.int .i64 m_1, .bool m_2, .bool m_3, .string ⟨m_4.toArray⟩, .int .i64 m_5, .string ⟨m_6.toArray⟩, .slice m_7 m_8 m_9, .slice m_a m_b m_c]) ev2 zeroC W9) ⟨ht.alloc _, Got9.new ht.since HZ2.out HSP2.out⟩ ?_
      rintro x3 ⟨ht1, hf⟩
      have HF := Lib.hid hf
      clear hf HZ2 HSP2
      refine hK.out _ _ ht1 (fun ht => ?_)
      clear hK K ht1
      try simp only [Act.put, List.setIfInBounds_toArray, List.set_cons_zero, List.set_cons_succ]
      obtain ⟨gZ, hgZ⟩ : ∃ g, g = w2.heap.size := ⟨_, rfl⟩
      rw [← hgZ] at HF ⊢
      clear hgZ
      refine wpAnyH_ready (rs := [9]) (by kernel_rfl) (by simp) ?_
      refine AllReadyH.cons (o := ⟨none, _, _, _, _, _⟩) rfl (fun K hK => ?_) (AllReadyH.nil)
      obtain ⟨z0, z1, z2, z3, z4, z5, z6, z7⟩ := HF.out.blk.eight
      have zf := HF.out.blk.frozen
      have zl := HF.out.blk.lt
      go_simp
      refine via9 (K := K) (fun W9 => Part9 gk #[.int .i64 k_1, .bool k_2, .bool k_3, .string ⟨k_4.toArray⟩, .int .i64 k_5, .string ⟨k_6.toArray⟩, .slice k_7 k_8 k_9, .slice k_a k_b k_c] wb W9 ∧ Got9 wb gZ (r1) (.agg #[.int .i64 m_1, .bool m_2, .bool m_3, .string ⟨m_4.toArray⟩, .int .i64 m_5, .string ⟨m_6.toArray⟩, .slice m_7 m_8 m_9, .slice m_a m_b m_c]) ev2 #[.int .i64 m_1, .bool m_2, .bool m_3, .string ⟨m_4.toArray⟩, .int .i64 m_5, .string ⟨m_6.toArray⟩, .slice m_7 m_8 m_9, .slice m_a m_b m_c] W9) ⟨ht.set8z HF.out.ge _ _ _ _ _ _ _ _, HF.out.set (.int .i64 m_1) (.bool m_2) (.bool m_3) (.string ⟨m_4.toArray⟩) (.int .i64 m_5) (.string ⟨m_6.toArray⟩) (.slice m_7 m_8 m_9) (.slice m_a m_b m_c)⟩ ?_
      rintro x5 ⟨ht1, hfin⟩
      have HFIN := Lib.hid hfin
      clear hfin z0 z1 z2 z3 z4 z5 z6 z7 zf zl HF
      refine hK.out _ _ ht1 (fun ht => ?_)
      clear hK K ht1
      try simp only [Act.put, List.setIfInBounds_toArray, List.set_cons_zero, List.set_cons_succ]
      refine wpAnyH_take (i := 10) (oi := ⟨some _, _, _, _, _, _⟩) (v := ev2) rfl (by kernel_rfl) (by kernel_rfl) (by kernel_rfl) (fun _ _ _ h => h) (Or.inl ⟨by rfl, ?_⟩) ht ?_
      · intro W9 hSw
        go_simp
      try simp only [Act.put, List.setIfInBounds_toArray, List.set_cons_zero, List.set_cons_succ]
      refine wpAnyH_done (by kernel_rfl) ?_ _
      have HX5 := Lib.hid ht.since
      clear ht
      go_wp2_with fail
      go_meet
      case rel => exact ⟨gZ, ev2, m_1, m_2, m_3, m_4, m_5, m_6, m_7, m_8, m_9, m_a, m_b, m_c, rfl, rfl, HX5.out, HFIN.out⟩
    · go_simp
      refine via9 (K := K) (fun W9 => Part9 gk #[.int .i64 k_1, .bool k_2, .bool k_3, .string ⟨k_4.toArray⟩, .int .i64 k_5, .string ⟨k_6.toArray⟩, .slice k_7 k_8 k_9, .slice k_a k_b k_c] wb W9 ∧ Lone9 wb wb.heap.size W9) ⟨ht.alloc _, Lone9.new wb⟩ ?_
      rintro x3 ⟨ht1, ha⟩
      have HA := Lib.hid ha
      clear ha
      refine hK.out _ _ ht1 (fun ht => ?_)
      clear hK K ht1
      try simp only [Act.put, List.setIfInBounds_toArray, List.set_cons_zero, List.set_cons_succ]
      obtain ⟨gZ, hgZ⟩ : ∃ g, g = wb.heap.size := ⟨_, rfl⟩
      rw [← hgZ] at HA ⊢
      clear hgZ
      refine wpAnyH_ready (rs := [4]) (by kernel_rfl) (by simp) ?_
      refine AllReadyH.cons (o := ⟨some _, _, _, _, _, _⟩) rfl (fun K hK => ?_) (AllReadyH.nil)
      go_simp
      refine (HH.out _ ht.since).mono ?_
      rintro e2 w2 ⟨y2, ev2, rfl, hz2, hsp2, hb2⟩
      obtain ⟨m_1, m_2, m_3, m_4, m_5, m_6, m_7, m_8, m_9, m_a, m_b, m_c, rfl⟩ := In.cells hz2
      have hs : Part9 gk #[.int .i64 k_1, .bool k_2, .bool k_3, .string ⟨k_4.toArray⟩, .int .i64 k_5, .string ⟨k_6.toArray⟩, .slice k_7 k_8 k_9, .slice k_a k_b k_c] wb w2 := ht.on hb2
      have HF := Lib.hid (Got9.after HA.out hb2 hz2 hsp2)
      clear hz2 hsp2 hb2 ht HA
      go_wp2_with fail
      refine hK.out _ _ hs (fun ht => ?_)
      clear hK K hs
      try simp only [Act.put, List.setIfInBounds_toArray, List.set_cons_zero, List.set_cons_succ]
      refine wpAnyH_take (i := 5) (oi := ⟨some _, _, _, _, _, _⟩) (v := (.tuple #[.agg #[.int .i64 m_1, .bool m_2, .bool m_3, .string ⟨m_4.toArray⟩, .int .i64 m_5, .string ⟨m_6.toArray⟩, .slice m_7 m_8 m_9, .slice m_a m_b m_c], ev2])) rfl (by kernel_rfl) (by kernel_rfl) (by kernel_rfl) (fun _ _ _ h => h) (Or.inl ⟨by rfl, ?_⟩) ht ?_
      · intro W9 hSw
        go_simp
      try simp only [Act.put, List.setIfInBounds_toArray, List.set_cons_zero, List.set_cons_succ]
      refine wpAnyH_take (i := 6) (oi := ⟨some _, _, _, _, _, _⟩) (v := (.agg #[.int .i64 m_1, .bool m_2, .bool m_3, .string ⟨m_4.toArray⟩, .int .i64 m_5, .string ⟨m_6.toArray⟩, .slice m_7 m_8 m_9, .slice m_a m_b m_c])) rfl (by kernel_rfl) (by kernel_rfl) (by kernel_rfl) (fun _ _ _ h => h) (Or.inl ⟨by rfl, ?_⟩) ht ?_
      · intro W9 hSw
        go_simp
      try simp only [Act.put, List.setIfInBounds_toArray, List.set_cons_zero, List.set_cons_succ]
      refine wpAnyH_take (i := 7) (oi := ⟨some _, _, _, _, _, _⟩) (v := ev2) rfl (by kernel_rfl) (by kernel_rfl) (by kernel_rfl) (fun _ _ _ h => h) (Or.inl ⟨by rfl, ?_⟩) ht ?_
      · intro W9 hSw
        go_simp
      try simp only [Act.put, List.setIfInBounds_toArray, List.set_cons_zero, List.set_cons_succ]
      refine wpAnyH_ready (rs := [9]) (by kernel_rfl) (by simp) ?_
      refine AllReadyH.cons (o := ⟨none, _, _, _, _, _⟩) rfl (fun K hK => ?_) (AllReadyH.nil)
      obtain ⟨z0, z1, z2, z3, z4, z5, z6, z7⟩ := HF.out.blk.eight
      have zf := HF.out.blk.frozen
      have zl := HF.out.blk.lt
      go_simp
      refine via9 (K := K) (fun W9 => Part9 gk #[.int .i64 k_1, .bool k_2, .bool k_3, .string ⟨k_4.toArray⟩, .int .i64 k_5, .string ⟨k_6.toArray⟩, .slice k_7 k_8 k_9, .slice k_a k_b k_c] wb W9 ∧ Got9 wb gZ (r1) (.agg #[.int .i64 m_1, .bool m_2, .bool m_3, .string ⟨m_4.toArray⟩, .int .i64 m_5, .string ⟨m_6.toArray⟩, .slice m_7 m_8 m_9, .slice m_a m_b m_c]) ev2 #[.int .i64 m_1, .bool m_2, .bool m_3, .string ⟨m_4.toArray⟩, .int .i64 m_5, .string ⟨m_6.toArray⟩, .slice m_7 m_8 m_9, .slice m_a m_b m_c] W9) ⟨ht.set8z HF.out.ge _ _ _ _ _ _ _ _, HF.out.set (.int .i64 m_1) (.bool m_2) (.bool m_3) (.string ⟨m_4.toArray⟩) (.int .i64 m_5) (.string ⟨m_6.toArray⟩) (.slice m_7 m_8 m_9) (.slice m_a m_b m_c)⟩ ?_
      rintro x5 ⟨ht1, hfin⟩
      have HFIN := Lib.hid hfin
      clear hfin z0 z1 z2 z3 z4 z5 z6 z7 zf zl HF
      refine hK.out _ _ ht1 (fun ht => ?_)
      clear hK K ht1
      try simp only [Act.put, List.setIfInBounds_toArray, List.set_cons_zero, List.set_cons_succ]
      refine wpAnyH_take (i := 10) (oi := ⟨some _, _, _, _, _, _⟩) (v := ev2) rfl (by kernel_rfl) (by kernel_rfl) (by kernel_rfl) (fun _ _ _ h => h) (Or.inl ⟨by rfl, ?_⟩) ht ?_
      · intro W9 hSw
        go_simp
      try simp only [Act.put, List.setIfInBounds_toArray, List.set_cons_zero, List.set_cons_succ]
      refine wpAnyH_done (by kernel_rfl) ?_ _
      have HX5 := Lib.hid ht.since
      clear ht
      go_wp2_with fail
      go_meet
      case rel => exact ⟨gZ, ev2, m_1, m_2, m_3, m_4, m_5, m_6, m_7, m_8, m_9, m_a, m_b, m_c, rfl, rfl, HX5.out, HFIN.out⟩
  case rest =>
  obtain ⟨gY, evF, m_1, m_2, m_3, m_4, m_5, m_6, m_7, m_8, m_9, m_a, m_b, m_c, rfl, rfl, hb7, hgot⟩ := hcut
  obtain ⟨w7, hw7⟩ : ∃ W, W = wc := ⟨_, rfl⟩
  subst hw7
  have HB' := Lib.hid (HB.out.trans (hb7.mono HB.out.size))
  have HV' := Lib.hid (HV.out.on hb7)
  have HL' := Lib.hid (HL.out.keep (le_below hb7))
  have HX' := Lib.hid (HX.out.on hb7)
  have HSP' := Lib.hid (HSP.out.on hb7)
  clear HB HV HL HX HSP
  have HB := Lib.hid HB'.out
  have HV := Lib.hid HV'.out
  have HL := Lib.hid HL'.out
  have HX := Lib.hid HX'.out
  have HSP := Lib.hid HSP'.out
  clear HB' HV' HL' HX' HSP'
  have HY := Lib.hid (show Bx9 w7 gY r1.z #[.int .i64 m_1, .bool m_2, .bool m_3, .string ⟨m_4.toArray⟩, .int .i64 m_5, .string ⟨m_6.toArray⟩, .slice m_7 m_8 m_9, .slice m_a m_b m_c] from ⟨hgot.blk, In.keep (on_all _ _) _ _ hgot.z⟩)
  have HE := Lib.hid hgot.ev.spots
  clear hgot hb7 HP HH
  go_wp2_with fail
  refine (spots8_any HSP.out.spots).mono ?_
  rintro e8 w8 ⟨rfl, hb8⟩
  have HB' := Lib.hid (HB.out.trans (hb8.mono HB.out.size))
  have HV' := Lib.hid (HV.out.on hb8)
  have HL' := Lib.hid (HL.out.keep (le_below hb8))
  have HX' := Lib.hid (HX.out.on hb8)
  have HSP' := Lib.hid (HSP.out.on hb8)
  have HY' := Lib.hid (HY.out.on hb8)
  have HE' := Lib.hid (HE.out.on hb8)
  clear HB HV HL HX HSP HY HE
  have HB := Lib.hid HB'.out
  have HV := Lib.hid HV'.out
  have HL := Lib.hid HL'.out
  have HX := Lib.hid HX'.out
  have HSP := Lib.hid HSP'.out
  have HY := Lib.hid HY'.out
  have HE := Lib.hid HE'.out
  clear HB' HV' HL' HX' HSP' HY' HE'
  clear hb8
  cases r1 with
  | bad c1 j1 =>
    have hpos := Ap.apply_code _ HR1.out
    have hre : r = .bad c1 j1 := HR.out.symm.trans (Ap.apply_begin HR1.out)
    subst hre
    rcases HE.out with ⟨_, h0, _⟩ | ⟨_, b, _, rfl, hsp⟩
    · exfalso; have h0 : (c1 : Int) = 0 := h0; omega
    have HSQ := Lib.hid hsp
    clear hsp
    go_wp2_with fail
    refine (spot_at b j1 c1 w8 HSQ.out).mono ?_
    rintro e9 w9 ⟨rfl, hb9⟩
    have HB' := Lib.hid (HB.out.trans (hb9.mono HB.out.size))
    have HV' := Lib.hid (HV.out.on hb9)
    have HL' := Lib.hid (HL.out.keep (le_below hb9))
    have HX' := Lib.hid (HX.out.on hb9)
    have HSP' := Lib.hid (HSP.out.on hb9)
    have HY' := Lib.hid (HY.out.on hb9)
    have HE' := Lib.hid (HE.out.on hb9)
    clear HB HV HL HX HSP HY HE
    have HB := Lib.hid HB'.out
    have HV := Lib.hid HV'.out
    have HL := Lib.hid HL'.out
    have HX := Lib.hid HX'.out
    have HSP := Lib.hid HSP'.out
    have HY := Lib.hid HY'.out
    have HE := Lib.hid HE'.out
    clear HB' HV' HL' HX' HSP' HY' HE'
    clear hb9 HSQ
    have hcc : ((c1 : Int) == (c1 : Int)) = true := by simp
    have hjj : ((j1 : Int) == (j1 : Int)) = true := by simp
    obtain ⟨a0, a1, a2, a3, a4, a5, a6, a7⟩ := HV.out.1.eight
    go_wp2_with fail
    refine (HSH.out _ HV.out).mono ?_
    rintro e10 w10 ⟨rfl, hb10⟩
    clear a0 a1 a2 a3 a4 a5 a6 a7
    have HB' := Lib.hid (HB.out.trans (hb10.mono HB.out.size))
    have HV' := Lib.hid (HV.out.on hb10)
    have HL' := Lib.hid (HL.out.keep (le_below hb10))
    have HX' := Lib.hid (HX.out.on hb10)
    have HSP' := Lib.hid (HSP.out.on hb10)
    have HY' := Lib.hid (HY.out.on hb10)
    have HE' := Lib.hid (HE.out.on hb10)
    clear HB HV HL HX HSP HY HE
    have HB := Lib.hid HB'.out
    have HV := Lib.hid HV'.out
    have HL := Lib.hid HL'.out
    have HX := Lib.hid HX'.out
    have HSP := Lib.hid HSP'.out
    have HY := Lib.hid HY'.out
    have HE := Lib.hid HE'.out
    clear HB' HV' HL' HX' HSP' HY' HE'
    clear hb10
    go_wp2_with fail
    go_ret
    exact ⟨rfl, HB.out⟩
  | ok u =>
    rcases HE.out with ⟨rfl, _, _⟩ | ⟨h0, _⟩
    case inr => exact absurd rfl h0
    have huf := Ap.apply_fit (l.take k) HVAL.out HFI.out.2.2.1 (HOF.out.take k) HR1.out
    obtain ⟨r2, hr2⟩ : ∃ r2, Ap.applyAt u (l.drop k) 0 = r2 := ⟨_, rfl⟩
    have HR2 := Lib.hid hr2
    have hld : (l.drop k).length = l.length - k := List.length_drop
    have HY' := Lib.hid (show Bx9 w8 gY u #[.int .i64 m_1, .bool m_2, .bool m_3, .string ⟨m_4.toArray⟩, .int .i64 m_5, .string ⟨m_6.toArray⟩, .slice m_7 m_8 m_9, .slice m_a m_b m_c] from HY.out)
    have HP := Lib.hid (show Part9 gY #[.int .i64 m_1, .bool m_2, .bool m_3, .string ⟨m_4.toArray⟩, .int .i64 m_5, .string ⟨m_6.toArray⟩, .slice m_7 m_8 m_9, .slice m_a m_b m_c] w8 w8 from ⟨HY.out.1, Below.refl _ _, HY.out.1.lt⟩)
    have HH := Lib.hid (show ∀ (W : World), Below w8.heap.size w8 W → Calls Tryz.prog 8 #[.agg #[.int .i64 m_1, .bool m_2, .bool m_3, .string ⟨m_4.toArray⟩, .int .i64 m_5, .string ⟨m_6.toArray⟩, .slice m_7 m_8 m_9, .slice m_a m_b m_c], .slice (tailA A k cp) (l.length - k) (cp - k)] W (ApplyE (fun b => b < w8.heap.size) r2 W) from fun W hb => by
      have h := HA.out (fun b => b < w8.heap.size) u (l.drop k) (.agg #[.int .i64 m_1, .bool m_2, .bool m_3, .string ⟨m_4.toArray⟩, .int .i64 m_5, .string ⟨m_6.toArray⟩, .slice m_7 m_8 m_9, .slice m_a m_b m_c]) (tailA A k cp) (cp - k) W ⟨fun b h => Nat.lt_of_lt_of_le h hb.size, In.keep ((le_whole w8).trans (on_keep (fun _ h _ => h) (fun b h _ => hb.block b h))) _ _ HY'.out.2, ((HL.out.drop hc1).keep ((le_whole w8).trans (on_keep (fun _ h _ => h) (fun b h _ => hb.block b h)))), (by omega), (by unfold maxLen at hc2 ⊢; omega), huf.1, HOF.out.drop k, (by omega), (HERR.out.on HB.out).on hb⟩
      rw [hld, hr2] at h
      exact h)
    clear hr2 hld huf HY HE
    go_upto_region 14 with (fail)
    go_cut [24, 25] from 105 to 105 (fun v24 v25 wc => ∃ (gZ : Nat) (ev2 : Value) (n_1 : Int) (n_2 n_3 : Bool) (n_4 : List UInt8) (n_5 : Int) (n_6 : List UInt8) (n_7 : Option Addr) (n_8 n_9 : Nat) (n_a : Option Addr) (n_b n_c : Nat), v24 = .pointer (some ⟨gZ, 0, none⟩) ∧ v25 = ev2 ∧ Below w8.heap.size w8 wc ∧ Got9 w8 gZ r2 (.agg #[.int .i64 n_1, .bool n_2, .bool n_3, .string ⟨n_4.toArray⟩, .int .i64 n_5, .string ⟨n_6.toArray⟩, .slice n_7 n_8 n_9, .slice n_a n_b n_c]) ev2 #[.int .i64 n_1, .bool n_2, .bool n_3, .string ⟨n_4.toArray⟩, .int .i64 n_5, .string ⟨n_6.toArray⟩, .slice n_7 n_8 n_9, .slice n_a n_b n_c] wc)
    case first =>
      refine wp_region_held_drew (S := Part9 gY #[.int .i64 m_1, .bool m_2, .bool m_3, .string ⟨m_4.toArray⟩, .int .i64 m_5, .string ⟨m_6.toArray⟩, .slice m_7 m_8 m_9, .slice m_a m_b m_c] w8) (by kernel_rfl) HP.out.drew (fun ht => ?_)
      refine wpAnyH_take (i := 0) (oi := ⟨some _, _, _, _, _, _⟩) (v := (.agg #[.int .i64 m_1, .bool m_2, .bool m_3, .string ⟨m_4.toArray⟩, .int .i64 m_5, .string ⟨m_6.toArray⟩, .slice m_7 m_8 m_9, .slice m_a m_b m_c])) rfl (by kernel_rfl) (by kernel_rfl) (by kernel_rfl) (fun _ _ _ h => h) (Or.inl ⟨by rfl, ?_⟩) ht ?_
      · intro W9 hSw
        obtain ⟨c0, c1, c2, c3, c4, c5, c6, c7⟩ := hSw.v.eight
        go_simp
      try simp only [Act.put, List.setIfInBounds_toArray, List.set_cons_zero, List.set_cons_succ]
      refine wpAnyH_take (i := 1) (oi := ⟨some _, _, _, _, _, _⟩) (v := (.slice A l.length cp)) rfl (by kernel_rfl) (by kernel_rfl) (by kernel_rfl) (fun _ _ _ h => h) (Or.inl ⟨by rfl, ?_⟩) ht ?_
      · intro W9 hSw
        go_simp
      try simp only [Act.put, List.setIfInBounds_toArray, List.set_cons_zero, List.set_cons_succ]
      refine wpAnyH_take (i := 2) (oi := ⟨some _, _, _, _, _, _⟩) (v := (.int .i64 k)) rfl (by kernel_rfl) (by kernel_rfl) (by kernel_rfl) (fun _ _ _ h => h) (Or.inl ⟨by rfl, ?_⟩) ht ?_
      · intro W9 hSw
        go_simp
      try simp only [Act.put, List.setIfInBounds_toArray, List.set_cons_zero, List.set_cons_succ]
      refine wpAnyH_take (i := 3) (oi := ⟨some _, _, _, _, _, _⟩) (v := (.slice (tailA A k cp) (l.length - k) (cp - k))) rfl (by kernel_rfl) (by kernel_rfl) (by kernel_rfl) (fun _ _ _ h => h) (Or.inl ⟨by rfl, ?_⟩) ht ?_
      · intro W9 hSw
        go_simp
        rfl
      try simp only [Act.put, List.setIfInBounds_toArray, List.set_cons_zero, List.set_cons_succ]
      refine wpAnyH_ready (rs := [4, 8]) (by kernel_rfl) (by simp) ?_
      refine AllReadyH.cons (o := ⟨some _, _, _, _, _, _⟩) rfl (fun K hK => ?_) (AllReadyH.cons (o := ⟨some _, _, _, _, _, _⟩) rfl (fun K hK => ?_) (AllReadyH.nil))
      · go_simp
        refine (HH.out _ ht.since).mono ?_
        rintro e2 w2 ⟨y2, ev2, rfl, hz2, hsp2, hb2⟩
        obtain ⟨n_1, n_2, n_3, n_4, n_5, n_6, n_7, n_8, n_9, n_a, n_b, n_c, rfl⟩ := In.cells hz2
        have hs : Part9 gY #[.int .i64 m_1, .bool m_2, .bool m_3, .string ⟨m_4.toArray⟩, .int .i64 m_5, .string ⟨m_6.toArray⟩, .slice m_7 m_8 m_9, .slice m_a m_b m_c] w8 w2 := ht.on hb2
        have HZ2 := Lib.hid (In.keep (on_all _ _) _ _ hz2)
        have HSP2 := Lib.hid hsp2.spots9
        clear hz2 hsp2 hb2 ht
        go_wp2_with fail
        refine hK.out _ _ hs (fun ht => ?_)
        clear hK K hs
        try simp only [Act.put, List.setIfInBounds_toArray, List.set_cons_zero, List.set_cons_succ]
        refine wpAnyH_take (i := 5) (oi := ⟨some _, _, _, _, _, _⟩) (v := (.tuple #[.agg #[.int .i64 n_1, .bool n_2, .bool n_3, .string ⟨n_4.toArray⟩, .int .i64 n_5, .string ⟨n_6.toArray⟩, .slice n_7 n_8 n_9, .slice n_a n_b n_c], ev2])) rfl (by kernel_rfl) (by kernel_rfl) (by kernel_rfl) (fun _ _ _ h => h) (Or.inl ⟨by rfl, ?_⟩) ht ?_
        · intro W9 hSw
          go_simp
        try simp only [Act.put, List.setIfInBounds_toArray, List.set_cons_zero, List.set_cons_succ]
        refine wpAnyH_take (i := 6) (oi := ⟨some _, _, _, _, _, _⟩) (v := (.agg #[.int .i64 n_1, .bool n_2, .bool n_3, .string ⟨n_4.toArray⟩, .int .i64 n_5, .string ⟨n_6.toArray⟩, .slice n_7 n_8 n_9, .slice n_a n_b n_c])) rfl (by kernel_rfl) (by kernel_rfl) (by kernel_rfl) (fun _ _ _ h => h) (Or.inl ⟨by rfl, ?_⟩) ht ?_
        · intro W9 hSw
          go_simp
        try simp only [Act.put, List.setIfInBounds_toArray, List.set_cons_zero, List.set_cons_succ]
        refine wpAnyH_take (i := 7) (oi := ⟨some _, _, _, _, _, _⟩) (v := ev2) rfl (by kernel_rfl) (by kernel_rfl) (by kernel_rfl) (fun _ _ _ h => h) (Or.inl ⟨by rfl, ?_⟩) ht ?_
        · intro W9 hSw
          go_simp
        try simp only [Act.put, List.setIfInBounds_toArray, List.set_cons_zero, List.set_cons_succ]
        refine wpAnyH_ready (rs := [8]) (by kernel_rfl) (by simp) ?_
        refine AllReadyH.cons (o := ⟨some _, _, _, _, _, _⟩) rfl (fun K hK => ?_) (AllReadyH.nil)
        go_simp
        refine via9 (K := K) (fun W9 => Part9 gY #[.int .i64 m_1, .bool m_2, .bool m_3, .string ⟨m_4.toArray⟩, .int .i64 m_5, .string ⟨m_6.toArray⟩, .slice m_7 m_8 m_9, .slice m_a m_b m_c] w8 W9 ∧ Got9 w8 w2.heap.size (r2) (.agg #[.int .i64 n_1, .bool n_2, .bool n_3, .string ⟨n_4.toArray⟩, .int .i64 n_5, .string ⟨n_6.toArray⟩, .slice n_7 n_8 n_9, .slice n_a n_b n_c]) ev2 zeroC W9) ⟨ht.alloc _, Got9.new ht.since HZ2.out HSP2.out⟩ ?_
        rintro x3 ⟨ht1, hf⟩
        have HF := Lib.hid hf
        clear hf HZ2 HSP2
        refine hK.out _ _ ht1 (fun ht => ?_)
        clear hK K ht1
        try simp only [Act.put, List.setIfInBounds_toArray, List.set_cons_zero, List.set_cons_succ]
        obtain ⟨gZ, hgZ⟩ : ∃ g, g = w2.heap.size := ⟨_, rfl⟩
        rw [← hgZ] at HF ⊢
        clear hgZ
        refine wpAnyH_ready (rs := [9]) (by kernel_rfl) (by simp) ?_
        refine AllReadyH.cons (o := ⟨none, _, _, _, _, _⟩) rfl (fun K hK => ?_) (AllReadyH.nil)
        obtain ⟨z0, z1, z2, z3, z4, z5, z6, z7⟩ := HF.out.blk.eight
        have zf := HF.out.blk.frozen
        have zl := HF.out.blk.lt
        go_simp
        refine via9 (K := K) (fun W9 => Part9 gY #[.int .i64 m_1, .bool m_2, .bool m_3, .string ⟨m_4.toArray⟩, .int .i64 m_5, .string ⟨m_6.toArray⟩, .slice m_7 m_8 m_9, .slice m_a m_b m_c] w8 W9 ∧ Got9 w8 gZ (r2) (.agg #[.int .i64 n_1, .bool n_2, .bool n_3, .string ⟨n_4.toArray⟩, .int .i64 n_5, .string ⟨n_6.toArray⟩, .slice n_7 n_8 n_9, .slice n_a n_b n_c]) ev2 #[.int .i64 n_1, .bool n_2, .bool n_3, .string ⟨n_4.toArray⟩, .int .i64 n_5, .string ⟨n_6.toArray⟩, .slice n_7 n_8 n_9, .slice n_a n_b n_c] W9) ⟨ht.set8z HF.out.ge _ _ _ _ _ _ _ _, HF.out.set (.int .i64 n_1) (.bool n_2) (.bool n_3) (.string ⟨n_4.toArray⟩) (.int .i64 n_5) (.string ⟨n_6.toArray⟩) (.slice n_7 n_8 n_9) (.slice n_a n_b n_c)⟩ ?_
        rintro x5 ⟨ht1, hfin⟩
        have HFIN := Lib.hid hfin
        clear hfin z0 z1 z2 z3 z4 z5 z6 z7 zf zl HF
        refine hK.out _ _ ht1 (fun ht => ?_)
        clear hK K ht1
        try simp only [Act.put, List.setIfInBounds_toArray, List.set_cons_zero, List.set_cons_succ]
        refine wpAnyH_take (i := 10) (oi := ⟨some _, _, _, _, _, _⟩) (v := ev2) rfl (by kernel_rfl) (by kernel_rfl) (by kernel_rfl) (fun _ _ _ h => h) (Or.inl ⟨by rfl, ?_⟩) ht ?_
        · intro W9 hSw
          go_simp
        try simp only [Act.put, List.setIfInBounds_toArray, List.set_cons_zero, List.set_cons_succ]
        refine wpAnyH_done (by kernel_rfl) ?_ _
        have HX5 := Lib.hid ht.since
        clear ht
        go_wp2_with fail
        go_meet
        case rel => exact ⟨gZ, ev2, n_1, n_2, n_3, n_4, n_5, n_6, n_7, n_8, n_9, n_a, n_b, n_c, rfl, rfl, HX5.out, HFIN.out⟩
      · go_simp
        refine via9 (K := K) (fun W9 => Part9 gY #[.int .i64 m_1, .bool m_2, .bool m_3, .string ⟨m_4.toArray⟩, .int .i64 m_5, .string ⟨m_6.toArray⟩, .slice m_7 m_8 m_9, .slice m_a m_b m_c] w8 W9 ∧ Lone9 w8 w8.heap.size W9) ⟨ht.alloc _, Lone9.new w8⟩ ?_
        rintro x3 ⟨ht1, ha⟩
        have HA := Lib.hid ha
        clear ha
        refine hK.out _ _ ht1 (fun ht => ?_)
        clear hK K ht1
        try simp only [Act.put, List.setIfInBounds_toArray, List.set_cons_zero, List.set_cons_succ]
        obtain ⟨gZ, hgZ⟩ : ∃ g, g = w8.heap.size := ⟨_, rfl⟩
        rw [← hgZ] at HA ⊢
        clear hgZ
        refine wpAnyH_ready (rs := [4]) (by kernel_rfl) (by simp) ?_
        refine AllReadyH.cons (o := ⟨some _, _, _, _, _, _⟩) rfl (fun K hK => ?_) (AllReadyH.nil)
        go_simp
        refine (HH.out _ ht.since).mono ?_
        rintro e2 w2 ⟨y2, ev2, rfl, hz2, hsp2, hb2⟩
        obtain ⟨n_1, n_2, n_3, n_4, n_5, n_6, n_7, n_8, n_9, n_a, n_b, n_c, rfl⟩ := In.cells hz2
        have hs : Part9 gY #[.int .i64 m_1, .bool m_2, .bool m_3, .string ⟨m_4.toArray⟩, .int .i64 m_5, .string ⟨m_6.toArray⟩, .slice m_7 m_8 m_9, .slice m_a m_b m_c] w8 w2 := ht.on hb2
        have HF := Lib.hid (Got9.after HA.out hb2 hz2 hsp2)
        clear hz2 hsp2 hb2 ht HA
        go_wp2_with fail
        refine hK.out _ _ hs (fun ht => ?_)
        clear hK K hs
        try simp only [Act.put, List.setIfInBounds_toArray, List.set_cons_zero, List.set_cons_succ]
        refine wpAnyH_take (i := 5) (oi := ⟨some _, _, _, _, _, _⟩) (v := (.tuple #[.agg #[.int .i64 n_1, .bool n_2, .bool n_3, .string ⟨n_4.toArray⟩, .int .i64 n_5, .string ⟨n_6.toArray⟩, .slice n_7 n_8 n_9, .slice n_a n_b n_c], ev2])) rfl (by kernel_rfl) (by kernel_rfl) (by kernel_rfl) (fun _ _ _ h => h) (Or.inl ⟨by rfl, ?_⟩) ht ?_
        · intro W9 hSw
          go_simp
        try simp only [Act.put, List.setIfInBounds_toArray, List.set_cons_zero, List.set_cons_succ]
        refine wpAnyH_take (i := 6) (oi := ⟨some _, _, _, _, _, _⟩) (v := (.agg #[.int .i64 n_1, .bool n_2, .bool n_3, .string ⟨n_4.toArray⟩, .int .i64 n_5, .string ⟨n_6.toArray⟩, .slice n_7 n_8 n_9, .slice n_a n_b n_c])) rfl (by kernel_rfl) (by kernel_rfl) (by kernel_rfl) (fun _ _ _ h => h) (Or.inl ⟨by rfl, ?_⟩) ht ?_
        · intro W9 hSw
          go_simp
        try simp only [Act.put, List.setIfInBounds_toArray, List.set_cons_zero, List.set_cons_succ]
        refine wpAnyH_take (i := 7) (oi := ⟨some _, _, _, _, _, _⟩) (v := ev2) rfl (by kernel_rfl) (by kernel_rfl) (by kernel_rfl) (fun _ _ _ h => h) (Or.inl ⟨by rfl, ?_⟩) ht ?_
        · intro W9 hSw
          go_simp
        try simp only [Act.put, List.setIfInBounds_toArray, List.set_cons_zero, List.set_cons_succ]
        refine wpAnyH_ready (rs := [9]) (by kernel_rfl) (by simp) ?_
        refine AllReadyH.cons (o := ⟨none, _, _, _, _, _⟩) rfl (fun K hK => ?_) (AllReadyH.nil)
        obtain ⟨z0, z1, z2, z3, z4, z5, z6, z7⟩ := HF.out.blk.eight
        have zf := HF.out.blk.frozen
        have zl := HF.out.blk.lt
        go_simp
        refine via9 (K := K) (fun W9 => Part9 gY #[.int .i64 m_1, .bool m_2, .bool m_3, .string ⟨m_4.toArray⟩, .int .i64 m_5, .string ⟨m_6.toArray⟩, .slice m_7 m_8 m_9, .slice m_a m_b m_c] w8 W9 ∧ Got9 w8 gZ (r2) (.agg #[.int .i64 n_1, .bool n_2, .bool n_3, .string ⟨n_4.toArray⟩, .int .i64 n_5, .string ⟨n_6.toArray⟩, .slice n_7 n_8 n_9, .slice n_a n_b n_c]) ev2 #[.int .i64 n_1, .bool n_2, .bool n_3, .string ⟨n_4.toArray⟩, .int .i64 n_5, .string ⟨n_6.toArray⟩, .slice n_7 n_8 n_9, .slice n_a n_b n_c] W9) ⟨ht.set8z HF.out.ge _ _ _ _ _ _ _ _, HF.out.set (.int .i64 n_1) (.bool n_2) (.bool n_3) (.string ⟨n_4.toArray⟩) (.int .i64 n_5) (.string ⟨n_6.toArray⟩) (.slice n_7 n_8 n_9) (.slice n_a n_b n_c)⟩ ?_
        rintro x5 ⟨ht1, hfin⟩
        have HFIN := Lib.hid hfin
        clear hfin z0 z1 z2 z3 z4 z5 z6 z7 zf zl HF
        refine hK.out _ _ ht1 (fun ht => ?_)
        clear hK K ht1
        try simp only [Act.put, List.setIfInBounds_toArray, List.set_cons_zero, List.set_cons_succ]
        refine wpAnyH_take (i := 10) (oi := ⟨some _, _, _, _, _, _⟩) (v := ev2) rfl (by kernel_rfl) (by kernel_rfl) (by kernel_rfl) (fun _ _ _ h => h) (Or.inl ⟨by rfl, ?_⟩) ht ?_
        · intro W9 hSw
          go_simp
        try simp only [Act.put, List.setIfInBounds_toArray, List.set_cons_zero, List.set_cons_succ]
        refine wpAnyH_done (by kernel_rfl) ?_ _
        have HX5 := Lib.hid ht.since
        clear ht
        go_wp2_with fail
        go_meet
        case rel => exact ⟨gZ, ev2, n_1, n_2, n_3, n_4, n_5, n_6, n_7, n_8, n_9, n_a, n_b, n_c, rfl, rfl, HX5.out, HFIN.out⟩
    case rest =>
    obtain ⟨gT, evG, n_1, n_2, n_3, n_4, n_5, n_6, n_7, n_8, n_9, n_a, n_b, n_c, rfl, rfl, hb9, hgot⟩ := hcut
    obtain ⟨w9, hw9⟩ : ∃ W, W = wc := ⟨_, rfl⟩
    subst hw9
    have HB' := Lib.hid (HB.out.trans (hb9.mono HB.out.size))
    have HV' := Lib.hid (HV.out.on hb9)
    have HL' := Lib.hid (HL.out.keep (le_below hb9))
    have HX' := Lib.hid (HX.out.on hb9)
    have HSP' := Lib.hid (HSP.out.on hb9)
    clear HB HV HL HX HSP
    have HB := Lib.hid HB'.out
    have HV := Lib.hid HV'.out
    have HL := Lib.hid HL'.out
    have HX := Lib.hid HX'.out
    have HSP := Lib.hid HSP'.out
    clear HB' HV' HL' HX' HSP'
    have HT := Lib.hid (show Bx9 w9 gT r2.z #[.int .i64 n_1, .bool n_2, .bool n_3, .string ⟨n_4.toArray⟩, .int .i64 n_5, .string ⟨n_6.toArray⟩, .slice n_7 n_8 n_9, .slice n_a n_b n_c] from ⟨hgot.blk, In.keep (on_all _ _) _ _ hgot.z⟩)
    have HG := Lib.hid hgot.ev.spots
    clear hgot hb9 HP HH HY'
    have hpl : r2.i ≤ 100 := by
      cases hq2 : r2 with
      | ok u2 => exact Nat.zero_le _
      | bad c2 j2 => have h := HR2.out; rw [hq2] at h; have := Ap.apply_place _ h; rw [List.length_drop] at this; show j2 ≤ 100; omega
    have hrr : r.z = r2.z ∧ r.c = r2.c ∧ (¬ r2.c = 0 → r.i = r2.i + k) := by
      have h := Ap.apply_parts v u l k hkl HR1.out
      rw [HR.out, HR2.out] at h
      cases r2 with
      | ok z => subst h; exact ⟨rfl, rfl, fun h => absurd rfl h⟩
      | bad c2 j2 => subst h; exact ⟨rfl, rfl, fun _ => rfl⟩
    have HRR := Lib.hid hrr
    clear hrr
    go_wp2_with fail
    refine (spots8_any HG.out.spots).mono ?_
    rintro e10 w10 ⟨rfl, hb10⟩
    have HB' := Lib.hid (HB.out.trans (hb10.mono HB.out.size))
    have HV' := Lib.hid (HV.out.on hb10)
    have HL' := Lib.hid (HL.out.keep (le_below hb10))
    have HX' := Lib.hid (HX.out.on hb10)
    have HSP' := Lib.hid (HSP.out.on hb10)
    have HT' := Lib.hid (HT.out.on hb10)
    have HG' := Lib.hid (HG.out.on hb10)
    clear HB HV HL HX HSP HT HG
    have HB := Lib.hid HB'.out
    have HV := Lib.hid HV'.out
    have HL := Lib.hid HL'.out
    have HX := Lib.hid HX'.out
    have HSP := Lib.hid HSP'.out
    have HT := Lib.hid HT'.out
    have HG := Lib.hid HG'.out
    clear HB' HV' HL' HX' HSP' HT' HG'
    clear hb10
    have HSM := Lib.hid (refSame_any r.z r2.z _ _ w10 HX.out.2 HT.out.2)
    rw [HRR.out.1, same_refl] at HSM
    obtain ⟨a0, a1, a2, a3, a4, a5, a6, a7⟩ := HX.out.1.eight
    obtain ⟨b0, b1, b2, b3, b4, b5, b6, b7⟩ := HT.out.1.eight
    go_wp2_with fail
    refine HSM.out.mono ?_
    rintro e11 w11 ⟨rfl, hb11⟩
    clear a0 a1 a2 a3 a4 a5 a6 a7 b0 b1 b2 b3 b4 b5 b6 b7
    have HB' := Lib.hid (HB.out.trans (hb11.mono HB.out.size))
    have HV' := Lib.hid (HV.out.on hb11)
    have HL' := Lib.hid (HL.out.keep (le_below hb11))
    have HX' := Lib.hid (HX.out.on hb11)
    have HSP' := Lib.hid (HSP.out.on hb11)
    have HT' := Lib.hid (HT.out.on hb11)
    have HG' := Lib.hid (HG.out.on hb11)
    clear HB HV HL HX HSP HT HG
    have HB := Lib.hid HB'.out
    have HV := Lib.hid HV'.out
    have HL := Lib.hid HL'.out
    have HX := Lib.hid HX'.out
    have HSP := Lib.hid HSP'.out
    have HT := Lib.hid HT'.out
    have HG := Lib.hid HG'.out
    clear HB' HV' HL' HX' HSP' HT' HG'
    clear hb11 HSM
    have hcc : ((r.c : Int) != (r2.c : Int)) = false := by rw [HRR.out.2.1]; simp
    have hwi : IntKind.i64.wrap ((r2.i : Int) + (k : Int)) = (r2.i : Int) + (k : Int) := by rw [IntKind.wrap_i64]; omega
    go_upto_region 17 with (fail)
    go_cut [137] from 122 to 137 (fun v137 wc => v137 = .bool false ∧ wc = w11)
    case first =>
      rcases HG.out with ⟨rfl, -, -⟩ | ⟨h0, b, -, rfl, -⟩
      · go_wp2_with fail
        go_meet
        case rel => exact ⟨rfl, rfl⟩
      · have hii : ((r.i : Int) != (r2.i : Int) + (k : Int)) = false := by rw [HRR.out.2.2 (fun h => h0 (by rw [h]; rfl))]; simp
        go_wp2_with fail
        go_meet
        case rel => exact ⟨rfl, rfl⟩
    case rest =>
    obtain ⟨rfl, rfl⟩ := hcut
    obtain ⟨w12, hw12⟩ : ∃ W, W = wc := ⟨_, rfl⟩
    subst hw12
    clear HX HSP HT HG HL HRR hcc hwi hpl HOF
    have HPT := Lib.hid (lawPointer9_any t w12 hq)
    go_wp2_with fail
    refine HPT.out.mono ?_
    rintro e13 w13 ⟨ns, NA, ncp, nc, rfl, hns, hn1, hn2, hb13, hnc⟩
    have HB' := Lib.hid (HB.out.trans (hb13.mono HB.out.size))
    have HV' := Lib.hid (HV.out.on hb13)
    clear HB HV
    have HB := Lib.hid HB'.out
    have HV := Lib.hid HV'.out
    clear HB' HV'
    have HN := Lib.hid hns
    clear hns hb13 HPT
    have htl : (text ns).length ≤ 500 := by
      rcases hnc with ⟨_, rfl⟩ | ⟨_, hpp, htl⟩
      · show 0 ≤ 500; omega
      · rw [(parse_back hpp).1]; exact htl
    have HNS := Lib.hid (Ap.name_small (l := ns) (by omega))
    have hnsl := HNS.out.2
    have HGE := Lib.hid (refGet_any ns w13.cell? v _ NA ncp w13 (Cl.le.refl _) HV.out.2 HN.out hn1 hn2 HNS.out.1 (by have := HVAL.out.size; omega))
    obtain ⟨rg, hrg⟩ : ∃ rg, get v ns = rg := ⟨_, rfl⟩
    have HRG := Lib.hid hrg
    rw [hrg] at HGE
    clear hrg
    have hn2' := hn2
    unfold maxLen at hn2
    obtain ⟨a0, a1, a2, a3, a4, a5, a6, a7⟩ := HV.out.1.eight
    go_wp2_with fail
    refine HGE.out.mono ?_
    intro e14 w14 h14
    obtain ⟨y14, rfl, hy14, hb14⟩ := h14.parts9
    obtain ⟨x_1, x_2, x_3, x_4, x_5, x_6, x_7, x_8, x_9, x_a, x_b, x_c, rfl⟩ := In.cells hy14
    have hbb := hb14.alloc hb14.size (.cells #[.int .i64 x_1, .bool x_2, .bool x_3, .string ⟨x_4.toArray⟩, .int .i64 x_5, .string ⟨x_6.toArray⟩, .slice x_7 x_8 x_9, .slice x_a x_b x_c] 28)
    clear a0 a1 a2 a3 a4 a5 a6 a7
    have HB' := Lib.hid (HB.out.trans (hbb.mono HB.out.size))
    have HV' := Lib.hid (HV.out.on hbb)
    have HN' := Lib.hid (HN.out.keep (le_below hbb))
    clear HB HV HN
    have HB := Lib.hid HB'.out
    have HV := Lib.hid HV'.out
    have HN := Lib.hid HN'.out
    clear HB' HV' HN'
    have HX := Lib.hid (show Bx9 (w14.alloc (.cells #[.int .i64 x_1, .bool x_2, .bool x_3, .string ⟨x_4.toArray⟩, .int .i64 x_5, .string ⟨x_6.toArray⟩, .slice x_7 x_8 x_9, .slice x_a x_b x_c] 28)) w14.heap.size (rg.getD Ps.mkN) #[.int .i64 x_1, .bool x_2, .bool x_3, .string ⟨x_4.toArray⟩, .int .i64 x_5, .string ⟨x_6.toArray⟩, .slice x_7 x_8 x_9, .slice x_a x_b x_c] from ⟨Blk.new w14 28 #[.int .i64 x_1, .bool x_2, .bool x_3, .string ⟨x_4.toArray⟩, .int .i64 x_5, .string ⟨x_6.toArray⟩, .slice x_7 x_8 x_9, .slice x_a x_b x_c], In.keep (le_below hbb) _ _ hy14⟩)
    clear hy14 hb14 hbb h14 HGE
    go_upto_region 21 with (fail)
    generalize w14.alloc (.cells #[.int .i64 x_1, .bool x_2, .bool x_3, .string ⟨x_4.toArray⟩, .int .i64 x_5, .string ⟨x_6.toArray⟩, .slice x_7 x_8 x_9, .slice x_a x_b x_c] 28) = wd at *
    generalize w14.heap.size = g31 at *
    rcases hnc with ⟨rfl, rfl⟩ | ⟨rfl, -, -⟩
    · obtain ⟨a0, a1, a2, a3, a4, a5, a6, a7⟩ := HV.out.1.eight
      go_wp2_with fail
      refine (HSH.out _ HV.out).mono ?_
      rintro e20 w20 ⟨rfl, hb20⟩
      have HB9 := Lib.hid (HB.out.trans (hb20.mono HB.out.size))
      clear hb20 a0 a1 a2 a3 a4 a5 a6 a7
      go_wp2_with fail
      go_ret
      exact ⟨rfl, HB9.out⟩
    cases rg with
    | none =>
      obtain ⟨a0, a1, a2, a3, a4, a5, a6, a7⟩ := HV.out.1.eight
      go_wp2_with fail
      refine (HSH.out _ HV.out).mono ?_
      rintro e20 w20 ⟨rfl, hb20⟩
      have HB9 := Lib.hid (HB.out.trans (hb20.mono HB.out.size))
      clear hb20 a0 a1 a2 a3 a4 a5 a6 a7
      go_wp2_with fail
      go_ret
      exact ⟨rfl, HB9.out⟩
    | some th =>
      have hbe := (Below.refl wd.heap.size wd).alloc (Nat.le_refl _) (.cells #[.int .i64 6, .slice NA ns.length ncp, .slice none 0 0, .int .i64 x_1, .bool x_2, .bool x_3, .string ⟨x_4.toArray⟩, .int .i64 x_5, .string ⟨x_6.toArray⟩, .slice x_7 x_8 x_9, .slice x_a x_b x_c, .int .i64 4, .slice NA ns.length ncp, .slice NA ns.length ncp, .int .i64 0, .bool false, .bool false, .string ⟨#[]⟩, .int .i64 0, .string ⟨#[]⟩, .slice none 0 0, .slice none 0 0, .int .i64 3, .slice NA ns.length ncp, .slice none 0 0, .int .i64 x_1, .bool x_2, .bool x_3, .string ⟨x_4.toArray⟩, .int .i64 x_5, .string ⟨x_6.toArray⟩, .slice x_7 x_8 x_9, .slice x_a x_b x_c] 52)
      have hthr : Ap.applyAt v (there3 ns th) 0 = .ok v := Ap.apply_there HVAL.out.neat HVAL.out.size HFI.out.2.2.1 HRG.out
      have hc9 := HA.out _ v (there3 ns th) _ _ _ (wd.alloc (.cells #[.int .i64 6, .slice NA ns.length ncp, .slice none 0 0, .int .i64 x_1, .bool x_2, .bool x_3, .string ⟨x_4.toArray⟩, .int .i64 x_5, .string ⟨x_6.toArray⟩, .slice x_7 x_8 x_9, .slice x_a x_b x_c, .int .i64 4, .slice NA ns.length ncp, .slice NA ns.length ncp, .int .i64 0, .bool false, .bool false, .string ⟨#[]⟩, .int .i64 0, .string ⟨#[]⟩, .slice none 0 0, .slice none 0 0, .int .i64 3, .slice NA ns.length ncp, .slice none 0 0, .int .i64 x_1, .bool x_2, .bool x_3, .string ⟨x_4.toArray⟩, .int .i64 x_5, .string ⟨x_6.toArray⟩, .slice x_7 x_8 x_9, .slice x_a x_b x_c] 52)) (Handed9.of (e := 3) (HV.out.on hbe).2 (there3_in (Blk.new wd 52 _) (HN.out.keep (le_below hbe)) hn1 hn2' (HX.out.on hbe).2) (Nat.le_refl 3) (by unfold maxLen; omega) HVAL.out (there3_fit HVAL.out HFI.out.2.1 HRG.out htl) (show 3 ≤ 100 by omega) ((HERR.out.on HB.out).on hbe))
      rw [hthr] at hc9
      have HC := Lib.hid hc9
      clear hc9 hthr hbe
      obtain ⟨a0, a1, a2, a3, a4, a5, a6, a7⟩ := HV.out.1.eight
      obtain ⟨b0, b1, b2, b3, b4, b5, b6, b7⟩ := HX.out.1.eight
      go_wp2_with fail
      refine HC.out.mono ?_
      rintro e15 w15 ⟨y15, evH, rfl, hy15, hsp, hb15⟩
      obtain ⟨y_1, y_2, y_3, y_4, y_5, y_6, y_7, y_8, y_9, y_a, y_b, y_c, rfl⟩ := In.cells hy15
      have hbb := (((Below.refl wd.heap.size wd).alloc (Nat.le_refl _) (.cells #[.int .i64 6, .slice NA ns.length ncp, .slice none 0 0, .int .i64 x_1, .bool x_2, .bool x_3, .string ⟨x_4.toArray⟩, .int .i64 x_5, .string ⟨x_6.toArray⟩, .slice x_7 x_8 x_9, .slice x_a x_b x_c, .int .i64 4, .slice NA ns.length ncp, .slice NA ns.length ncp, .int .i64 0, .bool false, .bool false, .string ⟨#[]⟩, .int .i64 0, .string ⟨#[]⟩, .slice none 0 0, .slice none 0 0, .int .i64 3, .slice NA ns.length ncp, .slice none 0 0, .int .i64 x_1, .bool x_2, .bool x_3, .string ⟨x_4.toArray⟩, .int .i64 x_5, .string ⟨x_6.toArray⟩, .slice x_7 x_8 x_9, .slice x_a x_b x_c] 52)).trans (hb15.mono (by simp))).alloc (Nat.le_trans (by simp) hb15.size) (.cells #[.int .i64 y_1, .bool y_2, .bool y_3, .string ⟨y_4.toArray⟩, .int .i64 y_5, .string ⟨y_6.toArray⟩, .slice y_7 y_8 y_9, .slice y_a y_b y_c] 28)
      clear a0 a1 a2 a3 a4 a5 a6 a7 b0 b1 b2 b3 b4 b5 b6 b7
      have HB' := Lib.hid (HB.out.trans (hbb.mono HB.out.size))
      have HV' := Lib.hid (HV.out.on hbb)
      clear HB HV
      have HB := Lib.hid HB'.out
      have HV := Lib.hid HV'.out
      clear HB' HV'
      have HY := Lib.hid (show Bx9 (w15.alloc (.cells #[.int .i64 y_1, .bool y_2, .bool y_3, .string ⟨y_4.toArray⟩, .int .i64 y_5, .string ⟨y_6.toArray⟩, .slice y_7 y_8 y_9, .slice y_a y_b y_c] 28)) w15.heap.size v #[.int .i64 y_1, .bool y_2, .bool y_3, .string ⟨y_4.toArray⟩, .int .i64 y_5, .string ⟨y_6.toArray⟩, .slice y_7 y_8 y_9, .slice y_a y_b y_c] from ⟨Blk.new w15 28 #[.int .i64 y_1, .bool y_2, .bool y_3, .string ⟨y_4.toArray⟩, .int .i64 y_5, .string ⟨y_6.toArray⟩, .slice y_7 y_8 y_9, .slice y_a y_b y_c], In.keep ((on_all _ _).trans (le_alloc w15 (.cells #[.int .i64 y_1, .bool y_2, .bool y_3, .string ⟨y_4.toArray⟩, .int .i64 y_5, .string ⟨y_6.toArray⟩, .slice y_7 y_8 y_9, .slice y_a y_b y_c] 28))) _ _ hy15⟩)
      rcases hsp with ⟨rfl, -, -⟩ | ⟨h0, _⟩
      case inr => exact absurd rfl h0
      clear hy15 hb15 hbb HC HX HN
      go_upto_region 23 with (fail)
      generalize w15.alloc (.cells #[.int .i64 y_1, .bool y_2, .bool y_3, .string ⟨y_4.toArray⟩, .int .i64 y_5, .string ⟨y_6.toArray⟩, .slice y_7 y_8 y_9, .slice y_a y_b y_c] 28) = we at *
      generalize w15.heap.size = g33 at *
      have HSM := Lib.hid (refSame_any v v _ _ we HY.out.2 HV.out.2)
      rw [same_refl] at HSM
      obtain ⟨a0, a1, a2, a3, a4, a5, a6, a7⟩ := HV.out.1.eight
      obtain ⟨b0, b1, b2, b3, b4, b5, b6, b7⟩ := HY.out.1.eight
      go_wp2_with fail
      refine HSM.out.mono ?_
      rintro e16 w16 ⟨rfl, hb16⟩
      clear a0 a1 a2 a3 a4 a5 a6 a7 b0 b1 b2 b3 b4 b5 b6 b7
      have HB' := Lib.hid (HB.out.trans (hb16.mono HB.out.size))
      have HV' := Lib.hid (HV.out.on hb16)
      clear HB HV
      have HB := Lib.hid HB'.out
      have HV := Lib.hid HV'.out
      clear HB' HV'
      clear hb16 HSM
      obtain ⟨a0, a1, a2, a3, a4, a5, a6, a7⟩ := HV.out.1.eight
      go_wp2_with fail
      refine (HSH.out _ HV.out).mono ?_
      rintro e20 w20 ⟨rfl, hb20⟩
      have HB9 := Lib.hid (HB.out.trans (hb20.mono HB.out.size))
      clear hb20 a0 a1 a2 a3 a4 a5 a6 a7
      go_wp2_with fail
      go_ret
      exact ⟨rfl, HB9.out⟩

end Go.Proofs.YtjjenpmahmbafaaGreatDoor

