/- The walks of layer 9 (apply): the laws' Ops. -/
import Derived.Test.YtjjenpmahmbafaaGreatDoorBa
import Derived.Test.YtjjenpmahmbafaaGreatDoorJa
import Derived.Test.YtjjenpmahmbafaaGreatDoorJi
import Derived.Test.YtjjenpmahmbafaaGreatDoorJd
import Derived.Deep.CutRange
import Derived.Deep.RegionLaw
import Derived.Test.YtjjenpmahmbafaaGreatDoorJn
import Derived.Test.YtjjenpmahmbafaaGreatDoorMr
import Derived.Test.YtjjenpmahmbafaaGreatDoorRg
import Derived.Test.YtjjenpmahmbafaaGreatDoorAl
import Derived.Test.YtjjenpmahmbafaaGreatDoorMt
namespace Go.Proofs.YtjjenpmahmbafaaGreatDoor
open Go.RowKit Pt Js Oq

def OpsTold (Q : Vl → Int → Prop) (w : World) (e : Ending) (w' : World) : Prop :=
  ∃ (v : Vl) (cv : Int) (l : List Opn) (A : Option Addr) (cp : Nat) (c : Int), e = .returned (.tuple #[.slice A l.length cp, .int .i64 c]) ∧ SlO w'.cell? A l ∧ l.length ≤ cp ∧ cp ≤ maxLen ∧ Below w.heap.size w w' ∧ Q v cv ∧ ((c = 0 ∧ (cv = 0 ∨ ∃ k i, Oq.read v = .bad k i)) ∨ (c = 1 ∧ Fine v ∧ Oq.read v = .ok l))
def ValTold (Q : Vl → Int → Prop) (w : World) (e : Ending) (w' : World) : Prop :=
  ∃ (v : Vl) (x : Value) (c : Int), e = .returned (.tuple #[x, .int .i64 c]) ∧ v.In w'.cell? x ∧ Below w.heap.size w w' ∧ (c = 0 ∨ (c = 1 ∧ Fine v)) ∧ Q v c
theorem ops_fit {v : Vl} {l : List Opn} (hv : Fine v) (h : Oq.read v = .ok l) : Ap.OpsFit l ∧ l.length ≤ 100 := by
  have hl := read_len h
  obtain ⟨b, n, s, L, m, rfl, _, hm⟩ := read_inv h
  refine ⟨?_, hl⟩
  suffices h : ∀ o ∈ l, Ap.OpFit o ∧ Ap.tame o.v = true from ⟨fun o ho => (h o ho).1, fun o ho => (h o ho).2⟩
  intro o ho
  obtain ⟨i, hi, rfl⟩ := List.getElem_of_mem ho
  have hml := map_len hm
  obtain ⟨hj, hop⟩ := map_at hm (show i < L.length by omega)
  have hmem : L[i]'(by omega) ∈ L := List.getElem_mem _
  have h1 := size_el hmem
  have h2 := hv.2.1
  simp only [Vl.size] at h2
  exact ⟨Ap.opn_fit (fit_el (fit_fine hv) hmem) (by omega) hop, Ap.opn_tame (((Ap.tame_iff _ _ _ _ _ _).1 (Ap.tame_may _ hv.1)).2.1 _ hmem) hop⟩

set_option linter.unusedVariables false in
set_option linter.unusedSimpArgs false in
set_option maxRecDepth 100000 in
set_option maxHeartbeats 2000000 in
theorem ops_from (Q : Vl → Int → Prop) (s : ByteArray) (w : World) (hV : Calls Tryz.prog 6 #[.string s] w (ValTold Q w)) : Calls Tryz.prog 7 #[.string s] w (OpsTold Q w) := by
  have HV := Lib.hid hV
  clear hV
  go_enter Tryz.func7, Tryz.ntmps7
  go_wp2_with fail
  refine HV.out.mono ?_
  rintro e1 w1 ⟨v, x, c, rfl, hx, hb1, hc, hq⟩
  have HQ := Lib.hid hq
  obtain ⟨k_1, k_2, k_3, k_4, k_5, k_6, k_7, k_8, k_9, k_a, k_b, k_c, rfl⟩ := In.cells hx
  have HB1 := Lib.hid (hb1.alloc hb1.size (.cells #[.int .i64 k_1, .bool k_2, .bool k_3, .string ⟨k_4.toArray⟩, .int .i64 k_5, .string ⟨k_6.toArray⟩, .slice k_7 k_8 k_9, .slice k_a k_b k_c] 28))
  have HX1 := Lib.hid (In.keep (le_alloc w1 (.cells #[.int .i64 k_1, .bool k_2, .bool k_3, .string ⟨k_4.toArray⟩, .int .i64 k_5, .string ⟨k_6.toArray⟩, .slice k_7 k_8 k_9, .slice k_a k_b k_c] 28)) _ _ hx)
  have HK1 := Lib.hid (Blk.new w1 28 #[.int .i64 k_1, .bool k_2, .bool k_3, .string ⟨k_4.toArray⟩, .int .i64 k_5, .string ⟨k_6.toArray⟩, .slice k_7 k_8 k_9, .slice k_a k_b k_c])
  clear hx hb1 hq HV
  go_upto_region 2 with (fail)
  generalize w1.alloc (.cells #[.int .i64 k_1, .bool k_2, .bool k_3, .string ⟨k_4.toArray⟩, .int .i64 k_5, .string ⟨k_6.toArray⟩, .slice k_7 k_8 k_9, .slice k_a k_b k_c] 28) = wa at *
  generalize w1.heap.size = gk at *
  rcases hc with rfl | ⟨rfl, hf⟩
  · go_wp2_with fail
    go_ret2
    exact ⟨_, _, [], none, 0, 0, rfl, slO_nil _ _, Nat.le_refl _, Nat.zero_le _, HB1.out, HQ.out, .inl ⟨rfl, .inl rfl⟩⟩
  have HF := Lib.hid hf
  have HR := Lib.hid (refReadF_any _ _ wa (fit_fine hf) HX1.out)
  clear hf
  obtain ⟨a0, a1, a2, a3, a4, a5, a6, a7⟩ := HK1.out.eight
  go_wp2_with fail
  refine HR.out.mono ?_
  rintro e2 w2 ⟨hb2, ⟨l, A, cp, hr, rfl, hs2, hc1, hc2⟩ | ⟨c, i, hr, rfl⟩⟩
  · have HS2 := Lib.hid hs2
    have HO := Lib.hid hr
    have HB2 := Lib.hid (HB1.out.trans (hb2.mono HB1.out.size))
    clear hs2 hr hb2 a0 a1 a2 a3 a4 a5 a6 a7
    go_wp2_with fail
    go_ret2
    exact ⟨_, _, l, A, cp, 1, rfl, HS2.out, hc1, hc2, HB2.out, HQ.out, .inr ⟨rfl, HF.out, HO.out⟩⟩
  · have hcd : ((c : Int) != 0) = true := by have := (read_code hr).1; simp; omega
    have HO := Lib.hid hr
    have HB2 := Lib.hid (HB1.out.trans (hb2.mono HB1.out.size))
    clear hr hb2 a0 a1 a2 a3 a4 a5 a6 a7
    go_wp2_with fail
    go_ret2
    exact ⟨_, _, [], none, 0, 0, rfl, slO_nil _ _, Nat.le_refl _, Nat.zero_le _, HB2.out, HQ.out, .inl ⟨rfl, .inr ⟨_, _, HO.out⟩⟩⟩

def OpsPost (w : World) (e : Ending) (w' : World) : Prop :=
  ∃ (l : List Opn) (A : Option Addr) (cp : Nat) (c : Int), e = .returned (.tuple #[.slice A l.length cp, .int .i64 c]) ∧ SlO w'.cell? A l ∧ l.length ≤ cp ∧ cp ≤ maxLen ∧ Below w.heap.size w w' ∧ (c = 0 ∨ (c = 1 ∧ Ap.OpsFit l ∧ l.length ≤ 100))
theorem ops_any (s : ByteArray) (hs : s.size ≤ 1000000000000000000) (w : World) : Calls Tryz.prog 7 #[.string s] w (OpsPost w) := by
  refine (ops_from (fun _ _ => True) s w ((value_told s hs w).mono ?_)).mono ?_
  · rintro e w' ⟨v, x, c, h1, h2, h3, h4⟩
    exact ⟨v, x, c, h1, h2, h3, h4, trivial⟩
  · rintro e w' ⟨v, cv, l, A, cp, c, h1, h2, h3, h4, h5, _, ⟨h6, _⟩ | ⟨h6, h7, h8⟩⟩
    · exact ⟨l, A, cp, c, h1, h2, h3, h4, h5, .inl h6⟩
    · exact ⟨l, A, cp, c, h1, h2, h3, h4, h5, .inr ⟨h6, ops_fit h7 h8⟩⟩

set_option linter.unusedVariables false in
set_option linter.unusedSimpArgs false in
set_option maxRecDepth 100000 in
set_option maxHeartbeats 4000000 in
theorem value_sure (s : ByteArray) (v : Vl) (u : List UInt8) (hs : s.size ≤ 2000) (hp : Ps.parse s.data.toList = .ok v u) (w : World) :
    Calls Tryz.prog 6 #[.string s] w (ValTold (fun v' c => v' = v ∧ c = 1) w) := by
  have HFI := Lib.hid (fine_of (by rw [← Lib.size_eq]; exact hs) hp)
  have HPS := Lib.hid hp
  have HZ := Lib.hid (Blk.new w 28 zeroC)
  have HB := Lib.hid (show Below w.heap.size w (w.alloc (.cells zeroC 28)) from (Below.refl _ _).alloc (Nat.le_refl _) _)
  have HP := Lib.hid (refParse_any s (by omega) (w.alloc (.cells zeroC 28)))
  have hsz : (w.alloc (.cells zeroC 28)).heap.size = w.heap.size + 1 := by simp
  have t1 : decide ((2000 : Int) < (s.size : Int)) = false := by simp; omega
  clear hp
  go_enter Tryz.func6, Tryz.ntmps6
  go_wp2_with fail
  refine HP.out.mono ?_
  rintro e w3 ⟨v3, x, c, p, rfl, hin, hb3, hp3⟩
  rw [HPS.out] at hp3
  obtain ⟨rfl, rfl, _⟩ := hp3
  obtain ⟨k_1, k_2, k_3, k_4, k_5, k_6, k_7, k_8, k_9, k_a, k_b, k_c, rfl⟩ := In.cells hin
  rw [hsz] at hin hb3
  have hb4 := (Below.refl w3.heap.size w3).alloc (Nat.le_refl _) (.cells #[.int .i64 k_1, .bool k_2, .bool k_3, .string ⟨k_4.toArray⟩, .int .i64 k_5, .string ⟨k_6.toArray⟩, .slice k_7 k_8 k_9, .slice k_a k_b k_c] 28)
  have HZ4 := Lib.hid ((HZ.out.below hb3 (by omega)).on hb4)
  have HB4 := Lib.hid ((HB.out.trans (hb3.mono (by omega))).trans (hb4.mono (by have := hb3.size; have := HB.out.size; omega)))
  have BOX := Lib.hid (Blk.new w3 28 #[.int .i64 k_1, .bool k_2, .bool k_3, .string ⟨k_4.toArray⟩, .int .i64 k_5, .string ⟨k_6.toArray⟩, .slice k_7 k_8 k_9, .slice k_a k_b k_c])
  have HIN := Lib.hid (show v3.In ((w3.alloc (.cells #[.int .i64 k_1, .bool k_2, .bool k_3, .string ⟨k_4.toArray⟩, .int .i64 k_5, .string ⟨k_6.toArray⟩, .slice k_7 k_8 k_9, .slice k_a k_b k_c] 28)).on (w.heap.size + 1 ≤ ·)) (.agg #[.int .i64 k_1, .bool k_2, .bool k_3, .string ⟨k_4.toArray⟩, .int .i64 k_5, .string ⟨k_6.toArray⟩, .slice k_7 k_8 k_9, .slice k_a k_b k_c]) from In.keep (on_keep (fun _ h _ => h) (fun b _ h2 => hb4.block b h2)) _ _ hin)
  clear hin hb3 hb4 HP HB HZ
  go_upto_region 4 with (fail)
  generalize w3.alloc (.cells #[.int .i64 k_1, .bool k_2, .bool k_3, .string ⟨k_4.toArray⟩, .int .i64 k_5, .string ⟨k_6.toArray⟩, .slice k_7 k_8 k_9, .slice k_a k_b k_c] 28) = w4 at *
  obtain ⟨z0, z1, z2, z3, z4, z5, z6, z7⟩ := HZ4.out.eight
  have zf := HZ4.out.frozen
  have zl := HZ4.out.lt
  obtain ⟨y0, y1, y2, y3, y4, y5, y6, y7⟩ := BOX.out.eight
  go_wp2_with fail
  refine bodyPost_ret (results_row (l := [_, _, _, _, _, _, _, _]) rfl _ _ _ rfl (HZ4.out.set8 _ _ _ _ _ _ _ _) Tryz.underlying28 rfl (by kernel_rfl)) rfl ?_
  exact ⟨_, _, 1, rfl, In.keep (le_on _ _) _ _ (in_set8 HIN.out (Nat.lt_succ_self _) (Nat.le_succ _) _ _ _ _ _ _ _ _), below_set8 HB4.out (Nat.le_refl _) _ _ _ _ _ _ _ _, .inr ⟨rfl, HFI.out⟩, rfl, rfl⟩
theorem ops_sure (s : ByteArray) (v : Vl) (u : List UInt8) (l : List Opn) (hs : s.size ≤ 2000) (hp : Ps.parse s.data.toList = .ok v u) (hr : Oq.read v = .ok l) (w : World) :
    Calls Tryz.prog 7 #[.string s] w fun e w' => ∃ (A : Option Addr) (cp : Nat), e = .returned (.tuple #[.slice A l.length cp, .int .i64 1]) ∧ SlO w'.cell? A l ∧ l.length ≤ cp ∧ cp ≤ maxLen ∧ Below w.heap.size w w' ∧ Ap.OpsFit l ∧ l.length ≤ 100 := by
  refine (ops_from _ s w (value_sure s v u hs hp w)).mono ?_
  rintro e w' ⟨v', cv, l', A, cp, c, h1, h2, h3, h4, h5, ⟨rfl, rfl⟩, ⟨h6, h7⟩ | ⟨rfl, h7, h8⟩⟩
  · exfalso
    rcases h7 with h7 | ⟨k, i, h7⟩
    · cases h7
    · rw [hr] at h7; cases h7
  · rw [hr] at h8
    injection h8 with h8
    subst h8
    exact ⟨A, cp, h1, h2, h3, h4, h5, ops_fit h7 hr⟩

end Go.Proofs.YtjjenpmahmbafaaGreatDoor

