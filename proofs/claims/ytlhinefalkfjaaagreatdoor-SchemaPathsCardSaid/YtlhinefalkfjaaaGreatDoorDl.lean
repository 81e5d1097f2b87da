/- Dl: Dk Dl, in one text. -/
import Derived.Test.YtlhinefalkfjaaaGreatDoorDa
import Derived.Test.YtlhinefalkfjaaaGreatDoorDj
namespace Go.Proofs.YtlhinefalkfjaaaGreatDoor.Cm
open Js Pt

theorem txt_ascii : ∀ {l : List UInt8}, (∀ c ∈ l, c.toNat < 128) → St.Txt l
  | [], _ => .nil
  | c :: t, h => by
    have hc : c.toNat < 128 := h c (by simp)
    have e : St.utf8 (c :: t) = 1 := by
      unfold St.utf8 St.width
      rw [if_pos (by show (List.getD (c :: t) 0 0).toNat < 128; exact hc), if_pos (by simp)]
    refine .cons _ (by rw [e]; decide) ?_
    rw [e]
    exact txt_ascii (fun d hd => h d (List.mem_of_mem_drop hd))
theorem name_high : ∀ {l : List UInt8}, (∀ c ∈ l, 128 ≤ c.toNat) → name l = l
  | [], _ => rfl
  | c :: t, h => by
    have hc : 128 ≤ c.toNat := h c (by simp)
    have e : esc c = [c] := by
      unfold esc
      rw [if_neg (fun k => by rw [k] at hc; exact absurd hc (by decide)), if_neg (fun k => by rw [k] at hc; exact absurd hc (by decide))]
    show esc c ++ name t = c :: t
    rw [e, name_high (fun d hd => h d (by simp [hd]))]
    rfl
theorem txt_name {l : List UInt8} (h : St.Txt l) : St.Txt (name l) := by
  induction h with
  | nil => exact .nil
  | cons l h _ ih =>
    have e : name l = name (l.take (St.utf8 l)) ++ name (l.drop (St.utf8 l)) := by
      unfold name
      rw [← List.flatMap_append, List.take_append_drop]
    rw [e]
    refine St.Txt.append ?_ ih
    have hr : St.Txt (l.take (St.utf8 l)) := by rw [← St.encode_rune l h]; exact St.Txt.encode (St.rune_scalar l h)
    rcases St.utf8_cases l h with ⟨q, h0, _, hl⟩ | ⟨q, h0, _, h1, _, _, hl⟩ | ⟨q, h0, _, h1, h2, _, _, _, hl⟩ | ⟨q, h0, _, h1, h2, h3, _, _, _, hl⟩
    · obtain ⟨a, ht, ha⟩ := St.take_g1 l hl
      rw [q, ht]
      refine txt_ascii (fun c hc => ?_)
      simp only [name, List.flatMap_cons, List.flatMap_nil, List.append_nil] at hc
      unfold esc at hc
      split at hc
      · rcases List.mem_cons.1 hc with k | k
        · rw [k]; decide
        · rw [List.mem_singleton.1 k]; decide
      · split at hc
        · rcases List.mem_cons.1 hc with k | k
          · rw [k]; decide
          · rw [List.mem_singleton.1 k]; decide
        · rw [List.mem_singleton.1 hc]; omega
    · obtain ⟨a, b, ht, ha, hb⟩ := St.take_g2 l hl
      rw [q, ht] at hr ⊢
      rw [name_high (fun c hc => by simp only [List.mem_cons, List.not_mem_nil, or_false] at hc; rcases hc with rfl | rfl <;> omega)]
      exact hr
    · obtain ⟨a, b, c, ht, ha, hb, hc⟩ := St.take_g3 l hl
      rw [q, ht] at hr ⊢
      rw [name_high (fun d hd => by simp only [List.mem_cons, List.not_mem_nil, or_false] at hd; rcases hd with rfl | rfl | rfl <;> omega)]
      exact hr
    · obtain ⟨a, b, c, d, ht, ha, hb, hc, hd⟩ := St.take_g4 l hl
      rw [q, ht] at hr ⊢
      rw [name_high (fun e he => by simp only [List.mem_cons, List.not_mem_nil, or_false] at he; rcases he with rfl | rfl | rfl | rfl <;> omega)]
      exact hr
theorem text_text : ∀ {P : Names}, (∀ n ∈ P, St.text n = true) → St.text (text P) = true := by
  intro P h
  refine Ps.text_of_txt ?_
  induction P with
  | nil => exact .nil
  | cons n t ih =>
    show St.Txt ((47 :: name n) ++ text t)
    refine St.Txt.append ?_ (ih (fun q hq => h q (by simp [hq])))
    show St.Txt ([47] ++ name n)
    exact St.Txt.append (txt_ascii (fun c hc => by rw [List.mem_singleton.1 hc]; decide)) (txt_name (St.text_txt (h n (by simp))))
theorem text_inj11 {l m : Names} (h : text l = text m) : l = m := by
  have h1 := parse_text l
  rw [h, parse_text m] at h1
  injection h1 with h1
  exact h1.symm
theorem get_text : ∀ (ns : Names) (v x : Vl), v.may = true → get v ns = some x → ∀ n ∈ ns, St.text n = true
  | [], _, _, _, _ => fun n hn => by cases hn
  | nm :: ns, .mk k b n s l m, x, hm, h => by
    simp only [Vl.may, Bool.and_eq_true] at hm
    rw [Pt.get] at h
    split at h
    · split at h
      · rename_i y hy
        split at h
        · rename_i hi
          intro q hq
          rcases List.mem_cons.1 hq with rfl | hq
          · rcases Ed.index_true hi with ⟨h1, _⟩ | ⟨_, hg, _⟩
            · cases h1
            · refine Ps.text_of_txt (txt_ascii (fun c hc => ?_))
              unfold Ed.good at hg
              have hd : q.all Nm.dig = true := by
                rcases Bool.eq_false_or_eq_true (q.all Nm.dig) with k | k
                · exact k
                · exact absurd (.inr (.inl (by rw [k]; decide))) hg
              have := List.all_eq_true.1 hd c hc
              simp only [Nm.dig, Bool.and_eq_true, decide_eq_true_eq] at this
              obtain ⟨h1, h2⟩ := this
              have h3 : c.toNat ≤ 57 := h2
              omega
          · exact get_text ns y x ((mayL_iff l).1 hm.1.2 y (List.mem_of_getElem? hy)) h q hq
        · cases h
      · cases h
    · split at h
      · rename_i y hy
        rw [Ed.find_five] at hy
        split at hy
        · unfold find at hy
          obtain ⟨p, hp, rfl⟩ := Option.map_eq_some_iff.1 hy
          have hpm := List.mem_of_find?_eq_some hp
          have hpe : p.1 = nm := by simpa using List.find?_some hp
          have hmm := (mayM_iff m).1 hm.2.1 p hpm
          intro q hq
          rcases List.mem_cons.1 hq with rfl | hq
          · rw [← hpe]; exact hmm.1
          · exact get_text ns p.2 x hmm.2 h q hq
        · cases hy
      · cases h
theorem get_small {N : Nat} (hN : 18 ≤ N) : ∀ (ns : Names) (v x : Vl), v.slim N → get v ns = some x → ns.length ≤ v.size ∧ (∀ n ∈ ns, n.length ≤ N) ∧ x.size ≤ v.size
  | [], v, x, _, h => by
    rw [Pt.get] at h
    injection h with h
    subst h
    exact ⟨Nat.zero_le _, (fun n hn => by cases hn), Nat.le_refl _⟩
  | nm :: ns, .mk k b n s l m, x, hs, h => by
    simp only [Vl.slim] at hs
    rw [Pt.get] at h
    simp only [Vl.size]
    split at h
    · split at h
      · rename_i y hy
        split at h
        · rename_i hi
          have hy2 := List.mem_of_getElem? hy
          have hz := sizeL_mem hy2
          obtain ⟨h1, h2, h3⟩ := get_small hN ns y x ((slimL_iff N l).1 hs.2.2.1 y hy2) h
          refine ⟨by simp only [List.length_cons]; omega, fun q hq => ?_, by omega⟩
          rcases List.mem_cons.1 hq with rfl | hq
          · rcases Ed.index_true hi with ⟨h1, _⟩ | ⟨_, hg, _⟩
            · cases h1
            · unfold Ed.good at hg
              rcases Nat.lt_or_ge 18 q.length with k | k
              · exact absurd (.inr (.inr (.inr k))) hg
              · omega
          · exact h2 q hq
        · cases h
      · cases h
    · split at h
      · rename_i y hy
        rw [Ed.find_five] at hy
        split at hy
        · unfold find at hy
          obtain ⟨p, hp, rfl⟩ := Option.map_eq_some_iff.1 hy
          have hpm := List.mem_of_find?_eq_some hp
          have hpe : p.1 = nm := by simpa using List.find?_some hp
          have hz := sizeM_mem hpm
          have hsl := (slimM_iff N m).1 hs.2.2.2 p hpm
          obtain ⟨h1, h2, h3⟩ := get_small hN ns p.2 x hsl.2 h
          refine ⟨by simp only [List.length_cons]; omega, fun q hq => ?_, by omega⟩
          rcases List.mem_cons.1 hq with rfl | hq
          · rw [← hpe]; exact hsl.1
          · exact h2 q hq
        · cases hy
      · cases h
theorem keyNos_cons (K : Key) (r : List Key) : keyNos (K :: r) = K.kids.map (·.2) ++ keyNos r := by simp [keyNos]
theorem keyNos_append (a b : List Key) : keyNos (a ++ b) = keyNos a ++ keyNos b := by simp [keyNos]
theorem keyNos_next {keys : List Key} {k : Nat} {K : Key} (h : keys[k]? = some K) : keyNos (keys.take (k + 1)) = keyNos (keys.take k) ++ K.kids.map (·.2) := by
  obtain ⟨hk, rfl⟩ := List.getElem?_eq_some_iff.1 h
  rw [List.take_succ_eq_append_getElem hk, keyNos_append, keyNos_cons]
  simp [keyNos]
theorem kidNos_next {a : List Node} {i : Nat} {N : Node} (h : a[i]? = some N) : kidNos (a.take (i + 1)) = kidNos (a.take i) ++ keyNos N.keys := by
  obtain ⟨hi, rfl⟩ := List.getElem?_eq_some_iff.1 h
  rw [List.take_succ_eq_append_getElem hi, kidNos_append]
  congr 1
  simp [kidNos, keyNos]
theorem done_sub {a : List Node} {i k j : Nat} {N : Node} {K : Key} (hN : a[i]? = some N) (hK : N.keys[k]? = some K) : (kidNos (a.take i) ++ keyNos (N.keys.take k) ++ (K.kids.take j).map (·.2)).Sublist (kidNos a) := by
  have h1 : kidNos a = kidNos (a.take (i + 1)) ++ kidNos (a.drop (i + 1)) := by rw [← kidNos_append, List.take_append_drop]
  have h2 : keyNos N.keys = keyNos (N.keys.take (k + 1)) ++ keyNos (N.keys.drop (k + 1)) := by rw [← keyNos_append, List.take_append_drop]
  have h3 : K.kids.map (·.2) = (K.kids.take j).map (·.2) ++ (K.kids.drop j).map (·.2) := by rw [← List.map_append, List.take_append_drop]
  rw [h1, kidNos_next hN, h2, keyNos_next hK, h3]
  simp only [List.append_assoc]
  exact List.Sublist.append (List.Sublist.refl _) (List.Sublist.append (List.Sublist.refl _) (List.sublist_append_left _ _))
theorem count_few {a : List Node} {done : List Nat} (ho : Once 0 a) (h : done.Sublist (kidNos a)) (n : Nat) : done.count n ≤ 1 := by
  have h1 := h.count_le n
  rw [ho n] at h1
  unfold one at h1
  split at h1 <;> omega
def counts (L : Nat) (done : List Nat) : List Value := (List.range L).map fun n => .int .i64 ((done.count n : Nat) : Int)
theorem counts_len (L : Nat) (done : List Nat) : (counts L done).length = L := by simp [counts]
theorem counts_at {L : Nat} {done : List Nat} {n : Nat} (h : n < L) : (counts L done)[n]? = some (.int .i64 ((done.count n : Nat) : Int)) := by
  unfold counts
  rw [List.getElem?_map, List.getElem?_range h]; rfl
theorem counts_next {L : Nat} {done : List Nat} {n : Nat} (_h : n < L) : (counts L done).set n (.int .i64 ((done.count n + 1 : Nat) : Int)) = counts L (done ++ [n]) := by
  refine List.ext_getElem? (fun q => ?_)
  rw [List.getElem?_set, counts_len]
  by_cases hq : q < L
  · rw [counts_at hq, counts_at hq]
    by_cases e : n = q
    · subst e
      rw [if_pos rfl, if_pos hq, List.count_append]
      simp
    · rw [if_neg e, List.count_append]
      have : [n].count q = 0 := by rw [List.count_singleton]; simp [e]
      rw [this, Nat.add_zero]
  · rw [List.getElem?_eq_none (by rw [counts_len]; omega), List.getElem?_eq_none (by rw [counts_len]; omega)]
    split
    · exfalso; omega
    · rfl
end Go.Proofs.YtlhinefalkfjaaaGreatDoor.Cm

namespace Go.Proofs.YtlhinefalkfjaaaGreatDoor
open Go.RowKit Js Pt

def LPtr11 (P : Cm.Names) (w : World) (e : Ending) (w' : World) : Prop :=
  Below w.heap.size w w' ∧ ∃ (A : Option Addr) (cp : Nat),
    ((text P).length ≤ 500 ∧ e = .returned (.tuple #[.slice A P.length cp, .int .i64 1]) ∧ Strs w'.cell? A P ∧ P.length ≤ cp ∧ cp ≤ maxLen) ∨ (¬ (text P).length ≤ 500 ∧ e = .returned (.tuple #[.slice none 0 0, .int .i64 0]))
set_option linter.unusedSimpArgs false in
set_option linter.unusedVariables false in
set_option maxRecDepth 100000 in
set_option maxHeartbeats 1000000 in
theorem lawPointer11_any (P : Cm.Names) (w : World) (hP : ∀ n ∈ P, St.text n = true) (ht : (text P).length ≤ 1000000000000000000) : Calls Tryz.prog 12 #[.string ⟨(text P).toArray⟩] w (LPtr11 P w) := by
  have HTX := Lib.hid (text_any ⟨(text P).toArray⟩ w (by rw [Lib.size_mk]; exact ht))
  have htx : (⟨(text P).toArray⟩ : ByteArray).data.toList = text P := rfl
  rw [htx, Cm.text_text hP] at HTX
  have HPT := Lib.hid (parse_text P)
  clear htx
  go_enter Tryz.func12, Tryz.ntmps12
  go_wp2_with fail
  refine HTX.out.mono ?_
  rintro e w1 ⟨rfl, hw⟩
  subst hw
  clear HTX
  by_cases g1 : 500 < (text P).length
  · have g1' : (500 : Int) < ((text P).length : Int) := by omega
    go_wp2_with fail
    go_ret2
    exact ⟨Below.refl _ _, none, 0, .inr ⟨by omega, rfl⟩⟩
  have g1' : ¬ (500 : Int) < ((text P).length : Int) := by omega
  have HP := Lib.hid (refPointer_any (text P) w (by omega))
  go_wp2_with fail
  refine HP.out.mono ?_
  rintro e2 w2 ⟨hb, ⟨l, A, cp, hp, rfl, ho⟩ | ⟨p, hp, rfl⟩⟩
  · obtain ⟨o1, o2, o3, o4⟩ := own_names ho
    obtain rfl : P = l := by have := HPT.out; rw [hp] at this; injection this with this; exact this.symm
    have HF := Lib.hid (show LPtr11 P w (.returned (.tuple #[.slice A P.length cp, .int .i64 1])) w2 from ⟨hb, A, cp, .inl ⟨by omega, rfl, o1, o2, o3⟩⟩)
    clear ho o1 o2 o3 o4 hb
    go_wp2_with fail
    go_ret2
    exact HF.out
  · exact absurd (HPT.out.symm.trans hp) (by simp)

theorem infoInt : ∃ i, Tryz.prog.info? 3 = some i ∧ i.zero = some (.int .i64 0) ∧ i.size = 1 ∧ i.bytes = 8 := info_of10 (by kernel_rfl)
theorem madeInts (L : Nat) : madeCells #[.int .i64 0] (L * 1) = (Cm.counts L []).toArray := by
  rw [Nat.mul_one]
  refine Array.ext (by rw [size_madeCells]; simp [Cm.counts]) (fun i h1 h2 => ?_)
  simp [madeCells, Cm.counts, Nat.mod_one]

structure Pth (w2 : World) (gq : Nat) (L : Nat) (done : List Nat) (W : World) : Prop where
  below : Below w2.heap.size w2 W
  cnt : Blk W gq 3 (Cm.counts L done).toArray
  new : w2.heap.size ≤ gq
theorem Pth.on {w2 : World} {gq L : Nat} {done : List Nat} {W W' : World} (h : Pth w2 gq L done W) (hb : Below W.heap.size W W') : Pth w2 gq L done W' := ⟨h.below.trans (hb.mono h.below.size), h.cnt.on hb, h.new⟩
theorem Pth.count {w2 : World} {gq L : Nat} {done : List Nat} {W : World} (h : Pth w2 gq L done W) {n : Nat} (hn : n < L) : W.cell? ⟨gq, n, none⟩ = some (.int .i64 ((done.count n : Nat) : Int)) ∧ Pth w2 gq L (done ++ [n]) (W.setCell ⟨gq, n, none⟩ (.int .i64 ((done.count n + 1 : Nat) : Int))) := by
  refine ⟨?_, h.below.setCell (p := ⟨gq, n, none⟩) h.new _, ?_, h.new⟩
  · rw [h.cnt.cell, List.getElem?_toArray]; exact Cm.counts_at hn
  · have := Blk.setL h.cnt n (.int .i64 ((done.count n + 1 : Nat) : Int))
    rw [Cm.counts_next hn] at this
    exact this

set_option linter.unusedVariables false in
set_option linter.unusedSimpArgs false in
set_option maxRecDepth 100000 in
set_option maxHeartbeats 4000000 in
theorem schemaPaths_any {G : World → Prop} (hG : Stays G) (hC : CompileT G) (s : ByteArray) (w : World) (hg : G w) (hs : s.size ≤ 1000000000000000000) :
    Calls Tryz.prog 4 #[.string s] w fun e w' => e = .returned (.bool true) ∧ Below w.heap.size w w' := by
  have HU := Lib.hid (up11_any hG hC w hg)
  have HG := Lib.hid (fun (W : World) (h : Below w.heap.size w W) => hG _ _ hg h)
  have HC := Lib.hid hC
  clear hG hC hg
  go_enter Tryz.func4, Tryz.ntmps4
  go_wp2_with fail
  refine HU.out.mono ?_
  rintro e w0 ⟨rfl, hb0⟩
  have HB0 := Lib.hid hb0
  have HV := Lib.hid (value_told s hs w0)
  clear hb0 HU
  go_wp2_with fail
  refine HV.out.mono ?_
  rintro e1 w1 ⟨v, x, c, rfl, hx, hb1, hc⟩
  obtain ⟨k_1, k_2, k_3, k_4, k_5, k_6, k_7, k_8, k_9, k_a, k_b, k_c, rfl⟩ := In.cells hx
  have hba := hb1.alloc hb1.size (.cells #[.int .i64 k_1, .bool k_2, .bool k_3, .string ⟨k_4.toArray⟩, .int .i64 k_5, .string ⟨k_6.toArray⟩, .slice k_7 k_8 k_9, .slice k_a k_b k_c] 28)
  have HB := Lib.hid (HB0.out.trans (hba.mono HB0.out.size))
  have HX := Lib.hid (In.keep (le_alloc w1 (.cells #[.int .i64 k_1, .bool k_2, .bool k_3, .string ⟨k_4.toArray⟩, .int .i64 k_5, .string ⟨k_6.toArray⟩, .slice k_7 k_8 k_9, .slice k_a k_b k_c] 28)) _ _ hx)
  have HK := Lib.hid (Blk.new w1 28 #[.int .i64 k_1, .bool k_2, .bool k_3, .string ⟨k_4.toArray⟩, .int .i64 k_5, .string ⟨k_6.toArray⟩, .slice k_7 k_8 k_9, .slice k_a k_b k_c])
  clear hx hb1 hba HV HB0
  go_upto_region 3 with (fail)
  generalize w1.alloc (.cells #[.int .i64 k_1, .bool k_2, .bool k_3, .string ⟨k_4.toArray⟩, .int .i64 k_5, .string ⟨k_6.toArray⟩, .slice k_7 k_8 k_9, .slice k_a k_b k_c] 28) = wa at *
  generalize w1.heap.size = g1 at *
  rcases hc with rfl | ⟨rfl, hf⟩
  · go_wp2_with fail
    go_ret
    exact ⟨rfl, HB.out⟩
  have HW := Lib.hid (show Wide v from ⟨hf.1, by have := hf.2.1; omega, slim_mono (by omega) v hf.2.2.2.2⟩)
  have HPC := Lib.hid (HC.out v _ wa (HG.out _ HB.out) HW.out HX.out)
  obtain ⟨r, hr⟩ : ∃ r, Cm.compile v = r := ⟨_, rfl⟩
  rw [hr] at HPC
  have HR := Lib.hid hr
  obtain ⟨a0, a1, a2, a3, a4, a5, a6, a7⟩ := HK.out.eight
  have hkl := HK.out.lt
  clear HC hr hf
  go_wp2_with fail
  refine HPC.out.mono ?_
  rintro e2 w2 ⟨A1, cp1, ev, rfl, hs1, hl1, hm1, he, hok, hb2⟩
  have HS1 := Lib.hid hs1
  have HB2 := Lib.hid (HB.out.trans (hb2.mono HB.out.size))
  have HK2 := Lib.hid (HK.out.on hb2)
  have HX2 := Lib.hid (In.keep (le_below hb2) _ _ HX.out)
  clear hs1 hb2 a0 a1 a2 a3 a4 a5 a6 a7 hkl HK HPC HX HB HG
  rcases he with ⟨rfl, _, _⟩ | ⟨h0, b, rfl, _⟩
  rotate_left
  · have hL : (Cm.outL r) = [] := by
      cases r with
      | ok a => exact absurd rfl h0
      | bad c p => rfl
    rw [hL]
    unfold spellV
    go_wp2_with fail
    go_ret
    exact ⟨rfl, HB2.out⟩
  obtain ⟨a, rfl⟩ := hok rfl
  have HST := Lib.hid (Cm.compile_stand HW.out.1 HW.out.2.1 HR.out)
  have HS1' := Lib.hid (show SlN w2.cell? A1 a from HS1.out)
  rw [show Cm.outL (.ok a) = a from rfl]
  change a.length ≤ cp1 at hl1
  unfold maxLen at hm1
  clear hok HS1 HR
  have ha200 := HST.out.2.2.2.1
  have ha0 := HST.out.2.2.1
  obtain ⟨i0, hi0, hz0, hz1, hz2⟩ := infoInt
  have hmk : ∀ W : World, (Instr.makeSlice 44 (.int .i64 (a.length : Int)) (.int .i64 (a.length : Int))).run Tryz.prog W = .ok (.slice (some ⟨W.heap.size, 0, none⟩) a.length a.length) (W.alloc (.cells (Cm.counts a.length []).toArray 3)) := fun W => by
    have := run_make (P := Tryz.prog) W 44 3 i0 (.int .i64 0) Tryz.underlying44 hi0 hz0 .i64 .i64 a.length a.length (by omega) (Int.le_refl _) (by rw [hz2]; omega) (by omega)
    rw [hz1] at this
    simp only [Int.toNat_natCast] at this
    rw [show (Value.int IntKind.i64 0).cells = #[.int .i64 0] from rfl, madeInts] at this
    exact this
  have HP0 := Lib.hid (show Pth w2 w2.heap.size a.length [] (w2.alloc (.cells (Cm.counts a.length []).toArray 3)) from ⟨(Below.refl _ _).alloc (Nat.le_refl _) _, Blk.new w2 _ _, Nat.le_refl _⟩)
  go_upto_region 9 with (fail)
  generalize w2.alloc (.cells (Cm.counts a.length []).toArray 3) = w3 at *
  obtain ⟨gq, hgq⟩ : ∃ gq, w2.heap.size = gq := ⟨_, rfl⟩
  have HP1 := Lib.hid (show Pth w2 gq a.length [] w3 by rw [← hgq]; exact HP0.out)
  rw [hgq]
  clear HP0 hmk hi0 hz0 hz1 hz2 hgq
  go_wp2_with fail
  go_loopw [9] (fun i wr => ∃ i' : Nat, i' ≤ a.length ∧ i = .int .i64 i' ∧ Pth w2 gq a.length (Cm.kidNos (a.take i')) wr) (fun i _ => a.length - (intOf i).toNat)
  case atStart => exact ⟨0, by omega, rfl, HP1.out⟩
  case round =>
    obtain ⟨i, hi, rfl, hP⟩ := hrel
    have HP := Lib.hid hP
    clear hP HP1
    by_cases hlt : i < a.length
    · obtain ⟨g, o, cs, rfl, hit, hcs⟩ := HS1'.out i _ (List.getElem?_eq_getElem hlt)
      obtain ⟨A2, c2, rfl, hk2, hl2, hm2⟩ := hit
      have HC0 := Lib.hid (hcs 0 _ rfl)
      have HC1 := Lib.hid (hcs 1 _ rfl)
      have HC2 := Lib.hid (hcs 2 _ rfl)
      have HC3 := Lib.hid (hcs 3 _ rfl)
      have HKY := Lib.hid hk2
      have HNI := Lib.hid (show a[i]? = some a[i] from List.getElem?_eq_getElem hlt)
      obtain ⟨xn, hgx, hof⟩ := HST.out.1 _ (List.getElem_mem hlt)
      have HGX := Lib.hid hgx
      have HNT := Lib.hid (Cm.get_text _ _ _ HW.out.1 hgx)
      obtain ⟨xk, xb, xn', xs, xl, xm⟩ := xn
      have HOF := Lib.hid hof
      have hii : (i : Int) < (a.length : Int) := by omega
      have HND := Lib.hid (show ∀ q (hq : q < i), ¬ text (a[q]'(by omega)).at_ = text a[i].at_ from fun q hq e => by
        have h1 := List.pairwise_iff_getElem.1 HST.out.2.1 q i (by simpa using (by omega : q < a.length)) (by simpa using hlt) hq
        simp only [List.getElem_map] at h1
        exact h1 (Cm.text_inj11 e))
      have hsm := Cm.get_small (N := 1000000) (by omega) _ _ _ HW.out.2.2 hgx
      have HSM := Lib.hid hsm
      have HTL := Lib.hid (show (text a[i].at_).length ≤ 1000000000000000000 by
        have h1 := text_len 1000000 _ hsm.2.1
        have h2 := hsm.1
        have h3 := HW.out.2.1
        have h4 : a[i].at_.length * (2 * 1000000 + 1) ≤ 1000000 * (2 * 1000000 + 1) := Nat.mul_le_mul_right _ (by omega)
        omega)
      clear hcs hk2 hgx hof hsm
      generalize hN : a[i]'hlt = N at *
      obtain ⟨P, nall, npass, keys⟩ := N
      simp only at hl2 HC0 HC1 HC2 HC3 HKY HGX HNT HOF HND HTL HSM HNI
      unfold maxLen at hm2
      obtain ⟨wq, hwq⟩ : ∃ W, W = wr := ⟨_, rfl⟩
      subst hwq
      go_wp2_with fail
      go_loopw [10] (fun q2 wr => ∃ q : Nat, q ≤ i ∧ q2 = .int .i64 q ∧ Pth w2 gq a.length (Cm.kidNos (a.take i)) wr) (fun q2 _ => i - (intOf q2).toNat)
      case atStart => exact ⟨0, by omega, rfl, HP.out⟩
      case round =>
        obtain ⟨q, hq, rfl, hP2⟩ := hrel
        have HP2 := Lib.hid hP2
        clear hP2
        have c0 := (le_below HP2.out.below) _ _ HC0.out
        by_cases hqi : q < i
        · obtain ⟨g', o', cs', hA', hit', hcs'⟩ := HS1'.out q _ (List.getElem?_eq_getElem (show q < a.length by omega))
          injection hA' with hA'
          injection hA' with e1 e2 _
          subst e1 e2
          obtain ⟨A3, c3, rfl, _, _, _⟩ := hit'
          have d0 := (le_below HP2.out.below) _ _ (hcs' 0 _ rfl)
          have hne : (text (a[q]'(by omega)).at_ == text P) = false := by rw [beq_eq_false_iff_ne]; exact HND.out q hqi
          have hq1 : (q : Int) < (i : Int) := by omega
          have hq2 : (q : Int) < (a.length : Int) := by omega
          have hgl := World.block_lt_of_cell? _ _ c0
          simp only [Nat.add_zero] at c0 d0
          clear hcs'
          generalize text (a[q]'(by omega)).at_ = tq at *
          go_upto_region 15 with (fail)
          go_quiet (fail)
          go_wp2_with fail
          go_roundw
          case rel => exact ⟨q + 1, by omega, by go_num, HP2.out.on (below_drewN (Below.refl _ _) _)⟩
          case measure => simp [intOf]; omega
        · obtain rfl : q = i := by omega
          have HPT := Lib.hid (lawPointer11_any P wr HNT.out HTL.out)
          have hgl := World.block_lt_of_cell? _ _ c0
          simp only [Nat.add_zero] at c0
          go_wp2_with fail
          refine HPT.out.mono ?_
          intro e4 w4 h4
          obtain ⟨ns, A5, cp5, cc, u, rfl, hst5, hl5, hm5, hgu, hu5, hb4⟩ : ∃ (ns : Cm.Names) (A5 : Option Addr) (cp5 : Nat) (cc : Int) (u : Vl), e4 = .returned (.tuple #[.slice A5 ns.length cp5, .int .i64 cc]) ∧ Strs w4.cell? A5 ns ∧ ns.length ≤ cp5 ∧ cp5 ≤ maxLen ∧ get v ns = some u ∧ (((text P).length ≤ 500 ∧ cc = 1 ∧ Cm.Of ⟨P, nall, npass, keys⟩ u ∧ ns = P) ∨ (¬ (text P).length ≤ 500 ∧ ns = [])) ∧ Below wr.heap.size wr w4 := by
            obtain ⟨hb4, A5, cp5, ⟨q1, q2, q3, q4, q5⟩ | ⟨q1, q2⟩⟩ := h4
            · exact ⟨P, A5, cp5, 1, _, q2, q3, q4, q5, HGX.out, .inl ⟨q1, rfl, HOF.out, rfl⟩, hb4⟩
            · exact ⟨[], none, 0, 0, v, q2, fun i n h => by simp at h, Nat.le_refl _, by unfold maxLen; omega, rfl, .inr ⟨q1, rfl⟩, hb4⟩
          have HU5 := Lib.hid (show ((text P).length ≤ 500 ∧ cc = 1 ∧ Cm.Of ⟨P, nall, npass, keys⟩ u) ∨ ¬ (text P).length ≤ 500 from hu5.imp (fun h => ⟨h.1, h.2.1, h.2.2.1⟩) (fun h => h.1))
          have HP4 := Lib.hid (HP2.out.on hb4)
          have HGT := Lib.hid (refGet_any ns w2.cell? v _ A5 cp5 w4 (le_below HP4.out.below) HX2.out hst5 hl5 hm5 (by
            rcases hu5 with ⟨_, _, _, rfl⟩ | ⟨_, rfl⟩
            · exact HSM.out.2.1
            · intro n hn; cases hn) HW.out.2.1)
          rw [hgu] at HGT
          have HK4 := Lib.hid (HK2.out.on HP4.out.below)
          clear h4 hst5 hl5 hm5 hgu hu5 hb4 HPT c0 hgl
          obtain ⟨a0, a1, a2, a3, a4, a5, a6, a7⟩ := HK4.out.eight
          have hkl := HK4.out.lt
          go_wp2_with fail
          refine HGT.out.mono ?_
          rintro e5 w5 ⟨hb5, ⟨u', y5, hu', rfl, hy5⟩ | ⟨hn, _⟩⟩
          rotate_left
          · cases hn
          injection hu' with hu'
          subst hu'
          obtain ⟨uk, ub, un, us, ul, um⟩ := u
          obtain ⟨B6, e6, C6, d6, rfl, _, _, _, _, _, _⟩ := In.form hy5
          have hb6 := (Below.refl w5.heap.size w5).alloc (Nat.le_refl _) (.cells #[.int .i64 uk, .bool ub, .bool un.neg, .string ⟨un.digits.toArray⟩, .int .i64 un.exp, .string ⟨us.toArray⟩, .slice B6 ul.length e6, .slice C6 um.length d6] 28)
          have HP6 := Lib.hid ((HP4.out.on hb5).on hb6)
          have HB6 := Lib.hid (Blk.new w5 28 #[.int .i64 uk, .bool ub, .bool un.neg, .string ⟨un.digits.toArray⟩, .int .i64 un.exp, .string ⟨us.toArray⟩, .slice B6 ul.length e6, .slice C6 um.length d6])
          clear hb5 hb6 hy5 HGT HK4 HP4 HP2 a0 a1 a2 a3 a4 a5 a6 a7 hkl
          go_upto_region 19 with (fail)
          generalize w5.alloc (.cells #[.int .i64 uk, .bool ub, .bool un.neg, .string ⟨un.digits.toArray⟩, .int .i64 un.exp, .string ⟨us.toArray⟩, .slice B6 ul.length e6, .slice C6 um.length d6] 28) = w6 at *
          generalize w5.heap.size = g6 at *
          go_cut [128] from 81 to 127 (fun v128 wc => v128 = .bool false ∧ Below w6.heap.size w6 wc)
          case first =>
            have c0 := (le_below HP6.out.below) _ _ HC0.out
            have c1 := (le_below HP6.out.below) _ _ HC1.out
            have c2' := (le_below HP6.out.below) _ _ HC2.out
            have c3 := (le_below HP6.out.below) _ _ HC3.out
            have hgl := World.block_lt_of_cell? _ _ c0
            simp only [Nat.add_zero] at c0
            obtain ⟨b0, b1, b2, b3, b4, b5, b6, b7⟩ := HB6.out.eight
            have hbl := HB6.out.lt
            rcases HU5.out with ⟨h5, hc1, hof2⟩ | h5
            · have hcc0 : (cc == 0) = false := by rw [hc1]; rfl
              obtain ⟨rfl, rfl, hkm⟩ := hof2
              have d5 : decide (((text P).length : Int) ≤ 500) = true := decide_eq_true (by omega)
              have d5' : decide ((text P).length ≤ 500) = true := decide_eq_true h5
              obtain ⟨nb, hnb⟩ : ∃ nb, decide (uk = 1) = nb := ⟨_, rfl⟩
              have hnb2 : (uk == 1) = nb := by rw [← hnb]; rfl
              have hnn : (nb != nb) = false := by cases nb <;> rfl
              have hpp : (npass != npass) = false := by cases npass <;> rfl
              have hkk : ((keys.length : Int) != (um.length : Int)) = false := by rw [show keys.length = um.length from hkm]; simp
              rw [hnb] at c1
              clear hnb hkm h5 hc1
              go_quiet (fail)
              go_wp2_with fail
              go_meet
              case rel => exact ⟨rfl, below_drewN (Below.refl _ _) _⟩
            · have d5 : decide (((text P).length : Int) ≤ 500) = false := decide_eq_false (by omega)
              have d5' : decide ((text P).length ≤ 500) = false := decide_eq_false h5
              clear h5
              go_quiet (fail)
              go_wp2_with fail
              go_meet
              case rel => exact ⟨rfl, below_drewN (Below.refl _ _) _⟩
          case rest =>
            obtain ⟨rfl, hbc⟩ := hcut
            have HP7 := Lib.hid (HP6.out.on hbc)
            clear hbc HP6 HB6 HU5
            have HN2 := Lib.hid (show Pth w2 gq a.length (Cm.kidNos (a.take q) ++ Cm.keyNos (keys.take 0)) wc by rw [List.take_zero]; show Pth w2 gq a.length (_ ++ []) wc; rw [List.append_nil]; exact HP7.out)
            go_wp2_with fail
            go_loopw [15] (fun k3 wr => ∃ kq : Nat, kq ≤ keys.length ∧ k3 = .int .i64 kq ∧ Pth w2 gq a.length (Cm.kidNos (a.take q) ++ Cm.keyNos (keys.take kq)) wr) (fun k3 _ => keys.length - (intOf k3).toNat)
            case atStart => exact ⟨0, by omega, rfl, HN2.out⟩
            case round =>
              obtain ⟨kq, hkq, rfl, hP3⟩ := hrel
              have HP3 := Lib.hid hP3
              clear hP3 HN2 HP7
              have c3 := (le_below HP3.out.below) _ _ HC3.out
              have hgl := World.block_lt_of_cell? _ _ c3
              by_cases hkl : kq < keys.length
              · obtain ⟨g3, o3, cs3, rfl, hi3, hc3⟩ := HKY.out kq _ (List.getElem?_eq_getElem hkl)
                obtain ⟨j_1, j_2, j_3, j_4, j_5, j_6, j_7, j_8, j_9, j_a, j_b, j_c, A4, c4, rfl, _, hk4, hl4, hm4⟩ := hi3.cells
                have HE9 := Lib.hid (hc3 9 _ rfl)
                have HL4 := Lib.hid hk4
                have HKI := Lib.hid (show keys[kq]? = some keys[kq] from List.getElem?_eq_getElem hkl)
                have hkqi : (kq : Int) < (keys.length : Int) := by omega
                have HAB := Lib.hid (HST.out.2.2.2.2.2 q _ HNI.out _ (List.getElem_mem hkl))
                clear hi3 hc3 hk4
                generalize keys[kq]'hkl = K at *
                obtain ⟨nm, kv, kids⟩ := K
                simp only at hl4 HE9 HL4 HAB HKI
                unfold maxLen at hm4
                have HN3 := Lib.hid (show Pth w2 gq a.length (Cm.kidNos (a.take q) ++ Cm.keyNos (keys.take kq) ++ (kids.take 0).map (·.2)) wr by rw [List.take_zero]; show Pth w2 gq a.length (_ ++ []) wr; rw [List.append_nil]; exact HP3.out)
                go_wp2_with fail
                go_loopw [16] (fun j4 wr => ∃ jq : Nat, jq ≤ kids.length ∧ j4 = .int .i64 jq ∧ Pth w2 gq a.length (Cm.kidNos (a.take q) ++ Cm.keyNos (keys.take kq) ++ (kids.take jq).map (·.2)) wr) (fun j4 _ => kids.length - (intOf j4).toNat)
                case atStart => exact ⟨0, by omega, rfl, HN3.out⟩
                case round =>
                  obtain ⟨jq, hjq, rfl, hP5⟩ := hrel
                  have HP5 := Lib.hid hP5
                  clear hP5 HN3 HP3 c3 hgl
                  have c3 := (le_below HP5.out.below) _ _ HC3.out
                  have hgl := World.block_lt_of_cell? _ _ c3
                  have e9 := (le_below HP5.out.below) _ _ HE9.out
                  have hgl3 := World.block_lt_of_cell? _ _ e9
                  by_cases hjl : jq < kids.length
                  · obtain ⟨g5, o5, rfl, h50, h51⟩ := HL4.out jq _ (List.getElem?_eq_getElem hjl)
                    have s1 := (le_below HP5.out.below) _ _ h51
                    have hab := HAB.out _ (List.getElem_mem hjl)
                    have HTK := Lib.hid (show (kids.take (jq + 1)).map (·.2) = (kids.take jq).map (·.2) ++ [(kids[jq]).2] by rw [List.take_succ_eq_append_getElem hjl, List.map_append]; rfl)
                    clear h50 h51
                    generalize (kids[jq]'hjl).2 = kn at *
                    have hjqi : (jq : Int) < (kids.length : Int) := by omega
                    have hgl5 := World.block_lt_of_cell? _ _ s1
                    rw [Nat.zero_add, Nat.zero_add] at hab
                    obtain ⟨hk1, hk2⟩ := hab
                    have hd1 : decide ((kn : Int) ≤ (q : Int)) = false := decide_eq_false (by omega)
                    have hd2 : decide ((a.length : Int) ≤ (kn : Int)) = false := decide_eq_false (by omega)
                    have hd3 : (kn : Int) < (a.length : Int) := by omega
                    obtain ⟨hcc, hnx⟩ := HP5.out.count hk2
                    have HNX := Lib.hid hnx
                    have hcn := Cm.count_few HST.out.2.2.2.2.1 (Cm.done_sub (j := jq) HNI.out HKI.out) kn
                    have hfz := HP5.out.cnt.frozen kn
                    have hgql := HP5.out.cnt.lt
                    clear hnx
                    simp only at hcn
                    generalize hct : List.count kn (Cm.kidNos (a.take q) ++ Cm.keyNos (keys.take kq) ++ (kids.take jq).map (·.2)) = ct at *
                    go_wp2_with fail
                    go_roundw
                    case rel => exact ⟨jq + 1, by omega, by go_num, by rw [HTK.out, ← List.append_assoc]; exact HNX.out⟩
                    case measure => simp [intOf]; omega
                  · obtain rfl : jq = kids.length := by omega
                    have HF := Lib.hid (show Pth w2 gq a.length (Cm.kidNos (a.take q) ++ Cm.keyNos (keys.take (kq + 1))) wr by
                      rw [Cm.keyNos_next HKI.out, ← List.append_assoc]
                      have := HP5.out
                      rw [List.take_length] at this
                      exact this)
                    go_wp2_with fail
                    go_roundw
                    case rel => exact ⟨kq + 1, by omega, by go_num, HF.out⟩
                    case measure => simp [intOf]; omega
              · obtain rfl : kq = keys.length := by omega
                have HF := Lib.hid (show Pth w2 gq a.length (Cm.kidNos (a.take (q + 1))) wr by
                  rw [Cm.kidNos_next HNI.out]
                  have := HP3.out
                  rw [List.take_length] at this
                  exact this)
                go_wp2_with fail
                go_roundw
                case rel => exact ⟨q + 1, by omega, by go_num, HF.out⟩
                case measure => simp [intOf]; omega
    · obtain rfl : i = a.length := by omega
      rw [List.take_length] at HP
      have HON := Lib.hid HST.out.2.2.2.2.1
      go_wp2_with fail
      go_loopw [18] (fun q5 wr => ∃ q : Nat, 1 ≤ q ∧ q ≤ a.length ∧ q5 = .int .i64 q ∧ Pth w2 gq a.length (Cm.kidNos a) wr) (fun q5 _ => a.length - (intOf q5).toNat)
      case atStart => exact ⟨1, by omega, by omega, rfl, HP.out⟩
      case round =>
        obtain ⟨q, hq1, hq, rfl, hP5⟩ := hrel
        have HP5 := Lib.hid hP5
        clear hP5
        by_cases hql : q < a.length
        · obtain ⟨hcc, _⟩ := HP5.out.count hql
          have hct : (Cm.kidNos a).count q = 1 := by
            rw [HON.out q]
            unfold Cm.one
            rw [if_pos (by omega)]
          rw [hct] at hcc
          have hqi : (q : Int) < (a.length : Int) := by omega
          have hgql := HP5.out.cnt.lt
          clear hct
          go_wp2_with fail
          go_roundw
          case rel => exact ⟨q + 1, by omega, by omega, by go_num, HP5.out⟩
          case measure => simp [intOf]; omega
        · obtain rfl : q = a.length := by omega
          have hdl : decide ((0 : Int) < (a.length : Int)) = true := decide_eq_true (by omega)
          have hdl' : decide (0 < a.length) = true := decide_eq_true (by omega)
          go_wp2_with fail
          go_ret
          exact ⟨rfl, HB2.out.trans (HP5.out.below.mono HB2.out.size)⟩

end Go.Proofs.YtlhinefalkfjaaaGreatDoor


