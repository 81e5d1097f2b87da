/- The walks of layer 2, tenth part: StrBack at a text. -/
import Derived.Test.YtfconmjgedaifaaDoorMn
namespace Go.Proofs.YtfconmjgedaifaaDoor
open Go.RowKit

set_option linter.unusedSimpArgs false in
set_option maxRecDepth 100000 in
set_option maxHeartbeats 4000000 in
theorem strBack_text (a s b : List UInt8) (cut : Int) (c : List UInt8) (w : World) (hT : Tabs w) (h1 : a.length ≤ 300) (h2 : s.length ≤ 300) (h3 : b.length ≤ 300) (h4 : c.length ≤ 300) (ht : St.text s = true) :
    Calls Tryd.prog 6 #[.string ⟨a.toArray⟩, .string ⟨s.toArray⟩, .string ⟨b.toArray⟩, .int .i64 cut, .string ⟨c.toArray⟩] w fun e w' => e = .returned (.bool true) ∧ Below w.heap.size w w' := by
  have HT := Lib.hid hT
  have HTX := Lib.hid (St.text_txt ht)
  have HX := Lib.hid ht
  clear hT ht
  have hqls := qb_len s
  have hqqs := St.quote_length s
  have hql0 : (St.quote s).length ≤ 1802 := by omega
  have hql2 : 2 ≤ (St.quote s).length := by omega
  clear hqls hqqs
  have HU := Lib.hid (St.unq_quote a s b HTX.out)
  have HCUT := Lib.hid (St.unq_cut s HTX.out)
  go_enter Tryd.func6, Tryd.ntmps6
  go_wp2_with fail
  refine (up2_any _ HT.out).mono ?_
  rintro e w0 ⟨rfl, hb0⟩
  go_wp2_with fail
  refine (text_any _ _ (by rw [Lib.size_mk]; omega)).mono ?_
  rw [show (⟨s.toArray⟩ : ByteArray).data.toList = s from rfl, HX.out]
  rintro e w' ⟨rfl, rfl⟩
  go_wp2_with fail
  refine (quote_any _ _ (by rw [Lib.size_mk]; omega)).mono ?_
  rw [show (⟨s.toArray⟩ : ByteArray).data.toList = s from rfl]
  rintro e w1 ⟨rfl, hb1⟩
  have hb01 := hb0.trans (hb1.mono hb0.size)
  clear hb0 hb1
  generalize hq : St.quote s = q at HU HCUT hql0 hql2 ⊢
  clear hq
  have hadd1 := fun W => cat_lists W a q (by omega)
  have hadd2 := fun W => cat_lists W (a ++ q) b (by rw [List.length_append]; omega)
  go_wp2_with fail
  refine (unquote_any _ _ _ (by rw [Lib.size_mk, List.length_append, List.length_append]; omega) (by omega) (by omega) (HT.out.on hb01)).mono ?_
  rw [show (⟨(a ++ (q ++ b)).toArray⟩ : ByteArray).data.toList = a ++ q ++ b from (List.append_assoc a q b).symm, HU.out]
  rintro e w2 (⟨_, rfl, hb2⟩ | ⟨h, _⟩)
  · have hb02 := hb01.trans (hb2.mono hb01.size)
    clear hb01 hb2
    have hpk0 := Int.emod_nonneg cut (show (q.length : Int) ≠ 0 by omega)
    have hpk1 := Int.emod_lt_of_pos cut (show 0 < (q.length : Int) by omega)
    go_wp2_with fail
    refine (pick_any _ _ _ (by omega) (by omega)).mono ?_
    rintro e w' ⟨rfl, rfl⟩
    generalize cut % (q.length : Int) = kk at hpk0 hpk1 ⊢
    obtain ⟨k, rfl⟩ := Int.eq_ofNat_of_zero_le hpk0
    have hkq : k < q.length := by omega
    go_wp2_with fail
    rw [Lib.extract_upto]
    refine (unquote_any _ _ _ (by rw [Lib.size_mk, List.length_take]; simp; omega) (by decide) (by decide) (HT.out.on hb02)).mono ?_
    rw [show (⟨((⟨q.toArray⟩ : ByteArray).data.toList.take k).toArray⟩ : ByteArray).data.toList = q.take k from rfl]
    have hnz := HCUT.out k hkq
    rintro e w3 (⟨hz, _⟩ | ⟨_, _, _, b3, rfl, hb31, hb32, hb33⟩)
    · exact absurd hz hnz
    · have hb03 := hb02.trans (hb33.mono hb02.size)
      clear hb02 hb33 hb32 hnz
      go_wp2_with fail
      refine (unquote_any _ _ _ (by rw [Lib.size_mk]; omega) (by decide) (by decide) (HT.out.on hb03)).mono ?_
      rw [show (⟨c.toArray⟩ : ByteArray).data.toList = c from rfl]
      have hlen := St.unq_len c 0
      have htx := St.unq_txt c 0
      generalize St.unq c 0 = r at hlen htx ⊢
      obtain ⟨x, n, k, p⟩ := r
      simp only at hlen htx
      rintro e w1 (⟨hk, rfl, hb1⟩ | ⟨hk, hx, hn, bb, rfl, hb1, hb2, hb3⟩)
      · have HQ := Lib.hid (St.unq_quote [] x [] (htx hk))
        have hb04 := hb03.trans (hb1.mono hb03.size)
        clear htx hk
        go_wp2_with fail
        refine (quote_any _ _ (by rw [Lib.size_mk]; omega)).mono ?_
        rw [show (⟨x.toArray⟩ : ByteArray).data.toList = x from rfl]
        rintro e w2 ⟨rfl, hb2⟩
        have hql := qb_len x
        have hqq := St.quote_length x
        have hqs : (St.quote x).length ≤ 1000000 := by omega
        have hb05 := hb04.trans (hb2.mono hb04.size)
        clear hqq hql
        go_wp2_with fail
        refine (unquote_any _ _ _ (by rw [Lib.size_mk]; exact hqs) (by decide) (by decide) (HT.out.on hb05)).mono ?_
        rw [show (⟨(St.quote x).toArray⟩ : ByteArray).data.toList = St.quote x from rfl]
        rw [show St.unq (St.quote x) 0 = ⟨x, (St.quote x).length, 0, 0⟩ from by have := HQ.out; simpa using this]
        rintro e w3 (⟨_, rfl, hb3⟩ | ⟨h, _⟩)
        · go_wp2
          go_ret
          exact ⟨by simp, hb05.trans (hb3.mono hb05.size)⟩
        · exfalso
          rcases h with h | h <;> cases h
      · go_wp2
        go_ret
        exact ⟨rfl, hb03.trans (hb3.mono hb03.size)⟩
  · exfalso
    rcases h with h | h <;> cases h

end Go.Proofs.YtfconmjgedaifaaDoor
