/- The walks of layer 2, ninth part: StrBack. -/
import Derived.Test.YtbcoakonjgakbaaDoorSm
namespace Go.Proofs.YtbcoakonjgakbaaDoor
open Go.RowKit

theorem cat_lists (W : World) (a b : List UInt8) (h : a.length + b.length ≤ 9223372036854775807) : (Op.stringOp .add ⟨a.toArray⟩ ⟨b.toArray⟩).run Tryd.prog W = .ok (.string ⟨(a ++ b).toArray⟩) W := by
  rw [run_string_add_sum W _ _ (by rw [Lib.size_mk, Lib.size_mk]; omega), ByteArray.mk_append_mk]

set_option maxRecDepth 100000 in
set_option maxHeartbeats 400000 in
theorem strBack_long (a s b : ByteArray) (cut : Int) (c : ByteArray) (w : World) (hT : Tabs w) (h1 : a.size ≤ 1000000000000000000) (h2 : s.size ≤ 1000000000000000000) (h3 : b.size ≤ 1000000000000000000) (h4 : c.size ≤ 1000000000000000000)
    (hl : 300 < a.size ∨ (a.size ≤ 300 ∧ 300 < s.size) ∨ (a.size ≤ 300 ∧ s.size ≤ 300 ∧ 300 < b.size) ∨ (a.size ≤ 300 ∧ s.size ≤ 300 ∧ b.size ≤ 300 ∧ 300 < c.size)) :
    Calls Tryd.prog 6 #[.string a, .string s, .string b, .int .i64 cut, .string c] w fun e w' => e = .returned (.bool true) ∧ Below w.heap.size w w' := by
  have HT := Lib.hid hT
  clear hT
  rcases hl with hl | ⟨hl, hl'⟩ | ⟨hl, hl', hl''⟩ | ⟨hl, hl', hl'', hl'''⟩
  all_goals
    go_enter Tryd.func6, Tryd.ntmps6
    go_wp2_with fail
    refine (up2_any _ HT.out).mono ?_
    rintro e w0 ⟨rfl, hb0⟩
    go_wp2_with fail
    refine (text_any _ _ h2).mono ?_
    rintro e w' ⟨rfl, rfl⟩
    go_wp2
    go_ret
    exact ⟨rfl, hb0⟩

/-- The last part: what is unquoted, quoted, is unquoted as it was. -/
theorem spot_ne (b : Nat) : spotV b = .iface 76 (.pointer (some ⟨b, 0, none⟩)) := rfl

set_option linter.unusedSimpArgs false in
set_option maxRecDepth 100000 in
set_option maxHeartbeats 2000000 in
theorem strBack_none (a s b : List UInt8) (cut : Int) (c : List UInt8) (w : World) (hT : Tabs w) (h1 : a.length ≤ 300) (h2 : s.length ≤ 300) (h3 : b.length ≤ 300) (h4 : c.length ≤ 300) (ht : St.text s = false) :
    Calls Tryd.prog 6 #[.string ⟨a.toArray⟩, .string ⟨s.toArray⟩, .string ⟨b.toArray⟩, .int .i64 cut, .string ⟨c.toArray⟩] w fun e w' => e = .returned (.bool true) ∧ Below w.heap.size w w' := by
  have HT := Lib.hid hT
  have HX := Lib.hid ht
  clear hT ht
  go_enter Tryd.func6, Tryd.ntmps6
  go_wp2_with fail
  refine (up2_any _ HT.out).mono ?_
  rintro e w0 ⟨rfl, hb0⟩
  go_wp2_with fail
  refine (text_any _ _ (by rw [Lib.size_mk]; omega)).mono ?_
  rw [show (⟨s.toArray⟩ : ByteArray).data.toList = s from rfl, HX.out]
  rintro e w' ⟨rfl, rfl⟩
  go_wp2_with fail
  refine (unquote_any _ _ _ (by rw [Lib.size_mk]; omega) (by decide) (by decide) (HT.out.on hb0)).mono ?_
  rw [show (⟨c.toArray⟩ : ByteArray).data.toList = c from rfl]
  have hlen := St.unq_len c 0
  have htx := St.unq_txt c 0
  generalize St.unq c 0 = r at hlen htx ⊢
  obtain ⟨x, n, k, p⟩ := r
  simp only at hlen htx
  rintro e w1 (⟨hk, rfl, hb1⟩ | ⟨hk, hx, hn, bb, rfl, hb1, hb2, hb3⟩)
  · have HQ := Lib.hid (St.unq_quote [] x [] (htx hk))
    have hb01 := hb0.trans (hb1.mono hb0.size)
    clear htx hk
    go_wp2_with fail
    refine (quote_any _ _ (by rw [Lib.size_mk]; omega)).mono ?_
    rw [show (⟨x.toArray⟩ : ByteArray).data.toList = x from rfl]
    rintro e w2 ⟨rfl, hb2⟩
    have hql := qb_len x
    have hqq := St.quote_length x
    have hqs : (St.quote x).length ≤ 1000000 := by omega
    have hb02 := hb01.trans (hb2.mono hb01.size)
    clear hqq hql
    go_wp2_with fail
    refine (unquote_any _ _ _ (by rw [Lib.size_mk]; exact hqs) (by decide) (by decide) (HT.out.on hb02)).mono ?_
    rw [show (⟨(St.quote x).toArray⟩ : ByteArray).data.toList = St.quote x from rfl]
    rw [show St.unq (St.quote x) 0 = ⟨x, (St.quote x).length, 0, 0⟩ from by have := HQ.out; simpa using this]
    rintro e w3 (⟨_, rfl, hb3⟩ | ⟨h, _⟩)
    · go_wp2
      go_ret
      exact ⟨by simp, hb02.trans (hb3.mono hb02.size)⟩
    · exfalso
      rcases h with h | h <;> cases h
  · go_wp2
    go_ret
    exact ⟨rfl, hb0.trans (hb3.mono hb0.size)⟩

end Go.Proofs.YtbcoakonjgakbaaDoor
