/- The walks of layer 2, eleventh part: StrTells. -/
import Derived.Test.YtfconmjgedaifaaDoorMn
namespace Go.Proofs.YtfconmjgedaifaaDoor
open Go.RowKit

set_option maxRecDepth 100000 in
set_option maxHeartbeats 400000 in
theorem strTells_long (b : ByteArray) (a : Int) (s : ByteArray) (w : World) (hT : Tabs w) (h1 : b.size ≤ 1000000000000000000) (h2 : s.size ≤ 1000000000000000000)
    (hl : 1000 < b.size ∨ (b.size ≤ 1000 ∧ 1000 < s.size)) :
    Calls Tryd.prog 5 #[.string b, .int .i64 a, .string s] w fun e w' => e = .returned (.bool true) ∧ Below w.heap.size w w' := by
  have HT := Lib.hid hT
  clear hT
  rcases hl with hl | ⟨hl, hl'⟩
  all_goals
    go_enter Tryd.func5, Tryd.ntmps5
    go_wp2_with fail
    refine (up2_any _ HT.out).mono ?_
    rintro e w0 ⟨rfl, hb0⟩
    go_wp2
    go_ret
    exact ⟨rfl, hb0⟩

theorem St.unq_place (b : List UInt8) (a : Int) (h : (St.unq b a).code = 0) : (St.unq b a).place = 0 := by
  unfold St.unq at h ⊢
  split at h
  · rename_i hc
    rw [if_pos hc]
    cases hr : St.run (b.length + 1) (b.drop (a.toNat + 1)) [] (a.toNat + 1) with
    | bad k p => rw [hr] at h; have := St.run_code _ _ _ _ hr; simp only [St.Res.ans] at h; omega
    | ok o p => rfl
  · cases h

/-- A place that an error tells stays where it is. -/
theorem SpotAt.keep {w w' : World} {b : Nat} {a k : Int} (h : SpotAt w b a k) (hb : Below w.heap.size w w') : SpotAt w' b a k := by
  have hlt : b < w.heap.size := World.block_lt_of_cell? w _ h.1
  exact ⟨(hb.cell (p := ⟨b, 0, none⟩) hlt).trans h.1, (hb.cell (p := ⟨b, 1, none⟩) hlt).trans h.2⟩

set_option linter.unusedSimpArgs false in
set_option maxRecDepth 100000 in
set_option maxHeartbeats 4000000 in
theorem strTells_short (b : List UInt8) (a : Int) (s : List UInt8) (w : World) (hT : Tabs w) (h1 : b.length ≤ 1000) (h2 : s.length ≤ 1000) (ha0 : -9223372036854775808 ≤ a) (ha1 : a ≤ 9223372036854775807) :
    Calls Tryd.prog 5 #[.string ⟨b.toArray⟩, .int .i64 a, .string ⟨s.toArray⟩] w fun e w' => e = .returned (.bool true) ∧ Below w.heap.size w w' := by
  have HT := Lib.hid hT
  clear hT
  go_enter Tryd.func5, Tryd.ntmps5
  go_wp2_with fail
  refine (up2_any _ HT.out).mono ?_
  rintro e w0 ⟨rfl, hb0⟩
  go_wp2_with fail
  refine (unquote_any _ _ _ (by rw [Lib.size_mk]; omega) ha0 ha1 (HT.out.on hb0)).mono ?_
  rw [show (⟨b.toArray⟩ : ByteArray).data.toList = b from rfl]
  have HREF := Lib.hid (fun W => refUnquote_any ⟨b.toArray⟩ a W (by rw [Lib.size_mk]; omega) ha0 ha1)
  rw [show (⟨b.toArray⟩ : ByteArray).data.toList = b from rfl] at HREF
  have hpl := St.unq_place b a
  generalize St.unq b a = r at HREF hpl ⊢
  obtain ⟨x, n, k, p⟩ := r
  simp only at hpl
  rintro e w1 (⟨hk, rfl, hb1⟩ | ⟨hk, hx, hn, bb, rfl, hbb, hsp, hb1⟩)
  · simp only at hk
    subst hk
    obtain rfl := hpl rfl
    have hb01 := hb0.trans (hb1.mono hb0.size)
    clear hb0 hb1 hpl
    go_wp2_with fail
    refine (HREF.out _).mono ?_
    rintro e w2 ⟨rfl, hb2⟩
    have hb02 := hb01.trans (hb2.mono hb01.size)
    clear hb01 hb2
    go_wp2_with fail
    refine (spot_nil _).mono ?_
    rintro e w' ⟨rfl, rfl⟩
    have hb03 := hb02
    clear hb02
    go_wp2_with fail
    refine (text_any _ _ (by rw [Lib.size_mk]; omega)).mono ?_
    rw [show (⟨s.toArray⟩ : ByteArray).data.toList = s from rfl]
    rintro e w' ⟨rfl, rfl⟩
    cases St.text s with
    | false =>
      go_wp2_with fail
      go_ret
      exact ⟨by simp, hb03⟩
    | true =>
      go_wp2_with fail
      refine (quote_any _ _ (by rw [Lib.size_mk]; omega)).mono ?_
      rw [show (⟨s.toArray⟩ : ByteArray).data.toList = s from rfl]
      rintro e w4 ⟨rfl, hb4⟩
      go_wp2_with fail
      refine (refQuote_any _ _ (by rw [Lib.size_mk]; omega)).mono ?_
      rw [show (⟨s.toArray⟩ : ByteArray).data.toList = s from rfl]
      rintro e w5 ⟨rfl, hb5⟩
      have hb04 := hb03.trans (hb4.mono hb03.size)
      go_wp2_with fail
      go_ret
      exact ⟨by simp, hb04.trans (hb5.mono hb04.size)⟩
  · simp only at hk hx hn
    subst hx hn
    have hb01 := hb0.trans (hb1.mono hb0.size)
    clear hb0 hb1 hpl hbb
    go_wp2_with fail
    refine (HREF.out _).mono ?_
    rintro e w2 ⟨rfl, hb2⟩
    have hsp2 := hsp.keep hb2
    have hb02 := hb01.trans (hb2.mono hb01.size)
    clear hb01 hb2
    go_wp2_with fail
    refine (spot_at _ _ _ _ hsp2).mono ?_
    rintro e w3 ⟨rfl, hb3⟩
    have hb03 := hb02.trans (hb3.mono hb02.size)
    clear hb02 hb3 hsp2 hsp
    go_wp2_with fail
    refine (text_any _ _ (by rw [Lib.size_mk]; omega)).mono ?_
    rw [show (⟨s.toArray⟩ : ByteArray).data.toList = s from rfl]
    rintro e w' ⟨rfl, rfl⟩
    cases St.text s with
    | false =>
      go_wp2_with fail
      go_ret
      exact ⟨by simp, hb03⟩
    | true =>
      go_wp2_with fail
      refine (quote_any _ _ (by rw [Lib.size_mk]; omega)).mono ?_
      rw [show (⟨s.toArray⟩ : ByteArray).data.toList = s from rfl]
      rintro e w4 ⟨rfl, hb4⟩
      go_wp2_with fail
      refine (refQuote_any _ _ (by rw [Lib.size_mk]; omega)).mono ?_
      rw [show (⟨s.toArray⟩ : ByteArray).data.toList = s from rfl]
      rintro e w5 ⟨rfl, hb5⟩
      have hb04 := hb03.trans (hb4.mono hb03.size)
      go_wp2_with fail
      go_ret
      exact ⟨by simp, hb04.trans (hb5.mono hb04.size)⟩

end Go.Proofs.YtfconmjgedaifaaDoor
