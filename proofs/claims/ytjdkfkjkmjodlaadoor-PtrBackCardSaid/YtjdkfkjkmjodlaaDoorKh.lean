/- The laws of layer 6 (ptr): up. -/
import Derived.Test.YtjdkfkjkmjodlaaDoorKc
import Derived.Test.YtjdkfkjkmjodlaaDoorKe
import Derived.Test.YtjdkfkjkmjodlaaDoorPg
import Derived.Deep.RegionLaw
namespace Go.Proofs.YtjdkfkjkmjodlaaDoor.Pt

theorem ex_ok : parse [47, 97, 126, 49, 98, 47, 48] = .ok [[97, 47, 98], [48]] := by rfl
theorem ex_bad : parse [97] = .bad 0 := by rfl
theorem ex_text : text [[97, 47, 98], [48]] = [47, 97, 126, 49, 98, 47, 48] := by decide
theorem ok_inj {l m : List (List UInt8)} (h : Res.ok l = .ok m) : l = m := by injection h
theorem bad_inj {p q : Nat} (h : Res.bad p = .bad q) : p = q := by injection h

end Go.Proofs.YtjdkfkjkmjodlaaDoor.Pt
namespace Go.Proofs.YtjdkfkjkmjodlaaDoor
open Go.RowKit Pt

/-- What Parse tells of a pointer's text; of another one. -/
theorem ParsePost.ok {t : List UInt8} {l : List (List UInt8)} {w w' : World} {e : Ending} (h : ParsePost t w e w') (hp : parse t = .ok l) :
    ∃ A, e = .returned (.tuple #[.slice A l.length l.length, .nilIface]) ∧ Strs w'.cell? A l ∧ Below w.heap.size w w' := by
  obtain ⟨hb, ⟨l', A, h1, rfl, h2⟩ | ⟨p, b, h1, _⟩⟩ := h
  · obtain rfl := ok_inj (h1.symm.trans hp)
    exact ⟨A, rfl, h2, hb⟩
  · rw [hp] at h1; cases h1
theorem ParsePost.bad {t : List UInt8} {p : Nat} {w w' : World} {e : Ending} (h : ParsePost t w e w') (hp : parse t = .bad p) :
    ∃ b, e = .returned (.tuple #[.slice none 0 0, spotV b]) ∧ SpotAt w' b p 1 ∧ Below w.heap.size w w' := by
  obtain ⟨hb, ⟨l', A, h1, _⟩ | ⟨q, b, h1, rfl, h2⟩⟩ := h
  · rw [hp] at h1; cases h1
  · obtain rfl := bad_inj (h1.symm.trans hp)
    exact ⟨b, rfl, h2, hb⟩

set_option linter.unusedVariables false in
set_option linter.unusedSimpArgs false in
set_option maxRecDepth 100000 in
set_option maxHeartbeats 1000000 in
theorem up6_any (w : World) (hT : MaxT w) : Calls Tryd.prog 5 #[] w fun e w' => e = .returned (.bool true) ∧ Below w.heap.size w w' := by
  have HT := Lib.hid hT
  clear hT
  go_enter Tryd.func5, Tryd.ntmps5
  go_wp2_with fail
  refine (ptrParse_any [47, 97, 126, 49, 98, 47, 48] w HT.out (by simp)).mono ?_
  intro e w1 h1
  obtain ⟨A, rfl, hs, hb1⟩ := h1.ok ex_ok
  have HS := Lib.hid hs
  have HB1 := Lib.hid hb1
  clear h1 hs hb1
  go_wp2_with fail
  refine (ptrParse_any [97] w1 (HT.out.on HB1.out) (by simp)).mono ?_
  intro e w2 h2
  obtain ⟨b, rfl, hsp, hb2⟩ := h2.bad ex_bad
  have HSP := Lib.hid hsp
  have HB2 := Lib.hid (HB1.out.trans (hb2.mono HB1.out.size))
  have HS2 := Lib.hid (HS.out.keep (le_below hb2))
  clear h2 hsp hb2 HS
  go_wp2_with fail
  refine (spot_at b 0 1 w2 HSP.out).mono ?_
  rintro e w3 ⟨rfl, hb3⟩
  have HB3 := Lib.hid (HB2.out.trans (hb3.mono HB2.out.size))
  have HS3 := Lib.hid (HS2.out.keep (le_below hb3))
  clear hb3 HS2
  have hba := (Below.refl w3.heap.size w3).alloc (Nat.le_refl _) (.cells #[.string ⟨#[97, 47, 98]⟩, .string ⟨#[48]⟩] 9)
  have HNM := names_any [[97, 47, 98], [48]] [[97, 47, 98], [48]] A (some ⟨w3.heap.size, 0, none⟩) 2 2 (w3.alloc (.cells #[.string ⟨#[97, 47, 98]⟩, .string ⟨#[48]⟩] 9)) (HS3.out.keep (le_below hba))
    (strs_at (l := [[97, 47, 98], [48]]) (Blk.new w3 9 #[.string ⟨#[97, 47, 98]⟩, .string ⟨#[48]⟩])) (Nat.le_refl _) (by unfold maxLen; omega) (Nat.le_refl _) (by unfold maxLen; omega)
  rw [alike_eq rfl] at HNM
  have HNM2 := Lib.hid HNM
  have HB4 := Lib.hid (HB3.out.trans (hba.mono HB3.out.size))
  have HS4 := Lib.hid (HS3.out.keep (le_below hba))
  clear HNM hba HS3
  go_wp2_with fail
  refine HNM2.out.mono ?_
  rintro e w5 ⟨rfl, hb5⟩
  have HB5 := Lib.hid (HB4.out.trans (hb5.mono HB4.out.size))
  have HS5 := Lib.hid (HS4.out.keep (le_below hb5))
  clear hb5 HS4
  have HSW := ptrShow_any [[97, 47, 98], [48]] A 2 w5 (HT.out.on HB5.out) HS5.out (Nat.le_refl _) (by unfold maxLen; omega) (by rw [ex_text]; simp)
  rw [ex_text] at HSW
  have HSW2 := Lib.hid HSW
  clear HSW
  go_wp2_with fail
  refine HSW2.out.mono ?_
  rintro e w6 ⟨rfl, hb6⟩
  have HB6 := Lib.hid (HB5.out.trans (hb6.mono HB5.out.size))
  clear hb6
  go_wp2_with fail
  go_ret
  exact ⟨rfl, HB6.out⟩

end Go.Proofs.YtjdkfkjkmjodlaaDoor

