/- The laws of layer 12 (refs), given what the program's Link is to do. -/
import Derived.Test.YtolkfgikomminaaGreatDoorEc
import Derived.Test.YtolkfgikomminaaGreatDoorDj
import Derived.Test.YtolkfgikomminaaGreatDoorEg
namespace Go.Proofs.YtolkfgikomminaaGreatDoor
open Go.RowKit Js Pt

structure Cm.Good12 (l : List Cm.Node) : Prop where
 inside : Cm.Inside l
 few : l.length ≤ 200
 apart : (l.map (·.at_)).Nodup
 keys : ∀ N ∈ l, N.keys.length ≤ 1000000
 paths : ∀ N ∈ l, (text N.at_).length ≤ 10000000000000
 kids : ∀ N ∈ l, ∀ K ∈ N.keys, K.kids.length ≤ 200
 strs : ∀ N ∈ l, ∀ K ∈ N.keys, (Sh.strOf K.v).length ≤ 1000000
theorem Cm.good_of {v : Vl} {a : List Cm.Node} (hw : Wide v) (h : Cm.compile v = .ok a) : Cm.Good12 a := by
 have hst := Cm.compile_stand hw.1 hw.2.1 h
 refine ⟨Cm.inside_of hw.1 hw.2.1 h, hst.2.2.2.1, hst.2.1, fun N hN => ?_, fun N hN => ?_, fun N hN K hK => Nat.le_trans (Cm.kids_few hst.2.2.2.2.1 hN hK) hst.2.2.2.1, fun N hN K hK => Cm.str_small (Cm.compile_slim h hw.2.2 hw.2.1 N hN K hK).1⟩
 ·obtain ⟨x, hx, ho⟩ := hst.1 N hN
  have hsm := Cm.get_small (N := 1000000) (by omega) _ _ _ hw.2.2 hx
  obtain ⟨k, b, n, s, l, m⟩ := x
  have h3 := ho.2.2
  have h4 : m.length ≤ sizeM m := sizeM_len m
  have h5 := hsm.2.2
  have h6 := hw.2.1
  simp only [Vl.size] at h5
  omega
 ·obtain ⟨x, hx, _⟩ := hst.1 N hN
  have hsm := Cm.get_small (N := 1000000) (by omega) _ _ _ hw.2.2 hx
  have h1 := text_len 1000000 _ hsm.2.1
  have h2 := hsm.1
  have h3 := hw.2.1
  have h4 : N.at_.length * (2 * 1000000 + 1) ≤ 1000000 * (2 * 1000000 + 1) := Nat.mul_le_mul_right _ (by omega)
  omega
theorem LinkR.out {r : Cm.Res (List Cm.Node)} {w : World} {e : Ending} {w' : World} (h : LinkR r w e w') :
  ∃ (A : Option Addr) (cp : Nat), e = .returned (.tuple #[.slice A (Cm.outL r).length cp, .int .i64 (Cm.outC r), .string ⟨(Cm.outP r).toArray⟩]) ∧ SlN w'.cell? A (Cm.outL r) ∧ (Cm.outL r).length ≤ cp ∧ cp ≤ maxLen ∧ Below w.heap.size w w' := CompR.out h

def Cm.exR : Vl := .mk 5 false Nm.Num.zero [] [] [(Cm.kRef, .mk 3 false Nm.Num.zero [35] [] [])]
def Cm.exN : List Cm.Node := [⟨[], false, false, [⟨Cm.kRef, .mk 3 false Nm.Num.zero [35] [] [], []⟩]⟩]
def Cm.exO : List Cm.Node := [⟨[], false, false, [⟨Cm.kRef, .mk 3 false Nm.Num.zero [35] [] [], [([], 0)]⟩]⟩]
theorem Cm.ex_parse : Ps.parse [123, 34, 36, 114, 101, 102, 34, 58, 34, 35, 34, 125] = .ok Cm.exR [] := by kernel_rfl
theorem Cm.ex_comp : Cm.compile Cm.exR = .ok Cm.exN := by kernel_rfl
theorem Cm.ex_nodes : Cm.linkNodes Cm.exN Cm.exN = .ok Cm.exO := by kernel_rfl
theorem Cm.ex_link : Cm.link Cm.exN = .bad 13 [] := by
 unfold Cm.link
 rw [Cm.ex_nodes]
 simp only
 rw [Cm.ring_is (out := Cm.exO) (j := 0) (by decide) (.one ⟨_, rfl, by decide⟩) (fun q hq => absurd hq (Nat.not_lt_zero _))]
 rfl
end Go.Proofs.YtolkfgikomminaaGreatDoor

