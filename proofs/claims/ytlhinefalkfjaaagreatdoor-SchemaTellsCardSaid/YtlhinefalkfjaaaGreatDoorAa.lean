/- Plain mathematics of layer 8 (patch): operations, read out of values. -/
import Derived.Test.YtlhinefalkfjaaaGreatDoorJa
namespace Go.Proofs.YtlhinefalkfjaaaGreatDoor.Oq
open Js Pt

structure Opn where
  op : Nat
  path : List (List UInt8)
  src : List (List UInt8)
  v : Vl
abbrev Opn.zero : Opn := ⟨0, [], [], Ps.mkN⟩

def strOf : Vl → Option (List UInt8)
  | .mk k _ _ s _ _ => if k = 3 then some s else none
def textOf (v : Vl) (key : List UInt8) : Option (List UInt8) := (v.find key).bind strOf
inductive Rd where
  | ok (l : List Opn)
  | bad (c i : Nat)
theorem size_mem {m : List Mem} {p : Mem} (h : p ∈ m) : p.2.size ≤ sizeM m := by
  induction m with
  | nil => cases h
  | cons q m ih =>
    obtain ⟨a, v⟩ := q
    simp only [sizeM, sizeP]
    rcases List.mem_cons.1 h with rfl | h
    · simp only; omega
    · have := ih h; omega
structure Fit (v : Vl) : Prop where
  neat : Ed.neat v = true
  size : v.size ≤ 1000000
  slim : v.slim 100000
theorem find_in {v u : Vl} {key : List UInt8} (h : v.find key = some u) : ∃ b n s l m p, v = .mk 5 b n s l m ∧ p ∈ m ∧ p.2 = u := by
  obtain ⟨k, b, n, s, l, m⟩ := v
  unfold Vl.find at h
  simp only at h
  split at h
  · rename_i hk
    subst hk
    unfold Js.find at h
    obtain ⟨p, hp, rfl⟩ := Option.map_eq_some_iff.1 h
    exact ⟨b, n, s, l, m, p, rfl, List.mem_of_find?_eq_some hp, rfl⟩
  · cases h
theorem fit_find {v u : Vl} {key : List UInt8} (h : Fit v) (hu : v.find key = some u) : Fit u := by
  obtain ⟨b, n, s, l, m, p, rfl, hp, rfl⟩ := find_in hu
  obtain ⟨h1, h2, h3⟩ := h
  have hs := size_mem hp
  refine ⟨((Ed.neat_iff _ _ _ _ _ _).1 h1).2.2.2.1 p hp, by simp only [Vl.size] at h2; omega, ?_⟩
  simp only [Vl.slim] at h3
  exact ((slimM_iff _ _).1 h3.2.2.2 p hp).2
theorem text_len {v : Vl} {key t : List UInt8} (h : Fit v) (ht : textOf v key = some t) : t.length ≤ 100000 := by
  unfold textOf at ht
  cases hf : v.find key with
  | none => rw [hf] at ht; cases ht
  | some u =>
    rw [hf] at ht
    have hu := (fit_find h hf).slim
    obtain ⟨k, b, n, s, l, m⟩ := u
    simp only [Vl.slim] at hu
    simp only [Option.bind_some, strOf] at ht
    split at ht
    · injection ht with ht; subst ht; exact hu.2.1
    · cases ht
end Go.Proofs.YtlhinefalkfjaaaGreatDoor.Oq

