/- Nc: Zg Ya Yc, in one text. -/
import Derived.Test.YtjjenpmahmbafaaGreatDoorMc
namespace Go.Proofs.YtjjenpmahmbafaaGreatDoor.Ps
open Js
end Go.Proofs.YtjjenpmahmbafaaGreatDoor.Ps

namespace Go.Proofs.YtjjenpmahmbafaaGreatDoor.Ps
open Js
theorem fuel_all (f : Nat) : (∀ f' d t, d ≤ 32 → 3 * t.length + 1 ≤ f → 3 * t.length + 1 ≤ f' → value f d t = value f' d t) ∧ (∀ f' d u, d ≤ 32 → 3 * u.length + 3 ≤ f → 3 * u.length + 3 ≤ f' → arr f d u = arr f' d u) ∧
    (∀ f' d t acc, d ≤ 32 → 3 * t.length + 2 ≤ f → 3 * t.length + 2 ≤ f' → elems f d t acc = elems f' d t acc) ∧ (∀ f' d u, d ≤ 32 → 3 * u.length + 3 ≤ f → 3 * u.length + 3 ≤ f' → obj f d u = obj f' d u) ∧
    (∀ f' d t acc, d ≤ 32 → 3 * t.length + 2 ≤ f → 3 * t.length + 2 ≤ f' → mems f d t acc = mems f' d t acc) := by
  induction f with
  | zero => exact ⟨fun _ _ _ _ h => by omega, fun _ _ _ _ h => by omega, fun _ _ _ _ _ h => by omega, fun _ _ _ _ h => by omega, fun _ _ _ _ _ h => by omega⟩
  | succ f ih =>
    obtain ⟨iv, ia, ie, io, im⟩ := ih
    refine ⟨fun f' d t hd h1 h2 => ?_, fun f' d u hd h1 h2 => ?_, fun f' d t acc hd h1 h2 => ?_, fun f' d u hd h1 h2 => ?_, fun f' d t acc hd h1 h2 => ?_⟩
    · obtain ⟨f', rfl⟩ : ∃ g, f' = g + 1 := ⟨f' - 1, by omega⟩
      unfold value
      congr 1
      have hs := skip_len t
      cases h : skip t with
      | nil => rfl
      | cons c u =>
        rw [h] at hs
        simp only [List.length_cons] at hs
        simp only
        rw [io f' d u hd (by omega) (by omega), ia f' d u hd (by omega) (by omega)]
    · obtain ⟨f', rfl⟩ : ∃ g, f' = g + 1 := ⟨f' - 1, by omega⟩
      unfold arr
      have hs := skip_len u
      by_cases h : d = 32
      · rw [if_pos h, if_pos h]
      · rw [if_neg h, if_neg h, ie f' (d + 1) (skip u) [] (by omega) (by omega) (by omega)]
    · obtain ⟨f', rfl⟩ : ∃ g, f' = g + 1 := ⟨f' - 1, by omega⟩
      unfold elems
      rw [← iv f' d t hd (by omega) (by omega)]
      have hT := (told f).1 d t hd
      cases h : value f d t with
      | bad c l => rfl
      | ok v u =>
        rw [h] at hT
        have hl := hT.2
        cases u with
        | nil => rfl
        | cons c u =>
          simp only [List.length_cons] at hl
          simp only
          rw [ie f' d u _ hd (by omega) (by omega)]
    · obtain ⟨f', rfl⟩ : ∃ g, f' = g + 1 := ⟨f' - 1, by omega⟩
      unfold obj
      have hs := skip_len u
      by_cases h : d = 32
      · rw [if_pos h, if_pos h]
      · rw [if_neg h, if_neg h, im f' (d + 1) (skip u) [] (by omega) (by omega) (by omega)]
    · obtain ⟨f', rfl⟩ : ∃ g, f' = g + 1 := ⟨f' - 1, by omega⟩
      unfold mems
      have hs := skip_len t
      cases hq : qtext (skip t) with
      | bad c l => rfl
      | ok key t2 =>
        have hq2 := (qtext_ok hq).1
        have hs2 := skip_len t2
        simp only
        split
        · rfl
        cases h3 : skip t2 with
        | nil => rfl
        | cons c t4 =>
          rw [h3] at hs2
          simp only [List.length_cons] at hs2
          simp only
          rw [← iv f' d t4 hd (by omega) (by omega)]
          have hT := (told f).1 d t4 hd
          cases h : value f d t4 with
          | bad c l => rfl
          | ok v u =>
            rw [h] at hT
            have hl := hT.2
            cases u with
            | nil => rfl
            | cons c u =>
              simp only [List.length_cons] at hl
              simp only
              rw [im f' d u _ hd (by omega) (by omega)]

def fin : R Vl → R Vl
  | .bad c l => .bad c l
  | .ok v [] => .ok v []
  | .ok _ (c :: u) => .bad 1 (c :: u).length
theorem parse_fuel {s : List UInt8} (hs : s.length ≤ 20000) (f : Nat) (hf : 3 * s.length + 1 ≤ f) : parse s = fin (value f 0 s) := by
  unfold parse
  rw [if_neg (by omega), (fuel_all (3 * s.length + 1)).1 f 0 s (by omega) (Nat.le_refl _) hf]
  cases value f 0 s with
  | bad c l => rfl
  | ok v u => cases u <;> rfl
theorem fin_ok {r : R Vl} {v : Vl} {u : List UInt8} (h : fin r = .ok v u) : r = .ok v [] ∧ u = [] := by
  cases r with
  | bad c l => cases h
  | ok v' u' =>
    cases u' with
    | nil => injection h with h1 h2; subst h1 h2; exact ⟨rfl, rfl⟩
    | cons c u => cases h
theorem parse_value {s : List UInt8} {v : Vl} {u : List UInt8} (h : parse s = .ok v u) (f : Nat) (hf : 3 * s.length + 1 ≤ f) : value f 0 s = .ok v [] ∧ u = [] ∧ s.length ≤ 20000 := by
  have hs : s.length ≤ 20000 := by
    rcases Nat.lt_or_ge 20000 s.length with h1 | h1
    · unfold parse at h; rw [if_pos h1] at h; cases h
    · exact h1
  rw [parse_fuel hs f hf] at h
  obtain ⟨h1, h2⟩ := fin_ok h
  exact ⟨h1, h2, hs⟩
end Go.Proofs.YtjjenpmahmbafaaGreatDoor.Ps

namespace Go.Proofs.YtjjenpmahmbafaaGreatDoor.Ps
open Js

def core (f d : Nat) (t : List UInt8) : R Vl :=
  match skip t with
  | [] => .bad 1 0
  | c :: u => if c = 123 then obj f d u else if c = 91 then arr f d u else single c u
def has (acc : List Mem) (key : List UInt8) : Bool := acc.any fun p => decide (p.1 = key)
end Go.Proofs.YtjjenpmahmbafaaGreatDoor.Ps


