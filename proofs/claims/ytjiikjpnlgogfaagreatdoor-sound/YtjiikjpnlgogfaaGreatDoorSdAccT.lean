/-
  DecodeAccount and EncodeAccount of package twigs.
  Accounts and paths: what is accepted is the code of what is given. Plain facts.
  DecodeAccount of package twigs, exactly.
-/
import Derived.Test.YtjiikjpnlgogfaaGreatDoorSdAccH
import Derived.Test.YtjiikjpnlgogfaaGreatDoorSdEndG
import Derived.Deep.RegionHeld3
namespace Go.Proofs.YtjiikjpnlgogfaaGreatDoor
open Go.RowKit
end Go.Proofs.YtjiikjpnlgogfaaGreatDoor
namespace Go.Proofs.YtjiikjpnlgogfaaGreatDoor
open Go.RowKit
theorem pairs_nibs : ∀ l : List Nat, pairs (nibs l) = l
 | [] => rfl
 | x :: r => by
  show (x / 16 * 16 + x % 16) :: pairs (nibs r) = x :: r
  rw [pairs_nibs r]
  congr 1
  omega
theorem nibs_lt {l : List Nat} (hl : ∀ y ∈ l, y < 256) : ∀ y ∈ nibs l, y < 16 := by
 intro y hy
 obtain ⟨x, hx, hxy⟩ := List.mem_flatMap.1 hy
 have := hl x hx
 rcases List.mem_cons.1 hxy with rfl | h
 ·omega
 ·rcases List.mem_cons.1 h with rfl | h
  ·omega
  ·cases h
theorem unpackF_back {l : List Nat} (hl : ∀ y ∈ l, y < 256) {p : List Nat} {leaf : Bool} (h : unpackF l = some (p, leaf)) : (∀ y ∈ p, y < 16) ∧ pathCode p leaf = l ∧ p.length ≤ 2 * l.length := by
 cases l with
 | nil => cases h
 | cons c r =>
  have hr : ∀ y ∈ r, y < 256 := fun y hy => hl y (List.mem_cons_of_mem _ hy)
  rw [unpackF_cons] at h
  split at h
  ·cases h
  ·split at h
   ·rename_i h3 h1
    cases h
    have hlen : ((c % 16) :: nibs r).length % 2 = 1 := by rw [List.length_cons, nibs_length]; omega
    refine ⟨?_, ?_, by simp only [List.length_cons, nibs_length]; omega⟩
    ·intro y hy
     rcases List.mem_cons.1 hy with rfl | hy
     ·omega
     ·exact nibs_lt hr y hy
    ·unfold pathCode
     rw [hlen]
     show ((if decide (2 ≤ c / 16) = true then 32 else 0) + (16 + c % 16)) :: pairs (nibs r) = c :: r
     rw [pairs_nibs]
     congr 1
     by_cases h2 : 2 ≤ c / 16
     ·rw [decide_eq_true h2, if_pos rfl]; omega
     ·rw [decide_eq_false h2, if_neg (by decide)]; omega
   ·split at h
    ·rename_i h3 h1 h0
     cases h
     have hlen : (nibs r).length % 2 = 0 := by rw [nibs_length]; omega
     refine ⟨nibs_lt hr, ?_, by simp only [List.length_cons, nibs_length]; omega⟩
     unfold pathCode
     rw [hlen]
     show ((if decide (2 ≤ c / 16) = true then 32 else 0) + 0) :: pairs (nibs r) = c :: r
     rw [pairs_nibs]
     congr 1
     by_cases h2 : 2 ≤ c / 16
     ·rw [decide_eq_true h2, if_pos rfl]; omega
     ·rw [decide_eq_false h2, if_neg (by decide)]; omega
    ·cases h
end Go.Proofs.YtjiikjpnlgogfaaGreatDoor
namespace Go.Proofs.YtjiikjpnlgogfaaGreatDoor
open Go.RowKit
end Go.Proofs.YtjiikjpnlgogfaaGreatDoor
