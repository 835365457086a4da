/-
  DecodeAccount and EncodeAccount of package twigs.
  Accounts and paths: what is accepted is the code of what is given. Plain facts.
  DecodeAccount of package twigs, exactly.
-/
import Derived.Test.YthbgepmpdphigaaGreatDoorAxAccH
import Derived.Test.YthbgepmpdphigaaGreatDoorAxEndG
import Derived.Deep.RegionHeld3
import Derived.Test.YthbgepmpdphigaaGreatDoorAxNibG
import Derived.Test.YthbgepmpdphigaaGreatDoorAxSmaG
namespace Go.Proofs.YthbgepmpdphigaaGreatDoor
open Go.RowKit
set_option maxRecDepth 100000
set_option maxHeartbeats 25600000
theorem Qff : ∀ l : List Nat, pairs (nibs l) = l
 | [] => rfl
 | x :: r => by
  show (x / 16 * 16 + x % 16) :: pairs (nibs r) = x :: r
  rw [Qff r]
  congr 1
  omega
variable {l : List Nat}
theorem Qn9 (hl : ∀ y ∈ l, y < 256) : ∀ y ∈ nibs l, y < 16 := by
 intro y c
 obtain ⟨x, b, a⟩ := List.mem_flatMap.1 c
 have := hl x b
 rcases List.mem_cons.1 a with rfl | h
 ·omega
 ·rcases List.mem_cons.1 h with rfl | h
  ·omega
  ·cases h
theorem Qfw (hl : ∀ y ∈ l, y < 256) {p : List Nat} {leaf : Bool} (h : unpackF l = some (p, leaf)) : (∀ y ∈ p, y < 16) /\ pathCode p leaf = l /\ p.length <= 2 * l.length := by
 cases l with
 | nil => cases h
 | cons c r =>
  have e : ∀ y ∈ r, y < 256 := fun y d => hl y (List.mem_cons_of_mem _ d)
  rw [Qdn] at h
  split at h
  ·cases h
  ·split at h
   ·rename_i h3 h1
    cases h
    have a : ((c % 16) :: nibs r).length % 2 = 1 := by rw [List.length_cons, Qb8]; omega
    refine ⟨?_, ?_, by simp only [List.length_cons, Qb8]; omega⟩
    ·intro y d
     rcases List.mem_cons.1 d with rfl | d
     ·omega
     ·exact Qn9 e y d
    ·unfold pathCode
     rw [a]
     show ((if decide (2 <= c / 16) = true then 32 else 0) + (16 + c % 16)) :: pairs (nibs r) = c :: r
     rw [Qff]
     congr 1
     by_cases b : 2 <= c / 16
     ·rw [decide_eq_true b, if_pos rfl]; omega
     ·rw [decide_eq_false b, if_neg (by decide)]; omega
   ·split at h
    ·rename_i h3 h1 h0
     cases h
     have a : (nibs r).length % 2 = 0 := by rw [Qb8]; omega
     refine ⟨Qn9 e, ?_, by simp only [List.length_cons, Qb8]; omega⟩
     unfold pathCode
     rw [a]
     show ((if decide (2 <= c / 16) = true then 32 else 0) + 0) :: pairs (nibs r) = c :: r
     rw [Qff]
     congr 1
     by_cases b : 2 <= c / 16
     ·rw [decide_eq_true b, if_pos rfl]; omega
     ·rw [decide_eq_false b, if_neg (by decide)]; omega
    ·cases h
abbrev formV (sent : Nat -> Addr) : Value := .iface 271 (.pointer (some (sent 3)))
theorem Qna (s : ByteArray) (sent : Nat -> Addr) (w : World) (hF : Faults w sent) (hu : unpackF (bytesOf s) = none) :
  Calls Tryz.prog 118 #[.string s] w fun e w' => e = .returned (.tuple #[.string ⟨#[]⟩, .bool false, formV sent]) /\ Below w.heap.size w w' := by
 have D : w.cell? ⟨15, 0, none⟩ = some (.iface 271 (.pointer (some (sent 3)))) := hF.var 3 (by decide)
 clear hF
 have b := bytesOf_length s
 by_cases m : 0 < s.size
 ·obtain ⟨c, v⟩ : ∃ c, (s[0]'m).toNat = c := ⟨_, rfl⟩
  obtain ⟨r, p⟩ : ∃ r, (bytesOf s).drop 1 = r := ⟨_, rfl⟩
  have f : bytesOf s = c :: r := by
   have e := List.drop_eq_getElem_cons (l := bytesOf s) (i := 0) (by omega)
   rw [List.drop_zero, Nat.zero_add, p] at e
   rw [<- v, Qb3 s 0 m, getElem!_pos _ 0 (by omega)]
   exact e
  rw [f] at hu
  have h : c < 256 := by rw [<- v]; exact UInt8.toNat_lt _
  rw [Qdn] at hu
  obtain ⟨g, k⟩ : ∃ g, c / 16 = g := ⟨_, rfl⟩
  obtain ⟨d, o⟩ : ∃ d, c % 16 = d := ⟨_, rfl⟩
  have q := Qxw c h
  rw [k] at hu
  rw [o] at hu q
  have z : (c : Int) / 16 = (g : Int) := by omega
  have B := Qas s m
  by_cases n : 3 < g
  ·have u : (3 : Int) < (g : Int) := by omega
   clear hu f p b k o n h
   go_enter Tryz.func118, Tryz.ntmps118
   go_wp2
   go_region
   go_wp2
   go_region
   go_wp2
   go_ret3
   exact ⟨rfl, (Below.refl _ _).drew.drew⟩
  ·rw [if_neg n] at hu
   have t := and1 g (by omega)
   have u : (g : Int) <= 3 := by omega
   by_cases a : g % 2 = 1
   ·rw [if_pos a] at hu
    cases hu
   ·rw [if_neg a] at hu
    have x : bits .and .u8 (g : Int) 1 = 0 := by rw [t, show g % 2 = 0 by omega]; rfl
    by_cases j : d = 0
    ·rw [if_pos j] at hu
     cases hu
    ·have y : ((d : Int) != 0) = true := by simp [j]
     clear hu f p b k o n h t a j
     go_enter Tryz.func118, Tryz.ntmps118
     go_wp2
     go_region
     go_wp2
     go_region
     go_wp2
     go_ret3
     exact ⟨rfl, (Below.refl _ _).drew.drew⟩
 ·have C : s.toList.isEmpty = true := by
   rw [Lib.toList_data]
   have : s.data.toList.length = s.size := by simp
   have e : s.data.toList = [] := List.eq_nil_of_length_eq_zero (by omega)
   rw [e]
   rfl
  clear hu b m
  go_enter Tryz.func118, Tryz.ntmps118
  go_wp2
  go_region
  go_wp2
  go_ret3
  exact ⟨rfl, (Below.refl _ _).drew⟩
end Go.Proofs.YthbgepmpdphigaaGreatDoor
