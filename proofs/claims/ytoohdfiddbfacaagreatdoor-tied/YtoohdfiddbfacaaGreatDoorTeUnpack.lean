/-
  Unpack of package nibbles, of any bytes; Pack and Unpack of package twigs.
-/
import Derived.Test.YtoohdfiddbfacaaGreatDoorTeNibG
import Derived.Test.YtoohdfiddbfacaaGreatDoorTeSmaG
namespace Go.Proofs.YtoohdfiddbfacaaGreatDoor
open Go.RowKit
set_option maxRecDepth 100000
set_option maxHeartbeats 25600000
abbrev formV (sent : Nat -> Addr) : Value := .iface 244 (.pointer (some (sent 3)))
theorem unpack_none (s : ByteArray) (sent : Nat -> Addr) (w : World) (hF : Faults w sent) (hu : unpackF (bytesOf s) = none) :
  Calls Tryz.prog 104 #[.string s] w fun e w' => e = .returned (.tuple #[.string ⟨#[]⟩, .bool false, formV sent]) /\ Below w.heap.size w w' := by
 have D : w.cell? ⟨15, 0, none⟩ = some (.iface 244 (.pointer (some (sent 3)))) := hF.var 3 (by decide)
 clear hF
 have b := bytesOf_length s
 by_cases m : 0 < s.size
 ·obtain ⟨c, v⟩ : ∃ c, (s[0]'m).toNat = c := ⟨_, rfl⟩
  obtain ⟨r, p⟩ : ∃ r, (bytesOf s).drop 1 = r := ⟨_, rfl⟩
  have f : bytesOf s = c :: r := by
   have e := List.drop_eq_getElem_cons (l := bytesOf s) (i := 0) (by omega)
   rw [List.drop_zero, Nat.zero_add, p] at e
   rw [<- v, byte_at s 0 m, getElem!_pos _ 0 (by omega)]
   exact e
  rw [f] at hu
  have h : c < 256 := by rw [<- v]; exact UInt8.toNat_lt _
  rw [unpackF_cons] at hu
  obtain ⟨g, k⟩ : ∃ g, c / 16 = g := ⟨_, rfl⟩
  obtain ⟨d, o⟩ : ∃ d, c % 16 = d := ⟨_, rfl⟩
  have q := and15 c h
  rw [k] at hu
  rw [o] at hu q
  have z : (c : Int) / 16 = (g : Int) := by omega
  have B := some_text s m
  by_cases n : 3 < g
  ·have u : (3 : Int) < (g : Int) := by omega
   clear hu f p b k o n h
   go_enter Tryz.func104, Tryz.ntmps104
   go_wp2
   go_region
   go_wp2
   go_region
   go_wp2
   go_ret3
   exact ⟨rfl, (Below.refl _ _).drew.drew⟩
  ·rw [if_neg n] at hu
   have t := and1 g (by omega)
   have u : (g : Int) <= 3 := by omega
   by_cases a : g % 2 = 1
   ·rw [if_pos a] at hu
    cases hu
   ·rw [if_neg a] at hu
    have x : bits .and .u8 (g : Int) 1 = 0 := by rw [t, show g % 2 = 0 by omega]; rfl
    by_cases j : d = 0
    ·rw [if_pos j] at hu
     cases hu
    ·have y : ((d : Int) != 0) = true := by simp [j]
     clear hu f p b k o n h t a j
     go_enter Tryz.func104, Tryz.ntmps104
     go_wp2
     go_region
     go_wp2
     go_region
     go_wp2
     go_ret3
     exact ⟨rfl, (Below.refl _ _).drew.drew⟩
 ·have C : s.toList.isEmpty = true := by
   rw [Lib.toList_data]
   have : s.data.toList.length = s.size := by simp
   have e : s.data.toList = [] := List.eq_nil_of_length_eq_zero (by omega)
   rw [e]
   rfl
  clear hu b m
  go_enter Tryz.func104, Tryz.ntmps104
  go_wp2
  go_region
  go_wp2
  go_ret3
  exact ⟨rfl, (Below.refl _ _).drew⟩
end Go.Proofs.YtoohdfiddbfacaaGreatDoor
