/-
  Unpack of package nibbles, of any bytes; Pack and Unpack of package twigs.
-/
import Derived.Test.YtjiikjpnlgogfaaGreatDoorSdNibG
import Derived.Test.YtjiikjpnlgogfaaGreatDoorSdSmaG
namespace Go.Proofs.YtjiikjpnlgogfaaGreatDoor
open Go.RowKit
abbrev formV (sent : Nat → Addr) : Value := .iface 423 (.pointer (some (sent 3)))
set_option maxRecDepth 100000 in
set_option maxHeartbeats 1600000 in
theorem unpack_none (s : ByteArray) (sent : Nat → Addr) (w : World) (hF : Faults w sent) (hu : unpackF (bytesOf s) = none) :
  Calls Tryz.prog 171 #[.string s] w fun e w' => e = .returned (.tuple #[.string ⟨#[]⟩, .bool false, formV sent]) ∧ Below w.heap.size w w' := by
 have hg : w.cell? ⟨14, 0, none⟩ = some (.iface 423 (.pointer (some (sent 3)))) := hF.var 3 (by decide)
 clear hF
 have hbl := bytesOf_length s
 by_cases hp : 0 < s.size
 ·obtain ⟨c, hc⟩ : ∃ c, (s[0]'hp).toNat = c := ⟨_, rfl⟩
  obtain ⟨r, hr⟩ : ∃ r, (bytesOf s).drop 1 = r := ⟨_, rfl⟩
  have hbs : bytesOf s = c :: r := by
   have e := List.drop_eq_getElem_cons (l := bytesOf s) (i := 0) (by omega)
   rw [List.drop_zero, Nat.zero_add, hr] at e
   rw [← hc, byte_at s 0 hp, getElem!_pos _ 0 (by omega)]
   exact e
  rw [hbs] at hu
  have hc8 : c < 256 := by rw [← hc]; exact UInt8.toNat_lt _
  rw [unpackF_cons] at hu
  obtain ⟨g, hgg⟩ : ∃ g, c / 16 = g := ⟨_, rfl⟩
  obtain ⟨d, hd⟩ : ∃ d, c % 16 = d := ⟨_, rfl⟩
  have a15 := and15 c hc8
  rw [hgg] at hu
  rw [hd] at hu a15
  have hgi : (c : Int) / 16 = (g : Int) := by omega
  have hne := some_text s hp
  by_cases h3 : 3 < g
  ·have g3i : (3 : Int) < (g : Int) := by omega
   clear hu hbs hr hbl hgg hd h3 hc8
   go_enter Tryz.func171, Tryz.ntmps171
   go_wp2
   go_region
   go_wp2
   go_region
   go_wp2
   go_ret3
   exact ⟨rfl, (Below.refl _ _).drew.drew⟩
  ·rw [if_neg h3] at hu
   have b1 := and1 g (by omega)
   have g3i : (g : Int) ≤ 3 := by omega
   by_cases hodd : g % 2 = 1
   ·rw [if_pos hodd] at hu
    cases hu
   ·rw [if_neg hodd] at hu
    have b1' : bits .and .u8 (g : Int) 1 = 0 := by rw [b1, show g % 2 = 0 by omega]; rfl
    by_cases hd0 : d = 0
    ·rw [if_pos hd0] at hu
     cases hu
    ·have hdi : ((d : Int) != 0) = true := by simp [hd0]
     clear hu hbs hr hbl hgg hd h3 hc8 b1 hodd hd0
     go_enter Tryz.func171, Tryz.ntmps171
     go_wp2
     go_region
     go_wp2
     go_region
     go_wp2
     go_ret3
     exact ⟨rfl, (Below.refl _ _).drew.drew⟩
 ·have h0 : s.toList.isEmpty = true := by
   rw [Lib.toList_data]
   have : s.data.toList.length = s.size := by simp
   have e : s.data.toList = [] := List.eq_nil_of_length_eq_zero (by omega)
   rw [e]
   rfl
  clear hu hbl hp
  go_enter Tryz.func171, Tryz.ntmps171
  go_wp2
  go_region
  go_wp2
  go_ret3
  exact ⟨rfl, (Below.refl _ _).drew⟩
end Go.Proofs.YtjiikjpnlgogfaaGreatDoor
