/-
  Package twigskeep: raw bytes that are read one by one.
-/
import Derived.Test.YtjiikjpnlgogfaaGreatDoorSdSmaG
import Derived.BigQuiet
namespace Go.Proofs.YtjiikjpnlgogfaaGreatDoor
open Go.RowKit
structure FeedAt (w : World) (fb : Nat) (raw : ByteArray) : Prop where
 lt : fb < w.heap.size
 c0 : w.cell? ⟨fb, 0, none⟩ = some (.string raw)
 c1 : ∃ k : Nat, w.cell? ⟨fb, 1, none⟩ = some (.int .i64 (k : Int)) ∧ k ≤ raw.size
 free : w.frozen? ⟨fb, 1, none⟩ = false
theorem FeedAt.keep {w w' : World} {fb : Nat} {raw : ByteArray} (h : FeedAt w fb raw) (e : w'.heap[fb]? = w.heap[fb]?) (hs : w.heap.size ≤ w'.heap.size) : FeedAt w' fb raw := by
 obtain ⟨h1, h2, ⟨k, h3, h4⟩, h5⟩ := h
 exact ⟨Nat.lt_of_lt_of_le h1 hs, (World.cell?_of_block e).trans h2, ⟨k, (World.cell?_of_block e).trans h3, h4⟩, (World.frozen?_of_block e).trans h5⟩
theorem FeedAt.below {w w' : World} {fb : Nat} {raw : ByteArray} (h : FeedAt w fb raw) (hb : Below w.heap.size w w') : FeedAt w' fb raw := h.keep (hb.block fb h.lt) hb.size
def NextSaid (n fb : Nat) (raw : ByteArray) (w : World) (e : Ending) (w' : World) : Prop :=
 ∃ k : Nat, k < n ∧ e = .returned (.int .i64 (k : Int)) ∧ Only fb w w' ∧ w'.heap.size = w.heap.size ∧ FeedAt w' fb raw
set_option maxRecDepth 100000 in
theorem feednext_any (n : Nat) (hn : 0 < n) (hn2 : n ≤ 256) (fb : Nat) (raw : ByteArray) (w : World) (h : FeedAt w fb raw) (hr : raw.size ≤ 9223372036854775807) :
  Calls Tryz.prog 34 #[.pointer (some ⟨fb, 0, none⟩), .int .i64 (n : Int)] w (NextSaid n fb raw w) := by
 have HF := Hid.hide h
 obtain ⟨hlt, c0, ⟨k, c1, hk⟩, hfz⟩ := h
 have HK : Hid (k ≤ raw.size ∧ raw.size ≤ 9223372036854775807 ∧ 0 < n ∧ n ≤ 256) := ⟨hk, hr, hn, hn2⟩
 have hn0 : (n : Int) ≠ 0 := by omega
 have hnb : ((n : Int) == 0) = false := by simp; omega
 by_cases hlt2 : k < raw.size
 ·have h1 : (k : Int) < (raw.size : Int) := by omega
  obtain ⟨c, hc⟩ : ∃ c, (raw[k]'hlt2).toNat = c := ⟨_, rfl⟩
  have hc8 : c < 256 := by rw [← hc]; exact UInt8.toNat_lt _
  have hres : (wrap64 (c : Int)).tmod (n : Int) = ((c % n : Nat) : Int) := by
   rw [show wrap64 (c : Int) = (c : Int) by unfold wrap64; omega]
   rfl
  have HR : Hid ((wrap64 (c : Int)).tmod (n : Int) = ((c % n : Nat) : Int)) := hres
  clear hres
  have hmn : c % n < n := Nat.mod_lt _ hn
  have hwr : wrap64 ((k : Int) + 1) = ((k + 1 : Nat) : Int) := by unfold wrap64; omega
  have HC : Hid (c < 256 ∧ c % n < n) := ⟨hc8, hmn⟩
  clear hk hr hn hn2 hc8 hmn
  go_enter Tryz.func34, Tryz.ntmps34
  go_wp2
  go_region
  go_wp2
  go_region
  go_wp2
  go_ret
  refine ⟨c % n, HC.out.2, congrArg Ending.returned (val_int HR.out), ?_, ?_, ?_⟩
  ·exact ⟨rfl, rfl, rfl, by simp, fun j _ hne => Below.heap_setCell _ _ _ _ hne⟩
  ·simp
  ·refine ⟨by simpa using hlt, (World.cell?_setCell_other _ _ _ _ (by simp)).trans c0, ⟨k + 1, ?_, by omega⟩, (World.frozen?_setCell w _ _ _).trans hfz⟩
   exact World.cell?_setCell_same w _ _ c1
 ·have h1 : (raw.size : Int) ≤ (k : Int) := by omega
  clear hk hr hn hn2
  go_enter Tryz.func34, Tryz.ntmps34
  go_wp2
  go_region
  go_wp2
  go_ret
  exact ⟨0, HK.out.2.2.1, rfl, .of_below (Below.refl _ _).drew, rfl, HF.out.below (Below.refl _ _).drew⟩
end Go.Proofs.YtjiikjpnlgogfaaGreatDoor
