/-
  Package twigskeep: raw bytes that are read one by one.
-/
import Derived.Test.YtoohdfiddbfacaaGreatDoorTeSmaG
import Derived.BigQuiet
namespace Go.Proofs.YtoohdfiddbfacaaGreatDoor
open Go.RowKit
set_option maxRecDepth 100000
set_option maxHeartbeats 25600000
structure FeedAt (w : World) (fb : Nat) (raw : ByteArray) : Prop where
 lt : fb < w.heap.size
 c0 : w.cell? ⟨fb, 0, none⟩ = some (.string raw)
 c1 : ∃ k : Nat, w.cell? ⟨fb, 1, none⟩ = some (.int .i64 (k : Int)) /\ k <= raw.size
 free : w.frozen? ⟨fb, 1, none⟩ = false
theorem FeedAt.keep {w w' : World} {fb : Nat} {raw : ByteArray} (h : FeedAt w fb raw) (e : w'.heap[fb]? = w.heap[fb]?) (hs : w.heap.size <= w'.heap.size) : FeedAt w' fb raw := by
 obtain ⟨a, b, ⟨k, c, d⟩, f⟩ := h
 exact ⟨Nat.lt_of_lt_of_le a hs, (World.cell?_of_block e).trans b, ⟨k, (World.cell?_of_block e).trans c, d⟩, (World.frozen?_of_block e).trans f⟩
theorem FeedAt.below {w w' : World} {fb : Nat} {raw : ByteArray} (h : FeedAt w fb raw) (hb : Below w.heap.size w w') : FeedAt w' fb raw := h.keep (hb.block fb h.lt) hb.size
def NextSaid (n fb : Nat) (raw : ByteArray) (w : World) (e : Ending) (w' : World) : Prop :=
 ∃ k : Nat, k < n /\ e = .returned (.int .i64 (k : Int)) /\ Only fb w w' /\ w'.heap.size = w.heap.size /\ FeedAt w' fb raw
theorem feednext_any (n : Nat) (hn : 0 < n) (hn2 : n <= 256) (fb : Nat) (raw : ByteArray) (w : World) (h : FeedAt w fb raw) (hr : raw.size <= 9223372036854775807) :
  Calls Tryz.prog 5 #[.pointer (some ⟨fb, 0, none⟩), .int .i64 (n : Int)] w (NextSaid n fb raw w) := by
 have o := Hid.hide h
 obtain ⟨i, r, ⟨k, s, e⟩, g⟩ := h
 have p : Hid (k <= raw.size /\ raw.size <= 9223372036854775807 /\ 0 < n /\ n <= 256) := ⟨e, hr, hn, hn2⟩
 have v : (n : Int) ≠ 0 := by omega
 have x : ((n : Int) == 0) = false := by simp; omega
 by_cases f : k < raw.size
 ·have t : (k : Int) < (raw.size : Int) := by omega
  obtain ⟨c, u⟩ : ∃ c, (raw[k]'f).toNat = c := ⟨_, rfl⟩
  have b : c < 256 := by rw [<- u]; exact UInt8.toNat_lt _
  have a : (wrap64 (c : Int)).tmod (n : Int) = ((c % n : Nat) : Int) := by
   rw [show wrap64 (c : Int) = (c : Int) by unfold wrap64; omega]
   rfl
  have q : Hid ((wrap64 (c : Int)).tmod (n : Int) = ((c % n : Nat) : Int)) := a
  clear a
  have d : c % n < n := Nat.mod_lt _ hn
  have y : wrap64 ((k : Int) + 1) = ((k + 1 : Nat) : Int) := by unfold wrap64; omega
  have m : Hid (c < 256 /\ c % n < n) := ⟨b, d⟩
  clear e hr hn hn2 b d
  go_enter Tryz.func5, Tryz.ntmps5
  go_wp2
  go_region
  go_wp2
  go_region
  go_wp2
  go_ret
  refine ⟨c % n, m.out.2, congrArg Ending.returned (val_int q.out), ?_, ?_, ?_⟩
  ·exact ⟨rfl, rfl, rfl, by simp, fun j _ l => Below.heap_setCell _ _ _ _ l⟩
  ·simp
  ·refine ⟨by simpa using i, (World.cell?_setCell_other _ _ _ _ (by simp)).trans r, ⟨k + 1, ?_, by omega⟩, (World.frozen?_setCell w _ _ _).trans g⟩
   exact World.cell?_setCell_same w _ _ s
 ·have t : (raw.size : Int) <= (k : Int) := by omega
  clear e hr hn hn2
  go_enter Tryz.func5, Tryz.ntmps5
  go_wp2
  go_region
  go_wp2
  go_ret
  exact ⟨0, p.out.2.2.1, rfl, .of_below (Below.refl _ _).drew, rfl, o.out.below (Below.refl _ _).drew⟩
end Go.Proofs.YtoohdfiddbfacaaGreatDoor
