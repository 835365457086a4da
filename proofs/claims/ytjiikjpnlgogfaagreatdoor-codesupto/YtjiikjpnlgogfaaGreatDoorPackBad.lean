/-
  Pack of package nibbles and of package twigs, where a byte is above 15.
-/
import Derived.Test.YtjiikjpnlgogfaaGreatDoorUnpack
import Derived.Test.YtjiikjpnlgogfaaGreatDoorRefG
namespace Go.Proofs.YtjiikjpnlgogfaaGreatDoor
open Go.RowKit

set_option maxRecDepth 100000 in
set_option maxHeartbeats 1600000 in
theorem pack_bad (s : ByteArray) (leaf : Bool) (sent : Nat → Addr) (w : World) (hF : Faults w sent) (hs : s.size ≤ 4194304) (hn : ¬ ∀ x ∈ bytesOf s, x < 16) :
    Calls Tryz.prog 87 #[.string s, .bool leaf] w fun e w' => e = .returned (.tuple #[.string ⟨#[]⟩, .iface 423 (.pointer (some (sent 6)))]) ∧ Below w.heap.size w w' := by
  have hg : w.cell? ⟨4, 0, none⟩ = some (.iface 423 (.pointer (some (sent 6)))) := hF.var 6 (by decide)
  have hbl := bytesOf_length s
  have AS : Aside (s.size ≤ 4194304 ∧ (¬ ∀ x ∈ bytesOf s, x < 16) ∧ (bytesOf s).length = s.size) := ⟨hs, hn, hbl⟩
  clear hs hn hbl hF
  go_enter Tryz.func87, Tryz.ntmps87
  go_wp2
  go_loopg [9] s.size (fun g i wr => ∃ x : Nat, x ≤ s.size ∧ g = s.size - x ∧ i = .int .i64 (x : Int) ∧ wr = w ∧ ∀ y ∈ (bytesOf s).take x, y < 16)
  case atStart => exact ⟨0, by omega, rfl, rfl, rfl, by simp⟩
  case round =>
    obtain ⟨x, hx, rfl, rfl, rfl, hall⟩ := hrel
    by_cases hlt : x < s.size
    · obtain ⟨c, hc⟩ : ∃ c, (s[x]'hlt).toNat = c := ⟨_, rfl⟩
      have hxi : (x : Int) < (s.size : Int) := by omega
      by_cases hc16 : c < 16
      · have hci : (c : Int) ≤ 15 := by omega
        have HX : Hid (wrap64 ((x : Int) + 1) = ((x + 1 : Nat) : Int)) := wrap64_succ x (by have := AS.out.1; omega)
        have A : Aside (∀ y ∈ (bytesOf s).take (x + 1), y < 16) := by
          intro y hy
          have hl := AS.out.2.2
          rw [List.take_succ_eq_append_getElem (by omega)] at hy
          rcases List.mem_append.1 hy with hy | hy
          · exact hall y hy
          · rw [List.mem_singleton.1 hy, ← getElem!_pos (bytesOf s) x (by omega), ← byte_at s x hlt, hc]
            exact hc16
        clear hc16 hall
        go_wp2
        go_roundg (s.size - (x + 1))
        case measure => omega
        case rel => exact ⟨x + 1, by omega, rfl, val_int HX.out, rfl, A.out⟩
      · have hci : (15 : Int) < (c : Int) := by omega
        clear hc16 hall
        go_wp2
        go_region
        all_goals
          go_wp2
          go_ret2
          exact ⟨rfl, (Below.refl _ _).drew⟩
    · exact absurd (fun y hy => hall y (by rw [List.take_of_length_le (by have := AS.out.2.2; omega)]; exact hy)) AS.out.2.1

set_option maxRecDepth 100000 in
theorem tpack_bad (s : ByteArray) (leaf : Bool) (sent : Nat → Addr) (w : World) (hF : Faults w sent) (hs : s.size ≤ 4194304) (hn : ¬ ∀ x ∈ bytesOf s, x < 16) :
    Calls Tryz.prog 51 #[.string s, .bool leaf] w fun e w' => e = .returned (.tuple #[.string ⟨#[]⟩, .int .i64 6]) ∧ Below w.heap.size w w' := by
  have HU := Hid.hide (pack_bad s leaf sent w hF hs hn)
  have HN : Hid (∀ W, Below w.heap.size w W → Calls Tryz.prog 49 #[.iface 423 (.pointer (some (sent 6)))] W fun e w' => e = .returned (.int .i64 6) ∧ Below W.heap.size W w') := fun W hW => errno_any sent (.base 6) (by show 6 ∈ nums; decide) W (hF.below hW)
  clear hs hn hF
  go_enter Tryz.func51, Tryz.ntmps51
  go_wp2_with fail
  refine HU.out.mono ?_
  rintro e w1 ⟨rfl, hb1⟩
  have A1 : Aside (Below w.heap.size w w1) := hb1
  clear hb1
  go_wp2_with fail
  refine (HN.out _ A1.out).mono ?_
  rintro e w2 ⟨rfl, hb2⟩
  have A2 : Aside (Below w.heap.size w w2) := Below.behind A1.out hb2
  clear hb2
  go_wp2
  go_ret2
  exact ⟨rfl, A2.out⟩

/-- Pack, whole. -/
theorem tpack_any (s : ByteArray) (leaf : Bool) (sent : Nat → Addr) (w : World) (hF : Faults w sent) (hs : s.size ≤ 4194304) :
    Calls Tryz.prog 51 #[.string s, .bool leaf] w fun e w' => e = .returned (.tuple #[.string (textB (packF (bytesOf s) leaf).1), .int .i64 (((packF (bytesOf s) leaf).2 : Nat) : Int)]) ∧ Below w.heap.size w w' := by
  unfold packF
  by_cases h : ∀ x ∈ bytesOf s, x < 16
  · rw [if_pos h]
    exact tpack_ok s leaf w hs h
  · rw [if_neg h]
    exact tpack_bad s leaf sent w hF hs h
end Go.Proofs.YtjiikjpnlgogfaaGreatDoor
