/-
  Package twigskeep: pick, path (a key's nibbles), fine.
-/
import Derived.Test.YtjiikjpnlgogfaaGreatDoorText
import Derived.Test.YtjiikjpnlgogfaaGreatDoorNibG
import Derived.Test.YtjiikjpnlgogfaaGreatDoorSmaG
namespace Go.Proofs.YtjiikjpnlgogfaaGreatDoor
open Go.RowKit

theorem pick_val (c : Int) (h1 : -9223372036854775808 ≤ c) (h2 : c < 9223372036854775808) (h0 : c < 0) : wrap64 (-wrap64 (c + 1)) = -(c + 1) := by
  unfold wrap64
  omega
theorem pick_mod (c : Int) (n : Nat) (h : 0 ≤ c) (hn : 0 < n) : ∃ k : Nat, k < n ∧ c.tmod (n : Int) = (k : Int) := by
  refine ⟨(c % (n : Int)).toNat, ?_, ?_⟩
  · have := Int.emod_lt_of_pos c (show (0 : Int) < n by omega)
    have := Int.emod_nonneg c (show (n : Int) ≠ 0 by omega)
    omega
  · rw [Int.tmod_eq_emod_of_nonneg h]
    have := Int.emod_nonneg c (show (n : Int) ≠ 0 by omega)
    omega

set_option maxHeartbeats 800000 in
theorem kpick_any (c : Int) (n : Nat) (w : World) (h1 : -9223372036854775808 ≤ c) (h2 : c < 9223372036854775808) (hn : 0 < n) :
    Calls Tryz.prog 13 #[.int .i64 c, .int .i64 (n : Int)] w fun e w' => (∃ k : Nat, k < n ∧ e = .returned (.int .i64 (k : Int))) ∧ w' = w := by
  have hn0 : ¬ n = 0 := by omega
  by_cases h0 : c < 0
  · have e := pick_val c h1 h2 h0
    obtain ⟨k, hk, ek⟩ := pick_mod (-(c + 1)) n (by omega) hn
    have HK : Hid (k < n) := hk
    clear h1 h2 hn hk
    go_enter Tryz.func13, Tryz.ntmps13
    go_wp2
    go_ret
    exact ⟨⟨k, HK.out, rfl⟩, rfl⟩
  · obtain ⟨k, hk, ek⟩ := pick_mod c n (by omega) hn
    have HK : Hid (k < n) := hk
    have h0' : (0 : Int) ≤ c := by omega
    clear h1 h2 hn hk h0
    go_enter Tryz.func13, Tryz.ntmps13
    go_wp2
    go_ret
    exact ⟨⟨k, HK.out, rfl⟩, rfl⟩

theorem two_text (w : World) (y z : Nat) : (convert 111 9 (.slice (some ⟨w.heap.size, 0, none⟩) 2 2)).run Tryz.prog (w.alloc (.cells #[.int .u8 (y : Int), .int .u8 (z : Int)] 5)).drew = .ok (.string (textB [y, z])) (w.alloc (.cells #[.int .u8 (y : Int), .int .u8 (z : Int)] 5)).drew :=
  run_own_text _ 111 9 5 Tryz.underlying111 Tryz.underlying5 Tryz.underlying9 (Own.ofCells w 5 [y, z] (by unfold maxLen; simp)).drew

theorem boxed (w : World) (key : List Nat) (t : TypeId) (i : Nat) (hi : i < key.length) : (w.alloc (.cells (key.map encB).toArray t)).cell? ⟨w.heap.size, i, none⟩ = some (.int .u8 ((key[i] : Nat) : Int)) := by
  rw [World.cell?_alloc_new]
  simp [hi]

set_option maxRecDepth 100000 in
set_option maxHeartbeats 3200000 in
theorem path_any (key : List Nat) (hl : key.length = 32) (hb : ∀ x ∈ key, x < 256) (w : World) :
    Calls Tryz.prog 20 #[.agg (key.map encB).toArray] w fun e w' => e = .returned (.string (textB (nibs key))) ∧ Below w.heap.size w w' := by
  have HB : Hid (∀ t i (hi : i < key.length), (w.alloc (.cells (key.map encB).toArray t)).cell? ⟨w.heap.size, i, none⟩ = some (.int .u8 ((key[i] : Nat) : Int))) := fun t i hi => boxed w key t i hi
  have HT := Hid.hide two_text
  have HL : Hid (key.length = 32 ∧ ∀ x ∈ key, x < 256) := ⟨hl, hb⟩
  generalize hA : (key.map encB).toArray = A at HB ⊢
  clear hl hb hA
  go_enter Tryz.func20, Tryz.ntmps20
  go_wp2
  go_loopg [3, 4] 32 (fun gh u i wr => ∃ x : Nat, x ≤ 32 ∧ gh = 32 - x ∧ i = .int .i64 (x : Int) ∧ u = .string (textB (nibs (key.take x))) ∧ Below w.heap.size w wr ∧ w.heap.size < wr.heap.size ∧ ∀ i (hi : i < key.length), wr.cell? ⟨w.heap.size, i, none⟩ = some (.int .u8 ((key[i] : Nat) : Int)))
  case atStart => exact ⟨0, by omega, rfl, rfl, rfl, (Below.refl _ _).alloc (Nat.le_refl _) _, by simp, HB.out _⟩
  case round =>
    obtain ⟨x, hx, rfl, rfl, rfl, hbw, hs, hc⟩ := hrel
    by_cases hlt : x < 32
    · have hxk : x < key.length := by have := HL.out.1; omega
      have hxi : (x : Int) < 32 := by omega
      have c0 := hc x hxk
      obtain ⟨b, hbb⟩ : ∃ b, key[x] = b := ⟨_, rfl⟩
      have hb8 : b < 256 := by rw [← hbb]; exact HL.out.2 _ (List.getElem_mem hxk)
      rw [hbb] at c0
      have htk : nibs (key.take (x + 1)) = nibs (key.take x) ++ [b / 16, b % 16] := by
        rw [List.take_succ_eq_append_getElem hxk, hbb, nibs_snoc]
      have hlen : (nibs (key.take x)).length ≤ 64 := by rw [nibs_length, List.length_take]; omega
      have hadd := fun W => add_text (nibs (key.take x)) [b / 16, b % 16] (by simp only [List.length_cons, List.length_nil]; omega) W
      rw [← htk] at hadd
      have hcv := fun W => HT.out W (b / 16) (b % 16)
      have e1 : ((b / 16 : Nat) : Int) = (b : Int) / 16 := by omega
      have e2 : ((b % 16 : Nat) : Int) = (b : Int) % 16 := by omega
      rw [e1, e2] at hcv
      have A0 : Aside (Below w.heap.size w wr ∧ w.heap.size < wr.heap.size ∧ ∀ i (hi : i < key.length), wr.cell? ⟨w.heap.size, i, none⟩ = some (.int .u8 ((key[i] : Nat) : Int))) := ⟨hbw, hs, hc⟩
      have hne : ¬ w.heap.size = wr.heap.size := by omega
      clear hbw hc htk hlen e1 e2 hbb
      go_wp2_with fail
      go_region
      all_goals
        go_wp2
        go_roundg (32 - (x + 1))
        case measure => omega
        case rel =>
          refine ⟨x + 1, by omega, rfl, rfl, rfl, (A0.out.1.alloc A0.out.1.size _).drew, by simp; omega, fun i hi => ?_⟩
          exact (World.cell?_of_block (Below.heap_alloc _ _ _ A0.out.2.1)).trans (A0.out.2.2 i hi)
    · have hxe : x = 32 := by omega
      have hxi : ¬ (x : Int) < 32 := by omega
      have htk : key.take x = key := List.take_of_length_le (by have := HL.out.1; omega)
      rw [htk]
      have A0 : Aside (Below w.heap.size w wr) := hbw
      clear hbw hc hs
      go_wp2
      go_ret
      exact ⟨rfl, A0.out⟩
set_option maxRecDepth 100000 in
theorem fine_zero (w : World) : Calls Tryz.prog 31 #[.agg #[.int .i64 0, .int .i64 0, .int .i64 0, .int .i64 0]] w fun e w' => e = .returned (.bool true) ∧ Below w.heap.size w w' := by
  go_enter Tryz.func31, Tryz.ntmps31
  go_wp2
  go_ret
  exact ⟨rfl, (Below.refl _ _).alloc (Nat.le_refl _) _⟩
end Go.Proofs.YtjiikjpnlgogfaaGreatDoor
