/-
  The reference's turning of a number (turned).
-/
import Derived.Test.YtjiikjpnlgogfaaGreatDoorRot
import Derived.Deep.QuietTactic
import Derived.BigQuiet
namespace Go.Proofs.YtjiikjpnlgogfaaGreatDoor
open Go.RowKit

def turnedF (n s : Nat) : Nat := if s < 1 ∨ 63 < s then n else rotl n s

theorem run_shl64i {P : Program} (x k : Nat) (hk : k ≤ 64) (w : World) :
    Sem.run P (Op.shift .shl .u64 (x : Int) .i64 (k : Int)) w = .ok (.int .u64 ((x * 2 ^ k % 18446744073709551616 : Nat) : Int)) w := run_shl64 x k hk w
theorem run_shr64i {P : Program} (x k : Nat) (hk : k ≤ 64) (w : World) :
    Sem.run P (Op.shift .shr .u64 (x : Int) .i64 (k : Int)) w = .ok (.int .u64 ((x / 2 ^ k : Nat) : Int)) w := run_shr64 x k hk w

set_option maxHeartbeats 400000 in
theorem turned_any (x k : Nat) (w : World) (hx : x < 18446744073709551616) (hk : k < 64) :
    Calls Tryz.prog 211 #[.int .u64 (x : Int), .int .i64 (k : Int)] w fun e w' => e = .returned (.int .u64 ((turnedF x k : Nat) : Int)) ∧ ∃ q, w' = w.drewN q := by
  by_cases h0 : k = 0
  · subst h0
    go_enter Tryz.func211, Tryz.ntmps211
    go_wp2
    go_ret
    exact ⟨rfl, 0, rfl⟩
  · have e0 : turnedF x k = rotl x k := by unfold turnedF; rw [if_neg (by omega)]
    rw [e0]
    clear e0
    have h1 := fun w => run_shl64i (P := Tryz.prog) x k (by omega) w
    have h2 := fun w => run_shr64i (P := Tryz.prog) x (64 - k) (by omega) w
    rw [show ((64 - k : Nat) : Int) = 64 - (k : Int) by omega] at h2
    have d1 : ((k : Int) < 1) = False := by simp; omega
    have d2 : ((63 : Int) < (k : Int)) = False := by simp; omega
    go_enter Tryz.func211, Tryz.ntmps211
    go_wp2
    go_quiet (fail)
    go_wp2
    go_ret
    exact ⟨ret_int (rot_eq x k hx), nq, rfl⟩
end Go.Proofs.YtjiikjpnlgogfaaGreatDoor
