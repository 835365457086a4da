/-
  math/bits.RotateLeft64 and digest.lowestFirst, as plain functions on numbers.
-/
import Derived.Test.YtakidhihbgfjlaaGreatDoorSxBase
import Derived.Deep.LoopGhost
import Derived.Deep.RegionHeld3
import Derived.Deep.QuietTactic
import Derived.BigQuiet
import Derived.BigRegion
import Derived.Deep.MidRow
import Derived.Deep.DrawnRows
namespace Go.Proofs.YtakidhihbgfjlaaGreatDoor
open Go.RowKit
set_option maxRecDepth 100000
set_option maxHeartbeats 25600000
def rotl (x k : Nat) : Nat := (x * 2 ^ k % 18446744073709551616) ||| (x / 2 ^ (64 - k))
variable {P : Program}
theorem Qv3 (x k : Nat) (hk : k <= 64) (w : World) :
  Sem.run P (Op.shift .shl .u64 (x : Int) .u64 (k : Int)) w = .ok (.int .u64 ((x * 2 ^ k % 18446744073709551616 : Nat) : Int)) w := by
 have h : ¬ ((k : Int) < 0) := by omega
 have a : min k 64 = k := by omega
 simp only [Op.shift, h, if_false, Int.toNat_natCast, IntKind.bits, a, IntKind.wrap_u64]
 show Result.ok _ _ = _
 congr 2
theorem Qv4 (x k : Nat) (hk : k <= 64) (w : World) :
  Sem.run P (Op.shift .shr .u64 (x : Int) .u64 (k : Int)) w = .ok (.int .u64 ((x / 2 ^ k : Nat) : Int)) w := by
 have h : ¬ ((k : Int) < 0) := by omega
 have a : min k 64 = k := by omega
 simp only [Op.shift, h, if_false, Int.toNat_natCast, IntKind.bits, a]
 show Result.ok _ _ = _
 congr 2
 rw [Int.fdiv_eq_ediv_of_nonneg _ (by exact Int.le_of_lt (Int.pow_pos (by decide)))]
 push_cast
 rfl
theorem Qlm (x k : Nat) (hx : x < 18446744073709551616) : rotl x k < 18446744073709551616 := by
 have a : x * 2 ^ k % 18446744073709551616 < 2 ^ 64 := Nat.mod_lt _ (by decide)
 have b : x / 2 ^ (64 - k) < 2 ^ 64 := Nat.lt_of_le_of_lt (Nat.div_le_self _ _) (by omega)
 exact Nat.or_lt_two_pow a b
theorem QCt (x k : Nat) (hx : x < 18446744073709551616) :
  bits BinOp.or IntKind.u64 (IntKind.u64.wrap ((x : Int) * 2 ^ k)) ((x : Int) / 2 ^ (64 - k)) = ((rotl x k : Nat) : Int) := by
 have a : IntKind.u64.wrap ((x : Int) * 2 ^ k) = ((x * 2 ^ k % 18446744073709551616 : Nat) : Int) := by
  rw [IntKind.wrap_u64, Int.natCast_emod, Int.natCast_mul, Int.natCast_pow]; rfl
 have b : ((x : Int) / 2 ^ (64 - k)) = ((x / 2 ^ (64 - k) : Nat) : Int) := by push_cast; rfl
 rw [a, b, u64_or_nat _ _ (Nat.mod_lt _ (by decide)) (Nat.lt_of_le_of_lt (Nat.div_le_self _ _) hx)]
 rfl
theorem Qv5 (x k : Nat) (w : World) (hx : x < 18446744073709551616) (hk : k < 64) :
  Calls Tryz.prog 107 #[.int .u64 (x : Int), .int .i64 (k : Int)] w fun e w' => e = .returned (.int .u64 ((rotl x k : Nat) : Int)) /\ w' = w := by
 have c : bits BinOp.and IntKind.u64 (k : Int) 63 = (k : Int) := by
  have := u64_and_nat k 63 (by omega) (by omega)
  rw [show ((63 : Nat) : Int) = 63 from rfl] at this
  rw [this, nat_mask6]; congr 1; omega
 have b := fun w => Qv3 (P := Tryz.prog) x k (by omega) w
 have a := fun w => Qv4 (P := Tryz.prog) x (64 - k) (by omega) w
 rw [show ((64 - k : Nat) : Int) = 64 - (k : Int) by omega] at a
 go_enter Tryz.func107, Tryz.ntmps107
 go_wp2
 go_ret
 exact ⟨Qzv (QCt x k hx), rfl⟩
def lowFold (blk : Array Nat) (fr : Nat) : Nat -> Nat
 | 0 => 0
 | k + 1 => lowFold blk fr k ||| blk[fr + k]! * 2 ^ (8 * k) % 18446744073709551616
theorem Qg4 (blk : Array Nat) (fr k : Nat) : lowFold blk fr k < 18446744073709551616 := by
 induction k with
 | zero => simp [lowFold]
 | succ k ih => exact Nat.or_lt_two_pow (n := 64) ih (Nat.mod_lt _ (by decide))
theorem Qyd (blk : Array Nat) (fr k : Nat) :
  bits BinOp.or IntKind.u64 ((lowFold blk fr k : Nat) : Int) (IntKind.u64.wrap (((blk[fr + k]! : Nat) : Int) * 2 ^ (8 * k))) = ((lowFold blk fr (k + 1) : Nat) : Int) := by
 have a : IntKind.u64.wrap (((blk[fr + k]! : Nat) : Int) * 2 ^ (8 * k)) = ((blk[fr + k]! * 2 ^ (8 * k) % 18446744073709551616 : Nat) : Int) := by
  rw [IntKind.wrap_u64, Int.natCast_emod, Int.natCast_mul, Int.natCast_pow]; rfl
 rw [a, u64_or_nat _ _ (Qg4 _ _ _) (Nat.mod_lt _ (by decide))]
 rfl
theorem QAt (blk : Array Nat) (fr : Nat) (w : World) (hs : blk.size = 136) (hb : ∀ j : Nat, blk[j]! < 256) (hf : fr + 8 <= 136) :
  Calls Tryz.prog 97 #[.agg (blk.map encB), .int .i64 (fr : Int)] w fun e w' => e = .returned (.int .u64 ((lowFold blk fr 8 : Nat) : Int)) /\ w' = w.alloc (.cells (blk.map encB) 146) := by
 have b : ∀ j, j < 136 -> (w.alloc (.cells (blk.map encB) 146)).cell? ⟨w.heap.size, j, none⟩ = some (encB blk[j]!) := by
  intro j m
  simp [hs, m]
 go_enter Tryz.func97, Tryz.ntmps97
 go_wp2
 generalize hw1 : w.alloc (.cells (blk.map encB) 146) = w1 at b ⊢
 have h : Hid (w.alloc (.cells (blk.map encB) 146) = w1) := hw1
 clear hw1
 go_loop [5, 7] (fun n i => ∃ k : Nat, k <= 8 /\ i = .int .i64 k /\ n = .int .u64 ((lowFold blk fr k : Nat) : Int)) (fun _ i => 8 - (intOf i).toNat)
 case atStart => exact ⟨0, Nat.zero_le _, rfl, rfl⟩
 case round =>
  obtain ⟨k, q, rfl, rfl⟩ := hrel
  by_cases p : k < 8
  ·have l := b (fr + k) (by omega)
   have o := hb (fr + k)
   have a := Qyd blk fr k
   clear b hb
   obtain ⟨x, c⟩ : ∃ x, blk[fr + k]! = x := ⟨_, rfl⟩
   obtain ⟨y, d⟩ : ∃ y, lowFold blk fr k = y := ⟨_, rfl⟩
   rw [c] at l o a
   rw [d] at a ⊢
   have g := (show Hid _ from a)
   clear c d a
   go_wp2
   go_round
   case rel => exact ⟨k + 1, by omega, by go_num, Qas g.out⟩
   case measure => simp [intOf]; omega
  ·have f : k = 8 := by omega
   subst f
   go_wp2
   go_ret
   exact ⟨rfl, h.out.symm⟩
def colsAt (L : Array Nat) : Nat -> Array Nat
 | 0 => #[0, 0, 0, 0, 0]
 | k + 1 => (colsAt L k).set! (k / 5) ((colsAt L k)[k / 5]! ^^^ L[k]!)
theorem Qey (L : Array Nat) (k : Nat) : (colsAt L k).size = 5 := by
 induction k with
 | zero => rfl
 | succ k ih => simp [colsAt, ih]
def Small (L : Array Nat) : Prop := ∀ j : Nat, L[j]! < 18446744073709551616
variable {L : Array Nat}
theorem Qd0 (h : Small L) (i x : Nat) (hx : x < 18446744073709551616) : Small (L.set! i x) := by
 intro j
 by_cases a : j < L.size
 ·by_cases e : i = j
  ·subst e; rw [Qd5 L i x a]; exact hx
  ·rw [Qcp L i j x e]; exact h j
 ·have : (L.set! i x)[j]! = 0 := by
   simp [a]
  rw [this]; decide
variable {b : Nat}
theorem Qi8 {a : Nat} (ha : a < 18446744073709551616) (hb : b < 18446744073709551616) : a ^^^ b < 18446744073709551616 := Nat.xor_lt_two_pow (n := 64) ha hb
theorem Qdz (h : Small L) (k : Nat) : Small (colsAt L k) := by
 induction k with
 | zero =>
  intro j
  show (#[0, 0, 0, 0, 0] : Array Nat)[j]! < _
  match j with
  | 0 => decide
  | 1 => decide
  | 2 => decide
  | 3 => decide
  | 4 => decide
  | j + 5 => simp
 | succ k ih => exact Qd0 ih _ _ (Qi8 (ih _) (h _))
def joinAt (c L : Array Nat) : Nat -> Array Nat
 | 0 => L
 | k + 1 => (joinAt c L k).set! k ((joinAt c L k)[k]! ^^^ (c[(k / 5 + 4) % 5]! ^^^ rotl c[(k / 5 + 1) % 5]! 1))
theorem Qi9 (c L : Array Nat) (k : Nat) : (joinAt c L k).size = L.size := by
 induction k with
 | zero => rfl
 | succ k ih => simp [joinAt, ih]
theorem Qgo {c : Array Nat} (hc : Small c) (h : Small L) (k : Nat) : Small (joinAt c L k) := by
 induction k with
 | zero => exact h
 | succ k ih => exact Qd0 ih _ _ (Qi8 (ih _) (Qi8 (hc _) (Qlm _ _ (hc _))))
def theta (L : Array Nat) : Array Nat := joinAt (colsAt L 25) L 25
theorem Qye (x : Nat) (w : World) (hx : x < 18446744073709551616) :
  Calls Tryz.prog 107 #[.int .u64 (x : Int), .int .i64 1] w fun e w' => e = .returned (.int .u64 ((rotl x 1 : Nat) : Int)) /\ w' = w :=
 Qv5 x 1 w hx (by omega)
theorem Qv6 (b off : Nat) (L : Array Nat) (w : World) (hL : L.size = 25) (hS : Small L) (hb : b < w.heap.size) (hR : Row encL w b off L) :
  Calls Tryz.prog 98 #[.pointer (some ⟨b, off, none⟩)] w fun e w' => e = .returned (.tuple #[]) /\ Step b off (off + 25) w w' /\ Row encL w' b off (theta L) := by
 have X : Row encL (w.alloc (.cells #[.int .u64 0, .int .u64 0, .int .u64 0, .int .u64 0, .int .u64 0] 142)) w.heap.size 0 (colsAt L 0) := by
  have e : Array.map encL #[0, 0, 0, 0, 0] = #[.int .u64 0, .int .u64 0, .int .u64 0, .int .u64 0, .int .u64 0] := by simp
  have h := Row.new (enc := encL) w #[0, 0, 0, 0, 0] 142
  rw [e] at h
  exact h
 go_enter Tryz.func98, Tryz.ntmps98
 go_wp2
 go_loopg [8] 5 (fun g i wr => ∃ x : Nat, x <= 5 /\ g = 5 - x /\ i = .int .i64 x /\ w.heap.size < wr.heap.size /\ Step b off (off + 25) w wr /\ Row encL wr w.heap.size 0 (colsAt L (5 * x)) /\ Row encL wr b off L)
 case atStart => exact ⟨0, by omega, rfl, rfl, by simp, (Step.refl _ _ _ _).alloc hb _, X, hR.alloc hb _⟩
 case round =>
  obtain ⟨x, hx, rfl, rfl, p, f, d, a⟩ := hrel
  clear X hR
  by_cases K : x < 5
  ·go_wp2
   go_loopg [11] 5 (fun g i wr => ∃ y : Nat, y <= 5 /\ g = 5 - y /\ i = .int .i64 y /\ w.heap.size < wr.heap.size /\ Step b off (off + 25) w wr /\ Row encL wr w.heap.size 0 (colsAt L (5 * x + y)) /\ Row encL wr b off L)
   case atStart => exact ⟨0, by omega, rfl, rfl, p, f, d, a⟩
   case round =>
    obtain ⟨y, hy, rfl, rfl, p, f, d, a⟩ := hrel
    by_cases Q : y < 5
    ·obtain ⟨F, S⟩ := d x (by rw [Qey]; omega)
     obtain ⟨B, G⟩ := a (5 * x + y) (by omega)
     rw [Nat.zero_add] at F S
     rw [show off + (5 * x + y) = off + x * 5 + y by omega] at B G
     have P := Qdz hS (5 * x + y) x
     have C := hS (5 * x + y)
     have n : colsAt L (5 * x + (y + 1)) = (colsAt L (5 * x + y)).set! x ((colsAt L (5 * x + y))[x]! ^^^ L[5 * x + y]!) := by
      show colsAt L (5 * x + y + 1) = _
      simp only [colsAt]
      rw [show (5 * x + y) / 5 = x by omega]
     have o := u64_xor_nat _ _ P C
     obtain ⟨u, s⟩ : ∃ u, (colsAt L (5 * x + y))[x]! = u := ⟨_, rfl⟩
     obtain ⟨v, r⟩ : ∃ v, L[5 * x + y]! = v := ⟨_, rfl⟩
     rw [s] at F n o
     rw [r] at B n o
     have q : Aside (Step b off (off + 25) w wr /\ Row encL wr w.heap.size 0 (colsAt L (5 * x + y)) /\ Row encL wr b off L /\ colsAt L (5 * x + (y + 1)) = (colsAt L (5 * x + y)).set! x (u ^^^ v) /\ bits .xor .u64 (u : Int) (v : Int) = ((u ^^^ v : Nat) : Int) /\ Small L) := ⟨f, d, a, n, o, hS⟩
     clear s r f d a n o P C hS
     go_wp2
     go_region
     go_wp2
     obtain ⟨f, d, a, n, o, hS⟩ := q.out
     go_roundg (5 - (y + 1))
     case measure => omega
     case rel =>
      refine ⟨y + 1, by omega, rfl, by go_num, by simpa using p, (f.drew).setOther hb (by simp) _, ?_, ?_⟩
      ·rw [n]
       exact d.drew.set (by simp) (by rw [Qey]; omega) _ (Qas o)
      ·exact a.drew.setOther _ (by simp; omega) _
    ·have E : y = 5 := by omega
     subst E
     have q : Aside (Step b off (off + 25) w wr /\ Row encL wr w.heap.size 0 (colsAt L (5 * x + 5)) /\ Row encL wr b off L /\ Small L) := ⟨f, d, a, hS⟩
     clear f d a hS
     go_wp2
     obtain ⟨f, d, a, hS⟩ := q.out
     go_roundg (5 - (x + 1))
     case measure => omega
     case rel => exact ⟨x + 1, by omega, rfl, by go_num, p, f, d, a⟩
  ·have D : x = 5 := by omega
   rw [D] at d
   have aa : (5 : Int) <= (x : Int) := by omega
   clear K D
   have q : Aside (Step b off (off + 25) w wr /\ Row encL wr w.heap.size 0 (colsAt L (5 * 5)) /\ Row encL wr b off L /\ Small L) := ⟨f, d, a, hS⟩
   clear f d a hS
   go_wp2
   obtain ⟨f, d, a, hS⟩ := q.out
   obtain ⟨c, I⟩ : ∃ c, colsAt L (5 * 5) = c := ⟨_, rfl⟩
   have t : c.size = 5 := by rw [<- I]; exact Qey _ _
   have m : Small c := by rw [<- I]; exact Qdz hS _
   rw [I] at d
   have Z : Hid (∀ k, k = 25 -> colsAt L k = c) := fun k T => by subst T; exact I
   clear I
   go_loopg [29] 5 (fun g i wr => ∃ x : Nat, x <= 5 /\ g = 5 - x /\ i = .int .i64 x /\ w.heap.size < wr.heap.size /\ Step b off (off + 25) w wr /\ Row encL wr w.heap.size 0 c /\ Row encL wr b off (joinAt c L (5 * x)))
   case atStart => exact ⟨0, by omega, rfl, rfl, p, f, d, a⟩
   case round =>
    obtain ⟨l, ac, rfl, rfl, p, f, d, a⟩ := hrel
    clear hx
    by_cases K : l < 5
    ·obtain ⟨F, S⟩ := d ((l + 4) % 5) (by omega)
     obtain ⟨B, G⟩ := d ((l + 1) % 5) (by omega)
     rw [Nat.zero_add] at F B
     have O := m ((l + 4) % 5)
     have H := m ((l + 1) % 5)
     obtain ⟨u, s⟩ : ∃ u, c[(l + 4) % 5]! = u := ⟨_, rfl⟩
     obtain ⟨v, r⟩ : ∃ v, c[(l + 1) % 5]! = v := ⟨_, rfl⟩
     rw [s] at F O
     rw [r] at B H
     have q : Aside (Step b off (off + 25) w wr /\ Row encL wr w.heap.size 0 c /\ Row encL wr b off (joinAt c L (5 * l)) /\ c[(l + 4) % 5]! = u /\ c[(l + 1) % 5]! = v /\ Small L /\ Small c /\ c.size = 5) := ⟨f, d, a, s, r, hS, m, t⟩
     clear s r f d a hS m S G t O
     go_wp2
     go_quiet ((go_at_call 107; exact Calls.quiet_of_same (Qye _ _ H)))
     go_wp2
     obtain ⟨f, d, a, s, r, hS, m, t⟩ := q.out
     clear F B H q
     have z := Qi9 c L
     have J := fun k => Qgo m hS k
     have R : u ^^^ rotl v 1 < 18446744073709551616 := by rw [<- s, <- r]; exact Qi8 (m _) (Qlm _ _ (m _))
     have M : bits .xor .u64 (u : Int) ((rotl v 1 : Nat) : Int) = ((u ^^^ rotl v 1 : Nat) : Int) := u64_xor_nat _ _ (by rw [<- s]; exact m _) (by rw [<- r]; exact Qlm _ _ (m _))
     have W : Hid (bits .xor .u64 (u : Int) ((rotl v 1 : Nat) : Int) = ((u ^^^ rotl v 1 : Nat) : Int)) := M
     have N : Hid (u ^^^ rotl v 1 < 18446744073709551616) := R
     rw [M]
     have V : Hid (c[(l + 4) % 5]! ^^^ rotl c[(l + 1) % 5]! 1 = u ^^^ rotl v 1) := by show _ = _; rw [s, r]
     clear M R s r W
     obtain ⟨j, Y⟩ : ∃ j, u ^^^ rotl v 1 = j := ⟨_, rfl⟩
     rw [Y] at N V ⊢
     clear Y
     go_loopg [44] 5 (fun g i wr => ∃ y : Nat, y <= 5 /\ g = 5 - y /\ i = .int .i64 y /\ w.heap.size < wr.heap.size /\ Step b off (off + 25) w wr /\ Row encL wr w.heap.size 0 c /\ Row encL wr b off (joinAt c L (5 * l + y)))
     case atStart => exact ⟨0, by omega, rfl, rfl, p, f.drewN _, d.drewN _, a.drewN _⟩
     case round =>
      obtain ⟨y, hy, rfl, rfl, p, f, d, a⟩ := hrel
      by_cases Q : y < 5
      ·obtain ⟨B, G⟩ := a (5 * l + y) (by rw [z]; omega)
       rw [show off + (5 * l + y) = off + l * 5 + y by omega] at B G
       have C := J (5 * l + y) (5 * l + y)
       have n : joinAt c L (5 * l + (y + 1)) = (joinAt c L (5 * l + y)).set! (5 * l + y) ((joinAt c L (5 * l + y))[5 * l + y]! ^^^ j) := by
        show joinAt c L (5 * l + y + 1) = _
        simp only [joinAt]
        rw [show (5 * l + y) / 5 = l by omega, V.out]
       have o := u64_xor_nat _ _ C N.out
       obtain ⟨v, r⟩ : ∃ v, (joinAt c L (5 * l + y))[5 * l + y]! = v := ⟨_, rfl⟩
       rw [r] at B n o
       have q : Aside (Step b off (off + 25) w wr /\ Row encL wr w.heap.size 0 c /\ Row encL wr b off (joinAt c L (5 * l + y)) /\ joinAt c L (5 * l + (y + 1)) = (joinAt c L (5 * l + y)).set! (5 * l + y) (v ^^^ j) /\ bits .xor .u64 (v : Int) (j : Int) = ((v ^^^ j : Nat) : Int) /\ Small L /\ Small c /\ ∀ k, (joinAt c L k).size = L.size) := ⟨f, d, a, n, o, hS, m, z⟩
       clear r f d a n o C hS m t z J
       go_wp2
       go_region
       go_wp2
       obtain ⟨f, d, a, n, o, hS, m, z⟩ := q.out
       go_roundg (5 - (y + 1))
       case measure => omega
       case rel =>
        refine ⟨y + 1, by omega, rfl, by go_num, by simpa using p, f.drew.set (by omega) (by omega) _, d.drew.setOther _ (by simp; omega) _, ?_⟩
        rw [n]
        exact a.drew.set (by omega) (by rw [z]; omega) _ (Qas o)
      ·have E : y = 5 := by omega
       rw [E] at a
       have U : (5 : Int) <= (y : Int) := by omega
       have q : Aside (Step b off (off + 25) w wr /\ Row encL wr w.heap.size 0 c /\ Row encL wr b off (joinAt c L (5 * l + 5)) /\ Small L /\ Small c) := ⟨f, d, a, hS, m⟩
       clear f d a hS m t z J E Q
       go_wp2
       obtain ⟨f, d, a, hS, m⟩ := q.out
       go_roundg (5 - (l + 1))
       case measure => omega
       case rel => exact ⟨l + 1, by omega, rfl, by go_num, p, f, d, a⟩
    ·have D : l = 5 := by omega
     rw [D] at a
     have U : (5 : Int) <= (l : Int) := by omega
     have q : Aside (Step b off (off + 25) w wr /\ ∀ k, k = 25 -> Row encL wr b off (joinAt c L k)) := ⟨f, fun k T => by subst T; exact a⟩
     clear f d a hS m t D K
     go_wp2
     go_end0
     obtain ⟨f, a⟩ := q.out
     refine ⟨rfl, f, ?_⟩
     have := a 25 rfl
     rw [<- Z.out 25 rfl] at this
     exact this
variable {enc : Nat -> Value} {w : World} {off : Nat} {d : Array Nat}
theorem Row.range (h : Row enc w b off d) : w.rangeAt b off (d.toList.map enc) := by
 intro j v c
 have a : j < d.size := by
  have := (List.getElem?_eq_some_iff.1 c).1
  simpa using this
 rw [(h j a).1]
 rw [<- c]
 simp [a]
theorem Row.of_setCells (d : Array Nat) (h : w.there b off d.size) : Row enc (w.setCells b off (d.toList.map enc)) b off d := by
 intro j a
 have c : w.there b off (d.toList.map enc).length := by simpa using h
 refine ⟨World.rangeAt_setCells_same w b off _ c j _ ?_, by rw [World.frozen?_setCells]; exact (h j a).2⟩
 simp [a]
theorem Qa8 (b : Nat) : ∀ (vs : List Value) (o : Nat) (w : World) (k : Nat), k ≠ b -> (w.setCells b o vs).heap[k]? = w.heap[k]?
 | [], _, _, _, _ => rfl
 | v :: r, o, w, k, h => by
  rw [World.setCells, Qa8 b r (o + 1) _ k h]
  exact Below.heap_setCell w _ v k h
theorem Qa9 (b : Nat) : ∀ (vs : List Value) (o : Nat) (w : World), (w.setCells b o vs).heap.size = w.heap.size /\ (w.setCells b o vs).os = w.os /\ (w.setCells b o vs).tape = w.tape /\ (w.setCells b o vs).output = w.output
 | [], _, _ => ⟨rfl, rfl, rfl, rfl⟩
 | v :: r, o, w => by
  rw [World.setCells]
  obtain ⟨h1, h2, h3, h4⟩ := Qa9 b r (o + 1) (w.setCell ⟨b, o, none⟩ v)
  exact ⟨h1.trans (by simp [World.setCell]), h2, h3, h4⟩
theorem Row.setCellsOther (h : Row enc w b off d) (b' o : Nat) (hb : b ≠ b') (vs : List Value) : Row enc (w.setCells b' o vs) b off d :=
 h.of_eq (Qa8 b' vs o w b hb)
variable {w1 : World}
theorem Step.setCellsOther {lo hi : Nat} (h : Step b lo hi w w1) (hb : b < w.heap.size) {b' o : Nat} (hp : w.heap.size <= b') (vs : List Value) : Step b lo hi w (w1.setCells b' o vs) := by
 obtain ⟨d, e, f, g⟩ := Qa9 b' vs o w1
 exact ⟨e.trans h.os, f.trans h.tape, g.trans h.output, by rw [d]; exact h.size, fun k i c => (Qa8 b' vs o w1 k (by omega)).trans (h.block k i c),
  fun a j => (World.cell?_of_block (Qa8 b' vs o w1 b (by omega))).trans (h.cell a j), fun a => (World.frozen?_of_block (Qa8 b' vs o w1 b (by omega))).trans (h.froz a)⟩
theorem Qaf (d : Array Nat) (k : IntKind) : ∀ v ∈ d.toList.map (fun n : Nat => Value.int k (n : Int)), v.oneCell' = true := by
 intro v a
 simp only [List.mem_map] at a
 obtain ⟨n, _, rfl⟩ := a
 rfl
attribute [local go_sem ↓] Go.wp_at_zero Go.wp_at_succ
def turnsT : Array Nat := #[0, 36, 3, 41, 18, 1, 44, 10, 45, 2, 62, 6, 43, 15, 61, 28, 55, 25, 21, 56, 27, 20, 39, 8, 14]
def keysT : Array Nat := #[1, 32898, 9223372036854808714, 9223372039002292224, 32907, 2147483649, 9223372039002292353, 9223372036854808585, 138, 136, 2147516425, 2147483658, 2147516555, 9223372036854775947, 9223372036854808713, 9223372036854808579, 9223372036854808578, 9223372036854775936, 32778, 9223372039002259466, 9223372039002292353, 9223372036854808704, 2147483649, 9223372039002292232]
def Tabs (w : World) : Prop :=
 (∀ j, j < 25 -> w.cell? ⟨14, j, none⟩ = some (.int .i64 ((turnsT[j]! : Nat) : Int))) /\ (∀ j, j < 24 -> w.cell? ⟨13, j, none⟩ = some (.int .u64 ((keysT[j]! : Nat) : Int)))
theorem Tabs.of_blocks (h : Tabs w) (h7 : w1.heap[13]? = w.heap[13]?) (h9 : w1.heap[14]? = w.heap[14]?) : Tabs w1 :=
 ⟨fun j hj => (World.cell?_of_block h9).trans (h.1 j hj), fun j hj => (World.cell?_of_block h7).trans (h.2 j hj)⟩
theorem Tabs.step {lo hi : Nat} (h : Tabs w) (hs : Step b lo hi w w1) (hb : 15 <= b) (hw : 15 <= w.heap.size) : Tabs w1 :=
 h.of_blocks (hs.block 13 (by omega) (by omega)) (hs.block 14 (by omega) (by omega))
theorem Tabs.below (h : Tabs w) (hs : Below w.heap.size w w1) (hw : 15 <= w.heap.size) : Tabs w1 :=
 h.of_blocks (hs.block 13 (by omega)) (hs.block 14 (by omega))
theorem Qv7 (j : Nat) : turnsT[j]! < 64 := by
 by_cases h : j < 25
 ·have : ∀ i : Fin 25, turnsT[i.val]! < 64 := by decide
  exact this ⟨j, h⟩
 ·have : turnsT[j]! = 0 := by
   have a : turnsT.size = 25 := rfl
   simp [a, h]
  rw [this]; decide
def piAt (L : Array Nat) : Nat -> Array Nat
 | 0 => L
 | k + 1 => (piAt L k).set! (5 * (k % 5) + (2 * (k / 5) + 3 * (k % 5)) % 5) (rotl L[k]! turnsT[k]!)
theorem Qfl (L : Array Nat) (k : Nat) : (piAt L k).size = L.size := by
 induction k with
 | zero => rfl
 | succ k ih => simp [piAt, ih]
theorem Qg5 (h : Small L) (k : Nat) : Small (piAt L k) := by
 induction k with
 | zero => exact h
 | succ k ih => exact Qd0 ih _ _ (Qlm _ _ (h _))
theorem Qqb : (Tryz.prog.info? 143).map (·.size) = some 25 := by kernel_rfl
theorem Qac (w : World) (C : Array Value) (t : TypeId) (n : Nat) (h : n = C.size) : (w.alloc (.cells C t)).there w.heap.size 0 n := by
 intro j a
 refine ⟨?_, World.frozen?_alloc_new _ _ _ _⟩
 rw [Nat.zero_add, World.cell?_alloc_new]
 have : j < C.size := by omega
 simp [this]
theorem Qar (n : Int) (h1 : -9223372036854775808 <= n) (h2 : n < 9223372036854775808) : IntKind.i64.wrap n = n := by
 simp only [IntKind.wrap, IntKind.bits, IntKind.signed]
 simp
 omega
theorem QCu (b off : Nat) (L : Array Nat) (w : World) (hL : L.size = 25) (hS : Small L) (hb : b < w.heap.size) (hR : Row encL w b off L) (hT : Tabs w) (hb10 : 15 <= b) :
  Calls Tryz.prog 99 #[.pointer (some ⟨b, off, none⟩)] w fun e w' => e = .returned (.tuple #[]) /\ Step b off (off + 25) w w' /\ Row encL w' b off (piAt L 25) := by
 have s := hR.range
 have h : (Tryz.prog.info? 143).map (·.size) = some (L.toList.map encL).length := by rw [Qqb]; simp [hL]
 have o : (Tryz.prog.info? 143).map (·.size) = some (L.toList.map encL).toArray.size := by rw [Qqb]; simp [hL]
 have n := all_oneCell_toArray (Qaf L .u64)
 have m : (L.toList.map encL).toArray.size = 25 := by simp [hL]
 have P : Aside (Tabs w /\ Row encL w b off L /\ Small L /\ L.size = 25) := ⟨hT, hR, hS, hL⟩
 clear hT hR hS hL
 go_enter Tryz.func99, Tryz.ntmps99
 go_wp2_with (first
  | (refine wpList_load_mid rfl 143 _ rfl b off rfl (L.toList.map encL) _ s Tryz.underlying143 rfl h ?_)
  | (refine wpList_store_mid rfl 143 _ _ rfl w.heap.size 0 (L.toList.map encL).toArray rfl rfl (Qac _ _ _ _ m) o n ?_))
 obtain ⟨hT, hR, hS, hL⟩ := P.out
 generalize hw0 : w.alloc (.cells _ 143) = w0
 have F : Step b off (off + 25) w w0 := by rw [<- hw0]; exact (Step.refl _ _ _ _).alloc hb _
 have H : w.heap.size < w0.heap.size := by rw [<- hw0]; simp
 have J : w0.there w.heap.size 0 L.size := by rw [<- hw0, hL]; exact Qac _ _ _ _ rfl
 have D : Row encL w0 b off L := by rw [<- hw0]; exact hR.alloc hb _
 clear hw0 hR s h o n m P
 generalize hw1 : w0.setCells w.heap.size 0 (L.toList.map encL) = w1
 have G : Step b off (off + 25) w w1 := by rw [<- hw1]; exact F.setCellsOther hb (Nat.le_refl _) _
 have I : w.heap.size < w1.heap.size := by rw [<- hw1, (Qa9 _ _ _ _).1]; exact H
 have p : Row encL w1 w.heap.size 0 L := by rw [<- hw1]; exact Row.of_setCells L J
 have E : Row encL w1 b off L := by rw [<- hw1]; exact D.setCellsOther _ _ (by omega) _
 have O : 15 <= w.heap.size := by omega
 clear hw1 F H J D
 go_loopg [9] 5 (fun g i wr => ∃ x : Nat, x <= 5 /\ g = 5 - x /\ i = .int .i64 x /\ w.heap.size < wr.heap.size /\ Step b off (off + 25) w wr /\ Row encL wr w.heap.size 0 L /\ Row encL wr b off (piAt L (5 * x)))
 case atStart => exact ⟨0, by omega, rfl, rfl, I, G, p, E⟩
 case round =>
  obtain ⟨x, hx, rfl, rfl, h, c, d, a⟩ := hrel
  clear I G p E
  by_cases S : x < 5
  ·have Q : Aside (Step b off (off + 25) w wr /\ Row encL wr w.heap.size 0 L /\ Row encL wr b off (piAt L (5 * x)) /\ Tabs w /\ Small L /\ L.size = 25) := ⟨c, d, a, hT, hS, hL⟩
   clear c d a hT hS hL
   have hd : decide ((x : Int) < 5) = true := decide_eq_true (by omega)
   go_wp2
   obtain ⟨c, d, a, hT, hS, hL⟩ := Q.out
   go_loopg [12] 5 (fun g i wr => ∃ y : Nat, y <= 5 /\ g = 5 - y /\ i = .int .i64 y /\ w.heap.size < wr.heap.size /\ Step b off (off + 25) w wr /\ Row encL wr w.heap.size 0 L /\ Row encL wr b off (piAt L (5 * x + y)))
   case atStart => exact ⟨0, by omega, rfl, rfl, h, c, d, a⟩
   case round =>
    obtain ⟨y, hy, rfl, rfl, h, c, d, a⟩ := hrel
    clear Q
    by_cases T : y < 5
    ·have r := Qfl L (5 * x + y)
     obtain ⟨K, f1⟩ := d (5 * x + y) (by omega)
     obtain ⟨R, f3⟩ := a (5 * y + (2 * x + 3 * y) % 5) (by omega)
     have l := (hT.step c hb10 O).1 (5 * x + y) (by omega)
     have t := Qv7 (5 * x + y)
     have q := hS (5 * x + y)
     rw [show 0 + (5 * x + y) = x * 5 + y by omega] at K f1
     rw [show 5 * x + y = x * 5 + y by omega] at l
     rw [show off + (5 * y + (2 * x + 3 * y) % 5) = off + y * 5 + (2 * x + 3 * y) % 5 by omega] at R f3
     have f : piAt L (5 * x + (y + 1)) = (piAt L (5 * x + y)).set! (5 * y + (2 * x + 3 * y) % 5) (rotl L[5 * x + y]! turnsT[5 * x + y]!) := by
      show piAt L (5 * x + y + 1) = _
      simp only [piAt]
      rw [show (5 * x + y) / 5 = x by omega, show (5 * x + y) % 5 = y by omega]
     rw [show x * 5 + y = 5 * x + y by omega] at l
     obtain ⟨u, U⟩ : ∃ u, L[5 * x + y]! = u := ⟨_, rfl⟩
     obtain ⟨v, V⟩ : ∃ v, turnsT[5 * x + y]! = v := ⟨_, rfl⟩
     obtain ⟨z, W⟩ : ∃ z, (piAt L (5 * x + y))[5 * y + (2 * x + 3 * y) % 5]! = z := ⟨_, rfl⟩
     rw [U] at K f q
     rw [V] at l f t
     rw [W] at R
     rw [show 5 * x + y = x * 5 + y by omega] at l
     have j : Aside (Step b off (off + 25) w wr /\ Row encL wr w.heap.size 0 L /\ Row encL wr b off (piAt L (5 * x + y)) /\ piAt L (5 * x + (y + 1)) = (piAt L (5 * x + y)).set! (5 * y + (2 * x + 3 * y) % 5) (rotl u v) /\ (piAt L (5 * x + y)).size = 25) := ⟨c, d, a, f, by omega⟩
     clear U V W c d a f r hS hL hT
     have Z : IntKind.i64.wrap (2 * (x : Int)) = 2 * (x : Int) := Qar _ (by omega) (by omega)
     have a2 : IntKind.i64.wrap (3 * (y : Int)) = 3 * (y : Int) := Qar _ (by omega) (by omega)
     have a3 : IntKind.i64.wrap (2 * (x : Int) + 3 * (y : Int)) = 2 * (x : Int) + 3 * (y : Int) := Qar _ (by omega) (by omega)
     have i0 : (2 * (x : Int) + 3 * (y : Int)).tmod 5 = (2 * (x : Int) + 3 * (y : Int)) % 5 := Int.tmod_eq_emod_of_nonneg (by omega)
     have i1 : (0 : Int) <= (2 * (x : Int) + 3 * (y : Int)) % 5 := by omega
     have i2 : (2 * (x : Int) + 3 * (y : Int)) % 5 < 5 := by omega
     have i3 : ((2 * (x : Int) + 3 * (y : Int)) % 5).toNat = (2 * x + 3 * y) % 5 := by omega
     go_wp2
     have X : (⟨b, off + y * 5 + (2 * x + 3 * y) % 5, none⟩ : Addr) ≠ ⟨w.heap.size, x * 5 + y, none⟩ := fun e => by have N := congrArg Addr.block e; simp only at N; omega
     have Y : (⟨b, off + y * 5 + (2 * x + 3 * y) % 5, none⟩ : Addr) ≠ ⟨14, x * 5 + y, none⟩ := fun e => by have N := congrArg Addr.block e; simp only at N; omega
     have ae : (x : Int) < 5 := by omega
     go_region_held3 (fun w' => w'.cell? ⟨w.heap.size, x * 5 + y, none⟩ = some (encL u) /\ w'.cell? ⟨14, x * 5 + y, none⟩ = some (.int .i64 (v : Int))) (first | (go_keep; done) | exact ⟨(World.cell?_setCell_other _ _ _ _ X).trans K, (World.cell?_setCell_other _ _ _ _ Y).trans l⟩) (first | (go_at_call 107; refine (Qv5 _ _ _ q t).mono ?_; rintro e w' ⟨rfl, rfl⟩))
     clear Z a2 a3 i0 i1 i2 i3 X Y
     go_wp2
     obtain ⟨c, d, a, f, r⟩ := j.out
     go_roundg (5 - (y + 1))
     case measure => omega
     case rel =>
      refine ⟨y + 1, by omega, rfl, by go_num, by simpa using h, c.drew.set (by omega) (by omega) _, d.drew.setOther _ (by simp; omega) _, ?_⟩
      rw [f]
      exact a.drew.set (by omega) (by omega) _ rfl
    ·have C : y = 5 := by omega
     rw [C] at a
     have aa : (5 : Int) <= (y : Int) := by omega
     have j : Aside (Step b off (off + 25) w wr /\ Row encL wr w.heap.size 0 L /\ Row encL wr b off (piAt L (5 * x + 5))) := ⟨c, d, a⟩
     clear c d a hS hT hL C T
     go_wp2
     obtain ⟨c, d, a⟩ := j.out
     go_roundg (5 - (x + 1))
     case measure => omega
     case rel => exact ⟨x + 1, by omega, rfl, by go_num, h, c, d, a⟩
  ·have B : x = 5 := by omega
   rw [B] at a
   have ac : (5 : Int) <= (x : Int) := by omega
   have j : Aside (Step b off (off + 25) w wr /\ ∀ k, k = 25 -> Row encL wr b off (piAt L k)) := ⟨c, fun k hk => by subst hk; exact a⟩
   clear c d a hS hT hL B S
   go_wp2
   go_end0
   obtain ⟨c, a⟩ := j.out
   exact ⟨rfl, c, a 25 rfl⟩
end Go.Proofs.YtakidhihbgfjlaaGreatDoor
