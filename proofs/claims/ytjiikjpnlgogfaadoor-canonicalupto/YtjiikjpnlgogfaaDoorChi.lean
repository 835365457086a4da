/-
  The third step of a round of the sponge (joinRows): what it makes of the 25 lanes.
-/
import Derived.Test.YtjiikjpnlgogfaaDoorPi
namespace Go.Proofs.YtjiikjpnlgogfaaDoor
open Go.RowKit
attribute [local go_sem ↓] Go.wp_at_zero Go.wp_at_succ

def andNot (a b : Nat) : Nat := a &&& (18446744073709551615 - b)

theorem andNot_lt {a b : Nat} (ha : a < 18446744073709551616) : andNot a b < 18446744073709551616 := Nat.lt_of_le_of_lt Nat.and_le_left ha

def chiAt (L : Array Nat) : Nat → Array Nat
  | 0 => L
  | k + 1 => (chiAt L k).set! k (L[k]! ^^^ andNot L[5 * ((k / 5 + 2) % 5) + k % 5]! L[5 * ((k / 5 + 1) % 5) + k % 5]!)

theorem chiAt_size (L : Array Nat) (k : Nat) : (chiAt L k).size = L.size := by
  induction k with
  | zero => rfl
  | succ k ih => simp [chiAt, ih]

theorem chiAt_small {L : Array Nat} (h : Small L) (k : Nat) : Small (chiAt L k) := by
  induction k with
  | zero => exact h
  | succ k ih => exact small_set ih _ _ (xor_lt (h _) (andNot_lt (h _)))

theorem chi_eq (a b c : Nat) (ha : a < 18446744073709551616) (hb : b < 18446744073709551616) (hc : c < 18446744073709551616) :
    bits .xor .u64 (a : Int) (bits .andNot .u64 (b : Int) (c : Int)) = ((a ^^^ andNot b c : Nat) : Int) := by
  rw [u64_andNot_nat b c hb hc]
  exact u64_xor_nat _ _ ha (andNot_lt hb)

set_option maxRecDepth 100000 in
set_option maxHeartbeats 1200000 in
theorem chi_any (b off : Nat) (L : Array Nat) (w : World) (hL : L.size = 25) (hS : Small L) (hb : b < w.heap.size) (hR : Row encL w b off L) :
    Calls Tryd.prog 54 #[.pointer (some ⟨b, off, none⟩)] w fun e w' => e = .returned (.tuple #[]) ∧ Step b off (off + 25) w w' ∧ Row encL w' b off (chiAt L 25) := by
  have hrg := hR.range
  have hsz : (Tryd.prog.info? 65).map (·.size) = some (L.toList.map encL).length := by rw [size65]; simp [hL]
  have hsz2 : (Tryd.prog.info? 65).map (·.size) = some (L.toList.map encL).toArray.size := by rw [size65]; simp [hL]
  have hone := all_oneCell_toArray (oneCell_enc L .u64)
  have hlen : (L.toList.map encL).toArray.size = 25 := by simp [hL]
  have A0 : Aside (Row encL w b off L ∧ Small L ∧ L.size = 25) := ⟨hR, hS, hL⟩
  clear hR hS hL
  go_enter Tryd.func54, Tryd.ntmps54
  go_wp2_with (first
    | (refine wpList_load_mid rfl 65 _ rfl b off rfl (L.toList.map encL) _ hrg Tryd.underlying65 rfl hsz ?_)
    | (refine wpList_store_mid rfl 65 _ _ rfl w.heap.size 0 (L.toList.map encL).toArray rfl rfl (there_new _ _ _ _ hlen) hsz2 hone ?_))
  obtain ⟨hR, hS, hL⟩ := A0.out
  generalize hw0 : w.alloc (.cells _ 65) = w0
  have st0 : Step b off (off + 25) w w0 := by rw [← hw0]; exact (Step.refl _ _ _ _).alloc hb _
  have sz0 : w.heap.size < w0.heap.size := by rw [← hw0]; simp
  have th0 : w0.there w.heap.size 0 L.size := by rw [← hw0, hL]; exact there_new _ _ _ _ rfl
  have ro0 : Row encL w0 b off L := by rw [← hw0]; exact hR.alloc hb _
  clear hw0 hR hrg hsz hsz2 hone hlen A0
  generalize hw1 : w0.setCells w.heap.size 0 (L.toList.map encL) = w1
  have st1 : Step b off (off + 25) w w1 := by rw [← hw1]; exact st0.setCellsOther hb (Nat.le_refl _) _
  have sz1 : w.heap.size < w1.heap.size := by rw [← hw1, (size_setCells _ _ _ _).1]; exact sz0
  have old1 : Row encL w1 w.heap.size 0 L := by rw [← hw1]; exact Row.of_setCells L th0
  have ro1 : Row encL w1 b off L := by rw [← hw1]; exact ro0.setCellsOther _ _ (by omega) _
  clear hw1 st0 sz0 th0 ro0
  go_loopg [9] 5 (fun g i wr => ∃ x : Nat, x ≤ 5 ∧ g = 5 - x ∧ i = .int .i64 x ∧ w.heap.size < wr.heap.size ∧ Step b off (off + 25) w wr ∧ Row encL wr w.heap.size 0 L ∧ Row encL wr b off (chiAt L (5 * x)))
  case atStart => exact ⟨0, by omega, rfl, rfl, sz1, st1, old1, ro1⟩
  case round =>
    obtain ⟨x, hx, rfl, rfl, hsz, hst, hco, hla⟩ := hrel
    clear sz1 st1 old1 ro1
    by_cases hlt : x < 5
    · have A1 : Aside (Step b off (off + 25) w wr ∧ Row encL wr w.heap.size 0 L ∧ Row encL wr b off (chiAt L (5 * x)) ∧ Small L ∧ L.size = 25) := ⟨hst, hco, hla, hS, hL⟩
      clear hst hco hla hS hL
      have hd : decide ((x : Int) < 5) = true := decide_eq_true (by omega)
      go_wp2
      obtain ⟨hst, hco, hla, hS, hL⟩ := A1.out
      go_loopg [12] 5 (fun g i wr => ∃ y : Nat, y ≤ 5 ∧ g = 5 - y ∧ i = .int .i64 y ∧ w.heap.size < wr.heap.size ∧ Step b off (off + 25) w wr ∧ Row encL wr w.heap.size 0 L ∧ Row encL wr b off (chiAt L (5 * x + y)))
      case atStart => exact ⟨0, by omega, rfl, rfl, hsz, hst, hco, hla⟩
      case round =>
        obtain ⟨y, hy, rfl, rfl, hsz, hst, hco, hla⟩ := hrel
        clear A1
        by_cases hly : y < 5
        · have hps := chiAt_size L (5 * x + y)
          obtain ⟨c1, f1⟩ := hco (5 * x + y) (by omega)
          obtain ⟨c2, f2⟩ := hco (5 * ((x + 2) % 5) + y) (by omega)
          obtain ⟨c3, f3⟩ := hco (5 * ((x + 1) % 5) + y) (by omega)
          obtain ⟨c4, f4⟩ := hla (5 * x + y) (by omega)
          have hcol : chiAt L (5 * x + (y + 1)) = (chiAt L (5 * x + y)).set! (5 * x + y) (L[5 * x + y]! ^^^ andNot L[5 * ((x + 2) % 5) + y]! L[5 * ((x + 1) % 5) + y]!) := by
            show chiAt L (5 * x + y + 1) = _
            simp only [chiAt]
            rw [show (5 * x + y) / 5 = x by omega, show (5 * x + y) % 5 = y by omega]
          have hxor := chi_eq _ _ _ (hS (5 * x + y)) (hS (5 * ((x + 2) % 5) + y)) (hS (5 * ((x + 1) % 5) + y))
          rw [show 0 + (5 * x + y) = x * 5 + y by omega] at c1 f1
          rw [show 0 + (5 * ((x + 2) % 5) + y) = (x + 2) % 5 * 5 + y by omega] at c2 f2
          rw [show 0 + (5 * ((x + 1) % 5) + y) = (x + 1) % 5 * 5 + y by omega] at c3 f3
          rw [show off + (5 * x + y) = off + x * 5 + y by omega] at c4 f4
          obtain ⟨u1, hu1⟩ : ∃ u, L[5 * x + y]! = u := ⟨_, rfl⟩
          obtain ⟨u2, hu2⟩ : ∃ u, L[5 * ((x + 2) % 5) + y]! = u := ⟨_, rfl⟩
          obtain ⟨u3, hu3⟩ : ∃ u, L[5 * ((x + 1) % 5) + y]! = u := ⟨_, rfl⟩
          obtain ⟨z, hz⟩ : ∃ z, (chiAt L (5 * x + y))[5 * x + y]! = z := ⟨_, rfl⟩
          rw [hu1] at c1
          rw [hu2] at c2
          rw [hu3] at c3
          rw [hu1, hu2, hu3] at hcol hxor
          rw [hz] at c4
          have AS : Aside (Step b off (off + 25) w wr ∧ Row encL wr w.heap.size 0 L ∧ Row encL wr b off (chiAt L (5 * x + y)) ∧ chiAt L (5 * x + (y + 1)) = (chiAt L (5 * x + y)).set! (5 * x + y) (u1 ^^^ andNot u2 u3) ∧ (chiAt L (5 * x + y)).size = 25 ∧ bits .xor .u64 (u1 : Int) (bits .andNot .u64 (u2 : Int) (u3 : Int)) = ((u1 ^^^ andNot u2 u3 : Nat) : Int)) := ⟨hst, hco, hla, hcol, by omega, hxor⟩
          clear hu1 hu2 hu3 hz hst hco hla hcol hps hS hL hxor
          have n1 : (⟨b, off + x * 5 + y, none⟩ : Addr) ≠ ⟨w.heap.size, x * 5 + y, none⟩ := fun e => by have e2 := congrArg Addr.block e; simp only at e2; omega
          have n2 : (⟨b, off + x * 5 + y, none⟩ : Addr) ≠ ⟨w.heap.size, (x + 2) % 5 * 5 + y, none⟩ := fun e => by have e2 := congrArg Addr.block e; simp only at e2; omega
          have n3 : (⟨b, off + x * 5 + y, none⟩ : Addr) ≠ ⟨w.heap.size, (x + 1) % 5 * 5 + y, none⟩ := fun e => by have e2 := congrArg Addr.block e; simp only at e2; omega
          have a2 : IntKind.i64.wrap ((x : Int) + 2) = (x : Int) + 2 := wrap_fits _ (by omega) (by omega)
          have b2 : ((x : Int) + 2).tmod 5 = ((x : Int) + 2) % 5 := Int.tmod_eq_emod_of_nonneg (by omega)
          have d2 : (0 : Int) ≤ ((x : Int) + 2) % 5 := by omega
          have e2 : ((x : Int) + 2) % 5 < 5 := by omega
          have g2 : (((x : Int) + 2) % 5).toNat = (x + 2) % 5 := by omega
          have a1 : IntKind.i64.wrap ((x : Int) + 1) = (x : Int) + 1 := wrap_fits _ (by omega) (by omega)
          have b1 : ((x : Int) + 1).tmod 5 = ((x : Int) + 1) % 5 := Int.tmod_eq_emod_of_nonneg (by omega)
          have d1 : (0 : Int) ≤ ((x : Int) + 1) % 5 := by omega
          have e1 : ((x : Int) + 1) % 5 < 5 := by omega
          have g1 : (((x : Int) + 1) % 5).toNat = (x + 1) % 5 := by omega
          go_wp2
          have hxi : (x : Int) < 5 := by omega
          go_region_held3 (fun w' => w'.cell? ⟨w.heap.size, x * 5 + y, none⟩ = some (encL u1) ∧ w'.cell? ⟨w.heap.size, (x + 2) % 5 * 5 + y, none⟩ = some (encL u2) ∧ w'.cell? ⟨w.heap.size, (x + 1) % 5 * 5 + y, none⟩ = some (encL u3)) (first | (go_keep; done) | exact ⟨(World.cell?_setCell_other _ _ _ _ n1).trans c1, (World.cell?_setCell_other _ _ _ _ n2).trans c2, (World.cell?_setCell_other _ _ _ _ n3).trans c3⟩) (fail)
          clear n1 n2 n3 a1 a2 b1 b2 d1 d2 e1 e2 g1 g2
          go_wp2
          obtain ⟨hst, hco, hla, hcol, hps, hxor⟩ := AS.out
          go_roundg (5 - (y + 1))
          case measure => omega
          case rel =>
            refine ⟨y + 1, by omega, rfl, by go_num, by simpa using hsz, hst.drew.set (by omega) (by omega) _, hco.drew.setOther _ (by simp; omega) _, ?_⟩
            rw [hcol]
            exact hla.drew.set (by omega) (by omega) _ (val_int hxor)
        · have hy5 : y = 5 := by omega
          rw [hy5] at hla
          have hnl2 : (5 : Int) ≤ (y : Int) := by omega
          have AS : Aside (Step b off (off + 25) w wr ∧ Row encL wr w.heap.size 0 L ∧ Row encL wr b off (chiAt L (5 * x + 5))) := ⟨hst, hco, hla⟩
          clear hst hco hla hS hL hy5 hly
          go_wp2
          obtain ⟨hst, hco, hla⟩ := AS.out
          go_roundg (5 - (x + 1))
          case measure => omega
          case rel => exact ⟨x + 1, by omega, rfl, by go_num, hsz, hst, hco, hla⟩
    · have hx5 : x = 5 := by omega
      rw [hx5] at hla
      have hnl : (5 : Int) ≤ (x : Int) := by omega
      have AS : Aside (Step b off (off + 25) w wr ∧ ∀ k, k = 25 → Row encL wr b off (chiAt L k)) := ⟨hst, fun k hk => by subst hk; exact hla⟩
      clear hst hco hla hS hL hx5 hlt
      go_wp2
      go_end0
      obtain ⟨hst, hla⟩ := AS.out
      exact ⟨rfl, hst, hla 25 rfl⟩
end Go.Proofs.YtjiikjpnlgogfaaDoor
