/-
  The second step of a round of the sponge (turnAndMove): what it makes of the 25 lanes.
-/
import Derived.Test.YtjiikjpnlgogfaaDoorMid
import Derived.Deep.DrawnRows
namespace Go.Proofs.YtjiikjpnlgogfaaDoor
open Go.RowKit
attribute [local go_sem ↓] Go.wp_at_zero Go.wp_at_succ

/-- How far each lane is turned, by x and then y. -/
def turnsT : Array Nat := #[0, 36, 3, 41, 18, 1, 44, 10, 45, 2, 62, 6, 43, 15, 61, 28, 55, 25, 21, 56, 27, 20, 39, 8, 14]
/-- What each round joins to the first lane. -/
def keysT : Array Nat := #[1, 32898, 9223372036854808714, 9223372039002292224, 32907, 2147483649, 9223372039002292353, 9223372036854808585, 138, 136, 2147516425, 2147483658, 2147516555, 9223372036854775947, 9223372036854808713, 9223372036854808579, 9223372036854808578, 9223372036854775936, 32778, 9223372039002259466, 9223372039002292353, 9223372036854808704, 2147483649, 9223372039002292232]

/-- The two tables lie in their variables' cells. -/
def Tabs (w : World) : Prop :=
  (∀ j, j < 25 → w.cell? ⟨15, j, none⟩ = some (.int .i64 ((turnsT[j]! : Nat) : Int))) ∧ (∀ j, j < 24 → w.cell? ⟨13, j, none⟩ = some (.int .u64 ((keysT[j]! : Nat) : Int)))

theorem Tabs.of_blocks {w w1 : World} (h : Tabs w) (h7 : w1.heap[13]? = w.heap[13]?) (h9 : w1.heap[15]? = w.heap[15]?) : Tabs w1 :=
  ⟨fun j hj => (World.cell?_of_block h9).trans (h.1 j hj), fun j hj => (World.cell?_of_block h7).trans (h.2 j hj)⟩

theorem Tabs.step {b lo hi : Nat} {w w1 : World} (h : Tabs w) (hs : Step b lo hi w w1) (hb : 16 ≤ b) (hw : 16 ≤ w.heap.size) : Tabs w1 :=
  h.of_blocks (hs.block 13 (by omega) (by omega)) (hs.block 15 (by omega) (by omega))

theorem Tabs.below {w w1 : World} (h : Tabs w) (hs : Below w.heap.size w w1) (hw : 16 ≤ w.heap.size) : Tabs w1 :=
  h.of_blocks (hs.block 13 (by omega)) (hs.block 15 (by omega))

theorem turnsT_lt (j : Nat) : turnsT[j]! < 64 := by
  by_cases h : j < 25
  · have : ∀ i : Fin 25, turnsT[i.val]! < 64 := by decide
    exact this ⟨j, h⟩
  · have : turnsT[j]! = 0 := by
      have hs : turnsT.size = 25 := rfl
      simp [hs, h]
    rw [this]; decide

def piAt (L : Array Nat) : Nat → Array Nat
  | 0 => L
  | k + 1 => (piAt L k).set! (5 * (k % 5) + (2 * (k / 5) + 3 * (k % 5)) % 5) (rotl L[k]! turnsT[k]!)

theorem piAt_size (L : Array Nat) (k : Nat) : (piAt L k).size = L.size := by
  induction k with
  | zero => rfl
  | succ k ih => simp [piAt, ih]

theorem piAt_small {L : Array Nat} (h : Small L) (k : Nat) : Small (piAt L k) := by
  induction k with
  | zero => exact h
  | succ k ih => exact small_set ih _ _ (rotl_lt _ _ (h _))

theorem size65 : (Tryd.prog.info? 65).map (·.size) = some 25 := by kernel_rfl

theorem there_new (w : World) (C : Array Value) (t : TypeId) (n : Nat) (h : n = C.size) : (w.alloc (.cells C t)).there w.heap.size 0 n := by
  intro j hj
  refine ⟨?_, World.frozen?_alloc_new _ _ _ _⟩
  rw [Nat.zero_add, World.cell?_alloc_new]
  have : j < C.size := by omega
  simp [this]

theorem wrap_fits (n : Int) (h1 : -9223372036854775808 ≤ n) (h2 : n < 9223372036854775808) : IntKind.i64.wrap n = n := by
  simp only [IntKind.wrap, IntKind.bits, IntKind.signed]
  simp
  omega

set_option maxRecDepth 100000 in
set_option maxHeartbeats 800000 in
theorem pi_any (b off : Nat) (L : Array Nat) (w : World) (hL : L.size = 25) (hS : Small L) (hb : b < w.heap.size) (hR : Row encL w b off L) (hT : Tabs w) (hb10 : 16 ≤ b) :
    Calls Tryd.prog 53 #[.pointer (some ⟨b, off, none⟩)] w fun e w' => e = .returned (.tuple #[]) ∧ Step b off (off + 25) w w' ∧ Row encL w' b off (piAt L 25) := by
  have hrg := hR.range
  have hsz : (Tryd.prog.info? 65).map (·.size) = some (L.toList.map encL).length := by rw [size65]; simp [hL]
  have hsz2 : (Tryd.prog.info? 65).map (·.size) = some (L.toList.map encL).toArray.size := by rw [size65]; simp [hL]
  have hone := all_oneCell_toArray (oneCell_enc L .u64)
  have hlen : (L.toList.map encL).toArray.size = 25 := by simp [hL]
  have A0 : Aside (Tabs w ∧ Row encL w b off L ∧ Small L ∧ L.size = 25) := ⟨hT, hR, hS, hL⟩
  clear hT hR hS hL
  go_enter Tryd.func53, Tryd.ntmps53
  go_wp2_with (first
    | (refine wpList_load_mid rfl 65 _ rfl b off rfl (L.toList.map encL) _ hrg Tryd.underlying65 rfl hsz ?_)
    | (refine wpList_store_mid rfl 65 _ _ rfl w.heap.size 0 (L.toList.map encL).toArray rfl rfl (there_new _ _ _ _ hlen) hsz2 hone ?_))
  obtain ⟨hT, hR, hS, hL⟩ := A0.out
  generalize hw0 : w.alloc (.cells _ 65) = w0
  have st0 : Step b off (off + 25) w w0 := by rw [← hw0]; exact (Step.refl _ _ _ _).alloc hb _
  have sz0 : w.heap.size < w0.heap.size := by rw [← hw0]; simp
  have th0 : w0.there w.heap.size 0 L.size := by rw [← hw0, hL]; exact there_new _ _ _ _ rfl
  have ro0 : Row encL w0 b off L := by rw [← hw0]; exact hR.alloc hb _
  clear hw0 hR hrg hsz hsz2 hone hlen A0
  generalize hw1 : w0.setCells w.heap.size 0 (L.toList.map encL) = w1
  have st1 : Step b off (off + 25) w w1 := by rw [← hw1]; exact st0.setCellsOther hb (Nat.le_refl _) _
  have sz1 : w.heap.size < w1.heap.size := by rw [← hw1, (size_setCells _ _ _ _).1]; exact sz0
  have old1 : Row encL w1 w.heap.size 0 L := by rw [← hw1]; exact Row.of_setCells L th0
  have ro1 : Row encL w1 b off L := by rw [← hw1]; exact ro0.setCellsOther _ _ (by omega) _
  have hw10 : 16 ≤ w.heap.size := by omega
  clear hw1 st0 sz0 th0 ro0
  go_loopg [9] 5 (fun g i wr => ∃ x : Nat, x ≤ 5 ∧ g = 5 - x ∧ i = .int .i64 x ∧ w.heap.size < wr.heap.size ∧ Step b off (off + 25) w wr ∧ Row encL wr w.heap.size 0 L ∧ Row encL wr b off (piAt L (5 * x)))
  case atStart => exact ⟨0, by omega, rfl, rfl, sz1, st1, old1, ro1⟩
  case round =>
    obtain ⟨x, hx, rfl, rfl, hsz, hst, hco, hla⟩ := hrel
    clear sz1 st1 old1 ro1
    by_cases hlt : x < 5
    · have A1 : Aside (Step b off (off + 25) w wr ∧ Row encL wr w.heap.size 0 L ∧ Row encL wr b off (piAt L (5 * x)) ∧ Tabs w ∧ Small L ∧ L.size = 25) := ⟨hst, hco, hla, hT, hS, hL⟩
      clear hst hco hla hT hS hL
      have hd : decide ((x : Int) < 5) = true := decide_eq_true (by omega)
      go_wp2
      obtain ⟨hst, hco, hla, hT, hS, hL⟩ := A1.out
      go_loopg [12] 5 (fun g i wr => ∃ y : Nat, y ≤ 5 ∧ g = 5 - y ∧ i = .int .i64 y ∧ w.heap.size < wr.heap.size ∧ Step b off (off + 25) w wr ∧ Row encL wr w.heap.size 0 L ∧ Row encL wr b off (piAt L (5 * x + y)))
      case atStart => exact ⟨0, by omega, rfl, rfl, hsz, hst, hco, hla⟩
      case round =>
        obtain ⟨y, hy, rfl, rfl, hsz, hst, hco, hla⟩ := hrel
        clear A1
        by_cases hly : y < 5
        · have hps := piAt_size L (5 * x + y)
          obtain ⟨c1, f1⟩ := hco (5 * x + y) (by omega)
          obtain ⟨c3, f3⟩ := hla (5 * y + (2 * x + 3 * y) % 5) (by omega)
          have c2 := (hT.step hst hb10 hw10).1 (5 * x + y) (by omega)
          have htl := turnsT_lt (5 * x + y)
          have hlb := hS (5 * x + y)
          rw [show 0 + (5 * x + y) = x * 5 + y by omega] at c1 f1
          rw [show 5 * x + y = x * 5 + y by omega] at c2
          rw [show off + (5 * y + (2 * x + 3 * y) % 5) = off + y * 5 + (2 * x + 3 * y) % 5 by omega] at c3 f3
          have hcol : piAt L (5 * x + (y + 1)) = (piAt L (5 * x + y)).set! (5 * y + (2 * x + 3 * y) % 5) (rotl L[5 * x + y]! turnsT[5 * x + y]!) := by
            show piAt L (5 * x + y + 1) = _
            simp only [piAt]
            rw [show (5 * x + y) / 5 = x by omega, show (5 * x + y) % 5 = y by omega]
          rw [show x * 5 + y = 5 * x + y by omega] at c2
          obtain ⟨u, hu⟩ : ∃ u, L[5 * x + y]! = u := ⟨_, rfl⟩
          obtain ⟨v, hv⟩ : ∃ v, turnsT[5 * x + y]! = v := ⟨_, rfl⟩
          obtain ⟨z, hz⟩ : ∃ z, (piAt L (5 * x + y))[5 * y + (2 * x + 3 * y) % 5]! = z := ⟨_, rfl⟩
          rw [hu] at c1 hcol hlb
          rw [hv] at c2 hcol htl
          rw [hz] at c3
          rw [show 5 * x + y = x * 5 + y by omega] at c2
          have AS : Aside (Step b off (off + 25) w wr ∧ Row encL wr w.heap.size 0 L ∧ Row encL wr b off (piAt L (5 * x + y)) ∧ piAt L (5 * x + (y + 1)) = (piAt L (5 * x + y)).set! (5 * y + (2 * x + 3 * y) % 5) (rotl u v) ∧ (piAt L (5 * x + y)).size = 25) := ⟨hst, hco, hla, hcol, by omega⟩
          clear hu hv hz hst hco hla hcol hps hS hL hT
          have a1 : IntKind.i64.wrap (2 * (x : Int)) = 2 * (x : Int) := wrap_fits _ (by omega) (by omega)
          have a2 : IntKind.i64.wrap (3 * (y : Int)) = 3 * (y : Int) := wrap_fits _ (by omega) (by omega)
          have a3 : IntKind.i64.wrap (2 * (x : Int) + 3 * (y : Int)) = 2 * (x : Int) + 3 * (y : Int) := wrap_fits _ (by omega) (by omega)
          have i0 : (2 * (x : Int) + 3 * (y : Int)).tmod 5 = (2 * (x : Int) + 3 * (y : Int)) % 5 := Int.tmod_eq_emod_of_nonneg (by omega)
          have i1 : (0 : Int) ≤ (2 * (x : Int) + 3 * (y : Int)) % 5 := by omega
          have i2 : (2 * (x : Int) + 3 * (y : Int)) % 5 < 5 := by omega
          have i3 : ((2 * (x : Int) + 3 * (y : Int)) % 5).toNat = (2 * x + 3 * y) % 5 := by omega
          go_wp2
          have n1 : (⟨b, off + y * 5 + (2 * x + 3 * y) % 5, none⟩ : Addr) ≠ ⟨w.heap.size, x * 5 + y, none⟩ := fun e => by have e2 := congrArg Addr.block e; simp only at e2; omega
          have n2 : (⟨b, off + y * 5 + (2 * x + 3 * y) % 5, none⟩ : Addr) ≠ ⟨15, x * 5 + y, none⟩ := fun e => by have e2 := congrArg Addr.block e; simp only at e2; omega
          have hxi : (x : Int) < 5 := by omega
          go_region_held3 (fun w' => w'.cell? ⟨w.heap.size, x * 5 + y, none⟩ = some (encL u) ∧ w'.cell? ⟨15, x * 5 + y, none⟩ = some (.int .i64 (v : Int))) (first | (go_keep; done) | exact ⟨(World.cell?_setCell_other _ _ _ _ n1).trans c1, (World.cell?_setCell_other _ _ _ _ n2).trans c2⟩) (first | (go_at_call 69; refine (rot_any _ _ _ hlb htl).mono ?_; rintro e w' ⟨rfl, rfl⟩))
          clear a1 a2 a3 i0 i1 i2 i3 n1 n2
          go_wp2
          obtain ⟨hst, hco, hla, hcol, hps⟩ := AS.out
          go_roundg (5 - (y + 1))
          case measure => omega
          case rel =>
            refine ⟨y + 1, by omega, rfl, by go_num, by simpa using hsz, hst.drew.set (by omega) (by omega) _, hco.drew.setOther _ (by simp; omega) _, ?_⟩
            rw [hcol]
            exact hla.drew.set (by omega) (by omega) _ rfl
        · have hy5 : y = 5 := by omega
          rw [hy5] at hla
          have hnl2 : (5 : Int) ≤ (y : Int) := by omega
          have AS : Aside (Step b off (off + 25) w wr ∧ Row encL wr w.heap.size 0 L ∧ Row encL wr b off (piAt L (5 * x + 5))) := ⟨hst, hco, hla⟩
          clear hst hco hla hS hT hL hy5 hly
          go_wp2
          obtain ⟨hst, hco, hla⟩ := AS.out
          go_roundg (5 - (x + 1))
          case measure => omega
          case rel => exact ⟨x + 1, by omega, rfl, by go_num, hsz, hst, hco, hla⟩
    · have hx5 : x = 5 := by omega
      rw [hx5] at hla
      have hnl : (5 : Int) ≤ (x : Int) := by omega
      have AS : Aside (Step b off (off + 25) w wr ∧ ∀ k, k = 25 → Row encL wr b off (piAt L k)) := ⟨hst, fun k hk => by subst hk; exact hla⟩
      clear hst hco hla hS hT hL hx5 hlt
      go_wp2
      go_end0
      obtain ⟨hst, hla⟩ := AS.out
      exact ⟨rfl, hst, hla 25 rfl⟩
end Go.Proofs.YtjiikjpnlgogfaaDoor
