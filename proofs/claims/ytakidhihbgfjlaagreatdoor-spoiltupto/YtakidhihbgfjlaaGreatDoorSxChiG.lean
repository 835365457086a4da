/-
  The third step of a round of the sponge (joinRows): what it makes of the 25 lanes.
-/
import Derived.Test.YtakidhihbgfjlaaGreatDoorSxRotG
import Derived.Deep.RegionWith
namespace Go.Proofs.YtakidhihbgfjlaaGreatDoor
open Go.RowKit
set_option maxRecDepth 100000
set_option maxHeartbeats 25600000
attribute [local go_sem ↓] Go.wp_at_zero Go.wp_at_succ
def andNot (a b : Nat) : Nat := a &&& (18446744073709551615 - b)
variable {b : Nat}
theorem Qmf {a : Nat} (ha : a < 18446744073709551616) : andNot a b < 18446744073709551616 := Nat.lt_of_le_of_lt Nat.and_le_left ha
def chiAt (L : Array Nat) : Nat -> Array Nat
 | 0 => L
 | k + 1 => (chiAt L k).set! k (L[k]! ^^^ andNot L[5 * ((k / 5 + 2) % 5) + k % 5]! L[5 * ((k / 5 + 1) % 5) + k % 5]!)
theorem Qfq (L : Array Nat) (k : Nat) : (chiAt L k).size = L.size := by
 induction k with
 | zero => rfl
 | succ k ih => simp [chiAt, ih]
variable {L : Array Nat}
theorem Qh7 (h : Small L) (k : Nat) : Small (chiAt L k) := by
 induction k with
 | zero => exact h
 | succ k ih => exact Qd0 ih _ _ (Qi8 (h _) (Qmf (h _)))
theorem QBy (a b c : Nat) (ha : a < 18446744073709551616) (hb : b < 18446744073709551616) (hc : c < 18446744073709551616) :
  bits .xor .u64 (a : Int) (bits .andNot .u64 (b : Int) (c : Int)) = ((a ^^^ andNot b c : Nat) : Int) := by
 rw [u64_andNot_nat b c hb hc]
 exact u64_xor_nat _ _ ha (Qmf hb)
theorem QA1 (b off : Nat) (L : Array Nat) (w : World) (hL : L.size = 25) (hS : Small L) (hb : b < w.heap.size) (hR : Row encL w b off L) :
  Calls Tryz.prog 100 #[.pointer (some ⟨b, off, none⟩)] w fun e w' => e = .returned (.tuple #[]) /\ Step b off (off + 25) w w' /\ Row encL w' b off (chiAt L 25) := by
 have B := hR.range
 have h : (Tryz.prog.info? 143).map (·.size) = some (L.toList.map encL).length := by rw [Qqb]; simp [hL]
 have p : (Tryz.prog.info? 143).map (·.size) = some (L.toList.map encL).toArray.size := by rw [Qqb]; simp [hL]
 have o := all_oneCell_toArray (Qaf L .u64)
 have n : (L.toList.map encL).toArray.size = 25 := by simp [hL]
 have P : Aside (Row encL w b off L /\ Small L /\ L.size = 25) := ⟨hR, hS, hL⟩
 clear hR hS hL
 go_enter Tryz.func100, Tryz.ntmps100
 go_wp2_with (first
  | (refine wpList_load_mid rfl 143 _ rfl b off rfl (L.toList.map encL) _ B Tryz.underlying143 rfl h ?_)
  | (refine wpList_store_mid rfl 143 _ _ rfl w.heap.size 0 (L.toList.map encL).toArray rfl rfl (Qac _ _ _ _ n) p o ?_))
 obtain ⟨hR, hS, hL⟩ := P.out
 generalize hw0 : w.alloc (.cells _ 143) = w0
 have G : Step b off (off + 25) w w0 := by rw [<- hw0]; exact (Step.refl _ _ _ _).alloc hb _
 have I : w.heap.size < w0.heap.size := by rw [<- hw0]; simp
 have K : w0.there w.heap.size 0 L.size := by rw [<- hw0, hL]; exact Qac _ _ _ _ rfl
 have E : Row encL w0 b off L := by rw [<- hw0]; exact hR.alloc hb _
 clear hw0 hR B h p o n P
 generalize hw1 : w0.setCells w.heap.size 0 (L.toList.map encL) = w1
 have H : Step b off (off + 25) w w1 := by rw [<- hw1]; exact G.setCellsOther hb (Nat.le_refl _) _
 have J : w.heap.size < w1.heap.size := by rw [<- hw1, (Qa9 _ _ _ _).1]; exact I
 have t : Row encL w1 w.heap.size 0 L := by rw [<- hw1]; exact Row.of_setCells L K
 have F : Row encL w1 b off L := by rw [<- hw1]; exact E.setCellsOther _ _ (by omega) _
 clear hw1 G I K E
 go_loopg [9] 5 (fun g i wr => ∃ x : Nat, x <= 5 /\ g = 5 - x /\ i = .int .i64 x /\ w.heap.size < wr.heap.size /\ Step b off (off + 25) w wr /\ Row encL wr w.heap.size 0 L /\ Row encL wr b off (chiAt L (5 * x)))
 case atStart => exact ⟨0, by omega, rfl, rfl, J, H, t, F⟩
 case round =>
  obtain ⟨x, hx, rfl, rfl, h, d, c, a⟩ := hrel
  clear J H t F
  by_cases S : x < 5
  ·have Q : Aside (Step b off (off + 25) w wr /\ Row encL wr w.heap.size 0 L /\ Row encL wr b off (chiAt L (5 * x)) /\ Small L /\ L.size = 25) := ⟨d, c, a, hS, hL⟩
   clear d c a hS hL
   have hd : decide ((x : Int) < 5) = true := decide_eq_true (by omega)
   go_wp2
   obtain ⟨d, c, a, hS, hL⟩ := Q.out
   go_loopg [12] 5 (fun g i wr => ∃ y : Nat, y <= 5 /\ g = 5 - y /\ i = .int .i64 y /\ w.heap.size < wr.heap.size /\ Step b off (off + 25) w wr /\ Row encL wr w.heap.size 0 L /\ Row encL wr b off (chiAt L (5 * x + y)))
   case atStart => exact ⟨0, by omega, rfl, rfl, h, d, c, a⟩
   case round =>
    obtain ⟨y, hy, rfl, rfl, h, d, c, a⟩ := hrel
    clear Q
    by_cases T : y < 5
    ·have v := Qfq L (5 * x + y)
     obtain ⟨M, f1⟩ := c (5 * x + y) (by omega)
     obtain ⟨N, f2⟩ := c (5 * ((x + 2) % 5) + y) (by omega)
     obtain ⟨O, f3⟩ := c (5 * ((x + 1) % 5) + y) (by omega)
     obtain ⟨R, f4⟩ := a (5 * x + y) (by omega)
     have f : chiAt L (5 * x + (y + 1)) = (chiAt L (5 * x + y)).set! (5 * x + y) (L[5 * x + y]! ^^^ andNot L[5 * ((x + 2) % 5) + y]! L[5 * ((x + 1) % 5) + y]!) := by
      show chiAt L (5 * x + y + 1) = _
      simp only [chiAt]
      rw [show (5 * x + y) / 5 = x by omega, show (5 * x + y) % 5 = y by omega]
     have j := QBy _ _ _ (hS (5 * x + y)) (hS (5 * ((x + 2) % 5) + y)) (hS (5 * ((x + 1) % 5) + y))
     rw [show 0 + (5 * x + y) = x * 5 + y by omega] at M f1
     rw [show 0 + (5 * ((x + 2) % 5) + y) = (x + 2) % 5 * 5 + y by omega] at N f2
     rw [show 0 + (5 * ((x + 1) % 5) + y) = (x + 1) % 5 * 5 + y by omega] at O f3
     rw [show off + (5 * x + y) = off + x * 5 + y by omega] at R f4
     obtain ⟨u1, q⟩ : ∃ u, L[5 * x + y]! = u := ⟨_, rfl⟩
     obtain ⟨u2, r⟩ : ∃ u, L[5 * ((x + 2) % 5) + y]! = u := ⟨_, rfl⟩
     obtain ⟨u3, s⟩ : ∃ u, L[5 * ((x + 1) % 5) + y]! = u := ⟨_, rfl⟩
     obtain ⟨z, U⟩ : ∃ z, (chiAt L (5 * x + y))[5 * x + y]! = z := ⟨_, rfl⟩
     rw [q] at M
     rw [r] at N
     rw [s] at O
     rw [q, r, s] at f j
     rw [U] at R
     have m : Aside (Step b off (off + 25) w wr /\ Row encL wr w.heap.size 0 L /\ Row encL wr b off (chiAt L (5 * x + y)) /\ chiAt L (5 * x + (y + 1)) = (chiAt L (5 * x + y)).set! (5 * x + y) (u1 ^^^ andNot u2 u3) /\ (chiAt L (5 * x + y)).size = 25 /\ bits .xor .u64 (u1 : Int) (bits .andNot .u64 (u2 : Int) (u3 : Int)) = ((u1 ^^^ andNot u2 u3 : Nat) : Int)) := ⟨d, c, a, f, by omega, j⟩
     clear q r s U d c a f v hS hL j
     have V : (⟨b, off + x * 5 + y, none⟩ : Addr) ≠ ⟨w.heap.size, x * 5 + y, none⟩ := fun e => by have l := congrArg Addr.block e; simp only at l; omega
     have W : (⟨b, off + x * 5 + y, none⟩ : Addr) ≠ ⟨w.heap.size, (x + 2) % 5 * 5 + y, none⟩ := fun e => by have l := congrArg Addr.block e; simp only at l; omega
     have X : (⟨b, off + x * 5 + y, none⟩ : Addr) ≠ ⟨w.heap.size, (x + 1) % 5 * 5 + y, none⟩ := fun e => by have l := congrArg Addr.block e; simp only at l; omega
     have Z : IntKind.i64.wrap ((x : Int) + 2) = (x : Int) + 2 := Qar _ (by omega) (by omega)
     have b2 : ((x : Int) + 2).tmod 5 = ((x : Int) + 2) % 5 := Int.tmod_eq_emod_of_nonneg (by omega)
     have d2 : (0 : Int) <= ((x : Int) + 2) % 5 := by omega
     have l : ((x : Int) + 2) % 5 < 5 := by omega
     have g2 : (((x : Int) + 2) % 5).toNat = (x + 2) % 5 := by omega
     have Y : IntKind.i64.wrap ((x : Int) + 1) = (x : Int) + 1 := Qar _ (by omega) (by omega)
     have b1 : ((x : Int) + 1).tmod 5 = ((x : Int) + 1) % 5 := Int.tmod_eq_emod_of_nonneg (by omega)
     have d1 : (0 : Int) <= ((x : Int) + 1) % 5 := by omega
     have e1 : ((x : Int) + 1) % 5 < 5 := by omega
     have g1 : (((x : Int) + 1) % 5).toNat = (x + 1) % 5 := by omega
     go_wp2
     have ae : (x : Int) < 5 := by omega
     go_region_held3 (fun w' => w'.cell? ⟨w.heap.size, x * 5 + y, none⟩ = some (encL u1) /\ w'.cell? ⟨w.heap.size, (x + 2) % 5 * 5 + y, none⟩ = some (encL u2) /\ w'.cell? ⟨w.heap.size, (x + 1) % 5 * 5 + y, none⟩ = some (encL u3)) (first | (go_keep; done) | exact ⟨(World.cell?_setCell_other _ _ _ _ V).trans M, (World.cell?_setCell_other _ _ _ _ W).trans N, (World.cell?_setCell_other _ _ _ _ X).trans O⟩) (fail)
     clear V W X Y Z b1 b2 d1 d2 e1 l g1 g2
     go_wp2
     obtain ⟨d, c, a, f, v, j⟩ := m.out
     go_roundg (5 - (y + 1))
     case measure => omega
     case rel =>
      refine ⟨y + 1, by omega, rfl, by go_num, by simpa using h, d.drew.set (by omega) (by omega) _, c.drew.setOther _ (by simp; omega) _, ?_⟩
      rw [f]
      exact a.drew.set (by omega) (by omega) _ (Qas j)
    ·have D : y = 5 := by omega
     rw [D] at a
     have aa : (5 : Int) <= (y : Int) := by omega
     have m : Aside (Step b off (off + 25) w wr /\ Row encL wr w.heap.size 0 L /\ Row encL wr b off (chiAt L (5 * x + 5))) := ⟨d, c, a⟩
     clear d c a hS hL D T
     go_wp2
     obtain ⟨d, c, a⟩ := m.out
     go_roundg (5 - (x + 1))
     case measure => omega
     case rel => exact ⟨x + 1, by omega, rfl, by go_num, h, d, c, a⟩
  ·have C : x = 5 := by omega
   rw [C] at a
   have ac : (5 : Int) <= (x : Int) := by omega
   have m : Aside (Step b off (off + 25) w wr /\ ∀ k, k = 25 -> Row encL wr b off (chiAt L k)) := ⟨d, fun k hk => by subst hk; exact a⟩
   clear d c a hS hL C S
   go_wp2
   go_end0
   obtain ⟨d, a⟩ := m.out
   exact ⟨rfl, d, a 25 rfl⟩
attribute [local go_sem ↓] Go.wp_at_zero Go.wp_at_succ
def mixAt (L blk : Array Nat) : Nat -> Array Nat
 | 0 => L
 | i + 1 => (mixAt L blk i).set! (5 * (i % 5) + i / 5) ((mixAt L blk i)[5 * (i % 5) + i / 5]! ^^^ lowFold blk (8 * i) 8)
theorem Qfr (L blk : Array Nat) (k : Nat) : (mixAt L blk k).size = L.size := by
 induction k with
 | zero => rfl
 | succ k ih => simp [mixAt, ih]
theorem Qer (blk : Array Nat) (h : Small L) (k : Nat) : Small (mixAt L blk k) := by
 induction k with
 | zero => exact h
 | succ k ih => exact Qd0 ih _ _ (Qi8 (ih _) (Qg4 _ _ _))
theorem Qe7 (L : Array Nat) : (theta L).size = L.size := Qi9 _ _ _
theorem Qd6 (h : Small L) : Small (theta L) := Qgo (Qdz h 25) h 25
theorem Qpj (j : Nat) : keysT[j]! < 18446744073709551616 := by
 by_cases h : j < 24
 ·have : ∀ i : Fin 24, keysT[i.val]! < 18446744073709551616 := by decide
  exact this ⟨j, h⟩
 ·have : keysT[j]! = 0 := by
   have a : keysT.size = 24 := rfl
   simp [a, h]
  rw [this]; decide
def roundF (X : Array Nat) (r : Nat) : Array Nat :=
 (chiAt (piAt (theta X) 25) 25).set! 0 ((chiAt (piAt (theta X) 25) 25)[0]! ^^^ keysT[r]!)
def roundsAt (M : Array Nat) : Nat -> Array Nat
 | 0 => M
 | r + 1 => roundF (roundsAt M r) r
theorem Qod (X : Array Nat) (r : Nat) : (roundF X r).size = X.size := by
 unfold roundF
 simp only [Array.set!_eq_setIfInBounds, Array.size_setIfInBounds]
 rw [Qfq, Qfl, Qe7]
theorem Qmg {X : Array Nat} (h : Small X) (r : Nat) : Small (roundF X r) := by
 have a := Qh7 (Qg5 (Qd6 h) 25) 25
 exact Qd0 a _ _ (Qi8 (a _) (Qpj _))
theorem Qf3 (M : Array Nat) (r : Nat) : (roundsAt M r).size = M.size := by
 induction r with
 | zero => rfl
 | succ r ih => exact (Qod _ _).trans ih
theorem Qel {M : Array Nat} (h : Small M) (r : Nat) : Small (roundsAt M r) := by
 induction r with
 | zero => exact h
 | succ r ih => exact Qmg ih r
def absorbF (L blk : Array Nat) : Array Nat := roundsAt (mixAt L blk 17) 24
theorem Qpk : (Tryz.prog.info? 146).map (·.size) = some 136 := by kernel_rfl
theorem map_toArray (enc : Nat -> Value) (d : Array Nat) : d.map enc = (d.toList.map enc).toArray := by
 apply Array.ext'
 simp
theorem QBz (blk : Array Nat) (i : Nat) (w : World) (hs : blk.size = 136) (hb : ∀ j : Nat, blk[j]! < 256) (hi : i < 17) :
  Calls Tryz.prog 97 #[.agg (blk.toList.map encB).toArray, .int .i64 (8 * (i : Int))] w fun e w' => e = .returned (.int .u64 ((lowFold blk (8 * i) 8 : Nat) : Int)) /\ w' = w.alloc (.cells (blk.toList.map encB).toArray 146) := by
 have h := QAt blk (8 * i) w hs hb (by omega)
 rw [map_toArray] at h
 rw [show ((8 * i : Nat) : Int) = 8 * (i : Int) by omega] at h
 exact h
def cellsAt (w : World) (b n : Nat) : Array Value := ((List.range n).map fun j => (w.cell? ⟨b, j, none⟩).getD undef).toArray
def HasCells (w : World) (b n : Nat) : Prop := ∀ j, j < n -> (w.cell? ⟨b, j, none⟩).isSome = true
@[simp] theorem Qz8 (w : World) (b n : Nat) : cellsAt w.drew b n = cellsAt w b n := rfl
@[simp] theorem Qwx (w : World) (b n : Nat) : HasCells w.drew b n = HasCells w b n := rfl
def blockOf : Value -> Nat
 | .pointer (some p) => p.block
 | _ => 0
@[simp] theorem Qt2 (b o : Nat) : blockOf (.pointer (some ⟨b, o, none⟩)) = b := rfl
theorem Qh8 (dst : Option Tmp) (x : Operand) (type : TypeId) (pos : String) (af : Array Edge) (gd : Option (Nat × Bool)) (a : Act) (w : World) (K : Act -> World -> Prop) (Q : Exit -> Act -> World -> Prop)
  (hx : a.eval x = .pointer (some ⟨blockOf (a.eval x), 0, none⟩)) (hall : HasCells w (blockOf (a.eval x)) 136) :
  Oper.wp Tryz.prog { dst := dst, op := .load 146 x, type := type, pos := pos, after := af, guard := gd } a w K Q = K (a.put dst (.agg (cellsAt w (blockOf (a.eval x)) 136))) w := by
 generalize blockOf (a.eval x) = b at hx hall ⊢
 have f : w.rangeAt b 0 ((List.range 136).map fun j => (w.cell? ⟨b, j, none⟩).getD undef) := by
  intro j v c
  have d : j < 136 := by
   have := (List.getElem?_eq_some_iff.1 c).1
   simpa using this
  obtain ⟨u, e⟩ := Option.isSome_iff_exists.1 (hall j d)
  simp only [List.getElem?_map, List.getElem?_range d, Option.map_some, Option.some.injEq] at c
  rw [Nat.zero_add, e, <- c, e]
  rfl
 unfold Oper.wp execOp
 simp only [hx, Instr.loadAt, Instr.sureAddr, Sem.run_bind, Sem.run_pure, Result.andThen_ok, run_loadVar_mid w b 0 146 _ _ f Tryz.underlying146 rfl (by rw [Qpk]; simp)]
 rfl
variable {w : World} {n : Nat} {cs : List Value}
theorem Qgt (h : w.rangeAt b 0 cs) (hn : cs.length = n) : cellsAt w b n = cs.toArray := by
 unfold cellsAt
 congr 1
 apply List.ext_getElem?
 intro j
 by_cases c : j < n
 ·have a := h j _ (List.getElem?_eq_getElem (by omega))
  rw [Nat.zero_add] at a
  simp only [List.getElem?_map, List.getElem?_range c, Option.map_some, a, Option.getD_some]
  rw [List.getElem?_eq_getElem (by omega)]
 ·rw [List.getElem?_eq_none (by simpa using c), List.getElem?_eq_none (by omega)]
theorem Qfs (h : w.rangeAt b 0 cs) (hn : cs.length = n) : HasCells w b n := by
 intro j c
 have a := h j _ (List.getElem?_eq_getElem (by omega))
 rw [Nat.zero_add] at a
 rw [a]; rfl
theorem Qt3 {o : Nat} (h : w.rangeAt b o cs) (p : Addr) (u : Value) (hp : b ≠ p.block) : (w.setCell p u).rangeAt b o cs :=
 fun j v hv => (World.cell?_of_block (Below.heap_setCell w p u b hp)).trans (h j v hv)
attribute [local go_sem ↓] Qh8
theorem Qjf (b off : Nat) (L blk : Array Nat) (w : World) (hL : L.size = 25) (hS : Small L) (hb : b < w.heap.size) (hR : Row encL w b off L) (hT : Tabs w) (hb10 : 15 <= b)
  (hs : blk.size = 136) (hB : ∀ j : Nat, blk[j]! < 256) :
  Calls Tryz.prog 80 #[.pointer (some ⟨b, off, none⟩), .agg (blk.toList.map encB).toArray] w fun e w' => e = .returned (.tuple #[]) /\ Step b off (off + 25) w w' /\ Row encL w' b off (absorbF L blk) := by
 have F : (Tryz.prog.info? 146).map (·.size) = some (blk.toList.map encB).length := by rw [Qpk]; simp [hs]
 have T := Qaf blk .u8
 have S : (blk.toList.map encB).length = 136 := by simp [hs]
 have ac : (w.alloc (.cells (blk.toList.map encB).toArray 146)).rangeAt w.heap.size 0 (blk.toList.map encB) := by
  have := (Row.new (enc := encB) w blk 146).range
  rw [map_toArray] at this
  exact this
 have A0 : Aside (Tabs w /\ Row encL w b off L /\ Small L /\ L.size = 25 /\ blk.size = 136 /\ ∀ j : Nat, blk[j]! < 256) := ⟨hT, hR, hS, hL, hs, hB⟩
 have A2 : Aside ((Tryz.prog.info? 146).map (·.size) = some (blk.toList.map encB).length /\ (∀ v ∈ blk.toList.map encB, v.oneCell' = true) /\ (blk.toList.map encB).length = 136) := ⟨F, T, S⟩
 clear hT hR hS hL hs hB F T S
 go_enter Tryz.func80, Tryz.ntmps80
 go_wp2
 obtain ⟨hT, hR, hS, hL, hs, hB⟩ := A0.out
 generalize hw0 : w.alloc (.cells (blk.toList.map encB).toArray 146) = w0 at ac ⊢
 have al : Step b off (off + 25) w w0 := by rw [<- hw0]; exact (Step.refl _ _ _ _).alloc hb _
 have am : w.heap.size < w0.heap.size := by rw [<- hw0]; simp
 have ak : Row encL w0 b off L := by rw [<- hw0]; exact hR.alloc hb _
 clear hw0 hR A0
 have Z : 15 <= w.heap.size := by omega
 go_loopg [6] 17 (fun g i wr => ∃ x : Nat, x <= 17 /\ g = 17 - x /\ i = .int .i64 x /\ w.heap.size < wr.heap.size /\ Step b off (off + 25) w wr /\ wr.rangeAt w.heap.size 0 (blk.toList.map encB) /\ Row encL wr b off (mixAt L blk x))
 case atStart => exact ⟨0, by omega, rfl, rfl, am, al, ac, ak⟩
 case round =>
  obtain ⟨x, hx, rfl, rfl, F, c, p, a⟩ := hrel
  clear am al ac ak
  by_cases E : x < 17
  ·have I := Qfr L blk x
   obtain ⟨H, N⟩ := a (5 * (x % 5) + x / 5) (by omega)
   have o : mixAt L blk (x + 1) = (mixAt L blk x).set! (5 * (x % 5) + x / 5) ((mixAt L blk x)[5 * (x % 5) + x / 5]! ^^^ lowFold blk (8 * x) 8) := rfl
   have d := u64_xor_nat _ _ (Qer blk hS x (5 * (x % 5) + x / 5)) (Qg4 blk (8 * x) 8)
   have C := fun w => QBz blk x w hs hB E
   obtain ⟨u, V⟩ : ∃ u, (mixAt L blk x)[5 * (x % 5) + x / 5]! = u := ⟨_, rfl⟩
   obtain ⟨v, W⟩ : ∃ v, lowFold blk (8 * x) 8 = v := ⟨_, rfl⟩
   rw [V] at H o d
   rw [W] at o d C
   rw [show off + (5 * (x % 5) + x / 5) = off + x % 5 * 5 + x / 5 by omega] at H N
   have aj : cellsAt wr w.heap.size 136 = (blk.toList.map encB).toArray := Qgt p (by simp [hs])
   have ao : HasCells wr w.heap.size 136 := Qfs p (by simp [hs])
   rw [<- aj] at C
   have K : Hid (∀ w', Calls Tryz.prog 97 #[.agg (cellsAt wr w.heap.size 136), .int .i64 (8 * (x : Int))] w' fun e az => e = .returned (.int .u64 ((v : Nat) : Int)) /\ az = w'.alloc (.cells (cellsAt wr w.heap.size 136) 146)) := C
   have s : Aside (Step b off (off + 25) w wr /\ wr.rangeAt w.heap.size 0 (blk.toList.map encB) /\ Row encL wr b off (mixAt L blk x) /\ mixAt L blk (x + 1) = (mixAt L blk x).set! (5 * (x % 5) + x / 5) (u ^^^ v) /\ bits .xor .u64 (u : Int) (v : Int) = ((u ^^^ v : Nat) : Int) /\ (mixAt L blk x).size = 25 /\ Tabs w /\ Small L /\ L.size = 25 /\ blk.size = 136 /\ ∀ j : Nat, blk[j]! < 256) := ⟨c, p, a, o, d, by omega, hT, hS, hL, hs, hB⟩
   clear V W c a o d I hT hS hL hs hB C aj p
   have a1 : (x : Int).tmod 5 = (x : Int) % 5 := Int.tmod_eq_emod_of_nonneg (by omega)
   have a2 : (x : Int).tdiv 5 = (x : Int) / 5 := Int.tdiv_eq_ediv_of_nonneg (by omega)
   have a3 : IntKind.i64.wrap ((x : Int) / 5) = (x : Int) / 5 := Qar _ (by omega) (by omega)
   have a4 : IntKind.i64.wrap (8 * (x : Int)) = 8 * (x : Int) := Qar _ (by omega) (by omega)
   have b1 : (0 : Int) <= (x : Int) % 5 := by omega
   have b2 : (x : Int) % 5 < 5 := by omega
   have b3 : ((x : Int) % 5).toNat = x % 5 := by omega
   have d1 : (0 : Int) <= (x : Int) / 5 := by omega
   have d2 : (x : Int) / 5 < 5 := by omega
   have d3 : ((x : Int) / 5).toNat = x / 5 := by omega
   have au : (wr.alloc (.cells (cellsAt wr w.heap.size 136) 146)).cell? ⟨b, off + x % 5 * 5 + x / 5, none⟩ = some (encL u) := (World.cell?_alloc_past _ _ _ (by omega)).trans H
   have aw : (wr.alloc (.cells (cellsAt wr w.heap.size 136) 146)).frozen? ⟨b, off + x % 5 * 5 + x / 5, none⟩ = false := (World.frozen?_alloc_past _ _ _ (by omega)).trans N
   go_wp2
   go_region_with (go_at_call 97; refine (K.out _).mono ?_; rintro e w' ⟨rfl, rfl⟩)
   all_goals
    clear a1 a2 a3 a4 b1 b2 b3 d1 d2 d3 H N K ao
    obtain ⟨c, p, a, o, d, I, hT, hS, hL, hs, hB⟩ := s.out
    clear o d I hT hS hL hs hB c p a au aw
    go_wp2
    obtain ⟨c, p, a, o, d, I, hT, hS, hL, hs, hB⟩ := s.out
    go_roundg (17 - (x + 1))
    case measure => omega
    case rel =>
     refine ⟨x + 1, by omega, rfl, by go_num, by simp; omega, ((c.alloc hb _).set (by omega) (by omega) _).drew, ?_, ?_⟩
     ·rw [World.rangeAt_drew]
      exact Qt3 (World.rangeAt_alloc p _) _ _ (by simp only; omega)
     ·rw [o]
      exact ((a.alloc (by omega) _).set (by omega) (by omega) _ (Qas d)).drew
  ·have aa : x = 17 := by omega
   rw [aa] at a
   have ba : (17 : Int) <= (x : Int) := by omega
   obtain ⟨M, D⟩ : ∃ M, mixAt L blk 17 = M := ⟨_, rfl⟩
   have l : M.size = 25 := by rw [<- D, Qfr]; exact hL
   have h : Small M := by rw [<- D]; exact Qer blk hS 17
   rw [D] at a
   have s : Aside (Step b off (off + 25) w wr /\ Row encL wr b off M /\ M.size = 25 /\ Small M /\ Tabs w /\ ∀ k, k = 17 -> mixAt L blk k = M) := ⟨c, a, l, h, hT, fun k R => by subst R; exact D⟩
   clear c p a hS hT hL hs hB aa E D l h A2
   go_wp2
   obtain ⟨c, a, l, h, hT, D⟩ := s.out
   have HM : Hid (∀ k, k = 17 -> mixAt L blk k = M) := D
   clear s D hx
   go_loopg [29] 24 (fun g i wr => ∃ r : Nat, r <= 24 /\ g = 24 - r /\ i = .int .i64 r /\ w.heap.size < wr.heap.size /\ Step b off (off + 25) w wr /\ Row encL wr b off (roundsAt M r))
   case atStart => exact ⟨0, by omega, rfl, rfl, F, c, a⟩
   case round =>
    obtain ⟨r, hr, rfl, rfl, F, c, a⟩ := hrel
    by_cases E : r < 24
    ·obtain ⟨X, O⟩ : ∃ X, roundsAt M r = X := ⟨_, rfl⟩
     have n : X.size = 25 := by rw [<- O, Qf3]; exact l
     have m : Small X := by rw [<- O]; exact Qel h r
     have f : roundsAt M (r + 1) = roundF X r := by rw [<- O]; rfl
     rw [O] at a
     have s : Aside (Step b off (off + 25) w wr /\ Row encL wr b off X /\ X.size = 25 /\ Small X /\ Tabs w /\ (∀ k, k = r + 1 -> roundsAt M k = roundF X r) /\ M.size = 25 /\ Small M) := ⟨c, a, n, m, hT, fun k R => by subst R; exact f, l, h⟩
     clear c a O n m hT f l h
     have hd : decide ((r : Int) < 24) = true := decide_eq_true (by omega)
     go_wp2_with fail
     obtain ⟨c, a, n, m, hT, f, l, h⟩ := s.out
     have ax : b < wr.heap.size := by omega
     refine (Qv6 b off X wr n m ax a).mono ?_
     rintro e w1 ⟨rfl, q, t⟩
     have ag : Aside (Step b off (off + 25) w w1 /\ Row encL w1 b off (theta X) /\ wr.heap.size <= w1.heap.size) := ⟨c.trans q, t, q.size⟩
     clear c a n m hT f l h q t
     go_wp2_with fail
     obtain ⟨c, a, n, m, hT, f, l, h⟩ := s.out
     obtain ⟨q, t, ae⟩ := ag.out
     refine (QCu b off (theta X) w1 (by rw [Qe7]; exact n) (Qd6 m) (by omega) t (hT.step q hb10 Z) hb10).mono ?_
     rintro e w2 ⟨rfl, y, G⟩
     have aq : Aside (Step b off (off + 25) w w2 /\ Row encL w2 b off (piAt (theta X) 25) /\ w1.heap.size <= w2.heap.size) := ⟨q.trans y, G, y.size⟩
     clear c a n m hT f l h q t y G ae
     go_wp2_with fail
     obtain ⟨c, a, n, m, hT, f, l, h⟩ := s.out
     obtain ⟨q, t, ae⟩ := ag.out
     obtain ⟨y, G, ay⟩ := aq.out
     refine (QA1 b off (piAt (theta X) 25) w2 (by rw [Qfl, Qe7]; exact n) (Qg5 (Qd6 m) 25) (by omega) G).mono ?_
     rintro e w3 ⟨rfl, B, z⟩
     obtain ⟨Y, P⟩ : ∃ Y, chiAt (piAt (theta X) 25) 25 = Y := ⟨_, rfl⟩
     rw [P] at z
     have Q : Y.size = 25 := by rw [<- P, Qfq, Qfl, Qe7]; exact n
     have ai : Small Y := by rw [<- P]; exact Qh7 (Qg5 (Qd6 m) 25) 25
     have J : roundF X r = Y.set! 0 (Y[0]! ^^^ keysT[r]!) := by rw [<- P]; rfl
     have ah := hT.step (y.trans B) hb10 Z
     have c2 := ah.2 r E
     obtain ⟨H, N⟩ := z 0 (by omega)
     rw [Nat.add_zero] at H N
     have d := u64_xor_nat _ _ (ai 0) (Qpj r)
     obtain ⟨u, V⟩ : ∃ u, Y[0]! = u := ⟨_, rfl⟩
     obtain ⟨v, W⟩ : ∃ v, keysT[r]! = v := ⟨_, rfl⟩
     rw [V] at H d J
     rw [W] at c2 d J
     have ap : w.heap.size < w3.heap.size := by have := B.size; omega
     have ar : Aside (Step b off (off + 25) w w3 /\ Row encL w3 b off Y /\ Y.size = 25 /\ roundF X r = Y.set! 0 (u ^^^ v) /\ bits .xor .u64 (u : Int) (v : Int) = ((u ^^^ v : Nat) : Int)) := ⟨y.trans B, z, Q, J, d⟩
     clear c a n m hT f l h q t y G ae ay B z P Q ai J ah d V W
     go_wp2
     go_region
     go_wp2
     obtain ⟨B, z, Q, J, d⟩ := ar.out
     obtain ⟨_, _, _, _, _, f, _, _⟩ := s.out
     go_roundg (24 - (r + 1))
     case measure => omega
     case rel =>
      refine ⟨r + 1, by omega, rfl, by go_num, by simpa using ap, B.drew.set (by omega) (by omega) _, ?_⟩
      rw [f (r + 1) rfl, J]
      exact z.drew.set (by omega) (by omega) _ (Qas d)
    ·have U : r = 24 := by omega
     rw [U] at a
     have b7 : (24 : Int) <= (r : Int) := by omega
     have s : Aside (Step b off (off + 25) w wr /\ ∀ k, k = 24 -> Row encL wr b off (roundsAt M k)) := ⟨c, fun k R => by subst R; exact a⟩
     clear c a hT l h U E
     go_wp2
     go_end0
     obtain ⟨c, a⟩ := s.out
     refine ⟨rfl, c, ?_⟩
     have := a 24 rfl
     rw [<- HM.out 17 rfl] at this
     exact this
def zeros (n : Nat) : Array Nat := Array.replicate n 0
def sqzAt (L : Array Nat) : Nat -> Array Nat
 | 0 => zeros 32
 | i + 1 => (sqzAt L i).set! i (L[5 * (i / 8)]! / 2 ^ (i % 8 * 8) % 256)
theorem Qct (L : Array Nat) (k : Nat) : (sqzAt L k).size = 32 := by
 induction k with
 | zero => simp [sqzAt, zeros]
 | succ k ih => simp [sqzAt, ih]
theorem Qjg : (Tryz.prog.info? 37).map (·.size) = some 32 := by kernel_rfl
theorem Qt4 (w : World) (t : TypeId) (C : Array Value) (n : Nat) (hC : C = (zeros n).map encB) : Row encB (w.alloc (.cells C t)) w.heap.size 0 (zeros n) := by
 subst hC
 exact Row.new w (zeros n) t
theorem Qaj {fn : Func} {p : Tmp} {ty : TypeId} (h : fn.results = #[.cell p ty]) (tmps : Array Value) (P : Program) (w : World) (b o : Nat) (hp : tmps.getD p undef = .pointer (some ⟨b, o, none⟩)) {v : Value} (hv : (loadVar ty ⟨b, o, none⟩).run P w = .ok v w) :
  (results fn tmps).run P w = .ok v w := by
 simp only [results, h]
 have a : tmps[p]?.getD undef = .pointer (some ⟨b, o, none⟩) := by rw [<- hp]; simp
 simp [a, asAddr, hv]
theorem Qf4 {o : Nat} (h : w.there b o n) (p : Addr) (u : Value) : (w.setCell p u).there b o n := by
 intro j a
 refine ⟨?_, (World.frozen?_setCell _ _ _ _).trans (h j a).2⟩
 obtain ⟨v, c⟩ := Option.isSome_iff_exists.1 (h j a).1
 by_cases e : p = ⟨b, o + j, none⟩
 ·subst e; rw [World.cell?_setCell_same _ _ _ c]; rfl
 ·rw [World.cell?_setCell_other _ _ _ _ e, c]; rfl
theorem Qoe (b off : Nat) (L : Array Nat) (w : World) (hL : L.size = 25) (hb : b < w.heap.size) (hR : Row encL w b off L) :
  Calls Tryz.prog 81 #[.pointer (some ⟨b, off, none⟩)] w fun e w' => e = .returned (.agg ((sqzAt L 32).toList.map encB).toArray) /\ Below w.heap.size w w' := by
 go_enter Tryz.func81, Tryz.ntmps81
 go_wp2
 generalize hw0 : (w.alloc (.cells _ 37)).alloc (.cells _ 37) = w0
 have n : (#[.int .u8 0, .int .u8 0, .int .u8 0, .int .u8 0, .int .u8 0, .int .u8 0, .int .u8 0, .int .u8 0, .int .u8 0, .int .u8 0, .int .u8 0, .int .u8 0, .int .u8 0, .int .u8 0, .int .u8 0, .int .u8 0, .int .u8 0, .int .u8 0, .int .u8 0, .int .u8 0, .int .u8 0, .int .u8 0, .int .u8 0, .int .u8 0, .int .u8 0, .int .u8 0, .int .u8 0, .int .u8 0, .int .u8 0, .int .u8 0, .int .u8 0, .int .u8 0] : Array Value) = (zeros 32).map encB := by kernel_rfl
 rw [n] at hw0
 have o : Below w.heap.size w w0 := by rw [<- hw0]; exact ((Below.refl _ _).alloc (Nat.le_refl _) _).alloc (by simp) _
 have s : w0.there w.heap.size 0 32 := by rw [<- hw0]; exact World.there_alloc (Qac _ _ _ _ (by simp [zeros])) _
 have q : Row encB w0 (w.heap.size + 1) 0 (sqzAt L 0) := by
  rw [<- hw0]
  have := Qt4 (w.alloc (.cells ((zeros 32).map encB) 37)) 37 _ 32 rfl
  simpa [sqzAt] using this
 have r : w.heap.size + 1 < w0.heap.size := by rw [<- hw0]; simp
 clear hw0 n
 go_loopg [5] 32 (fun g i wr => ∃ x : Nat, x <= 32 /\ g = 32 - x /\ i = .int .i64 x /\ w.heap.size + 1 < wr.heap.size /\ Below w.heap.size w wr /\ wr.there w.heap.size 0 32 /\ Row encB wr (w.heap.size + 1) 0 (sqzAt L x))
 case atStart => exact ⟨0, by omega, rfl, rfl, r, o, s, q⟩
 case round =>
  obtain ⟨x, U, rfl, rfl, M, a, d, c⟩ := hrel
  clear r o s q
  by_cases j : x < 32
  ·have p : Row encL wr b off L := hR.of_eq (a.block b hb)
   obtain ⟨H, N⟩ := p (5 * (x / 8)) (by omega)
   obtain ⟨I, O⟩ := c x (by rw [Qct]; exact j)
   rw [Nat.zero_add] at I O
   rw [show off + 5 * (x / 8) = off + x / 8 * 5 by omega] at H
   obtain ⟨u, G⟩ : ∃ u, L[5 * (x / 8)]! = u := ⟨_, rfl⟩
   obtain ⟨z, n⟩ : ∃ z, (sqzAt L x)[x]! = z := ⟨_, rfl⟩
   rw [G] at H
   rw [n] at I
   have t : Aside (Below w.heap.size w wr /\ wr.there w.heap.size 0 32 /\ Row encB wr (w.heap.size + 1) 0 (sqzAt L x) /\ sqzAt L (x + 1) = (sqzAt L x).set! x (u / 2 ^ (x % 8 * 8) % 256) /\ Row encL w b off L /\ L.size = 25) := ⟨a, d, c, by rw [<- G]; rfl, hR, hL⟩
   clear a d c p G n hR N hL
   go_wp2
   obtain ⟨a, d, c, y, hR, hL⟩ := t.out
   go_roundg (32 - (x + 1))
   case measure => omega
   case rel =>
    refine ⟨x + 1, by omega, rfl, by go_num, by simpa using M, a.setCell (by simp) _, Qf4 d _ _, ?_⟩
    rw [y]
    refine c.set (by omega) (by rw [Qct]; exact j) _ (Qas ?_)
    push_cast
    rfl
  ·have m : x = 32 := by omega
   rw [m] at c
   have T : (32 : Int) <= (x : Int) := by omega
   obtain ⟨D, h⟩ : ∃ D, sqzAt L 32 = D := ⟨_, rfl⟩
   have f : D.size = 32 := by rw [<- h]; exact Qct _ _
   rw [h] at c
   have K := c.range
   have l : (Tryz.prog.info? 37).map (·.size) = some (D.toList.map encB).length := by rw [Qjg]; simp [f]
   have C : (Tryz.prog.info? 37).map (·.size) = some (D.toList.map encB).toArray.size := by rw [Qjg]; simp [f]
   have B := all_oneCell_toArray (Qaf D .u8)
   have E : wr.there w.heap.size 0 (D.toList.map encB).toArray.size := by simpa [f] using d
   have t : Aside (Below w.heap.size w wr /\ wr.there w.heap.size 0 32 /\ (∀ k, k = 32 -> sqzAt L k = D) /\ D.size = 32) := ⟨a, d, fun k J => by subst J; exact h, f⟩
   clear a d c hR hL m j h f
   go_wp2_with (first
    | (refine wpList_load_mid rfl 37 _ rfl (w.heap.size + 1) 0 rfl (D.toList.map encB) _ K Tryz.underlying37 rfl l ?_)
    | (refine wpList_store_mid rfl 37 _ _ rfl w.heap.size 0 (D.toList.map encB).toArray rfl rfl E C B ?_))
   obtain ⟨a, d, h, f⟩ := t.out
   have F : wr.there w.heap.size 0 (D.toList.map encB).length := by simpa [f] using d
   refine bodyPost_ret (v := .agg (D.toList.map encB).toArray) (Qaj Tryz.results81 _ _ _ w.heap.size 0 rfl (run_loadVar_mid _ _ _ 37 _ _ (World.rangeAt_setCells_same _ _ _ _ F) Tryz.underlying37 rfl l)) rfl ⟨?_, ?_⟩
   ·rw [h 32 rfl]
   ·obtain ⟨P, Q, R, S⟩ := Qa9 w.heap.size (D.toList.map encB) 0 wr
    exact a.trans ⟨Q, R, S, by rw [P]; exact Nat.le_refl _, fun k J => Qa8 _ _ _ _ _ (by omega)⟩
abbrev HSt := Array Nat × Array Nat × Nat
def push1 (st : HSt) (x : Nat) : HSt :=
 if st.2.2 + 1 = 136 then (absorbF st.1 (st.2.1.set! st.2.2 x), st.2.1.set! st.2.2 x, 0) else (st.1, st.2.1.set! st.2.2 x, st.2.2 + 1)
def putAt (W : Array Nat) (c : Nat) : List Nat -> Array Nat
 | [] => W
 | x :: xs => putAt (W.set! c x) (c + 1) xs
theorem Qjh (xs : List Nat) : ∀ (W : Array Nat) (c : Nat), (putAt W c xs).size = W.size := by
 induction xs with
 | nil => intro W c; rfl
 | cons x xs ih => intro W c; rw [putAt, ih]; simp
theorem Qgb (L blk : Array Nat) : (absorbF L blk).size = L.size := by
 unfold absorbF
 rw [Qf3, Qfr]
theorem Qkm (blk : Array Nat) (h : Small L) : Small (absorbF L blk) := Qel (Qer blk h 17) 24
theorem Qt5 (xs : List Nat) : ∀ (L W : Array Nat) (c : Nat), c + xs.length < 136 -> xs.foldl push1 (L, W, c) = (L, putAt W c xs, c + xs.length) := by
 induction xs with
 | nil => intro L W c _; rfl
 | cons x xs ih =>
  intro L W c h
  simp only [List.length_cons] at h
  rw [List.foldl_cons]
  have e : push1 (L, W, c) x = (L, W.set! c x, c + 1) := by
   unfold push1
   rw [if_neg (by simp only; omega)]
  rw [e, ih L _ (c + 1) (by omega)]
  simp only [putAt, List.length_cons]
  rw [show c + 1 + xs.length = c + (xs.length + 1) by omega]
theorem Qt6 (xs : List Nat) : ∀ (L W : Array Nat) (c : Nat), c + xs.length = 136 -> 0 < xs.length -> xs.foldl push1 (L, W, c) = (absorbF L (putAt W c xs), putAt W c xs, 0) := by
 induction xs with
 | nil => intro L W c _ h; simp at h
 | cons x xs ih =>
  intro L W c h _
  simp only [List.length_cons] at h
  rw [List.foldl_cons]
  by_cases a : xs.length = 0
  ·have : xs = [] := List.length_eq_zero_iff.1 a
   subst this
   simp only [List.foldl_nil, putAt]
   unfold push1
   rw [if_pos (by simp only; omega)]
  ·have e : push1 (L, W, c) x = (L, W.set! c x, c + 1) := by
    unfold push1
    rw [if_neg (by simp only; omega)]
   rw [e, ih L _ (c + 1) (by omega) (by omega)]
   rfl
def lastBlock (W : Array Nat) (c : Nat) : Array Nat :=
 let W1 := putAt (W.set! c 1) (c + 1) (List.replicate (135 - c) 0)
 W1.set! 135 ((W1[135]! + 128) % 256)
def sumF (st : HSt) : Array Nat := sqzAt (absorbF st.1 (lastBlock st.2.1 st.2.2)) 32
def init : HSt := (Array.replicate 25 0, Array.replicate 136 0, 0)
def bytesOf (s : ByteArray) : List Nat := s.data.toList.map (·.toNat)
def digF (s : ByteArray) : Array Nat := sumF ((bytesOf s).foldl push1 init)
def Bytes (W : Array Nat) : Prop := ∀ j : Nat, W[j]! < 256
theorem Qdo {W : Array Nat} (h : Bytes W) (i x : Nat) (hx : x < 256) : Bytes (W.set! i x) := by
 intro j
 by_cases a : j < W.size
 ·by_cases e : i = j
  ·subst e; rw [Qd5 W i x a]; exact hx
  ·rw [Qcp W i j x e]; exact h j
 ·have : (W.set! i x)[j]! = 0 := by simp [a]
  rw [this]; decide
theorem Qh9 (xs : List Nat) (hx : ∀ x ∈ xs, x < 256) : ∀ (W : Array Nat) (c : Nat), Bytes W -> Bytes (putAt W c xs) := by
 induction xs with
 | nil => intro W c h; exact h
 | cons x xs ih => intro W c h; exact ih (fun y a => hx y (List.mem_cons_of_mem _ a)) _ _ (Qdo h _ _ (hx x List.mem_cons_self))
theorem Qao (s : ByteArray) : ∀ x ∈ bytesOf s, x < 256 := by
 intro x a
 simp only [bytesOf, List.mem_map] at a
 obtain ⟨b, _, rfl⟩ := a
 exact b.toNat_lt
theorem Row.put {off : Nat} (xs : List Nat) : ∀ {w : World} {W : Array Nat} (c : Nat), Row encB w b off W -> c + xs.length <= W.size -> Row encB (w.setCells b (off + c) (xs.map encB)) b off (putAt W c xs) := by
 induction xs with
 | nil => intro w W c h _; exact h
 | cons x xs ih =>
  intro w W c h e
  simp only [List.length_cons] at e
  have a : Row encB (w.setCell ⟨b, off + c, none⟩ (encB x)) b off (W.set! c x) := h.set rfl (by omega) x rfl
  have d := ih (c + 1) a (by simp; omega)
  exact d
theorem Row.setCellsBeside {enc : Nat -> Value} {off : Nat} {d : Array Nat} (vs : List Value) : ∀ {w : World} (o : Nat), Row enc w b off d -> o + vs.length <= off \/ off + d.size <= o -> Row enc (w.setCells b o vs) b off d := by
 induction vs with
 | nil => intro w o h _; exact h
 | cons v vs ih =>
  intro w o h a
  simp only [List.length_cons] at a
  exact ih (o + 1) (h.setBeside (by omega) v) (by omega)
theorem Step.setCells {b lo hi : Nat} (vs : List Value) : ∀ {w w1 : World} (o : Nat), Step b lo hi w w1 -> lo <= o -> o + vs.length <= hi -> Step b lo hi w (w1.setCells b o vs) := by
 induction vs with
 | nil => intro w w1 o h _ _; exact h
 | cons v vs ih =>
  intro w w1 o h a c
  simp only [List.length_cons] at c
  exact ih (o + 1) (h.set a (by omega) v) (by omega) (by omega)
variable {P : Program}
theorem Qgc (w : World) (dT sT ty elem : TypeId) (b o dLen dCap : Nat) (s : ByteArray) (n : Nat) (hu : P.underlying dT = some (.slice elem)) (hs : (P.info? elem).map (·.size) = some 1)
  (hn : n = Nat.min s.size dLen) (ht : w.there b o n) :
  (Builtin.copy_ #[dT, sT] ty #[.slice (some ⟨b, o, none⟩) dLen dCap, .string s]).run P w = .ok (goInt n) (w.setCells b o (((bytesOf s).take n).map encB)) := by
 subst hn
 have c : (bytesOf s).length = s.size := by
  unfold bytesOf
  rw [List.length_map, Array.length_toList]
  rfl
 have d : (Builtin.firstCells 1 (Nat.min s.size dLen) (.string s)).run P w = .ok (((bytesOf s).take (Nat.min s.size dLen)).map encB).toArray w := by
  have : ((s.extract 0 (Nat.min s.size dLen)).data.map fun b => Value.int .u8 b.toNat) = (((bytesOf s).take (Nat.min s.size dLen)).map encB).toArray := by
   apply Array.ext'
   simp only [bytesOf, Array.toList_map, ByteArray.data_extract, Array.toList_extract, List.extract_eq_take_drop, List.drop_zero, Nat.sub_zero, List.map_take, List.map_map]
   rfl
  simp only [Builtin.firstCells, this]
  rfl
 have a : ∀ v ∈ ((bytesOf s).take (Nat.min s.size dLen)).map encB, v.oneCell' = true := fun v f => by
  simp only [List.mem_map] at f; obtain ⟨x, _, rfl⟩ := f; rfl
 have k : (((bytesOf s).take (Nat.min s.size dLen)).map encB).length = Nat.min s.size dLen := by
  rw [List.length_map, List.length_take, c]
  exact Nat.min_eq_left (Nat.min_le_left _ _)
 generalize ((bytesOf s).take (Nat.min s.size dLen)).map encB = cs at d a k ⊢
 have e := run_storeCells_cells (P := P) b o cs 0 w (fun j h => by rw [Nat.add_zero]; exact (ht j (by omega)).1) (fun j h => by rw [Nat.add_zero]; exact (ht j (by omega)).2) a
 cases hq : P.info? elem with
 | none => simp [hq] at hs
 | some i =>
  have g : i.size = 1 := by simpa [hq] using hs
  simp [Builtin.copy_, run_underlying hu, Builtin.lenOf, sizeOf, typeInfo, hq, g, d, e]
theorem Qdp (w : World) (dT ty elem : TypeId) (b o n cap : Nat) (hu : P.underlying dT = some (.slice elem)) (hz : (P.info? elem).map (·.zero) = some (some (.int .u8 0)))
  (ht : w.there b o n) :
  (Builtin.clear_ #[dT] ty #[.slice (some ⟨b, o, none⟩) n cap]).run P w = .ok (.tuple #[]) (w.setCells b o ((List.replicate n 0).map encB)) := by
 have a : (Builtin.zeroCells (Value.int .u8 0).cells n).toList = (List.replicate n 0).map encB := by
  apply List.ext_getElem?
  intro j
  by_cases c : j < n
  ·simp [Builtin.zeroCells, Value.cells, c, Nat.mod_one]
  ·simp [Builtin.zeroCells, Value.cells, c]
 have d : ∀ v ∈ (List.replicate n 0).map encB, v.oneCell' = true := fun v g => by
  simp only [List.mem_map] at g; obtain ⟨x, _, rfl⟩ := g; rfl
 have e : ((List.replicate n 0).map encB).length = n := by simp
 generalize (List.replicate n 0).map encB = cs at a d e ⊢
 have f := run_storeCells_cells (P := P) b o cs 0 w (fun j c => by rw [Nat.add_zero]; exact (ht j (by omega)).1) (fun j c => by rw [Nat.add_zero]; exact (ht j (by omega)).2) d
 cases hq : P.info? elem with
 | none => simp [hq] at hz
 | some i =>
  have h : i.zero = some (.int .u8 0) := by simpa [hq] using hz
  cases n with
  | zero =>
   have : cs = [] := List.length_eq_zero_iff.1 e
   subst this
   simp [Builtin.clear_, run_underlying hu]
   rfl
  | succ n => simp [Builtin.clear_, run_underlying hu, zeroValue, typeInfo, hq, h, a, f]
end Go.Proofs.YtakidhihbgfjlaaGreatDoor
