/-
  The sponge takes a block (absorb): what it makes of the 25 lanes.
-/
import Derived.Test.YtjiikjpnlgogfaaDoorChi
import Derived.Deep.RegionWith
namespace Go.Proofs.YtjiikjpnlgogfaaDoor
open Go.RowKit
attribute [local go_sem ↓] Go.wp_at_zero Go.wp_at_succ

def mixAt (L blk : Array Nat) : Nat → Array Nat
  | 0 => L
  | i + 1 => (mixAt L blk i).set! (5 * (i % 5) + i / 5) ((mixAt L blk i)[5 * (i % 5) + i / 5]! ^^^ lowFold blk (8 * i) 8)

theorem mixAt_size (L blk : Array Nat) (k : Nat) : (mixAt L blk k).size = L.size := by
  induction k with
  | zero => rfl
  | succ k ih => simp [mixAt, ih]

theorem mixAt_small {L : Array Nat} (blk : Array Nat) (h : Small L) (k : Nat) : Small (mixAt L blk k) := by
  induction k with
  | zero => exact h
  | succ k ih => exact small_set ih _ _ (xor_lt (ih _) (lowFold_lt _ _ _))

theorem theta_size (L : Array Nat) : (theta L).size = L.size := joinAt_size _ _ _
theorem theta_small {L : Array Nat} (h : Small L) : Small (theta L) := joinAt_small (colsAt_small h 25) h 25

theorem keysT_lt (j : Nat) : keysT[j]! < 18446744073709551616 := by
  by_cases h : j < 24
  · have : ∀ i : Fin 24, keysT[i.val]! < 18446744073709551616 := by decide
    exact this ⟨j, h⟩
  · have : keysT[j]! = 0 := by
      have hs : keysT.size = 24 := rfl
      simp [hs, h]
    rw [this]; decide

/-- One round. -/
def roundF (X : Array Nat) (r : Nat) : Array Nat :=
  (chiAt (piAt (theta X) 25) 25).set! 0 ((chiAt (piAt (theta X) 25) 25)[0]! ^^^ keysT[r]!)
/-- The first r rounds. -/
def roundsAt (M : Array Nat) : Nat → Array Nat
  | 0 => M
  | r + 1 => roundF (roundsAt M r) r

theorem roundF_size (X : Array Nat) (r : Nat) : (roundF X r).size = X.size := by
  unfold roundF
  simp only [Array.set!_eq_setIfInBounds, Array.size_setIfInBounds]
  rw [chiAt_size, piAt_size, theta_size]
theorem roundF_small {X : Array Nat} (h : Small X) (r : Nat) : Small (roundF X r) := by
  have hc := chiAt_small (piAt_small (theta_small h) 25) 25
  exact small_set hc _ _ (xor_lt (hc _) (keysT_lt _))
theorem roundsAt_size (M : Array Nat) (r : Nat) : (roundsAt M r).size = M.size := by
  induction r with
  | zero => rfl
  | succ r ih => exact (roundF_size _ _).trans ih
theorem roundsAt_small {M : Array Nat} (h : Small M) (r : Nat) : Small (roundsAt M r) := by
  induction r with
  | zero => exact h
  | succ r ih => exact roundF_small ih r

/-- What taking a block makes of the lanes. -/
def absorbF (L blk : Array Nat) : Array Nat := roundsAt (mixAt L blk 17) 24

theorem size68 : (Tryd.prog.info? 68).map (·.size) = some 136 := by kernel_rfl

theorem map_toArray (enc : Nat → Value) (d : Array Nat) : d.map enc = (d.toList.map enc).toArray := by
  apply Array.ext'
  simp

theorem low_at (blk : Array Nat) (i : Nat) (w : World) (hs : blk.size = 136) (hb : ∀ j : Nat, blk[j]! < 256) (hi : i < 17) :
    Calls Tryd.prog 51 #[.agg (blk.toList.map encB).toArray, .int .i64 (8 * (i : Int))] w fun e w' => e = .returned (.int .u64 ((lowFold blk (8 * i) 8 : Nat) : Int)) ∧ w' = w.alloc (.cells (blk.toList.map encB).toArray 68) := by
  have h := low_any blk (8 * i) w hs hb (by omega)
  rw [map_toArray] at h
  rw [show ((8 * i : Nat) : Int) = 8 * (i : Int) by omega] at h
  exact h

/-- The first n cells of a block, as a load of an array there hands them. -/
def cellsAt (w : World) (b n : Nat) : Array Value := ((List.range n).map fun j => (w.cell? ⟨b, j, none⟩).getD undef).toArray
/-- They are all there. -/
def HasCells (w : World) (b n : Nat) : Prop := ∀ j, j < n → (w.cell? ⟨b, j, none⟩).isSome = true

@[simp] theorem cellsAt_drew (w : World) (b n : Nat) : cellsAt w.drew b n = cellsAt w b n := rfl
@[simp] theorem hasCells_drew (w : World) (b n : Nat) : HasCells w.drew b n = HasCells w b n := rfl

/-- The block that a pointer points into. -/
def blockOf : Value → Nat
  | .pointer (some p) => p.block
  | _ => 0
@[simp] theorem blockOf_pointer (b o : Nat) : blockOf (.pointer (some ⟨b, o, none⟩)) = b := rfl

theorem wp_load_cells68 (dst : Option Tmp) (x : Operand) (type : TypeId) (pos : String) (af : Array Edge) (gd : Option (Nat × Bool)) (a : Act) (w : World) (K : Act → World → Prop) (Q : Exit → Act → World → Prop)
    (hx : a.eval x = .pointer (some ⟨blockOf (a.eval x), 0, none⟩)) (hall : HasCells w (blockOf (a.eval x)) 136) :
    Oper.wp Tryd.prog { dst := dst, op := .load 68 x, type := type, pos := pos, after := af, guard := gd } a w K Q = K (a.put dst (.agg (cellsAt w (blockOf (a.eval x)) 136))) w := by
  generalize blockOf (a.eval x) = b at hx hall ⊢
  have hr : w.rangeAt b 0 ((List.range 136).map fun j => (w.cell? ⟨b, j, none⟩).getD undef) := by
    intro j v hv
    have hj : j < 136 := by
      have := (List.getElem?_eq_some_iff.1 hv).1
      simpa using this
    obtain ⟨u, hu⟩ := Option.isSome_iff_exists.1 (hall j hj)
    simp only [List.getElem?_map, List.getElem?_range hj, Option.map_some, Option.some.injEq] at hv
    rw [Nat.zero_add, hu, ← hv, hu]
    rfl
  unfold Oper.wp execOp
  simp only [hx, Instr.loadAt, Instr.sureAddr, Sem.run_bind, Sem.run_pure, Result.andThen_ok, run_loadVar_mid w b 0 68 _ _ hr Tryd.underlying68 rfl (by rw [size68]; simp)]
  rfl

theorem cellsAt_of_range {w : World} {b n : Nat} {cs : List Value} (h : w.rangeAt b 0 cs) (hn : cs.length = n) : cellsAt w b n = cs.toArray := by
  unfold cellsAt
  congr 1
  apply List.ext_getElem?
  intro j
  by_cases hj : j < n
  · have hc := h j _ (List.getElem?_eq_getElem (by omega))
    rw [Nat.zero_add] at hc
    simp only [List.getElem?_map, List.getElem?_range hj, Option.map_some, hc, Option.getD_some]
    rw [List.getElem?_eq_getElem (by omega)]
  · rw [List.getElem?_eq_none (by simpa using hj), List.getElem?_eq_none (by omega)]

theorem hasCells_of_range {w : World} {b n : Nat} {cs : List Value} (h : w.rangeAt b 0 cs) (hn : cs.length = n) : HasCells w b n := by
  intro j hj
  have hc := h j _ (List.getElem?_eq_getElem (by omega))
  rw [Nat.zero_add] at hc
  rw [hc]; rfl

theorem range_set {w : World} {b o : Nat} {cs : List Value} (h : w.rangeAt b o cs) (p : Addr) (u : Value) (hp : b ≠ p.block) : (w.setCell p u).rangeAt b o cs :=
  fun j v hv => (World.cell?_of_block (Below.heap_setCell w p u b hp)).trans (h j v hv)

attribute [local go_sem ↓] wp_load_cells68

set_option maxRecDepth 100000 in
set_option maxHeartbeats 1200000 in
theorem absorb_any (b off : Nat) (L blk : Array Nat) (w : World) (hL : L.size = 25) (hS : Small L) (hb : b < w.heap.size) (hR : Row encL w b off L) (hT : Tabs w) (hb10 : 16 ≤ b)
    (hs : blk.size = 136) (hB : ∀ j : Nat, blk[j]! < 256) :
    Calls Tryd.prog 36 #[.pointer (some ⟨b, off, none⟩), .agg (blk.toList.map encB).toArray] w fun e w' => e = .returned (.tuple #[]) ∧ Step b off (off + 25) w w' ∧ Row encL w' b off (absorbF L blk) := by
  have hsz : (Tryd.prog.info? 68).map (·.size) = some (blk.toList.map encB).length := by rw [size68]; simp [hs]
  have hone := oneCell_enc blk .u8
  have hlen : (blk.toList.map encB).length = 136 := by simp [hs]
  have rg0 : (w.alloc (.cells (blk.toList.map encB).toArray 68)).rangeAt w.heap.size 0 (blk.toList.map encB) := by
    have := (Row.new (enc := encB) w blk 68).range
    rw [map_toArray] at this
    exact this
  have A0 : Aside (Tabs w ∧ Row encL w b off L ∧ Small L ∧ L.size = 25 ∧ blk.size = 136 ∧ ∀ j : Nat, blk[j]! < 256) := ⟨hT, hR, hS, hL, hs, hB⟩
  have A2 : Aside ((Tryd.prog.info? 68).map (·.size) = some (blk.toList.map encB).length ∧ (∀ v ∈ blk.toList.map encB, v.oneCell' = true) ∧ (blk.toList.map encB).length = 136) := ⟨hsz, hone, hlen⟩
  clear hT hR hS hL hs hB hsz hone hlen
  go_enter Tryd.func36, Tryd.ntmps36
  go_wp2
  obtain ⟨hT, hR, hS, hL, hs, hB⟩ := A0.out
  generalize hw0 : w.alloc (.cells (blk.toList.map encB).toArray 68) = w0 at rg0 ⊢
  have st0 : Step b off (off + 25) w w0 := by rw [← hw0]; exact (Step.refl _ _ _ _).alloc hb _
  have sz0 : w.heap.size < w0.heap.size := by rw [← hw0]; simp
  have ro0 : Row encL w0 b off L := by rw [← hw0]; exact hR.alloc hb _
  clear hw0 hR A0
  have hw10 : 16 ≤ w.heap.size := by omega
  go_loopg [6] 17 (fun g i wr => ∃ x : Nat, x ≤ 17 ∧ g = 17 - x ∧ i = .int .i64 x ∧ w.heap.size < wr.heap.size ∧ Step b off (off + 25) w wr ∧ wr.rangeAt w.heap.size 0 (blk.toList.map encB) ∧ Row encL wr b off (mixAt L blk x))
  case atStart => exact ⟨0, by omega, rfl, rfl, sz0, st0, rg0, ro0⟩
  case round =>
    obtain ⟨x, hx, rfl, rfl, hsz, hst, hrg, hla⟩ := hrel
    clear sz0 st0 rg0 ro0
    by_cases hlt : x < 17
    · have hps := mixAt_size L blk x
      obtain ⟨c1, f1⟩ := hla (5 * (x % 5) + x / 5) (by omega)
      have hcol : mixAt L blk (x + 1) = (mixAt L blk x).set! (5 * (x % 5) + x / 5) ((mixAt L blk x)[5 * (x % 5) + x / 5]! ^^^ lowFold blk (8 * x) 8) := rfl
      have hxor := u64_xor_nat _ _ (mixAt_small blk hS x (5 * (x % 5) + x / 5)) (lowFold_lt blk (8 * x) 8)
      have hlow := fun w => low_at blk x w hs hB hlt
      obtain ⟨u, hu⟩ : ∃ u, (mixAt L blk x)[5 * (x % 5) + x / 5]! = u := ⟨_, rfl⟩
      obtain ⟨v, hv⟩ : ∃ v, lowFold blk (8 * x) 8 = v := ⟨_, rfl⟩
      rw [hu] at c1 hcol hxor
      rw [hv] at hcol hxor hlow
      rw [show off + (5 * (x % 5) + x / 5) = off + x % 5 * 5 + x / 5 by omega] at c1 f1
      have hca : cellsAt wr w.heap.size 136 = (blk.toList.map encB).toArray := cellsAt_of_range hrg (by simp [hs])
      have hhas : HasCells wr w.heap.size 136 := hasCells_of_range hrg (by simp [hs])
      rw [← hca] at hlow
      have HLow : Hid (∀ w', Calls Tryd.prog 51 #[.agg (cellsAt wr w.heap.size 136), .int .i64 (8 * (x : Int))] w' fun e w'' => e = .returned (.int .u64 ((v : Nat) : Int)) ∧ w'' = w'.alloc (.cells (cellsAt wr w.heap.size 136) 68)) := hlow
      have AS : Aside (Step b off (off + 25) w wr ∧ wr.rangeAt w.heap.size 0 (blk.toList.map encB) ∧ Row encL wr b off (mixAt L blk x) ∧ mixAt L blk (x + 1) = (mixAt L blk x).set! (5 * (x % 5) + x / 5) (u ^^^ v) ∧ bits .xor .u64 (u : Int) (v : Int) = ((u ^^^ v : Nat) : Int) ∧ (mixAt L blk x).size = 25 ∧ Tabs w ∧ Small L ∧ L.size = 25 ∧ blk.size = 136 ∧ ∀ j : Nat, blk[j]! < 256) := ⟨hst, hrg, hla, hcol, hxor, by omega, hT, hS, hL, hs, hB⟩
      clear hu hv hst hla hcol hxor hps hT hS hL hs hB hlow hca hrg
      have a1 : (x : Int).tmod 5 = (x : Int) % 5 := Int.tmod_eq_emod_of_nonneg (by omega)
      have a2 : (x : Int).tdiv 5 = (x : Int) / 5 := Int.tdiv_eq_ediv_of_nonneg (by omega)
      have a3 : IntKind.i64.wrap ((x : Int) / 5) = (x : Int) / 5 := wrap_fits _ (by omega) (by omega)
      have a4 : IntKind.i64.wrap (8 * (x : Int)) = 8 * (x : Int) := wrap_fits _ (by omega) (by omega)
      have b1 : (0 : Int) ≤ (x : Int) % 5 := by omega
      have b2 : (x : Int) % 5 < 5 := by omega
      have b3 : ((x : Int) % 5).toNat = x % 5 := by omega
      have d1 : (0 : Int) ≤ (x : Int) / 5 := by omega
      have d2 : (x : Int) / 5 < 5 := by omega
      have d3 : ((x : Int) / 5).toNat = x / 5 := by omega
      have c1' : (wr.alloc (.cells (cellsAt wr w.heap.size 136) 68)).cell? ⟨b, off + x % 5 * 5 + x / 5, none⟩ = some (encL u) := (World.cell?_alloc_past _ _ _ (by omega)).trans c1
      have f1' : (wr.alloc (.cells (cellsAt wr w.heap.size 136) 68)).frozen? ⟨b, off + x % 5 * 5 + x / 5, none⟩ = false := (World.frozen?_alloc_past _ _ _ (by omega)).trans f1
      go_wp2
      go_region_with (go_at_call 51; refine (HLow.out _).mono ?_; rintro e w' ⟨rfl, rfl⟩)
      all_goals
        clear a1 a2 a3 a4 b1 b2 b3 d1 d2 d3 c1 f1 HLow hhas
        obtain ⟨hst, hrg, hla, hcol, hxor, hps, hT, hS, hL, hs, hB⟩ := AS.out
        clear hcol hxor hps hT hS hL hs hB hst hrg hla c1' f1'
        go_wp2
        obtain ⟨hst, hrg, hla, hcol, hxor, hps, hT, hS, hL, hs, hB⟩ := AS.out
        go_roundg (17 - (x + 1))
        case measure => omega
        case rel =>
          refine ⟨x + 1, by omega, rfl, by go_num, by simp; omega, ((hst.alloc hb _).set (by omega) (by omega) _).drew, ?_, ?_⟩
          · rw [World.rangeAt_drew]
            exact range_set (World.rangeAt_alloc hrg _) _ _ (by simp only; omega)
          · rw [hcol]
            exact ((hla.alloc (by omega) _).set (by omega) (by omega) _ (val_int hxor)).drew
    · have hx17 : x = 17 := by omega
      rw [hx17] at hla
      have hnl : (17 : Int) ≤ (x : Int) := by omega
      obtain ⟨M, hM⟩ : ∃ M, mixAt L blk 17 = M := ⟨_, rfl⟩
      have hMs : M.size = 25 := by rw [← hM, mixAt_size]; exact hL
      have hMm : Small M := by rw [← hM]; exact mixAt_small blk hS 17
      rw [hM] at hla
      have AS : Aside (Step b off (off + 25) w wr ∧ Row encL wr b off M ∧ M.size = 25 ∧ Small M ∧ Tabs w ∧ ∀ k, k = 17 → mixAt L blk k = M) := ⟨hst, hla, hMs, hMm, hT, fun k hk => by subst hk; exact hM⟩
      clear hst hrg hla hS hT hL hs hB hx17 hlt hM hMs hMm A2
      go_wp2
      obtain ⟨hst, hla, hMs, hMm, hT, hM⟩ := AS.out
      have HM : Hid (∀ k, k = 17 → mixAt L blk k = M) := hM
      clear AS hM hx
      go_loopg [29] 24 (fun g i wr => ∃ r : Nat, r ≤ 24 ∧ g = 24 - r ∧ i = .int .i64 r ∧ w.heap.size < wr.heap.size ∧ Step b off (off + 25) w wr ∧ Row encL wr b off (roundsAt M r))
      case atStart => exact ⟨0, by omega, rfl, rfl, hsz, hst, hla⟩
      case round =>
        obtain ⟨r, hr, rfl, rfl, hsz, hst, hla⟩ := hrel
        by_cases hlt : r < 24
        · obtain ⟨X, hX⟩ : ∃ X, roundsAt M r = X := ⟨_, rfl⟩
          have hXs : X.size = 25 := by rw [← hX, roundsAt_size]; exact hMs
          have hXm : Small X := by rw [← hX]; exact roundsAt_small hMm r
          have hnext : roundsAt M (r + 1) = roundF X r := by rw [← hX]; rfl
          rw [hX] at hla
          have AS : Aside (Step b off (off + 25) w wr ∧ Row encL wr b off X ∧ X.size = 25 ∧ Small X ∧ Tabs w ∧ (∀ k, k = r + 1 → roundsAt M k = roundF X r) ∧ M.size = 25 ∧ Small M) := ⟨hst, hla, hXs, hXm, hT, fun k hk => by subst hk; exact hnext, hMs, hMm⟩
          clear hst hla hX hXs hXm hT hnext hMs hMm
          have hd : decide ((r : Int) < 24) = true := decide_eq_true (by omega)
          go_wp2_with fail
          obtain ⟨hst, hla, hXs, hXm, hT, hnext, hMs, hMm⟩ := AS.out
          have hbw : b < wr.heap.size := by omega
          refine (theta_any b off X wr hXs hXm hbw hla).mono ?_
          rintro e w1 ⟨rfl, st1, ro1⟩
          have AS1 : Aside (Step b off (off + 25) w w1 ∧ Row encL w1 b off (theta X) ∧ wr.heap.size ≤ w1.heap.size) := ⟨hst.trans st1, ro1, st1.size⟩
          clear hst hla hXs hXm hT hnext hMs hMm st1 ro1
          go_wp2_with fail
          obtain ⟨hst, hla, hXs, hXm, hT, hnext, hMs, hMm⟩ := AS.out
          obtain ⟨st1, ro1, sz1⟩ := AS1.out
          refine (pi_any b off (theta X) w1 (by rw [theta_size]; exact hXs) (theta_small hXm) (by omega) ro1 (hT.step st1 hb10 hw10) hb10).mono ?_
          rintro e w2 ⟨rfl, st2, ro2⟩
          have AS2 : Aside (Step b off (off + 25) w w2 ∧ Row encL w2 b off (piAt (theta X) 25) ∧ w1.heap.size ≤ w2.heap.size) := ⟨st1.trans st2, ro2, st2.size⟩
          clear hst hla hXs hXm hT hnext hMs hMm st1 ro1 st2 ro2 sz1
          go_wp2_with fail
          obtain ⟨hst, hla, hXs, hXm, hT, hnext, hMs, hMm⟩ := AS.out
          obtain ⟨st1, ro1, sz1⟩ := AS1.out
          obtain ⟨st2, ro2, sz2⟩ := AS2.out
          refine (chi_any b off (piAt (theta X) 25) w2 (by rw [piAt_size, theta_size]; exact hXs) (piAt_small (theta_small hXm) 25) (by omega) ro2).mono ?_
          rintro e w3 ⟨rfl, st3, ro3⟩
          obtain ⟨Y, hY⟩ : ∃ Y, chiAt (piAt (theta X) 25) 25 = Y := ⟨_, rfl⟩
          rw [hY] at ro3
          have hYs : Y.size = 25 := by rw [← hY, chiAt_size, piAt_size, theta_size]; exact hXs
          have hYm : Small Y := by rw [← hY]; exact chiAt_small (piAt_small (theta_small hXm) 25) 25
          have hF : roundF X r = Y.set! 0 (Y[0]! ^^^ keysT[r]!) := by rw [← hY]; rfl
          have hT3 := hT.step (st2.trans st3) hb10 hw10
          have c2 := hT3.2 r hlt
          obtain ⟨c1, f1⟩ := ro3 0 (by omega)
          rw [Nat.add_zero] at c1 f1
          have hxor := u64_xor_nat _ _ (hYm 0) (keysT_lt r)
          obtain ⟨u, hu⟩ : ∃ u, Y[0]! = u := ⟨_, rfl⟩
          obtain ⟨v, hv⟩ : ∃ v, keysT[r]! = v := ⟨_, rfl⟩
          rw [hu] at c1 hxor hF
          rw [hv] at c2 hxor hF
          have hsz3 : w.heap.size < w3.heap.size := by have := st3.size; omega
          have AS3 : Aside (Step b off (off + 25) w w3 ∧ Row encL w3 b off Y ∧ Y.size = 25 ∧ roundF X r = Y.set! 0 (u ^^^ v) ∧ bits .xor .u64 (u : Int) (v : Int) = ((u ^^^ v : Nat) : Int)) := ⟨st2.trans st3, ro3, hYs, hF, hxor⟩
          clear hst hla hXs hXm hT hnext hMs hMm st1 ro1 st2 ro2 sz1 sz2 st3 ro3 hY hYs hYm hF hT3 hxor hu hv
          go_wp2
          go_region
          go_wp2
          obtain ⟨st3, ro3, hYs, hF, hxor⟩ := AS3.out
          obtain ⟨_, _, _, _, _, hnext, _, _⟩ := AS.out
          go_roundg (24 - (r + 1))
          case measure => omega
          case rel =>
            refine ⟨r + 1, by omega, rfl, by go_num, by simpa using hsz3, st3.drew.set (by omega) (by omega) _, ?_⟩
            rw [hnext (r + 1) rfl, hF]
            exact ro3.drew.set (by omega) (by omega) _ (val_int hxor)
        · have hr24 : r = 24 := by omega
          rw [hr24] at hla
          have hnl2 : (24 : Int) ≤ (r : Int) := by omega
          have AS : Aside (Step b off (off + 25) w wr ∧ ∀ k, k = 24 → Row encL wr b off (roundsAt M k)) := ⟨hst, fun k hk => by subst hk; exact hla⟩
          clear hst hla hT hMs hMm hr24 hlt
          go_wp2
          go_end0
          obtain ⟨hst, hla⟩ := AS.out
          refine ⟨rfl, hst, ?_⟩
          have := hla 24 rfl
          rw [← HM.out 17 rfl] at this
          exact this
end Go.Proofs.YtjiikjpnlgogfaaDoor
