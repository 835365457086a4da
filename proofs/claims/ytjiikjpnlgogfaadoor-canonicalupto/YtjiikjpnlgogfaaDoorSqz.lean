/-
  The sponge gives the digest (squeeze): 32 bytes out of its lanes.
-/
import Derived.Test.YtjiikjpnlgogfaaDoorAbs
namespace Go.Proofs.YtjiikjpnlgogfaaDoor
open Go.RowKit

def zeros (n : Nat) : Array Nat := Array.replicate n 0

def sqzAt (L : Array Nat) : Nat → Array Nat
  | 0 => zeros 32
  | i + 1 => (sqzAt L i).set! i (L[5 * (i / 8)]! / 2 ^ (i % 8 * 8) % 256)

theorem sqzAt_size (L : Array Nat) (k : Nat) : (sqzAt L k).size = 32 := by
  induction k with
  | zero => simp [sqzAt, zeros]
  | succ k ih => simp [sqzAt, ih]

theorem size28 : (Tryd.prog.info? 28).map (·.size) = some 32 := by kernel_rfl

theorem row_zeros (w : World) (t : TypeId) (C : Array Value) (n : Nat) (hC : C = (zeros n).map encB) : Row encB (w.alloc (.cells C t)) w.heap.size 0 (zeros n) := by
  subst hC
  exact Row.new w (zeros n) t

theorem results_cell1 {fn : Func} {p : Tmp} {ty : TypeId} (h : fn.results = #[.cell p ty]) (tmps : Array Value) (P : Program) (w : World) (b o : Nat) (hp : tmps.getD p undef = .pointer (some ⟨b, o, none⟩)) {v : Value} (hv : (loadVar ty ⟨b, o, none⟩).run P w = .ok v w) :
    (results fn tmps).run P w = .ok v w := by
  simp only [results, h]
  have hp' : tmps[p]?.getD undef = .pointer (some ⟨b, o, none⟩) := by rw [← hp]; simp
  simp [hp', asAddr, hv]

theorem there_set {w : World} {b o n : Nat} (h : w.there b o n) (p : Addr) (u : Value) : (w.setCell p u).there b o n := by
  intro j hj
  refine ⟨?_, (World.frozen?_setCell _ _ _ _).trans (h j hj).2⟩
  obtain ⟨v, hv⟩ := Option.isSome_iff_exists.1 (h j hj).1
  by_cases e : p = ⟨b, o + j, none⟩
  · subst e; rw [World.cell?_setCell_same _ _ _ hv]; rfl
  · rw [World.cell?_setCell_other _ _ _ _ e, hv]; rfl

set_option maxRecDepth 100000 in
set_option maxHeartbeats 1200000 in
theorem squeeze_any (b off : Nat) (L : Array Nat) (w : World) (hL : L.size = 25) (hb : b < w.heap.size) (hR : Row encL w b off L) :
    Calls Tryd.prog 37 #[.pointer (some ⟨b, off, none⟩)] w fun e w' => e = .returned (.agg ((sqzAt L 32).toList.map encB).toArray) ∧ Below w.heap.size w w' := by
  go_enter Tryd.func37, Tryd.ntmps37
  go_wp2
  generalize hw0 : (w.alloc (.cells _ 28)).alloc (.cells _ 28) = w0
  have hz : (#[.int .u8 0, .int .u8 0, .int .u8 0, .int .u8 0, .int .u8 0, .int .u8 0, .int .u8 0, .int .u8 0, .int .u8 0, .int .u8 0, .int .u8 0, .int .u8 0, .int .u8 0, .int .u8 0, .int .u8 0, .int .u8 0, .int .u8 0, .int .u8 0, .int .u8 0, .int .u8 0, .int .u8 0, .int .u8 0, .int .u8 0, .int .u8 0, .int .u8 0, .int .u8 0, .int .u8 0, .int .u8 0, .int .u8 0, .int .u8 0, .int .u8 0, .int .u8 0] : Array Value) = (zeros 32).map encB := by kernel_rfl
  rw [hz] at hw0
  have bl0 : Below w.heap.size w w0 := by rw [← hw0]; exact ((Below.refl _ _).alloc (Nat.le_refl _) _).alloc (by simp) _
  have th0 : w0.there w.heap.size 0 32 := by rw [← hw0]; exact World.there_alloc (there_new _ _ _ _ (by simp [zeros])) _
  have ro0 : Row encB w0 (w.heap.size + 1) 0 (sqzAt L 0) := by
    rw [← hw0]
    have := row_zeros (w.alloc (.cells ((zeros 32).map encB) 28)) 28 _ 32 rfl
    simpa [sqzAt] using this
  have sz0 : w.heap.size + 1 < w0.heap.size := by rw [← hw0]; simp
  clear hw0 hz
  go_loopg [5] 32 (fun g i wr => ∃ x : Nat, x ≤ 32 ∧ g = 32 - x ∧ i = .int .i64 x ∧ w.heap.size + 1 < wr.heap.size ∧ Below w.heap.size w wr ∧ wr.there w.heap.size 0 32 ∧ Row encB wr (w.heap.size + 1) 0 (sqzAt L x))
  case atStart => exact ⟨0, by omega, rfl, rfl, sz0, bl0, th0, ro0⟩
  case round =>
    obtain ⟨x, hx, rfl, rfl, hsz, hbl, hth, hro⟩ := hrel
    clear sz0 bl0 th0 ro0
    by_cases hlt : x < 32
    · have hla : Row encL wr b off L := hR.of_eq (hbl.block b hb)
      obtain ⟨c1, f1⟩ := hla (5 * (x / 8)) (by omega)
      obtain ⟨c2, f2⟩ := hro x (by rw [sqzAt_size]; exact hlt)
      rw [Nat.zero_add] at c2 f2
      rw [show off + 5 * (x / 8) = off + x / 8 * 5 by omega] at c1
      obtain ⟨u, hu⟩ : ∃ u, L[5 * (x / 8)]! = u := ⟨_, rfl⟩
      obtain ⟨z, hz⟩ : ∃ z, (sqzAt L x)[x]! = z := ⟨_, rfl⟩
      rw [hu] at c1
      rw [hz] at c2
      have AS : Aside (Below w.heap.size w wr ∧ wr.there w.heap.size 0 32 ∧ Row encB wr (w.heap.size + 1) 0 (sqzAt L x) ∧ sqzAt L (x + 1) = (sqzAt L x).set! x (u / 2 ^ (x % 8 * 8) % 256) ∧ Row encL w b off L ∧ L.size = 25) := ⟨hbl, hth, hro, by rw [← hu]; rfl, hR, hL⟩
      clear hbl hth hro hla hu hz hR f1 hL
      go_wp2
      obtain ⟨hbl, hth, hro, hcol, hR, hL⟩ := AS.out
      go_roundg (32 - (x + 1))
      case measure => omega
      case rel =>
        refine ⟨x + 1, by omega, rfl, by go_num, by simpa using hsz, hbl.setCell (by simp) _, there_set hth _ _, ?_⟩
        rw [hcol]
        refine hro.set (by omega) (by rw [sqzAt_size]; exact hlt) _ (val_int ?_)
        push_cast
        rfl
    · have hx32 : x = 32 := by omega
      rw [hx32] at hro
      have hnl : (32 : Int) ≤ (x : Int) := by omega
      obtain ⟨D, hD⟩ : ∃ D, sqzAt L 32 = D := ⟨_, rfl⟩
      have hDs : D.size = 32 := by rw [← hD]; exact sqzAt_size _ _
      rw [hD] at hro
      have hrg := hro.range
      have hsz1 : (Tryd.prog.info? 28).map (·.size) = some (D.toList.map encB).length := by rw [size28]; simp [hDs]
      have hsz2 : (Tryd.prog.info? 28).map (·.size) = some (D.toList.map encB).toArray.size := by rw [size28]; simp [hDs]
      have hone := all_oneCell_toArray (oneCell_enc D .u8)
      have hth' : wr.there w.heap.size 0 (D.toList.map encB).toArray.size := by simpa [hDs] using hth
      have AS : Aside (Below w.heap.size w wr ∧ wr.there w.heap.size 0 32 ∧ (∀ k, k = 32 → sqzAt L k = D) ∧ D.size = 32) := ⟨hbl, hth, fun k hk => by subst hk; exact hD, hDs⟩
      clear hbl hth hro hR hL hx32 hlt hD hDs
      go_wp2_with (first
        | (refine wpList_load_mid rfl 28 _ rfl (w.heap.size + 1) 0 rfl (D.toList.map encB) _ hrg Tryd.underlying28 rfl hsz1 ?_)
        | (refine wpList_store_mid rfl 28 _ _ rfl w.heap.size 0 (D.toList.map encB).toArray rfl rfl hth' hsz2 hone ?_))
      obtain ⟨hbl, hth, hD, hDs⟩ := AS.out
      have hth2 : wr.there w.heap.size 0 (D.toList.map encB).length := by simpa [hDs] using hth
      refine bodyPost_ret (v := .agg (D.toList.map encB).toArray) (results_cell1 Tryd.results37 _ _ _ w.heap.size 0 rfl (run_loadVar_mid _ _ _ 28 _ _ (World.rangeAt_setCells_same _ _ _ _ hth2) Tryd.underlying28 rfl hsz1)) rfl ⟨?_, ?_⟩
      · rw [hD 32 rfl]
      · obtain ⟨q1, q2, q3, q4⟩ := size_setCells w.heap.size (D.toList.map encB) 0 wr
        exact hbl.trans ⟨q2, q3, q4, by rw [q1]; exact Nat.le_refl _, fun k hk => heap_setCells _ _ _ _ _ (by omega)⟩
end Go.Proofs.YtjiikjpnlgogfaaDoor
