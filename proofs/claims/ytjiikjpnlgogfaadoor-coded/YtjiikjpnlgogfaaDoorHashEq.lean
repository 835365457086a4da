/-
  Digests in blocks of their own, and held against one another.
-/
import Derived.Test.YtjiikjpnlgogfaaDoorOf
import Derived.Stop.BytesEq
namespace Go.Proofs.YtjiikjpnlgogfaaDoor
open Go.RowKit

/-- A digest laid into a new block. -/
theorem laid_hash (w : World) (D : Array Nat) (hD : D.size = 32) :
    (w.alloc (.cells #[.int .u8 0, .int .u8 0, .int .u8 0, .int .u8 0, .int .u8 0, .int .u8 0, .int .u8 0, .int .u8 0, .int .u8 0, .int .u8 0, .int .u8 0, .int .u8 0, .int .u8 0, .int .u8 0, .int .u8 0, .int .u8 0, .int .u8 0, .int .u8 0, .int .u8 0, .int .u8 0, .int .u8 0, .int .u8 0, .int .u8 0, .int .u8 0, .int .u8 0, .int .u8 0, .int .u8 0, .int .u8 0, .int .u8 0, .int .u8 0, .int .u8 0, .int .u8 0] 28)).there w.heap.size 0 (D.toList.map encB).toArray.size ∧ (Tryd.prog.info? 28).map (·.size) = some (D.toList.map encB).toArray.size ∧ (Tryd.prog.info? 28).map (·.size) = some (D.toList.map encB).length ∧ (D.toList.map encB).toArray.all (·.oneCell') = true ∧
    Below w.heap.size w ((w.alloc (.cells #[.int .u8 0, .int .u8 0, .int .u8 0, .int .u8 0, .int .u8 0, .int .u8 0, .int .u8 0, .int .u8 0, .int .u8 0, .int .u8 0, .int .u8 0, .int .u8 0, .int .u8 0, .int .u8 0, .int .u8 0, .int .u8 0, .int .u8 0, .int .u8 0, .int .u8 0, .int .u8 0, .int .u8 0, .int .u8 0, .int .u8 0, .int .u8 0, .int .u8 0, .int .u8 0, .int .u8 0, .int .u8 0, .int .u8 0, .int .u8 0, .int .u8 0, .int .u8 0] 28)).setCells w.heap.size 0 (D.toList.map encB)) ∧ ((w.alloc (.cells #[.int .u8 0, .int .u8 0, .int .u8 0, .int .u8 0, .int .u8 0, .int .u8 0, .int .u8 0, .int .u8 0, .int .u8 0, .int .u8 0, .int .u8 0, .int .u8 0, .int .u8 0, .int .u8 0, .int .u8 0, .int .u8 0, .int .u8 0, .int .u8 0, .int .u8 0, .int .u8 0, .int .u8 0, .int .u8 0, .int .u8 0, .int .u8 0, .int .u8 0, .int .u8 0, .int .u8 0, .int .u8 0, .int .u8 0, .int .u8 0, .int .u8 0, .int .u8 0] 28)).setCells w.heap.size 0 (D.toList.map encB)).rangeAt w.heap.size 0 (D.toList.map encB) ∧
    w.heap.size < ((w.alloc (.cells #[.int .u8 0, .int .u8 0, .int .u8 0, .int .u8 0, .int .u8 0, .int .u8 0, .int .u8 0, .int .u8 0, .int .u8 0, .int .u8 0, .int .u8 0, .int .u8 0, .int .u8 0, .int .u8 0, .int .u8 0, .int .u8 0, .int .u8 0, .int .u8 0, .int .u8 0, .int .u8 0, .int .u8 0, .int .u8 0, .int .u8 0, .int .u8 0, .int .u8 0, .int .u8 0, .int .u8 0, .int .u8 0, .int .u8 0, .int .u8 0, .int .u8 0, .int .u8 0] 28)).setCells w.heap.size 0 (D.toList.map encB)).heap.size := by
  have ht : (w.alloc (.cells #[.int .u8 0, .int .u8 0, .int .u8 0, .int .u8 0, .int .u8 0, .int .u8 0, .int .u8 0, .int .u8 0, .int .u8 0, .int .u8 0, .int .u8 0, .int .u8 0, .int .u8 0, .int .u8 0, .int .u8 0, .int .u8 0, .int .u8 0, .int .u8 0, .int .u8 0, .int .u8 0, .int .u8 0, .int .u8 0, .int .u8 0, .int .u8 0, .int .u8 0, .int .u8 0, .int .u8 0, .int .u8 0, .int .u8 0, .int .u8 0, .int .u8 0, .int .u8 0] 28)).there w.heap.size 0 32 := there_new w _ 28 32 rfl
  have hb : Below w.heap.size w (w.alloc (.cells #[.int .u8 0, .int .u8 0, .int .u8 0, .int .u8 0, .int .u8 0, .int .u8 0, .int .u8 0, .int .u8 0, .int .u8 0, .int .u8 0, .int .u8 0, .int .u8 0, .int .u8 0, .int .u8 0, .int .u8 0, .int .u8 0, .int .u8 0, .int .u8 0, .int .u8 0, .int .u8 0, .int .u8 0, .int .u8 0, .int .u8 0, .int .u8 0, .int .u8 0, .int .u8 0, .int .u8 0, .int .u8 0, .int .u8 0, .int .u8 0, .int .u8 0, .int .u8 0] 28)) := (Below.refl _ _).alloc (Nat.le_refl _) _
  have hs : w.heap.size < (w.alloc (.cells #[.int .u8 0, .int .u8 0, .int .u8 0, .int .u8 0, .int .u8 0, .int .u8 0, .int .u8 0, .int .u8 0, .int .u8 0, .int .u8 0, .int .u8 0, .int .u8 0, .int .u8 0, .int .u8 0, .int .u8 0, .int .u8 0, .int .u8 0, .int .u8 0, .int .u8 0, .int .u8 0, .int .u8 0, .int .u8 0, .int .u8 0, .int .u8 0, .int .u8 0, .int .u8 0, .int .u8 0, .int .u8 0, .int .u8 0, .int .u8 0, .int .u8 0, .int .u8 0] 28)).heap.size := by simp
  generalize w.alloc (.cells #[.int .u8 0, .int .u8 0, .int .u8 0, .int .u8 0, .int .u8 0, .int .u8 0, .int .u8 0, .int .u8 0, .int .u8 0, .int .u8 0, .int .u8 0, .int .u8 0, .int .u8 0, .int .u8 0, .int .u8 0, .int .u8 0, .int .u8 0, .int .u8 0, .int .u8 0, .int .u8 0, .int .u8 0, .int .u8 0, .int .u8 0, .int .u8 0, .int .u8 0, .int .u8 0, .int .u8 0, .int .u8 0, .int .u8 0, .int .u8 0, .int .u8 0, .int .u8 0] 28) = w1 at ht hb hs
  obtain ⟨z1, z2, t1, t2⟩ := hash_cells hD ht
  exact ⟨t1, z2, z1, all_oneCell_toArray (oneCell_enc D .u8), below_setCells hb (Nat.le_refl _) _ _, World.rangeAt_setCells_same _ _ _ _ t2, by rw [(size_setCells _ _ _ _).1]; exact hs⟩

theorem range_below {w w1 : World} {b o : Nat} {cs : List Value} (h : w.rangeAt b o cs) (hb : w1.heap[b]? = w.heap[b]?) : w1.rangeAt b o cs :=
  fun j v hv => (World.cell?_of_block hb).trans (h j v hv)

theorem wp_load_cells28 (dst : Option Tmp) (x : Operand) (type : TypeId) (pos : String) (af : Array Edge) (gd : Option (Nat × Bool)) (a : Act) (w : World) (K : Act → World → Prop) (Q : Exit → Act → World → Prop)
    (hx : a.eval x = .pointer (some ⟨blockOf (a.eval x), 0, none⟩)) (hall : HasCells w (blockOf (a.eval x)) 32) :
    Oper.wp Tryd.prog { dst := dst, op := .load 28 x, type := type, pos := pos, after := af, guard := gd } a w K Q = K (a.put dst (.agg (cellsAt w (blockOf (a.eval x)) 32))) w := by
  generalize blockOf (a.eval x) = b at hx hall ⊢
  have hr : w.rangeAt b 0 ((List.range 32).map fun j => (w.cell? ⟨b, j, none⟩).getD undef) := by
    intro j v hv
    have hj : j < 32 := by
      have := (List.getElem?_eq_some_iff.1 hv).1
      simpa using this
    obtain ⟨u, hu⟩ := Option.isSome_iff_exists.1 (hall j hj)
    simp only [List.getElem?_map, List.getElem?_range hj, Option.map_some, Option.some.injEq] at hv
    rw [Nat.zero_add, hu, ← hv, hu]
    rfl
  unfold Oper.wp execOp
  simp only [hx, Instr.loadAt, Instr.sureAddr, Sem.run_bind, Sem.run_pure, Result.andThen_ok, run_loadVar_mid w b 0 28 _ _ hr Tryd.underlying28 rfl (by rw [size28]; simp)]
  rfl

theorem bytesOf_append (a b : ByteArray) : bytesOf (a ++ b) = bytesOf a ++ bytesOf b := by
  unfold bytesOf
  rw [ByteArray.data_append, Array.toList_append, List.map_append]

theorem sqzAt_bytes (L : Array Nat) (k : Nat) : Bytes (sqzAt L k) := by
  induction k with
  | zero =>
    intro j
    show (Array.replicate 32 0 : Array Nat)[j]! < _
    rw [zeros_get]; decide
  | succ k ih => exact bytes_set ih _ _ (Nat.mod_lt _ (by decide))

theorem same_hash (D : Array Nat) (hD : D.size = 32) (hB : Bytes D) (W : World) :
    Sem.run Tryd.prog (Op.equalIn 10000 28 (.agg (D.toList.map encB).toArray) (.agg (D.toList.map encB).toArray)) W = .ok true W := by
  have e : D.toList.map encB = (D.toList.map UInt8.ofNat).map Extern.Stop.cell := by
    rw [List.map_map]
    apply List.map_congr_left
    intro x hx
    obtain ⟨j, hj, rfl⟩ := List.getElem_of_mem hx
    have hlt : D.toList[j] < 256 := by
      have := hB j
      rw [getElem!_pos D j (by simpa using hj)] at this
      simpa using this
    show Value.int .u8 _ = Value.int .u8 _
    congr 1
    have hlt' : D[j] < 256 := by simpa using hlt
    simp
    omega
  have hs5 : ∀ w, (sizeOf 5).run Tryd.prog w = .ok 1 w := fun w => by
    have h := size5
    cases hq : Tryd.prog.info? 5 with
    | none => rw [hq] at h; cases h
    | some i =>
      rw [hq] at h
      have hi : i.size = 1 := by simpa using h
      simp [sizeOf, typeInfo, hq, hi]
  have h := run_equalIn_bytes (P := Tryd.prog) W 9998 28 5 32 Tryd.underlying28 Tryd.underlying5 hs5 (D.toList.map UInt8.ofNat) (D.toList.map UInt8.ofNat) (by simp [hD]) (by simp [hD])
  rw [← e] at h
  rw [h]
  simp

end Go.Proofs.YtjiikjpnlgogfaaDoor
