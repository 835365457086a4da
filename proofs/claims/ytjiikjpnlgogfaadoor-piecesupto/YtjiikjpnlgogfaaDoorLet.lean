/-
  A digest as a text (letters), and the two digests that the document names (fixed).
-/
import Derived.Test.YtjiikjpnlgogfaaDoorOf
namespace Go.Proofs.YtjiikjpnlgogfaaDoor
open Go.RowKit

/-- Bytes as a text. -/
def textOf (l : List Nat) : ByteArray := ⟨(l.map UInt8.ofNat).toArray⟩

theorem run_one_byte (w : World) (u : Nat) : Sem.run Tryd.prog (convert 73 9 (.slice (some ⟨w.heap.size, 0, none⟩) 1 1)) (w.alloc (.cells #[encB u] 5)) = .ok (.string (textOf [u])) (w.alloc (.cells #[encB u] 5)) := by
  rw [run_convert_bytes_string _ 73 9 5 _ _ _ Tryd.underlying73 Tryd.underlying5 Tryd.underlying9]
  have h := run_loadCells_list (P := Tryd.prog) (w.alloc (.cells #[encB u] 5)) ⟨w.heap.size, 0, none⟩ [encB u] (fun j v hv => by
    have hj : j = 0 := by
      have := (List.getElem?_eq_some_iff.1 hv).1
      simpa using this
    subst hj
    rw [Addr.add_mid, World.cell?_alloc_new]
    exact hv)
  exact run_bytesToString (P := Tryd.prog) _ ⟨w.heap.size, 0, none⟩ 1 1 [(u : Int)] h

theorem textOf_size (l : List Nat) : (textOf l).size = l.length := by
  show (l.map UInt8.ofNat).toArray.size = _
  simp
theorem textOf_append (a b : List Nat) : textOf a ++ textOf b = textOf (a ++ b) := by
  unfold textOf
  rw [ByteArray.mk_append_mk, List.map_append]

set_option maxRecDepth 100000 in
set_option maxHeartbeats 1600000 in
theorem letters_any (D : Array Nat) (w : World) (hs : D.size = 32) (hB : Bytes D) :
    Calls Tryd.prog 23 #[.agg (D.toList.map encB).toArray] w fun e w' => e = .returned (.string (textOf D.toList)) ∧ Below w.heap.size w w' := by
  have ro0 : Row encB (w.alloc (.cells (D.toList.map encB).toArray 28)) w.heap.size 0 D := by
    have := Row.new (enc := encB) w D 28
    rw [map_toArray] at this
    exact this
  go_enter Tryd.func23, Tryd.ntmps23
  go_wp2
  generalize hw0 : w.alloc (.cells (D.toList.map encB).toArray 28) = w0 at ro0 ⊢
  have bl0 : Below w.heap.size w w0 := by rw [← hw0]; exact (Below.refl _ _).alloc (Nat.le_refl _) _
  have sz0 : w.heap.size < w0.heap.size := by rw [← hw0]; simp
  clear hw0
  go_loopg [3, 4] 32 (fun g t i wr => ∃ x : Nat, x ≤ 32 ∧ g = 32 - x ∧ i = .int .i64 x ∧ t = .string (textOf (D.toList.take x)) ∧ w.heap.size < wr.heap.size ∧ Below w.heap.size w wr ∧ Row encB wr w.heap.size 0 D)
  case atStart => exact ⟨0, by omega, rfl, rfl, rfl, sz0, bl0, ro0⟩
  case round =>
    obtain ⟨x, hx, rfl, rfl, rfl, hsz, hbl, hro⟩ := hrel
    clear sz0 bl0 ro0
    by_cases hlt : x < 32
    · obtain ⟨c1, f1⟩ := hro x (by omega)
      rw [Nat.zero_add] at c1 f1
      have hbx := hB x
      obtain ⟨u, hu⟩ : ∃ u, D[x]! = u := ⟨_, rfl⟩
      rw [hu] at c1 hbx
      obtain ⟨t, htt⟩ : ∃ t, textOf (D.toList.take x) = t := ⟨_, rfl⟩
      rw [htt]
      have AS : Aside (Below w.heap.size w wr ∧ Row encB wr w.heap.size 0 D ∧ D[x]! = u ∧ textOf (D.toList.take x) = t) := ⟨hbl, hro, hu, htt⟩
      have hts : t.size ≤ 32 := by rw [← htt, textOf_size, List.length_take]; omega
      have hconv := run_one_byte wr u
      have hadd : ∀ W : World, Sem.run Tryd.prog (Op.stringOp .add t (textOf [u])) W = .ok (.string (t ++ textOf [u])) W := fun W => run_string_add_sum W t (textOf [u]) (by rw [textOf_size]; simp; omega)
      have AB : Aside (t ++ textOf [u] = textOf (D.toList.take (x + 1))) := by
        show _ = _
        rw [← htt, textOf_append, ← hu, List.take_succ_eq_append_getElem (by simp; omega)]
        congr 1
        simp [hs, hlt]
      generalize textOf [u] = tu at hconv hadd AB
      clear hbl hro hu hB htt hs hbx
      go_wp2
      obtain ⟨hbl, hro, _, _⟩ := AS.out
      go_roundg (32 - (x + 1))
      case measure => omega
      case rel => exact ⟨x + 1, by omega, rfl, by go_num, by rw [AB.out], by simp; omega, hbl.alloc (by omega) _, hro.alloc hsz _⟩
    · have hx32 : x = 32 := by omega
      have hnl : (32 : Int) ≤ (x : Int) := by omega
      have htt : textOf (D.toList.take x) = textOf D.toList := by rw [List.take_of_length_le (by simp; omega)]
      rw [htt]
      have AS : Aside (Below w.heap.size w wr) := hbl
      clear hbl hro hB htt hs hx32 hlt
      go_wp2
      go_ret
      exact ⟨rfl, AS.out⟩
end Go.Proofs.YtjiikjpnlgogfaaDoor
