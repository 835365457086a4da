/-
  A digest as a text (letters), and the two digests that the document names (fixed).
  The two digests that the document names: of the empty text, and of the byte 128 (fixed): worked out by the kernel.
  The two digests that the document names (fixed): the call answers true.
-/
import Derived.Test.YtjiikjpnlgogfaaGreatDoorWriG
namespace Go.Proofs.YtjiikjpnlgogfaaGreatDoor
open Go.RowKit

/-- Bytes as a text. -/
def textOf (l : List Nat) : ByteArray := ⟨(l.map UInt8.ofNat).toArray⟩

theorem run_one_byte (w : World) (u : Nat) : Sem.run Tryz.prog (convert 111 9 (.slice (some ⟨w.heap.size, 0, none⟩) 1 1)) (w.alloc (.cells #[encB u] 5)) = .ok (.string (textOf [u])) (w.alloc (.cells #[encB u] 5)) := by
  rw [run_convert_bytes_string _ 111 9 5 _ _ _ Tryz.underlying111 Tryz.underlying5 Tryz.underlying9]
  have h := run_loadCells_list (P := Tryz.prog) (w.alloc (.cells #[encB u] 5)) ⟨w.heap.size, 0, none⟩ [encB u] (fun j v hv => by
    have hj : j = 0 := by
      have := (List.getElem?_eq_some_iff.1 hv).1
      simpa using this
    subst hj
    rw [Addr.add_mid, World.cell?_alloc_new]
    exact hv)
  exact run_bytesToString (P := Tryz.prog) _ ⟨w.heap.size, 0, none⟩ 1 1 [(u : Int)] h

theorem textOf_size (l : List Nat) : (textOf l).size = l.length := by
  show (l.map UInt8.ofNat).toArray.size = _
  simp
theorem textOf_append (a b : List Nat) : textOf a ++ textOf b = textOf (a ++ b) := by
  unfold textOf
  rw [ByteArray.mk_append_mk, List.map_append]

set_option maxRecDepth 100000 in
set_option maxHeartbeats 1600000 in
theorem letters_any (D : Array Nat) (w : World) (hs : D.size = 32) (hB : Bytes D) :
    Calls Tryz.prog 46 #[.agg (D.toList.map encB).toArray] w fun e w' => e = .returned (.string (textOf D.toList)) ∧ Below w.heap.size w w' := by
  have ro0 : Row encB (w.alloc (.cells (D.toList.map encB).toArray 34)) w.heap.size 0 D := by
    have := Row.new (enc := encB) w D 34
    rw [map_toArray] at this
    exact this
  go_enter Tryz.func46, Tryz.ntmps46
  go_wp2
  generalize hw0 : w.alloc (.cells (D.toList.map encB).toArray 34) = w0 at ro0 ⊢
  have bl0 : Below w.heap.size w w0 := by rw [← hw0]; exact (Below.refl _ _).alloc (Nat.le_refl _) _
  have sz0 : w.heap.size < w0.heap.size := by rw [← hw0]; simp
  clear hw0
  go_loopg [3, 4] 32 (fun g t i wr => ∃ x : Nat, x ≤ 32 ∧ g = 32 - x ∧ i = .int .i64 x ∧ t = .string (textOf (D.toList.take x)) ∧ w.heap.size < wr.heap.size ∧ Below w.heap.size w wr ∧ Row encB wr w.heap.size 0 D)
  case atStart => exact ⟨0, by omega, rfl, rfl, rfl, sz0, bl0, ro0⟩
  case round =>
    obtain ⟨x, hx, rfl, rfl, rfl, hsz, hbl, hro⟩ := hrel
    clear sz0 bl0 ro0
    by_cases hlt : x < 32
    · obtain ⟨c1, f1⟩ := hro x (by omega)
      rw [Nat.zero_add] at c1 f1
      have hbx := hB x
      obtain ⟨u, hu⟩ : ∃ u, D[x]! = u := ⟨_, rfl⟩
      rw [hu] at c1 hbx
      obtain ⟨t, htt⟩ : ∃ t, textOf (D.toList.take x) = t := ⟨_, rfl⟩
      rw [htt]
      have AS : Aside (Below w.heap.size w wr ∧ Row encB wr w.heap.size 0 D ∧ D[x]! = u ∧ textOf (D.toList.take x) = t) := ⟨hbl, hro, hu, htt⟩
      have hts : t.size ≤ 32 := by rw [← htt, textOf_size, List.length_take]; omega
      have hconv := run_one_byte wr u
      have hadd : ∀ W : World, Sem.run Tryz.prog (Op.stringOp .add t (textOf [u])) W = .ok (.string (t ++ textOf [u])) W := fun W => run_string_add_sum W t (textOf [u]) (by rw [textOf_size]; simp; omega)
      have AB : Aside (t ++ textOf [u] = textOf (D.toList.take (x + 1))) := by
        show _ = _
        rw [← htt, textOf_append, ← hu, List.take_succ_eq_append_getElem (by simp; omega)]
        congr 1
        simp [hs, hlt]
      generalize textOf [u] = tu at hconv hadd AB
      clear hbl hro hu hB htt hs hbx
      go_wp2
      obtain ⟨hbl, hro, _, _⟩ := AS.out
      go_roundg (32 - (x + 1))
      case measure => omega
      case rel => exact ⟨x + 1, by omega, rfl, by go_num, by rw [AB.out], by simp; omega, hbl.alloc (by omega) _, hro.alloc hsz _⟩
    · have hx32 : x = 32 := by omega
      have hnl : (32 : Int) ≤ (x : Int) := by omega
      have htt : textOf (D.toList.take x) = textOf D.toList := by rw [List.take_of_length_le (by simp; omega)]
      rw [htt]
      have AS : Aside (Below w.heap.size w wr) := hbl
      clear hbl hro hB htt hs hx32 hlt
      go_wp2
      go_ret
      exact ⟨rfl, AS.out⟩
end Go.Proofs.YtjiikjpnlgogfaaGreatDoor

namespace Go.Proofs.YtjiikjpnlgogfaaGreatDoor
open Go.RowKit

def dig1 : List Nat := [197, 210, 70, 1, 134, 247, 35, 60, 146, 126, 125, 178, 220, 199, 3, 192, 229, 0, 182, 83, 202, 130, 39, 59, 123, 250, 216, 4, 93, 133, 164, 112]
def dig2 : List Nat := [86, 232, 31, 23, 27, 204, 85, 166, 255, 131, 69, 230, 146, 192, 248, 110, 91, 72, 224, 27, 153, 108, 173, 192, 1, 98, 47, 181, 227, 99, 180, 33]

set_option maxRecDepth 100000 in
theorem dig_empty : (digF ⟨#[]⟩).toList = dig1 := by decide +kernel
set_option maxRecDepth 100000 in
theorem dig_80 : (digF ⟨#[128]⟩).toList = dig2 := by decide +kernel

theorem text1 : textOf dig1 = ⟨#[197, 210, 70, 1, 134, 247, 35, 60, 146, 126, 125, 178, 220, 199, 3, 192, 229, 0, 182, 83, 202, 130, 39, 59, 123, 250, 216, 4, 93, 133, 164, 112]⟩ := by kernel_rfl
theorem text2 : textOf dig2 = ⟨#[86, 232, 31, 23, 27, 204, 85, 166, 255, 131, 69, 230, 146, 192, 248, 110, 91, 72, 224, 27, 153, 108, 173, 192, 1, 98, 47, 181, 227, 99, 180, 33]⟩ := by kernel_rfl

theorem bytes_of_list (D : Array Nat) (h : ∀ x ∈ D.toList, x < 256) : Bytes D := by
  intro j
  by_cases hj : j < D.size
  · rw [getElem!_pos D j hj]
    exact h _ (by simp)
  · have : D[j]! = 0 := by simp [hj]
    rw [this]; decide

end Go.Proofs.YtjiikjpnlgogfaaGreatDoor

namespace Go.Proofs.YtjiikjpnlgogfaaGreatDoor
open Go.RowKit

attribute [local go_sem ↓] wp_load_cells28

set_option maxRecDepth 100000 in
set_option maxHeartbeats 1600000 in
theorem fixed_any (w : World) (hT : Tabs w) (hw10 : 16 ≤ w.heap.size) :
    Calls Tryz.prog 14 #[] w fun e w' => e = .returned (.bool true) ∧ Below w.heap.size w w' := by
  go_enter Tryz.func14, Tryz.ntmps14
  go_wp2_with fail
  refine (digest_any ⟨#[]⟩ w hT hw10).mono ?_
  rintro e w1 ⟨rfl, hb1⟩
  have hD1 : (digF ⟨#[]⟩).size = 32 := sumF_size _
  have hl1 := dig_empty
  generalize digF ⟨#[]⟩ = D1 at hD1 hl1 ⊢
  obtain ⟨t1, z1, z1', o1, b1, r1, s1⟩ := laid_hash w1 D1 hD1
  have A1 : Aside (Below w.heap.size w w1 ∧ D1.size = 32 ∧ D1.toList = dig1 ∧ Tabs w) := ⟨hb1, hD1, hl1, hT⟩
  clear hb1 hD1 hl1 hT
  go_wp2_with (refine wpList_store_mid rfl 34 _ _ rfl w1.heap.size 0 (D1.toList.map encB).toArray rfl rfl t1 z1 o1 ?_; rw [List.toList_toArray]; generalize (w1.alloc (.cells #[.int .u8 0, .int .u8 0, .int .u8 0, .int .u8 0, .int .u8 0, .int .u8 0, .int .u8 0, .int .u8 0, .int .u8 0, .int .u8 0, .int .u8 0, .int .u8 0, .int .u8 0, .int .u8 0, .int .u8 0, .int .u8 0, .int .u8 0, .int .u8 0, .int .u8 0, .int .u8 0, .int .u8 0, .int .u8 0, .int .u8 0, .int .u8 0, .int .u8 0, .int .u8 0, .int .u8 0, .int .u8 0, .int .u8 0, .int .u8 0, .int .u8 0, .int .u8 0] 34)).setCells w1.heap.size 0 (D1.toList.map encB) = w2 at b1 r1 s1 ⊢; clear t1 z1 o1)
  obtain ⟨hb1, hD1, hl1, hT⟩ := A1.out
  have hs1 := hb1.size
  have hb2 : Below w.heap.size w w2 := hb1.trans (b1.mono hs1)
  refine (digest_any ⟨#[128]⟩ w2 (hT.below hb2 hw10) (by omega)).mono ?_
  rintro e w3 ⟨rfl, hb3⟩
  have hD2 : (digF ⟨#[128]⟩).size = 32 := sumF_size _
  have hl2 := dig_80
  generalize digF ⟨#[128]⟩ = D2 at hD2 hl2 ⊢
  obtain ⟨t3, z3, z3', o3, b3, r3, s3⟩ := laid_hash w3 D2 hD2
  have hs3 := hb3.size
  have r1' := range_below r1 (hb3.block w1.heap.size (by omega))
  have A2 : Aside (Below w.heap.size w w3 ∧ D2.size = 32 ∧ D2.toList = dig2 ∧ D1.size = 32 ∧ D1.toList = dig1 ∧ w1.heap.size < w3.heap.size ∧ w.heap.size ≤ w1.heap.size ∧ w3.rangeAt w1.heap.size 0 (D1.toList.map encB)) := ⟨hb2.trans (hb3.mono (by omega)), hD2, hl2, hD1, hl1, by omega, hs1, r1'⟩
  clear A1 hb1 hD1 hl1 hT hb2 hb3 hD2 hl2 r1 b1 hs3 hs1 r1'
  go_wp2_with (first
    | (refine wpList_store_mid rfl 34 _ _ rfl w3.heap.size 0 (D2.toList.map encB).toArray rfl rfl t3 z3 o3 ?_; rw [List.toList_toArray]; generalize (w3.alloc (.cells #[.int .u8 0, .int .u8 0, .int .u8 0, .int .u8 0, .int .u8 0, .int .u8 0, .int .u8 0, .int .u8 0, .int .u8 0, .int .u8 0, .int .u8 0, .int .u8 0, .int .u8 0, .int .u8 0, .int .u8 0, .int .u8 0, .int .u8 0, .int .u8 0, .int .u8 0, .int .u8 0, .int .u8 0, .int .u8 0, .int .u8 0, .int .u8 0, .int .u8 0, .int .u8 0, .int .u8 0, .int .u8 0, .int .u8 0, .int .u8 0, .int .u8 0, .int .u8 0] 34)).setCells w3.heap.size 0 (D2.toList.map encB) = w4 at b3 r3 s3 ⊢; clear t3 z3 o3; have r4 := range_below A2.out.2.2.2.2.2.2.2 (b3.block _ A2.out.2.2.2.2.2.1))
    | (refine wpList_load_mid rfl 34 _ rfl w1.heap.size 0 rfl (D1.toList.map encB) _ r4 Tryz.underlying34 rfl z1' ?_))
  obtain ⟨hb3, hD2, hl2, hD1, hl1, hs13, hs1, _⟩ := A2.out
  have hb4 : Below w.heap.size w w4 := hb3.trans (b3.mono (by omega))
  refine (letters_any D1 w4 hD1 (bytes_of_list D1 (by rw [hl1]; decide))).mono ?_
  rintro e w5 ⟨rfl, hb5⟩
  rw [hl1, text1]
  have r5 := range_below r3 (hb5.block w3.heap.size (by omega))
  have hs5 := hb5.size
  have A3 : Aside (Below w.heap.size w w5 ∧ D2.size = 32 ∧ D2.toList = dig2) := ⟨hb4.trans (hb5.mono (by omega)), hD2, hl2⟩
  clear A2 hb3 hD2 hl2 hD1 hl1 hs13 hs1 hb4 hb5 hs5 r4 r3 b3 s3 z1' s1
  have hca : cellsAt w5 w3.heap.size 32 = (D2.toList.map encB).toArray := cellsAt_of_range r5 (by simp [A3.out.2.1])
  have hhas : HasCells w5 w3.heap.size 32 := hasCells_of_range r5 (by simp [A3.out.2.1])
  clear r5
  go_wp2_with fail
  obtain ⟨hb5, hD2, hl2⟩ := A3.out
  refine (letters_any D2 w5 hD2 (bytes_of_list D2 (by rw [hl2]; decide))).mono ?_
  rintro e w6 ⟨rfl, hb6⟩
  rw [hl2, text2]
  have hs5 := hb5.size
  have A4 : Aside (Below w.heap.size w w6) := hb5.trans (hb6.mono (by omega))
  clear A3 hb5 hD2 hl2 hb6 hca hhas hs5
  go_wp2
  go_ret
  exact ⟨rfl, A4.out⟩
end Go.Proofs.YtjiikjpnlgogfaaGreatDoor
