/-
  The two digests that the document names (fixed): the call answers true.
-/
import Derived.Test.YtjiikjpnlgogfaaDoorFix
import Derived.Test.YtjiikjpnlgogfaaDoorHashEq
namespace Go.Proofs.YtjiikjpnlgogfaaDoor
open Go.RowKit

attribute [local go_sem ↓] wp_load_cells28

set_option maxRecDepth 100000 in
set_option maxHeartbeats 1600000 in
theorem fixed_any (w : World) (hT : Tabs w) (hw10 : 16 ≤ w.heap.size) :
    Calls Tryd.prog 6 #[] w fun e w' => e = .returned (.bool true) ∧ Below w.heap.size w w' := by
  go_enter Tryd.func6, Tryd.ntmps6
  go_wp2_with fail
  refine (digest_any ⟨#[]⟩ w hT hw10).mono ?_
  rintro e w1 ⟨rfl, hb1⟩
  have hD1 : (digF ⟨#[]⟩).size = 32 := sumF_size _
  have hl1 := dig_empty
  generalize digF ⟨#[]⟩ = D1 at hD1 hl1 ⊢
  obtain ⟨t1, z1, z1', o1, b1, r1, s1⟩ := laid_hash w1 D1 hD1
  have A1 : Aside (Below w.heap.size w w1 ∧ D1.size = 32 ∧ D1.toList = dig1 ∧ Tabs w) := ⟨hb1, hD1, hl1, hT⟩
  clear hb1 hD1 hl1 hT
  go_wp2_with (refine wpList_store_mid rfl 28 _ _ rfl w1.heap.size 0 (D1.toList.map encB).toArray rfl rfl t1 z1 o1 ?_; rw [List.toList_toArray]; generalize (w1.alloc (.cells #[.int .u8 0, .int .u8 0, .int .u8 0, .int .u8 0, .int .u8 0, .int .u8 0, .int .u8 0, .int .u8 0, .int .u8 0, .int .u8 0, .int .u8 0, .int .u8 0, .int .u8 0, .int .u8 0, .int .u8 0, .int .u8 0, .int .u8 0, .int .u8 0, .int .u8 0, .int .u8 0, .int .u8 0, .int .u8 0, .int .u8 0, .int .u8 0, .int .u8 0, .int .u8 0, .int .u8 0, .int .u8 0, .int .u8 0, .int .u8 0, .int .u8 0, .int .u8 0] 28)).setCells w1.heap.size 0 (D1.toList.map encB) = w2 at b1 r1 s1 ⊢; clear t1 z1 o1)
  obtain ⟨hb1, hD1, hl1, hT⟩ := A1.out
  have hs1 := hb1.size
  have hb2 : Below w.heap.size w w2 := hb1.trans (b1.mono hs1)
  refine (digest_any ⟨#[128]⟩ w2 (hT.below hb2 hw10) (by omega)).mono ?_
  rintro e w3 ⟨rfl, hb3⟩
  have hD2 : (digF ⟨#[128]⟩).size = 32 := sumF_size _
  have hl2 := dig_80
  generalize digF ⟨#[128]⟩ = D2 at hD2 hl2 ⊢
  obtain ⟨t3, z3, z3', o3, b3, r3, s3⟩ := laid_hash w3 D2 hD2
  have hs3 := hb3.size
  have r1' := range_below r1 (hb3.block w1.heap.size (by omega))
  have A2 : Aside (Below w.heap.size w w3 ∧ D2.size = 32 ∧ D2.toList = dig2 ∧ D1.size = 32 ∧ D1.toList = dig1 ∧ w1.heap.size < w3.heap.size ∧ w.heap.size ≤ w1.heap.size ∧ w3.rangeAt w1.heap.size 0 (D1.toList.map encB)) := ⟨hb2.trans (hb3.mono (by omega)), hD2, hl2, hD1, hl1, by omega, hs1, r1'⟩
  clear A1 hb1 hD1 hl1 hT hb2 hb3 hD2 hl2 r1 b1 hs3 hs1 r1'
  go_wp2_with (first
    | (refine wpList_store_mid rfl 28 _ _ rfl w3.heap.size 0 (D2.toList.map encB).toArray rfl rfl t3 z3 o3 ?_; rw [List.toList_toArray]; generalize (w3.alloc (.cells #[.int .u8 0, .int .u8 0, .int .u8 0, .int .u8 0, .int .u8 0, .int .u8 0, .int .u8 0, .int .u8 0, .int .u8 0, .int .u8 0, .int .u8 0, .int .u8 0, .int .u8 0, .int .u8 0, .int .u8 0, .int .u8 0, .int .u8 0, .int .u8 0, .int .u8 0, .int .u8 0, .int .u8 0, .int .u8 0, .int .u8 0, .int .u8 0, .int .u8 0, .int .u8 0, .int .u8 0, .int .u8 0, .int .u8 0, .int .u8 0, .int .u8 0, .int .u8 0] 28)).setCells w3.heap.size 0 (D2.toList.map encB) = w4 at b3 r3 s3 ⊢; clear t3 z3 o3; have r4 := range_below A2.out.2.2.2.2.2.2.2 (b3.block _ A2.out.2.2.2.2.2.1))
    | (refine wpList_load_mid rfl 28 _ rfl w1.heap.size 0 rfl (D1.toList.map encB) _ r4 Tryd.underlying28 rfl z1' ?_))
  obtain ⟨hb3, hD2, hl2, hD1, hl1, hs13, hs1, _⟩ := A2.out
  have hb4 : Below w.heap.size w w4 := hb3.trans (b3.mono (by omega))
  refine (letters_any D1 w4 hD1 (bytes_of_list D1 (by rw [hl1]; decide))).mono ?_
  rintro e w5 ⟨rfl, hb5⟩
  rw [hl1, text1]
  have r5 := range_below r3 (hb5.block w3.heap.size (by omega))
  have hs5 := hb5.size
  have A3 : Aside (Below w.heap.size w w5 ∧ D2.size = 32 ∧ D2.toList = dig2) := ⟨hb4.trans (hb5.mono (by omega)), hD2, hl2⟩
  clear A2 hb3 hD2 hl2 hD1 hl1 hs13 hs1 hb4 hb5 hs5 r4 r3 b3 s3 z1' s1
  have hca : cellsAt w5 w3.heap.size 32 = (D2.toList.map encB).toArray := cellsAt_of_range r5 (by simp [A3.out.2.1])
  have hhas : HasCells w5 w3.heap.size 32 := hasCells_of_range r5 (by simp [A3.out.2.1])
  clear r5
  go_wp2_with fail
  obtain ⟨hb5, hD2, hl2⟩ := A3.out
  refine (letters_any D2 w5 hD2 (bytes_of_list D2 (by rw [hl2]; decide))).mono ?_
  rintro e w6 ⟨rfl, hb6⟩
  rw [hl2, text2]
  have hs5 := hb5.size
  have A4 : Aside (Below w.heap.size w w6) := hb5.trans (hb6.mono (by omega))
  clear A3 hb5 hD2 hl2 hb6 hca hhas hs5
  go_wp2
  go_ret
  exact ⟨rfl, A4.out⟩
end Go.Proofs.YtjiikjpnlgogfaaDoor
