/-
  The digest of a whole text (digest.Of, twigs.Digest), and the hasher of package twigs (NewHasher, Write, Sum).
-/
import Derived.Test.YtjiikjpnlgogfaaDoorSum
namespace Go.Proofs.YtjiikjpnlgogfaaDoor
open Go.RowKit

theorem Hs.of_range {w1 : World} {b : Nat} {st : HSt} (hr : w1.rangeAt b 0 (cellsOf st)) (hf : ∀ j, j < 162 → w1.frozen? ⟨b, j, none⟩ = false) (h1 : st.1.size = 25) (h2 : st.2.1.size = 136) (h3 : Small st.1) (h4 : Bytes st.2.1) (h5 : st.2.2 < 136) : Hs w1 b st := by
  refine ⟨fun j hj => ⟨hr j _ ?_, by rw [Nat.zero_add]; exact hf j (by omega)⟩, fun j hj => ⟨?_, hf (25 + j) (by omega)⟩, ?_, hf 161 (by omega), h1, h2, h3, h4, h5⟩
  · unfold cellsOf
    rw [List.getElem?_append_left (by simp; omega)]
    simp [hj]
  · have := hr (25 + j) (encB st.2.1[j]!) ?_
    · rwa [Nat.zero_add] at this
    · unfold cellsOf
      rw [List.getElem?_append_right (by simp; omega), List.getElem?_append_left (by simp; omega)]
      simp [hj, h1]
  · have := hr 161 (.int .i64 (st.2.2 : Int)) ?_
    · rwa [Nat.zero_add] at this
    · unfold cellsOf
      rw [List.getElem?_append_right (by simp; omega), List.getElem?_append_right (by simp; omega)]
      simp [h1, h2]

theorem zeros_get (n j : Nat) : (Array.replicate n 0 : Array Nat)[j]! = 0 := by
  by_cases h : j < n
  · simp [h]
  · simp [h]

theorem Hs.zero (w : World) (C : Array Value) (t : TypeId) (hC : C = (cellsOf init).toArray) : Hs (w.alloc (.cells C t)) w.heap.size init := by
  subst hC
  refine Hs.of_range ?_ (fun j _ => World.frozen?_alloc_new _ _ _ _) (by simp [init]) (by simp [init]) (fun j => ?_) (fun j => ?_) (by simp [init])
  · intro j v hv
    rw [Nat.zero_add, World.cell?_alloc_new]
    rw [← hv]
    simp
  · show (Array.replicate 25 0 : Array Nat)[j]! < _
    rw [zeros_get]; decide
  · show (Array.replicate 136 0 : Array Nat)[j]! < _
    rw [zeros_get]; decide

theorem zero70_init : Tryd.zeroCells70 = (cellsOf init).toArray := by kernel_rfl

/-- 32 bytes as a result's cells: what the last lines of a call that hands back a digest want. -/
theorem hash_cells {w7 : World} {N : Nat} {D : Array Nat} (hD : D.size = 32) (ht : w7.there N 0 32) :
    (Tryd.prog.info? 28).map (·.size) = some (D.toList.map encB).length ∧ (Tryd.prog.info? 28).map (·.size) = some (D.toList.map encB).toArray.size ∧ w7.there N 0 (D.toList.map encB).toArray.size ∧ w7.there N 0 (D.toList.map encB).length := by
  refine ⟨?_, ?_, ?_, ?_⟩
  · rw [size28]; simp [hD]
  · rw [size28]; simp [hD]
  · simpa [hD] using ht
  · simpa [hD] using ht

theorem below_setCells {w w7 : World} {N : Nat} (h : Below w.heap.size w w7) (hN : w.heap.size ≤ N) (vs : List Value) (o : Nat) : Below w.heap.size w (w7.setCells N o vs) := by
  obtain ⟨q1, q2, q3, q4⟩ := size_setCells N vs o w7
  exact h.trans ⟨q2, q3, q4, by rw [q1]; exact Nat.le_refl _, fun k hk => heap_setCells _ _ _ _ _ (by omega)⟩

theorem there_block {w w1 : World} {b o n : Nat} (h : w.there b o n) (hb : w1.heap[b]? = w.heap[b]?) : w1.there b o n := fun j hj =>
  ⟨by rw [World.cell?_of_block hb]; exact (h j hj).1, by rw [World.frozen?_of_block hb]; exact (h j hj).2⟩

theorem Hs.block {w w1 : World} {b : Nat} {st : HSt} (h : Hs w b st) (hb : w1.heap[b]? = w.heap[b]?) : Hs w1 b st :=
  ⟨h.lanes.of_eq hb, h.waits.of_eq hb, (World.cell?_of_block hb).trans h.count, (World.frozen?_of_block hb).trans h.froz, h.size1, h.size2, h.small, h.bytes, h.less⟩

theorem sumF_size (st : HSt) : (sumF st).size = 32 := sqzAt_size _ _

set_option maxRecDepth 100000 in
set_option maxHeartbeats 1600000 in
theorem of_any (s : ByteArray) (w : World) (hT : Tabs w) (hw10 : 16 ≤ w.heap.size) :
    Calls Tryd.prog 26 #[.string s] w fun e w' => e = .returned (.agg ((digF s).toList.map encB).toArray) ∧ Below w.heap.size w w' := by
  go_enter Tryd.func26, Tryd.ntmps26
  go_wp2_with fail
  generalize hw1 : (w.alloc (.cells _ 28)).alloc (.cells Tryd.zeroCells70 70) = w1
  have hH1 : Hs w1 (w.heap.size + 1) init := by
    rw [← hw1]
    have := Hs.zero (w.alloc (.cells #[.int .u8 0, .int .u8 0, .int .u8 0, .int .u8 0, .int .u8 0, .int .u8 0, .int .u8 0, .int .u8 0, .int .u8 0, .int .u8 0, .int .u8 0, .int .u8 0, .int .u8 0, .int .u8 0, .int .u8 0, .int .u8 0, .int .u8 0, .int .u8 0, .int .u8 0, .int .u8 0, .int .u8 0, .int .u8 0, .int .u8 0, .int .u8 0, .int .u8 0, .int .u8 0, .int .u8 0, .int .u8 0, .int .u8 0, .int .u8 0, .int .u8 0, .int .u8 0] 28)) Tryd.zeroCells70 70 zero70_init
    simpa using this
  have hB1 : Below w.heap.size w w1 := by rw [← hw1]; exact ((Below.refl _ _).alloc (Nat.le_refl _) _).alloc (by simp) _
  have ht1 : w1.there w.heap.size 0 32 := by rw [← hw1]; exact World.there_alloc (there_new _ _ _ _ rfl) _
  have hs1 : w.heap.size + 1 < w1.heap.size := by rw [← hw1]; simp
  clear hw1
  refine (write_any (w.heap.size + 1) s init w1 hs1 hH1 (hT.below hB1 hw10) (by omega)).mono ?_
  rintro e w2 ⟨rfl, st2, hH2⟩
  have hB2 : Below w.heap.size w w2 := st2.below hB1 (by omega) (by omega)
  have ht2 : w2.there w.heap.size 0 32 := there_block ht1 (st2.block _ (by omega) (by omega))
  have hs2 : w.heap.size + 1 < w2.heap.size := Nat.lt_of_lt_of_le hs1 st2.size
  have HD : Hid (∀ u : Unit, digF s = sumF ((bytesOf s).foldl push1 init)) := fun _ => rfl
  generalize (bytesOf s).foldl push1 init = st at hH2 HD
  have A2 : Aside (Hs w2 (w.heap.size + 1) st ∧ Below w.heap.size w w2 ∧ w2.there w.heap.size 0 32 ∧ Tabs w) := ⟨hH2, hB2, ht2, hT⟩
  clear hH1 hB1 ht1 hs1 st2 hH2 hB2 ht2 hT
  go_wp2_with fail
  obtain ⟨hH2, hB2, ht2, hT⟩ := A2.out
  refine (sum_any (w.heap.size + 1) st w2 hH2 (hT.below hB2 hw10) (by omega)).mono ?_
  rintro e w3 ⟨rfl, hb3⟩
  have hDs := sumF_size st
  generalize sumF st = D at hDs HD ⊢
  have hB3 : Below w.heap.size w w3 := hB2.trans (hb3.mono (by omega))
  obtain ⟨hz1, hz2, hth', hth2⟩ := hash_cells hDs (there_block ht2 (hb3.block _ (by omega)))
  have hone := all_oneCell_toArray (oneCell_enc D .u8)
  have A3 : Aside (Below w.heap.size w w3 ∧ w3.there w.heap.size 0 (D.toList.map encB).length) := ⟨hB3, hth2⟩
  clear A2 hH2 hB2 ht2 hT hb3 hB3 hth2 hDs
  go_wp2_with (refine wpList_store_mid rfl 28 _ _ rfl w.heap.size 0 (D.toList.map encB).toArray rfl rfl hth' hz2 hone ?_)
  obtain ⟨hB3, hth2⟩ := A3.out
  refine bodyPost_ret (v := .agg (D.toList.map encB).toArray) (results_cell1 Tryd.results26 _ _ _ w.heap.size 0 rfl (run_loadVar_mid _ _ _ 28 _ _ (World.rangeAt_setCells_same _ _ _ _ hth2) Tryd.underlying28 rfl hz1)) rfl ⟨?_, ?_⟩
  · rw [HD.out ()]
  · exact below_setCells hB3 (Nat.le_refl _) _ _

set_option maxRecDepth 100000 in
set_option maxHeartbeats 1600000 in
theorem digest_any (s : ByteArray) (w : World) (hT : Tabs w) (hw10 : 16 ≤ w.heap.size) :
    Calls Tryd.prog 10 #[.string s] w fun e w' => e = .returned (.agg ((digF s).toList.map encB).toArray) ∧ Below w.heap.size w w' := by
  go_enter Tryd.func10, Tryd.ntmps10
  go_wp2_with fail
  generalize hw1 : w.alloc (.cells _ 28) = w1
  have hB1 : Below w.heap.size w w1 := by rw [← hw1]; exact (Below.refl _ _).alloc (Nat.le_refl _) _
  have ht1 : w1.there w.heap.size 0 32 := by rw [← hw1]; exact there_new _ _ _ _ rfl
  have hs1 : w.heap.size < w1.heap.size := by rw [← hw1]; simp
  clear hw1
  refine (of_any s w1 (hT.below hB1 hw10) (by omega)).mono ?_
  rintro e w3 ⟨rfl, hb3⟩
  have hDs : (digF s).size = 32 := sumF_size _
  obtain ⟨D, hD⟩ : ∃ D, digF s = D := ⟨_, rfl⟩
  have HD : Hid (∀ u : Unit, digF s = D) := fun _ => hD
  rw [hD] at hDs ⊢
  clear hD
  have hB3 : Below w.heap.size w w3 := hB1.trans (hb3.mono (by omega))
  obtain ⟨hz1, hz2, hth', hth2⟩ := hash_cells hDs (there_block ht1 (hb3.block _ (by omega)))
  have hone := all_oneCell_toArray (oneCell_enc D .u8)
  have A3 : Aside (Below w.heap.size w w3 ∧ w3.there w.heap.size 0 (D.toList.map encB).length) := ⟨hB3, hth2⟩
  clear hB1 ht1 hs1 hT hb3 hB3 hth2 hDs
  go_wp2_with (refine wpList_store_mid rfl 28 _ _ rfl w.heap.size 0 (D.toList.map encB).toArray rfl rfl hth' hz2 hone ?_)
  obtain ⟨hB3, hth2⟩ := A3.out
  refine bodyPost_ret (v := .agg (D.toList.map encB).toArray) (results_cell1 Tryd.results10 _ _ _ w.heap.size 0 rfl (run_loadVar_mid _ _ _ 28 _ _ (World.rangeAt_setCells_same _ _ _ _ hth2) Tryd.underlying28 rfl hz1)) rfl ⟨?_, below_setCells hB3 (Nat.le_refl _) _ _⟩
  rw [HD.out ()]

set_option maxRecDepth 100000 in
set_option maxHeartbeats 1600000 in
theorem tsum_any (b : Nat) (st : HSt) (w : World) (hH : Hs w b st) (hb : b < w.heap.size) (hT : Tabs w) (hw10 : 16 ≤ w.heap.size) :
    Calls Tryd.prog 9 #[.pointer (some ⟨b, 0, none⟩)] w fun e w' => e = .returned (.agg ((sumF st).toList.map encB).toArray) ∧ Below w.heap.size w w' := by
  go_enter Tryd.func9, Tryd.ntmps9
  go_wp2_with fail
  generalize hw1 : w.alloc (.cells _ 28) = w1
  have hB1 : Below w.heap.size w w1 := by rw [← hw1]; exact (Below.refl _ _).alloc (Nat.le_refl _) _
  have ht1 : w1.there w.heap.size 0 32 := by rw [← hw1]; exact there_new _ _ _ _ rfl
  have hs1 : w.heap.size < w1.heap.size := by rw [← hw1]; simp
  clear hw1
  refine (sum_any b st w1 (hH.block (hB1.block b hb)) (hT.below hB1 hw10) (by omega)).mono ?_
  rintro e w3 ⟨rfl, hb3⟩
  have hDs := sumF_size st
  obtain ⟨D, hD⟩ : ∃ D, sumF st = D := ⟨_, rfl⟩
  have HD : Hid (∀ u : Unit, sumF st = D) := fun _ => hD
  rw [hD] at hDs ⊢
  clear hD
  have hB3 : Below w.heap.size w w3 := hB1.trans (hb3.mono (by omega))
  obtain ⟨hz1, hz2, hth', hth2⟩ := hash_cells hDs (there_block ht1 (hb3.block _ (by omega)))
  have hone := all_oneCell_toArray (oneCell_enc D .u8)
  have A3 : Aside (Below w.heap.size w w3 ∧ w3.there w.heap.size 0 (D.toList.map encB).length) := ⟨hB3, hth2⟩
  clear hB1 ht1 hs1 hT hb3 hB3 hth2 hDs hH
  go_wp2_with (refine wpList_store_mid rfl 28 _ _ rfl w.heap.size 0 (D.toList.map encB).toArray rfl rfl hth' hz2 hone ?_)
  obtain ⟨hB3, hth2⟩ := A3.out
  refine bodyPost_ret (v := .agg (D.toList.map encB).toArray) (results_cell1 Tryd.results9 _ _ _ w.heap.size 0 rfl (run_loadVar_mid _ _ _ 28 _ _ (World.rangeAt_setCells_same _ _ _ _ hth2) Tryd.underlying28 rfl hz1)) rfl ⟨?_, below_setCells hB3 (Nat.le_refl _) _ _⟩
  rw [HD.out ()]

set_option maxHeartbeats 400000 in
theorem twrite_any (b : Nat) (s : ByteArray) (st : HSt) (w : World) (hb : b < w.heap.size) (hH : Hs w b st) (hT : Tabs w) (hb10 : 16 ≤ b) :
    Calls Tryd.prog 8 #[.pointer (some ⟨b, 0, none⟩), .string s] w fun e w' => e = .returned (.tuple #[]) ∧ Step b 0 162 w w' ∧ Hs w' b ((bytesOf s).foldl push1 st) := by
  have h := write_any b s st w hb hH hT hb10
  have H : Hid (Calls Tryd.prog 24 #[.pointer (some ⟨b, 0, none⟩), .string s] w fun e w' => e = .returned (.tuple #[]) ∧ Step b 0 162 w w' ∧ Hs w' b ((bytesOf s).foldl push1 st)) := h
  clear h hH hT
  generalize (bytesOf s).foldl push1 st = st2 at H ⊢
  go_enter Tryd.func8, Tryd.ntmps8
  go_wp2_with fail
  refine H.out.mono ?_
  rintro e w2 ⟨rfl, st2', hH2⟩
  have A2 : Aside (Step b 0 162 w w2 ∧ Hs w2 b st2) := ⟨st2', hH2⟩
  clear st2' hH2
  go_wp2
  go_end0
  exact ⟨rfl, A2.out⟩

theorem zero72_init : Tryd.zeroCells72 = (cellsOf init).toArray := by kernel_rfl

theorem new_any (w : World) :
    Calls Tryd.prog 7 #[] w fun e w' => e = .returned (.pointer (some ⟨w.heap.size, 0, none⟩)) ∧ w' = w.alloc (.cells Tryd.zeroCells72 72) := by
  go_enter Tryd.func7, Tryd.ntmps7
  go_wp2
  go_ret
  exact ⟨rfl, rfl⟩
end Go.Proofs.YtjiikjpnlgogfaaDoor
