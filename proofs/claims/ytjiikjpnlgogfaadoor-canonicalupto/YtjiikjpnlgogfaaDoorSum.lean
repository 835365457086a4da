/-
  A hasher tells the digest of what was written to it (Sum): the hasher stays as it was.
-/
import Derived.Test.YtjiikjpnlgogfaaDoorWrite
namespace Go.Proofs.YtjiikjpnlgogfaaDoor
open Go.RowKit

theorem size70 : (Tryd.prog.info? 70).map (·.size) = some 162 := by kernel_rfl

theorem zero70 : Tryd.zeroCells70.size = 162 := by kernel_rfl

/-- A hasher's cells. -/
def cellsOf (st : HSt) : List Value := st.1.toList.map encL ++ (st.2.1.toList.map encB ++ [.int .i64 (st.2.2 : Int)])

theorem cellsOf_length {st : HSt} (h1 : st.1.size = 25) (h2 : st.2.1.size = 136) : (cellsOf st).length = 162 := by
  simp [cellsOf, h1, h2]

theorem Hs.range {w : World} {b : Nat} {st : HSt} (h : Hs w b st) : w.rangeAt b 0 (cellsOf st) := by
  have h1 := h.size1
  have h2 := h.size2
  intro j v hv
  rw [Nat.zero_add]
  unfold cellsOf at hv
  rw [List.getElem?_append] at hv
  split at hv
  · rename_i hj
    have := h.lanes.range j v hv
    rwa [Nat.zero_add] at this
  · rename_i hj
    simp only [List.length_map, Array.length_toList, h1] at hj hv
    rw [List.getElem?_append] at hv
    split at hv
    · have := h.waits.range (j - 25) v hv
      rwa [show 25 + (j - 25) = j by omega] at this
    · rename_i hj2
      simp only [List.length_map, Array.length_toList, h2] at hj2 hv
      by_cases e : j = 161
      · subst e
        rw [h.count]
        exact hv
      · rw [List.getElem?_eq_none (by simp; omega)] at hv
        cases hv

theorem Hs.of_setCells {w : World} {b : Nat} {st : HSt} (ht : w.there b 0 162) (h1 : st.1.size = 25) (h2 : st.2.1.size = 136) (h3 : Small st.1) (h4 : Bytes st.2.1) (h5 : st.2.2 < 136) : Hs (w.setCells b 0 (cellsOf st)) b st := by
  have hl := cellsOf_length h1 h2
  have hr := World.rangeAt_setCells_same w b 0 (cellsOf st) (by rw [hl]; exact ht)
  have hf : ∀ j, j < 162 → (w.setCells b 0 (cellsOf st)).frozen? ⟨b, j, none⟩ = false := fun j hj => by
    rw [World.frozen?_setCells]
    have := (ht j hj).2
    rwa [Nat.zero_add] at this
  generalize w.setCells b 0 (cellsOf st) = w1 at hr hf
  refine ⟨fun j hj => ⟨hr j _ ?_, by rw [Nat.zero_add]; exact hf j (by omega)⟩, fun j hj => ⟨?_, hf (25 + j) (by omega)⟩, ?_, hf 161 (by omega), h1, h2, h3, h4, h5⟩
  · unfold cellsOf
    rw [List.getElem?_append_left (by simp; omega)]
    simp [hj]
  · have := hr (25 + j) (encB st.2.1[j]!) ?_
    · rwa [Nat.zero_add] at this
    · unfold cellsOf
      rw [List.getElem?_append_right (by simp; omega), List.getElem?_append_left (by simp; omega)]
      simp [hj, h1]
  · have := hr 161 (.int .i64 (st.2.2 : Int)) ?_
    · rwa [Nat.zero_add] at this
    · unfold cellsOf
      rw [List.getElem?_append_right (by simp; omega), List.getElem?_append_right (by simp; omega)]
      simp [h1, h2]

theorem oneCell_cellsOf (st : HSt) : ∀ v ∈ cellsOf st, v.oneCell' = true := by
  intro v hv
  unfold cellsOf at hv
  rcases List.mem_append.1 hv with h | h
  · exact oneCell_enc st.1 .u64 v h
  · rcases List.mem_append.1 h with h | h
    · exact oneCell_enc st.2.1 .u8 v h
    · rw [List.mem_singleton.1 h]; rfl

/-- The copy that Sum ends. -/
theorem sum_copy (w : World) (C : Array Value) (st : HSt) (hC : C.size = 32) (b : Nat) (hH : Hs w b st) (hT : Tabs w) (hw10 : 16 ≤ w.heap.size) :
    Hs (((w.alloc (.cells C 28)).alloc (.cells Tryd.zeroCells70 70)).setCells (w.heap.size + 1) 0 (cellsOf st)) (w.heap.size + 1) st ∧
    Below w.heap.size w (((w.alloc (.cells C 28)).alloc (.cells Tryd.zeroCells70 70)).setCells (w.heap.size + 1) 0 (cellsOf st)) ∧
    (((w.alloc (.cells C 28)).alloc (.cells Tryd.zeroCells70 70)).setCells (w.heap.size + 1) 0 (cellsOf st)).there w.heap.size 0 32 ∧
    w.heap.size + 1 < (((w.alloc (.cells C 28)).alloc (.cells Tryd.zeroCells70 70)).setCells (w.heap.size + 1) 0 (cellsOf st)).heap.size ∧
    Tabs (((w.alloc (.cells C 28)).alloc (.cells Tryd.zeroCells70 70)).setCells (w.heap.size + 1) 0 (cellsOf st)) := by
  have hth : ((w.alloc (.cells C 28)).alloc (.cells Tryd.zeroCells70 70)).there (w.heap.size + 1) 0 162 := by
    have := there_new (w.alloc (.cells C 28)) Tryd.zeroCells70 70 162 zero70.symm
    simpa using this
  have hb0 : Below w.heap.size w ((w.alloc (.cells C 28)).alloc (.cells Tryd.zeroCells70 70)) := ((Below.refl _ _).alloc (Nat.le_refl _) _).alloc (by simp) _
  have ht0 : ((w.alloc (.cells C 28)).alloc (.cells Tryd.zeroCells70 70)).there w.heap.size 0 32 := World.there_alloc (there_new _ _ _ _ hC.symm) _
  have hs0 : w.heap.size + 1 < ((w.alloc (.cells C 28)).alloc (.cells Tryd.zeroCells70 70)).heap.size := by simp
  generalize (w.alloc (.cells C 28)).alloc (.cells Tryd.zeroCells70 70) = w1 at hth hb0 ht0 hs0
  obtain ⟨q1, q2, q3, q4⟩ := size_setCells (w.heap.size + 1) (cellsOf st) 0 w1
  have hbl : Below w.heap.size w (w1.setCells (w.heap.size + 1) 0 (cellsOf st)) := hb0.trans ⟨q2, q3, q4, by rw [q1]; exact Nat.le_refl _, fun k hk => heap_setCells _ _ _ _ _ (by omega)⟩
  exact ⟨Hs.of_setCells hth hH.size1 hH.size2 hH.small hH.bytes hH.less, hbl, World.there_setCells ht0 _ _ _, by rw [q1]; exact hs0, hT.below hbl hw10⟩

theorem zero5 : (Tryd.prog.info? 5).map (·.zero) = some (some (.int .u8 0)) := by kernel_rfl

/-- What is known behind the mark's byte, the bytes 0 and the last byte. -/
theorem sum_clear {w w2 w3 w4 w5 : World} {L W W1 : Array Nat} {c x : Nat} (hH : Hs w2 (w.heap.size + 1) (L, W, c)) (hB : Below w.heap.size w w2) (hth : w2.there w.heap.size 0 32) (hsz : w.heap.size + 1 < w2.heap.size) (hT : Tabs w2) (hw10 : 16 ≤ w.heap.size)
    (e3 : w2.setCell ⟨w.heap.size + 1, 25 + c, none⟩ (.int .u8 1) = w3) (e4 : w3.setCells (w.heap.size + 1) (25 + (c + 1)) ((List.replicate (135 - c) 0).map encB) = w4)
    (hW1 : putAt (W.set! c 1) (c + 1) (List.replicate (135 - c) 0) = W1) (hx : W1[135]! = x) (e5 : w4.setCell ⟨w.heap.size + 1, 160, none⟩ (.int .u8 (((x : Int) + 128) % 256)) = w5) :
    (Sem.run Tryd.prog (Builtin.clear_ #[73] 0 #[.slice (some ⟨w.heap.size + 1, 25 + (c + 1), none⟩) (135 - c) (135 - c)]) w3 = .ok (.tuple #[]) w4) ∧
    (Sem.run Tryd.prog (Builtin.clear_ #[73] 0 #[.slice (some ⟨w.heap.size + 1, 25, none⟩) 0 0]) w3 = .ok (.tuple #[]) (if 136 = c + 1 then w4 else w3)) ∧
    w3.cell? ⟨w.heap.size + 1, 161, none⟩ = some (.int .i64 (c : Int)) ∧
    w4.cell? ⟨w.heap.size + 1, 160, none⟩ = some (encB x) ∧
    w4.frozen? ⟨w.heap.size + 1, 160, none⟩ = false ∧
    w5.rangeAt (w.heap.size + 1) 25 ((W1.set! 135 ((x + 128) % 256)).toList.map encB) ∧
    Aside (Row encL w5 (w.heap.size + 1) 0 L ∧ Below w.heap.size w w5 ∧ w5.there w.heap.size 0 32 ∧ w.heap.size + 1 < w5.heap.size ∧ Tabs w5 ∧ L.size = 25 ∧ (W1.set! 135 ((x + 128) % 256)).size = 136 ∧ Small L ∧ Bytes (W1.set! 135 ((x + 128) % 256)) ∧ lastBlock W c = W1.set! 135 ((x + 128) % 256)) := by
  obtain ⟨r1, r2, cc, ff, h1, h2, h3, h4, h5⟩ := hH
  simp only at r1 r2 cc ff h1 h2 h3 h4 h5
  have r1' : Row encL w3 (w.heap.size + 1) 0 L := by rw [← e3]; exact r1.setBeside (by omega) _
  have r2' : Row encB w3 (w.heap.size + 1) 25 (W.set! c 1) := by rw [← e3]; exact r2.set rfl (by omega) 1 rfl
  have cc' : w3.cell? ⟨w.heap.size + 1, 161, none⟩ = some (.int .i64 (c : Int)) := by
    rw [← e3, World.cell?_setCell_other _ _ _ _ (fun e => by have e2 := congrArg Addr.off e; simp only at e2; omega)]; exact cc
  have hb3 : Below w.heap.size w w3 := by rw [← e3]; exact hB.setCell (by simp) _
  have ht3 : w3.there w.heap.size 0 32 := by rw [← e3]; exact there_set hth _ _
  have hs3 : w.heap.size + 1 < w3.heap.size := by rw [← e3]; simpa using hsz
  have hT3 : Tabs w3 := by
    rw [← e3]; exact hT.of_blocks (Below.heap_setCell _ _ _ _ (by simp; omega)) (Below.heap_setCell _ _ _ _ (by simp; omega))
  have hWs : (W.set! c 1).size = 136 := by simp [h2]
  have hth3 : w3.there (w.heap.size + 1) (25 + (c + 1)) (135 - c) := fun j hj => by
    have := r2' (c + 1 + j) (by omega)
    rw [show 25 + (c + 1 + j) = 25 + (c + 1) + j by omega] at this
    exact ⟨by rw [this.1]; rfl, this.2⟩
  have r2'' : Row encB w4 (w.heap.size + 1) 25 W1 := by
    rw [← e4, ← hW1]; exact r2'.put _ _ (by simp; omega)
  have r1'' : Row encL w4 (w.heap.size + 1) 0 L := by rw [← e4]; exact r1'.setCellsBeside _ _ (by omega)
  obtain ⟨q1, q2, q3, q4⟩ := size_setCells (w.heap.size + 1) ((List.replicate (135 - c) 0).map encB) (25 + (c + 1)) w3
  have hb4 : Below w.heap.size w w4 := by
    rw [← e4]; exact hb3.trans ⟨q2, q3, q4, by rw [q1]; exact Nat.le_refl _, fun k hk => heap_setCells _ _ _ _ _ (by omega)⟩
  have ht4 : w4.there w.heap.size 0 32 := by rw [← e4]; exact World.there_setCells ht3 _ _ _
  have hs4 : w.heap.size + 1 < w4.heap.size := by rw [← e4, q1]; exact hs3
  have hT4 : Tabs w4 := by rw [← e4]; exact hT3.of_blocks (heap_setCells _ _ _ _ _ (by omega)) (heap_setCells _ _ _ _ _ (by omega))
  have hps : W1.size = 136 := by rw [← hW1, putAt_size]; exact hWs
  have hpb : Bytes W1 := by rw [← hW1]; exact bytes_putAt _ (fun x hx => by rw [List.eq_of_mem_replicate hx]; decide) _ _ (bytes_set h4 _ _ (by decide))
  have c8 := r2'' 135 (by omega)
  rw [hx] at c8
  have r5 : Row encB w5 (w.heap.size + 1) 25 (W1.set! 135 ((x + 128) % 256)) := by
    rw [← e5]; exact r2''.set rfl (by omega) _ (val_int (by omega))
  refine ⟨?_, ?_, cc', c8.1, c8.2, r5.range, ?_, ?_, ?_, ?_, ?_, h1, by simpa using hps, h3, bytes_set hpb _ _ (Nat.mod_lt _ (by decide)), ?_⟩
  · rw [← e4]; exact run_clear_bytes w3 73 0 5 _ _ _ _ Tryd.underlying73 zero5 hth3
  · have h0 := run_clear_bytes (P := Tryd.prog) w3 73 0 5 (w.heap.size + 1) 25 0 0 Tryd.underlying73 zero5 (fun j hj => by omega)
    by_cases hc : 136 = c + 1
    · rw [if_pos hc, ← e4, show 135 - c = 0 by omega]
      exact h0
    · rw [if_neg hc]
      exact h0
  · rw [← e5]; exact r1''.setBeside (by omega) _
  · rw [← e5]; exact hb4.setCell (by simp) _
  · rw [← e5]; exact there_set ht4 _ _
  · rw [← e5]; simpa using hs4
  · rw [← e5]; exact hT4.of_blocks (Below.heap_setCell _ _ _ _ (by simp; omega)) (Below.heap_setCell _ _ _ _ (by simp; omega))
  · unfold lastBlock
    simp only [hW1, hx]

set_option maxRecDepth 100000 in
set_option maxHeartbeats 1600000 in
theorem sum_any (b : Nat) (st : HSt) (w : World) (hH : Hs w b st) (hT : Tabs w) (hw10 : 16 ≤ w.heap.size) :
    Calls Tryd.prog 25 #[.pointer (some ⟨b, 0, none⟩)] w fun e w' => e = .returned (.agg ((sumF st).toList.map encB).toArray) ∧ Below w.heap.size w w' := by
  have hl := cellsOf_length hH.size1 hH.size2
  have hone := all_oneCell_toArray (oneCell_cellsOf st)
  have hrg : ∀ o, (w.alloc o).rangeAt b 0 (cellsOf st) := fun o => World.rangeAt_alloc hH.range o
  have hsz1 : (Tryd.prog.info? 70).map (·.size) = some (cellsOf st).length := by rw [size70, hl]
  have hsz2 : (Tryd.prog.info? 70).map (·.size) = some (cellsOf st).toArray.size := by rw [size70]; simp [hl]
  have hlen : (cellsOf st).toArray.size = 162 := by simp [hl]
  have A0 : Aside (∀ C : Array Value, C.size = 32 → Hs (((w.alloc (.cells C 28)).alloc (.cells Tryd.zeroCells70 70)).setCells (w.heap.size + 1) 0 (cellsOf st)) (w.heap.size + 1) st ∧ Below w.heap.size w (((w.alloc (.cells C 28)).alloc (.cells Tryd.zeroCells70 70)).setCells (w.heap.size + 1) 0 (cellsOf st)) ∧ (((w.alloc (.cells C 28)).alloc (.cells Tryd.zeroCells70 70)).setCells (w.heap.size + 1) 0 (cellsOf st)).there w.heap.size 0 32 ∧ w.heap.size + 1 < (((w.alloc (.cells C 28)).alloc (.cells Tryd.zeroCells70 70)).setCells (w.heap.size + 1) 0 (cellsOf st)).heap.size ∧ Tabs (((w.alloc (.cells C 28)).alloc (.cells Tryd.zeroCells70 70)).setCells (w.heap.size + 1) 0 (cellsOf st))) :=
    fun C hC => sum_copy w C st hC b hH hT hw10
  obtain ⟨cs, hcs⟩ : ∃ cs, cellsOf st = cs := ⟨_, rfl⟩
  rw [hcs] at hone hrg hsz1 hsz2 hlen A0
  clear hH hT hl hcs
  have hth : ∀ o, ((w.alloc o).alloc (.cells Tryd.zeroCells70 70)).there (w.heap.size + 1) 0 cs.toArray.size := fun o => by
    have := there_new (w.alloc o) Tryd.zeroCells70 70 162 zero70.symm
    rw [hlen]
    simpa using this
  obtain ⟨L, W, c⟩ := st
  go_enter Tryd.func25, Tryd.ntmps25
  go_wp2_with (first
    | (refine wpList_load_mid rfl 70 _ rfl b 0 rfl cs _ (hrg _) Tryd.underlying70 rfl hsz1 ?_)
    | (refine wpList_store_mid rfl 70 _ _ rfl (w.heap.size + 1) 0 cs.toArray rfl rfl (hth _) hsz2 hone ?_
       rw [List.toList_toArray]
       obtain ⟨hH2, hB2, hth2, hsz3, hT2⟩ := A0.out #[.int .u8 0, .int .u8 0, .int .u8 0, .int .u8 0, .int .u8 0, .int .u8 0, .int .u8 0, .int .u8 0, .int .u8 0, .int .u8 0, .int .u8 0, .int .u8 0, .int .u8 0, .int .u8 0, .int .u8 0, .int .u8 0, .int .u8 0, .int .u8 0, .int .u8 0, .int .u8 0, .int .u8 0, .int .u8 0, .int .u8 0, .int .u8 0, .int .u8 0, .int .u8 0, .int .u8 0, .int .u8 0, .int .u8 0, .int .u8 0, .int .u8 0, .int .u8 0] rfl
       generalize ((w.alloc (.cells #[.int .u8 0, .int .u8 0, .int .u8 0, .int .u8 0, .int .u8 0, .int .u8 0, .int .u8 0, .int .u8 0, .int .u8 0, .int .u8 0, .int .u8 0, .int .u8 0, .int .u8 0, .int .u8 0, .int .u8 0, .int .u8 0, .int .u8 0, .int .u8 0, .int .u8 0, .int .u8 0, .int .u8 0, .int .u8 0, .int .u8 0, .int .u8 0, .int .u8 0, .int .u8 0, .int .u8 0, .int .u8 0, .int .u8 0, .int .u8 0, .int .u8 0, .int .u8 0] 28)).alloc (.cells Tryd.zeroCells70 70)).setCells (w.heap.size + 1) 0 cs = w2 at hH2 hB2 hth2 hsz3 hT2 ⊢
       have c5 := hH2.count
       have hlc := hH2.less
       simp only at c5 hlc
       have c6 := (hH2.waits c (by rw [hH2.size2]; exact hlc)).1
       have f6 := (hH2.waits c (by rw [hH2.size2]; exact hlc)).2
       have i1 : (0 : Int) ≤ (c : Int) + 1 := by omega
       have i2 : (c : Int) + 1 ≤ 136 := by omega
       obtain ⟨w3, e3⟩ : ∃ w3, w2.setCell ⟨w.heap.size + 1, 25 + c, none⟩ (.int .u8 1) = w3 := ⟨_, rfl⟩
       obtain ⟨w4, e4⟩ : ∃ w4, w3.setCells (w.heap.size + 1) (25 + (c + 1)) ((List.replicate (135 - c) 0).map encB) = w4 := ⟨_, rfl⟩
       obtain ⟨W1, hW1⟩ : ∃ W1, putAt (W.set! c 1) (c + 1) (List.replicate (135 - c) 0) = W1 := ⟨_, rfl⟩
       obtain ⟨x, hx⟩ : ∃ x, W1[135]! = x := ⟨_, rfl⟩
       obtain ⟨w5, e5⟩ : ∃ w5, w4.setCell ⟨w.heap.size + 1, 160, none⟩ (.int .u8 (((x : Int) + 128) % 256)) = w5 := ⟨_, rfl⟩
       obtain ⟨hcl1, hcl2, c7, c8, f8, hrg5, A4⟩ := sum_clear hH2 hB2 hth2 hsz3 hT2 hw10 e3 e4 hW1 hx e5
       obtain ⟨Wl, hWl⟩ : ∃ Wl, W1.set! 135 ((x + 128) % 256) = Wl := ⟨_, rfl⟩
       rw [hWl] at hrg5 A4
       have hsz68 : (Tryd.prog.info? 68).map (·.size) = some (Wl.toList.map encB).length := by rw [size68]; simp [A4.out.2.2.2.2.2.2.1]
       clear e4 hW1 hx hWl
       clear hrg hsz1 hsz2 hone hlen hth A0 hH2 hB2 hth2 hsz3 hT2)
    | (refine wpList_load_mid rfl 68 _ rfl (w.heap.size + 1) 25 rfl (Wl.toList.map encB) _ hrg5 Tryd.underlying68 rfl hsz68 ?_))
  all_goals
    obtain ⟨r1, hB5, ht5, hs5, hT5, h1, h2, h3, h4, hlb⟩ := A4.out
    refine (absorb_any (w.heap.size + 1) 0 L Wl w5 h1 h3 (by omega) r1 hT5 (by omega) h2 h4).mono ?_
    rintro e w6 ⟨rfl, st6, ro6⟩
    have hA : absorbF L (lastBlock W c) = absorbF L Wl := by rw [hlb]
    have hAs := (absorbF_size L Wl).trans h1
    have hB6 : Below w.heap.size w w6 := hB5.trans ⟨st6.os, st6.tape, st6.output, st6.size, fun k hk => st6.block k (by omega) (by omega)⟩
    have hs6 : w.heap.size + 1 < w6.heap.size := Nat.lt_of_lt_of_le hs5 st6.size
    have ht6 : w6.there w.heap.size 0 32 := fun j hj => by
      have hbk := st6.block w.heap.size (by omega) (by omega)
      exact ⟨by rw [World.cell?_of_block hbk]; exact (ht5 j hj).1, by rw [World.frozen?_of_block hbk]; exact (ht5 j hj).2⟩
    have hsum : sumF (L, W, c) = sqzAt (absorbF L Wl) 32 := by unfold sumF; rw [hA]
    have HS : Hid (∀ k, k = 32 → sumF (L, W, c) = sqzAt (absorbF L Wl) k) := fun k hk => by subst hk; exact hsum
    generalize absorbF L Wl = A at ro6 hAs HS
    have A6 : Aside (Row encL w6 (w.heap.size + 1) 0 A ∧ A.size = 25 ∧ Below w.heap.size w w6 ∧ w6.there w.heap.size 0 32) := ⟨ro6, hAs, hB6, ht6⟩
    clear A4 r1 hB5 ht5 hs5 hT5 h1 h2 h3 h4 hlb st6 ro6 hA hAs hB6 ht6 hsum hrg5 hsz68 e3 e5 hcl1 hcl2 c5 c6 f6 c7 c8 f8 i1 i2 hlc
    go_wp2_with fail
    obtain ⟨ro6, hAs, hB6, ht6⟩ := A6.out
    refine (squeeze_any (w.heap.size + 1) 0 A w6 hAs hs6 ro6).mono ?_
    rintro e w7 ⟨rfl, hb7⟩
    have hD := sqzAt_size A 32
    have HS2 : Hid (∀ k, k = 32 → sumF (L, W, c) = sqzAt A k) := HS
    have hr := HS.out 32 rfl
    generalize sqzAt A 32 = D at hD hr ⊢
    have HR : Hid (∀ u : Unit, sumF (L, W, c) = D) := fun _ => hr
    have hB7 : Below w.heap.size w w7 := hB6.trans (hb7.mono (by omega))
    have ht7 : w7.there w.heap.size 0 32 := fun j hj => by
      have hbk := hb7.block w.heap.size (by omega)
      exact ⟨by rw [World.cell?_of_block hbk]; exact (ht6 j hj).1, by rw [World.frozen?_of_block hbk]; exact (ht6 j hj).2⟩
    have hz1 : (Tryd.prog.info? 28).map (·.size) = some (D.toList.map encB).length := by rw [size28]; simp [hD]
    have hz2 : (Tryd.prog.info? 28).map (·.size) = some (D.toList.map encB).toArray.size := by rw [size28]; simp [hD]
    have hone := all_oneCell_toArray (oneCell_enc D .u8)
    have hth' : w7.there w.heap.size 0 (D.toList.map encB).toArray.size := by simpa [hD] using ht7
    have hth2 : w7.there w.heap.size 0 (D.toList.map encB).length := by simpa [hD] using ht7
    have A7 : Aside (Below w.heap.size w w7 ∧ w7.there w.heap.size 0 (D.toList.map encB).length ∧ D.size = 32) := ⟨hB7, hth2, hD⟩
    clear A6 HS HS2 hr ro6 hAs hB6 ht6 hb7 hB7 ht7 hth2 hD
    go_wp2_with (refine wpList_store_mid rfl 28 _ _ rfl w.heap.size 0 (D.toList.map encB).toArray rfl rfl hth' hz2 hone ?_)
    obtain ⟨hB7, hth2, hD⟩ := A7.out
    refine bodyPost_ret (v := .agg (D.toList.map encB).toArray) (results_cell1 Tryd.results25 _ _ _ w.heap.size 0 rfl (run_loadVar_mid _ _ _ 28 _ _ (World.rangeAt_setCells_same _ _ _ _ hth2) Tryd.underlying28 rfl hz1)) rfl ⟨?_, ?_⟩
    · rw [HR.out ()]
    · obtain ⟨q1, q2, q3, q4⟩ := size_setCells w.heap.size (D.toList.map encB) 0 w7
      exact hB7.trans ⟨q2, q3, q4, by rw [q1]; exact Nat.le_refl _, fun k hk => heap_setCells _ _ _ _ _ (by omega)⟩
end Go.Proofs.YtjiikjpnlgogfaaDoor
