/-
  twigskeep.Pieces: at each point a hasher's sum is the digest of its pieces together: the walk.
-/
import Derived.Test.YtjiikjpnlgogfaaDoorFixed
namespace Go.Proofs.YtjiikjpnlgogfaaDoor
open Go.RowKit
attribute [local go_sem ↓] wp_load_cells28

/-- Texts one behind the other. -/
def catS (l : List ByteArray) : ByteArray := l.foldl (fun a b => a ++ b) ⟨#[]⟩

theorem catS_succ (ss : List ByteArray) (k : Nat) (h : k < ss.length) : catS (ss.take (k + 1)) = catS (ss.take k) ++ ss.getD k ⟨#[]⟩ := by
  unfold catS
  rw [List.take_succ_eq_append_getElem h, List.foldl_append]
  simp [List.getD, h]

set_option maxRecDepth 100000 in
set_option maxHeartbeats 3200000 in
theorem pieces_any (a : Option Addr) (n cap : Nat) (ss : List ByteArray) (w : World) (hT : Tabs w) (hw10 : 16 ≤ w.heap.size) (hn : n ≤ ss.length) (hn2 : n ≤ 1048576)
    (hcells : ∀ k, k < n → ∃ sb so, a = some ⟨sb, so, none⟩ ∧ w.cell? ⟨sb, so + k, none⟩ = some (.string (ss.getD k ⟨#[]⟩)) ∧ sb < w.heap.size)
    (hcat : ∀ k, k ≤ n → (catS (ss.take k)).size ≤ 1048576) :
    Calls Tryd.prog 3 #[.slice a n cap] w fun e w' => e = .returned (.bool true) ∧ Below w.heap.size w w' := by
  go_enter Tryd.func3, Tryd.ntmps3
  go_wp2_with fail
  refine (fixed_any w hT hw10).mono ?_
  rintro e w1 ⟨rfl, hb1⟩
  have A1 : Aside (Tabs w ∧ Below w.heap.size w w1 ∧ (∀ k, k < n → ∃ sb so, a = some ⟨sb, so, none⟩ ∧ w.cell? ⟨sb, so + k, none⟩ = some (.string (ss.getD k ⟨#[]⟩)) ∧ sb < w.heap.size) ∧ (∀ k, k ≤ n → (catS (ss.take k)).size ≤ 1048576)) := ⟨hT, hb1, hcells, hcat⟩
  clear hT hb1 hcells hcat
  go_wp2_with fail
  refine (new_any w1).mono ?_
  rintro e w2 ⟨rfl, rfl⟩
  obtain ⟨hT, hb1, hcells, hcat⟩ := A1.out
  have hs1 := hb1.size
  have hH2 : Hs (w1.alloc (.cells Tryd.zeroCells72 72)) w1.heap.size init := Hs.zero w1 _ 72 zero72_init
  have hb2 : Below w.heap.size w (w1.alloc (.cells Tryd.zeroCells72 72)) := hb1.alloc hs1 _
  have hs2 : w1.heap.size < (w1.alloc (.cells Tryd.zeroCells72 72)).heap.size := by simp
  generalize w1.alloc (.cells Tryd.zeroCells72 72) = w2 at hH2 hb2 hs2 ⊢
  obtain ⟨H, hH⟩ : ∃ H, w1.heap.size = H := ⟨_, rfl⟩
  rw [hH] at hH2 hs2 hs1 ⊢
  clear hH hb1 A1
  have A2 : Aside (Tabs w ∧ Below w.heap.size w w2 ∧ Hs w2 H init ∧ (∀ k, k < n → ∃ sb so, a = some ⟨sb, so, none⟩ ∧ w.cell? ⟨sb, so + k, none⟩ = some (.string (ss.getD k ⟨#[]⟩)) ∧ sb < w.heap.size) ∧ (∀ k, k ≤ n → (catS (ss.take k)).size ≤ 1048576)) := ⟨hT, hb2, hH2, hcells, hcat⟩
  clear hT hb2 hH2 hcells hcat
  go_wp2_with fail
  obtain ⟨hT, hb2, hH2, hcells, hcat⟩ := A2.out
  go_loopg [5, 6] n (fun g t i wr => ∃ k : Nat, k ≤ n ∧ g = n - k ∧ i = .int .i64 k ∧ t = .string (catS (ss.take k)) ∧ H < wr.heap.size ∧ Below w.heap.size w wr ∧ Hs wr H ((bytesOf (catS (ss.take k))).foldl push1 init))
  case atStart => exact ⟨0, by omega, rfl, rfl, rfl, hs2, hb2, hH2⟩
  case round =>
    obtain ⟨k, hk, rfl, rfl, rfl, hsz, hbl, hHr⟩ := hrel
    clear A2 hb2 hH2
    by_cases hlt : k < n
    · obtain ⟨sb, so, rfl, hc, hsb⟩ := hcells k hlt
      have c1 : wr.cell? ⟨sb, so + k, none⟩ = some (.string (ss.getD k ⟨#[]⟩)) := (hbl.cell hsb).trans hc
      have hck := hcat k hk
      have hck1 := hcat (k + 1) hlt
      have hcs := catS_succ ss k (by omega)
      obtain ⟨p, hp⟩ : ∃ p, ss.getD k ⟨#[]⟩ = p := ⟨_, rfl⟩
      rw [hp] at c1 hcs
      rw [hcs] at hck1
      obtain ⟨q, hq⟩ : ∃ q, catS (ss.take k) = q := ⟨_, rfl⟩
      rw [hq] at hck hck1 hcs hHr ⊢
      have hadd : ∀ W : World, Sem.run Tryd.prog (Op.stringOp .add q p) W = .ok (.string (q ++ p)) W := fun W => run_string_add_sum W q p (by rw [ByteArray.size_append] at hck1; omega)
      have hT3 : Tabs wr := hT.below hbl hw10
      have A3 : Aside (Tabs w ∧ Below w.heap.size w wr ∧ Hs wr H ((bytesOf q).foldl push1 init) ∧ Tabs wr ∧ catS (ss.take (k + 1)) = q ++ p ∧ (∀ k, k < n → ∃ sb' so', some (⟨sb, so, none⟩ : Addr) = some ⟨sb', so', none⟩ ∧ w.cell? ⟨sb', so' + k, none⟩ = some (.string (ss.getD k ⟨#[]⟩)) ∧ sb' < w.heap.size) ∧ (∀ k, k ≤ n → (catS (ss.take k)).size ≤ 1048576)) := ⟨hT, hbl, hHr, hT3, hcs, hcells, hcat⟩
      clear hT hbl hHr hT3 hcs hcells hcat hc hp hq hck hck1
      go_wp2_with fail
      obtain ⟨hT, hbl, hHr, hT3, hcs, hcells, hcat⟩ := A3.out
      refine (twrite_any H p _ wr hsz hHr hT3 (by omega)).mono ?_
      rintro e w3 ⟨rfl, st3, hH3⟩
      have hfold : (bytesOf p).foldl push1 ((bytesOf q).foldl push1 init) = (bytesOf (q ++ p)).foldl push1 init := by rw [bytesOf_append, List.foldl_append]
      rw [hfold] at hH3
      have hb3 : Below w.heap.size w w3 := st3.below hbl (by omega) hbl.size
      have c3 : w3.cell? ⟨sb, so + k, none⟩ = some (.string p) := (World.cell?_of_block (st3.block sb (by have := hbl.size; omega) (by omega))).trans c1
      have hs3 : H < w3.heap.size := Nat.lt_of_lt_of_le hsz st3.size
      obtain ⟨t, ht⟩ : ∃ t, q ++ p = t := ⟨_, rfl⟩
      rw [ht] at hadd hcs hH3
      obtain ⟨st, hst⟩ : ∃ st, (bytesOf t).foldl push1 init = st := ⟨_, rfl⟩
      rw [hst] at hH3
      have HST : Hid (∀ u : Unit, (bytesOf t).foldl push1 init = st) := fun _ => hst
      have A3b : Aside (Tabs w ∧ Below w.heap.size w w3 ∧ Hs w3 H st ∧ catS (ss.take (k + 1)) = t ∧ (∀ k, k < n → ∃ sb' so', some (⟨sb, so, none⟩ : Addr) = some ⟨sb', so', none⟩ ∧ w.cell? ⟨sb', so' + k, none⟩ = some (.string (ss.getD k ⟨#[]⟩)) ∧ sb' < w.heap.size) ∧ (∀ k, k ≤ n → (catS (ss.take k)).size ≤ 1048576)) := ⟨hT, hb3, hH3, hcs, hcells, hcat⟩
      clear A3 hT hbl hHr hT3 hcs hcells hcat st3 hH3 hfold hb3 ht hst c1 hsz
      go_wp2_with fail
      obtain ⟨hT, hb3, hH3, hcs, hcells, hcat⟩ := A3b.out
      have hT3 : Tabs w3 := hT.below hb3 hw10
      clear hcs hcells hcat c3 hadd
      refine (tsum_any H st w3 hH3 (by omega) hT3 (by omega)).mono ?_
      rintro e w4 ⟨rfl, hb4⟩
      have hDs := sumF_size st
      have hDb : Bytes (sumF st) := sqzAt_bytes _ _
      have hdig : digF t = sumF st := by rw [← HST.out ()]; rfl
      obtain ⟨D, hD⟩ : ∃ D, sumF st = D := ⟨_, rfl⟩
      rw [hD] at hDs hDb hdig ⊢
      obtain ⟨t4, z4, z4', o4, b4, r4, s4⟩ := laid_hash w4 D hDs
      have hs34 := hb4.size
      have heq := fun W => same_hash D hDs hDb W
      have A4 : Aside (Tabs w ∧ Below w.heap.size w w4 ∧ Hs w4 H st ∧ digF t = D ∧ D.size = 32 ∧ H < w4.heap.size ∧ sumF st = D) := ⟨hT, hb3.trans (hb4.mono (by omega)), hH3.block (hb4.block H (by omega)), hdig, hDs, by omega, hD⟩
      clear hb4 hDs hDb hdig hD hs34 hT3 hb3 hH3
      go_wp2_with (refine wpList_store_mid rfl 28 _ _ rfl w4.heap.size 0 (D.toList.map encB).toArray rfl rfl t4 z4 o4 ?_; rw [List.toList_toArray]; generalize (w4.alloc (.cells #[.int .u8 0, .int .u8 0, .int .u8 0, .int .u8 0, .int .u8 0, .int .u8 0, .int .u8 0, .int .u8 0, .int .u8 0, .int .u8 0, .int .u8 0, .int .u8 0, .int .u8 0, .int .u8 0, .int .u8 0, .int .u8 0, .int .u8 0, .int .u8 0, .int .u8 0, .int .u8 0, .int .u8 0, .int .u8 0, .int .u8 0, .int .u8 0, .int .u8 0, .int .u8 0, .int .u8 0, .int .u8 0, .int .u8 0, .int .u8 0, .int .u8 0, .int .u8 0] 28)).setCells w4.heap.size 0 (D.toList.map encB) = w5 at b4 r4 s4 ⊢; clear t4 z4 o4)
      obtain ⟨hT, hb4, hH4, hdig, hDs, hH4s, hsD⟩ := A4.out
      have hb5 : Below w.heap.size w w5 := hb4.trans (b4.mono hb4.size)
      refine (digest_any t w5 (hT.below hb5 hw10) (by have := hb5.size; omega)).mono ?_
      rintro e w6 ⟨rfl, hb6⟩
      rw [hdig]
      obtain ⟨t6, z6, z6', o6, b6, r6, s6⟩ := laid_hash w6 D hDs
      have hs56 := hb6.size
      have r4' := range_below r4 (hb6.block w4.heap.size (by omega))
      have hb6w : Below w.heap.size w w6 := hb5.trans (hb6.mono hb5.size)
      have hH6 : Hs w6 H st := (hH4.block (b4.block H hH4s)).block (hb6.block H (by omega))
      have hsz46 : w4.heap.size < w6.heap.size := by omega
      have A6 : Aside (Tabs w ∧ Below w.heap.size w w6 ∧ Hs w6 H st ∧ D.size = 32 ∧ H < w6.heap.size ∧ w6.rangeAt w4.heap.size 0 (D.toList.map encB) ∧ w4.heap.size < w6.heap.size) := ⟨hT, hb6w, hH6, hDs, by omega, r4', hsz46⟩
      clear A4 hT hb4 hH4 hdig hDs hH4s hsD hb5 hb6 hs56 r4' hb6w hH6 hsz46 r4 b4 s4 z4'
      go_wp2_with (refine wpList_store_mid rfl 28 _ _ rfl w6.heap.size 0 (D.toList.map encB).toArray rfl rfl t6 z6 o6 ?_; rw [List.toList_toArray]; generalize (w6.alloc (.cells #[.int .u8 0, .int .u8 0, .int .u8 0, .int .u8 0, .int .u8 0, .int .u8 0, .int .u8 0, .int .u8 0, .int .u8 0, .int .u8 0, .int .u8 0, .int .u8 0, .int .u8 0, .int .u8 0, .int .u8 0, .int .u8 0, .int .u8 0, .int .u8 0, .int .u8 0, .int .u8 0, .int .u8 0, .int .u8 0, .int .u8 0, .int .u8 0, .int .u8 0, .int .u8 0, .int .u8 0, .int .u8 0, .int .u8 0, .int .u8 0, .int .u8 0, .int .u8 0] 28)).setCells w6.heap.size 0 (D.toList.map encB) = w7 at b6 r6 s6 ⊢; clear t6 z6 o6; have r4' := range_below A6.out.2.2.2.2.2.1 (b6.block _ A6.out.2.2.2.2.2.2); have ha1 : HasCells w7 w4.heap.size 32 := hasCells_of_range r4' (by simp [A6.out.2.2.2.1]); have ha2 : HasCells w7 w6.heap.size 32 := hasCells_of_range r6 (by simp [A6.out.2.2.2.1]); have hc1 : cellsAt w7 w4.heap.size 32 = (D.toList.map encB).toArray := cellsAt_of_range r4' (by simp [A6.out.2.2.2.1]); have hc2 : cellsAt w7 w6.heap.size 32 = (D.toList.map encB).toArray := cellsAt_of_range r6 (by simp [A6.out.2.2.2.1]); clear r4' r6)
      obtain ⟨hT, hb6, hH6, hDs, hH6s, _, _⟩ := A6.out
      have hb7 : Below w.heap.size w w7 := hb6.trans (b6.mono hb6.size)
      have hH7 : Hs w7 H st := hH6.block (b6.block H hH6s)
      have hs7 : H < w7.heap.size := by omega
      obtain ⟨_, _, _, hcs, _, _⟩ := A3b.out
      go_roundg (n - (k + 1))
      case measure => omega
      case rel =>
        refine ⟨k + 1, by omega, rfl, by go_num, by rw [hcs], hs7, hb7, ?_⟩
        rw [hcs, HST.out ()]
        exact hH7
    · have hkn : (n : Int) ≤ (k : Int) := by omega
      obtain ⟨t, ht⟩ : ∃ t, catS (ss.take k) = t := ⟨_, rfl⟩
      rw [ht] at hHr ⊢
      obtain ⟨st, hst⟩ : ∃ st, (bytesOf t).foldl push1 init = st := ⟨_, rfl⟩
      rw [hst] at hHr
      have HST : Hid (∀ u : Unit, (bytesOf t).foldl push1 init = st) := fun _ => hst
      have A3 : Aside (Tabs w ∧ Below w.heap.size w wr ∧ Hs wr H st) := ⟨hT, hbl, hHr⟩
      clear hT hbl hHr hcells hcat ht hst hlt
      go_wp2_with fail
      obtain ⟨hT, hb3, hH3⟩ := A3.out
      have hT3 : Tabs wr := hT.below hb3 hw10
      refine (tsum_any H st wr hH3 (by omega) hT3 (by omega)).mono ?_
      rintro e w4 ⟨rfl, hb4⟩
      have hDs := sumF_size st
      have hDb : Bytes (sumF st) := sqzAt_bytes _ _
      have hdig : digF t = sumF st := by rw [← HST.out ()]; rfl
      obtain ⟨D, hD⟩ : ∃ D, sumF st = D := ⟨_, rfl⟩
      rw [hD] at hDs hDb hdig ⊢
      obtain ⟨t4, z4, z4', o4, b4, r4, s4⟩ := laid_hash w4 D hDs
      have hs34 := hb4.size
      have heq := fun W => same_hash D hDs hDb W
      have A4 : Aside (Tabs w ∧ Below w.heap.size w w4 ∧ Hs w4 H st ∧ digF t = D ∧ D.size = 32 ∧ H < w4.heap.size ∧ sumF st = D) := ⟨hT, hb3.trans (hb4.mono (by omega)), hH3.block (hb4.block H (by omega)), hdig, hDs, by omega, hD⟩
      clear hb4 hDs hDb hdig hD hs34 hT3 hb3 hH3
      go_wp2_with (refine wpList_store_mid rfl 28 _ _ rfl w4.heap.size 0 (D.toList.map encB).toArray rfl rfl t4 z4 o4 ?_; rw [List.toList_toArray]; generalize (w4.alloc (.cells #[.int .u8 0, .int .u8 0, .int .u8 0, .int .u8 0, .int .u8 0, .int .u8 0, .int .u8 0, .int .u8 0, .int .u8 0, .int .u8 0, .int .u8 0, .int .u8 0, .int .u8 0, .int .u8 0, .int .u8 0, .int .u8 0, .int .u8 0, .int .u8 0, .int .u8 0, .int .u8 0, .int .u8 0, .int .u8 0, .int .u8 0, .int .u8 0, .int .u8 0, .int .u8 0, .int .u8 0, .int .u8 0, .int .u8 0, .int .u8 0, .int .u8 0, .int .u8 0] 28)).setCells w4.heap.size 0 (D.toList.map encB) = w5 at b4 r4 s4 ⊢; clear t4 z4 o4)
      obtain ⟨hT, hb4, hH4, hdig, hDs, hH4s, hsD⟩ := A4.out
      have hb5 : Below w.heap.size w w5 := hb4.trans (b4.mono hb4.size)
      refine (digest_any t w5 (hT.below hb5 hw10) (by have := hb5.size; omega)).mono ?_
      rintro e w6 ⟨rfl, hb6⟩
      rw [hdig]
      obtain ⟨t6, z6, z6', o6, b6, r6, s6⟩ := laid_hash w6 D hDs
      have hs56 := hb6.size
      have r4' := range_below r4 (hb6.block w4.heap.size (by omega))
      have hb6w : Below w.heap.size w w6 := hb5.trans (hb6.mono hb5.size)
      have hH6 : Hs w6 H st := (hH4.block (b4.block H hH4s)).block (hb6.block H (by omega))
      have hsz46 : w4.heap.size < w6.heap.size := by omega
      have A6 : Aside (Tabs w ∧ Below w.heap.size w w6 ∧ Hs w6 H st ∧ D.size = 32 ∧ H < w6.heap.size ∧ w6.rangeAt w4.heap.size 0 (D.toList.map encB) ∧ w4.heap.size < w6.heap.size) := ⟨hT, hb6w, hH6, hDs, by omega, r4', hsz46⟩
      clear A4 hT hb4 hH4 hdig hDs hH4s hsD hb5 hb6 hs56 r4' hb6w hH6 hsz46 r4 b4 s4 z4'
      go_wp2_with (refine wpList_store_mid rfl 28 _ _ rfl w6.heap.size 0 (D.toList.map encB).toArray rfl rfl t6 z6 o6 ?_; rw [List.toList_toArray]; generalize (w6.alloc (.cells #[.int .u8 0, .int .u8 0, .int .u8 0, .int .u8 0, .int .u8 0, .int .u8 0, .int .u8 0, .int .u8 0, .int .u8 0, .int .u8 0, .int .u8 0, .int .u8 0, .int .u8 0, .int .u8 0, .int .u8 0, .int .u8 0, .int .u8 0, .int .u8 0, .int .u8 0, .int .u8 0, .int .u8 0, .int .u8 0, .int .u8 0, .int .u8 0, .int .u8 0, .int .u8 0, .int .u8 0, .int .u8 0, .int .u8 0, .int .u8 0, .int .u8 0, .int .u8 0] 28)).setCells w6.heap.size 0 (D.toList.map encB) = w7 at b6 r6 s6 ⊢; clear t6 z6 o6; have r4' := range_below A6.out.2.2.2.2.2.1 (b6.block _ A6.out.2.2.2.2.2.2); have ha1 : HasCells w7 w4.heap.size 32 := hasCells_of_range r4' (by simp [A6.out.2.2.2.1]); have ha2 : HasCells w7 w6.heap.size 32 := hasCells_of_range r6 (by simp [A6.out.2.2.2.1]); have hc1 : cellsAt w7 w4.heap.size 32 = (D.toList.map encB).toArray := cellsAt_of_range r4' (by simp [A6.out.2.2.2.1]); have hc2 : cellsAt w7 w6.heap.size 32 = (D.toList.map encB).toArray := cellsAt_of_range r6 (by simp [A6.out.2.2.2.1]); clear r4' r6)
      obtain ⟨hT, hb6, hH6, hDs, hH6s, _, _⟩ := A6.out
      have hb7 : Below w.heap.size w w7 := hb6.trans (b6.mono hb6.size)
      have hH7 : Hs w7 H st := hH6.block (b6.block H hH6s)
      have hs7 : H < w7.heap.size := by omega
      go_ret
      exact ⟨rfl, hb7⟩
end Go.Proofs.YtjiikjpnlgogfaaDoor
