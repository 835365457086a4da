/-
  Accounts: reading the four texts.
  Accounts: reading the four texts, whole.
  Accounts: reading the four texts: faults of the digests.
  A struct put together out of numbers and digests: the cells. Plain facts.
  Accounts: reading the four texts, where nothing is wrong.
  Accounts: Decode of package account.
  Accounts: Decode of package account: the walk.
-/
import Derived.Test.YtjiikjpnlgogfaaGreatDoorSgAccH
namespace Go.Proofs.YtjiikjpnlgogfaaGreatDoor
open Go.RowKit
abbrev nought32 : List Nat := [0, 0, 0, 0, 0, 0, 0, 0, 0, 0, 0, 0, 0, 0, 0, 0, 0, 0, 0, 0, 0, 0, 0, 0, 0, 0, 0, 0, 0, 0, 0, 0]
abbrev zeroAcc : Acc := ⟨0, 0, nought32, nought32⟩
theorem zeroA_size : (Tryz.prog.info? 85).map (·.size) = some 66 := by kernel_rfl
theorem accL_length {a : Acc} (h : a.root.length = 32) (h2 : a.code.length = 32) : (accL a).length = 66 := by
 unfold accL
 simp [h, h2]
theorem accL_one (a : Acc) : (accL a).toArray.all (·.oneCell') = true := by
 refine all_oneCell_toArray (fun u hu => ?_)
 unfold accL at hu
 simp only [List.mem_cons, List.mem_append, List.mem_map] at hu
 rcases hu with rfl | rfl | ⟨_, _, rfl⟩ | ⟨_, _, rfl⟩ <;> rfl
structure FourAt (w : World) (g : Nat) (e0 e1 e2 e3 : El) : Prop where
 lt : g < w.heap.size
 row : w.rangeAt g 0 (encP e0 ++ encP e1 ++ encP e2 ++ encP e3)
set_option maxRecDepth 100000 in
set_option maxHeartbeats 3200000 in
theorem read_bad0 (fr en : Nat) (l : Bool) (tx : ByteArray) (p : Option Addr) (m c : Nat) (e1 e2 e3 : El) (g cap : Nat) (sent : Nat → Addr) (w : World) (hF : Faults w sent) (hr : FourAt w g ⟨fr, en, l, tx, .slice p m c⟩ e1 e2 e3) (h : ¬ numOK l (bytesOf tx)) :
  Calls Tryz.prog 162 #[.slice (some ⟨g, 0, none⟩) 4 cap] w fun e w' => Below w.heap.size w w' ∧ e = .returned (.tuple #[.agg (accL zeroAcc).toArray, accV fr sent]) := by
 have c0 : w.cell? ⟨g, 0, none⟩ = some (.int .i64 (fr : Int)) := hr.row 0 _ rfl
 have c1 : w.cell? ⟨g, 1, none⟩ = some (.int .i64 (en : Int)) := hr.row 1 _ rfl
 have c2 : w.cell? ⟨g, 2, none⟩ = some (.bool l) := hr.row 2 _ rfl
 have c3 : w.cell? ⟨g, 3, none⟩ = some (.string tx) := hr.row 3 _ rfl
 have c4 : w.cell? ⟨g, 4, none⟩ = some (.slice p m c) := hr.row 4 _ rfl
 have hg := hr.lt
 have hgn : ¬ g = w.heap.size := by omega
 have HN : Hid (∀ W, Below w.heap.size w W → Calls Tryz.prog 209 #[placedV fr en l tx p m c] W fun e w' => Below W.heap.size W w' ∧ e = .returned (.tuple #[.int .u64 0, accV fr sent])) := fun W hW => num_bad fr en l tx p m c sent W (hF.below hW) h
 clear hF hr h
 go_enter Tryz.func162, Tryz.ntmps162
 go_wp2_with fail
 generalize hWW : World.alloc w _ = W
 have hW : Below w.heap.size w W := by rw [← hWW]; exact (Below.refl _ _).alloc (Nat.le_refl _) _
 have hth : W.there w.heap.size 0 66 := by rw [← hWW]; exact there_new _ _ _ _ rfl
 have hsz : w.heap.size < W.heap.size := by rw [← hWW]; simp
 clear hWW
 refine (HN.out _ hW).mono ?_
 rintro e w2 ⟨hb2, rfl⟩
 have hth2 : w2.there w.heap.size 0 (accL zeroAcc).toArray.size := there_block hth (hb2.block _ hsz)
 have A : Aside (Below w.heap.size w w2 ∧ w2.there w.heap.size 0 (accL zeroAcc).length) := ⟨Below.behind hW hb2, there_block hth (hb2.block _ hsz)⟩
 have hz : (Tryz.prog.info? 85).map (·.size) = some (accL zeroAcc).toArray.size := zeroA_size
 have hone := accL_one zeroAcc
 clear hW hb2 hth hsz
 go_wp2_with (refine wpList_store_mid rfl 85 _ _ rfl w.heap.size 0 (accL zeroAcc).toArray rfl rfl hth2 hz hone ?_)
 refine bodyPost_ret (v := .tuple #[.agg (accL zeroAcc).toArray, accV fr sent]) (results_cell2 Tryz.results162 _ _ _ w.heap.size 0 rfl (run_loadVar_mid _ _ _ 85 _ _ (World.rangeAt_setCells_same _ _ _ (accL zeroAcc) A.out.2) Tryz.underlying85 rfl zeroA_size)) rfl ⟨below_setCells A.out.1 (Nat.le_refl _) _ _, rfl⟩
end Go.Proofs.YtjiikjpnlgogfaaGreatDoor
namespace Go.Proofs.YtjiikjpnlgogfaaGreatDoor
open Go.RowKit
theorem FourAt.cells {w : World} {g : Nat} {e0 e1 e2 e3 : El} (h : FourAt w g e0 e1 e2 e3) {W : World} (hb : Below w.heap.size w W) : W.rangeAt g 0 (encP e0) ∧ W.rangeAt g 5 (encP e1) ∧ W.rangeAt g 10 (encP e2) ∧ W.rangeAt g 15 (encP e3) ∧ g < W.heap.size := by
 have hr : W.rangeAt g 0 (encP e0 ++ encP e1 ++ encP e2 ++ encP e3) := fun j u hu => (hb.cell (p := ⟨g, 0 + j, none⟩) h.lt).trans (h.row j u hu)
 refine ⟨fun j u hu => ?_, ?_, ?_, ?_, Nat.lt_of_lt_of_le h.lt hb.size⟩
 ·have := range_part (xs := []) (bs := encP e0) (cs := encP e1 ++ encP e2 ++ encP e3) (w := W) (b := g) (o := 0) (by simpa using hr)
  exact this j u hu
 ·have := range_part (xs := encP e0) (bs := encP e1) (cs := encP e2 ++ encP e3) (w := W) (b := g) (o := 0) (by simpa using hr)
  exact this
 ·have := range_part (xs := encP e0 ++ encP e1) (bs := encP e2) (cs := encP e3) (w := W) (b := g) (o := 0) (by simpa using hr)
  exact this
 ·have := range_part (xs := encP e0 ++ encP e1 ++ encP e2) (bs := encP e3) (cs := []) (w := W) (b := g) (o := 0) (by simpa using hr)
  exact this
theorem errTail {w w2 W : World} (hW : Below w.heap.size w W) (hth : W.there w.heap.size 0 66) (hsz : w.heap.size < W.heap.size) (hb2 : Below W.heap.size W w2) : w2.there w.heap.size 0 (accL zeroAcc).toArray.size ∧ Below w.heap.size w w2 ∧ w2.there w.heap.size 0 (accL zeroAcc).length :=
 ⟨there_block hth (hb2.block _ hsz), Below.behind hW hb2, there_block hth (hb2.block _ hsz)⟩
theorem newH {w3 wE : World} {o : Obj} {L : List Value} (h : (w3.alloc o).setCells w3.heap.size 0 L = wE) : Below w3.heap.size w3 wE := by
 rw [← h]
 exact below_setCells ((Below.refl _ _).alloc (Nat.le_refl _) _) (Nat.le_refl _) _ _
theorem newH_row {w3 wE : World} {C : Array Value} {t : TypeId} {L : List Value} (h : (w3.alloc (.cells C t)).setCells w3.heap.size 0 L = wE) (hC : L.length = C.size) : wE.rangeAt w3.heap.size 0 L ∧ w3.heap.size < wE.heap.size := by
 rw [← h]
 obtain ⟨q1, _⟩ := size_setCells w3.heap.size L 0 (w3.alloc (.cells C t))
 exact ⟨World.rangeAt_setCells_same _ _ _ _ (there_new _ _ _ _ hC), by rw [q1]; simp⟩
set_option maxRecDepth 100000 in
set_option maxHeartbeats 6400000 in
theorem read_bad1 (f0 n0 f1 n1 f2 n2 f3 n3 : Nat) (l1 l2 l3 : Bool) (x0 x1 x2 x3 : ByteArray) (p0 p1 p2 p3 : Option Addr) (m0 c0 m1 c1 m2 c2 m3 c3 : Nat) (g cap : Nat) (sent : Nat → Addr) (w : World) (hF : Faults w sent)
  (hr : FourAt w g ⟨f0, n0, false, x0, .slice p0 m0 c0⟩ ⟨f1, n1, l1, x1, .slice p1 m1 c1⟩ ⟨f2, n2, l2, x2, .slice p2 m2 c2⟩ ⟨f3, n3, l3, x3, .slice p3 m3 c3⟩) (k0 : numOK false (bytesOf x0)) (kb : ¬ numOK l1 (bytesOf x1)) :
  Calls Tryz.prog 162 #[.slice (some ⟨g, 0, none⟩) 4 cap] w fun e w' => Below w.heap.size w w' ∧ e = .returned (.tuple #[.agg (accL zeroAcc).toArray, accV f1 sent]) := by
 have HF := Hid.hide hF
 have HC := Hid.hide (fun W hb => hr.cells (W := W) hb)
 clear hF hr
 have q := (HC.out w (Below.refl _ _)).1
 have a0 : w.cell? ⟨g, 0, none⟩ = some (.int .i64 (f0 : Int)) := q 0 _ rfl
 have a1 : w.cell? ⟨g, 1, none⟩ = some (.int .i64 (n0 : Int)) := q 1 _ rfl
 have a2 : w.cell? ⟨g, 2, none⟩ = some (.bool false) := q 2 _ rfl
 have a3 : w.cell? ⟨g, 3, none⟩ = some (.string x0) := q 3 _ rfl
 have a4 : w.cell? ⟨g, 4, none⟩ = some (.slice p0 m0 c0) := q 4 _ rfl
 clear q
 have hg := (HC.out w (Below.refl _ _)).2.2.2.2
 have hgn : ¬ g = w.heap.size := by omega
 go_enter Tryz.func162, Tryz.ntmps162
 go_wp2_with fail
 generalize hWW : World.alloc w _ = W
 have HW : Hid (Below w.heap.size w W ∧ W.there w.heap.size 0 66 ∧ w.heap.size < W.heap.size) := ⟨by rw [← hWW]; exact (Below.refl _ _).alloc (Nat.le_refl _) _, by rw [← hWW]; exact there_new _ _ _ _ rfl, by rw [← hWW]; simp⟩
 clear hWW a0 a1 a2 a3 a4 hg hgn
 refine (num_ok f0 n0 x0 p0 m0 c0 _ k0).mono ?_
 rintro e w1 ⟨hb1, rfl⟩
 have B1 : Aside (Below w.heap.size w w1 ∧ Below W.heap.size W w1) := ⟨Below.behind HW.out.1 hb1, hb1⟩
 obtain ⟨v0, hv0⟩ : ∃ v, numB (bytesOf x0) = v := ⟨_, rfl⟩
 rw [hv0]
 clear hb1 k0 hv0
 have q := (HC.out w1 B1.out.1).2.1
 have a0 : w1.cell? ⟨g, 5, none⟩ = some (.int .i64 (f1 : Int)) := q 0 _ rfl
 have a1 : w1.cell? ⟨g, 6, none⟩ = some (.int .i64 (n1 : Int)) := q 1 _ rfl
 have a2 : w1.cell? ⟨g, 7, none⟩ = some (.bool l1) := q 2 _ rfl
 have a3 : w1.cell? ⟨g, 8, none⟩ = some (.string x1) := q 3 _ rfl
 have a4 : w1.cell? ⟨g, 9, none⟩ = some (.slice p1 m1 c1) := q 4 _ rfl
 clear q
 go_wp2_with fail
 clear a0 a1 a2 a3 a4
 refine (num_bad f1 n1 l1 x1 p1 m1 c1 sent _ (HF.out.below B1.out.1) kb).mono ?_
 rintro e wE ⟨hbE, rfl⟩
 have AE : Aside (Below w.heap.size w wE ∧ wE.there w.heap.size 0 (accL zeroAcc).length) := (errTail HW.out.1 HW.out.2.1 HW.out.2.2 (Below.behind B1.out.2 hbE)).2
 have hthE := (errTail HW.out.1 HW.out.2.1 HW.out.2.2 (Below.behind B1.out.2 hbE)).1
 have hzE : (Tryz.prog.info? 85).map (·.size) = some (accL zeroAcc).toArray.size := zeroA_size
 have honeE := accL_one zeroAcc
 clear hbE kb
 go_wp2_with (refine wpList_store_mid rfl 85 _ _ rfl w.heap.size 0 (accL zeroAcc).toArray rfl rfl hthE hzE honeE ?_)
 refine bodyPost_ret (v := .tuple #[.agg (accL zeroAcc).toArray, accV f1 sent]) (results_cell2 Tryz.results162 _ _ _ w.heap.size 0 rfl (run_loadVar_mid _ _ _ 85 _ _ (World.rangeAt_setCells_same _ _ _ (accL zeroAcc) AE.out.2) Tryz.underlying85 rfl zeroA_size)) rfl ⟨below_setCells AE.out.1 (Nat.le_refl _) _ _, rfl⟩
end Go.Proofs.YtjiikjpnlgogfaaGreatDoor
namespace Go.Proofs.YtjiikjpnlgogfaaGreatDoor
open Go.RowKit
set_option maxRecDepth 100000 in
set_option maxHeartbeats 6400000 in
theorem read_bad2 (f0 n0 f1 n1 f2 n2 f3 n3 : Nat) (l2 l3 : Bool) (x0 x1 x2 x3 : ByteArray) (p0 p1 p2 p3 : Option Addr) (m0 c0 m1 c1 m2 c2 m3 c3 : Nat) (g cap : Nat) (sent : Nat → Addr) (w : World) (hF : Faults w sent)
  (hr : FourAt w g ⟨f0, n0, false, x0, .slice p0 m0 c0⟩ ⟨f1, n1, false, x1, .slice p1 m1 c1⟩ ⟨f2, n2, l2, x2, .slice p2 m2 c2⟩ ⟨f3, n3, l3, x3, .slice p3 m3 c3⟩) (k0 : numOK false (bytesOf x0)) (k1 : numOK false (bytesOf x1)) (kb : ¬ (l2 = false ∧ x2.size = 32)) :
  Calls Tryz.prog 162 #[.slice (some ⟨g, 0, none⟩) 4 cap] w fun e w' => Below w.heap.size w w' ∧ e = .returned (.tuple #[.agg (accL zeroAcc).toArray, accV f2 sent]) := by
 have HF := Hid.hide hF
 have HC := Hid.hide (fun W hb => hr.cells (W := W) hb)
 clear hF hr
 have q := (HC.out w (Below.refl _ _)).1
 have a0 : w.cell? ⟨g, 0, none⟩ = some (.int .i64 (f0 : Int)) := q 0 _ rfl
 have a1 : w.cell? ⟨g, 1, none⟩ = some (.int .i64 (n0 : Int)) := q 1 _ rfl
 have a2 : w.cell? ⟨g, 2, none⟩ = some (.bool false) := q 2 _ rfl
 have a3 : w.cell? ⟨g, 3, none⟩ = some (.string x0) := q 3 _ rfl
 have a4 : w.cell? ⟨g, 4, none⟩ = some (.slice p0 m0 c0) := q 4 _ rfl
 clear q
 have hg := (HC.out w (Below.refl _ _)).2.2.2.2
 have hgn : ¬ g = w.heap.size := by omega
 go_enter Tryz.func162, Tryz.ntmps162
 go_wp2_with fail
 generalize hWW : World.alloc w _ = W
 have HW : Hid (Below w.heap.size w W ∧ W.there w.heap.size 0 66 ∧ w.heap.size < W.heap.size) := ⟨by rw [← hWW]; exact (Below.refl _ _).alloc (Nat.le_refl _) _, by rw [← hWW]; exact there_new _ _ _ _ rfl, by rw [← hWW]; simp⟩
 clear hWW a0 a1 a2 a3 a4 hg hgn
 refine (num_ok f0 n0 x0 p0 m0 c0 _ k0).mono ?_
 rintro e w1 ⟨hb1, rfl⟩
 have B1 : Aside (Below w.heap.size w w1 ∧ Below W.heap.size W w1) := ⟨Below.behind HW.out.1 hb1, hb1⟩
 obtain ⟨v0, hv0⟩ : ∃ v, numB (bytesOf x0) = v := ⟨_, rfl⟩
 rw [hv0]
 clear hb1 k0 hv0
 have q := (HC.out w1 B1.out.1).2.1
 have a0 : w1.cell? ⟨g, 5, none⟩ = some (.int .i64 (f1 : Int)) := q 0 _ rfl
 have a1 : w1.cell? ⟨g, 6, none⟩ = some (.int .i64 (n1 : Int)) := q 1 _ rfl
 have a2 : w1.cell? ⟨g, 7, none⟩ = some (.bool false) := q 2 _ rfl
 have a3 : w1.cell? ⟨g, 8, none⟩ = some (.string x1) := q 3 _ rfl
 have a4 : w1.cell? ⟨g, 9, none⟩ = some (.slice p1 m1 c1) := q 4 _ rfl
 clear q
 go_wp2_with fail
 clear a0 a1 a2 a3 a4
 refine (num_ok f1 n1 x1 p1 m1 c1 _ k1).mono ?_
 rintro e w2 ⟨hb2, rfl⟩
 have B2 : Aside (Below w.heap.size w w2 ∧ Below W.heap.size W w2) := ⟨Below.behind B1.out.1 hb2, Below.behind B1.out.2 hb2⟩
 obtain ⟨v1, hv1⟩ : ∃ v, numB (bytesOf x1) = v := ⟨_, rfl⟩
 rw [hv1]
 clear hb2 k1 hv1
 have q := (HC.out w2 B2.out.1).2.2.1
 have a0 : w2.cell? ⟨g, 10, none⟩ = some (.int .i64 (f2 : Int)) := q 0 _ rfl
 have a1 : w2.cell? ⟨g, 11, none⟩ = some (.int .i64 (n2 : Int)) := q 1 _ rfl
 have a2 : w2.cell? ⟨g, 12, none⟩ = some (.bool l2) := q 2 _ rfl
 have a3 : w2.cell? ⟨g, 13, none⟩ = some (.string x2) := q 3 _ rfl
 have a4 : w2.cell? ⟨g, 14, none⟩ = some (.slice p2 m2 c2) := q 4 _ rfl
 clear q
 go_wp2_with fail
 clear a0 a1 a2 a3 a4
 refine (hash_bad f2 n2 l2 x2 p2 m2 c2 sent _ (HF.out.below B2.out.1) kb).mono ?_
 rintro e w3 ⟨hb, rfl⟩
 obtain ⟨Z, hZ, hZs, hZo⟩ : ∃ Z : Array Value, zeroH = Z ∧ Z.size = 32 ∧ Z.all (·.oneCell') = true := ⟨_, rfl, by rw [zeroH_lit]; rfl, zero_one⟩
 rw [hZ]
 have BE : Aside (Below W.heap.size W w3) := Below.behind B2.out.2 hb
 have hZz : (Tryz.prog.info? 34).map (·.size) = some Z.size := by rw [size28, hZs]
 have hthZ : ∀ C : Array Value, 32 = C.size → (w3.alloc (.cells C 34)).there w3.heap.size 0 Z.size := fun C hC => there_new _ _ _ _ (by rw [hZs]; exact hC)
 clear hb kb hZ
 have hzE : (Tryz.prog.info? 85).map (·.size) = some (accL zeroAcc).toArray.size := zeroA_size
 have honeE := accL_one zeroAcc
 go_wp2_with (first | (refine wpList_store_mid rfl 34 _ _ rfl w3.heap.size 0 Z rfl rfl (hthZ _ rfl) hZz hZo ?_; generalize hX : World.setCells _ w3.heap.size 0 _ = wE; have AE : Aside (Below w.heap.size w wE ∧ wE.there w.heap.size 0 (accL zeroAcc).length) := (errTail HW.out.1 HW.out.2.1 HW.out.2.2 (Below.behind BE.out (newH hX))).2; have hthE := (errTail HW.out.1 HW.out.2.1 HW.out.2.2 (Below.behind BE.out (newH hX))).1; clear hX hthZ) | (refine wpList_store_mid rfl 85 _ _ rfl w.heap.size 0 (accL zeroAcc).toArray rfl rfl hthE hzE honeE ?_))
 refine bodyPost_ret (v := .tuple #[.agg (accL zeroAcc).toArray, accV f2 sent]) (results_cell2 Tryz.results162 _ _ _ w.heap.size 0 rfl (run_loadVar_mid _ _ _ 85 _ _ (World.rangeAt_setCells_same _ _ _ (accL zeroAcc) AE.out.2) Tryz.underlying85 rfl zeroA_size)) rfl ⟨below_setCells AE.out.1 (Nat.le_refl _) _ _, rfl⟩
set_option maxRecDepth 100000 in
set_option maxHeartbeats 6400000 in
theorem read_bad3 (f0 n0 f1 n1 f2 n2 f3 n3 : Nat) (l3 : Bool) (x0 x1 x2 x3 : ByteArray) (p0 p1 p2 p3 : Option Addr) (m0 c0 m1 c1 m2 c2 m3 c3 : Nat) (g cap : Nat) (sent : Nat → Addr) (w : World) (hF : Faults w sent)
  (hr : FourAt w g ⟨f0, n0, false, x0, .slice p0 m0 c0⟩ ⟨f1, n1, false, x1, .slice p1 m1 c1⟩ ⟨f2, n2, false, x2, .slice p2 m2 c2⟩ ⟨f3, n3, l3, x3, .slice p3 m3 c3⟩) (k0 : numOK false (bytesOf x0)) (k1 : numOK false (bytesOf x1)) (k2 : x2.size = 32) (kb : ¬ (l3 = false ∧ x3.size = 32)) :
  Calls Tryz.prog 162 #[.slice (some ⟨g, 0, none⟩) 4 cap] w fun e w' => Below w.heap.size w w' ∧ e = .returned (.tuple #[.agg (accL zeroAcc).toArray, accV f3 sent]) := by
 have HF := Hid.hide hF
 have HC := Hid.hide (fun W hb => hr.cells (W := W) hb)
 clear hF hr
 have q := (HC.out w (Below.refl _ _)).1
 have a0 : w.cell? ⟨g, 0, none⟩ = some (.int .i64 (f0 : Int)) := q 0 _ rfl
 have a1 : w.cell? ⟨g, 1, none⟩ = some (.int .i64 (n0 : Int)) := q 1 _ rfl
 have a2 : w.cell? ⟨g, 2, none⟩ = some (.bool false) := q 2 _ rfl
 have a3 : w.cell? ⟨g, 3, none⟩ = some (.string x0) := q 3 _ rfl
 have a4 : w.cell? ⟨g, 4, none⟩ = some (.slice p0 m0 c0) := q 4 _ rfl
 clear q
 have hg := (HC.out w (Below.refl _ _)).2.2.2.2
 have hgn : ¬ g = w.heap.size := by omega
 go_enter Tryz.func162, Tryz.ntmps162
 go_wp2_with fail
 generalize hWW : World.alloc w _ = W
 have HW : Hid (Below w.heap.size w W ∧ W.there w.heap.size 0 66 ∧ w.heap.size < W.heap.size) := ⟨by rw [← hWW]; exact (Below.refl _ _).alloc (Nat.le_refl _) _, by rw [← hWW]; exact there_new _ _ _ _ rfl, by rw [← hWW]; simp⟩
 clear hWW a0 a1 a2 a3 a4 hg hgn
 refine (num_ok f0 n0 x0 p0 m0 c0 _ k0).mono ?_
 rintro e w1 ⟨hb1, rfl⟩
 have B1 : Aside (Below w.heap.size w w1 ∧ Below W.heap.size W w1) := ⟨Below.behind HW.out.1 hb1, hb1⟩
 obtain ⟨v0, hv0⟩ : ∃ v, numB (bytesOf x0) = v := ⟨_, rfl⟩
 rw [hv0]
 clear hb1 k0 hv0
 have q := (HC.out w1 B1.out.1).2.1
 have a0 : w1.cell? ⟨g, 5, none⟩ = some (.int .i64 (f1 : Int)) := q 0 _ rfl
 have a1 : w1.cell? ⟨g, 6, none⟩ = some (.int .i64 (n1 : Int)) := q 1 _ rfl
 have a2 : w1.cell? ⟨g, 7, none⟩ = some (.bool false) := q 2 _ rfl
 have a3 : w1.cell? ⟨g, 8, none⟩ = some (.string x1) := q 3 _ rfl
 have a4 : w1.cell? ⟨g, 9, none⟩ = some (.slice p1 m1 c1) := q 4 _ rfl
 clear q
 go_wp2_with fail
 clear a0 a1 a2 a3 a4
 refine (num_ok f1 n1 x1 p1 m1 c1 _ k1).mono ?_
 rintro e w2 ⟨hb2, rfl⟩
 have B2 : Aside (Below w.heap.size w w2 ∧ Below W.heap.size W w2) := ⟨Below.behind B1.out.1 hb2, Below.behind B1.out.2 hb2⟩
 obtain ⟨v1, hv1⟩ : ∃ v, numB (bytesOf x1) = v := ⟨_, rfl⟩
 rw [hv1]
 clear hb2 k1 hv1
 have q := (HC.out w2 B2.out.1).2.2.1
 have a0 : w2.cell? ⟨g, 10, none⟩ = some (.int .i64 (f2 : Int)) := q 0 _ rfl
 have a1 : w2.cell? ⟨g, 11, none⟩ = some (.int .i64 (n2 : Int)) := q 1 _ rfl
 have a2 : w2.cell? ⟨g, 12, none⟩ = some (.bool false) := q 2 _ rfl
 have a3 : w2.cell? ⟨g, 13, none⟩ = some (.string x2) := q 3 _ rfl
 have a4 : w2.cell? ⟨g, 14, none⟩ = some (.slice p2 m2 c2) := q 4 _ rfl
 clear q
 go_wp2_with fail
 clear a0 a1 a2 a3 a4
 refine (hash_ok f2 n2 x2 p2 m2 c2 _ k2).mono ?_
 rintro e u2 ⟨hb, rfl⟩
 obtain ⟨D2, hD2, hDs2, hDo2⟩ : ∃ D : Array Value, ((bytesOf x2).map encB).toArray = D ∧ D.size = 32 ∧ D.all (·.oneCell') = true := ⟨_, rfl, by rw [List.size_toArray, List.length_map, bytesOf_length, k2], all_oneCell_toArray (encB_oneCell (bytesOf x2))⟩
 rw [hD2]
 have HD2 := Hid.hide hD2
 have U2 : Aside (Below w.heap.size w u2 ∧ Below W.heap.size W u2) := ⟨Below.behind B2.out.1 hb, Below.behind B2.out.2 hb⟩
 have hDz2 : (Tryz.prog.info? 34).map (·.size) = some D2.size := by rw [size28, hDs2]
 have hthD2 : ∀ C : Array Value, 32 = C.size → (u2.alloc (.cells C 34)).there u2.heap.size 0 D2.size := fun C hC => there_new _ _ _ _ (by rw [hDs2]; exact hC)
 have hDl2 : ∀ C : Array Value, 32 = C.size → D2.toList.length = C.size := fun C hC => by rw [Array.length_toList, hDs2]; exact hC
 clear hb k2 hD2
 go_wp2_with (refine wpList_store_mid rfl 34 _ _ rfl u2.heap.size 0 D2 rfl rfl (hthD2 _ rfl) hDz2 hDo2 ?_; generalize hX : World.setCells _ u2.heap.size 0 _ = w3; have B3 : Aside (Below w.heap.size w w3 ∧ Below W.heap.size W w3) := ⟨Below.behind U2.out.1 (newH hX), Below.behind U2.out.2 (newH hX)⟩; have R2 : Aside (w3.rangeAt u2.heap.size 0 D2.toList ∧ u2.heap.size < w3.heap.size) := newH_row hX (hDl2 _ rfl); have q := (HC.out w3 B3.out.1).2.2.2.1; have a0 : w3.cell? ⟨g, 15, none⟩ = some (.int .i64 (f3 : Int)) := q 0 _ rfl; have a1 : w3.cell? ⟨g, 16, none⟩ = some (.int .i64 (n3 : Int)) := q 1 _ rfl; have a2 : w3.cell? ⟨g, 17, none⟩ = some (.bool l3) := q 2 _ rfl; have a3 : w3.cell? ⟨g, 18, none⟩ = some (.string x3) := q 3 _ rfl; have a4 : w3.cell? ⟨g, 19, none⟩ = some (.slice p3 m3 c3) := q 4 _ rfl; clear q hX hthD2 hDl2)
 clear a0 a1 a2 a3 a4
 refine (hash_bad f3 n3 l3 x3 p3 m3 c3 sent _ (HF.out.below B3.out.1) kb).mono ?_
 rintro e w4 ⟨hb, rfl⟩
 obtain ⟨Z, hZ, hZs, hZo⟩ : ∃ Z : Array Value, zeroH = Z ∧ Z.size = 32 ∧ Z.all (·.oneCell') = true := ⟨_, rfl, by rw [zeroH_lit]; rfl, zero_one⟩
 rw [hZ]
 have BE : Aside (Below W.heap.size W w4) := Below.behind B3.out.2 hb
 have hZz : (Tryz.prog.info? 34).map (·.size) = some Z.size := by rw [size28, hZs]
 have hthZ : ∀ C : Array Value, 32 = C.size → (w4.alloc (.cells C 34)).there w4.heap.size 0 Z.size := fun C hC => there_new _ _ _ _ (by rw [hZs]; exact hC)
 clear hb kb hZ
 have hzE : (Tryz.prog.info? 85).map (·.size) = some (accL zeroAcc).toArray.size := zeroA_size
 have honeE := accL_one zeroAcc
 go_wp2_with (first | (refine wpList_store_mid rfl 34 _ _ rfl w4.heap.size 0 Z rfl rfl (hthZ _ rfl) hZz hZo ?_; generalize hX : World.setCells _ w4.heap.size 0 _ = wE; have AE : Aside (Below w.heap.size w wE ∧ wE.there w.heap.size 0 (accL zeroAcc).length) := (errTail HW.out.1 HW.out.2.1 HW.out.2.2 (Below.behind BE.out (newH hX))).2; have hthE := (errTail HW.out.1 HW.out.2.1 HW.out.2.2 (Below.behind BE.out (newH hX))).1; clear hX hthZ) | (refine wpList_store_mid rfl 85 _ _ rfl w.heap.size 0 (accL zeroAcc).toArray rfl rfl hthE hzE honeE ?_))
 refine bodyPost_ret (v := .tuple #[.agg (accL zeroAcc).toArray, accV f3 sent]) (results_cell2 Tryz.results162 _ _ _ w.heap.size 0 rfl (run_loadVar_mid _ _ _ 85 _ _ (World.rangeAt_setCells_same _ _ _ (accL zeroAcc) AE.out.2) Tryz.underlying85 rfl zeroA_size)) rfl ⟨below_setCells AE.out.1 (Nat.le_refl _) _ _, rfl⟩
end Go.Proofs.YtjiikjpnlgogfaaGreatDoor
namespace Go.Proofs.YtjiikjpnlgogfaaGreatDoor
open Go.RowKit
theorem splice_get (o : Nat) : ∀ (L : List Value) (k : Nat) (Z : Array Value) (i : Nat), o + k + L.length ≤ Z.size →
  (List.foldl (fun (cs : Array Value) (x : Value × Nat) => cs.setIfInBounds (o + x.2) x.1) Z (L.zipIdx k))[i]? = if o + k ≤ i ∧ i < o + k + L.length then L[i - (o + k)]? else Z[i]? := by
 intro L
 induction L with
 | nil => intro k Z i _; simp; omega
 | cons v L ih =>
  intro k Z i h
  rw [List.length_cons] at h ⊢
  rw [List.zipIdx_cons, List.foldl_cons, ih (k + 1) _ i (by rw [Array.size_setIfInBounds]; omega)]
  by_cases h1 : o + (k + 1) ≤ i ∧ i < o + (k + 1) + L.length
  ·rw [if_pos h1, if_pos (by omega)]
   obtain ⟨j, hj⟩ : ∃ j, i - (o + k) = j + 1 := ⟨i - (o + k) - 1, by omega⟩
   rw [hj, List.getElem?_cons_succ, show i - (o + (k + 1)) = j by omega]
  ·rw [if_neg h1, Array.getElem?_setIfInBounds]
   by_cases h2 : o + k = i
   ·subst h2
    rw [if_pos rfl, if_pos (by omega), if_pos (by omega), Nat.sub_self]
    rfl
   ·rw [if_neg h2, if_neg (by omega)]
theorem splice_size (o : Nat) : ∀ (L : List Value) (k : Nat) (Z : Array Value), (List.foldl (fun (cs : Array Value) (x : Value × Nat) => cs.setIfInBounds (o + x.2) x.1) Z (L.zipIdx k)).size = Z.size := by
 intro L
 induction L with
 | nil => intro k Z; rfl
 | cons v L ih => intro k Z; rw [List.zipIdx_cons, List.foldl_cons, ih, Array.size_setIfInBounds]
theorem splice_array (o : Nat) (Z D : Array Value) (hD : D.size = 32) : Array.foldl (fun (cs : Array Value) (x : Value × Nat) => cs.setIfInBounds (o + x.2) x.1) Z D.zipIdx 0 32 = List.foldl (fun (cs : Array Value) (x : Value × Nat) => cs.setIfInBounds (o + x.2) x.1) Z (D.toList.zipIdx 0) := by
 have h : (32 : Nat) = D.zipIdx.size := by simp [hD]
 rw [h, ← Array.foldl_toList, Array.toList_zipIdx]
theorem built_size (Z D2 : Array Value) (v0 v1 : Nat) (hZ : Z.size = 66) (l2 : D2.size = 32) : (Array.foldl (fun (cs : Array Value) (x : Value × Nat) => cs.setIfInBounds (2 + x.2) x.1) ((Z.setIfInBounds 0 (.int .u64 (v0 : Int))).setIfInBounds 1 (.int .u64 (v1 : Int))) D2.zipIdx 0 32).size = 66 := by
 rw [splice_array 2 _ D2 l2, splice_size]
 simp [hZ]
theorem acc_built (Z D2 D3 : Array Value) (v0 v1 : Nat) (R C : List Nat) (hZ : Z.size = 66) (h2 : D2.toList = R.map encB) (h3 : D3.toList = C.map encB) (l2 : D2.size = 32) (l3 : D3.size = 32) :
  Array.foldl (fun (cs : Array Value) (x : Value × Nat) => cs.setIfInBounds (34 + x.2) x.1) (Array.foldl (fun (cs : Array Value) (x : Value × Nat) => cs.setIfInBounds (2 + x.2) x.1) ((Z.setIfInBounds 0 (.int .u64 (v0 : Int))).setIfInBounds 1 (.int .u64 (v1 : Int))) D2.zipIdx 0 32) D3.zipIdx 0 32 = (accL ⟨v0, v1, R, C⟩).toArray := by
 have e2 : D2.toList.length = 32 := by rw [Array.length_toList, l2]
 have e3 : D3.toList.length = 32 := by rw [Array.length_toList, l3]
 have r2 : (R.map encB).length = 32 := by rw [← h2]; exact e2
 have r3 : (C.map encB).length = 32 := by rw [← h3]; exact e3
 rw [splice_array 34 _ D3 l3, splice_array 2 _ D2 l2]
 apply Array.ext_getElem?
 intro i
 have hz : ((Z.setIfInBounds 0 (.int .u64 (v0 : Int))).setIfInBounds 1 (.int .u64 (v1 : Int))).size = 66 := by simp [hZ]
 rw [splice_get 34 _ 0 _ i (by rw [splice_size, hz, e3]; omega), splice_get 2 _ 0 _ i (by rw [hz, e2]; omega), e2, e3, h2, h3]
 rw [show (accL ⟨v0, v1, R, C⟩).toArray[i]? = (accL ⟨v0, v1, R, C⟩)[i]? by simp]
 unfold accL
 simp only [Nat.add_zero]
 by_cases a : i < 2
 ·rw [if_neg (by omega), if_neg (by omega), Array.getElem?_setIfInBounds, Array.getElem?_setIfInBounds, Array.size_setIfInBounds, hZ]
  match i, a with
  | 0, _ => simp
  | 1, _ => simp
 ·obtain ⟨j, rfl⟩ : ∃ j, i = j + 2 := ⟨i - 2, by omega⟩
  rw [List.getElem?_cons_succ, List.getElem?_cons_succ]
  by_cases b : j < 32
  ·rw [if_neg (by omega), if_pos (by omega), List.getElem?_append_left (by omega)]
   congr 1
  ·by_cases c : j < 64
   ·rw [if_pos (by omega), List.getElem?_append_right (by omega), r2]
    congr 1
   ·rw [if_neg (by omega), if_neg (by omega), List.getElem?_eq_none (by rw [List.length_append]; omega), Array.getElem?_eq_none (by rw [hz]; omega)]
end Go.Proofs.YtjiikjpnlgogfaaGreatDoor
namespace Go.Proofs.YtjiikjpnlgogfaaGreatDoor
open Go.RowKit
theorem row_on {w3 u3 w4 : World} {b : Nat} {L : List Value} (h : w3.rangeAt b 0 L ∧ b < w3.heap.size) (h1 : Below w3.heap.size w3 u3) (h2 : Below u3.heap.size u3 w4) : w4.rangeAt b 0 L := fun j u hu =>
 (h2.cell (p := ⟨b, 0 + j, none⟩) (Nat.lt_of_lt_of_le h.2 h1.size)).trans ((h1.cell (p := ⟨b, 0 + j, none⟩) h.2).trans (h.1 j u hu))
set_option maxRecDepth 100000 in
set_option maxHeartbeats 6400000 in
theorem read_ok (f0 n0 f1 n1 f2 n2 f3 n3 : Nat) (x0 x1 x2 x3 : ByteArray) (p0 p1 p2 p3 : Option Addr) (m0 c0 m1 c1 m2 c2 m3 c3 : Nat) (g cap : Nat) (sent : Nat → Addr) (w : World) (hF : Faults w sent)
  (hr : FourAt w g ⟨f0, n0, false, x0, .slice p0 m0 c0⟩ ⟨f1, n1, false, x1, .slice p1 m1 c1⟩ ⟨f2, n2, false, x2, .slice p2 m2 c2⟩ ⟨f3, n3, false, x3, .slice p3 m3 c3⟩) (k0 : numOK false (bytesOf x0)) (k1 : numOK false (bytesOf x1)) (k2 : x2.size = 32) (k3 : x3.size = 32) :
  Calls Tryz.prog 162 #[.slice (some ⟨g, 0, none⟩) 4 cap] w fun e w' => Below w.heap.size w w' ∧ e = .returned (.tuple #[.agg (accL ⟨numB (bytesOf x0), numB (bytesOf x1), bytesOf x2, bytesOf x3⟩).toArray, .nilIface]) := by
 have HF := Hid.hide hF
 have HC := Hid.hide (fun W hb => hr.cells (W := W) hb)
 clear hF hr
 have q := (HC.out w (Below.refl _ _)).1
 have a0 : w.cell? ⟨g, 0, none⟩ = some (.int .i64 (f0 : Int)) := q 0 _ rfl
 have a1 : w.cell? ⟨g, 1, none⟩ = some (.int .i64 (n0 : Int)) := q 1 _ rfl
 have a2 : w.cell? ⟨g, 2, none⟩ = some (.bool false) := q 2 _ rfl
 have a3 : w.cell? ⟨g, 3, none⟩ = some (.string x0) := q 3 _ rfl
 have a4 : w.cell? ⟨g, 4, none⟩ = some (.slice p0 m0 c0) := q 4 _ rfl
 clear q
 have hg := (HC.out w (Below.refl _ _)).2.2.2.2
 have hgn : ¬ g = w.heap.size := by omega
 go_enter Tryz.func162, Tryz.ntmps162
 go_wp2_with fail
 generalize hWW : World.alloc w _ = W
 have HW : Hid (Below w.heap.size w W ∧ W.there w.heap.size 0 66 ∧ w.heap.size < W.heap.size) := ⟨by rw [← hWW]; exact (Below.refl _ _).alloc (Nat.le_refl _) _, by rw [← hWW]; exact there_new _ _ _ _ rfl, by rw [← hWW]; simp⟩
 clear hWW a0 a1 a2 a3 a4 hg hgn
 refine (num_ok f0 n0 x0 p0 m0 c0 _ k0).mono ?_
 rintro e w1 ⟨hb1, rfl⟩
 have B1 : Aside (Below w.heap.size w w1 ∧ Below W.heap.size W w1) := ⟨Below.behind HW.out.1 hb1, hb1⟩
 obtain ⟨v0, hv0⟩ : ∃ v, numB (bytesOf x0) = v := ⟨_, rfl⟩
 have HV0 := Hid.hide hv0
 rw [hv0]
 clear hb1 k0 hv0
 have q := (HC.out w1 B1.out.1).2.1
 have a0 : w1.cell? ⟨g, 5, none⟩ = some (.int .i64 (f1 : Int)) := q 0 _ rfl
 have a1 : w1.cell? ⟨g, 6, none⟩ = some (.int .i64 (n1 : Int)) := q 1 _ rfl
 have a2 : w1.cell? ⟨g, 7, none⟩ = some (.bool false) := q 2 _ rfl
 have a3 : w1.cell? ⟨g, 8, none⟩ = some (.string x1) := q 3 _ rfl
 have a4 : w1.cell? ⟨g, 9, none⟩ = some (.slice p1 m1 c1) := q 4 _ rfl
 clear q
 go_wp2_with fail
 clear a0 a1 a2 a3 a4
 refine (num_ok f1 n1 x1 p1 m1 c1 _ k1).mono ?_
 rintro e w2 ⟨hb2, rfl⟩
 have B2 : Aside (Below w.heap.size w w2 ∧ Below W.heap.size W w2) := ⟨Below.behind B1.out.1 hb2, Below.behind B1.out.2 hb2⟩
 obtain ⟨v1, hv1⟩ : ∃ v, numB (bytesOf x1) = v := ⟨_, rfl⟩
 have HV1 := Hid.hide hv1
 rw [hv1]
 clear hb2 k1 hv1
 have q := (HC.out w2 B2.out.1).2.2.1
 have a0 : w2.cell? ⟨g, 10, none⟩ = some (.int .i64 (f2 : Int)) := q 0 _ rfl
 have a1 : w2.cell? ⟨g, 11, none⟩ = some (.int .i64 (n2 : Int)) := q 1 _ rfl
 have a2 : w2.cell? ⟨g, 12, none⟩ = some (.bool false) := q 2 _ rfl
 have a3 : w2.cell? ⟨g, 13, none⟩ = some (.string x2) := q 3 _ rfl
 have a4 : w2.cell? ⟨g, 14, none⟩ = some (.slice p2 m2 c2) := q 4 _ rfl
 clear q
 go_wp2_with fail
 clear a0 a1 a2 a3 a4
 refine (hash_ok f2 n2 x2 p2 m2 c2 _ k2).mono ?_
 rintro e u2 ⟨hb, rfl⟩
 obtain ⟨D2, hD2, hDs2, hDo2⟩ : ∃ D : Array Value, ((bytesOf x2).map encB).toArray = D ∧ D.size = 32 ∧ D.all (·.oneCell') = true := ⟨_, rfl, by rw [List.size_toArray, List.length_map, bytesOf_length, k2], all_oneCell_toArray (encB_oneCell (bytesOf x2))⟩
 rw [hD2]
 have HD2 := Hid.hide hD2
 have U2 : Aside (Below w.heap.size w u2 ∧ Below W.heap.size W u2) := ⟨Below.behind B2.out.1 hb, Below.behind B2.out.2 hb⟩
 have hDz2 : (Tryz.prog.info? 34).map (·.size) = some D2.size := by rw [size28, hDs2]
 have hthD2 : ∀ C : Array Value, 32 = C.size → (u2.alloc (.cells C 34)).there u2.heap.size 0 D2.size := fun C hC => there_new _ _ _ _ (by rw [hDs2]; exact hC)
 have hDl2 : ∀ C : Array Value, 32 = C.size → D2.toList.length = C.size := fun C hC => by rw [Array.length_toList, hDs2]; exact hC
 clear hb k2 hD2
 go_wp2_with (refine wpList_store_mid rfl 34 _ _ rfl u2.heap.size 0 D2 rfl rfl (hthD2 _ rfl) hDz2 hDo2 ?_; generalize hX : World.setCells _ u2.heap.size 0 _ = w3; have B3 : Aside (Below w.heap.size w w3 ∧ Below W.heap.size W w3) := ⟨Below.behind U2.out.1 (newH hX), Below.behind U2.out.2 (newH hX)⟩; have R2 : Aside (w3.rangeAt u2.heap.size 0 D2.toList ∧ u2.heap.size < w3.heap.size) := newH_row hX (hDl2 _ rfl); have q := (HC.out w3 B3.out.1).2.2.2.1; have a0 : w3.cell? ⟨g, 15, none⟩ = some (.int .i64 (f3 : Int)) := q 0 _ rfl; have a1 : w3.cell? ⟨g, 16, none⟩ = some (.int .i64 (n3 : Int)) := q 1 _ rfl; have a2 : w3.cell? ⟨g, 17, none⟩ = some (.bool false) := q 2 _ rfl; have a3 : w3.cell? ⟨g, 18, none⟩ = some (.string x3) := q 3 _ rfl; have a4 : w3.cell? ⟨g, 19, none⟩ = some (.slice p3 m3 c3) := q 4 _ rfl; clear q hX hthD2 hDl2)
 clear a0 a1 a2 a3 a4
 refine (hash_ok f3 n3 x3 p3 m3 c3 _ k3).mono ?_
 rintro e u3 ⟨hb, rfl⟩
 obtain ⟨D3, hD3, hDs3, hDo3⟩ : ∃ D : Array Value, ((bytesOf x3).map encB).toArray = D ∧ D.size = 32 ∧ D.all (·.oneCell') = true := ⟨_, rfl, by rw [List.size_toArray, List.length_map, bytesOf_length, k3], all_oneCell_toArray (encB_oneCell (bytesOf x3))⟩
 rw [hD3]
 have HD3 := Hid.hide hD3
 have U3 : Aside (Below w.heap.size w u3 ∧ Below W.heap.size W u3) := ⟨Below.behind B3.out.1 hb, Below.behind B3.out.2 hb⟩
 have hDz3 : (Tryz.prog.info? 34).map (·.size) = some D3.size := by rw [size28, hDs3]
 have hthD3 : ∀ C : Array Value, 32 = C.size → (u3.alloc (.cells C 34)).there u3.heap.size 0 D3.size := fun C hC => there_new _ _ _ _ (by rw [hDs3]; exact hC)
 have hDl3 : ∀ C : Array Value, 32 = C.size → D3.toList.length = C.size := fun C hC => by rw [Array.length_toList, hDs3]; exact hC
 have V3 : Aside (Below w3.heap.size w3 u3) := hb
 clear hb k3 hD3
 have hbuild := acc_built Tryz.zeroCells85 D2 D3 v0 v1 (bytesOf x2) (bytesOf x3) (by kernel_rfl) (by rw [← HD2.out]) (by rw [← HD3.out]) hDs2 hDs3
 have hsz1 := built_size Tryz.zeroCells85 D2 v0 v1 (by kernel_rfl) hDs2
 obtain ⟨AA, hAA⟩ : ∃ AA, (accL ⟨v0, v1, bytesOf x2, bytesOf x3⟩).toArray = AA := ⟨_, rfl⟩
 rw [hAA] at hbuild
 have hAs : AA.size = 66 := by rw [← hAA, List.size_toArray]; exact accL_length (by have := congrArg Array.size HD2.out; rw [hDs2, List.size_toArray, List.length_map] at this; exact this) (by have := congrArg Array.size HD3.out; rw [hDs3, List.size_toArray, List.length_map] at this; exact this)
 have hAo : AA.all (·.oneCell') = true := by rw [← hAA]; exact accL_one _
 have hAz : (Tryz.prog.info? 85).map (·.size) = some AA.size := by rw [zeroA_size, hAs]
 have HAA := Hid.hide hAA
 clear hAA
 have q1D2 : (Tryz.prog.info? 34).map (·.size) = some D2.toList.length := by rw [size28, Array.length_toList, hDs2]
 have q1D3 : (Tryz.prog.info? 34).map (·.size) = some D3.toList.length := by rw [size28, Array.length_toList, hDs3]
 go_wp2_with (first | (refine wpList_store_mid rfl 34 _ _ rfl u3.heap.size 0 D3 rfl rfl (hthD3 _ rfl) hDz3 hDo3 ?_; generalize hX : World.setCells _ u3.heap.size 0 _ = w4; have B4 : Aside (Below w.heap.size w w4 ∧ Below W.heap.size W w4) := ⟨Below.behind U3.out.1 (newH hX), Below.behind U3.out.2 (newH hX)⟩; have r3 : w4.rangeAt u3.heap.size 0 D3.toList := (newH_row hX (hDl3 _ rfl)).1; have r2 : w4.rangeAt u2.heap.size 0 D2.toList := row_on R2.out V3.out (newH hX); have hthE : w4.there w.heap.size 0 AA.size := (by rw [hAs]; exact (errTail HW.out.1 HW.out.2.1 HW.out.2.2 B4.out.2).1); clear hX hthD3 hDl3) | (refine wpList_load_mid rfl 34 _ rfl u2.heap.size 0 rfl D2.toList _ r2 Tryz.underlying34 rfl q1D2 ?_) | (refine wpList_load_mid rfl 34 _ rfl u3.heap.size 0 rfl D3.toList _ r3 Tryz.underlying34 rfl q1D3 ?_) | (refine wpList_store_mid rfl 85 _ _ rfl w.heap.size 0 AA rfl rfl hthE hAz hAo ?_))
 have hthL : w4.there w.heap.size 0 AA.toList.length := by rw [Array.length_toList]; exact hthE
 have hzL : (Tryz.prog.info? 85).map (·.size) = some AA.toList.length := by rw [Array.length_toList]; exact hAz
 refine bodyPost_ret (v := .tuple #[.agg AA, .nilIface]) (results_cell2 Tryz.results162 _ _ _ w.heap.size 0 rfl (run_loadVar_mid _ _ _ 85 _ _ (World.rangeAt_setCells_same _ _ _ AA.toList hthL) Tryz.underlying85 rfl hzL)) rfl ⟨below_setCells B4.out.1 (Nat.le_refl _) _ _, ?_⟩
 rw [HV0.out, HV1.out, HAA.out]
end Go.Proofs.YtjiikjpnlgogfaaGreatDoor
namespace Go.Proofs.YtjiikjpnlgogfaaGreatDoor
open Go.RowKit
def It.isList : It → Bool
 | .text _ _ _ => false
 | .list _ _ _ => true
def It.txt : It → List Nat
 | .text _ _ t => t
 | .list _ _ _ => []
def It.items : It → List It
 | .text _ _ _ => []
 | .list _ _ l => l
def numIt (y : It) : Prop := numOK y.isList y.txt
def hashIt (y : It) : Prop := y.isList = false ∧ y.txt.length = 32
instance (y : It) : Decidable (numIt y) := by unfold numIt; infer_instance
instance (y : It) : Decidable (hashIt y) := by unfold hashIt; infer_instance
def readAcc (y0 y1 y2 y3 : It) : Except Er Acc :=
 if ¬ numIt y0 then .error (.place y0.fr (.base 13))
 else if ¬ numIt y1 then .error (.place y1.fr (.base 13))
 else if ¬ hashIt y2 then .error (.place y2.fr (.base 13))
 else if ¬ hashIt y3 then .error (.place y3.fr (.base 13))
 else .ok ⟨numB y0.txt, numB y1.txt, y2.txt, y3.txt⟩
def accF (l : List Nat) : Except Er Acc :=
 match decF l with
 | .error e => .error e
 | .ok x =>
  match x.items with
  | [y0, y1, y2, y3] => readAcc y0 y1 y2 y3
  | _ => .error (.place x.fr (.base 13))
theorem el_of_tree {d : Nat} {w : World} {F : Nat → Prop} {e : El} {y : It} (h : Tree encP kP d w F e y) : e.fr = y.fr ∧ e.lst = y.isList ∧ bytesOf e.text = y.txt := by
 have ht : IsText e ∧ kP.tx e y → e.fr = y.fr ∧ e.lst = y.isList ∧ bytesOf e.text = y.txt := by
  rintro ⟨⟨h1, _⟩, h2⟩
  have h2 : y = .text e.fr e.to (bytesOf e.text) := h2
  subst h2
  exact ⟨rfl, h1, rfl⟩
 cases d with
 | zero => exact ht h
 | succ d =>
  rcases h with h | ⟨h1, ps, _, _, h2, h3⟩
  ·exact ht h
  ·have h3 : y = .list e.fr e.to (ps.map (·.2)) := h3
   subst h3
   exact ⟨rfl, h1, by rw [h2]; rfl⟩
def AccSaid (r : Except Er Acc) (sent : Nat → Addr) (w : World) (e : Ending) (w' : World) : Prop :=
 Below w.heap.size w w' ∧ (∀ er, r = .error er → ∃ t v, er.val sent = .iface t v ∧ e = .returned (.tuple #[.agg (accL zeroAcc).toArray, .iface t v])) ∧ ∀ a, r = .ok a → e = .returned (.tuple #[.agg (accL a).toArray, .nilIface])
theorem AccSaid.bad {r : Except Er Acc} {er : Er} (h : r = .error er) {sent : Nat → Addr} {w : World} {e : Ending} {w' : World} {t : TypeId} {v : Value} (hb : Below w.heap.size w w') (hv : er.val sent = .iface t v) (he : e = .returned (.tuple #[.agg (accL zeroAcc).toArray, .iface t v])) : AccSaid r sent w e w' :=
 ⟨hb, fun j hj => (by rw [h] at hj; cases hj; exact ⟨t, v, hv, he⟩), fun a ha => by rw [h] at ha; cases ha⟩
theorem read_its {d : Nat} {F : Nat → Prop} (w : World) (g cap : Nat) (e0 e1 e2 e3 : El) (y0 y1 y2 y3 : It) (sent : Nat → Addr) (hF : Faults w sent) (hr : FourAt w g e0 e1 e2 e3) (t0 : Tree encP kP d w F e0 y0) (t1 : Tree encP kP d w F e1 y1) (t2 : Tree encP kP d w F e2 y2) (t3 : Tree encP kP d w F e3 y3) :
  Calls Tryz.prog 162 #[.slice (some ⟨g, 0, none⟩) 4 cap] w (AccSaid (readAcc y0 y1 y2 y3) sent w) := by
 obtain ⟨p0, m0, c0, s0⟩ := t0.sub
 obtain ⟨p1, m1, c1, s1⟩ := t1.sub
 obtain ⟨p2, m2, c2, s2⟩ := t2.sub
 obtain ⟨p3, m3, c3, s3⟩ := t3.sub
 obtain ⟨a0, b0, d0⟩ := el_of_tree t0
 obtain ⟨a1, b1, d1⟩ := el_of_tree t1
 obtain ⟨a2, b2, d2⟩ := el_of_tree t2
 obtain ⟨a3, b3, d3⟩ := el_of_tree t3
 obtain ⟨f0, n0, l0, x0, u0⟩ := e0
 obtain ⟨f1, n1, l1, x1, u1⟩ := e1
 obtain ⟨f2, n2, l2, x2, u2⟩ := e2
 obtain ⟨f3, n3, l3, x3, u3⟩ := e3
 simp only at s0 s1 s2 s3 a0 b0 d0 a1 b1 d1 a2 b2 d2 a3 b3 d3
 subst s0 s1 s2 s3
 clear t0 t1 t2 t3
 have z2 := bytesOf_length x2
 have z3 := bytesOf_length x3
 unfold readAcc
 by_cases k0 : numIt y0
 case neg =>
  rw [if_pos k0]
  refine (read_bad0 f0 n0 l0 x0 p0 m0 c0 _ _ _ g cap sent w hF hr (by rw [b0, d0]; exact k0)).mono ?_
  rintro e w' ⟨hb, rfl⟩
  exact .bad rfl hb rfl (by rw [a0]; rfl)
 rw [if_neg (fun h => h k0)]
 have k0' := k0
 unfold numIt at k0'
 rw [← b0, ← d0] at k0'
 obtain rfl := k0'.1
 by_cases k1 : numIt y1
 case neg =>
  rw [if_pos k1]
  refine (read_bad1 f0 n0 f1 n1 f2 n2 f3 n3 l1 l2 l3 x0 x1 x2 x3 p0 p1 p2 p3 m0 c0 m1 c1 m2 c2 m3 c3 g cap sent w hF hr k0' (by rw [b1, d1]; exact k1)).mono ?_
  rintro e w' ⟨hb, rfl⟩
  exact .bad rfl hb rfl (by rw [a1]; rfl)
 rw [if_neg (fun h => h k1)]
 have k1' := k1
 unfold numIt at k1'
 rw [← b1, ← d1] at k1'
 obtain rfl := k1'.1
 by_cases k2 : hashIt y2
 case neg =>
  rw [if_pos k2]
  refine (read_bad2 f0 n0 f1 n1 f2 n2 f3 n3 l2 l3 x0 x1 x2 x3 p0 p1 p2 p3 m0 c0 m1 c1 m2 c2 m3 c3 g cap sent w hF hr k0' k1' (by rw [← z2, d2, b2]; exact k2)).mono ?_
  rintro e w' ⟨hb, rfl⟩
  exact .bad rfl hb rfl (by rw [a2]; rfl)
 rw [if_neg (fun h => h k2)]
 obtain ⟨k2a, k2b⟩ := k2
 rw [← b2] at k2a
 rw [← d2, z2] at k2b
 subst k2a
 by_cases k3 : hashIt y3
 case neg =>
  rw [if_pos k3]
  refine (read_bad3 f0 n0 f1 n1 f2 n2 f3 n3 l3 x0 x1 x2 x3 p0 p1 p2 p3 m0 c0 m1 c1 m2 c2 m3 c3 g cap sent w hF hr k0' k1' k2b (by rw [← z3, d3, b3]; exact k3)).mono ?_
  rintro e w' ⟨hb, rfl⟩
  exact .bad rfl hb rfl (by rw [a3]; rfl)
 rw [if_neg (fun h => h k3)]
 obtain ⟨k3a, k3b⟩ := k3
 rw [← b3] at k3a
 rw [← d3, z3] at k3b
 subst k3a
 refine (read_ok f0 n0 f1 n1 f2 n2 f3 n3 x0 x1 x2 x3 p0 p1 p2 p3 m0 c0 m1 c1 m2 c2 m3 c3 g cap sent w hF hr k0' k1' k2b k3b).mono ?_
 rintro e w' ⟨hb, rfl⟩
 refine ⟨hb, fun er he => (by cases he), fun a ha => ?_⟩
 cases ha
 rw [d0, d1, d2, d3]
end Go.Proofs.YtjiikjpnlgogfaaGreatDoor
namespace Go.Proofs.YtjiikjpnlgogfaaGreatDoor
open Go.RowKit
set_option maxRecDepth 100000 in
set_option maxHeartbeats 3200000 in
theorem ad_err (s : ByteArray) (t : TypeId) (v : Value) (w : World) (hD : ∀ W, Below w.heap.size w W → Calls Tryz.prog 88 #[.string s] W fun e w' => Below W.heap.size W w' ∧ e = .returned (.tuple #[zeroP, .iface t v])) :
  Calls Tryz.prog 108 #[.string s] w fun e w' => Below w.heap.size w w' ∧ e = .returned (.tuple #[.agg (accL zeroAcc).toArray, .iface t v]) := by
 have HD := Hid.hide hD
 clear hD
 go_enter Tryz.func108, Tryz.ntmps108
 go_wp2_with fail
 generalize hWW : World.alloc w _ = W
 have HW : Hid (Below w.heap.size w W ∧ W.there w.heap.size 0 66 ∧ w.heap.size < W.heap.size) := ⟨by rw [← hWW]; exact (Below.refl _ _).alloc (Nat.le_refl _) _, by rw [← hWW]; exact there_new _ _ _ _ rfl, by rw [← hWW]; simp⟩
 clear hWW
 refine (HD.out _ HW.out.1).mono ?_
 rintro e w1 ⟨hb1, rfl⟩
 have T1 : ∀ o, (w1.alloc o).there w.heap.size 0 (accL zeroAcc).toArray.size := fun o => (errTail HW.out.1 HW.out.2.1 HW.out.2.2 (hb1.alloc hb1.size o)).1
 have AE : Aside (∀ o, Below w.heap.size w (w1.alloc o) ∧ (w1.alloc o).there w.heap.size 0 (accL zeroAcc).length) := fun o => (errTail HW.out.1 HW.out.2.1 HW.out.2.2 (hb1.alloc hb1.size o)).2
 have hzE : (Tryz.prog.info? 85).map (·.size) = some (accL zeroAcc).toArray.size := zeroA_size
 have honeE := accL_one zeroAcc
 have HT := Hid.hide T1
 clear hb1 T1
 go_wp2_with (refine wpList_store_mid rfl 85 _ _ rfl w.heap.size 0 (accL zeroAcc).toArray rfl rfl (HT.out _) hzE honeE ?_)
 refine bodyPost_ret (v := .tuple #[.agg (accL zeroAcc).toArray, .iface t v]) (results_cell2 Tryz.results108 _ _ _ w.heap.size 0 rfl (run_loadVar_mid _ _ _ 85 _ _ (World.rangeAt_setCells_same _ _ _ (accL zeroAcc) (AE.out _).2) Tryz.underlying85 rfl zeroA_size)) rfl ⟨below_setCells (AE.out _).1 (Nat.le_refl _) _ _, rfl⟩
set_option maxRecDepth 100000 in
set_option maxHeartbeats 3200000 in
theorem ad_not (s : ByteArray) (fr : Nat) (sent : Nat → Addr) (w : World) (hF : Faults w sent) (hD : ∀ W, Below w.heap.size w W → Calls Tryz.prog 88 #[.string s] W fun e w' => Below W.heap.size W w' ∧ ∃ (en : Nat) (l : Bool) (tx : ByteArray) (p : Option Addr) (m c : Nat), (l = false ∨ l = true ∧ ((m : Int) == 4) = false) ∧ e = .returned (.tuple #[placedV fr en l tx p m c, .nilIface])) :
  Calls Tryz.prog 108 #[.string s] w fun e w' => Below w.heap.size w w' ∧ e = .returned (.tuple #[.agg (accL zeroAcc).toArray, accV fr sent]) := by
 have HD := Hid.hide hD
 have HA : Hid (∀ W en l tx p m c, Below w.heap.size w W → Calls Tryz.prog 161 #[placedV fr en l tx p m c] W fun e w' => e = .returned (accV fr sent) ∧ Below W.heap.size W w') := fun W en l tx p m c hW => notAt_any fr en l tx p m c sent W (hF.below hW)
 have hzE : (Tryz.prog.info? 85).map (·.size) = some (accL zeroAcc).toArray.size := zeroA_size
 have honeE := accL_one zeroAcc
 clear hD hF
 go_enter Tryz.func108, Tryz.ntmps108
 go_wp2_with fail
 generalize hWW : World.alloc w _ = W
 have HW : Hid (Below w.heap.size w W ∧ W.there w.heap.size 0 66 ∧ w.heap.size < W.heap.size) := ⟨by rw [← hWW]; exact (Below.refl _ _).alloc (Nat.le_refl _) _, by rw [← hWW]; exact there_new _ _ _ _ rfl, by rw [← hWW]; simp⟩
 clear hWW
 refine (HD.out _ HW.out.1).mono ?_
 rintro e w1 ⟨hb1, en, l, tx, p, m, c, h, rfl⟩
 have B1 : Aside (Below w.heap.size w w1 ∧ Below W.heap.size W w1) := ⟨Below.behind HW.out.1 hb1, hb1⟩
 clear hb1
 rcases h with rfl | ⟨rfl, h4⟩
 all_goals
  go_wp2_with fail
  refine (HA.out _ en _ tx p m c (B1.out.1.alloc B1.out.1.size _)).mono ?_
  rintro e w2 ⟨rfl, hb2⟩
  have hthE := (errTail HW.out.1 HW.out.2.1 HW.out.2.2 (Below.behind B1.out.2 (Below.up hb2))).1
  have AE : Aside (Below w.heap.size w w2 ∧ w2.there w.heap.size 0 (accL zeroAcc).length) := (errTail HW.out.1 HW.out.2.1 HW.out.2.2 (Below.behind B1.out.2 (Below.up hb2))).2
  clear hb2
  go_wp2_with (refine wpList_store_mid rfl 85 _ _ rfl w.heap.size 0 (accL zeroAcc).toArray rfl rfl hthE hzE honeE ?_)
  refine bodyPost_ret (v := .tuple #[.agg (accL zeroAcc).toArray, accV fr sent]) (results_cell2 Tryz.results108 _ _ _ w.heap.size 0 rfl (run_loadVar_mid _ _ _ 85 _ _ (World.rangeAt_setCells_same _ _ _ (accL zeroAcc) AE.out.2) Tryz.underlying85 rfl zeroA_size)) rfl ⟨below_setCells AE.out.1 (Nat.le_refl _) _ _, rfl⟩
theorem AccSaid.shape {r : Except Er Acc} {sent : Nat → Addr} {w : World} {e : Ending} {w' : World} (h : AccSaid r sent w e w') : Below w.heap.size w w' ∧ ∃ (A : Array Value) (ev : Value), e = .returned (.tuple #[.agg A, ev]) ∧ A.all (·.oneCell') = true ∧ ((∃ er t v, r = .error er ∧ er.val sent = .iface t v ∧ ev = .iface t v ∧ A = (accL zeroAcc).toArray) ∨ ∃ a, r = .ok a ∧ ev = .nilIface ∧ A = (accL a).toArray) := by
 obtain ⟨hb, h1, h2⟩ := h
 refine ⟨hb, ?_⟩
 rcases r with er | a
 ·obtain ⟨t, v, hv, he⟩ := h1 er rfl
  exact ⟨_, _, he, accL_one _, .inl ⟨er, t, v, rfl, hv, rfl, rfl⟩⟩
 ·exact ⟨_, _, h2 a rfl, accL_one _, .inr ⟨a, rfl, rfl, rfl⟩⟩
def AccLen (r : Except Er Acc) : Prop := ∀ a, r = .ok a → a.root.length = 32 ∧ a.code.length = 32
theorem readAcc_len (y0 y1 y2 y3 : It) : AccLen (readAcc y0 y1 y2 y3) := by
 intro a h
 unfold readAcc at h
 split at h
 ·cases h
 ·split at h
  ·cases h
  ·split at h
   ·cases h
   ·split at h
    ·cases h
    ·rename_i h2 h3
     cases h
     exact ⟨(Classical.not_not.1 h2).2, (Classical.not_not.1 h3).2⟩
set_option maxRecDepth 100000 in
set_option maxHeartbeats 3200000 in
theorem ad_read (s : ByteArray) (fr : Nat) (r : Except Er Acc) (hL : AccLen r) (sent : Nat → Addr) (w : World) (hD : ∀ W, Below w.heap.size w W → Calls Tryz.prog 88 #[.string s] W fun e w' => Below W.heap.size W w' ∧ ∃ (en : Nat) (tx : ByteArray) (g cap : Nat), e = .returned (.tuple #[placedV fr en true tx (some ⟨g, 0, none⟩) 4 cap, .nilIface]) ∧ ∀ W2, Below w'.heap.size w' W2 → Calls Tryz.prog 162 #[.slice (some ⟨g, 0, none⟩) 4 cap] W2 (AccSaid r sent W2)) :
  Calls Tryz.prog 108 #[.string s] w (AccSaid r sent w) := by
 have HD := Hid.hide hD
 have HL := Hid.hide hL
 clear hD hL
 go_enter Tryz.func108, Tryz.ntmps108
 go_wp2_with fail
 generalize hWW : World.alloc w _ = W
 have HW : Hid (Below w.heap.size w W ∧ W.there w.heap.size 0 66 ∧ w.heap.size < W.heap.size) := ⟨by rw [← hWW]; exact (Below.refl _ _).alloc (Nat.le_refl _) _, by rw [← hWW]; exact there_new _ _ _ _ rfl, by rw [← hWW]; simp⟩
 clear hWW
 refine (HD.out _ HW.out.1).mono ?_
 rintro e w1 ⟨hb1, en, tx, g, cap, rfl, hR⟩
 have B1 : Aside (Below w.heap.size w w1 ∧ Below W.heap.size W w1) := ⟨Below.behind HW.out.1 hb1, hb1⟩
 have HR := Hid.hide hR
 clear hb1 hR
 go_wp2_with fail
 refine (HR.out _ ((Below.refl _ _).alloc (Nat.le_refl _) _)).mono ?_
 intro e w2 hs
 obtain ⟨hb2, A, ev, rfl, hAo, hd⟩ := hs.shape
 have hA : A.size = 66 := by
  rcases hd with ⟨er, t, v, _, _, _, rfl⟩ | ⟨a, ha, _, rfl⟩
  ·rfl
  ·rw [List.size_toArray]
   exact accL_length (HL.out a ha).1 (HL.out a ha).2
 have HS : Hid (AccSaid r sent _ (.returned (.tuple #[.agg A, ev])) w2) := hs
 have hthE : w2.there w.heap.size 0 A.size := by rw [hA]; exact (errTail HW.out.1 HW.out.2.1 HW.out.2.2 (Below.behind B1.out.2 (Below.up hb2))).1
 have hthL : w2.there w.heap.size 0 A.toList.length := by rw [Array.length_toList]; exact hthE
 have B2 : Aside (Below w.heap.size w w2 ∧ w2.there w.heap.size 0 A.toList.length) := ⟨Below.behind B1.out.1 (Below.up hb2), hthL⟩
 have hzA : (Tryz.prog.info? 85).map (·.size) = some A.size := by rw [zeroA_size, hA]
 have hzL : (Tryz.prog.info? 85).map (·.size) = some A.toList.length := by rw [Array.length_toList]; exact hzA
 clear hs hd hb2 hthL hA
 go_wp2_with (refine wpList_store_mid rfl 85 _ _ rfl w.heap.size 0 A rfl rfl hthE hzA hAo ?_)
 refine bodyPost_ret (v := .tuple #[.agg A, ev]) (results_cell2 Tryz.results108 _ _ _ w.heap.size 0 rfl (run_loadVar_mid _ _ _ 85 _ _ (World.rangeAt_setCells_same _ _ _ A.toList B2.out.2) Tryz.underlying85 rfl hzL)) rfl ?_
 exact ⟨below_setCells B2.out.1 (Nat.le_refl _) _ _, HS.out.2.1, HS.out.2.2⟩
theorem flat_four {ps : List (El × It)} {e0 e1 e2 e3 : El × It} (h : ps = [e0, e1, e2, e3]) : (ps.flatMap fun p => encP p.1) = encP e0.1 ++ encP e1.1 ++ encP e2.1 ++ encP e3.1 := by
 subst h
 simp
theorem accF_err {l : List Nat} {er : Er} (h : decF l = .error er) : accF l = .error er := by
 unfold accF
 rw [h]
theorem accF_four {l : List Nat} {x y0 y1 y2 y3 : It} (h : decF l = .ok x) (hx : x.items = [y0, y1, y2, y3]) : accF l = readAcc y0 y1 y2 y3 := by
 unfold accF
 rw [h]
 simp only
 rw [hx]
theorem accF_not {l : List Nat} {x : It} (h : decF l = .ok x) (h4 : ¬ x.items.length = 4) : accF l = .error (.place x.fr (.base 13)) := by
 unfold accF
 rw [h]
 simp only
 split
 ·rename_i hx
  rw [hx] at h4
  simp at h4
 ·rfl
theorem ad_any (s : ByteArray) (sent : Nat → Addr) (w : World) (hF : Faults w sent) : Calls Tryz.prog 108 #[.string s] w (AccSaid (accF (bytesOf s)) sent w) := by
 have HD := fun W (hW : Below w.heap.size w W) => dec_any s sent W (hF.below hW)
 cases hd : decF (bytesOf s) with
 | error er =>
  rw [accF_err hd]
  obtain ⟨t, v, hv⟩ := er.shape sent
  refine (ad_err s t v w (fun W hW => (HD W hW).mono fun e w' h => ?_)).mono ?_
  ·obtain ⟨hb, h1, _⟩ := h
   obtain ⟨t', v', hv', he⟩ := h1 er hd
   rw [hv] at hv'
   cases hv'
   exact ⟨hb, he⟩
  ·rintro e w' ⟨hb, rfl⟩
   exact .bad rfl hb hv rfl
 | ok x =>
  by_cases h4 : x.items.length = 4
  ·match hx : x.items, h4 with
   | [y0, y1, y2, y3], _ =>
    rw [accF_four hd hx]
    refine ad_read s x.fr _ (readAcc_len y0 y1 y2 y3) sent w (fun W hW => (HD W hW).mono fun e w' h => ?_)
    obtain ⟨hb, _, h2⟩ := h
    obtain ⟨fr, en, l, tx, p, m, c, hT, he⟩ := h2 x hd
    obtain ⟨a1, a2, a3⟩ := el_of_tree hT
    simp only at a1 a2 a3
    rcases hT with hT | ⟨b1, ps, b2, b3, b4, b5⟩
    ·have : x = .text fr en (bytesOf tx) := hT.2
     subst this
     simp [It.items] at hx
    ·have b5 : x = .list fr en (ps.map (·.2)) := b5
     subst b5
     have hx : ps.map (·.2) = [y0, y1, y2, y3] := hx
     match ps, hx with
     | [e0, e1, e2, e3], hx =>
      simp only [List.map_cons, List.map_nil, List.cons.injEq, and_true] at hx
      obtain ⟨z0, z1, z2, z3⟩ := hx
      rcases b2 with ⟨_, b, _⟩ | ⟨g, cap, b, _, _, hg, _, hrow⟩
      ·simp at b
      ·simp only [Value.slice.injEq] at b
       obtain ⟨rfl, rfl, rfl⟩ := b
       simp only at b1
       subst b1
       refine ⟨hb, en, tx, g, c, he, fun W2 hW2 => ?_⟩
       have hF2 := hF.below (Below.behind hW (Below.behind hb hW2))
       have hr4 : FourAt W2 g e0.1 e1.1 e2.1 e3.1 := ⟨Nat.lt_of_lt_of_le hg hW2.size, fun j u hu => (hW2.cell (p := ⟨g, 0 + j, none⟩) hg).trans (hrow j u (by rw [flat_four rfl]; exact hu))⟩
       have u0 := z0 ▸ (b3 e0 (by simp)).below hW2
       have u1 := z1 ▸ (b3 e1 (by simp)).below hW2
       have u2 := z2 ▸ (b3 e2 (by simp)).below hW2
       have u3 := z3 ▸ (b3 e3 (by simp)).below hW2
       exact read_its W2 g c e0.1 e1.1 e2.1 e3.1 y0 y1 y2 y3 sent hF2 hr4 u0 u1 u2 u3
  ·rw [accF_not hd h4]
   refine (ad_not s x.fr sent w hF (fun W hW => (HD W hW).mono fun e w' h => ?_)).mono ?_
   ·obtain ⟨hb, _, h2⟩ := h
    obtain ⟨fr, en, l, tx, p, m, c, hT, he⟩ := h2 x hd
    obtain ⟨a1, a2, a3⟩ := el_of_tree hT
    simp only at a1 a2 a3
    subst a1
    refine ⟨hb, en, l, tx, p, m, c, ?_, he⟩
    rcases hT with hT | ⟨b1, ps, b2, b3, b4, b5⟩
    ·exact .inl hT.1.1
    ·refine .inr ⟨b1, ?_⟩
     have b5 : x = .list _ en (ps.map (·.2)) := b5
     have hm : m = ps.length := by
      rcases b2 with ⟨b, b', _⟩ | ⟨g, cap, b, _⟩
      ·simp only [Value.slice.injEq] at b
       omega
      ·simp only [Value.slice.injEq] at b
       exact b.2.1
     have : ps.length ≠ 4 := fun e4 => h4 (by rw [b5]; simpa [It.items] using e4)
     simp
     omega
   ·rintro e w' ⟨hb, rfl⟩
    exact .bad rfl hb rfl rfl
end Go.Proofs.YtjiikjpnlgogfaaGreatDoor
