/-
  Accounts: reading the four texts.
  Accounts: reading the four texts, whole.
  Accounts: reading the four texts: faults of the digests.
  A struct put together out of numbers and digests: the cells. Plain facts.
  Accounts: reading the four texts, where nothing is wrong.
  Accounts: Decode of package account.
  Accounts: Decode of package account: the walk.
-/
import Derived.Test.YtoohdfiddbfacaaGreatDoorTeAccH
namespace Go.Proofs.YtoohdfiddbfacaaGreatDoor
open Go.RowKit
set_option maxRecDepth 100000
set_option maxHeartbeats 25600000
abbrev nought32 : List Nat := [0, 0, 0, 0, 0, 0, 0, 0, 0, 0, 0, 0, 0, 0, 0, 0, 0, 0, 0, 0, 0, 0, 0, 0, 0, 0, 0, 0, 0, 0, 0, 0]
abbrev zeroAcc : Acc := ⟨0, 0, nought32, nought32⟩
theorem zeroA_size : (Tryz.prog.info? 47).map (·.size) = some 66 := by kernel_rfl
theorem accL_length {a : Acc} (h : a.root.length = 32) (h2 : a.code.length = 32) : (accL a).length = 66 := by
 unfold accL
 simp [h, h2]
theorem accL_one (a : Acc) : (accL a).toArray.all (·.oneCell') = true := by
 refine all_oneCell_toArray (fun u b => ?_)
 unfold accL at b
 simp only [List.mem_cons, List.mem_append, List.mem_map] at b
 rcases b with rfl | rfl | ⟨_, _, rfl⟩ | ⟨_, _, rfl⟩ <;> rfl
structure FourAt (w : World) (g : Nat) (e0 e1 e2 e3 : El) : Prop where
 lt : g < w.heap.size
 row : w.rangeAt g 0 (encP e0 ++ encP e1 ++ encP e2 ++ encP e3)
theorem read_bad0 (fr en : Nat) (l : Bool) (tx : ByteArray) (p : Option Addr) (m c : Nat) (e1 e2 e3 : El) (g cap : Nat) (sent : Nat -> Addr) (w : World) (hF : Faults w sent) (hr : FourAt w g ⟨fr, en, l, tx, .slice p m c⟩ e1 e2 e3) (h : ¬ numOK l (bytesOf tx)) :
  Calls Tryz.prog 66 #[.slice (some ⟨g, 0, none⟩) 4 cap] w fun e w' => Below w.heap.size w w' /\ e = .returned (.tuple #[.agg (accL zeroAcc).toArray, accV fr sent]) := by
 have r : w.cell? ⟨g, 0, none⟩ = some (.int .i64 (fr : Int)) := hr.row 0 _ rfl
 have s : w.cell? ⟨g, 1, none⟩ = some (.int .i64 (en : Int)) := hr.row 1 _ rfl
 have t : w.cell? ⟨g, 2, none⟩ = some (.bool l) := hr.row 2 _ rfl
 have u : w.cell? ⟨g, 3, none⟩ = some (.string tx) := hr.row 3 _ rfl
 have x : w.cell? ⟨g, 4, none⟩ = some (.slice p m c) := hr.row 4 _ rfl
 have y := hr.lt
 have q : ¬ g = w.heap.size := by omega
 have n : Hid (∀ W, Below w.heap.size w W -> Calls Tryz.prog 81 #[placedV fr en l tx p m c] W fun e w' => Below W.heap.size W w' /\ e = .returned (.tuple #[.int .u64 0, accV fr sent])) := fun W b => num_bad fr en l tx p m c sent W (hF.below b) h
 clear hF hr h
 go_enter Tryz.func66, Tryz.ntmps66
 go_wp2_with fail
 generalize hWW : World.alloc w _ = W
 have b : Below w.heap.size w W := by rw [<- hWW]; exact (Below.refl _ _).alloc (Nat.le_refl _) _
 have f : W.there w.heap.size 0 66 := by rw [<- hWW]; exact there_new _ _ _ _ rfl
 have d : w.heap.size < W.heap.size := by rw [<- hWW]; simp
 clear hWW
 refine (n.out _ b).mono ?_
 rintro e k ⟨a, rfl⟩
 have j : k.there w.heap.size 0 (accL zeroAcc).toArray.size := there_block f (a.block _ d)
 have A : Aside (Below w.heap.size w k /\ k.there w.heap.size 0 (accL zeroAcc).length) := ⟨Below.behind b a, there_block f (a.block _ d)⟩
 have o : (Tryz.prog.info? 47).map (·.size) = some (accL zeroAcc).toArray.size := zeroA_size
 have i := accL_one zeroAcc
 clear b a f d
 go_wp2_with (refine wpList_store_mid rfl 47 _ _ rfl w.heap.size 0 (accL zeroAcc).toArray rfl rfl j o i ?_)
 refine bodyPost_ret (v := .tuple #[.agg (accL zeroAcc).toArray, accV fr sent]) (results_cell2 Tryz.results66 _ _ _ w.heap.size 0 rfl (run_loadVar_mid _ _ _ 47 _ _ (World.rangeAt_setCells_same _ _ _ (accL zeroAcc) A.out.2) Tryz.underlying47 rfl zeroA_size)) rfl ⟨below_setCells A.out.1 (Nat.le_refl _) _ _, rfl⟩
theorem FourAt.cells {w : World} {g : Nat} {e0 e1 e2 e3 : El} (h : FourAt w g e0 e1 e2 e3) {W : World} (hb : Below w.heap.size w W) : W.rangeAt g 0 (encP e0) /\ W.rangeAt g 5 (encP e1) /\ W.rangeAt g 10 (encP e2) /\ W.rangeAt g 15 (encP e3) /\ g < W.heap.size := by
 have a : W.rangeAt g 0 (encP e0 ++ encP e1 ++ encP e2 ++ encP e3) := fun j u c => (hb.cell (p := ⟨g, 0 + j, none⟩) h.lt).trans (h.row j u c)
 refine ⟨fun j u c => ?_, ?_, ?_, ?_, Nat.lt_of_lt_of_le h.lt hb.size⟩
 ·have := range_part (xs := []) (bs := encP e0) (cs := encP e1 ++ encP e2 ++ encP e3) (w := W) (b := g) (o := 0) (by simpa using a)
  exact this j u c
 ·have := range_part (xs := encP e0) (bs := encP e1) (cs := encP e2 ++ encP e3) (w := W) (b := g) (o := 0) (by simpa using a)
  exact this
 ·have := range_part (xs := encP e0 ++ encP e1) (bs := encP e2) (cs := encP e3) (w := W) (b := g) (o := 0) (by simpa using a)
  exact this
 ·have := range_part (xs := encP e0 ++ encP e1 ++ encP e2) (bs := encP e3) (cs := []) (w := W) (b := g) (o := 0) (by simpa using a)
  exact this
theorem errTail {w w2 W : World} (hW : Below w.heap.size w W) (hth : W.there w.heap.size 0 66) (hsz : w.heap.size < W.heap.size) (hb2 : Below W.heap.size W w2) : w2.there w.heap.size 0 (accL zeroAcc).toArray.size /\ Below w.heap.size w w2 /\ w2.there w.heap.size 0 (accL zeroAcc).length :=
 ⟨there_block hth (hb2.block _ hsz), Below.behind hW hb2, there_block hth (hb2.block _ hsz)⟩
theorem newH {w3 wE : World} {o : Obj} {L : List Value} (h : (w3.alloc o).setCells w3.heap.size 0 L = wE) : Below w3.heap.size w3 wE := by
 rw [<- h]
 exact below_setCells ((Below.refl _ _).alloc (Nat.le_refl _) _) (Nat.le_refl _) _ _
theorem newH_row {w3 wE : World} {C : Array Value} {t : TypeId} {L : List Value} (h : (w3.alloc (.cells C t)).setCells w3.heap.size 0 L = wE) (hC : L.length = C.size) : wE.rangeAt w3.heap.size 0 L /\ w3.heap.size < wE.heap.size := by
 rw [<- h]
 obtain ⟨a, _⟩ := size_setCells w3.heap.size L 0 (w3.alloc (.cells C t))
 exact ⟨World.rangeAt_setCells_same _ _ _ _ (there_new _ _ _ _ hC), by rw [a]; simp⟩
theorem read_bad1 (f0 n0 f1 n1 f2 n2 f3 n3 : Nat) (l1 l2 l3 : Bool) (x0 x1 x2 x3 : ByteArray) (p0 p1 p2 p3 : Option Addr) (m0 c0 m1 c1 m2 c2 m3 c3 : Nat) (g cap : Nat) (sent : Nat -> Addr) (w : World) (hF : Faults w sent)
  (hr : FourAt w g ⟨f0, n0, false, x0, .slice p0 m0 c0⟩ ⟨f1, n1, l1, x1, .slice p1 m1 c1⟩ ⟨f2, n2, l2, x2, .slice p2 m2 c2⟩ ⟨f3, n3, l3, x3, .slice p3 m3 c3⟩) (k0 : numOK false (bytesOf x0)) (kb : ¬ numOK l1 (bytesOf x1)) :
  Calls Tryz.prog 66 #[.slice (some ⟨g, 0, none⟩) 4 cap] w fun e w' => Below w.heap.size w w' /\ e = .returned (.tuple #[.agg (accL zeroAcc).toArray, accV f1 sent]) := by
 have x := Hid.hide hF
 have j := Hid.hide (fun W y => hr.cells (W := W) y)
 clear hF hr
 have q := (j.out w (Below.refl _ _)).1
 have k : w.cell? ⟨g, 0, none⟩ = some (.int .i64 (f0 : Int)) := q 0 _ rfl
 have l : w.cell? ⟨g, 1, none⟩ = some (.int .i64 (n0 : Int)) := q 1 _ rfl
 have m : w.cell? ⟨g, 2, none⟩ = some (.bool false) := q 2 _ rfl
 have n : w.cell? ⟨g, 3, none⟩ = some (.string x0) := q 3 _ rfl
 have o : w.cell? ⟨g, 4, none⟩ = some (.slice p0 m0 c0) := q 4 _ rfl
 clear q
 have z := (j.out w (Below.refl _ _)).2.2.2.2
 have s : ¬ g = w.heap.size := by omega
 go_enter Tryz.func66, Tryz.ntmps66
 go_wp2_with fail
 generalize hWW : World.alloc w _ = W
 have b : Hid (Below w.heap.size w W /\ W.there w.heap.size 0 66 /\ w.heap.size < W.heap.size) := ⟨by rw [<- hWW]; exact (Below.refl _ _).alloc (Nat.le_refl _) _, by rw [<- hWW]; exact there_new _ _ _ _ rfl, by rw [<- hWW]; simp⟩
 clear hWW k l m n o z s
 refine (num_ok f0 n0 x0 p0 m0 c0 _ k0).mono ?_
 rintro e a ⟨c, rfl⟩
 have f : Aside (Below w.heap.size w a /\ Below W.heap.size W a) := ⟨Below.behind b.out.1 c, c⟩
 obtain ⟨B, i⟩ : ∃ v, numB (bytesOf x0) = v := ⟨_, rfl⟩
 rw [i]
 clear c k0 i
 have q := (j.out a f.out.1).2.1
 have k : a.cell? ⟨g, 5, none⟩ = some (.int .i64 (f1 : Int)) := q 0 _ rfl
 have l : a.cell? ⟨g, 6, none⟩ = some (.int .i64 (n1 : Int)) := q 1 _ rfl
 have m : a.cell? ⟨g, 7, none⟩ = some (.bool l1) := q 2 _ rfl
 have n : a.cell? ⟨g, 8, none⟩ = some (.string x1) := q 3 _ rfl
 have o : a.cell? ⟨g, 9, none⟩ = some (.slice p1 m1 c1) := q 4 _ rfl
 clear q
 go_wp2_with fail
 clear k l m n o
 refine (num_bad f1 n1 l1 x1 p1 m1 c1 sent _ (x.out.below f.out.1) kb).mono ?_
 rintro e u ⟨d, rfl⟩
 have r : Aside (Below w.heap.size w u /\ u.there w.heap.size 0 (accL zeroAcc).length) := (errTail b.out.1 b.out.2.1 b.out.2.2 (Below.behind f.out.2 d)).2
 have p := (errTail b.out.1 b.out.2.1 b.out.2.2 (Below.behind f.out.2 d)).1
 have t : (Tryz.prog.info? 47).map (·.size) = some (accL zeroAcc).toArray.size := zeroA_size
 have h := accL_one zeroAcc
 clear d kb
 go_wp2_with (refine wpList_store_mid rfl 47 _ _ rfl w.heap.size 0 (accL zeroAcc).toArray rfl rfl p t h ?_)
 refine bodyPost_ret (v := .tuple #[.agg (accL zeroAcc).toArray, accV f1 sent]) (results_cell2 Tryz.results66 _ _ _ w.heap.size 0 rfl (run_loadVar_mid _ _ _ 47 _ _ (World.rangeAt_setCells_same _ _ _ (accL zeroAcc) r.out.2) Tryz.underlying47 rfl zeroA_size)) rfl ⟨below_setCells r.out.1 (Nat.le_refl _) _ _, rfl⟩
theorem read_bad2 (f0 n0 f1 n1 f2 n2 f3 n3 : Nat) (l2 l3 : Bool) (x0 x1 x2 x3 : ByteArray) (p0 p1 p2 p3 : Option Addr) (m0 c0 m1 c1 m2 c2 m3 c3 : Nat) (g cap : Nat) (sent : Nat -> Addr) (w : World) (hF : Faults w sent)
  (hr : FourAt w g ⟨f0, n0, false, x0, .slice p0 m0 c0⟩ ⟨f1, n1, false, x1, .slice p1 m1 c1⟩ ⟨f2, n2, l2, x2, .slice p2 m2 c2⟩ ⟨f3, n3, l3, x3, .slice p3 m3 c3⟩) (k0 : numOK false (bytesOf x0)) (k1 : numOK false (bytesOf x1)) (kb : ¬ (l2 = false /\ x2.size = 32)) :
  Calls Tryz.prog 66 #[.slice (some ⟨g, 0, none⟩) 4 cap] w fun e w' => Below w.heap.size w w' /\ e = .returned (.tuple #[.agg (accL zeroAcc).toArray, accV f2 sent]) := by
 have J := Hid.hide hF
 have o := Hid.hide (fun W p => hr.cells (W := W) p)
 clear hF hr
 have q := (o.out w (Below.refl _ _)).1
 have d : w.cell? ⟨g, 0, none⟩ = some (.int .i64 (f0 : Int)) := q 0 _ rfl
 have f : w.cell? ⟨g, 1, none⟩ = some (.int .i64 (n0 : Int)) := q 1 _ rfl
 have h : w.cell? ⟨g, 2, none⟩ = some (.bool false) := q 2 _ rfl
 have i : w.cell? ⟨g, 3, none⟩ = some (.string x0) := q 3 _ rfl
 have j : w.cell? ⟨g, 4, none⟩ = some (.slice p0 m0 c0) := q 4 _ rfl
 clear q
 have L := (o.out w (Below.refl _ _)).2.2.2.2
 have H : ¬ g = w.heap.size := by omega
 go_enter Tryz.func66, Tryz.ntmps66
 go_wp2_with fail
 generalize hWW : World.alloc w _ = W
 have c : Hid (Below w.heap.size w W /\ W.there w.heap.size 0 66 /\ w.heap.size < W.heap.size) := ⟨by rw [<- hWW]; exact (Below.refl _ _).alloc (Nat.le_refl _) _, by rw [<- hWW]; exact there_new _ _ _ _ rfl, by rw [<- hWW]; simp⟩
 clear hWW d f h i j L H
 refine (num_ok f0 n0 x0 p0 m0 c0 _ k0).mono ?_
 rintro e a ⟨k, rfl⟩
 have x : Aside (Below w.heap.size w a /\ Below W.heap.size W a) := ⟨Below.behind c.out.1 k, k⟩
 obtain ⟨M, t⟩ : ∃ v, numB (bytesOf x0) = v := ⟨_, rfl⟩
 rw [t]
 clear k k0 t
 have q := (o.out a x.out.1).2.1
 have d : a.cell? ⟨g, 5, none⟩ = some (.int .i64 (f1 : Int)) := q 0 _ rfl
 have f : a.cell? ⟨g, 6, none⟩ = some (.int .i64 (n1 : Int)) := q 1 _ rfl
 have h : a.cell? ⟨g, 7, none⟩ = some (.bool false) := q 2 _ rfl
 have i : a.cell? ⟨g, 8, none⟩ = some (.string x1) := q 3 _ rfl
 have j : a.cell? ⟨g, 9, none⟩ = some (.slice p1 m1 c1) := q 4 _ rfl
 clear q
 go_wp2_with fail
 clear d f h i j
 refine (num_ok f1 n1 x1 p1 m1 c1 _ k1).mono ?_
 rintro e b ⟨l, rfl⟩
 have y : Aside (Below w.heap.size w b /\ Below W.heap.size W b) := ⟨Below.behind x.out.1 l, Below.behind x.out.2 l⟩
 obtain ⟨N, u⟩ : ∃ v, numB (bytesOf x1) = v := ⟨_, rfl⟩
 rw [u]
 clear l k1 u
 have q := (o.out b y.out.1).2.2.1
 have d : b.cell? ⟨g, 10, none⟩ = some (.int .i64 (f2 : Int)) := q 0 _ rfl
 have f : b.cell? ⟨g, 11, none⟩ = some (.int .i64 (n2 : Int)) := q 1 _ rfl
 have h : b.cell? ⟨g, 12, none⟩ = some (.bool l2) := q 2 _ rfl
 have i : b.cell? ⟨g, 13, none⟩ = some (.string x2) := q 3 _ rfl
 have j : b.cell? ⟨g, 14, none⟩ = some (.slice p2 m2 c2) := q 4 _ rfl
 clear q
 go_wp2_with fail
 clear d f h i j
 refine (hash_bad f2 n2 l2 x2 p2 m2 c2 sent _ (J.out.below y.out.1) kb).mono ?_
 rintro e n ⟨p, rfl⟩
 obtain ⟨Z, E, s, F⟩ : ∃ Z : Array Value, zeroH = Z /\ Z.size = 32 /\ Z.all (·.oneCell') = true := ⟨_, rfl, by rw [zeroH_lit]; rfl, zero_one⟩
 rw [E]
 have D : Aside (Below W.heap.size W n) := Below.behind y.out.2 p
 have G : (Tryz.prog.info? 44).map (·.size) = some Z.size := by rw [size28, s]
 have m : ∀ C : Array Value, 32 = C.size -> (n.alloc (.cells C 44)).there n.heap.size 0 Z.size := fun C K => there_new _ _ _ _ (by rw [s]; exact K)
 clear p kb E
 have I : (Tryz.prog.info? 47).map (·.size) = some (accL zeroAcc).toArray.size := zeroA_size
 have r := accL_one zeroAcc
 go_wp2_with (first | (refine wpList_store_mid rfl 44 _ _ rfl n.heap.size 0 Z rfl rfl (m _ rfl) G F ?_; generalize hX : World.setCells _ n.heap.size 0 _ = wE; have B : Aside (Below w.heap.size w wE /\ wE.there w.heap.size 0 (accL zeroAcc).length) := (errTail c.out.1 c.out.2.1 c.out.2.2 (Below.behind D.out (newH hX))).2; have z := (errTail c.out.1 c.out.2.1 c.out.2.2 (Below.behind D.out (newH hX))).1; clear hX m) | (refine wpList_store_mid rfl 47 _ _ rfl w.heap.size 0 (accL zeroAcc).toArray rfl rfl z I r ?_))
 refine bodyPost_ret (v := .tuple #[.agg (accL zeroAcc).toArray, accV f2 sent]) (results_cell2 Tryz.results66 _ _ _ w.heap.size 0 rfl (run_loadVar_mid _ _ _ 47 _ _ (World.rangeAt_setCells_same _ _ _ (accL zeroAcc) B.out.2) Tryz.underlying47 rfl zeroA_size)) rfl ⟨below_setCells B.out.1 (Nat.le_refl _) _ _, rfl⟩
theorem read_bad3 (f0 n0 f1 n1 f2 n2 f3 n3 : Nat) (l3 : Bool) (x0 x1 x2 x3 : ByteArray) (p0 p1 p2 p3 : Option Addr) (m0 c0 m1 c1 m2 c2 m3 c3 : Nat) (g cap : Nat) (sent : Nat -> Addr) (w : World) (hF : Faults w sent)
  (hr : FourAt w g ⟨f0, n0, false, x0, .slice p0 m0 c0⟩ ⟨f1, n1, false, x1, .slice p1 m1 c1⟩ ⟨f2, n2, false, x2, .slice p2 m2 c2⟩ ⟨f3, n3, l3, x3, .slice p3 m3 c3⟩) (k0 : numOK false (bytesOf x0)) (k1 : numOK false (bytesOf x1)) (k2 : x2.size = 32) (kb : ¬ (l3 = false /\ x3.size = 32)) :
  Calls Tryz.prog 66 #[.slice (some ⟨g, 0, none⟩) 4 cap] w fun e w' => Below w.heap.size w w' /\ e = .returned (.tuple #[.agg (accL zeroAcc).toArray, accV f3 sent]) := by
 have U := Hid.hide hF
 have o := Hid.hide (fun W a => hr.cells (W := W) a)
 clear hF hr
 have q := (o.out w (Below.refl _ _)).1
 have f : w.cell? ⟨g, 0, none⟩ = some (.int .i64 (f0 : Int)) := q 0 _ rfl
 have h : w.cell? ⟨g, 1, none⟩ = some (.int .i64 (n0 : Int)) := q 1 _ rfl
 have i : w.cell? ⟨g, 2, none⟩ = some (.bool false) := q 2 _ rfl
 have j : w.cell? ⟨g, 3, none⟩ = some (.string x0) := q 3 _ rfl
 have k : w.cell? ⟨g, 4, none⟩ = some (.slice p0 m0 c0) := q 4 _ rfl
 clear q
 have V := (o.out w (Below.refl _ _)).2.2.2.2
 have S : ¬ g = w.heap.size := by omega
 go_enter Tryz.func66, Tryz.ntmps66
 go_wp2_with fail
 generalize hWW : World.alloc w _ = W
 have d : Hid (Below w.heap.size w W /\ W.there w.heap.size 0 66 /\ w.heap.size < W.heap.size) := ⟨by rw [<- hWW]; exact (Below.refl _ _).alloc (Nat.le_refl _) _, by rw [<- hWW]; exact there_new _ _ _ _ rfl, by rw [<- hWW]; simp⟩
 clear hWW f h i j k V S
 refine (num_ok f0 n0 x0 p0 m0 c0 _ k0).mono ?_
 rintro e b ⟨t, rfl⟩
 have G : Aside (Below w.heap.size w b /\ Below W.heap.size W b) := ⟨Below.behind d.out.1 t, t⟩
 obtain ⟨v0, E⟩ : ∃ v, numB (bytesOf x0) = v := ⟨_, rfl⟩
 rw [E]
 clear t k0 E
 have q := (o.out b G.out.1).2.1
 have f : b.cell? ⟨g, 5, none⟩ = some (.int .i64 (f1 : Int)) := q 0 _ rfl
 have h : b.cell? ⟨g, 6, none⟩ = some (.int .i64 (n1 : Int)) := q 1 _ rfl
 have i : b.cell? ⟨g, 7, none⟩ = some (.bool false) := q 2 _ rfl
 have j : b.cell? ⟨g, 8, none⟩ = some (.string x1) := q 3 _ rfl
 have k : b.cell? ⟨g, 9, none⟩ = some (.slice p1 m1 c1) := q 4 _ rfl
 clear q
 go_wp2_with fail
 clear f h i j k
 refine (num_ok f1 n1 x1 p1 m1 c1 _ k1).mono ?_
 rintro e c ⟨u, rfl⟩
 have H : Aside (Below w.heap.size w c /\ Below W.heap.size W c) := ⟨Below.behind G.out.1 u, Below.behind G.out.2 u⟩
 obtain ⟨v1, F⟩ : ∃ v, numB (bytesOf x1) = v := ⟨_, rfl⟩
 rw [F]
 clear u k1 F
 have q := (o.out c H.out.1).2.2.1
 have f : c.cell? ⟨g, 10, none⟩ = some (.int .i64 (f2 : Int)) := q 0 _ rfl
 have h : c.cell? ⟨g, 11, none⟩ = some (.int .i64 (n2 : Int)) := q 1 _ rfl
 have i : c.cell? ⟨g, 12, none⟩ = some (.bool false) := q 2 _ rfl
 have j : c.cell? ⟨g, 13, none⟩ = some (.string x2) := q 3 _ rfl
 have k : c.cell? ⟨g, 14, none⟩ = some (.slice p2 m2 c2) := q 4 _ rfl
 clear q
 go_wp2_with fail
 clear f h i j k
 refine (hash_ok f2 n2 x2 p2 m2 c2 _ k2).mono ?_
 rintro e u2 ⟨a, rfl⟩
 obtain ⟨n, r, l, J⟩ : ∃ D : Array Value, ((bytesOf x2).map encB).toArray = D /\ D.size = 32 /\ D.all (·.oneCell') = true := ⟨_, rfl, by rw [List.size_toArray, List.length_map, bytesOf_length, k2], all_oneCell_toArray (encB_oneCell (bytesOf x2))⟩
 rw [r]
 have X := Hid.hide r
 have O : Aside (Below w.heap.size w u2 /\ Below W.heap.size W u2) := ⟨Below.behind H.out.1 a, Below.behind H.out.2 a⟩
 have K : (Tryz.prog.info? 44).map (·.size) = some n.size := by rw [size28, l]
 have m : ∀ C : Array Value, 32 = C.size -> (u2.alloc (.cells C 44)).there u2.heap.size 0 n.size := fun C p => there_new _ _ _ _ (by rw [l]; exact p)
 have s : ∀ C : Array Value, 32 = C.size -> n.toList.length = C.size := fun C p => by rw [Array.length_toList, l]; exact p
 clear a k2 r
 go_wp2_with (refine wpList_store_mid rfl 44 _ _ rfl u2.heap.size 0 n rfl rfl (m _ rfl) K J ?_; generalize hX : World.setCells _ u2.heap.size 0 _ = w3; have I : Aside (Below w.heap.size w w3 /\ Below W.heap.size W w3) := ⟨Below.behind O.out.1 (newH hX), Below.behind O.out.2 (newH hX)⟩; have Y : Aside (w3.rangeAt u2.heap.size 0 n.toList /\ u2.heap.size < w3.heap.size) := newH_row hX (s _ rfl); have q := (o.out w3 I.out.1).2.2.2.1; have f : w3.cell? ⟨g, 15, none⟩ = some (.int .i64 (f3 : Int)) := q 0 _ rfl; have h : w3.cell? ⟨g, 16, none⟩ = some (.int .i64 (n3 : Int)) := q 1 _ rfl; have i : w3.cell? ⟨g, 17, none⟩ = some (.bool l3) := q 2 _ rfl; have j : w3.cell? ⟨g, 18, none⟩ = some (.string x3) := q 3 _ rfl; have k : w3.cell? ⟨g, 19, none⟩ = some (.slice p3 m3 c3) := q 4 _ rfl; clear q hX m s)
 clear f h i j k
 refine (hash_bad f3 n3 l3 x3 p3 m3 c3 sent _ (U.out.below I.out.1) kb).mono ?_
 rintro e y ⟨a, rfl⟩
 obtain ⟨Z, P, B, Q⟩ : ∃ Z : Array Value, zeroH = Z /\ Z.size = 32 /\ Z.all (·.oneCell') = true := ⟨_, rfl, by rw [zeroH_lit]; rfl, zero_one⟩
 rw [P]
 have N : Aside (Below W.heap.size W y) := Below.behind I.out.2 a
 have R : (Tryz.prog.info? 44).map (·.size) = some Z.size := by rw [size28, B]
 have x : ∀ C : Array Value, 32 = C.size -> (y.alloc (.cells C 44)).there y.heap.size 0 Z.size := fun C p => there_new _ _ _ _ (by rw [B]; exact p)
 clear a kb P
 have T : (Tryz.prog.info? 47).map (·.size) = some (accL zeroAcc).toArray.size := zeroA_size
 have z := accL_one zeroAcc
 go_wp2_with (first | (refine wpList_store_mid rfl 44 _ _ rfl y.heap.size 0 Z rfl rfl (x _ rfl) R Q ?_; generalize hX : World.setCells _ y.heap.size 0 _ = wE; have M : Aside (Below w.heap.size w wE /\ wE.there w.heap.size 0 (accL zeroAcc).length) := (errTail d.out.1 d.out.2.1 d.out.2.2 (Below.behind N.out (newH hX))).2; have L := (errTail d.out.1 d.out.2.1 d.out.2.2 (Below.behind N.out (newH hX))).1; clear hX x) | (refine wpList_store_mid rfl 47 _ _ rfl w.heap.size 0 (accL zeroAcc).toArray rfl rfl L T z ?_))
 refine bodyPost_ret (v := .tuple #[.agg (accL zeroAcc).toArray, accV f3 sent]) (results_cell2 Tryz.results66 _ _ _ w.heap.size 0 rfl (run_loadVar_mid _ _ _ 47 _ _ (World.rangeAt_setCells_same _ _ _ (accL zeroAcc) M.out.2) Tryz.underlying47 rfl zeroA_size)) rfl ⟨below_setCells M.out.1 (Nat.le_refl _) _ _, rfl⟩
theorem splice_get (o : Nat) : ∀ (L : List Value) (k : Nat) (Z : Array Value) (i : Nat), o + k + L.length <= Z.size ->
  (List.foldl (fun (cs : Array Value) (x : Value × Nat) => cs.setIfInBounds (o + x.2) x.1) Z (L.zipIdx k))[i]? = if o + k <= i /\ i < o + k + L.length then L[i - (o + k)]? else Z[i]? := by
 intro L
 induction L with
 | nil => intro k Z i _; simp; omega
 | cons v L ih =>
  intro k Z i h
  rw [List.length_cons] at h ⊢
  rw [List.zipIdx_cons, List.foldl_cons, ih (k + 1) _ i (by rw [Array.size_setIfInBounds]; omega)]
  by_cases a : o + (k + 1) <= i /\ i < o + (k + 1) + L.length
  ·rw [if_pos a, if_pos (by omega)]
   obtain ⟨j, c⟩ : ∃ j, i - (o + k) = j + 1 := ⟨i - (o + k) - 1, by omega⟩
   rw [c, List.getElem?_cons_succ, show i - (o + (k + 1)) = j by omega]
  ·rw [if_neg a, Array.getElem?_setIfInBounds]
   by_cases b : o + k = i
   ·subst b
    rw [if_pos rfl, if_pos (by omega), if_pos (by omega), Nat.sub_self]
    rfl
   ·rw [if_neg b, if_neg (by omega)]
theorem splice_size (o : Nat) : ∀ (L : List Value) (k : Nat) (Z : Array Value), (List.foldl (fun (cs : Array Value) (x : Value × Nat) => cs.setIfInBounds (o + x.2) x.1) Z (L.zipIdx k)).size = Z.size := by
 intro L
 induction L with
 | nil => intro k Z; rfl
 | cons v L ih => intro k Z; rw [List.zipIdx_cons, List.foldl_cons, ih, Array.size_setIfInBounds]
theorem splice_array (o : Nat) (Z D : Array Value) (hD : D.size = 32) : Array.foldl (fun (cs : Array Value) (x : Value × Nat) => cs.setIfInBounds (o + x.2) x.1) Z D.zipIdx 0 32 = List.foldl (fun (cs : Array Value) (x : Value × Nat) => cs.setIfInBounds (o + x.2) x.1) Z (D.toList.zipIdx 0) := by
 have h : (32 : Nat) = D.zipIdx.size := by simp [hD]
 rw [h, <- Array.foldl_toList, Array.toList_zipIdx]
theorem built_size (Z D2 : Array Value) (v0 v1 : Nat) (hZ : Z.size = 66) (l2 : D2.size = 32) : (Array.foldl (fun (cs : Array Value) (x : Value × Nat) => cs.setIfInBounds (2 + x.2) x.1) ((Z.setIfInBounds 0 (.int .u64 (v0 : Int))).setIfInBounds 1 (.int .u64 (v1 : Int))) D2.zipIdx 0 32).size = 66 := by
 rw [splice_array 2 _ D2 l2, splice_size]
 simp [hZ]
theorem acc_built (Z D2 D3 : Array Value) (v0 v1 : Nat) (R C : List Nat) (hZ : Z.size = 66) (h2 : D2.toList = R.map encB) (h3 : D3.toList = C.map encB) (l2 : D2.size = 32) (l3 : D3.size = 32) :
  Array.foldl (fun (cs : Array Value) (x : Value × Nat) => cs.setIfInBounds (34 + x.2) x.1) (Array.foldl (fun (cs : Array Value) (x : Value × Nat) => cs.setIfInBounds (2 + x.2) x.1) ((Z.setIfInBounds 0 (.int .u64 (v0 : Int))).setIfInBounds 1 (.int .u64 (v1 : Int))) D2.zipIdx 0 32) D3.zipIdx 0 32 = (accL ⟨v0, v1, R, C⟩).toArray := by
 have d : D2.toList.length = 32 := by rw [Array.length_toList, l2]
 have e : D3.toList.length = 32 := by rw [Array.length_toList, l3]
 have g : (R.map encB).length = 32 := by rw [<- h2]; exact d
 have h : (C.map encB).length = 32 := by rw [<- h3]; exact e
 rw [splice_array 34 _ D3 l3, splice_array 2 _ D2 l2]
 apply Array.ext_getElem?
 intro i
 have f : ((Z.setIfInBounds 0 (.int .u64 (v0 : Int))).setIfInBounds 1 (.int .u64 (v1 : Int))).size = 66 := by simp [hZ]
 rw [splice_get 34 _ 0 _ i (by rw [splice_size, f, e]; omega), splice_get 2 _ 0 _ i (by rw [f, d]; omega), d, e, h2, h3]
 rw [show (accL ⟨v0, v1, R, C⟩).toArray[i]? = (accL ⟨v0, v1, R, C⟩)[i]? by simp]
 unfold accL
 simp only [Nat.add_zero]
 by_cases a : i < 2
 ·rw [if_neg (by omega), if_neg (by omega), Array.getElem?_setIfInBounds, Array.getElem?_setIfInBounds, Array.size_setIfInBounds, hZ]
  match i, a with
  | 0, _ => simp
  | 1, _ => simp
 ·obtain ⟨j, rfl⟩ : ∃ j, i = j + 2 := ⟨i - 2, by omega⟩
  rw [List.getElem?_cons_succ, List.getElem?_cons_succ]
  by_cases b : j < 32
  ·rw [if_neg (by omega), if_pos (by omega), List.getElem?_append_left (by omega)]
   congr 1
  ·by_cases c : j < 64
   ·rw [if_pos (by omega), List.getElem?_append_right (by omega), g]
    congr 1
   ·rw [if_neg (by omega), if_neg (by omega), List.getElem?_eq_none (by rw [List.length_append]; omega), Array.getElem?_eq_none (by rw [f]; omega)]
theorem row_on {w3 u3 w4 : World} {b : Nat} {L : List Value} (h : w3.rangeAt b 0 L /\ b < w3.heap.size) (h1 : Below w3.heap.size w3 u3) (h2 : Below u3.heap.size u3 w4) : w4.rangeAt b 0 L := fun j u hu =>
 (h2.cell (p := ⟨b, 0 + j, none⟩) (Nat.lt_of_lt_of_le h.2 h1.size)).trans ((h1.cell (p := ⟨b, 0 + j, none⟩) h.2).trans (h.1 j u hu))
theorem read_ok (f0 n0 f1 n1 f2 n2 f3 n3 : Nat) (x0 x1 x2 x3 : ByteArray) (p0 p1 p2 p3 : Option Addr) (m0 c0 m1 c1 m2 c2 m3 c3 : Nat) (g cap : Nat) (sent : Nat -> Addr) (w : World) (hF : Faults w sent)
  (hr : FourAt w g ⟨f0, n0, false, x0, .slice p0 m0 c0⟩ ⟨f1, n1, false, x1, .slice p1 m1 c1⟩ ⟨f2, n2, false, x2, .slice p2 m2 c2⟩ ⟨f3, n3, false, x3, .slice p3 m3 c3⟩) (k0 : numOK false (bytesOf x0)) (k1 : numOK false (bytesOf x1)) (k2 : x2.size = 32) (k3 : x3.size = 32) :
  Calls Tryz.prog 66 #[.slice (some ⟨g, 0, none⟩) 4 cap] w fun e w' => Below w.heap.size w w' /\ e = .returned (.tuple #[.agg (accL ⟨numB (bytesOf x0), numB (bytesOf x1), bytesOf x2, bytesOf x3⟩).toArray, .nilIface]) := by
 have HF := Hid.hide hF
 have t := Hid.hide (fun W d => hr.cells (W := W) d)
 clear hF hr
 have q := (t.out w (Below.refl _ _)).1
 have k : w.cell? ⟨g, 0, none⟩ = some (.int .i64 (f0 : Int)) := q 0 _ rfl
 have l : w.cell? ⟨g, 1, none⟩ = some (.int .i64 (n0 : Int)) := q 1 _ rfl
 have m : w.cell? ⟨g, 2, none⟩ = some (.bool false) := q 2 _ rfl
 have n : w.cell? ⟨g, 3, none⟩ = some (.string x0) := q 3 _ rfl
 have o : w.cell? ⟨g, 4, none⟩ = some (.slice p0 m0 c0) := q 4 _ rfl
 clear q
 have hg := (t.out w (Below.refl _ _)).2.2.2.2
 have ah : ¬ g = w.heap.size := by omega
 go_enter Tryz.func66, Tryz.ntmps66
 go_wp2_with fail
 generalize hWW : World.alloc w _ = W
 have J : Hid (Below w.heap.size w W /\ W.there w.heap.size 0 66 /\ w.heap.size < W.heap.size) := ⟨by rw [<- hWW]; exact (Below.refl _ _).alloc (Nat.le_refl _) _, by rw [<- hWW]; exact there_new _ _ _ _ rfl, by rw [<- hWW]; simp⟩
 clear hWW k l m n o hg ah
 refine (num_ok f0 n0 x0 p0 m0 c0 _ k0).mono ?_
 rintro e i ⟨B, rfl⟩
 have O : Aside (Below w.heap.size w i /\ Below W.heap.size W i) := ⟨Below.behind J.out.1 B, B⟩
 obtain ⟨Z, H⟩ : ∃ v, numB (bytesOf x0) = v := ⟨_, rfl⟩
 have ac := Hid.hide H
 rw [H]
 clear B k0 H
 have q := (t.out i O.out.1).2.1
 have k : i.cell? ⟨g, 5, none⟩ = some (.int .i64 (f1 : Int)) := q 0 _ rfl
 have l : i.cell? ⟨g, 6, none⟩ = some (.int .i64 (n1 : Int)) := q 1 _ rfl
 have m : i.cell? ⟨g, 7, none⟩ = some (.bool false) := q 2 _ rfl
 have n : i.cell? ⟨g, 8, none⟩ = some (.string x1) := q 3 _ rfl
 have o : i.cell? ⟨g, 9, none⟩ = some (.slice p1 m1 c1) := q 4 _ rfl
 clear q
 go_wp2_with fail
 clear k l m n o
 refine (num_ok f1 n1 x1 p1 m1 c1 _ k1).mono ?_
 rintro e j ⟨E, rfl⟩
 have P : Aside (Below w.heap.size w j /\ Below W.heap.size W j) := ⟨Below.behind O.out.1 E, Below.behind O.out.2 E⟩
 obtain ⟨v1, I⟩ : ∃ v, numB (bytesOf x1) = v := ⟨_, rfl⟩
 have ae := Hid.hide I
 rw [I]
 clear E k1 I
 have q := (t.out j P.out.1).2.2.1
 have k : j.cell? ⟨g, 10, none⟩ = some (.int .i64 (f2 : Int)) := q 0 _ rfl
 have l : j.cell? ⟨g, 11, none⟩ = some (.int .i64 (n2 : Int)) := q 1 _ rfl
 have m : j.cell? ⟨g, 12, none⟩ = some (.bool false) := q 2 _ rfl
 have n : j.cell? ⟨g, 13, none⟩ = some (.string x2) := q 3 _ rfl
 have o : j.cell? ⟨g, 14, none⟩ = some (.slice p2 m2 c2) := q 4 _ rfl
 clear q
 go_wp2_with fail
 clear k l m n o
 refine (hash_ok f2 n2 x2 p2 m2 c2 _ k2).mono ?_
 rintro e u2 ⟨d, rfl⟩
 obtain ⟨c, u, a, R⟩ : ∃ D : Array Value, ((bytesOf x2).map encB).toArray = D /\ D.size = 32 /\ D.all (·.oneCell') = true := ⟨_, rfl, by rw [List.size_toArray, List.length_map, bytesOf_length, k2], all_oneCell_toArray (encB_oneCell (bytesOf x2))⟩
 rw [u]
 have K := Hid.hide u
 have U2 : Aside (Below w.heap.size w u2 /\ Below W.heap.size W u2) := ⟨Below.behind P.out.1 d, Below.behind P.out.2 d⟩
 have T : (Tryz.prog.info? 44).map (·.size) = some c.size := by rw [size28, a]
 have r : ∀ C : Array Value, 32 = C.size -> (u2.alloc (.cells C 44)).there u2.heap.size 0 c.size := fun C p => there_new _ _ _ _ (by rw [a]; exact p)
 have y : ∀ C : Array Value, 32 = C.size -> c.toList.length = C.size := fun C p => by rw [Array.length_toList, a]; exact p
 clear d k2 u
 go_wp2_with (refine wpList_store_mid rfl 44 _ _ rfl u2.heap.size 0 c rfl rfl (r _ rfl) T R ?_; generalize hX : World.setCells _ u2.heap.size 0 _ = w3; have Q : Aside (Below w.heap.size w w3 /\ Below W.heap.size W w3) := ⟨Below.behind U2.out.1 (newH hX), Below.behind U2.out.2 (newH hX)⟩; have R2 : Aside (w3.rangeAt u2.heap.size 0 c.toList /\ u2.heap.size < w3.heap.size) := newH_row hX (y _ rfl); have q := (t.out w3 Q.out.1).2.2.2.1; have k : w3.cell? ⟨g, 15, none⟩ = some (.int .i64 (f3 : Int)) := q 0 _ rfl; have l : w3.cell? ⟨g, 16, none⟩ = some (.int .i64 (n3 : Int)) := q 1 _ rfl; have m : w3.cell? ⟨g, 17, none⟩ = some (.bool false) := q 2 _ rfl; have n : w3.cell? ⟨g, 18, none⟩ = some (.string x3) := q 3 _ rfl; have o : w3.cell? ⟨g, 19, none⟩ = some (.slice p3 m3 c3) := q 4 _ rfl; clear q hX r y)
 clear k l m n o
 refine (hash_ok f3 n3 x3 p3 m3 c3 _ k3).mono ?_
 rintro e u3 ⟨d, rfl⟩
 obtain ⟨f, x, b, S⟩ : ∃ D : Array Value, ((bytesOf x3).map encB).toArray = D /\ D.size = 32 /\ D.all (·.oneCell') = true := ⟨_, rfl, by rw [List.size_toArray, List.length_map, bytesOf_length, k3], all_oneCell_toArray (encB_oneCell (bytesOf x3))⟩
 rw [x]
 have L := Hid.hide x
 have U3 : Aside (Below w.heap.size w u3 /\ Below W.heap.size W u3) := ⟨Below.behind Q.out.1 d, Below.behind Q.out.2 d⟩
 have U : (Tryz.prog.info? 44).map (·.size) = some f.size := by rw [size28, b]
 have s : ∀ C : Array Value, 32 = C.size -> (u3.alloc (.cells C 44)).there u3.heap.size 0 f.size := fun C p => there_new _ _ _ _ (by rw [b]; exact p)
 have z : ∀ C : Array Value, 32 = C.size -> f.toList.length = C.size := fun C p => by rw [Array.length_toList, b]; exact p
 have V3 : Aside (Below w3.heap.size w3 u3) := d
 clear d k3 x
 have F := acc_built Tryz.zeroCells47 c f Z v1 (bytesOf x2) (bytesOf x3) (by kernel_rfl) (by rw [<- K.out]) (by rw [<- L.out]) a b
 have aj := built_size Tryz.zeroCells47 c Z v1 (by kernel_rfl) a
 obtain ⟨AA, h⟩ : ∃ AA, (accL ⟨Z, v1, bytesOf x2, bytesOf x3⟩).toArray = AA := ⟨_, rfl⟩
 rw [h] at F
 have M : AA.size = 66 := by rw [<- h, List.size_toArray]; exact accL_length (by have := congrArg Array.size K.out; rw [a, List.size_toArray, List.length_map] at this; exact this) (by have := congrArg Array.size L.out; rw [b, List.size_toArray, List.length_map] at this; exact this)
 have ag : AA.all (·.oneCell') = true := by rw [<- h]; exact accL_one _
 have N : (Tryz.prog.info? 47).map (·.size) = some AA.size := by rw [zeroA_size, M]
 have aa := Hid.hide h
 clear h
 have X : (Tryz.prog.info? 44).map (·.size) = some c.toList.length := by rw [size28, Array.length_toList, a]
 have Y : (Tryz.prog.info? 44).map (·.size) = some f.toList.length := by rw [size28, Array.length_toList, b]
 go_wp2_with (first | (refine wpList_store_mid rfl 44 _ _ rfl u3.heap.size 0 f rfl rfl (s _ rfl) U S ?_; generalize hX : World.setCells _ u3.heap.size 0 _ = w4; have B4 : Aside (Below w.heap.size w w4 /\ Below W.heap.size W w4) := ⟨Below.behind U3.out.1 (newH hX), Below.behind U3.out.2 (newH hX)⟩; have r3 : w4.rangeAt u3.heap.size 0 f.toList := (newH_row hX (z _ rfl)).1; have r2 : w4.rangeAt u2.heap.size 0 c.toList := row_on R2.out V3.out (newH hX); have G : w4.there w.heap.size 0 AA.size := (by rw [M]; exact (errTail J.out.1 J.out.2.1 J.out.2.2 B4.out.2).1); clear hX s z) | (refine wpList_load_mid rfl 44 _ rfl u2.heap.size 0 rfl c.toList _ r2 Tryz.underlying44 rfl X ?_) | (refine wpList_load_mid rfl 44 _ rfl u3.heap.size 0 rfl f.toList _ r3 Tryz.underlying44 rfl Y ?_) | (refine wpList_store_mid rfl 47 _ _ rfl w.heap.size 0 AA rfl rfl G N ag ?_))
 have V : w4.there w.heap.size 0 AA.toList.length := by rw [Array.length_toList]; exact G
 have ai : (Tryz.prog.info? 47).map (·.size) = some AA.toList.length := by rw [Array.length_toList]; exact N
 refine bodyPost_ret (v := .tuple #[.agg AA, .nilIface]) (results_cell2 Tryz.results66 _ _ _ w.heap.size 0 rfl (run_loadVar_mid _ _ _ 47 _ _ (World.rangeAt_setCells_same _ _ _ AA.toList V) Tryz.underlying47 rfl ai)) rfl ⟨below_setCells B4.out.1 (Nat.le_refl _) _ _, ?_⟩
 rw [ac.out, ae.out, aa.out]
def It.isList : It -> Bool
 | .text _ _ _ => false
 | .list _ _ _ => true
def It.txt : It -> List Nat
 | .text _ _ t => t
 | .list _ _ _ => []
def It.items : It -> List It
 | .text _ _ _ => []
 | .list _ _ l => l
def numIt (y : It) : Prop := numOK y.isList y.txt
def hashIt (y : It) : Prop := y.isList = false /\ y.txt.length = 32
instance (y : It) : Decidable (numIt y) := by unfold numIt; infer_instance
instance (y : It) : Decidable (hashIt y) := by unfold hashIt; infer_instance
def readAcc (y0 y1 y2 y3 : It) : Except Er Acc :=
 if ¬ numIt y0 then .error (.place y0.fr (.base 13))
 else if ¬ numIt y1 then .error (.place y1.fr (.base 13))
 else if ¬ hashIt y2 then .error (.place y2.fr (.base 13))
 else if ¬ hashIt y3 then .error (.place y3.fr (.base 13))
 else .ok ⟨numB y0.txt, numB y1.txt, y2.txt, y3.txt⟩
def accF (l : List Nat) : Except Er Acc :=
 match decF l with
 | .error e => .error e
 | .ok x =>
  match x.items with
  | [y0, y1, y2, y3] => readAcc y0 y1 y2 y3
  | _ => .error (.place x.fr (.base 13))
theorem el_of_tree {d : Nat} {w : World} {F : Nat -> Prop} {e : El} {y : It} (h : Tree encP kP d w F e y) : e.fr = y.fr /\ e.lst = y.isList /\ bytesOf e.text = y.txt := by
 have f : IsText e /\ kP.tx e y -> e.fr = y.fr /\ e.lst = y.isList /\ bytesOf e.text = y.txt := by
  rintro ⟨⟨b, _⟩, a⟩
  have a : y = .text e.fr e.to (bytesOf e.text) := a
  subst a
  exact ⟨rfl, b, rfl⟩
 cases d with
 | zero => exact f h
 | succ d =>
  rcases h with h | ⟨b, ps, _, _, a, c⟩
  ·exact f h
  ·have c : y = .list e.fr e.to (ps.map (·.2)) := c
   subst c
   exact ⟨rfl, b, by rw [a]; rfl⟩
def AccSaid (r : Except Er Acc) (sent : Nat -> Addr) (w : World) (e : Ending) (w' : World) : Prop :=
 Below w.heap.size w w' /\ (∀ er, r = .error er -> ∃ t v, er.val sent = .iface t v /\ e = .returned (.tuple #[.agg (accL zeroAcc).toArray, .iface t v])) /\ ∀ a, r = .ok a -> e = .returned (.tuple #[.agg (accL a).toArray, .nilIface])
theorem AccSaid.bad {r : Except Er Acc} {er : Er} (h : r = .error er) {sent : Nat -> Addr} {w : World} {e : Ending} {w' : World} {t : TypeId} {v : Value} (hb : Below w.heap.size w w') (hv : er.val sent = .iface t v) (he : e = .returned (.tuple #[.agg (accL zeroAcc).toArray, .iface t v])) : AccSaid r sent w e w' :=
 ⟨hb, fun j hj => (by rw [h] at hj; cases hj; exact ⟨t, v, hv, he⟩), fun a ha => by rw [h] at ha; cases ha⟩
theorem read_its {d : Nat} {F : Nat -> Prop} (w : World) (g cap : Nat) (e0 e1 e2 e3 : El) (y0 y1 y2 y3 : It) (sent : Nat -> Addr) (hF : Faults w sent) (hr : FourAt w g e0 e1 e2 e3) (t0 : Tree encP kP d w F e0 y0) (t1 : Tree encP kP d w F e1 y1) (t2 : Tree encP kP d w F e2 y2) (t3 : Tree encP kP d w F e3 y3) :
  Calls Tryz.prog 66 #[.slice (some ⟨g, 0, none⟩) 4 cap] w (AccSaid (readAcc y0 y1 y2 y3) sent w) := by
 obtain ⟨n, l, i, s0⟩ := t0.sub
 obtain ⟨O, I, r, s1⟩ := t1.sub
 obtain ⟨P, J, s, s2⟩ := t2.sub
 obtain ⟨Q, K, t, s3⟩ := t3.sub
 obtain ⟨a0, W, u⟩ := el_of_tree t0
 obtain ⟨a1, X, v⟩ := el_of_tree t1
 obtain ⟨a2, Y, x⟩ := el_of_tree t2
 obtain ⟨a3, Z, y⟩ := el_of_tree t3
 obtain ⟨j, m, l0, o, u0⟩ := e0
 obtain ⟨z, L, l1, S, u1⟩ := e1
 obtain ⟨B, M, l2, p, u2⟩ := e2
 obtain ⟨C, N, l3, q, u3⟩ := e3
 simp only at s0 s1 s2 s3 a0 W u a1 X v a2 Y x a3 Z y
 subst s0 s1 s2 s3
 clear t0 t1 t2 t3
 have z2 := bytesOf_length p
 have z3 := bytesOf_length q
 unfold readAcc
 by_cases D : numIt y0
 case neg =>
  rw [if_pos D]
  refine (read_bad0 j m l0 o n l i _ _ _ g cap sent w hF hr (by rw [W, u]; exact D)).mono ?_
  rintro e R ⟨f, rfl⟩
  exact .bad rfl f rfl (by rw [a0]; rfl)
 rw [if_neg (fun h => h D)]
 have b := D
 unfold numIt at b
 rw [<- W, <- u] at b
 obtain rfl := b.1
 by_cases E : numIt y1
 case neg =>
  rw [if_pos E]
  refine (read_bad1 j m z L B M C N l1 l2 l3 o S p q n O P Q l i I r J s K t g cap sent w hF hr b (by rw [X, v]; exact E)).mono ?_
  rintro e R ⟨f, rfl⟩
  exact .bad rfl f rfl (by rw [a1]; rfl)
 rw [if_neg (fun h => h E)]
 have c := E
 unfold numIt at c
 rw [<- X, <- v] at c
 obtain rfl := c.1
 by_cases G : hashIt y2
 case neg =>
  rw [if_pos G]
  refine (read_bad2 j m z L B M C N l2 l3 o S p q n O P Q l i I r J s K t g cap sent w hF hr b c (by rw [<- z2, x, Y]; exact G)).mono ?_
  rintro e R ⟨f, rfl⟩
  exact .bad rfl f rfl (by rw [a2]; rfl)
 rw [if_neg (fun h => h G)]
 obtain ⟨T, k⟩ := G
 rw [<- Y] at T
 rw [<- x, z2] at k
 subst T
 by_cases H : hashIt y3
 case neg =>
  rw [if_pos H]
  refine (read_bad3 j m z L B M C N l3 o S p q n O P Q l i I r J s K t g cap sent w hF hr b c k (by rw [<- z3, y, Z]; exact H)).mono ?_
  rintro e R ⟨f, rfl⟩
  exact .bad rfl f rfl (by rw [a3]; rfl)
 rw [if_neg (fun h => h H)]
 obtain ⟨U, V⟩ := H
 rw [<- Z] at U
 rw [<- y, z3] at V
 subst U
 refine (read_ok j m z L B M C N o S p q n O P Q l i I r J s K t g cap sent w hF hr b c k V).mono ?_
 rintro e R ⟨f, rfl⟩
 refine ⟨f, fun er he => (by cases he), fun a ha => ?_⟩
 cases ha
 rw [u, v, x, y]
theorem ad_err (s : ByteArray) (t : TypeId) (v : Value) (w : World) (hD : ∀ W, Below w.heap.size w W -> Calls Tryz.prog 64 #[.string s] W fun e w' => Below W.heap.size W w' /\ e = .returned (.tuple #[zeroP, .iface t v])) :
  Calls Tryz.prog 46 #[.string s] w fun e w' => Below w.heap.size w w' /\ e = .returned (.tuple #[.agg (accL zeroAcc).toArray, .iface t v]) := by
 have i := Hid.hide hD
 clear hD
 go_enter Tryz.func46, Tryz.ntmps46
 go_wp2_with fail
 generalize hWW : World.alloc w _ = W
 have b : Hid (Below w.heap.size w W /\ W.there w.heap.size 0 66 /\ w.heap.size < W.heap.size) := ⟨by rw [<- hWW]; exact (Below.refl _ _).alloc (Nat.le_refl _) _, by rw [<- hWW]; exact there_new _ _ _ _ rfl, by rw [<- hWW]; simp⟩
 clear hWW
 refine (i.out _ b.out.1).mono ?_
 rintro e d ⟨a, rfl⟩
 have g : ∀ o, (d.alloc o).there w.heap.size 0 (accL zeroAcc).toArray.size := fun o => (errTail b.out.1 b.out.2.1 b.out.2.2 (a.alloc a.size o)).1
 have f : Aside (∀ o, Below w.heap.size w (d.alloc o) /\ (d.alloc o).there w.heap.size 0 (accL zeroAcc).length) := fun o => (errTail b.out.1 b.out.2.1 b.out.2.2 (a.alloc a.size o)).2
 have h : (Tryz.prog.info? 47).map (·.size) = some (accL zeroAcc).toArray.size := zeroA_size
 have c := accL_one zeroAcc
 have j := Hid.hide g
 clear a g
 go_wp2_with (refine wpList_store_mid rfl 47 _ _ rfl w.heap.size 0 (accL zeroAcc).toArray rfl rfl (j.out _) h c ?_)
 refine bodyPost_ret (v := .tuple #[.agg (accL zeroAcc).toArray, .iface t v]) (results_cell2 Tryz.results46 _ _ _ w.heap.size 0 rfl (run_loadVar_mid _ _ _ 47 _ _ (World.rangeAt_setCells_same _ _ _ (accL zeroAcc) (f.out _).2) Tryz.underlying47 rfl zeroA_size)) rfl ⟨below_setCells (f.out _).1 (Nat.le_refl _) _ _, rfl⟩
theorem ad_not (s : ByteArray) (fr : Nat) (sent : Nat -> Addr) (w : World) (hF : Faults w sent) (hD : ∀ W, Below w.heap.size w W -> Calls Tryz.prog 64 #[.string s] W fun e w' => Below W.heap.size W w' /\ ∃ (en : Nat) (l : Bool) (tx : ByteArray) (p : Option Addr) (m c : Nat), (l = false \/ l = true /\ ((m : Int) == 4) = false) /\ e = .returned (.tuple #[placedV fr en l tx p m c, .nilIface])) :
  Calls Tryz.prog 46 #[.string s] w fun e w' => Below w.heap.size w w' /\ e = .returned (.tuple #[.agg (accL zeroAcc).toArray, accV fr sent]) := by
 have r := Hid.hide hD
 have q : Hid (∀ W en l tx p m c, Below w.heap.size w W -> Calls Tryz.prog 65 #[placedV fr en l tx p m c] W fun e w' => e = .returned (accV fr sent) /\ Below W.heap.size W w') := fun W en l tx p m c t => notAt_any fr en l tx p m c sent W (hF.below t)
 have k : (Tryz.prog.info? 47).map (·.size) = some (accL zeroAcc).toArray.size := zeroA_size
 have g := accL_one zeroAcc
 clear hD hF
 go_enter Tryz.func46, Tryz.ntmps46
 go_wp2_with fail
 generalize hWW : World.alloc w _ = W
 have a : Hid (Below w.heap.size w W /\ W.there w.heap.size 0 66 /\ w.heap.size < W.heap.size) := ⟨by rw [<- hWW]; exact (Below.refl _ _).alloc (Nat.le_refl _) _, by rw [<- hWW]; exact there_new _ _ _ _ rfl, by rw [<- hWW]; simp⟩
 clear hWW
 refine (r.out _ a.out.1).mono ?_
 rintro e n ⟨b, en, l, tx, p, m, c, h, rfl⟩
 have f : Aside (Below w.heap.size w n /\ Below W.heap.size W n) := ⟨Below.behind a.out.1 b, b⟩
 clear b
 rcases h with rfl | ⟨rfl, h4⟩
 all_goals
  go_wp2_with fail
  refine (q.out _ en _ tx p m c (f.out.1.alloc f.out.1.size _)).mono ?_
  rintro e o ⟨rfl, d⟩
  have i := (errTail a.out.1 a.out.2.1 a.out.2.2 (Below.behind f.out.2 (Below.up d))).1
  have j : Aside (Below w.heap.size w o /\ o.there w.heap.size 0 (accL zeroAcc).length) := (errTail a.out.1 a.out.2.1 a.out.2.2 (Below.behind f.out.2 (Below.up d))).2
  clear d
  go_wp2_with (refine wpList_store_mid rfl 47 _ _ rfl w.heap.size 0 (accL zeroAcc).toArray rfl rfl i k g ?_)
  refine bodyPost_ret (v := .tuple #[.agg (accL zeroAcc).toArray, accV fr sent]) (results_cell2 Tryz.results46 _ _ _ w.heap.size 0 rfl (run_loadVar_mid _ _ _ 47 _ _ (World.rangeAt_setCells_same _ _ _ (accL zeroAcc) j.out.2) Tryz.underlying47 rfl zeroA_size)) rfl ⟨below_setCells j.out.1 (Nat.le_refl _) _ _, rfl⟩
theorem AccSaid.shape {r : Except Er Acc} {sent : Nat -> Addr} {w : World} {e : Ending} {w' : World} (h : AccSaid r sent w e w') : Below w.heap.size w w' /\ ∃ (A : Array Value) (ev : Value), e = .returned (.tuple #[.agg A, ev]) /\ A.all (·.oneCell') = true /\ ((∃ er t v, r = .error er /\ er.val sent = .iface t v /\ ev = .iface t v /\ A = (accL zeroAcc).toArray) \/ ∃ a, r = .ok a /\ ev = .nilIface /\ A = (accL a).toArray) := by
 obtain ⟨d, b, c⟩ := h
 refine ⟨d, ?_⟩
 rcases r with er | a
 ·obtain ⟨t, v, g, f⟩ := b er rfl
  exact ⟨_, _, f, accL_one _, .inl ⟨er, t, v, rfl, g, rfl, rfl⟩⟩
 ·exact ⟨_, _, c a rfl, accL_one _, .inr ⟨a, rfl, rfl, rfl⟩⟩
def AccLen (r : Except Er Acc) : Prop := ∀ a, r = .ok a -> a.root.length = 32 /\ a.code.length = 32
theorem readAcc_len (y0 y1 y2 y3 : It) : AccLen (readAcc y0 y1 y2 y3) := by
 intro a h
 unfold readAcc at h
 split at h
 ·cases h
 ·split at h
  ·cases h
  ·split at h
   ·cases h
   ·split at h
    ·cases h
    ·rename_i h2 h3
     cases h
     exact ⟨(Classical.not_not.1 h2).2, (Classical.not_not.1 h3).2⟩
theorem ad_read (s : ByteArray) (fr : Nat) (r : Except Er Acc) (hL : AccLen r) (sent : Nat -> Addr) (w : World) (hD : ∀ W, Below w.heap.size w W -> Calls Tryz.prog 64 #[.string s] W fun e w' => Below W.heap.size W w' /\ ∃ (en : Nat) (tx : ByteArray) (g cap : Nat), e = .returned (.tuple #[placedV fr en true tx (some ⟨g, 0, none⟩) 4 cap, .nilIface]) /\ ∀ W2, Below w'.heap.size w' W2 -> Calls Tryz.prog 66 #[.slice (some ⟨g, 0, none⟩) 4 cap] W2 (AccSaid r sent W2)) :
  Calls Tryz.prog 46 #[.string s] w (AccSaid r sent w) := by
 have C := Hid.hide hD
 have o := Hid.hide hL
 clear hD hL
 go_enter Tryz.func46, Tryz.ntmps46
 go_wp2_with fail
 generalize hWW : World.alloc w _ = W
 have b : Hid (Below w.heap.size w W /\ W.there w.heap.size 0 66 /\ w.heap.size < W.heap.size) := ⟨by rw [<- hWW]; exact (Below.refl _ _).alloc (Nat.le_refl _) _, by rw [<- hWW]; exact there_new _ _ _ _ rfl, by rw [<- hWW]; simp⟩
 clear hWW
 refine (C.out _ b.out.1).mono ?_
 rintro e B ⟨c, en, tx, g, cap, rfl, x⟩
 have m : Aside (Below w.heap.size w B /\ Below W.heap.size W B) := ⟨Below.behind b.out.1 c, c⟩
 have D := Hid.hide x
 clear c x
 go_wp2_with fail
 refine (D.out _ ((Below.refl _ _).alloc (Nat.le_refl _) _)).mono ?_
 intro e i l
 obtain ⟨d, A, q, rfl, u, y⟩ := l.shape
 have k : A.size = 66 := by
  rcases y with ⟨er, t, v, _, _, _, rfl⟩ | ⟨a, ha, _, rfl⟩
  ·rfl
  ·rw [List.size_toArray]
   exact accL_length (o.out a ha).1 (o.out a ha).2
 have p : Hid (AccSaid r sent _ (.returned (.tuple #[.agg A, q])) i) := l
 have f : i.there w.heap.size 0 A.size := by rw [k]; exact (errTail b.out.1 b.out.2.1 b.out.2.2 (Below.behind m.out.2 (Below.up d))).1
 have h : i.there w.heap.size 0 A.toList.length := by rw [Array.length_toList]; exact f
 have n : Aside (Below w.heap.size w i /\ i.there w.heap.size 0 A.toList.length) := ⟨Below.behind m.out.1 (Below.up d), h⟩
 have j : (Tryz.prog.info? 47).map (·.size) = some A.size := by rw [zeroA_size, k]
 have z : (Tryz.prog.info? 47).map (·.size) = some A.toList.length := by rw [Array.length_toList]; exact j
 clear l y d h k
 go_wp2_with (refine wpList_store_mid rfl 47 _ _ rfl w.heap.size 0 A rfl rfl f j u ?_)
 refine bodyPost_ret (v := .tuple #[.agg A, q]) (results_cell2 Tryz.results46 _ _ _ w.heap.size 0 rfl (run_loadVar_mid _ _ _ 47 _ _ (World.rangeAt_setCells_same _ _ _ A.toList n.out.2) Tryz.underlying47 rfl z)) rfl ?_
 exact ⟨below_setCells n.out.1 (Nat.le_refl _) _ _, p.out.2.1, p.out.2.2⟩
theorem flat_four {ps : List (El × It)} {e0 e1 e2 e3 : El × It} (h : ps = [e0, e1, e2, e3]) : (ps.flatMap fun p => encP p.1) = encP e0.1 ++ encP e1.1 ++ encP e2.1 ++ encP e3.1 := by
 subst h
 simp
theorem accF_err {l : List Nat} {er : Er} (h : decF l = .error er) : accF l = .error er := by
 unfold accF
 rw [h]
theorem accF_four {l : List Nat} {x y0 y1 y2 y3 : It} (h : decF l = .ok x) (hx : x.items = [y0, y1, y2, y3]) : accF l = readAcc y0 y1 y2 y3 := by
 unfold accF
 rw [h]
 simp only
 rw [hx]
theorem accF_not {l : List Nat} {x : It} (h : decF l = .ok x) (h4 : ¬ x.items.length = 4) : accF l = .error (.place x.fr (.base 13)) := by
 unfold accF
 rw [h]
 simp only
 split
 ·rename_i hx
  rw [hx] at h4
  simp at h4
 ·rfl
theorem ad_any (s : ByteArray) (sent : Nat -> Addr) (w : World) (hF : Faults w sent) : Calls Tryz.prog 46 #[.string s] w (AccSaid (accF (bytesOf s)) sent w) := by
 have B := fun W (i : Below w.heap.size w W) => dec_any s sent W (hF.below i)
 cases hd : decF (bytesOf s) with
 | error er =>
  rw [accF_err hd]
  obtain ⟨t, v, K⟩ := er.shape sent
  refine (ad_err s t v w (fun W i => (B W i).mono fun e y h => ?_)).mono ?_
  ·obtain ⟨d, M, _⟩ := h
   obtain ⟨T, U, z, o⟩ := M er hd
   rw [K] at z
   cases z
   exact ⟨d, o⟩
  ·rintro e y ⟨d, rfl⟩
   exact .bad rfl d K rfl
 | ok x =>
  by_cases G : x.items.length = 4
  ·match hx : x.items, G with
   | [y0, y1, y2, y3], _ =>
    rw [accF_four hd hx]
    refine ad_read s x.fr _ (readAcc_len y0 y1 y2 y3) sent w (fun W i => (B W i).mono fun e y h => ?_)
    obtain ⟨d, _, F⟩ := h
    obtain ⟨E, n, l, r, p, m, c, f, o⟩ := F x hd
    obtain ⟨q, C, D⟩ := el_of_tree f
    simp only at q C D
    rcases f with f | ⟨b1, ps, b2, b3, b4, k⟩
    ·have : x = .text E n (bytesOf r) := f.2
     subst this
     simp [It.items] at hx
    ·have k : x = .list E n (ps.map (·.2)) := k
     subst k
     have hx : ps.map (·.2) = [y0, y1, y2, y3] := hx
     match ps, hx with
     | [e0, e1, e2, e3], hx =>
      simp only [List.map_cons, List.map_nil, List.cons.injEq, and_true] at hx
      obtain ⟨O, P, Q, R⟩ := hx
      rcases b2 with ⟨_, b, _⟩ | ⟨g, cap, b, _, _, hg, _, hrow⟩
      ·simp at b
      ·simp only [Value.slice.injEq] at b
       obtain ⟨rfl, rfl, rfl⟩ := b
       simp only at b1
       subst b1
       refine ⟨d, n, r, g, c, o, fun H a => ?_⟩
       have I := hF.below (Below.behind i (Below.behind d a))
       have J : FourAt H g e0.1 e1.1 e2.1 e3.1 := ⟨Nat.lt_of_lt_of_le hg a.size, fun j u N => (a.cell (p := ⟨g, 0 + j, none⟩) hg).trans (hrow j u (by rw [flat_four rfl]; exact N))⟩
       have u0 := O ▸ (b3 e0 (by simp)).below a
       have u1 := P ▸ (b3 e1 (by simp)).below a
       have u2 := Q ▸ (b3 e2 (by simp)).below a
       have u3 := R ▸ (b3 e3 (by simp)).below a
       exact read_its H g c e0.1 e1.1 e2.1 e3.1 y0 y1 y2 y3 sent I J u0 u1 u2 u3
  ·rw [accF_not hd G]
   refine (ad_not s x.fr sent w hF (fun W i => (B W i).mono fun e y h => ?_)).mono ?_
   ·obtain ⟨d, _, F⟩ := h
    obtain ⟨E, n, l, r, p, m, c, f, o⟩ := F x hd
    obtain ⟨q, C, D⟩ := el_of_tree f
    simp only at q C D
    subst q
    refine ⟨d, n, l, r, p, m, c, ?_, o⟩
    rcases f with f | ⟨b1, ps, b2, b3, b4, k⟩
    ·exact .inl f.1.1
    ·refine .inr ⟨b1, ?_⟩
     have k : x = .list _ n (ps.map (·.2)) := k
     have S : m = ps.length := by
      rcases b2 with ⟨b, b', _⟩ | ⟨g, cap, b, _⟩
      ·simp only [Value.slice.injEq] at b
       omega
      ·simp only [Value.slice.injEq] at b
       exact b.2.1
     have : ps.length ≠ 4 := fun L => G (by rw [k]; simpa [It.items] using L)
     simp
     omega
   ·rintro e y ⟨d, rfl⟩
    exact .bad rfl d rfl rfl
end Go.Proofs.YtoohdfiddbfacaaGreatDoor
