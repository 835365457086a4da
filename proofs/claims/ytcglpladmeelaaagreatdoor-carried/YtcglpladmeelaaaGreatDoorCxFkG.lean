/-
  Package twigskeep: raw bytes that are read one by one.
-/
import Derived.Test.YtcglpladmeelaaaGreatDoorCxSmaG
import Derived.BigQuiet
import Derived.Test.YtcglpladmeelaaaGreatDoorCxText
import Derived.Test.YtcglpladmeelaaaGreatDoorCxNodD
import Derived.Test.YtcglpladmeelaaaGreatDoorCxNodB
import Derived.Great.BuildSlice
namespace Go.Proofs.YtcglpladmeelaaaGreatDoor
open Go.RowKit
set_option maxRecDepth 100000
set_option maxHeartbeats 25600000
structure FeedAt (w : World) (fb : Nat) (raw : ByteArray) : Prop where
 lt : fb < w.heap.size
 c0 : w.cell? ⟨fb, 0, none⟩ = some (.string raw)
 c1 : ∃ k : Nat, w.cell? ⟨fb, 1, none⟩ = some (.int .i64 (k : Int)) /\ k <= raw.size
 free : w.frozen? ⟨fb, 1, none⟩ = false
theorem FeedAt.keep {w w' : World} {fb : Nat} {raw : ByteArray} (h : FeedAt w fb raw) (e : w'.heap[fb]? = w.heap[fb]?) (hs : w.heap.size <= w'.heap.size) : FeedAt w' fb raw := by
 obtain ⟨a, b, ⟨k, c, d⟩, f⟩ := h
 exact ⟨Nat.lt_of_lt_of_le a hs, (World.cell?_of_block e).trans b, ⟨k, (World.cell?_of_block e).trans c, d⟩, (World.frozen?_of_block e).trans f⟩
theorem FeedAt.below {w w' : World} {fb : Nat} {raw : ByteArray} (h : FeedAt w fb raw) (hb : Below w.heap.size w w') : FeedAt w' fb raw := h.keep (hb.block fb h.lt) hb.size
def NextSaid (n fb : Nat) (raw : ByteArray) (w : World) (e : Ending) (w' : World) : Prop :=
 ∃ k : Nat, k < n /\ e = .returned (.int .i64 (k : Int)) /\ Only fb w w' /\ w'.heap.size = w.heap.size /\ FeedAt w' fb raw
theorem feednext_any (n : Nat) (hn : 0 < n) (hn2 : n <= 256) (fb : Nat) (raw : ByteArray) (w : World) (h : FeedAt w fb raw) (hr : raw.size <= 9223372036854775807) :
  Calls Tryz.prog 14 #[.pointer (some ⟨fb, 0, none⟩), .int .i64 (n : Int)] w (NextSaid n fb raw w) := by
 have o := Hid.hide h
 obtain ⟨i, r, ⟨k, s, e⟩, g⟩ := h
 have p : Hid (k <= raw.size /\ raw.size <= 9223372036854775807 /\ 0 < n /\ n <= 256) := ⟨e, hr, hn, hn2⟩
 have v : (n : Int) ≠ 0 := by omega
 have x : ((n : Int) == 0) = false := by simp; omega
 by_cases f : k < raw.size
 ·have t : (k : Int) < (raw.size : Int) := by omega
  obtain ⟨c, u⟩ : ∃ c, (raw[k]'f).toNat = c := ⟨_, rfl⟩
  have b : c < 256 := by rw [<- u]; exact UInt8.toNat_lt _
  have a : (wrap64 (c : Int)).tmod (n : Int) = ((c % n : Nat) : Int) := by
   rw [show wrap64 (c : Int) = (c : Int) by unfold wrap64; omega]
   rfl
  have q : Hid ((wrap64 (c : Int)).tmod (n : Int) = ((c % n : Nat) : Int)) := a
  clear a
  have d : c % n < n := Nat.mod_lt _ hn
  have y : wrap64 ((k : Int) + 1) = ((k + 1 : Nat) : Int) := by unfold wrap64; omega
  have m : Hid (c < 256 /\ c % n < n) := ⟨b, d⟩
  clear e hr hn hn2 b d
  go_enter Tryz.func14, Tryz.ntmps14
  go_wp2
  go_region
  go_wp2
  go_region
  go_wp2
  go_ret
  refine ⟨c % n, m.out.2, congrArg Ending.returned (val_int q.out), ?_, ?_, ?_⟩
  ·exact ⟨rfl, rfl, rfl, by simp, fun j _ l => Below.heap_setCell _ _ _ _ l⟩
  ·simp
  ·refine ⟨by simpa using i, (World.cell?_setCell_other _ _ _ _ (by simp)).trans r, ⟨k + 1, ?_, by omega⟩, (World.frozen?_setCell w _ _ _).trans g⟩
   exact World.cell?_setCell_same w _ _ s
 ·have t : (raw.size : Int) <= (k : Int) := by omega
  clear e hr hn hn2
  go_enter Tryz.func14, Tryz.ntmps14
  go_wp2
  go_region
  go_wp2
  go_ret
  exact ⟨0, p.out.2.2.1, rfl, .of_below (Below.refl _ _).drew, rfl, o.out.below (Below.refl _ _).drew⟩
def Fed (fb : Nat) (raw : ByteArray) (w w' : World) : Prop := Only fb w w' /\ FeedAt w' fb raw
theorem Fed.trans {fb : Nat} {raw : ByteArray} {w w1 w2 : World} (h : Fed fb raw w w1) (k : Fed fb raw w1 w2) : Fed fb raw w w2 := ⟨h.1.trans k.1, k.2⟩
theorem Fed.alloc {fb : Nat} {raw : ByteArray} {w w' : World} (h : Fed fb raw w w') (o : Obj) : Fed fb raw w (w'.alloc o) := ⟨h.1.alloc o, h.2.below ((Below.refl _ _).alloc (Nat.le_refl _) o)⟩
theorem value_loop (fb : Nat) (raw : ByteArray) (hr : raw.size <= 9223372036854775807) : ∀ k W, FeedAt W fb raw -> 0 < k -> k <= 256 -> Calls Tryz.prog 14 #[.pointer (some ⟨fb, 0, none⟩), .int .i64 ((k : Nat) : Int)] W fun e w' => ∃ c : Nat, c < k /\ e = .returned (.int .i64 (c : Int)) /\ Fed fb raw W w' := fun k W h h0 h1 =>
 (feednext_any k h0 h1 fb raw W h hr).mono (by rintro e w' ⟨c, hc, rfl, h1, _, h2⟩; exact ⟨c, hc, rfl, h1, h2⟩)
theorem value_any (fb : Nat) (raw : ByteArray) (w : World) (h : FeedAt w fb raw) (hr : raw.size <= 9223372036854775807) :
  Calls Tryz.prog 15 #[.pointer (some ⟨fb, 0, none⟩)] w fun e w' => ∃ u : ByteArray, 0 < u.size /\ u.size <= 100 /\ e = .returned (.string u) /\ Fed fb raw w w' := by
 have p := Hid.hide (value_loop fb raw hr)
 have U := Hid.hide h
 have L : Hid (∀ (W : World) (z : Nat), (convert 76 9 (.slice (some ⟨W.heap.size, 0, none⟩) 1 1)).run Tryz.prog (W.alloc (.cells #[.int .u8 (z : Int)] 5)) = .ok (.string (textB [z])) (W.alloc (.cells #[.int .u8 (z : Int)] 5))) := byte_text
 clear h hr
 go_enter Tryz.func15, Tryz.ntmps15
 go_wp2_with fail
 refine (p.out 3 w U.out (by omega) (by omega)).mono ?_
 rintro e X ⟨x, B, rfl, D⟩
 have y := Hid.hide D
 have S : IntKind.i64.wrap (1 + (x : Int)) = 1 + (x : Int) := wrap_fits _ (by omega) (by omega)
 clear D
 go_wp2_with fail
 refine (p.out 4 X y.out.2 (by omega) (by omega)).mono ?_
 rintro e T ⟨O, C, rfl, E⟩
 have m : Hid (Fed fb raw w T) := y.out.trans E
 clear E
 by_cases Q : O = 1
 ·subst Q
  clear C
  go_wp2_with fail
  refine (p.out 100 T m.out.2 (by omega) (by omega)).mono ?_
  rintro e Y ⟨G, aa, rfl, F⟩
  have o : Hid (Fed fb raw w Y) := m.out.trans F
  obtain ⟨N, H⟩ : ∃ N : Nat, 1 + G = N := ⟨_, rfl⟩
  have M : Hid ((1 : Int) + (G : Int) = (N : Int)) := by have h : (1 : Int) + (G : Int) = (N : Int) := (by omega); exact h
  have b : Hid (1 <= N /\ N <= 100) := ⟨by omega, by omega⟩
  clear F H B S
  go_wp2
  rw [M.out]
  go_loopg [4] N (fun g s wr => ∃ u : ByteArray, u.size <= N /\ g = N - u.size /\ s = .string u /\ Fed fb raw w wr)
  case atStart => exact ⟨⟨#[]⟩, Nat.zero_le _, rfl, rfl, o.out⟩
  case round =>
   obtain ⟨u, r, rfl, rfl, k⟩ := hrel
   have a := Hid.hide k
   clear k
   by_cases d : u.size < N
   ·have J : (u.size : Int) < (N : Int) := by omega
    clear r
    go_wp2_with fail
    refine (p.out 255 wr a.out.2 (by omega) (by omega)).mono ?_
    rintro e v ⟨i, q, rfl, j⟩
    have n : Hid (Fed fb raw w v) := a.out.trans j
    have K : IntKind.i64.wrap (1 + (i : Int)) = 1 + (i : Int) := wrap_fits _ (by omega) (by omega)
    obtain ⟨z, I⟩ : ∃ z : Nat, 1 + i = z := ⟨_, rfl⟩
    have t : (1 : Int) + (i : Int) = (z : Int) := by omega
    rw [t] at K
    have V : IntKind.u8.wrap (z : Int) = (z : Int) := wrap8 (by omega)
    have R := L.out v z
    have l := fun W => run_string_add_sum (P := Tryz.prog) W u (textB [z]) (by rw [textB_size]; have := b.out; simp; omega)
    obtain ⟨u2, f⟩ : ∃ u2, u ++ textB [z] = u2 := ⟨_, rfl⟩
    rw [f] at l
    have c : Hid (u2.size = u.size + 1 /\ u.size < N) := ⟨by rw [<- f, size_append, textB_size]; rfl, d⟩
    clear j f I d q
    go_wp2
    go_roundg (N - u2.size)
    case measure => have := c.out; omega
    case rel => exact ⟨u2, by have := c.out; omega, rfl, rfl, n.out.alloc _⟩
   ·have J : (N : Int) <= (u.size : Int) := by omega
    have c : Hid (u.size = N) := by have h : u.size = N := (by omega); exact h
    clear r d
    go_wp2
    go_ret
    exact ⟨u, by have := c.out; have := b.out; omega, by have := c.out; have := b.out; omega, rfl, a.out⟩
 ·have ab : ((O : Int) == 1) = false := by simp; omega
  have o := m
  obtain ⟨N, H⟩ : ∃ N : Nat, 1 + x = N := ⟨_, rfl⟩
  have Z : (1 : Int) + (x : Int) = (N : Int) := by omega
  have b : Hid (1 <= N /\ N <= 100) := ⟨by omega, by omega⟩
  clear C Q H B S
  go_wp2
  go_loopg [4] N (fun g s wr => ∃ u : ByteArray, u.size <= N /\ g = N - u.size /\ s = .string u /\ Fed fb raw w wr)
  case atStart => exact ⟨⟨#[]⟩, Nat.zero_le _, rfl, rfl, o.out⟩
  case round =>
   obtain ⟨u, r, rfl, rfl, k⟩ := hrel
   have a := Hid.hide k
   clear k
   by_cases d : u.size < N
   ·have J : (u.size : Int) < (N : Int) := by omega
    clear r
    go_wp2_with fail
    refine (p.out 255 wr a.out.2 (by omega) (by omega)).mono ?_
    rintro e v ⟨i, q, rfl, j⟩
    have n : Hid (Fed fb raw w v) := a.out.trans j
    have K : IntKind.i64.wrap (1 + (i : Int)) = 1 + (i : Int) := wrap_fits _ (by omega) (by omega)
    obtain ⟨z, I⟩ : ∃ z : Nat, 1 + i = z := ⟨_, rfl⟩
    have t : (1 : Int) + (i : Int) = (z : Int) := by omega
    rw [t] at K
    have V : IntKind.u8.wrap (z : Int) = (z : Int) := wrap8 (by omega)
    have R := L.out v z
    have l := fun W => run_string_add_sum (P := Tryz.prog) W u (textB [z]) (by rw [textB_size]; have := b.out; simp; omega)
    obtain ⟨u2, f⟩ : ∃ u2, u ++ textB [z] = u2 := ⟨_, rfl⟩
    rw [f] at l
    have c : Hid (u2.size = u.size + 1 /\ u.size < N) := ⟨by rw [<- f, size_append, textB_size]; rfl, d⟩
    clear j f I d q
    go_wp2
    go_roundg (N - u2.size)
    case measure => have := c.out; omega
    case rel => exact ⟨u2, by have := c.out; omega, rfl, rfl, n.out.alloc _⟩
   ·have J : (N : Int) <= (u.size : Int) := by omega
    have c : Hid (u.size = N) := by have h : u.size = N := (by omega); exact h
    clear r d
    go_wp2
    go_ret
    exact ⟨u, by have := c.out; have := b.out; omega, by have := c.out; have := b.out; omega, rfl, a.out⟩
theorem or_u8 (a b : Nat) (ha : a < 256) (hb : b < 64) : bits .or .u8 (a : Int) (b : Int) = ((a ||| b : Nat) : Int) /\ a ||| b < 256 := by
 have c : ∀ i : Fin 256, ∀ j : Fin 64, bits .or .u8 (i.val : Int) (j.val : Int) = ((i.val ||| j.val : Nat) : Int) := by decide +kernel
 exact ⟨c ⟨a, ha⟩ ⟨b, hb⟩, Nat.or_lt_two_pow (n := 8) ha (by omega)⟩
def zero32 : Array Nat := Array.replicate 32 0
theorem zero32_bytes : Bytes zero32 := fun j => by
 unfold zero32
 by_cases h : j < 32
 ·rw [getElem!_pos _ j (by simpa using h)]
  simp
 ·rw [getElem!_neg _ j (by simpa using h)]
  decide
def placesN : List Nat := [0, 1, 2, 3, 30, 31, 60, 61, 62, 63, 63, 63]
theorem places_lt (c : Nat) : placesN[c]! < 64 := by
 unfold placesN
 match c with
 | 0 | 1 | 2 | 3 | 4 | 5 | 6 | 7 | 8 | 9 | 10 | 11 => decide
 | n + 12 => rw [getElem!_neg _ _ (by simp)]; decide
structure KeyAt (w : World) (n0 : Nat) (K : Array Nat) : Prop where
 res : w.there n0 0 32
 row : Row encB w (n0 + 1) 0 K
 pl : ∀ c, c < 12 -> w.cell? ⟨n0 + 2, c, none⟩ = some (.int .i64 ((placesN[c]! : Nat) : Int))
 lt : n0 + 2 < w.heap.size
 size : K.size = 32
 bytes : Bytes K
theorem KeyAt.keep {w w' : World} {n0 : Nat} {K : Array Nat} (h : KeyAt w n0 K) (hs : w.heap.size <= w'.heap.size) (hb : ∀ j, n0 <= j -> j <= n0 + 2 -> w'.heap[j]? = w.heap[j]?) : KeyAt w' n0 K :=
 ⟨there_block h.res (hb n0 (Nat.le_refl _) (by omega)), h.row.of_eq (hb (n0 + 1) (by omega) (by omega)), fun c hc => (World.cell?_of_block (hb (n0 + 2) (by omega) (Nat.le_refl _))).trans (h.pl c hc), Nat.lt_of_lt_of_le h.lt hs, h.size, h.bytes⟩
theorem KeyAt.fed {w w' : World} {n0 fb : Nat} {raw : ByteArray} {K : Array Nat} (h : KeyAt w n0 K) (hf : Fed fb raw w w') (hfb : fb < n0) : KeyAt w' n0 K :=
 h.keep hf.1.size fun j h1 h2 => hf.1.block j (by have := h.lt; omega) (by omega)
theorem KeyAt.set {w : World} {n0 : Nat} {K : Array Nat} (h : KeyAt w n0 K) {i z : Nat} (hi : i < 32) (hz : z < 256) : KeyAt (w.setCell ⟨n0 + 1, i, none⟩ (.int .u8 (z : Int))) n0 (K.set! i z) := by
 refine ⟨there_set h.res _ _, h.row.set (Nat.zero_add i).symm (by rw [h.size]; exact hi) z rfl, fun c a => ?_, by simpa using h.lt, by simpa using h.size, bytes_set h.bytes i z hz⟩
 exact (World.cell?_of_block (Below.heap_setCell _ _ _ _ (by simp))).trans (h.pl c a)
theorem key_start {w w0 : World} {A P : Array Value} {t1 t2 t3 : TypeId} (h : ((w.alloc (.cells A t1)).alloc (.cells A t2)).alloc (.cells P t3) = w0) (hA : A = zero32.map encB) (hP : P = (placesN.map fun x => Value.int .i64 ((x : Nat) : Int)).toArray) : KeyAt w0 w.heap.size zero32 := by
 subst h
 have b : ((w.alloc (.cells A t1)).alloc (.cells A t2)).heap.size = w.heap.size + 2 := by simp
 refine ⟨?_, ?_, fun c d => ?_, by simp, by simp [zero32], zero32_bytes⟩
 ·refine there_block (there_block (there_new w A t1 32 (by rw [hA]; simp [zero32])) (Below.heap_alloc _ _ _ (by simp))) (Below.heap_alloc _ _ _ (by simp; omega))
 ·have e : Row encB ((w.alloc (.cells A t1)).alloc (.cells A t2)) (w.heap.size + 1) 0 zero32 := by
   rw [hA]
   have := Row.new (enc := encB) (w.alloc (.cells (zero32.map encB) t1)) zero32 t2
   rwa [World.size_alloc] at this
  exact e.alloc (by rw [b]; omega) _
 ·rw [<- b, World.cell?_alloc_new, hP]
  simp only [List.getElem?_toArray, List.getElem?_map]
  have a : c < placesN.length := d
  rw [List.getElem?_eq_getElem a, getElem!_pos placesN c a]
  rfl
theorem hash_cells' {w7 : World} {N : Nat} {D : Array Nat} (hD : D.size = 32) (ht : w7.there N 0 32) :
  (Tryz.prog.info? 43).map (·.size) = some (D.toList.map encB).length /\ (Tryz.prog.info? 43).map (·.size) = some (D.toList.map encB).toArray.size /\ w7.there N 0 (D.toList.map encB).toArray.size /\ w7.there N 0 (D.toList.map encB).length := by
 refine ⟨?_, ?_, ?_, ?_⟩
 ·rw [size51]; simp [hD]
 ·rw [size51]; simp [hD]
 ·simpa [hD] using ht
 ·simpa [hD] using ht
theorem fed_setCells {fb N : Nat} {raw : ByteArray} {w w' : World} (h : Fed fb raw w w') (hN : w.heap.size <= N) (hfb : fb < w.heap.size) (vs : List Value) (o : Nat) : Fed fb raw w (w'.setCells N o vs) := by
 obtain ⟨b, d, e, f⟩ := size_setCells N vs o w'
 exact ⟨⟨d.trans h.1.os, e.trans h.1.tape, f.trans h.1.output, by rw [b]; exact h.1.size, fun k c a => (heap_setCells _ _ _ _ _ (by omega)).trans (h.1.block k c a)⟩, h.2.keep (heap_setCells _ _ _ _ _ (by omega)) (Nat.le_of_eq b.symm)⟩
theorem key_same (K L : Array Nat) (hK : K.size = 32) (hL : L.size = 32) (hKb : Bytes K) (hLb : Bytes L) (w : World) : (Op.equalIn 10000 43 (.agg (K.toList.map encB).toArray) (.agg (L.toList.map encB).toArray)).run Tryz.prog w = .ok (decide (K = L)) w := by
 have g : ∀ w, (sizeOf 5).run Tryz.prog w = .ok 1 w := fun w => by kernel_rfl
 have a : ∀ (A : Array Nat), Bytes A -> A.toList.map encB = (A.toList.map UInt8.ofNat).map Extern.Stop.cell := fun A k => by
  rw [List.map_map]
  apply List.map_congr_left
  intro x o
  obtain ⟨j, m, rfl⟩ := List.getElem_of_mem o
  have d : A.toList[j] < 256 := by
   have := k j
   rw [getElem!_pos A j (by simpa using m)] at this
   simpa using this
  show Value.int .u8 _ = Value.int .u8 _
  congr 1
  have n : A[j] < 256 := by simpa using d
  simp
  omega
 have h := run_equalIn_bytes (P := Tryz.prog) w 9998 43 5 32 Tryz.underlying43 Tryz.underlying5 g (K.toList.map UInt8.ofNat) (L.toList.map UInt8.ofNat) (by simp [hK]) (by simp [hL])
 rw [<- a K hKb, <- a L hLb] at h
 rw [h]
 by_cases e : K = L
 ·rw [e, decide_eq_true rfl]
  simp
 ·have f : K.toList.map UInt8.ofNat ≠ L.toList.map UInt8.ofNat := fun l => e (by
   have c := congrArg (List.map Extern.Stop.cell) l
   rw [<- a K hKb, <- a L hLb] at c
   have b : ∀ x y : Nat, encB x = encB y -> x = y := fun x y i => by
    simp only [encB, Value.int.injEq] at i
    omega
   exact Array.toList_inj.1 ((List.map_inj_right (fun {x y} => b x y)).1 c))
  rw [decide_eq_false e, beq_eq_false_iff_ne.2 f]
structure Kn (w : World) (C : Nat) (ks vs : Value) (m : List (Array Nat × ByteArray)) : Prop where
 keys : OwnC w C 32 ks m.length (m.flatMap fun x => x.1.toList.map encB)
 vals : OwnC w C 1 vs m.length (m.map fun x => .string x.2)
 ok : ∀ x ∈ m, x.1.size = 32 /\ Bytes x.1 /\ 0 < x.2.size /\ x.2.size <= 100
 apart : ∀ g, ks.ownBlock = some g -> vs.ownBlock ≠ some g
theorem Kn.below {w w' : World} {C : Nat} {ks vs : Value} {m : List (Array Nat × ByteArray)} (h : Kn w C ks vs m) (hb : Below w.heap.size w w') : Kn w' C ks vs m := ⟨h.keys.below hb, h.vals.below hb, h.ok, h.apart⟩
theorem keys_flat {m : List (Array Nat × ByteArray)} (h : ∀ x ∈ m, x.1.size = 32) {i : Nat} (hi : i < m.length) {j : Nat} {u : Value} (hu : (m[i].1.toList.map encB)[j]? = some u) : (m.flatMap fun x => x.1.toList.map encB)[i * 32 + j]? = some u := by
 induction m generalizing i with
 | nil => simp at hi
 | cons x m ih =>
  have a := h x (List.mem_cons_self ..)
  have b : (x.1.toList.map encB).length = 32 := by rw [List.length_map, Array.length_toList, a]
  rw [List.flatMap_cons]
  cases i with
  | zero =>
   rw [List.getElem_cons_zero] at hu
   rw [Nat.zero_mul, Nat.zero_add, List.getElem?_append_left (List.getElem?_eq_some_iff.1 hu).1]
   exact hu
  | succ i =>
   rw [List.getElem_cons_succ] at hu
   rw [List.getElem?_append_right (by omega), b, show (i + 1) * 32 + j - 32 = i * 32 + j by omega]
   exact ih (fun y c => h y (List.mem_cons_of_mem _ c)) (by simpa using hi) hu
theorem Kn.key {w : World} {C : Nat} {ks vs : Value} {m : List (Array Nat × ByteArray)} (h : Kn w C ks vs m) {i : Nat} (hi : i < m.length) : ∃ g cap, ks = .slice (some ⟨g, 0, none⟩) m.length cap /\ g < w.heap.size /\ w.rangeAt g (i * 32) (m[i].1.toList.map encB) := by
 obtain ⟨g, cap, e, f, a, k, l, n, b⟩ : ∃ g cap, ks = .slice (some ⟨g, 0, none⟩) m.length cap /\ C <= g /\ g < w.heap.size /\ m.length <= cap /\ cap <= maxLen /\ w.there g 0 (cap * 32) /\ w.rangeAt g 0 (m.flatMap fun x => x.1.toList.map encB) := by
  rcases h.keys.2 with ⟨_, h0⟩ | h
  ·omega
  ·exact h
 refine ⟨g, cap, e, a, fun j u c => ?_⟩
 have := b (i * 32 + j) u (keys_flat (fun x d => (h.ok x d).1) hi c)
 rwa [Nat.zero_add] at this
def findN : List (Array Nat × ByteArray) -> Array Nat -> Option Nat
 | [], _ => none
 | x :: m, K => if x.1 = K then some 0 else (findN m K).map (· + 1)
theorem findN_drop {m : List (Array Nat × ByteArray)} {K : Array Nat} : ∀ {i : Nat}, (∀ j (h : j < m.length), j < i -> m[j].1 ≠ K) -> i <= m.length -> findN m K = (findN (m.drop i) K).map (· + i) := by
 induction m with
 | nil => intro i _ a; have : i = 0 := (by simpa using a); subst this; rfl
 | cons x m ih =>
  intro i h a
  cases i with
  | zero => rw [List.drop_zero]; cases findN (x :: m) K <;> rfl
  | succ i =>
   have b := h 0 (by simp) (by omega)
   rw [List.getElem_cons_zero] at b
   rw [findN, if_neg b, List.drop_succ_cons, ih (i := i) (fun j c d => by have := h (j + 1) (by simpa using c) (by omega); simpa using this) (by simpa using a)]
   cases findN (m.drop i) K <;> simp [Nat.add_assoc]
theorem quiet_load_mid {P : Program} {C : World -> Prop} {op : Oper} {a : Act} {K : Act -> Prop} (ty : TypeId) (x : Operand) (ho : op.op = .load ty x) (b o : Nat) (hx : a.eval x = .pointer (some ⟨b, o, none⟩)) (cs : List Value) (d : TypeDesc) (hc : ∀ w, C w -> w.rangeAt b o cs) (hu : P.underlying ty = some d) (hd : d.isRow = true) (hi : (P.info? ty).map (·.size) = some cs.length) (h : K (a.put op.dst (.agg cs.toArray))) : op.quiet P a C K :=
 ⟨_, fun w hw => by
  unfold Oper.quietAt execOp
  simp only [ho, hx, Instr.loadAt, Instr.sureAddr, Sem.run_bind, Sem.run_pure, Result.andThen_ok, run_loadVar_mid w b o ty cs d (hc w hw) hu hd hi]
  exact ⟨rfl, rfl⟩, h⟩
def findV : Option Nat -> Int
 | none => -1
 | some i => (i : Int)
theorem findN_at {m : List (Array Nat × ByteArray)} {K : Array Nat} {i : Nat} (h : ∀ j (hj : j < m.length), j < i -> m[j].1 ≠ K) (hi : i < m.length) (he : m[i].1 = K) : findN m K = some i := by
 rw [findN_drop h (Nat.le_of_lt hi), List.drop_eq_getElem_cons hi, findN, if_pos he]
 simp
theorem findN_no {m : List (Array Nat × ByteArray)} {K : Array Nat} (h : ∀ j (hj : j < m.length), m[j].1 ≠ K) : findN m K = none := by
 rw [findN_drop (i := m.length) (fun j hj _ => h j hj) (Nat.le_refl _), List.drop_of_length_le (Nat.le_refl _)]
 rfl
theorem kfind_any {w : World} {C : Nat} {ks vs : Value} {m : List (Array Nat × ByteArray)} {K : Array Nat} (h : Kn w C ks vs m) (hm : m.length <= 1000) (hK : K.size = 32) (hKb : Bytes K) :
  Calls Tryz.prog 27 #[.agg #[ks, vs], .agg (K.toList.map encB).toArray] w fun e w' => e = .returned (.int .i64 (findV (findN m K))) /\ Below w.heap.size w w' := by
 obtain ⟨P, mk, M, rfl⟩ := h.keys.shape
 obtain ⟨Z, Y, U, rfl⟩ := h.vals.shape
 have X : mk = m.length := by
  rcases h.keys.2 with ⟨h1, h2⟩ | ⟨g, T, h1, _⟩
  ·simp only [Value.slice.injEq] at h1; omega
  ·simp only [Value.slice.injEq] at h1; exact h1.2.1
 subst X
 have I : (Tryz.prog.info? 43).map (·.size) = some (K.toList.map encB).length := by rw [size51]; simp [hK]
 obtain ⟨W0, o⟩ : ∃ W0, (w.alloc (.cells #[.slice P m.length M, .slice Z Y U] 26)).alloc (.cells (K.toList.map encB).toArray 43) = W0 := ⟨_, rfl⟩
 have x : Below w.heap.size w W0 := by rw [<- o]; exact ((Below.refl _ _).alloc (Nat.le_refl _) _).alloc (by simp) _
 have H : W0.heap.size = w.heap.size + 2 := by rw [<- o]; simp
 have c0 : W0.cell? ⟨w.heap.size, 0, none⟩ = some (.slice P m.length M) := by rw [<- o]; simp
 have z : W0.rangeAt (w.heap.size + 1) 0 (K.toList.map encB) := fun j u f => by
  have e1 : (w.alloc (.cells #[.slice P m.length M, .slice Z Y U] 26)).heap.size = w.heap.size + 1 := by simp
  rw [<- o, Nat.zero_add, <- e1, World.cell?_alloc_new]
  simpa using f
 have D := Hid.hide (h.below x)
 obtain ⟨R, N⟩ : ∃ R, findV (findN m K) = R := ⟨_, rfl⟩
 have p : Hid (findV (findN m K) = R /\ K.size = 32 /\ Bytes K /\ m.length <= 1000 /\ Below w.heap.size w W0 /\ W0.heap.size = w.heap.size + 2) := ⟨N, hK, hKb, hm, x, H⟩
 have l := Tryz.underlying43
 rw [N]
 clear h hm hK hKb x H N
 go_enter Tryz.func27, Tryz.ntmps27
 go_wp2
 clear o
 go_loopg [5] m.length (fun g i wr => ∃ k : Nat, k <= m.length /\ g = m.length - k /\ i = .int .i64 (k : Int) /\ (∀ j (y : j < m.length), j < k -> m[j].1 ≠ K) /\ ∃ q, wr = W0.drewN q)
 case atStart => exact ⟨0, Nat.zero_le _, rfl, rfl, fun j _ h => absurd h (Nat.not_lt_zero _), 0, rfl⟩
 case round =>
  obtain ⟨k, hk, rfl, rfl, d, q, rfl⟩ := hrel
  by_cases t : k < m.length
  ·have i1 : (k : Int) < (m.length : Int) := by omega
   obtain ⟨g, T, F, aa, G⟩ := D.out.key t
   simp only [Value.slice.injEq] at F
   obtain ⟨rfl, -, rfl⟩ := F
   have c := D.out.ok _ (List.getElem_mem t)
   have B : (Tryz.prog.info? 43).map (·.size) = some (m[k].1.toList.map encB).length := by rw [size51]; simp [c.1]
   have E := fun W => key_same m[k].1 K c.1 p.out.2.1 c.2.1 p.out.2.2.1 W
   have Q := Hid.hide d
   by_cases v : m[k].1 = K
   ·have b : R = (k : Int) := by rw [<- p.out.1, findN_at d t v]; rfl
    rw [decide_eq_true v] at E
    have L := Hid.hide b
    clear d b v c
    go_upto_region 4 with fail
    refine wp_region_quiet_lit (by kernel_rfl) (by kernel_rfl) ?_
    iterate 4 (go_big_quiet_step (fail))
    refine BigFrame.wpQuiet_want rfl fun r a => quiet_load_mid 43 _ rfl g (k * 32) rfl (m[k].1.toList.map encB) _ (fun W s => ?ld1) l rfl B (a _ ?_)
    case ld1 => obtain ⟨n, rfl⟩ := s; exact fun j u f => (by simpa using G j u f)
    clear r a
    refine BigFrame.wpQuiet_want rfl fun r a => quiet_load_mid 43 _ rfl (w.heap.size + 1) 0 rfl (K.toList.map encB) _ (fun W s => ?ld2) l rfl I (a _ ?_)
    case ld2 => obtain ⟨n, rfl⟩ := s; exact fun j u f => (by simpa using z j u f)
    clear r a
    quiet_step (fail)
    refine wpQuiet_nil ?_
    rintro _ ⟨O, rfl⟩
    go_wp2
    go_ret
    exact ⟨by rw [L.out]; rfl, Below.drewN (Below.drewN p.out.2.2.2.2.1 q) O⟩
   ·rw [decide_eq_false v] at E
    have HQ : Hid (∀ j (y : j < m.length), j < k + 1 -> m[j].1 ≠ K) := fun j y ab => by
     by_cases e : j = k
     ·subst e; exact v
     ·exact Q.out j y (by omega)
    have V := p.out.2.2.2.1
    have J : wrap64 ((k : Int) + 1) = ((k + 1 : Nat) : Int) := by unfold wrap64; omega
    have S := Hid.hide J
    clear d v c J V
    go_upto_region 4 with fail
    refine wp_region_quiet_lit (by kernel_rfl) (by kernel_rfl) ?_
    iterate 4 (go_big_quiet_step (fail))
    refine BigFrame.wpQuiet_want rfl fun r a => quiet_load_mid 43 _ rfl g (k * 32) rfl (m[k].1.toList.map encB) _ (fun W s => ?ld1) l rfl B (a _ ?_)
    case ld1 => obtain ⟨n, rfl⟩ := s; exact fun j u f => (by simpa using G j u f)
    clear r a
    refine BigFrame.wpQuiet_want rfl fun r a => quiet_load_mid 43 _ rfl (w.heap.size + 1) 0 rfl (K.toList.map encB) _ (fun W s => ?ld2) l rfl I (a _ ?_)
    case ld2 => obtain ⟨n, rfl⟩ := s; exact fun j u f => (by simpa using z j u f)
    clear r a
    quiet_step (fail)
    refine wpQuiet_nil ?_
    rintro _ ⟨O, rfl⟩
    go_wp2
    go_roundg (m.length - (k + 1))
    case measure => omega
    case rel => exact ⟨k + 1, t, rfl, by rw [S.out], HQ.out, q + O, rfl⟩
  ·have i1 : ¬ (k : Int) < (m.length : Int) := by omega
   have b : R = -1 := by rw [<- p.out.1, findN_no fun j y => d j y (by omega)]; rfl
   have L := Hid.hide b
   clear d b
   go_wp2
   go_ret
   exact ⟨by rw [L.out]; rfl, Below.drewN p.out.2.2.2.2.1 q⟩
def offAt : Value -> Nat
 | .pointer (some a) => a.off
 | _ => 0
@[simp] theorem offAt_pointer (b o : Nat) : offAt (.pointer (some ⟨b, o, none⟩)) = o := rfl
@[simp] theorem cells_agg (cs : Array Value) : Value.cells (.agg cs) = cs := rfl
def keyCells (w : World) (b o : Nat) : Array Value := ((List.range 32).map fun j => (w.cell? ⟨b, o + j, none⟩).getD undef).toArray
def HasKey (w : World) (b o : Nat) : Prop := ∀ j, j < 32 -> (w.cell? ⟨b, o + j, none⟩).isSome = true
theorem keyCells_of {w : World} {b o : Nat} {cs : List Value} (h : w.rangeAt b o cs) (hl : cs.length = 32) : keyCells w b o = cs.toArray /\ HasKey w b o := by
 have a : ∀ j (a : j < 32), w.cell? ⟨b, o + j, none⟩ = some (cs[j]'(by omega)) := fun j a => h j _ (List.getElem?_eq_getElem (by omega))
 refine ⟨?_, fun j c => by rw [a j c]; rfl⟩
 unfold keyCells
 apply congrArg List.toArray
 apply List.ext_getElem (by simp [hl])
 intro j d f
 have e : j < 32 := by simpa using d
 rw [List.getElem_map, List.getElem_range, a j e]
 rfl
theorem keyCells_drew (w : World) (b o : Nat) : keyCells w.drew b o = keyCells w b o := rfl
theorem hasKey_drew (w : World) (b o : Nat) : HasKey w.drew b o = HasKey w b o := rfl
theorem wp_load_key (dst : Option Tmp) (x : Operand) (type : TypeId) (pos : String) (af : Array Edge) (gd : Option (Nat × Bool)) (a : Act) (w : World) (K : Act -> World -> Prop) (Q : Exit -> Act -> World -> Prop)
  (hx : a.eval x = .pointer (some ⟨blockOf (a.eval x), offAt (a.eval x), none⟩)) (hall : HasKey w (blockOf (a.eval x)) (offAt (a.eval x))) :
  Oper.wp Tryz.prog { dst := dst, op := .load 43 x, type := type, pos := pos, after := af, guard := gd } a w K Q = K (a.put dst (.agg (keyCells w (blockOf (a.eval x)) (offAt (a.eval x))))) w := by
 generalize blockOf (a.eval x) = b at hx hall ⊢
 generalize offAt (a.eval x) = o at hx hall ⊢
 have f : w.rangeAt b o ((List.range 32).map fun j => (w.cell? ⟨b, o + j, none⟩).getD undef) := by
  intro j v c
  have d : j < 32 := by
   have := (List.getElem?_eq_some_iff.1 c).1
   simpa using this
  obtain ⟨u, e⟩ := Option.isSome_iff_exists.1 (hall j d)
  simp only [List.getElem?_map, List.getElem?_range d, Option.map_some, Option.some.injEq] at c
  rw [e, <- c, e]
  rfl
 unfold Oper.wp execOp
 simp only [hx, Instr.loadAt, Instr.sureAddr, Sem.run_bind, Sem.run_pure, Result.andThen_ok, run_loadVar_mid w b o 43 _ _ f Tryz.underlying43 rfl (by rw [size51]; simp)]
 rfl
theorem keyZ : (Tryz.prog.info? 43).map (fun i => (i.zero, i.size, i.bytes)) = some (some (.agg (zero32.map encB)), 32, 32) := by kernel_rfl
theorem strZ : (Tryz.prog.info? 9).map (fun i => (i.zero, i.size, i.bytes)) = some (some (.string ⟨#[]⟩), 1, 16) := by kernel_rfl
theorem run_build_key (w : World) (cs : Array Value) (h : cs.size = 32) : (Instr.buildSlice 23 1 #[(0, .agg cs)]).run Tryz.prog w = .ok (.slice (some ⟨w.heap.size, 0, none⟩) 1 1) (w.alloc (.cells cs 43)) := by
 obtain ⟨i, b, c, a, d⟩ := info_parts keyZ
 refine run_buildSlice w _ 43 1 _ cs i (.agg (zero32.map encB)) Tryz.underlying23 b c (by rw [a]; decide) (by rw [a]; decide) ?_
 rw [a]
 have := Great.fill_whole (s := 32) (by decide) [.agg cs] ((Array.range (1 * 32)).map ((Value.agg (zero32.map encB)).cells[· % (Value.agg (zero32.map encB)).cells.size]!)) (by simpa [Value.cells] using h) (by simp)
 simpa [Value.cells] using this
theorem wp_build_key (dst : Option Tmp) (x : Operand) (type : TypeId) (pos : String) (af : Array Edge) (gd : Option (Nat × Bool)) (a : Act) (w : World) (K : Act -> World -> Prop) (Q : Exit -> Act -> World -> Prop)
  (hx : a.eval x = .agg (a.eval x).cells) (hs : (a.eval x).cells.size = 32) :
  Oper.wp Tryz.prog { dst := dst, op := .buildSlice 23 1 #[(0, x)], type := type, pos := pos, after := af, guard := gd } a w K Q = K (a.put dst (.slice (some ⟨w.heap.size, 0, none⟩) 1 1)) (w.alloc (.cells (a.eval x).cells 43)) := by
 generalize (a.eval x).cells = cs at hx hs ⊢
 have h := run_build_key w cs hs
 unfold Oper.wp execOp
 simp only [List.map_toArray, List.map_cons, List.map_nil, hx, Sem.run_bind, h, Result.andThen_ok]
 rfl
structure Kv (w : World) (C ob : Nat) (ks vs : Value) (A : List (Array Nat)) (V : List ByteArray) : Prop where
 keys : OwnC w C 32 ks A.length (A.flatMap fun x => x.toList.map encB)
 vals : OwnC w C 1 vs V.length (V.map Value.string)
 apart : ∀ g, ks.ownBlock = some g -> vs.ownBlock ≠ some g
 c0 : w.cell? ⟨ob, 0, none⟩ = some ks
 c1 : w.cell? ⟨ob, 1, none⟩ = some vs
 f0 : w.frozen? ⟨ob, 0, none⟩ = false
 f1 : w.frozen? ⟨ob, 1, none⟩ = false
 lt : ob < w.heap.size
 size : C <= w.heap.size
 nk : ks.ownBlock ≠ some ob
 nv : vs.ownBlock ≠ some ob
theorem Kv.heap {w w' : World} {C ob : Nat} {ks vs : Value} {A : List (Array Nat)} {V : List ByteArray} (h : Kv w C ob ks vs A V) (hh : w'.heap = w.heap) : Kv w' C ob ks vs A V :=
 ⟨h.keys.keep (by rw [hh]; exact Nat.le_refl _) fun k _ _ => by rw [hh], h.vals.keep (by rw [hh]; exact Nat.le_refl _) fun k _ _ => by rw [hh], h.apart, (World.cell?_of_block (by rw [hh])).trans h.c0, (World.cell?_of_block (by rw [hh])).trans h.c1, (World.frozen?_of_block (by rw [hh])).trans h.f0, (World.frozen?_of_block (by rw [hh])).trans h.f1, by rw [hh]; exact h.lt, by rw [hh]; exact h.size, h.nk, h.nv⟩
theorem Kv.var {w w2 : World} {C ob : Nat} {ks vs : Value} {A : List (Array Nat)} {V : List ByteArray} {o : Obj} {x : Option Nat} (h : Kv w C ob ks vs A V) (hx : x = ks.ownBlock \/ x = vs.ownBlock) (hg : (w.alloc o).grownBy w2 x) : w2.heap[ob]? = w.heap[ob]? /\ ob < w2.heap.size /\ C <= w2.heap.size := by
 have a := hg.size
 have b := h.lt
 have c := h.size
 simp only [World.size_alloc] at a
 refine ⟨(hg.block ob (by simp; omega) fun e => ?_).trans (Below.heap_alloc _ _ _ (by omega)), by omega, by omega⟩
 rcases hx with rfl | rfl
 ·exact h.nk e.symm
 ·exact h.nv e.symm
theorem setCell_own {w : World} {C size : Nat} {v : Value} {n : Nat} {cs : List Value} (h : OwnC w C size v n cs) {ob : Nat} (hob : v.ownBlock ≠ some ob) (j : Nat) (u : Value) : OwnC (w.setCell ⟨ob, j, none⟩ u) C size v n cs :=
 h.keep (by simp) fun k _ e => Below.heap_setCell _ _ _ _ (fun e' => hob (by rw [e]; exact congrArg some e'))
theorem Kv.key {w w2 : World} {C ob : Nat} {ks vs v2 : Value} {A : List (Array Nat)} {V : List ByteArray} {o : Obj} {K : Array Nat} (h : Kv w C ob ks vs A V) (hO : OwnC w2 C 32 v2 (A.length + 1) ((A.flatMap fun x => x.toList.map encB) ++ K.toList.map encB)) (hg : (w.alloc o).grownBy w2 ks.ownBlock) (hf : ∀ k, v2.ownBlock = some k -> ks.ownBlock = some k \/ (w.alloc o).heap.size <= k) : Kv (w2.setCell ⟨ob, 0, none⟩ v2) C ob v2 vs (A ++ [K]) V := by
 obtain ⟨b, i, d⟩ := h.var (.inl rfl) hg
 have j : OwnC w2 C 1 vs V.length (V.map Value.string) := (h.vals.alloc o).keep hg.size fun k f e => hg.block k f fun a => h.apart k a.symm e
 have c : v2.ownBlock ≠ some ob := fun e => by
  rcases hf ob e with e2 | e2
  ·exact h.nk e2
  ·have := h.lt
   simp at e2
   omega
 refine ⟨?_, setCell_own j h.nv _ _, fun g e a => ?_, ?_, ?_, ?_, ?_, by simpa using i, by simpa using d, c, h.nv⟩
 ·have := setCell_own hO c 0 v2
  rw [List.length_append, List.flatMap_append]
  simpa using this
 ·rcases hf g e with e2 | e2
  ·exact h.apart g e2 a
  ·have := (h.vals.block g a).2
   simp at e2
   omega
 ·exact World.cell?_setCell_same' _ _ _ (by rw [World.cell?_of_block b, h.c0]; rfl)
 ·rw [World.cell?_setCell_other _ _ _ _ (by simp), World.cell?_of_block b, h.c1]
 ·rw [World.frozen?_setCell, World.frozen?_of_block b, h.f0]
 ·rw [World.frozen?_setCell, World.frozen?_of_block b, h.f1]
theorem Kv.val {w w2 : World} {C ob : Nat} {ks vs v2 : Value} {A : List (Array Nat)} {V : List ByteArray} {o : Obj} {u : ByteArray} (h : Kv w C ob ks vs A V) (hO : OwnC w2 C 1 v2 (V.length + 1) (V.map Value.string ++ [.string u])) (hg : (w.alloc o).grownBy w2 vs.ownBlock) (hf : ∀ k, v2.ownBlock = some k -> vs.ownBlock = some k \/ (w.alloc o).heap.size <= k) : Kv (w2.setCell ⟨ob, 1, none⟩ v2) C ob ks v2 A (V ++ [u]) := by
 obtain ⟨a, i, d⟩ := h.var (.inr rfl) hg
 have j : OwnC w2 C 32 ks A.length (A.flatMap fun x => x.toList.map encB) := (h.keys.alloc o).keep hg.size fun k f e => hg.block k f fun c => h.apart k e c.symm
 have b : v2.ownBlock ≠ some ob := fun e => by
  rcases hf ob e with e2 | e2
  ·exact h.nv e2
  ·have := h.lt
   simp at e2
   omega
 refine ⟨setCell_own j h.nk _ _, ?_, fun g e c => ?_, ?_, ?_, ?_, ?_, by simpa using i, by simpa using d, h.nk, b⟩
 ·have := setCell_own hO b 1 v2
  rw [List.length_append, List.map_append]
  simpa using this
 ·rcases hf g c with e2 | e2
  ·exact h.apart g e e2
  ·have := (h.keys.block g e).2
   simp at e2
   omega
 ·rw [World.cell?_setCell_other _ _ _ _ (by simp), World.cell?_of_block a, h.c0]
 ·exact World.cell?_setCell_same' _ _ _ (by rw [World.cell?_of_block a, h.c1]; rfl)
 ·rw [World.frozen?_setCell, World.frozen?_of_block a, h.f0]
 ·rw [World.frozen?_setCell, World.frozen?_of_block a, h.f1]
theorem Kv.below {w w2 W0 : World} {B C ob : Nat} {ks vs : Value} {A : List (Array Nat)} {V : List ByteArray} {o : Obj} {x : Option Nat} (h : Kv w C ob ks vs A V) (hx : x = ks.ownBlock \/ x = vs.ownBlock) (hg : (w.alloc o).grownBy w2 x) (hb : Below B W0 w) (hB : B <= ob) (hBC : B <= C) (hB0 : B <= W0.heap.size) (j : Nat) (u : Value) : Below B W0 (w2.setCell ⟨ob, j, none⟩ u) := by
 refine (belowGrown (hb.alloc (Nat.le_trans hB0 hb.size) o) hB0 hg fun k e => ?_).setCell (p := ⟨ob, j, none⟩) hB u
 rcases hx with rfl | rfl
 ·have := (h.keys.block k e).1; omega
 ·have := (h.vals.block k e).1; omega
theorem Kv.kn {w : World} {C ob : Nat} {ks vs : Value} {m : List (Array Nat × ByteArray)} (h : Kv w C ob ks vs (m.map (·.1)) (m.map (·.2))) (ok : ∀ x ∈ m, x.1.size = 32 /\ Bytes x.1 /\ 0 < x.2.size /\ x.2.size <= 100) : Kn w C ks vs m := by
 refine ⟨?_, ?_, ok, h.apart⟩
 ·have := h.keys
  rw [List.length_map, List.flatMap_map] at this
  exact this
 ·have := h.vals
  rw [List.length_map, List.map_map] at this
  exact this
def woN (m : List (Array Nat × ByteArray)) (K : Array Nat) : List (Array Nat × ByteArray) := m.filter fun x => decide (x.1 ≠ K)
theorem wo_take_ne {m : List (Array Nat × ByteArray)} {K : Array Nat} {k : Nat} (hk : k < m.length) (h : m[k].1 ≠ K) : woN (m.take (k + 1)) K = woN (m.take k) K ++ [m[k]] := by
 rw [woN, woN, List.take_succ_eq_append_getElem hk, List.filter_append]
 simp [h]
theorem wo_take_eq {m : List (Array Nat × ByteArray)} {K : Array Nat} {k : Nat} (hk : k < m.length) (h : m[k].1 = K) : woN (m.take (k + 1)) K = woN (m.take k) K := by
 rw [woN, woN, List.take_succ_eq_append_getElem hk, List.filter_append]
 simp [h]
theorem wo_len (m : List (Array Nat × ByteArray)) (K : Array Nat) : (woN m K).length <= m.length := List.length_filter_le ..
theorem oneCell_key (K : Array Nat) : ∀ u ∈ K.toList.map encB, u.oneCell' = true := oneCell_enc K .u8
theorem Kn.val {w : World} {C : Nat} {ks vs : Value} {m : List (Array Nat × ByteArray)} (h : Kn w C ks vs m) {i : Nat} (hi : i < m.length) : ∃ g cap, vs = .slice (some ⟨g, 0, none⟩) m.length cap /\ g < w.heap.size /\ w.cell? ⟨g, i, none⟩ = some (.string m[i].2) := by
 obtain ⟨g, cap, e, c, a, d, f, j, b⟩ := h.vals.full (by omega)
 refine ⟨g, cap, e, a, ?_⟩
 have := b i (.string m[i].2) (by rw [List.getElem?_map, List.getElem?_eq_getElem hi]; rfl)
 rwa [Nat.zero_add] at this
theorem keyZs : (Value.agg (zero32.map encB)).cells.size = 32 := by simp [zero32]
theorem undrewG {w w2 : World} {x : Option Nat} (h : w.drew.grownBy w2 x) : w.grownBy w2 x := ⟨h.os, h.tape, h.output, h.size, h.block⟩
theorem heap_at4 (w : World) (a b c d : Obj) : ((((w.alloc a).alloc b).alloc c).alloc d).heap[w.heap.size]? = some a /\ ((((w.alloc a).alloc b).alloc c).alloc d).heap[w.heap.size + 1]? = some b /\ ((((w.alloc a).alloc b).alloc c).alloc d).heap[w.heap.size + 2]? = some c /\ ((((w.alloc a).alloc b).alloc c).alloc d).heap[w.heap.size + 3]? = some d := by
 have e : ∀ (w : World) (o : Obj), (w.alloc o).heap[w.heap.size]? = some o := fun w o => Array.getElem?_push_size
 have f : (w.alloc a).heap.size = w.heap.size + 1 := by simp
 have g : ((w.alloc a).alloc b).heap.size = w.heap.size + 2 := by simp
 have h : (((w.alloc a).alloc b).alloc c).heap.size = w.heap.size + 3 := by simp
 refine ⟨?_, ?_, ?_, ?_⟩
 ·rw [Below.heap_alloc _ _ _ (by omega), Below.heap_alloc _ _ _ (by omega), Below.heap_alloc _ _ _ (by omega)]
  exact e w a
 ·rw [Below.heap_alloc _ _ _ (by omega), Below.heap_alloc _ _ _ (by omega), <- f]
  exact e _ b
 ·rw [Below.heap_alloc _ _ _ (by omega), <- g]
  exact e _ c
 ·rw [<- h]
  exact e _ d
theorem without_end {w W0 wr : World} {C : Nat} {ks vs ko vo : Value} {m l : List (Array Nat × ByteArray)} {K : Array Nat} (hk : Kv wr (w.heap.size + 4) (w.heap.size + 3) ko vo (l.map (·.1)) (l.map (·.2))) (hb : Below (w.heap.size + 3) W0 wr) (hb0 : Below w.heap.size w W0) (hl : l = woN m K) (h : Kn W0 C ks vs m) (wz : World) (h1 : wz.os = wr.os) (h2 : wz.tape = wr.tape) (h3 : wz.output = wr.output) (h4 : wz.heap = ((wr.setCell ⟨w.heap.size + 2, 0, none⟩ ko).setCell ⟨w.heap.size + 2, 1, none⟩ vo).heap) : Below w.heap.size w wz /\ Kn wz w.heap.size ko vo (woN m K) := by
 subst hl
 have c : Below w.heap.size w wr := hb0.trans (hb.mono (by omega))
 have i := hk.size
 have a : Kn wr (w.heap.size + 4) ko vo (woN m K) := hk.kn fun x g => h.ok x (List.mem_filter.1 g).1
 have d : ∀ j, j ≠ w.heap.size + 2 -> wz.heap[j]? = wr.heap[j]? := fun j b => by
  rw [h4, Below.heap_setCell _ _ _ _ b, Below.heap_setCell _ _ _ _ b]
 have f : wz.heap.size = wr.heap.size := by rw [h4]; simp
 refine ⟨⟨h1.trans c.os, h2.trans c.tape, h3.trans c.output, by rw [f]; exact c.size, fun j b => (d j (by omega)).trans (c.block j b)⟩, ?_⟩
 exact ⟨(a.keys.keep (Nat.le_of_eq f.symm) fun j b e => d j (by have := (a.keys.block j e).1; omega)).mono (by omega), (a.vals.keep (Nat.le_of_eq f.symm) fun j b e => d j (by have := (a.vals.block j e).1; omega)).mono (by omega), a.ok, a.apart⟩
theorem heap_at3 (w : World) (a b c : Obj) : (((w.alloc a).alloc b).alloc c).heap[w.heap.size]? = some a /\ (((w.alloc a).alloc b).alloc c).heap[w.heap.size + 1]? = some b /\ (((w.alloc a).alloc b).alloc c).heap[w.heap.size + 2]? = some c := by
 have d : ∀ (w : World) (o : Obj), (w.alloc o).heap[w.heap.size]? = some o := fun w o => Array.getElem?_push_size
 have e : (w.alloc a).heap.size = w.heap.size + 1 := by simp
 have f : ((w.alloc a).alloc b).heap.size = w.heap.size + 2 := by simp
 refine ⟨?_, ?_, ?_⟩
 ·rw [Below.heap_alloc _ _ _ (by omega), Below.heap_alloc _ _ _ (by omega)]
  exact d w a
 ·rw [Below.heap_alloc _ _ _ (by omega), <- e]
  exact d _ b
 ·rw [<- f]
  exact d _ c
theorem Kn.var {w : World} {C : Nat} {ks vs : Value} {m : List (Array Nat × ByteArray)} (h : Kn w C ks vs m) (hC : C <= w.heap.size) (t : TypeId) : Kv (w.alloc (.cells #[ks, vs] t)) C w.heap.size ks vs (m.map (·.1)) (m.map (·.2)) := by
 have a : Below w.heap.size w (w.alloc (.cells #[ks, vs] t)) := (Below.refl _ _).alloc (Nat.le_refl _) _
 refine ⟨?_, ?_, h.apart, by rw [World.cell?_alloc_new]; rfl, by rw [World.cell?_alloc_new]; rfl, World.frozen?_alloc_new _ _ _ _, World.frozen?_alloc_new _ _ _ _, by simp, by simp; omega, fun e => ?_, fun e => ?_⟩
 ·have := h.keys.below a
  rw [List.length_map, List.flatMap_map]
  exact this
 ·have := h.vals.below a
  rw [List.length_map, List.map_map]
  exact this
 ·have := (h.keys.block _ e).2; omega
 ·have := (h.vals.block _ e).2; omega
theorem kwith_end {w W0 wr : World} {ob : Nat} {ko vo : Value} {l : List (Array Nat × ByteArray)} (hk : Kv wr (w.heap.size + 3) ob ko vo (l.map (·.1)) (l.map (·.2))) (hb : Below (w.heap.size + 3) W0 wr) (hb0 : Below w.heap.size w W0) (ok : ∀ x ∈ l, x.1.size = 32 /\ Bytes x.1 /\ 0 < x.2.size /\ x.2.size <= 100) (wz : World) (h1 : wz.os = wr.os) (h2 : wz.tape = wr.tape) (h3 : wz.output = wr.output) (h4 : wz.heap = ((wr.setCell ⟨w.heap.size + 2, 0, none⟩ ko).setCell ⟨w.heap.size + 2, 1, none⟩ vo).heap) : Below w.heap.size w wz /\ Kn wz w.heap.size ko vo l := by
 have c : Below w.heap.size w wr := hb0.trans (hb.mono (by omega))
 have g := hk.size
 have a : Kn wr (w.heap.size + 3) ko vo l := hk.kn ok
 have d : ∀ j, j ≠ w.heap.size + 2 -> wz.heap[j]? = wr.heap[j]? := fun j b => by
  rw [h4, Below.heap_setCell _ _ _ _ b, Below.heap_setCell _ _ _ _ b]
 have f : wz.heap.size = wr.heap.size := by rw [h4]; simp
 refine ⟨⟨h1.trans c.os, h2.trans c.tape, h3.trans c.output, by rw [f]; exact c.size, fun j b => (d j (by omega)).trans (c.block j b)⟩, ?_⟩
 exact ⟨(a.keys.keep (Nat.le_of_eq f.symm) fun j b e => d j (by have := (a.keys.block j e).1; omega)).mono (by omega), (a.vals.keep (Nat.le_of_eq f.symm) fun j b e => d j (by have := (a.vals.block j e).1; omega)).mono (by omega), a.ok, a.apart⟩
def wiN (m : List (Array Nat × ByteArray)) (K : Array Nat) (u : ByteArray) : List (Array Nat × ByteArray) := woN m K ++ [(K, u)]
theorem Kn.mono {w : World} {C C' : Nat} {ks vs : Value} {m : List (Array Nat × ByteArray)} (h : Kn w C' ks vs m) (hc : C <= C') : Kn w C ks vs m := ⟨h.keys.mono hc, h.vals.mono hc, h.ok, h.apart⟩
theorem Kn.keep {w w' : World} {C : Nat} {ks vs : Value} {m : List (Array Nat × ByteArray)} (h : Kn w C ks vs m) (hs : w.heap.size <= w'.heap.size) (hb : ∀ j, C <= j -> j < w.heap.size -> w'.heap[j]? = w.heap[j]?) : Kn w' C ks vs m :=
 ⟨h.keys.keep hs fun j hj e => hb j (h.keys.block j e).1 hj, h.vals.keep hs fun j hj e => hb j (h.vals.block j e).1 hj, h.ok, h.apart⟩
theorem Kn.nil (w : World) (C : Nat) : Kn w C (.slice none 0 0) (.slice none 0 0) [] := ⟨OwnC.nil _ _ _, OwnC.nil _ _ _, fun x hx => absurd hx (by simp), fun g h => by simp [Value.ownBlock] at h⟩
structure KnSt (w wr : World) (raw : ByteArray) (ks vs : Value) (m : List (Array Nat × ByteArray)) : Prop where
 feed : FeedAt wr (w.heap.size + 1) raw
 res : wr.heap[w.heap.size]? = some (.cells #[.slice none 0 0, .slice none 0 0] 26 (0, 0))
 c0 : wr.cell? ⟨w.heap.size + 2, 0, none⟩ = some ks
 c1 : wr.cell? ⟨w.heap.size + 2, 1, none⟩ = some vs
 f0 : wr.frozen? ⟨w.heap.size + 2, 0, none⟩ = false
 f1 : wr.frozen? ⟨w.heap.size + 2, 1, none⟩ = false
 kn : Kn wr (w.heap.size + 3) ks vs m
 below : Below w.heap.size w wr
 size : w.heap.size + 3 <= wr.heap.size
 dup : (m.map (·.1)).Nodup
theorem KnSt.keep {w wr w' : World} {raw : ByteArray} {ks vs : Value} {m : List (Array Nat × ByteArray)} (h : KnSt w wr raw ks vs m) (hf : FeedAt w' (w.heap.size + 1) raw) (ho : Only (w.heap.size + 1) wr w') : KnSt w w' raw ks vs m := by
 have d := h.size
 have b := ho.block w.heap.size (by omega) (by omega)
 have a := ho.block (w.heap.size + 2) (by omega) (by omega)
 exact ⟨hf, b.trans h.res, (World.cell?_of_block a).trans h.c0, (World.cell?_of_block a).trans h.c1, (World.frozen?_of_block a).trans h.f0, (World.frozen?_of_block a).trans h.f1, h.kn.keep ho.size fun j e c => ho.block j c (by omega), ho.below h.below (by omega) (by omega), Nat.le_trans d ho.size, h.dup⟩
theorem KnSt.fed {w wr w' : World} {raw : ByteArray} {ks vs : Value} {m : List (Array Nat × ByteArray)} (h : KnSt w wr raw ks vs m) (hf : Fed (w.heap.size + 1) raw wr w') : KnSt w w' raw ks vs m := h.keep hf.2 hf.1
theorem KnSt.behind {w wr w' : World} {raw : ByteArray} {ks vs : Value} {m : List (Array Nat × ByteArray)} (h : KnSt w wr raw ks vs m) (hb : Below wr.heap.size wr w') : KnSt w w' raw ks vs m := h.keep (h.feed.below hb) (.of_below hb)
theorem wi_len (m : List (Array Nat × ByteArray)) (K : Array Nat) (u : ByteArray) : (wiN m K u).length <= m.length + 1 := by
 have := wo_len m K
 simp [wiN]
 omega
theorem wo_dup {m : List (Array Nat × ByteArray)} (h : (m.map (·.1)).Nodup) (K : Array Nat) : ((woN m K).map (·.1)).Nodup := h.sublist (List.Sublist.map _ List.filter_sublist)
theorem wi_dup {m : List (Array Nat × ByteArray)} (h : (m.map (·.1)).Nodup) (K : Array Nat) (u : ByteArray) : ((wiN m K u).map (·.1)).Nodup := by
 rw [wiN, List.map_append]
 refine List.nodup_append.2 ⟨wo_dup h K, by simp, fun a f b d e => ?_⟩
 subst e
 obtain ⟨x, g, rfl⟩ := List.mem_map.1 f
 have c := (List.mem_filter.1 g).2
 simp at d c
 exact c d
theorem KnSt.step {w wr w' : World} {raw : ByteArray} {ks vs ks' vs' : Value} {m : List (Array Nat × ByteArray)} {K : Array Nat} {u : ByteArray} (h : KnSt w wr raw ks vs m) (hb : Below wr.heap.size wr w') (hk : Kn w' wr.heap.size ks' vs' (wiN m K u)) : KnSt w ((w'.setCell ⟨w.heap.size + 2, 0, none⟩ ks').setCell ⟨w.heap.size + 2, 1, none⟩ vs') raw ks' vs' (wiN m K u) := by
 have a := h.behind hb
 have i := h.size
 have c : ∀ j, j ≠ w.heap.size + 2 -> ((w'.setCell ⟨w.heap.size + 2, 0, none⟩ ks').setCell ⟨w.heap.size + 2, 1, none⟩ vs').heap[j]? = w'.heap[j]? := fun j d => by
  rw [Below.heap_setCell _ _ _ _ d, Below.heap_setCell _ _ _ _ d]
 have e : ((w'.setCell ⟨w.heap.size + 2, 0, none⟩ ks').setCell ⟨w.heap.size + 2, 1, none⟩ vs').heap.size = w'.heap.size := by simp
 have b := a.below
 refine ⟨a.feed.keep (c _ (by omega)) (by omega), (c _ (by omega)).trans a.res, ?_, ?_, ?_, ?_, ?_, ⟨b.os, b.tape, b.output, by rw [e]; exact b.size, fun k hk => (c k (by omega)).trans (b.block k hk)⟩, by have := a.size; omega, wi_dup h.dup K u⟩
 ·rw [World.cell?_setCell_other _ _ _ _ (by simp)]
  exact World.cell?_setCell_same _ _ _ a.c0
 ·exact World.cell?_setCell_same _ _ _ ((World.cell?_setCell_other _ _ _ _ (by simp)).trans a.c1)
 ·rw [World.frozen?_setCell, World.frozen?_setCell]; exact a.f0
 ·rw [World.frozen?_setCell, World.frozen?_setCell]; exact a.f1
 ·exact (hk.keep (by omega) fun j f g => c j (by omega)).mono (by omega)
theorem KnSt.fin {w wr : World} {raw : ByteArray} {ks vs : Value} {m : List (Array Nat × ByteArray)} (h : KnSt w wr raw ks vs m) : ∀ wz : World, wz.os = wr.os -> wz.tape = wr.tape -> wz.output = wr.output -> wz.heap = ((wr.setCell ⟨w.heap.size, 0, none⟩ ks).setCell ⟨w.heap.size, 1, none⟩ vs).heap -> Below w.heap.size w wz /\ Kn wz w.heap.size ks vs m := fun wz h1 h2 h3 h4 => by
 have hB := h.below
 have hne : ∀ j, j ≠ w.heap.size -> wz.heap[j]? = wr.heap[j]? := fun j hj => by
  rw [h4, Below.heap_setCell _ _ _ _ hj, Below.heap_setCell _ _ _ _ hj]
 have hsz : wz.heap.size = wr.heap.size := by rw [h4]; simp
 exact ⟨⟨h1.trans hB.os, h2.trans hB.tape, h3.trans hB.output, by rw [hsz]; exact hB.size, fun j hj => (hne j (by omega)).trans (hB.block j hj)⟩, (h.kn.keep (by omega) fun j h1 h2 => hne j (by omega)).mono (by omega)⟩
theorem KnSt.start {w : World} {raw : ByteArray} : KnSt w (((w.alloc (.cells #[.slice none 0 0, .slice none 0 0] 26)).alloc (.cells #[.string raw, .int .i64 0] 48)).alloc (.cells #[.slice none 0 0, .slice none 0 0] 26)) raw (.slice none 0 0) (.slice none 0 0) [] := by
 obtain ⟨c, b, a⟩ := heap_at3 w (.cells #[.slice none 0 0, .slice none 0 0] 26) (.cells #[.string raw, .int .i64 0] 48) (.cells #[.slice none 0 0, .slice none 0 0] 26)
 exact ⟨⟨by simp, cell_of_row _ _ 0 _ _ (0, 0) b, ⟨0, cell_of_row _ _ 1 _ _ (0, 0) b, Nat.zero_le _⟩, frozen_of_row _ _ 1 _ _ b⟩, c, cell_of_row _ _ 0 _ _ (0, 0) a, cell_of_row _ _ 1 _ _ (0, 0) a, frozen_of_row _ _ 0 _ _ a, frozen_of_row _ _ 1 _ _ a, Kn.nil _ _, (((Below.refl _ _).alloc (Nat.le_refl _) _).alloc (by simp) _).alloc (by simp; omega) _, by simp, by simp⟩
abbrev z32 : Array Value := #[.int .u8 0, .int .u8 0, .int .u8 0, .int .u8 0, .int .u8 0, .int .u8 0, .int .u8 0, .int .u8 0, .int .u8 0, .int .u8 0, .int .u8 0, .int .u8 0, .int .u8 0, .int .u8 0, .int .u8 0, .int .u8 0, .int .u8 0, .int .u8 0, .int .u8 0, .int .u8 0, .int .u8 0, .int .u8 0, .int .u8 0, .int .u8 0, .int .u8 0, .int .u8 0, .int .u8 0, .int .u8 0, .int .u8 0, .int .u8 0, .int .u8 0, .int .u8 0]
theorem laid_key (w : World) (K : Array Nat) (hK : K.size = 32) :
  (w.alloc (.cells z32 43)).there w.heap.size 0 (K.toList.map encB).toArray.size /\ (Tryz.prog.info? 43).map (·.size) = some (K.toList.map encB).toArray.size /\ (Tryz.prog.info? 43).map (·.size) = some (K.toList.map encB).length /\ (K.toList.map encB).toArray.all (·.oneCell') = true /\
  Below w.heap.size w ((w.alloc (.cells z32 43)).setCells w.heap.size 0 (K.toList.map encB)) /\ ((w.alloc (.cells z32 43)).setCells w.heap.size 0 (K.toList.map encB)).rangeAt w.heap.size 0 (K.toList.map encB) /\
  w.heap.size < ((w.alloc (.cells z32 43)).setCells w.heap.size 0 (K.toList.map encB)).heap.size := by
 have c : (w.alloc (.cells z32 43)).there w.heap.size 0 32 := there_new w _ 43 32 rfl
 have a : Below w.heap.size w (w.alloc (.cells z32 43)) := (Below.refl _ _).alloc (Nat.le_refl _) _
 have b : w.heap.size < (w.alloc (.cells z32 43)).heap.size := by simp
 generalize w.alloc (.cells z32 43) = w1 at c a b
 obtain ⟨f, g, d, e⟩ := hash_cells' hK c
 exact ⟨d, g, f, all_oneCell_toArray (oneCell_enc K .u8), below_setCells a (Nat.le_refl _) _ _, World.rangeAt_setCells_same _ _ _ _ e, by rw [(size_setCells _ _ _ _).1]; exact b⟩
end Go.Proofs.YtcglpladmeelaaaGreatDoor
