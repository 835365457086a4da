/-
  Package twigskeep: raw bytes that are read one by one.
-/
import Derived.Test.YtakidhihbgfjlaaGreatDoorSxSmaG
import Derived.BigQuiet
import Derived.Test.YtakidhihbgfjlaaGreatDoorSxText
import Derived.Test.YtakidhihbgfjlaaGreatDoorSxNodD
import Derived.Test.YtakidhihbgfjlaaGreatDoorSxNodB
import Derived.Great.BuildSlice
namespace Go.Proofs.YtakidhihbgfjlaaGreatDoor
open Go.RowKit
set_option maxRecDepth 100000
set_option maxHeartbeats 25600000
structure FeedAt (w : World) (fb : Nat) (raw : ByteArray) : Prop where
 lt : fb < w.heap.size
 c0 : w.cell? ⟨fb, 0, none⟩ = some (.string raw)
 c1 : ∃ k : Nat, w.cell? ⟨fb, 1, none⟩ = some (.int .i64 (k : Int)) /\ k <= raw.size
 free : w.frozen? ⟨fb, 1, none⟩ = false
variable {w w' : World} {fb : Nat} {raw : ByteArray}
theorem FeedAt.keep (h : FeedAt w fb raw) (e : w'.heap[fb]? = w.heap[fb]?) (hs : w.heap.size <= w'.heap.size) : FeedAt w' fb raw := by
 obtain ⟨a, b, ⟨k, c, d⟩, f⟩ := h
 exact ⟨Nat.lt_of_lt_of_le a hs, (World.cell?_of_block e).trans b, ⟨k, (World.cell?_of_block e).trans c, d⟩, (World.frozen?_of_block e).trans f⟩
theorem FeedAt.below (h : FeedAt w fb raw) (hb : Below w.heap.size w w') : FeedAt w' fb raw := h.keep (hb.block fb h.lt) hb.size
def NextSaid (n fb : Nat) (raw : ByteArray) (w : World) (e : Ending) (w' : World) : Prop :=
 ∃ k : Nat, k < n /\ e = .returned (.int .i64 (k : Int)) /\ Only fb w w' /\ w'.heap.size = w.heap.size /\ FeedAt w' fb raw
theorem Qmi (n : Nat) (hn : 0 < n) (hn2 : n <= 256) (fb : Nat) (raw : ByteArray) (w : World) (h : FeedAt w fb raw) (hr : raw.size <= 9223372036854775807) :
  Calls Tryz.prog 13 #[.pointer (some ⟨fb, 0, none⟩), .int .i64 (n : Int)] w (NextSaid n fb raw w) := by
 have o := Hq h
 obtain ⟨i, r, ⟨k, s, e⟩, g⟩ := h
 have p : Hid (k <= raw.size /\ raw.size <= 9223372036854775807 /\ 0 < n /\ n <= 256) := ⟨e, hr, hn, hn2⟩
 have v : (n : Int) ≠ 0 := by omega
 have x : ((n : Int) == 0) = false := by simp; omega
 by_cases f : k < raw.size
 ·have t : (k : Int) < (raw.size : Int) := by omega
  obtain ⟨c, u⟩ : ∃ c, (raw[k]'f).toNat = c := ⟨_, rfl⟩
  have b : c < 256 := by rw [<- u]; exact UInt8.toNat_lt _
  have a : (wrap64 (c : Int)).tmod (n : Int) = ((c % n : Nat) : Int) := by
   rw [show wrap64 (c : Int) = (c : Int) by unfold wrap64; omega]
   rfl
  have q : Hid ((wrap64 (c : Int)).tmod (n : Int) = ((c % n : Nat) : Int)) := a
  clear a
  have d : c % n < n := Nat.mod_lt _ hn
  have y : wrap64 ((k : Int) + 1) = ((k + 1 : Nat) : Int) := by unfold wrap64; omega
  have m : Hid (c < 256 /\ c % n < n) := ⟨b, d⟩
  clear e hr hn hn2 b d
  go_enter Tryz.func13, Tryz.ntmps13
  go_wp2
  go_region
  go_wp2
  go_region
  go_wp2
  go_ret
  refine ⟨c % n, m.out.2, congrArg Ending.returned (Qas q.out), ?_, ?_, ?_⟩
  ·exact ⟨rfl, rfl, rfl, by simp, fun j _ l => Below.heap_setCell _ _ _ _ l⟩
  ·simp
  ·refine ⟨by simpa using i, (World.cell?_setCell_other _ _ _ _ (by simp)).trans r, ⟨k + 1, ?_, by omega⟩, (World.frozen?_setCell w _ _ _).trans g⟩
   exact World.cell?_setCell_same w _ _ s
 ·have t : (raw.size : Int) <= (k : Int) := by omega
  clear e hr hn hn2
  go_enter Tryz.func13, Tryz.ntmps13
  go_wp2
  go_region
  go_wp2
  go_ret
  exact ⟨0, p.out.2.2.1, rfl, .of_below (Below.refl _ _).drew, rfl, o.out.below (Below.refl _ _).drew⟩
def Fed (fb : Nat) (raw : ByteArray) (w w' : World) : Prop := Only fb w w' /\ FeedAt w' fb raw
theorem Fed.trans {fb : Nat} {raw : ByteArray} {w w1 w2 : World} (h : Fed fb raw w w1) (k : Fed fb raw w1 w2) : Fed fb raw w w2 := ⟨h.1.trans k.1, k.2⟩
theorem Fed.alloc {fb : Nat} {raw : ByteArray} {w w' : World} (h : Fed fb raw w w') (o : Obj) : Fed fb raw w (w'.alloc o) := ⟨h.1.alloc o, h.2.below ((Below.refl _ _).alloc (Nat.le_refl _) o)⟩
theorem Qfw (fb : Nat) (raw : ByteArray) (hr : raw.size <= 9223372036854775807) : ∀ k W, FeedAt W fb raw -> 0 < k -> k <= 256 -> Calls Tryz.prog 13 #[.pointer (some ⟨fb, 0, none⟩), .int .i64 ((k : Nat) : Int)] W fun e w' => ∃ c : Nat, c < k /\ e = .returned (.int .i64 (c : Int)) /\ Fed fb raw W w' := fun k W h h0 h1 =>
 (Qmi k h0 h1 fb raw W h hr).mono (by rintro e w' ⟨c, hc, rfl, h1, _, h2⟩; exact ⟨c, hc, rfl, h1, h2⟩)
theorem Qt8 (fb : Nat) (raw : ByteArray) (w : World) (h : FeedAt w fb raw) (hr : raw.size <= 9223372036854775807) :
  Calls Tryz.prog 15 #[.pointer (some ⟨fb, 0, none⟩)] w fun e w' => ∃ u : ByteArray, 0 < u.size /\ u.size <= 100 /\ e = .returned (.string u) /\ Fed fb raw w w' := by
 have p := Hq (Qfw fb raw hr)
 have U := Hq h
 have L : Hid (∀ (W : World) (z : Nat), (convert 41 9 (.slice (some ⟨W.heap.size, 0, none⟩) 1 1)).run Tryz.prog (W.alloc (.cells #[.int .u8 (z : Int)] 5)) = .ok (.string (textB [z])) (W.alloc (.cells #[.int .u8 (z : Int)] 5))) := Qvo
 clear h hr
 go_enter Tryz.func15, Tryz.ntmps15
 go_wp2_with fail
 refine (p.out 3 w U.out (by omega) (by omega)).mono ?_
 rintro e X ⟨x, B, rfl, D⟩
 have y := Hq D
 have S : IntKind.i64.wrap (1 + (x : Int)) = 1 + (x : Int) := Qar _ (by omega) (by omega)
 clear D
 go_wp2_with fail
 refine (p.out 4 X y.out.2 (by omega) (by omega)).mono ?_
 rintro e T ⟨O, C, rfl, E⟩
 have m : Hid (Fed fb raw w T) := y.out.trans E
 clear E
 by_cases Q : O = 1
 ·subst Q
  clear C
  go_wp2_with fail
  refine (p.out 100 T m.out.2 (by omega) (by omega)).mono ?_
  rintro e Y ⟨G, aa, rfl, F⟩
  have o : Hid (Fed fb raw w Y) := m.out.trans F
  obtain ⟨N, H⟩ : ∃ N : Nat, 1 + G = N := ⟨_, rfl⟩
  have M : Hid ((1 : Int) + (G : Int) = (N : Int)) := by have h : (1 : Int) + (G : Int) = (N : Int) := (by omega); exact h
  have b : Hid (1 <= N /\ N <= 100) := ⟨by omega, by omega⟩
  clear F H B S
  go_wp2
  rw [M.out]
  go_loopg [4] N (fun g s wr => ∃ u : ByteArray, u.size <= N /\ g = N - u.size /\ s = .string u /\ Fed fb raw w wr)
  case atStart => exact ⟨⟨#[]⟩, Nat.zero_le _, rfl, rfl, o.out⟩
  case round =>
   obtain ⟨u, r, rfl, rfl, k⟩ := hrel
   have a := Hq k
   clear k
   by_cases d : u.size < N
   ·have J : (u.size : Int) < (N : Int) := by omega
    clear r
    go_wp2_with fail
    refine (p.out 255 wr a.out.2 (by omega) (by omega)).mono ?_
    rintro e v ⟨i, q, rfl, j⟩
    have n : Hid (Fed fb raw w v) := a.out.trans j
    have K : IntKind.i64.wrap (1 + (i : Int)) = 1 + (i : Int) := Qar _ (by omega) (by omega)
    obtain ⟨z, I⟩ : ∃ z : Nat, 1 + i = z := ⟨_, rfl⟩
    have t : (1 : Int) + (i : Int) = (z : Int) := by omega
    rw [t] at K
    have V : IntKind.u8.wrap (z : Int) = (z : Int) := Ql8 (by omega)
    have R := L.out v z
    have l := fun W => run_string_add_sum (P := Tryz.prog) W u (textB [z]) (by rw [Qaa]; have := b.out; simp; omega)
    obtain ⟨u2, f⟩ : ∃ u2, u ++ textB [z] = u2 := ⟨_, rfl⟩
    rw [f] at l
    have c : Hid (u2.size = u.size + 1 /\ u.size < N) := ⟨by rw [<- f, size_append, Qaa]; rfl, d⟩
    clear j f I d q
    go_wp2
    go_roundg (N - u2.size)
    case measure => have := c.out; omega
    case rel => exact ⟨u2, by have := c.out; omega, rfl, rfl, n.out.alloc _⟩
   ·have J : (N : Int) <= (u.size : Int) := by omega
    have c : Hid (u.size = N) := by have h : u.size = N := (by omega); exact h
    clear r d
    go_wp2
    go_ret
    exact ⟨u, by have := c.out; have := b.out; omega, by have := c.out; have := b.out; omega, rfl, a.out⟩
 ·have ac : ((O : Int) == 1) = false := by simp; omega
  have o := m
  obtain ⟨N, H⟩ : ∃ N : Nat, 1 + x = N := ⟨_, rfl⟩
  have Z : (1 : Int) + (x : Int) = (N : Int) := by omega
  have b : Hid (1 <= N /\ N <= 100) := ⟨by omega, by omega⟩
  clear C Q H B S
  go_wp2
  go_loopg [4] N (fun g s wr => ∃ u : ByteArray, u.size <= N /\ g = N - u.size /\ s = .string u /\ Fed fb raw w wr)
  case atStart => exact ⟨⟨#[]⟩, Nat.zero_le _, rfl, rfl, o.out⟩
  case round =>
   obtain ⟨u, r, rfl, rfl, k⟩ := hrel
   have a := Hq k
   clear k
   by_cases d : u.size < N
   ·have J : (u.size : Int) < (N : Int) := by omega
    clear r
    go_wp2_with fail
    refine (p.out 255 wr a.out.2 (by omega) (by omega)).mono ?_
    rintro e v ⟨i, q, rfl, j⟩
    have n : Hid (Fed fb raw w v) := a.out.trans j
    have K : IntKind.i64.wrap (1 + (i : Int)) = 1 + (i : Int) := Qar _ (by omega) (by omega)
    obtain ⟨z, I⟩ : ∃ z : Nat, 1 + i = z := ⟨_, rfl⟩
    have t : (1 : Int) + (i : Int) = (z : Int) := by omega
    rw [t] at K
    have V : IntKind.u8.wrap (z : Int) = (z : Int) := Ql8 (by omega)
    have R := L.out v z
    have l := fun W => run_string_add_sum (P := Tryz.prog) W u (textB [z]) (by rw [Qaa]; have := b.out; simp; omega)
    obtain ⟨u2, f⟩ : ∃ u2, u ++ textB [z] = u2 := ⟨_, rfl⟩
    rw [f] at l
    have c : Hid (u2.size = u.size + 1 /\ u.size < N) := ⟨by rw [<- f, size_append, Qaa]; rfl, d⟩
    clear j f I d q
    go_wp2
    go_roundg (N - u2.size)
    case measure => have := c.out; omega
    case rel => exact ⟨u2, by have := c.out; omega, rfl, rfl, n.out.alloc _⟩
   ·have J : (N : Int) <= (u.size : Int) := by omega
    have c : Hid (u.size = N) := by have h : u.size = N := (by omega); exact h
    clear r d
    go_wp2
    go_ret
    exact ⟨u, by have := c.out; have := b.out; omega, by have := c.out; have := b.out; omega, rfl, a.out⟩
theorem QC3 (a b : Nat) (ha : a < 256) (hb : b < 64) : bits .or .u8 (a : Int) (b : Int) = ((a ||| b : Nat) : Int) /\ a ||| b < 256 := by
 have c : ∀ i : Fin 256, ∀ j : Fin 64, bits .or .u8 (i.val : Int) (j.val : Int) = ((i.val ||| j.val : Nat) : Int) := by decide +kernel
 exact ⟨c ⟨a, ha⟩ ⟨b, hb⟩, Nat.or_lt_two_pow (n := 8) ha (by omega)⟩
def zero32 : Array Nat := Array.replicate 32 0
theorem Qgd : Bytes zero32 := fun j => by
 unfold zero32
 by_cases h : j < 32
 ·rw [getElem!_pos _ j (by simpa using h)]
  simp
 ·rw [getElem!_neg _ j (by simpa using h)]
  decide
def placesN : List Nat := [0, 1, 2, 3, 30, 31, 60, 61, 62, 63, 63, 63]
theorem Qt9 (c : Nat) : placesN[c]! < 64 := by
 unfold placesN
 match c with
 | 0 | 1 | 2 | 3 | 4 | 5 | 6 | 7 | 8 | 9 | 10 | 11 => decide
 | n + 12 => rw [getElem!_neg _ _ (by simp)]; decide
structure KeyAt (w : World) (n0 : Nat) (K : Array Nat) : Prop where
 res : w.there n0 0 32
 row : Row encB w (n0 + 1) 0 K
 pl : ∀ c, c < 12 -> w.cell? ⟨n0 + 2, c, none⟩ = some (.int .i64 ((placesN[c]! : Nat) : Int))
 lt : n0 + 2 < w.heap.size
 size : K.size = 32
 bytes : Bytes K
variable {K : Array Nat}
theorem KeyAt.keep {n0 : Nat} (h : KeyAt w n0 K) (hs : w.heap.size <= w'.heap.size) (hb : ∀ j, n0 <= j -> j <= n0 + 2 -> w'.heap[j]? = w.heap[j]?) : KeyAt w' n0 K :=
 ⟨Qad h.res (hb n0 (Nat.le_refl _) (by omega)), h.row.of_eq (hb (n0 + 1) (by omega) (by omega)), fun c hc => (World.cell?_of_block (hb (n0 + 2) (by omega) (Nat.le_refl _))).trans (h.pl c hc), Nat.lt_of_lt_of_le h.lt hs, h.size, h.bytes⟩
theorem KeyAt.fed {n0 : Nat} (h : KeyAt w n0 K) (hf : Fed fb raw w w') (hfb : fb < n0) : KeyAt w' n0 K :=
 h.keep hf.1.size fun j h1 h2 => hf.1.block j (by have := h.lt; omega) (by omega)
theorem KeyAt.set {w : World} {n0 : Nat} {K : Array Nat} (h : KeyAt w n0 K) {i z : Nat} (hi : i < 32) (hz : z < 256) : KeyAt (w.setCell ⟨n0 + 1, i, none⟩ (.int .u8 (z : Int))) n0 (K.set! i z) := by
 refine ⟨Qf4 h.res _ _, h.row.set (Nat.zero_add i).symm (by rw [h.size]; exact hi) z rfl, fun c a => ?_, by simpa using h.lt, by simpa using h.size, Qdo h.bytes i z hz⟩
 exact (World.cell?_of_block (Below.heap_setCell _ _ _ _ (by simp))).trans (h.pl c a)
theorem Qta {w0 : World} {A P : Array Value} {t1 t2 t3 : TypeId} (h : ((w.alloc (.cells A t1)).alloc (.cells A t2)).alloc (.cells P t3) = w0) (hA : A = zero32.map encB) (hP : P = (placesN.map fun x => Value.int .i64 ((x : Nat) : Int)).toArray) : KeyAt w0 w.heap.size zero32 := by
 subst h
 have b : ((w.alloc (.cells A t1)).alloc (.cells A t2)).heap.size = w.heap.size + 2 := by simp
 refine ⟨?_, ?_, fun c d => ?_, by simp, by simp [zero32], Qgd⟩
 ·refine Qad (Qad (Qac w A t1 32 (by rw [hA]; simp [zero32])) (Below.heap_alloc _ _ _ (by simp))) (Below.heap_alloc _ _ _ (by simp; omega))
 ·have e : Row encB ((w.alloc (.cells A t1)).alloc (.cells A t2)) (w.heap.size + 1) 0 zero32 := by
   rw [hA]
   have := Row.new (enc := encB) (w.alloc (.cells (zero32.map encB) t1)) zero32 t2
   rwa [World.size_alloc] at this
  exact e.alloc (by rw [b]; omega) _
 ·rw [<- b, World.cell?_alloc_new, hP]
  simp only [List.getElem?_toArray, List.getElem?_map]
  have a : c < placesN.length := d
  rw [List.getElem?_eq_getElem a, getElem!_pos placesN c a]
  rfl
theorem Qha {w7 : World} {N : Nat} {D : Array Nat} (hD : D.size = 32) (ht : w7.there N 0 32) :
  (Tryz.prog.info? 42).map (·.size) = some (D.toList.map encB).length /\ (Tryz.prog.info? 42).map (·.size) = some (D.toList.map encB).toArray.size /\ w7.there N 0 (D.toList.map encB).toArray.size /\ w7.there N 0 (D.toList.map encB).length := by
 refine ⟨?_, ?_, ?_, ?_⟩
 ·rw [Qb4]; simp [hD]
 ·rw [Qb4]; simp [hD]
 ·simpa [hD] using ht
 ·simpa [hD] using ht
theorem Qdr {N : Nat} (h : Fed fb raw w w') (hN : w.heap.size <= N) (hfb : fb < w.heap.size) (vs : List Value) (o : Nat) : Fed fb raw w (w'.setCells N o vs) := by
 obtain ⟨b, d, e, f⟩ := Qa9 N vs o w'
 exact ⟨⟨d.trans h.1.os, e.trans h.1.tape, f.trans h.1.output, by rw [b]; exact h.1.size, fun k c a => (Qa8 _ _ _ _ _ (by omega)).trans (h.1.block k c a)⟩, h.2.keep (Qa8 _ _ _ _ _ (by omega)) (Nat.le_of_eq b.symm)⟩
theorem QA2 (fb : Nat) (raw : ByteArray) (w : World) (h : FeedAt w fb raw) (hr : raw.size <= 9223372036854775807) :
  Calls Tryz.prog 14 #[.pointer (some ⟨fb, 0, none⟩)] w fun e w' => ∃ K : Array Nat, K.size = 32 /\ Bytes K /\ e = .returned (.agg (K.toList.map encB).toArray) /\ Fed fb raw w w' := by
 have U := Hq (Qfw fb raw hr)
 have HF := Hq h
 have f := h.lt
 clear h hr
 go_enter Tryz.func14, Tryz.ntmps14
 go_wp2_with fail
 generalize hw0 : World.alloc (World.alloc (World.alloc w _) _) _ = w0
 have R : KeyAt w0 w.heap.size zero32 := Qta hw0 (by kernel_rfl) (by kernel_rfl)
 have Q : Fed fb raw w w0 := by
  rw [<- hw0]
  exact Fed.alloc (Fed.alloc (Fed.alloc ⟨.refl _ _, HF.out⟩ _) _) _
 have S : Hid (KeyAt w0 w.heap.size zero32 /\ Fed fb raw w w0) := ⟨R, Q⟩
 clear hw0 R Q
 refine (U.out 4 w0 S.out.2.2 (by omega) (by omega)).mono ?_
 rintro e w1 ⟨y, ag, rfl, D⟩
 have H1 : Hid (KeyAt w1 w.heap.size zero32 /\ Fed fb raw w w1) := ⟨S.out.1.fed D f, S.out.2.trans D⟩
 clear D
 go_wp2
 go_loopg [5] y (fun g n wr => ∃ (m : Nat) (K : Array Nat), m = g /\ m <= y /\ n = .int .i64 (m : Int) /\ KeyAt wr w.heap.size K /\ Fed fb raw w wr)
 case atStart => exact ⟨y, _, rfl, Nat.le_refl _, rfl, H1.out⟩
 case round =>
  obtain ⟨m, K, rfl, Z, rfl, j, q⟩ := hrel
  by_cases W : m = 0
  ·subst W
   obtain ⟨z1, z2, ac, F⟩ := Qha j.size j.res
   have ae := j.row.range
   have aa := all_oneCell_toArray (Qaf K .u8)
   have H : Hid (KeyAt wr w.heap.size K /\ Fed fb raw w wr /\ wr.there w.heap.size 0 (K.toList.map encB).length) := ⟨j, q, F⟩
   clear j q Z F
   go_wp2_with (first | (refine wpList_load_mid rfl 42 _ rfl (w.heap.size + 1) 0 rfl (K.toList.map encB) _ ae Tryz.underlying42 rfl z1 ?_) | (refine wpList_store_mid rfl 42 _ _ rfl w.heap.size 0 (K.toList.map encB).toArray rfl rfl ac z2 aa ?_))
   refine bodyPost_ret (v := .agg (K.toList.map encB).toArray) (Qaj Tryz.results14 _ _ _ w.heap.size 0 rfl (run_loadVar_mid _ _ _ 42 _ _ (World.rangeAt_setCells_same _ _ _ _ H.out.2.2) Tryz.underlying42 rfl z1)) rfl ⟨K, H.out.1.size, H.out.1.bytes, rfl, ?_⟩
   exact Qdr H.out.2.1 (Nat.le_refl _) f _ _
  ·have aj : (0 : Int) < (m : Int) := by omega
   have ai := j.lt
   have t : Hid (KeyAt wr w.heap.size K /\ Fed fb raw w wr /\ m <= y /\ ¬ m = 0) := ⟨j, q, Z, W⟩
   clear j q Z W
   go_wp2_with fail
   refine (U.out 12 wr t.out.2.1.2 (by omega) (by omega)).mono ?_
   rintro e w2 ⟨I, C, rfl, E⟩
   have B := t.out.1.fed E f
   have p2 := B.pl I C
   have l := Qt9 I
   obtain ⟨b, N⟩ : ∃ x, placesN[I]! = x := ⟨_, rfl⟩
   rw [N] at p2 l
   have i2 : (I : Int) < 12 := by omega
   have T : Hid (KeyAt w2 w.heap.size K /\ Fed fb raw w w2) := ⟨B, t.out.2.1.trans E⟩
   clear E B N
   go_wp2_with fail
   refine (U.out 4 w2 T.out.2.2 (by omega) (by omega)).mono ?_
   rintro e w3 ⟨a, O, rfl, p⟩
   have d := T.out.1.fed p f
   have G : Hid (KeyAt w3 w.heap.size K /\ Fed fb raw w w3) := ⟨d, T.out.2.trans p⟩
   obtain ⟨h, Y⟩ : ∃ h, b / 2 = h := ⟨_, rfl⟩
   have i : h < 32 := by omega
   have ak : (b : Int).tdiv 2 = (h : Int) := by rw [<- Y]; exact (Int.ofNat_tdiv b 2).symm
   obtain ⟨x, J⟩ : ∃ x, K[h]! = x := ⟨_, rfl⟩
   obtain ⟨L, q2⟩ := d.row h (by rw [d.size]; exact i)
   rw [Nat.zero_add, J] at L
   rw [Nat.zero_add] at q2
   have s : x < 256 := by rw [<- J]; exact d.bytes h
   have am : w3.cell? ⟨w.heap.size + 1, h, none⟩ = some (.int .u8 (x : Int)) := L
   have k3 : IntKind.u8.wrap (a : Int) = (a : Int) := Ql8 (by omega)
   have k4 : IntKind.u8.wrap ((a : Int) * 16) = (a : Int) * 16 := by
    have := Ql8 (c := a * 16) (by omega)
    rw [show ((a * 16 : Nat) : Int) = (a : Int) * 16 by omega] at this
    exact this
   have M : Hid (wrap64 ((m : Int) - 1) = ((m - 1 : Nat) : Int)) := by
    have h : wrap64 ((m : Int) - 1) = ((m - 1 : Nat) : Int) := (by unfold wrap64; have := t.out; omega)
    exact h
   have ih : (h : Int) < 32 := by omega
   obtain ⟨g, X⟩ : ∃ g, b % 2 = g := ⟨_, rfl⟩
   have al : (b : Int).tmod 2 = (g : Int) := by rw [<- X]; exact (Int.ofNat_tmod b 2).symm
   have u : Hid (m - 1 <= y /\ m - 1 < m /\ h < 32) := ⟨by have := t.out; omega, by have := t.out; omega, i⟩
   by_cases P : g = 0
   ·obtain ⟨r, o⟩ := QC3 x (a * 16) s (by omega)
    rw [show ((a * 16 : Nat) : Int) = (a : Int) * 16 by omega] at r
    obtain ⟨z, k⟩ : ∃ z, x ||| (a * 16) = z := ⟨_, rfl⟩
    rw [k] at r o
    subst P
    have V : Hid (z < 256) := o
    clear p d Y i J L s k o X l O C
    go_wp2
    go_roundg (m - 1)
    case measure => exact u.out.2.1
    case rel => exact ⟨m - 1, _, rfl, u.out.1, Qas M.out, G.out.1.set u.out.2.2 V.out, Qdr G.out.2 (by omega) f [_] h⟩
   ·obtain ⟨r, o⟩ := QC3 x a s (by omega)
    obtain ⟨z, k⟩ : ∃ z, x ||| a = z := ⟨_, rfl⟩
    rw [k] at r o
    have ah : ((g : Int) == 0) = false := by simp; omega
    have V : Hid (z < 256) := o
    clear p d Y i J L s k o X l O C P
    go_wp2
    go_roundg (m - 1)
    case measure => exact u.out.2.1
    case rel => exact ⟨m - 1, _, rfl, u.out.1, Qas M.out, G.out.1.set u.out.2.2 V.out, Qdr G.out.2 (by omega) f [_] h⟩
theorem Qpl (K L : Array Nat) (hK : K.size = 32) (hL : L.size = 32) (hKb : Bytes K) (hLb : Bytes L) (w : World) : (Op.equalIn 10000 42 (.agg (K.toList.map encB).toArray) (.agg (L.toList.map encB).toArray)).run Tryz.prog w = .ok (decide (K = L)) w := by
 have g : ∀ w, (sizeOf 5).run Tryz.prog w = .ok 1 w := fun w => by kernel_rfl
 have a : ∀ (A : Array Nat), Bytes A -> A.toList.map encB = (A.toList.map UInt8.ofNat).map Extern.Stop.cell := fun A k => by
  rw [List.map_map]
  apply List.map_congr_left
  intro x o
  obtain ⟨j, m, rfl⟩ := List.getElem_of_mem o
  have d : A.toList[j] < 256 := by
   have := k j
   rw [getElem!_pos A j (by simpa using m)] at this
   simpa using this
  show Value.int .u8 _ = Value.int .u8 _
  congr 1
  have n : A[j] < 256 := by simpa using d
  simp
  omega
 have h := run_equalIn_bytes (P := Tryz.prog) w 9998 42 5 32 Tryz.underlying42 Tryz.underlying5 g (K.toList.map UInt8.ofNat) (L.toList.map UInt8.ofNat) (by simp [hK]) (by simp [hL])
 rw [<- a K hKb, <- a L hLb] at h
 rw [h]
 by_cases e : K = L
 ·rw [e, decide_eq_true rfl]
  simp
 ·have f : K.toList.map UInt8.ofNat ≠ L.toList.map UInt8.ofNat := fun l => e (by
   have c := congrArg (List.map Extern.Stop.cell) l
   rw [<- a K hKb, <- a L hLb] at c
   have b : ∀ x y : Nat, encB x = encB y -> x = y := fun x y i => by
    simp only [encB, Value.int.injEq] at i
    omega
   exact Array.toList_inj.1 ((List.map_inj_right (fun {x y} => b x y)).1 c))
  rw [decide_eq_false e, beq_eq_false_iff_ne.2 f]
structure Kn (w : World) (C : Nat) (ks vs : Value) (m : List (Array Nat × ByteArray)) : Prop where
 keys : OwnC w C 32 ks m.length (m.flatMap fun x => x.1.toList.map encB)
 vals : OwnC w C 1 vs m.length (m.map fun x => .string x.2)
 ok : ∀ x ∈ m, x.1.size = 32 /\ Bytes x.1 /\ 0 < x.2.size /\ x.2.size <= 100
 apart : ∀ g, ks.ownBlock = some g -> vs.ownBlock ≠ some g
theorem Kn.below {w w' : World} {C : Nat} {ks vs : Value} {m : List (Array Nat × ByteArray)} (h : Kn w C ks vs m) (hb : Below w.heap.size w w') : Kn w' C ks vs m := ⟨h.keys.below hb, h.vals.below hb, h.ok, h.apart⟩
variable {m : List (Array Nat × ByteArray)} {i : Nat}
theorem Qtb (h : ∀ x ∈ m, x.1.size = 32) (hi : i < m.length) {j : Nat} {u : Value} (hu : (m[i].1.toList.map encB)[j]? = some u) : (m.flatMap fun x => x.1.toList.map encB)[i * 32 + j]? = some u := by
 induction m generalizing i with
 | nil => simp at hi
 | cons x m ih =>
  have a := h x (List.mem_cons_self ..)
  have b : (x.1.toList.map encB).length = 32 := by rw [List.length_map, Array.length_toList, a]
  rw [List.flatMap_cons]
  cases i with
  | zero =>
   rw [List.getElem_cons_zero] at hu
   rw [Nat.zero_mul, Nat.zero_add, List.getElem?_append_left (List.getElem?_eq_some_iff.1 hu).1]
   exact hu
  | succ i =>
   rw [List.getElem_cons_succ] at hu
   rw [List.getElem?_append_right (by omega), b, show (i + 1) * 32 + j - 32 = i * 32 + j by omega]
   exact ih (fun y c => h y (List.mem_cons_of_mem _ c)) (by simpa using hi) hu
variable {C : Nat} {ks vs : Value}
theorem Kn.key (h : Kn w C ks vs m) (hi : i < m.length) : ∃ g cap, ks = .slice (some ⟨g, 0, none⟩) m.length cap /\ g < w.heap.size /\ w.rangeAt g (i * 32) (m[i].1.toList.map encB) := by
 obtain ⟨g, cap, e, f, a, k, l, n, b⟩ : ∃ g cap, ks = .slice (some ⟨g, 0, none⟩) m.length cap /\ C <= g /\ g < w.heap.size /\ m.length <= cap /\ cap <= maxLen /\ w.there g 0 (cap * 32) /\ w.rangeAt g 0 (m.flatMap fun x => x.1.toList.map encB) := by
  rcases h.keys.2 with ⟨_, h0⟩ | h
  ·omega
  ·exact h
 refine ⟨g, cap, e, a, fun j u c => ?_⟩
 have := b (i * 32 + j) u (Qtb (fun x d => (h.ok x d).1) hi c)
 rwa [Nat.zero_add] at this
def findN : List (Array Nat × ByteArray) -> Array Nat -> Option Nat
 | [], _ => none
 | x :: m, K => if x.1 = K then some 0 else (findN m K).map (· + 1)
theorem Qji : ∀ {i : Nat}, (∀ j (h : j < m.length), j < i -> m[j].1 ≠ K) -> i <= m.length -> findN m K = (findN (m.drop i) K).map (· + i) := by
 induction m with
 | nil => intro i _ a; have : i = 0 := (by simpa using a); subst this; rfl
 | cons x m ih =>
  intro i h a
  cases i with
  | zero => rw [List.drop_zero]; cases findN (x :: m) K <;> rfl
  | succ i =>
   have b := h 0 (by simp) (by omega)
   rw [List.getElem_cons_zero] at b
   rw [findN, if_neg b, List.drop_succ_cons, ih (i := i) (fun j c d => by have := h (j + 1) (by simpa using c) (by omega); simpa using this) (by simpa using a)]
   cases findN (m.drop i) K <;> simp [Nat.add_assoc]
theorem Qat {P : Program} {C : World -> Prop} {op : Oper} {a : Act} {K : Act -> Prop} (ty : TypeId) (x : Operand) (ho : op.op = .load ty x) (b o : Nat) (hx : a.eval x = .pointer (some ⟨b, o, none⟩)) (cs : List Value) (d : TypeDesc) (hc : ∀ w, C w -> w.rangeAt b o cs) (hu : P.underlying ty = some d) (hd : d.isRow = true) (hi : (P.info? ty).map (·.size) = some cs.length) (h : K (a.put op.dst (.agg cs.toArray))) : op.quiet P a C K :=
 ⟨_, fun w hw => by
  unfold Oper.quietAt execOp
  simp only [ho, hx, Instr.loadAt, Instr.sureAddr, Sem.run_bind, Sem.run_pure, Result.andThen_ok, run_loadVar_mid w b o ty cs d (hc w hw) hu hd hi]
  exact ⟨rfl, rfl⟩, h⟩
def findV : Option Nat -> Int
 | none => -1
 | some i => (i : Int)
theorem Qwy (h : ∀ j (hj : j < m.length), j < i -> m[j].1 ≠ K) (hi : i < m.length) (he : m[i].1 = K) : findN m K = some i := by
 rw [Qji h (Nat.le_of_lt hi), List.drop_eq_getElem_cons hi, findN, if_pos he]
 simp
theorem Qwz (h : ∀ j (hj : j < m.length), m[j].1 ≠ K) : findN m K = none := by
 rw [Qji (i := m.length) (fun j hj _ => h j hj) (Nat.le_refl _), List.drop_of_length_le (Nat.le_refl _)]
 rfl
theorem Qtc (h : Kn w C ks vs m) (hm : m.length <= 1000) (hK : K.size = 32) (hKb : Bytes K) :
  Calls Tryz.prog 44 #[.agg #[ks, vs], .agg (K.toList.map encB).toArray] w fun e w' => e = .returned (.int .i64 (findV (findN m K))) /\ Below w.heap.size w w' := by
 obtain ⟨P, mk, M, rfl⟩ := h.keys.shape
 obtain ⟨Z, Y, U, rfl⟩ := h.vals.shape
 have X : mk = m.length := by
  rcases h.keys.2 with ⟨h1, h2⟩ | ⟨g, T, h1, _⟩
  ·simp only [Value.slice.injEq] at h1; omega
  ·simp only [Value.slice.injEq] at h1; exact h1.2.1
 subst X
 have I : (Tryz.prog.info? 42).map (·.size) = some (K.toList.map encB).length := by rw [Qb4]; simp [hK]
 obtain ⟨W0, o⟩ : ∃ W0, (w.alloc (.cells #[.slice P m.length M, .slice Z Y U] 25)).alloc (.cells (K.toList.map encB).toArray 42) = W0 := ⟨_, rfl⟩
 have x : Below w.heap.size w W0 := by rw [<- o]; exact ((Below.refl _ _).alloc (Nat.le_refl _) _).alloc (by simp) _
 have H : W0.heap.size = w.heap.size + 2 := by rw [<- o]; simp
 have c0 : W0.cell? ⟨w.heap.size, 0, none⟩ = some (.slice P m.length M) := by rw [<- o]; simp
 have z : W0.rangeAt (w.heap.size + 1) 0 (K.toList.map encB) := fun j u f => by
  have e1 : (w.alloc (.cells #[.slice P m.length M, .slice Z Y U] 25)).heap.size = w.heap.size + 1 := by simp
  rw [<- o, Nat.zero_add, <- e1, World.cell?_alloc_new]
  simpa using f
 have D := Hq (h.below x)
 obtain ⟨R, N⟩ : ∃ R, findV (findN m K) = R := ⟨_, rfl⟩
 have p : Hid (findV (findN m K) = R /\ K.size = 32 /\ Bytes K /\ m.length <= 1000 /\ Below w.heap.size w W0 /\ W0.heap.size = w.heap.size + 2) := ⟨N, hK, hKb, hm, x, H⟩
 have l := Tryz.underlying42
 rw [N]
 clear h hm hK hKb x H N
 go_enter Tryz.func44, Tryz.ntmps44
 go_wp2
 clear o
 go_loopg [5] m.length (fun g i wr => ∃ k : Nat, k <= m.length /\ g = m.length - k /\ i = .int .i64 (k : Int) /\ (∀ j (y : j < m.length), j < k -> m[j].1 ≠ K) /\ ∃ q, wr = W0.drewN q)
 case atStart => exact ⟨0, Nat.zero_le _, rfl, rfl, fun j _ h => absurd h (Nat.not_lt_zero _), 0, rfl⟩
 case round =>
  obtain ⟨k, hk, rfl, rfl, d, q, rfl⟩ := hrel
  by_cases t : k < m.length
  ·have i1 : (k : Int) < (m.length : Int) := by omega
   obtain ⟨g, T, F, aa, G⟩ := D.out.key t
   simp only [Value.slice.injEq] at F
   obtain ⟨rfl, -, rfl⟩ := F
   have c := D.out.ok _ (List.getElem_mem t)
   have B : (Tryz.prog.info? 42).map (·.size) = some (m[k].1.toList.map encB).length := by rw [Qb4]; simp [c.1]
   have E := fun W => Qpl m[k].1 K c.1 p.out.2.1 c.2.1 p.out.2.2.1 W
   have Q := Hq d
   by_cases v : m[k].1 = K
   ·have b : R = (k : Int) := by rw [<- p.out.1, Qwy d t v]; rfl
    rw [decide_eq_true v] at E
    have L := Hq b
    clear d b v c
    go_upto_region 4 with fail
    refine wp_region_quiet_lit (by kernel_rfl) (by kernel_rfl) ?_
    iterate 4 (go_big_quiet_step (fail))
    refine BigFrame.wpQuiet_want rfl fun r a => Qat 42 _ rfl g (k * 32) rfl (m[k].1.toList.map encB) _ (fun W s => ?ld1) l rfl B (a _ ?_)
    case ld1 => obtain ⟨n, rfl⟩ := s; exact fun j u f => (by simpa using G j u f)
    clear r a
    refine BigFrame.wpQuiet_want rfl fun r a => Qat 42 _ rfl (w.heap.size + 1) 0 rfl (K.toList.map encB) _ (fun W s => ?ld2) l rfl I (a _ ?_)
    case ld2 => obtain ⟨n, rfl⟩ := s; exact fun j u f => (by simpa using z j u f)
    clear r a
    quiet_step (fail)
    refine wpQuiet_nil ?_
    rintro _ ⟨O, rfl⟩
    go_wp2
    go_ret
    exact ⟨by rw [L.out]; rfl, Below.drewN (Below.drewN p.out.2.2.2.2.1 q) O⟩
   ·rw [decide_eq_false v] at E
    have HQ : Hid (∀ j (y : j < m.length), j < k + 1 -> m[j].1 ≠ K) := fun j y ac => by
     by_cases e : j = k
     ·subst e; exact v
     ·exact Q.out j y (by omega)
    have V := p.out.2.2.2.1
    have J : wrap64 ((k : Int) + 1) = ((k + 1 : Nat) : Int) := by unfold wrap64; omega
    have S := Hq J
    clear d v c J V
    go_upto_region 4 with fail
    refine wp_region_quiet_lit (by kernel_rfl) (by kernel_rfl) ?_
    iterate 4 (go_big_quiet_step (fail))
    refine BigFrame.wpQuiet_want rfl fun r a => Qat 42 _ rfl g (k * 32) rfl (m[k].1.toList.map encB) _ (fun W s => ?ld1) l rfl B (a _ ?_)
    case ld1 => obtain ⟨n, rfl⟩ := s; exact fun j u f => (by simpa using G j u f)
    clear r a
    refine BigFrame.wpQuiet_want rfl fun r a => Qat 42 _ rfl (w.heap.size + 1) 0 rfl (K.toList.map encB) _ (fun W s => ?ld2) l rfl I (a _ ?_)
    case ld2 => obtain ⟨n, rfl⟩ := s; exact fun j u f => (by simpa using z j u f)
    clear r a
    quiet_step (fail)
    refine wpQuiet_nil ?_
    rintro _ ⟨O, rfl⟩
    go_wp2
    go_roundg (m.length - (k + 1))
    case measure => omega
    case rel => exact ⟨k + 1, t, rfl, by rw [S.out], HQ.out, q + O, rfl⟩
  ·have i1 : ¬ (k : Int) < (m.length : Int) := by omega
   have b : R = -1 := by rw [<- p.out.1, Qwz fun j y => d j y (by omega)]; rfl
   have L := Hq b
   clear d b
   go_wp2
   go_ret
   exact ⟨by rw [L.out]; rfl, Below.drewN p.out.2.2.2.2.1 q⟩
def offAt : Value -> Nat
 | .pointer (some a) => a.off
 | _ => 0
@[simp] theorem Qx0 (b o : Nat) : offAt (.pointer (some ⟨b, o, none⟩)) = o := rfl
@[simp] theorem QC4 (cs : Array Value) : Value.cells (.agg cs) = cs := rfl
def keyCells (w : World) (b o : Nat) : Array Value := ((List.range 32).map fun j => (w.cell? ⟨b, o + j, none⟩).getD undef).toArray
def HasKey (w : World) (b o : Nat) : Prop := ∀ j, j < 32 -> (w.cell? ⟨b, o + j, none⟩).isSome = true
variable {cs : List Value}
theorem Qes {b o : Nat} (h : w.rangeAt b o cs) (hl : cs.length = 32) : keyCells w b o = cs.toArray /\ HasKey w b o := by
 have a : ∀ j (a : j < 32), w.cell? ⟨b, o + j, none⟩ = some (cs[j]'(by omega)) := fun j a => h j _ (List.getElem?_eq_getElem (by omega))
 refine ⟨?_, fun j c => by rw [a j c]; rfl⟩
 unfold keyCells
 apply congrArg List.toArray
 apply List.ext_getElem (by simp [hl])
 intro j d f
 have e : j < 32 := by simpa using d
 rw [List.getElem_map, List.getElem_range, a j e]
 rfl
theorem Qko (w : World) (b o : Nat) : keyCells w.drew b o = keyCells w b o := rfl
theorem Qoi (w : World) (b o : Nat) : HasKey w.drew b o = HasKey w b o := rfl
theorem Qhb (dst : Option Tmp) (x : Operand) (type : TypeId) (pos : String) (af : Array Edge) (gd : Option (Nat × Bool)) (a : Act) (w : World) (K : Act -> World -> Prop) (Q : Exit -> Act -> World -> Prop)
  (hx : a.eval x = .pointer (some ⟨blockOf (a.eval x), offAt (a.eval x), none⟩)) (hall : HasKey w (blockOf (a.eval x)) (offAt (a.eval x))) :
  Oper.wp Tryz.prog { dst := dst, op := .load 42 x, type := type, pos := pos, after := af, guard := gd } a w K Q = K (a.put dst (.agg (keyCells w (blockOf (a.eval x)) (offAt (a.eval x))))) w := by
 generalize blockOf (a.eval x) = b at hx hall ⊢
 generalize offAt (a.eval x) = o at hx hall ⊢
 have f : w.rangeAt b o ((List.range 32).map fun j => (w.cell? ⟨b, o + j, none⟩).getD undef) := by
  intro j v c
  have d : j < 32 := by
   have := (List.getElem?_eq_some_iff.1 c).1
   simpa using this
  obtain ⟨u, e⟩ := Option.isSome_iff_exists.1 (hall j d)
  simp only [List.getElem?_map, List.getElem?_range d, Option.map_some, Option.some.injEq] at c
  rw [e, <- c, e]
  rfl
 unfold Oper.wp execOp
 simp only [hx, Instr.loadAt, Instr.sureAddr, Sem.run_bind, Sem.run_pure, Result.andThen_ok, run_loadVar_mid w b o 42 _ _ f Tryz.underlying42 rfl (by rw [Qb4]; simp)]
 rfl
theorem keyZ : (Tryz.prog.info? 42).map (fun i => (i.zero, i.size, i.bytes)) = some (some (.agg (zero32.map encB)), 32, 32) := by kernel_rfl
theorem strZ : (Tryz.prog.info? 9).map (fun i => (i.zero, i.size, i.bytes)) = some (some (.string ⟨#[]⟩), 1, 16) := by kernel_rfl
theorem Qkp (w : World) (cs : Array Value) (h : cs.size = 32) : (Instr.buildSlice 22 1 #[(0, .agg cs)]).run Tryz.prog w = .ok (.slice (some ⟨w.heap.size, 0, none⟩) 1 1) (w.alloc (.cells cs 42)) := by
 obtain ⟨i, b, c, a, d⟩ := info_parts keyZ
 refine run_buildSlice w _ 42 1 _ cs i (.agg (zero32.map encB)) Tryz.underlying22 b c (by rw [a]; decide) (by rw [a]; decide) ?_
 rw [a]
 have := Great.fill_whole (s := 32) (by decide) [.agg cs] ((Array.range (1 * 32)).map ((Value.agg (zero32.map encB)).cells[· % (Value.agg (zero32.map encB)).cells.size]!)) (by simpa [Value.cells] using h) (by simp)
 simpa [Value.cells] using this
theorem Qge (dst : Option Tmp) (x : Operand) (type : TypeId) (pos : String) (af : Array Edge) (gd : Option (Nat × Bool)) (a : Act) (w : World) (K : Act -> World -> Prop) (Q : Exit -> Act -> World -> Prop)
  (hx : a.eval x = .agg (a.eval x).cells) (hs : (a.eval x).cells.size = 32) :
  Oper.wp Tryz.prog { dst := dst, op := .buildSlice 22 1 #[(0, x)], type := type, pos := pos, after := af, guard := gd } a w K Q = K (a.put dst (.slice (some ⟨w.heap.size, 0, none⟩) 1 1)) (w.alloc (.cells (a.eval x).cells 42)) := by
 generalize (a.eval x).cells = cs at hx hs ⊢
 have h := Qkp w cs hs
 unfold Oper.wp execOp
 simp only [List.map_toArray, List.map_cons, List.map_nil, hx, Sem.run_bind, h, Result.andThen_ok]
 rfl
structure Kv (w : World) (C ob : Nat) (ks vs : Value) (A : List (Array Nat)) (V : List ByteArray) : Prop where
 keys : OwnC w C 32 ks A.length (A.flatMap fun x => x.toList.map encB)
 vals : OwnC w C 1 vs V.length (V.map Value.string)
 apart : ∀ g, ks.ownBlock = some g -> vs.ownBlock ≠ some g
 c0 : w.cell? ⟨ob, 0, none⟩ = some ks
 c1 : w.cell? ⟨ob, 1, none⟩ = some vs
 f0 : w.frozen? ⟨ob, 0, none⟩ = false
 f1 : w.frozen? ⟨ob, 1, none⟩ = false
 lt : ob < w.heap.size
 size : C <= w.heap.size
 nk : ks.ownBlock ≠ some ob
 nv : vs.ownBlock ≠ some ob
theorem Kv.heap {w w' : World} {C ob : Nat} {ks vs : Value} {A : List (Array Nat)} {V : List ByteArray} (h : Kv w C ob ks vs A V) (hh : w'.heap = w.heap) : Kv w' C ob ks vs A V :=
 ⟨h.keys.keep (by rw [hh]; exact Nat.le_refl _) fun k _ _ => by rw [hh], h.vals.keep (by rw [hh]; exact Nat.le_refl _) fun k _ _ => by rw [hh], h.apart, (World.cell?_of_block (by rw [hh])).trans h.c0, (World.cell?_of_block (by rw [hh])).trans h.c1, (World.frozen?_of_block (by rw [hh])).trans h.f0, (World.frozen?_of_block (by rw [hh])).trans h.f1, by rw [hh]; exact h.lt, by rw [hh]; exact h.size, h.nk, h.nv⟩
variable {w2 : World} {ob : Nat} {A : List (Array Nat)} {V : List ByteArray} {o : Obj} {x : Option Nat}
theorem Kv.var (h : Kv w C ob ks vs A V) (hx : x = ks.ownBlock \/ x = vs.ownBlock) (hg : (w.alloc o).grownBy w2 x) : w2.heap[ob]? = w.heap[ob]? /\ ob < w2.heap.size /\ C <= w2.heap.size := by
 have a := hg.size
 have b := h.lt
 have c := h.size
 simp only [World.size_alloc] at a
 refine ⟨(hg.block ob (by simp; omega) fun e => ?_).trans (Below.heap_alloc _ _ _ (by omega)), by omega, by omega⟩
 rcases hx with rfl | rfl
 ·exact h.nk e.symm
 ·exact h.nv e.symm
theorem Qdb {size : Nat} {v : Value} {n : Nat} (h : OwnC w C size v n cs) (hob : v.ownBlock ≠ some ob) (j : Nat) (u : Value) : OwnC (w.setCell ⟨ob, j, none⟩ u) C size v n cs :=
 h.keep (by simp) fun k _ e => Below.heap_setCell _ _ _ _ (fun e' => hob (by rw [e]; exact congrArg some e'))
theorem Kv.key {v2 : Value} (h : Kv w C ob ks vs A V) (hO : OwnC w2 C 32 v2 (A.length + 1) ((A.flatMap fun x => x.toList.map encB) ++ K.toList.map encB)) (hg : (w.alloc o).grownBy w2 ks.ownBlock) (hf : ∀ k, v2.ownBlock = some k -> ks.ownBlock = some k \/ (w.alloc o).heap.size <= k) : Kv (w2.setCell ⟨ob, 0, none⟩ v2) C ob v2 vs (A ++ [K]) V := by
 obtain ⟨b, i, d⟩ := h.var (.inl rfl) hg
 have j : OwnC w2 C 1 vs V.length (V.map Value.string) := (h.vals.alloc o).keep hg.size fun k f e => hg.block k f fun a => h.apart k a.symm e
 have c : v2.ownBlock ≠ some ob := fun e => by
  rcases hf ob e with e2 | e2
  ·exact h.nk e2
  ·have := h.lt
   simp at e2
   omega
 refine ⟨?_, Qdb j h.nv _ _, fun g e a => ?_, ?_, ?_, ?_, ?_, by simpa using i, by simpa using d, c, h.nv⟩
 ·have := Qdb hO c 0 v2
  rw [List.length_append, List.flatMap_append]
  simpa using this
 ·rcases hf g e with e2 | e2
  ·exact h.apart g e2 a
  ·have := (h.vals.block g a).2
   simp at e2
   omega
 ·exact World.cell?_setCell_same' _ _ _ (by rw [World.cell?_of_block b, h.c0]; rfl)
 ·rw [World.cell?_setCell_other _ _ _ _ (by simp), World.cell?_of_block b, h.c1]
 ·rw [World.frozen?_setCell, World.frozen?_of_block b, h.f0]
 ·rw [World.frozen?_setCell, World.frozen?_of_block b, h.f1]
variable {u : ByteArray}
theorem Kv.val {v2 : Value} (h : Kv w C ob ks vs A V) (hO : OwnC w2 C 1 v2 (V.length + 1) (V.map Value.string ++ [.string u])) (hg : (w.alloc o).grownBy w2 vs.ownBlock) (hf : ∀ k, v2.ownBlock = some k -> vs.ownBlock = some k \/ (w.alloc o).heap.size <= k) : Kv (w2.setCell ⟨ob, 1, none⟩ v2) C ob ks v2 A (V ++ [u]) := by
 obtain ⟨a, i, d⟩ := h.var (.inr rfl) hg
 have j : OwnC w2 C 32 ks A.length (A.flatMap fun x => x.toList.map encB) := (h.keys.alloc o).keep hg.size fun k f e => hg.block k f fun c => h.apart k e c.symm
 have b : v2.ownBlock ≠ some ob := fun e => by
  rcases hf ob e with e2 | e2
  ·exact h.nv e2
  ·have := h.lt
   simp at e2
   omega
 refine ⟨Qdb j h.nk _ _, ?_, fun g e c => ?_, ?_, ?_, ?_, ?_, by simpa using i, by simpa using d, h.nk, b⟩
 ·have := Qdb hO b 1 v2
  rw [List.length_append, List.map_append]
  simpa using this
 ·rcases hf g c with e2 | e2
  ·exact h.apart g e e2
  ·have := (h.keys.block g e).2
   simp at e2
   omega
 ·rw [World.cell?_setCell_other _ _ _ _ (by simp), World.cell?_of_block a, h.c0]
 ·exact World.cell?_setCell_same' _ _ _ (by rw [World.cell?_of_block a, h.c1]; rfl)
 ·rw [World.frozen?_setCell, World.frozen?_of_block a, h.f0]
 ·rw [World.frozen?_setCell, World.frozen?_of_block a, h.f1]
variable {W0 : World}
theorem Kv.below {B : Nat} (h : Kv w C ob ks vs A V) (hx : x = ks.ownBlock \/ x = vs.ownBlock) (hg : (w.alloc o).grownBy w2 x) (hb : Below B W0 w) (hB : B <= ob) (hBC : B <= C) (hB0 : B <= W0.heap.size) (j : Nat) (u : Value) : Below B W0 (w2.setCell ⟨ob, j, none⟩ u) := by
 refine (Qjp (hb.alloc (Nat.le_trans hB0 hb.size) o) hB0 hg fun k e => ?_).setCell (p := ⟨ob, j, none⟩) hB u
 rcases hx with rfl | rfl
 ·have := (h.keys.block k e).1; omega
 ·have := (h.vals.block k e).1; omega
theorem Kv.kn (h : Kv w C ob ks vs (m.map (·.1)) (m.map (·.2))) (ok : ∀ x ∈ m, x.1.size = 32 /\ Bytes x.1 /\ 0 < x.2.size /\ x.2.size <= 100) : Kn w C ks vs m := by
 refine ⟨?_, ?_, ok, h.apart⟩
 ·have := h.keys
  rw [List.length_map, List.flatMap_map] at this
  exact this
 ·have := h.vals
  rw [List.length_map, List.map_map] at this
  exact this
def woN (m : List (Array Nat × ByteArray)) (K : Array Nat) : List (Array Nat × ByteArray) := m.filter fun x => decide (x.1 ≠ K)
theorem Qr7 {k : Nat} (hk : k < m.length) (h : m[k].1 ≠ K) : woN (m.take (k + 1)) K = woN (m.take k) K ++ [m[k]] := by
 rw [woN, woN, List.take_succ_eq_append_getElem hk, List.filter_append]
 simp [h]
theorem Qr8 {k : Nat} (hk : k < m.length) (h : m[k].1 = K) : woN (m.take (k + 1)) K = woN (m.take k) K := by
 rw [woN, woN, List.take_succ_eq_append_getElem hk, List.filter_append]
 simp [h]
theorem Qtd (m : List (Array Nat × ByteArray)) (K : Array Nat) : (woN m K).length <= m.length := List.length_filter_le ..
theorem Qet (K : Array Nat) : ∀ u ∈ K.toList.map encB, u.oneCell' = true := Qaf K .u8
theorem Kn.val (h : Kn w C ks vs m) (hi : i < m.length) : ∃ g cap, vs = .slice (some ⟨g, 0, none⟩) m.length cap /\ g < w.heap.size /\ w.cell? ⟨g, i, none⟩ = some (.string m[i].2) := by
 obtain ⟨g, cap, e, c, a, d, f, j, b⟩ := h.vals.full (by omega)
 refine ⟨g, cap, e, a, ?_⟩
 have := b i (.string m[i].2) (by rw [List.getElem?_map, List.getElem?_eq_getElem hi]; rfl)
 rwa [Nat.zero_add] at this
theorem Qx1 : (Value.agg (zero32.map encB)).cells.size = 32 := by simp [zero32]
theorem Qte (h : w.drew.grownBy w2 x) : w.grownBy w2 x := ⟨h.os, h.tape, h.output, h.size, h.block⟩
theorem Qx2 (w : World) (a b c d : Obj) : ((((w.alloc a).alloc b).alloc c).alloc d).heap[w.heap.size]? = some a /\ ((((w.alloc a).alloc b).alloc c).alloc d).heap[w.heap.size + 1]? = some b /\ ((((w.alloc a).alloc b).alloc c).alloc d).heap[w.heap.size + 2]? = some c /\ ((((w.alloc a).alloc b).alloc c).alloc d).heap[w.heap.size + 3]? = some d := by
 have e : ∀ (w : World) (o : Obj), (w.alloc o).heap[w.heap.size]? = some o := fun w o => Array.getElem?_push_size
 have f : (w.alloc a).heap.size = w.heap.size + 1 := by simp
 have g : ((w.alloc a).alloc b).heap.size = w.heap.size + 2 := by simp
 have h : (((w.alloc a).alloc b).alloc c).heap.size = w.heap.size + 3 := by simp
 refine ⟨?_, ?_, ?_, ?_⟩
 ·rw [Below.heap_alloc _ _ _ (by omega), Below.heap_alloc _ _ _ (by omega), Below.heap_alloc _ _ _ (by omega)]
  exact e w a
 ·rw [Below.heap_alloc _ _ _ (by omega), Below.heap_alloc _ _ _ (by omega), <- f]
  exact e _ b
 ·rw [Below.heap_alloc _ _ _ (by omega), <- g]
  exact e _ c
 ·rw [<- h]
  exact e _ d
variable {wr : World} {l : List (Array Nat × ByteArray)}
theorem Qoj {ko vo : Value} (hk : Kv wr (w.heap.size + 4) (w.heap.size + 3) ko vo (l.map (·.1)) (l.map (·.2))) (hb : Below (w.heap.size + 3) W0 wr) (hb0 : Below w.heap.size w W0) (hl : l = woN m K) (h : Kn W0 C ks vs m) (wz : World) (h1 : wz.os = wr.os) (h2 : wz.tape = wr.tape) (h3 : wz.output = wr.output) (h4 : wz.heap = ((wr.setCell ⟨w.heap.size + 2, 0, none⟩ ko).setCell ⟨w.heap.size + 2, 1, none⟩ vo).heap) : Below w.heap.size w wz /\ Kn wz w.heap.size ko vo (woN m K) := by
 subst hl
 have c : Below w.heap.size w wr := hb0.trans (hb.mono (by omega))
 have i := hk.size
 have a : Kn wr (w.heap.size + 4) ko vo (woN m K) := hk.kn fun x g => h.ok x (List.mem_filter.1 g).1
 have d : ∀ j, j ≠ w.heap.size + 2 -> wz.heap[j]? = wr.heap[j]? := fun j b => by
  rw [h4, Below.heap_setCell _ _ _ _ b, Below.heap_setCell _ _ _ _ b]
 have f : wz.heap.size = wr.heap.size := by rw [h4]; simp
 refine ⟨⟨h1.trans c.os, h2.trans c.tape, h3.trans c.output, by rw [f]; exact c.size, fun j b => (d j (by omega)).trans (c.block j b)⟩, ?_⟩
 exact ⟨(a.keys.keep (Nat.le_of_eq f.symm) fun j b e => d j (by have := (a.keys.block j e).1; omega)).mono (by omega), (a.vals.keep (Nat.le_of_eq f.symm) fun j b e => d j (by have := (a.vals.block j e).1; omega)).mono (by omega), a.ok, a.apart⟩
attribute [local go_sem ↓] Qhb Qge in
theorem Qok (h : Kn w C ks vs m) (hm : m.length <= 1000) (hK : K.size = 32) (hKb : Bytes K) :
  Calls Tryz.prog 29 #[.agg #[ks, vs], .agg (K.toList.map encB).toArray] w fun e w' => Below w.heap.size w w' /\ ∃ ks' vs', e = .returned (.agg #[ks', vs']) /\ Kn w' w.heap.size ks' vs' (woN m K) := by
 obtain ⟨pk, mk, ck, rfl⟩ := h.keys.shape
 obtain ⟨pv, mv, cv, rfl⟩ := h.vals.shape
 have bv : mk = m.length := by
  rcases h.keys.2 with ⟨h1, h2⟩ | ⟨g, bo, h1, _⟩
  ·simp only [Value.slice.injEq] at h1; omega
  ·simp only [Value.slice.injEq] at h1; exact h1.2.1
 subst bv
 obtain ⟨i0, hi, cg, ch, ci⟩ := info_parts keyZ
 obtain ⟨j0, hj, bz, ce, cf⟩ := info_parts strZ
 have ax : (Tryz.prog.info? 42).map (·.size) = some (K.toList.map encB).length := by rw [Qb4]; simp [hK]
 obtain ⟨W0, ah⟩ : ∃ W0, ((((w.alloc (.cells #[.slice pk m.length ck, .slice pv mv cv] 25)).alloc (.cells (K.toList.map encB).toArray 42)).alloc (.cells #[.slice none 0 0, .slice none 0 0] 25)).alloc (.cells #[.slice none 0 0, .slice none 0 0] 25)) = W0 := ⟨_, rfl⟩
 have ap : Below w.heap.size w W0 := by rw [<- ah]; exact ((((Below.refl _ _).alloc (Nat.le_refl _) _).alloc (by simp) _).alloc (by simp; omega) _).alloc (by simp; omega) _
 have bg : W0.heap.size = w.heap.size + 4 := by rw [<- ah]; simp
 obtain ⟨aj, au, f, M⟩ := Qx2 w (.cells #[.slice pk m.length ck, .slice pv mv cv] 25) (.cells (K.toList.map encB).toArray 42) (.cells #[.slice none 0 0, .slice none 0 0] 25) (.cells #[.slice none 0 0, .slice none 0 0] 25)
 rw [ah] at aj au f M
 have c0 : W0.cell? ⟨w.heap.size, 0, none⟩ = some (.slice pk m.length ck) := cell_of_row W0 _ 0 _ _ (0, 0) aj
 have c1 : W0.cell? ⟨w.heap.size, 1, none⟩ = some (.slice pv mv cv) := cell_of_row W0 _ 1 _ _ (0, 0) aj
 have r0 : W0.cell? ⟨w.heap.size + 2, 0, none⟩ = some (.slice none 0 0) := cell_of_row W0 _ 0 _ _ (0, 0) f
 have r1 : W0.cell? ⟨w.heap.size + 2, 1, none⟩ = some (.slice none 0 0) := cell_of_row W0 _ 1 _ _ (0, 0) f
 have q0 : W0.frozen? ⟨w.heap.size + 2, 0, none⟩ = false := frozen_of_row W0 _ 0 _ _ f
 have q1 : W0.frozen? ⟨w.heap.size + 2, 1, none⟩ = false := frozen_of_row W0 _ 1 _ _ f
 have bh : Kv W0 (w.heap.size + 4) (w.heap.size + 3) (.slice none 0 0) (.slice none 0 0) [] [] := ⟨OwnC.nil _ _ _, OwnC.nil _ _ _, fun g e => by simp [Value.ownBlock] at e, cell_of_row W0 _ 0 _ _ (0, 0) M, cell_of_row W0 _ 1 _ _ (0, 0) M, frozen_of_row W0 _ 0 _ _ M, frozen_of_row W0 _ 1 _ _ M, by omega, by omega, by simp [Value.ownBlock], by simp [Value.ownBlock]⟩
 have aa : W0.rangeAt (w.heap.size + 1) 0 (K.toList.map encB) := fun j u F => by
  rw [Nat.zero_add, cell_of_row W0 _ j _ _ (0, 0) au]
  simpa using F
 clear aj au f M
 have ac := Hq (h.below ap)
 have HG : Hid ((∀ g, pk = some ⟨g, 0, none⟩ -> g < w.heap.size) /\ (∀ g, pv = some ⟨g, 0, none⟩ -> g < w.heap.size)) := ⟨fun g e => (h.keys.block g (by rw [e]; rfl)).2, fun g e => (h.vals.block g (by rw [e]; rfl)).2⟩
 have O : Hid (K.size = 32 /\ Bytes K /\ m.length <= 1000 /\ Below w.heap.size w W0 /\ W0.heap.size = w.heap.size + 4) := ⟨hK, hKb, hm, ap, bg⟩
 have HC : Hid (W0.cell? ⟨w.heap.size + 2, 0, none⟩ = some (.slice none 0 0) /\ W0.cell? ⟨w.heap.size + 2, 1, none⟩ = some (.slice none 0 0) /\ W0.frozen? ⟨w.heap.size + 2, 0, none⟩ = false /\ W0.frozen? ⟨w.heap.size + 2, 1, none⟩ = false) := ⟨r0, r1, q0, q1⟩
 have bn := Hq bh
 have G := Tryz.underlying42
 clear h hm hK hKb ap bg r0 r1 q0 q1 bh
 go_enter Tryz.func29, Tryz.ntmps29
 go_wp2
 clear ah
 go_loopg [6] m.length (fun g i wr => ∃ (k : Nat) (ko vo : Value), k <= m.length /\ g = m.length - k /\ i = .int .i64 (k : Int) /\ Kv wr (w.heap.size + 4) (w.heap.size + 3) ko vo ((woN (m.take k) K).map (·.1)) ((woN (m.take k) K).map (·.2)) /\ Below (w.heap.size + 3) W0 wr)
 case atStart => exact ⟨0, _, _, Nat.zero_le _, rfl, rfl, bn.out, .refl _ _⟩
 case round =>
  obtain ⟨k, ko, vo, hk, rfl, rfl, V, R⟩ := hrel
  obtain ⟨Y, X, P, rfl⟩ := V.keys.shape
  obtain ⟨J, I, y, rfl⟩ := V.vals.shape
  have bc : w.heap.size + 3 < wr.heap.size := by have := V.size; omega
  have d0 : wr.cell? ⟨w.heap.size, 0, none⟩ = some (.slice pk m.length ck) := (World.cell?_of_block (R.block _ (by show w.heap.size < _; omega))).trans c0
  have d1 : wr.cell? ⟨w.heap.size, 1, none⟩ = some (.slice pv mv cv) := (World.cell?_of_block (R.block _ (by show w.heap.size < _; omega))).trans c1
  have s : wr.rangeAt (w.heap.size + 1) 0 (K.toList.map encB) := Qa4 aa (R.block _ (by omega))
  have c : Hid (Kv wr (w.heap.size + 4) (w.heap.size + 3) (.slice Y X P) (.slice J I y) ((woN (m.take k) K).map (·.1)) ((woN (m.take k) K).map (·.2)) /\ Below (w.heap.size + 3) W0 wr /\ k <= m.length) := ⟨V, R, hk⟩
  clear V R hk
  by_cases D : k < m.length
  ·have i1 : (k : Int) < (m.length : Int) := by omega
   obtain ⟨g, bo, ba, b7, ak⟩ := ac.out.key D
   simp only [Value.slice.injEq] at ba
   obtain ⟨rfl, -, rfl⟩ := ba
   obtain ⟨Q, cl, bi, ar, aq⟩ := ac.out.val D
   simp only [Value.slice.injEq] at bi
   obtain ⟨rfl, rfl, rfl⟩ := bi
   have r := ac.out.ok _ (List.getElem_mem D)
   have E : (Tryz.prog.info? 42).map (·.size) = some (m[k].1.toList.map encB).length := by rw [Qb4]; simp [r.1]
   have S := fun W => Qpl m[k].1 K r.1 O.out.1 r.2.1 O.out.2.1 W
   have cm : g < w.heap.size := HG.out.1 g rfl
   have cj : Q < w.heap.size := HG.out.2 Q rfl
   by_cases he : m[k].1 = K
   ·rw [decide_eq_true he] at S
    have hT := Qr8 D he
    have l : wr.rangeAt g (k * 32) (m[k].1.toList.map encB) := Qa4 ak (c.out.2.1.block _ (by omega))
    have HT := Hq hT
    obtain ⟨L, hL⟩ : ∃ L, m[k].1 = L := ⟨_, rfl⟩
    rw [hL] at l E S
    have ao : Hid (wrap64 ((k : Int) + 1) = ((k + 1 : Nat) : Int)) := by
     have := O.out.2.2.1
     have h : wrap64 ((k : Int) + 1) = ((k + 1 : Nat) : Int) := by unfold wrap64; omega
     exact h
    clear hT ak aq r he hL b7 ar c0 c1
    go_upto_region 5 with fail
    refine wp_region_quiet_lit (by kernel_rfl) (by kernel_rfl) ?_
    iterate 4 (go_big_quiet_step (fail))
    refine BigFrame.wpQuiet_want rfl fun Z d => Qat 42 _ rfl g (k * 32) rfl (L.toList.map encB) _ (fun W hW => ?ld1) G rfl E (d _ ?_)
    case ld1 => obtain ⟨n, rfl⟩ := hW; exact fun j u F => (by simpa using l j u F)
    clear Z d
    refine BigFrame.wpQuiet_want rfl fun Z d => Qat 42 _ rfl (w.heap.size + 1) 0 rfl (K.toList.map encB) _ (fun W hW => ?ld2) G rfl ax (d _ ?_)
    case ld2 => obtain ⟨n, rfl⟩ := hW; exact fun j u F => (by simpa using s j u F)
    clear Z d
    quiet_step (fail)
    refine wpQuiet_nil ?_
    rintro _ ⟨nq, rfl⟩
    go_wp2
    go_roundg (m.length - (k + 1))
    case measure => omega
    case rel =>
     refine ⟨k + 1, .slice Y X P, .slice J I y, D, rfl, by rw [ao.out], ?_, Below.drewN c.out.2.1 _⟩
     rw [HT.out]
     exact c.out.1.heap rfl
   ·rw [decide_eq_false he] at S
    have hT := Qr7 D he
    have l : wr.rangeAt g (k * 32) (m[k].1.toList.map encB) := Qa4 ak (c.out.2.1.block _ (by omega))
    have N : wr.cell? ⟨Q, k, none⟩ = some (.string m[k].2) := (World.cell?_of_block (c.out.2.1.block Q (by omega))).trans aq
    have HT := Hq hT
    obtain ⟨L, hL⟩ : ∃ L, m[k].1 = L := ⟨_, rfl⟩
    obtain ⟨U, hU⟩ : ∃ U, m[k].2 = U := ⟨_, rfl⟩
    rw [hL] at l E S
    rw [hU] at N
    have ag : Hid (L.size = 32 /\ m[k].1 = L /\ m[k].2 = U) := ⟨hL ▸ r.1, hL, hU⟩
    clear hT ak aq r he hL hU b7 ar c0 c1
    go_upto_region 5 with fail
    refine wp_region_quiet_lit (by kernel_rfl) (by kernel_rfl) ?_
    iterate 4 (go_big_quiet_step (fail))
    refine BigFrame.wpQuiet_want rfl fun Z d => Qat 42 _ rfl g (k * 32) rfl (L.toList.map encB) _ (fun W hW => ?ld1) G rfl E (d _ ?_)
    case ld1 => obtain ⟨n, rfl⟩ := hW; exact fun j u F => (by simpa using l j u F)
    clear Z d
    refine BigFrame.wpQuiet_want rfl fun Z d => Qat 42 _ rfl (w.heap.size + 1) 0 rfl (K.toList.map encB) _ (fun W hW => ?ld2) G rfl ax (d _ ?_)
    case ld2 => obtain ⟨n, rfl⟩ := hW; exact fun j u F => (by simpa using s j u F)
    clear Z d
    quiet_step (fail)
    refine wpQuiet_nil ?_
    rintro _ ⟨nq, rfl⟩
    go_upto_region 6 with fail
    generalize hWq : wr.drewN _ = W
    have hh : W.heap = wr.heap := by rw [<- hWq]; rfl
    have b : Hid (Kv W (w.heap.size + 4) (w.heap.size + 3) (.slice Y X P) (.slice J I y) ((woN (m.take k) K).map (·.1)) ((woN (m.take k) K).map (·.2)) /\ Below (w.heap.size + 3) W0 W) := ⟨c.out.1.heap hh, by rw [<- hWq]; exact Below.drewN c.out.2.1 _⟩
    rw [<- hh] at bc
    rw [<- Qcv hh] at d0 d1 N
    have aw : W.rangeAt g (k * 32) (L.toList.map encB) := fun j u F => by rw [Qcv hh]; exact l j u F
    obtain ⟨kc, bj⟩ := Qes aw (by simp [ag.out.1])
    have bf : (L.toList.map encB).toArray.size = 32 := by simp [ag.out.1]
    have kd := Qko
    have kh := Qoi
    have o0 := b.out.1.c0
    have o1 := b.out.1.c1
    have y0 := b.out.1.f0
    have y1 := b.out.1.f1
    have al : Hid (∀ t, (W.alloc (.cells (L.toList.map encB).toArray t)).drew.rangeAt W.heap.size 0 (L.toList.map encB)) := fun t => Qap W (L.toList.map encB) t
    have az : Hid (∀ o, OwnC (W.alloc o).drew (w.heap.size + 4) 32 (.slice Y X P) ((woN (m.take k) K).map (·.1)).length (((woN (m.take k) K).map (·.1)).flatMap fun x => x.toList.map encB)) := fun o => (b.out.1.keys.alloc o).drew
    have HN : Hid (((woN (m.take k) K).map (·.1)).length <= 1000 /\ w.heap.size + 4 <= W.heap.size) := ⟨by have := Qtd (m.take k) K; have := O.out.2.2.1; have := c.out.2.2; simp at *; omega, b.out.1.size⟩
    clear hWq hh s l aw c aa S G ax E
    go_cut [25] from 7 to 40 (fun _ wc => ∃ p2 m2 k2, Kv wc (w.heap.size + 4) (w.heap.size + 3) (.slice p2 m2 k2) (.slice J I y) ((woN (m.take k) K).map (·.1) ++ [L]) ((woN (m.take k) K).map (·.2)) /\ Below (w.heap.size + 3) W0 wc)
    case first =>
     go_region_law
      (refine Qc7 _ rfl (.tmp 22) (.tmp 28) 22 rfl 42 i0 (.agg (zero32.map encB)) 32 32 Tryz.underlying22 hi cg ch ci Qx1 (by decide) (w.heap.size + 4) (.slice Y X P) _ _ (by simp [Act.eval]) (az.out _) W.heap.size 0 1 1 (L.toList.map encB) (by simp [Act.eval]) (by simpa using bf) (al.out _) (Qet L) (by have := HN.out; unfold maxLen; omega) (by have := HN.out; omega) (by have := HN.out; simp; omega) ?_; intro v2 w2 z B T f; have p := Qte B; have AM : Aside (Kv (w2.setCell ⟨w.heap.size + 3, 0, none⟩ v2) (w.heap.size + 4) (w.heap.size + 3) v2 (.slice J I y) ((woN (m.take k) K).map (·.1) ++ [L]) ((woN (m.take k) K).map (·.2)) /\ Below (w.heap.size + 3) W0 (w2.setCell ⟨w.heap.size + 3, 0, none⟩ v2)) := ⟨b.out.1.key z p T, b.out.1.below (.inl rfl) p b.out.2 (Nat.le_refl _) (by omega) (by have := O.out.2.2.2.2; omega) _ _⟩; obtain ⟨H, bx, ay⟩ := b.out.1.var (.inl rfl) p; have z0 := (World.cell?_of_block (a := ⟨w.heap.size + 3, 0, none⟩) H).trans o0; have z1 := (World.frozen?_of_block (a := ⟨w.heap.size + 3, 0, none⟩) H).trans y0; obtain ⟨p2, m2, k2, rfl⟩ := z.shape; clear z p B T f H ay)
     all_goals go_wp2
     all_goals go_meet
     all_goals exact ⟨_, _, _, AM.out⟩
    case rest =>
     obtain ⟨p2, m2, k2, q, ai⟩ := hcut
     have e0 : wc.cell? ⟨w.heap.size, 1, none⟩ = some (.slice (some ⟨Q, 0, none⟩) m.length cv) := (World.cell?_of_block ((ai.block _ (by show w.heap.size < _; omega)).trans (b.out.2.block _ (by show w.heap.size < _; omega)).symm)).trans d1
     have e1 : wc.cell? ⟨Q, k, none⟩ = some (.string U) := (World.cell?_of_block ((ai.block Q (by omega)).trans (b.out.2.block Q (by omega)).symm)).trans N
     have o2 := q.c0
     have o3 := q.c1
     have y2 := q.f0
     have y3 := q.f1
     have cp : w.heap.size + 3 < wc.heap.size := by have := q.size; omega
     have ae : Hid (Kv wc (w.heap.size + 4) (w.heap.size + 3) (.slice p2 m2 k2) (.slice J I y) ((woN (m.take k) K).map (·.1) ++ [L]) ((woN (m.take k) K).map (·.2)) /\ Below (w.heap.size + 3) W0 wc) := ⟨q, ai⟩
     have bl : Hid (∀ t, (wc.alloc (.cells #[.string U] t)).drew.rangeAt wc.heap.size 0 [.string U]) := fun t => Qap wc [.string U] t
     have bm : Hid (∀ o, OwnC (wc.alloc o).drew (w.heap.size + 4) 1 (.slice J I y) ((woN (m.take k) K).map (·.2)).length (((woN (m.take k) K).map (·.2)).map Value.string)) := fun o => (q.vals.alloc o).drew
     have am : Hid (((woN (m.take k) K).map (·.2)).length <= 1000 /\ w.heap.size + 4 <= wc.heap.size) := ⟨by have := HN.out.1; simpa using this, q.size⟩
     clear d0 d1 N bc b kc bj bf kd kh o0 o1 y0 y1 al az HN q ai
     go_upto_region 7 with fail
     have ao : Hid (wrap64 ((k : Int) + 1) = ((k + 1 : Nat) : Int)) := by
      have := O.out.2.2.1
      have h : wrap64 ((k : Int) + 1) = ((k + 1 : Nat) : Int) := by unfold wrap64; omega
      exact h
     go_region_law
      (refine Qc7 _ rfl (.tmp 32) (.tmp 38) 23 rfl 9 j0 (.string ⟨#[]⟩) 1 16 Tryz.underlying23 hj bz ce cf rfl (by decide) (w.heap.size + 4) (.slice J I y) _ _ (by simp [Act.eval]) (bm.out _) wc.heap.size 0 1 1 [.string U] (by simp [Act.eval]) rfl (bl.out _) (by simp [Value.oneCell']) (by have := am.out; unfold maxLen; omega) (by have := am.out; omega) (by have := am.out; simp; omega) ?_; intro v2 w2 z B T f; have p := Qte B; have AM : Aside (Kv (w2.setCell ⟨w.heap.size + 3, 1, none⟩ v2) (w.heap.size + 4) (w.heap.size + 3) (.slice p2 m2 k2) v2 ((woN (m.take k) K).map (·.1) ++ [L]) ((woN (m.take k) K).map (·.2) ++ [U]) /\ Below (w.heap.size + 3) W0 (w2.setCell ⟨w.heap.size + 3, 1, none⟩ v2)) := ⟨ae.out.1.val z p T, ae.out.1.below (.inr rfl) p ae.out.2 (Nat.le_refl _) (by omega) (by have := O.out.2.2.2.2; omega) _ _⟩; obtain ⟨H, bx, ay⟩ := ae.out.1.var (.inr rfl) p; have z0 := (World.cell?_of_block (a := ⟨w.heap.size + 3, 1, none⟩) H).trans o3; have z1 := (World.frozen?_of_block (a := ⟨w.heap.size + 3, 1, none⟩) H).trans y3; obtain ⟨p4, m4, k4, rfl⟩ := z.shape; clear z p B T f H ay)
     all_goals go_wp2
     all_goals
      go_roundg (m.length - (k + 1))
      case measure => omega
      case rel =>
       refine ⟨k + 1, .slice p2 m2 k2, .slice p4 m4 k4, D, rfl, by rw [ao.out], ?_, AM.out.2⟩
       rw [HT.out, List.map_append, List.map_append, List.map_singleton, List.map_singleton, ag.out.2.1, ag.out.2.2]
       exact AM.out.1
  ·have i1 : ¬ (k : Int) < (m.length : Int) := by omega
   have o0 := c.out.1.c0
   have o1 := c.out.1.c1
   obtain ⟨r0, r1, q0, q1⟩ := HC.out
   have s0 : wr.cell? ⟨w.heap.size + 2, 0, none⟩ = some (.slice none 0 0) := (World.cell?_of_block (c.out.2.1.block _ (by show w.heap.size + 2 < _; omega))).trans r0
   have s1 : wr.cell? ⟨w.heap.size + 2, 1, none⟩ = some (.slice none 0 0) := (World.cell?_of_block (c.out.2.1.block _ (by show w.heap.size + 2 < _; omega))).trans r1
   have t0 : wr.frozen? ⟨w.heap.size + 2, 0, none⟩ = false := (World.frozen?_of_block (c.out.2.1.block _ (by show w.heap.size + 2 < _; omega))).trans q0
   have t1 : wr.frozen? ⟨w.heap.size + 2, 1, none⟩ = false := (World.frozen?_of_block (c.out.2.1.block _ (by show w.heap.size + 2 < _; omega))).trans q1
   have HE : Hid (woN (m.take k) K = woN m K) := by rw [List.take_of_length_le (by omega)]; exact rfl
   have HZ : Hid (∀ wz, wz.os = wr.os -> wz.tape = wr.tape -> wz.output = wr.output -> wz.heap = ((wr.setCell ⟨w.heap.size + 2, 0, none⟩ (.slice Y X P)).setCell ⟨w.heap.size + 2, 1, none⟩ (.slice J I y)).heap -> Below w.heap.size w wz /\ Kn wz w.heap.size (.slice Y X P) (.slice J I y) (woN m K)) := Qoj c.out.1 c.out.2.1 O.out.2.2.2.1 HE.out ac.out
   clear r0 r1 q0 q1 c0 c1 d1 aa s
   go_wp2
   refine bodyPost_ret (v := .agg #[.slice Y X P, .slice J I y]) (by simp [results, Tryz.results29, go_sem, s0, s1]) rfl ?_
   exact ⟨(HZ.out _ (by rfl) (by rfl) (by rfl) (by rfl)).1, _, _, rfl, (HZ.out _ (by rfl) (by rfl) (by rfl) (by rfl)).2⟩
theorem Qpm (w : World) (a b c : Obj) : (((w.alloc a).alloc b).alloc c).heap[w.heap.size]? = some a /\ (((w.alloc a).alloc b).alloc c).heap[w.heap.size + 1]? = some b /\ (((w.alloc a).alloc b).alloc c).heap[w.heap.size + 2]? = some c := by
 have d : ∀ (w : World) (o : Obj), (w.alloc o).heap[w.heap.size]? = some o := fun w o => Array.getElem?_push_size
 have e : (w.alloc a).heap.size = w.heap.size + 1 := by simp
 have f : ((w.alloc a).alloc b).heap.size = w.heap.size + 2 := by simp
 refine ⟨?_, ?_, ?_⟩
 ·rw [Below.heap_alloc _ _ _ (by omega), Below.heap_alloc _ _ _ (by omega)]
  exact d w a
 ·rw [Below.heap_alloc _ _ _ (by omega), <- e]
  exact d _ b
 ·rw [<- f]
  exact d _ c
theorem Kn.var (h : Kn w C ks vs m) (hC : C <= w.heap.size) (t : TypeId) : Kv (w.alloc (.cells #[ks, vs] t)) C w.heap.size ks vs (m.map (·.1)) (m.map (·.2)) := by
 have a : Below w.heap.size w (w.alloc (.cells #[ks, vs] t)) := (Below.refl _ _).alloc (Nat.le_refl _) _
 refine ⟨?_, ?_, h.apart, by rw [World.cell?_alloc_new]; rfl, by rw [World.cell?_alloc_new]; rfl, World.frozen?_alloc_new _ _ _ _, World.frozen?_alloc_new _ _ _ _, by simp, by simp; omega, fun e => ?_, fun e => ?_⟩
 ·have := h.keys.below a
  rw [List.length_map, List.flatMap_map]
  exact this
 ·have := h.vals.below a
  rw [List.length_map, List.map_map]
  exact this
 ·have := (h.keys.block _ e).2; omega
 ·have := (h.vals.block _ e).2; omega
theorem Qtf {ko vo : Value} (hk : Kv wr (w.heap.size + 3) ob ko vo (l.map (·.1)) (l.map (·.2))) (hb : Below (w.heap.size + 3) W0 wr) (hb0 : Below w.heap.size w W0) (ok : ∀ x ∈ l, x.1.size = 32 /\ Bytes x.1 /\ 0 < x.2.size /\ x.2.size <= 100) (wz : World) (h1 : wz.os = wr.os) (h2 : wz.tape = wr.tape) (h3 : wz.output = wr.output) (h4 : wz.heap = ((wr.setCell ⟨w.heap.size + 2, 0, none⟩ ko).setCell ⟨w.heap.size + 2, 1, none⟩ vo).heap) : Below w.heap.size w wz /\ Kn wz w.heap.size ko vo l := by
 have c : Below w.heap.size w wr := hb0.trans (hb.mono (by omega))
 have g := hk.size
 have a : Kn wr (w.heap.size + 3) ko vo l := hk.kn ok
 have d : ∀ j, j ≠ w.heap.size + 2 -> wz.heap[j]? = wr.heap[j]? := fun j b => by
  rw [h4, Below.heap_setCell _ _ _ _ b, Below.heap_setCell _ _ _ _ b]
 have f : wz.heap.size = wr.heap.size := by rw [h4]; simp
 refine ⟨⟨h1.trans c.os, h2.trans c.tape, h3.trans c.output, by rw [f]; exact c.size, fun j b => (d j (by omega)).trans (c.block j b)⟩, ?_⟩
 exact ⟨(a.keys.keep (Nat.le_of_eq f.symm) fun j b e => d j (by have := (a.keys.block j e).1; omega)).mono (by omega), (a.vals.keep (Nat.le_of_eq f.symm) fun j b e => d j (by have := (a.vals.block j e).1; omega)).mono (by omega), a.ok, a.apart⟩
def wiN (m : List (Array Nat × ByteArray)) (K : Array Nat) (u : ByteArray) : List (Array Nat × ByteArray) := woN m K ++ [(K, u)]
attribute [local go_sem ↓] Qhb Qge in
theorem Qtg (h : Kn w C ks vs m) (hm : m.length <= 1000) (hK : K.size = 32) (hKb : Bytes K) (hu0 : 0 < u.size) (hu1 : u.size <= 100) :
  Calls Tryz.prog 16 #[.agg #[ks, vs], .agg (K.toList.map encB).toArray, .string u] w fun e w' => Below w.heap.size w w' /\ ∃ ks' vs', e = .returned (.agg #[ks', vs']) /\ Kn w' w.heap.size ks' vs' (wiN m K u) := by
 obtain ⟨pk, mk, ck, rfl⟩ := h.keys.shape
 obtain ⟨pv, mv, cv, rfl⟩ := h.vals.shape
 obtain ⟨i0, hi, ax, ay, az⟩ := info_parts keyZ
 obtain ⟨j0, hj, ar, au, aw⟩ := info_parts strZ
 obtain ⟨W0, I⟩ : ∃ W0, ((w.alloc (.cells #[.slice pk mk ck, .slice pv mv cv] 25)).alloc (.cells (K.toList.map encB).toArray 42)).alloc (.cells #[.slice none 0 0, .slice none 0 0] 25) = W0 := ⟨_, rfl⟩
 have U : Below w.heap.size w W0 := by rw [<- I]; exact (((Below.refl _ _).alloc (Nat.le_refl _) _).alloc (by simp) _).alloc (by simp; omega) _
 have ao : W0.heap.size = w.heap.size + 3 := by rw [<- I]; simp
 obtain ⟨N, X, n⟩ := Qpm w (.cells #[.slice pk mk ck, .slice pv mv cv] 25) (.cells (K.toList.map encB).toArray 42) (.cells #[.slice none 0 0, .slice none 0 0] 25)
 rw [I] at N X n
 have c0 : W0.cell? ⟨w.heap.size, 0, none⟩ = some (.slice pk mk ck) := cell_of_row W0 _ 0 _ _ (0, 0) N
 have c1 : W0.cell? ⟨w.heap.size, 1, none⟩ = some (.slice pv mv cv) := cell_of_row W0 _ 1 _ _ (0, 0) N
 have B : W0.rangeAt (w.heap.size + 1) 0 (K.toList.map encB) := fun j u hu => by
  rw [Nat.zero_add, cell_of_row W0 _ j _ _ (0, 0) X]
  simpa using hu
 obtain ⟨kc, z⟩ := Qes B (by simp [hK])
 have HC : Hid (∀ W, Below (w.heap.size + 3) W0 W -> W.cell? ⟨w.heap.size + 2, 0, none⟩ = some (.slice none 0 0) /\ W.cell? ⟨w.heap.size + 2, 1, none⟩ = some (.slice none 0 0) /\ W.frozen? ⟨w.heap.size + 2, 0, none⟩ = false /\ W.frozen? ⟨w.heap.size + 2, 1, none⟩ = false /\ keyCells W (w.heap.size + 1) 0 = (K.toList.map encB).toArray /\ HasKey W (w.heap.size + 1) 0) := fun W hW => by
  have e2 : W.heap[w.heap.size + 2]? = _ := (hW.block _ (by omega)).trans n
  have e1 := Qes (Qa4 B (hW.block _ (by omega))) (by simp [hK])
  exact ⟨cell_of_row W _ 0 _ _ (0, 0) e2, cell_of_row W _ 1 _ _ (0, 0) e2, frozen_of_row W _ 0 _ _ e2, frozen_of_row W _ 1 _ _ e2, e1⟩
 have aa := Hq (Qok (h.below U) hm hK hKb)
 have ap : (K.toList.map encB).toArray.size = 32 := by simp [hK]
 have s : Hid (m.length <= 1000 /\ Below w.heap.size w W0 /\ W0.heap.size = w.heap.size + 3 /\ (∀ x ∈ wiN m K u, x.1.size = 32 /\ Bytes x.1 /\ 0 < x.2.size /\ x.2.size <= 100)) := ⟨hm, U, ao, fun x Z => by
  rcases List.mem_append.1 Z with Z | Z
  ·exact h.ok x (List.mem_filter.1 Z).1
  ·obtain rfl := List.mem_singleton.1 Z
   exact ⟨hK, hKb, hu0, hu1⟩⟩
 clear h hm hK hKb U ao N X n B hu0 hu1
 go_enter Tryz.func16, Tryz.ntmps16
 go_wp2_with fail
 refine aa.out.mono ?_
 rintro e w1 ⟨ak, b7, ba, rfl, M⟩
 obtain ⟨Q, P, O, rfl⟩ := M.keys.shape
 obtain ⟨H, F, y, rfl⟩ := M.vals.shape
 have i : Hid (Kn w1 W0.heap.size (.slice Q P O) (.slice H F y) (woN m K) /\ Below W0.heap.size W0 w1) := ⟨M, ak⟩
 clear M ak aa I c0 c1 kc z
 go_upto_region 2 with fail
 have c := (i.out.1.var i.out.2.size 25)
 have l : Below W0.heap.size W0 (w1.alloc (.cells #[.slice Q P O, .slice H F y] 25)) := i.out.2.alloc i.out.2.size _
 obtain ⟨ob, V⟩ : ∃ ob, w1.heap.size = ob := ⟨_, rfl⟩
 rw [V] at c ⊢
 generalize w1.alloc (.cells #[.slice Q P O, .slice H F y] 25) = W1 at c l ⊢
 rw [s.out.2.2.1] at c l
 obtain ⟨-, -, -, -, kc, z⟩ := HC.out W1 l
 have o0 := c.c0
 have o1 := c.c1
 have y0 := c.f0
 have y1 := c.f1
 have R : Hid (∀ o, OwnC (W1.alloc o) (w.heap.size + 3) 32 (.slice Q P O) ((woN m K).map (·.1)).length (((woN m K).map (·.1)).flatMap fun x => x.toList.map encB)) := fun o => c.keys.alloc o
 have k : Hid (∀ t, (W1.alloc (.cells (K.toList.map encB).toArray t)).rangeAt W1.heap.size 0 (K.toList.map encB)) := fun t => Qap W1 (K.toList.map encB) t
 have d : Hid (Kv W1 (w.heap.size + 3) ob (.slice Q P O) (.slice H F y) ((woN m K).map (·.1)) ((woN m K).map (·.2)) /\ Below (w.heap.size + 3) W0 W1 /\ w.heap.size + 3 <= ob) := ⟨c, l, by rw [<- V, <- s.out.2.2.1]; exact i.out.2.size⟩
 have HN : Hid (((woN m K).map (·.1)).length <= 1000 /\ ((woN m K).map (·.2)).length <= 1000) := by
  have h1 := Qtd m K
  have h2 := s.out.1
  have h : ((woN m K).map (·.1)).length <= 1000 /\ ((woN m K).map (·.2)).length <= 1000 := by simp; omega
  exact h
 clear c l V i
 go_upto_region 3 with (at_builtin; refine Qah _ rfl _ _ 22 rfl 42 i0 (.agg (zero32.map encB)) 32 32 Tryz.underlying22 hi ax ay az Qx1 (by decide) (w.heap.size + 3) (.slice Q P O) _ _ rfl (R.out _) W1.heap.size 0 1 1 (K.toList.map encB) rfl (by simpa using ap) (k.out _) (Qet K) (by have := HN.out; unfold maxLen; omega) (by have := HN.out; omega) (by have := d.out.1.size; simp; omega) ?_)
 intro v2 w2 S J al n
 have ag := d.out.1.key (K := K) (v2 := v2) (by rw [List.length_map]; exact S) J (by rw [World.size_alloc]; exact al)
 have ac := d.out.1.below (.inl rfl) J d.out.2.1 (by have := d.out.2.2; omega) (Nat.le_refl _) (Nat.le_of_eq s.out.2.2.1.symm) 0 v2
 obtain ⟨g, Y, -⟩ := d.out.1.var (.inl rfl) J
 have z0 := (World.cell?_of_block (a := ⟨ob, 0, none⟩) g).trans o0
 have z1 := (World.frozen?_of_block (a := ⟨ob, 0, none⟩) g).trans y0
 obtain ⟨r, q, p, rfl⟩ := S.shape
 have b : Hid (Kv (w2.setCell ⟨ob, 0, none⟩ (.slice r q p)) (w.heap.size + 3) ob (.slice r q p) (.slice H F y) ((woN m K).map (·.1) ++ [K]) ((woN m K).map (·.2)) /\ Below (w.heap.size + 3) W0 (w2.setCell ⟨ob, 0, none⟩ (.slice r q p))) := ⟨ag, ac⟩
 clear S J al n g ag ac o0 o1 y0 y1 kc z R k
 go_upto_region 3 with fail
 obtain ⟨W2, ai⟩ : ∃ W2, w2.setCell ⟨ob, 0, none⟩ (.slice r q p) = W2 := ⟨_, rfl⟩
 rw [ai] at b ⊢
 clear ai z0 z1 Y
 have o0 := b.out.1.c0
 have o1 := b.out.1.c1
 have y0 := b.out.1.f0
 have y1 := b.out.1.f1
 have R : Hid (∀ o, OwnC (W2.alloc o) (w.heap.size + 3) 1 (.slice H F y) ((woN m K).map (·.2)).length (((woN m K).map (·.2)).map Value.string)) := fun o => b.out.1.vals.alloc o
 have k : Hid (∀ t, (W2.alloc (.cells #[.string u] t)).rangeAt W2.heap.size 0 [.string u]) := fun t => Qap W2 [.string u] t
 go_upto_region 4 with (at_builtin; refine Qah _ rfl _ _ 23 rfl 9 j0 (.string ⟨#[]⟩) 1 16 Tryz.underlying23 hj ar au aw rfl (by decide) (w.heap.size + 3) (.slice H F y) _ _ rfl (R.out _) W2.heap.size 0 1 1 [.string u] rfl rfl (k.out _) (by simp [Value.oneCell']) (by have := HN.out; unfold maxLen; omega) (by have := HN.out; omega) (by have := b.out.1.size; simp; omega) ?_)
 intro v3 w3 T L am aq
 have ah := b.out.1.val (u := u) (v2 := v3) (by rw [List.length_map]; simpa using T) L (by rw [World.size_alloc]; exact am)
 have ae := b.out.1.below (.inr rfl) L b.out.2 (by have := d.out.2.2; omega) (Nat.le_refl _) (Nat.le_of_eq s.out.2.2.1.symm) 1 v3
 obtain ⟨g, Y, -⟩ := b.out.1.var (.inr rfl) L
 have z0 := (World.cell?_of_block (a := ⟨ob, 1, none⟩) g).trans o1
 have z1 := (World.frozen?_of_block (a := ⟨ob, 1, none⟩) g).trans y1
 obtain ⟨G, E, D, rfl⟩ := T.shape
 have f : Hid (Kv (w3.setCell ⟨ob, 1, none⟩ (.slice G E D)) (w.heap.size + 3) ob (.slice r q p) (.slice G E D) ((wiN m K u).map (·.1)) ((wiN m K u).map (·.2)) /\ Below (w.heap.size + 3) W0 (w3.setCell ⟨ob, 1, none⟩ (.slice G E D))) := ⟨by rw [wiN, List.map_append, List.map_append]; exact ah, ae⟩
 clear T L am aq g ah ae o0 o1 y0 y1 R k d b
 go_upto_region 4 with fail
 obtain ⟨W3, aj⟩ : ∃ W3, w3.setCell ⟨ob, 1, none⟩ (.slice G E D) = W3 := ⟨_, rfl⟩
 rw [aj] at f ⊢
 clear aj z0 z1 Y
 have o0 := f.out.1.c0
 have o1 := f.out.1.c1
 obtain ⟨s0, s1, t0, t1, -, -⟩ := HC.out W3 f.out.2
 have HZ : Hid (∀ wz, wz.os = W3.os -> wz.tape = W3.tape -> wz.output = W3.output -> wz.heap = ((W3.setCell ⟨w.heap.size + 2, 0, none⟩ (.slice r q p)).setCell ⟨w.heap.size + 2, 1, none⟩ (.slice G E D)).heap -> Below w.heap.size w wz /\ Kn wz w.heap.size (.slice r q p) (.slice G E D) (wiN m K u)) := Qtf f.out.1 f.out.2 s.out.2.1 s.out.2.2.2
 clear f
 go_wp2
 refine bodyPost_ret (v := .agg #[.slice r q p, .slice G E D]) (by simp [results, Tryz.results16, go_sem, s0, s1]) rfl ?_
 exact ⟨(HZ.out _ (by rfl) (by rfl) (by rfl) (by rfl)).1, _, _, rfl, (HZ.out _ (by rfl) (by rfl) (by rfl) (by rfl)).2⟩
theorem Kn.mono {w : World} {C C' : Nat} {ks vs : Value} {m : List (Array Nat × ByteArray)} (h : Kn w C' ks vs m) (hc : C <= C') : Kn w C ks vs m := ⟨h.keys.mono hc, h.vals.mono hc, h.ok, h.apart⟩
theorem Kn.keep {w w' : World} {C : Nat} {ks vs : Value} {m : List (Array Nat × ByteArray)} (h : Kn w C ks vs m) (hs : w.heap.size <= w'.heap.size) (hb : ∀ j, C <= j -> j < w.heap.size -> w'.heap[j]? = w.heap[j]?) : Kn w' C ks vs m :=
 ⟨h.keys.keep hs fun j hj e => hb j (h.keys.block j e).1 hj, h.vals.keep hs fun j hj e => hb j (h.vals.block j e).1 hj, h.ok, h.apart⟩
theorem Kn.nil (w : World) (C : Nat) : Kn w C (.slice none 0 0) (.slice none 0 0) [] := ⟨OwnC.nil _ _ _, OwnC.nil _ _ _, fun x hx => absurd hx (by simp), fun g h => by simp [Value.ownBlock] at h⟩
structure KnSt (w wr : World) (raw : ByteArray) (ks vs : Value) (m : List (Array Nat × ByteArray)) : Prop where
 feed : FeedAt wr (w.heap.size + 1) raw
 res : wr.heap[w.heap.size]? = some (.cells #[.slice none 0 0, .slice none 0 0] 25 (0, 0))
 c0 : wr.cell? ⟨w.heap.size + 2, 0, none⟩ = some ks
 c1 : wr.cell? ⟨w.heap.size + 2, 1, none⟩ = some vs
 f0 : wr.frozen? ⟨w.heap.size + 2, 0, none⟩ = false
 f1 : wr.frozen? ⟨w.heap.size + 2, 1, none⟩ = false
 kn : Kn wr (w.heap.size + 3) ks vs m
 below : Below w.heap.size w wr
 size : w.heap.size + 3 <= wr.heap.size
 dup : (m.map (·.1)).Nodup
theorem KnSt.keep {w wr w' : World} {raw : ByteArray} {ks vs : Value} {m : List (Array Nat × ByteArray)} (h : KnSt w wr raw ks vs m) (hf : FeedAt w' (w.heap.size + 1) raw) (ho : Only (w.heap.size + 1) wr w') : KnSt w w' raw ks vs m := by
 have d := h.size
 have b := ho.block w.heap.size (by omega) (by omega)
 have a := ho.block (w.heap.size + 2) (by omega) (by omega)
 exact ⟨hf, b.trans h.res, (World.cell?_of_block a).trans h.c0, (World.cell?_of_block a).trans h.c1, (World.frozen?_of_block a).trans h.f0, (World.frozen?_of_block a).trans h.f1, h.kn.keep ho.size fun j e c => ho.block j c (by omega), ho.below h.below (by omega) (by omega), Nat.le_trans d ho.size, h.dup⟩
theorem KnSt.fed (h : KnSt w wr raw ks vs m) (hf : Fed (w.heap.size + 1) raw wr w') : KnSt w w' raw ks vs m := h.keep hf.2 hf.1
theorem KnSt.behind (h : KnSt w wr raw ks vs m) (hb : Below wr.heap.size wr w') : KnSt w w' raw ks vs m := h.keep (h.feed.below hb) (.of_below hb)
theorem QC5 (m : List (Array Nat × ByteArray)) (K : Array Nat) (u : ByteArray) : (wiN m K u).length <= m.length + 1 := by
 have := Qtd m K
 simp [wiN]
 omega
theorem QC6 (h : (m.map (·.1)).Nodup) (K : Array Nat) : ((woN m K).map (·.1)).Nodup := h.sublist (List.Sublist.map _ List.filter_sublist)
theorem QC7 (h : (m.map (·.1)).Nodup) (K : Array Nat) (u : ByteArray) : ((wiN m K u).map (·.1)).Nodup := by
 rw [wiN, List.map_append]
 refine List.nodup_append.2 ⟨QC6 h K, by simp, fun a f b d e => ?_⟩
 subst e
 obtain ⟨x, g, rfl⟩ := List.mem_map.1 f
 have c := (List.mem_filter.1 g).2
 simp at d c
 exact c d
theorem KnSt.step {ks' vs' : Value} (h : KnSt w wr raw ks vs m) (hb : Below wr.heap.size wr w') (hk : Kn w' wr.heap.size ks' vs' (wiN m K u)) : KnSt w ((w'.setCell ⟨w.heap.size + 2, 0, none⟩ ks').setCell ⟨w.heap.size + 2, 1, none⟩ vs') raw ks' vs' (wiN m K u) := by
 have a := h.behind hb
 have i := h.size
 have c : ∀ j, j ≠ w.heap.size + 2 -> ((w'.setCell ⟨w.heap.size + 2, 0, none⟩ ks').setCell ⟨w.heap.size + 2, 1, none⟩ vs').heap[j]? = w'.heap[j]? := fun j d => by
  rw [Below.heap_setCell _ _ _ _ d, Below.heap_setCell _ _ _ _ d]
 have e : ((w'.setCell ⟨w.heap.size + 2, 0, none⟩ ks').setCell ⟨w.heap.size + 2, 1, none⟩ vs').heap.size = w'.heap.size := by simp
 have b := a.below
 refine ⟨a.feed.keep (c _ (by omega)) (by omega), (c _ (by omega)).trans a.res, ?_, ?_, ?_, ?_, ?_, ⟨b.os, b.tape, b.output, by rw [e]; exact b.size, fun k hk => (c k (by omega)).trans (b.block k hk)⟩, by have := a.size; omega, QC7 h.dup K u⟩
 ·rw [World.cell?_setCell_other _ _ _ _ (by simp)]
  exact World.cell?_setCell_same _ _ _ a.c0
 ·exact World.cell?_setCell_same _ _ _ ((World.cell?_setCell_other _ _ _ _ (by simp)).trans a.c1)
 ·rw [World.frozen?_setCell, World.frozen?_setCell]; exact a.f0
 ·rw [World.frozen?_setCell, World.frozen?_setCell]; exact a.f1
 ·exact (hk.keep (by omega) fun j f g => c j (by omega)).mono (by omega)
theorem KnSt.fin (h : KnSt w wr raw ks vs m) : ∀ wz : World, wz.os = wr.os -> wz.tape = wr.tape -> wz.output = wr.output -> wz.heap = ((wr.setCell ⟨w.heap.size, 0, none⟩ ks).setCell ⟨w.heap.size, 1, none⟩ vs).heap -> Below w.heap.size w wz /\ Kn wz w.heap.size ks vs m := fun wz h1 h2 h3 h4 => by
 have hB := h.below
 have hne : ∀ j, j ≠ w.heap.size -> wz.heap[j]? = wr.heap[j]? := fun j hj => by
  rw [h4, Below.heap_setCell _ _ _ _ hj, Below.heap_setCell _ _ _ _ hj]
 have hsz : wz.heap.size = wr.heap.size := by rw [h4]; simp
 exact ⟨⟨h1.trans hB.os, h2.trans hB.tape, h3.trans hB.output, by rw [hsz]; exact hB.size, fun j hj => (hne j (by omega)).trans (hB.block j hj)⟩, (h.kn.keep (by omega) fun j h1 h2 => hne j (by omega)).mono (by omega)⟩
theorem KnSt.start : KnSt w (((w.alloc (.cells #[.slice none 0 0, .slice none 0 0] 25)).alloc (.cells #[.string raw, .int .i64 0] 48)).alloc (.cells #[.slice none 0 0, .slice none 0 0] 25)) raw (.slice none 0 0) (.slice none 0 0) [] := by
 obtain ⟨c, b, a⟩ := Qpm w (.cells #[.slice none 0 0, .slice none 0 0] 25) (.cells #[.string raw, .int .i64 0] 48) (.cells #[.slice none 0 0, .slice none 0 0] 25)
 exact ⟨⟨by simp, cell_of_row _ _ 0 _ _ (0, 0) b, ⟨0, cell_of_row _ _ 1 _ _ (0, 0) b, Nat.zero_le _⟩, frozen_of_row _ _ 1 _ _ b⟩, c, cell_of_row _ _ 0 _ _ (0, 0) a, cell_of_row _ _ 1 _ _ (0, 0) a, frozen_of_row _ _ 0 _ _ a, frozen_of_row _ _ 1 _ _ a, Kn.nil _ _, (((Below.refl _ _).alloc (Nat.le_refl _) _).alloc (by simp) _).alloc (by simp; omega) _, by simp, by simp⟩
abbrev z32 : Array Value := #[.int .u8 0, .int .u8 0, .int .u8 0, .int .u8 0, .int .u8 0, .int .u8 0, .int .u8 0, .int .u8 0, .int .u8 0, .int .u8 0, .int .u8 0, .int .u8 0, .int .u8 0, .int .u8 0, .int .u8 0, .int .u8 0, .int .u8 0, .int .u8 0, .int .u8 0, .int .u8 0, .int .u8 0, .int .u8 0, .int .u8 0, .int .u8 0, .int .u8 0, .int .u8 0, .int .u8 0, .int .u8 0, .int .u8 0, .int .u8 0, .int .u8 0, .int .u8 0]
theorem Qpn (w : World) (K : Array Nat) (hK : K.size = 32) :
  (w.alloc (.cells z32 42)).there w.heap.size 0 (K.toList.map encB).toArray.size /\ (Tryz.prog.info? 42).map (·.size) = some (K.toList.map encB).toArray.size /\ (Tryz.prog.info? 42).map (·.size) = some (K.toList.map encB).length /\ (K.toList.map encB).toArray.all (·.oneCell') = true /\
  Below w.heap.size w ((w.alloc (.cells z32 42)).setCells w.heap.size 0 (K.toList.map encB)) /\ ((w.alloc (.cells z32 42)).setCells w.heap.size 0 (K.toList.map encB)).rangeAt w.heap.size 0 (K.toList.map encB) /\
  w.heap.size < ((w.alloc (.cells z32 42)).setCells w.heap.size 0 (K.toList.map encB)).heap.size := by
 have c : (w.alloc (.cells z32 42)).there w.heap.size 0 32 := Qac w _ 42 32 rfl
 have a : Below w.heap.size w (w.alloc (.cells z32 42)) := (Below.refl _ _).alloc (Nat.le_refl _) _
 have b : w.heap.size < (w.alloc (.cells z32 42)).heap.size := by simp
 generalize w.alloc (.cells z32 42) = w1 at c a b
 obtain ⟨f, g, d, e⟩ := Qha hK c
 exact ⟨d, g, f, all_oneCell_toArray (Qaf K .u8), Qau a (Nat.le_refl _) _ _, World.rangeAt_setCells_same _ _ _ _ e, by rw [(Qa9 _ _ _ _).1]; exact b⟩
theorem Qmj (raw : ByteArray) (w : World) (hr : raw.size <= 9223372036854775807) :
  Calls Tryz.prog 4 #[.string raw] w fun e w' => Below w.heap.size w w' /\ ∃ ks vs m, e = .returned (.agg #[ks, vs]) /\ Kn w' w.heap.size ks vs m /\ (m.map (·.1)).Nodup /\ m.length <= 12 := by
 have HN := Hq (fun k W h l h1 => Qfw (w.heap.size + 1) raw hr k W h l h1)
 have T := Hq (fun W h => QA2 (w.heap.size + 1) raw W h hr)
 have HV := Hq (fun W h => Qt8 (w.heap.size + 1) raw W h hr)
 clear hr
 go_enter Tryz.func4, Tryz.ntmps4
 go_wp2_with fail
 have x : Hid (KnSt w (((w.alloc (.cells #[.slice none 0 0, .slice none 0 0] 25)).alloc (.cells #[.string raw, .int .i64 0] 48)).alloc (.cells #[.slice none 0 0, .slice none 0 0] 25)) raw (.slice none 0 0) (.slice none 0 0) []) := KnSt.start
 generalize World.alloc (World.alloc (World.alloc w _) _) _ = w0 at x ⊢
 refine (HN.out 13 w0 x.out.feed (by omega) (by omega)).mono ?_
 rintro e w1 ⟨G, X, rfl, B⟩
 have R : Hid (KnSt w w1 raw (.slice none 0 0) (.slice none 0 0) [] /\ G <= 12) := ⟨x.out.fed B, by omega⟩
 clear B x X
 go_wp2
 go_loopg [5] G (fun g n wr => ∃ (k : Nat) (ks vs : Value) (m : List (Array Nat × ByteArray)), k = g /\ n = .int .i64 (k : Int) /\ m.length + k <= 12 /\ KnSt w wr raw ks vs m)
 case atStart => exact ⟨G, _, _, [], rfl, rfl, by have := R.out.2; simp; omega, R.out.1⟩
 case round =>
  obtain ⟨k, ks, vs, m, rfl, rfl, L, a⟩ := hrel
  obtain ⟨O, M, H, rfl⟩ := a.kn.keys.shape
  obtain ⟨P, N, I, rfl⟩ := a.kn.vals.shape
  by_cases l : k = 0
  ·subst l
   have Z := a.c0
   have o1 := a.c1
   have s0 := cell_of_row wr _ 0 _ _ (0, 0) a.res
   have s1 := cell_of_row wr _ 1 _ _ (0, 0) a.res
   have t0 := frozen_of_row wr _ 0 _ _ a.res
   have Q := frozen_of_row wr _ 1 _ _ a.res
   have V := Hq a.fin
   have HE : Hid ((m.map (·.1)).Nodup /\ m.length <= 12) := ⟨a.dup, by omega⟩
   clear a L
   go_wp2
   refine bodyPost_ret (v := .agg #[.slice O M H, .slice P N I]) (by simp [results, Tryz.results4, go_sem, s0, s1]) rfl ?_
   exact ⟨(V.out _ (by rfl) (by rfl) (by rfl) (by rfl)).1, _, _, m, rfl, (V.out _ (by rfl) (by rfl) (by rfl) (by rfl)).2, HE.out⟩
  ·have aa : (0 : Int) < (k : Int) := by omega
   have j : Hid (KnSt w wr raw (.slice O M H) (.slice P N I) m /\ m.length + k <= 12 /\ ¬ k = 0) := ⟨a, L, l⟩
   have Y := a.size
   clear a L l
   go_wp2_with fail
   refine (T.out wr j.out.1.feed).mono ?_
   rintro e t ⟨K, J, z, rfl, C⟩
   have d : Hid (KnSt w t raw (.slice O M H) (.slice P N I) m /\ K.size = 32 /\ Bytes K) := ⟨j.out.1.fed C, J, z⟩
   obtain ⟨Q, z2, z1, q, f, r, s⟩ := Qpn t K J
   clear C z Y
   go_wp2_with (refine wpList_store_mid rfl 42 _ _ rfl t.heap.size 0 (K.toList.map encB).toArray rfl rfl Q z2 q ?_; rw [List.toList_toArray]; generalize World.setCells _ _ _ _ = w3 at f r s ⊢; clear Q z2 q)
   refine (HV.out w3 (d.out.1.behind f).feed).mono ?_
   rintro e w4 ⟨u, E, F, rfl, p⟩
   have b := (d.out.1.behind f).fed p
   have D : w4.rangeAt t.heap.size 0 (K.toList.map encB) := Qa4 r (p.1.block _ s (by have := d.out.1.size; omega))
   have Z := b.c0
   have o1 := b.c1
   have HW := Hq (Qtg b.kn (by have := j.out.2.1; omega) d.out.2.1 d.out.2.2 E F)
   have y := Hq b
   clear b p r s f E F J
   go_wp2_with (refine wpList_load_mid rfl 42 _ rfl t.heap.size 0 rfl (K.toList.map encB) _ D Tryz.underlying42 rfl z1 ?_)
   refine HW.out.mono ?_
   rintro e w5 ⟨o, ac, ae, rfl, i⟩
   obtain ⟨pa, ma, ca, rfl⟩ := i.keys.shape
   obtain ⟨pb, mb, cb, rfl⟩ := i.vals.shape
   have c := y.out.behind o
   have q0 := c.c0
   have q1 := c.c1
   have f0 := c.f0
   have f1 := c.f1
   have U := Hq (y.out.step o i)
   have S : Hid (wrap64 ((k : Int) - 1) = ((k - 1 : Nat) : Int)) := by
    have h : wrap64 ((k : Int) - 1) = ((k - 1 : Nat) : Int) := (by unfold wrap64; have := j.out; omega)
    exact h
   clear c o i Z o1 D
   go_wp2
   go_roundg (k - 1)
   case measure => have := j.out; omega
   case rel => exact ⟨k - 1, _, _, wiN m K u, rfl, Qas S.out, by have := QC5 m K u; have := j.out; omega, U.out⟩
end Go.Proofs.YtakidhihbgfjlaaGreatDoor
