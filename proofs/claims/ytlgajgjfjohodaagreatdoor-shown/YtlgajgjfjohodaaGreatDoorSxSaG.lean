/-
  Package twigskeep: pick, fine.
-/
import Derived.Test.YtlgajgjfjohodaaGreatDoorSxText
import Derived.Test.YtlgajgjfjohodaaGreatDoorSxNibG
import Derived.Test.YtlgajgjfjohodaaGreatDoorSxSmaG
import Derived.Test.YtlgajgjfjohodaaGreatDoorSxRawG
import Derived.Test.YtlgajgjfjohodaaGreatDoorSxWriG
import Derived.Test.YtlgajgjfjohodaaGreatDoorSxOrdA
import Derived.Test.YtlgajgjfjohodaaGreatDoorSxVeA
import Derived.Test.YtlgajgjfjohodaaGreatDoorSxVoG
namespace Go.Proofs.YtlgajgjfjohodaaGreatDoor
open Go.RowKit
set_option maxRecDepth 100000
set_option maxHeartbeats 25600000
theorem pick_val (c : Int) (h1 : -9223372036854775808 <= c) (h2 : c < 9223372036854775808) (h0 : c < 0) : wrap64 (-wrap64 (c + 1)) = -(c + 1) := by
 unfold wrap64
 omega
theorem pick_mod (c : Int) (n : Nat) (h : 0 <= c) (hn : 0 < n) : ∃ k : Nat, k < n /\ c.tmod (n : Int) = (k : Int) := by
 refine ⟨(c % (n : Int)).toNat, ?_, ?_⟩
 ·have := Int.emod_lt_of_pos c (show (0 : Int) < n by omega)
  have := Int.emod_nonneg c (show (n : Int) ≠ 0 by omega)
  omega
 ·rw [Int.tmod_eq_emod_of_nonneg h]
  have := Int.emod_nonneg c (show (n : Int) ≠ 0 by omega)
  omega
theorem fine_zero (w : World) : Calls Tryz.prog 10 #[.agg #[.int .i64 0, .int .i64 0, .int .i64 0, .int .i64 0]] w fun e w' => e = .returned (.bool true) /\ Below w.heap.size w w' := by
 go_enter Tryz.func10, Tryz.ntmps10
 go_wp2
 go_ret
 exact ⟨rfl, (Below.refl _ _).alloc (Nat.le_refl _) _⟩
theorem run_append_nil {P : Program} (w : World) (t ty e : TypeId) (i : TypeInfo) (ht : P.underlying t = some (.slice e)) (hi : P.info? e = some i) (base : Option Addr) (n c : Nat) (hle : n <= c) :
  (Builtin.append_ #[t, t] ty #[.slice base n c, .slice none 0 0]).run P w = .ok (.slice base n c) w := by
 cases base <;> simp [Builtin.append_, run_underlying ht, sizeOf, typeInfo, hi, hle, Builtin.lenOf, Builtin.firstCells, storeCells]
theorem OwnC.cap {w : World} {B size : Nat} {v : Value} {n : Nat} {cs : List Value} (h : OwnC w B size v n cs) : ∃ p c, v = .slice p n c /\ n <= c := by
 rcases h.2 with ⟨e1, e2⟩ | ⟨g, cap, e1, _, _, e2, _⟩
 ·subst e2; exact ⟨none, 0, e1, Nat.le_refl _⟩
 ·exact ⟨_, cap, e1, e2⟩
def textOf (l : List Nat) : ByteArray := ⟨(l.map UInt8.ofNat).toArray⟩
theorem run_one_byte (w : World) (u : Nat) : Sem.run Tryz.prog (convert 79 9 (.slice (some ⟨w.heap.size, 0, none⟩) 1 1)) (w.alloc (.cells #[encB u] 5)) = .ok (.string (textOf [u])) (w.alloc (.cells #[encB u] 5)) := by
 rw [run_convert_bytes_string _ 79 9 5 _ _ _ Tryz.underlying79 Tryz.underlying5 Tryz.underlying9]
 have h := run_loadCells_list (P := Tryz.prog) (w.alloc (.cells #[encB u] 5)) ⟨w.heap.size, 0, none⟩ [encB u] (fun j v a => by
  have b : j = 0 := by
   have := (List.getElem?_eq_some_iff.1 a).1
   simpa using this
  subst b
  rw [Addr.add_mid, World.cell?_alloc_new]
  exact a)
 exact run_bytesToString (P := Tryz.prog) _ ⟨w.heap.size, 0, none⟩ 1 1 [(u : Int)] h
theorem textOf_size (l : List Nat) : (textOf l).size = l.length := by
 show (l.map UInt8.ofNat).toArray.size = _
 simp
theorem textOf_append (a b : List Nat) : textOf a ++ textOf b = textOf (a ++ b) := by
 unfold textOf
 rw [ByteArray.mk_append_mk, List.map_append]
theorem letters_any (D : Array Nat) (w : World) (hs : D.size = 32) (hB : Bytes D) :
  Calls Tryz.prog 17 #[.agg (D.toList.map encB).toArray] w fun e w' => e = .returned (.string (textOf D.toList)) /\ Below w.heap.size w w' := by
 have d : Row encB (w.alloc (.cells (D.toList.map encB).toArray 37)) w.heap.size 0 D := by
  have := Row.new (enc := encB) w D 37
  rw [map_toArray] at this
  exact this
 go_enter Tryz.func17, Tryz.ntmps17
 go_wp2
 generalize hw0 : w.alloc (.cells (D.toList.map encB).toArray 37) = w0 at d ⊢
 have j : Below w.heap.size w w0 := by rw [<- hw0]; exact (Below.refl _ _).alloc (Nat.le_refl _) _
 have m : w.heap.size < w0.heap.size := by rw [<- hw0]; simp
 clear hw0
 go_loopg [3, 4] 32 (fun g t i wr => ∃ x : Nat, x <= 32 /\ g = 32 - x /\ i = .int .i64 x /\ t = .string (textOf (D.toList.take x)) /\ w.heap.size < wr.heap.size /\ Below w.heap.size w wr /\ Row encB wr w.heap.size 0 D)
 case atStart => exact ⟨0, by omega, rfl, rfl, rfl, m, j, d⟩
 case round =>
  obtain ⟨x, B, rfl, rfl, rfl, s, b, c⟩ := hrel
  clear m j d
  by_cases l : x < 32
  ·obtain ⟨r, v⟩ := c x (by omega)
   rw [Nat.zero_add] at r v
   have k := hB x
   obtain ⟨u, h⟩ : ∃ u, D[x]! = u := ⟨_, rfl⟩
   rw [h] at r k
   obtain ⟨t, a⟩ : ∃ t, textOf (D.toList.take x) = t := ⟨_, rfl⟩
   rw [a]
   have n : Aside (Below w.heap.size w wr /\ Row encB wr w.heap.size 0 D /\ D[x]! = u /\ textOf (D.toList.take x) = t) := ⟨b, c, h, a⟩
   have z : t.size <= 32 := by rw [<- a, textOf_size, List.length_take]; omega
   have f := run_one_byte wr u
   have o : ∀ W : World, Sem.run Tryz.prog (Op.stringOp .add t (textOf [u])) W = .ok (.string (t ++ textOf [u])) W := fun W => run_string_add_sum W t (textOf [u]) (by rw [textOf_size]; simp; omega)
   have q : Aside (t ++ textOf [u] = textOf (D.toList.take (x + 1))) := by
    show _ = _
    rw [<- a, textOf_append, <- h, List.take_succ_eq_append_getElem (by simp; omega)]
    congr 1
    simp [hs, l]
   generalize textOf [u] = tu at f o q
   clear b c h hB a hs k
   go_wp2
   obtain ⟨b, c, _, _⟩ := n.out
   go_roundg (32 - (x + 1))
   case measure => omega
   case rel => exact ⟨x + 1, by omega, rfl, by go_num, by rw [q.out], by simp; omega, b.alloc (by omega) _, c.alloc s _⟩
  ·have p : x = 32 := by omega
   have y : (32 : Int) <= (x : Int) := by omega
   have a : textOf (D.toList.take x) = textOf D.toList := by rw [List.take_of_length_le (by simp; omega)]
   rw [a]
   have n : Aside (Below w.heap.size w wr) := b
   clear b c hB a hs p l
   go_wp2
   go_ret
   exact ⟨rfl, n.out⟩
def dig1 : List Nat := [197, 210, 70, 1, 134, 247, 35, 60, 146, 126, 125, 178, 220, 199, 3, 192, 229, 0, 182, 83, 202, 130, 39, 59, 123, 250, 216, 4, 93, 133, 164, 112]
def dig2 : List Nat := [86, 232, 31, 23, 27, 204, 85, 166, 255, 131, 69, 230, 146, 192, 248, 110, 91, 72, 224, 27, 153, 108, 173, 192, 1, 98, 47, 181, 227, 99, 180, 33]
theorem dig_empty : (digF ⟨#[]⟩).toList = dig1 := by decide +kernel
theorem dig_80 : (digF ⟨#[128]⟩).toList = dig2 := by decide +kernel
theorem text1 : textOf dig1 = ⟨#[197, 210, 70, 1, 134, 247, 35, 60, 146, 126, 125, 178, 220, 199, 3, 192, 229, 0, 182, 83, 202, 130, 39, 59, 123, 250, 216, 4, 93, 133, 164, 112]⟩ := by kernel_rfl
theorem text2 : textOf dig2 = ⟨#[86, 232, 31, 23, 27, 204, 85, 166, 255, 131, 69, 230, 146, 192, 248, 110, 91, 72, 224, 27, 153, 108, 173, 192, 1, 98, 47, 181, 227, 99, 180, 33]⟩ := by kernel_rfl
theorem bytes_of_list (D : Array Nat) (h : ∀ x ∈ D.toList, x < 256) : Bytes D := by
 intro j
 by_cases a : j < D.size
 ·rw [getElem!_pos D j a]
  exact h _ (by simp)
 ·have : D[j]! = 0 := by simp [a]
  rw [this]; decide
attribute [local go_sem ↓] wp_load_cells28
theorem fixed_any (w : World) (hT : Tabs w) (hw10 : 15 <= w.heap.size) :
  Calls Tryz.prog 6 #[] w fun e w' => e = .returned (.bool true) /\ Below w.heap.size w w' := by
 go_enter Tryz.func6, Tryz.ntmps6
 go_wp2_with fail
 refine (digest_any ⟨#[]⟩ w hT hw10).mono ?_
 rintro e h ⟨rfl, j⟩
 have a : (digF ⟨#[]⟩).size = 32 := sumF_size _
 have c := dig_empty
 generalize digF ⟨#[]⟩ = D1 at a c ⊢
 obtain ⟨L, O, u, G, v, z, J⟩ := laid_hash h D1 a
 have D : Aside (Below w.heap.size w h /\ D1.size = 32 /\ D1.toList = dig1 /\ Tabs w) := ⟨j, a, c, hT⟩
 clear j a c hT
 go_wp2_with (refine wpList_store_mid rfl 37 _ _ rfl h.heap.size 0 (D1.toList.map encB).toArray rfl rfl L O G ?_; rw [List.toList_toArray]; generalize (h.alloc (.cells #[.int .u8 0, .int .u8 0, .int .u8 0, .int .u8 0, .int .u8 0, .int .u8 0, .int .u8 0, .int .u8 0, .int .u8 0, .int .u8 0, .int .u8 0, .int .u8 0, .int .u8 0, .int .u8 0, .int .u8 0, .int .u8 0, .int .u8 0, .int .u8 0, .int .u8 0, .int .u8 0, .int .u8 0, .int .u8 0, .int .u8 0, .int .u8 0, .int .u8 0, .int .u8 0, .int .u8 0, .int .u8 0, .int .u8 0, .int .u8 0, .int .u8 0, .int .u8 0] 37)).setCells h.heap.size 0 (D1.toList.map encB) = w2 at v z J ⊢; clear L O G)
 obtain ⟨j, a, c, hT⟩ := D.out
 have k := j.size
 have l : Below w.heap.size w w2 := j.trans (v.mono k)
 refine (digest_any ⟨#[128]⟩ w2 (hT.below l hw10) (by omega)).mono ?_
 rintro e i ⟨rfl, g⟩
 have b : (digF ⟨#[128]⟩).size = 32 := sumF_size _
 have d := dig_80
 generalize digF ⟨#[128]⟩ = D2 at b d ⊢
 obtain ⟨N, P, S, H, p, B, K⟩ := laid_hash i D2 b
 have F := g.size
 have t := range_below z (g.block h.heap.size (by omega))
 have n : Aside (Below w.heap.size w i /\ D2.size = 32 /\ D2.toList = dig2 /\ D1.size = 32 /\ D1.toList = dig1 /\ h.heap.size < i.heap.size /\ w.heap.size <= h.heap.size /\ i.rangeAt h.heap.size 0 (D1.toList.map encB)) := ⟨l.trans (g.mono (by omega)), b, d, a, c, by omega, k, t⟩
 clear D j a c hT l g b d z v F k t
 go_wp2_with (first
  | (refine wpList_store_mid rfl 37 _ _ rfl i.heap.size 0 (D2.toList.map encB).toArray rfl rfl N P H ?_; rw [List.toList_toArray]; generalize (i.alloc (.cells #[.int .u8 0, .int .u8 0, .int .u8 0, .int .u8 0, .int .u8 0, .int .u8 0, .int .u8 0, .int .u8 0, .int .u8 0, .int .u8 0, .int .u8 0, .int .u8 0, .int .u8 0, .int .u8 0, .int .u8 0, .int .u8 0, .int .u8 0, .int .u8 0, .int .u8 0, .int .u8 0, .int .u8 0, .int .u8 0, .int .u8 0, .int .u8 0, .int .u8 0, .int .u8 0, .int .u8 0, .int .u8 0, .int .u8 0, .int .u8 0, .int .u8 0, .int .u8 0] 37)).setCells i.heap.size 0 (D2.toList.map encB) = w4 at p B K ⊢; clear N P H; have I := range_below n.out.2.2.2.2.2.2.2 (p.block _ n.out.2.2.2.2.2.1))
  | (refine wpList_load_mid rfl 37 _ rfl h.heap.size 0 rfl (D1.toList.map encB) _ I Tryz.underlying37 rfl u ?_))
 obtain ⟨g, b, d, a, c, y, k, _⟩ := n.out
 have r : Below w.heap.size w w4 := g.trans (p.mono (by omega))
 refine (letters_any D1 w4 a (bytes_of_list D1 (by rw [c]; decide))).mono ?_
 rintro e q ⟨rfl, f⟩
 rw [c, text1]
 have C := range_below B (f.block i.heap.size (by omega))
 have m := f.size
 have o : Aside (Below w.heap.size w q /\ D2.size = 32 /\ D2.toList = dig2) := ⟨r.trans (f.mono (by omega)), b, d⟩
 clear n g b d a c y k r f m I B p K u J
 have E : cellsAt q i.heap.size 32 = (D2.toList.map encB).toArray := cellsAt_of_range C (by simp [o.out.2.1])
 have x : HasCells q i.heap.size 32 := hasCells_of_range C (by simp [o.out.2.1])
 clear C
 go_wp2_with fail
 obtain ⟨f, b, d⟩ := o.out
 refine (letters_any D2 q b (bytes_of_list D2 (by rw [d]; decide))).mono ?_
 rintro e R ⟨rfl, s⟩
 rw [d, text2]
 have m := f.size
 have Q : Aside (Below w.heap.size w R) := f.trans (s.mono (by omega))
 clear o f b d s E x m
 go_wp2
 go_ret
 exact ⟨rfl, Q.out⟩
theorem laid_map (w : World) (a b : Value) : Below w.heap.size w (w.alloc (.cells #[a, b] 25)) /\ (w.alloc (.cells #[a, b] 25)).cell? ⟨w.heap.size, 0, none⟩ = some a /\ (w.alloc (.cells #[a, b] 25)).cell? ⟨w.heap.size, 1, none⟩ = some b /\ (w.alloc (.cells #[a, b] 25)).heap.size = w.heap.size + 1 :=
 ⟨(Below.refl _ _).alloc (Nat.le_refl _) _, by rw [World.cell?_alloc_new]; rfl, by rw [World.cell?_alloc_new]; rfl, by simp⟩
theorem StrRow.below {w w' : World} {p : Option Addr} {l : List ByteArray} {c : Nat} (h : StrRow w p l c) (hb : Below w.heap.size w w') : StrRow w' p l c := by
 rcases h with h | ⟨g, o, e1, e2, e3, e4⟩
 ·exact .inl h
 ·exact .inr ⟨g, o, e1, e2, fun h => Nat.lt_of_lt_of_le (e3 h) hb.size, fun j u a => by
   have b : 0 < l.length := by
    have := (List.getElem?_eq_some_iff.1 a).1
    simp at this
    omega
   exact (hb.cell (p := ⟨g, o + j, none⟩) (e3 b)).trans (e4 j u a)⟩
theorem fault_set {w : World} {b : Nat} {x0 x1 x2 x3 : Value} {t : TypeId} (h : w.heap[b]? = some (.cells #[x0, x1, x2, x3] t (0, 0))) (y0 y1 y2 y3 : Value) : ((((w.setCell ⟨b, 0, none⟩ y0).setCell ⟨b, 1, none⟩ y1).setCell ⟨b, 2, none⟩ y2).setCell ⟨b, 3, none⟩ y3).heap[b]? = some (.cells #[y0, y1, y2, y3] t (0, 0)) :=
 heap_setCell_list (heap_setCell_list (heap_setCell_list (heap_setCell_list (cs := [x0, x1, x2, x3]) h 0 _) 1 _) 2 _) 3 _
section
variable {w2 : World} {C gp cr f : Nat} {L : List (List Nat)} {sc : ByteArray} {en ep ed ea : Nat} {d9 d10 d16 : Bool} {v9 v10 : Value} {W W' : World}
end
end Go.Proofs.YtlgajgjfjohodaaGreatDoor
