/-
  Small facts on maps in memory.
-/
import Derived.Test.YtoohdfiddbfacaaGreatDoorTeOrdA
import Derived.Test.YtoohdfiddbfacaaGreatDoorTeWriG
import Derived.Test.YtoohdfiddbfacaaGreatDoorTeLvG
import Derived.Test.YtoohdfiddbfacaaGreatDoorTeVaG
namespace Go.Proofs.YtoohdfiddbfacaaGreatDoor
open Go.RowKit
set_option maxRecDepth 100000
set_option maxHeartbeats 25600000
theorem laid_map (w : World) (a b : Value) : Below w.heap.size w (w.alloc (.cells #[a, b] 27)) /\ (w.alloc (.cells #[a, b] 27)).cell? ⟨w.heap.size, 0, none⟩ = some a /\ (w.alloc (.cells #[a, b] 27)).cell? ⟨w.heap.size, 1, none⟩ = some b /\ (w.alloc (.cells #[a, b] 27)).heap.size = w.heap.size + 1 :=
 ⟨(Below.refl _ _).alloc (Nat.le_refl _) _, by rw [World.cell?_alloc_new]; rfl, by rw [World.cell?_alloc_new]; rfl, by simp⟩
theorem ways_can : ∀ (n : Nat) (t : Nd) (r : ByteArray), t.can r.size -> r.size <= 64 -> ∀ u ∈ t.ways n r, u.ok
 | 0, t, r, hc, h64, u, hu => by
  rw [Nd.ways] at hu
  unfold Nd.shownL at hu
  split at hu
  ·cases hu
  ·obtain rfl : u = t := by simpa using hu
   exact (u.can_ok _ hc h64).1
 | n + 1, t, r, hc, h64, u, hu => by
  have hs : u ∈ t.shownL -> u.ok := fun hu => by
   unfold Nd.shownL at hu
   split at hu
   ·cases hu
   ·obtain rfl : u = t := by simpa using hu
    exact (u.can_ok _ hc h64).1
  rw [Nd.ways] at hu
  split at hu
  ·exact hs hu
  ·rename_i hx
   have hx' : (t.next r).1 ≠ .no := fun e => hx (Nd.isNo_iff.2 e)
   obtain ⟨_, k1, k2, k3, _⟩ := next_can hc hx'
   rcases List.mem_cons.1 hu with rfl | hu
   ·exact (u.can_ok _ hc h64).1
   ·exact ways_can n _ _ (by rw [extract_size]; exact k3) (by rw [extract_size]; omega) u hu
theorem prove_byte {t : Nd} {r : ByteArray} (hc : t.can r.size) (h64 : r.size <= 64) : ∀ c ∈ t.prove r, ∀ y ∈ c, y < 256 := by
 have b := ways_can 64 t r hc h64
 unfold Nd.prove
 intro c a y d
 cases hts : t.ways 64 r with
 | nil => rw [hts] at a; cases a
 | cons u us =>
  rw [hts] at b a
  rw [provL_cons] at a
  rcases List.mem_cons.1 a with rfl | h
  ·exact u.code_byte (b u (List.mem_cons_self ..)) y d
  ·unfold longs at h
   obtain ⟨v, e, rfl⟩ := List.mem_map.1 (List.mem_filter.1 h).1
   exact v.code_byte (b v (List.mem_cons_of_mem _ e)) y d
theorem ways_len : ∀ (n : Nat) (t : Nd) (r : ByteArray), (t.ways n r).length <= n + 1
 | 0, t, r => by rw [Nd.ways]; unfold Nd.shownL; split <;> simp
 | n + 1, t, r => by
  rw [Nd.ways]
  split
  ·unfold Nd.shownL; split <;> simp
  ·rw [List.length_cons]; have := ways_len n (t.next r).1 (r.extract (t.next r).2 r.size); omega
theorem prove_len (t : Nd) (r : ByteArray) : (t.prove r).length <= 65 := Nat.le_trans (provL_length _) (ways_len 64 t r)
theorem strRow_of {w : World} {C : Nat} {v : Value} {L : List (List Nat)} (h : OwnC w C 1 v L.length (strs L)) : ∃ p c, v = .slice p L.length c /\ StrRow w p (L.map textB) c /\ (p.isSome = true -> ∃ g, p = some ⟨g, 0, none⟩) := by
 rcases h.2 with ⟨e1, e2⟩ | ⟨g, cap, e1, _, e3, e4, _, _, hr⟩
 ·have : L = [] := List.eq_nil_of_length_eq_zero e2
  subst this
  exact ⟨none, 0, e1, .inl ⟨rfl, rfl, rfl⟩, by simp⟩
 ·refine ⟨_, cap, e1, .inr ⟨g, 0, rfl, by rw [List.length_map]; exact e4, fun _ => e3, ?_⟩, fun _ => ⟨g, rfl⟩⟩
  rw [List.map_map]
  exact hr
theorem StrRow.below {w w' : World} {p : Option Addr} {l : List ByteArray} {c : Nat} (h : StrRow w p l c) (hb : Below w.heap.size w w') : StrRow w' p l c := by
 rcases h with h | ⟨g, o, e1, e2, e3, e4⟩
 ·exact .inl h
 ·exact .inr ⟨g, o, e1, e2, fun h => Nat.lt_of_lt_of_le (e3 h) hb.size, fun j u a => by
   have b : 0 < l.length := by
    have := (List.getElem?_eq_some_iff.1 a).1
    simp at this
    omega
   exact (hb.cell (p := ⟨g, o + j, none⟩) (e3 b)).trans (e4 j u a)⟩
theorem texts_back {L : List (List Nat)} (h : ∀ c ∈ L, ∀ y ∈ c, y < 256) : (L.map textB).map bytesOf = L := by
 rw [List.map_map]
 conv => rhs; rw [<- List.map_id L]
 exact List.map_congr_left fun c a => bytesOf_textB (h c a)
theorem dig_byte {t : Nd} (hc : t.can 64) : ∀ x ∈ t.dig, x < 256 := by
 obtain ⟨a, _⟩ := t.can_ok 64 hc (Nat.le_refl _)
 by_cases h : t = .no
 ·subst h; rw [Nd.dig_no]; exact digB_byte _
 ·rw [dig_can hc h]; exact digB_byte _
theorem fault_set {w : World} {b : Nat} {x0 x1 x2 x3 : Value} {t : TypeId} (h : w.heap[b]? = some (.cells #[x0, x1, x2, x3] t (0, 0))) (y0 y1 y2 y3 : Value) : ((((w.setCell ⟨b, 0, none⟩ y0).setCell ⟨b, 1, none⟩ y1).setCell ⟨b, 2, none⟩ y2).setCell ⟨b, 3, none⟩ y3).heap[b]? = some (.cells #[y0, y1, y2, y3] t (0, 0)) :=
 heap_setCell_list (heap_setCell_list (heap_setCell_list (heap_setCell_list (cs := [x0, x1, x2, x3]) h 0 _) 1 _) 2 _) 3 _
theorem fault_four (q : Except Er (Option ByteArray)) : ∃ en ep ed ea : Nat, verFault q = faultV en ep ed ea /\ (∀ er, q = .error er -> en = er.num /\ ed = er.node) /\ (∀ o, q = .ok o -> en = 0) := by
 cases q with
 | error er => exact ⟨_, _, _, _, rfl, fun e h => (by cases h; exact ⟨rfl, rfl⟩), fun o h => (by cases h)⟩
 | ok o => exact ⟨0, 0, 0, 0, rfl, fun e h => (by cases h), fun _ _ => rfl⟩
section
variable {w2 : World} {C gp cr f : Nat} {L : List (List Nat)} {sc : ByteArray} {en ep ed ea : Nat} {d9 d10 d16 : Bool} {v9 v10 : Value} {W W' : World}
end
end Go.Proofs.YtoohdfiddbfacaaGreatDoor
