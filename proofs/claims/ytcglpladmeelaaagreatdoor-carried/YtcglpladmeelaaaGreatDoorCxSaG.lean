/-
  Package twigskeep: pick, fine.
-/
import Derived.Test.YtcglpladmeelaaaGreatDoorCxText
import Derived.Test.YtcglpladmeelaaaGreatDoorCxNibG
import Derived.Test.YtcglpladmeelaaaGreatDoorCxSmaG
import Derived.Test.YtcglpladmeelaaaGreatDoorCxVoG
import Derived.Test.YtcglpladmeelaaaGreatDoorCxOrdA
import Derived.Test.YtcglpladmeelaaaGreatDoorCxRawG
import Derived.Test.YtcglpladmeelaaaGreatDoorCxWriG
namespace Go.Proofs.YtcglpladmeelaaaGreatDoor
open Go.RowKit
set_option maxRecDepth 100000
set_option maxHeartbeats 25600000
theorem fine_zero (w : World) : Calls Tryz.prog 9 #[.agg #[.int .i64 0, .int .i64 0, .int .i64 0, .int .i64 0]] w fun e w' => e = .returned (.bool true) /\ Below w.heap.size w w' := by
 go_enter Tryz.func9, Tryz.ntmps9
 go_wp2
 go_ret
 exact ⟨rfl, (Below.refl _ _).alloc (Nat.le_refl _) _⟩
def ansB (o : Option ByteArray) (s : ByteArray) (f : Bool) : Bool := decide (s = o.getD ⟨#[]⟩ /\ f = o.isSome)
theorem empty_iff (s : ByteArray) : s.toList.isEmpty = decide (s = (⟨#[]⟩ : ByteArray)) := by
 by_cases h : s.size = 0
 ·rw [no_text s h, decide_eq_true (size_zero h)]
 ·rw [some_text s (by omega), decide_eq_false (fun e => h (by rw [e]; rfl))]
theorem answered_any {w : World} {C : Nat} {ks vs : Value} {m : Mp} {K : Array Nat} (hk : Kn w C ks vs m) (hm : m.length <= 1000) (hd : (m.map pth).Nodup) (hK : K.size = 32) (hKb : Bytes K) (s : ByteArray) (f : Bool) {o : Option ByteArray} (ho : getN m (nibs K.toList) = o) :
  Calls Tryz.prog 28 #[.agg #[ks, vs], .agg (K.toList.map encB).toArray, .string s, .bool f] w fun e w' => e = .returned (.bool (ansB o s f)) /\ Below w.heap.size w w' := by
 obtain ⟨x, t, p, rfl⟩ := hk.keys.shape
 obtain ⟨y, v, q, rfl⟩ := hk.vals.shape
 have L : (Tryz.prog.info? 43).map (·.size) = some (K.toList.map encB).length := by rw [size51]; simp [hK]
 obtain ⟨W0, c⟩ : ∃ W0, (w.alloc (.cells #[.slice x t p, .slice y v q] 26)).alloc (.cells (K.toList.map encB).toArray 43) = W0 := ⟨_, rfl⟩
 have k : Below w.heap.size w W0 := by rw [<- c]; exact ((Below.refl _ _).alloc (Nat.le_refl _) _).alloc (by simp) _
 have J : W0.heap.size = w.heap.size + 2 := by rw [<- c]; simp
 have H : W0.cell? ⟨w.heap.size, 0, none⟩ = some (.slice x t p) := by rw [<- c]; simp
 have D : W0.cell? ⟨w.heap.size, 1, none⟩ = some (.slice y v q) := by rw [<- c]; simp
 have h : W0.rangeAt (w.heap.size + 1) 0 (K.toList.map encB) := fun j u r => by
  have O : (w.alloc (.cells #[.slice x t p, .slice y v q] 26)).heap.size = w.heap.size + 1 := by simp
  rw [<- c, Nat.zero_add, <- O, World.cell?_alloc_new]
  simpa using r
 have F := Hid.hide (kfind_any (hk.below k) hm hK hKb)
 have B : Hid (Below w.heap.size w W0 /\ W0.heap.size = w.heap.size + 2 /\ m.length <= 1000 /\ (m.map pth).Nodup /\ Kn W0 C (.slice x t p) (.slice y v q) m) := ⟨k, J, hm, hd, hk.below k⟩
 have G := Hid.hide ho
 clear hk hm hd hK hKb k ho
 go_enter Tryz.func28, Tryz.ntmps28
 go_wp2_with (refine wpList_load_mid rfl 43 _ rfl (w.heap.size + 1) 0 rfl (K.toList.map encB) _ h Tryz.underlying43 rfl L ?_)
 refine F.out.mono ?_
 rintro e P ⟨rfl, g⟩
 have N := (World.cell?_of_block (a := ⟨w.heap.size, 1, none⟩) (g.block w.heap.size (by omega))).trans D
 have d : Hid (Below w.heap.size w P) := B.out.1.behind' g
 cases hfi : findN m K with
 | none =>
  have n := find_no hfi
  have l : Hid (∀ b, ansB o s b = (!b && s.toList.isEmpty)) := fun b => by
   rw [<- G.out, n, ansB, empty_iff]
   cases b <;> simp
  simp only [findV]
  clear n hfi g h H D c N
  cases f with
  | true =>
   go_wp2
   go_ret
   exact ⟨by rw [l.out]; rfl, d.out⟩
  | false =>
   go_wp2
   go_ret
   exact ⟨by rw [l.out]; rfl, d.out⟩
 | some i =>
  obtain ⟨E, -, n⟩ := find_get B.out.2.2.2.1 hfi
  obtain ⟨U, Q, z, R, I⟩ := (B.out.2.2.2.2.below g).val E
  simp only [Value.slice.injEq] at z
  obtain ⟨rfl, rfl, rfl⟩ := z
  obtain ⟨u, r⟩ : ∃ u, m[i].2 = u := ⟨_, rfl⟩
  rw [r] at I n
  have l : Hid (∀ b, ansB o s b = (b && decide (s = u))) := fun b => by
   rw [<- G.out, n, ansB]
   cases b <;> simp
  have V : (i : Int) < (m.length : Int) := by omega
  have W : ¬ (i : Int) < 0 := by omega
  have T : Hid (i < m.length) := E
  simp only [findV]
  clear n hfi g h H D c r E
  cases f with
  | false =>
   go_wp2
   go_ret
   exact ⟨by rw [l.out]; rfl, d.out⟩
  | true =>
   by_cases e : s = u
   ·subst e
    go_wp2
    go_ret
    exact ⟨by rw [l.out]; simp, d.out⟩
   ·have S := toList_ne' e
    have M : Hid (decide (s = u) = false) := decide_eq_false e
    clear e
    go_wp2
    go_ret
    exact ⟨by rw [l.out, M.out]; rfl, d.out⟩
theorem run_append_nil {P : Program} (w : World) (t ty e : TypeId) (i : TypeInfo) (ht : P.underlying t = some (.slice e)) (hi : P.info? e = some i) (base : Option Addr) (n c : Nat) (hle : n <= c) :
  (Builtin.append_ #[t, t] ty #[.slice base n c, .slice none 0 0]).run P w = .ok (.slice base n c) w := by
 cases base <;> simp [Builtin.append_, run_underlying ht, sizeOf, typeInfo, hi, hle, Builtin.lenOf, Builtin.firstCells, storeCells]
theorem OwnC.cap {w : World} {B size : Nat} {v : Value} {n : Nat} {cs : List Value} (h : OwnC w B size v n cs) : ∃ p c, v = .slice p n c /\ n <= c := by
 rcases h.2 with ⟨e1, e2⟩ | ⟨g, cap, e1, _, _, e2, _⟩
 ·subst e2; exact ⟨none, 0, e1, Nat.le_refl _⟩
 ·exact ⟨_, cap, e1, e2⟩
theorem laid_map (w : World) (a b : Value) : Below w.heap.size w (w.alloc (.cells #[a, b] 26)) /\ (w.alloc (.cells #[a, b] 26)).cell? ⟨w.heap.size, 0, none⟩ = some a /\ (w.alloc (.cells #[a, b] 26)).cell? ⟨w.heap.size, 1, none⟩ = some b /\ (w.alloc (.cells #[a, b] 26)).heap.size = w.heap.size + 1 :=
 ⟨(Below.refl _ _).alloc (Nat.le_refl _) _, by rw [World.cell?_alloc_new]; rfl, by rw [World.cell?_alloc_new]; rfl, by simp⟩
theorem StrRow.below {w w' : World} {p : Option Addr} {l : List ByteArray} {c : Nat} (h : StrRow w p l c) (hb : Below w.heap.size w w') : StrRow w' p l c := by
 rcases h with h | ⟨g, o, e1, e2, e3, e4⟩
 ·exact .inl h
 ·exact .inr ⟨g, o, e1, e2, fun h => Nat.lt_of_lt_of_le (e3 h) hb.size, fun j u a => by
   have b : 0 < l.length := by
    have := (List.getElem?_eq_some_iff.1 a).1
    simp at this
    omega
   exact (hb.cell (p := ⟨g, o + j, none⟩) (e3 b)).trans (e4 j u a)⟩
theorem fault_set {w : World} {b : Nat} {x0 x1 x2 x3 : Value} {t : TypeId} (h : w.heap[b]? = some (.cells #[x0, x1, x2, x3] t (0, 0))) (y0 y1 y2 y3 : Value) : ((((w.setCell ⟨b, 0, none⟩ y0).setCell ⟨b, 1, none⟩ y1).setCell ⟨b, 2, none⟩ y2).setCell ⟨b, 3, none⟩ y3).heap[b]? = some (.cells #[y0, y1, y2, y3] t (0, 0)) :=
 heap_setCell_list (heap_setCell_list (heap_setCell_list (heap_setCell_list (cs := [x0, x1, x2, x3]) h 0 _) 1 _) 2 _) 3 _
theorem no_iff {t : Nd} {m : Mp} (hc : t.can 64) (hg : ∀ s, s.length = 64 -> t.get s = getN m s) (hm : ∀ x ∈ m, x.1.size = 32) (p : ByteArray) : (t.prove p).length = 0 ↔ m.length = 0 := by
 constructor
 ·intro h
  by_cases b : t = .no
  ·subst b
   cases m with
   | nil => rfl
   | cons x m =>
    have a := hg (pth x) (by unfold pth; rw [nibs_length, Array.length_toList, hm x (List.mem_cons_self ..)])
    rw [get_no] at a
    unfold getN at a
    simp at a
  ·obtain ⟨L, c⟩ := prove_some b p
   rw [c] at h
   cases h
 ·intro h
  have : m = [] := List.eq_nil_of_length_eq_zero h
  subst this
  have : t = .no := none_no hc fun s a _ => by rw [hg s a, get_no]; rfl
  rw [this, prove_no]
  rfl
section
variable {w2 : World} {C gp cr f : Nat} {L : List (List Nat)} {sc : ByteArray} {en ep ed ea : Nat} {d9 d10 d16 : Bool} {v9 v10 : Value} {W W' : World}
end
end Go.Proofs.YtcglpladmeelaaaGreatDoor
