/-
  readItem and readItems of package item.
-/
import Derived.Test.YtakidhihbgfjlaaGreatDoorSxTreG
import Derived.Lib.UnsafeStr
import Derived.Laws.MakeOwn
namespace Go.Proofs.YtakidhihbgfjlaaGreatDoor
open Go.RowKit
set_option maxRecDepth 100000
set_option maxHeartbeats 25600000
theorem Qeu (a b : Nat) (h : a + b <= 1048576) : wrap64 ((a : Int) + (b : Int)) = ((a + b : Nat) : Int) := by
 unfold wrap64
 omega
def ahead (its : List It) : Except Er (List It) -> Except Er (List It)
 | .error e => .error e
 | .ok l => .ok (its ++ l)
theorem OwnC.shape {w : World} {B size : Nat} {v : Value} {n : Nat} {cs : List Value} (h : OwnC w B size v n cs) : ∃ p m c, v = .slice p m c := by
 rcases h.2 with ⟨rfl, _⟩ | ⟨g, cap, rfl, _⟩ <;> exact ⟨_, _, _, rfl⟩
theorem Qap (w : World) (l : List Value) (t : TypeId) : (w.alloc (.cells l.toArray t)).rangeAt w.heap.size 0 l := by
 intro j u a
 rw [Nat.zero_add, World.cell?_alloc_new]
 simpa using a
theorem Qks {w : World} {g : Nat} {cs : Array Value} {t : TypeId} (h : w.heap[g]? = some (.cells cs t (0, 0))) (o : Nat) (u : Value) : ∃ cs', (w.setCell ⟨g, o, none⟩ u).heap[g]? = some (.cells cs' t (0, 0)) /\ cs'.size = cs.size := by
 refine ⟨cs.setIfInBounds o u, ?_, by simp⟩
 simp only [World.setCell, Array.getElem?_modify, if_true, h, Option.map_some, Option.isSome_none, Bool.false_eq_true, if_false]
theorem Qem {g : Nat} {t : TypeId} : ∀ (vs : List Value) (o : Nat) {w : World} {cs : Array Value}, w.heap[g]? = some (.cells cs t (0, 0)) -> ∃ cs', (w.setCells g o vs).heap[g]? = some (.cells cs' t (0, 0)) /\ cs'.size = cs.size
 | [], _, _, cs, h => ⟨cs, h, rfl⟩
 | v :: r, o, _, _, h => by
  obtain ⟨c1, h1, e1⟩ := Qks h o v
  obtain ⟨c2, h2, e2⟩ := Qem r (o + 1) h1
  exact ⟨c2, h2, e2.trans e1⟩
theorem Qkt (s : ByteArray) : (⟨s.data.toList.toArray⟩ : ByteArray) = s := by
 apply ByteArray.ext
 simp
theorem Qrb (s : ByteArray) (w : World) (hs : s.size <= 1048576) :
  Calls Tryz.prog 69 #[.string s] w fun e w' => e = .returned (.string s) /\ Below w.heap.size w w' := by
 by_cases q : s.size = 0
 ·have hs : s = ⟨#[]⟩ := ByteArray.ext (Array.eq_empty_of_size_eq_zero q)
  subst hs
  go_enter Tryz.func69, Tryz.ntmps69
  go_wp2
  go_ret
  exact ⟨rfl, Below.refl _ _⟩
 ·obtain ⟨C, o, z, d, B⟩ := info_parts Qc8
  have f : (Tryz.prog.info? 5).map (·.size) = some 1 := by rw [o]; simp [d]
  have v : Tryz.prog.cellsOf 5 = 1 := by simp [Program.cellsOf, o, d]
  obtain ⟨M, m⟩ : ∃ M, madeCells (Value.int .u8 0).cells (((s.size : Nat) : Int).toNat * C.size) = M := ⟨_, rfl⟩
  have r : M.size = s.size := by rw [<- m, size_madeCells, d]; simp
  have L : ∀ W : World, (Instr.makeSlice 41 (.int .i64 (s.size : Int)) (.int .i64 (s.size : Int))).run Tryz.prog W = .ok (.slice (some ⟨W.heap.size, 0, none⟩) s.size s.size) (W.alloc (.cells M 5)) := fun W => by
   have h := run_make (P := Tryz.prog) W 41 5 C (.int .u8 0) Tryz.underlying41 o z .i64 .i64 (s.size : Int) (s.size : Int) (by omega) (by omega) (by rw [B]; omega) (by omega)
   rw [m] at h
   simpa using h
  have u := bytesOf_length s
  have c : (w.alloc (.cells M 5)).there w.heap.size 0 s.size := fun j D => ⟨by rw [Nat.zero_add, World.cell?_alloc_new]; simp [r, D], World.frozen?_alloc_new _ _ _ _⟩
  have i := Qgc (P := Tryz.prog) (w.alloc (.cells M 5)) 41 9 3 5 w.heap.size 0 s.size s.size s s.size Tryz.underlying41 f (Nat.min_self _).symm c
  rw [List.take_of_length_le (by omega)] at i
  obtain ⟨Y, n, K⟩ := Qem ((bytesOf s).map encB) 0 (heap_alloc_new w (.cells M 5))
  have a := World.rangeAt_setCells_same (w.alloc (.cells M 5)) w.heap.size 0 ((bytesOf s).map encB) (by rw [List.length_map, u]; exact c)
  obtain ⟨W2, b⟩ : ∃ W2, (w.alloc (.cells M 5)).setCells w.heap.size 0 ((bytesOf s).map encB) = W2 := ⟨_, rfl⟩
  have g : Below w.heap.size w W2 := by
   rw [<- b]
   obtain ⟨G, H, I, J⟩ := Qa9 w.heap.size ((bytesOf s).map encB) 0 (w.alloc (.cells M 5))
   exact ⟨H, I, J, by rw [G]; simp, fun k E => (Qa8 _ _ _ _ _ (by omega)).trans (Below.heap_alloc _ _ _ E)⟩
  rw [b] at i n a
  have l : s.data.toList.length = s.size := by simp
  have y : s.data.toList ≠ [] := fun e => q (by rw [<- l, e]; rfl)
  have t := Lib.run_unsafeString_row (P := Tryz.prog) W2 205 3 9 5 Tryz.underlying205 v w.heap.size Y.size (by unfold World.shape?; rw [n]) s.data.toList y (by omega) (by omega)
   (fun j x F => by
    rw [Addr.add_mid]
    refine a j _ ?_
    unfold bytesOf
    rw [List.map_map, List.getElem?_map, F]
    rfl)
  rw [l, Qkt] at t
  have A : Aside (Below w.heap.size w W2) := g
  clear n a b m g c
  go_enter Tryz.func69, Tryz.ntmps69
  go_wp2
  go_ret
  exact ⟨rfl, Lib.below_freeze A.out (p := ⟨w.heap.size, 0, none⟩) (Nat.le_refl _) _⟩
theorem Qds (s : ByteArray) (w : World) (hs : s.size <= 1048576) :
  Calls Tryz.prog 50 #[.string s] w fun e w' => e = .returned (.string s) /\ Below w.heap.size w w' := by
 go_enter Tryz.func50, Tryz.ntmps50
 go_wp2_with (go_at_call 69; refine (Qrb s _ hs).mono ?_; rintro e b ⟨rfl, a⟩)
 go_ret
 exact ⟨rfl, a⟩
end Go.Proofs.YtakidhihbgfjlaaGreatDoor
