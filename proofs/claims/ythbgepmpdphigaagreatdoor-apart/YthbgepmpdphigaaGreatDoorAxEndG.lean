/-
  Decode of package item.
  Encode of package item, where nothing is too deep.
  Which faults reading gives. Plain facts.
  Decode and Encode of package twigs.
-/
import Derived.Test.YthbgepmpdphigaaGreatDoorAxBarG
import Derived.Test.YthbgepmpdphigaaGreatDoorAxEncG
import Derived.Test.YthbgepmpdphigaaGreatDoorAxSmaG
import Derived.LaidEql
import Derived.Laws.StructEq
import Derived.MapKept
import Derived.Test.YthbgepmpdphigaaGreatDoorAxReaG
namespace Go.Proofs.YthbgepmpdphigaaGreatDoor
open Go.RowKit
set_option maxRecDepth 100000
set_option maxHeartbeats 25600000
def DecSaid (s : ByteArray) (sent : Nat -> Addr) (w : World) (e : Ending) (w' : World) : Prop :=
 Below w.heap.size w w' /\ (∀ er, decF (bytesOf s) = .error er -> ∃ t v, er.val sent = .iface t v /\ e = .returned (.tuple #[zeroP, .iface t v])) /\
  ∀ x, decF (bytesOf s) = .ok x -> ∃ (fr en : Nat) (l : Bool) (tx : ByteArray) (p : Option Addr) (m c : Nat), Tree encP kP 6 w' (fun k => w.heap.size <= k) ⟨fr, en, l, tx, .slice p m c⟩ x /\ e = .returned (.tuple #[valP ⟨fr, en, l, tx, .slice p m c⟩, .nilIface])
theorem DecSaid.err {s : ByteArray} {sent : Nat -> Addr} {w : World} {e : Ending} {w' : World} {er : Er} {t : TypeId} {v : Value} (h : decF (bytesOf s) = .error er) (hb : Below w.heap.size w w') (hv : er.val sent = .iface t v) (he : e = .returned (.tuple #[zeroP, .iface t v])) : DecSaid s sent w e w' :=
 ⟨hb, fun er' h' => (by rw [h] at h'; cases h'; exact ⟨t, v, hv, he⟩), fun x h' => by rw [h] at h'; cases h'⟩
theorem Qv2 (s : ByteArray) (sent : Nat -> Addr) (w : World) (hF : Faults w sent) (hs : 2048 < s.size) :
  Calls Tryz.prog 95 #[.string s] w (DecSaid s sent w) := by
 have b : w.cell? ⟨0, 0, none⟩ = some (.iface 271 (.pointer (some (sent 1)))) := hF.var 1 (by decide)
 have a : 0 < w.heap.size := hF.low (n := 1) (by decide)
 have d := fun o => Qmn o b a
 have e : ¬ w.heap.size = 0 := by omega
 have c : ¬ 0 = w.heap.size := by omega
 have f : (2048 : Int) < (s.size : Int) := by omega
 have A : Aside (decF (bytesOf s) = .error (.base 1)) := by
  show decF (bytesOf s) = .error (.base 1)
  unfold decF
  rw [if_pos (by rw [bytesOf_length]; exact hs)]
 clear hF hs
 go_enter Tryz.func95, Tryz.ntmps95
 go_wp2
 go_region
 go_wp2
 refine bodyPost_ret (v := .tuple #[zeroP, .iface 271 (.pointer (some (sent 1)))]) (by simp [results, Tryz.results95, go_sem]) rfl ?_
 exact .err A.out ((Below.refl _ _).alloc (Nat.le_refl _) _).drew rfl rfl
theorem Qxs (s : ByteArray) (sent : Nat -> Addr) (w : World) (hF : Faults w sent) :
  Calls Tryz.prog 95 #[.string s] w (DecSaid s sent w) := by
 by_cases f : 2048 < s.size
 ·exact Qv2 s sent w hF f
 ·have Y : (s.size : Int) <= 2048 := by omega
  have g : decF (bytesOf s) = (match readIt 6 (bytesOf s) 0 with | .error e => .error e | .ok x => if x.to < (bytesOf s).length then .error (.place x.to (.base 4)) else .ok x) := by
   unfold decF
   rw [if_neg (by rw [bytesOf_length]; exact f)]
   cases readIt 6 (bytesOf s) 0 <;> rfl
  rw [bytesOf_length] at g
  have S : Hid (∀ W, Below w.heap.size w W -> Calls Tryz.prog 109 #[.string s, .int .i64 0, .int .i64 0] W (ItemSaid 6 s 0 sent W)) := fun W V => Qv9 sent 6 0 s 0 W rfl (by omega) (by omega) (hF.below V)
  have M := Hid.hide hF
  have F := Hid.hide g
  clear hF g f
  go_enter Tryz.func95, Tryz.ntmps95
  go_wp2_with fail
  refine (S.out _ ((Below.refl _ _).alloc (Nat.le_refl _) _)).mono ?_
  rintro e b ⟨a, h, i⟩
  obtain ⟨G, Z⟩ := Qac a 0 (v := .int .i64 0) rfl
  obtain ⟨H, f1⟩ := Qac a 1 (v := .int .i64 0) rfl
  obtain ⟨I, f2⟩ := Qac a 2 (v := .bool false) rfl
  obtain ⟨J, f3⟩ := Qac a 3 (v := .string ⟨#[]⟩) rfl
  obtain ⟨K, f4⟩ := Qac a 4 (v := .slice none 0 0) rfl
  have r : Aside (Below w.heap.size w b) := Below.up a
  have j : w.heap.size < b.heap.size := by have := a.size; simp at this; omega
  have X : w.heap.size ≠ b.heap.size := Nat.ne_of_lt j
  rcases hr : readIt 6 (bytesOf s) 0 with u | x
  ·obtain ⟨t, v, P, rfl⟩ := h u hr
   have d : Aside (decF (bytesOf s) = .error u /\ u.val sent = .iface t v) := ⟨by rw [F.out, hr], P⟩
   clear a h i hr P
   go_wp2
   refine bodyPost_ret (v := .tuple #[zeroP, .iface t v]) (by simp [results, Tryz.results95, go_sem, j, G, H, I, J, K]) rfl ?_
   refine .err d.out.1 ?_ d.out.2 rfl
   exact (((((r.out.setCell (Nat.le_refl _) _).setCell (Nat.le_refl _) _).setCell (Nat.le_refl _) _).setCell (Nat.le_refl _) _).setCell (Nat.le_refl _) _).alloc (by simp; omega) _
  ·obtain ⟨l, C, p, m, c, z, rfl⟩ := i x hr
   obtain ⟨h0, T, U⟩ := Qdj (by omega) hr
   obtain ⟨en, q⟩ : ∃ en, x.to = en := ⟨_, rfl⟩
   rw [q] at z T U ⊢
   by_cases E : en < s.size
   ·have L : (en : Int) < (s.size : Int) := by omega
    have d : Aside (decF (bytesOf s) = .error (.place en (.base 4))) := by
     show decF (bytesOf s) = .error (.place en (.base 4))
     rw [F.out, hr]
     simp only
     rw [q, if_pos E]
    have o := M.out.below r.out
    have g0 : b.cell? ⟨2, 0, none⟩ = some (.iface 271 (.pointer (some (sent 4)))) := o.var 4 (by decide)
    have g1 : 2 < b.heap.size := o.low (n := 4) (by decide)
    have g3 : 2 < w.heap.size := M.out.low (n := 4) (by decide)
    have g2 : ¬ 2 = w.heap.size := by omega
    have g4 : ¬ 2 = b.heap.size := by omega
    clear a h i hr z o
    go_wp2
    go_region
    go_wp2
    refine bodyPost_ret (v := .tuple #[zeroP, placeV en (.iface 271 (.pointer (some (sent 4))))]) (by simp [results, Tryz.results95, go_sem, j, G, H, I, J, K]) rfl ?_
    refine .err d.out ?_ rfl rfl
    exact ((((((r.out.setCell (Nat.le_refl _) _).setCell (Nat.le_refl _) _).setCell (Nat.le_refl _) _).setCell (Nat.le_refl _) _).setCell (Nat.le_refl _) _).alloc (by simp; omega) _).drew
   ·have L : (s.size : Int) <= (en : Int) := by omega
    have d : Aside (decF (bytesOf s) = .ok x) := by
     show decF (bytesOf s) = .ok x
     rw [F.out, hr]
     simp only
     rw [q, if_neg E]
    have D : Tree encP kP 6 b (fun k => w.heap.size < k) ⟨0, en, l, C, .slice p m c⟩ x := Tree.keep (fun k B => by simp at B; omega) (Nat.le_refl _) (fun _ _ _ => rfl) 6 z
    have R : Aside (Tree encP kP 6 b (fun k => w.heap.size < k) ⟨0, en, l, C, .slice p m c⟩ x) := D
    clear a h i hr z D
    go_wp2
    refine bodyPost_ret (v := .tuple #[valP ⟨0, en, l, C, .slice p m c⟩, .nilIface]) (by simp [results, Tryz.results95, go_sem, j, G, H, I, J, K]) rfl ?_
    refine ⟨(((((r.out.setCell (Nat.le_refl _) _).setCell (Nat.le_refl _) _).setCell (Nat.le_refl _) _).setCell (Nat.le_refl _) _).setCell (Nat.le_refl _) _).alloc (by simp; omega) _, fun u N => ?_, fun y Q => ?_⟩
    ·rw [d.out] at N
     cases N
    ·rw [d.out] at Q
     cases Q
     refine ⟨0, en, l, C, p, m, c, ?_, rfl⟩
     refine Tree.keep (fun k B => Nat.le_of_lt B) (by simp) (fun k B O => ?_) 6 R.out
     rw [Below.heap_alloc _ _ _ (by simpa using O), Below.heap_setCell _ _ _ _ (by simp only; omega), Below.heap_setCell _ _ _ _ (by simp only; omega), Below.heap_setCell _ _ _ _ (by simp only; omega), Below.heap_setCell _ _ _ _ (by simp only; omega), Below.heap_setCell _ _ _ _ (by simp only; omega)]
end Go.Proofs.YthbgepmpdphigaaGreatDoor
