/-
  Package twigskeep: pick, fine.
-/
import Derived.Test.YtoohdfiddbfacaaGreatDoorTeText
import Derived.Test.YtoohdfiddbfacaaGreatDoorTeNibG
import Derived.Test.YtoohdfiddbfacaaGreatDoorTeSmaG
import Derived.Test.YtoohdfiddbfacaaGreatDoorTeVeE
import Derived.Test.YtoohdfiddbfacaaGreatDoorTeOrdA
namespace Go.Proofs.YtoohdfiddbfacaaGreatDoor
open Go.RowKit
set_option maxRecDepth 100000
set_option maxHeartbeats 25600000
theorem pick_val (c : Int) (h1 : -9223372036854775808 <= c) (h2 : c < 9223372036854775808) (h0 : c < 0) : wrap64 (-wrap64 (c + 1)) = -(c + 1) := by
 unfold wrap64
 omega
theorem pick_mod (c : Int) (n : Nat) (h : 0 <= c) (hn : 0 < n) : ∃ k : Nat, k < n /\ c.tmod (n : Int) = (k : Int) := by
 refine ⟨(c % (n : Int)).toNat, ?_, ?_⟩
 ·have := Int.emod_lt_of_pos c (show (0 : Int) < n by omega)
  have := Int.emod_nonneg c (show (n : Int) ≠ 0 by omega)
  omega
 ·rw [Int.tmod_eq_emod_of_nonneg h]
  have := Int.emod_nonneg c (show (n : Int) ≠ 0 by omega)
  omega
def ansB (o : Option ByteArray) (s : ByteArray) (f : Bool) : Bool := decide (s = o.getD ⟨#[]⟩ /\ f = o.isSome)
theorem empty_iff (s : ByteArray) : s.toList.isEmpty = decide (s = (⟨#[]⟩ : ByteArray)) := by
 by_cases h : s.size = 0
 ·rw [no_text s h, decide_eq_true (size_zero h)]
 ·rw [some_text s (by omega), decide_eq_false (fun e => h (by rw [e]; rfl))]
theorem answered_any {w : World} {C : Nat} {ks vs : Value} {m : Mp} {K : Array Nat} (hk : Kn w C ks vs m) (hm : m.length <= 1000) (hd : (m.map pth).Nodup) (hK : K.size = 32) (hKb : Bytes K) (s : ByteArray) (f : Bool) {o : Option ByteArray} (ho : getN m (nibs K.toList) = o) :
  Calls Tryz.prog 17 #[.agg #[ks, vs], .agg (K.toList.map encB).toArray, .string s, .bool f] w fun e w' => e = .returned (.bool (ansB o s f)) /\ Below w.heap.size w w' := by
 obtain ⟨x, t, p, rfl⟩ := hk.keys.shape
 obtain ⟨y, v, q, rfl⟩ := hk.vals.shape
 have L : (Tryz.prog.info? 34).map (·.size) = some (K.toList.map encB).length := by rw [size51]; simp [hK]
 obtain ⟨W0, c⟩ : ∃ W0, (w.alloc (.cells #[.slice x t p, .slice y v q] 27)).alloc (.cells (K.toList.map encB).toArray 34) = W0 := ⟨_, rfl⟩
 have k : Below w.heap.size w W0 := by rw [<- c]; exact ((Below.refl _ _).alloc (Nat.le_refl _) _).alloc (by simp) _
 have J : W0.heap.size = w.heap.size + 2 := by rw [<- c]; simp
 have H : W0.cell? ⟨w.heap.size, 0, none⟩ = some (.slice x t p) := by rw [<- c]; simp
 have D : W0.cell? ⟨w.heap.size, 1, none⟩ = some (.slice y v q) := by rw [<- c]; simp
 have h : W0.rangeAt (w.heap.size + 1) 0 (K.toList.map encB) := fun j u r => by
  have O : (w.alloc (.cells #[.slice x t p, .slice y v q] 27)).heap.size = w.heap.size + 1 := by simp
  rw [<- c, Nat.zero_add, <- O, World.cell?_alloc_new]
  simpa using r
 have F := Hid.hide (kfind_any (hk.below k) hm hK hKb)
 have B : Hid (Below w.heap.size w W0 /\ W0.heap.size = w.heap.size + 2 /\ m.length <= 1000 /\ (m.map pth).Nodup /\ Kn W0 C (.slice x t p) (.slice y v q) m) := ⟨k, J, hm, hd, hk.below k⟩
 have G := Hid.hide ho
 clear hk hm hd hK hKb k ho
 go_enter Tryz.func17, Tryz.ntmps17
 go_wp2_with (refine wpList_load_mid rfl 34 _ rfl (w.heap.size + 1) 0 rfl (K.toList.map encB) _ h Tryz.underlying34 rfl L ?_)
 refine F.out.mono ?_
 rintro e P ⟨rfl, g⟩
 have N := (World.cell?_of_block (a := ⟨w.heap.size, 1, none⟩) (g.block w.heap.size (by omega))).trans D
 have d : Hid (Below w.heap.size w P) := B.out.1.behind' g
 cases hfi : findN m K with
 | none =>
  have n := find_no hfi
  have l : Hid (∀ b, ansB o s b = (!b && s.toList.isEmpty)) := fun b => by
   rw [<- G.out, n, ansB, empty_iff]
   cases b <;> simp
  simp only [findV]
  clear n hfi g h H D c N
  cases f with
  | true =>
   go_wp2
   go_ret
   exact ⟨by rw [l.out]; rfl, d.out⟩
  | false =>
   go_wp2
   go_ret
   exact ⟨by rw [l.out]; rfl, d.out⟩
 | some i =>
  obtain ⟨E, -, n⟩ := find_get B.out.2.2.2.1 hfi
  obtain ⟨U, Q, z, R, I⟩ := (B.out.2.2.2.2.below g).val E
  simp only [Value.slice.injEq] at z
  obtain ⟨rfl, rfl, rfl⟩ := z
  obtain ⟨u, r⟩ : ∃ u, m[i].2 = u := ⟨_, rfl⟩
  rw [r] at I n
  have l : Hid (∀ b, ansB o s b = (b && decide (s = u))) := fun b => by
   rw [<- G.out, n, ansB]
   cases b <;> simp
  have V : (i : Int) < (m.length : Int) := by omega
  have W : ¬ (i : Int) < 0 := by omega
  have T : Hid (i < m.length) := E
  simp only [findV]
  clear n hfi g h H D c r E
  cases f with
  | false =>
   go_wp2
   go_ret
   exact ⟨by rw [l.out]; rfl, d.out⟩
  | true =>
   by_cases e : s = u
   ·subst e
    go_wp2
    go_ret
    exact ⟨by rw [l.out]; simp, d.out⟩
   ·have S := toList_ne' e
    have M : Hid (decide (s = u) = false) := decide_eq_false e
    clear e
    go_wp2
    go_ret
    exact ⟨by rw [l.out, M.out]; rfl, d.out⟩
end Go.Proofs.YtoohdfiddbfacaaGreatDoor
