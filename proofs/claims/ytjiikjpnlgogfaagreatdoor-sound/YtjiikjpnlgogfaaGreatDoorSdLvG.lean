/-
  Package twigskeep: pick, path (a key's nibbles), fine.
  twigskeep: whether an answer is the map's own.
-/
import Derived.Test.YtjiikjpnlgogfaaGreatDoorSdText
import Derived.Test.YtjiikjpnlgogfaaGreatDoorSdNibG
import Derived.Test.YtjiikjpnlgogfaaGreatDoorSdSmaG
import Derived.Test.YtjiikjpnlgogfaaGreatDoorSdVeE
import Derived.Test.YtjiikjpnlgogfaaGreatDoorSdOrdA
namespace Go.Proofs.YtjiikjpnlgogfaaGreatDoor
open Go.RowKit
theorem pick_val (c : Int) (h1 : -9223372036854775808 ≤ c) (h2 : c < 9223372036854775808) (h0 : c < 0) : wrap64 (-wrap64 (c + 1)) = -(c + 1) := by
 unfold wrap64
 omega
theorem pick_mod (c : Int) (n : Nat) (h : 0 ≤ c) (hn : 0 < n) : ∃ k : Nat, k < n ∧ c.tmod (n : Int) = (k : Int) := by
 refine ⟨(c % (n : Int)).toNat, ?_, ?_⟩
 ·have := Int.emod_lt_of_pos c (show (0 : Int) < n by omega)
  have := Int.emod_nonneg c (show (n : Int) ≠ 0 by omega)
  omega
 ·rw [Int.tmod_eq_emod_of_nonneg h]
  have := Int.emod_nonneg c (show (n : Int) ≠ 0 by omega)
  omega
set_option maxRecDepth 100000 in
theorem fine_zero (w : World) : Calls Tryz.prog 31 #[.agg #[.int .i64 0, .int .i64 0, .int .i64 0, .int .i64 0]] w fun e w' => e = .returned (.bool true) ∧ Below w.heap.size w w' := by
 go_enter Tryz.func31, Tryz.ntmps31
 go_wp2
 go_ret
 exact ⟨rfl, (Below.refl _ _).alloc (Nat.le_refl _) _⟩
end Go.Proofs.YtjiikjpnlgogfaaGreatDoor
namespace Go.Proofs.YtjiikjpnlgogfaaGreatDoor
open Go.RowKit
def ansB (o : Option ByteArray) (s : ByteArray) (f : Bool) : Bool := decide (s = o.getD ⟨#[]⟩ ∧ f = o.isSome)
theorem empty_iff (s : ByteArray) : s.toList.isEmpty = decide (s = (⟨#[]⟩ : ByteArray)) := by
 by_cases h : s.size = 0
 ·rw [no_text s h, decide_eq_true (size_zero h)]
 ·rw [some_text s (by omega), decide_eq_false (fun e => h (by rw [e]; rfl))]
set_option maxRecDepth 100000 in
set_option maxHeartbeats 1600000 in
theorem answered_any {w : World} {C : Nat} {ks vs : Value} {m : Mp} {K : Array Nat} (hk : Kn w C ks vs m) (hm : m.length ≤ 1000) (hd : (m.map pth).Nodup) (hK : K.size = 32) (hKb : Bytes K) (s : ByteArray) (f : Bool) {o : Option ByteArray} (ho : getN m (nibs K.toList) = o) :
  Calls Tryz.prog 32 #[.agg #[ks, vs], .agg (K.toList.map encB).toArray, .string s, .bool f] w fun e w' => e = .returned (.bool (ansB o s f)) ∧ Below w.heap.size w w' := by
 obtain ⟨pk, mk, ck, rfl⟩ := hk.keys.shape
 obtain ⟨pv, mv, cv, rfl⟩ := hk.vals.shape
 have hsz : (Tryz.prog.info? 26).map (·.size) = some (K.toList.map encB).length := by rw [size51]; simp [hK]
 obtain ⟨W0, hW0⟩ : ∃ W0, (w.alloc (.cells #[.slice pk mk ck, .slice pv mv cv] 54)).alloc (.cells (K.toList.map encB).toArray 26) = W0 := ⟨_, rfl⟩
 have hb0 : Below w.heap.size w W0 := by rw [← hW0]; exact ((Below.refl _ _).alloc (Nat.le_refl _) _).alloc (by simp) _
 have hs0 : W0.heap.size = w.heap.size + 2 := by rw [← hW0]; simp
 have c0 : W0.cell? ⟨w.heap.size, 0, none⟩ = some (.slice pk mk ck) := by rw [← hW0]; simp
 have c1 : W0.cell? ⟨w.heap.size, 1, none⟩ = some (.slice pv mv cv) := by rw [← hW0]; simp
 have hrow : W0.rangeAt (w.heap.size + 1) 0 (K.toList.map encB) := fun j u hu => by
  have e1 : (w.alloc (.cells #[.slice pk mk ck, .slice pv mv cv] 54)).heap.size = w.heap.size + 1 := by simp
  rw [← hW0, Nat.zero_add, ← e1, World.cell?_alloc_new]
  simpa using hu
 have HFi := Hid.hide (kfind_any (hk.below hb0) hm hK hKb)
 have HX : Hid (Below w.heap.size w W0 ∧ W0.heap.size = w.heap.size + 2 ∧ m.length ≤ 1000 ∧ (m.map pth).Nodup ∧ Kn W0 C (.slice pk mk ck) (.slice pv mv cv) m) := ⟨hb0, hs0, hm, hd, hk.below hb0⟩
 have HO := Hid.hide ho
 clear hk hm hd hK hKb hb0 ho
 go_enter Tryz.func32, Tryz.ntmps32
 go_wp2_with (refine wpList_load_mid rfl 26 _ rfl (w.heap.size + 1) 0 rfl (K.toList.map encB) _ hrow Tryz.underlying26 rfl hsz ?_)
 refine HFi.out.mono ?_
 rintro e w1 ⟨rfl, hb1⟩
 have d1 := (World.cell?_of_block (a := ⟨w.heap.size, 1, none⟩) (hb1.block w.heap.size (by omega))).trans c1
 have HB1 : Hid (Below w.heap.size w w1) := HX.out.1.behind' hb1
 cases hfi : findN m K with
 | none =>
  have hn := find_no hfi
  have HN : Hid (∀ b, ansB o s b = (!b && s.toList.isEmpty)) := fun b => by
   rw [← HO.out, hn, ansB, empty_iff]
   cases b <;> simp
  simp only [findV]
  clear hn hfi hb1 hrow c0 c1 hW0 d1
  cases f with
  | true =>
   go_wp2
   go_ret
   exact ⟨by rw [HN.out]; rfl, HB1.out⟩
  | false =>
   go_wp2
   go_ret
   exact ⟨by rw [HN.out]; rfl, HB1.out⟩
 | some i =>
  obtain ⟨hi, -, hn⟩ := find_get HX.out.2.2.2.1 hfi
  obtain ⟨gv, cap, hvs, hgl, hcv⟩ := (HX.out.2.2.2.2.below hb1).val hi
  simp only [Value.slice.injEq] at hvs
  obtain ⟨rfl, rfl, rfl⟩ := hvs
  obtain ⟨u, hu⟩ : ∃ u, m[i].2 = u := ⟨_, rfl⟩
  rw [hu] at hcv hn
  have HN : Hid (∀ b, ansB o s b = (b && decide (s = u))) := fun b => by
   rw [← HO.out, hn, ansB]
   cases b <;> simp
  have i0 : (i : Int) < (m.length : Int) := by omega
  have i1 : ¬ (i : Int) < 0 := by omega
  have HI : Hid (i < m.length) := hi
  simp only [findV]
  clear hn hfi hb1 hrow c0 c1 hW0 hu hi
  cases f with
  | false =>
   go_wp2
   go_ret
   exact ⟨by rw [HN.out]; rfl, HB1.out⟩
  | true =>
   by_cases e : s = u
   ·subst e
    go_wp2
    go_ret
    exact ⟨by rw [HN.out]; simp, HB1.out⟩
   ·have hne := toList_ne' e
    have HE : Hid (decide (s = u) = false) := decide_eq_false e
    clear e
    go_wp2
    go_ret
    exact ⟨by rw [HN.out, HE.out]; rfl, HB1.out⟩
end Go.Proofs.YtjiikjpnlgogfaaGreatDoor
