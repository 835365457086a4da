/-
  Package twigsref: hash of a text of 32 bytes.
-/
import Derived.Test.YtjiikjpnlgogfaaGreatDoorBooA
import Derived.Test.YtjiikjpnlgogfaaGreatDoorWriG
import Derived.Test.YtjiikjpnlgogfaaGreatDoorAccT
namespace Go.Proofs.YtjiikjpnlgogfaaGreatDoor
open Go.RowKit

/-- The first k bytes laid. -/
def hcs (t : List Nat) (k : Nat) : List Value := (t.take k).map encB ++ List.replicate (32 - k) (encB 0)
theorem hcs_length (t : List Nat) (k : Nat) (ht : t.length = 32) (hk : k ≤ 32) : (hcs t k).length = 32 := by
  unfold hcs
  simp
  omega
theorem hcs_get (t : List Nat) (k : Nat) (ht : t.length = 32) (hk : k < 32) : (hcs t k)[k]? = some (encB 0) := by
  unfold hcs
  rw [List.getElem?_append_right (by simp; omega), List.length_map, List.length_take, Nat.min_eq_left (by omega), Nat.sub_self, List.getElem?_replicate, if_pos (by omega)]
theorem hcs_set (t : List Nat) (k : Nat) (ht : t.length = 32) (hk : k < 32) : (hcs t k).set k (encB t[k]!) = hcs t (k + 1) := by
  unfold hcs
  rw [List.set_append_right _ _ (by simp; omega), List.length_map, List.length_take, Nat.min_eq_left (by omega), Nat.sub_self, show 32 - k = (32 - (k + 1)) + 1 by omega, List.replicate_succ, List.set_cons_zero, ← List.take_append_getElem (by omega : k < t.length), List.map_append, List.append_assoc, getElem!_pos t k (by omega)]
  rfl
theorem hcs_full (t : List Nat) (ht : t.length = 32) : hcs t 32 = t.map encB := by
  unfold hcs
  rw [List.take_of_length_le (by omega)]
  simp

theorem bytesOf_at (s : ByteArray) (k : Nat) (h : k < s.size) : (bytesOf s)[k]! = s[k].toNat := by
  rw [getElem!_pos _ _ (by rw [bytesOf_length]; exact h)]
  unfold bytesOf
  simp
  rfl
theorem results_one {fn : Func} {p : Tmp} {t1 : TypeId} (h : fn.results = #[.cell p t1]) (tmps : Array Value) (P : Program) (w : World) (b : Nat) (hp : tmps.getD p undef = .pointer (some ⟨b, 0, none⟩)) {v : Value} (hv : (loadVar t1 ⟨b, 0, none⟩).run P w = .ok v w) : (results fn tmps).run P w = .ok v w := by
  simp only [results, h]
  simp only [Array.mapM_eq_mapM_toList, List.mapM_cons, List.mapM_nil, Sem.run_bind, Result.andThen, hp]
  simp [Result.andThen, asAddr, hv]

set_option maxRecDepth 100000 in
set_option maxHeartbeats 3200000 in
theorem hash_ref (s : ByteArray) (hs : s.size = 32) (w : World) : Calls Tryz.prog 177 #[.string s] w fun e w' => e = .returned (.agg ((bytesOf s).map encB).toArray) ∧ Below w.heap.size w w' := by
  have hbl := bytesOf_length s
  have hsi : (s.size : Int) = 32 := by omega
  go_enter Tryz.func177, Tryz.ntmps177
  go_wp2
  generalize hWW : World.alloc (World.alloc w _) _ = W
  have HW : Hid (Below w.heap.size w W ∧ Held W w.heap.size (hcs (bytesOf s) 0) ∧ Held W (w.heap.size + 1) (hcs (bytesOf s) 0)) := by
    rw [← hWW]
    refine ⟨((Below.refl _ _).alloc (Nat.le_refl _) _).alloc (by simp) _, (Held.fresh w (hcs (bytesOf s) 0) _).alloc _, ?_⟩
    have := Held.fresh (w.alloc (.cells (hcs (bytesOf s) 0).toArray 34)) (hcs (bytesOf s) 0) 34
    rw [World.size_alloc] at this
    exact this
  clear hWW
  have HT : Hid ((bytesOf s).length = 32) := by rw [hbl]; exact hs
  have hzL : (Tryz.prog.info? 34).map (·.size) = some ((bytesOf s).map encB).length := by rw [List.length_map, hbl, hs]; exact size28
  clear hbl hs
  go_loopg [4] 32 (fun gh i wr => ∃ k, k ≤ 32 ∧ gh = 32 - k ∧ i = .int .i64 (k : Int) ∧ Below w.heap.size w wr ∧ Held wr w.heap.size (hcs (bytesOf s) 0) ∧ Held wr (w.heap.size + 1) (hcs (bytesOf s) k))
  case atStart => exact ⟨0, by omega, rfl, rfl, HW.out⟩
  case round =>
    obtain ⟨k, hk, rfl, rfl, hB, hR, hH⟩ := hrel
    by_cases hlt : k < 32
    · have hki : (k : Int) < 32 := by omega
      have hki2 : (k : Int) < (s.size : Int) := by omega
      have hks : k < s.size := by omega
      obtain ⟨c0, f0⟩ := hH.2 k _ (hcs_get _ k HT.out hlt)
      have hl := hH.1
      have A1 : Aside (Below w.heap.size w wr ∧ Held wr w.heap.size (hcs (bytesOf s) 0) ∧ Held wr (w.heap.size + 1) (hcs (bytesOf s) k)) := ⟨hB, hR, hH⟩
      have HG : Hid (s[k].toNat = (bytesOf s)[k]!) := (bytesOf_at s k hks).symm
      clear hB hR hH
      go_wp2
      go_roundg (32 - (k + 1))
      case measure => omega
      case rel =>
        refine ⟨k + 1, by omega, rfl, val_int (by omega), A1.out.1.setCell (by simp only; omega) _, A1.out.2.1.otherB (by simp only; omega) _, ?_⟩
        have := A1.out.2.2.setAt k (encB (bytesOf s)[k]!) (by rw [hcs_length _ _ HT.out (by omega)]; exact hlt)
        rw [hcs_set _ k HT.out hlt] at this
        rw [HG.out]
        exact this
    · have hk2 : k = 32 := by omega
      subst hk2
      rw [hcs_full _ HT.out] at hH
      have hrg : wr.rangeAt (w.heap.size + 1) 0 ((bytesOf s).map encB) := fun j u hu => by rw [Nat.zero_add]; exact (hH.2 j u hu).1
      have hth : wr.there w.heap.size 0 ((bytesOf s).map encB).toArray.size := fun j hj => by
        rw [List.size_toArray, List.length_map, HT.out] at hj
        have h0 : (hcs (bytesOf s) 0)[j]? = some (encB 0) := by
          unfold hcs
          rw [List.take_zero, List.map_nil, List.nil_append, List.getElem?_replicate, if_pos (by omega)]
        rw [Nat.zero_add]
        exact ⟨by rw [(hR.2 j _ h0).1]; rfl, (hR.2 j _ h0).2⟩
      have hzA : (Tryz.prog.info? 34).map (·.size) = some ((bytesOf s).map encB).toArray.size := by rw [List.size_toArray]; exact hzL
      have hAo : ((bytesOf s).map encB).toArray.all (·.oneCell') = true := by
        rw [List.all_toArray, List.all_eq_true]
        exact encB_oneCell _
      have A1 : Aside (Below w.heap.size w wr) := hB
      obtain ⟨L, hL⟩ : ∃ L, (bytesOf s).map encB = L := ⟨_, rfl⟩
      rw [hL] at hrg hth hzL hzA hAo
      have HL := Hid.hide hL
      clear hB hR hH hlt hL hk
      go_wp2_with (first
        | (refine wpList_load_mid rfl 34 _ rfl (w.heap.size + 1) 0 rfl L _ hrg Tryz.underlying34 rfl hzL ?_)
        | (refine wpList_store_mid rfl 34 _ _ rfl w.heap.size 0 L.toArray rfl rfl hth hzA hAo ?_))
      have hr2 := World.rangeAt_setCells_same wr w.heap.size 0 L (by rw [← List.size_toArray]; exact hth)
      refine bodyPost_ret (v := .agg L.toArray) (results_one Tryz.results177 _ _ _ w.heap.size rfl (run_loadVar_mid _ _ _ 34 _ _ hr2 Tryz.underlying34 rfl hzL)) rfl ⟨by rw [HL.out], ?_⟩
      exact below_setCells A1.out (Nat.le_refl _) _ _
end Go.Proofs.YtjiikjpnlgogfaaGreatDoor
