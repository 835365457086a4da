/-
  Package storage: keyOf, the key of a name; package twigskeep: hashed, named.
  Package storage: Verify over two proofs.
  twigs.VerifyStorage.
  Package twigskeep: Storage: what holds on its way.
-/
import Derived.Test.YtjiikjpnlgogfaaGreatDoorSgKnG
import Derived.Test.YtjiikjpnlgogfaaGreatDoorSgAccH
import Derived.Test.YtjiikjpnlgogfaaGreatDoorSgVeA
import Derived.Test.YtjiikjpnlgogfaaGreatDoorSgVfO
import Derived.Test.YtjiikjpnlgogfaaGreatDoorSgAccT
import Derived.Test.YtjiikjpnlgogfaaGreatDoorSgOhG
namespace Go.Proofs.YtjiikjpnlgogfaaGreatDoor
open Go.RowKit
set_option maxRecDepth 100000 in
set_option maxHeartbeats 1600000 in
theorem keyof_any {w : World} (l : List Nat) (g o m cap : Nat) (hm : m = l.length) (hg : 0 < l.length → g < w.heap.size) (hrow : w.rangeAt g o (l.map encB)) (hT : Tabs w) (hM : 16 ≤ w.heap.size) :
  Calls Tryz.prog 106 #[.slice (some ⟨g, o, none⟩) m cap] w fun e w' => e = .returned (.agg ((digB l).map encB).toArray) ∧ Below w.heap.size w w' := by
 have q2 : ∀ W, Below w.heap.size w W → Sem.run Tryz.prog (convert 111 9 (.slice (some ⟨g, o, none⟩) m cap)) W = .ok (.string (textB l)) W := fun W hW =>
  run_range_text (P := Tryz.prog) W 111 9 5 Tryz.underlying111 Tryz.underlying5 Tryz.underlying9 (fun j u hu => by
   have hj := (List.getElem?_eq_some_iff.1 hu).1
   rw [List.length_map] at hj
   exact (hW.cell (p := ⟨g, o + j, none⟩) (hg (by omega))).trans (hrow j u hu)) m cap hm
 have HQ := Hid.hide q2
 have HO : Hid (∀ W, Below w.heap.size w W → Calls Tryz.prog 48 #[.string (textB l)] W fun e w' => e = .returned (.agg ((digF (textB l)).toList.map encB).toArray) ∧ Below W.heap.size W w') := fun W hW => of_any _ W (hT.below hW hM) (Nat.le_trans hM hW.size)
 clear hm hg hrow hT hM q2
 go_enter Tryz.func106, Tryz.ntmps106
 go_upto_region 1 with fail
 generalize hw1 : w.alloc (.cells _ 26) = w1
 have hB1 : Below w.heap.size w w1 := by rw [← hw1]; exact (Below.refl _ _).alloc (Nat.le_refl _) _
 have ht1 : w1.there w.heap.size 0 32 := by rw [← hw1]; exact there_new _ _ _ _ rfl
 have hs1 : w.heap.size < w1.heap.size := by rw [← hw1]; simp
 clear hw1
 have q3 := HQ.out w1 hB1
 have HO1 := Hid.hide (HO.out w1 hB1)
 obtain ⟨s, hs⟩ : ∃ s, textB l = s := ⟨_, rfl⟩
 rw [hs] at q3 HO1
 go_wp2_with fail
 refine HO1.out.mono ?_
 rintro e w3 ⟨rfl, hb3⟩
 have hDs : (digF s).size = 32 := sumF_size _
 obtain ⟨D, hD⟩ : ∃ D, digF s = D := ⟨_, rfl⟩
 have HD : Hid ((digB l) = D.toList) := by rw [← hD, ← hs]; rfl
 rw [hD] at hDs ⊢
 clear hD hs
 have hB3 : Below w.heap.size w w3 := hB1.trans (hb3.mono (by omega))
 obtain ⟨hz1, hz2, hth', hth2⟩ := hash_cells' hDs (there_block ht1 (hb3.block _ (by omega)))
 have hone := all_oneCell_toArray (oneCell_enc D .u8)
 have A3 : Aside (Below w.heap.size w w3 ∧ w3.there w.heap.size 0 (D.toList.map encB).length) := ⟨hB3, hth2⟩
 clear hB1 ht1 hs1 hb3 hB3 hth2 hDs q3
 go_wp2_with (refine wpList_store_mid rfl 26 _ _ rfl w.heap.size 0 (D.toList.map encB).toArray rfl rfl hth' hz2 hone ?_)
 obtain ⟨hB3, hth2⟩ := A3.out
 refine bodyPost_ret (v := .agg (D.toList.map encB).toArray) (results_cell1 Tryz.results106 _ _ _ w.heap.size 0 rfl (run_loadVar_mid _ _ _ 26 _ _ (World.rangeAt_setCells_same _ _ _ _ hth2) Tryz.underlying26 rfl hz1)) rfl ⟨?_, below_setCells hB3 (Nat.le_refl _) _ _⟩
 rw [HD.out]
theorem name_loads {W : World} {b n : Nat} {l : List Nat} (hb : W.rangeAt b 0 (l.map encB)) (hn : n = l.length) : Sem.run Tryz.prog (convert 111 9 (.slice (some ⟨b, 0, none⟩) n n)) W = .ok (.string (textB l)) W :=
 run_range_text (P := Tryz.prog) W 111 9 5 Tryz.underlying111 Tryz.underlying5 Tryz.underlying9 hb n n hn
set_option maxRecDepth 100000 in
set_option maxHeartbeats 1600000 in
theorem hashed_any {w : World} (K : Array Nat) (hK : K.size = 32) (hT : Tabs w) (hM : 16 ≤ w.heap.size) :
  Calls Tryz.prog 38 #[.agg (K.toList.map encB).toArray] w fun e w' => e = .returned (.agg ((digB K.toList).map encB).toArray) ∧ Below w.heap.size w w' := by
 obtain ⟨A, hA⟩ : ∃ A, (K.toList.map encB).toArray = A := ⟨_, rfl⟩
 obtain ⟨w0, hw0⟩ : ∃ w0, w.alloc (.cells A 26) = w0 := ⟨_, rfl⟩
 have hrow : w0.rangeAt w.heap.size 0 (K.toList.map encB) := fun j u hu => by
  rw [← hw0, Nat.zero_add, World.cell?_alloc_new, ← hA]
  simpa using hu
 have hs0 : w0.heap.size = w.heap.size + 1 := by rw [← hw0]; simp
 have hb0 : Below w.heap.size w w0 := by rw [← hw0]; exact (Below.refl _ _).alloc (Nat.le_refl _) _
 have hrow1 : ∀ o, (w0.alloc o).rangeAt w.heap.size 0 (K.toList.map encB) := fun o j u hu => (World.cell?_alloc_past _ _ _ (by omega)).trans (hrow j u hu)
 have q2 := fun o => name_loads (hrow1 o) (n := 32) (by simp [hK])
 have HO : Hid (∀ W, Below w.heap.size w W → Calls Tryz.prog 17 #[.string (textB K.toList)] W fun e w' => e = .returned (.agg ((digF (textB K.toList)).toList.map encB).toArray) ∧ Below W.heap.size W w') := fun W hW => digest_any _ W (hT.below hW hM) (Nat.le_trans hM hW.size)
 clear hT hM hrow
 rw [hA]
 go_enter Tryz.func38, Tryz.ntmps38
 go_upto_region 1 with fail
 try rw [hw0]
 try rw [hs0]
 generalize hw1 : w0.alloc (.cells _ 26) = w1
 have hB1 : Below w.heap.size w w1 := by rw [← hw1]; exact hb0.alloc (by omega) _
 have ht1 : w1.there (w.heap.size + 1) 0 32 := by rw [← hw1, ← hs0]; exact there_new _ _ _ _ rfl
 have hs1 : w.heap.size + 1 < w1.heap.size := by rw [← hw1]; simp; omega
 have q3 : Sem.run Tryz.prog (convert 111 9 (.slice (some ⟨w.heap.size, 0, none⟩) 32 32)) w1 = .ok (.string (textB K.toList)) w1 := by rw [← hw1]; exact q2 _
 clear hw1 hw0 q2 hb0
 have HO1 := Hid.hide (HO.out w1 hB1)
 obtain ⟨s, hs⟩ : ∃ s, textB K.toList = s := ⟨_, rfl⟩
 rw [hs] at q3 HO1
 go_wp2_with fail
 refine HO1.out.mono ?_
 rintro e w3 ⟨rfl, hb3⟩
 have hDs : (digF s).size = 32 := sumF_size _
 obtain ⟨D, hD⟩ : ∃ D, digF s = D := ⟨_, rfl⟩
 have HD : Hid (digB K.toList = D.toList) := by rw [← hD, ← hs]; rfl
 rw [hD] at hDs ⊢
 clear hD hs
 have hB3 : Below w.heap.size w w3 := hB1.trans (hb3.mono (by omega))
 obtain ⟨hz1, hz2, hth', hth2⟩ := hash_cells' hDs (there_block ht1 (hb3.block _ (by omega)))
 have hone := all_oneCell_toArray (oneCell_enc D .u8)
 have A3 : Aside (Below w.heap.size w w3 ∧ w3.there (w.heap.size + 1) 0 (D.toList.map encB).length) := ⟨hB3, hth2⟩
 clear hB1 ht1 hs1 hb3 hB3 hth2 hDs q3
 go_wp2_with (refine wpList_store_mid rfl 26 _ _ rfl (w.heap.size + 1) 0 (D.toList.map encB).toArray rfl rfl hth' hz2 hone ?_)
 obtain ⟨hB3, hth2⟩ := A3.out
 refine bodyPost_ret (v := .agg (D.toList.map encB).toArray) (results_cell1 Tryz.results38 _ _ _ (w.heap.size + 1) 0 rfl (run_loadVar_mid _ _ _ 26 _ _ (World.rangeAt_setCells_same _ _ _ _ hth2) Tryz.underlying26 rfl hz1)) rfl ⟨?_, below_setCells hB3 (by omega) _ _⟩
 rw [HD.out]
set_option maxRecDepth 100000 in
set_option maxHeartbeats 1600000 in
theorem named_any {w : World} (K : Array Nat) (hK : K.size = 20) (hT : Tabs w) (hM : 16 ≤ w.heap.size) :
  Calls Tryz.prog 40 #[.agg (K.toList.map encB).toArray] w fun e w' => e = .returned (.agg ((digB K.toList).map encB).toArray) ∧ Below w.heap.size w w' := by
 obtain ⟨A, hA⟩ : ∃ A, (K.toList.map encB).toArray = A := ⟨_, rfl⟩
 obtain ⟨w0, hw0⟩ : ∃ w0, w.alloc (.cells A 80) = w0 := ⟨_, rfl⟩
 have hrow : w0.rangeAt w.heap.size 0 (K.toList.map encB) := fun j u hu => by
  rw [← hw0, Nat.zero_add, World.cell?_alloc_new, ← hA]
  simpa using hu
 have hs0 : w0.heap.size = w.heap.size + 1 := by rw [← hw0]; simp
 have hb0 : Below w.heap.size w w0 := by rw [← hw0]; exact (Below.refl _ _).alloc (Nat.le_refl _) _
 have hrow1 : ∀ o, (w0.alloc o).rangeAt w.heap.size 0 (K.toList.map encB) := fun o j u hu => (World.cell?_alloc_past _ _ _ (by omega)).trans (hrow j u hu)
 have q2 := fun o => name_loads (hrow1 o) (n := 20) (by simp [hK])
 have HO : Hid (∀ W, Below w.heap.size w W → Calls Tryz.prog 17 #[.string (textB K.toList)] W fun e w' => e = .returned (.agg ((digF (textB K.toList)).toList.map encB).toArray) ∧ Below W.heap.size W w') := fun W hW => digest_any _ W (hT.below hW hM) (Nat.le_trans hM hW.size)
 clear hT hM hrow
 rw [hA]
 go_enter Tryz.func40, Tryz.ntmps40
 go_upto_region 1 with fail
 try rw [hw0]
 try rw [hs0]
 generalize hw1 : w0.alloc (.cells _ 26) = w1
 have hB1 : Below w.heap.size w w1 := by rw [← hw1]; exact hb0.alloc (by omega) _
 have ht1 : w1.there (w.heap.size + 1) 0 32 := by rw [← hw1, ← hs0]; exact there_new _ _ _ _ rfl
 have hs1 : w.heap.size + 1 < w1.heap.size := by rw [← hw1]; simp; omega
 have q3 : Sem.run Tryz.prog (convert 111 9 (.slice (some ⟨w.heap.size, 0, none⟩) 20 20)) w1 = .ok (.string (textB K.toList)) w1 := by rw [← hw1]; exact q2 _
 clear hw1 hw0 q2 hb0
 have HO1 := Hid.hide (HO.out w1 hB1)
 obtain ⟨s, hs⟩ : ∃ s, textB K.toList = s := ⟨_, rfl⟩
 rw [hs] at q3 HO1
 go_wp2_with fail
 refine HO1.out.mono ?_
 rintro e w3 ⟨rfl, hb3⟩
 have hDs : (digF s).size = 32 := sumF_size _
 obtain ⟨D, hD⟩ : ∃ D, digF s = D := ⟨_, rfl⟩
 have HD : Hid (digB K.toList = D.toList) := by rw [← hD, ← hs]; rfl
 rw [hD] at hDs ⊢
 clear hD hs
 have hB3 : Below w.heap.size w w3 := hB1.trans (hb3.mono (by omega))
 obtain ⟨hz1, hz2, hth', hth2⟩ := hash_cells' hDs (there_block ht1 (hb3.block _ (by omega)))
 have hone := all_oneCell_toArray (oneCell_enc D .u8)
 have A3 : Aside (Below w.heap.size w w3 ∧ w3.there (w.heap.size + 1) 0 (D.toList.map encB).length) := ⟨hB3, hth2⟩
 clear hB1 ht1 hs1 hb3 hB3 hth2 hDs q3
 go_wp2_with (refine wpList_store_mid rfl 26 _ _ rfl (w.heap.size + 1) 0 (D.toList.map encB).toArray rfl rfl hth' hz2 hone ?_)
 obtain ⟨hB3, hth2⟩ := A3.out
 refine bodyPost_ret (v := .agg (D.toList.map encB).toArray) (results_cell1 Tryz.results40 _ _ _ (w.heap.size + 1) 0 rfl (run_loadVar_mid _ _ _ 26 _ _ (World.rangeAt_setCells_same _ _ _ _ hth2) Tryz.underlying26 rfl hz1)) rfl ⟨?_, below_setCells hB3 (by omega) _ _⟩
 rw [HD.out]
end Go.Proofs.YtjiikjpnlgogfaaGreatDoor
namespace Go.Proofs.YtjiikjpnlgogfaaGreatDoor
open Go.RowKit
def sndF : Except Er (Option ByteArray) → Except Er (Option ByteArray)
 | .error e => .error (.inProof 2 e)
 | .ok o => .ok o
def storF (root ad sl : List Nat) (L1 L2 : List (List Nat)) : Except Er (Option ByteArray) :=
 match verF root (textB (nibs (digB ad))) L1 with
 | .error e => .error (.inProof 1 e)
 | .ok none => if L2 = [] then .ok none else .error (.inProof 2 (.inNode 0 (.base 4)))
 | .ok (some c) =>
  match accF (bytesOf c) with
  | .error e => .error (.inProof 1 (.inNode L1.length e))
  | .ok a =>
   sndF (verF a.root (textB (nibs (digB sl))) L2)
def verErr (sent : Nat → Addr) : Except Er (Option ByteArray) → Value
 | .error er => er.val sent
 | .ok _ => .nilIface
theorem VerSaid.eq {sent : Nat → Addr} {q : Except Er (Option ByteArray)} {e : Ending} (h : VerSaid sent q e) : e = .returned (.tuple #[.string (verStr q), .bool (verHas q), verErr sent q]) := by
 rcases h with ⟨er, rfl, rfl⟩ | ⟨o, rfl, rfl⟩ <;> rfl
theorem storF_simple {root ad sl : List Nat} {L1 L2 : List (List Nat)} (h1 : ∀ c ∈ L1, ∀ y ∈ c, y < 256) (h2 : ∀ c ∈ L2, ∀ y ∈ c, y < 256) {er : Er} (h : storF root ad sl L1 L2 = .error er) : er.simple := by
 unfold storF at h
 cases hv : verF root (textB (nibs (digB ad))) L1 with
 | error e => rw [hv] at h; cases h; show e.simple; exact verF_simple h1 hv
 | ok o =>
  rw [hv] at h
  cases o with
  | none =>
   simp only at h
   split at h
   ·cases h
   ·cases h; show (4 : Nat) ∈ nums; decide
  | some c =>
   simp only at h
   cases ha : accF (bytesOf c) with
   | error e => rw [ha] at h; cases h; show e.simple; exact (accF_error (byte_lt c) ha).1
   | ok a =>
    rw [ha] at h
    simp only at h
    cases hw : verF a.root (textB (nibs (digB sl))) L2 with
    | error e => rw [hw] at h; cases h; show e.simple; exact verF_simple h2 hw
    | ok o => rw [hw] at h; cases h
set_option maxRecDepth 100000 in
set_option maxHeartbeats 1600000 in
theorem nothing_any {w : World} (sent : Nat → Addr) (hF : Faults w sent) (p : Option Addr) (m c : Nat) :
  Calls Tryz.prog 107 #[.slice p m c] w fun e w' => e = .returned (if m = 0 then .nilIface else (Er.inProof 2 (.inNode 0 (.base 4))).val sent) ∧ Below w.heap.size w w' := by
 have c4 : w.cell? ⟨2, 0, none⟩ = some (.iface 423 (.pointer (some (sent 4)))) := hF.var 4 (by decide)
 clear hF
 by_cases h0 : m = 0
 ·subst h0
  go_enter Tryz.func107, Tryz.ntmps107
  go_wp2
  go_ret
  exact ⟨rfl, Below.refl _ _⟩
 ·rw [if_neg h0]
  have hm : (0 : Int) < (m : Int) := by omega
  clear h0
  go_enter Tryz.func107, Tryz.ntmps107
  go_wp2
  go_ret
  exact ⟨rfl, Below.refl _ _⟩
theorem digB_key (l : List Nat) : (digB l).toArray.size = 32 ∧ Bytes (digB l).toArray := by
 refine ⟨by simp [digB_length], fun j => ?_⟩
 by_cases h : j < (digB l).length
 ·rw [getElem!_pos _ _ (by simpa using h)]
  exact digB_byte l _ (by simp)
 ·rw [getElem!_neg _ _ (by simpa using h)]
  decide
theorem size80 : (Tryz.prog.info? 80).map (·.size) = some 20 := by kernel_rfl
set_option maxRecDepth 100000 in
set_option maxHeartbeats 3200000 in
theorem stver_any {w : World} (sent : Nat → Addr) (h ad sl : List Nat) (l1 l2 : List ByteArray) (p1 p2 : Option Addr) (c1 c2 : Nat) (hE : Env w.heap.size sent w) (hh : h.length = 32) (hhb : ∀ x ∈ h, x < 256) (had : ad.length = 20) (hsl : sl.length = 32) (hr1 : StrRow w p1 l1 c1) (hr2 : StrRow w p2 l2 c2) (hl1 : l1.length ≤ 1099511627776) (hl2 : l2.length ≤ 1099511627776) {q : Except Er (Option ByteArray)} (hq : storF h ad sl (l1.map bytesOf) (l2.map bytesOf) = q) :
  Calls Tryz.prog 62 #[.agg (h.map encB).toArray, .agg (ad.map encB).toArray, .agg (sl.map encB).toArray, .slice p1 l1.length c1, .slice p2 l2.length c2] w fun e w' => e = .returned (.tuple #[.string (verStr q), .bool (verHas q), verErr sent q]) ∧ Below w.heap.size w w' := by
 obtain ⟨A, hA⟩ : ∃ A, (h.map encB).toArray = A := ⟨_, rfl⟩
 obtain ⟨Ac, hAc⟩ : ∃ Ac, (ad.map encB).toArray = Ac := ⟨_, rfl⟩
 obtain ⟨Sc, hSc⟩ : ∃ Sc, (sl.map encB).toArray = Sc := ⟨_, rfl⟩
 obtain ⟨W0, hW0⟩ : ∃ W0, ((w.alloc (.cells A 34)).alloc (.cells Ac 80)).alloc (.cells Sc 26) = W0 := ⟨_, rfl⟩
 have hrow : W0.rangeAt w.heap.size 0 (h.map encB) := fun j u hu => by
  rw [← hW0, World.cell?_alloc_past _ _ _ (by simp; omega), World.cell?_alloc_past _ _ _ (by simp), Nat.zero_add, World.cell?_alloc_new, ← hA]
  simpa using hu
 have hrowA : W0.rangeAt (w.heap.size + 1) 0 (ad.map encB) := fun j u hu => by
  rw [← hW0, World.cell?_alloc_past _ _ _ (by simp), show w.heap.size + 1 = (w.alloc (.cells A 34)).heap.size by simp, Nat.zero_add, World.cell?_alloc_new, ← hAc]
  simpa using hu
 have hrowS : W0.rangeAt (w.heap.size + 1 + 1) 0 (sl.map encB) := fun j u hu => by
  rw [← hW0, show w.heap.size + 1 + 1 = ((w.alloc (.cells A 34)).alloc (.cells Ac 80)).heap.size by simp, Nat.zero_add, World.cell?_alloc_new, ← hSc]
  simpa using hu
 have hb0 : Below w.heap.size w W0 := by rw [← hW0]; exact (((Below.refl _ _).alloc (Nat.le_refl _) _).alloc (by simp) _).alloc (by simp; omega) _
 have hs0 : W0.heap.size = w.heap.size + 3 := by rw [← hW0]; simp
 obtain ⟨q1, hq1⟩ : ∃ q1, verF h (textB (nibs (digB ad))) (l1.map bytesOf) = q1 := ⟨_, rfl⟩
 have hE0 := (hE.below hb0).raise hb0.size
 have HK : Hid (∀ W, Below W0.heap.size W0 W → Calls Tryz.prog 106 #[.slice (some ⟨w.heap.size + 1, 0, none⟩) 20 20] W fun e w' => e = .returned (.agg ((digB ad).map encB).toArray) ∧ Below W.heap.size W w') := fun W hW =>
  keyof_any ad (w.heap.size + 1) 0 20 20 had.symm (fun _ => by have := hW.size; omega) (rangeAt_block hrowA (hW.block _ (by omega))) (hE0.below hW).tabs (Nat.le_trans (hE0.below hW).low hW.size)
 have strUp : ∀ {W : World} {p : Option Addr} {l : List ByteArray} {c : Nat}, StrRow w p l c → Below w.heap.size w W → StrRow W p l c := fun {W p l c} hr hW => by
  rcases hr with h | ⟨g, o, e1, e2, e3, e4⟩
  ·exact .inl h
  ·exact .inr ⟨g, o, e1, e2, fun h => Nat.lt_of_lt_of_le (e3 h) hW.size, fun j u hu => by
    have hj : 0 < l.length := by
     have := (List.getElem?_eq_some_iff.1 hu).1
     simp at this
     omega
    exact (hW.cell (p := ⟨g, o + j, none⟩) (e3 hj)).trans (e4 j u hu)⟩
 have HV : Hid (∀ W, Below W0.heap.size W0 W → Calls Tryz.prog 57 #[.agg (h.map encB).toArray, .agg ((digB ad).map encB).toArray, .slice p1 l1.length c1] W fun e w' => e = .returned (.tuple #[.string (verStr q1), .bool (verHas q1), verErr sent q1]) ∧ Below W.heap.size W w') := fun W hW => by
  have := verify_any sent h (digB ad).toArray l1 p1 c1 ((hE0.below hW).raise hW.size) hh hhb (digB_key ad).1 (digB_key ad).2 (strUp hr1 (hb0.behind' hW)) hl1
  dsimp only at this
  refine this.mono fun e w' hs => ⟨?_, hs.1⟩
  have := hs.2.eq
  rw [hq1] at this
  exact this
 have HB : Hid (Below w.heap.size w W0 ∧ W0.heap.size = w.heap.size + 3 ∧ Env W0.heap.size sent W0 ∧ W0.rangeAt (w.heap.size + 1 + 1) 0 (sl.map encB)) := ⟨hb0, hs0, hE0, hrowS⟩
 have HX : Hid (StrRow w p2 l2 c2 ∧ l2.length ≤ 1099511627776 ∧ sl.length = 32 ∧ (∀ {W : World} {p : Option Addr} {l : List ByteArray} {c : Nat}, StrRow w p l c → Below w.heap.size w W → StrRow W p l c)) := ⟨hr2, hl2, hsl, strUp⟩
 have HQ : Hid (storF h ad sl (l1.map bytesOf) (l2.map bytesOf) = q ∧ verF h (textB (nibs (digB ad))) (l1.map bytesOf) = q1) := ⟨hq, hq1⟩
 have hz := hash_size hh
 have hs1 : w.heap.size < W0.heap.size := by omega
 have hu34 := Tryz.underlying34
 have hdr : Below W0.heap.size W0 W0.drew := (Below.refl _ _).drew
 have HKd := Hid.hide (HK.out _ hdr)
 have HDR := Hid.hide hdr
 clear hE hh hhb had hsl hr1 hr2 hl1 hl2 hq hq1 hb0 hs0 hE0 strUp hrowA hrowS HK hdr
 rw [hA, hAc, hSc]
 clear hA hAc hSc
 obtain ⟨s1, hs1'⟩ : ∃ s1, verStr q1 = s1 := ⟨_, rfl⟩
 obtain ⟨b1, hb1'⟩ : ∃ b1, verHas q1 = b1 := ⟨_, rfl⟩
 obtain ⟨v1, hv1'⟩ : ∃ v1, verErr sent q1 = v1 := ⟨_, rfl⟩
 rw [hs1', hb1', hv1'] at HV
 have HS1 : Hid (verStr q1 = s1 ∧ verHas q1 = b1 ∧ verErr sent q1 = v1) := ⟨hs1', hb1', hv1'⟩
 clear hs1' hb1' hv1'
 obtain ⟨m1, hm1⟩ : ∃ m, l1.length = m := ⟨_, rfl⟩
 rw [hm1] at HV ⊢
 have HM1 := Hid.hide hm1
 clear hm1
 go_enter Tryz.func62, Tryz.ntmps62
 go_upto_region 1 with fail
 clear hW0
 go_region_held3 (fun w' => w'.rangeAt w.heap.size 0 (h.map encB)) (first | exact hrow | exact h1 | exact h2)
  (first | (go_at_call 106; refine HKd.out.mono ?_; rintro x w1 ⟨rfl, hb1⟩; have h1 : w1.rangeAt w.heap.size 0 (h.map encB) := rangeAt_block hrow (hb1.block _ hs1); have H1 : Hid (Below W0.heap.size W0 w1) := HDR.out.trans (hb1.mono HDR.out.size); have hs2 : w.heap.size < w1.heap.size := Nat.lt_of_lt_of_le hs1 hb1.size; clear hb1) | (go_at_call 57; refine (HV.out w1 H1.out).mono ?_; rintro x w2 ⟨rfl, hb2⟩; have h2 : w2.rangeAt w.heap.size 0 (h.map encB) := rangeAt_block h1 (hb2.block _ hs2); have H2 : Hid (Below W0.heap.size W0 w2) := H1.out.trans (hb2.mono H1.out.size); clear hb2))
 all_goals clear h1 h2 hrow hs2 HV HKd HDR
 cases hq1 : q1 with
 | error er =>
  obtain ⟨et, ev, hev⟩ := er.shape sent
  have hS := HS1.out
  rw [hq1] at hS
  obtain ⟨rfl, rfl, hv⟩ := hS
  have hv' : v1 = .iface et ev := hv.symm.trans hev
  subst hv'
  have HF : Hid (q = .error (.inProof 1 er) ∧ Er.val sent (.inProof 1 er) = .iface 204 (.agg #[.int .i64 1, .iface et ev])) := ⟨by rw [← HQ.out.1, storF, HQ.out.2, hq1], by rw [Er.val, hev]; rfl⟩
  clear hv hev
  go_wp2
  go_ret3
  rw [HF.out.1]
  exact ⟨by show _ = Ending.returned (.tuple #[.string ⟨#[]⟩, .bool false, Er.val sent (.inProof 1 er)]); rw [HF.out.2]; rfl, HB.out.1.behind' H2.out⟩
 | ok o =>
  have hS := HS1.out
  rw [hq1] at hS
  obtain ⟨hs, hb, hv⟩ := hS
  obtain rfl : v1 = .nilIface := hv.symm
  cases o with
  | none =>
   obtain rfl : s1 = ⟨#[]⟩ := hs.symm
   obtain rfl : b1 = false := hb.symm
   have HN := Hid.hide (nothing_any sent (HB.out.2.2.1.below H2.out).faults p2 l2.length c2)
   obtain ⟨nv, hnv⟩ : ∃ nv, (if l2.length = 0 then .nilIface else (Er.inProof 2 (.inNode 0 (.base 4))).val sent) = nv := ⟨_, rfl⟩
   rw [hnv] at HN
   have HF : Hid (verStr q = ⟨#[]⟩ ∧ verHas q = false ∧ verErr sent q = nv) := by
    have hqq := HQ.out.1
    rw [storF, HQ.out.2, hq1] at hqq
    simp only at hqq
    by_cases hl : l2 = []
    ·rw [if_pos (by rw [hl]; rfl)] at hqq
     rw [if_pos (by rw [hl]; rfl)] at hnv
     rw [← hqq, ← hnv]
     exact ⟨rfl, rfl, rfl⟩
    ·rw [if_neg (by simpa using hl)] at hqq
     rw [if_neg (by simpa using hl)] at hnv
     rw [← hqq, ← hnv]
     exact ⟨rfl, rfl, rfl⟩
   obtain ⟨m2, hm2⟩ : ∃ m, l2.length = m := ⟨_, rfl⟩
   rw [hm2] at HN ⊢
   clear hs hb hv hnv hm2
   go_wp2_with fail
   refine HN.out.mono ?_
   rintro e w3 ⟨rfl, hb3⟩
   have H3 : Hid (Below w.heap.size w w3) := Below.behind (HB.out.1.behind' H2.out) hb3
   clear hb3
   go_wp2
   go_ret3
   rw [HF.out.1, HF.out.2.1, HF.out.2.2]
   exact ⟨rfl, H3.out⟩
  | some c =>
   obtain rfl : s1 = c := hs.symm
   obtain rfl : b1 = true := hb.symm
   have HA := Hid.hide (ad_any s1 sent w2 (HB.out.2.2.1.below H2.out).faults)
   clear hs hb hv
   cases hac : accF (bytesOf s1) with
   | error er =>
    obtain ⟨et, ev, hev⟩ := er.shape sent
    have HA' : Hid (Calls Tryz.prog 108 #[.string s1] w2 fun e w' => Below w2.heap.size w2 w' ∧ e = .returned (.tuple #[.agg (accL zeroAcc).toArray, .iface et ev])) := HA.out.mono fun e w' hs => ⟨hs.1, by
     obtain ⟨t, v, hv, he⟩ := hs.2.1 er hac
     rw [hev] at hv
     cases hv
     exact he⟩
    have HF : Hid (q = .error (.inProof 1 (.inNode l1.length er)) ∧ Er.val sent (.inProof 1 (.inNode l1.length er)) = .iface 204 (.agg #[.int .i64 1, .iface 196 (.agg #[.int .i64 (m1 : Int), .iface et ev])])) := ⟨by
     rw [← HQ.out.1, storF, HQ.out.2, hq1]; simp only; rw [hac]; simp only; rw [List.length_map], by rw [Er.val, Er.val, hev, HM1.out]; rfl⟩
    obtain ⟨AA, hAA⟩ : ∃ AA, (accL zeroAcc).toArray = AA := ⟨_, rfl⟩
    have hAs : AA.size = 66 := by rw [← hAA, List.size_toArray]; rfl
    have hAo : AA.all (·.oneCell') = true := by rw [← hAA]; exact accL_one _
    rw [hAA] at HA'
    have hzA : (Tryz.prog.info? 85).map (·.size) = some AA.size := by rw [zeroA_size, hAs]
    clear HA hev hAA
    go_wp2_with fail
    refine HA'.out.mono ?_
    rintro e w3 ⟨hb3, rfl⟩
    have H3 : Hid (Below w.heap.size w w3) := Below.behind (HB.out.1.behind' H2.out) hb3
    have hthZ : ∀ C : Array Value, 66 = C.size → (w3.alloc (.cells C 85)).there w3.heap.size 0 AA.size := fun C hC => there_new _ _ _ _ (by rw [hAs]; exact hC)
    clear hb3
    go_wp2_with (refine wpList_store_mid rfl 85 _ _ rfl w3.heap.size 0 AA rfl rfl (hthZ _ rfl) hzA hAo ?_; generalize hX : World.setCells _ w3.heap.size 0 _ = w4; have H4 : Hid (Below w.heap.size w w4) := Below.behind H3.out (newH hX); clear hX hthZ)
    go_ret3
    rw [HF.out.1]
    exact ⟨by show _ = Ending.returned (.tuple #[.string ⟨#[]⟩, .bool false, Er.val sent (.inProof 1 (.inNode l1.length er))]); rw [HF.out.2]; rfl, H4.out⟩
   | ok a =>
    have hok := (accF_ok (byte_lt s1) hac).1
    have HA' : Hid (Calls Tryz.prog 108 #[.string s1] w2 fun e w' => Below w2.heap.size w2 w' ∧ e = .returned (.tuple #[.agg (accL a).toArray, .nilIface])) := HA.out.mono fun e w' hs => ⟨hs.1, hs.2.2 a hac⟩
    obtain ⟨q2, hq2⟩ : ∃ q2, verF a.root (textB (nibs (digB sl))) (l2.map bytesOf) = q2 := ⟨_, rfl⟩
    have HQ2 : Hid (q = sndF q2) := by
     show q = sndF q2
     rw [← HQ.out.1, storF, HQ.out.2, hq1]; simp only; rw [hac]; simp only; rw [hq2]
    obtain ⟨AA, hAA⟩ : ∃ AA, (accL a).toArray = AA := ⟨_, rfl⟩
    have hAs : AA.size = 66 := by rw [← hAA, List.size_toArray]; exact accL_length hok.2.2.1 hok.2.2.2.1
    have hAo : AA.all (·.oneCell') = true := by rw [← hAA]; exact accL_one _
    rw [hAA] at HA'
    have hzA : (Tryz.prog.info? 85).map (·.size) = some AA.size := by rw [zeroA_size, hAs]
    have HAA : Hid (AA.toList = [encL a.nonce, encL a.bal] ++ a.root.map encB ++ a.code.map encB ∧ a.root.length = 32 ∧ (∀ x ∈ a.root, x < 256) ∧ AA.size = 66) := ⟨by rw [← hAA]; simp [accL], hok.2.2.1, hok.2.2.2.2.1, hAs⟩
    clear HA hAA hok
    go_wp2_with fail
    refine HA'.out.mono ?_
    rintro e w3 ⟨hb3, rfl⟩
    have H3 : Hid (Below w.heap.size w w3 ∧ Below W0.heap.size W0 w3) := ⟨Below.behind (HB.out.1.behind' H2.out) hb3, Below.behind H2.out hb3⟩
    have hthZ : ∀ C : Array Value, 66 = C.size → (w3.alloc (.cells C 85)).there w3.heap.size 0 AA.size := fun C hC => there_new _ _ _ _ (by rw [hAs]; exact hC)
    have hL : ∀ C : Array Value, 66 = C.size → AA.toList.length = C.size := fun C hC => by rw [Array.length_toList, hAs]; exact hC
    clear hb3 hAs
    go_wp2_with (refine wpList_store_mid rfl 85 _ _ rfl w3.heap.size 0 AA rfl rfl (hthZ _ rfl) hzA hAo ?_; generalize hX : World.setCells _ w3.heap.size 0 _ = w4; have H4 : Hid (Below w.heap.size w w4 ∧ Below W0.heap.size W0 w4) := ⟨Below.behind H3.out.1 (newH hX), Below.behind H3.out.2 (newH hX)⟩; have r4 := (newH_row hX (hL _ rfl)).1; have hlt4 := (newH_row hX (hL _ rfl)).2; clear hX hthZ hL)
    have hrow9 : w4.rangeAt w3.heap.size 2 (a.root.map encB) := by
     have := r4
     rw [HAA.out.1] at this
     exact range_part this
    have hs3 : w3.heap.size < w4.heap.size := hlt4
    have hz9 : (Tryz.prog.info? 34).map (·.size) = some (a.root.map encB).length := hash_size HAA.out.2.1
    have hdr : Below w4.heap.size w4 w4.drew := (Below.refl _ _).drew
    have hE4 := (HB.out.2.2.1.below H4.out.2).raise H4.out.2.size
    have HK : Hid (Calls Tryz.prog 106 #[.slice (some ⟨w.heap.size + 1 + 1, 0, none⟩) 32 32] w4.drew fun e w' => e = .returned (.agg ((digB sl).map encB).toArray) ∧ Below w4.drew.heap.size w4.drew w') :=
     keyof_any sl (w.heap.size + 1 + 1) 0 32 32 HX.out.2.2.1.symm (fun _ => by have := H4.out.2.size; have := HB.out.2.1; have := hdr.size; omega) (rangeAt_block (rangeAt_block HB.out.2.2.2 (H4.out.2.block _ (by have := HB.out.2.1; omega))) (hdr.block _ (by have := H4.out.2.size; have := HB.out.2.1; omega))) (hE4.below hdr).tabs (Nat.le_trans (hE4.below hdr).low hdr.size)
    have HV : Hid (∀ W, Below w4.heap.size w4 W → Calls Tryz.prog 57 #[.agg (a.root.map encB).toArray, .agg ((digB sl).map encB).toArray, .slice p2 l2.length c2] W fun e w' => e = .returned (.tuple #[.string (verStr q2), .bool (verHas q2), verErr sent q2]) ∧ Below W.heap.size W w') := fun W hW => by
     have := verify_any sent a.root (digB sl).toArray l2 p2 c2 ((hE4.below hW).raise hW.size) HAA.out.2.1 HAA.out.2.2.1 (digB_key sl).1 (digB_key sl).2 (HX.out.2.2.2 HX.out.1 (Below.behind H4.out.1 hW)) HX.out.2.1
     dsimp only at this
     refine this.mono fun e w' hs => ⟨?_, hs.1⟩
     have := hs.2.eq
     rw [hq2] at this
     exact this
    have HDR := Hid.hide hdr
    clear hdr hE4 r4 hlt4 hq2
    obtain ⟨s2, hs2'⟩ : ∃ s2, verStr q2 = s2 := ⟨_, rfl⟩
    obtain ⟨b2, hb2'⟩ : ∃ b2, verHas q2 = b2 := ⟨_, rfl⟩
    obtain ⟨v2, hv2'⟩ : ∃ v2, verErr sent q2 = v2 := ⟨_, rfl⟩
    rw [hs2', hb2', hv2'] at HV
    have HS2 : Hid (verStr q2 = s2 ∧ verHas q2 = b2 ∧ verErr sent q2 = v2) := ⟨hs2', hb2', hv2'⟩
    clear hs2' hb2' hv2'
    obtain ⟨m2, hm2⟩ : ∃ m, l2.length = m := ⟨_, rfl⟩
    rw [hm2] at HV ⊢
    clear hm2 HA' HAA hzA hAo hac hq1
    obtain ⟨Rt, hRt⟩ : ∃ Rt, a.root.map encB = Rt := ⟨_, rfl⟩
    rw [hRt] at hrow9 hz9 HV
    clear hRt
    go_region_held3 (fun w' => w'.rangeAt w3.heap.size 2 Rt) (first | exact hrow9 | exact h5 | exact h6)
     (first | (go_at_call 106; refine HK.out.mono ?_; rintro x w5 ⟨rfl, hb5⟩; have h5 : w5.rangeAt w3.heap.size 2 Rt := rangeAt_block hrow9 (hb5.block _ hs3); have H5 : Hid (Below w4.heap.size w4 w5) := HDR.out.trans (hb5.mono HDR.out.size); have hs5 : w3.heap.size < w5.heap.size := Nat.lt_of_lt_of_le hs3 hb5.size; clear hb5) | (go_at_call 57; refine (HV.out w5 H5.out).mono ?_; rintro x w6 ⟨rfl, hb6⟩; have h6 : w6.rangeAt w3.heap.size 2 Rt := rangeAt_block h5 (hb6.block _ hs5); have H6 : Hid (Below w4.heap.size w4 w6) := H5.out.trans (hb6.mono H5.out.size); clear hb6))
    all_goals clear h5 h6 hrow9 hs5 HV HK HDR
    cases hq2 : q2 with
    | error er =>
     obtain ⟨et, ev, hev⟩ := er.shape sent
     have hS := HS2.out
     rw [hq2] at hS
     obtain ⟨rfl, rfl, hv⟩ := hS
     have hv' : v2 = .iface et ev := hv.symm.trans hev
     subst hv'
     have HF : Hid (q = .error (.inProof 2 er) ∧ Er.val sent (.inProof 2 er) = .iface 204 (.agg #[.int .i64 2, .iface et ev])) := ⟨by rw [HQ2.out, hq2]; rfl, by rw [Er.val, hev]; rfl⟩
     clear hv hev
     go_wp2
     go_ret3
     rw [HF.out.1]
     exact ⟨by show _ = Ending.returned (.tuple #[.string ⟨#[]⟩, .bool false, Er.val sent (.inProof 2 er)]); rw [HF.out.2]; rfl, Below.behind H4.out.1 H6.out⟩
    | ok o =>
     have hS := HS2.out
     rw [hq2] at hS
     obtain ⟨hs, hb, hv⟩ := hS
     obtain rfl : v2 = .nilIface := hv.symm
     have HF : Hid (verStr q = s2 ∧ verHas q = b2 ∧ verErr sent q = .nilIface) := by
      rw [HQ2.out, hq2]
      exact ⟨hs, hb, rfl⟩
     clear hs hb hv
     go_wp2
     go_ret3
     rw [HF.out.1, HF.out.2.1, HF.out.2.2]
     exact ⟨rfl, Below.behind H4.out.1 H6.out⟩
end Go.Proofs.YtjiikjpnlgogfaaGreatDoor
namespace Go.Proofs.YtjiikjpnlgogfaaGreatDoor
open Go.RowKit
set_option maxRecDepth 100000 in
set_option maxHeartbeats 1600000 in
theorem xstor_any {w : World} (sent : Nat → Addr) (h ad sl : List Nat) (l1 l2 : List ByteArray) (p1 p2 : Option Addr) (c1 c2 : Nat) (hE : Env w.heap.size sent w) (hTy : typeAt w) (hTl : 12 < w.heap.size) (hh : h.length = 32) (hhb : ∀ x ∈ h, x < 256) (had : ad.length = 20) (hsl : sl.length = 32) (hr1 : StrRow w p1 l1 c1) (hr2 : StrRow w p2 l2 c2) (hl1 : l1.length ≤ 1099511627776) (hl2 : l2.length ≤ 1099511627776) {q : Except Er (Option ByteArray)} (hq : storF h ad sl (l1.map bytesOf) (l2.map bytesOf) = q) :
  Calls Tryz.prog 42 #[.agg (h.map encB).toArray, .agg (ad.map encB).toArray, .agg (sl.map encB).toArray, .slice p1 l1.length c1, .slice p2 l2.length c2] w fun e w' => e = .returned (.tuple #[.string (verStr q), .bool (verHas q), verFault q]) ∧ Below w.heap.size w w' := by
 obtain ⟨A, hA⟩ : ∃ A, (h.map encB).toArray = A := ⟨_, rfl⟩
 obtain ⟨Ac, hAc⟩ : ∃ Ac, (ad.map encB).toArray = Ac := ⟨_, rfl⟩
 obtain ⟨Sc, hSc⟩ : ∃ Sc, (sl.map encB).toArray = Sc := ⟨_, rfl⟩
 obtain ⟨W0, hW0⟩ : ∃ W0, (((w.alloc (.cells A 34)).alloc (.cells Ac 80)).alloc (.cells Sc 26)).alloc (.cells #[.int .i64 0, .int .i64 0, .int .i64 0, .int .i64 0] 66) = W0 := ⟨_, rfl⟩
 have hrow : W0.rangeAt w.heap.size 0 (h.map encB) := fun j u hu => by
  rw [← hW0, World.cell?_alloc_past _ _ _ (by simp <;> omega), World.cell?_alloc_past _ _ _ (by simp <;> omega), World.cell?_alloc_past _ _ _ (by simp), Nat.zero_add, World.cell?_alloc_new, ← hA]
  simpa using hu
 have hrowA : W0.rangeAt (w.heap.size + 1) 0 (ad.map encB) := fun j u hu => by
  rw [← hW0, World.cell?_alloc_past _ _ _ (by simp <;> omega), World.cell?_alloc_past _ _ _ (by simp), show w.heap.size + 1 = (w.alloc (.cells A 34)).heap.size by simp, Nat.zero_add, World.cell?_alloc_new, ← hAc]
  simpa using hu
 have hrowS : W0.rangeAt (w.heap.size + 1 + 1) 0 (sl.map encB) := fun j u hu => by
  rw [← hW0, World.cell?_alloc_past _ _ _ (by simp), show w.heap.size + 1 + 1 = ((w.alloc (.cells A 34)).alloc (.cells Ac 80)).heap.size by simp, Nat.zero_add, World.cell?_alloc_new, ← hSc]
  simpa using hu
 have hb0 : Below w.heap.size w W0 := by rw [← hW0]; exact ((((Below.refl _ _).alloc (Nat.le_refl _) _).alloc (by simp) _).alloc (by simp <;> omega) _).alloc (by simp <;> omega) _
 have hs0 : W0.heap.size = w.heap.size + 4 := by rw [← hW0]; simp
 have hth0 : W0.heap[w.heap.size + 1 + 1 + 1]? = some (.cells #[.int .i64 0, .int .i64 0, .int .i64 0, .int .i64 0] 66 (0, 0)) := by
  rw [← hW0]
  have : ((((w.alloc (.cells A 34)).alloc (.cells Ac 80)).alloc (.cells Sc 26)).alloc (.cells #[.int .i64 0, .int .i64 0, .int .i64 0, .int .i64 0] 66)).heap[(((w.alloc (.cells A 34)).alloc (.cells Ac 80)).alloc (.cells Sc 26)).heap.size]? = some (.cells #[.int .i64 0, .int .i64 0, .int .i64 0, .int .i64 0] 66 (0, 0)) := Array.getElem?_push_size
  simpa using this
 have HV := Hid.hide (stver_any sent h ad sl l1 l2 p1 p2 c1 c2 ((hE.below hb0).raise hb0.size) hh hhb had hsl (hr1.below hb0) (hr2.below hb0) hl1 hl2 hq)
 have HT : Hid (∀ W, Below W0.heap.size W0 W → ∀ er : Er, er.simple → Calls Tryz.prog 58 #[er.val sent] W fun e w' => e = .returned (faultV er.num er.proof er.node er.at_) ∧ Below W.heap.size W w') := fun W hW er hs => tell_any sent er hs W (hE.faults.below (hb0.behind' hW)) (((hb0.behind' hW).cell (p := ⟨12, 0, none⟩) hTl).trans hTy)
 have HS : Hid (∀ er, q = .error er → er.simple) := fun er e => storF_simple (bytes_all l1) (bytes_all l2) (hq.trans e)
 have HB : Hid (Below w.heap.size w W0 ∧ W0.heap.size = w.heap.size + 4 ∧ W0.heap[w.heap.size + 1 + 1 + 1]? = some (.cells #[.int .i64 0, .int .i64 0, .int .i64 0, .int .i64 0] 66 (0, 0))) := ⟨hb0, hs0, hth0⟩
 have hz := hash_size hh
 have hzA : (Tryz.prog.info? 80).map (·.size) = some (ad.map encB).length := by rw [size80]; simp [had]
 have hzK : (Tryz.prog.info? 26).map (·.size) = some (sl.map encB).length := by rw [size51]; simp [hsl]
 obtain ⟨m1, hm1⟩ : ∃ m, l1.length = m := ⟨_, rfl⟩
 obtain ⟨m2, hm2⟩ : ∃ m, l2.length = m := ⟨_, rfl⟩
 rw [hm1, hm2] at HV ⊢
 have hu34 := Tryz.underlying34
 have hu80 := Tryz.underlying80
 have hu26 := Tryz.underlying26
 clear hE hTy hTl hh hhb had hsl hr1 hr2 hl1 hl2 hq hb0 hs0 hth0 hm1 hm2
 rw [hA, hAc, hSc] at HV ⊢
 go_enter Tryz.func42, Tryz.ntmps42
 go_upto_region 1 with fail
 clear hW0
 rw [← hA, ← hAc, ← hSc] at HV
 clear hA hAc hSc
 go_wp2_with (first | (refine wpList_load_mid rfl 34 _ rfl w.heap.size 0 rfl (h.map encB) _ hrow hu34 rfl hz ?_) | (refine wpList_load_mid rfl 80 _ rfl (w.heap.size + 1) 0 rfl (ad.map encB) _ hrowA hu80 rfl hzA ?_) | (refine wpList_load_mid rfl 26 _ rfl (w.heap.size + 1 + 1) 0 rfl (sl.map encB) _ hrowS hu26 rfl hzK ?_))
 refine HV.out.mono ?_
 rintro e w1 ⟨rfl, hb1⟩
 rcases q with er | o
 ·obtain ⟨et, ev, hev⟩ := er.shape sent
  have hT1 := HT.out w1 hb1 er (HS.out er rfl)
  rw [hev] at hT1
  have HT1 := Hid.hide hT1
  have HB1 : Hid (Below w.heap.size w w1 ∧ w1.heap[w.heap.size + 1 + 1 + 1]? = some (.cells #[.int .i64 0, .int .i64 0, .int .i64 0, .int .i64 0] 66 (0, 0))) := ⟨HB.out.1.behind' hb1, (hb1.block _ (by have := HB.out.2.1; omega)).trans HB.out.2.2⟩
  have hve : verErr sent (.error er) = .iface et ev := hev
  have hv1 : verStr (.error er) = ⟨#[]⟩ := rfl
  have hv2 : verHas (.error er) = false := rfl
  rw [hve, hv1, hv2]
  clear hve hv1 hv2 hev hT1 hb1
  go_wp2_with fail
  refine HT1.out.mono ?_
  rintro e w2 ⟨rfl, hb2⟩
  have h2 : w2.heap[w.heap.size + 1 + 1 + 1]? = some (.cells #[.int .i64 0, .int .i64 0, .int .i64 0, .int .i64 0] 66 (0, 0)) := (hb2.block _ (Array.getElem?_eq_some_iff.1 HB1.out.2).1).trans HB1.out.2
  have hsz2 : w.heap.size + 1 + 1 + 1 < w2.heap.size := (Array.getElem?_eq_some_iff.1 h2).1
  obtain ⟨c0, c1, c2, c3, f0, f1, f2, f3⟩ := fault_cells h2
  have HB2 : Hid (Below w.heap.size w w2) := HB1.out.1.behind' hb2
  obtain ⟨en, hen⟩ : ∃ x, er.num = x := ⟨_, rfl⟩
  obtain ⟨ep, hep⟩ : ∃ x, er.proof = x := ⟨_, rfl⟩
  obtain ⟨ed, hed⟩ : ∃ x, er.node = x := ⟨_, rfl⟩
  obtain ⟨ea, hea⟩ : ∃ x, er.at_ = x := ⟨_, rfl⟩
  have HZ : Hid (en = er.num ∧ ep = er.proof ∧ ed = er.node ∧ ea = er.at_) := ⟨hen.symm, hep.symm, hed.symm, hea.symm⟩
  rw [hen, hep, hed, hea]
  clear hen hep hed hea
  clear hb2
  go_wp2
  have h3 : ((((w2.setCell ⟨w.heap.size + 1 + 1 + 1, 0, none⟩ (.int .i64 (en : Int))).setCell ⟨w.heap.size + 1 + 1 + 1, 1, none⟩ (.int .i64 (ep : Int))).setCell ⟨w.heap.size + 1 + 1 + 1, 2, none⟩ (.int .i64 (ed : Int))).setCell ⟨w.heap.size + 1 + 1 + 1, 3, none⟩ (.int .i64 (ea : Int))).heap[w.heap.size + 1 + 1 + 1]? = some (.cells #[.int .i64 (en : Int), .int .i64 (ep : Int), .int .i64 (ed : Int), .int .i64 (ea : Int)] 66 (0, 0)) := heap_setCell_list (heap_setCell_list (heap_setCell_list (heap_setCell_list (cs := [.int .i64 0, .int .i64 0, .int .i64 0, .int .i64 0]) h2 0 _) 1 _) 2 _) 3 _
  have hb3 : Below w.heap.size w ((((w2.setCell ⟨w.heap.size + 1 + 1 + 1, 0, none⟩ (.int .i64 (en : Int))).setCell ⟨w.heap.size + 1 + 1 + 1, 1, none⟩ (.int .i64 (ep : Int))).setCell ⟨w.heap.size + 1 + 1 + 1, 2, none⟩ (.int .i64 (ed : Int))).setCell ⟨w.heap.size + 1 + 1 + 1, 3, none⟩ (.int .i64 (ea : Int))) := (((HB2.out.setCell (p := ⟨w.heap.size + 1 + 1 + 1, 0, none⟩) (by simp <;> omega) _).setCell (p := ⟨w.heap.size + 1 + 1 + 1, 1, none⟩) (by simp <;> omega) _).setCell (p := ⟨w.heap.size + 1 + 1 + 1, 2, none⟩) (by simp <;> omega) _).setCell (p := ⟨w.heap.size + 1 + 1 + 1, 3, none⟩) (by simp <;> omega) _
  generalize ((((w2.setCell ⟨w.heap.size + 1 + 1 + 1, 0, none⟩ (.int .i64 (en : Int))).setCell ⟨w.heap.size + 1 + 1 + 1, 1, none⟩ (.int .i64 (ep : Int))).setCell ⟨w.heap.size + 1 + 1 + 1, 2, none⟩ (.int .i64 (ed : Int))).setCell ⟨w.heap.size + 1 + 1 + 1, 3, none⟩ (.int .i64 (ea : Int))) = w3 at h3 hb3 ⊢
  obtain ⟨d0, d1, d2, d3, -⟩ := fault_cells h3
  refine bodyPost_ret (v := .tuple #[.string ⟨#[]⟩, .bool false, faultV en ep ed ea]) (by simp [results, Tryz.results42, go_sem, d0, d1, d2, d3]) rfl ⟨by rw [HZ.out.1, HZ.out.2.1, HZ.out.2.2.1, HZ.out.2.2.2]; rfl, hb3⟩
 ·have HB1 : Hid (Below w.heap.size w w1 ∧ w1.heap[w.heap.size + 1 + 1 + 1]? = some (.cells #[.int .i64 0, .int .i64 0, .int .i64 0, .int .i64 0] 66 (0, 0))) := ⟨HB.out.1.behind' hb1, (hb1.block _ (by have := HB.out.2.1; omega)).trans HB.out.2.2⟩
  obtain ⟨os, hos⟩ : ∃ os, verStr (.ok o) = os := ⟨_, rfl⟩
  obtain ⟨ob, hob⟩ : ∃ ob, verHas (.ok o) = ob := ⟨_, rfl⟩
  have hve : verErr sent (.ok o) = .nilIface := rfl
  have HZ : Hid (verStr (.ok o) = os ∧ verHas (.ok o) = ob) := ⟨hos, hob⟩
  rw [hos, hob, hve]
  clear hb1 hos hob hve
  go_wp2_with fail
  refine (tell_nil _).mono ?_
  rintro e w2 ⟨rfl, hb2⟩
  have h2 : w2.heap[w.heap.size + 1 + 1 + 1]? = some (.cells #[.int .i64 0, .int .i64 0, .int .i64 0, .int .i64 0] 66 (0, 0)) := (hb2.block _ (Array.getElem?_eq_some_iff.1 HB1.out.2).1).trans HB1.out.2
  have hsz2 : w.heap.size + 1 + 1 + 1 < w2.heap.size := (Array.getElem?_eq_some_iff.1 h2).1
  obtain ⟨c0, c1, c2, c3, f0, f1, f2, f3⟩ := fault_cells h2
  have HB2 : Hid (Below w.heap.size w w2) := HB1.out.1.behind' hb2
  clear hb2
  go_wp2
  have h3 : ((((w2.setCell ⟨w.heap.size + 1 + 1 + 1, 0, none⟩ (.int .i64 ((0 : Nat) : Int))).setCell ⟨w.heap.size + 1 + 1 + 1, 1, none⟩ (.int .i64 ((0 : Nat) : Int))).setCell ⟨w.heap.size + 1 + 1 + 1, 2, none⟩ (.int .i64 ((0 : Nat) : Int))).setCell ⟨w.heap.size + 1 + 1 + 1, 3, none⟩ (.int .i64 ((0 : Nat) : Int))).heap[w.heap.size + 1 + 1 + 1]? = some (.cells #[.int .i64 ((0 : Nat) : Int), .int .i64 ((0 : Nat) : Int), .int .i64 ((0 : Nat) : Int), .int .i64 ((0 : Nat) : Int)] 66 (0, 0)) := heap_setCell_list (heap_setCell_list (heap_setCell_list (heap_setCell_list (cs := [.int .i64 0, .int .i64 0, .int .i64 0, .int .i64 0]) h2 0 _) 1 _) 2 _) 3 _
  have hb3 : Below w.heap.size w ((((w2.setCell ⟨w.heap.size + 1 + 1 + 1, 0, none⟩ (.int .i64 ((0 : Nat) : Int))).setCell ⟨w.heap.size + 1 + 1 + 1, 1, none⟩ (.int .i64 ((0 : Nat) : Int))).setCell ⟨w.heap.size + 1 + 1 + 1, 2, none⟩ (.int .i64 ((0 : Nat) : Int))).setCell ⟨w.heap.size + 1 + 1 + 1, 3, none⟩ (.int .i64 ((0 : Nat) : Int))) := (((HB2.out.setCell (p := ⟨w.heap.size + 1 + 1 + 1, 0, none⟩) (by simp <;> omega) _).setCell (p := ⟨w.heap.size + 1 + 1 + 1, 1, none⟩) (by simp <;> omega) _).setCell (p := ⟨w.heap.size + 1 + 1 + 1, 2, none⟩) (by simp <;> omega) _).setCell (p := ⟨w.heap.size + 1 + 1 + 1, 3, none⟩) (by simp <;> omega) _
  generalize ((((w2.setCell ⟨w.heap.size + 1 + 1 + 1, 0, none⟩ (.int .i64 ((0 : Nat) : Int))).setCell ⟨w.heap.size + 1 + 1 + 1, 1, none⟩ (.int .i64 ((0 : Nat) : Int))).setCell ⟨w.heap.size + 1 + 1 + 1, 2, none⟩ (.int .i64 ((0 : Nat) : Int))).setCell ⟨w.heap.size + 1 + 1 + 1, 3, none⟩ (.int .i64 ((0 : Nat) : Int))) = w3 at h3 hb3 ⊢
  obtain ⟨d0, d1, d2, d3, -⟩ := fault_cells h3
  refine bodyPost_ret (v := .tuple #[.string os, .bool ob, faultV 0 0 0 0]) (by simp [results, Tryz.results42, go_sem, d0, d1, d2, d3]) rfl ⟨by rw [HZ.out.1, HZ.out.2]; rfl, hb3⟩
end Go.Proofs.YtjiikjpnlgogfaaGreatDoor
namespace Go.Proofs.YtjiikjpnlgogfaaGreatDoor
open Go.RowKit
def StoU (w : World) (n1 n2 sb ab : Nat) (ks vs ks2 vs2 : Value) (k : Nat) : Prop :=
 k = w.heap.size ∨ k = w.heap.size + 1 ∨ k = n1 ∨ k = n2 ∨ k = sb ∨ k = ab ∨ ks.ownBlock = some k ∨ vs.ownBlock = some k ∨ ks2.ownBlock = some k ∨ vs2.ownBlock = some k
structure StoM (w : World) (ow nb : List Nat) (n1 n2 sb ab : Nat) (ks vs ks2 vs2 : Value) (m o : Mp) (sl kat : List Nat) (W : World) : Prop where
 below : Below w.heap.size w W
 own : W.rangeAt w.heap.size 0 (ow.map encB)
 nob : W.rangeAt (w.heap.size + 1) 0 (nb.map encB)
 box1 : W.heap[n1]? = some (.cells #[ks, vs] 54 (0, 0))
 box2 : W.heap[n2]? = some (.cells #[ks2, vs2] 54 (0, 0))
 kn1 : Kn W w.heap.size ks vs m
 kn2 : Kn W w.heap.size ks2 vs2 o
 slot : W.rangeAt sb 0 (sl.map encB)
 at_ : W.rangeAt ab 0 (kat.map encB)
 lt : ∀ k, StoU w n1 n2 sb ab ks vs ks2 vs2 k → k < W.heap.size ∧ w.heap.size ≤ k
theorem Kn.keep2 {w w' : World} {C : Nat} {ks vs : Value} {m : Mp} (h : Kn w C ks vs m) (hs : w.heap.size ≤ w'.heap.size) (hb : ∀ j, ks.ownBlock = some j ∨ vs.ownBlock = some j → w'.heap[j]? = w.heap[j]?) : Kn w' C ks vs m :=
 ⟨h.keys.keep hs fun j _ e => hb j (.inl e), h.vals.keep hs fun j _ e => hb j (.inr e), h.ok, h.apart⟩
theorem StoM.keep {w : World} {ow nb : List Nat} {n1 n2 sb ab : Nat} {ks vs ks2 vs2 : Value} {m o : Mp} {sl kat : List Nat} {W W' : World} (h : StoM w ow nb n1 n2 sb ab ks vs ks2 vs2 m o sl kat W) (hb : Below w.heap.size w W') (hs : W.heap.size ≤ W'.heap.size) (hk : ∀ k, StoU w n1 n2 sb ab ks vs ks2 vs2 k → W'.heap[k]? = W.heap[k]?) : StoM w ow nb n1 n2 sb ab ks vs ks2 vs2 m o sl kat W' :=
 ⟨hb, rangeAt_block h.own (hk _ (by simp [StoU])), rangeAt_block h.nob (hk _ (by simp [StoU])), (hk _ (by simp [StoU])).trans h.box1, (hk _ (by simp [StoU])).trans h.box2,
  h.kn1.keep2 hs fun j hj => hk j (by rcases hj with e | e <;> simp [StoU, e]), h.kn2.keep2 hs fun j hj => hk j (by rcases hj with e | e <;> simp [StoU, e]),
  rangeAt_block h.slot (hk _ (by simp [StoU])), rangeAt_block h.at_ (hk _ (by simp [StoU])), fun k hk' => ⟨Nat.lt_of_lt_of_le (h.lt k hk').1 hs, (h.lt k hk').2⟩⟩
theorem StoM.more {w : World} {ow nb : List Nat} {n1 n2 sb ab : Nat} {ks vs ks2 vs2 : Value} {m o : Mp} {sl kat : List Nat} {W W' : World} (h : StoM w ow nb n1 n2 sb ab ks vs ks2 vs2 m o sl kat W) (hb : Below W.heap.size W W') : StoM w ow nb n1 n2 sb ab ks vs ks2 vs2 m o sl kat W' :=
 h.keep (h.below.behind' hb) hb.size fun k hk => hb.block k (h.lt k hk).1
theorem StoM.only {w : World} {ow nb : List Nat} {n1 n2 sb ab : Nat} {ks vs ks2 vs2 : Value} {m o : Mp} {sl kat : List Nat} {W W' : World} {g : Nat} (h : StoM w ow nb n1 n2 sb ab ks vs ks2 vs2 m o sl kat W) (hb : Only g W W') (h1 : w.heap.size ≤ g) (hn : ¬ StoU w n1 n2 sb ab ks vs ks2 vs2 g) : StoM w ow nb n1 n2 sb ab ks vs ks2 vs2 m o sl kat W' :=
 h.keep (hb.below h.below h1 h.below.size) hb.size fun k hk => hb.block k (h.lt k hk).1 fun e => hn (e ▸ hk)
theorem StoM.fr {w : World} {ow nb : List Nat} {n1 n2 sb ab : Nat} {ks vs ks2 vs2 : Value} {m o : Mp} {sl kat : List Nat} {W W' : World} {B : Nat} {S S' : Wood} (h : StoM w ow nb n1 n2 sb ab ks vs ks2 vs2 m o sl kat W) (hf : Forest B S W) (hB : w.heap.size ≤ B) (hr : FrX B (fun _ => False) S S' W W') (hn : ∀ k, StoU w n1 n2 sb ab ks vs ks2 vs2 k → S k = none) : StoM w ow nb n1 n2 sb ab ks vs ks2 vs2 m o sl kat W' :=
 h.keep (h.below.trans ((hr.below hf fun _ h => h.elim).mono hB)) hr.size fun k hk => hr.other k (h.lt k hk).1 (hn k hk) fun h => h
theorem StoM.set1 {w : World} {ow nb : List Nat} {n1 n2 sb ab : Nat} {ks vs ks2 vs2 ks' vs' : Value} {m m' o : Mp} {sl kat : List Nat} {W W' : World} (h : StoM w ow nb n1 n2 sb ab ks vs ks2 vs2 m o sl kat W) (hb : Only n1 W W') (h1 : n1 ≠ w.heap.size ∧ n1 ≠ w.heap.size + 1 ∧ n1 ≠ n2 ∧ n1 ≠ sb ∧ n1 ≠ ab ∧ ks2.ownBlock ≠ some n1 ∧ vs2.ownBlock ≠ some n1) (hk : Kn W' w.heap.size ks' vs' m') (hbx : W'.heap[n1]? = some (.cells #[ks', vs'] 54 (0, 0))) : StoM w ow nb n1 n2 sb ab ks' vs' ks2 vs2 m' o sl kat W' := by
 obtain ⟨a1, a2, a3, a4, a5, a6, a7⟩ := h1
 have hU : ∀ k, StoU w n1 n2 sb ab ks vs ks2 vs2 k → k ≠ n1 → W'.heap[k]? = W.heap[k]? := fun k hk hne => hb.block k (h.lt k hk).1 hne
 refine ⟨hb.below h.below (h.lt n1 (by simp [StoU])).2 h.below.size, rangeAt_block h.own (hU _ (by simp [StoU]) a1.symm), rangeAt_block h.nob (hU _ (by simp [StoU]) a2.symm), hbx, (hU _ (by simp [StoU]) a3.symm).trans h.box2, hk,
  h.kn2.keep2 hb.size fun j hj => hU j (by rcases hj with e | e <;> simp [StoU, e]) (by rintro rfl; exact hj.elim a6 a7),
  rangeAt_block h.slot (hU _ (by simp [StoU]) a4.symm), rangeAt_block h.at_ (hU _ (by simp [StoU]) a5.symm), fun k hk' => ?_⟩
 rcases hk' with e | e | e | e | e | e | e | e | e | e
 ·obtain ⟨q1, q2⟩ := h.lt k (.inl e); exact ⟨Nat.lt_of_lt_of_le q1 hb.size, q2⟩
 ·obtain ⟨q1, q2⟩ := h.lt k (.inr (.inl e)); exact ⟨Nat.lt_of_lt_of_le q1 hb.size, q2⟩
 ·obtain ⟨q1, q2⟩ := h.lt k (.inr (.inr (.inl e))); exact ⟨Nat.lt_of_lt_of_le q1 hb.size, q2⟩
 ·obtain ⟨q1, q2⟩ := h.lt k (.inr (.inr (.inr (.inl e)))); exact ⟨Nat.lt_of_lt_of_le q1 hb.size, q2⟩
 ·obtain ⟨q1, q2⟩ := h.lt k (.inr (.inr (.inr (.inr (.inl e))))); exact ⟨Nat.lt_of_lt_of_le q1 hb.size, q2⟩
 ·obtain ⟨q1, q2⟩ := h.lt k (.inr (.inr (.inr (.inr (.inr (.inl e)))))); exact ⟨Nat.lt_of_lt_of_le q1 hb.size, q2⟩
 ·exact ⟨(hk.keys.block k e).2, (hk.keys.block k e).1⟩
 ·exact ⟨(hk.vals.block k e).2, (hk.vals.block k e).1⟩
 ·obtain ⟨q1, q2⟩ := h.lt k (by simp [StoU, e]); exact ⟨Nat.lt_of_lt_of_le q1 hb.size, q2⟩
 ·obtain ⟨q1, q2⟩ := h.lt k (by simp [StoU, e]); exact ⟨Nat.lt_of_lt_of_le q1 hb.size, q2⟩
theorem StoM.set2 {w : World} {ow nb : List Nat} {n1 n2 sb ab : Nat} {ks vs ks2 vs2 ks' vs' : Value} {m m' o : Mp} {sl kat : List Nat} {W W' : World} (h : StoM w ow nb n1 n2 sb ab ks vs ks2 vs2 m o sl kat W) (hb : Only n2 W W') (h1 : n2 ≠ w.heap.size ∧ n2 ≠ w.heap.size + 1 ∧ n2 ≠ n1 ∧ n2 ≠ sb ∧ n2 ≠ ab ∧ ks.ownBlock ≠ some n2 ∧ vs.ownBlock ≠ some n2) (hk : Kn W' w.heap.size ks' vs' m') (hbx : W'.heap[n2]? = some (.cells #[ks', vs'] 54 (0, 0))) : StoM w ow nb n1 n2 sb ab ks vs ks' vs' m m' sl kat W' := by
 obtain ⟨a1, a2, a3, a4, a5, a6, a7⟩ := h1
 have hU : ∀ k, StoU w n1 n2 sb ab ks vs ks2 vs2 k → k ≠ n2 → W'.heap[k]? = W.heap[k]? := fun k hk hne => hb.block k (h.lt k hk).1 hne
 refine ⟨hb.below h.below (h.lt n2 (by simp [StoU])).2 h.below.size, rangeAt_block h.own (hU _ (by simp [StoU]) a1.symm), rangeAt_block h.nob (hU _ (by simp [StoU]) a2.symm), (hU _ (by simp [StoU]) a3.symm).trans h.box1, hbx,
  h.kn1.keep2 hb.size fun j hj => hU j (by rcases hj with e | e <;> simp [StoU, e]) (by rintro rfl; exact hj.elim a6 a7), hk,
  rangeAt_block h.slot (hU _ (by simp [StoU]) a4.symm), rangeAt_block h.at_ (hU _ (by simp [StoU]) a5.symm), fun k hk' => ?_⟩
 rcases hk' with e | e | e | e | e | e | e | e | e | e
 ·obtain ⟨q1, q2⟩ := h.lt k (.inl e); exact ⟨Nat.lt_of_lt_of_le q1 hb.size, q2⟩
 ·obtain ⟨q1, q2⟩ := h.lt k (.inr (.inl e)); exact ⟨Nat.lt_of_lt_of_le q1 hb.size, q2⟩
 ·obtain ⟨q1, q2⟩ := h.lt k (.inr (.inr (.inl e))); exact ⟨Nat.lt_of_lt_of_le q1 hb.size, q2⟩
 ·obtain ⟨q1, q2⟩ := h.lt k (.inr (.inr (.inr (.inl e)))); exact ⟨Nat.lt_of_lt_of_le q1 hb.size, q2⟩
 ·obtain ⟨q1, q2⟩ := h.lt k (.inr (.inr (.inr (.inr (.inl e))))); exact ⟨Nat.lt_of_lt_of_le q1 hb.size, q2⟩
 ·obtain ⟨q1, q2⟩ := h.lt k (.inr (.inr (.inr (.inr (.inr (.inl e)))))); exact ⟨Nat.lt_of_lt_of_le q1 hb.size, q2⟩
 ·obtain ⟨q1, q2⟩ := h.lt k (by simp [StoU, e]); exact ⟨Nat.lt_of_lt_of_le q1 hb.size, q2⟩
 ·obtain ⟨q1, q2⟩ := h.lt k (by simp [StoU, e]); exact ⟨Nat.lt_of_lt_of_le q1 hb.size, q2⟩
 ·exact ⟨(hk.keys.block k e).2, (hk.keys.block k e).1⟩
 ·exact ⟨(hk.vals.block k e).2, (hk.vals.block k e).1⟩
def Wood.join (N : Nat) (S T : Wood) : Wood := fun k => if k < N then S k else T k
theorem FrX.join {B : Nat} {S T : Wood} {w w' : World} (hf : Forest B S w) (h : FrX w.heap.size (fun _ => False) (fun _ => none) T w w') : FrX B (fun _ => False) S (Wood.join w.heap.size S T) w w' := by
 have hS : ∀ k t, S k = some t → Wood.join w.heap.size S T k = some t := fun k t hk => by rw [Wood.join, if_pos (hf.lt hk)]; exact hk
 have hT : ∀ k t, T k = some t → Wood.join w.heap.size S T k = some t := fun k t hk => by rw [Wood.join, if_neg (by have := h.forest.low k t hk; omega)]; exact hk
 refine ⟨h.os, h.tape, h.output, h.size, fun k hk _ hx => h.other k hk rfl hx, ⟨fun b t hb => ?_, fun b t hb => ?_, fun b t hb => ?_, Nat.le_trans hf.le h.size⟩, hS, fun k hk hn => by rw [Wood.join, if_pos hk]; exact hn⟩
 ·by_cases hb' : b < w.heap.size
  ·rw [Wood.join, if_pos hb'] at hb
   obtain ⟨g, r, h1, h2, h3⟩ := hf.node b t hb
   exact ⟨g, r, h1, NdRest.sub hS h2, (h.other b hb' rfl fun h => h).trans h3⟩
  ·rw [Wood.join, if_neg hb'] at hb
   obtain ⟨g, r, h1, h2, h3⟩ := h.forest.node b t hb
   exact ⟨g, r, h1, NdRest.sub hT h2, h3⟩
 ·by_cases hb' : b < w.heap.size
  ·rw [Wood.join, if_pos hb'] at hb
   exact hf.ok b t hb
  ·rw [Wood.join, if_neg hb'] at hb
   exact h.forest.ok b t hb
 ·by_cases hb' : b < w.heap.size
  ·rw [Wood.join, if_pos hb'] at hb
   exact hf.low b t hb
  ·have := hf.le
   omega
theorem Tells.join {S T : Wood} {w w' : World} {b : Nat} {g : List Nat → Option ByteArray} (h : FrX w.heap.size (fun _ => False) (fun _ => none) T w w') (hb : w.heap.size ≤ b) (ht : Tells T w' b g) : Tells (Wood.join w.heap.size S T) w' b g := by
 obtain ⟨t, ⟨h1, v, h2, h3⟩, hc, hg⟩ := ht.ex
 have hT : ∀ k t, T k = some t → Wood.join w.heap.size S T k = some t := fun k t hk => by rw [Wood.join, if_neg (by have := h.forest.low k t hk; omega)]; exact hk
 exact ⟨t, ⟨by rw [Wood.join, if_neg (by omega)]; exact h1, v, ndV.sub hT h2, h3⟩, hc, hg⟩
theorem named_l {w : World} (l : List Nat) (hl : l.length = 20) (hT : Tabs w) (hM : 16 ≤ w.heap.size) :
  Calls Tryz.prog 40 #[.agg (l.map encB).toArray] w fun e w' => e = .returned (.agg ((digB l).map encB).toArray) ∧ Below w.heap.size w w' := by
 have h := named_any l.toArray (by simpa using hl) hT hM
 dsimp only at h
 exact h
theorem hashed_l {w : World} (l : List Nat) (hl : l.length = 32) (hT : Tabs w) (hM : 16 ≤ w.heap.size) :
  Calls Tryz.prog 38 #[.agg (l.map encB).toArray] w fun e w' => e = .returned (.agg ((digB l).map encB).toArray) ∧ Below w.heap.size w w' := by
 have h := hashed_any l.toArray (by simpa using hl) hT hM
 dsimp only at h
 exact h
theorem laid_keyl (w : World) (l : List Nat) (hl : l.length = 32) :
  (w.alloc (.cells z32 26)).there w.heap.size 0 (l.map encB).toArray.size ∧ (Tryz.prog.info? 26).map (·.size) = some (l.map encB).toArray.size ∧ (Tryz.prog.info? 26).map (·.size) = some (l.map encB).length ∧ (l.map encB).toArray.all (·.oneCell') = true ∧
  Below w.heap.size w ((w.alloc (.cells z32 26)).setCells w.heap.size 0 (l.map encB)) ∧ ((w.alloc (.cells z32 26)).setCells w.heap.size 0 (l.map encB)).rangeAt w.heap.size 0 (l.map encB) ∧
  w.heap.size < ((w.alloc (.cells z32 26)).setCells w.heap.size 0 (l.map encB)).heap.size := by
 have h := laid_key w l.toArray (by simpa using hl)
 dsimp only at h
 exact h
theorem laid_feed (w : World) (s : ByteArray) : FeedAt (w.alloc (.cells #[.string s, .int .i64 0] 30)) w.heap.size s :=
 ⟨by simp, by rw [World.cell?_alloc_new]; rfl, ⟨0, by rw [World.cell?_alloc_new]; rfl, Nat.zero_le _⟩, World.frozen?_alloc_new _ _ _ _⟩
def intOf : Value → Int
 | .int _ z => z
 | _ => 0
@[simp, go_sem] theorem intOf_int (k : IntKind) (z : Int) : intOf (.int k z) = z := rfl
def slotL (a b : Nat) : List Nat := [a, b, 0, 0, 0, 0, 0, 0, 0, 0, 0, 0, 0, 0, 0, 0, 0, 0, 0, 0, 0, 0, 0, 0, 0, 0, 0, 0, 0, 0, 0, 0]
def Dn7 (d0 d1 d2 d3 d4 d5 : Bool) : Prop := (d4 = true → d0 = true ∧ d1 = true ∧ d3 = true) ∧ (d3 = true → d2 = true) ∧ (d5 = true → d4 = true)
instance (d0 d1 d2 d3 d4 d5 : Bool) : Decidable (Dn7 d0 d1 d2 d3 d4 d5) := by unfold Dn7; infer_instance
theorem dn0 : ∀ {d0 d1 d2 d3 d4 d5 : Bool}, Dn7 d0 d1 d2 d3 d4 d5 → d0 = false → d5 = false ∧ Dn7 true d1 d2 d3 d4 d5 := by decide
theorem dn1 : ∀ {d0 d1 d2 d3 d4 d5 : Bool}, Dn7 d0 d1 d2 d3 d4 d5 → d1 = false → d5 = false ∧ Dn7 d0 true d2 d3 d4 d5 := by decide
theorem dn2 : ∀ {d0 d1 d2 d3 d4 d5 : Bool}, Dn7 d0 d1 d2 d3 d4 d5 → d2 = false → d5 = false ∧ Dn7 d0 d1 true d3 d4 d5 := by decide
theorem dn3 : ∀ {d0 d1 d2 d3 d4 d5 : Bool}, Dn7 d0 d1 d2 d3 d4 d5 → d3 = false → d2 = true → (d5 = false ∧ d4 = false) ∧ Dn7 d0 d1 d2 true d4 d5 := by decide
theorem dn4 : ∀ {d0 d1 d2 d3 d4 d5 : Bool}, Dn7 d0 d1 d2 d3 d4 d5 → d4 = false → d0 = true → d1 = true → d3 = true → d5 = false ∧ Dn7 d0 d1 d2 d3 true d5 := by decide
theorem dn5 : ∀ {d0 d1 d2 d3 d4 d5 : Bool}, Dn7 d0 d1 d2 d3 d4 d5 → d4 = true → Dn7 d0 d1 d2 d3 d4 true := by decide
structure X7 (P0 : World → Prop) (P4 : Value → World → Prop) (P5 : World → Prop) (d3 d4 d5 : Bool) (v3 v4 : Value) (w' : World) : Prop where
 old : d5 = false → P0 w'
 str : d3 = true → ∃ u : ByteArray, v3 = .string u ∧ 0 < u.size ∧ u.size ≤ 100
 kn : d4 = true → d5 = false → P4 v4 w'
 fin : d5 = true → P5 w'
theorem box_cells {w : World} {n : Nat} {x y : Value} (h : w.heap[n]? = some (.cells #[x, y] 54 (0, 0))) : w.cell? ⟨n, 0, none⟩ = some x ∧ w.cell? ⟨n, 1, none⟩ = some y ∧ w.frozen? ⟨n, 0, none⟩ = false ∧ w.frozen? ⟨n, 1, none⟩ = false := by
 refine ⟨?_, ?_, ?_, ?_⟩ <;> simp [World.cell?, World.frozen?, h]
theorem box_set {w : World} {n : Nat} {x y : Value} (h : w.heap[n]? = some (.cells #[x, y] 54 (0, 0))) (x' y' : Value) : ((w.setCell ⟨n, 0, none⟩ x').setCell ⟨n, 1, none⟩ y').heap[n]? = some (.cells #[x', y'] 54 (0, 0)) ∧ Only n w ((w.setCell ⟨n, 0, none⟩ x').setCell ⟨n, 1, none⟩ y') :=
 ⟨heap_setCell_list (heap_setCell_list (cs := [x, y]) h 0 _) 1 _, ⟨rfl, rfl, rfl, by simp, fun k _ hne => (Below.heap_setCell _ _ _ _ hne).trans (Below.heap_setCell _ _ _ _ hne)⟩⟩
theorem built_acc0 (x y : Int) (f g : Fin 32 → Nat) : Tryz.prog.built 85 [(0, .int .u64 x), (1, .int .u64 y), (2, .agg ((List.ofFn f).map encB).toArray), (3, .agg ((List.ofFn g).map encB).toArray)] = some (.int .u64 x :: .int .u64 y :: ((List.ofFn f).map encB ++ (List.ofFn g).map encB)).toArray := by kernel_rfl
theorem list_fn {l : List Nat} {n : Nat} (h : l.length = n) : ∃ f : Fin n → Nat, l = List.ofFn f := by
 subst h
 exact ⟨fun i => l[i], by simp⟩
theorem built_acc (x y : Int) {D E : List Nat} (hD : D.length = 32) (hE : E.length = 32) : Tryz.prog.built 85 [(0, .int .u64 x), (1, .int .u64 y), (2, .agg (D.map encB).toArray), (3, .agg (E.map encB).toArray)] = some (.int .u64 x :: .int .u64 y :: (D.map encB ++ E.map encB)).toArray := by
 obtain ⟨f, rfl⟩ := list_fn hD
 obtain ⟨g, rfl⟩ := list_fn hE
 exact built_acc0 x y f g
theorem FeedAt.fr {B : Nat} {S S' : Wood} {w w' : World} {fb : Nat} {raw : ByteArray} (h : FeedAt w fb raw) (hr : FrX B (fun _ => False) S S' w w') (hn : S fb = none) : FeedAt w' fb raw := h.keep (hr.other fb h.lt hn fun h => h) hr.size
theorem forest_only {B : Nat} {S : Wood} {w w' : World} {g : Nat} (hf : Forest B S w) (ho : Only g w w') (hg : S g = none) : Forest B S w' := hf.keep ho.size fun k t hk => ho.block k (hf.lt hk) (fun e => by rw [e, hg] at hk; cases hk)
theorem TreeAt.only {S : Wood} {w w' : World} {g b : Nat} {t : Nd} (h : TreeAt S w b t) (ho : Only g w w') (hne : b ≠ g) : TreeAt S w' b t := by
 have hl := h.lt
 obtain ⟨h1, v, h2, h3⟩ := h
 exact ⟨h1, v, h2, (ho.block b hl hne).trans h3⟩
theorem wrapU {z : Int} (h0 : 0 ≤ z) (h1 : z < 18446744073709551616) : IntKind.u64.wrap z = z := by
 have := wrap_u64_small z.toNat (by omega)
 rwa [Int.toNat_of_nonneg h0] at this
theorem textCode_small {t : List Nat} (h : t.length ≤ 55) : (textCode t).length ≤ t.length + 1 := by
 have hh : (headB 128 t.length).length = 1 := by rw [headB, if_pos h]; rfl
 unfold textCode
 rw [List.length_append]
 split
 ·simp
 ·omega
theorem headB_sm : ∀ n, n < 100 → (headB 192 n).length ≤ 2 := by decide
theorem acc_small {a : Acc} (ha : a.ok) : 0 < (encAcc a).length ∧ (encAcc a).length ≤ 100 := by
 have h1 := textCode_small (t := bigE a.nonce) (by have := bigE_length a.nonce; omega)
 have h2 := textCode_small (t := bigE a.bal) (by have := bigE_length a.bal; omega)
 have h3 := textCode_small (t := a.root) (by have := ha.2.2.1; omega)
 have h4 := textCode_small (t := a.code) (by have := ha.2.2.2.1; omega)
 have b1 := bigE_length a.nonce
 have b2 := bigE_length a.bal
 have l3 := ha.2.2.1
 have l4 := ha.2.2.2.1
 have ht : (accTexts a).length ≤ 84 := by
  unfold accTexts
  simp only [List.length_append]
  omega
 have hp : 0 < (accTexts a).length := by
  have := (textCode_pos a.root).2
  unfold accTexts
  simp only [List.length_append]
  omega
 have hh := headB_sm (accTexts a).length (by omega)
 unfold encAcc listCode
 rw [List.length_append]
 omega
def Dn12 (d0 d1 d2 d3 d4 d5 d6 : Bool) : Prop := (d5 = true → d0 = true ∧ d2 = true ∧ d4 = true) ∧ (d2 = true → d1 = true) ∧ (d4 = true → d3 = true) ∧ (d6 = true → d5 = true)
instance (d0 d1 d2 d3 d4 d5 d6 : Bool) : Decidable (Dn12 d0 d1 d2 d3 d4 d5 d6) := by unfold Dn12; infer_instance
theorem dm0 : ∀ {d0 d1 d2 d3 d4 d5 d6 : Bool}, Dn12 d0 d1 d2 d3 d4 d5 d6 → d0 = false → d6 = false ∧ Dn12 true d1 d2 d3 d4 d5 d6 := by decide
theorem dm1 : ∀ {d0 d1 d2 d3 d4 d5 d6 : Bool}, Dn12 d0 d1 d2 d3 d4 d5 d6 → d1 = false → d6 = false ∧ Dn12 d0 true d2 d3 d4 d5 d6 := by decide
theorem dm2 : ∀ {d0 d1 d2 d3 d4 d5 d6 : Bool}, Dn12 d0 d1 d2 d3 d4 d5 d6 → d2 = false → d1 = true → (d6 = false ∧ d5 = false) ∧ Dn12 d0 d1 true d3 d4 d5 d6 := by decide
theorem dm3 : ∀ {d0 d1 d2 d3 d4 d5 d6 : Bool}, Dn12 d0 d1 d2 d3 d4 d5 d6 → d3 = false → d6 = false ∧ Dn12 d0 d1 d2 true d4 d5 d6 := by decide
theorem dm4 : ∀ {d0 d1 d2 d3 d4 d5 d6 : Bool}, Dn12 d0 d1 d2 d3 d4 d5 d6 → d4 = false → d3 = true → (d6 = false ∧ d5 = false) ∧ Dn12 d0 d1 d2 d3 true d5 d6 := by decide
theorem dm5 : ∀ {d0 d1 d2 d3 d4 d5 d6 : Bool}, Dn12 d0 d1 d2 d3 d4 d5 d6 → d5 = false → d0 = true → d2 = true → d4 = true → d6 = false ∧ Dn12 d0 d1 d2 d3 d4 true d6 := by decide
theorem dm6 : ∀ {d0 d1 d2 d3 d4 d5 d6 : Bool}, Dn12 d0 d1 d2 d3 d4 d5 d6 → d5 = true → Dn12 d0 d1 d2 d3 d4 d5 true := by decide
structure X12 (P0 : World → Prop) (P4 : Value → World → Prop) (P5 : World → Prop) (d5 d6 : Bool) (v5 : Value) (w' : World) : Prop where
 old : d6 = false → P0 w'
 kn : d5 = true → d6 = false → P4 v5 w'
 fin : d6 = true → P5 w'
end Go.Proofs.YtjiikjpnlgogfaaGreatDoor
