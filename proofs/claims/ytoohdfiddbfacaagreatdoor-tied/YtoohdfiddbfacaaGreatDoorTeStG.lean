/-
  Package storage: keyOf, the key of a name; package twigskeep: hashed, named.
-/
import Derived.Test.YtoohdfiddbfacaaGreatDoorTeKnG
import Derived.Test.YtoohdfiddbfacaaGreatDoorTeAccH
import Derived.Test.YtoohdfiddbfacaaGreatDoorTeVeA
import Derived.Test.YtoohdfiddbfacaaGreatDoorTeVfO
import Derived.Test.YtoohdfiddbfacaaGreatDoorTeAccT
import Derived.Test.YtoohdfiddbfacaaGreatDoorTeOhG
import Derived.Test.YtoohdfiddbfacaaGreatDoorTeFull
import Derived.Test.YtoohdfiddbfacaaGreatDoorTeSbG
namespace Go.Proofs.YtoohdfiddbfacaaGreatDoor
open Go.RowKit
set_option maxRecDepth 100000
set_option maxHeartbeats 25600000
theorem keyof_any {w : World} (l : List Nat) (g o m cap : Nat) (hm : m = l.length) (hg : 0 < l.length -> g < w.heap.size) (hrow : w.rangeAt g o (l.map encB)) (hT : Tabs w) (hM : 15 <= w.heap.size) :
  Calls Tryz.prog 44 #[.slice (some ⟨g, o, none⟩) m cap] w fun e w' => e = .returned (.agg ((digB l).map encB).toArray) /\ Below w.heap.size w w' := by
 have C : ∀ W, Below w.heap.size w W -> Sem.run Tryz.prog (convert 65 9 (.slice (some ⟨g, o, none⟩) m cap)) W = .ok (.string (textB l)) W := fun W h =>
  run_range_text (P := Tryz.prog) W 65 9 5 Tryz.underlying65 Tryz.underlying5 Tryz.underlying9 (fun j u y => by
   have J := (List.getElem?_eq_some_iff.1 y).1
   rw [List.length_map] at J
   exact (h.cell (p := ⟨g, o + j, none⟩) (hg (by omega))).trans (hrow j u y)) m cap hm
 have I := Hid.hide C
 have H : Hid (∀ W, Below w.heap.size w W -> Calls Tryz.prog 33 #[.string (textB l)] W fun e w' => e = .returned (.agg ((digF (textB l)).toList.map encB).toArray) /\ Below W.heap.size W w') := fun W h => of_any _ W (hT.below h hM) (Nat.le_trans hM h.size)
 clear hm hg hrow hT hM C
 go_enter Tryz.func44, Tryz.ntmps44
 go_upto_region 1 with fail
 generalize hw1 : w.alloc (.cells _ 34) = w1
 have b : Below w.heap.size w w1 := by rw [<- hw1]; exact (Below.refl _ _).alloc (Nat.le_refl _) _
 have k : w1.there w.heap.size 0 32 := by rw [<- hw1]; exact there_new _ _ _ _ rfl
 have x : w.heap.size < w1.heap.size := by rw [<- hw1]; simp
 clear hw1
 have E := I.out w1 b
 have i := Hid.hide (H.out w1 b)
 obtain ⟨s, r⟩ : ∃ s, textB l = s := ⟨_, rfl⟩
 rw [r] at E i
 go_wp2_with fail
 refine i.out.mono ?_
 rintro e w3 ⟨rfl, f⟩
 have d : (digF s).size = 32 := sumF_size _
 obtain ⟨D, n⟩ : ∃ D, digF s = D := ⟨_, rfl⟩
 have G : Hid ((digB l) = D.toList) := by rw [<- n, <- r]; rfl
 rw [n] at d ⊢
 clear n r
 have c : Below w.heap.size w w3 := b.trans (f.mono (by omega))
 obtain ⟨z, B, t, a⟩ := hash_cells' d (there_block k (f.block _ (by omega)))
 have q := all_oneCell_toArray (oneCell_enc D .u8)
 have F : Aside (Below w.heap.size w w3 /\ w3.there w.heap.size 0 (D.toList.map encB).length) := ⟨c, a⟩
 clear b k x f c a d E
 go_wp2_with (refine wpList_store_mid rfl 34 _ _ rfl w.heap.size 0 (D.toList.map encB).toArray rfl rfl t B q ?_)
 obtain ⟨c, a⟩ := F.out
 refine bodyPost_ret (v := .agg (D.toList.map encB).toArray) (results_cell1 Tryz.results44 _ _ _ w.heap.size 0 rfl (run_loadVar_mid _ _ _ 34 _ _ (World.rangeAt_setCells_same _ _ _ _ a) Tryz.underlying34 rfl z)) rfl ⟨?_, below_setCells c (Nat.le_refl _) _ _⟩
 rw [G.out]
theorem name_loads {W : World} {b n : Nat} {l : List Nat} (hb : W.rangeAt b 0 (l.map encB)) (hn : n = l.length) : Sem.run Tryz.prog (convert 65 9 (.slice (some ⟨b, 0, none⟩) n n)) W = .ok (.string (textB l)) W :=
 run_range_text (P := Tryz.prog) W 65 9 5 Tryz.underlying65 Tryz.underlying5 Tryz.underlying9 hb n n hn
theorem hashed_any {w : World} (K : Array Nat) (hK : K.size = 32) (hT : Tabs w) (hM : 15 <= w.heap.size) :
  Calls Tryz.prog 6 #[.agg (K.toList.map encB).toArray] w fun e w' => e = .returned (.agg ((digB K.toList).map encB).toArray) /\ Below w.heap.size w w' := by
 obtain ⟨A, z⟩ : ∃ A, (K.toList.map encB).toArray = A := ⟨_, rfl⟩
 obtain ⟨w0, b⟩ : ∃ w0, w.alloc (.cells A 34) = w0 := ⟨_, rfl⟩
 have h : w0.rangeAt w.heap.size 0 (K.toList.map encB) := fun j u y => by
  rw [<- b, Nat.zero_add, World.cell?_alloc_new, <- z]
  simpa using y
 have m : w0.heap.size = w.heap.size + 1 := by rw [<- b]; simp
 have l : Below w.heap.size w w0 := by rw [<- b]; exact (Below.refl _ _).alloc (Nat.le_refl _) _
 have i : ∀ o, (w0.alloc o).rangeAt w.heap.size 0 (K.toList.map encB) := fun o j u y => (World.cell?_alloc_past _ _ _ (by omega)).trans (h j u y)
 have G := fun o => name_loads (i o) (n := 32) (by simp [hK])
 have L : Hid (∀ W, Below w.heap.size w W -> Calls Tryz.prog 21 #[.string (textB K.toList)] W fun e w' => e = .returned (.agg ((digF (textB K.toList)).toList.map encB).toArray) /\ Below W.heap.size W w') := fun W B => digest_any _ W (hT.below B hM) (Nat.le_trans hM B.size)
 clear hT hM h
 rw [z]
 go_enter Tryz.func6, Tryz.ntmps6
 go_upto_region 1 with fail
 try rw [b]
 try rw [m]
 generalize hw1 : w0.alloc (.cells _ 34) = w1
 have d : Below w.heap.size w w1 := by rw [<- hw1]; exact l.alloc (by omega) _
 have p : w1.there (w.heap.size + 1) 0 32 := by rw [<- hw1, <- m]; exact there_new _ _ _ _ rfl
 have C : w.heap.size + 1 < w1.heap.size := by rw [<- hw1]; simp; omega
 have H : Sem.run Tryz.prog (convert 65 9 (.slice (some ⟨w.heap.size, 0, none⟩) 32 32)) w1 = .ok (.string (textB K.toList)) w1 := by rw [<- hw1]; exact G _
 clear hw1 b G l
 have k := Hid.hide (L.out w1 d)
 obtain ⟨s, t⟩ : ∃ s, textB K.toList = s := ⟨_, rfl⟩
 rw [t] at H k
 go_wp2_with fail
 refine k.out.mono ?_
 rintro e w3 ⟨rfl, g⟩
 have f : (digF s).size = 32 := sumF_size _
 obtain ⟨D, q⟩ : ∃ D, digF s = D := ⟨_, rfl⟩
 have J : Hid (digB K.toList = D.toList) := by rw [<- q, <- t]; rfl
 rw [q] at f ⊢
 clear q t
 have c : Below w.heap.size w w3 := d.trans (g.mono (by omega))
 obtain ⟨E, F, x, a⟩ := hash_cells' f (there_block p (g.block _ (by omega)))
 have r := all_oneCell_toArray (oneCell_enc D .u8)
 have I : Aside (Below w.heap.size w w3 /\ w3.there (w.heap.size + 1) 0 (D.toList.map encB).length) := ⟨c, a⟩
 clear d p C g c a f H
 go_wp2_with (refine wpList_store_mid rfl 34 _ _ rfl (w.heap.size + 1) 0 (D.toList.map encB).toArray rfl rfl x F r ?_)
 obtain ⟨c, a⟩ := I.out
 refine bodyPost_ret (v := .agg (D.toList.map encB).toArray) (results_cell1 Tryz.results6 _ _ _ (w.heap.size + 1) 0 rfl (run_loadVar_mid _ _ _ 34 _ _ (World.rangeAt_setCells_same _ _ _ _ a) Tryz.underlying34 rfl E)) rfl ⟨?_, below_setCells c (by omega) _ _⟩
 rw [J.out]
theorem named_any {w : World} (K : Array Nat) (hK : K.size = 20) (hT : Tabs w) (hM : 15 <= w.heap.size) :
  Calls Tryz.prog 10 #[.agg (K.toList.map encB).toArray] w fun e w' => e = .returned (.agg ((digB K.toList).map encB).toArray) /\ Below w.heap.size w w' := by
 obtain ⟨A, z⟩ : ∃ A, (K.toList.map encB).toArray = A := ⟨_, rfl⟩
 obtain ⟨w0, b⟩ : ∃ w0, w.alloc (.cells A 23) = w0 := ⟨_, rfl⟩
 have h : w0.rangeAt w.heap.size 0 (K.toList.map encB) := fun j u y => by
  rw [<- b, Nat.zero_add, World.cell?_alloc_new, <- z]
  simpa using y
 have m : w0.heap.size = w.heap.size + 1 := by rw [<- b]; simp
 have l : Below w.heap.size w w0 := by rw [<- b]; exact (Below.refl _ _).alloc (Nat.le_refl _) _
 have i : ∀ o, (w0.alloc o).rangeAt w.heap.size 0 (K.toList.map encB) := fun o j u y => (World.cell?_alloc_past _ _ _ (by omega)).trans (h j u y)
 have G := fun o => name_loads (i o) (n := 20) (by simp [hK])
 have L : Hid (∀ W, Below w.heap.size w W -> Calls Tryz.prog 21 #[.string (textB K.toList)] W fun e w' => e = .returned (.agg ((digF (textB K.toList)).toList.map encB).toArray) /\ Below W.heap.size W w') := fun W B => digest_any _ W (hT.below B hM) (Nat.le_trans hM B.size)
 clear hT hM h
 rw [z]
 go_enter Tryz.func10, Tryz.ntmps10
 go_upto_region 1 with fail
 try rw [b]
 try rw [m]
 generalize hw1 : w0.alloc (.cells _ 34) = w1
 have d : Below w.heap.size w w1 := by rw [<- hw1]; exact l.alloc (by omega) _
 have p : w1.there (w.heap.size + 1) 0 32 := by rw [<- hw1, <- m]; exact there_new _ _ _ _ rfl
 have C : w.heap.size + 1 < w1.heap.size := by rw [<- hw1]; simp; omega
 have H : Sem.run Tryz.prog (convert 65 9 (.slice (some ⟨w.heap.size, 0, none⟩) 20 20)) w1 = .ok (.string (textB K.toList)) w1 := by rw [<- hw1]; exact G _
 clear hw1 b G l
 have k := Hid.hide (L.out w1 d)
 obtain ⟨s, t⟩ : ∃ s, textB K.toList = s := ⟨_, rfl⟩
 rw [t] at H k
 go_wp2_with fail
 refine k.out.mono ?_
 rintro e w3 ⟨rfl, g⟩
 have f : (digF s).size = 32 := sumF_size _
 obtain ⟨D, q⟩ : ∃ D, digF s = D := ⟨_, rfl⟩
 have J : Hid (digB K.toList = D.toList) := by rw [<- q, <- t]; rfl
 rw [q] at f ⊢
 clear q t
 have c : Below w.heap.size w w3 := d.trans (g.mono (by omega))
 obtain ⟨E, F, x, a⟩ := hash_cells' f (there_block p (g.block _ (by omega)))
 have r := all_oneCell_toArray (oneCell_enc D .u8)
 have I : Aside (Below w.heap.size w w3 /\ w3.there (w.heap.size + 1) 0 (D.toList.map encB).length) := ⟨c, a⟩
 clear d p C g c a f H
 go_wp2_with (refine wpList_store_mid rfl 34 _ _ rfl (w.heap.size + 1) 0 (D.toList.map encB).toArray rfl rfl x F r ?_)
 obtain ⟨c, a⟩ := I.out
 refine bodyPost_ret (v := .agg (D.toList.map encB).toArray) (results_cell1 Tryz.results10 _ _ _ (w.heap.size + 1) 0 rfl (run_loadVar_mid _ _ _ 34 _ _ (World.rangeAt_setCells_same _ _ _ _ a) Tryz.underlying34 rfl E)) rfl ⟨?_, below_setCells c (by omega) _ _⟩
 rw [J.out]
def sndF : Except Er (Option ByteArray) -> Except Er (Option ByteArray)
 | .error e => .error (.inProof 2 e)
 | .ok o => .ok o
def storF (root ad sl : List Nat) (L1 L2 : List (List Nat)) : Except Er (Option ByteArray) :=
 match verF root (textB (nibs (digB ad))) L1 with
 | .error e => .error (.inProof 1 e)
 | .ok none => if L2 = [] then .ok none else .error (.inProof 2 (.inNode 0 (.base 4)))
 | .ok (some c) =>
  match accF (bytesOf c) with
  | .error e => .error (.inProof 1 (.inNode L1.length e))
  | .ok a =>
   sndF (verF a.root (textB (nibs (digB sl))) L2)
def verErr (sent : Nat -> Addr) : Except Er (Option ByteArray) -> Value
 | .error er => er.val sent
 | .ok _ => .nilIface
theorem VerSaid.eq {sent : Nat -> Addr} {q : Except Er (Option ByteArray)} {e : Ending} (h : VerSaid sent q e) : e = .returned (.tuple #[.string (verStr q), .bool (verHas q), verErr sent q]) := by
 rcases h with ⟨er, rfl, rfl⟩ | ⟨o, rfl, rfl⟩ <;> rfl
theorem storF_simple {root ad sl : List Nat} {L1 L2 : List (List Nat)} (h1 : ∀ c ∈ L1, ∀ y ∈ c, y < 256) (h2 : ∀ c ∈ L2, ∀ y ∈ c, y < 256) {er : Er} (h : storF root ad sl L1 L2 = .error er) : er.simple := by
 unfold storF at h
 cases hv : verF root (textB (nibs (digB ad))) L1 with
 | error e => rw [hv] at h; cases h; show e.simple; exact verF_simple h1 hv
 | ok o =>
  rw [hv] at h
  cases o with
  | none =>
   simp only at h
   split at h
   ·cases h
   ·cases h; show (4 : Nat) ∈ nums; decide
  | some c =>
   simp only at h
   cases ha : accF (bytesOf c) with
   | error e => rw [ha] at h; cases h; show e.simple; exact (accF_error (byte_lt c) ha).1
   | ok a =>
    rw [ha] at h
    simp only at h
    cases hw : verF a.root (textB (nibs (digB sl))) L2 with
    | error e => rw [hw] at h; cases h; show e.simple; exact verF_simple h2 hw
    | ok o => rw [hw] at h; cases h
theorem nothing_any {w : World} (sent : Nat -> Addr) (hF : Faults w sent) (p : Option Addr) (m c : Nat) :
  Calls Tryz.prog 45 #[.slice p m c] w fun e w' => e = .returned (if m = 0 then .nilIface else (Er.inProof 2 (.inNode 0 (.base 4))).val sent) /\ Below w.heap.size w w' := by
 have b : w.cell? ⟨2, 0, none⟩ = some (.iface 244 (.pointer (some (sent 4)))) := hF.var 4 (by decide)
 clear hF
 by_cases a : m = 0
 ·subst a
  go_enter Tryz.func45, Tryz.ntmps45
  go_wp2
  go_ret
  exact ⟨rfl, Below.refl _ _⟩
 ·rw [if_neg a]
  have d : (0 : Int) < (m : Int) := by omega
  clear a
  go_enter Tryz.func45, Tryz.ntmps45
  go_wp2
  go_ret
  exact ⟨rfl, Below.refl _ _⟩
theorem digB_key (l : List Nat) : (digB l).toArray.size = 32 /\ Bytes (digB l).toArray := by
 refine ⟨by simp [digB_length], fun j => ?_⟩
 by_cases h : j < (digB l).length
 ·rw [getElem!_pos _ _ (by simpa using h)]
  exact digB_byte l _ (by simp)
 ·rw [getElem!_neg _ _ (by simpa using h)]
  decide
theorem size80 : (Tryz.prog.info? 23).map (·.size) = some 20 := by kernel_rfl
theorem stver_any {w : World} (sent : Nat -> Addr) (h ad sl : List Nat) (l1 l2 : List ByteArray) (p1 p2 : Option Addr) (c1 c2 : Nat) (hE : Env w.heap.size sent w) (hh : h.length = 32) (hhb : ∀ x ∈ h, x < 256) (had : ad.length = 20) (hsl : sl.length = 32) (hr1 : StrRow w p1 l1 c1) (hr2 : StrRow w p2 l2 c2) (hl1 : l1.length <= 9223372036854775807) (hl2 : l2.length <= 9223372036854775807) {q : Except Er (Option ByteArray)} (hq : storF h ad sl (l1.map bytesOf) (l2.map bytesOf) = q) :
  Calls Tryz.prog 30 #[.agg (h.map encB).toArray, .agg (ad.map encB).toArray, .agg (sl.map encB).toArray, .slice p1 l1.length c1, .slice p2 l2.length c2] w fun e w' => e = .returned (.tuple #[.string (verStr q), .bool (verHas q), verErr sent q]) /\ Below w.heap.size w w' := by
 obtain ⟨A, hA⟩ : ∃ A, (h.map encB).toArray = A := ⟨_, rfl⟩
 obtain ⟨Ac, au⟩ : ∃ Ac, (ad.map encB).toArray = Ac := ⟨_, rfl⟩
 obtain ⟨Sc, aw⟩ : ∃ Sc, (sl.map encB).toArray = Sc := ⟨_, rfl⟩
 obtain ⟨W0, M⟩ : ∃ W0, ((w.alloc (.cells A 44)).alloc (.cells Ac 23)).alloc (.cells Sc 34) = W0 := ⟨_, rfl⟩
 have ae : W0.rangeAt w.heap.size 0 (h.map encB) := fun j u Z => by
  rw [<- M, World.cell?_alloc_past _ _ _ (by simp; omega), World.cell?_alloc_past _ _ _ (by simp), Nat.zero_add, World.cell?_alloc_new, <- hA]
  simpa using Z
 have ap : W0.rangeAt (w.heap.size + 1) 0 (ad.map encB) := fun j u Z => by
  rw [<- M, World.cell?_alloc_past _ _ _ (by simp), show w.heap.size + 1 = (w.alloc (.cells A 44)).heap.size by simp, Nat.zero_add, World.cell?_alloc_new, <- au]
  simpa using Z
 have aq : W0.rangeAt (w.heap.size + 1 + 1) 0 (sl.map encB) := fun j u Z => by
  rw [<- M, show w.heap.size + 1 + 1 = ((w.alloc (.cells A 44)).alloc (.cells Ac 23)).heap.size by simp, Nat.zero_add, World.cell?_alloc_new, <- aw]
  simpa using Z
 have V : Below w.heap.size w W0 := by rw [<- M]; exact (((Below.refl _ _).alloc (Nat.le_refl _) _).alloc (by simp) _).alloc (by simp; omega) _
 have bl : W0.heap.size = w.heap.size + 3 := by rw [<- M]; simp
 obtain ⟨q1, k⟩ : ∃ q1, verF h (textB (nibs (digB ad))) (l1.map bytesOf) = q1 := ⟨_, rfl⟩
 have U := (hE.below V).raise V.size
 have HK : Hid (∀ W, Below W0.heap.size W0 W -> Calls Tryz.prog 44 #[.slice (some ⟨w.heap.size + 1, 0, none⟩) 20 20] W fun e w' => e = .returned (.agg ((digB ad).map encB).toArray) /\ Below W.heap.size W w') := fun W r =>
  keyof_any ad (w.heap.size + 1) 0 20 20 had.symm (fun _ => by have := r.size; omega) (rangeAt_block ap (r.block _ (by omega))) (U.below r).tabs (Nat.le_trans (U.below r).low r.size)
 have P : ∀ {W : World} {p : Option Addr} {l : List ByteArray} {c : Nat}, StrRow w p l c -> Below w.heap.size w W -> StrRow W p l c := fun {W p l c} hr r => by
  rcases hr with h | ⟨g, o, e1, e2, e3, e4⟩
  ·exact .inl h
  ·exact .inr ⟨g, o, e1, e2, fun h => Nat.lt_of_lt_of_le (e3 h) r.size, fun j u Z => by
    have hj : 0 < l.length := by
     have := (List.getElem?_eq_some_iff.1 Z).1
     simp at this
     omega
    exact (r.cell (p := ⟨g, o + j, none⟩) (e3 hj)).trans (e4 j u Z)⟩
 have K : Hid (∀ W, Below W0.heap.size W0 W -> Calls Tryz.prog 43 #[.agg (h.map encB).toArray, .agg ((digB ad).map encB).toArray, .slice p1 l1.length c1] W fun e w' => e = .returned (.tuple #[.string (verStr q1), .bool (verHas q1), verErr sent q1]) /\ Below W.heap.size W w') := fun W r => by
  have := verify_any sent h (digB ad).toArray l1 p1 c1 ((U.below r).raise r.size) hh hhb (digB_key ad).1 (digB_key ad).2 (P hr1 (V.behind' r)) hl1
  dsimp only at this
  refine this.mono fun e w' d => ⟨?_, d.1⟩
  have := d.2.eq
  rw [k] at this
  exact this
 have F : Hid (Below w.heap.size w W0 /\ W0.heap.size = w.heap.size + 3 /\ Env W0.heap.size sent W0 /\ W0.rangeAt (w.heap.size + 1 + 1) 0 (sl.map encB)) := ⟨V, bl, U, aq⟩
 have HX : Hid (StrRow w p2 l2 c2 /\ l2.length <= 9223372036854775807 /\ sl.length = 32 /\ (∀ {W : World} {p : Option Addr} {l : List ByteArray} {c : Nat}, StrRow w p l c -> Below w.heap.size w W -> StrRow W p l c)) := ⟨hr2, hl2, hsl, P⟩
 have S : Hid (storF h ad sl (l1.map bytesOf) (l2.map bytesOf) = q /\ verF h (textB (nibs (digB ad))) (l1.map bytesOf) = q1) := ⟨hq, k⟩
 have hz := hash_size hh
 have bm : w.heap.size < W0.heap.size := by omega
 have bz := Tryz.underlying44
 have f : Below W0.heap.size W0 W0.drew := (Below.refl _ _).drew
 have bf := Hid.hide (HK.out _ f)
 have G := Hid.hide f
 clear hE hh hhb had hsl hr1 hr2 hl1 hl2 hq k V bl U P ap aq HK f
 rw [hA, au, aw]
 clear hA au aw
 obtain ⟨s1, ag⟩ : ∃ s1, verStr q1 = s1 := ⟨_, rfl⟩
 obtain ⟨b1, aa⟩ : ∃ b1, verHas q1 = b1 := ⟨_, rfl⟩
 obtain ⟨v1, ai⟩ : ∃ v1, verErr sent q1 = v1 := ⟨_, rfl⟩
 rw [ag, aa, ai] at K
 have bi : Hid (verStr q1 = s1 /\ verHas q1 = b1 /\ verErr sent q1 = v1) := ⟨ag, aa, ai⟩
 clear ag aa ai
 obtain ⟨m1, ba⟩ : ∃ m, l1.length = m := ⟨_, rfl⟩
 rw [ba] at K ⊢
 have bq := Hid.hide ba
 clear ba
 go_enter Tryz.func30, Tryz.ntmps30
 go_upto_region 1 with fail
 clear M
 go_region_held3 (fun w' => w'.rangeAt w.heap.size 0 (h.map encB)) (first | exact ae | exact h1 | exact h2)
  (first | (go_at_call 44; refine bf.out.mono ?_; rintro x w1 ⟨rfl, am⟩; have h1 : w1.rangeAt w.heap.size 0 (h.map encB) := rangeAt_block ae (am.block _ bm); have H1 : Hid (Below W0.heap.size W0 w1) := G.out.trans (am.mono G.out.size); have bn : w.heap.size < w1.heap.size := Nat.lt_of_lt_of_le bm am.size; clear am) | (go_at_call 43; refine (K.out w1 H1.out).mono ?_; rintro x Q ⟨rfl, ay⟩; have h2 : Q.rangeAt w.heap.size 0 (h.map encB) := rangeAt_block h1 (ay.block _ bn); have H2 : Hid (Below W0.heap.size W0 Q) := H1.out.trans (ay.mono H1.out.size); clear ay))
 all_goals clear h1 h2 ae bn K bf G
 cases k : q1 with
 | error er =>
  obtain ⟨T, ev, i⟩ := er.shape sent
  have H := bi.out
  rw [k] at H
  obtain ⟨rfl, rfl, y⟩ := H
  have bc : v1 = .iface T ev := y.symm.trans i
  subst bc
  have n : Hid (q = .error (.inProof 1 er) /\ Er.val sent (.inProof 1 er) = .iface 105 (.agg #[.int .i64 1, .iface T ev])) := ⟨by rw [<- S.out.1, storF, S.out.2, k], by rw [Er.val, i]; rfl⟩
  clear y i
  go_wp2
  go_ret3
  rw [n.out.1]
  exact ⟨by show _ = Ending.returned (.tuple #[.string ⟨#[]⟩, .bool false, Er.val sent (.inProof 1 er)]); rw [n.out.2]; rfl, F.out.1.behind' H2.out⟩
 | ok o =>
  have H := bi.out
  rw [k] at H
  obtain ⟨d, hb, y⟩ := H
  obtain rfl : v1 = .nilIface := y.symm
  cases o with
  | none =>
   obtain rfl : s1 = ⟨#[]⟩ := d.symm
   obtain rfl : b1 = false := hb.symm
   have HN := Hid.hide (nothing_any sent (F.out.2.2.1.below H2.out).faults p2 l2.length c2)
   obtain ⟨nv, N⟩ : ∃ nv, (if l2.length = 0 then .nilIface else (Er.inProof 2 (.inNode 0 (.base 4))).val sent) = nv := ⟨_, rfl⟩
   rw [N] at HN
   have n : Hid (verStr q = ⟨#[]⟩ /\ verHas q = false /\ verErr sent q = nv) := by
    have O := S.out.1
    rw [storF, S.out.2, k] at O
    simp only at O
    by_cases hl : l2 = []
    ·rw [if_pos (by rw [hl]; rfl)] at O
     rw [if_pos (by rw [hl]; rfl)] at N
     rw [<- O, <- N]
     exact ⟨rfl, rfl, rfl⟩
    ·rw [if_neg (by simpa using hl)] at O
     rw [if_neg (by simpa using hl)] at N
     rw [<- O, <- N]
     exact ⟨rfl, rfl, rfl⟩
   obtain ⟨m2, X⟩ : ∃ m, l2.length = m := ⟨_, rfl⟩
   rw [X] at HN ⊢
   clear d hb y N X
   go_wp2_with fail
   refine HN.out.mono ?_
   rintro e b ⟨rfl, z⟩
   have H3 : Hid (Below w.heap.size w b) := Below.behind (F.out.1.behind' H2.out) z
   clear z
   go_wp2
   go_ret3
   rw [n.out.1, n.out.2.1, n.out.2.2]
   exact ⟨rfl, H3.out⟩
  | some c =>
   obtain rfl : s1 = c := d.symm
   obtain rfl : b1 = true := hb.symm
   have HA := Hid.hide (ad_any s1 sent Q (F.out.2.2.1.below H2.out).faults)
   clear d hb y
   cases hac : accF (bytesOf s1) with
   | error er =>
    obtain ⟨T, ev, i⟩ := er.shape sent
    have L : Hid (Calls Tryz.prog 46 #[.string s1] Q fun e w' => Below Q.heap.size Q w' /\ e = .returned (.tuple #[.agg (accL zeroAcc).toArray, .iface T ev])) := HA.out.mono fun e w' d => ⟨d.1, by
     obtain ⟨t, v, y, he⟩ := d.2.1 er hac
     rw [i] at y
     cases y
     exact he⟩
    have n : Hid (q = .error (.inProof 1 (.inNode l1.length er)) /\ Er.val sent (.inProof 1 (.inNode l1.length er)) = .iface 105 (.agg #[.int .i64 1, .iface 110 (.agg #[.int .i64 (m1 : Int), .iface T ev])])) := ⟨by
     rw [<- S.out.1, storF, S.out.2, k]; simp only; rw [hac]; simp only; rw [List.length_map], by rw [Er.val, Er.val, i, bq.out]; rfl⟩
    obtain ⟨AA, s⟩ : ∃ AA, (accL zeroAcc).toArray = AA := ⟨_, rfl⟩
    have B : AA.size = 66 := by rw [<- s, List.size_toArray]; rfl
    have ak : AA.all (·.oneCell') = true := by rw [<- s]; exact accL_one _
    rw [s] at L
    have ar : (Tryz.prog.info? 47).map (·.size) = some AA.size := by rw [zeroA_size, B]
    clear HA i s
    go_wp2_with fail
    refine L.out.mono ?_
    rintro e b ⟨z, rfl⟩
    have H3 : Hid (Below w.heap.size w b) := Below.behind (F.out.1.behind' H2.out) z
    have I : ∀ C : Array Value, 66 = C.size -> (b.alloc (.cells C 47)).there b.heap.size 0 AA.size := fun C hC => there_new _ _ _ _ (by rw [B]; exact hC)
    clear z
    go_wp2_with (refine wpList_store_mid rfl 47 _ _ rfl b.heap.size 0 AA rfl rfl (I _ rfl) ar ak ?_; generalize hX : World.setCells _ b.heap.size 0 _ = w4; have J : Hid (Below w.heap.size w w4) := Below.behind H3.out (newH hX); clear hX I)
    go_ret3
    rw [n.out.1]
    exact ⟨by show _ = Ending.returned (.tuple #[.string ⟨#[]⟩, .bool false, Er.val sent (.inProof 1 (.inNode l1.length er))]); rw [n.out.2]; rfl, J.out⟩
   | ok a =>
    have Y := (accF_ok (byte_lt s1) hac).1
    have L : Hid (Calls Tryz.prog 46 #[.string s1] Q fun e w' => Below Q.heap.size Q w' /\ e = .returned (.tuple #[.agg (accL a).toArray, .nilIface])) := HA.out.mono fun e w' d => ⟨d.1, d.2.2 a hac⟩
    obtain ⟨q2, D⟩ : ∃ q2, verF a.root (textB (nibs (digB sl))) (l2.map bytesOf) = q2 := ⟨_, rfl⟩
    have bg : Hid (q = sndF q2) := by
     show q = sndF q2
     rw [<- S.out.1, storF, S.out.2, k]; simp only; rw [hac]; simp only; rw [D]
    obtain ⟨AA, s⟩ : ∃ AA, (accL a).toArray = AA := ⟨_, rfl⟩
    have B : AA.size = 66 := by rw [<- s, List.size_toArray]; exact accL_length Y.2.2.1 Y.2.2.2.1
    have ak : AA.all (·.oneCell') = true := by rw [<- s]; exact accL_one _
    rw [s] at L
    have ar : (Tryz.prog.info? 47).map (·.size) = some AA.size := by rw [zeroA_size, B]
    have R : Hid (AA.toList = [encL a.nonce, encL a.bal] ++ a.root.map encB ++ a.code.map encB /\ a.root.length = 32 /\ (∀ x ∈ a.root, x < 256) /\ AA.size = 66) := ⟨by rw [<- s]; simp [accL], Y.2.2.1, Y.2.2.2.2.1, B⟩
    clear HA s Y
    go_wp2_with fail
    refine L.out.mono ?_
    rintro e b ⟨z, rfl⟩
    have H3 : Hid (Below w.heap.size w b /\ Below W0.heap.size W0 b) := ⟨Below.behind (F.out.1.behind' H2.out) z, Below.behind H2.out z⟩
    have I : ∀ C : Array Value, 66 = C.size -> (b.alloc (.cells C 47)).there b.heap.size 0 AA.size := fun C hC => there_new _ _ _ _ (by rw [B]; exact hC)
    have hL : ∀ C : Array Value, 66 = C.size -> AA.toList.length = C.size := fun C hC => by rw [Array.length_toList, B]; exact hC
    clear z B
    go_wp2_with (refine wpList_store_mid rfl 47 _ _ rfl b.heap.size 0 AA rfl rfl (I _ rfl) ar ak ?_; generalize hX : World.setCells _ b.heap.size 0 _ = w4; have J : Hid (Below w.heap.size w w4 /\ Below W0.heap.size W0 w4) := ⟨Below.behind H3.out.1 (newH hX), Below.behind H3.out.2 (newH hX)⟩; have r4 := (newH_row hX (hL _ rfl)).1; have b9 := (newH_row hX (hL _ rfl)).2; clear hX I hL)
    have E : w4.rangeAt b.heap.size 2 (a.root.map encB) := by
     have := r4
     rw [R.out.1] at this
     exact range_part this
    have bo : b.heap.size < w4.heap.size := b9
    have bx : (Tryz.prog.info? 44).map (·.size) = some (a.root.map encB).length := hash_size R.out.2.1
    have f : Below w4.heap.size w4 w4.drew := (Below.refl _ _).drew
    have al := (F.out.2.2.1.below J.out.2).raise J.out.2.size
    have HK : Hid (Calls Tryz.prog 44 #[.slice (some ⟨w.heap.size + 1 + 1, 0, none⟩) 32 32] w4.drew fun e w' => e = .returned (.agg ((digB sl).map encB).toArray) /\ Below w4.drew.heap.size w4.drew w') :=
     keyof_any sl (w.heap.size + 1 + 1) 0 32 32 HX.out.2.2.1.symm (fun _ => by have := J.out.2.size; have := F.out.2.1; have := f.size; omega) (rangeAt_block (rangeAt_block F.out.2.2.2 (J.out.2.block _ (by have := F.out.2.1; omega))) (f.block _ (by have := J.out.2.size; have := F.out.2.1; omega))) (al.below f).tabs (Nat.le_trans (al.below f).low f.size)
    have K : Hid (∀ W, Below w4.heap.size w4 W -> Calls Tryz.prog 43 #[.agg (a.root.map encB).toArray, .agg ((digB sl).map encB).toArray, .slice p2 l2.length c2] W fun e w' => e = .returned (.tuple #[.string (verStr q2), .bool (verHas q2), verErr sent q2]) /\ Below W.heap.size W w') := fun W r => by
     have := verify_any sent a.root (digB sl).toArray l2 p2 c2 ((al.below r).raise r.size) R.out.2.1 R.out.2.2.1 (digB_key sl).1 (digB_key sl).2 (HX.out.2.2.2 HX.out.1 (Below.behind J.out.1 r)) HX.out.2.1
     dsimp only at this
     refine this.mono fun e w' d => ⟨?_, d.1⟩
     have := d.2.eq
     rw [D] at this
     exact this
    have G := Hid.hide f
    clear f al r4 b9 D
    obtain ⟨s2, ah⟩ : ∃ s2, verStr q2 = s2 := ⟨_, rfl⟩
    obtain ⟨b2, ac⟩ : ∃ b2, verHas q2 = b2 := ⟨_, rfl⟩
    obtain ⟨v2, aj⟩ : ∃ v2, verErr sent q2 = v2 := ⟨_, rfl⟩
    rw [ah, ac, aj] at K
    have bj : Hid (verStr q2 = s2 /\ verHas q2 = b2 /\ verErr sent q2 = v2) := ⟨ah, ac, aj⟩
    clear ah ac aj
    obtain ⟨m2, X⟩ : ∃ m, l2.length = m := ⟨_, rfl⟩
    rw [X] at K ⊢
    clear X L R ar ak hac k
    obtain ⟨Rt, bk⟩ : ∃ Rt, a.root.map encB = Rt := ⟨_, rfl⟩
    rw [bk] at E bx K
    clear bk
    go_region_held3 (fun w' => w'.rangeAt b.heap.size 2 Rt) (first | exact E | exact h5 | exact h6)
     (first | (go_at_call 44; refine HK.out.mono ?_; rintro x w5 ⟨rfl, ao⟩; have h5 : w5.rangeAt b.heap.size 2 Rt := rangeAt_block E (ao.block _ bo); have H5 : Hid (Below w4.heap.size w4 w5) := G.out.trans (ao.mono G.out.size); have bp : b.heap.size < w5.heap.size := Nat.lt_of_lt_of_le bo ao.size; clear ao) | (go_at_call 43; refine (K.out w5 H5.out).mono ?_; rintro x w6 ⟨rfl, az⟩; have h6 : w6.rangeAt b.heap.size 2 Rt := rangeAt_block h5 (az.block _ bp); have H6 : Hid (Below w4.heap.size w4 w6) := H5.out.trans (az.mono H5.out.size); clear az))
    all_goals clear h5 h6 E bp K HK G
    cases D : q2 with
    | error er =>
     obtain ⟨T, ev, i⟩ := er.shape sent
     have H := bj.out
     rw [D] at H
     obtain ⟨rfl, rfl, y⟩ := H
     have bc : v2 = .iface T ev := y.symm.trans i
     subst bc
     have n : Hid (q = .error (.inProof 2 er) /\ Er.val sent (.inProof 2 er) = .iface 105 (.agg #[.int .i64 2, .iface T ev])) := ⟨by rw [bg.out, D]; rfl, by rw [Er.val, i]; rfl⟩
     clear y i
     go_wp2
     go_ret3
     rw [n.out.1]
     exact ⟨by show _ = Ending.returned (.tuple #[.string ⟨#[]⟩, .bool false, Er.val sent (.inProof 2 er)]); rw [n.out.2]; rfl, Below.behind J.out.1 H6.out⟩
    | ok o =>
     have H := bj.out
     rw [D] at H
     obtain ⟨d, hb, y⟩ := H
     obtain rfl : v2 = .nilIface := y.symm
     have n : Hid (verStr q = s2 /\ verHas q = b2 /\ verErr sent q = .nilIface) := by
      rw [bg.out, D]
      exact ⟨d, hb, rfl⟩
     clear d hb y
     go_wp2
     go_ret3
     rw [n.out.1, n.out.2.1, n.out.2.2]
     exact ⟨rfl, Below.behind J.out.1 H6.out⟩
theorem xstor_any {w : World} (sent : Nat -> Addr) (h ad sl : List Nat) (l1 l2 : List ByteArray) (p1 p2 : Option Addr) (c1 c2 : Nat) (hE : Env w.heap.size sent w) (hTy : typeAt w) (hTl : 12 < w.heap.size) (hh : h.length = 32) (hhb : ∀ x ∈ h, x < 256) (had : ad.length = 20) (hsl : sl.length = 32) (hr1 : StrRow w p1 l1 c1) (hr2 : StrRow w p2 l2 c2) (hl1 : l1.length <= 9223372036854775807) (hl2 : l2.length <= 9223372036854775807) {q : Except Er (Option ByteArray)} (hq : storF h ad sl (l1.map bytesOf) (l2.map bytesOf) = q) :
  Calls Tryz.prog 16 #[.agg (h.map encB).toArray, .agg (ad.map encB).toArray, .agg (sl.map encB).toArray, .slice p1 l1.length c1, .slice p2 l2.length c2] w fun e w' => e = .returned (.tuple #[.string (verStr q), .bool (verHas q), verFault q]) /\ Below w.heap.size w w' := by
 obtain ⟨A, S⟩ : ∃ A, (h.map encB).toArray = A := ⟨_, rfl⟩
 obtain ⟨Ac, s⟩ : ∃ Ac, (ad.map encB).toArray = Ac := ⟨_, rfl⟩
 obtain ⟨Sc, t⟩ : ∃ Sc, (sl.map encB).toArray = Sc := ⟨_, rfl⟩
 obtain ⟨W0, f⟩ : ∃ W0, (((w.alloc (.cells A 44)).alloc (.cells Ac 23)).alloc (.cells Sc 34)).alloc (.cells #[.int .i64 0, .int .i64 0, .int .i64 0, .int .i64 0] 55) = W0 := ⟨_, rfl⟩
 have ac : W0.rangeAt w.heap.size 0 (h.map encB) := fun j u P => by
  rw [<- f, World.cell?_alloc_past _ _ _ (by simp <;> omega), World.cell?_alloc_past _ _ _ (by simp <;> omega), World.cell?_alloc_past _ _ _ (by simp), Nat.zero_add, World.cell?_alloc_new, <- S]
  simpa using P
 have T : W0.rangeAt (w.heap.size + 1) 0 (ad.map encB) := fun j u P => by
  rw [<- f, World.cell?_alloc_past _ _ _ (by simp <;> omega), World.cell?_alloc_past _ _ _ (by simp), show w.heap.size + 1 = (w.alloc (.cells A 44)).heap.size by simp, Nat.zero_add, World.cell?_alloc_new, <- s]
  simpa using P
 have U : W0.rangeAt (w.heap.size + 1 + 1) 0 (sl.map encB) := fun j u P => by
  rw [<- f, World.cell?_alloc_past _ _ _ (by simp), show w.heap.size + 1 + 1 = ((w.alloc (.cells A 44)).alloc (.cells Ac 23)).heap.size by simp, Nat.zero_add, World.cell?_alloc_new, <- t]
  simpa using P
 have c : Below w.heap.size w W0 := by rw [<- f]; exact ((((Below.refl _ _).alloc (Nat.le_refl _) _).alloc (by simp) _).alloc (by simp <;> omega) _).alloc (by simp <;> omega) _
 have Y : W0.heap.size = w.heap.size + 4 := by rw [<- f]; simp
 have O : W0.heap[w.heap.size + 1 + 1 + 1]? = some (.cells #[.int .i64 0, .int .i64 0, .int .i64 0, .int .i64 0] 55 (0, 0)) := by
  rw [<- f]
  have : ((((w.alloc (.cells A 44)).alloc (.cells Ac 23)).alloc (.cells Sc 34)).alloc (.cells #[.int .i64 0, .int .i64 0, .int .i64 0, .int .i64 0] 55)).heap[(((w.alloc (.cells A 44)).alloc (.cells Ac 23)).alloc (.cells Sc 34)).heap.size]? = some (.cells #[.int .i64 0, .int .i64 0, .int .i64 0, .int .i64 0] 55 (0, 0)) := Array.getElem?_push_size
  simpa using this
 have R := Hid.hide (stver_any sent h ad sl l1 l2 p1 p2 c1 c2 ((hE.below c).raise c.size) hh hhb had hsl (hr1.below c) (hr2.below c) hl1 hl2 hq)
 have HT : Hid (∀ W, Below W0.heap.size W0 W -> ∀ a : Er, a.simple -> Calls Tryz.prog 31 #[a.val sent] W fun e w' => e = .returned (faultV a.num a.proof a.node a.at_) /\ Below W.heap.size W w') := fun W hW a hs => tell_any sent a hs W (hE.faults.below (c.behind' hW)) (((c.behind' hW).cell (p := ⟨12, 0, none⟩) hTl).trans hTy)
 have HS : Hid (∀ a, q = .error a -> a.simple) := fun a e => storF_simple (bytes_all l1) (bytes_all l2) (hq.trans e)
 have y : Hid (Below w.heap.size w W0 /\ W0.heap.size = w.heap.size + 4 /\ W0.heap[w.heap.size + 1 + 1 + 1]? = some (.cells #[.int .i64 0, .int .i64 0, .int .i64 0, .int .i64 0] 55 (0, 0))) := ⟨c, Y, O⟩
 have hz := hash_size hh
 have ak : (Tryz.prog.info? 23).map (·.size) = some (ad.map encB).length := by rw [size80]; simp [had]
 have al : (Tryz.prog.info? 34).map (·.size) = some (sl.map encB).length := by rw [size51]; simp [hsl]
 obtain ⟨m1, V⟩ : ∃ m, l1.length = m := ⟨_, rfl⟩
 obtain ⟨m2, X⟩ : ∃ m, l2.length = m := ⟨_, rfl⟩
 rw [V, X] at R ⊢
 have ah := Tryz.underlying44
 have ai := Tryz.underlying23
 have ag := Tryz.underlying34
 clear hE hTy hTl hh hhb had hsl hr1 hr2 hl1 hl2 hq c Y O V X
 rw [S, s, t] at R ⊢
 go_enter Tryz.func16, Tryz.ntmps16
 go_upto_region 1 with fail
 clear f
 rw [<- S, <- s, <- t] at R
 clear S s t
 go_wp2_with (first | (refine wpList_load_mid rfl 44 _ rfl w.heap.size 0 rfl (h.map encB) _ ac ah rfl hz ?_) | (refine wpList_load_mid rfl 23 _ rfl (w.heap.size + 1) 0 rfl (ad.map encB) _ T ai rfl ak ?_) | (refine wpList_load_mid rfl 34 _ rfl (w.heap.size + 1 + 1) 0 rfl (sl.map encB) _ U ag rfl al ?_))
 refine R.out.mono ?_
 rintro e Q ⟨rfl, g⟩
 rcases q with a | o
 ·obtain ⟨et, ev, L⟩ := a.shape sent
  have G := HT.out Q g a (HS.out a rfl)
  rw [L] at G
  have aj := Hid.hide G
  have d : Hid (Below w.heap.size w Q /\ Q.heap[w.heap.size + 1 + 1 + 1]? = some (.cells #[.int .i64 0, .int .i64 0, .int .i64 0, .int .i64 0] 55 (0, 0))) := ⟨y.out.1.behind' g, (g.block _ (by have := y.out.2.1; omega)).trans y.out.2.2⟩
  have l : verErr sent (.error a) = .iface et ev := L
  have Z : verStr (.error a) = ⟨#[]⟩ := rfl
  have aa : verHas (.error a) = false := rfl
  rw [l, Z, aa]
  clear l Z aa L G g
  go_wp2_with fail
  refine aj.out.mono ?_
  rintro e b ⟨rfl, i⟩
  have r : b.heap[w.heap.size + 1 + 1 + 1]? = some (.cells #[.int .i64 0, .int .i64 0, .int .i64 0, .int .i64 0] 55 (0, 0)) := (i.block _ (Array.getElem?_eq_some_iff.1 d.out.2).1).trans d.out.2
  have ae : w.heap.size + 1 + 1 + 1 < b.heap.size := (Array.getElem?_eq_some_iff.1 r).1
  obtain ⟨c0, c1, c2, c3, f0, f1, f2, f3⟩ := fault_cells r
  have E : Hid (Below w.heap.size w b) := d.out.1.behind' i
  obtain ⟨C, J⟩ : ∃ x, a.num = x := ⟨_, rfl⟩
  obtain ⟨D, K⟩ : ∃ x, a.proof = x := ⟨_, rfl⟩
  obtain ⟨B, I⟩ : ∃ x, a.node = x := ⟨_, rfl⟩
  obtain ⟨z, H⟩ : ∃ x, a.at_ = x := ⟨_, rfl⟩
  have n : Hid (C = a.num /\ D = a.proof /\ B = a.node /\ z = a.at_) := ⟨J.symm, K.symm, I.symm, H.symm⟩
  rw [J, K, I, H]
  clear J K I H
  clear i
  go_wp2
  have F : ((((b.setCell ⟨w.heap.size + 1 + 1 + 1, 0, none⟩ (.int .i64 (C : Int))).setCell ⟨w.heap.size + 1 + 1 + 1, 1, none⟩ (.int .i64 (D : Int))).setCell ⟨w.heap.size + 1 + 1 + 1, 2, none⟩ (.int .i64 (B : Int))).setCell ⟨w.heap.size + 1 + 1 + 1, 3, none⟩ (.int .i64 (z : Int))).heap[w.heap.size + 1 + 1 + 1]? = some (.cells #[.int .i64 (C : Int), .int .i64 (D : Int), .int .i64 (B : Int), .int .i64 (z : Int)] 55 (0, 0)) := heap_setCell_list (heap_setCell_list (heap_setCell_list (heap_setCell_list (cs := [.int .i64 0, .int .i64 0, .int .i64 0, .int .i64 0]) r 0 _) 1 _) 2 _) 3 _
  have k : Below w.heap.size w ((((b.setCell ⟨w.heap.size + 1 + 1 + 1, 0, none⟩ (.int .i64 (C : Int))).setCell ⟨w.heap.size + 1 + 1 + 1, 1, none⟩ (.int .i64 (D : Int))).setCell ⟨w.heap.size + 1 + 1 + 1, 2, none⟩ (.int .i64 (B : Int))).setCell ⟨w.heap.size + 1 + 1 + 1, 3, none⟩ (.int .i64 (z : Int))) := (((E.out.setCell (p := ⟨w.heap.size + 1 + 1 + 1, 0, none⟩) (by simp <;> omega) _).setCell (p := ⟨w.heap.size + 1 + 1 + 1, 1, none⟩) (by simp <;> omega) _).setCell (p := ⟨w.heap.size + 1 + 1 + 1, 2, none⟩) (by simp <;> omega) _).setCell (p := ⟨w.heap.size + 1 + 1 + 1, 3, none⟩) (by simp <;> omega) _
  generalize ((((b.setCell ⟨w.heap.size + 1 + 1 + 1, 0, none⟩ (.int .i64 (C : Int))).setCell ⟨w.heap.size + 1 + 1 + 1, 1, none⟩ (.int .i64 (D : Int))).setCell ⟨w.heap.size + 1 + 1 + 1, 2, none⟩ (.int .i64 (B : Int))).setCell ⟨w.heap.size + 1 + 1 + 1, 3, none⟩ (.int .i64 (z : Int))) = w3 at F k ⊢
  obtain ⟨d0, d1, d2, d3, -⟩ := fault_cells F
  refine bodyPost_ret (v := .tuple #[.string ⟨#[]⟩, .bool false, faultV C D B z]) (by simp [results, Tryz.results16, go_sem, d0, d1, d2, d3]) rfl ⟨by rw [n.out.1, n.out.2.1, n.out.2.2.1, n.out.2.2.2]; rfl, k⟩
 ·have d : Hid (Below w.heap.size w Q /\ Q.heap[w.heap.size + 1 + 1 + 1]? = some (.cells #[.int .i64 0, .int .i64 0, .int .i64 0, .int .i64 0] 55 (0, 0))) := ⟨y.out.1.behind' g, (g.block _ (by have := y.out.2.1; omega)).trans y.out.2.2⟩
  obtain ⟨os, N⟩ : ∃ os, verStr (.ok o) = os := ⟨_, rfl⟩
  obtain ⟨ob, M⟩ : ∃ ob, verHas (.ok o) = ob := ⟨_, rfl⟩
  have l : verErr sent (.ok o) = .nilIface := rfl
  have n : Hid (verStr (.ok o) = os /\ verHas (.ok o) = ob) := ⟨N, M⟩
  rw [N, M, l]
  clear g N M l
  go_wp2_with fail
  refine (tell_nil _).mono ?_
  rintro e b ⟨rfl, i⟩
  have r : b.heap[w.heap.size + 1 + 1 + 1]? = some (.cells #[.int .i64 0, .int .i64 0, .int .i64 0, .int .i64 0] 55 (0, 0)) := (i.block _ (Array.getElem?_eq_some_iff.1 d.out.2).1).trans d.out.2
  have ae : w.heap.size + 1 + 1 + 1 < b.heap.size := (Array.getElem?_eq_some_iff.1 r).1
  obtain ⟨c0, c1, c2, c3, f0, f1, f2, f3⟩ := fault_cells r
  have E : Hid (Below w.heap.size w b) := d.out.1.behind' i
  clear i
  go_wp2
  have F : ((((b.setCell ⟨w.heap.size + 1 + 1 + 1, 0, none⟩ (.int .i64 ((0 : Nat) : Int))).setCell ⟨w.heap.size + 1 + 1 + 1, 1, none⟩ (.int .i64 ((0 : Nat) : Int))).setCell ⟨w.heap.size + 1 + 1 + 1, 2, none⟩ (.int .i64 ((0 : Nat) : Int))).setCell ⟨w.heap.size + 1 + 1 + 1, 3, none⟩ (.int .i64 ((0 : Nat) : Int))).heap[w.heap.size + 1 + 1 + 1]? = some (.cells #[.int .i64 ((0 : Nat) : Int), .int .i64 ((0 : Nat) : Int), .int .i64 ((0 : Nat) : Int), .int .i64 ((0 : Nat) : Int)] 55 (0, 0)) := heap_setCell_list (heap_setCell_list (heap_setCell_list (heap_setCell_list (cs := [.int .i64 0, .int .i64 0, .int .i64 0, .int .i64 0]) r 0 _) 1 _) 2 _) 3 _
  have k : Below w.heap.size w ((((b.setCell ⟨w.heap.size + 1 + 1 + 1, 0, none⟩ (.int .i64 ((0 : Nat) : Int))).setCell ⟨w.heap.size + 1 + 1 + 1, 1, none⟩ (.int .i64 ((0 : Nat) : Int))).setCell ⟨w.heap.size + 1 + 1 + 1, 2, none⟩ (.int .i64 ((0 : Nat) : Int))).setCell ⟨w.heap.size + 1 + 1 + 1, 3, none⟩ (.int .i64 ((0 : Nat) : Int))) := (((E.out.setCell (p := ⟨w.heap.size + 1 + 1 + 1, 0, none⟩) (by simp <;> omega) _).setCell (p := ⟨w.heap.size + 1 + 1 + 1, 1, none⟩) (by simp <;> omega) _).setCell (p := ⟨w.heap.size + 1 + 1 + 1, 2, none⟩) (by simp <;> omega) _).setCell (p := ⟨w.heap.size + 1 + 1 + 1, 3, none⟩) (by simp <;> omega) _
  generalize ((((b.setCell ⟨w.heap.size + 1 + 1 + 1, 0, none⟩ (.int .i64 ((0 : Nat) : Int))).setCell ⟨w.heap.size + 1 + 1 + 1, 1, none⟩ (.int .i64 ((0 : Nat) : Int))).setCell ⟨w.heap.size + 1 + 1 + 1, 2, none⟩ (.int .i64 ((0 : Nat) : Int))).setCell ⟨w.heap.size + 1 + 1 + 1, 3, none⟩ (.int .i64 ((0 : Nat) : Int))) = w3 at F k ⊢
  obtain ⟨d0, d1, d2, d3, -⟩ := fault_cells F
  refine bodyPost_ret (v := .tuple #[.string os, .bool ob, faultV 0 0 0 0]) (by simp [results, Tryz.results16, go_sem, d0, d1, d2, d3]) rfl ⟨by rw [n.out.1, n.out.2]; rfl, k⟩
theorem Kn.keep2 {w w' : World} {C : Nat} {ks vs : Value} {m : Mp} (h : Kn w C ks vs m) (hs : w.heap.size <= w'.heap.size) (hb : ∀ j, ks.ownBlock = some j \/ vs.ownBlock = some j -> w'.heap[j]? = w.heap[j]?) : Kn w' C ks vs m :=
 ⟨h.keys.keep hs fun j _ e => hb j (.inl e), h.vals.keep hs fun j _ e => hb j (.inr e), h.ok, h.apart⟩
def Wood.join (N : Nat) (S T : Wood) : Wood := fun k => if k < N then S k else T k
theorem FrX.join {B : Nat} {S T : Wood} {w w' : World} (hf : Forest B S w) (h : FrX w.heap.size (fun _ => False) (fun _ => none) T w w') : FrX B (fun _ => False) S (Wood.join w.heap.size S T) w w' := by
 have j : ∀ k t, S k = some t -> Wood.join w.heap.size S T k = some t := fun k t d => by rw [Wood.join, if_pos (hf.lt d)]; exact d
 have l : ∀ k t, T k = some t -> Wood.join w.heap.size S T k = some t := fun k t d => by rw [Wood.join, if_neg (by have := h.forest.low k t d; omega)]; exact d
 refine ⟨h.os, h.tape, h.output, h.size, fun k d _ n => h.other k d rfl n, ⟨fun b t c => ?_, fun b t c => ?_, fun b t c => ?_, Nat.le_trans hf.le h.size⟩, j, fun k d m => by rw [Wood.join, if_pos d]; exact m⟩
 ·by_cases a : b < w.heap.size
  ·rw [Wood.join, if_pos a] at c
   obtain ⟨g, r, e, f, i⟩ := hf.node b t c
   exact ⟨g, r, e, NdRest.sub j f, (h.other b a rfl fun h => h).trans i⟩
  ·rw [Wood.join, if_neg a] at c
   obtain ⟨g, r, e, f, i⟩ := h.forest.node b t c
   exact ⟨g, r, e, NdRest.sub l f, i⟩
 ·by_cases a : b < w.heap.size
  ·rw [Wood.join, if_pos a] at c
   exact hf.ok b t c
  ·rw [Wood.join, if_neg a] at c
   exact h.forest.ok b t c
 ·by_cases a : b < w.heap.size
  ·rw [Wood.join, if_pos a] at c
   exact hf.low b t c
  ·have := hf.le
   omega
theorem Tells.join {S T : Wood} {w w' : World} {b : Nat} {g : List Nat -> Option ByteArray} (h : FrX w.heap.size (fun _ => False) (fun _ => none) T w w') (hb : w.heap.size <= b) (ht : Tells T w' b g) : Tells (Wood.join w.heap.size S T) w' b g := by
 obtain ⟨t, ⟨c, v, d, e⟩, i, j⟩ := ht.ex
 have f : ∀ k t, T k = some t -> Wood.join w.heap.size S T k = some t := fun k t a => by rw [Wood.join, if_neg (by have := h.forest.low k t a; omega)]; exact a
 exact ⟨t, ⟨by rw [Wood.join, if_neg (by omega)]; exact c, v, ndV.sub f d, e⟩, i, j⟩
theorem named_l {w : World} (l : List Nat) (hl : l.length = 20) (hT : Tabs w) (hM : 15 <= w.heap.size) :
  Calls Tryz.prog 10 #[.agg (l.map encB).toArray] w fun e w' => e = .returned (.agg ((digB l).map encB).toArray) /\ Below w.heap.size w w' := by
 have h := named_any l.toArray (by simpa using hl) hT hM
 dsimp only at h
 exact h
theorem hashed_l {w : World} (l : List Nat) (hl : l.length = 32) (hT : Tabs w) (hM : 15 <= w.heap.size) :
  Calls Tryz.prog 6 #[.agg (l.map encB).toArray] w fun e w' => e = .returned (.agg ((digB l).map encB).toArray) /\ Below w.heap.size w w' := by
 have h := hashed_any l.toArray (by simpa using hl) hT hM
 dsimp only at h
 exact h
theorem laid_keyl (w : World) (l : List Nat) (hl : l.length = 32) :
  (w.alloc (.cells z32 34)).there w.heap.size 0 (l.map encB).toArray.size /\ (Tryz.prog.info? 34).map (·.size) = some (l.map encB).toArray.size /\ (Tryz.prog.info? 34).map (·.size) = some (l.map encB).length /\ (l.map encB).toArray.all (·.oneCell') = true /\
  Below w.heap.size w ((w.alloc (.cells z32 34)).setCells w.heap.size 0 (l.map encB)) /\ ((w.alloc (.cells z32 34)).setCells w.heap.size 0 (l.map encB)).rangeAt w.heap.size 0 (l.map encB) /\
  w.heap.size < ((w.alloc (.cells z32 34)).setCells w.heap.size 0 (l.map encB)).heap.size := by
 have h := laid_key w l.toArray (by simpa using hl)
 dsimp only at h
 exact h
theorem laid_feed (w : World) (s : ByteArray) : FeedAt (w.alloc (.cells #[.string s, .int .i64 0] 31)) w.heap.size s :=
 ⟨by simp, by rw [World.cell?_alloc_new]; rfl, ⟨0, by rw [World.cell?_alloc_new]; rfl, Nat.zero_le _⟩, World.frozen?_alloc_new _ _ _ _⟩
def intOf : Value -> Int
 | .int _ z => z
 | _ => 0
@[simp, go_sem] theorem intOf_int (k : IntKind) (z : Int) : intOf (.int k z) = z := rfl
def slotL (a b : Nat) : List Nat := [a, b, 0, 0, 0, 0, 0, 0, 0, 0, 0, 0, 0, 0, 0, 0, 0, 0, 0, 0, 0, 0, 0, 0, 0, 0, 0, 0, 0, 0, 0, 0]
def Dn7 (d0 d1 d2 d3 d4 d5 : Bool) : Prop := (d4 = true -> d0 = true /\ d1 = true /\ d3 = true) /\ (d3 = true -> d2 = true) /\ (d5 = true -> d4 = true)
instance (d0 d1 d2 d3 d4 d5 : Bool) : Decidable (Dn7 d0 d1 d2 d3 d4 d5) := by unfold Dn7; infer_instance
theorem dn0 : ∀ {d0 d1 d2 d3 d4 d5 : Bool}, Dn7 d0 d1 d2 d3 d4 d5 -> d0 = false -> d5 = false /\ Dn7 true d1 d2 d3 d4 d5 := by decide
theorem dn1 : ∀ {d0 d1 d2 d3 d4 d5 : Bool}, Dn7 d0 d1 d2 d3 d4 d5 -> d1 = false -> d5 = false /\ Dn7 d0 true d2 d3 d4 d5 := by decide
theorem dn2 : ∀ {d0 d1 d2 d3 d4 d5 : Bool}, Dn7 d0 d1 d2 d3 d4 d5 -> d2 = false -> d5 = false /\ Dn7 d0 d1 true d3 d4 d5 := by decide
theorem dn3 : ∀ {d0 d1 d2 d3 d4 d5 : Bool}, Dn7 d0 d1 d2 d3 d4 d5 -> d3 = false -> d2 = true -> (d5 = false /\ d4 = false) /\ Dn7 d0 d1 d2 true d4 d5 := by decide
theorem dn4 : ∀ {d0 d1 d2 d3 d4 d5 : Bool}, Dn7 d0 d1 d2 d3 d4 d5 -> d4 = false -> d0 = true -> d1 = true -> d3 = true -> d5 = false /\ Dn7 d0 d1 d2 d3 true d5 := by decide
theorem dn5 : ∀ {d0 d1 d2 d3 d4 d5 : Bool}, Dn7 d0 d1 d2 d3 d4 d5 -> d4 = true -> Dn7 d0 d1 d2 d3 d4 true := by decide
structure X7 (P0 : World -> Prop) (P4 : Value -> World -> Prop) (P5 : World -> Prop) (d3 d4 d5 : Bool) (v3 v4 : Value) (w' : World) : Prop where
 old : d5 = false -> P0 w'
 str : d3 = true -> ∃ u : ByteArray, v3 = .string u /\ 0 < u.size /\ u.size <= 100
 kn : d4 = true -> d5 = false -> P4 v4 w'
 fin : d5 = true -> P5 w'
theorem box_cells {w : World} {n : Nat} {x y : Value} (h : w.heap[n]? = some (.cells #[x, y] 27 (0, 0))) : w.cell? ⟨n, 0, none⟩ = some x /\ w.cell? ⟨n, 1, none⟩ = some y /\ w.frozen? ⟨n, 0, none⟩ = false /\ w.frozen? ⟨n, 1, none⟩ = false := by
 refine ⟨?_, ?_, ?_, ?_⟩ <;> simp [World.cell?, World.frozen?, h]
theorem box_set {w : World} {n : Nat} {x y : Value} (h : w.heap[n]? = some (.cells #[x, y] 27 (0, 0))) (x' y' : Value) : ((w.setCell ⟨n, 0, none⟩ x').setCell ⟨n, 1, none⟩ y').heap[n]? = some (.cells #[x', y'] 27 (0, 0)) /\ Only n w ((w.setCell ⟨n, 0, none⟩ x').setCell ⟨n, 1, none⟩ y') :=
 ⟨heap_setCell_list (heap_setCell_list (cs := [x, y]) h 0 _) 1 _, ⟨rfl, rfl, rfl, by simp, fun k _ hne => (Below.heap_setCell _ _ _ _ hne).trans (Below.heap_setCell _ _ _ _ hne)⟩⟩
theorem list_fn {l : List Nat} {n : Nat} (h : l.length = n) : ∃ f : Fin n -> Nat, l = List.ofFn f := by
 subst h
 exact ⟨fun i => l[i], by simp⟩
theorem FeedAt.fr {B : Nat} {S S' : Wood} {w w' : World} {fb : Nat} {raw : ByteArray} (h : FeedAt w fb raw) (hr : FrX B (fun _ => False) S S' w w') (hn : S fb = none) : FeedAt w' fb raw := h.keep (hr.other fb h.lt hn fun h => h) hr.size
theorem forest_only {B : Nat} {S : Wood} {w w' : World} {g : Nat} (hf : Forest B S w) (ho : Only g w w') (hg : S g = none) : Forest B S w' := hf.keep ho.size fun k t hk => ho.block k (hf.lt hk) (fun e => by rw [e, hg] at hk; cases hk)
theorem TreeAt.only {S : Wood} {w w' : World} {g b : Nat} {t : Nd} (h : TreeAt S w b t) (ho : Only g w w') (hne : b ≠ g) : TreeAt S w' b t := by
 have e := h.lt
 obtain ⟨a, v, c, d⟩ := h
 exact ⟨a, v, c, (ho.block b e hne).trans d⟩
theorem textCode_small {t : List Nat} (h : t.length <= 55) : (textCode t).length <= t.length + 1 := by
 have a : (headB 128 t.length).length = 1 := by rw [headB, if_pos h]; rfl
 unfold textCode
 rw [List.length_append]
 split
 ·simp
 ·omega
theorem headB_sm : ∀ n, n < 100 -> (headB 192 n).length <= 2 := by decide
theorem acc_small {a : Acc} (ha : a.ok) : 0 < (encAcc a).length /\ (encAcc a).length <= 100 := by
 have d := textCode_small (t := bigE a.nonce) (by have := bigE_length a.nonce; omega)
 have e := textCode_small (t := bigE a.bal) (by have := bigE_length a.bal; omega)
 have f := textCode_small (t := a.root) (by have := ha.2.2.1; omega)
 have g := textCode_small (t := a.code) (by have := ha.2.2.2.1; omega)
 have b := bigE_length a.nonce
 have c := bigE_length a.bal
 have k := ha.2.2.1
 have l := ha.2.2.2.1
 have j : (accTexts a).length <= 84 := by
  unfold accTexts
  simp only [List.length_append]
  omega
 have i : 0 < (accTexts a).length := by
  have := (textCode_pos a.root).2
  unfold accTexts
  simp only [List.length_append]
  omega
 have h := headB_sm (accTexts a).length (by omega)
 unfold encAcc listCode
 rw [List.length_append]
 omega
structure X12 (P0 : World -> Prop) (P4 : Value -> World -> Prop) (P5 : World -> Prop) (d5 d6 : Bool) (v5 : Value) (w' : World) : Prop where
 old : d6 = false -> P0 w'
 kn : d5 = true -> d6 = false -> P4 v5 w'
 fin : d6 = true -> P5 w'
theorem bare_textL {y : It} {t : List Nat} (h : y.bare = .text 0 0 t) : y.isList = false /\ y.txt = t := by
 cases y with
 | text a b u =>
  rw [It.bare] at h
  injection h with _ _ h
  exact ⟨rfl, h⟩
 | list a b l => rw [It.bare] at h; cases h
theorem numIt_of {y : It} {n : Nat} (hn : n < 18446744073709551616) (h : y.bare = .text 0 0 (bigE n)) : numIt y /\ numB y.txt = n := by
 obtain ⟨e, c⟩ := bare_textL h
 refine ⟨⟨e, ?_⟩, by rw [c]; exact numB_bigE hn⟩
 rw [c]
 refine ⟨bigE_le n, ?_⟩
 rintro ⟨a, b⟩
 have d := bigE_first hn
 cases hb : bigE n with
 | nil => rw [hb] at a; simp at a
 | cons x r =>
  rw [hb] at b d
  have f : x = 0 := by simpa using b
  subst f
  exact d (by simp) rfl
theorem accF_full {a : Acc} (ha : a.ok) : accF (encAcc a) = .ok a := by
 obtain ⟨x, z, A, B, O, P⟩ := ha
 have l : fits 6 (.list 0 0 [.text 0 0 (bigE a.nonce), .text 0 0 (bigE a.bal), .text 0 0 a.root, .text 0 0 a.code]) := by
  intro y m
  simp only [List.mem_cons, List.not_mem_nil, or_false] at m
  rcases m with rfl | rfl | rfl | rfl <;> trivial
 have i : (It.list 0 0 [.text 0 0 (bigE a.nonce), .text 0 0 (bigE a.bal), .text 0 0 a.root, .text 0 0 a.code]).code = encAcc a := by
  rw [It.code]
  simp only [codes, It.code]
  unfold encAcc accTexts
  simp only [List.append_assoc, List.append_nil]
 have k : (encAcc a).length <= 2048 := by
  unfold encAcc listCode accTexts
  have J := textCode_length (bigE a.nonce)
  have R := textCode_length (bigE a.bal)
  have S := textCode_length a.root
  have T := textCode_length a.code
  have M := bigE_le a.nonce
  have N := bigE_le a.bal
  have C := headB_length 192 (textCode (bigE a.nonce) ++ textCode (bigE a.bal) ++ textCode a.root ++ textCode a.code).length
  simp only [List.length_append] at C ⊢
  omega
 obtain ⟨y, j, c⟩ := decF_full l (by rw [i]; exact k)
 rw [i] at j
 clear l i k
 obtain ⟨Q, f⟩ : ∃ t, bigE a.nonce = t := ⟨_, rfl⟩
 obtain ⟨J, g⟩ : ∃ t, bigE a.bal = t := ⟨_, rfl⟩
 rw [f, g] at c
 unfold accF
 rw [j]
 simp only
 clear j
 cases y with
 | text p q t => rw [It.bare, It.bare] at c; cases c
 | list p q its =>
  rw [It.bare, It.bare] at c
  injection c with _ _ c
  rw [bares_map, bares_map] at c
  simp only [List.map_cons, List.map_nil, It.bare] at c
  have b := congrArg List.length c
  simp only [List.length_map, List.length_cons, List.length_nil] at b
  obtain ⟨d, e, y2, y3, rfl⟩ : ∃ d e y2 y3, its = [d, e, y2, y3] := by
   rcases its with _ | ⟨d, _ | ⟨e, _ | ⟨y2, _ | ⟨y3, _ | ⟨y4, r⟩⟩⟩⟩⟩
   ·simp at b
   ·simp at b
   ·simp at b
   ·simp at b
   ·exact ⟨d, e, y2, y3, rfl⟩
   ·simp at b
  simp only [List.map_cons, List.map_nil, List.cons.injEq, and_true] at c
  obtain ⟨s, u, v, w⟩ := c
  obtain ⟨H, K⟩ := numIt_of x (s.trans (by rw [f]))
  obtain ⟨I, L⟩ := numIt_of z (u.trans (by rw [g]))
  obtain ⟨F, n⟩ := bare_textL v
  obtain ⟨G, o⟩ := bare_textL w
  have D : hashIt y2 := ⟨F, by rw [n]; exact A⟩
  have E : hashIt y3 := ⟨G, by rw [o]; exact B⟩
  show readAcc d e y2 y3 = _
  unfold readAcc
  rw [if_neg (fun h => h H), if_neg (fun h => h I), if_neg (fun h => h D), if_neg (fun h => h E), K, L, n, o]
theorem xprove_row {B : Nat} {S : Wood} {w : World} {b : Nat} {t : Nd} {K : Array Nat} (hf : Forest B S w) (hTb : Tabs w) (hM : 15 <= B) (ht : TreeAt S w b t) (hc : t.can 64) (hK : K.size = 32) (hKb : Bytes K) {L : List (List Nat)} (hL : t.prove (textB (nibs K.toList)) = L) :
  Calls Tryz.prog 14 #[.pointer (some ⟨b, 0, none⟩), .agg (K.toList.map encB).toArray] w fun x w' => ∃ p c, x = .returned (.tuple #[.slice p L.length c, .int .i64 0]) /\ Fr B S S w w' /\ StrRow w' p (L.map textB) c /\ ∀ a, p = some a -> w.heap.size <= a.block /\ a.block < w'.heap.size := by
 refine (xprove_any hf hTb hM ht hc hK hKb hL).mono ?_
 rintro e w' ⟨l, rfl, h, f⟩
 obtain ⟨p, c, rfl, k, j⟩ := strRow_of f
 refine ⟨p, c, rfl, h, k, fun a d => ?_⟩
 obtain ⟨g, i⟩ := j (by rw [d]; rfl)
 rw [d] at i
 obtain rfl := Option.some.inj i
 exact f.block g (by rw [d]; rfl)
theorem xprove_l {B : Nat} {S : Wood} {w : World} {b : Nat} {t : Nd} {D : List Nat} (hf : Forest B S w) (hTb : Tabs w) (hM : 15 <= B) (ht : TreeAt S w b t) (hc : t.can 64) (hK : D.toArray.size = 32) (hKb : Bytes D.toArray) {L : List (List Nat)} (hL : t.prove (textB (nibs D)) = L) :
  Calls Tryz.prog 14 #[.pointer (some ⟨b, 0, none⟩), .agg (D.map encB).toArray] w fun x w' => ∃ p c, x = .returned (.tuple #[.slice p L.length c, .int .i64 0]) /\ Fr B S S w w' /\ StrRow w' p (L.map textB) c /\ ∀ a, p = some a -> w.heap.size <= a.block /\ a.block < w'.heap.size := by
 have h := xprove_row hf hTb hM ht hc hK hKb (L := L) hL
 exact h
theorem answered_l {w : World} {C : Nat} {ks vs : Value} {m : Mp} {D : List Nat} (hk : Kn w C ks vs m) (hm : m.length <= 1000) (hd : (m.map pth).Nodup) (hK : D.toArray.size = 32) (hKb : Bytes D.toArray) (s : ByteArray) (f : Bool) {o : Option ByteArray} (ho : getN m (nibs D) = o) :
  Calls Tryz.prog 17 #[.agg #[ks, vs], .agg (D.map encB).toArray, .string s, .bool f] w fun e w' => e = .returned (.bool (ansB o s f)) /\ Below w.heap.size w w' := by
 have h := answered_any hk hm hd hK hKb s f (o := o) ho
 exact h
theorem StrRow.keep {w w' : World} {p : Option Addr} {l : List ByteArray} {c : Nat} (h : StrRow w p l c) (hs : w.heap.size <= w'.heap.size) (hn : ∀ a, p = some a -> a.block < w.heap.size -> w'.heap[a.block]? = w.heap[a.block]?) : StrRow w' p l c := by
 rcases h with h | ⟨g, o, rfl, e2, e3, e4⟩
 ·exact .inl h
 ·refine .inr ⟨g, o, rfl, e2, fun h => Nat.lt_of_lt_of_le (e3 h) hs, fun j u b => ?_⟩
  have d : 0 < l.length := by
   have := (List.getElem?_eq_some_iff.1 b).1
   simp at this
   omega
  rw [World.cell?_of_block (a := ⟨g, o + j, none⟩) (hn ⟨g, o, none⟩ rfl (e3 d))]
  exact e4 j u b
structure StKit (P : World -> Prop) (F : Nat -> Prop) (B : Nat) (J : Wood) : Prop where
 more : ∀ W W', P W -> Below W.heap.size W W' -> P W'
 fr : ∀ W W', P W -> Fr B J J W W' -> P W'
 set : ∀ W W' f, P W -> F f -> Only f W W' -> P W'
 wood : ∀ k, F k -> J k = none
 fresh : ∀ W k, P W -> W.heap.size <= k -> F k
structure FtY (P : World -> Prop) (F : Nat -> Prop) (y0 y1 y2 y3 : Value) (b5 : Bool) (v5 : Value) (b11 : Bool) (v11 : Value) (b14 : Bool) (W : World) : Prop where
 all : P W
 row : b5 = true -> ∃ g, v5 = .slice (some ⟨g, 0, none⟩) 1 1 /\ F g /\ g < W.heap.size /\ StrRow W (some ⟨g, 0, none⟩) [⟨#[120]⟩] 1 /\ (b11 = true -> v11 ≠ .pointer (some ⟨g, 0, none⟩))
 ft : b11 = true -> ∃ f x0 x1 x2 x3, v11 = .pointer (some ⟨f, 0, none⟩) /\ F f /\ W.heap[f]? = some (.cells #[x0, x1, x2, x3] 55 (0, 0)) /\ (b14 = true -> x0 = y0 /\ x1 = y1 /\ x2 = y2 /\ x3 = y3)
 ft14 : b14 = true -> b11 = true
theorem FtY.fr {P : World -> Prop} {F : Nat -> Prop} {B : Nat} {J : Wood} {y0 y1 y2 y3 : Value} {b5 : Bool} {v5 : Value} {b11 : Bool} {v11 : Value} {b14 : Bool} {W W' : World} (k : StKit P F B J) (h : FtY P F y0 y1 y2 y3 b5 v5 b11 v11 b14 W) (hf : Fr B J J W W') : FtY P F y0 y1 y2 y3 b5 v5 b11 v11 b14 W' :=
 ⟨k.fr _ _ h.all hf, fun q => by
   obtain ⟨g, e1, e2, e3, e4, e5⟩ := h.row q
   exact ⟨g, e1, e2, Nat.lt_of_lt_of_le e3 hf.size, e4.frame hf fun a ha => by obtain rfl := Option.some.inj ha; exact k.wood g e2, e5⟩,
  fun q => by
   obtain ⟨f, x0, x1, x2, x3, e1, e2, e3, e4⟩ := h.ft q
   exact ⟨f, x0, x1, x2, x3, e1, e2, (hf.other f (Array.getElem?_eq_some_iff.1 e3).1 (k.wood f e2)).trans e3, e4⟩, h.ft14⟩
theorem FtY.more {P : World -> Prop} {F : Nat -> Prop} {B : Nat} {J : Wood} {y0 y1 y2 y3 : Value} {b5 : Bool} {v5 : Value} {b11 : Bool} {v11 : Value} {b14 : Bool} {W W' : World} (k : StKit P F B J) (h : FtY P F y0 y1 y2 y3 b5 v5 b11 v11 b14 W) (hf : Below W.heap.size W W') : FtY P F y0 y1 y2 y3 b5 v5 b11 v11 b14 W' :=
 ⟨k.more _ _ h.all hf, fun q => by
   obtain ⟨g, e1, e2, e3, e4, e5⟩ := h.row q
   exact ⟨g, e1, e2, Nat.lt_of_lt_of_le e3 hf.size, e4.below hf, e5⟩,
  fun q => by
   obtain ⟨f, x0, x1, x2, x3, e1, e2, e3, e4⟩ := h.ft q
   exact ⟨f, x0, x1, x2, x3, e1, e2, (hf.block f (Array.getElem?_eq_some_iff.1 e3).1).trans e3, e4⟩, h.ft14⟩
theorem FtY.alloc {P : World -> Prop} {F : Nat -> Prop} {B : Nat} {J : Wood} {y0 y1 y2 y3 : Value} {b5 : Bool} {v5 : Value} {b11 : Bool} {v11 : Value} {b14 : Bool} {W : World} (k : StKit P F B J) (h : FtY P F y0 y1 y2 y3 b5 v5 b11 v11 b14 W) (h14 : b14 = false) : FtY P F y0 y1 y2 y3 b5 v5 true (.pointer (some ⟨W.heap.size, 0, none⟩)) b14 (W.alloc (.cells #[.int .i64 0, .int .i64 0, .int .i64 0, .int .i64 0] 55)) := by
 have c := h.more k ((Below.refl W.heap.size W).alloc (Nat.le_refl _) (.cells #[.int .i64 0, .int .i64 0, .int .i64 0, .int .i64 0] 55))
 refine ⟨c.all, fun q => ?_, fun _ => ⟨W.heap.size, _, _, _, _, rfl, k.fresh _ _ h.all (Nat.le_refl _), Array.getElem?_push_size, fun q => (by rw [h14] at q; cases q)⟩, fun _ => rfl⟩
 obtain ⟨g, b, d, f, i, l⟩ := c.row q
 obtain ⟨m, a, _, j, _⟩ := h.row q
 refine ⟨g, b, d, f, i, fun _ e => ?_⟩
 rw [b] at a
 simp only [Value.slice.injEq, Option.some.injEq, Addr.mk.injEq, and_true] at a
 simp only [Value.pointer.injEq, Option.some.injEq, Addr.mk.injEq, and_true] at e
 omega
theorem FtY.set {P : World -> Prop} {F : Nat -> Prop} {B : Nat} {J : Wood} {y0 y1 y2 y3 : Value} {b5 : Bool} {v5 : Value} {b14 : Bool} {W : World} {f : Nat} (k : StKit P F B J) (h : FtY P F y0 y1 y2 y3 b5 v5 true (.pointer (some ⟨f, 0, none⟩)) b14 W) : FtY P F y0 y1 y2 y3 b5 v5 true (.pointer (some ⟨f, 0, none⟩)) true ((((W.setCell ⟨f, 0, none⟩ y0).setCell ⟨f, 1, none⟩ y1).setCell ⟨f, 2, none⟩ y2).setCell ⟨f, 3, none⟩ y3) := by
 obtain ⟨o, p, r, s, t, c, d, i, -⟩ := h.ft rfl
 simp only [Value.pointer.injEq, Option.some.injEq, Addr.mk.injEq, and_true] at c
 subst c
 have e : Only f W ((((W.setCell ⟨f, 0, none⟩ y0).setCell ⟨f, 1, none⟩ y1).setCell ⟨f, 2, none⟩ y2).setCell ⟨f, 3, none⟩ y3) := ⟨rfl, rfl, rfl, by simp, fun k _ b => (((Below.heap_setCell _ _ _ _ b).trans (Below.heap_setCell _ _ _ _ b)).trans (Below.heap_setCell _ _ _ _ b)).trans (Below.heap_setCell _ _ _ _ b)⟩
 refine ⟨k.set _ _ _ h.all d e, fun q => ?_, fun _ => ⟨f, y0, y1, y2, y3, rfl, d, fault_set i _ _ _ _, fun _ => ⟨rfl, rfl, rfl, rfl⟩⟩, fun _ => rfl⟩
 obtain ⟨g, c, d, i, l, j⟩ := h.row q
 exact ⟨g, c, d, Nat.lt_of_lt_of_le i e.size, l.keep e.size (fun a m n => e.block _ n (by obtain rfl := Option.some.inj m; rintro rfl; exact j rfl rfl)), j⟩
theorem FtY.put {P : World -> Prop} {F : Nat -> Prop} {B : Nat} {J : Wood} {y0 y1 y2 y3 : Value} {b5 : Bool} {v5 : Value} {b11 : Bool} {v11 : Value} {b14 : Bool} {W : World} {f : Nat} (k : StKit P F B J) (h : FtY P F y0 y1 y2 y3 b5 v5 b11 v11 b14 W) (hb : b11 = true) (hv : v11 = .pointer (some ⟨f, 0, none⟩)) : FtY P F y0 y1 y2 y3 b5 v5 b11 v11 true ((((W.setCell ⟨f, 0, none⟩ y0).setCell ⟨f, 1, none⟩ y1).setCell ⟨f, 2, none⟩ y2).setCell ⟨f, 3, none⟩ y3) := by
 subst hb hv
 exact h.set k
theorem FtY.start {P : World -> Prop} {F : Nat -> Prop} {y0 y1 y2 y3 : Value} {b5 : Bool} {v5 : Value} {b11 : Bool} {v11 : Value} {b14 : Bool} {W : World} (h : P W) (h5 : b5 = false) (h11 : b11 = false) (h14 : b14 = false) : FtY P F y0 y1 y2 y3 b5 v5 b11 v11 b14 W := by
 subst h5 h11 h14
 exact ⟨h, fun q => (by cases q), fun q => (by cases q), fun q => (by cases q)⟩
theorem FtY.fault {P : World -> Prop} {F : Nat -> Prop} {y0 y1 y2 y3 : Value} {b5 : Bool} {v5 v11 : Value} {W : World} (h : FtY P F y0 y1 y2 y3 b5 v5 true v11 true W) : ∃ f, v11 = .pointer (some ⟨f, 0, none⟩) /\ F f /\ W.heap[f]? = some (.cells #[y0, y1, y2, y3] 55 (0, 0)) := by
 obtain ⟨f, e, g, i, j, a, b, c, d⟩ := h.ft rfl
 obtain ⟨rfl, rfl, rfl, rfl⟩ := d rfl
 exact ⟨f, a, b, c⟩
theorem encAcc_byte {a : Acc} (ha : a.ok) : ∀ x ∈ encAcc a, x < 256 := by
 refine listCode_byte fun y b => ?_
 rw [accTexts] at b
 rcases List.mem_append.1 b with b | b
 ·rcases List.mem_append.1 b with b | b
  ·rcases List.mem_append.1 b with b | b
   ·exact textCode_byte (bigE_byte _) y b
   ·exact textCode_byte (bigE_byte _) y b
  ·exact textCode_byte ha.2.2.2.2.1 y b
 ·exact textCode_byte ha.2.2.2.2.2 y b
theorem getN_wi {m : Mp} (hd : (m.map (·.1)).Nodup) {K : Array Nat} (u : ByteArray) : getN (wiN m K u) (nibs K.toList) = some u := by
 have h := wi_dup hd K u
 have a : (K, u) ∈ wiN m K u := by rw [wiN]; simp
 exact getN_mem (pth_dup h) a
theorem prove_row_ok {t : Nd} {D : List Nat} (hc : t.can 64) (hK : D.toArray.size = 32) (hKb : Bytes D.toArray) {L : List (List Nat)} (hL : t.prove (textB (nibs D)) = L) : (∀ c ∈ L, ∀ y ∈ c, y < 256) /\ L.length <= 1000 := by
 have q := (key_path hK hKb).2.2
 dsimp only at q
 subst hL
 exact ⟨prove_byte (by rw [q]; exact hc) (by omega), Nat.le_trans (prove_len _ _) (by omega)⟩
theorem dig_ok {t : Nd} (hc : t.can 64) {D : List Nat} (hD : t.dig = D) : D.length = 32 /\ ∀ x ∈ D, x < 256 := by
 obtain ⟨a, _⟩ := t.can_ok 64 hc (Nat.le_refl _)
 subst hD
 exact ⟨t.dig_length a, dig_byte hc⟩
theorem stor_honest {tt ts : Nd} {ow sl : List Nat} {o : Mp} {a : Acc} {m : Mp} (hct : tt.can 64) (hcs : ts.can 64) (ha : a.ok) (hr : a.root = ts.dig) (hg : ∀ s, s.length = 64 -> tt.get s = getN (wiN o (digB ow).toArray (textB (encAcc a))) s) (hd : (o.map (·.1)).Nodup) (hgs : ∀ s, s.length = 64 -> ts.get s = getN m s) :
  storF tt.dig ow sl (tt.prove (textB (nibs (digB ow)))) (ts.prove (textB (nibs (digB sl)))) = .ok (getN m (nibs (digB sl))) := by
 obtain ⟨l, n⟩ := digB_key ow
 obtain ⟨b, h, d⟩ := key_path l n
 obtain ⟨p, q⟩ := digB_key sl
 obtain ⟨c, i, e⟩ := key_path p q
 dsimp only at b h d c i e
 have r : (nibs (digB ow)).length = 64 := by rw [<- b, bytesOf_length, d]
 have t : (nibs (digB sl)).length = 64 := by rw [<- c, bytesOf_length, e]
 have j := ver_honest hct d (by rw [b]; exact h)
 have k := ver_honest hcs e (by rw [c]; exact i)
 have f := getN_wi hd (K := (digB ow).toArray) (textB (encAcc a))
 dsimp only at f
 rw [b, hg _ r, f] at j
 rw [c, hgs _ t] at k
 have g : bytesOf (textB (encAcc a)) = encAcc a := bytes_textB (encAcc_byte ha)
 unfold storF
 rw [j]
 simp only [g, accF_full ha, hr, k]
 rfl
theorem stor_honest' {tt ts : Nd} {ow sl DO DS TD : List Nat} {o o' : Mp} {a : Acc} {m : Mp} {EA : ByteArray} {L1 L2 : List (List Nat)} {ov : Option ByteArray} (hct : tt.can 64) (hcs : ts.can 64) (ha : a.ok) (hr : ts.dig = a.root) (hDO : digB ow = DO) (hDS : digB sl = DS) (hEA : textB (encAcc a) = EA) (ho' : wiN o DO.toArray EA = o') (hg : ∀ s, s.length = 64 -> tt.get s = getN o' s) (hd : (o.map (·.1)).Nodup) (hgs : ∀ s, s.length = 64 -> ts.get s = getN m s) (hTD : tt.dig = TD) (hL1 : tt.prove (textB (nibs DO)) = L1) (hL2 : ts.prove (textB (nibs DS)) = L2) (hov : getN m (nibs DS) = ov) :
  storF TD ow sl L1 L2 = .ok ov := by
 subst hDO hDS hEA ho' hTD hL1 hL2 hov
 exact stor_honest hct hcs ha hr.symm hg hd hgs
theorem stor_nobody {tt : Nd} {nb sl : List Nat} {o : Mp} (hct : tt.can 64) (hg : ∀ s, s.length = 64 -> tt.get s = getN o s) (hn : findN o (digB nb).toArray = none) (L2 : List (List Nat)) :
  storF tt.dig nb sl (tt.prove (textB (nibs (digB nb)))) L2 = if L2 = [] then .ok none else .error (.inProof 2 (.inNode 0 (.base 4))) := by
 obtain ⟨f, g⟩ := digB_key nb
 obtain ⟨a, d, b⟩ := key_path f g
 dsimp only at a d b
 have h : (nibs (digB nb)).length = 64 := by rw [<- a, bytesOf_length, b]
 have e := ver_honest hct b (by rw [a]; exact d)
 have c := find_no hn
 dsimp only at c
 rw [a, hg _ h, c] at e
 unfold storF
 rw [e]
structure GenQ (w : World) (R : World) (U : Nat -> Prop) (B : Nat) (S : Wood) (bt : Nat) (t : Nd) (W : World) : Prop where
 below : Below w.heap.size w W
 size : R.heap.size <= W.heap.size
 keep : ∀ k, U k -> W.heap[k]? = R.heap[k]?
 wood : Forest B S W
 tree : TreeAt S W bt t
def GenF (w : World) (U : Nat -> Prop) (S : Wood) (bt : Nat) (k : Nat) : Prop := w.heap.size <= k /\ S k = none /\ k ≠ bt /\ ¬ U k
theorem GenQ.kit {w R : World} {U : Nat -> Prop} {B : Nat} {S : Wood} {bt : Nat} {t : Nd} (hB : w.heap.size <= B) (hU : ∀ k, U k -> k < R.heap.size /\ S k = none) : StKit (GenQ w R U B S bt t) (GenF w U S bt) B S := by
 have g : ∀ W W', GenQ w R U B S bt t W -> Fr B S S W W' -> GenQ w R U B S bt t W' := fun W W' h c =>
  ⟨h.below.trans (((c.x (fun _ => False)).below h.wood fun _ h => h.elim).mono hB), Nat.le_trans h.size c.size, fun k a => (c.other k (Nat.lt_of_lt_of_le (hU k a).1 h.size) (hU k a).2).trans (h.keep k a), c.forest, h.tree.frame c⟩
 refine ⟨fun W W' h i => g W W' h (Fr.of_below h.wood i), g, fun W W' f h b d => ?_, fun k b => b.2.1, fun W k h a => ?_⟩
 ·exact ⟨d.below h.below b.1 h.below.size, Nat.le_trans h.size d.size, fun k a => (d.block k (Nat.lt_of_lt_of_le (hU k a).1 h.size) (fun e => b.2.2.2 (e ▸ a))).trans (h.keep k a), forest_only h.wood d b.2.1, h.tree.only d b.2.2.1.symm⟩
 ·exact ⟨Nat.le_trans h.below.size a, h.wood.fresh a, fun e => by have := h.tree.lt; omega, fun j => by have := (hU k j).1; have := h.size; omega⟩
theorem GenQ.row {w R : World} {U : Nat -> Prop} {B : Nat} {S : Wood} {bt : Nat} {t : Nd} {W : World} (h : GenQ w R U B S bt t W) {p : Option Addr} {l : List ByteArray} {c : Nat} (hr : StrRow R p l c) (hp : ∀ a, p = some a -> U a.block) : StrRow W p l c :=
 hr.keep h.size fun a ha _ => h.keep _ (hp a ha)
theorem GenQ.anyRow {w R : World} {U : Nat -> Prop} {B : Nat} {S : Wood} {bt : Nat} {t : Nd} {W : World} (h : GenQ w R U B S bt t W) {p : Option Addr} {l : List ByteArray} {c : Nat} (hr : StrRow w p l c) : StrRow W p l c :=
 hr.below h.below
theorem GenQ.next {w R : World} {U U' : Nat -> Prop} {B : Nat} {S : Wood} {bt : Nat} {t : Nd} {W : World} (h : GenQ w R U B S bt t W) : GenQ w W U' B S bt t W :=
 ⟨h.below, Nat.le_refl _, fun _ _ => rfl, h.wood, h.tree⟩
end Go.Proofs.YtoohdfiddbfacaaGreatDoor
