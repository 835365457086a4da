/-
  Package twigskeep: Storage, the walk.
-/
import Derived.Test.YtjiikjpnlgogfaaGreatDoorSgSuG
import Derived.Test.YtjiikjpnlgogfaaGreatDoorSgVaG
namespace Go.Proofs.YtjiikjpnlgogfaaGreatDoor
open Go.RowKit
attribute [-go_sem] Instr.build Instr.fill
set_option maxRecDepth 100000 in
set_option maxHeartbeats 12800000 in
theorem storage_walk (raw more : ByteArray) (ow nb : List Nat) (asked : ByteArray) (w : World) (sent : Nat → Addr) (hE : Env w.heap.size sent w) (hTy : typeAt w) (hTl : 12 < w.heap.size) (hr : raw.size ≤ 9223372036854775807) (hmo : more.size ≤ 9223372036854775807) (has : asked.size ≤ 9223372036854775807) (how : ow.length = 20) (hnb : nb.length = 20) :
  Calls Tryz.prog 11 #[.string raw, .string more, .agg (ow.map encB).toArray, .agg (nb.map encB).toArray, .string asked] w fun e w' => e = .returned (.bool true) ∧ Below w.heap.size w w' := by
 obtain ⟨Oc, hOc⟩ : ∃ A, (ow.map encB).toArray = A := ⟨_, rfl⟩
 obtain ⟨Nc, hNc⟩ : ∃ A, (nb.map encB).toArray = A := ⟨_, rfl⟩
 obtain ⟨W0, hW0⟩ : ∃ W0, (w.alloc (.cells Oc 80)).alloc (.cells Nc 80) = W0 := ⟨_, rfl⟩
 have hrowO : W0.rangeAt w.heap.size 0 (ow.map encB) := fun j u hu => by
  rw [← hW0, World.cell?_alloc_past _ _ _ (by simp), Nat.zero_add, World.cell?_alloc_new, ← hOc]
  simpa using hu
 have hrowN : W0.rangeAt (w.heap.size + 1) 0 (nb.map encB) := fun j u hu => by
  rw [← hW0, show w.heap.size + 1 = (w.alloc (.cells Oc 80)).heap.size by simp, Nat.zero_add, World.cell?_alloc_new, ← hNc]
  simpa using hu
 have hb0 : Below w.heap.size w W0 := by rw [← hW0]; exact ((Below.refl _ _).alloc (Nat.le_refl _) _).alloc (by simp) _
 have hs0 : W0.heap.size = w.heap.size + 2 := by rw [← hW0]; simp
 have HK1 := Hid.hide (known_any raw W0 hr)
 have HK2 := Hid.hide (fun W => known_any more W hmo)
 have HNx := Hid.hide (fun fb => value_loop fb asked has)
 have HVa := Hid.hide (fun fb W h => value_any fb asked W h has)
 have HE : Hid (Env w.heap.size sent w ∧ typeAt w ∧ 12 < w.heap.size) := ⟨hE, hTy, hTl⟩
 have HT : Hid (∀ W, Below w.heap.size w W → Tabs W ∧ 16 ≤ W.heap.size) := fun W hW => ⟨(hE.below hW).tabs, Nat.le_trans hE.low hW.size⟩
 have HL : Hid (ow.length = 20 ∧ nb.length = 20) := ⟨how, hnb⟩
 have H0 : Hid (Below w.heap.size w W0 ∧ W0.heap.size = w.heap.size + 2 ∧ W0.rangeAt w.heap.size 0 (ow.map encB) ∧ W0.rangeAt (w.heap.size + 1) 0 (nb.map encB)) := ⟨hb0, hs0, hrowO, hrowN⟩
 have hu26 := Tryz.underlying26
 clear hE hTy hTl hr hmo has how hnb hb0 hs0 hrowO hrowN
 rw [hOc, hNc]
 go_enter Tryz.func11, Tryz.ntmps11
 go_wp2_with fail
 clear hW0 hOc hNc
 refine HK1.out.mono ?_
 rintro e w1 ⟨hb1, ks, vs, m, rfl, hk1, hd1, hl1⟩
 obtain ⟨pk, mk, ck, rfl⟩ := hk1.keys.shape
 obtain ⟨pv, mv, cv, rfl⟩ := hk1.vals.shape
 obtain ⟨rfl, rfl⟩ := hk1.len
 have H1 : Hid (Below W0.heap.size W0 w1 ∧ Kn w1 W0.heap.size (.slice pk m.length ck) (.slice pv m.length cv) m ∧ (m.map (·.1)).Nodup ∧ m.length ≤ 12) := ⟨hb1, hk1, hd1, hl1⟩
 clear hb1 hk1 hd1 hl1 HK1
 go_wp2_with fail
 obtain ⟨hb2, -, -, hs2⟩ := laid_map w1 (.slice pk m.length ck) (.slice pv m.length cv)
 have hbox : (World.alloc w1 (.cells #[.slice pk m.length ck, .slice pv m.length cv] 54)).heap[w1.heap.size]? = some (.cells #[.slice pk m.length ck, .slice pv m.length cv] 54 (0, 0)) := Array.getElem?_push_size
 generalize World.alloc w1 _ = w2 at hb2 hs2 hbox ⊢
 have H2 : Hid (Below w1.heap.size w1 w2 ∧ w2.heap.size = w1.heap.size + 1 ∧ w2.heap[w1.heap.size]? = some (.cells #[.slice pk m.length ck, .slice pv m.length cv] 54 (0, 0))) := ⟨hb2, hs2, hbox⟩
 clear hb2 hs2 hbox
 refine (HK2.out w2).mono ?_
 rintro e w3 ⟨hb3, ks, vs, o, rfl, hk3, hd3, hl3⟩
 obtain ⟨qk, nk, dk, rfl⟩ := hk3.keys.shape
 obtain ⟨qv, nv, dv, rfl⟩ := hk3.vals.shape
 obtain ⟨rfl, rfl⟩ := hk3.len
 have H3 : Hid (Below w2.heap.size w2 w3 ∧ Kn w3 w2.heap.size (.slice qk o.length dk) (.slice qv o.length dv) o ∧ (o.map (·.1)).Nodup ∧ o.length ≤ 12) := ⟨hb3, hk3, hd3, hl3⟩
 clear hb3 hk3 hd3 hl3 HK2
 go_wp2_with (refine wpList_buildTo rfl 30 _ rfl _ rfl #[.string asked, .int .i64 0] (by kernel_rfl) ?_)
 obtain ⟨hb4, -, -, hs4⟩ := laid_map w3 (.slice qk o.length dk) (.slice qv o.length dv)
 have hbox2 : (World.alloc w3 (.cells #[.slice qk o.length dk, .slice qv o.length dv] 54)).heap[w3.heap.size]? = some (.cells #[.slice qk o.length dk, .slice qv o.length dv] 54 (0, 0)) := Array.getElem?_push_size
 generalize World.alloc w3 (.cells #[.slice qk o.length dk, .slice qv o.length dv] 54) = w4 at hb4 hs4 hbox2 ⊢
 have hfd := laid_feed w4 asked
 have hb5 : Below w4.heap.size w4 (World.alloc w4 (.cells #[.string asked, .int .i64 0] 30)) := (Below.refl _ _).alloc (Nat.le_refl _) _
 have hs5 : (World.alloc w4 (.cells #[.string asked, .int .i64 0] 30)).heap.size = w4.heap.size + 1 := by simp
 rw [hs4] at hfd
 generalize World.alloc w4 _ = w5 at hfd hb5 hs5 ⊢
 have H5 : Hid (Below w3.heap.size w3 w4 ∧ w4.heap.size = w3.heap.size + 1 ∧ w4.heap[w3.heap.size]? = some (.cells #[.slice qk o.length dk, .slice qv o.length dv] 54 (0, 0)) ∧ Below w4.heap.size w4 w5 ∧ w5.heap.size = w4.heap.size + 1 ∧ FeedAt w5 (w3.heap.size + 1) asked) := ⟨hb4, hs4, hbox2, hb5, hs5, hfd⟩
 clear hb4 hs4 hbox2 hb5 hs5 hfd
 go_wp2_with fail
 refine (HNx.out _ 256 w5 H5.out.2.2.2.2.2 (by omega) (by omega)).mono ?_
 rintro e w6 ⟨a0, ha0, rfl, hf6⟩
 have H6 := Hid.hide hf6
 have ka0 : IntKind.u8.wrap (a0 : Int) = (a0 : Int) := wrap8 (by omega)
 clear hf6
 go_wp2_with fail
 refine (HNx.out _ 256 w6 H6.out.2 (by omega) (by omega)).mono ?_
 rintro e w7 ⟨a1, ha1, rfl, hf7⟩
 have H7 : Hid (Fed (w3.heap.size + 1) asked w5 w7 ∧ a0 < 256 ∧ a1 < 256) := ⟨H6.out.trans hf7, ha0, ha1⟩
 have ka1 : IntKind.u8.wrap (a1 : Int) = (a1 : Int) := wrap8 (by omega)
 clear hf7 H6 ha0 ha1
 obtain ⟨sl, hsl⟩ : ∃ sl, slotL a0 a1 = sl := ⟨_, rfl⟩
 have hll : sl.length = 32 := by rw [← hsl]; rfl
 have hbd : Tryz.prog.built 26 [(0, .int .u8 (a0 : Int)), (1, .int .u8 (a1 : Int))] = some (sl.map encB).toArray := by rw [← hsl]; kernel_rfl
 have hlb : ∀ x ∈ sl, x < 256 := by
  rw [← hsl]
  intro x hx
  simp only [slotL, List.mem_cons, List.not_mem_nil, or_false] at hx
  have := H7.out.2
  omega
 have hrun := run_build (P := Tryz.prog) w7 26 #[(0, .int .u8 (a0 : Int)), (1, .int .u8 (a1 : Int))] _ hbd
 obtain ⟨tt, z1, z2, o1, b8, r8, s8⟩ := laid_keyl w7 sl hll
 have HS : Hid (sl.length = 32 ∧ ∀ x ∈ sl, x < 256) := ⟨hll, hlb⟩
 have hbw7 : Below w.heap.size w w7 := by
  have c := (((((H0.out.1.behind' H1.out.1).behind' H2.out.1).behind' H3.out.1).behind' H5.out.1).behind' H5.out.2.2.2.1)
  exact H7.out.1.1.below c (by have := H0.out.2.1; have := H1.out.1.size; have := H2.out.2.1; have := H3.out.1.size; omega) c.size
 have HB7 := Hid.hide hbw7
 clear hsl hll hlb hbw7 hbd
 go_wp2_with (first | (refine wpList_store_mid rfl 26 _ _ rfl w7.heap.size 0 (sl.map encB).toArray rfl rfl tt z1 o1 ?_; generalize World.setCells _ w7.heap.size 0 _ = w8 at b8 r8 s8 ⊢) | (refine wpList_load_mid rfl 26 _ rfl w7.heap.size 0 rfl (sl.map encB) _ r8 hu26 rfl z2 ?_))
 have HBB : Hid (Below w7.heap.size w7 w8 ∧ w8.rangeAt w7.heap.size 0 (sl.map encB) ∧ w7.heap.size < w8.heap.size) := ⟨b8, r8, s8⟩
 obtain ⟨q1, q2⟩ := HT.out w8 (HB7.out.behind' b8)
 refine (hashed_l sl HS.out.1 q1 q2).mono ?_
 rintro e w9 ⟨rfl, hb9⟩
 obtain ⟨D, hD⟩ : ∃ D, digB sl = D := ⟨_, rfl⟩
 have hDl : D.length = 32 := by rw [← hD]; exact digB_length _
 rw [hD]
 obtain ⟨tt', z1', z2', o1', b10, r10, s10⟩ := laid_keyl w9 D hDl
 have H9 : Hid (Below w8.heap.size w8 w9 ∧ digB sl = D) := ⟨hb9, hD⟩
 clear q1 q2 hb9 b8 r8 s8 tt z1 z2 o1 hrun hD hDl
 go_upto_region 6 with (refine wpList_store_mid rfl 26 _ _ rfl w9.heap.size 0 (D.map encB).toArray rfl rfl tt' z1' o1' ?_)
 generalize World.setCells _ w9.heap.size 0 _ = w10 at b10 r10 s10 ⊢
 obtain ⟨sb, hsb⟩ : ∃ sb, w7.heap.size = sb := ⟨_, rfl⟩
 obtain ⟨ab, hab⟩ : ∃ ab, w9.heap.size = ab := ⟨_, rfl⟩
 obtain ⟨wA, hwc⟩ : ∃ wA, w10 = wA := ⟨_, rfl⟩
 have hrs : wA.rangeAt sb 0 (sl.map encB) := by
  rw [← hsb, ← hwc]
  exact rangeAt_block (rangeAt_block HBB.out.2.1 (H9.out.1.block _ HBB.out.2.2)) (b10.block _ (by have := H9.out.1.size; have := HBB.out.2.2; omega))
 have hra : wA.rangeAt ab 0 ((digB sl).map encB) := by rw [← hab, ← hwc, H9.out.2]; exact r10
 have hfd : Fed (w3.heap.size + 1) asked w5 wA := by
  have c : Below w7.heap.size w7 w10 := Below.behind (Below.behind HBB.out.1 H9.out.1) b10
  rw [← hwc]
  exact ⟨H7.out.1.1.trans (.of_below c), H7.out.1.2.below c⟩
 have q1 : w5.heap.size ≤ sb := by rw [← hsb]; exact H7.out.1.1.size
 have q2 : sb < ab := by have := H9.out.1.size; have := HBB.out.2.2; omega
 have q3 : ab < wA.heap.size := by rw [← hwc, ← hab]; exact s10
 have hsl := HS.out.1
 have hslb := HS.out.2
 clear HBB H9 H7 HB7 HS b10 r10 s10 tt' z1' z2' o1'
 rw [hsb, hab, hwc]
 clear hsb hab hwc
 have hs1 := H1.out.1.size
 have hs2 := H2.out.2.1
 have hs3 := H3.out.1.size
 have hs4 := H5.out.2.1
 have hs5 := H5.out.2.2.2.2.1
 have hs0 := H0.out.2.1
 have hs6 := hfd.1.size
 have c35 : Below w3.heap.size w3 w5 := Below.behind H5.out.1 H5.out.2.2.2.1
 have c25 : Below w2.heap.size w2 w5 := Below.behind H3.out.1 c35
 have c15 : Below w1.heap.size w1 w5 := Below.behind H2.out.1 c25
 have c05 : Below W0.heap.size W0 w5 := Below.behind H1.out.1 c15
 have cw5 : Below w.heap.size w w5 := Below.behind H0.out.1 c05
 have blk0 : ∀ k, k < W0.heap.size → wA.heap[k]? = W0.heap[k]? := fun k hk => (hfd.1.block k (by omega) (by omega)).trans (c05.block k hk)
 have blk1 : ∀ k, k < w1.heap.size → wA.heap[k]? = w1.heap[k]? := fun k hk => (hfd.1.block k (by omega) (by omega)).trans (c15.block k hk)
 have blk2 : ∀ k, k < w2.heap.size → wA.heap[k]? = w2.heap[k]? := fun k hk => (hfd.1.block k (by omega) (by omega)).trans (c25.block k hk)
 have blk3 : ∀ k, k < w3.heap.size → wA.heap[k]? = w3.heap[k]? := fun k hk => (hfd.1.block k (by omega) (by omega)).trans (c35.block k hk)
 have blk4 : ∀ k, k < w4.heap.size → k ≠ w3.heap.size + 1 → wA.heap[k]? = w4.heap[k]? := fun k hk hne => (hfd.1.block k (by omega) hne).trans (H5.out.2.2.2.1.block k hk)
 have kb1 : ∀ j, Value.ownBlock (.slice pk m.length ck) = some j ∨ Value.ownBlock (.slice pv m.length cv) = some j → W0.heap.size ≤ j ∧ j < w1.heap.size := fun j hj => hj.elim (H1.out.2.1.keys.block j) (H1.out.2.1.vals.block j)
 have kb2 : ∀ j, Value.ownBlock (.slice qk o.length dk) = some j ∨ Value.ownBlock (.slice qv o.length dv) = some j → w2.heap.size ≤ j ∧ j < w3.heap.size := fun j hj => hj.elim (H3.out.2.1.keys.block j) (H3.out.2.1.vals.block j)
 have hU : ∀ k, StoU w w1.heap.size w3.heap.size sb ab (.slice pk m.length ck) (.slice pv m.length cv) (.slice qk o.length dk) (.slice qv o.length dv) k → (k < wA.heap.size ∧ w.heap.size ≤ k) ∧ k ≠ w3.heap.size + 1 := by
  rintro k (rfl | rfl | rfl | rfl | rfl | rfl | e | e | e | e)
  ·omega
  ·omega
  ·omega
  ·omega
  ·omega
  ·omega
  ·have := kb1 k (.inl e); omega
  ·have := kb1 k (.inr e); omega
  ·have := kb2 k (.inl e); omega
  ·have := kb2 k (.inr e); omega
 have hM : StoM w ow nb w1.heap.size w3.heap.size sb ab (.slice pk m.length ck) (.slice pv m.length cv) (.slice qk o.length dk) (.slice qv o.length dv) m o sl (digB sl) wA := by
  refine ⟨hfd.1.below cw5 (by omega) cw5.size, rangeAt_block H0.out.2.2.1 (blk0 _ (by omega)), rangeAt_block H0.out.2.2.2 (blk0 _ (by omega)), (blk2 _ (by omega)).trans H2.out.2.2, (blk4 _ (by omega) (by omega)).trans H5.out.2.2.1, ?_, ?_, hrs, hra, fun k hk => (hU k hk).1⟩
  ·have := H1.out.2.1.keep2 (w' := wA) (by omega) fun j hj => blk1 j (kb1 j hj).2
   exact ⟨this.keys.mono (by omega), this.vals.mono (by omega), this.ok, this.apart⟩
  ·have := H3.out.2.1.keep2 (w' := wA) (by omega) fun j hj => blk3 j (kb2 j hj).2
   exact ⟨this.keys.mono (by omega), this.vals.mono (by omega), this.ok, this.apart⟩
 have H8 : Hid (StoM w ow nb w1.heap.size w3.heap.size sb ab (.slice pk m.length ck) (.slice pv m.length cv) (.slice qk o.length dk) (.slice qv o.length dv) m o sl (digB sl) wA ∧ FeedAt wA (w3.heap.size + 1) asked ∧ ¬ StoU w w1.heap.size w3.heap.size sb ab (.slice pk m.length ck) (.slice pv m.length cv) (.slice qk o.length dk) (.slice qv o.length dv) (w3.heap.size + 1)) := ⟨hM, hfd.2, fun h => (hU _ h).2 rfl⟩
 have HN : Hid (w.heap.size + 2 ≤ w1.heap.size ∧ w1.heap.size < w3.heap.size ∧ w3.heap.size + 1 < sb ∧ sb < ab ∧ (∀ j, Value.ownBlock (.slice qk o.length dk) = some j ∨ Value.ownBlock (.slice qv o.length dv) = some j → w1.heap.size < j ∧ j < w3.heap.size) ∧ (∀ j, Value.ownBlock (.slice pk m.length ck) = some j ∨ Value.ownBlock (.slice pv m.length cv) = some j → j < w1.heap.size)) := ⟨by omega, by omega, by omega, q2, fun j hj => (by have := kb2 j hj; omega), fun j hj => (kb1 j hj).2⟩
 have HD : Hid ((m.map (·.1)).Nodup ∧ m.length ≤ 12 ∧ (o.map (·.1)).Nodup ∧ o.length ≤ 12 ∧ sl.length = 32 ∧ ∀ x ∈ sl, x < 256) := ⟨H1.out.2.2.1, H1.out.2.2.2, H3.out.2.2.1, H3.out.2.2.2, hsl, hslb⟩
 clear hs0 hs1 hs2 hs3 hs4 hs5 hs6 c35 c25 c15 c05 cw5 blk0 blk1 blk2 blk3 blk4 kb1 kb2 hU hM hsl hslb hrs hra hfd q1 q2 q3 H0 H1 H2 H3 H5
 simp only [Act.put]
 go_cut [51] (fun a wd => ∃ b : Bool, a = .bool b ∧ Fed (w3.heap.size + 1) asked wA wd)
 case first =>
  go_wp2_with fail
  refine (HNx.out _ 2 wA H8.out.2.1 (by omega) (by omega)).mono ?_
  rintro e wd ⟨c, hc, rfl, hf⟩
  have HF := Hid.hide hf
  clear hf hc
  go_wp2
  go_meet
  exact ⟨_, rfl, HF.out⟩
 case rest =>
  obtain ⟨b, rfl, hfd⟩ := hcut
  have hM6 := H8.out.1.only hfd.1 (by have := HN.out; omega) H8.out.2.2
  have H9 : Hid (StoM w ow nb w1.heap.size w3.heap.size sb ab (.slice pk m.length ck) (.slice pv m.length cv) (.slice qk o.length dk) (.slice qv o.length dv) m o sl (digB sl) wc ∧ FeedAt wc (w3.heap.size + 1) asked ∧ ¬ StoU w w1.heap.size w3.heap.size sb ab (.slice pk m.length ck) (.slice pv m.length cv) (.slice qk o.length dk) (.slice qv o.length dv) (w3.heap.size + 1)) := ⟨hM6, hfd.2, H8.out.2.2⟩
  clear H8 hfd hM6
  apply_assumption
  go_cut [] (fun wd => ∃ ks vs m, (∃ p1 c1 p2 c2, ks = .slice p1 m.length c1 ∧ vs = .slice p2 m.length c2) ∧ (∀ j, ks.ownBlock = some j ∨ vs.ownBlock = some j → j ≠ w3.heap.size) ∧ StoM w ow nb w1.heap.size w3.heap.size sb ab ks vs (.slice qk o.length dk) (.slice qv o.length dv) m o sl (digB sl) wd ∧ FeedAt wd (w3.heap.size + 1) asked ∧ ¬ StoU w w1.heap.size w3.heap.size sb ab ks vs (.slice qk o.length dk) (.slice qv o.length dv) (w3.heap.size + 1) ∧ (m.map (·.1)).Nodup ∧ m.length ≤ 13)
  case first =>
   cases b with
   | false =>
    go_wp2
    go_meet
    exact ⟨_, _, m, ⟨_, _, _, _, rfl, rfl⟩, fun j hj => (by have := HN.out.2.2.2.2.2 j hj; have := HN.out.2.1; omega), H9.out.1, H9.out.2.1, H9.out.2.2, HD.out.1, by have := HD.out.2.1; omega⟩
   | true => as_aux_lemma =>
    go_upto_region 7 with fail
    obtain ⟨DK, hDK⟩ : ∃ D, digB sl = D := ⟨_, rfl⟩
    have HDK : Hid (DK.toArray.size = 32 ∧ Bytes DK.toArray) := by rw [← hDK]; exact digB_key sl
    have hzK : (Tryz.prog.info? 26).map (·.size) = some (DK.map encB).length := by rw [size51, ← hDK]; simp [digB_length]
    rw [hDK] at H9
    obtain ⟨P0, hP0⟩ : ∃ P0 : World → Prop, ∀ w', P0 w' ↔ (StoM w ow nb w1.heap.size w3.heap.size sb ab (.slice pk m.length ck) (.slice pv m.length cv) (.slice qk o.length dk) (.slice qv o.length dv) m o sl DK w' ∧ FeedAt w' (w3.heap.size + 1) asked) := ⟨_, fun _ => Iff.rfl⟩
    obtain ⟨P4, hP4⟩ : ∃ P4 : Value → World → Prop, ∀ v w', P4 v w' ↔ (∃ ks vs m', v = .agg #[ks, vs] ∧ ∃ C, Kn w' C ks vs m' ∧ ab < C ∧ (m'.map (·.1)).Nodup ∧ m'.length ≤ 13) := ⟨_, fun _ _ => Iff.rfl⟩
    obtain ⟨P5, hP5⟩ : ∃ P5 : World → Prop, ∀ wd, P5 wd ↔ (∃ ks vs m, (∃ p1 c1 p2 c2, ks = .slice p1 m.length c1 ∧ vs = .slice p2 m.length c2) ∧ (∀ j, ks.ownBlock = some j ∨ vs.ownBlock = some j → j ≠ w3.heap.size) ∧ StoM w ow nb w1.heap.size w3.heap.size sb ab ks vs (.slice qk o.length dk) (.slice qv o.length dv) m o sl (digB sl) wd ∧ FeedAt wd (w3.heap.size + 1) asked ∧ ¬ StoU w w1.heap.size w3.heap.size sb ab ks vs (.slice qk o.length dk) (.slice qv o.length dv) (w3.heap.size + 1) ∧ (m.map (·.1)).Nodup ∧ m.length ≤ 13) := ⟨_, fun _ => Iff.rfl⟩
    have HSt : Hid (StoM w ow nb w1.heap.size w3.heap.size sb ab (.slice pk m.length ck) (.slice pv m.length cv) (.slice qk o.length dk) (.slice qv o.length dv) m o sl DK wc.drew ∧ FeedAt wc.drew (w3.heap.size + 1) asked) := ⟨H9.out.1.more (Below.refl _ _).drew, H9.out.2.1.below (Below.refl _ _).drew⟩
    refine wp_region_any (by kernel_rfl) ?_
    change wpAny _ _ _ _ _ _ _ (World.drew _)
    obtain ⟨vf, hvf⟩ : ∃ vf : Nat → Option Value, vf = fun i => ([some (.agg #[.slice pk m.length ck, .slice pv m.length cv]), some (.agg (DK.map encB).toArray), some (.pointer (some ⟨w3.heap.size + 1, 0, none⟩)), none, none, none] : List (Option Value)).getD i none := ⟨_, rfl⟩
    refine wpAny_vary _ (fun d v w' => (∀ i x, vf i = some x → d i = true → v i = x) ∧ (fun d v w' => Dn7 (d 0) (d 1) (d 2) (d 3) (d 4) (d 5) ∧ X7 P0 P4 P5 (d 3) (d 4) (d 5) (v 3) (v 4) w') d v w') (by kernel_rfl) (by kernel_rfl) ?_ _ (fun _ => undef) ?_ ?_
    ·intro i o ho listed val b W hsat hnew hdeps hI
     have hi : i < 6 := (Array.getElem?_eq_some_iff.1 ho).1
     match i, hi with
     | 0, _ =>
      obtain rfl := Option.some.inj ho
      have t11 : b.tmps[11]? = some (.pointer (some ⟨w1.heap.size, 0, none⟩)) := (hsat.rest 11 (fun i _ => noDst_of (by kernel_rfl) i)).trans rfl
      obtain ⟨z5, hD'⟩ := dn0 hI.2.1 hnew
      have hP := (hP0 W).1 (hI.2.2.old z5)
      obtain ⟨z0, z1, _⟩ := box_cells hP.1.box1
      refine Oper.wp_mono (K := fun a' w' => a' = b.put (some 52) (.agg #[.slice pk m.length ck, .slice pv m.length cv]) ∧ w' = W) (by rintro a' w' ⟨rfl, rfl⟩; exact ⟨_, rfl, vals_step hI.1 (by rw [hvf]; rfl), hD', hI.2.2⟩) ?_
      clear ho hdeps hsat hI hnew hvf hP hD' z5
      go_simp
     | 1, _ =>
      obtain rfl := Option.some.inj ho
      have t15 : b.tmps[15]? = some (.pointer (some ⟨ab, 0, none⟩)) := (hsat.rest 15 (fun i _ => noDst_of (by kernel_rfl) i)).trans rfl
      obtain ⟨z5, hD'⟩ := dn1 hI.2.1 hnew
      have hP := (hP0 W).1 (hI.2.2.old z5)
      refine wp_load_mid 26 (.tmp 15) rfl ab 0 (by simp only [Act.eval, Array.getD_eq_getD_getElem?, t15, Option.getD_some]) (DK.map encB) _ hP.1.at_ hu26 rfl hzK ?_
      exact ⟨_, rfl, vals_step hI.1 (by rw [hvf]; rfl), hD', hI.2.2⟩
     | 2, _ =>
      obtain rfl := Option.some.inj ho
      have t13 : b.tmps[13]? = some (.pointer (some ⟨w3.heap.size + 1, 0, none⟩)) := (hsat.rest 13 (fun i _ => noDst_of (by kernel_rfl) i)).trans rfl
      obtain ⟨z5, hD'⟩ := dn2 hI.2.1 hnew
      refine Oper.wp_mono (K := fun a' w' => a' = b.put (some 54) (.pointer (some ⟨w3.heap.size + 1, 0, none⟩)) ∧ w' = W) (by rintro a' w' ⟨rfl, rfl⟩; exact ⟨_, rfl, vals_step hI.1 (by rw [hvf]; rfl), hD', hI.2.2⟩) ?_
      clear ho hdeps hsat hI hnew hvf hD' z5
      go_simp
     | 3, _ =>
      obtain rfl := Option.some.inj ho
      have t54 : b.tmps[54]? = some (.pointer (some ⟨w3.heap.size + 1, 0, none⟩)) := (hsat.done 2 54 (hdeps ⟨2, .data⟩ (by simp) rfl) rfl (by simp)).trans (congrArg some (hI.1 2 _ (by rw [hvf]; rfl) (hdeps ⟨2, .data⟩ (by simp) rfl)))
      have d2 := hdeps ⟨2, .data⟩ (by simp) rfl
      obtain ⟨⟨z5, z4⟩, hD'⟩ := dn3 hI.2.1 hnew d2
      obtain ⟨G, hG⟩ : ∃ G : Value → World → Prop, ∀ x w', G x w' ↔ ((∀ j y, vf j = some y → (fun k => if k = 3 then true else listed.getD k false) j = true → (fun k => if k = 3 then x else val k) j = y) ∧ Dn7 (listed.getD 0 false) (listed.getD 1 false) (listed.getD 2 false) true (listed.getD 4 false) (listed.getD 5 false) ∧ X7 P0 P4 P5 true (listed.getD 4 false) (listed.getD 5 false) x (val 4) w') := ⟨_, fun _ _ => Iff.rfl⟩
      refine Oper.wp_mono (K := fun a' w' => ∃ v, a' = b.put (some 55) v ∧ G v w') (by rintro a' w' ⟨v, rfl, hv⟩; exact ⟨v, rfl, (hG v w').1 hv⟩) ?_
      have HG := Hid.hide hG
      have HI := Hid.hide hI
      have HVF := Hid.hide hvf
      have HD3 := Hid.hide hD'
      have HP := Hid.hide ((hP0 W).1 (hI.2.2.old z5))
      have HZ : Hid (listed.getD 5 false = false ∧ listed.getD 4 false = false) := ⟨z5, z4⟩
      clear hG ho hdeps hsat hI hnew hvf hD' z5 z4 d2
      go_simp
      go_at_call 18
      refine (HVa.out _ W HP.out.2).mono ?_
      rintro e w9 ⟨u, hu0, hu1, rfl, hf9⟩
      refine ⟨_, rfl, (HG.out _ _).2 ⟨vals_free HI.out.1 (by rw [HVF.out]; rfl), HD3.out, ⟨fun _ => (hP0 w9).2 ⟨HP.out.1.only hf9.1 (by have := HN.out; omega) H9.out.2.2, hf9.2⟩, fun _ => ⟨u, rfl, hu0, hu1⟩, fun q => ?_, fun q => ?_⟩⟩⟩
      ·rw [HZ.out.2] at q; cases q
      ·rw [HZ.out.1] at q; cases q
     | 4, _ =>
      obtain rfl := Option.some.inj ho
      have t52 : b.tmps[52]? = some (.agg #[.slice pk m.length ck, .slice pv m.length cv]) := (hsat.done 0 52 (hdeps ⟨0, .data⟩ (by simp) rfl) rfl (by simp)).trans (congrArg some (hI.1 0 _ (by rw [hvf]; rfl) (hdeps ⟨0, .data⟩ (by simp) rfl)))
      have t53 : b.tmps[53]? = some (.agg (DK.map encB).toArray) := (hsat.done 1 53 (hdeps ⟨1, .data⟩ (by simp) rfl) rfl (by simp)).trans (congrArg some (hI.1 1 _ (by rw [hvf]; rfl) (hdeps ⟨1, .data⟩ (by simp) rfl)))
      have d0 := hdeps ⟨0, .data⟩ (by simp) rfl
      have d1 := hdeps ⟨1, .data⟩ (by simp) rfl
      have d3 := hdeps ⟨3, .data⟩ (by simp) rfl
      obtain ⟨z5, hD'⟩ := dn4 hI.2.1 hnew d0 d1 d3
      obtain ⟨u, hu, hu0, hu1⟩ := hI.2.2.str d3
      have t55 : b.tmps[55]? = some (.string u) := (hsat.done 3 55 d3 rfl (by simp)).trans (congrArg some hu)
      obtain ⟨G, hG⟩ : ∃ G : Value → World → Prop, ∀ x w', G x w' ↔ ((∀ j y, vf j = some y → (fun k => if k = 4 then true else listed.getD k false) j = true → (fun k => if k = 4 then x else val k) j = y) ∧ Dn7 (listed.getD 0 false) (listed.getD 1 false) (listed.getD 2 false) (listed.getD 3 false) true (listed.getD 5 false) ∧ X7 P0 P4 P5 (listed.getD 3 false) true (listed.getD 5 false) (val 3) x w') := ⟨_, fun _ _ => Iff.rfl⟩
      refine Oper.wp_mono (K := fun a' w' => ∃ v, a' = b.put (some 56) v ∧ G v w') (by rintro a' w' ⟨v, rfl, hv⟩; exact ⟨v, rfl, (hG v w').1 hv⟩) ?_
      have HG := Hid.hide hG
      have HI := Hid.hide hI
      have HVF := Hid.hide hvf
      have HD4 := Hid.hide hD'
      have HP := Hid.hide ((hP0 W).1 (hI.2.2.old z5))
      have HZ : Hid (listed.getD 5 false = false) := z5
      have HW := Hid.hide (kwith_any (K := DK.toArray) HP.out.1.kn1 (by have := HD.out.2.1; omega) HDK.out.1 HDK.out.2 hu0 hu1)
      dsimp only at HW
      clear hG ho hdeps hsat hI hnew hvf hD' z5 d0 d1 d3 hu
      go_simp
      go_at_call 39
      refine HW.out.mono ?_
      rintro e w9 ⟨hb9, ks', vs', rfl, hk9⟩
      have hP9 := HP.out.1.more hb9
      refine ⟨_, rfl, (HG.out _ _).2 ⟨vals_free HI.out.1 (by rw [HVF.out]; rfl), HD4.out, ⟨fun _ => (hP0 w9).2 ⟨hP9, HP.out.2.below hb9⟩, HI.out.2.2.str, fun _ _ => (hP4 _ _).2 ⟨ks', vs', _, rfl, _, hk9, (HP.out.1.lt ab (by simp [StoU])).1, wi_dup HD.out.1 _ _, Nat.le_trans (wi_len _ _ _) (by have := HD.out.2.1; omega)⟩, fun q => ?_⟩⟩⟩
      rw [HZ.out] at q; cases q
     | 5, _ =>
      obtain rfl := Option.some.inj ho
      have t11 : b.tmps[11]? = some (.pointer (some ⟨w1.heap.size, 0, none⟩)) := (hsat.rest 11 (fun i _ => noDst_of (by kernel_rfl) i)).trans rfl
      have d4 := hdeps ⟨4, .data⟩ (by simp) rfl
      have hD' := dn5 hI.2.1 d4
      have hP := (hP0 W).1 (hI.2.2.old hnew)
      obtain ⟨ks', vs', m', hv4, C4, hk4, hC4, hd4, hl4⟩ := (hP4 _ _).1 (hI.2.2.kn d4 hnew)
      obtain ⟨a1, b1, cc1, rfl⟩ := hk4.keys.shape
      obtain ⟨a2, b2, cc2, rfl⟩ := hk4.vals.shape
      obtain ⟨rfl, rfl⟩ := hk4.len
      have t56 : b.tmps[56]? = some (.agg #[.slice a1 m'.length cc1, .slice a2 m'.length cc2]) := (hsat.done 4 56 d4 rfl (by simp)).trans (congrArg some hv4)
      obtain ⟨z0, z1, f0, f1⟩ := box_cells hP.1.box1
      obtain ⟨hbx, hon⟩ := box_set hP.1.box1 (.slice a1 m'.length cc1) (.slice a2 m'.length cc2)
      have hfin : P5 ((W.setCell ⟨w1.heap.size, 0, none⟩ (.slice a1 m'.length cc1)).setCell ⟨w1.heap.size, 1, none⟩ (.slice a2 m'.length cc2)) := by
       have hkb : ∀ j, Value.ownBlock (.slice a1 m'.length cc1) = some j ∨ Value.ownBlock (.slice a2 m'.length cc2) = some j → C4 ≤ j ∧ j < W.heap.size := fun j hj => hj.elim (hk4.keys.block j) (hk4.vals.block j)
       have hne := HN.out
       have hk' := hk4.keep2 hon.size fun j hj => hon.block j (hkb j hj).2 (by have := (hkb j hj).1; omega)
       have hq := hP.1.set1 hon ⟨by omega, by omega, by omega, by omega, by omega, fun e => (by have := hne.2.2.2.2.1 _ (.inl e); omega), fun e => (by have := hne.2.2.2.2.1 _ (.inr e); omega)⟩ (⟨hk'.keys.mono (by omega), hk'.vals.mono (by omega), hk'.ok, hk'.apart⟩ : Kn _ w.heap.size _ _ m') hbx
       rw [← hDK] at hq
       refine (hP5 _).2 ⟨_, _, m', ⟨_, _, _, _, rfl, rfl⟩, fun j hj => (by have := (hkb j hj).1; omega), hq, hP.2.keep (hon.block _ hP.2.lt (by omega)) hon.size, ?_, hd4, hl4⟩
       have hno := H9.out.2.2
       rintro (e | e | e | e | e | e | e | e | e | e)
       ·exact hno (.inl e)
       ·exact hno (.inr (.inl e))
       ·exact hno (.inr (.inr (.inl e)))
       ·exact hno (.inr (.inr (.inr (.inl e))))
       ·exact hno (.inr (.inr (.inr (.inr (.inl e)))))
       ·exact hno (.inr (.inr (.inr (.inr (.inr (.inl e))))))
       ·have := (hkb _ (.inl e)).1; omega
       ·have := (hkb _ (.inr e)).1; omega
       ·exact hno (by simp [StoU, e])
       ·exact hno (by simp [StoU, e])
      refine Oper.wp_mono (K := fun a' w' => a' = b ∧ w' = (W.setCell ⟨w1.heap.size, 0, none⟩ (.slice a1 m'.length cc1)).setCell ⟨w1.heap.size, 1, none⟩ (.slice a2 m'.length cc2)) (by rintro a' w' ⟨rfl, rfl⟩; exact ⟨undef, rfl, vals_free hI.1 (by rw [hvf]; rfl), hD', ⟨fun q => (by cases q), hI.2.2.str, fun _ q => (by cases q), fun _ => hfin⟩⟩) ?_
      clear ho hdeps hsat hI hnew hvf hP hD' hfin hbx hon hk4 hC4 hd4 hl4 hv4
      go_simp
    ·exact ⟨fun _ _ _ h => (by simp at h), by decide, ⟨fun _ => (hP0 _).2 HSt.out, fun q => (by simp at q), fun q => (by simp at q), fun q => (by simp at q)⟩⟩
    ·intro val W hI
     have e0 : val 0 = .agg #[.slice pk m.length ck, .slice pv m.length cv] := hI.1 0 _ (by rw [hvf]; rfl) rfl
     have e1 : val 1 = .agg (DK.map encB).toArray := hI.1 1 _ (by rw [hvf]; rfl) rfl
     have e2 : val 2 = .pointer (some ⟨w3.heap.size + 1, 0, none⟩) := hI.1 2 _ (by rw [hvf]; rfl) rfl
     have hX := hI.2
     simp only [runFrom, Act.put, Nat.zero_add, Nat.reduceAdd, List.setIfInBounds_toArray, List.set_cons_zero, List.set_cons_succ, e0, e1, e2]
     clear hI hvf e0 e1 e2
     have HY : Hid (P5 W) := hX.2.fin rfl
     clear hX
     (try go_wp2)
     go_meet
     exact (hP5 W).1 HY.out
  case rest =>
   obtain ⟨ks, vs, mm, ⟨p1, c1, p2, c2, rfl, rfl⟩, hbn, hM, hfd, hn, hmd, hml⟩ := hcut
   obtain ⟨wB, rfl⟩ : ∃ x, x = wc := ⟨_, rfl⟩
   have HBN := Hid.hide hbn
   clear hbn
   obtain ⟨z0, z1, -⟩ := box_cells hM.box1
   have HTr := Hid.hide (ktree_any hM.kn1 (Nat.le_refl _) (Below.refl _ _) (forest_none wB) (by omega) (pth_dup hmd) false)
   obtain ⟨fb, hfb⟩ : ∃ fb, w3.heap.size + 1 = fb := ⟨_, rfl⟩
   rw [hfb] at hfd hn ⊢
   have HN2 : Hid (w.heap.size + 2 ≤ w1.heap.size ∧ w1.heap.size < w3.heap.size ∧ w3.heap.size < fb ∧ fb < sb ∧ sb < ab) := ⟨HN.out.1, HN.out.2.1, by omega, by have := HN.out; omega, HN.out.2.2.2.1⟩
   have HC : Hid (StoM w ow nb w1.heap.size w3.heap.size sb ab (.slice p1 mm.length c1) (.slice p2 mm.length c2) (.slice qk o.length dk) (.slice qv o.length dv) mm o sl (digB sl) wB ∧ FeedAt wB fb asked ∧ ¬ StoU w w1.heap.size w3.heap.size sb ab (.slice p1 mm.length c1) (.slice p2 mm.length c2) (.slice qk o.length dk) (.slice qv o.length dv) fb ∧ (mm.map (·.1)).Nodup ∧ mm.length ≤ 13) := ⟨hM, hfd, hn, hmd, hml⟩
   clear hM hfd hn hmd hml H9 hfb
   go_wp2_with fail
   refine HTr.out.mono ?_
   rintro e w11 ⟨bs, hbs, rfl, S, ht, hf⟩
   obtain ⟨ts, hta, hcan, hget⟩ := ht.ex
   have hSn : ∀ k, k < wB.heap.size → S k = none := fun k hk => hf.new k hk rfl
   have H11 : Hid (FrX wB.heap.size (fun _ => False) (fun _ => none) S wB w11 ∧ TreeAt S w11 bs ts ∧ ts.can 64 ∧ (∀ s, s.length = 64 → ts.get s = getN mm s) ∧ StoM w ow nb w1.heap.size w3.heap.size sb ab (.slice p1 mm.length c1) (.slice p2 mm.length c2) (.slice qk o.length dk) (.slice qv o.length dv) mm o sl (digB sl) w11 ∧ FeedAt w11 fb asked ∧ (∀ k, k < wB.heap.size → S k = none)) :=
    ⟨hf, hta, hcan, hget, HC.out.1.fr (forest_none wB) HC.out.1.below.size hf fun _ _ => rfl, HC.out.2.1.fr hf rfl, hSn⟩
   clear ht hta hcan hget hf hSn HTr z0 z1
   have hbf : bs ≠ fb := by have := HC.out.2.1.lt; omega
   have HBS : Hid (bs ≠ fb ∧ wB.heap.size ≤ bs) := ⟨hbf, hbs⟩
   clear hbs hbf
   go_wp2_with fail
   refine (HNx.out _ 256 w11 H11.out.2.2.2.2.2.1 (by omega) (by omega)).mono ?_
   rintro e w12 ⟨x0, hx0, rfl, hf12⟩
   have H12 := Hid.hide hf12
   have kx0 : IntKind.u64.wrap (x0 : Int) = (x0 : Int) := wrapU (by omega) (by omega)
   clear hf12
   go_wp2_with fail
   refine (HNx.out _ 256 w12 H12.out.2 (by omega) (by omega)).mono ?_
   rintro e w13 ⟨x1, hx1, rfl, hf13⟩
   have kx1 : IntKind.u64.wrap (x1 : Int) = (x1 : Int) := wrapU (by omega) (by omega)
   have kx2 : IntKind.u64.wrap ((x1 : Int) * 1000003) = (x1 : Int) * 1000003 := wrapU (by omega) (by omega)
   have hon : Only fb w11 w13 := H12.out.1.trans hf13.1
   have hSf : S fb = none := H11.out.2.2.2.2.2.2 _ HC.out.2.1.lt
   have hfo : Forest wB.heap.size S w13 := forest_only H11.out.1.forest hon hSf
   have hta := H11.out.2.1.only hon HBS.out.1
   have hM13 := H11.out.2.2.2.2.1.only hon (by have := HN2.out; omega) HC.out.2.2.1
   have hE13 := HE.out.1.below hM13.below
   have HRoot := Hid.hide (xroot_any hfo hE13.tabs (Nat.le_trans HE.out.1.low HC.out.1.below.size) hta)
   have H13 : Hid (x0 < 256 ∧ x1 < 256 ∧ Forest wB.heap.size S w13 ∧ TreeAt S w13 bs ts ∧ StoM w ow nb w1.heap.size w3.heap.size sb ab (.slice p1 mm.length c1) (.slice p2 mm.length c2) (.slice qk o.length dk) (.slice qv o.length dv) mm o sl (digB sl) w13 ∧ FeedAt w13 fb asked) := ⟨hx0, hx1, hfo, hta, hM13, hf13.2⟩
   clear hx0 hx1 hf13 hon hSf hfo hta hM13 hE13 H12
   go_wp2_with fail
   refine HRoot.out.mono ?_
   rintro e w14 ⟨rfl, hf14⟩
   obtain ⟨D, hD⟩ : ∃ D, ts.dig = D := ⟨_, rfl⟩
   obtain ⟨htok, _⟩ := ts.can_ok 64 H11.out.2.2.1 (Nat.le_refl _)
   have hDl : D.length = 32 := by rw [← hD]; exact ts.dig_length htok
   rw [hD]
   have hM14 := H13.out.2.2.2.2.1.fr H13.out.2.2.1 HC.out.1.below.size (hf14.x fun _ => False) fun k hk => H11.out.2.2.2.2.2.2 k (HC.out.1.lt k hk).1
   obtain ⟨q1, q2⟩ := HT.out w14 hM14.below
   have HDg := Hid.hide (digest_any ⟨#[]⟩ w14 q1 q2)
   have H14 : Hid (Fr wB.heap.size S S w13 w14 ∧ ts.dig = D ∧ D.length = 32 ∧ StoM w ow nb w1.heap.size w3.heap.size sb ab (.slice p1 mm.length c1) (.slice p2 mm.length c2) (.slice qk o.length dk) (.slice qv o.length dv) mm o sl (digB sl) w14) := ⟨hf14, hD, hDl, hM14⟩
   clear hf14 hD hDl htok hM14 q1 q2 HRoot
   go_wp2_with fail
   refine HDg.out.mono ?_
   rintro e w15 ⟨rfl, hb15⟩
   obtain ⟨E, hE⟩ : ∃ E, (digF ⟨#[]⟩).toList = E := ⟨_, rfl⟩
   have hEl : E.length = 32 := by rw [← hE, Array.length_toList]; exact sumF_size _
   rw [hE]
   obtain ⟨AA, hAA⟩ : ∃ AA : Array Value, (.int .u64 (x0 : Int) :: .int .u64 ((x1 : Int) * 1000003) :: (D.map encB ++ E.map encB)).toArray = AA := ⟨_, rfl⟩
   have hbd := built_acc (x0 : Int) ((x1 : Int) * 1000003) H14.out.2.2.1 hEl
   rw [hAA] at hbd
   have hrun := run_build (P := Tryz.prog) w15 85 #[(0, .int .u64 (x0 : Int)), (1, .int .u64 ((x1 : Int) * 1000003)), (2, .agg (D.map encB).toArray), (3, .agg (E.map encB).toArray)] _ hbd
   have hAs : AA.size = 66 := by rw [← hAA]; simp [H14.out.2.2.1, hEl]
   have hAo : AA.all (·.oneCell') = true := by
    rw [← hAA]
    refine all_oneCell_toArray (fun u hu => ?_)
    simp only [List.mem_cons, List.mem_append, List.mem_map] at hu
    rcases hu with rfl | rfl | ⟨_, _, rfl⟩ | ⟨_, _, rfl⟩ <;> rfl
   have hzA : (Tryz.prog.info? 85).map (·.size) = some AA.size := by rw [zeroA_size, hAs]
   have hthZ : ∀ C : Array Value, 66 = C.size → (w15.alloc (.cells C 85)).there w15.heap.size 0 AA.size := fun C hC => there_new _ _ _ _ (by rw [hAs]; exact hC)
   have hL : ∀ C : Array Value, 66 = C.size → AA.toList.length = C.size := fun C hC => by rw [Array.length_toList, hAs]; exact hC
   have H15 : Hid (Below w14.heap.size w14 w15 ∧ (digF ⟨#[]⟩).toList = E ∧ E.length = 32 ∧ (.int .u64 (x0 : Int) :: .int .u64 ((x1 : Int) * 1000003) :: (D.map encB ++ E.map encB)).toArray = AA ∧ AA.size = 66) := ⟨hb15, hE, hEl, hAA, hAs⟩
   clear hb15 hE hEl hAA hbd HDg
   go_upto_region 12 with (refine wpList_store_mid rfl 85 _ _ rfl w15.heap.size 0 AA rfl rfl (hthZ _ rfl) hzA hAo ?_; generalize hX : World.setCells _ w15.heap.size 0 _ = w16; have H16 : Hid (Below w15.heap.size w15 w16 ∧ w16.rangeAt w15.heap.size 0 AA.toList ∧ w15.heap.size < w16.heap.size) := ⟨newH hX, (newH_row hX (hL _ rfl)).1, (newH_row hX (hL _ rfl)).2⟩; clear hX hthZ hL)
   obtain ⟨acc, hacc⟩ : ∃ a : Acc, a = ⟨x0, x1 * 1000003, D, E⟩ := ⟨_, rfl⟩
   have hEb : ∀ x ∈ E, x < 256 := by rw [← H15.out.2.1]; exact digF_lt _
   have hDb : ∀ x ∈ D, x < 256 := by rw [← H14.out.2.1]; exact dig_byte H11.out.2.2.1
   have hok : acc.ok := by
    rw [hacc]
    exact ⟨by show x0 < _; have := H13.out; omega, by show x1 * 1000003 < _; have := H13.out; omega, H14.out.2.2.1, H15.out.2.2.1, hDb, hEb⟩
   have hAcc : AA = (accL acc).toArray := by
    rw [← H15.out.2.2.2.1, hacc]
    show _ = (encL x0 :: encL (x1 * 1000003) :: (D.map encB ++ E.map encB)).toArray
    have e : ((x1 * 1000003 : Nat) : Int) = (x1 : Int) * 1000003 := Int.natCast_mul _ _
    unfold encL
    rw [e]
   obtain ⟨EA, hEA⟩ : ∃ s, textB (encAcc acc) = s := ⟨_, rfl⟩
   have HEA : Hid (0 < EA.size ∧ EA.size ≤ 100) := by rw [← hEA, textB_size]; exact acc_small hok
   have HEnc : Hid (∀ W, Calls Tryz.prog 41 #[.agg AA] W fun e w' => e = .returned (.string EA) ∧ Below W.heap.size W w') := fun W => by
    have := tencacc acc hok W
    rw [← hAcc, hEA] at this
    exact this
   obtain ⟨DO, hDO⟩ : ∃ D, digB ow = D := ⟨_, rfl⟩
   have HDO : Hid (DO.toArray.size = 32 ∧ Bytes DO.toArray) := by rw [← hDO]; exact digB_key ow
   have hM15 := H14.out.2.2.2.more H15.out.1
   have hM16 := hM15.more H16.out.1
   have HNam : Hid (∀ W, Below w16.heap.size w16 W → Calls Tryz.prog 40 #[.agg (ow.map encB).toArray] W fun e w' => e = .returned (.agg (DO.map encB).toArray) ∧ Below W.heap.size W w') := fun W hW => by
    obtain ⟨q1, q2⟩ := HT.out W (hM16.below.behind' hW)
    have := named_l ow HL.out.1 q1 q2
    rw [hDO] at this
    exact this
   have HM16 : Hid (StoM w ow nb w1.heap.size w3.heap.size sb ab (.slice p1 mm.length c1) (.slice p2 mm.length c2) (.slice qk o.length dk) (.slice qv o.length dv) mm o sl (digB sl) w16 ∧ ∀ W, Below w16.heap.size w16 W → W.rangeAt w15.heap.size 0 AA.toList) := ⟨hM16, fun W hW => rangeAt_block H16.out.2.1 (hW.block _ H16.out.2.2)⟩
   have HAcc : Hid (acc = ⟨x0, x1 * 1000003, D, E⟩ ∧ acc.ok ∧ textB (encAcc acc) = EA ∧ digB ow = DO) := ⟨hacc, hok, hEA, hDO⟩
   have hu80 := Tryz.underlying80
   have hz80 : (Tryz.prog.info? 80).map (·.size) = some (ow.map encB).length := by rw [size80]; simp [HL.out.1]
   have hu85 := Tryz.underlying85
   have hz85 : (Tryz.prog.info? 85).map (·.size) = some AA.toList.length := by rw [Array.length_toList]; exact hzA
   obtain ⟨o', ho'⟩ : ∃ o', wiN o DO.toArray EA = o' := ⟨_, rfl⟩
   have HO' := Hid.hide ho'
   clear hacc hEb hDb hok hAcc hEA hDO hM15 hM16 hzA hAo hAs hrun kx0 kx1 kx2
   simp only [Act.put]
   go_cut [] (fun wd => Only w3.heap.size w16 wd ∧ ∃ a1 cc1 a2 cc2, wd.heap[w3.heap.size]? = some (.cells #[.slice a1 o'.length cc1, .slice a2 o'.length cc2] 54 (0, 0)) ∧ ∃ C, Kn wd C (.slice a1 o'.length cc1) (.slice a2 o'.length cc2) o' ∧ w16.heap.size ≤ C)
   case first => as_aux_lemma =>
    obtain ⟨P0, hP0⟩ : ∃ P0 : World → Prop, ∀ w', P0 w' ↔ Below w16.heap.size w16 w' := ⟨_, fun _ => Iff.rfl⟩
    obtain ⟨P4, hP4⟩ : ∃ P4 : Value → World → Prop, ∀ v w', P4 v w' ↔ (∃ ks vs, v = .agg #[ks, vs] ∧ ∃ C, Kn w' C ks vs o' ∧ w16.heap.size ≤ C) := ⟨_, fun _ _ => Iff.rfl⟩
    obtain ⟨P5, hP5⟩ : ∃ P5 : World → Prop, ∀ wd, P5 wd ↔ (Only w3.heap.size w16 wd ∧ ∃ a1 cc1 a2 cc2, wd.heap[w3.heap.size]? = some (.cells #[.slice a1 o'.length cc1, .slice a2 o'.length cc2] 54 (0, 0)) ∧ ∃ C, Kn wd C (.slice a1 o'.length cc1) (.slice a2 o'.length cc2) o' ∧ w16.heap.size ≤ C) := ⟨_, fun _ => Iff.rfl⟩
    refine wp_region_any (by kernel_rfl) ?_
    change wpAny _ _ _ _ _ _ _ (World.drew _)
    obtain ⟨vf, hvf⟩ : ∃ vf : Nat → Option Value, vf = fun i => ([some (.agg #[.slice qk o.length dk, .slice qv o.length dv]), some (.agg (ow.map encB).toArray), some (.agg (DO.map encB).toArray), some (.agg AA), some (.string EA), none, none] : List (Option Value)).getD i none := ⟨_, rfl⟩
    refine wpAny_vary _ (fun d v w' => (∀ i x, vf i = some x → d i = true → v i = x) ∧ (fun d v w' => Dn12 (d 0) (d 1) (d 2) (d 3) (d 4) (d 5) (d 6) ∧ X12 P0 P4 P5 (d 5) (d 6) (v 5) w') d v w') (by kernel_rfl) (by kernel_rfl) ?_ _ (fun _ => undef) ?_ ?_
    ·intro i o ho listed val b W hsat hnew hdeps hI
     have hi : i < 7 := (Array.getElem?_eq_some_iff.1 ho).1
     match i, hi with
     | 0, _ =>
      obtain rfl := Option.some.inj ho
      have t12 : b.tmps[12]? = some (.pointer (some ⟨w3.heap.size, 0, none⟩)) := (hsat.rest 12 (fun i _ => noDst_of (by kernel_rfl) i)).trans rfl
      obtain ⟨z6, hD'⟩ := dm0 hI.2.1 hnew
      have hP := (hP0 W).1 (hI.2.2.old z6)
      obtain ⟨z0, z1, _⟩ := box_cells (HM16.out.1.more hP).box2
      refine Oper.wp_mono (K := fun a' w' => a' = b.put (some 75) (.agg #[.slice qk o.length dk, .slice qv o.length dv]) ∧ w' = W) (by rintro a' w' ⟨rfl, rfl⟩; exact ⟨_, rfl, vals_step hI.1 (by rw [hvf]; rfl), hD', hI.2.2⟩) ?_
      clear ho hdeps hsat hI hnew hvf hP hD' z6
      go_simp
     | 1, _ =>
      obtain rfl := Option.some.inj ho
      have t7 : b.tmps[7]? = some (.pointer (some ⟨w.heap.size, 0, none⟩)) := (hsat.rest 7 (fun i _ => noDst_of (by kernel_rfl) i)).trans rfl
      obtain ⟨z6, hD'⟩ := dm1 hI.2.1 hnew
      have hP := (hP0 W).1 (hI.2.2.old z6)
      refine wp_load_mid 80 (.tmp 7) rfl w.heap.size 0 (by simp only [Act.eval, Array.getD_eq_getD_getElem?, t7, Option.getD_some]) (ow.map encB) _ (HM16.out.1.more hP).own hu80 rfl hz80 ?_
      exact ⟨_, rfl, vals_step hI.1 (by rw [hvf]; rfl), hD', hI.2.2⟩
     | 2, _ =>
      obtain rfl := Option.some.inj ho
      have t76 : b.tmps[76]? = some (.agg (ow.map encB).toArray) := (hsat.done 1 76 (hdeps ⟨1, .data⟩ (by simp) rfl) rfl (by simp)).trans (congrArg some (hI.1 1 _ (by rw [hvf]; rfl) (hdeps ⟨1, .data⟩ (by simp) rfl)))
      have dd := hdeps ⟨1, .data⟩ (by simp) rfl
      obtain ⟨⟨z6, z5⟩, hD'⟩ := dm2 hI.2.1 hnew dd
      obtain ⟨G, hG⟩ : ∃ G : Value → World → Prop, ∀ x w', G x w' ↔ ((∀ j y, vf j = some y → (fun k => if k = 2 then true else listed.getD k false) j = true → (fun k => if k = 2 then x else val k) j = y) ∧ Dn12 (listed.getD 0 false) (listed.getD 1 false) true (listed.getD 3 false) (listed.getD 4 false) (listed.getD 5 false) (listed.getD 6 false) ∧ X12 P0 P4 P5 (listed.getD 5 false) (listed.getD 6 false) (val 5) w') := ⟨_, fun _ _ => Iff.rfl⟩
      refine Oper.wp_mono (K := fun a' w' => ∃ v, a' = b.put (some 77) v ∧ G v w') (by rintro a' w' ⟨v, rfl, hv⟩; exact ⟨v, rfl, (hG v w').1 hv⟩) ?_
      have HG := Hid.hide hG
      have HI := Hid.hide hI
      have HVF := Hid.hide hvf
      have HD3 := Hid.hide hD'
      have HP := Hid.hide ((hP0 W).1 (hI.2.2.old z6))
      have HZ : Hid (listed.getD 6 false = false ∧ listed.getD 5 false = false) := ⟨z6, z5⟩
      clear hG ho hdeps hsat hI hnew hvf hD' z6 z5 dd
      go_simp
      go_at_call 40
      refine (HNam.out W HP.out).mono ?_
      rintro e w9 ⟨rfl, hb9⟩
      refine ⟨_, rfl, (HG.out _ _).2 ⟨vals_step HI.out.1 (by rw [HVF.out]; rfl), HD3.out, ⟨fun _ => (hP0 w9).2 (Below.behind HP.out hb9), fun q => ?_, fun q => ?_⟩⟩⟩
      ·rw [HZ.out.2] at q; cases q
      ·rw [HZ.out.1] at q; cases q
     | 3, _ =>
      obtain rfl := Option.some.inj ho
      have t18 : b.tmps[18]? = some (.pointer (some ⟨w15.heap.size, 0, none⟩)) := (hsat.rest 18 (fun i _ => noDst_of (by kernel_rfl) i)).trans rfl
      obtain ⟨z6, hD'⟩ := dm3 hI.2.1 hnew
      have hP := (hP0 W).1 (hI.2.2.old z6)
      refine wp_load_mid 85 (.tmp 18) rfl w15.heap.size 0 (by simp only [Act.eval, Array.getD_eq_getD_getElem?, t18, Option.getD_some]) AA.toList _ (HM16.out.2 W hP) hu85 rfl hz85 ?_
      exact ⟨_, rfl, vals_step hI.1 (by rw [hvf]; rfl), hD', hI.2.2⟩
     | 4, _ =>
      obtain rfl := Option.some.inj ho
      have t78 : b.tmps[78]? = some (.agg AA) := (hsat.done 3 78 (hdeps ⟨3, .data⟩ (by simp) rfl) rfl (by simp)).trans (congrArg some (hI.1 3 _ (by rw [hvf]; rfl) (hdeps ⟨3, .data⟩ (by simp) rfl)))
      have dd := hdeps ⟨3, .data⟩ (by simp) rfl
      obtain ⟨⟨z6, z5⟩, hD'⟩ := dm4 hI.2.1 hnew dd
      obtain ⟨G, hG⟩ : ∃ G : Value → World → Prop, ∀ x w', G x w' ↔ ((∀ j y, vf j = some y → (fun k => if k = 4 then true else listed.getD k false) j = true → (fun k => if k = 4 then x else val k) j = y) ∧ Dn12 (listed.getD 0 false) (listed.getD 1 false) (listed.getD 2 false) (listed.getD 3 false) true (listed.getD 5 false) (listed.getD 6 false) ∧ X12 P0 P4 P5 (listed.getD 5 false) (listed.getD 6 false) (val 5) w') := ⟨_, fun _ _ => Iff.rfl⟩
      refine Oper.wp_mono (K := fun a' w' => ∃ v, a' = b.put (some 79) v ∧ G v w') (by rintro a' w' ⟨v, rfl, hv⟩; exact ⟨v, rfl, (hG v w').1 hv⟩) ?_
      have HG := Hid.hide hG
      have HI := Hid.hide hI
      have HVF := Hid.hide hvf
      have HD3 := Hid.hide hD'
      have HP := Hid.hide ((hP0 W).1 (hI.2.2.old z6))
      have HZ : Hid (listed.getD 6 false = false ∧ listed.getD 5 false = false) := ⟨z6, z5⟩
      clear hG ho hdeps hsat hI hnew hvf hD' z6 z5 dd
      go_simp
      go_at_call 41
      refine (HEnc.out W).mono ?_
      rintro e w9 ⟨rfl, hb9⟩
      refine ⟨_, rfl, (HG.out _ _).2 ⟨vals_step HI.out.1 (by rw [HVF.out]; rfl), HD3.out, ⟨fun _ => (hP0 w9).2 (Below.behind HP.out hb9), fun q => ?_, fun q => ?_⟩⟩⟩
      ·rw [HZ.out.2] at q; cases q
      ·rw [HZ.out.1] at q; cases q
     | 5, _ =>
      obtain rfl := Option.some.inj ho
      have t75 : b.tmps[75]? = some (.agg #[.slice qk o.length dk, .slice qv o.length dv]) := (hsat.done 0 75 (hdeps ⟨0, .data⟩ (by simp) rfl) rfl (by simp)).trans (congrArg some (hI.1 0 _ (by rw [hvf]; rfl) (hdeps ⟨0, .data⟩ (by simp) rfl)))
      have t77 : b.tmps[77]? = some (.agg (DO.map encB).toArray) := (hsat.done 2 77 (hdeps ⟨2, .data⟩ (by simp) rfl) rfl (by simp)).trans (congrArg some (hI.1 2 _ (by rw [hvf]; rfl) (hdeps ⟨2, .data⟩ (by simp) rfl)))
      have t79 : b.tmps[79]? = some (.string EA) := (hsat.done 4 79 (hdeps ⟨4, .data⟩ (by simp) rfl) rfl (by simp)).trans (congrArg some (hI.1 4 _ (by rw [hvf]; rfl) (hdeps ⟨4, .data⟩ (by simp) rfl)))
      have d0 := hdeps ⟨0, .data⟩ (by simp) rfl
      have d2 := hdeps ⟨2, .data⟩ (by simp) rfl
      have d4 := hdeps ⟨4, .data⟩ (by simp) rfl
      obtain ⟨z6, hD'⟩ := dm5 hI.2.1 hnew d0 d2 d4
      obtain ⟨G, hG⟩ : ∃ G : Value → World → Prop, ∀ x w', G x w' ↔ ((∀ j y, vf j = some y → (fun k => if k = 5 then true else listed.getD k false) j = true → (fun k => if k = 5 then x else val k) j = y) ∧ Dn12 (listed.getD 0 false) (listed.getD 1 false) (listed.getD 2 false) (listed.getD 3 false) (listed.getD 4 false) true (listed.getD 6 false) ∧ X12 P0 P4 P5 true (listed.getD 6 false) x w') := ⟨_, fun _ _ => Iff.rfl⟩
      refine Oper.wp_mono (K := fun a' w' => ∃ v, a' = b.put (some 80) v ∧ G v w') (by rintro a' w' ⟨v, rfl, hv⟩; exact ⟨v, rfl, (hG v w').1 hv⟩) ?_
      have HG := Hid.hide hG
      have HI := Hid.hide hI
      have HVF := Hid.hide hvf
      have HD4 := Hid.hide hD'
      have HP := Hid.hide ((hP0 W).1 (hI.2.2.old z6))
      have HZ : Hid (listed.getD 6 false = false) := z6
      have HW := Hid.hide (kwith_any (K := DO.toArray) (HM16.out.1.more HP.out).kn2 (by have := HD.out.2.2.2.1; omega) HDO.out.1 HDO.out.2 HEA.out.1 HEA.out.2)
      dsimp only at HW
      clear hG ho hdeps hsat hI hnew hvf hD' z6 d0 d2 d4
      go_simp
      go_at_call 39
      refine HW.out.mono ?_
      rintro e w9 ⟨hb9, ks', vs', rfl, hk9⟩
      rw [ho'] at hk9
      refine ⟨_, rfl, (HG.out _ _).2 ⟨vals_free HI.out.1 (by rw [HVF.out]; rfl), HD4.out, ⟨fun _ => (hP0 w9).2 (Below.behind HP.out hb9), fun _ _ => (hP4 _ _).2 ⟨ks', vs', rfl, _, hk9, HP.out.size⟩, fun q => ?_⟩⟩⟩
      rw [HZ.out] at q; cases q
     | 6, _ =>
      obtain rfl := Option.some.inj ho
      have t12 : b.tmps[12]? = some (.pointer (some ⟨w3.heap.size, 0, none⟩)) := (hsat.rest 12 (fun i _ => noDst_of (by kernel_rfl) i)).trans rfl
      have d5 := hdeps ⟨5, .data⟩ (by simp) rfl
      have hD' := dm6 hI.2.1 d5
      have hP := (hP0 W).1 (hI.2.2.old hnew)
      obtain ⟨ks', vs', hv5, C5, hk5, hC5⟩ := (hP4 _ _).1 (hI.2.2.kn d5 hnew)
      obtain ⟨a1, b1, cc1, rfl⟩ := hk5.keys.shape
      obtain ⟨a2, b2, cc2, rfl⟩ := hk5.vals.shape
      obtain ⟨rfl, rfl⟩ := hk5.len
      have t80 : b.tmps[80]? = some (.agg #[.slice a1 o'.length cc1, .slice a2 o'.length cc2]) := (hsat.done 5 80 d5 rfl (by simp)).trans (congrArg some hv5)
      have hbox := (HM16.out.1.more hP).box2
      obtain ⟨z0, z1, f0, f1⟩ := box_cells hbox
      obtain ⟨hbx, hon⟩ := box_set hbox (.slice a1 o'.length cc1) (.slice a2 o'.length cc2)
      have hfin : P5 ((W.setCell ⟨w3.heap.size, 0, none⟩ (.slice a1 o'.length cc1)).setCell ⟨w3.heap.size, 1, none⟩ (.slice a2 o'.length cc2)) := by
       have hkb : ∀ j, Value.ownBlock (.slice a1 o'.length cc1) = some j ∨ Value.ownBlock (.slice a2 o'.length cc2) = some j → C5 ≤ j ∧ j < W.heap.size := fun j hj => hj.elim (hk5.keys.block j) (hk5.vals.block j)
       have h3 := (HM16.out.1.lt w3.heap.size (by simp [StoU])).1
       have hk' := hk5.keep2 hon.size fun j hj => hon.block j (hkb j hj).2 (by have := (hkb j hj).1; omega)
       exact (hP5 _).2 ⟨(Only.of_below hP).trans hon, a1, cc1, a2, cc2, hbx, C5, hk', hC5⟩
      refine Oper.wp_mono (K := fun a' w' => a' = b ∧ w' = (W.setCell ⟨w3.heap.size, 0, none⟩ (.slice a1 o'.length cc1)).setCell ⟨w3.heap.size, 1, none⟩ (.slice a2 o'.length cc2)) (by rintro a' w' ⟨rfl, rfl⟩; exact ⟨undef, rfl, vals_free hI.1 (by rw [hvf]; rfl), hD', ⟨fun q => (by cases q), fun _ q => (by cases q), fun _ => hfin⟩⟩) ?_
      clear ho hdeps hsat hI hnew hvf hP hD' hfin hbx hon hk5 hC5 hv5 hbox
      go_simp
    ·exact ⟨fun _ _ _ h => (by simp at h), by decide, ⟨fun _ => (hP0 _).2 (Below.refl _ _).drew, fun q => (by simp at q), fun q => (by simp at q)⟩⟩
    ·intro val W hI
     have e0 : val 0 = .agg #[.slice qk o.length dk, .slice qv o.length dv] := hI.1 0 _ (by rw [hvf]; rfl) rfl
     have e1 : val 1 = .agg (ow.map encB).toArray := hI.1 1 _ (by rw [hvf]; rfl) rfl
     have e2 : val 2 = .agg (DO.map encB).toArray := hI.1 2 _ (by rw [hvf]; rfl) rfl
     have e3 : val 3 = .agg AA := hI.1 3 _ (by rw [hvf]; rfl) rfl
     have e4 : val 4 = .string EA := hI.1 4 _ (by rw [hvf]; rfl) rfl
     have hX := hI.2
     simp only [runFrom, Act.put, Nat.zero_add, Nat.reduceAdd, List.setIfInBounds_toArray, List.set_cons_zero, List.set_cons_succ, e0, e1, e2, e3, e4]
     clear hI hvf e0 e1 e2 e3 e4
     have HY : Hid (P5 W) := hX.2.fin rfl
     clear hX
     (try go_wp2)
     go_meet
     exact (hP5 W).1 HY.out
   case rest => as_aux_lemma =>
    obtain ⟨hon, a1, cc1, a2, cc2, hbx, C, hk, hC⟩ := hcut
    obtain ⟨w17, rfl⟩ : ∃ x, x = wc := ⟨_, rfl⟩
    have hn2 := HN2.out
    have hB3 : w3.heap.size < wB.heap.size := (HC.out.1.lt _ (by simp [StoU])).1
    have hfo16 : Forest wB.heap.size S w16 := (H14.out.1.forest.below H15.out.1).below H16.out.1
    have hfo17 : Forest wB.heap.size S w17 := forest_only hfo16 hon (H11.out.2.2.2.2.2.2 _ hB3)
    have hta17 : TreeAt S w17 bs ts := (((H13.out.2.2.2.1.frame H14.out.1).frame ((Fr.of_below H14.out.1.forest H15.out.1).behind H16.out.1))).only hon (by have := HBS.out.2; omega)
    have hM17 : StoM w ow nb w1.heap.size w3.heap.size sb ab (.slice p1 mm.length c1) (.slice p2 mm.length c2) (.slice a1 o'.length cc1) (.slice a2 o'.length cc2) mm o' sl (digB sl) w17 :=
     HM16.out.1.set2 hon ⟨by omega, by omega, by omega, by omega, by omega, fun e => HBN.out _ (.inl e) rfl, fun e => HBN.out _ (.inr e) rfl⟩ ⟨hk.keys.mono (by have := HM16.out.1.below.size; omega), hk.vals.mono (by have := HM16.out.1.below.size; omega), hk.ok, hk.apart⟩ hbx
    have hU17 : ∀ k, StoU w w1.heap.size w3.heap.size sb ab (.slice p1 mm.length c1) (.slice p2 mm.length c2) (.slice a1 o'.length cc1) (.slice a2 o'.length cc2) k → S k = none := by
     have hold : ∀ k, StoU w w1.heap.size w3.heap.size sb ab (.slice p1 mm.length c1) (.slice p2 mm.length c2) (.slice qk o.length dk) (.slice qv o.length dv) k → S k = none := fun k hk' => H11.out.2.2.2.2.2.2 k (HC.out.1.lt k hk').1
     rintro k (e | e | e | e | e | e | e | e | e | e)
     ·exact hold k (.inl e)
     ·exact hold k (.inr (.inl e))
     ·exact hold k (.inr (.inr (.inl e)))
     ·exact hold k (.inr (.inr (.inr (.inl e))))
     ·exact hold k (.inr (.inr (.inr (.inr (.inl e)))))
     ·exact hold k (.inr (.inr (.inr (.inr (.inr (.inl e))))))
     ·exact hold k (by simp [StoU, e])
     ·exact hold k (by simp [StoU, e])
     ·exact hfo16.fresh (by have := (hk.keys.block k e).1; omega)
     ·exact hfo16.fresh (by have := (hk.vals.block k e).1; omega)
    have hod : (o'.map (·.1)).Nodup ∧ o'.length ≤ 13 := by
     rw [← HO'.out]
     exact ⟨wi_dup HD.out.2.2.1 _ _, Nat.le_trans (wi_len _ _ _) (by have := HD.out.2.2.2.1; omega)⟩
    obtain ⟨z0, z1, -⟩ := box_cells hM17.box2
    have HTr := Hid.hide (ktree_any hM17.kn2 (Nat.le_refl _) (Below.refl _ _) (forest_none w17) (by omega) (pth_dup hod.1) false)
    have H17 : Hid (Forest wB.heap.size S w17 ∧ TreeAt S w17 bs ts ∧ StoM w ow nb w1.heap.size w3.heap.size sb ab (.slice p1 mm.length c1) (.slice p2 mm.length c2) (.slice a1 o'.length cc1) (.slice a2 o'.length cc2) mm o' sl (digB sl) w17 ∧ (∀ k, StoU w w1.heap.size w3.heap.size sb ab (.slice p1 mm.length c1) (.slice p2 mm.length c2) (.slice a1 o'.length cc1) (.slice a2 o'.length cc2) k → S k = none) ∧ (o'.map (·.1)).Nodup ∧ o'.length ≤ 13) := ⟨hfo17, hta17, hM17, hU17, hod⟩
    clear hn2 hB3 hfo16 hfo17 hta17 hM17 hU17 hod hon hbx hk hC HEA HEnc HNam HDO
    go_wp2_with fail
    refine HTr.out.mono ?_
    rintro e w18 ⟨bt, hbt, rfl, T, ht, hf⟩
    have hj := FrX.join H17.out.1 hf
    have htj : Tells (Wood.join w17.heap.size S T) w18 bt (getN o') := ht.join hf hbt
    have hM18 := H17.out.2.2.1.fr (forest_none w17) H17.out.2.2.1.below.size hf fun _ _ => rfl
    obtain ⟨J, hJ⟩ : ∃ J, Wood.join w17.heap.size S T = J := ⟨_, rfl⟩
    have hUJ : ∀ k, StoU w w1.heap.size w3.heap.size sb ab (.slice p1 mm.length c1) (.slice p2 mm.length c2) (.slice a1 o'.length cc1) (.slice a2 o'.length cc2) k → J k = none := fun k hk => by
     rw [← hJ, Wood.join, if_pos (H17.out.2.2.1.lt k hk).1]
     exact H17.out.2.2.2.1 k hk
    rw [hJ] at hj htj
    have htas : TreeAt J w18 bs ts := H17.out.2.1.framex hj fun h => h
    obtain ⟨tt, htt, hct, hgt⟩ := htj.ex
    have H18 : Hid (Forest wB.heap.size J w18 ∧ TreeAt J w18 bs ts ∧ TreeAt J w18 bt tt ∧ tt.can 64 ∧ (∀ s, s.length = 64 → tt.get s = getN o' s) ∧ StoM w ow nb w1.heap.size w3.heap.size sb ab (.slice p1 mm.length c1) (.slice p2 mm.length c2) (.slice a1 o'.length cc1) (.slice a2 o'.length cc2) mm o' sl (digB sl) w18 ∧ (∀ k, StoU w w1.heap.size w3.heap.size sb ab (.slice p1 mm.length c1) (.slice p2 mm.length c2) (.slice a1 o'.length cc1) (.slice a2 o'.length cc2) k → J k = none)) := ⟨hj.forest, htas, htt, hct, hgt, hM18, hUJ⟩
    clear hbt ht hf hj htj hM18 hJ hUJ htas htt hct hgt HTr z0 z1
    have hrO := H18.out.2.2.2.2.2.1.own
    go_wp2_with (refine wpList_load_mid rfl 80 _ rfl w.heap.size 0 rfl (ow.map encB) _ hrO hu80 rfl hz80 ?_)
    obtain ⟨q1, q2⟩ := HT.out w18 H18.out.2.2.2.2.2.1.below
    have HNm := Hid.hide (named_l ow HL.out.1 q1 q2)
    rw [HAcc.out.2.2.2] at HNm
    clear q1 q2 hrO
    refine HNm.out.mono ?_
    rintro e w19 ⟨rfl, hb19⟩
    have hf19 := Fr.of_below H18.out.1 hb19
    have hM19 := H18.out.2.2.2.2.2.1.more hb19
    have hkDO := digB_key ow
    rw [HAcc.out.2.2.2] at hkDO
    obtain ⟨L1, hL1⟩ : ∃ L, tt.prove (textB (nibs DO)) = L := ⟨_, rfl⟩
    have HPr := Hid.hide (xprove_l hf19.forest (HT.out _ hM19.below).1 (Nat.le_trans HE.out.1.low HC.out.1.below.size) (H18.out.2.2.1.frame hf19) H18.out.2.2.2.1 hkDO.1 hkDO.2 (L := L1) hL1)
    have H19 : Hid (Below w18.heap.size w18 w19) := hb19
    clear hb19 hf19 hM19 hkDO
    go_wp2_with fail
    refine HPr.out.mono ?_
    rintro e w20 ⟨r1, d1, rfl, hf20, hr1, hi1⟩
    have hF20 : Fr wB.heap.size J J w18 w20 := (Fr.of_below H18.out.1 H19.out).trans hf20
    have H20 : Hid (Fr wB.heap.size J J w18 w20 ∧ StrRow w20 r1 (L1.map textB) d1 ∧ (∀ a, r1 = some a → w18.heap.size ≤ a.block ∧ a.block < w20.heap.size)) := ⟨hF20, hr1, fun a ha => ⟨Nat.le_trans H19.out.size (hi1 a ha).1, (hi1 a ha).2⟩⟩
    have hM20 := H18.out.2.2.2.2.2.1.fr H18.out.1 HC.out.1.below.size (hF20.x _) H18.out.2.2.2.2.2.2
    have hrA := hM20.at_
    have hkS := digB_key sl
    obtain ⟨L2, hL2⟩ : ∃ L, ts.prove (textB (nibs (digB sl))) = L := ⟨_, rfl⟩
    have HPs := Hid.hide (xprove_l hF20.forest (HT.out _ hM20.below).1 (Nat.le_trans HE.out.1.low HC.out.1.below.size) (H18.out.2.1.frame hF20) H11.out.2.2.1 hkS.1 hkS.2 (L := L2) hL2)
    have hz26 : (Tryz.prog.info? 26).map (·.size) = some (sl.map encB).length := by rw [size51]; simp [HD.out.2.2.2.2.1]
    have hz26D : (Tryz.prog.info? 26).map (·.size) = some ((digB sl).map encB).length := by rw [size51]; simp [digB_length]
    have hz80n : (Tryz.prog.info? 80).map (·.size) = some (nb.map encB).length := by rw [size80]; simp [HL.out.2]
    have HLL : Hid (tt.prove (textB (nibs DO)) = L1 ∧ ts.prove (textB (nibs (digB sl))) = L2) := ⟨hL1, hL2⟩
    clear hF20 hf20 hr1 hi1 hM20 hkS hL1 hL2 HPr
    go_wp2_with (refine wpList_load_mid rfl 26 _ rfl ab 0 rfl ((digB sl).map encB) _ hrA hu26 rfl hz26D ?_)
    refine HPs.out.mono ?_
    rintro e w21 ⟨r2, d2, rfl, hf21, hr2, hi2⟩
    have hF21 := H20.out.1.trans hf21
    have hQ : StoQ w ow nb w1.heap.size w3.heap.size sb ab (.slice p1 mm.length c1) (.slice p2 mm.length c2) (.slice a1 o'.length cc1) (.slice a2 o'.length cc2) mm o' sl (digB sl) wB.heap.size J bt tt r1 (L1.map textB) d1 r2 (L2.map textB) d2 w21 :=
     ⟨H18.out.2.2.2.2.2.1.fr H18.out.1 HC.out.1.below.size (hF21.x _) H18.out.2.2.2.2.2.2, hF21.forest, H18.out.2.2.1.frame hF21, H18.out.2.2.2.2.2.2,
      H20.out.2.1.frame hf21 (fun a ha => H18.out.1.fresh (H20.out.2.2 a ha).1), fun a ha => ⟨H18.out.1.fresh (H20.out.2.2 a ha).1, Nat.lt_of_lt_of_le (H20.out.2.2 a ha).2 hf21.size⟩,
      hr2, fun a ha => ⟨H18.out.1.fresh (Nat.le_trans H20.out.1.size (hi2 a ha).1), (hi2 a ha).2⟩⟩
    have hKit := StoQ.kit w ow nb w1.heap.size w3.heap.size sb ab (.slice p1 mm.length c1) (.slice p2 mm.length c2) (.slice a1 o'.length cc1) (.slice a2 o'.length cc2) mm o' sl (digB sl) wB.heap.size HC.out.1.below.size J bt tt r1 (L1.map textB) d1 r2 (L2.map textB) d2
    obtain ⟨DS, hDS⟩ : ∃ D, digB sl = D := ⟨_, rfl⟩
    have hkO := digB_key ow
    rw [HAcc.out.2.2.2] at hkO
    have hkS := digB_key sl
    have hL2 := HLL.out.2
    rw [hDS] at hkS hL2
    have hb1 := prove_row_ok H18.out.2.2.2.1 hkO.1 hkO.2 HLL.out.1
    have hb2 := prove_row_ok H11.out.2.2.1 hkS.1 hkS.2 hL2
    obtain ⟨ov, hov⟩ : ∃ ov, getN mm (nibs DS) = ov := ⟨_, rfl⟩
    obtain ⟨TD, hTD⟩ : ∃ D, tt.dig = D := ⟨_, rfl⟩
    have hTl := dig_ok H18.out.2.2.2.1 hTD
    have hst : storF TD ow sl L1 L2 = .ok ov := stor_honest' H18.out.2.2.2.1 H11.out.2.2.1 HAcc.out.2.1 (by rw [HAcc.out.1]; exact H14.out.2.1) HAcc.out.2.2.2 hDS HAcc.out.2.2.1 HO'.out H18.out.2.2.2.2.1 HD.out.2.2.1 H11.out.2.2.2.1 hTD HLL.out.1 hL2 hov
    obtain ⟨os, hos⟩ : ∃ os, ov.getD ⟨#[]⟩ = os := ⟨_, rfl⟩
    obtain ⟨ob, hob⟩ : ∃ ob, ov.isSome = ob := ⟨_, rfl⟩
    obtain ⟨P, hP⟩ : ∃ P, StoQ w ow nb w1.heap.size w3.heap.size sb ab (.slice p1 mm.length c1) (.slice p2 mm.length c2) (.slice a1 o'.length cc1) (.slice a2 o'.length cc2) mm o' sl (digB sl) wB.heap.size J bt tt r1 (L1.map textB) d1 r2 (L2.map textB) d2 = P := ⟨_, rfl⟩
    obtain ⟨F, hF⟩ : ∃ F, StoF w (StoU w w1.heap.size w3.heap.size sb ab (.slice p1 mm.length c1) (.slice p2 mm.length c2) (.slice a1 o'.length cc1) (.slice a2 o'.length cc2)) J bt r1 r2 = F := ⟨_, rfl⟩
    rw [hP, hF] at hKit
    rw [hP] at hQ
    have HKit := Hid.hide hKit
    have HQ : Hid (∀ W, P W → StoQ w ow nb w1.heap.size w3.heap.size sb ab (.slice p1 mm.length c1) (.slice p2 mm.length c2) (.slice a1 o'.length cc1) (.slice a2 o'.length cc2) mm o' sl (digB sl) wB.heap.size J bt tt r1 (L1.map textB) d1 r2 (L2.map textB) d2 W) := fun W h => by rw [← hP] at h; exact h
    have HFF : Hid (∀ k, F k → StoF w (StoU w w1.heap.size w3.heap.size sb ab (.slice p1 mm.length c1) (.slice p2 mm.length c2) (.slice a1 o'.length cc1) (.slice a2 o'.length cc2)) J bt r1 r2 k) := fun k h => by rw [← hF] at h; exact h
    have HMem : Hid (∀ W, P W → StoM w ow nb w1.heap.size w3.heap.size sb ab (.slice p1 mm.length c1) (.slice p2 mm.length c2) (.slice a1 o'.length cc1) (.slice a2 o'.length cc2) mm o' sl (digB sl) W) := fun W h => (HQ.out W h).mem
    have HSt : Hid (P w21.drew) := hKit.more _ _ hQ (Below.refl _ _).drew
    have HRt : Hid (∀ W, P W → Calls Tryz.prog 16 #[.pointer (some ⟨bt, 0, none⟩)] W fun e w' => e = .returned (.agg (TD.map encB).toArray) ∧ Fr wB.heap.size J J W w') := fun W h => by
     have q := HQ.out W h
     have := xroot_any q.wood (HT.out W q.mem.below).1 (Nat.le_trans HE.out.1.low HC.out.1.below.size) q.tree
     rw [hTD] at this
     exact this
    have HVs : Hid (∀ W, P W → Calls Tryz.prog 42 #[.agg (TD.map encB).toArray, .agg (ow.map encB).toArray, .agg (sl.map encB).toArray, .slice r1 L1.length d1, .slice r2 L2.length d2] W fun e w' => e = .returned (.tuple #[.string os, .bool ob, faultV 0 0 0 0]) ∧ Below W.heap.size W w') := fun W h => by
     have q := HQ.out W h
     have := xstor_codes sent HE.out q.mem.below TD ow sl L1 L2 r1 r2 d1 d2 hTl.1 hTl.2 HL.out.1 HD.out.2.2.2.2.1 q.row1 q.row2 hb1.2 hb2.2 hb1.1 hb2.1 hst
     rw [show verStr (.ok ov) = os from hos, show verHas (.ok ov) = ob from hob] at this
     exact this
    have HOV : Hid (getN mm (nibs DS) = ov ∧ ov.getD ⟨#[]⟩ = os ∧ ov.isSome = ob ∧ tt.dig = TD ∧ TD.length = 32 ∧ ∀ x ∈ TD, x < 256) := ⟨hov, hos, hob, hTD, hTl⟩
    have HDS : Hid (digB sl = DS ∧ DS.toArray.size = 32 ∧ Bytes DS.toArray) := ⟨hDS, hkS⟩
    clear hF21 hf21 hr2 hi2 hQ hKit hst hb1 hb2 hov hTD hTl hDS hkO hkS hL2 hos hob hP hF HPs hrA
    go_upto_region 18 with fail
    go_cut [24, 25, 26] (fun a b c wc => a = .string os ∧ b = .bool ob ∧ FtY P F (.int .i64 0) (.int .i64 0) (.int .i64 0) (.int .i64 0) false undef true c true wc)
    case first => as_aux_lemma =>
     refine wp_region_any (by kernel_rfl) ?_
     change wpAny _ _ _ _ _ _ _ (World.drew _)
     obtain ⟨vf, hvf⟩ : ∃ vf : Nat → Option Value, vf = fun i => ([some (.pointer (some ⟨bt, 0, none⟩)), some (.agg (TD.map encB).toArray), some (.agg (ow.map encB).toArray), some (.agg (sl.map encB).toArray), some (.slice r1 L1.length d1), some (.slice r2 L2.length d2), some (.tuple #[.string os, .bool ob, faultV 0 0 0 0]), some (.tuple #[.string os, .bool ob, faultV 0 0 0 0]), some (.string os), some (.bool ob), some (faultV 0 0 0 0), none, some (.string os), some (.bool ob), none] : List (Option Value)).getD i none := ⟨_, rfl⟩
     refine wpAny_vary _ (fun d v w' => (∀ i x, vf i = some x → d i = true → v i = x) ∧ (fun d v w' => FtY P F (.int .i64 0) (.int .i64 0) (.int .i64 0) (.int .i64 0) false undef (d 11) (v 11) (d 14) w') d v w') (by kernel_rfl) (by kernel_rfl) ?_ _ (fun _ => undef) ?_ ?_
     ·intro i o ho listed val b W hsat hnew hdeps hI
      have hi : i < 15 := (Array.getElem?_eq_some_iff.1 ho).1
      match i, hi with
      | 0, _ =>
       obtain rfl := Option.some.inj ho
       have t19 : b.tmps[19]? = some (.pointer (some ⟨bt, 0, none⟩)) := (hsat.rest 19 (fun i _ => noDst_of (by kernel_rfl) i)).trans rfl
       refine Oper.wp_mono (K := fun a' w' => a' = b.put (some 102) (.pointer (some ⟨bt, 0, none⟩)) ∧ w' = W) (by rintro a' w' ⟨rfl, rfl⟩; exact ⟨_, rfl, vals_step hI.1 (by rw [hvf]; rfl), hI.2⟩) ?_
       clear ho hdeps hsat hI hnew hvf
       go_simp
      | 1, _ =>
       obtain rfl := Option.some.inj ho
       have t102 : b.tmps[102]? = some (.pointer (some ⟨bt, 0, none⟩)) := (hsat.done 0 102 (hdeps ⟨0, .data⟩ (by simp) rfl) rfl (by simp)).trans (congrArg some (hI.1 0 _ (by rw [hvf]; rfl) (hdeps ⟨0, .data⟩ (by simp) rfl)))
       obtain ⟨G, hG⟩ : ∃ G : Value → World → Prop, ∀ x w', G x w' ↔ ((∀ j y, vf j = some y → (fun k => if k = 1 then true else listed.getD k false) j = true → (fun k => if k = 1 then x else val k) j = y) ∧ FtY P F (.int .i64 0) (.int .i64 0) (.int .i64 0) (.int .i64 0) false undef (listed.getD 11 false) (val 11) (listed.getD 14 false) w') := ⟨_, fun _ _ => Iff.rfl⟩
       refine Oper.wp_mono (K := fun a' w' => ∃ v, a' = b.put (some 103) v ∧ G v w') (by rintro a' w' ⟨v, rfl, hv⟩; exact ⟨v, rfl, (hG v w').1 hv⟩) ?_
       have HG := Hid.hide hG
       have HI := Hid.hide hI
       have HVF := Hid.hide hvf
       clear hG ho hdeps hsat hI hnew hvf
       go_simp
       go_at_call 16
       refine (HRt.out W HI.out.2.all).mono ?_
       rintro e w9 ⟨rfl, hb9⟩
       exact ⟨_, rfl, (HG.out _ _).2 ⟨vals_step HI.out.1 (by rw [HVF.out]; rfl), HI.out.2.fr HKit.out hb9⟩⟩
      | 2, _ =>
       obtain rfl := Option.some.inj ho
       have t7 : b.tmps[7]? = some (.pointer (some ⟨w.heap.size, 0, none⟩)) := (hsat.rest 7 (fun i _ => noDst_of (by kernel_rfl) i)).trans rfl
       refine wp_load_mid 80 (.tmp 7) rfl w.heap.size 0 (by simp only [Act.eval, Array.getD_eq_getD_getElem?, t7, Option.getD_some]) (ow.map encB) _ (HMem.out W hI.2.all).own hu80 rfl hz80 ?_
       exact ⟨_, rfl, vals_step hI.1 (by rw [hvf]; rfl), hI.2⟩
      | 3, _ =>
       obtain rfl := Option.some.inj ho
       have t14 : b.tmps[14]? = some (.pointer (some ⟨sb, 0, none⟩)) := (hsat.rest 14 (fun i _ => noDst_of (by kernel_rfl) i)).trans rfl
       refine wp_load_mid 26 (.tmp 14) rfl sb 0 (by simp only [Act.eval, Array.getD_eq_getD_getElem?, t14, Option.getD_some]) (sl.map encB) _ (HMem.out W hI.2.all).slot hu26 rfl hz26 ?_
       exact ⟨_, rfl, vals_step hI.1 (by rw [hvf]; rfl), hI.2⟩
      | 4, _ =>
       obtain rfl := Option.some.inj ho
       have t20 : b.tmps[20]? = some (.slice r1 L1.length d1) := (hsat.rest 20 (fun i _ => noDst_of (by kernel_rfl) i)).trans rfl
       refine Oper.wp_mono (K := fun a' w' => a' = b.put (some 106) (.slice r1 L1.length d1) ∧ w' = W) (by rintro a' w' ⟨rfl, rfl⟩; exact ⟨_, rfl, vals_step hI.1 (by rw [hvf]; rfl), hI.2⟩) ?_
       clear ho hdeps hsat hI hnew hvf
       go_simp
      | 5, _ =>
       obtain rfl := Option.some.inj ho
       have t22 : b.tmps[22]? = some (.slice r2 L2.length d2) := (hsat.rest 22 (fun i _ => noDst_of (by kernel_rfl) i)).trans rfl
       refine Oper.wp_mono (K := fun a' w' => a' = b.put (some 107) (.slice r2 L2.length d2) ∧ w' = W) (by rintro a' w' ⟨rfl, rfl⟩; exact ⟨_, rfl, vals_step hI.1 (by rw [hvf]; rfl), hI.2⟩) ?_
       clear ho hdeps hsat hI hnew hvf
       go_simp
      | 6, _ =>
       obtain rfl := Option.some.inj ho
       have t103 : b.tmps[103]? = some (.agg (TD.map encB).toArray) := (hsat.done 1 103 (hdeps ⟨1, .data⟩ (by simp) rfl) rfl (by simp)).trans (congrArg some (hI.1 1 _ (by rw [hvf]; rfl) (hdeps ⟨1, .data⟩ (by simp) rfl)))
       have t104 : b.tmps[104]? = some (.agg (ow.map encB).toArray) := (hsat.done 2 104 (hdeps ⟨2, .data⟩ (by simp) rfl) rfl (by simp)).trans (congrArg some (hI.1 2 _ (by rw [hvf]; rfl) (hdeps ⟨2, .data⟩ (by simp) rfl)))
       have t105 : b.tmps[105]? = some (.agg (sl.map encB).toArray) := (hsat.done 3 105 (hdeps ⟨3, .data⟩ (by simp) rfl) rfl (by simp)).trans (congrArg some (hI.1 3 _ (by rw [hvf]; rfl) (hdeps ⟨3, .data⟩ (by simp) rfl)))
       have t106 : b.tmps[106]? = some (.slice r1 L1.length d1) := (hsat.done 4 106 (hdeps ⟨4, .data⟩ (by simp) rfl) rfl (by simp)).trans (congrArg some (hI.1 4 _ (by rw [hvf]; rfl) (hdeps ⟨4, .data⟩ (by simp) rfl)))
       have t107 : b.tmps[107]? = some (.slice r2 L2.length d2) := (hsat.done 5 107 (hdeps ⟨5, .data⟩ (by simp) rfl) rfl (by simp)).trans (congrArg some (hI.1 5 _ (by rw [hvf]; rfl) (hdeps ⟨5, .data⟩ (by simp) rfl)))
       obtain ⟨G, hG⟩ : ∃ G : Value → World → Prop, ∀ x w', G x w' ↔ ((∀ j y, vf j = some y → (fun k => if k = 6 then true else listed.getD k false) j = true → (fun k => if k = 6 then x else val k) j = y) ∧ FtY P F (.int .i64 0) (.int .i64 0) (.int .i64 0) (.int .i64 0) false undef (listed.getD 11 false) (val 11) (listed.getD 14 false) w') := ⟨_, fun _ _ => Iff.rfl⟩
       refine Oper.wp_mono (K := fun a' w' => ∃ v, a' = b.put (some 108) v ∧ G v w') (by rintro a' w' ⟨v, rfl, hv⟩; exact ⟨v, rfl, (hG v w').1 hv⟩) ?_
       have HG := Hid.hide hG
       have HI := Hid.hide hI
       have HVF := Hid.hide hvf
       clear hG ho hdeps hsat hI hnew hvf
       go_simp
       go_at_call 42
       refine (HVs.out W HI.out.2.all).mono ?_
       rintro e w9 ⟨rfl, hb9⟩
       exact ⟨_, rfl, (HG.out _ _).2 ⟨vals_step HI.out.1 (by rw [HVF.out]; rfl), HI.out.2.more HKit.out hb9⟩⟩
      | 7, _ =>
       obtain rfl := Option.some.inj ho
       have t108 : b.tmps[108]? = some (.tuple #[.string os, .bool ob, faultV 0 0 0 0]) := (hsat.done 6 108 (hdeps ⟨6, .data⟩ (by simp) rfl) rfl (by simp)).trans (congrArg some (hI.1 6 _ (by rw [hvf]; rfl) (hdeps ⟨6, .data⟩ (by simp) rfl)))
       refine Oper.wp_mono (K := fun a' w' => a' = b.put (some 101) (.tuple #[.string os, .bool ob, faultV 0 0 0 0]) ∧ w' = W) (by rintro a' w' ⟨rfl, rfl⟩; exact ⟨_, rfl, vals_step hI.1 (by rw [hvf]; rfl), hI.2⟩) ?_
       clear ho hdeps hsat hI hnew hvf
       go_simp
      | 8, _ =>
       obtain rfl := Option.some.inj ho
       have t101 : b.tmps[101]? = some (.tuple #[.string os, .bool ob, faultV 0 0 0 0]) := (hsat.done 7 101 (hdeps ⟨7, .data⟩ (by simp) rfl) rfl (by simp)).trans (congrArg some (hI.1 7 _ (by rw [hvf]; rfl) (hdeps ⟨7, .data⟩ (by simp) rfl)))
       refine Oper.wp_mono (K := fun a' w' => a' = b.put (some 109) (.string os) ∧ w' = W) (by rintro a' w' ⟨rfl, rfl⟩; exact ⟨_, rfl, vals_step hI.1 (by rw [hvf]; rfl), hI.2⟩) ?_
       clear ho hdeps hsat hI hnew hvf
       go_simp
      | 9, _ =>
       obtain rfl := Option.some.inj ho
       have t101 : b.tmps[101]? = some (.tuple #[.string os, .bool ob, faultV 0 0 0 0]) := (hsat.done 7 101 (hdeps ⟨7, .data⟩ (by simp) rfl) rfl (by simp)).trans (congrArg some (hI.1 7 _ (by rw [hvf]; rfl) (hdeps ⟨7, .data⟩ (by simp) rfl)))
       refine Oper.wp_mono (K := fun a' w' => a' = b.put (some 110) (.bool ob) ∧ w' = W) (by rintro a' w' ⟨rfl, rfl⟩; exact ⟨_, rfl, vals_step hI.1 (by rw [hvf]; rfl), hI.2⟩) ?_
       clear ho hdeps hsat hI hnew hvf
       go_simp
      | 10, _ =>
       obtain rfl := Option.some.inj ho
       have t101 : b.tmps[101]? = some (.tuple #[.string os, .bool ob, faultV 0 0 0 0]) := (hsat.done 7 101 (hdeps ⟨7, .data⟩ (by simp) rfl) rfl (by simp)).trans (congrArg some (hI.1 7 _ (by rw [hvf]; rfl) (hdeps ⟨7, .data⟩ (by simp) rfl)))
       refine Oper.wp_mono (K := fun a' w' => a' = b.put (some 111) (faultV 0 0 0 0) ∧ w' = W) (by rintro a' w' ⟨rfl, rfl⟩; exact ⟨_, rfl, vals_step hI.1 (by rw [hvf]; rfl), hI.2⟩) ?_
       clear ho hdeps hsat hI hnew hvf
       go_simp
      | 11, _ =>
       obtain rfl := Option.some.inj ho
       have hd14 : listed.getD 14 false = false := by
        cases hq : listed.getD 14 false with
        | false => rfl
        | true => exact absurd (hI.2.ft14 hq) (by show ¬ listed.getD 11 false = true; rw [hnew]; simp)
       refine Oper.wp_mono (K := fun a' w' => a' = b.put (some 26) (.pointer (some ⟨W.heap.size, 0, none⟩)) ∧ w' = W.alloc (.cells #[.int .i64 0, .int .i64 0, .int .i64 0, .int .i64 0] 66)) (by rintro a' w' ⟨rfl, rfl⟩; exact ⟨_, rfl, vals_free hI.1 (by rw [hvf]; rfl), hI.2.alloc HKit.out hd14⟩) ?_
       clear ho hdeps hsat hI hnew hvf hd14
       go_simp
      | 12, _ =>
       obtain rfl := Option.some.inj ho
       have t109 : b.tmps[109]? = some (.string os) := (hsat.done 8 109 (hdeps ⟨8, .data⟩ (by simp) rfl) rfl (by simp)).trans (congrArg some (hI.1 8 _ (by rw [hvf]; rfl) (hdeps ⟨8, .data⟩ (by simp) rfl)))
       refine Oper.wp_mono (K := fun a' w' => a' = b.put (some 24) (.string os) ∧ w' = W) (by rintro a' w' ⟨rfl, rfl⟩; exact ⟨_, rfl, vals_step hI.1 (by rw [hvf]; rfl), hI.2⟩) ?_
       clear ho hdeps hsat hI hnew hvf
       go_simp
      | 13, _ =>
       obtain rfl := Option.some.inj ho
       have t110 : b.tmps[110]? = some (.bool ob) := (hsat.done 9 110 (hdeps ⟨9, .data⟩ (by simp) rfl) rfl (by simp)).trans (congrArg some (hI.1 9 _ (by rw [hvf]; rfl) (hdeps ⟨9, .data⟩ (by simp) rfl)))
       refine Oper.wp_mono (K := fun a' w' => a' = b.put (some 25) (.bool ob) ∧ w' = W) (by rintro a' w' ⟨rfl, rfl⟩; exact ⟨_, rfl, vals_step hI.1 (by rw [hvf]; rfl), hI.2⟩) ?_
       clear ho hdeps hsat hI hnew hvf
       go_simp
      | 14, _ =>
       obtain rfl := Option.some.inj ho
       have t111 : b.tmps[111]? = some (faultV 0 0 0 0) := (hsat.done 10 111 (hdeps ⟨10, .data⟩ (by simp) rfl) rfl (by simp)).trans (congrArg some (hI.1 10 _ (by rw [hvf]; rfl) (hdeps ⟨10, .data⟩ (by simp) rfl)))
       have d11 := hdeps ⟨11, .data⟩ (by simp) rfl
       obtain ⟨f, x0, x1, x2, x3, f1, f2, f3, -⟩ := hI.2.ft d11
       have t26 : b.tmps[26]? = some (.pointer (some ⟨f, 0, none⟩)) := (hsat.done 11 26 d11 rfl (by simp)).trans (congrArg some f1)
       refine wp_store_mid 66 (.tmp 26) (.tmp 111) rfl f 0 #[.int .i64 0, .int .i64 0, .int .i64 0, .int .i64 0] (by simp only [Act.eval, Array.getD_eq_getD_getElem?, t26, Option.getD_some]) (by simp only [Act.eval, Array.getD_eq_getD_getElem?, t111, Option.getD_some] <;> rfl) (there_cells f3 rfl) (by kernel_rfl) (by simp [Value.oneCell']) ?_
       exact ⟨_, rfl, vals_free hI.1 (by rw [hvf]; rfl), FtY.put HKit.out hI.2 d11 f1⟩
     ·exact ⟨fun _ _ _ h => (by simp at h), FtY.start HSt.out (by simp) (by simp) (by simp)⟩
     ·intro val W hI
      have e0 : val 0 = .pointer (some ⟨bt, 0, none⟩) := hI.1 0 _ (by rw [hvf]; rfl) rfl
      have e1 : val 1 = .agg (TD.map encB).toArray := hI.1 1 _ (by rw [hvf]; rfl) rfl
      have e2 : val 2 = .agg (ow.map encB).toArray := hI.1 2 _ (by rw [hvf]; rfl) rfl
      have e3 : val 3 = .agg (sl.map encB).toArray := hI.1 3 _ (by rw [hvf]; rfl) rfl
      have e4 : val 4 = .slice r1 L1.length d1 := hI.1 4 _ (by rw [hvf]; rfl) rfl
      have e5 : val 5 = .slice r2 L2.length d2 := hI.1 5 _ (by rw [hvf]; rfl) rfl
      have e6 : val 6 = .tuple #[.string os, .bool ob, faultV 0 0 0 0] := hI.1 6 _ (by rw [hvf]; rfl) rfl
      have e7 : val 7 = .tuple #[.string os, .bool ob, faultV 0 0 0 0] := hI.1 7 _ (by rw [hvf]; rfl) rfl
      have e8 : val 8 = .string os := hI.1 8 _ (by rw [hvf]; rfl) rfl
      have e9 : val 9 = .bool ob := hI.1 9 _ (by rw [hvf]; rfl) rfl
      have e10 : val 10 = faultV 0 0 0 0 := hI.1 10 _ (by rw [hvf]; rfl) rfl
      have e12 : val 12 = .string os := hI.1 12 _ (by rw [hvf]; rfl) rfl
      have e13 : val 13 = .bool ob := hI.1 13 _ (by rw [hvf]; rfl) rfl
      have hX := hI.2
      simp only [runFrom, Act.put, Nat.zero_add, Nat.reduceAdd, List.setIfInBounds_toArray, List.set_cons_zero, List.set_cons_succ, e0, e1, e2, e3, e4, e5, e6, e7, e8, e9, e10, e12, e13]
      clear hI hvf e0 e1 e2 e3 e4 e5 e6 e7 e8 e9 e10 e12 e13
      have HX : Hid (FtY P F (.int .i64 0) (.int .i64 0) (.int .i64 0) (.int .i64 0) false undef true (val 11) true W) := hX
      clear hX
      (try go_wp2)
      go_meet
      exact ⟨rfl, rfl, HX.out⟩
    case rest => as_aux_lemma =>
     obtain ⟨rfl, rfl, hY⟩ := hcut
     obtain ⟨w22, rfl⟩ : ∃ x, x = wc := ⟨_, rfl⟩
     obtain ⟨f, rfl, hFf, hcf⟩ := hY.fault
     obtain ⟨f0, f1, f2, f3, -⟩ := fault_cells hcf
     have H22 := Hid.hide hY
     have HFf := Hid.hide hFf
     clear hY hFf hcf HVs HSt
     go_wp2_with fail
     refine (fine_zero _).mono ?_
     rintro x w23 ⟨rfl, hb23⟩
     have H23 := Hid.hide (H22.out.more HKit.out hb23)
     have hm := HMem.out _ H23.out.all
     obtain ⟨z0, z1, -⟩ := box_cells hm.box1
     have hrA := hm.at_
     have hans : ansB ov os ob = true := by
      rw [ansB, HOV.out.2.1, HOV.out.2.2.1]
      simp
     have hmm := HC.out.2.2.2
     have HAn := Hid.hide (answered_l hm.kn1 (by omega) (pth_dup hmm.1) HDS.out.2.1 HDS.out.2.2 os ob HOV.out.1)
     rw [hans, ← HDS.out.1] at HAn
     clear hm hans hmm hb23 f0 f1 f2 f3
     go_wp2_with (refine wpList_load_mid rfl 26 _ rfl ab 0 rfl ((digB sl).map encB) _ hrA hu26 rfl hz26D ?_)
     refine HAn.out.mono ?_
     rintro x w24 ⟨rfl, hb24⟩
     have H24 := Hid.hide (H23.out.more HKit.out hb24)
     clear hb24 HAn z0 z1 hrA
     obtain ⟨DN, hDN⟩ : ∃ D, digB nb = D := ⟨_, rfl⟩
     obtain ⟨fv, hfv⟩ : ∃ z, findV (findN o' DN.toArray) = z := ⟨_, rfl⟩
     obtain ⟨bv, hbv⟩ : ∃ b, decide (0 ≤ fv) = b := ⟨_, rfl⟩
     have HNam : Hid (∀ W, P W → Calls Tryz.prog 40 #[.agg (nb.map encB).toArray] W fun e w' => e = .returned (.agg (DN.map encB).toArray) ∧ Below W.heap.size W w') := fun W h => by
      have q := HMem.out W h
      have := named_l nb HL.out.2 (HT.out W q.below).1 (HT.out W q.below).2
      rw [hDN] at this
      exact this
     have HFnd : Hid (∀ W, P W → Calls Tryz.prog 27 #[.agg #[.slice a1 o'.length cc1, .slice a2 o'.length cc2], .agg (DN.map encB).toArray] W fun e w' => e = .returned (.int .i64 fv) ∧ Below W.heap.size W w') := fun W h => by
      have q := HMem.out W h
      have k := digB_key nb
      rw [hDN] at k
      have := kfind_any q.kn2 (by have := H17.out.2.2.2.2.2; omega) k.1 k.2
      rw [hfv] at this
      exact this
     have HDN : Hid (digB nb = DN ∧ findV (findN o' DN.toArray) = fv ∧ decide (0 ≤ fv) = bv) := ⟨hDN, hfv, hbv⟩
     have HSt := Hid.hide (H24.out.more HKit.out (Below.refl _ _).drew)
     clear hDN hfv
     go_upto_region 23 with fail
     go_cut [137] (fun a wd => a = .bool bv ∧ FtY P F (.int .i64 0) (.int .i64 0) (.int .i64 0) (.int .i64 0) false undef true (.pointer (some ⟨f, 0, none⟩)) true wd)
     case first => as_aux_lemma =>
      refine wp_region_any (by kernel_rfl) ?_
      change wpAny _ _ _ _ _ _ _ (World.drew _)
      obtain ⟨vf, hvf⟩ : ∃ vf : Nat → Option Value, vf = fun i => ([some (.agg #[.slice a1 o'.length cc1, .slice a2 o'.length cc2]), some (.agg (nb.map encB).toArray), some (.agg (DN.map encB).toArray), some (.int .i64 fv), some (.bool bv)] : List (Option Value)).getD i none := ⟨_, rfl⟩
      refine wpAny_vary _ (fun d v w' => (∀ i x, vf i = some x → d i = true → v i = x) ∧ (fun d v w' => FtY P F (.int .i64 0) (.int .i64 0) (.int .i64 0) (.int .i64 0) false undef true (.pointer (some ⟨f, 0, none⟩)) true w') d v w') (by kernel_rfl) (by kernel_rfl) ?_ _ (fun _ => undef) ?_ ?_
      ·intro i o ho listed val b W hsat hnew hdeps hI
       have hi : i < 5 := (Array.getElem?_eq_some_iff.1 ho).1
       match i, hi with
       | 0, _ =>
        obtain rfl := Option.some.inj ho
        have t12 : b.tmps[12]? = some (.pointer (some ⟨w3.heap.size, 0, none⟩)) := (hsat.rest 12 (fun i _ => noDst_of (by kernel_rfl) i)).trans rfl
        obtain ⟨z0, z1, -⟩ := box_cells (HMem.out W hI.2.all).box2
        refine Oper.wp_mono (K := fun a' w' => a' = b.put (some 133) (.agg #[.slice a1 o'.length cc1, .slice a2 o'.length cc2]) ∧ w' = W) (by rintro a' w' ⟨rfl, rfl⟩; exact ⟨_, rfl, vals_step hI.1 (by rw [hvf]; rfl), hI.2⟩) ?_
        clear ho hdeps hsat hI hnew hvf
        go_simp
       | 1, _ =>
        obtain rfl := Option.some.inj ho
        have t8 : b.tmps[8]? = some (.pointer (some ⟨w.heap.size + 1, 0, none⟩)) := (hsat.rest 8 (fun i _ => noDst_of (by kernel_rfl) i)).trans rfl
        refine wp_load_mid 80 (.tmp 8) rfl (w.heap.size + 1) 0 (by simp only [Act.eval, Array.getD_eq_getD_getElem?, t8, Option.getD_some]) (nb.map encB) _ (HMem.out W hI.2.all).nob hu80 rfl hz80n ?_
        exact ⟨_, rfl, vals_step hI.1 (by rw [hvf]; rfl), hI.2⟩
       | 2, _ =>
        obtain rfl := Option.some.inj ho
        have t134 : b.tmps[134]? = some (.agg (nb.map encB).toArray) := (hsat.done 1 134 (hdeps ⟨1, .data⟩ (by simp) rfl) rfl (by simp)).trans (congrArg some (hI.1 1 _ (by rw [hvf]; rfl) (hdeps ⟨1, .data⟩ (by simp) rfl)))
        obtain ⟨G, hG⟩ : ∃ G : Value → World → Prop, ∀ x w', G x w' ↔ ((∀ j y, vf j = some y → (fun k => if k = 2 then true else listed.getD k false) j = true → (fun k => if k = 2 then x else val k) j = y) ∧ FtY P F (.int .i64 0) (.int .i64 0) (.int .i64 0) (.int .i64 0) false undef true (.pointer (some ⟨f, 0, none⟩)) true w') := ⟨_, fun _ _ => Iff.rfl⟩
        refine Oper.wp_mono (K := fun a' w' => ∃ v, a' = b.put (some 135) v ∧ G v w') (by rintro a' w' ⟨v, rfl, hv⟩; exact ⟨v, rfl, (hG v w').1 hv⟩) ?_
        have HG := Hid.hide hG
        have HI := Hid.hide hI
        have HVF := Hid.hide hvf
        clear hG ho hdeps hsat hI hnew hvf
        go_simp
        go_at_call 40
        refine (HNam.out W HI.out.2.all).mono ?_
        rintro e w9 ⟨rfl, hb9⟩
        exact ⟨_, rfl, (HG.out _ _).2 ⟨vals_step HI.out.1 (by rw [HVF.out]; rfl), HI.out.2.more HKit.out hb9⟩⟩
       | 3, _ =>
        obtain rfl := Option.some.inj ho
        have t133 : b.tmps[133]? = some (.agg #[.slice a1 o'.length cc1, .slice a2 o'.length cc2]) := (hsat.done 0 133 (hdeps ⟨0, .data⟩ (by simp) rfl) rfl (by simp)).trans (congrArg some (hI.1 0 _ (by rw [hvf]; rfl) (hdeps ⟨0, .data⟩ (by simp) rfl)))
        have t135 : b.tmps[135]? = some (.agg (DN.map encB).toArray) := (hsat.done 2 135 (hdeps ⟨2, .data⟩ (by simp) rfl) rfl (by simp)).trans (congrArg some (hI.1 2 _ (by rw [hvf]; rfl) (hdeps ⟨2, .data⟩ (by simp) rfl)))
        obtain ⟨G, hG⟩ : ∃ G : Value → World → Prop, ∀ x w', G x w' ↔ ((∀ j y, vf j = some y → (fun k => if k = 3 then true else listed.getD k false) j = true → (fun k => if k = 3 then x else val k) j = y) ∧ FtY P F (.int .i64 0) (.int .i64 0) (.int .i64 0) (.int .i64 0) false undef true (.pointer (some ⟨f, 0, none⟩)) true w') := ⟨_, fun _ _ => Iff.rfl⟩
        refine Oper.wp_mono (K := fun a' w' => ∃ v, a' = b.put (some 136) v ∧ G v w') (by rintro a' w' ⟨v, rfl, hv⟩; exact ⟨v, rfl, (hG v w').1 hv⟩) ?_
        have HG := Hid.hide hG
        have HI := Hid.hide hI
        have HVF := Hid.hide hvf
        clear hG ho hdeps hsat hI hnew hvf
        go_simp
        go_at_call 27
        refine (HFnd.out W HI.out.2.all).mono ?_
        rintro e w9 ⟨rfl, hb9⟩
        exact ⟨_, rfl, (HG.out _ _).2 ⟨vals_step HI.out.1 (by rw [HVF.out]; rfl), HI.out.2.more HKit.out hb9⟩⟩
       | 4, _ =>
        obtain rfl := Option.some.inj ho
        have t136 : b.tmps[136]? = some (.int .i64 fv) := (hsat.done 3 136 (hdeps ⟨3, .data⟩ (by simp) rfl) rfl (by simp)).trans (congrArg some (hI.1 3 _ (by rw [hvf]; rfl) (hdeps ⟨3, .data⟩ (by simp) rfl)))
        refine Oper.wp_mono (K := fun a' w' => a' = b.put (some 137) (.bool bv) ∧ w' = W) (by rintro a' w' ⟨rfl, rfl⟩; exact ⟨_, rfl, vals_step hI.1 (by rw [hvf]; rfl), hI.2⟩) ?_
        clear ho hdeps hsat hI hnew hvf
        go_simp
      ·exact ⟨fun _ _ _ h => (by simp at h), HSt.out⟩
      ·intro val W hI
       have e0 : val 0 = .agg #[.slice a1 o'.length cc1, .slice a2 o'.length cc2] := hI.1 0 _ (by rw [hvf]; rfl) rfl
       have e1 : val 1 = .agg (nb.map encB).toArray := hI.1 1 _ (by rw [hvf]; rfl) rfl
       have e2 : val 2 = .agg (DN.map encB).toArray := hI.1 2 _ (by rw [hvf]; rfl) rfl
       have e3 : val 3 = .int .i64 fv := hI.1 3 _ (by rw [hvf]; rfl) rfl
       have e4 : val 4 = .bool bv := hI.1 4 _ (by rw [hvf]; rfl) rfl
       have hX := hI.2
       simp only [runFrom, Act.put, Nat.zero_add, Nat.reduceAdd, List.setIfInBounds_toArray, List.set_cons_zero, List.set_cons_succ, e0, e1, e2, e3, e4]
       clear hI hvf e0 e1 e2 e3 e4
       have HX : Hid (FtY P F (.int .i64 0) (.int .i64 0) (.int .i64 0) (.int .i64 0) false undef true (.pointer (some ⟨f, 0, none⟩)) true W) := hX
       clear hX
       (try go_wp2)
       go_meet
       exact ⟨rfl, HX.out⟩
     case rest => as_aux_lemma =>
      obtain ⟨rfl, hY⟩ := hcut
      obtain ⟨w25, rfl⟩ : ∃ x, x = wc := ⟨_, rfl⟩
      have H25 := Hid.hide hY
      clear hY HSt HNam HFnd hbv H24 H23 H22
      apply_assumption
      cases bv with
      | true =>
       have hb := (HMem.out _ H25.out.all).below
       have HB := Hid.hide hb
       clear hb
       go_wp2
       go_ret
       exact ⟨rfl, HB.out⟩
      | false =>
       have hno : findN o' DN.toArray = none := by
        have h1 := HDN.out.2.2
        rw [← HDN.out.2.1] at h1
        cases hq : findN o' DN.toArray with
        | none => rfl
        | some i =>
         have h2 : (0 : Int) ≤ findV (some i) := Int.natCast_nonneg i
         rw [hq, decide_eq_true h2] at h1
         cases h1
       have hm := HMem.out _ H25.out.all
       have hrN := hm.nob
       have HNm := Hid.hide (named_l nb HL.out.2 (HT.out _ hm.below).1 (HT.out _ hm.below).2)
       rw [HDN.out.1] at HNm
       have HNo := Hid.hide hno
       clear hno hm
       go_wp2_with (refine wpList_load_mid rfl 80 _ rfl (w.heap.size + 1) 0 rfl (nb.map encB) _ hrN hu80 rfl hz80n ?_)
       refine HNm.out.mono ?_
       rintro e w26 ⟨rfl, hb26⟩
       have H26 := Hid.hide (H25.out.more HKit.out hb26)
       obtain ⟨L3, hL3⟩ : ∃ L, tt.prove (textB (nibs DN)) = L := ⟨_, rfl⟩
       have hkN := digB_key nb
       rw [HDN.out.1] at hkN
       have hq26 := HQ.out _ H26.out.all
       have hb3 := prove_row_ok H18.out.2.2.2.1 hkN.1 hkN.2 hL3
       have HP3 := Hid.hide (xprove_l hq26.wood (HT.out _ hq26.mem.below).1 (Nat.le_trans HE.out.1.low HC.out.1.below.size) hq26.tree H18.out.2.2.2.1 hkN.1 hkN.2 hL3)
       have HL3 : Hid (tt.prove (textB (nibs DN)) = L3 ∧ (∀ c ∈ L3, ∀ y ∈ c, y < 256) ∧ L3.length ≤ 1000) := ⟨hL3, hb3⟩
       clear hb26 hL3 hkN hq26 hb3 hrN HNm
       go_wp2_with fail
       refine HP3.out.mono ?_
       rintro e w27 ⟨r3, d3, rfl, hf27, hr3, hi3⟩
       have hY27 := H26.out.fr HKit.out hf27
       obtain ⟨f', e1, hFf, hcf⟩ := hY27.fault
       simp only [Value.pointer.injEq, Option.some.injEq, Addr.mk.injEq, and_true] at e1
       subst e1
       have hq27 := HQ.out _ hY27.all
       have hq26 := HQ.out _ H26.out.all
       have hQ : StoQ w ow nb w1.heap.size w3.heap.size sb ab (.slice p1 mm.length c1) (.slice p2 mm.length c2) (.slice a1 o'.length cc1) (.slice a2 o'.length cc2) mm o' sl (digB sl) wB.heap.size J bt tt r3 (L3.map textB) d3 none [] 0 w27 :=
        ⟨hq27.mem, hq27.wood, hq27.tree, hq27.free, hr3, fun a ha => ⟨hq26.wood.fresh (hi3 a ha).1, (hi3 a ha).2⟩, .inl ⟨rfl, rfl, rfl⟩, fun a ha => (by cases ha)⟩
       have hKit := StoQ.kit w ow nb w1.heap.size w3.heap.size sb ab (.slice p1 mm.length c1) (.slice p2 mm.length c2) (.slice a1 o'.length cc1) (.slice a2 o'.length cc2) mm o' sl (digB sl) wB.heap.size HC.out.1.below.size J bt tt r3 (L3.map textB) d3 none [] 0
       have hff := HFF.out f hFf
       have hfl : f < w26.heap.size := by
        obtain ⟨f', e1, -, hcf'⟩ := H26.out.fault
        simp only [Value.pointer.injEq, Option.some.injEq, Addr.mk.injEq, and_true] at e1
        subst e1
        exact (Array.getElem?_eq_some_iff.1 hcf').1
       have hff' : StoF w (StoU w w1.heap.size w3.heap.size sb ab (.slice p1 mm.length c1) (.slice p2 mm.length c2) (.slice a1 o'.length cc1) (.slice a2 o'.length cc2)) J bt r3 none f := ⟨hff.1, hff.2.1, hff.2.2.1, hff.2.2.2.1, fun a ha e => (by have := (hi3 a ha).1; omega), fun a ha => (by cases ha)⟩
       have hsn := stor_nobody' H18.out.2.2.2.1 H18.out.2.2.2.2.1 HDN.out.1 HNo.out HL3.out.1 HOV.out.2.2.2.1 sl
       clear HKit HQ HFF HMem HRt HFf H25 H26 HP3
       obtain ⟨P', hP⟩ : ∃ P', StoQ w ow nb w1.heap.size w3.heap.size sb ab (.slice p1 mm.length c1) (.slice p2 mm.length c2) (.slice a1 o'.length cc1) (.slice a2 o'.length cc2) mm o' sl (digB sl) wB.heap.size J bt tt r3 (L3.map textB) d3 none [] 0 = P' := ⟨_, rfl⟩
       obtain ⟨F', hF⟩ : ∃ F', StoF w (StoU w w1.heap.size w3.heap.size sb ab (.slice p1 mm.length c1) (.slice p2 mm.length c2) (.slice a1 o'.length cc1) (.slice a2 o'.length cc2)) J bt r3 none = F' := ⟨_, rfl⟩
       rw [hP, hF] at hKit
       rw [hP] at hQ
       rw [hF] at hff'
       clear hY27 hFf hq27 hq26 hff hfl hr3 hi3 hf27 hF F P
       obtain ⟨P, rfl⟩ : ∃ P, P = P' := ⟨_, rfl⟩
       obtain ⟨F, rfl⟩ : ∃ F, F = F' := ⟨_, rfl⟩
       have HKit := Hid.hide hKit
       have HQ : Hid (∀ W, P W → StoQ w ow nb w1.heap.size w3.heap.size sb ab (.slice p1 mm.length c1) (.slice p2 mm.length c2) (.slice a1 o'.length cc1) (.slice a2 o'.length cc2) mm o' sl (digB sl) wB.heap.size J bt tt r3 (L3.map textB) d3 none [] 0 W) := fun W h => by rw [← hP] at h; exact h
       have HMem : Hid (∀ W, P W → StoM w ow nb w1.heap.size w3.heap.size sb ab (.slice p1 mm.length c1) (.slice p2 mm.length c2) (.slice a1 o'.length cc1) (.slice a2 o'.length cc2) mm o' sl (digB sl) W) := fun W h => (HQ.out W h).mem
       have HSt : Hid (FtY P F (.int .i64 0) (.int .i64 0) (.int .i64 0) (.int .i64 0) false undef true (.pointer (some ⟨f, 0, none⟩)) false w27.drew) := FtY.more hKit ⟨hQ, fun q => (by cases q), fun _ => ⟨f, _, _, _, _, rfl, hff', hcf, fun q => (by cases q)⟩, fun q => (by cases q)⟩ (Below.refl _ _).drew
       have HRt : Hid (∀ W, P W → Calls Tryz.prog 16 #[.pointer (some ⟨bt, 0, none⟩)] W fun e w' => e = .returned (.agg (TD.map encB).toArray) ∧ Fr wB.heap.size J J W w') := fun W h => by
        have q := HQ.out W h
        have := xroot_any q.wood (HT.out W q.mem.below).1 (Nat.le_trans HE.out.1.low HC.out.1.below.size) q.tree
        rw [HOV.out.2.2.2.1] at this
        exact this
       have HVs : Hid (∀ W, P W → Calls Tryz.prog 42 #[.agg (TD.map encB).toArray, .agg (nb.map encB).toArray, .agg (sl.map encB).toArray, .slice r3 L3.length d3, .slice none 0 0] W fun e w' => e = .returned (.tuple #[.string ⟨#[]⟩, .bool false, faultV 0 0 0 0]) ∧ Below W.heap.size W w') := fun W h => by
        have q := HQ.out W h
        exact xstor_codes sent HE.out q.mem.below TD nb sl L3 [] r3 none d3 0 HOV.out.2.2.2.2.1 HOV.out.2.2.2.2.2 HL.out.2 HD.out.2.2.2.2.1 q.row1 q.row2 HL3.out.2.2 (by simp) HL3.out.2.1 (by simp) hsn.1
       obtain ⟨pa, hpa⟩ : ∃ pa, (Er.inProof 2 (.inNode 0 (.base 4))).at_ = pa := ⟨_, rfl⟩
       have HVx : Hid (∀ W, P W → ∀ g, StrRow W (some ⟨g, 0, none⟩) [⟨#[120]⟩] 1 → Calls Tryz.prog 42 #[.agg (TD.map encB).toArray, .agg (nb.map encB).toArray, .agg (sl.map encB).toArray, .slice r3 L3.length d3, .slice (some ⟨g, 0, none⟩) 1 1] W fun e w' => e = .returned (.tuple #[.string ⟨#[]⟩, .bool false, faultV 4 2 0 pa]) ∧ Below W.heap.size W w') := fun W h g hg => by
        have q := HQ.out W h
        rw [← hpa]
        exact xstor_codes sent HE.out q.mem.below TD nb sl L3 [[120]] r3 (some ⟨g, 0, none⟩) d3 1 HOV.out.2.2.2.2.1 HOV.out.2.2.2.2.2 HL.out.2 HD.out.2.2.2.2.1 q.row1 hg HL3.out.2.2 (by simp) HL3.out.2.1 (by decide) hsn.2
       clear hKit hQ hff' hcf hsn hP hpa
       go_upto_region 26 with fail
       go_cut [24, 25] (fun a b wd => a = .string ⟨#[]⟩ ∧ b = .bool false ∧ FtY P F (.int .i64 0) (.int .i64 0) (.int .i64 0) (.int .i64 0) false undef true (.pointer (some ⟨f, 0, none⟩)) true wd)
       case first => as_aux_lemma =>
        refine wp_region_any (by kernel_rfl) ?_
        change wpAny _ _ _ _ _ _ _ (World.drew _)
        obtain ⟨vf, hvf⟩ : ∃ vf : Nat → Option Value, vf = fun i => ([some (.pointer (some ⟨bt, 0, none⟩)), some (.agg (TD.map encB).toArray), some (.agg (nb.map encB).toArray), some (.agg (sl.map encB).toArray), some (.slice r3 L3.length d3), some (.tuple #[.string ⟨#[]⟩, .bool false, faultV 0 0 0 0]), some (.tuple #[.string ⟨#[]⟩, .bool false, faultV 0 0 0 0]), some (.string ⟨#[]⟩), some (.bool false), some (faultV 0 0 0 0), some (.string ⟨#[]⟩), some (.bool false), none] : List (Option Value)).getD i none := ⟨_, rfl⟩
        refine wpAny_vary _ (fun d v w' => (∀ i x, vf i = some x → d i = true → v i = x) ∧ (fun d v w' => FtY P F (.int .i64 0) (.int .i64 0) (.int .i64 0) (.int .i64 0) false undef true (.pointer (some ⟨f, 0, none⟩)) (d 12) w') d v w') (by kernel_rfl) (by kernel_rfl) ?_ _ (fun _ => undef) ?_ ?_
        ·intro i o ho listed val b W hsat hnew hdeps hI
         have hi : i < 13 := (Array.getElem?_eq_some_iff.1 ho).1
         match i, hi with
         | 0, _ =>
          obtain rfl := Option.some.inj ho
          have t19 : b.tmps[19]? = some (.pointer (some ⟨bt, 0, none⟩)) := (hsat.rest 19 (fun i _ => noDst_of (by kernel_rfl) i)).trans rfl
          refine Oper.wp_mono (K := fun a' w' => a' = b.put (some 146) (.pointer (some ⟨bt, 0, none⟩)) ∧ w' = W) (by rintro a' w' ⟨rfl, rfl⟩; exact ⟨_, rfl, vals_step hI.1 (by rw [hvf]; rfl), hI.2⟩) ?_
          clear ho hdeps hsat hI hnew hvf
          go_simp
         | 1, _ =>
          obtain rfl := Option.some.inj ho
          have t146 : b.tmps[146]? = some (.pointer (some ⟨bt, 0, none⟩)) := (hsat.done 0 146 (hdeps ⟨0, .data⟩ (by simp) rfl) rfl (by simp)).trans (congrArg some (hI.1 0 _ (by rw [hvf]; rfl) (hdeps ⟨0, .data⟩ (by simp) rfl)))
          obtain ⟨G, hG⟩ : ∃ G : Value → World → Prop, ∀ x w', G x w' ↔ ((∀ j y, vf j = some y → (fun k => if k = 1 then true else listed.getD k false) j = true → (fun k => if k = 1 then x else val k) j = y) ∧ FtY P F (.int .i64 0) (.int .i64 0) (.int .i64 0) (.int .i64 0) false undef true (.pointer (some ⟨f, 0, none⟩)) (listed.getD 12 false) w') := ⟨_, fun _ _ => Iff.rfl⟩
          refine Oper.wp_mono (K := fun a' w' => ∃ v, a' = b.put (some 147) v ∧ G v w') (by rintro a' w' ⟨v, rfl, hv⟩; exact ⟨v, rfl, (hG v w').1 hv⟩) ?_
          have HG := Hid.hide hG
          have HI := Hid.hide hI
          have HVF := Hid.hide hvf
          clear hG ho hdeps hsat hI hnew hvf
          go_simp
          go_at_call 16
          refine (HRt.out W HI.out.2.all).mono ?_
          rintro e w9 ⟨rfl, hb9⟩
          exact ⟨_, rfl, (HG.out _ _).2 ⟨vals_step HI.out.1 (by rw [HVF.out]; rfl), HI.out.2.fr HKit.out hb9⟩⟩
         | 2, _ =>
          obtain rfl := Option.some.inj ho
          have t8 : b.tmps[8]? = some (.pointer (some ⟨w.heap.size + 1, 0, none⟩)) := (hsat.rest 8 (fun i _ => noDst_of (by kernel_rfl) i)).trans rfl
          refine wp_load_mid 80 (.tmp 8) rfl (w.heap.size + 1) 0 (by simp only [Act.eval, Array.getD_eq_getD_getElem?, t8, Option.getD_some]) (nb.map encB) _ (HMem.out W hI.2.all).nob hu80 rfl hz80n ?_
          exact ⟨_, rfl, vals_step hI.1 (by rw [hvf]; rfl), hI.2⟩
         | 3, _ =>
          obtain rfl := Option.some.inj ho
          have t14 : b.tmps[14]? = some (.pointer (some ⟨sb, 0, none⟩)) := (hsat.rest 14 (fun i _ => noDst_of (by kernel_rfl) i)).trans rfl
          refine wp_load_mid 26 (.tmp 14) rfl sb 0 (by simp only [Act.eval, Array.getD_eq_getD_getElem?, t14, Option.getD_some]) (sl.map encB) _ (HMem.out W hI.2.all).slot hu26 rfl hz26 ?_
          exact ⟨_, rfl, vals_step hI.1 (by rw [hvf]; rfl), hI.2⟩
         | 4, _ =>
          obtain rfl := Option.some.inj ho
          have t29 : b.tmps[29]? = some (.slice r3 L3.length d3) := (hsat.rest 29 (fun i _ => noDst_of (by kernel_rfl) i)).trans rfl
          refine Oper.wp_mono (K := fun a' w' => a' = b.put (some 150) (.slice r3 L3.length d3) ∧ w' = W) (by rintro a' w' ⟨rfl, rfl⟩; exact ⟨_, rfl, vals_step hI.1 (by rw [hvf]; rfl), hI.2⟩) ?_
          clear ho hdeps hsat hI hnew hvf
          go_simp
         | 5, _ =>
          obtain rfl := Option.some.inj ho
          have t147 : b.tmps[147]? = some (.agg (TD.map encB).toArray) := (hsat.done 1 147 (hdeps ⟨1, .data⟩ (by simp) rfl) rfl (by simp)).trans (congrArg some (hI.1 1 _ (by rw [hvf]; rfl) (hdeps ⟨1, .data⟩ (by simp) rfl)))
          have t148 : b.tmps[148]? = some (.agg (nb.map encB).toArray) := (hsat.done 2 148 (hdeps ⟨2, .data⟩ (by simp) rfl) rfl (by simp)).trans (congrArg some (hI.1 2 _ (by rw [hvf]; rfl) (hdeps ⟨2, .data⟩ (by simp) rfl)))
          have t149 : b.tmps[149]? = some (.agg (sl.map encB).toArray) := (hsat.done 3 149 (hdeps ⟨3, .data⟩ (by simp) rfl) rfl (by simp)).trans (congrArg some (hI.1 3 _ (by rw [hvf]; rfl) (hdeps ⟨3, .data⟩ (by simp) rfl)))
          have t150 : b.tmps[150]? = some (.slice r3 L3.length d3) := (hsat.done 4 150 (hdeps ⟨4, .data⟩ (by simp) rfl) rfl (by simp)).trans (congrArg some (hI.1 4 _ (by rw [hvf]; rfl) (hdeps ⟨4, .data⟩ (by simp) rfl)))
          obtain ⟨G, hG⟩ : ∃ G : Value → World → Prop, ∀ x w', G x w' ↔ ((∀ j y, vf j = some y → (fun k => if k = 5 then true else listed.getD k false) j = true → (fun k => if k = 5 then x else val k) j = y) ∧ FtY P F (.int .i64 0) (.int .i64 0) (.int .i64 0) (.int .i64 0) false undef true (.pointer (some ⟨f, 0, none⟩)) (listed.getD 12 false) w') := ⟨_, fun _ _ => Iff.rfl⟩
          refine Oper.wp_mono (K := fun a' w' => ∃ v, a' = b.put (some 151) v ∧ G v w') (by rintro a' w' ⟨v, rfl, hv⟩; exact ⟨v, rfl, (hG v w').1 hv⟩) ?_
          have HG := Hid.hide hG
          have HI := Hid.hide hI
          have HVF := Hid.hide hvf
          clear hG ho hdeps hsat hI hnew hvf
          go_simp
          go_at_call 42
          refine (HVs.out W HI.out.2.all).mono ?_
          rintro e w9 ⟨rfl, hb9⟩
          exact ⟨_, rfl, (HG.out _ _).2 ⟨vals_step HI.out.1 (by rw [HVF.out]; rfl), HI.out.2.more HKit.out hb9⟩⟩
         | 6, _ =>
          obtain rfl := Option.some.inj ho
          have t151 : b.tmps[151]? = some (.tuple #[.string ⟨#[]⟩, .bool false, faultV 0 0 0 0]) := (hsat.done 5 151 (hdeps ⟨5, .data⟩ (by simp) rfl) rfl (by simp)).trans (congrArg some (hI.1 5 _ (by rw [hvf]; rfl) (hdeps ⟨5, .data⟩ (by simp) rfl)))
          refine Oper.wp_mono (K := fun a' w' => a' = b.put (some 145) (.tuple #[.string ⟨#[]⟩, .bool false, faultV 0 0 0 0]) ∧ w' = W) (by rintro a' w' ⟨rfl, rfl⟩; exact ⟨_, rfl, vals_step hI.1 (by rw [hvf]; rfl), hI.2⟩) ?_
          clear ho hdeps hsat hI hnew hvf
          go_simp
         | 7, _ =>
          obtain rfl := Option.some.inj ho
          have t145 : b.tmps[145]? = some (.tuple #[.string ⟨#[]⟩, .bool false, faultV 0 0 0 0]) := (hsat.done 6 145 (hdeps ⟨6, .data⟩ (by simp) rfl) rfl (by simp)).trans (congrArg some (hI.1 6 _ (by rw [hvf]; rfl) (hdeps ⟨6, .data⟩ (by simp) rfl)))
          refine Oper.wp_mono (K := fun a' w' => a' = b.put (some 152) (.string ⟨#[]⟩) ∧ w' = W) (by rintro a' w' ⟨rfl, rfl⟩; exact ⟨_, rfl, vals_step hI.1 (by rw [hvf]; rfl), hI.2⟩) ?_
          clear ho hdeps hsat hI hnew hvf
          go_simp
         | 8, _ =>
          obtain rfl := Option.some.inj ho
          have t145 : b.tmps[145]? = some (.tuple #[.string ⟨#[]⟩, .bool false, faultV 0 0 0 0]) := (hsat.done 6 145 (hdeps ⟨6, .data⟩ (by simp) rfl) rfl (by simp)).trans (congrArg some (hI.1 6 _ (by rw [hvf]; rfl) (hdeps ⟨6, .data⟩ (by simp) rfl)))
          refine Oper.wp_mono (K := fun a' w' => a' = b.put (some 153) (.bool false) ∧ w' = W) (by rintro a' w' ⟨rfl, rfl⟩; exact ⟨_, rfl, vals_step hI.1 (by rw [hvf]; rfl), hI.2⟩) ?_
          clear ho hdeps hsat hI hnew hvf
          go_simp
         | 9, _ =>
          obtain rfl := Option.some.inj ho
          have t145 : b.tmps[145]? = some (.tuple #[.string ⟨#[]⟩, .bool false, faultV 0 0 0 0]) := (hsat.done 6 145 (hdeps ⟨6, .data⟩ (by simp) rfl) rfl (by simp)).trans (congrArg some (hI.1 6 _ (by rw [hvf]; rfl) (hdeps ⟨6, .data⟩ (by simp) rfl)))
          refine Oper.wp_mono (K := fun a' w' => a' = b.put (some 154) (faultV 0 0 0 0) ∧ w' = W) (by rintro a' w' ⟨rfl, rfl⟩; exact ⟨_, rfl, vals_step hI.1 (by rw [hvf]; rfl), hI.2⟩) ?_
          clear ho hdeps hsat hI hnew hvf
          go_simp
         | 10, _ =>
          obtain rfl := Option.some.inj ho
          have t152 : b.tmps[152]? = some (.string ⟨#[]⟩) := (hsat.done 7 152 (hdeps ⟨7, .data⟩ (by simp) rfl) rfl (by simp)).trans (congrArg some (hI.1 7 _ (by rw [hvf]; rfl) (hdeps ⟨7, .data⟩ (by simp) rfl)))
          refine Oper.wp_mono (K := fun a' w' => a' = b.put (some 24) (.string ⟨#[]⟩) ∧ w' = W) (by rintro a' w' ⟨rfl, rfl⟩; exact ⟨_, rfl, vals_step hI.1 (by rw [hvf]; rfl), hI.2⟩) ?_
          clear ho hdeps hsat hI hnew hvf
          go_simp
         | 11, _ =>
          obtain rfl := Option.some.inj ho
          have t153 : b.tmps[153]? = some (.bool false) := (hsat.done 8 153 (hdeps ⟨8, .data⟩ (by simp) rfl) rfl (by simp)).trans (congrArg some (hI.1 8 _ (by rw [hvf]; rfl) (hdeps ⟨8, .data⟩ (by simp) rfl)))
          refine Oper.wp_mono (K := fun a' w' => a' = b.put (some 25) (.bool false) ∧ w' = W) (by rintro a' w' ⟨rfl, rfl⟩; exact ⟨_, rfl, vals_step hI.1 (by rw [hvf]; rfl), hI.2⟩) ?_
          clear ho hdeps hsat hI hnew hvf
          go_simp
         | 12, _ =>
          obtain rfl := Option.some.inj ho
          have t26 : b.tmps[26]? = some (.pointer (some ⟨f, 0, none⟩)) := (hsat.rest 26 (fun i _ => noDst_of (by kernel_rfl) i)).trans rfl
          have t154 : b.tmps[154]? = some (faultV 0 0 0 0) := (hsat.done 9 154 (hdeps ⟨9, .data⟩ (by simp) rfl) rfl (by simp)).trans (congrArg some (hI.1 9 _ (by rw [hvf]; rfl) (hdeps ⟨9, .data⟩ (by simp) rfl)))
          obtain ⟨f', x0, x1, x2, x3, f1, f2, f3, -⟩ := hI.2.ft rfl
          simp only [Value.pointer.injEq, Option.some.injEq, Addr.mk.injEq, and_true] at f1
          subst f1
          refine wp_store_mid 66 (.tmp 26) (.tmp 154) rfl f 0 #[.int .i64 0, .int .i64 0, .int .i64 0, .int .i64 0] (by simp only [Act.eval, Array.getD_eq_getD_getElem?, t26, Option.getD_some]) (by simp only [Act.eval, Array.getD_eq_getD_getElem?, t154, Option.getD_some] <;> rfl) (there_cells f3 rfl) (by kernel_rfl) (by simp [Value.oneCell']) ?_
          exact ⟨_, rfl, vals_free hI.1 (by rw [hvf]; rfl), hI.2.set HKit.out⟩
        ·exact ⟨fun _ _ _ h => (by simp at h), FtY.low HSt.out (by simp)⟩
        ·intro val W hI
         have e0 : val 0 = .pointer (some ⟨bt, 0, none⟩) := hI.1 0 _ (by rw [hvf]; rfl) rfl
         have e1 : val 1 = .agg (TD.map encB).toArray := hI.1 1 _ (by rw [hvf]; rfl) rfl
         have e2 : val 2 = .agg (nb.map encB).toArray := hI.1 2 _ (by rw [hvf]; rfl) rfl
         have e3 : val 3 = .agg (sl.map encB).toArray := hI.1 3 _ (by rw [hvf]; rfl) rfl
         have e4 : val 4 = .slice r3 L3.length d3 := hI.1 4 _ (by rw [hvf]; rfl) rfl
         have e5 : val 5 = .tuple #[.string ⟨#[]⟩, .bool false, faultV 0 0 0 0] := hI.1 5 _ (by rw [hvf]; rfl) rfl
         have e6 : val 6 = .tuple #[.string ⟨#[]⟩, .bool false, faultV 0 0 0 0] := hI.1 6 _ (by rw [hvf]; rfl) rfl
         have e7 : val 7 = .string ⟨#[]⟩ := hI.1 7 _ (by rw [hvf]; rfl) rfl
         have e8 : val 8 = .bool false := hI.1 8 _ (by rw [hvf]; rfl) rfl
         have e9 : val 9 = faultV 0 0 0 0 := hI.1 9 _ (by rw [hvf]; rfl) rfl
         have e10 : val 10 = .string ⟨#[]⟩ := hI.1 10 _ (by rw [hvf]; rfl) rfl
         have e11 : val 11 = .bool false := hI.1 11 _ (by rw [hvf]; rfl) rfl
         have hX := hI.2
         simp only [runFrom, Act.put, Nat.zero_add, Nat.reduceAdd, List.setIfInBounds_toArray, List.set_cons_zero, List.set_cons_succ, e0, e1, e2, e3, e4, e5, e6, e7, e8, e9, e10, e11]
         clear hI hvf e0 e1 e2 e3 e4 e5 e6 e7 e8 e9 e10 e11
         have HX : Hid (FtY P F (.int .i64 0) (.int .i64 0) (.int .i64 0) (.int .i64 0) false undef true (.pointer (some ⟨f, 0, none⟩)) true W) := hX
         clear hX
         (try go_wp2)
         go_meet
         exact ⟨rfl, rfl, HX.out⟩
       case rest => as_aux_lemma =>
        obtain ⟨rfl, rfl, hY⟩ := hcut
        obtain ⟨w28, rfl⟩ : ∃ x, x = wc := ⟨_, rfl⟩
        obtain ⟨f', e1, -, hcf⟩ := hY.fault
        simp only [Value.pointer.injEq, Option.some.injEq, Addr.mk.injEq, and_true] at e1
        subst e1
        obtain ⟨f0, f1, f2, f3, -⟩ := fault_cells hcf
        have H28 := Hid.hide hY.all
        clear hY hcf HVs HSt
        go_wp2_with fail
        refine (fine_zero _).mono ?_
        rintro x w29 ⟨rfl, hb29⟩
        have HSt := Hid.hide (HKit.out.more _ _ H28.out hb29.drew)
        clear hb29 f0 f1 f2 f3
        go_upto_region 28 with fail
        go_cut [32] (fun c wd => ∃ v5, FtY P F (.int .i64 4) (.int .i64 2) (.int .i64 0) (.int .i64 (pa : Int)) true v5 true c true wd)
        case first => as_aux_lemma =>
         refine wp_region_any (by kernel_rfl) ?_
         change wpAny _ _ _ _ _ _ _ (World.drew _)
         obtain ⟨vf, hvf⟩ : ∃ vf : Nat → Option Value, vf = fun i => ([some (.pointer (some ⟨bt, 0, none⟩)), some (.agg (TD.map encB).toArray), some (.agg (nb.map encB).toArray), some (.agg (sl.map encB).toArray), some (.slice r3 L3.length d3), none, some (.tuple #[.string ⟨#[]⟩, .bool false, faultV 4 2 0 pa]), some (.tuple #[.string ⟨#[]⟩, .bool false, faultV 4 2 0 pa]), some (.string ⟨#[]⟩), some (.bool false), some (faultV 4 2 0 pa), none, some (.string ⟨#[]⟩), some (.bool false), none] : List (Option Value)).getD i none := ⟨_, rfl⟩
         refine wpAny_vary _ (fun d v w' => (∀ i x, vf i = some x → d i = true → v i = x) ∧ (fun d v w' => FtY P F (.int .i64 4) (.int .i64 2) (.int .i64 0) (.int .i64 (pa : Int)) (d 5) (v 5) (d 11) (v 11) (d 14) w') d v w') (by kernel_rfl) (by kernel_rfl) ?_ _ (fun _ => undef) ?_ ?_
         ·intro i o ho listed val b W hsat hnew hdeps hI
          have hi : i < 15 := (Array.getElem?_eq_some_iff.1 ho).1
          match i, hi with
          | 0, _ =>
           obtain rfl := Option.some.inj ho
           have t19 : b.tmps[19]? = some (.pointer (some ⟨bt, 0, none⟩)) := (hsat.rest 19 (fun i _ => noDst_of (by kernel_rfl) i)).trans rfl
           refine Oper.wp_mono (K := fun a' w' => a' = b.put (some 158) (.pointer (some ⟨bt, 0, none⟩)) ∧ w' = W) (by rintro a' w' ⟨rfl, rfl⟩; exact ⟨_, rfl, vals_step hI.1 (by rw [hvf]; rfl), hI.2⟩) ?_
           clear ho hdeps hsat hI hnew hvf
           go_simp
          | 1, _ =>
           obtain rfl := Option.some.inj ho
           have t158 : b.tmps[158]? = some (.pointer (some ⟨bt, 0, none⟩)) := (hsat.done 0 158 (hdeps ⟨0, .data⟩ (by simp) rfl) rfl (by simp)).trans (congrArg some (hI.1 0 _ (by rw [hvf]; rfl) (hdeps ⟨0, .data⟩ (by simp) rfl)))
           obtain ⟨G, hG⟩ : ∃ G : Value → World → Prop, ∀ x w', G x w' ↔ ((∀ j y, vf j = some y → (fun k => if k = 1 then true else listed.getD k false) j = true → (fun k => if k = 1 then x else val k) j = y) ∧ FtY P F (.int .i64 4) (.int .i64 2) (.int .i64 0) (.int .i64 (pa : Int)) (listed.getD 5 false) (val 5) (listed.getD 11 false) (val 11) (listed.getD 14 false) w') := ⟨_, fun _ _ => Iff.rfl⟩
           refine Oper.wp_mono (K := fun a' w' => ∃ v, a' = b.put (some 159) v ∧ G v w') (by rintro a' w' ⟨v, rfl, hv⟩; exact ⟨v, rfl, (hG v w').1 hv⟩) ?_
           have HG := Hid.hide hG
           have HI := Hid.hide hI
           have HVF := Hid.hide hvf
           clear hG ho hdeps hsat hI hnew hvf
           go_simp
           go_at_call 16
           refine (HRt.out W HI.out.2.all).mono ?_
           rintro e w9 ⟨rfl, hb9⟩
           exact ⟨_, rfl, (HG.out _ _).2 ⟨vals_step HI.out.1 (by rw [HVF.out]; rfl), HI.out.2.fr HKit.out hb9⟩⟩
          | 2, _ =>
           obtain rfl := Option.some.inj ho
           have t8 : b.tmps[8]? = some (.pointer (some ⟨w.heap.size + 1, 0, none⟩)) := (hsat.rest 8 (fun i _ => noDst_of (by kernel_rfl) i)).trans rfl
           refine wp_load_mid 80 (.tmp 8) rfl (w.heap.size + 1) 0 (by simp only [Act.eval, Array.getD_eq_getD_getElem?, t8, Option.getD_some]) (nb.map encB) _ (HMem.out W hI.2.all).nob hu80 rfl hz80n ?_
           exact ⟨_, rfl, vals_step hI.1 (by rw [hvf]; rfl), hI.2⟩
          | 3, _ =>
           obtain rfl := Option.some.inj ho
           have t14 : b.tmps[14]? = some (.pointer (some ⟨sb, 0, none⟩)) := (hsat.rest 14 (fun i _ => noDst_of (by kernel_rfl) i)).trans rfl
           refine wp_load_mid 26 (.tmp 14) rfl sb 0 (by simp only [Act.eval, Array.getD_eq_getD_getElem?, t14, Option.getD_some]) (sl.map encB) _ (HMem.out W hI.2.all).slot hu26 rfl hz26 ?_
           exact ⟨_, rfl, vals_step hI.1 (by rw [hvf]; rfl), hI.2⟩
          | 4, _ =>
           obtain rfl := Option.some.inj ho
           have t29 : b.tmps[29]? = some (.slice r3 L3.length d3) := (hsat.rest 29 (fun i _ => noDst_of (by kernel_rfl) i)).trans rfl
           refine Oper.wp_mono (K := fun a' w' => a' = b.put (some 162) (.slice r3 L3.length d3) ∧ w' = W) (by rintro a' w' ⟨rfl, rfl⟩; exact ⟨_, rfl, vals_step hI.1 (by rw [hvf]; rfl), hI.2⟩) ?_
           clear ho hdeps hsat hI hnew hvf
           go_simp
          | 5, _ =>
           obtain rfl := Option.some.inj ho
           refine Oper.wp_mono (K := fun a' w' => a' = b.put (some 163) (.slice (some ⟨W.heap.size, 0, none⟩) 1 1) ∧ w' = W.alloc (.cells #[.string ⟨#[120]⟩] 9)) (by rintro a' w' ⟨rfl, rfl⟩; exact ⟨_, rfl, vals_free hI.1 (by rw [hvf]; rfl), hI.2.lay HKit.out⟩) ?_
           clear ho hdeps hsat hI hnew hvf
           exact Eq.mpr (wp_build_str _ _ _ _ _ _ _ _ _ _) ⟨rfl, rfl⟩
          | 6, _ =>
           obtain rfl := Option.some.inj ho
           have t159 : b.tmps[159]? = some (.agg (TD.map encB).toArray) := (hsat.done 1 159 (hdeps ⟨1, .data⟩ (by simp) rfl) rfl (by simp)).trans (congrArg some (hI.1 1 _ (by rw [hvf]; rfl) (hdeps ⟨1, .data⟩ (by simp) rfl)))
           have t160 : b.tmps[160]? = some (.agg (nb.map encB).toArray) := (hsat.done 2 160 (hdeps ⟨2, .data⟩ (by simp) rfl) rfl (by simp)).trans (congrArg some (hI.1 2 _ (by rw [hvf]; rfl) (hdeps ⟨2, .data⟩ (by simp) rfl)))
           have t161 : b.tmps[161]? = some (.agg (sl.map encB).toArray) := (hsat.done 3 161 (hdeps ⟨3, .data⟩ (by simp) rfl) rfl (by simp)).trans (congrArg some (hI.1 3 _ (by rw [hvf]; rfl) (hdeps ⟨3, .data⟩ (by simp) rfl)))
           have t162 : b.tmps[162]? = some (.slice r3 L3.length d3) := (hsat.done 4 162 (hdeps ⟨4, .data⟩ (by simp) rfl) rfl (by simp)).trans (congrArg some (hI.1 4 _ (by rw [hvf]; rfl) (hdeps ⟨4, .data⟩ (by simp) rfl)))
           obtain ⟨G, hG⟩ : ∃ G : Value → World → Prop, ∀ x w', G x w' ↔ ((∀ j y, vf j = some y → (fun k => if k = 6 then true else listed.getD k false) j = true → (fun k => if k = 6 then x else val k) j = y) ∧ FtY P F (.int .i64 4) (.int .i64 2) (.int .i64 0) (.int .i64 (pa : Int)) (listed.getD 5 false) (val 5) (listed.getD 11 false) (val 11) (listed.getD 14 false) w') := ⟨_, fun _ _ => Iff.rfl⟩
           refine Oper.wp_mono (K := fun a' w' => ∃ v, a' = b.put (some 164) v ∧ G v w') (by rintro a' w' ⟨v, rfl, hv⟩; exact ⟨v, rfl, (hG v w').1 hv⟩) ?_
           have HG := Hid.hide hG
           have HI := Hid.hide hI
           have HVF := Hid.hide hvf
           obtain ⟨g, g1, g2, g3, g4, g5⟩ := hI.2.row (hdeps ⟨5, .data⟩ (by simp) rfl)
           have t163 : b.tmps[163]? = some (.slice (some ⟨g, 0, none⟩) 1 1) := (hsat.done 5 163 (hdeps ⟨5, .data⟩ (by simp) rfl) rfl (by simp)).trans (congrArg some g1)
           have HRow := Hid.hide g4
           clear g1 g2 g3 g4 g5
           clear hG ho hdeps hsat hI hnew hvf
           go_simp
           go_at_call 42
           refine (HVx.out W HI.out.2.all g HRow.out).mono ?_
           rintro e w9 ⟨rfl, hb9⟩
           exact ⟨_, rfl, (HG.out _ _).2 ⟨vals_step HI.out.1 (by rw [HVF.out]; rfl), HI.out.2.more HKit.out hb9⟩⟩
          | 7, _ =>
           obtain rfl := Option.some.inj ho
           have t164 : b.tmps[164]? = some (.tuple #[.string ⟨#[]⟩, .bool false, faultV 4 2 0 pa]) := (hsat.done 6 164 (hdeps ⟨6, .data⟩ (by simp) rfl) rfl (by simp)).trans (congrArg some (hI.1 6 _ (by rw [hvf]; rfl) (hdeps ⟨6, .data⟩ (by simp) rfl)))
           refine Oper.wp_mono (K := fun a' w' => a' = b.put (some 157) (.tuple #[.string ⟨#[]⟩, .bool false, faultV 4 2 0 pa]) ∧ w' = W) (by rintro a' w' ⟨rfl, rfl⟩; exact ⟨_, rfl, vals_step hI.1 (by rw [hvf]; rfl), hI.2⟩) ?_
           clear ho hdeps hsat hI hnew hvf
           go_simp
          | 8, _ =>
           obtain rfl := Option.some.inj ho
           have t157 : b.tmps[157]? = some (.tuple #[.string ⟨#[]⟩, .bool false, faultV 4 2 0 pa]) := (hsat.done 7 157 (hdeps ⟨7, .data⟩ (by simp) rfl) rfl (by simp)).trans (congrArg some (hI.1 7 _ (by rw [hvf]; rfl) (hdeps ⟨7, .data⟩ (by simp) rfl)))
           refine Oper.wp_mono (K := fun a' w' => a' = b.put (some 165) (.string ⟨#[]⟩) ∧ w' = W) (by rintro a' w' ⟨rfl, rfl⟩; exact ⟨_, rfl, vals_step hI.1 (by rw [hvf]; rfl), hI.2⟩) ?_
           clear ho hdeps hsat hI hnew hvf
           go_simp
          | 9, _ =>
           obtain rfl := Option.some.inj ho
           have t157 : b.tmps[157]? = some (.tuple #[.string ⟨#[]⟩, .bool false, faultV 4 2 0 pa]) := (hsat.done 7 157 (hdeps ⟨7, .data⟩ (by simp) rfl) rfl (by simp)).trans (congrArg some (hI.1 7 _ (by rw [hvf]; rfl) (hdeps ⟨7, .data⟩ (by simp) rfl)))
           refine Oper.wp_mono (K := fun a' w' => a' = b.put (some 166) (.bool false) ∧ w' = W) (by rintro a' w' ⟨rfl, rfl⟩; exact ⟨_, rfl, vals_step hI.1 (by rw [hvf]; rfl), hI.2⟩) ?_
           clear ho hdeps hsat hI hnew hvf
           go_simp
          | 10, _ =>
           obtain rfl := Option.some.inj ho
           have t157 : b.tmps[157]? = some (.tuple #[.string ⟨#[]⟩, .bool false, faultV 4 2 0 pa]) := (hsat.done 7 157 (hdeps ⟨7, .data⟩ (by simp) rfl) rfl (by simp)).trans (congrArg some (hI.1 7 _ (by rw [hvf]; rfl) (hdeps ⟨7, .data⟩ (by simp) rfl)))
           refine Oper.wp_mono (K := fun a' w' => a' = b.put (some 167) (faultV 4 2 0 pa) ∧ w' = W) (by rintro a' w' ⟨rfl, rfl⟩; exact ⟨_, rfl, vals_step hI.1 (by rw [hvf]; rfl), hI.2⟩) ?_
           clear ho hdeps hsat hI hnew hvf
           go_simp
          | 11, _ =>
           obtain rfl := Option.some.inj ho
           have hd14 : listed.getD 14 false = false := by
            cases hq : listed.getD 14 false with
            | false => rfl
            | true => exact absurd (hI.2.ft14 hq) (by show ¬ listed.getD 11 false = true; rw [hnew]; simp)
           refine Oper.wp_mono (K := fun a' w' => a' = b.put (some 32) (.pointer (some ⟨W.heap.size, 0, none⟩)) ∧ w' = W.alloc (.cells #[.int .i64 0, .int .i64 0, .int .i64 0, .int .i64 0] 66)) (by rintro a' w' ⟨rfl, rfl⟩; exact ⟨_, rfl, vals_free hI.1 (by rw [hvf]; rfl), hI.2.alloc HKit.out hd14⟩) ?_
           clear ho hdeps hsat hI hnew hvf hd14
           go_simp
          | 12, _ =>
           obtain rfl := Option.some.inj ho
           have t165 : b.tmps[165]? = some (.string ⟨#[]⟩) := (hsat.done 8 165 (hdeps ⟨8, .data⟩ (by simp) rfl) rfl (by simp)).trans (congrArg some (hI.1 8 _ (by rw [hvf]; rfl) (hdeps ⟨8, .data⟩ (by simp) rfl)))
           refine Oper.wp_mono (K := fun a' w' => a' = b.put (some 30) (.string ⟨#[]⟩) ∧ w' = W) (by rintro a' w' ⟨rfl, rfl⟩; exact ⟨_, rfl, vals_step hI.1 (by rw [hvf]; rfl), hI.2⟩) ?_
           clear ho hdeps hsat hI hnew hvf
           go_simp
          | 13, _ =>
           obtain rfl := Option.some.inj ho
           have t166 : b.tmps[166]? = some (.bool false) := (hsat.done 9 166 (hdeps ⟨9, .data⟩ (by simp) rfl) rfl (by simp)).trans (congrArg some (hI.1 9 _ (by rw [hvf]; rfl) (hdeps ⟨9, .data⟩ (by simp) rfl)))
           refine Oper.wp_mono (K := fun a' w' => a' = b.put (some 31) (.bool false) ∧ w' = W) (by rintro a' w' ⟨rfl, rfl⟩; exact ⟨_, rfl, vals_step hI.1 (by rw [hvf]; rfl), hI.2⟩) ?_
           clear ho hdeps hsat hI hnew hvf
           go_simp
          | 14, _ =>
           obtain rfl := Option.some.inj ho
           have t167 : b.tmps[167]? = some (faultV 4 2 0 pa) := (hsat.done 10 167 (hdeps ⟨10, .data⟩ (by simp) rfl) rfl (by simp)).trans (congrArg some (hI.1 10 _ (by rw [hvf]; rfl) (hdeps ⟨10, .data⟩ (by simp) rfl)))
           have d11 := hdeps ⟨11, .data⟩ (by simp) rfl
           obtain ⟨f, x0, x1, x2, x3, f1, f2, f3, -⟩ := hI.2.ft d11
           have t32 : b.tmps[32]? = some (.pointer (some ⟨f, 0, none⟩)) := (hsat.done 11 32 d11 rfl (by simp)).trans (congrArg some f1)
           refine wp_store_mid 66 (.tmp 32) (.tmp 167) rfl f 0 #[.int .i64 4, .int .i64 2, .int .i64 0, .int .i64 (pa : Int)] (by simp only [Act.eval, Array.getD_eq_getD_getElem?, t32, Option.getD_some]) (by simp only [Act.eval, Array.getD_eq_getD_getElem?, t167, Option.getD_some] <;> rfl) (there_cells f3 rfl) (by kernel_rfl) (by simp [Value.oneCell']) ?_
           exact ⟨_, rfl, vals_free hI.1 (by rw [hvf]; rfl), FtY.put HKit.out hI.2 d11 f1⟩
         ·exact ⟨fun _ _ _ h => (by simp at h), FtY.start HSt.out (by simp) (by simp) (by simp)⟩
         ·intro val W hI
          have e0 : val 0 = .pointer (some ⟨bt, 0, none⟩) := hI.1 0 _ (by rw [hvf]; rfl) rfl
          have e1 : val 1 = .agg (TD.map encB).toArray := hI.1 1 _ (by rw [hvf]; rfl) rfl
          have e2 : val 2 = .agg (nb.map encB).toArray := hI.1 2 _ (by rw [hvf]; rfl) rfl
          have e3 : val 3 = .agg (sl.map encB).toArray := hI.1 3 _ (by rw [hvf]; rfl) rfl
          have e4 : val 4 = .slice r3 L3.length d3 := hI.1 4 _ (by rw [hvf]; rfl) rfl
          have e6 : val 6 = .tuple #[.string ⟨#[]⟩, .bool false, faultV 4 2 0 pa] := hI.1 6 _ (by rw [hvf]; rfl) rfl
          have e7 : val 7 = .tuple #[.string ⟨#[]⟩, .bool false, faultV 4 2 0 pa] := hI.1 7 _ (by rw [hvf]; rfl) rfl
          have e8 : val 8 = .string ⟨#[]⟩ := hI.1 8 _ (by rw [hvf]; rfl) rfl
          have e9 : val 9 = .bool false := hI.1 9 _ (by rw [hvf]; rfl) rfl
          have e10 : val 10 = faultV 4 2 0 pa := hI.1 10 _ (by rw [hvf]; rfl) rfl
          have e12 : val 12 = .string ⟨#[]⟩ := hI.1 12 _ (by rw [hvf]; rfl) rfl
          have e13 : val 13 = .bool false := hI.1 13 _ (by rw [hvf]; rfl) rfl
          have hX := hI.2
          simp only [runFrom, Act.put, Nat.zero_add, Nat.reduceAdd, List.setIfInBounds_toArray, List.set_cons_zero, List.set_cons_succ, e0, e1, e2, e3, e4, e6, e7, e8, e9, e10, e12, e13]
          clear hI hvf e0 e1 e2 e3 e4 e6 e7 e8 e9 e10 e12 e13
          have HX : Hid (FtY P F (.int .i64 4) (.int .i64 2) (.int .i64 0) (.int .i64 (pa : Int)) true (val 5) true (val 11) true W) := hX
          clear hX
          (try go_wp2)
          go_meet
          exact ⟨_, HX.out⟩
        case rest => as_aux_lemma =>
         obtain ⟨v5, hY⟩ := hcut
         obtain ⟨g, rfl, -, hcf⟩ := hY.fault
         obtain ⟨f0, f1, f2, f3, -⟩ := fault_cells hcf
         have HB := Hid.hide (HMem.out _ hY.all).below
         clear hY hcf
         go_wp2
         go_ret
         exact ⟨rfl, HB.out⟩
end Go.Proofs.YtjiikjpnlgogfaaGreatDoor
