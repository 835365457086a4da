/-
  Package twigskeep: Sound, the walk.
-/
import Derived.Test.YtjiikjpnlgogfaaGreatDoorSdSpG
import Derived.Test.YtjiikjpnlgogfaaGreatDoorSdVaG
namespace Go.Proofs.YtjiikjpnlgogfaaGreatDoor
open Go.RowKit
def SouU (w w2 : World) (k : Nat) : Prop := w.heap.size ≤ k ∧ k < w2.heap.size
attribute [-go_sem] Instr.build Instr.fill Instr.buildSlice
set_option maxRecDepth 100000 in
set_option maxHeartbeats 25600000 in
theorem sound_walk (raw asked : ByteArray) (how at_ by_ : Int) (pa : Option Addr) (la : List ByteArray) (ca : Nat) (w : World) (sent : Nat → Addr) (hE : Env w.heap.size sent w) (hTy : typeAt w) (hTl : 12 < w.heap.size) (hr : raw.size ≤ 9223372036854775807) (has : asked.size ≤ 9223372036854775807) (h1 : -9223372036854775808 ≤ how ∧ how < 9223372036854775808) (h2 : -9223372036854775808 ≤ at_ ∧ at_ < 9223372036854775808) (h3 : -9223372036854775808 ≤ by_ ∧ by_ < 9223372036854775808) (hrow : StrRow w pa la ca) (hpa : ∀ a, pa = some a → a.block < w.heap.size) (hla : la.length ≤ 9223372036854775807) :
  Calls Tryz.prog 10 #[.string raw, .string asked, .int .i64 how, .int .i64 at_, .int .i64 by_, .slice pa la.length ca] w fun e w' => e = .returned (.bool true) ∧ Below w.heap.size w w' := by
 have HK1 := Hid.hide (known_any raw w hr)
 have HNx := Hid.hide (fun fb => value_loop fb asked has)
 have HKy := Hid.hide (fun fb W h => key_any fb asked W h has)
 have HE : Hid (Env w.heap.size sent w ∧ typeAt w ∧ 12 < w.heap.size) := ⟨hE, hTy, hTl⟩
 have HA : Hid (StrRow w pa la ca ∧ (∀ a, pa = some a → a.block < w.heap.size) ∧ la.length ≤ 9223372036854775807) := ⟨hrow, hpa, hla⟩
 have HI : Hid ((-9223372036854775808 ≤ how ∧ how < 9223372036854775808) ∧ (-9223372036854775808 ≤ at_ ∧ at_ < 9223372036854775808) ∧ (-9223372036854775808 ≤ by_ ∧ by_ < 9223372036854775808)) := ⟨h1, h2, h3⟩
 have hu26 := Tryz.underlying26
 clear hE hTy hTl hr has h1 h2 h3 hrow hpa hla
 go_enter Tryz.func10, Tryz.ntmps10
 go_wp2_with fail
 refine HK1.out.mono ?_
 rintro e w1 ⟨hb1, ks, vs, m, rfl, hk1, hd1, hl1⟩
 obtain ⟨pk, mk, ck, rfl⟩ := hk1.keys.shape
 obtain ⟨pv, mv, cv, rfl⟩ := hk1.vals.shape
 obtain ⟨rfl, rfl⟩ := hk1.len
 have H1 : Hid (Below w.heap.size w w1 ∧ Kn w1 w.heap.size (.slice pk m.length ck) (.slice pv m.length cv) m ∧ (m.map pth).Nodup ∧ m.length ≤ 12) := ⟨hb1, hk1, pth_dup hd1, hl1⟩
 clear hb1 hk1 hd1 hl1 HK1
 go_wp2_with fail
 obtain ⟨hb2, c0, c1, hs2⟩ := laid_map w1 (.slice pk m.length ck) (.slice pv m.length cv)
 have hbox : (World.alloc w1 (.cells #[.slice pk m.length ck, .slice pv m.length cv] 54)).heap[w1.heap.size]? = some (.cells #[.slice pk m.length ck, .slice pv m.length cv] 54 (0, 0)) := Array.getElem?_push_size
 generalize World.alloc w1 _ = w2 at hb2 c0 c1 hs2 hbox ⊢
 have hbw2 := H1.out.1.behind' hb2
 have HTr := Hid.hide (ktree_any (H1.out.2.1.below hb2) (Nat.le_refl _) (Below.refl _ _) (forest_none w2) (by have := H1.out; omega) H1.out.2.2.1 false)
 have H2 : Hid (Below w.heap.size w w2 ∧ w2.heap.size = w1.heap.size + 1 ∧ w2.heap[w1.heap.size]? = some (.cells #[.slice pk m.length ck, .slice pv m.length cv] 54 (0, 0)) ∧ Kn w2 w.heap.size (.slice pk m.length ck) (.slice pv m.length cv) m ∧ (m.map pth).Nodup ∧ m.length ≤ 12 ∧ w.heap.size ≤ w1.heap.size) := ⟨hbw2, hs2, hbox, H1.out.2.1.below hb2, H1.out.2.2.1, H1.out.2.2.2, H1.out.1.size⟩
 clear hb2 hbw2 hbox hs2 H1
 refine HTr.out.mono ?_
 rintro e w3 ⟨bt, hbt, rfl, S, ht, hf3⟩
 obtain ⟨t, hta, hcan, hget⟩ := ht.ex
 have hb3 : Below w2.heap.size w2 w3 := hf3.below (forest_none w2) fun _ h => h.elim
 have hlow : ∀ k, k < w2.heap.size → S k = none := fun k hk => by
  cases hS : S k with
  | none => rfl
  | some z => have := hf3.forest.low k z hS; omega
 have hKit := GenQ.kit (w := w) (R := w2) (U := SouU w w2) (B := w2.heap.size) (S := S) (bt := bt) (t := t) H2.out.1.size (fun k hk => ⟨hk.2, hlow k hk.2⟩)
 have hQ3 : GenQ w w2 (SouU w w2) w2.heap.size S bt t w3 := ⟨H2.out.1.behind' hb3, hb3.size, fun k hk => hb3.block k hk.2, hf3.forest, hta⟩
 have H3 : Hid (GenQ w w2 (SouU w w2) w2.heap.size S bt t w3 ∧ t.can 64 ∧ (∀ s, s.length = 64 → t.get s = getN m s) ∧ (∀ k, k < w2.heap.size → S k = none)) := ⟨hQ3, hcan, hget, hlow⟩
 have HK0 := Hid.hide hKit
 clear hbt ht hf3 hta hcan hget hb3 hQ3 hKit HTr c0 c1 hlow
 go_wp2_with (refine wpList_buildTo rfl 30 _ rfl _ rfl #[.string asked, .int .i64 0] (by kernel_rfl) ?_)
 have hfd := laid_feed w3 asked
 have hb4 : Below w3.heap.size w3 (World.alloc w3 (.cells #[.string asked, .int .i64 0] 30)) := (Below.refl _ _).alloc (Nat.le_refl _) _
 generalize World.alloc w3 _ = w4 at hfd hb4 ⊢
 have hFb := HK0.out.fresh _ _ H3.out.1 (Nat.le_refl _)
 have H4 : Hid (GenQ w w2 (SouU w w2) w2.heap.size S bt t w4 ∧ GenF w (SouU w w2) S bt w3.heap.size ∧ FeedAt w4 w3.heap.size asked) := ⟨HK0.out.more _ _ H3.out.1 hb4, hFb, hfd⟩
 obtain ⟨fb, hfbe⟩ : ∃ fb, w3.heap.size = fb := ⟨_, rfl⟩
 rw [hfbe] at H4 ⊢
 have HS3 : Hid (t.can 64 ∧ (∀ s, s.length = 64 → t.get s = getN m s) ∧ (∀ k, k < w2.heap.size → S k = none)) := H3.out.2
 clear hfd hb4 hFb H3 hfbe
 go_wp2_with fail
 refine (HKy.out _ w4 H4.out.2.2).mono ?_
 rintro e w5 ⟨Ka, hKa, hKab, rfl, hf5⟩
 obtain ⟨tt, z1, z2, o1, b6, r6, s6⟩ := laid_key w5 Ka hKa
 have th6 : ((w5.alloc (.cells z32 26)).setCells w5.heap.size 0 (Ka.toList.map encB)).there w5.heap.size 0 32 := by
  have := World.there_setCells tt w5.heap.size 0 (Ka.toList.map encB)
  simpa [hKa] using this
 have hQ5 := HK0.out.set _ _ _ H4.out.1 H4.out.2.1 hf5.1
 have hFka := HK0.out.fresh _ _ hQ5 (Nat.le_refl _)
 go_wp2_with (refine wpList_store_mid rfl 26 _ _ rfl w5.heap.size 0 (Ka.toList.map encB).toArray rfl rfl tt z1 o1 ?_; generalize World.setCells _ w5.heap.size 0 _ = w6 at b6 r6 s6 th6 ⊢)
 obtain ⟨ka, hkae⟩ : ∃ ka, w5.heap.size = ka := ⟨_, rfl⟩
 have H6 : Hid (GenQ w w2 (SouU w w2) w2.heap.size S bt t w6 ∧ GenF w (SouU w w2) S bt ka ∧ FeedAt w6 fb asked ∧ Ka.size = 32 ∧ Bytes Ka ∧ w6.rangeAt ka 0 (Ka.toList.map encB) ∧ ka < w6.heap.size ∧ fb ≠ ka ∧ GenF w (SouU w w2) S bt fb ∧ w6.there ka 0 32) := by
  rw [← hkae]
  exact ⟨HK0.out.more _ _ hQ5 b6, hFka, hf5.2.below b6, hKa, hKab, r6, s6, by have := hf5.2.lt; omega, H4.out.2.1, th6⟩
 rw [hkae]
 clear hKa hKab hf5 tt z1 z2 o1 b6 r6 s6 th6 hQ5 hFka H4 hkae
 refine (HKy.out _ w6 H6.out.2.2.1).mono ?_
 rintro e w7 ⟨Kb, hKb, hKbb, rfl, hf7⟩
 obtain ⟨tt, z1, z2, o1, b8, r8, s8⟩ := laid_key w7 Kb hKb
 have hQ7 := HK0.out.set _ _ _ H6.out.1 H6.out.2.2.2.2.2.2.2.2.1 hf7.1
 have hFkb := HK0.out.fresh _ _ hQ7 (Nat.le_refl _)
 go_upto_region 8 with (refine wpList_store_mid rfl 26 _ _ rfl w7.heap.size 0 (Kb.toList.map encB).toArray rfl rfl tt z1 o1 ?_; generalize World.setCells _ w7.heap.size 0 _ = w8 at b8 r8 s8 ⊢)
 obtain ⟨kb, hkbe⟩ : ∃ kb, w7.heap.size = kb := ⟨_, rfl⟩
 have H8 : Hid (GenQ w w2 (SouU w w2) w2.heap.size S bt t w8 ∧ GenF w (SouU w w2) S bt kb ∧ FeedAt w8 fb asked ∧ Kb.size = 32 ∧ Bytes Kb ∧ w8.rangeAt kb 0 (Kb.toList.map encB) ∧ fb ≠ kb ∧ ka ≠ kb ∧ w8.rangeAt ka 0 (Ka.toList.map encB) ∧ kb < w8.heap.size ∧ ka < w8.heap.size ∧ w8.heap[ka]? = w6.heap[ka]?) := by
  have hlt := H6.out.2.2.2.2.2.2.1
  have hs7 := hf7.1.size
  have hka7 : w7.heap[ka]? = w6.heap[ka]? := hf7.1.block ka hlt H6.out.2.2.2.2.2.2.2.1.symm
  rw [← hkbe]
  exact ⟨HK0.out.more _ _ hQ7 b8, hFkb, hf7.2.below b8, hKb, hKbb, r8, by have := hf7.2.lt; omega, by omega, rangeAt_block (rangeAt_block H6.out.2.2.2.2.2.1 hka7) (b8.block ka (by omega)), s8, by omega, (b8.block ka (by omega)).trans hka7⟩
 rw [hkbe]
 clear hKb hKbb hf7 tt z1 z2 o1 b8 r8 s8 hQ7 hFkb hkbe
 have hbx : ∀ W, GenQ w w2 (SouU w w2) w2.heap.size S bt t W → W.heap[w1.heap.size]? = some (.cells #[.slice pk m.length ck, .slice pv m.length cv] 54 (0, 0)) := fun W h => (h.keep _ ⟨H2.out.2.2.2.2.2.2, by have := H2.out.2.1; omega⟩).trans H2.out.2.2.1
 have HBx := Hid.hide hbx
 obtain ⟨z0, z1, -⟩ := box_cells (hbx _ H8.out.1)
 clear hbx
 obtain ⟨n1, hn1⟩ : ∃ n, w1.heap.size = n := ⟨_, rfl⟩
 rw [hn1] at HBx z0 z1 ⊢
 simp only [Act.put]
 go_cut [58] (fun a wd => ∃ b : Bool, a = .bool b ∧ (b = true → 0 < m.length) ∧ Fed fb asked w8 wd)
 case first => as_aux_lemma =>
  by_cases hm0 : m.length = 0
  ·rw [hm0] at z0 z1 ⊢
   have HF : Hid (Fed fb asked w8 w8) := ⟨.refl _ _, H8.out.2.2.1⟩
   go_wp2
   go_meet
   exact ⟨false, rfl, fun q => (by cases q), HF.out⟩
  ·have hm1 : (0 : Int) < (m.length : Int) := by omega
   go_wp2_with fail
   refine (HNx.out _ 2 w8 H8.out.2.2.1 (by omega) (by omega)).mono ?_
   rintro e wd ⟨c, hc, rfl, hf⟩
   have HF := Hid.hide hf
   clear hf hc
   go_wp2
   go_meet
   exact ⟨_, rfl, fun _ => by omega, HF.out⟩
 case rest => as_aux_lemma =>
  obtain ⟨b, rfl, hbm, hf9⟩ := hcut
  obtain ⟨w9, rfl⟩ : ∃ x, x = wc := ⟨_, rfl⟩
  have hQ9 := HK0.out.set _ _ _ H8.out.1 H6.out.2.2.2.2.2.2.2.2.1 hf9.1
  have hr9 : w9.rangeAt ka 0 (Ka.toList.map encB) ∧ w9.rangeAt kb 0 (Kb.toList.map encB) := ⟨rangeAt_block H8.out.2.2.2.2.2.2.2.2.1 (hf9.1.block ka H8.out.2.2.2.2.2.2.2.2.2.2.1 H6.out.2.2.2.2.2.2.2.1.symm), rangeAt_block H8.out.2.2.2.2.2.1 (hf9.1.block kb H8.out.2.2.2.2.2.2.2.2.2.1 H8.out.2.2.2.2.2.2.1.symm)⟩
  have H9 : Hid (GenQ w w2 (SouU w w2) w2.heap.size S bt t w9 ∧ FeedAt w9 fb asked ∧ w9.rangeAt ka 0 (Ka.toList.map encB) ∧ w9.rangeAt kb 0 (Kb.toList.map encB) ∧ ka < w9.heap.size ∧ kb < w9.heap.size ∧ w9.heap[ka]? = w6.heap[ka]?) := ⟨hQ9, hf9.2, hr9.1, hr9.2, Nat.lt_of_lt_of_le H8.out.2.2.2.2.2.2.2.2.2.2.1 hf9.1.size, Nat.lt_of_lt_of_le H8.out.2.2.2.2.2.2.2.2.2.1 hf9.1.size, (hf9.1.block ka H8.out.2.2.2.2.2.2.2.2.2.2.1 H6.out.2.2.2.2.2.2.2.1.symm).trans H8.out.2.2.2.2.2.2.2.2.2.2.2⟩
  have HBM := Hid.hide hbm
  clear hQ9 hr9 hf9 hbm z0 z1
  apply_assumption
  go_cut [] (fun wd => ∃ K : Array Nat, K.size = 32 ∧ Bytes K ∧ wd.rangeAt ka 0 (K.toList.map encB) ∧ (GenQ w w2 (SouU w w2) w2.heap.size S bt t wd ∧ wd.rangeAt kb 0 (Kb.toList.map encB)))
  case first => as_aux_lemma =>
   cases b with
   | false =>
    go_wp2
    go_meet
    exact ⟨Ka, H6.out.2.2.2.1, H6.out.2.2.2.2.1, H9.out.2.2.1, H9.out.1, H9.out.2.2.2.1⟩
   | true =>
    go_upto_region 9 with fail
    have hm0 : 0 < m.length := HBM.out rfl
    have hm12 : m.length ≤ 12 := H2.out.2.2.2.2.2.1
    obtain ⟨gk, cap, ek, -, -⟩ := H2.out.2.2.2.1.key hm0
    simp only [Value.slice.injEq] at ek
    obtain ⟨rfl, -, rfl⟩ := ek
    have hgk := (H2.out.2.2.2.1.keys.block gk rfl)
    obtain ⟨G9, hG9⟩ : ∃ G : World → Prop, (fun W => GenQ w w2 (SouU w w2) w2.heap.size S bt t W ∧ W.rangeAt kb 0 (Kb.toList.map encB) ∧ kb < W.heap.size) = G := ⟨_, rfl⟩
    have hkf := H8.out.2.2.2.2.2.2.1
    have hkk := H8.out.2.2.2.2.2.2.2.1
    have HG9 : Hid (N9K G9 fb ka) := by
     rw [← hG9]
     exact ⟨fun W W' h ho => ⟨HK0.out.set _ _ _ h.1 H6.out.2.2.2.2.2.2.2.2.1 ho, rangeAt_block h.2.1 (ho.block kb h.2.2 hkf.symm), Nat.lt_of_lt_of_le h.2.2 ho.size⟩, fun W W' h ho => ⟨HK0.out.set _ _ _ h.1 H6.out.2.1 ho, rangeAt_block h.2.1 (ho.block kb h.2.2 hkk.symm), Nat.lt_of_lt_of_le h.2.2 ho.size⟩, H6.out.2.2.2.2.2.2.2.1⟩
    have HGo : Hid (∀ W, G9 W → GenQ w w2 (SouU w w2) w2.heap.size S bt t W ∧ W.rangeAt kb 0 (Kb.toList.map encB) ∧ kb < W.heap.size) := fun W h => by rw [← hG9] at h; exact h
    have HBx' : Hid (∀ W, G9 W → W.cell? ⟨n1, 0, none⟩ = some (.slice (some ⟨gk, 0, none⟩) m.length ck)) := fun W h => (box_cells (HBx.out W (HGo.out W h).1)).1
    have HKs : Hid (∀ W, G9 W → ∀ iy, iy < m.length → ∃ K : Array Nat, K.size = 32 ∧ Bytes K ∧ W.rangeAt gk (iy * 32) (K.toList.map encB)) := fun W h iy hiy => by
     obtain ⟨g', cap', e', -, hrg⟩ := H2.out.2.2.2.1.key hiy
     simp only [Value.slice.injEq, Option.some.injEq, Addr.mk.injEq, and_true] at e'
     obtain ⟨rfl, -, -⟩ := e'
     have hok := H2.out.2.2.2.1.ok _ (List.getElem_mem hiy)
     exact ⟨_, hok.1, hok.2.1, (HGo.out W h).1.range hrg ⟨hgk.1, hgk.2⟩⟩
    have HSt9 : Hid (Nu9 G9 fb ka asked m.length gk false undef false undef false undef false w9.drew) := by
     refine ⟨?_, H9.out.2.1.below (Below.refl _ _).drew, ?_, fun q => (by cases q), fun q => (by cases q), fun q => (by cases q), fun q => (by cases q)⟩
     ·rw [← hG9]
      exact ⟨HK0.out.more _ _ H9.out.1 (Below.refl _ _).drew, H9.out.2.2.2.1, H9.out.2.2.2.2.2.1⟩
     ·intro j hj
      have hb := H9.out.2.2.2.2.2.2
      show (w9.cell? _).isSome = true ∧ w9.frozen? _ = false
      rw [World.cell?_of_block hb, World.frozen?_of_block hb]
      exact H6.out.2.2.2.2.2.2.2.2.2 j hj
    clear HBx
    have HBx := HBx'
    clear HBx' hG9 hgk hkf hkk
    refine wp_region_any (by kernel_rfl) ?_
    change wpAny _ _ _ _ _ _ _ (World.drew _)
    obtain ⟨vf, hvf⟩ : ∃ vf : Nat → Option Value, vf = fun i => ([some (.pointer (some ⟨n1, 0, none⟩)), some (.slice (some ⟨gk, 0, none⟩) m.length ck), some (.pointer (some ⟨fb, 0, none⟩)), some (.pointer (some ⟨n1, 0, none⟩)), some (.slice (some ⟨gk, 0, none⟩) m.length ck), some (.int .i64 (m.length : Int)), none, none, none, none] : List (Option Value)).getD i none := ⟨_, rfl⟩
    refine wpAny_vary _ (fun d v w' => (∀ i x, vf i = some x → d i = true → v i = x) ∧ (fun d v w' => Nu9 G9 fb ka asked m.length gk (d 6) (v 6) (d 7) (v 7) (d 8) (v 8) (d 9) w') d v w') (by kernel_rfl) (by kernel_rfl) ?_ _ (fun _ => undef) ?_ ?_
    ·intro i o ho listed val b W hsat hnew hdeps hI
     have hi : i < 10 := (Array.getElem?_eq_some_iff.1 ho).1
     match i, hi with
     | 0, _ =>
      obtain rfl := Option.some.inj ho
      have t13 : b.tmps[13]? = some (.pointer (some ⟨n1, 0, none⟩)) := (hsat.rest 13 (fun i _ => noDst_of (by kernel_rfl) i)).trans rfl
      refine Oper.wp_mono (K := fun a' w' => a' = b.put (some 59) (.pointer (some ⟨n1, 0, none⟩)) ∧ w' = W) (by rintro a' w' ⟨rfl, rfl⟩; exact ⟨_, rfl, vals_step hI.1 (by rw [hvf]; rfl), hI.2⟩) ?_
      clear ho hdeps hsat hI hnew hvf
      go_simp
     | 1, _ =>
      obtain rfl := Option.some.inj ho
      have t59 : b.tmps[59]? = some (.pointer (some ⟨n1, 0, none⟩)) := (hsat.done 0 59 (hdeps ⟨0, .data⟩ (by simp) rfl) rfl (by simp)).trans (congrArg some (hI.1 0 _ (by rw [hvf]; rfl) (hdeps ⟨0, .data⟩ (by simp) rfl)))
      have z0 := HBx.out W hI.2.all
      refine Oper.wp_mono (K := fun a' w' => a' = b.put (some 60) (.slice (some ⟨gk, 0, none⟩) m.length ck) ∧ w' = W) (by rintro a' w' ⟨rfl, rfl⟩; exact ⟨_, rfl, vals_step hI.1 (by rw [hvf]; rfl), hI.2⟩) ?_
      clear ho hdeps hsat hI hnew hvf
      go_simp
     | 2, _ =>
      obtain rfl := Option.some.inj ho
      have t16 : b.tmps[16]? = some (.pointer (some ⟨fb, 0, none⟩)) := (hsat.rest 16 (fun i _ => noDst_of (by kernel_rfl) i)).trans rfl
      refine Oper.wp_mono (K := fun a' w' => a' = b.put (some 61) (.pointer (some ⟨fb, 0, none⟩)) ∧ w' = W) (by rintro a' w' ⟨rfl, rfl⟩; exact ⟨_, rfl, vals_step hI.1 (by rw [hvf]; rfl), hI.2⟩) ?_
      clear ho hdeps hsat hI hnew hvf
      go_simp
     | 3, _ =>
      obtain rfl := Option.some.inj ho
      have t13 : b.tmps[13]? = some (.pointer (some ⟨n1, 0, none⟩)) := (hsat.rest 13 (fun i _ => noDst_of (by kernel_rfl) i)).trans rfl
      refine Oper.wp_mono (K := fun a' w' => a' = b.put (some 62) (.pointer (some ⟨n1, 0, none⟩)) ∧ w' = W) (by rintro a' w' ⟨rfl, rfl⟩; exact ⟨_, rfl, vals_step hI.1 (by rw [hvf]; rfl), hI.2⟩) ?_
      clear ho hdeps hsat hI hnew hvf
      go_simp
     | 4, _ =>
      obtain rfl := Option.some.inj ho
      have t62 : b.tmps[62]? = some (.pointer (some ⟨n1, 0, none⟩)) := (hsat.done 3 62 (hdeps ⟨3, .data⟩ (by simp) rfl) rfl (by simp)).trans (congrArg some (hI.1 3 _ (by rw [hvf]; rfl) (hdeps ⟨3, .data⟩ (by simp) rfl)))
      have z0 := HBx.out W hI.2.all
      refine Oper.wp_mono (K := fun a' w' => a' = b.put (some 63) (.slice (some ⟨gk, 0, none⟩) m.length ck) ∧ w' = W) (by rintro a' w' ⟨rfl, rfl⟩; exact ⟨_, rfl, vals_step hI.1 (by rw [hvf]; rfl), hI.2⟩) ?_
      clear ho hdeps hsat hI hnew hvf
      go_simp
     | 5, _ =>
      obtain rfl := Option.some.inj ho
      have t63 : b.tmps[63]? = some (.slice (some ⟨gk, 0, none⟩) m.length ck) := (hsat.done 4 63 (hdeps ⟨4, .data⟩ (by simp) rfl) rfl (by simp)).trans (congrArg some (hI.1 4 _ (by rw [hvf]; rfl) (hdeps ⟨4, .data⟩ (by simp) rfl)))
      refine Oper.wp_mono (K := fun a' w' => a' = b.put (some 64) (.int .i64 (m.length : Int)) ∧ w' = W) (by rintro a' w' ⟨rfl, rfl⟩; exact ⟨_, rfl, vals_step hI.1 (by rw [hvf]; rfl), hI.2⟩) ?_
      clear ho hdeps hsat hI hnew hvf
      go_simp
     | 6, _ =>
      obtain rfl := Option.some.inj ho
      have t61 : b.tmps[61]? = some (.pointer (some ⟨fb, 0, none⟩)) := (hsat.done 2 61 (hdeps ⟨2, .data⟩ (by simp) rfl) rfl (by simp)).trans (congrArg some (hI.1 2 _ (by rw [hvf]; rfl) (hdeps ⟨2, .data⟩ (by simp) rfl)))
      have t64 : b.tmps[64]? = some (.int .i64 (m.length : Int)) := (hsat.done 5 64 (hdeps ⟨5, .data⟩ (by simp) rfl) rfl (by simp)).trans (congrArg some (hI.1 5 _ (by rw [hvf]; rfl) (hdeps ⟨5, .data⟩ (by simp) rfl)))
      have hd7 : listed.getD 7 false = false := by
       cases hq : listed.getD 7 false with
       | false => rfl
       | true => exact absurd (hI.2.dep hq) (by show ¬ listed.getD 6 false = true; rw [hnew]; simp)
      obtain ⟨G, hG⟩ : ∃ G : Value → World → Prop, ∀ x w', G x w' ↔ ((∀ j y, vf j = some y → (fun k => if k = 6 then true else listed.getD k false) j = true → (fun k => if k = 6 then x else val k) j = y) ∧ Nu9 G9 fb ka asked m.length gk true x (listed.getD 7 false) (val 7) (listed.getD 8 false) (val 8) (listed.getD 9 false) w') := ⟨_, fun _ _ => Iff.rfl⟩
      refine Oper.wp_mono (K := fun a' w' => ∃ v, a' = b.put (some 65) v ∧ G v w') (by rintro a' w' ⟨v, rfl, hv⟩; exact ⟨v, rfl, (hG v w').1 hv⟩) ?_
      have HG := Hid.hide hG
      have HI2 := Hid.hide hI
      have HVF := Hid.hide hvf
      have HD7 := Hid.hide hd7
      clear hG ho hdeps hsat hI hnew hvf hd7
      go_simp
      go_at_call 34
      refine (HNx.out _ m.length W HI2.out.2.feed (by omega) (by omega)).mono ?_
      rintro e w9 ⟨c9, hc9, rfl, hf9⟩
      exact ⟨_, rfl, (HG.out _ _).2 ⟨vals_free HI2.out.1 (by rw [HVF.out]; rfl), HI2.out.2.next HG9.out hc9 hf9 HD7.out⟩⟩
     | 7, _ =>
      obtain rfl := Option.some.inj ho
      have t60 : b.tmps[60]? = some (.slice (some ⟨gk, 0, none⟩) m.length ck) := (hsat.done 1 60 (hdeps ⟨1, .data⟩ (by simp) rfl) rfl (by simp)).trans (congrArg some (hI.1 1 _ (by rw [hvf]; rfl) (hdeps ⟨1, .data⟩ (by simp) rfl)))
      have d6 := hdeps ⟨6, .data⟩ (by simp) rfl
      obtain ⟨iy, hiy, e6, -⟩ := hI.2.pos d6
      have t65 : b.tmps[65]? = some (.int .i64 (iy : Int)) := (hsat.done 6 65 d6 rfl (by simp)).trans (congrArg some e6)
      refine Oper.wp_mono (K := fun a' w' => a' = b.put (some 66) (.pointer (some ⟨gk, iy * 32, none⟩)) ∧ w' = W) (by rintro a' w' ⟨rfl, rfl⟩; exact ⟨_, rfl, vals_free hI.1 (by rw [hvf]; rfl), hI.2.index d6 e6⟩) ?_
      clear ho hdeps hsat hI hnew hvf d6 e6
      go_simp
     | 8, _ =>
      obtain rfl := Option.some.inj ho
      have d7 := hdeps ⟨7, .data⟩ (by simp) rfl
      obtain ⟨iy, hiy, e7⟩ := hI.2.at7 d7
      have t66 : b.tmps[66]? = some (.pointer (some ⟨gk, iy * 32, none⟩)) := (hsat.done 7 66 d7 rfl (by simp)).trans (congrArg some e7)
      obtain ⟨K9, hK9, hKb9, hr9⟩ := HKs.out W hI.2.all iy hiy
      refine wp_load_mid 26 (.tmp 66) rfl gk (iy * 32) (by simp only [Act.eval, Array.getD_eq_getD_getElem?, t66, Option.getD_some]) (K9.toList.map encB) _ hr9 hu26 rfl (by rw [size51]; simp [hK9]) ?_
      exact ⟨_, rfl, vals_free hI.1 (by rw [hvf]; rfl), hI.2.load hK9 hKb9⟩
     | 9, _ =>
      obtain rfl := Option.some.inj ho
      have t17 : b.tmps[17]? = some (.pointer (some ⟨ka, 0, none⟩)) := (hsat.rest 17 (fun i _ => noDst_of (by kernel_rfl) i)).trans rfl
      have d8 := hdeps ⟨8, .data⟩ (by simp) rfl
      obtain ⟨K9, hK9, hKb9, e8⟩ := hI.2.key d8
      have t67 : b.tmps[67]? = some (.agg (K9.toList.map encB).toArray) := (hsat.done 8 67 d8 rfl (by simp)).trans (congrArg some e8)
      refine wp_store_mid 26 (.tmp 17) (.tmp 67) rfl ka 0 (K9.toList.map encB).toArray (by simp only [Act.eval, Array.getD_eq_getD_getElem?, t17, Option.getD_some]) (by simp only [Act.eval, Array.getD_eq_getD_getElem?, t67, Option.getD_some]) (by simpa [hK9] using hI.2.there) (by rw [size51]; simp [hK9]) (all_oneCell_toArray (oneCell_enc K9 .u8)) ?_
      exact ⟨undef, rfl, vals_free hI.1 (by rw [hvf]; rfl), hI.2.store HG9.out hK9 hKb9⟩
    ·exact ⟨fun _ _ _ h => (by simp at h), HSt9.out⟩
    ·intro val W hI
     have e0 : val 0 = .pointer (some ⟨n1, 0, none⟩) := hI.1 0 _ (by rw [hvf]; rfl) rfl
     have e1 : val 1 = .slice (some ⟨gk, 0, none⟩) m.length ck := hI.1 1 _ (by rw [hvf]; rfl) rfl
     have e2 : val 2 = .pointer (some ⟨fb, 0, none⟩) := hI.1 2 _ (by rw [hvf]; rfl) rfl
     have e3 : val 3 = .pointer (some ⟨n1, 0, none⟩) := hI.1 3 _ (by rw [hvf]; rfl) rfl
     have e4 : val 4 = .slice (some ⟨gk, 0, none⟩) m.length ck := hI.1 4 _ (by rw [hvf]; rfl) rfl
     have e5 : val 5 = .int .i64 (m.length : Int) := hI.1 5 _ (by rw [hvf]; rfl) rfl
     have hX := hI.2
     simp only [runFrom, Act.put, Nat.zero_add, Nat.reduceAdd, List.setIfInBounds_toArray, List.set_cons_zero, List.set_cons_succ, e0, e1, e2, e3, e4, e5]
     clear hI hvf e0 e1 e2 e3 e4 e5
     obtain ⟨K9, hK9, hKb9, hr9⟩ := hX.done rfl
     have HY : Hid (G9 W ∧ FeedAt W fb asked ∧ K9.size = 32 ∧ Bytes K9 ∧ W.rangeAt ka 0 (K9.toList.map encB)) := ⟨hX.all, hX.feed, hK9, hKb9, hr9⟩
     clear hX hK9 hKb9 hr9
     (try go_wp2)
     go_meet
     exact ⟨K9, HY.out.2.2.1, HY.out.2.2.2.1, HY.out.2.2.2.2, (HGo.out W HY.out.1).1, (HGo.out W HY.out.1).2.1⟩
  case rest => as_aux_lemma =>
   obtain ⟨K, hK, hKb', hr10, hQ10, hrb10⟩ := hcut
   obtain ⟨w10, rfl⟩ : ∃ x, x = wc := ⟨_, rfl⟩
   obtain ⟨U1, hU1⟩ : ∃ U : Nat → Prop, ∀ k, U k ↔ (SouU w w2 k ∨ k = ka ∨ k = kb) := ⟨fun k => SouU w w2 k ∨ k = ka ∨ k = kb, fun _ => Iff.rfl⟩
   have hkl : ka < w10.heap.size ∧ kb < w10.heap.size := ⟨range_lt hr10 (by simp [hK]), range_lt hrb10 (by simp [H8.out.2.2.2.1])⟩
   have hU1' : ∀ k, U1 k → k < w10.heap.size ∧ S k = none := fun k hk => by
    rcases (hU1 k).1 hk with h | rfl | rfl
    ·exact ⟨Nat.lt_of_lt_of_le h.2 hQ10.size, HS3.out.2.2 k h.2⟩
    ·exact ⟨hkl.1, H6.out.2.1.2.1⟩
    ·exact ⟨hkl.2, H8.out.2.1.2.1⟩
   obtain ⟨p, hp⟩ : ∃ p, textB (nibs K.toList) = p := ⟨_, rfl⟩
   obtain ⟨hp1, hp2, hp3⟩ := key_path hK hKb'
   rw [hp] at hp1 hp3
   obtain ⟨L1, hL1⟩ : ∃ L, t.prove p = L := ⟨_, rfl⟩
   obtain ⟨L2, hL2⟩ : ∃ L, t.prove (textB (nibs Kb.toList)) = L := ⟨_, rfl⟩
   have hzK : (Tryz.prog.info? 26).map (·.size) = some (K.toList.map encB).length := by rw [size51]; simp [hK]
   have hzKb : (Tryz.prog.info? 26).map (·.size) = some (Kb.toList.map encB).length := by rw [size51]; simp [H8.out.2.2.2.1]
   have HT : Hid (∀ W, Below w.heap.size w W → Tabs W ∧ 16 ≤ W.heap.size ∧ 16 ≤ w2.heap.size) := fun W hW => ⟨(HE.out.1.below hW).tabs, Nat.le_trans HE.out.1.low hW.size, Nat.le_trans HE.out.1.low H2.out.1.size⟩
   have HP1 := Hid.hide (xprove_row hQ10.wood (HT.out _ hQ10.below).1 (HT.out _ hQ10.below).2.2 hQ10.tree HS3.out.1 hK hKb' (L := L1) (by rw [hp]; exact hL1))
   have H10 : Hid (GenQ w w10 U1 w2.heap.size S bt t w10 ∧ w10.rangeAt ka 0 (K.toList.map encB) ∧ w10.rangeAt kb 0 (Kb.toList.map encB) ∧ (∀ k, U1 k → k < w10.heap.size ∧ S k = none) ∧ U1 ka ∧ U1 kb ∧ (∀ k, SouU w w2 k → U1 k) ∧ (∀ k, SouU w w2 k → w10.heap[k]? = w2.heap[k]?)) := ⟨hQ10.next, hr10, hrb10, hU1', (hU1 _).2 (.inr (.inl rfl)), (hU1 _).2 (.inr (.inr rfl)), fun k h => (hU1 k).2 (.inl h), hQ10.keep⟩
   have HKK : Hid (K.size = 32 ∧ Bytes K ∧ p.size = 64 ∧ nib (bytesOf p) ∧ bytesOf p = nibs K.toList ∧ textB (nibs K.toList) = p ∧ t.prove p = L1 ∧ t.prove (textB (nibs Kb.toList)) = L2) := ⟨hK, hKb', hp3, by rw [hp1]; exact hp2, hp1, hp, hL1, hL2⟩
   clear hK hKb' hQ10 hrb10 hU1 hkl hU1' hp hp1 hp2 hp3 hL1 hL2 H9 HBM
   go_wp2_with (refine wpList_load_mid rfl 26 _ rfl ka 0 rfl (K.toList.map encB) _ hr10 hu26 rfl hzK ?_)
   refine HP1.out.mono ?_
   rintro e w11 ⟨r1, d1, rfl, hf11, hr1, hi1⟩
   have hK1 := GenQ.kit (w := w) (R := w10) (U := U1) (B := w2.heap.size) (S := S) (bt := bt) (t := t) H2.out.1.size H10.out.2.2.2.1
   have hQ11 := hK1.fr _ _ H10.out.1 hf11
   have hrb11 := hQ11.range H10.out.2.2.1 H10.out.2.2.2.2.2.1
   have HP2 := Hid.hide (xprove_row hQ11.wood (HT.out _ hQ11.below).1 (HT.out _ hQ11.below).2.2 hQ11.tree HS3.out.1 H8.out.2.2.2.1 H8.out.2.2.2.2.1 (L := L2) HKK.out.2.2.2.2.2.2.2)
   have H11 : Hid (GenQ w w10 U1 w2.heap.size S bt t w11 ∧ StrRow w11 r1 (L1.map textB) d1 ∧ (∀ a, r1 = some a → w10.heap.size ≤ a.block ∧ a.block < w11.heap.size)) := ⟨hQ11, hr1, hi1⟩
   have HK1 := Hid.hide hK1
   clear hf11 hr1 hi1 hK1 hQ11 HP1 hr10
   go_wp2_with (refine wpList_load_mid rfl 26 _ rfl kb 0 rfl (Kb.toList.map encB) _ hrb11 hu26 rfl hzKb ?_)
   refine HP2.out.mono ?_
   rintro e w12 ⟨r2, d2, rfl, hf12, hr2, hi2⟩
   have hQ12 := HK1.out.fr _ _ H11.out.1 hf12
   have hfo := H10.out.1.wood
   obtain ⟨U2, hU2⟩ : ∃ U : Nat → Prop, ∀ k, U k ↔ (U1 k ∨ (∃ a, r1 = some a ∧ k = a.block) ∨ ∃ a, r2 = some a ∧ k = a.block) := ⟨_, fun _ => Iff.rfl⟩
   have hU2' : ∀ k, U2 k → k < w12.heap.size ∧ S k = none := fun k hk => by
    rcases (hU2 k).1 hk with h | ⟨a, ha, rfl⟩ | ⟨a, ha, rfl⟩
    ·exact ⟨Nat.lt_of_lt_of_le (H10.out.2.2.2.1 k h).1 hQ12.size, (H10.out.2.2.2.1 k h).2⟩
    ·exact ⟨Nat.lt_of_lt_of_le (H11.out.2.2 a ha).2 hf12.size, hfo.fresh (H11.out.2.2 a ha).1⟩
    ·exact ⟨(hi2 a ha).2, hfo.fresh (Nat.le_trans H11.out.1.size (hi2 a ha).1)⟩
   have hKit := GenQ.kit (w := w) (R := w12) (U := U2) (B := w2.heap.size) (S := S) (bt := bt) (t := t) H2.out.1.size hU2'
   have hQ : GenQ w w12 U2 w2.heap.size S bt t w12 := hQ12.next
   have hka : w12.rangeAt ka 0 (K.toList.map encB) := hQ12.range H10.out.2.1 H10.out.2.2.2.2.1
   have hrr1 : StrRow w12 r1 (L1.map textB) d1 := H11.out.2.1.frame hf12 fun a ha => hfo.fresh (H11.out.2.2 a ha).1
   have hkeep : ∀ k, SouU w w2 k → w12.heap[k]? = w2.heap[k]? := fun k hk => (hQ12.keep k (H10.out.2.2.2.2.2.2.1 k hk)).trans (H10.out.2.2.2.2.2.2.2 k hk)
   obtain ⟨TD, hTD⟩ : ∃ D, t.dig = D := ⟨_, rfl⟩
   have hTl := dig_ok HS3.out.1 hTD
   obtain ⟨ov, hov⟩ : ∃ ov, t.get (bytesOf p) = ov := ⟨_, rfl⟩
   have hver : verF TD p L1 = .ok ov := by
    have := ver_honest HS3.out.1 HKK.out.2.2.1 HKK.out.2.2.2.1
    rw [HKK.out.2.2.2.2.2.2.1, hTD, hov] at this
    exact this
   have hgm : getN m (nibs K.toList) = ov := by
    rw [← hov, HKK.out.2.2.2.2.1]
    exact (HS3.out.2.1 _ (by rw [← HKK.out.2.2.2.2.1, bytesOf_length, HKK.out.2.2.1])).symm
   have hb1 : (∀ c ∈ L1, ∀ y ∈ c, y < 256) ∧ L1.length ≤ 65 := by
    rw [← HKK.out.2.2.2.2.2.2.1]
    exact ⟨prove_byte (by rw [HKK.out.2.2.1]; exact HS3.out.1) (by have := HKK.out.2.2.1; omega), prove_len _ _⟩
   have hb2 : (∀ c ∈ L2, ∀ y ∈ c, y < 256) ∧ L2.length ≤ 65 := by
    have q := (key_path H8.out.2.2.2.1 H8.out.2.2.2.2.1).2.2
    rw [← HKK.out.2.2.2.2.2.2.2]
    exact ⟨prove_byte (by rw [q]; exact HS3.out.1) (by omega), prove_len _ _⟩
   obtain ⟨os, hos⟩ : ∃ os, ov.getD ⟨#[]⟩ = os := ⟨_, rfl⟩
   obtain ⟨ob, hob⟩ : ∃ ob, ov.isSome = ob := ⟨_, rfl⟩
   obtain ⟨P, hP⟩ : ∃ P, GenQ w w12 U2 w2.heap.size S bt t = P := ⟨_, rfl⟩
   obtain ⟨F, hF⟩ : ∃ F, GenF w U2 S bt = F := ⟨_, rfl⟩
   rw [hP, hF] at hKit
   rw [hP] at hQ
   have HKit := Hid.hide hKit
   have HQ : Hid (∀ W, P W → GenQ w w12 U2 w2.heap.size S bt t W) := fun W h => by rw [← hP] at h; exact h
   have HFF : Hid (∀ k, F k → GenF w U2 S bt k) := fun k h => by rw [← hF] at h; exact h
   have hKa2 : U2 ka := (hU2 _).2 (.inl H10.out.2.2.2.2.1)
   have HSt : Hid (P w12.drew) := hKit.more _ _ hQ (Below.refl _ _).drew
   have HKa : Hid (∀ W, P W → W.rangeAt ka 0 (K.toList.map encB)) := fun W h => (HQ.out W h).range hka hKa2
   have HRt : Hid (∀ W, P W → Calls Tryz.prog 16 #[.pointer (some ⟨bt, 0, none⟩)] W fun e w' => e = .returned (.agg (TD.map encB).toArray) ∧ Fr w2.heap.size S S W w') := fun W h => by
    have q := HQ.out W h
    have := xroot_any q.wood (HT.out W q.below).1 (HT.out W q.below).2.2 q.tree
    rw [hTD] at this
    exact this
   have H12 : Hid (StrRow w12 r1 (L1.map textB) d1 ∧ StrRow w12 r2 (L2.map textB) d2 ∧ (∀ a, r1 = some a → U2 a.block) ∧ (∀ a, r2 = some a → U2 a.block) ∧ (∀ k, U2 k → k < w12.heap.size ∧ S k = none) ∧ (∀ k, SouU w w2 k → U2 k) ∧ (∀ k, SouU w w2 k → w12.heap[k]? = w2.heap[k]?) ∧ U2 ka ∧ w12.rangeAt ka 0 (K.toList.map encB)) := ⟨hrr1, hr2, fun a ha => (hU2 _).2 (.inr (.inl ⟨a, ha, rfl⟩)), fun a ha => (hU2 _).2 (.inr (.inr ⟨a, ha, rfl⟩)), hU2', fun k hk => (hU2 _).2 (.inl (H10.out.2.2.2.2.2.2.1 k hk)), hkeep, hKa2, hka⟩
   have HVs : Hid (∀ W, P W → Calls Tryz.prog 30 #[.agg (TD.map encB).toArray, .agg (K.toList.map encB).toArray, .slice r1 L1.length d1] W fun e w' => e = .returned (.tuple #[.string os, .bool ob, faultV 0 0 0 0]) ∧ Below W.heap.size W w') := fun W h => by
    have q := HQ.out W h
    have := xver_codes sent HE.out q.below TD K L1 r1 d1 hTl.1 hTl.2 HKK.out.1 HKK.out.2.1 (q.row H12.out.1 H12.out.2.2.1) (by omega) hb1.1 (q := .ok ov) (by rw [HKK.out.2.2.2.2.2.1]; exact hver)
    rw [show verStr (.ok ov) = os from hos, show verHas (.ok ov) = ob from hob] at this
    exact this
   have HOV : Hid (getN m (nibs K.toList) = ov ∧ ov.getD ⟨#[]⟩ = os ∧ ov.isSome = ob ∧ t.dig = TD ∧ (TD.length = 32 ∧ ∀ x ∈ TD, x < 256) ∧ t.get (bytesOf p) = ov ∧ (∀ c ∈ L1, ∀ y ∈ c, y < 256) ∧ L1.length ≤ 65 ∧ (∀ c ∈ L2, ∀ y ∈ c, y < 256) ∧ L2.length ≤ 65) := ⟨hgm, hos, hob, hTD, hTl, hov, hb1.1, hb1.2, hb2.1, hb2.2⟩
   have HBm : Hid (∀ W, P W → W.heap[n1]? = some (.cells #[.slice pk m.length ck, .slice pv m.length cv] 54 (0, 0)) ∧ Kn W w.heap.size (.slice pk m.length ck) (.slice pv m.length cv) m) := fun W h => by
    have q := HQ.out W h
    have hke : ∀ k, SouU w w2 k → W.heap[k]? = w2.heap[k]? := fun k hk => (q.keep k (H12.out.2.2.2.2.2.1 k hk)).trans (H12.out.2.2.2.2.2.2.1 k hk)
    rw [← hn1]
    exact ⟨(hke _ ⟨H2.out.2.2.2.2.2.2, by have := H2.out.2.1; omega⟩).trans H2.out.2.2.1, H2.out.2.2.2.1.keep2 q.wood.le fun j hj => hke j (by have := hj.elim (H2.out.2.2.2.1.keys.block j) (H2.out.2.2.2.1.vals.block j); exact this)⟩
   clear hf12 hr2 hi2 hQ12 hfo hU2 hU2' hKit hQ hka hrr1 hkeep hTD hTl hov hver hgm hb1 hb2 hos hob hP hF hKa2 HP2 hrb11 HBx HK0 HK1 H11 H10
   go_upto_region 14 with fail
   go_cut [23, 24, 25] (fun a b c wc => a = .string os ∧ b = .bool ob ∧ FtY P F (.int .i64 0) (.int .i64 0) (.int .i64 0) (.int .i64 0) false undef true c true wc)
   case first => as_aux_lemma =>
    refine wp_region_any (by kernel_rfl) ?_
    change wpAny _ _ _ _ _ _ _ (World.drew _)
    obtain ⟨vf, hvf⟩ : ∃ vf : Nat → Option Value, vf = fun i => ([some (.pointer (some ⟨bt, 0, none⟩)), some (.agg (TD.map encB).toArray), some (.agg (K.toList.map encB).toArray), some (.slice r1 L1.length d1), some (.tuple #[.string os, .bool ob, faultV 0 0 0 0]), some (.tuple #[.string os, .bool ob, faultV 0 0 0 0]), some (.string os), some (.bool ob), some (faultV 0 0 0 0), none, some (.string os), some (.bool ob), none] : List (Option Value)).getD i none := ⟨_, rfl⟩
    refine wpAny_vary _ (fun d v w' => (∀ i x, vf i = some x → d i = true → v i = x) ∧ (fun d v w' => FtY P F (.int .i64 0) (.int .i64 0) (.int .i64 0) (.int .i64 0) false undef (d 9) (v 9) (d 12) w') d v w') (by kernel_rfl) (by kernel_rfl) ?_ _ (fun _ => undef) ?_ ?_
    ·intro i o ho listed val b W hsat hnew hdeps hI
     have hi : i < 13 := (Array.getElem?_eq_some_iff.1 ho).1
     match i, hi with
     | 0, _ =>
      obtain rfl := Option.some.inj ho
      have t14 : b.tmps[14]? = some (.pointer (some ⟨bt, 0, none⟩)) := (hsat.rest 14 (fun i _ => noDst_of (by kernel_rfl) i)).trans rfl
      refine Oper.wp_mono (K := fun a' w' => a' = b.put (some 87) (.pointer (some ⟨bt, 0, none⟩)) ∧ w' = W) (by rintro a' w' ⟨rfl, rfl⟩; exact ⟨_, rfl, vals_step hI.1 (by rw [hvf]; rfl), hI.2⟩) ?_
      clear ho hdeps hsat hI hnew hvf
      go_simp
     | 1, _ =>
      obtain rfl := Option.some.inj ho
      have t87 : b.tmps[87]? = some (.pointer (some ⟨bt, 0, none⟩)) := (hsat.done 0 87 (hdeps ⟨0, .data⟩ (by simp) rfl) rfl (by simp)).trans (congrArg some (hI.1 0 _ (by rw [hvf]; rfl) (hdeps ⟨0, .data⟩ (by simp) rfl)))
      obtain ⟨G, hG⟩ : ∃ G : Value → World → Prop, ∀ x w', G x w' ↔ ((∀ j y, vf j = some y → (fun k => if k = 1 then true else listed.getD k false) j = true → (fun k => if k = 1 then x else val k) j = y) ∧ FtY P F (.int .i64 0) (.int .i64 0) (.int .i64 0) (.int .i64 0) false undef (listed.getD 9 false) (val 9) (listed.getD 12 false) w') := ⟨_, fun _ _ => Iff.rfl⟩
      refine Oper.wp_mono (K := fun a' w' => ∃ v, a' = b.put (some 88) v ∧ G v w') (by rintro a' w' ⟨v, rfl, hv⟩; exact ⟨v, rfl, (hG v w').1 hv⟩) ?_
      have HG := Hid.hide hG
      have HI := Hid.hide hI
      have HVF := Hid.hide hvf
      clear hG ho hdeps hsat hI hnew hvf
      go_simp
      go_at_call 16
      refine (HRt.out W HI.out.2.all).mono ?_
      rintro e w9 ⟨rfl, hb9⟩
      exact ⟨_, rfl, (HG.out _ _).2 ⟨vals_step HI.out.1 (by rw [HVF.out]; rfl), HI.out.2.fr HKit.out hb9⟩⟩
     | 2, _ =>
      obtain rfl := Option.some.inj ho
      have t17 : b.tmps[17]? = some (.pointer (some ⟨ka, 0, none⟩)) := (hsat.rest 17 (fun i _ => noDst_of (by kernel_rfl) i)).trans rfl
      refine wp_load_mid 26 (.tmp 17) rfl ka 0 (by simp only [Act.eval, Array.getD_eq_getD_getElem?, t17, Option.getD_some]) (K.toList.map encB) _ (HKa.out W hI.2.all) hu26 rfl hzK ?_
      exact ⟨_, rfl, vals_step hI.1 (by rw [hvf]; rfl), hI.2⟩
     | 3, _ =>
      obtain rfl := Option.some.inj ho
      have t19 : b.tmps[19]? = some (.slice r1 L1.length d1) := (hsat.rest 19 (fun i _ => noDst_of (by kernel_rfl) i)).trans rfl
      refine Oper.wp_mono (K := fun a' w' => a' = b.put (some 90) (.slice r1 L1.length d1) ∧ w' = W) (by rintro a' w' ⟨rfl, rfl⟩; exact ⟨_, rfl, vals_step hI.1 (by rw [hvf]; rfl), hI.2⟩) ?_
      clear ho hdeps hsat hI hnew hvf
      go_simp
     | 4, _ =>
      obtain rfl := Option.some.inj ho
      have t88 : b.tmps[88]? = some (.agg (TD.map encB).toArray) := (hsat.done 1 88 (hdeps ⟨1, .data⟩ (by simp) rfl) rfl (by simp)).trans (congrArg some (hI.1 1 _ (by rw [hvf]; rfl) (hdeps ⟨1, .data⟩ (by simp) rfl)))
      have t89 : b.tmps[89]? = some (.agg (K.toList.map encB).toArray) := (hsat.done 2 89 (hdeps ⟨2, .data⟩ (by simp) rfl) rfl (by simp)).trans (congrArg some (hI.1 2 _ (by rw [hvf]; rfl) (hdeps ⟨2, .data⟩ (by simp) rfl)))
      have t90 : b.tmps[90]? = some (.slice r1 L1.length d1) := (hsat.done 3 90 (hdeps ⟨3, .data⟩ (by simp) rfl) rfl (by simp)).trans (congrArg some (hI.1 3 _ (by rw [hvf]; rfl) (hdeps ⟨3, .data⟩ (by simp) rfl)))
      obtain ⟨G, hG⟩ : ∃ G : Value → World → Prop, ∀ x w', G x w' ↔ ((∀ j y, vf j = some y → (fun k => if k = 4 then true else listed.getD k false) j = true → (fun k => if k = 4 then x else val k) j = y) ∧ FtY P F (.int .i64 0) (.int .i64 0) (.int .i64 0) (.int .i64 0) false undef (listed.getD 9 false) (val 9) (listed.getD 12 false) w') := ⟨_, fun _ _ => Iff.rfl⟩
      refine Oper.wp_mono (K := fun a' w' => ∃ v, a' = b.put (some 91) v ∧ G v w') (by rintro a' w' ⟨v, rfl, hv⟩; exact ⟨v, rfl, (hG v w').1 hv⟩) ?_
      have HG := Hid.hide hG
      have HI := Hid.hide hI
      have HVF := Hid.hide hvf
      clear hG ho hdeps hsat hI hnew hvf
      go_simp
      go_at_call 30
      refine (HVs.out W HI.out.2.all).mono ?_
      rintro e w9 ⟨rfl, hb9⟩
      exact ⟨_, rfl, (HG.out _ _).2 ⟨vals_step HI.out.1 (by rw [HVF.out]; rfl), HI.out.2.more HKit.out hb9⟩⟩
     | 5, _ =>
      obtain rfl := Option.some.inj ho
      have t91 : b.tmps[91]? = some (.tuple #[.string os, .bool ob, faultV 0 0 0 0]) := (hsat.done 4 91 (hdeps ⟨4, .data⟩ (by simp) rfl) rfl (by simp)).trans (congrArg some (hI.1 4 _ (by rw [hvf]; rfl) (hdeps ⟨4, .data⟩ (by simp) rfl)))
      refine Oper.wp_mono (K := fun a' w' => a' = b.put (some 86) (.tuple #[.string os, .bool ob, faultV 0 0 0 0]) ∧ w' = W) (by rintro a' w' ⟨rfl, rfl⟩; exact ⟨_, rfl, vals_step hI.1 (by rw [hvf]; rfl), hI.2⟩) ?_
      clear ho hdeps hsat hI hnew hvf
      go_simp
     | 6, _ =>
      obtain rfl := Option.some.inj ho
      have t86 : b.tmps[86]? = some (.tuple #[.string os, .bool ob, faultV 0 0 0 0]) := (hsat.done 5 86 (hdeps ⟨5, .data⟩ (by simp) rfl) rfl (by simp)).trans (congrArg some (hI.1 5 _ (by rw [hvf]; rfl) (hdeps ⟨5, .data⟩ (by simp) rfl)))
      refine Oper.wp_mono (K := fun a' w' => a' = b.put (some 92) (.string os) ∧ w' = W) (by rintro a' w' ⟨rfl, rfl⟩; exact ⟨_, rfl, vals_step hI.1 (by rw [hvf]; rfl), hI.2⟩) ?_
      clear ho hdeps hsat hI hnew hvf
      go_simp
     | 7, _ =>
      obtain rfl := Option.some.inj ho
      have t86 : b.tmps[86]? = some (.tuple #[.string os, .bool ob, faultV 0 0 0 0]) := (hsat.done 5 86 (hdeps ⟨5, .data⟩ (by simp) rfl) rfl (by simp)).trans (congrArg some (hI.1 5 _ (by rw [hvf]; rfl) (hdeps ⟨5, .data⟩ (by simp) rfl)))
      refine Oper.wp_mono (K := fun a' w' => a' = b.put (some 93) (.bool ob) ∧ w' = W) (by rintro a' w' ⟨rfl, rfl⟩; exact ⟨_, rfl, vals_step hI.1 (by rw [hvf]; rfl), hI.2⟩) ?_
      clear ho hdeps hsat hI hnew hvf
      go_simp
     | 8, _ =>
      obtain rfl := Option.some.inj ho
      have t86 : b.tmps[86]? = some (.tuple #[.string os, .bool ob, faultV 0 0 0 0]) := (hsat.done 5 86 (hdeps ⟨5, .data⟩ (by simp) rfl) rfl (by simp)).trans (congrArg some (hI.1 5 _ (by rw [hvf]; rfl) (hdeps ⟨5, .data⟩ (by simp) rfl)))
      refine Oper.wp_mono (K := fun a' w' => a' = b.put (some 94) (faultV 0 0 0 0) ∧ w' = W) (by rintro a' w' ⟨rfl, rfl⟩; exact ⟨_, rfl, vals_step hI.1 (by rw [hvf]; rfl), hI.2⟩) ?_
      clear ho hdeps hsat hI hnew hvf
      go_simp
     | 9, _ =>
      obtain rfl := Option.some.inj ho
      have hd12 : listed.getD 12 false = false := by
       cases hq : listed.getD 12 false with
       | false => rfl
       | true => exact absurd (hI.2.ft14 hq) (by show ¬ listed.getD 9 false = true; rw [hnew]; simp)
      refine Oper.wp_mono (K := fun a' w' => a' = b.put (some 25) (.pointer (some ⟨W.heap.size, 0, none⟩)) ∧ w' = W.alloc (.cells #[.int .i64 0, .int .i64 0, .int .i64 0, .int .i64 0] 66)) (by rintro a' w' ⟨rfl, rfl⟩; exact ⟨_, rfl, vals_free hI.1 (by rw [hvf]; rfl), hI.2.alloc HKit.out hd12⟩) ?_
      clear ho hdeps hsat hI hnew hvf hd12
      go_simp
     | 10, _ =>
      obtain rfl := Option.some.inj ho
      have t92 : b.tmps[92]? = some (.string os) := (hsat.done 6 92 (hdeps ⟨6, .data⟩ (by simp) rfl) rfl (by simp)).trans (congrArg some (hI.1 6 _ (by rw [hvf]; rfl) (hdeps ⟨6, .data⟩ (by simp) rfl)))
      refine Oper.wp_mono (K := fun a' w' => a' = b.put (some 23) (.string os) ∧ w' = W) (by rintro a' w' ⟨rfl, rfl⟩; exact ⟨_, rfl, vals_step hI.1 (by rw [hvf]; rfl), hI.2⟩) ?_
      clear ho hdeps hsat hI hnew hvf
      go_simp
     | 11, _ =>
      obtain rfl := Option.some.inj ho
      have t93 : b.tmps[93]? = some (.bool ob) := (hsat.done 7 93 (hdeps ⟨7, .data⟩ (by simp) rfl) rfl (by simp)).trans (congrArg some (hI.1 7 _ (by rw [hvf]; rfl) (hdeps ⟨7, .data⟩ (by simp) rfl)))
      refine Oper.wp_mono (K := fun a' w' => a' = b.put (some 24) (.bool ob) ∧ w' = W) (by rintro a' w' ⟨rfl, rfl⟩; exact ⟨_, rfl, vals_step hI.1 (by rw [hvf]; rfl), hI.2⟩) ?_
      clear ho hdeps hsat hI hnew hvf
      go_simp
     | 12, _ =>
      obtain rfl := Option.some.inj ho
      have t94 : b.tmps[94]? = some (faultV 0 0 0 0) := (hsat.done 8 94 (hdeps ⟨8, .data⟩ (by simp) rfl) rfl (by simp)).trans (congrArg some (hI.1 8 _ (by rw [hvf]; rfl) (hdeps ⟨8, .data⟩ (by simp) rfl)))
      have d9 := hdeps ⟨9, .data⟩ (by simp) rfl
      obtain ⟨f, x0, x1, x2, x3, f1, f2, f3, -⟩ := hI.2.ft d9
      have t25 : b.tmps[25]? = some (.pointer (some ⟨f, 0, none⟩)) := (hsat.done 9 25 d9 rfl (by simp)).trans (congrArg some f1)
      refine wp_store_mid 66 (.tmp 25) (.tmp 94) rfl f 0 #[.int .i64 0, .int .i64 0, .int .i64 0, .int .i64 0] (by simp only [Act.eval, Array.getD_eq_getD_getElem?, t25, Option.getD_some]) (by simp only [Act.eval, Array.getD_eq_getD_getElem?, t94, Option.getD_some] <;> rfl) (there_cells f3 rfl) (by kernel_rfl) (by simp [Value.oneCell']) ?_
      exact ⟨_, rfl, vals_free hI.1 (by rw [hvf]; rfl), FtY.put HKit.out hI.2 d9 f1⟩
    ·exact ⟨fun _ _ _ h => (by simp at h), FtY.start HSt.out (by simp) (by simp) (by simp)⟩
    ·intro val W hI
     have e0 : val 0 = .pointer (some ⟨bt, 0, none⟩) := hI.1 0 _ (by rw [hvf]; rfl) rfl
     have e1 : val 1 = .agg (TD.map encB).toArray := hI.1 1 _ (by rw [hvf]; rfl) rfl
     have e2 : val 2 = .agg (K.toList.map encB).toArray := hI.1 2 _ (by rw [hvf]; rfl) rfl
     have e3 : val 3 = .slice r1 L1.length d1 := hI.1 3 _ (by rw [hvf]; rfl) rfl
     have e4 : val 4 = .tuple #[.string os, .bool ob, faultV 0 0 0 0] := hI.1 4 _ (by rw [hvf]; rfl) rfl
     have e5 : val 5 = .tuple #[.string os, .bool ob, faultV 0 0 0 0] := hI.1 5 _ (by rw [hvf]; rfl) rfl
     have e6 : val 6 = .string os := hI.1 6 _ (by rw [hvf]; rfl) rfl
     have e7 : val 7 = .bool ob := hI.1 7 _ (by rw [hvf]; rfl) rfl
     have e8 : val 8 = faultV 0 0 0 0 := hI.1 8 _ (by rw [hvf]; rfl) rfl
     have e10 : val 10 = .string os := hI.1 10 _ (by rw [hvf]; rfl) rfl
     have e11 : val 11 = .bool ob := hI.1 11 _ (by rw [hvf]; rfl) rfl
     have hX := hI.2
     simp only [runFrom, Act.put, Nat.zero_add, Nat.reduceAdd, List.setIfInBounds_toArray, List.set_cons_zero, List.set_cons_succ, e0, e1, e2, e3, e4, e5, e6, e7, e8, e10, e11]
     clear hI hvf e0 e1 e2 e3 e4 e5 e6 e7 e8 e10 e11
     have HX : Hid (FtY P F (.int .i64 0) (.int .i64 0) (.int .i64 0) (.int .i64 0) false undef true (val 9) true W) := hX
     clear hX
     (try go_wp2)
     go_meet
     exact ⟨rfl, rfl, HX.out⟩
   case rest => as_aux_lemma =>
    obtain ⟨rfl, rfl, hY⟩ := hcut
    obtain ⟨w13, rfl⟩ : ∃ x, x = wc := ⟨_, rfl⟩
    obtain ⟨f, rfl, hFf, hcf⟩ := hY.fault
    obtain ⟨f0, f1, f2, f3, -⟩ := fault_cells hcf
    have H13 := Hid.hide hY
    have HFf := Hid.hide hFf
    clear hY hFf hcf HVs HSt
    go_wp2_with fail
    refine (fine_zero _).mono ?_
    rintro x w14 ⟨rfl, hb14⟩
    have H14 := Hid.hide (H13.out.more HKit.out hb14)
    obtain ⟨hbx, hkn⟩ := HBm.out _ H14.out.all
    obtain ⟨z0, z1, -⟩ := box_cells hbx
    have hrK := HKa.out _ H14.out.all
    have hans : ansB ov os ob = true := by
     rw [ansB, HOV.out.2.1, HOV.out.2.2.1]
     simp
    have HAn := Hid.hide (answered_any hkn (by have := H2.out.2.2.2.2.2.1; omega) H2.out.2.2.2.2.1 HKK.out.1 HKK.out.2.1 os ob HOV.out.1)
    rw [hans] at HAn
    clear hbx hkn hans hb14 f0 f1 f2 f3
    go_wp2_with (refine wpList_load_mid rfl 26 _ rfl ka 0 rfl (K.toList.map encB) _ hrK hu26 rfl hzK ?_)
    refine HAn.out.mono ?_
    rintro x w15 ⟨rfl, hb15⟩
    have H15 := Hid.hide (H14.out.more HKit.out hb15)
    clear hb15 HAn z0 z1 hrK
    have HSz : Hid ((∀ s ∈ L1.map textB, s.size ≤ 9223372036854775806) ∧ ∀ s ∈ L2.map textB, s.size ≤ 9223372036854775806) := by
     rw [← HKK.out.2.2.2.2.2.2.1, ← HKK.out.2.2.2.2.2.2.2]
     exact ⟨prove_small HS3.out.1 HKK.out.2.2.1 HKK.out.2.2.2.1, prove_small HS3.out.1 (key_path H8.out.2.2.2.1 H8.out.2.2.2.2.1).2.2 (by rw [(key_path H8.out.2.2.2.1 H8.out.2.2.2.2.1).1]; exact (key_path H8.out.2.2.2.1 H8.out.2.2.2.2.1).2.1)⟩
    have HTu1 : Hid (∀ W, P W → Calls Tryz.prog 35 #[.slice r1 L1.length d1, .slice r2 L2.length d2, .int .i64 how, .int .i64 at_, .int .i64 by_] W fun e w' => TurSaid W e w') := fun W h => by
     have q := HQ.out W h
     have := turned_any (w := W) (L1.map textB) (L2.map textB) r1 r2 d1 d2 how at_ by_ HI.out.1 HI.out.2.1 HI.out.2.2 (by rw [List.length_map]; have := HOV.out.2.2.2.2.2.2.2.1; omega) (by rw [List.length_map]; have := HOV.out.2.2.2.2.2.2.2.2.2; omega) (q.row H12.out.1 H12.out.2.2.1) (q.row H12.out.2.1 H12.out.2.2.2.1) (HSz.out.1)
     rw [List.length_map, List.length_map] at this
     exact this
    have HTu2 : Hid (∀ W, P W → Calls Tryz.prog 35 #[.slice r2 L2.length d2, .slice r1 L1.length d1, .int .i64 how, .int .i64 at_, .int .i64 by_] W fun e w' => TurSaid W e w') := fun W h => by
     have q := HQ.out W h
     have := turned_any (w := W) (L2.map textB) (L1.map textB) r2 r1 d2 d1 how at_ by_ HI.out.1 HI.out.2.1 HI.out.2.2 (by rw [List.length_map]; have := HOV.out.2.2.2.2.2.2.2.2.2; omega) (by rw [List.length_map]; have := HOV.out.2.2.2.2.2.2.2.1; omega) (q.row H12.out.2.1 H12.out.2.2.2.1) (q.row H12.out.1 H12.out.2.2.1) (HSz.out.2)
     rw [List.length_map, List.length_map] at this
     exact this
    go_wp2_with fail
    refine (HTu1.out _ H15.out.all).mono ?_
    rintro x w16 ⟨ta, tap, tac, rfl, hta, htab, htal, hb16⟩
    have H16 := Hid.hide (H15.out.more HKit.out hb16)
    have HTa : Hid (StrRow w16 tap ta tac ∧ (∀ a, tap = some a → w15.heap.size ≤ a.block ∧ a.block < w16.heap.size) ∧ ta.length ≤ 2001) := ⟨hta, htab, htal⟩
    obtain ⟨tan, htan⟩ : ∃ n, ta.length = n := ⟨_, rfl⟩
    rw [htan]
    have HS16 : Hid (w15.heap.size ≤ w16.heap.size) := hb16.size
    clear hta htab htal hb16 HTu1
    go_wp2_with fail
    refine (HTu2.out _ H16.out.all).mono ?_
    rintro x w17 ⟨td, tdp, tdc, rfl, htd, htdb, htdl, hb17⟩
    have H17 := Hid.hide (H16.out.more HKit.out hb17)
    have HTd : Hid (StrRow w17 tdp td tdc ∧ (∀ a, tdp = some a → w16.heap.size ≤ a.block ∧ a.block < w17.heap.size) ∧ td.length ≤ 2001 ∧ StrRow w17 tap ta tac ∧ w15.heap.size ≤ w16.heap.size ∧ w16.heap.size ≤ w17.heap.size) := ⟨htd, htdb, htdl, HTa.out.1.below hb17, HS16.out, hb17.size⟩
    obtain ⟨tdn, htdn⟩ : ∃ n, td.length = n := ⟨_, rfl⟩
    rw [htdn]
    clear htd htdb htdl hb17 HTu2
    have hbs := run_build_four w17 tap r2 pa tdp tan tac L2.length d2 la.length ca tdn tdc
    go_upto_region 20 with fail
    clear hbs
    have hb18 : Below w17.heap.size w17 (World.alloc w17 (.cells #[.slice tap tan tac, .slice r2 L2.length d2, .slice pa la.length ca, .slice tdp tdn tdc] 52)) := (Below.refl _ _).alloc (Nat.le_refl _) _
    have hc18 : (World.alloc w17 (.cells #[.slice tap tan tac, .slice r2 L2.length d2, .slice pa la.length ca, .slice tdp tdn tdc] 52)).heap[w17.heap.size]? = some (.cells #[.slice tap tan tac, .slice r2 L2.length d2, .slice pa la.length ca, .slice tdp tdn tdc] 52 (0, 0)) := Array.getElem?_push_size
    have hs18 : (World.alloc w17 (.cells #[.slice tap tan tac, .slice r2 L2.length d2, .slice pa la.length ca, .slice tdp tdn tdc] 52)).heap.size = w17.heap.size + 1 := by simp
    generalize World.alloc w17 _ = w18 at hb18 hc18 hs18 ⊢
    have h18 := H17.out.more HKit.out hb18
    have q18 := HQ.out _ h18.all
    have q17 := HQ.out _ H17.out.all
    have q15 := HQ.out _ H15.out.all
    obtain ⟨tb, htb⟩ : ∃ tb, w17.heap.size = tb := ⟨_, rfl⟩
    rw [htb] at hc18 hs18 ⊢
    obtain ⟨U3, hU3⟩ : ∃ U : Nat → Prop, ∀ k, U k ↔ (U2 k ∨ k = tb ∨ (∃ a, tap = some a ∧ k = a.block) ∨ ∃ a, tdp = some a ∧ k = a.block) := ⟨_, fun _ => Iff.rfl⟩
    have hU3' : ∀ k, U3 k → k < w18.heap.size ∧ S k = none := fun k hk => by
     rcases (hU3 k).1 hk with h | rfl | ⟨a, ha, rfl⟩ | ⟨a, ha, rfl⟩
     ·exact ⟨Nat.lt_of_lt_of_le (H12.out.2.2.2.2.1 k h).1 q18.size, (H12.out.2.2.2.2.1 k h).2⟩
     ·exact ⟨by omega, q17.wood.fresh (Nat.le_of_eq htb)⟩
     ·exact ⟨by have := (HTa.out.2.1 a ha).2; have := HTd.out.2.2.2.2.2; omega, q15.wood.fresh (HTa.out.2.1 a ha).1⟩
     ·exact ⟨by have := (HTd.out.2.1 a ha).2; omega, q15.wood.fresh (Nat.le_trans HTd.out.2.2.2.2.1 (HTd.out.2.1 a ha).1)⟩
    have hTr : Tries w tb S U3 w18 := by
     rw [← htan, ← htdn] at hc18
     refine tries_of (l1 := ta) (l2 := L2.map textB) (l3 := la) (l4 := td) (by rw [List.length_map]; exact hc18) (by have := HTa.out.2.2; omega) (by rw [List.length_map]; have := HOV.out.2.2.2.2.2.2.2.2.2; omega) HA.out.2.2 (by have := HTd.out.2.2.1; omega) ⟨HTd.out.2.2.2.1.below hb18, fun a ha => (hU3 _).2 (.inr (.inr (.inl ⟨a, ha, rfl⟩)))⟩ ⟨q18.row H12.out.2.1 H12.out.2.2.2.1, fun a ha => (hU3 _).2 (.inl (H12.out.2.2.2.1 a ha))⟩ HA.out.1 ⟨HTd.out.1.below hb18, fun a ha => (hU3 _).2 (.inr (.inr (.inr ⟨a, ha, rfl⟩)))⟩ (fun k hk => (hU3' k hk).2) (fun a ha => HS3.out.2.2 _ (Nat.lt_of_lt_of_le (HA.out.2.1 a ha) H2.out.1.size))
    have hff := HFF.out f HFf.out
    obtain ⟨-, -, x0, x1, x2, x3, hfc⟩ := h18.z
    obtain ⟨-, -, y0, y1, y2, y3, hfc15⟩ := H15.out.z
    have hfl15 : f < w15.heap.size := (Array.getElem?_eq_some_iff.1 hfc15).1
    have hFf3 : GenF w U3 S bt f := ⟨hff.1, hff.2.1, hff.2.2.1, fun hu => by
     rcases (hU3 f).1 hu with h | rfl | ⟨a, ha, e⟩ | ⟨a, ha, e⟩
     ·exact hff.2.2.2 h
     ·have := HTd.out.2.2.2.2; omega
     ·have := (HTa.out.2.1 a ha).1; omega
     ·have := (HTd.out.2.1 a ha).1; have := HTd.out.2.2.2.2.1; omega⟩
    have hKit := GenQ.kit (w := w) (R := w18) (U := U3) (B := w2.heap.size) (S := S) (bt := bt) (t := t) H2.out.1.size hU3'
    have hQ3 : GenQ w w18 U3 w2.heap.size S bt t w18 := q18.next
    have hka3 : w18.rangeAt ka 0 (K.toList.map encB) := q18.range H12.out.2.2.2.2.2.2.2.2 H12.out.2.2.2.2.2.2.2.1
    have hkaU : U3 ka := (hU3 _).2 (.inl H12.out.2.2.2.2.2.2.2.1)
    have hsU : ∀ k, SouU w w2 k → U3 k ∧ w18.heap[k]? = w2.heap[k]? := fun k hk => ⟨(hU3 _).2 (.inl (H12.out.2.2.2.2.2.1 k hk)), (q18.keep k (H12.out.2.2.2.2.2.1 k hk)).trans (H12.out.2.2.2.2.2.2.1 k hk)⟩
    have htU : U3 tb := (hU3 _).2 (.inr (.inl rfl))
    clear HKit HQ HFF HKa HRt HBm HFf H13 H14 H15 H16 H17 HTa HTd HS16 h18 q17 q15 q18 hb18 hs18 hc18 hff hfc15 hfl15
    obtain ⟨P', hP⟩ : ∃ P', GenQ w w18 U3 w2.heap.size S bt t = P' := ⟨_, rfl⟩
    obtain ⟨F', hF⟩ : ∃ F', GenF w U3 S bt = F' := ⟨_, rfl⟩
    rw [hP, hF] at hKit
    rw [hP] at hQ3
    rw [hF] at hFf3
    clear hF F P
    obtain ⟨P, rfl⟩ : ∃ P, P = P' := ⟨_, rfl⟩
    obtain ⟨F, rfl⟩ : ∃ F, F = F' := ⟨_, rfl⟩
    have HKit := Hid.hide hKit
    have HQ : Hid (∀ W, P W → GenQ w w18 U3 w2.heap.size S bt t W) := fun W h => by rw [← hP] at h; exact h
    have HKa : Hid (∀ W, P W → W.rangeAt ka 0 (K.toList.map encB)) := fun W h => (HQ.out W h).range hka3 hkaU
    have HRt : Hid (∀ W, P W → Calls Tryz.prog 16 #[.pointer (some ⟨bt, 0, none⟩)] W fun e w' => e = .returned (.agg (TD.map encB).toArray) ∧ Fr w2.heap.size S S W w') := fun W h => by
     have q := HQ.out W h
     have := xroot_any q.wood (HT.out W q.below).1 (HT.out W q.below).2.2 q.tree
     rw [HOV.out.2.2.2.1] at this
     exact this
    have HBm : Hid (∀ W, P W → W.heap[n1]? = some (.cells #[.slice pk m.length ck, .slice pv m.length cv] 54 (0, 0)) ∧ Kn W w.heap.size (.slice pk m.length ck) (.slice pv m.length cv) m) := fun W h => by
     have q := HQ.out W h
     have hke : ∀ k, SouU w w2 k → W.heap[k]? = w2.heap[k]? := fun k hk => (q.keep k (hsU k hk).1).trans (hsU k hk).2
     rw [← hn1]
     exact ⟨(hke _ ⟨H2.out.2.2.2.2.2.2, by have := H2.out.2.1; omega⟩).trans H2.out.2.2.1, H2.out.2.2.2.1.keep2 q.wood.le fun j hj => hke j (by have := hj.elim (H2.out.2.2.2.1.keys.block j) (H2.out.2.2.2.1.vals.block j); exact this)⟩
    have HTr := Hid.hide hTr
    have HTc : Hid (∀ W, P W → ∀ k, W.cell? ⟨tb, k, none⟩ = w18.cell? ⟨tb, k, none⟩) := fun W h k => World.cell?_of_block (a := ⟨tb, k, none⟩) ((HQ.out W h).keep tb htU)
    have HZ0 : Hid (FtZ P F f w18) := ⟨hQ3, hFf3, _, _, _, _, hfc⟩
    clear hU3 hU3' hTr hfc hFf3 hKit hQ3 hka3 hkaU hsU htU hP htan htdn htb
    go_wp2
    go_loopg [29] 4 (fun gh i wr => ∃ k : Nat, k ≤ 4 ∧ gh = 4 - k ∧ i = .int .i64 (k : Int) ∧ FtZ P F f wr)
    case atStart => exact ⟨0, by omega, rfl, rfl, HZ0.out⟩
    case round =>
     obtain ⟨k, hk, rfl, rfl, hZ⟩ := hrel
     by_cases hlt : k < 4
     ·have i1 : (k : Int) < 4 := by omega
      obtain ⟨qp, ql, qc, hcell, hql, hqS, hrow⟩ := HTr.out.at_ k hlt
      obtain ⟨q, hq⟩ : ∃ q, verF TD p (ql.map bytesOf) = q := ⟨_, rfl⟩
      obtain ⟨en, ep, ed, ea, hfv, hen1, hen2⟩ := fault_four q
      obtain ⟨xs, hxs⟩ : ∃ x, verStr q = x := ⟨_, rfl⟩
      obtain ⟨xb, hxb⟩ : ∃ x, verHas q = x := ⟨_, rfl⟩
      have HRow : Hid (∀ W, P W → StrRow W qp ql qc) := fun W h => hrow.elim (fun r => (HQ.out W h).row r.1 r.2) (fun r => (HQ.out W h).anyRow r)
      have HTb : Hid (∀ W, P W → W.cell? ⟨tb, k, none⟩ = some (.slice qp ql.length qc)) := fun W h => (HTc.out W h k).trans hcell
      have HVs : Hid (∀ W, P W → Calls Tryz.prog 30 #[.agg (TD.map encB).toArray, .agg (K.toList.map encB).toArray, .slice qp ql.length qc] W fun e w' => e = .returned (.tuple #[.string xs, .bool xb, faultV en ep ed ea]) ∧ Below W.heap.size W w') := fun W h => by
       have q' := HQ.out W h
       have := xver_any sent HE.out q'.below TD K ql qp qc HOV.out.2.2.2.2.1.1 HOV.out.2.2.2.2.1.2 HKK.out.1 HKK.out.2.1 (HRow.out W h) hql (q := q) (by rw [HKK.out.2.2.2.2.2.1]; exact hq)
       rw [hxs, hxb, hfv] at this
       exact this
      have HSt : Hid (FtY P F (.int .i64 (en : Int)) (.int .i64 (ep : Int)) (.int .i64 (ed : Int)) (.int .i64 (ea : Int)) false undef true (.pointer (some ⟨f, 0, none⟩)) false wr.drew) := (hZ.more HKit.out (Below.refl _ _).drew).y _ _ _ _
      have HQk : Hid (verF TD p (ql.map bytesOf) = q ∧ (∀ er, q = .error er → en = er.num ∧ ed = er.node) ∧ (∀ o, q = .ok o → en = 0) ∧ verStr q = xs ∧ verHas q = xb ∧ ql.length ≤ 9223372036854775807 ∧ (∀ a, qp = some a → S a.block = none)) := ⟨hq, hen1, hen2, hxs, hxb, hql, hqS⟩
      clear hcell hql hqS hrow hq hfv hen1 hen2 hxs hxb hZ hk HZ0
      go_upto_region 23 with fail
      go_cut [23, 24] (fun a b wd => a = .string xs ∧ b = .bool xb ∧ FtY P F (.int .i64 (en : Int)) (.int .i64 (ep : Int)) (.int .i64 (ed : Int)) (.int .i64 (ea : Int)) false undef true (.pointer (some ⟨f, 0, none⟩)) true wd)
      case first => as_aux_lemma =>
       refine wp_region_any (by kernel_rfl) ?_
       change wpAny _ _ _ _ _ _ _ (World.drew _)
       obtain ⟨vf, hvf⟩ : ∃ vf : Nat → Option Value, vf = fun i => ([some (.pointer (some ⟨bt, 0, none⟩)), some (.agg (TD.map encB).toArray), some (.agg (K.toList.map encB).toArray), some (.slice (some ⟨tb, 0, none⟩) 4 4), some (.int .i64 (k : Int)), some (.pointer (some ⟨tb, k, none⟩)), some (.slice qp ql.length qc), some (.tuple #[.string xs, .bool xb, faultV en ep ed ea]), some (.tuple #[.string xs, .bool xb, faultV en ep ed ea]), some (.string xs), some (.bool xb), some (faultV en ep ed ea), some (.string xs), some (.bool xb), none] : List (Option Value)).getD i none := ⟨_, rfl⟩
       refine wpAny_vary _ (fun d v w' => (∀ i x, vf i = some x → d i = true → v i = x) ∧ (fun d v w' => FtY P F (.int .i64 (en : Int)) (.int .i64 (ep : Int)) (.int .i64 (ed : Int)) (.int .i64 (ea : Int)) false undef true (.pointer (some ⟨f, 0, none⟩)) (d 14) w') d v w') (by kernel_rfl) (by kernel_rfl) ?_ _ (fun _ => undef) ?_ ?_
       ·intro i o ho listed val b W hsat hnew hdeps hI
        have hi : i < 15 := (Array.getElem?_eq_some_iff.1 ho).1
        match i, hi with
        | 0, _ =>
         obtain rfl := Option.some.inj ho
         have t14 : b.tmps[14]? = some (.pointer (some ⟨bt, 0, none⟩)) := (hsat.rest 14 (fun i _ => noDst_of (by kernel_rfl) i)).trans rfl
         refine Oper.wp_mono (K := fun a' w' => a' = b.put (some 130) (.pointer (some ⟨bt, 0, none⟩)) ∧ w' = W) (by rintro a' w' ⟨rfl, rfl⟩; exact ⟨_, rfl, vals_step hI.1 (by rw [hvf]; rfl), hI.2⟩) ?_
         clear ho hdeps hsat hI hnew hvf
         go_simp
        | 1, _ =>
         obtain rfl := Option.some.inj ho
         have t130 : b.tmps[130]? = some (.pointer (some ⟨bt, 0, none⟩)) := (hsat.done 0 130 (hdeps ⟨0, .data⟩ (by simp) rfl) rfl (by simp)).trans (congrArg some (hI.1 0 _ (by rw [hvf]; rfl) (hdeps ⟨0, .data⟩ (by simp) rfl)))
         obtain ⟨G, hG⟩ : ∃ G : Value → World → Prop, ∀ x w', G x w' ↔ ((∀ j y, vf j = some y → (fun k => if k = 1 then true else listed.getD k false) j = true → (fun k => if k = 1 then x else val k) j = y) ∧ FtY P F (.int .i64 (en : Int)) (.int .i64 (ep : Int)) (.int .i64 (ed : Int)) (.int .i64 (ea : Int)) false undef true (.pointer (some ⟨f, 0, none⟩)) (listed.getD 14 false) w') := ⟨_, fun _ _ => Iff.rfl⟩
         refine Oper.wp_mono (K := fun a' w' => ∃ v, a' = b.put (some 131) v ∧ G v w') (by rintro a' w' ⟨v, rfl, hv⟩; exact ⟨v, rfl, (hG v w').1 hv⟩) ?_
         have HG := Hid.hide hG
         have HI := Hid.hide hI
         have HVF := Hid.hide hvf
         clear hG ho hdeps hsat hI hnew hvf
         go_simp
         go_at_call 16
         refine (HRt.out W HI.out.2.all).mono ?_
         rintro e w9 ⟨rfl, hb9⟩
         exact ⟨_, rfl, (HG.out _ _).2 ⟨vals_step HI.out.1 (by rw [HVF.out]; rfl), HI.out.2.fr HKit.out hb9⟩⟩
        | 2, _ =>
         obtain rfl := Option.some.inj ho
         have t17 : b.tmps[17]? = some (.pointer (some ⟨ka, 0, none⟩)) := (hsat.rest 17 (fun i _ => noDst_of (by kernel_rfl) i)).trans rfl
         refine wp_load_mid 26 (.tmp 17) rfl ka 0 (by simp only [Act.eval, Array.getD_eq_getD_getElem?, t17, Option.getD_some]) (K.toList.map encB) _ (HKa.out W hI.2.all) hu26 rfl hzK ?_
         exact ⟨_, rfl, vals_step hI.1 (by rw [hvf]; rfl), hI.2⟩
        | 3, _ =>
         obtain rfl := Option.some.inj ho
         have t28 : b.tmps[28]? = some (.slice (some ⟨tb, 0, none⟩) 4 4) := (hsat.rest 28 (fun i _ => noDst_of (by kernel_rfl) i)).trans rfl
         refine Oper.wp_mono (K := fun a' w' => a' = b.put (some 133) (.slice (some ⟨tb, 0, none⟩) 4 4) ∧ w' = W) (by rintro a' w' ⟨rfl, rfl⟩; exact ⟨_, rfl, vals_step hI.1 (by rw [hvf]; rfl), hI.2⟩) ?_
         clear ho hdeps hsat hI hnew hvf
         go_simp
        | 4, _ =>
         obtain rfl := Option.some.inj ho
         have t29 : b.tmps[29]? = some (.int .i64 (k : Int)) := (hsat.rest 29 (fun i _ => noDst_of (by kernel_rfl) i)).trans rfl
         refine Oper.wp_mono (K := fun a' w' => a' = b.put (some 134) (.int .i64 (k : Int)) ∧ w' = W) (by rintro a' w' ⟨rfl, rfl⟩; exact ⟨_, rfl, vals_step hI.1 (by rw [hvf]; rfl), hI.2⟩) ?_
         clear ho hdeps hsat hI hnew hvf
         go_simp
        | 5, _ =>
         obtain rfl := Option.some.inj ho
         have t133 : b.tmps[133]? = some (.slice (some ⟨tb, 0, none⟩) 4 4) := (hsat.done 3 133 (hdeps ⟨3, .data⟩ (by simp) rfl) rfl (by simp)).trans (congrArg some (hI.1 3 _ (by rw [hvf]; rfl) (hdeps ⟨3, .data⟩ (by simp) rfl)))
         have t134 : b.tmps[134]? = some (.int .i64 (k : Int)) := (hsat.done 4 134 (hdeps ⟨4, .data⟩ (by simp) rfl) rfl (by simp)).trans (congrArg some (hI.1 4 _ (by rw [hvf]; rfl) (hdeps ⟨4, .data⟩ (by simp) rfl)))
         refine Oper.wp_mono (K := fun a' w' => a' = b.put (some 135) (.pointer (some ⟨tb, k, none⟩)) ∧ w' = W) (by rintro a' w' ⟨rfl, rfl⟩; exact ⟨_, rfl, vals_step hI.1 (by rw [hvf]; rfl), hI.2⟩) ?_
         clear ho hdeps hsat hI hnew hvf
         go_simp
        | 6, _ =>
         obtain rfl := Option.some.inj ho
         have t135 : b.tmps[135]? = some (.pointer (some ⟨tb, k, none⟩)) := (hsat.done 5 135 (hdeps ⟨5, .data⟩ (by simp) rfl) rfl (by simp)).trans (congrArg some (hI.1 5 _ (by rw [hvf]; rfl) (hdeps ⟨5, .data⟩ (by simp) rfl)))
         have hq := HTb.out W hI.2.all
         refine Oper.wp_mono (K := fun a' w' => a' = b.put (some 136) (.slice qp ql.length qc) ∧ w' = W) (by rintro a' w' ⟨rfl, rfl⟩; exact ⟨_, rfl, vals_step hI.1 (by rw [hvf]; rfl), hI.2⟩) ?_
         clear ho hdeps hsat hI hnew hvf
         go_simp
        | 7, _ =>
         obtain rfl := Option.some.inj ho
         have t131 : b.tmps[131]? = some (.agg (TD.map encB).toArray) := (hsat.done 1 131 (hdeps ⟨1, .data⟩ (by simp) rfl) rfl (by simp)).trans (congrArg some (hI.1 1 _ (by rw [hvf]; rfl) (hdeps ⟨1, .data⟩ (by simp) rfl)))
         have t132 : b.tmps[132]? = some (.agg (K.toList.map encB).toArray) := (hsat.done 2 132 (hdeps ⟨2, .data⟩ (by simp) rfl) rfl (by simp)).trans (congrArg some (hI.1 2 _ (by rw [hvf]; rfl) (hdeps ⟨2, .data⟩ (by simp) rfl)))
         have t136 : b.tmps[136]? = some (.slice qp ql.length qc) := (hsat.done 6 136 (hdeps ⟨6, .data⟩ (by simp) rfl) rfl (by simp)).trans (congrArg some (hI.1 6 _ (by rw [hvf]; rfl) (hdeps ⟨6, .data⟩ (by simp) rfl)))
         obtain ⟨G, hG⟩ : ∃ G : Value → World → Prop, ∀ x w', G x w' ↔ ((∀ j y, vf j = some y → (fun k => if k = 7 then true else listed.getD k false) j = true → (fun k => if k = 7 then x else val k) j = y) ∧ FtY P F (.int .i64 (en : Int)) (.int .i64 (ep : Int)) (.int .i64 (ed : Int)) (.int .i64 (ea : Int)) false undef true (.pointer (some ⟨f, 0, none⟩)) (listed.getD 14 false) w') := ⟨_, fun _ _ => Iff.rfl⟩
         refine Oper.wp_mono (K := fun a' w' => ∃ v, a' = b.put (some 137) v ∧ G v w') (by rintro a' w' ⟨v, rfl, hv⟩; exact ⟨v, rfl, (hG v w').1 hv⟩) ?_
         have HG := Hid.hide hG
         have HI := Hid.hide hI
         have HVF := Hid.hide hvf
         clear hG ho hdeps hsat hI hnew hvf
         go_simp
         go_at_call 30
         refine (HVs.out W HI.out.2.all).mono ?_
         rintro e w9 ⟨rfl, hb9⟩
         exact ⟨_, rfl, (HG.out _ _).2 ⟨vals_step HI.out.1 (by rw [HVF.out]; rfl), HI.out.2.more HKit.out hb9⟩⟩
        | 8, _ =>
         obtain rfl := Option.some.inj ho
         have t137 : b.tmps[137]? = some (.tuple #[.string xs, .bool xb, faultV en ep ed ea]) := (hsat.done 7 137 (hdeps ⟨7, .data⟩ (by simp) rfl) rfl (by simp)).trans (congrArg some (hI.1 7 _ (by rw [hvf]; rfl) (hdeps ⟨7, .data⟩ (by simp) rfl)))
         refine Oper.wp_mono (K := fun a' w' => a' = b.put (some 129) (.tuple #[.string xs, .bool xb, faultV en ep ed ea]) ∧ w' = W) (by rintro a' w' ⟨rfl, rfl⟩; exact ⟨_, rfl, vals_step hI.1 (by rw [hvf]; rfl), hI.2⟩) ?_
         clear ho hdeps hsat hI hnew hvf
         go_simp
        | 9, _ =>
         obtain rfl := Option.some.inj ho
         have t129 : b.tmps[129]? = some (.tuple #[.string xs, .bool xb, faultV en ep ed ea]) := (hsat.done 8 129 (hdeps ⟨8, .data⟩ (by simp) rfl) rfl (by simp)).trans (congrArg some (hI.1 8 _ (by rw [hvf]; rfl) (hdeps ⟨8, .data⟩ (by simp) rfl)))
         refine Oper.wp_mono (K := fun a' w' => a' = b.put (some 138) (.string xs) ∧ w' = W) (by rintro a' w' ⟨rfl, rfl⟩; exact ⟨_, rfl, vals_step hI.1 (by rw [hvf]; rfl), hI.2⟩) ?_
         clear ho hdeps hsat hI hnew hvf
         go_simp
        | 10, _ =>
         obtain rfl := Option.some.inj ho
         have t129 : b.tmps[129]? = some (.tuple #[.string xs, .bool xb, faultV en ep ed ea]) := (hsat.done 8 129 (hdeps ⟨8, .data⟩ (by simp) rfl) rfl (by simp)).trans (congrArg some (hI.1 8 _ (by rw [hvf]; rfl) (hdeps ⟨8, .data⟩ (by simp) rfl)))
         refine Oper.wp_mono (K := fun a' w' => a' = b.put (some 139) (.bool xb) ∧ w' = W) (by rintro a' w' ⟨rfl, rfl⟩; exact ⟨_, rfl, vals_step hI.1 (by rw [hvf]; rfl), hI.2⟩) ?_
         clear ho hdeps hsat hI hnew hvf
         go_simp
        | 11, _ =>
         obtain rfl := Option.some.inj ho
         have t129 : b.tmps[129]? = some (.tuple #[.string xs, .bool xb, faultV en ep ed ea]) := (hsat.done 8 129 (hdeps ⟨8, .data⟩ (by simp) rfl) rfl (by simp)).trans (congrArg some (hI.1 8 _ (by rw [hvf]; rfl) (hdeps ⟨8, .data⟩ (by simp) rfl)))
         refine Oper.wp_mono (K := fun a' w' => a' = b.put (some 140) (faultV en ep ed ea) ∧ w' = W) (by rintro a' w' ⟨rfl, rfl⟩; exact ⟨_, rfl, vals_step hI.1 (by rw [hvf]; rfl), hI.2⟩) ?_
         clear ho hdeps hsat hI hnew hvf
         go_simp
        | 12, _ =>
         obtain rfl := Option.some.inj ho
         have t138 : b.tmps[138]? = some (.string xs) := (hsat.done 9 138 (hdeps ⟨9, .data⟩ (by simp) rfl) rfl (by simp)).trans (congrArg some (hI.1 9 _ (by rw [hvf]; rfl) (hdeps ⟨9, .data⟩ (by simp) rfl)))
         refine Oper.wp_mono (K := fun a' w' => a' = b.put (some 23) (.string xs) ∧ w' = W) (by rintro a' w' ⟨rfl, rfl⟩; exact ⟨_, rfl, vals_step hI.1 (by rw [hvf]; rfl), hI.2⟩) ?_
         clear ho hdeps hsat hI hnew hvf
         go_simp
        | 13, _ =>
         obtain rfl := Option.some.inj ho
         have t139 : b.tmps[139]? = some (.bool xb) := (hsat.done 10 139 (hdeps ⟨10, .data⟩ (by simp) rfl) rfl (by simp)).trans (congrArg some (hI.1 10 _ (by rw [hvf]; rfl) (hdeps ⟨10, .data⟩ (by simp) rfl)))
         refine Oper.wp_mono (K := fun a' w' => a' = b.put (some 24) (.bool xb) ∧ w' = W) (by rintro a' w' ⟨rfl, rfl⟩; exact ⟨_, rfl, vals_step hI.1 (by rw [hvf]; rfl), hI.2⟩) ?_
         clear ho hdeps hsat hI hnew hvf
         go_simp
        | 14, _ =>
         obtain rfl := Option.some.inj ho
         have t25 : b.tmps[25]? = some (.pointer (some ⟨f, 0, none⟩)) := (hsat.rest 25 (fun i _ => noDst_of (by kernel_rfl) i)).trans rfl
         have t140 : b.tmps[140]? = some (faultV en ep ed ea) := (hsat.done 11 140 (hdeps ⟨11, .data⟩ (by simp) rfl) rfl (by simp)).trans (congrArg some (hI.1 11 _ (by rw [hvf]; rfl) (hdeps ⟨11, .data⟩ (by simp) rfl)))
         obtain ⟨f', x0, x1, x2, x3, f1, f2, f3, -⟩ := hI.2.ft rfl
         simp only [Value.pointer.injEq, Option.some.injEq, Addr.mk.injEq, and_true] at f1
         subst f1
         refine wp_store_mid 66 (.tmp 25) (.tmp 140) rfl f 0 #[.int .i64 (en : Int), .int .i64 (ep : Int), .int .i64 (ed : Int), .int .i64 (ea : Int)] (by simp only [Act.eval, Array.getD_eq_getD_getElem?, t25, Option.getD_some]) (by simp only [Act.eval, Array.getD_eq_getD_getElem?, t140, Option.getD_some] <;> rfl) (there_cells f3 rfl) (by kernel_rfl) (by simp [Value.oneCell']) ?_
         exact ⟨_, rfl, vals_free hI.1 (by rw [hvf]; rfl), hI.2.set HKit.out⟩
       ·exact ⟨fun _ _ _ h => (by simp at h), FtY.low HSt.out (by simp)⟩
       ·intro val W hI
        have e0 : val 0 = .pointer (some ⟨bt, 0, none⟩) := hI.1 0 _ (by rw [hvf]; rfl) rfl
        have e1 : val 1 = .agg (TD.map encB).toArray := hI.1 1 _ (by rw [hvf]; rfl) rfl
        have e2 : val 2 = .agg (K.toList.map encB).toArray := hI.1 2 _ (by rw [hvf]; rfl) rfl
        have e3 : val 3 = .slice (some ⟨tb, 0, none⟩) 4 4 := hI.1 3 _ (by rw [hvf]; rfl) rfl
        have e4 : val 4 = .int .i64 (k : Int) := hI.1 4 _ (by rw [hvf]; rfl) rfl
        have e5 : val 5 = .pointer (some ⟨tb, k, none⟩) := hI.1 5 _ (by rw [hvf]; rfl) rfl
        have e6 : val 6 = .slice qp ql.length qc := hI.1 6 _ (by rw [hvf]; rfl) rfl
        have e7 : val 7 = .tuple #[.string xs, .bool xb, faultV en ep ed ea] := hI.1 7 _ (by rw [hvf]; rfl) rfl
        have e8 : val 8 = .tuple #[.string xs, .bool xb, faultV en ep ed ea] := hI.1 8 _ (by rw [hvf]; rfl) rfl
        have e9 : val 9 = .string xs := hI.1 9 _ (by rw [hvf]; rfl) rfl
        have e10 : val 10 = .bool xb := hI.1 10 _ (by rw [hvf]; rfl) rfl
        have e11 : val 11 = faultV en ep ed ea := hI.1 11 _ (by rw [hvf]; rfl) rfl
        have e12 : val 12 = .string xs := hI.1 12 _ (by rw [hvf]; rfl) rfl
        have e13 : val 13 = .bool xb := hI.1 13 _ (by rw [hvf]; rfl) rfl
        have hX := hI.2
        simp only [runFrom, Act.put, Nat.zero_add, Nat.reduceAdd, List.setIfInBounds_toArray, List.set_cons_zero, List.set_cons_succ, e0, e1, e2, e3, e4, e5, e6, e7, e8, e9, e10, e11, e12, e13]
        clear hI hvf e0 e1 e2 e3 e4 e5 e6 e7 e8 e9 e10 e11 e12 e13
        have HX : Hid (FtY P F (.int .i64 (en : Int)) (.int .i64 (ep : Int)) (.int .i64 (ed : Int)) (.int .i64 (ea : Int)) false undef true (.pointer (some ⟨f, 0, none⟩)) true W) := hX
        clear hX
        (try go_wp2)
        go_meet
        exact ⟨rfl, rfl, HX.out⟩
      case rest => as_aux_lemma =>
       obtain ⟨rfl, rfl, hY⟩ := hcut
       obtain ⟨w20, rfl⟩ : ∃ x, x = wc := ⟨_, rfl⟩
       obtain ⟨f', e1, -, hcf⟩ := hY.fault
       simp only [Value.pointer.injEq, Option.some.injEq, Addr.mk.injEq, and_true] at e1
       subst e1
       obtain ⟨f0, f1, f2, f3, -⟩ := fault_cells hcf
       have H20 := Hid.hide hY.z
       clear hY hcf HSt HVs
       cases q with
       | error er =>
        have hne : ¬ (en : Int) = 0 := by
         have hs := verF_simple (bytes_all ql) HQk.out.1
         have := Er.num_pos hs
         have := (HQk.out.2.1 er rfl).1
         omega
        have HEnd := Hid.hide H20.out
        go_wp2
        go_roundg (4 - (k + 1))
        case measure => omega
        case rel => exact ⟨k + 1, by omega, rfl, by simp, HEnd.out⟩
       | ok o =>
        obtain rfl : en = 0 := HQk.out.2.2.1 o rfl
        obtain ⟨ex, ey, eb, hex⟩ := exV_three (exF (orE L1) (orE (ql.map bytesOf)))
        obtain ⟨sm, hsm⟩ : ∃ b, ansB ov xs xb = b := ⟨_, rfl⟩
        obtain ⟨cb, hcb⟩ : ∃ b, collB ex ey eb = b := ⟨_, rfl⟩
        have hor : sm = true ∨ cb = true := by
         have hv := HQk.out.1
         rw [← HOV.out.2.2.2.1] at hv
         have hex' := hex
         rw [← HKK.out.2.2.2.2.2.2.1] at hex'
         rcases sound_pure HS3.out.1 HKK.out.2.2.1 HKK.out.2.2.2.1 hv hex' with h | h
         ·left
          have h1 := HQk.out.2.2.2.1
          have h2 := HQk.out.2.2.2.2.1
          rw [h, HOV.out.2.2.2.2.2.1] at h1 h2
          rw [← hsm, ansB, ← h1, ← h2]
          simp [verStr, verHas]
         ·exact .inr (hcb.symm.trans h)
        have hsz : ∀ x ∈ ql, x.size ≤ 1048576 := fun x hx => by
         have := verF_size HQk.out.1 (bytesOf x) (List.mem_map_of_mem hx)
         rw [bytesOf_length] at this
         omega
        have HEx : Hid (∀ W, P W → Calls Tryz.prog 36 #[.pointer (some ⟨bt, 0, none⟩), .agg (K.toList.map encB).toArray, .slice qp ql.length qc] W fun e w' => e = .returned (.tuple #[.string ex, .string ey, .bool eb]) ∧ Fr w2.heap.size S S W w') := fun W h => by
         have q' := HQ.out W h
         have := xextract_any q'.wood (HT.out W q'.below).1 (HT.out W q'.below).2.2 q'.tree HS3.out.1 HKK.out.1 HKK.out.2.1 qp ql qc (HRow.out W h) HQk.out.2.2.2.2.2.2 HQk.out.2.2.2.2.2.1 hsz (L := L1) (by rw [HKK.out.2.2.2.2.2.1]; exact HKK.out.2.2.2.2.2.2.1)
         rw [hex] at this
         exact this
        obtain ⟨hbx, hkn⟩ := HBm.out _ H20.out.1
        obtain ⟨z0, z1, -⟩ := box_cells hbx
        have hrK := HKa.out _ H20.out.1
        have HAn := Hid.hide (answered_any hkn (by have := H2.out.2.2.2.2.2.1; omega) H2.out.2.2.2.2.1 HKK.out.1 HKK.out.2.1 xs xb HOV.out.1)
        rw [hsm] at HAn
        have HOr := Hid.hide hor
        have HCb := Hid.hide hcb
        clear hbx hkn hor hcb hsz hex hsm
        go_wp2_with (refine wpList_load_mid rfl 26 _ rfl ka 0 rfl (K.toList.map encB) _ hrK hu26 rfl hzK ?_)
        refine HAn.out.mono ?_
        rintro x w21 ⟨rfl, hb21⟩
        have H21 := Hid.hide (H20.out.more HKit.out hb21)
        have HSt := Hid.hide (H21.out.more HKit.out (Below.refl _ _).drew)
        clear hb21 HAn z0 z1 hrK f0 f1 f2 f3 H20
        go_upto_region 26 with fail
        go_cut [30, 31, 32] (fun a b c wd => a = .string ex ∧ b = .string ey ∧ c = .bool eb ∧ FtZ P F f wd)
        case first => as_aux_lemma =>
         refine wp_region_any (by kernel_rfl) ?_
         change wpAny _ _ _ _ _ _ _ (World.drew _)
         obtain ⟨vf, hvf⟩ : ∃ vf : Nat → Option Value, vf = fun i => ([some (.pointer (some ⟨bt, 0, none⟩)), some (.agg (K.toList.map encB).toArray), some (.slice (some ⟨tb, 0, none⟩) 4 4), some (.int .i64 (k : Int)), some (.pointer (some ⟨tb, k, none⟩)), some (.slice qp ql.length qc), some (.tuple #[.string ex, .string ey, .bool eb]), some (.tuple #[.string ex, .string ey, .bool eb]), some (.string ex), some (.string ey), some (.bool eb), some (.string ex), some (.string ey), some (.bool eb)] : List (Option Value)).getD i none := ⟨_, rfl⟩
         refine wpAny_vary _ (fun d v w' => (∀ i x, vf i = some x → d i = true → v i = x) ∧ (fun d v w' => FtZ P F f w') d v w') (by kernel_rfl) (by kernel_rfl) ?_ _ (fun _ => undef) ?_ ?_
         ·intro i o ho listed val b W hsat hnew hdeps hI
          have hi : i < 14 := (Array.getElem?_eq_some_iff.1 ho).1
          match i, hi with
          | 0, _ =>
           obtain rfl := Option.some.inj ho
           have t14 : b.tmps[14]? = some (.pointer (some ⟨bt, 0, none⟩)) := (hsat.rest 14 (fun i _ => noDst_of (by kernel_rfl) i)).trans rfl
           refine Oper.wp_mono (K := fun a' w' => a' = b.put (some 150) (.pointer (some ⟨bt, 0, none⟩)) ∧ w' = W) (by rintro a' w' ⟨rfl, rfl⟩; exact ⟨_, rfl, vals_step hI.1 (by rw [hvf]; rfl), hI.2⟩) ?_
           clear ho hdeps hsat hI hnew hvf
           go_simp
          | 1, _ =>
           obtain rfl := Option.some.inj ho
           have t17 : b.tmps[17]? = some (.pointer (some ⟨ka, 0, none⟩)) := (hsat.rest 17 (fun i _ => noDst_of (by kernel_rfl) i)).trans rfl
           refine wp_load_mid 26 (.tmp 17) rfl ka 0 (by simp only [Act.eval, Array.getD_eq_getD_getElem?, t17, Option.getD_some]) (K.toList.map encB) _ (HKa.out W hI.2.1) hu26 rfl hzK ?_
           exact ⟨_, rfl, vals_step hI.1 (by rw [hvf]; rfl), hI.2⟩
          | 2, _ =>
           obtain rfl := Option.some.inj ho
           have t28 : b.tmps[28]? = some (.slice (some ⟨tb, 0, none⟩) 4 4) := (hsat.rest 28 (fun i _ => noDst_of (by kernel_rfl) i)).trans rfl
           refine Oper.wp_mono (K := fun a' w' => a' = b.put (some 152) (.slice (some ⟨tb, 0, none⟩) 4 4) ∧ w' = W) (by rintro a' w' ⟨rfl, rfl⟩; exact ⟨_, rfl, vals_step hI.1 (by rw [hvf]; rfl), hI.2⟩) ?_
           clear ho hdeps hsat hI hnew hvf
           go_simp
          | 3, _ =>
           obtain rfl := Option.some.inj ho
           have t29 : b.tmps[29]? = some (.int .i64 (k : Int)) := (hsat.rest 29 (fun i _ => noDst_of (by kernel_rfl) i)).trans rfl
           refine Oper.wp_mono (K := fun a' w' => a' = b.put (some 153) (.int .i64 (k : Int)) ∧ w' = W) (by rintro a' w' ⟨rfl, rfl⟩; exact ⟨_, rfl, vals_step hI.1 (by rw [hvf]; rfl), hI.2⟩) ?_
           clear ho hdeps hsat hI hnew hvf
           go_simp
          | 4, _ =>
           obtain rfl := Option.some.inj ho
           have t152 : b.tmps[152]? = some (.slice (some ⟨tb, 0, none⟩) 4 4) := (hsat.done 2 152 (hdeps ⟨2, .data⟩ (by simp) rfl) rfl (by simp)).trans (congrArg some (hI.1 2 _ (by rw [hvf]; rfl) (hdeps ⟨2, .data⟩ (by simp) rfl)))
           have t153 : b.tmps[153]? = some (.int .i64 (k : Int)) := (hsat.done 3 153 (hdeps ⟨3, .data⟩ (by simp) rfl) rfl (by simp)).trans (congrArg some (hI.1 3 _ (by rw [hvf]; rfl) (hdeps ⟨3, .data⟩ (by simp) rfl)))
           refine Oper.wp_mono (K := fun a' w' => a' = b.put (some 154) (.pointer (some ⟨tb, k, none⟩)) ∧ w' = W) (by rintro a' w' ⟨rfl, rfl⟩; exact ⟨_, rfl, vals_step hI.1 (by rw [hvf]; rfl), hI.2⟩) ?_
           clear ho hdeps hsat hI hnew hvf
           go_simp
          | 5, _ =>
           obtain rfl := Option.some.inj ho
           have t154 : b.tmps[154]? = some (.pointer (some ⟨tb, k, none⟩)) := (hsat.done 4 154 (hdeps ⟨4, .data⟩ (by simp) rfl) rfl (by simp)).trans (congrArg some (hI.1 4 _ (by rw [hvf]; rfl) (hdeps ⟨4, .data⟩ (by simp) rfl)))
           have hq := HTb.out W hI.2.1
           refine Oper.wp_mono (K := fun a' w' => a' = b.put (some 155) (.slice qp ql.length qc) ∧ w' = W) (by rintro a' w' ⟨rfl, rfl⟩; exact ⟨_, rfl, vals_step hI.1 (by rw [hvf]; rfl), hI.2⟩) ?_
           clear ho hdeps hsat hI hnew hvf
           go_simp
          | 6, _ =>
           obtain rfl := Option.some.inj ho
           have t150 : b.tmps[150]? = some (.pointer (some ⟨bt, 0, none⟩)) := (hsat.done 0 150 (hdeps ⟨0, .data⟩ (by simp) rfl) rfl (by simp)).trans (congrArg some (hI.1 0 _ (by rw [hvf]; rfl) (hdeps ⟨0, .data⟩ (by simp) rfl)))
           have t151 : b.tmps[151]? = some (.agg (K.toList.map encB).toArray) := (hsat.done 1 151 (hdeps ⟨1, .data⟩ (by simp) rfl) rfl (by simp)).trans (congrArg some (hI.1 1 _ (by rw [hvf]; rfl) (hdeps ⟨1, .data⟩ (by simp) rfl)))
           have t155 : b.tmps[155]? = some (.slice qp ql.length qc) := (hsat.done 5 155 (hdeps ⟨5, .data⟩ (by simp) rfl) rfl (by simp)).trans (congrArg some (hI.1 5 _ (by rw [hvf]; rfl) (hdeps ⟨5, .data⟩ (by simp) rfl)))
           obtain ⟨G, hG⟩ : ∃ G : Value → World → Prop, ∀ x w', G x w' ↔ ((∀ j y, vf j = some y → (fun k => if k = 6 then true else listed.getD k false) j = true → (fun k => if k = 6 then x else val k) j = y) ∧ FtZ P F f w') := ⟨_, fun _ _ => Iff.rfl⟩
           refine Oper.wp_mono (K := fun a' w' => ∃ v, a' = b.put (some 156) v ∧ G v w') (by rintro a' w' ⟨v, rfl, hv⟩; exact ⟨v, rfl, (hG v w').1 hv⟩) ?_
           have HG := Hid.hide hG
           have HI := Hid.hide hI
           have HVF := Hid.hide hvf
           clear hG ho hdeps hsat hI hnew hvf
           go_simp
           go_at_call 36
           refine (HEx.out W HI.out.2.1).mono ?_
           rintro e w9 ⟨rfl, hb9⟩
           exact ⟨_, rfl, (HG.out _ _).2 ⟨vals_step HI.out.1 (by rw [HVF.out]; rfl), HI.out.2.fr HKit.out hb9⟩⟩
          | 7, _ =>
           obtain rfl := Option.some.inj ho
           have t156 : b.tmps[156]? = some (.tuple #[.string ex, .string ey, .bool eb]) := (hsat.done 6 156 (hdeps ⟨6, .data⟩ (by simp) rfl) rfl (by simp)).trans (congrArg some (hI.1 6 _ (by rw [hvf]; rfl) (hdeps ⟨6, .data⟩ (by simp) rfl)))
           refine Oper.wp_mono (K := fun a' w' => a' = b.put (some 149) (.tuple #[.string ex, .string ey, .bool eb]) ∧ w' = W) (by rintro a' w' ⟨rfl, rfl⟩; exact ⟨_, rfl, vals_step hI.1 (by rw [hvf]; rfl), hI.2⟩) ?_
           clear ho hdeps hsat hI hnew hvf
           go_simp
          | 8, _ =>
           obtain rfl := Option.some.inj ho
           have t149 : b.tmps[149]? = some (.tuple #[.string ex, .string ey, .bool eb]) := (hsat.done 7 149 (hdeps ⟨7, .data⟩ (by simp) rfl) rfl (by simp)).trans (congrArg some (hI.1 7 _ (by rw [hvf]; rfl) (hdeps ⟨7, .data⟩ (by simp) rfl)))
           refine Oper.wp_mono (K := fun a' w' => a' = b.put (some 157) (.string ex) ∧ w' = W) (by rintro a' w' ⟨rfl, rfl⟩; exact ⟨_, rfl, vals_step hI.1 (by rw [hvf]; rfl), hI.2⟩) ?_
           clear ho hdeps hsat hI hnew hvf
           go_simp
          | 9, _ =>
           obtain rfl := Option.some.inj ho
           have t149 : b.tmps[149]? = some (.tuple #[.string ex, .string ey, .bool eb]) := (hsat.done 7 149 (hdeps ⟨7, .data⟩ (by simp) rfl) rfl (by simp)).trans (congrArg some (hI.1 7 _ (by rw [hvf]; rfl) (hdeps ⟨7, .data⟩ (by simp) rfl)))
           refine Oper.wp_mono (K := fun a' w' => a' = b.put (some 158) (.string ey) ∧ w' = W) (by rintro a' w' ⟨rfl, rfl⟩; exact ⟨_, rfl, vals_step hI.1 (by rw [hvf]; rfl), hI.2⟩) ?_
           clear ho hdeps hsat hI hnew hvf
           go_simp
          | 10, _ =>
           obtain rfl := Option.some.inj ho
           have t149 : b.tmps[149]? = some (.tuple #[.string ex, .string ey, .bool eb]) := (hsat.done 7 149 (hdeps ⟨7, .data⟩ (by simp) rfl) rfl (by simp)).trans (congrArg some (hI.1 7 _ (by rw [hvf]; rfl) (hdeps ⟨7, .data⟩ (by simp) rfl)))
           refine Oper.wp_mono (K := fun a' w' => a' = b.put (some 159) (.bool eb) ∧ w' = W) (by rintro a' w' ⟨rfl, rfl⟩; exact ⟨_, rfl, vals_step hI.1 (by rw [hvf]; rfl), hI.2⟩) ?_
           clear ho hdeps hsat hI hnew hvf
           go_simp
          | 11, _ =>
           obtain rfl := Option.some.inj ho
           have t157 : b.tmps[157]? = some (.string ex) := (hsat.done 8 157 (hdeps ⟨8, .data⟩ (by simp) rfl) rfl (by simp)).trans (congrArg some (hI.1 8 _ (by rw [hvf]; rfl) (hdeps ⟨8, .data⟩ (by simp) rfl)))
           refine Oper.wp_mono (K := fun a' w' => a' = b.put (some 30) (.string ex) ∧ w' = W) (by rintro a' w' ⟨rfl, rfl⟩; exact ⟨_, rfl, vals_step hI.1 (by rw [hvf]; rfl), hI.2⟩) ?_
           clear ho hdeps hsat hI hnew hvf
           go_simp
          | 12, _ =>
           obtain rfl := Option.some.inj ho
           have t158 : b.tmps[158]? = some (.string ey) := (hsat.done 9 158 (hdeps ⟨9, .data⟩ (by simp) rfl) rfl (by simp)).trans (congrArg some (hI.1 9 _ (by rw [hvf]; rfl) (hdeps ⟨9, .data⟩ (by simp) rfl)))
           refine Oper.wp_mono (K := fun a' w' => a' = b.put (some 31) (.string ey) ∧ w' = W) (by rintro a' w' ⟨rfl, rfl⟩; exact ⟨_, rfl, vals_step hI.1 (by rw [hvf]; rfl), hI.2⟩) ?_
           clear ho hdeps hsat hI hnew hvf
           go_simp
          | 13, _ =>
           obtain rfl := Option.some.inj ho
           have t159 : b.tmps[159]? = some (.bool eb) := (hsat.done 10 159 (hdeps ⟨10, .data⟩ (by simp) rfl) rfl (by simp)).trans (congrArg some (hI.1 10 _ (by rw [hvf]; rfl) (hdeps ⟨10, .data⟩ (by simp) rfl)))
           refine Oper.wp_mono (K := fun a' w' => a' = b.put (some 32) (.bool eb) ∧ w' = W) (by rintro a' w' ⟨rfl, rfl⟩; exact ⟨_, rfl, vals_step hI.1 (by rw [hvf]; rfl), hI.2⟩) ?_
           clear ho hdeps hsat hI hnew hvf
           go_simp
         ·exact ⟨fun _ _ _ h => (by simp at h), HSt.out⟩
         ·intro val W hI
          have e0 : val 0 = .pointer (some ⟨bt, 0, none⟩) := hI.1 0 _ (by rw [hvf]; rfl) rfl
          have e1 : val 1 = .agg (K.toList.map encB).toArray := hI.1 1 _ (by rw [hvf]; rfl) rfl
          have e2 : val 2 = .slice (some ⟨tb, 0, none⟩) 4 4 := hI.1 2 _ (by rw [hvf]; rfl) rfl
          have e3 : val 3 = .int .i64 (k : Int) := hI.1 3 _ (by rw [hvf]; rfl) rfl
          have e4 : val 4 = .pointer (some ⟨tb, k, none⟩) := hI.1 4 _ (by rw [hvf]; rfl) rfl
          have e5 : val 5 = .slice qp ql.length qc := hI.1 5 _ (by rw [hvf]; rfl) rfl
          have e6 : val 6 = .tuple #[.string ex, .string ey, .bool eb] := hI.1 6 _ (by rw [hvf]; rfl) rfl
          have e7 : val 7 = .tuple #[.string ex, .string ey, .bool eb] := hI.1 7 _ (by rw [hvf]; rfl) rfl
          have e8 : val 8 = .string ex := hI.1 8 _ (by rw [hvf]; rfl) rfl
          have e9 : val 9 = .string ey := hI.1 9 _ (by rw [hvf]; rfl) rfl
          have e10 : val 10 = .bool eb := hI.1 10 _ (by rw [hvf]; rfl) rfl
          have e11 : val 11 = .string ex := hI.1 11 _ (by rw [hvf]; rfl) rfl
          have e12 : val 12 = .string ey := hI.1 12 _ (by rw [hvf]; rfl) rfl
          have e13 : val 13 = .bool eb := hI.1 13 _ (by rw [hvf]; rfl) rfl
          have hX := hI.2
          simp only [runFrom, Act.put, Nat.zero_add, Nat.reduceAdd, List.setIfInBounds_toArray, List.set_cons_zero, List.set_cons_succ, e0, e1, e2, e3, e4, e5, e6, e7, e8, e9, e10, e11, e12, e13]
          clear hI hvf e0 e1 e2 e3 e4 e5 e6 e7 e8 e9 e10 e11 e12 e13
          have HX : Hid (FtZ P F f W) := hX
          clear hX
          (try go_wp2)
          go_meet
          exact ⟨rfl, rfl, rfl, HX.out⟩
        case rest => as_aux_lemma =>
         obtain ⟨rfl, rfl, rfl, hZ⟩ := hcut
         obtain ⟨w22, rfl⟩ : ∃ x, x = wc := ⟨_, rfl⟩
         have hq22 := HQ.out _ hZ.1
         have HCo := Hid.hide (collision_any ex ey eb w22 (HT.out _ hq22.below).1 (HT.out _ hq22.below).2.1)
         rw [HCb.out] at HCo
         have H22 := Hid.hide hZ
         clear hZ hq22 HSt HEx
         go_wp2_with fail
         refine HCo.out.mono ?_
         rintro x w23 ⟨rfl, hb23⟩
         have HEnd := Hid.hide (H22.out.more HKit.out hb23)
         clear hb23 HCo
         cases sm with
         | true =>
          go_wp2
          go_roundg (4 - (k + 1))
          case measure => omega
          case rel => exact ⟨k + 1, by omega, rfl, by simp, HEnd.out⟩
         | false =>
          obtain rfl : cb = true := HOr.out.resolve_left (by simp)
          go_wp2
          go_roundg (4 - (k + 1))
          case measure => omega
          case rel => exact ⟨k + 1, by omega, rfl, by simp, HEnd.out⟩
     ·obtain rfl : k = 4 := by omega
      have HEnd : Hid (Below w.heap.size w wr) := (HQ.out _ hZ.1).below
      clear hZ hk hlt
      go_wp2
      go_ret
      exact ⟨rfl, HEnd.out⟩
end Go.Proofs.YtjiikjpnlgogfaaGreatDoor
