/-
  Verify whole.
-/
import Derived.Test.YtjiikjpnlgogfaaGreatDoorSdVeC
namespace Go.Proofs.YtjiikjpnlgogfaaGreatDoor
open Go.RowKit
theorem hash_size {h : List Nat} (hh : h.length = 32) : (Tryz.prog.info? 34).map (·.size) = some (h.map encB).length := by rw [List.length_map, hh]; kernel_rfl
theorem there_cells {w : World} {g : Nat} {cs : Array Value} {t : TypeId} {n : Nat} (h : w.heap[g]? = some (.cells cs t (0, 0))) (hn : cs.size = n) : w.there g 0 n := by
 intro j hj
 refine ⟨?_, ?_⟩
 ·simp only [World.cell?, h, Nat.zero_add]
  rw [Array.getElem?_eq_getElem (by omega)]
  rfl
 ·simp [World.frozen?, h]
theorem beg_follow {h : List Nat} {B : Nat} {w : World} {b : Nat} {P : ByteArray} (hs : StubAt h B w b) (hh : h.length = 32) (hhb : ∀ x ∈ h, x < 256) (hn : nib (bytesOf P)) (hP : P.size = 64) (hB : B ≤ w.heap.size) :
  Calls Tryz.prog 95 #[.iface 191 (.pointer (some ⟨b, 0, none⟩)), .string P] w fun x w' => Below w.heap.size w w' ∧ ∃ thr, x = .returned (.agg #[thr, .iface 191 (.pointer (some ⟨b, 0, none⟩)), .string P]) ∧ StubAt h B w' b ∧ OwnC w' B 2 thr 0 [] ∧ thr.ownBlock ≠ some b ∧ ∀ k, thr.ownBlock = some k → w.heap.size ≤ k := by
 have hf : Forest B (Wood.put (fun _ => none) b (.stub h)) w := by
  refine ⟨fun k t hk => ?_, fun k t hk => ?_, fun k t hk => ?_, hB⟩
  all_goals
   by_cases e : k = b
   ·subst e
    rw [Wood.put_same] at hk
    obtain rfl := Option.some.inj hk
    first | exact ⟨_, [], .inl rfl, rfl, hs.2⟩ | (rw [Nd.ok]; exact ⟨hh, hhb⟩) | exact hs.1
   ·rw [Wood.put_other _ _ _ e] at hk; cases hk
 have hv : ndV (Wood.put (fun _ => none) b (.stub h)) (.iface 191 (.pointer (some ⟨b, 0, none⟩))) (.stub h) := .inr ⟨by simp, b, rfl, Wood.put_same _ _ _⟩
 refine (follow_any hf hv (by rw [Nd.fits]; trivial) hn (by omega) (.stop rfl)).mono ?_
 rintro e w' ⟨hb, thr, v', rfl, ⟨cs, hO, hT⟩, hn'⟩
 obtain ⟨b', rfl, hb'⟩ := hn'.full (by simp)
 have eb : b' = b := by
  by_cases e : b' = b
  ·exact e
  ·rw [Wood.put_other _ _ _ e] at hb'; cases hb'
 subst eb
 have hcs : cs = [] := hT
 subst hcs
 have hlt := hs.lt
 refine ⟨hb, thr, rfl, hs.below hb, hO.mono hB, fun e => by have := (hO.block _ e).1; omega, fun k hk => (hO.block k hk).1⟩
set_option maxRecDepth 100000 in
set_option maxHeartbeats 3200000 in
theorem verify_any {w : World} (sent : Nat → Addr) (h : List Nat) (K : Array Nat) (l : List ByteArray) (p : Option Addr) (c : Nat) (hE : Env w.heap.size sent w) (hh : h.length = 32) (hhb : ∀ x ∈ h, x < 256) (hK : K.size = 32) (hKb : Bytes K) (hr : StrRow w p l c) (hl : l.length ≤ 9223372036854775807) :
  Calls Tryz.prog 57 #[.agg (h.map encB).toArray, .agg (K.toList.map encB).toArray, .slice p l.length c] w fun e w' => Below w.heap.size w w' ∧ VerSaid sent (verF h (textB (nibs K.toList)) (l.map bytesOf)) e := by
 obtain ⟨A, hA⟩ : ∃ A, (h.map encB).toArray = A := ⟨_, rfl⟩
 obtain ⟨Kc, hKc⟩ : ∃ Kc, (K.toList.map encB).toArray = Kc := ⟨_, rfl⟩
 obtain ⟨W0, hW0⟩ : ∃ W0, (w.alloc (.cells A 34)).alloc (.cells Kc 26) = W0 := ⟨_, rfl⟩
 have hrow : W0.rangeAt w.heap.size 0 (h.map encB) := fun j u hu => by
  rw [← hW0, World.cell?_alloc_past _ _ _ (by simp), Nat.zero_add, World.cell?_alloc_new, ← hA]
  simpa using hu
 have hrowK : W0.rangeAt (w.heap.size + 1) 0 (K.toList.map encB) := fun j u hu => by
  rw [← hW0, show w.heap.size + 1 = (w.alloc (.cells A 34)).heap.size by simp, Nat.zero_add, World.cell?_alloc_new, ← hKc]
  simpa using hu
 have hb0 : Below w.heap.size w W0 := by rw [← hW0]; exact ((Below.refl _ _).alloc (Nat.le_refl _) _).alloc (by simp) _
 have hs0 : W0.heap.size = w.heap.size + 2 := by rw [← hW0]; simp
 obtain ⟨P, hP⟩ : ∃ P, textB (nibs K.toList) = P := ⟨_, rfl⟩
 obtain ⟨hp1, hp2, hp3⟩ := key_path hK hKb
 rw [hP] at hp1 hp3 ⊢
 obtain ⟨E, hEE⟩ : ∃ E, digB (textCode []) = E := ⟨_, rfl⟩
 obtain ⟨R, hR⟩ : ∃ R, verF h P (l.map bytesOf) = R := ⟨_, rfl⟩
 have hRR : R = if l = [] ∧ h = E then .ok none else verL (l.map bytesOf) h P 0 := by
  rw [← hR, verF, hEE]
  simp
 rw [hR]
 have HX : Hid (Env w.heap.size sent w ∧ h.length = 32 ∧ (∀ x ∈ h, x < 256) ∧ K.size = 32 ∧ Bytes K ∧ StrRow w p l c ∧ l.length ≤ 9223372036854775807 ∧ Below w.heap.size w W0 ∧ W0.heap.size = w.heap.size + 2 ∧ P.size = 64 ∧ nib (bytesOf P) ∧ textB (nibs K.toList) = P ∧ digB (textCode []) = E) := ⟨hE, hh, hhb, hK, hKb, hr, hl, hb0, hs0, hp3, by rw [hp1]; exact hp2, hP, hEE⟩
 have HR := Hid.hide hRR
 have hz := hash_size hh
 have hu34 := Tryz.underlying34
 clear hE hh hhb hK hKb hr hl hb0 hs0 hP hp1 hp2 hp3 hR hRR hEE
 rw [hA, hKc]
 clear hA hKc
 go_enter Tryz.func57, Tryz.ntmps57
 go_upto_region 1 with fail
 clear hW0
 go_cut [22] (fun v wc => ∃ b, v = .bool b ∧ (b = true ↔ (l = [] ∧ h = E)) ∧ Below W0.heap.size W0 wc)
 case first =>
  by_cases hl0 : l = []
  ·have hm : ((l.length : Int) == 0) = true := by rw [hl0]; rfl
   obtain ⟨hE, hh, hhb, hK, hKb, hr, hl, hb0, hs0, hp3, hpn, hP, hEE⟩ := HX.out
   have hEl : E.length = 32 := by rw [← hEE]; exact digB_length _
   have hEb : ∀ x ∈ E, x < 256 := by rw [← hEE]; exact digB_byte _
   have hcmp := fun W => hash_cmp h E hh hEl hhb hEb W
   have hB0 : Below W0.heap.size W0 W0.drew := (Below.refl _ _).drew
   obtain ⟨ec, hec⟩ : ∃ ec, textB (textCode []) = ec := ⟨_, rfl⟩
   have HEm : Hid (∀ W, Calls Tryz.prog 77 #[] W fun e w' => e = .returned (.string ec) ∧ Below W.heap.size W w') := fun W => by
    have := empty_any W
    rw [hec] at this
    exact this
   have HOf : Hid (∀ W, Below W0.heap.size W0 W → Calls Tryz.prog 48 #[.string ec] W fun e w' => e = .returned (.agg (E.map encB).toArray) ∧ Below W.heap.size W w') := fun W hW => by
    have h1 := Below.behind hb0 hW
    have := of_any ec W (hE.tabs.up hE.low h1) (Nat.le_trans hE.low h1.size)
    rw [show (digF ec).toList = E by rw [← hEE, digB, hec]] at this
    exact this
   have HS0 : Hid (w.heap.size < W0.heap.size ∧ Below W0.heap.size W0 W0.drew) := ⟨by omega, hB0⟩
   obtain ⟨bb, hbb⟩ : ∃ bb, decide (h = E) = bb := ⟨_, rfl⟩
   rw [hbb] at hcmp
   have HBB : Hid (l = [] ∧ decide (h = E) = bb) := ⟨hl0, hbb⟩
   clear hE hh hhb hK hKb hr hl hb0 hs0 hp3 hpn hP hEE hEl hEb hl0 hec hB0 hbb
   go_region_held3 (fun w' => w'.rangeAt w.heap.size 0 (h.map encB)) (first | exact hrow | exact k1 | exact k2)
    (first | (go_at_call 77; refine (HEm.out _).mono ?_; rintro x w1 ⟨rfl, hb1⟩; have k1 : w1.rangeAt w.heap.size 0 (h.map encB) := rangeAt_block hrow (hb1.block w.heap.size HS0.out.1); have HE1 : Hid (Below W0.heap.size W0 w1) := HS0.out.2.trans hb1; clear hb1) | (go_at_call 48; refine (HOf.out _ HE1.out).mono ?_; rintro x w2 ⟨rfl, hb2⟩; have HE2 : Hid (Below W0.heap.size W0 w2) := HE1.out.trans (hb2.mono HE1.out.size); have k2 : w2.rangeAt w.heap.size 0 (h.map encB) := rangeAt_block hrow (HE2.out.block w.heap.size HS0.out.1); clear hb2))
   all_goals (try go_wp2)
   all_goals go_meet
   all_goals exact ⟨bb, rfl, by rw [← HBB.out.2]; simp [HBB.out.1], HE2.out⟩
  ·have hm : ((l.length : Int) == 0) = false := by
    have : l.length ≠ 0 := fun e => hl0 (List.eq_nil_of_length_eq_zero e)
    simp
    omega
   have HL := Hid.hide hl0
   clear hl0
   go_region
   all_goals (try go_wp2)
   all_goals go_meet
   all_goals exact ⟨false, rfl, by simp [HL.out], (Below.refl _ _).drew⟩
 case rest =>
  obtain ⟨b, rfl, hb, hB1⟩ := hcut
  cases b with
  | true =>
   have HY : Hid (R = .ok none ∧ Below w.heap.size w wc) := ⟨by rw [HR.out, if_pos (hb.1 rfl)], HX.out.2.2.2.2.2.2.2.1.behind' hB1⟩
   clear hb hB1
   go_wp2
   go_ret3
   rw [HY.out.1]
   exact ⟨HY.out.2, .inr ⟨none, rfl, rfl⟩⟩
  | false =>
   have hRR : R = verL (l.map bytesOf) h P 0 := by rw [HR.out, if_neg (fun e => by have := hb.2 e; cases this)]
   have HR1 := Hid.hide hRR
   have HB1 := Hid.hide hB1
   clear hb hRR hB1
   go_upto_region 3 with fail
   go_cut [9] (fun v wd => ∃ g, v = .pointer (some ⟨g, 0, none⟩) ∧ WayS w.heap.size wd g (.stub h) P ∧ Below w.heap.size w wd)
   case first =>
    refine wp_region_any (by kernel_rfl) ?_
    change wpAny _ _ _ _ _ _ _ (World.drew _)
    have hsz : w.heap.size + 2 ≤ wc.heap.size := by have := HX.out.2.2.2.2.2.2.2.2.1; have := HB1.out.size; omega
    have HRw : Hid (∀ W, Below wc.heap.size wc W → W.rangeAt w.heap.size 0 (h.map encB) ∧ W.rangeAt (w.heap.size + 1) 0 (K.toList.map encB)) := fun W hW => ⟨fun j u hu => (World.cell?_of_block (hW.block w.heap.size (by omega))).trans ((World.cell?_of_block (HB1.out.block w.heap.size (by have := HX.out.2.2.2.2.2.2.2.2.1; omega))).trans (hrow j u hu)), fun j u hu => (World.cell?_of_block (hW.block (w.heap.size + 1) (by omega))).trans ((World.cell?_of_block (HB1.out.block (w.heap.size + 1) (by have := HX.out.2.2.2.2.2.2.2.2.1; omega))).trans (hrowK j u hu))⟩
    refine wpAny_vary _ (Beg wc.heap.size wc (.agg (h.map encB).toArray) (.agg (K.toList.map encB).toArray) h P) (by kernel_rfl) (by kernel_rfl) ?_ _ (fun _ => undef) ?_ ?_
    ·intro i o ho listed val b W hsat hnew hdeps hI
     have hi : i < 8 := (Array.getElem?_eq_some_iff.1 ho).1
     have hBw := hI.below.size
     match i, hi with
     | 0, _ =>
      obtain rfl := Option.some.inj ho
      have t3 : b.tmps[3]? = some (.pointer (some ⟨w.heap.size, 0, none⟩)) := (hsat.rest 3 (fun i _ => noDst_of (by kernel_rfl) i)).trans rfl
      refine wp_load_mid 34 (.tmp 3) rfl w.heap.size 0 (by simp only [Act.eval, Array.getD_eq_getD_getElem?, t3, Option.getD_some]) (h.map encB) _ (HRw.out W hI.below).1 hu34 rfl hz ?_
      exact ⟨_, rfl, hI.step 0 _ (by decide) hnew (Below.refl _ _) hBw (fun _ => rfl) (by simp) (by simp) (by simp) (by simp) (by simp)⟩
     | 1, _ =>
      obtain rfl := Option.some.inj ho
      have t23 : b.tmps[23]? = some (.agg (h.map encB).toArray) := (hsat.done 0 23 (hdeps ⟨0, .data⟩ (by simp) rfl) rfl (by simp)).trans (congrArg some (hI.o0 (hdeps ⟨0, .data⟩ (by simp) rfl)))
      have hcall := hide_any h HX.out.2.1 HX.out.2.2.1 W
      have hg6 := hI.o6
      obtain ⟨G, hG⟩ : ∃ G : Value → World → Prop, ∀ x w', G x w' ↔ Beg wc.heap.size wc (.agg (h.map encB).toArray) (.agg (K.toList.map encB).toArray) h P (upd (fun k => listed.getD k false) 1) (upv val 1 x) w' := ⟨fun x w' => Beg wc.heap.size wc (.agg (h.map encB).toArray) (.agg (K.toList.map encB).toArray) h P (upd (fun k => listed.getD k false) 1) (upv val 1 x) w', fun _ _ => Iff.rfl⟩
      refine Oper.wp_mono (K := fun a' w' => ∃ v, a' = b.put (some 24) v ∧ G v w') (by rintro a' w' ⟨v, rfl, hv⟩; exact ⟨v, rfl, (hG v w').1 hv⟩) ?_
      have HG := Hid.hide hG
      have HI := Hid.hide hI
      have HN := Hid.hide hnew
      have HC := Hid.hide hcall
      clear hG ho hdeps hsat hI hcall hnew
      go_simp
      go_at_call 96
      refine HC.out.mono ?_
      rintro e w9 ⟨bb, rfl, hlo, hb9, hcell⟩
      refine ⟨_, rfl, (HG.out _ _).2 (HI.out.step 1 _ (by decide) HN.out hb9 hBw (by simp) (fun _ => ⟨bb, rfl, ⟨Nat.le_trans hBw hlo, hcell⟩, fun q => ?_⟩) (by simp) (by simp) (by simp) (by simp))⟩
      obtain ⟨g, e1, _, e3, _⟩ := hg6 q
      rw [e1]
      exact ptr_ne (by omega)
     | 2, _ =>
      obtain rfl := Option.some.inj ho
      obtain ⟨bb, e1, e2, e3⟩ := hI.o1 (hdeps ⟨1, .data⟩ (by simp) rfl)
      have t24 : b.tmps[24]? = some (.pointer (some ⟨bb, 0, none⟩)) := (hsat.done 1 24 (hdeps ⟨1, .data⟩ (by simp) rfl) rfl (by simp)).trans (congrArg some e1)
      have HY := Hid.hide (hI.step 2 (.iface 191 (.pointer (some ⟨bb, 0, none⟩))) (by decide) hnew (Below.refl _ _) hBw (by simp) (by simp) (fun _ => ⟨bb, rfl, e2, e3⟩) (by simp) (by simp) (by simp))
      refine Oper.wp_mono (K := fun a' w' => a' = b.put (some 25) (.iface 191 (.pointer (some ⟨bb, 0, none⟩))) ∧ w' = W) (by rintro a' w' ⟨rfl, rfl⟩; exact ⟨_, rfl, HY.out⟩) ?_
      clear ho hdeps hsat hI e1 e2 e3 hnew HY
      go_simp
     | 3, _ =>
      obtain rfl := Option.some.inj ho
      have t4 : b.tmps[4]? = some (.pointer (some ⟨w.heap.size + 1, 0, none⟩)) := (hsat.rest 4 (fun i _ => noDst_of (by kernel_rfl) i)).trans rfl
      refine wp_load_mid 26 (.tmp 4) rfl (w.heap.size + 1) 0 (by simp only [Act.eval, Array.getD_eq_getD_getElem?, t4, Option.getD_some]) (K.toList.map encB) _ (HRw.out W hI.below).2 Tryz.underlying26 rfl (by rw [size51]; simp [HX.out.2.2.2.1]) ?_
      exact ⟨_, rfl, hI.step 3 _ (by decide) hnew (Below.refl _ _) hBw (by simp) (by simp) (by simp) (fun _ => rfl) (by simp) (by simp)⟩
     | 4, _ =>
      obtain rfl := Option.some.inj ho
      have t26 : b.tmps[26]? = some (.agg (K.toList.map encB).toArray) := (hsat.done 3 26 (hdeps ⟨3, .data⟩ (by simp) rfl) rfl (by simp)).trans (congrArg some (hI.o3 (hdeps ⟨3, .data⟩ (by simp) rfl)))
      have hcall := ofkey_any K W HX.out.2.2.2.1 HX.out.2.2.2.2.1
      rw [HX.out.2.2.2.2.2.2.2.2.2.2.2.1] at hcall
      obtain ⟨G, hG⟩ : ∃ G : Value → World → Prop, ∀ x w', G x w' ↔ Beg wc.heap.size wc (.agg (h.map encB).toArray) (.agg (K.toList.map encB).toArray) h P (upd (fun k => listed.getD k false) 4) (upv val 4 x) w' := ⟨fun x w' => Beg wc.heap.size wc (.agg (h.map encB).toArray) (.agg (K.toList.map encB).toArray) h P (upd (fun k => listed.getD k false) 4) (upv val 4 x) w', fun _ _ => Iff.rfl⟩
      refine Oper.wp_mono (K := fun a' w' => ∃ v, a' = b.put (some 27) v ∧ G v w') (by rintro a' w' ⟨v, rfl, hv⟩; exact ⟨v, rfl, (hG v w').1 hv⟩) ?_
      have HG := Hid.hide hG
      have HI := Hid.hide hI
      have HN := Hid.hide hnew
      have HC := Hid.hide hcall
      clear hG ho hdeps hsat hI hcall hnew
      go_simp
      go_at_call 97
      refine HC.out.mono ?_
      rintro e w9 ⟨rfl, hb9⟩
      exact ⟨_, rfl, (HG.out _ _).2 (HI.out.step 4 _ (by decide) HN.out hb9 hBw (by simp) (by simp) (by simp) (by simp) (fun _ => rfl) (by simp))⟩
     | 5, _ =>
      obtain rfl := Option.some.inj ho
      obtain ⟨bb, e1, e2, e3⟩ := hI.o2 (hdeps ⟨2, .data⟩ (by simp) rfl)
      have t25 : b.tmps[25]? = some (.iface 191 (.pointer (some ⟨bb, 0, none⟩))) := (hsat.done 2 25 (hdeps ⟨2, .data⟩ (by simp) rfl) rfl (by simp)).trans (congrArg some e1)
      have t27 : b.tmps[27]? = some (.string P) := (hsat.done 4 27 (hdeps ⟨4, .data⟩ (by simp) rfl) rfl (by simp)).trans (congrArg some (hI.o4 (hdeps ⟨4, .data⟩ (by simp) rfl)))
      have hcall := beg_follow e2 HX.out.2.1 HX.out.2.2.1 HX.out.2.2.2.2.2.2.2.2.2.2.1 HX.out.2.2.2.2.2.2.2.2.2.1 hBw
      have hg6 := hI.o6
      obtain ⟨G, hG⟩ : ∃ G : Value → World → Prop, ∀ x w', G x w' ↔ Beg wc.heap.size wc (.agg (h.map encB).toArray) (.agg (K.toList.map encB).toArray) h P (upd (fun k => listed.getD k false) 5) (upv val 5 x) w' := ⟨fun x w' => Beg wc.heap.size wc (.agg (h.map encB).toArray) (.agg (K.toList.map encB).toArray) h P (upd (fun k => listed.getD k false) 5) (upv val 5 x) w', fun _ _ => Iff.rfl⟩
      refine Oper.wp_mono (K := fun a' w' => ∃ v, a' = b.put (some 28) v ∧ G v w') (by rintro a' w' ⟨v, rfl, hv⟩; exact ⟨v, rfl, (hG v w').1 hv⟩) ?_
      have HG := Hid.hide hG
      have HI := Hid.hide hI
      have HN := Hid.hide hnew
      have HC := Hid.hide hcall
      have HE3 := Hid.hide e3
      clear hG ho hdeps hsat hI hcall hnew e1 e2 e3
      go_simp
      go_at_call 95
      refine HC.out.mono ?_
      rintro e w9 ⟨hb9, thr, rfl, k1, k2, k3, k4⟩
      refine ⟨_, rfl, (HG.out _ _).2 (HI.out.step 5 _ (by decide) HN.out hb9 hBw (by simp) (by simp) (by simp) (by simp) (by simp) (fun _ => ⟨bb, thr, rfl, k1, k2, k3, HE3.out, fun q k hk => ?_⟩))⟩
      obtain ⟨g, e1, _, e3, _⟩ := hg6 q
      rw [e1]
      exact ptr_ne (by have := k4 k hk; omega)
     | 6, _ =>
      obtain rfl := Option.some.inj ho
      have HY := Hid.hide (hI.made hnew hBw)
      refine Oper.wp_mono (K := fun a' w' => a' = b.put (some 9) (.pointer (some ⟨W.heap.size, 0, none⟩)) ∧ w' = W.alloc (.cells #[.slice none 0 0, .nilIface, .string ⟨#[]⟩] 165)) (by rintro a' w' ⟨rfl, rfl⟩; exact ⟨_, rfl, HY.out⟩) ?_
      clear ho hdeps hsat hI hnew HY
      go_simp
     | 7, _ =>
      obtain rfl := Option.some.inj ho
      have d5 := hdeps ⟨5, .data⟩ (by simp) rfl
      have d6 := hdeps ⟨6, .data⟩ (by simp) rfl
      obtain ⟨bb, thr, e1, e2, e3, e4, e5⟩ := hI.o5 d5
      obtain ⟨g, q1, q2, q3, q4, _⟩ := hI.o6 d6
      have t9 : b.tmps[9]? = some (.pointer (some ⟨g, 0, none⟩)) := (hsat.done 6 9 d6 rfl (by simp)).trans (congrArg some q1)
      have t28 : b.tmps[28]? = some (.agg #[thr, .iface 191 (.pointer (some ⟨bb, 0, none⟩)), .string P]) := (hsat.done 5 28 d5 rfl (by simp)).trans (congrArg some e1)
      obtain ⟨pv, mv, cv, rfl⟩ := e3.shape
      refine wp_store_mid 165 (.tmp 9) (.tmp 28) rfl g 0 #[.slice pv mv cv, .iface 191 (.pointer (some ⟨bb, 0, none⟩)), .string P] (by simp only [Act.eval, Array.getD_eq_getD_getElem?, t9, Option.getD_some]) (by simp only [Act.eval, Array.getD_eq_getD_getElem?, t28, Option.getD_some]) (there_cells (q4 hnew) rfl) way_size (way_one (S := Wood.put (fun _ => none) bb (.stub h)) (t := .stub h) (.inr ⟨by simp, bb, rfl, Wood.put_same _ _ _⟩) pv mv cv P) ?_
      exact ⟨_, rfl, hI.wrote d5 d6 _ q1 e1 rfl rfl rfl rfl⟩
    ·exact ⟨(Below.refl _ _).drew, by simp, by simp, by simp, by simp, by simp, by simp, by simp, by simp⟩
    ·intro val W hI
     obtain ⟨g, q1, q2, q3, _, q5⟩ := hI.o6 rfl
     obtain ⟨bb, thr, e1, e2, e3, e4, e5, e6⟩ := hI.o5 rfl
     obtain ⟨x, y, z, r1, r2⟩ := q5 rfl
     have HW : Hid (∃ g, val 6 = .pointer (some ⟨g, 0, none⟩) ∧ WayS w.heap.size W g (.stub h) P ∧ Below w.heap.size w W) := by
      rw [e1] at r1
      simp only [Value.agg.injEq] at r1
      obtain ⟨rfl, rfl, rfl⟩ : x = thr ∧ y = .iface 191 (.pointer (some ⟨bb, 0, none⟩)) ∧ z = .string P := by simpa using r1.symm
      have hbw : Below w.heap.size w W := (HX.out.2.2.2.2.2.2.2.1.behind' HB1.out).behind' hI.below
      have hsz : w.heap.size ≤ wc.heap.size := by omega
      refine ⟨g, q1, ⟨Wood.put (fun _ => none) bb (.stub h), [], _, _, [], ?_, ⟨r2, by omega, .inr ⟨by simp, bb, rfl, Wood.put_same _ _ _⟩, e3.mono hsz, fun e => e6 rfl g e q1, rfl⟩, ?_, fun k hk => ?_, by have := HX.out.2.2.2.2.2.2.2.2.2.1; simp; omega, by rw [Nd.fits]; trivial, HX.out.2.2.2.2.2.2.2.2.2.2.1⟩, hbw⟩
      ·refine ⟨fun k t hk => ?_, fun k t hk => ?_, fun k t hk => ?_, hbw.size⟩
       all_goals
        by_cases e : k = bb
        ·subst e
         rw [Wood.put_same] at hk
         obtain rfl := Option.some.inj hk
         first | exact ⟨_, [], .inl rfl, rfl, e2.2⟩ | (rw [Nd.ok]; exact ⟨HX.out.2.1, HX.out.2.2.1⟩) | exact Nat.le_trans hsz e2.1
        ·rw [Wood.put_other _ _ _ e] at hk; cases hk
      ·rw [Wood.put_other _ _ _ (fun e => e5 rfl (by rw [q1, e]))]
      ·rw [Wood.put_other _ _ _ (fun e => e4 (by rw [hk, e]))]
     clear hI q1 q2 q3 q5 e1 e2 e3 e4 e5 e6 r1 r2
     simp only [runFrom, Act.put]
     (try go_wp2)
     go_meet
     exact HW.out
   case rest =>
    obtain ⟨g, rfl, hW0, hBd⟩ := hcut
    have hstart : R = verT ((l.drop 0).map bytesOf) (.stub h) P 0 := by rw [HR1.out]; rfl
    have A0 : Aside (WayS w.heap.size wc g (.stub h) P ∧ Below w.heap.size w wc ∧ R = verT ((l.drop 0).map bytesOf) (.stub h) P 0) := ⟨hW0, hBd, hstart⟩
    clear hW0 hBd hstart hrow hrowK hz hu34 HB1 HR HR1
    go_wp2_with fail
    go_loopg [10] l.length (fun gh i wr => ∃ k t r, k ≤ l.length ∧ gh = l.length - k ∧ i = .int .i64 (k : Int) ∧ WayS w.heap.size wr g t r ∧ Below w.heap.size w wr ∧ R = verT ((l.drop k).map bytesOf) t r k)
    case atStart => exact ⟨0, _, _, Nat.zero_le _, rfl, rfl, A0.out⟩
    case round =>
     obtain ⟨k, t, r, hk, rfl, rfl, hWS, hBr, hRk⟩ := hrel
     clear A0
     obtain ⟨S, lw, thr, v, cs, hf, hW, hbw, hth, hlw, hfit, hn⟩ := hWS
     obtain ⟨pv, mv, cv, rfl⟩ := hW.own.shape
     have hrg := way_cells hW.blk
     have hEr := HX.out.1.below hBr
     by_cases hst : ∃ g', t = .stub g'
     ·obtain ⟨h', rfl⟩ := hst
      obtain ⟨dd, rfl, hdd⟩ := hW.node.full (by simp)
      have HMet := Hid.hide (fun W => met_stub (w := W) h' r pv mv cv dd)
      have HW1 : Hid (∀ W, Below wr.heap.size wr W → WayS w.heap.size W g (.stub h') r ∧ Below w.heap.size w W) := fun W hb => by
       obtain ⟨q1, q2, q3⟩ := hW.grow (Fr.of_below hf hb) hbw hth
       exact ⟨⟨S, lw, _, _, cs, hf.below hb, q1, q2, q3, hlw, hfit, hn⟩, hBr.behind' hb⟩
      have HRk : Hid (R = verL ((l.drop k).map bytesOf) h' r k) := hRk
      obtain ⟨T, hT⟩ : ∃ T, ndTy (.stub h') = T := ⟨_, rfl⟩
      rw [hT] at hrg HMet
      have hkl := HX.out.2.2.2.2.2.2.1
      have hw1 : k < l.length → wrap64 ((k : Int) + 1) = ((k + 1 : Nat) : Int) := fun _ => by unfold wrap64; omega
      have HW64 := Hid.hide hw1
      clear hf hW hbw hth hlw hfit hn hEr hRk hdd hT hw1
      by_cases hlt : k < l.length
      ·have hi1 : (k : Int) ≤ (l.length : Int) := by omega
       have HOpen : Hid (∃ gp o, p = some ⟨gp, o, none⟩ ∧ (l.length : Int) ≤ (c : Int) ∧ ∀ W, Below wr.heap.size wr W → Calls Tryz.prog 99 #[.pointer (some ⟨g, 0, none⟩), .slice (some ⟨gp, o + k, none⟩) (l.length - k) (c - k)] W (OpSaid sent w.heap.size g W (shF (bytesOf l[k]) h' (64 - r.size)) r)) := by
        rcases HX.out.2.2.2.2.2.1 with ⟨_, e, _⟩ | ⟨gp, o, rfl, hc, hg, hro⟩
        ·rw [e] at hlt; cases hlt
        ·refine ⟨gp, o, rfl, by omega, fun W hb => ?_⟩
         obtain ⟨q1, q2⟩ := HW1.out W hb
         exact open_some (HX.out.1.below q2) q1 (hg (by omega)) ((q2.cell (p := ⟨gp, o + k, none⟩) (hg (by omega))).trans (hro k _ (by rw [List.getElem?_map, List.getElem?_eq_getElem hlt]; rfl))) (by omega)
       obtain ⟨gp, o, rfl, hlc, hop⟩ := HOpen.out
       have HOp := Hid.hide hop
       have HKL : Hid (k < l.length ∧ l.length ≤ 9223372036854775807 ∧ (l.drop k).map bytesOf = bytesOf l[k] :: (l.drop (k + 1)).map bytesOf) := ⟨hlt, hkl, by rw [List.drop_eq_getElem_cons hlt]; rfl⟩
       obtain ⟨q, hq⟩ : ∃ q, shF (bytesOf l[k]) h' (64 - r.size) = q := ⟨_, rfl⟩
       rw [hq] at HOp
       have HQ := Hid.hide hq
       clear hop HOpen hkl hq
       go_wp2_with (first | (refine wpList_load_mid rfl 165 _ rfl g 0 rfl _ _ hrg Tryz.underlying165 rfl way_size ?_) | (go_at_call 98; refine (HMet.out _).mono ?_; rintro x w2 ⟨rfl, hb2⟩; have HB2 := Hid.hide hb2; clear hb2))
       refine (HOp.out _ HB2.out).mono ?_
       rintro x w3 ⟨hb3, (⟨er, rfl, rfl⟩ | ⟨t', rfl, rfl, hW3⟩)⟩
       ·obtain ⟨et, ev, hev⟩ := er.shape sent
        have HY : Hid (R = .error (.inNode k er) ∧ er.val sent = .iface et ev ∧ Below w.heap.size w w3) := ⟨by rw [HRk.out, HKL.out.2.2]; exact verL_err _ _ _ _ _ HQ.out, hev, (HW1.out _ HB2.out).2.trans hb3⟩
        rw [hev]
        clear hb3 hev
        go_wp2
        go_ret3
        rw [HY.out.1]
        exact ⟨HY.out.2.2, .inl ⟨_, rfl, by rw [Er.val, HY.out.2.1]; rfl⟩⟩
       ·have HY : Hid (R = verT ((l.drop (k + 1)).map bytesOf) (t'.walk 64 r).1 (t'.walk 64 r).2 (k + 1) ∧ WayS w.heap.size w3 g (t'.walk 64 r).1 (t'.walk 64 r).2 ∧ Below w.heap.size w w3) := ⟨by rw [HRk.out, HKL.out.2.2]; exact verL_cons _ _ _ _ _ HQ.out, hW3, (HW1.out _ HB2.out).2.trans hb3⟩
        clear hb3 hW3
        go_wp2
        go_roundg (l.length - (k + 1))
        case measure => omega
        case rel => exact ⟨k + 1, _, _, by omega, rfl, by first | rfl | rw [HW64.out HKL.out.1], HY.out.2.1, HY.out.2.2, HY.out.1⟩
      ·obtain rfl : k = l.length := by omega
       have HY0 : Hid (R = .error (.inNode l.length (.base 2))) := by
        show R = _
        rw [HRk.out, List.drop_length, List.map_nil, verL]
       have HOp : Hid (∀ W (p' : Option Addr) (c' : Nat), Below wr.heap.size wr W → Calls Tryz.prog 99 #[.pointer (some ⟨g, 0, none⟩), .slice p' 0 c'] W fun e w' => e = .returned ((Er.base 2).val sent) ∧ Below W.heap.size W w') := fun W p' c' hb => open_none g p' c' (HX.out.1.below (HW1.out W hb).2)
       obtain ⟨et, ev, hev⟩ := (Er.base 2).shape sent
       rw [hev] at HOp
       have HEv : Hid ((Er.base 2).val sent = .iface et ev) := hev
       clear hkl hlt hev
       rcases HX.out.2.2.2.2.2.1 with ⟨rfl, rfl, rfl⟩ | ⟨gp, o, rfl, hc, hg, hro⟩
       ·go_wp2_with (first | (refine wpList_load_mid rfl 165 _ rfl g 0 rfl _ _ hrg Tryz.underlying165 rfl way_size ?_) | (go_at_call 98; refine (HMet.out _).mono ?_; rintro x w2 ⟨rfl, hb2⟩; have HB2 := Hid.hide hb2; clear hb2) | (go_at_call 99; refine (HOp.out _ _ _ HB2.out).mono ?_; rintro x w3 ⟨rfl, hb3⟩; have HB3 := Hid.hide hb3; clear hb3))
        go_ret3
        rw [HY0.out]
        exact ⟨((HW1.out _ HB2.out).2).behind' HB3.out, .inl ⟨_, rfl, by rw [Er.val, HEv.out]; rfl⟩⟩
       ·have hlc : (l.length : Int) ≤ (c : Int) := by omega
        clear hc hg hro
        all_goals go_wp2_with (first | (refine wpList_load_mid rfl 165 _ rfl g 0 rfl _ _ hrg Tryz.underlying165 rfl way_size ?_) | (go_at_call 98; refine (HMet.out _).mono ?_; rintro x w2 ⟨rfl, hb2⟩; have HB2 := Hid.hide hb2; clear hb2) | (go_at_call 99; refine (HOp.out _ _ _ HB2.out).mono ?_; rintro x w3 ⟨rfl, hb3⟩; have HB3 := Hid.hide hb3; clear hb3))
        all_goals go_ret3
        all_goals rw [HY0.out]
        all_goals exact ⟨((HW1.out _ HB2.out).2).behind' HB3.out, .inl ⟨_, rfl, by rw [Er.val, HEv.out]; rfl⟩⟩
     ·have hst' : ∀ g', t ≠ .stub g' := fun g' e => hst ⟨g', e⟩
      rw [verT_end hst'] at hRk
      have HMet := Hid.hide (fun W => met_any (w := W) (r := r) pv mv cv hW.node hst')
      have hvs := hW.node.shape
      have hlt3 := hW.lt
      have HR3 : Hid (∀ W, Below wr.heap.size wr W → W.rangeAt g 0 [.slice pv mv cv, v, .string r]) := fun W hb => rangeAt_block hrg (hb.block g hlt3)
      by_cases hlt : k < l.length
      ·have hne : (l.drop k).map bytesOf ≠ [] := fun e => by
        have := congrArg List.length e
        simp at this
        omega
       rw [if_neg hne] at hRk
       have hi1 : (k : Int) < (l.length : Int) := by omega
       have g4 := fun W (hb : Below w.heap.size w W) => (HX.out.1.below hb).faults.var 4 (by decide)
       rw [show gOf 4 = 2 from rfl] at g4
       have HG4 := Hid.hide g4
       have HY : Hid (R = .error (.inNode k (.base 4)) ∧ Below w.heap.size w wr) := ⟨hRk, hBr⟩
       clear hf hW hbw hth hlw hfit hn hEr hRk hst hst' hne hlt g4 hBr hlt3
       rcases hvs with rfl | ⟨T, a, rfl⟩
       all_goals go_wp2_with (first | (refine wpList_load_mid rfl 165 _ rfl g 0 rfl _ _ hrg Tryz.underlying165 rfl way_size ?_) | (go_at_call 98; refine (HMet.out _).mono ?_; rintro x w2 ⟨rfl, hb2⟩; have HB2 := Hid.hide hb2; have g4 := HG4.out _ (HY.out.2.behind' hb2); clear hb2))
       all_goals go_region
       all_goals (try go_wp2)
       all_goals go_ret3
       all_goals rw [HY.out.1]
       all_goals exact ⟨Below.drewN (HY.out.2.behind' HB2.out) 1, .inl ⟨_, rfl, rfl⟩⟩
      ·have hnil : (l.drop k).map bytesOf = [] := by rw [List.drop_eq_nil_of_le (by omega)]; rfl
       rw [if_pos hnil] at hRk
       have hi1 : ¬ (k : Int) < (l.length : Int) := by omega
       obtain ⟨ov, hov⟩ : ∃ ov, valAt t r = ov := ⟨_, rfl⟩
       have hval : (ov = none ∧ ∀ u, t ≠ .leaf r u) ∨ ∃ u, ov = some u ∧ t = .leaf r u := by
        rw [← hov]
        unfold valAt
        cases t with
        | leaf p' v' =>
         simp only
         by_cases e : p' = r
         ·subst e; rw [if_pos rfl]; exact .inr ⟨v', rfl, rfl⟩
         ·rw [if_neg e]; exact .inl ⟨rfl, fun u e' => by cases e'; exact e rfl⟩
        | _ => exact .inl ⟨rfl, by simp⟩
       have HVal : Hid (∀ W, Below wr.heap.size wr W → Calls Tryz.prog 100 #[.agg #[.slice pv mv cv, v, .string r]] W fun x w' => x = .returned (.tuple #[.string (ov.getD ⟨#[]⟩), .bool ov.isSome]) ∧ Below W.heap.size W w') := fun W hb => wvalue_any pv mv cv (hf.below hb) hW.node hval
       rw [hov] at hRk
       have HY : Hid (R = .ok ov ∧ Below w.heap.size w wr) := ⟨hRk, hBr⟩
       obtain ⟨os, hos⟩ : ∃ os, ov.getD ⟨#[]⟩ = os := ⟨_, rfl⟩
       obtain ⟨ob, hob⟩ : ∃ ob, ov.isSome = ob := ⟨_, rfl⟩
       rw [hos, hob] at HVal
       have HOS : Hid (ov.getD ⟨#[]⟩ = os ∧ ov.isSome = ob) := ⟨hos, hob⟩
       clear hf hW hbw hth hlw hfit hn hEr hRk hst hst' hnil hlt hBr hlt3 hval hov hos hob
       rcases hvs with rfl | ⟨T, a, rfl⟩
       all_goals go_wp2_with (first | (refine wpList_load_mid rfl 165 _ rfl g 0 rfl _ _ hrg Tryz.underlying165 rfl way_size ?_) | (go_at_call 98; refine (HMet.out _).mono ?_; rintro x w2 ⟨rfl, hb2⟩; have HB2 := Hid.hide hb2; have hrg2 := HR3.out _ hb2; clear hb2) | (refine wpList_load_mid rfl 165 _ rfl g 0 rfl _ _ hrg2 Tryz.underlying165 rfl way_size ?_) | (go_at_call 100; refine (HVal.out _ HB2.out).mono ?_; rintro x w3 ⟨rfl, hb3⟩; have HB3 := Hid.hide hb3; clear hb3))
       all_goals go_ret3
       all_goals rw [HY.out.1]
       all_goals exact ⟨(HY.out.2.behind' HB2.out).behind' HB3.out, .inr ⟨ov, rfl, by rw [HOS.out.1, HOS.out.2]; rfl⟩⟩
end Go.Proofs.YtjiikjpnlgogfaaGreatDoor
