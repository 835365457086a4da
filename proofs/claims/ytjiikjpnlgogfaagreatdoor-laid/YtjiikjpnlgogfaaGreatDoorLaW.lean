/-
  Package twigskeep: Laid: the walk.
-/
import Derived.Test.YtjiikjpnlgogfaaGreatDoorLaM
namespace Go.Proofs.YtjiikjpnlgogfaaGreatDoor
open Go.RowKit

set_option maxRecDepth 100000 in
set_option maxHeartbeats 6400000 in
theorem laid_walk (K0 : Array Nat) (at_ cnt : Int) (raw : ByteArray) (w : World) (sent : Nat → Addr) (hF : Faults w sent) (hT : typeAt w) (hTab : Tabs w) (hM : 16 ≤ w.heap.size) (hK : K0.size = 32) (hKb : Bytes K0) (ha1 : -9223372036854775808 ≤ at_) (ha2 : at_ < 9223372036854775808) (hc1 : -9223372036854775808 ≤ cnt) (hc2 : cnt < 9223372036854775808) (hr : raw.size ≤ 9223372036854775807) :
    Calls Tryz.prog 6 #[.agg (K0.toList.map encB).toArray, .int .i64 at_, .int .i64 cnt, .string raw] w fun e w' => e = .returned (.bool true) ∧ Below w.heap.size w w' := by
  obtain ⟨W0, hW0⟩ : ∃ W0, w.alloc (.cells (K0.toList.map encB).toArray 26) = W0 := ⟨_, rfl⟩
  have hb0 : Below w.heap.size w W0 := by rw [← hW0]; exact (Below.refl _ _).alloc (Nat.le_refl _) _
  have hs0 : W0.heap.size = w.heap.size + 1 := by rw [← hW0]; simp
  have hrow : W0.rangeAt w.heap.size 0 (K0.toList.map encB) := fun j u hu => by
    rw [← hW0, Nat.zero_add, World.cell?_alloc_new]
    simpa using hu
  have HP1 := Hid.hide (fun W => kpick_any at_ 64 W ha1 ha2 (by omega))
  have HP2 := Hid.hide (fun W => kpick_any cnt 17 W hc1 hc2 (by omega))
  have HV := Hid.hide (fun W h => value_any (w.heap.size + 1) raw W h hr)
  obtain ⟨P, hP⟩ : ∃ P, nibs K0.toList = P := ⟨_, rfl⟩
  have HX : Hid (K0.size = 32 ∧ Bytes K0 ∧ nibs K0.toList = P ∧ nib P ∧ P.length = 64 ∧ 16 ≤ w.heap.size) := ⟨hK, hKb, hP, by rw [← hP]; exact (key_path hK hKb).2.1, by rw [← hP]; exact key_len hK, hM⟩
  have HG : Hid (∀ W, Below w.heap.size w W → Faults W sent ∧ typeAt W ∧ Tabs W) := fun W hW => ⟨hF.below hW, (hW.cell (World.block_lt_of_cell? w _ hT)).trans hT, hTab.below hW hM⟩
  have H0 : Hid (Below w.heap.size w W0 ∧ W0.heap.size = w.heap.size + 1 ∧ W0.rangeAt w.heap.size 0 (K0.toList.map encB)) := ⟨hb0, hs0, hrow⟩
  clear hF hT hTab hM hK hKb ha1 ha2 hc1 hc2 hr hP hb0 hrow
  go_enter Tryz.func6, Tryz.ntmps6
  go_wp2_with fail
  refine (HP1.out _).mono ?_
  rintro e w1 ⟨⟨a, ha, rfl⟩, hw1⟩
  obtain rfl := hw1.symm
  go_wp2_with fail
  refine (HP2.out _).mono ?_
  rintro e w1 ⟨⟨n, hn, rfl⟩, hw1⟩
  obtain rfl := hw1.symm
  go_wp2_with fail
  obtain ⟨W1, hW1⟩ : ∃ W1, W0.alloc (.cells #[.string raw, .int .i64 0] 30) = W1 := ⟨_, rfl⟩
  have hb1 : Below W0.heap.size W0 W1 := by rw [← hW1]; exact (Below.refl _ _).alloc (Nat.le_refl _) _
  have hs1 : W1.heap.size = w.heap.size + 2 := by rw [← hW1, World.size_alloc, hs0]
  have hfd : FeedAt W1 (w.heap.size + 1) raw := by
    have e : W1.heap[w.heap.size + 1]? = some (.cells #[.string raw, .int .i64 0] 30 (0, 0)) := by rw [← hW1, ← hs0]; exact Array.getElem?_push_size
    exact ⟨by omega, cell_of_row _ _ 0 _ _ (0, 0) e, ⟨0, cell_of_row _ _ 1 _ _ (0, 0) e, Nat.zero_le _⟩, frozen_of_row _ _ 1 _ _ e⟩
  rw [hW1]
  have hbw1 : Below w.heap.size w W1 := H0.out.1.trans (hb1.mono H0.out.1.size)
  refine (fixed_any W1 (HG.out W1 hbw1).2.2 (by have := HX.out.2.2.2.2.2; omega)).mono ?_
  rintro e w2 ⟨rfl, hb2⟩
  have hs2 := hb2.size
  have H2 : Hid (Below w.heap.size w w2 ∧ w2.rangeAt w.heap.size 0 (K0.toList.map encB) ∧ FeedAt w2 (w.heap.size + 1) raw ∧ w.heap.size + 2 ≤ w2.heap.size) := ⟨hbw1.trans (hb2.mono hbw1.size), rangeAt_block H0.out.2.2 ((hb2.block _ (by omega)).trans (hb1.block _ (by omega))), hfd.below hb2, by omega⟩
  have HN := Hid.hide (newt_any (forest_none w2))
  clear hb1 hs1 hfd hbw1 hb2 hs2 hW1 hW0 hs0 H0 HP1 HP2
  go_wp2_with fail
  refine HN.out.mono ?_
  rintro e w3 ⟨rfl, ht3, hf3, hw3⟩
  have H3 : Hid (Tells (fun _ => none) w3 w2.heap.size (gV P a []) ∧ Fr w2.heap.size (fun _ => none) (fun _ => none) w2 w3 ∧ w3.heap.size = w2.heap.size + 1) := ⟨⟨.no, ht3, trivial, fun s _ => (gV_nil P a s).symm⟩, hf3, by rw [hw3]; simp⟩
  clear ht3 hf3 hw3 HN
  by_cases hn0 : n = 0
  · subst hn0
    go_wp2_with fail
    have hb3 : Below w.heap.size w w3 := H2.out.1.trans ((H3.out.2.1.below (forest_none w2)).mono H2.out.1.size)
    refine ((H3.out.1.congr (g' := fun _ => none) fun s _ => gV_nil P a s).root H3.out.2.1.forest (HG.out w3 hb3).2.2 (by have := HX.out.2.2.2.2.2; have := H2.out.1.size; omega)).mono ?_
    rintro x w10 ⟨D, hD, hDl, hDb, rfl, hf10⟩
    have hb10 : Below w.heap.size w w10 := hb3.trans ((hf10.below H3.out.2.1.forest).mono (by have := H2.out.1.size; omega))
    have HR := Hid.hide (digest_any ⟨#[128]⟩ w10 (HG.out w10 hb10).2.2 (by have := HX.out.2.2.2.2.2; have := hb10.size; omega))
    have He := Hid.hide (root_none hD)
    have H10 : Hid (D.length = 32 ∧ (∀ x ∈ D, x < 256) ∧ Below w.heap.size w w10) := ⟨hDl, hDb, hb10⟩
    clear hf10 hD hDl hDb hb3 hb10
    go_wp2_with fail
    refine HR.out.mono ?_
    rintro x w11 ⟨rfl, hb11⟩
    rw [← He.out]
    have heq := hash_refl D H10.out.1 H10.out.2.1
    have HZ : Hid (Below w.heap.size w w11) := H10.out.2.2.trans (hb11.mono H10.out.2.2.size)
    clear hb11
    go_wp2
    go_ret
    exact ⟨rfl, HZ.out⟩
  · have hn0' : ((n : Int) == 0) = false := by simp; omega
    have hmk := run_make17
    have H4 : Hid (LaSt w raw K0 P a w2.heap.size w2.heap.size w3.heap.size (fun _ => none) (w3.alloc (.cells zeros17 45)) [] [] (List.replicate 17 zeroE)) := by
      have hb3 : Below w.heap.size w w3 := H2.out.1.trans ((H3.out.2.1.below (forest_none w2)).mono H2.out.1.size)
      have hb23 := H3.out.2.1.below (forest_none w2)
      exact LaSt.start H3.out.2.1.forest H3.out.1 hb3 (rangeAt_block H2.out.2.1 (hb23.block _ (by have := H2.out.2.2.2; omega))) (H2.out.2.2.1.below hb23) H2.out.2.2.2 (Nat.le_refl _)
    clear H2 H3
    go_wp2
    generalize w3.alloc (.cells zeros17 45) = w4 at H4 ⊢
    generalize w3.heap.size = gk at H4 ⊢
    generalize w2.heap.size = B at H4 ⊢
    go_loopg [13, 14] n (fun g one i wr => ∃ (S : Wood) (us : List ByteArray) (els : List El) (on : ByteArray), us.length ≤ n ∧ g = n - us.length ∧ i = .int .i64 (us.length : Int) ∧ one = .string on ∧ LaSt w raw K0 P a B B gk S wr us us els ∧ (∀ u ∈ us, 0 < u.size ∧ u.size ≤ 100) ∧ ∀ u, us = [u] → on = textB (listCode (textCode (pathCode (P.set a 0) true) ++ textCode (bytesOf u))))
    case atStart => exact ⟨_, [], _, ⟨#[]⟩, Nat.zero_le _, rfl, rfl, rfl, H4.out, fun u hu => (by cases hu), fun u hu => (by cases hu)⟩
    case round =>
      obtain ⟨S, us, els, on, hk, rfl, rfl, rfl, hst, hus, hon⟩ := hrel
      obtain ⟨k, hkl⟩ : ∃ k, us.length = k := ⟨_, rfl⟩
      have HS : Hid (LaSt w raw K0 P a B B gk S wr us us els ∧ (∀ u ∈ us, 0 < u.size ∧ u.size ≤ 100) ∧ us.length = k) := ⟨hst, hus, hkl⟩
      have HOn := Hid.hide hon
      have hbase := hst.base
      rw [hkl] at hk ⊢
      clear hst hus hon H4 hkl
      by_cases hlt : k < n
      · have i1 : (k : Int) < (n : Int) := by omega
        obtain ⟨t1, z2, z1, hone, hb5, hr5, hs5⟩ := laid_key wr K0 HX.out.1
        have k8 : IntKind.u8.wrap (k : Int) = (k : Int) := wrap8 (by omega)
        obtain ⟨h, hh⟩ : ∃ h, a / 2 = h := ⟨_, rfl⟩
        have hh32 : h < 32 := by omega
        have htd : (a : Int).tdiv 2 = (h : Int) := by rw [← hh]; exact (Int.ofNat_tdiv a 2).symm
        obtain ⟨x, hx⟩ : ∃ x, K0[h]'(by have := HX.out.1; omega) = x := ⟨_, rfl⟩
        have hx8 : x < 256 := by
          have := HX.out.2.1 h
          rw [getElem!_pos K0 h (by have := HX.out.1; omega), hx] at this
          exact this
        have ih : (h : Int) < 32 := by omega
        have hq5 : ((wr.alloc (.cells z32 26)).setCells wr.heap.size 0 (K0.toList.map encB)).cell? ⟨wr.heap.size, h, none⟩ = some (.int .u8 (x : Int)) := by
          have := hr5 h (.int .u8 (x : Int)) (by rw [List.getElem?_map, List.getElem?_eq_getElem (by simp; have := HX.out.1; omega)]; simp [hx])
          rwa [Nat.zero_add] at this
        have hR5 : Row encB ((wr.alloc (.cells z32 26)).setCells wr.heap.size 0 (K0.toList.map encB)) wr.heap.size 0 K0 := fun j hj => by
          have h1 := hr5 j (encB K0[j]!) (by rw [List.getElem?_map, List.getElem?_eq_getElem (by simpa using hj)]; simp [getElem!_pos K0 j hj])
          have h2 := (t1 j (by simpa using hj)).2
          exact ⟨h1, by rw [World.frozen?_setCells]; exact h2⟩
        have hf5 : ((wr.alloc (.cells z32 26)).setCells wr.heap.size 0 (K0.toList.map encB)).frozen? ⟨wr.heap.size, h, none⟩ = false := by
          rw [World.frozen?_setCells]
          have := (t1 h (by simp; have := HX.out.1; omega)).2
          rwa [Nat.zero_add] at this
        by_cases hev : a % 2 = 0
        · have htm : (a : Int).tmod 2 = 0 := by have := Int.ofNat_tmod a 2; rw [hev] at this; exact this.symm
          go_wp2_with (first | (refine wpList_load_mid rfl 26 _ rfl w.heap.size 0 rfl (K0.toList.map encB) _ hbase Tryz.underlying26 rfl z1 ?_) | (refine wpList_store_mid rfl 26 _ _ rfl wr.heap.size 0 (K0.toList.map encB).toArray rfl rfl t1 z2 hone ?_; rw [List.toList_toArray]; generalize World.setCells _ _ _ _ = w5 at hb5 hr5 hs5 hq5 hf5 hR5 ⊢; clear t1 z2 hone))
          have hz : (x : Int) % 16 + 16 * (k : Int) = ((x % 16 + 16 * k : Nat) : Int) := by omega
          obtain ⟨K, hKd⟩ : ∃ K, K0.set! h (x % 16 + 16 * k) = K := ⟨_, rfl⟩
          have hKp : nibs K.toList = P.set a k := by
            rw [← hKd, key_even (by have := HX.out.1; omega) hx, HX.out.2.2.1]
            congr 1
            omega
          have hKs : K.size = 32 := by rw [← hKd]; simpa using HX.out.1
          have hKb : Bytes K := by rw [← hKd]; exact bytes_set HX.out.2.1 h _ (by omega)
          have hr6 : (w5.setCell ⟨wr.heap.size, h, none⟩ (.int .u8 ((x : Int) % 16 + 16 * (k : Int)))).rangeAt wr.heap.size 0 (K.toList.map encB) := by
            have := (hR5.set (off := 0) (j := h) (Nat.zero_add h).symm (by have := HX.out.1; omega) (x % 16 + 16 * k) rfl).range
            rw [hKd] at this
            rw [hz]
            exact this
          have hb6 : Below wr.heap.size wr (w5.setCell ⟨wr.heap.size, h, none⟩ (.int .u8 ((x : Int) % 16 + 16 * (k : Int)))) := hb5.setCell (Nat.le_refl _) _
          have hs6 : wr.heap.size < (w5.setCell ⟨wr.heap.size, h, none⟩ (.int .u8 ((x : Int) % 16 + 16 * (k : Int)))).heap.size := by simpa using hs5
          generalize w5.setCell ⟨wr.heap.size, h, none⟩ (.int .u8 ((x : Int) % 16 + 16 * (k : Int))) = w6 at hr6 hb6 hs6 ⊢
          have zK : (Tryz.prog.info? 26).map (·.size) = some (K.toList.map encB).length := by rw [size51]; simp [hKs]
          have HK : Hid (K.size = 32 ∧ Bytes K ∧ nibs K.toList = P.set a k) := ⟨hKs, hKb, hKp⟩
          have hst6 := HS.out.1.behind hb6
          clear hz hKd hKp hKs hKb hb6 hR5 hq5 hf5 hr5 hb5 hs5 htm hev hx8 hx ih htd hh32 hh hbase
          refine (HV.out w6 hst6.feed).mono ?_
          rintro e w7 ⟨u, hu0, hu1, rfl, hf7⟩
          have hst7 := hst6.fed hf7
          have hbkn : ¬ wr.heap.size = w.heap.size + 1 := by have := HS.out.1.low; have := HS.out.1.forest.le; omega
          have hr7 : w7.rangeAt wr.heap.size 0 (K.toList.map encB) := rangeAt_block hr6 (hf7.1.block _ hs6 hbkn)
          have hs7 := Nat.lt_of_lt_of_le hs6 hf7.1.size
          have H7 := Hid.hide hst7
          have HU : Hid (0 < u.size ∧ u.size ≤ 100) := ⟨hu0, hu1⟩
          clear hst6 hf7 hst7 hr6 hs6 hbkn hu0 hu1
          go_wp2_with (refine wpList_load_mid rfl 26 _ rfl wr.heap.size 0 rfl (K.toList.map encB) _ hr7 Tryz.underlying26 rfl zK ?_)
          refine (H7.out.tells.put H7.out.forest HK.out.1 HK.out.2.1 HU.out.1 HU.out.2).mono ?_
          rintro e w8 ⟨rfl, S8, ht8, hf8⟩
          have hst8 := H7.out.put hf8 (ht8.congr (g' := gV P a (us ++ [u])) fun s hs => by rw [HK.out.2.2, ← HS.out.2.2]; exact gV_snoc (by rw [hs, HX.out.2.2.2.2.1]) (by rw [HX.out.2.2.2.2.1]; exact ha) us u)
          have hr8 : w8.rangeAt wr.heap.size 0 (K.toList.map encB) := rangeAt_block hr7 (hf8.other _ hs7 (HS.out.1.forest.fresh (Nat.le_refl _)) (by have := HS.out.1.tells.lt'; show ¬ wr.heap.size = B; omega))
          have H8 := Hid.hide hst8
          have HPt := Hid.hide (path_any K.toList (by simpa using HK.out.1) (fun x hx => by
            obtain ⟨j, hj, rfl⟩ := List.getElem_of_mem hx
            have := HK.out.2.1 j
            rw [getElem!_pos K j (by simpa using hj)] at this
            simpa using this) w8)
          clear ht8 hf8 hst8 hr7 hs7
          go_wp2_with (refine wpList_load_mid rfl 26 _ rfl wr.heap.size 0 rfl (K.toList.map encB) _ hr8 Tryz.underlying26 rfl zK ?_)
          refine HPt.out.mono ?_
          rintro e w9 ⟨rfl, hb9⟩
          rw [HK.out.2.2]
          have H9 := Hid.hide (H8.out.behind hb9)
          have hnQ : nib (P.set a k) := fun y hy => by
            rcases List.mem_or_eq_of_mem_set hy with hy | rfl
            · exact HX.out.2.2.2.1 y hy
            · omega
          obtain ⟨pK, hpK⟩ : ∃ pK, textB (P.set a k) = pK := ⟨_, rfl⟩
          have hpb : bytesOf pK = P.set a k := by rw [← hpK]; exact nib_bytes hnQ
          have hps : pK.size = 64 := by rw [← hpK, textB_size, List.length_set]; exact HX.out.2.2.2.2.1
          obtain ⟨pL, hpL⟩ : ∃ pL, pK.extract (a + 1) 64 = pL := ⟨_, rfl⟩
          have hplb : bytesOf pL = P.drop (a + 1) := by rw [← hpL, ← hps, bytesOf_tail, hpb, List.drop_set, if_pos (by omega)]
          have i3 : (a : Int) + 1 ≤ 64 := by omega
          have HLa : Hid (∀ W, Below w.heap.size w W → Calls Tryz.prog 21 #[.string pL, .bool true, .agg #[.bool false, .string u, .slice none 0 0]] W fun e w' => e = .returned (.tuple #[.string (textB (leafC P a u)), .bool true]) ∧ Below W.heap.size W w') := fun W hW => leaf_laid hplb (nib_drop HX.out.2.2.2.1 _) (by rw [List.length_drop, HX.out.2.2.2.2.1]; omega) HU.out.2 sent W (HG.out W hW).1
          have HLw : Hid (∀ W, Below w.heap.size w W → Calls Tryz.prog 21 #[.string pK, .bool true, .agg #[.bool false, .string u, .slice none 0 0]] W fun e w' => e = .returned (.tuple #[.string (textB (listCode (textCode (pathCode (P.set a k) true) ++ textCode (bytesOf u)))), .bool true]) ∧ Below W.heap.size W w') := fun W hW => leaf_laid hpb hnQ (by rw [List.length_set, HX.out.2.2.2.2.1]; omega) HU.out.2 sent W (HG.out W hW).1
          have HRf : Hid (∀ W, Below w.heap.size w W → Calls Tryz.prog 22 #[.string (textB (leafC P a u))] W (RefSaid (leafC P a u) 1 W)) := fun W hW => leafRef HX.out.2.2.2.1 HX.out.2.2.2.2.1 a HU.out.2 sent W (HG.out W hW).1 (HG.out W hW).2.1 (HG.out W hW).2.2 (by have := HX.out.2.2.2.2.2; have := hW.size; omega)
          rw [hpK]
          clear hb9 hr8 hnQ hpK hpb hplb
          go_wp2_with fail
          refine (HLa.out w9 H9.out.below).mono ?_
          rintro e w10 ⟨rfl, hb10⟩
          have H10 := Hid.hide (H9.out.behind hb10)
          clear hb10
          go_wp2_with fail
          refine (HRf.out w10 H10.out.below).mono ?_
          rintro e w11 ⟨hb11, l, tx, px, mx, cx, rfl, hTr⟩
          have hst11 := H10.out.behind hb11
          have hTr' : Tree encI kC 1 w11 (LaF w S8 B gk w11) ⟨0, 0, l, tx, .slice px mx cx⟩ (refOf (leafC P a u)) := Tree.keep (fun j hj => ⟨H10.out.forest.fresh hj.1, by have := H10.out.tells.lt'; omega, by have := H10.out.plain.lt; omega, by have := H10.out.low; have := H10.out.forest.le; omega, hj.2⟩) (Nat.le_refl _) (fun _ _ _ => rfl) 1 (Tree.bound 1 hTr)
          have H11 : Hid (LaSt w raw K0 P a B B gk S8 w11 (us ++ [u]) us els ∧ Tree encI kC 1 w11 (LaF w S8 B gk w11) ⟨0, 0, l, tx, .slice px mx cx⟩ (refOf (leafC P a u))) := ⟨hst11, hTr'⟩
          clear hb11 hTr hst11 hTr'
          go_wp2_with fail
          have hba : Below w11.heap.size w11 (w11.alloc (.cells #[.bool l, .string tx, .slice px mx cx] 45)) := (Below.refl _ _).alloc (Nat.le_refl _) _
          refine (HLw.out _ (H11.out.1.behind hba).below).mono ?_
          rintro e w13 ⟨rfl, hb13⟩
          have hHd := (Held.fresh w11 [.bool l, .string tx, .slice px mx cx] 45).below hb13
          obtain ⟨d0, -⟩ := hHd.2 0 _ rfl
          obtain ⟨d1, -⟩ := hHd.2 1 _ rfl
          obtain ⟨d2, -⟩ := hHd.2 2 _ rfl
          have hb1113 : Below w11.heap.size w11 w13 := hba.trans (hb13.mono hba.size)
          have hst13 := H11.out.1.behind hb1113
          have hTr13 : Tree encI kC 1 w13 (LaF w S8 B gk w13) ⟨0, 0, l, tx, .slice px mx cx⟩ (refOf (leafC P a u)) := Tree.keep (fun j hj => ⟨hj.1, hj.2.1, hj.2.2.1, hj.2.2.2.1, Nat.lt_of_lt_of_le hj.2.2.2.2 hb1113.size⟩) hb1113.size (fun j _ hj => hb1113.block j hj) 1 H11.out.2
          obtain ⟨g0, hg0, y0⟩ : ∃ v, w13.cell? ⟨gk, k * 3, none⟩ = some v ∧ w13.frozen? ⟨gk, k * 3, none⟩ = false := by
            obtain ⟨h1, h2⟩ := hst13.there (k * 3) (by omega)
            rw [Nat.zero_add] at h1 h2
            exact (Option.isSome_iff_exists.1 h1).imp fun v hv => ⟨hv, h2⟩
          obtain ⟨g1, hg1, y1⟩ : ∃ v, w13.cell? ⟨gk, k * 3 + 1, none⟩ = some v ∧ w13.frozen? ⟨gk, k * 3 + 1, none⟩ = false := by
            obtain ⟨h1, h2⟩ := hst13.there (k * 3 + 1) (by omega)
            rw [Nat.zero_add] at h1 h2
            exact (Option.isSome_iff_exists.1 h1).imp fun v hv => ⟨hv, h2⟩
          obtain ⟨g2, hg2, y2⟩ : ∃ v, w13.cell? ⟨gk, k * 3 + 2, none⟩ = some v ∧ w13.frozen? ⟨gk, k * 3 + 2, none⟩ = false := by
            obtain ⟨h1, h2⟩ := hst13.there (k * 3 + 2) (by omega)
            rw [Nat.zero_add] at h1 h2
            exact (Option.isSome_iff_exists.1 h1).imp fun v hv => ⟨hv, h2⟩
          have i17 : (k : Int) < 17 := by omega
          have H14 : Hid (LaSt w raw K0 P a B B gk S8 (((w13.setCell ⟨gk, k * 3, none⟩ (.bool l)).setCell ⟨gk, k * 3 + 1, none⟩ (.string tx)).setCell ⟨gk, k * 3 + 2, none⟩ (.slice px mx cx)) (us ++ [u]) (us ++ [u]) (els.set k ⟨0, 0, l, tx, .slice px mx cx⟩)) := by
            have h := hst13.kid hTr13 (by rw [HS.out.2.2]; omega)
            rw [HS.out.2.2] at h
            exact h
          have HW1 : Hid ((k : Int) + 1 = (((us ++ [u]).length : Nat) : Int)) := by
            have h : (k : Int) + 1 = (((us ++ [u]).length : Nat) : Int) := (by rw [List.length_append, HS.out.2.2]; simp)
            exact h
          clear hHd hb1113 hst13 hTr13 hb13 hba
          go_wp2
          go_roundg (n - (us ++ [u]).length)
          case measure => rw [List.length_append, HS.out.2.2]; simp; omega
          case rel =>
            refine ⟨S8, us ++ [u], _, _, by rw [List.length_append, HS.out.2.2]; simp; omega, rfl, val_int HW1.out, rfl, H14.out, fun v hv => ?_, fun v hv => ?_⟩
            · rcases List.mem_append.1 hv with hv | hv
              · exact HS.out.2.1 v hv
              · rw [List.mem_singleton.1 hv]; exact HU.out
            · have h0 : us = [] := by cases us with | nil => rfl | cons y ys => simp at hv
              subst h0
              have hk0 : k = 0 := HS.out.2.2.symm
              have hvu : u = v := by simpa using hv
              rw [hk0, hvu]
        · obtain ⟨g, hg⟩ : ∃ g, a % 2 = g := ⟨_, rfl⟩
          have htm : (a : Int).tmod 2 = (g : Int) := by rw [← hg]; exact (Int.ofNat_tmod a 2).symm
          have hgb : ((g : Int) == 0) = false := by simp; omega
          go_wp2_with (first | (refine wpList_load_mid rfl 26 _ rfl w.heap.size 0 rfl (K0.toList.map encB) _ hbase Tryz.underlying26 rfl z1 ?_) | (refine wpList_store_mid rfl 26 _ _ rfl wr.heap.size 0 (K0.toList.map encB).toArray rfl rfl t1 z2 hone ?_; rw [List.toList_toArray]; generalize World.setCells _ _ _ _ = w5 at hb5 hr5 hs5 hq5 hf5 hR5 ⊢; clear t1 z2 hone))
          have hz : (x : Int) / 16 * 16 + (k : Int) = ((x / 16 * 16 + k : Nat) : Int) := by omega
          obtain ⟨K, hKd⟩ : ∃ K, K0.set! h (x / 16 * 16 + k) = K := ⟨_, rfl⟩
          have hKp : nibs K.toList = P.set a k := by
            rw [← hKd, key_odd (by have := HX.out.1; omega) hx (by omega), HX.out.2.2.1]
            congr 1
            omega
          have hKs : K.size = 32 := by rw [← hKd]; simpa using HX.out.1
          have hKb : Bytes K := by rw [← hKd]; exact bytes_set HX.out.2.1 h _ (by omega)
          have hr6 : (w5.setCell ⟨wr.heap.size, h, none⟩ (.int .u8 ((x : Int) / 16 * 16 + (k : Int)))).rangeAt wr.heap.size 0 (K.toList.map encB) := by
            have := (hR5.set (off := 0) (j := h) (Nat.zero_add h).symm (by have := HX.out.1; omega) (x / 16 * 16 + k) rfl).range
            rw [hKd] at this
            rw [hz]
            exact this
          have hb6 : Below wr.heap.size wr (w5.setCell ⟨wr.heap.size, h, none⟩ (.int .u8 ((x : Int) / 16 * 16 + (k : Int)))) := hb5.setCell (Nat.le_refl _) _
          have hs6 : wr.heap.size < (w5.setCell ⟨wr.heap.size, h, none⟩ (.int .u8 ((x : Int) / 16 * 16 + (k : Int)))).heap.size := by simpa using hs5
          generalize w5.setCell ⟨wr.heap.size, h, none⟩ (.int .u8 ((x : Int) / 16 * 16 + (k : Int))) = w6 at hr6 hb6 hs6 ⊢
          have zK : (Tryz.prog.info? 26).map (·.size) = some (K.toList.map encB).length := by rw [size51]; simp [hKs]
          have HK : Hid (K.size = 32 ∧ Bytes K ∧ nibs K.toList = P.set a k) := ⟨hKs, hKb, hKp⟩
          have hst6 := HS.out.1.behind hb6
          clear hz hKd hKp hKs hKb hb6 hR5 hq5 hf5 hr5 hb5 hs5 htm hev hx8 hx ih htd hh32 hh hbase
          refine (HV.out w6 hst6.feed).mono ?_
          rintro e w7 ⟨u, hu0, hu1, rfl, hf7⟩
          have hst7 := hst6.fed hf7
          have hbkn : ¬ wr.heap.size = w.heap.size + 1 := by have := HS.out.1.low; have := HS.out.1.forest.le; omega
          have hr7 : w7.rangeAt wr.heap.size 0 (K.toList.map encB) := rangeAt_block hr6 (hf7.1.block _ hs6 hbkn)
          have hs7 := Nat.lt_of_lt_of_le hs6 hf7.1.size
          have H7 := Hid.hide hst7
          have HU : Hid (0 < u.size ∧ u.size ≤ 100) := ⟨hu0, hu1⟩
          clear hst6 hf7 hst7 hr6 hs6 hbkn hu0 hu1
          go_wp2_with (refine wpList_load_mid rfl 26 _ rfl wr.heap.size 0 rfl (K.toList.map encB) _ hr7 Tryz.underlying26 rfl zK ?_)
          refine (H7.out.tells.put H7.out.forest HK.out.1 HK.out.2.1 HU.out.1 HU.out.2).mono ?_
          rintro e w8 ⟨rfl, S8, ht8, hf8⟩
          have hst8 := H7.out.put hf8 (ht8.congr (g' := gV P a (us ++ [u])) fun s hs => by rw [HK.out.2.2, ← HS.out.2.2]; exact gV_snoc (by rw [hs, HX.out.2.2.2.2.1]) (by rw [HX.out.2.2.2.2.1]; exact ha) us u)
          have hr8 : w8.rangeAt wr.heap.size 0 (K.toList.map encB) := rangeAt_block hr7 (hf8.other _ hs7 (HS.out.1.forest.fresh (Nat.le_refl _)) (by have := HS.out.1.tells.lt'; show ¬ wr.heap.size = B; omega))
          have H8 := Hid.hide hst8
          have HPt := Hid.hide (path_any K.toList (by simpa using HK.out.1) (fun x hx => by
            obtain ⟨j, hj, rfl⟩ := List.getElem_of_mem hx
            have := HK.out.2.1 j
            rw [getElem!_pos K j (by simpa using hj)] at this
            simpa using this) w8)
          clear ht8 hf8 hst8 hr7 hs7
          go_wp2_with (refine wpList_load_mid rfl 26 _ rfl wr.heap.size 0 rfl (K.toList.map encB) _ hr8 Tryz.underlying26 rfl zK ?_)
          refine HPt.out.mono ?_
          rintro e w9 ⟨rfl, hb9⟩
          rw [HK.out.2.2]
          have H9 := Hid.hide (H8.out.behind hb9)
          have hnQ : nib (P.set a k) := fun y hy => by
            rcases List.mem_or_eq_of_mem_set hy with hy | rfl
            · exact HX.out.2.2.2.1 y hy
            · omega
          obtain ⟨pK, hpK⟩ : ∃ pK, textB (P.set a k) = pK := ⟨_, rfl⟩
          have hpb : bytesOf pK = P.set a k := by rw [← hpK]; exact nib_bytes hnQ
          have hps : pK.size = 64 := by rw [← hpK, textB_size, List.length_set]; exact HX.out.2.2.2.2.1
          obtain ⟨pL, hpL⟩ : ∃ pL, pK.extract (a + 1) 64 = pL := ⟨_, rfl⟩
          have hplb : bytesOf pL = P.drop (a + 1) := by rw [← hpL, ← hps, bytesOf_tail, hpb, List.drop_set, if_pos (by omega)]
          have i3 : (a : Int) + 1 ≤ 64 := by omega
          have HLa : Hid (∀ W, Below w.heap.size w W → Calls Tryz.prog 21 #[.string pL, .bool true, .agg #[.bool false, .string u, .slice none 0 0]] W fun e w' => e = .returned (.tuple #[.string (textB (leafC P a u)), .bool true]) ∧ Below W.heap.size W w') := fun W hW => leaf_laid hplb (nib_drop HX.out.2.2.2.1 _) (by rw [List.length_drop, HX.out.2.2.2.2.1]; omega) HU.out.2 sent W (HG.out W hW).1
          have HLw : Hid (∀ W, Below w.heap.size w W → Calls Tryz.prog 21 #[.string pK, .bool true, .agg #[.bool false, .string u, .slice none 0 0]] W fun e w' => e = .returned (.tuple #[.string (textB (listCode (textCode (pathCode (P.set a k) true) ++ textCode (bytesOf u)))), .bool true]) ∧ Below W.heap.size W w') := fun W hW => leaf_laid hpb hnQ (by rw [List.length_set, HX.out.2.2.2.2.1]; omega) HU.out.2 sent W (HG.out W hW).1
          have HRf : Hid (∀ W, Below w.heap.size w W → Calls Tryz.prog 22 #[.string (textB (leafC P a u))] W (RefSaid (leafC P a u) 1 W)) := fun W hW => leafRef HX.out.2.2.2.1 HX.out.2.2.2.2.1 a HU.out.2 sent W (HG.out W hW).1 (HG.out W hW).2.1 (HG.out W hW).2.2 (by have := HX.out.2.2.2.2.2; have := hW.size; omega)
          rw [hpK]
          clear hb9 hr8 hnQ hpK hpb hplb
          go_wp2_with fail
          refine (HLa.out w9 H9.out.below).mono ?_
          rintro e w10 ⟨rfl, hb10⟩
          have H10 := Hid.hide (H9.out.behind hb10)
          clear hb10
          go_wp2_with fail
          refine (HRf.out w10 H10.out.below).mono ?_
          rintro e w11 ⟨hb11, l, tx, px, mx, cx, rfl, hTr⟩
          have hst11 := H10.out.behind hb11
          have hTr' : Tree encI kC 1 w11 (LaF w S8 B gk w11) ⟨0, 0, l, tx, .slice px mx cx⟩ (refOf (leafC P a u)) := Tree.keep (fun j hj => ⟨H10.out.forest.fresh hj.1, by have := H10.out.tells.lt'; omega, by have := H10.out.plain.lt; omega, by have := H10.out.low; have := H10.out.forest.le; omega, hj.2⟩) (Nat.le_refl _) (fun _ _ _ => rfl) 1 (Tree.bound 1 hTr)
          have H11 : Hid (LaSt w raw K0 P a B B gk S8 w11 (us ++ [u]) us els ∧ Tree encI kC 1 w11 (LaF w S8 B gk w11) ⟨0, 0, l, tx, .slice px mx cx⟩ (refOf (leafC P a u))) := ⟨hst11, hTr'⟩
          clear hb11 hTr hst11 hTr'
          go_wp2_with fail
          have hba : Below w11.heap.size w11 (w11.alloc (.cells #[.bool l, .string tx, .slice px mx cx] 45)) := (Below.refl _ _).alloc (Nat.le_refl _) _
          refine (HLw.out _ (H11.out.1.behind hba).below).mono ?_
          rintro e w13 ⟨rfl, hb13⟩
          have hHd := (Held.fresh w11 [.bool l, .string tx, .slice px mx cx] 45).below hb13
          obtain ⟨d0, -⟩ := hHd.2 0 _ rfl
          obtain ⟨d1, -⟩ := hHd.2 1 _ rfl
          obtain ⟨d2, -⟩ := hHd.2 2 _ rfl
          have hb1113 : Below w11.heap.size w11 w13 := hba.trans (hb13.mono hba.size)
          have hst13 := H11.out.1.behind hb1113
          have hTr13 : Tree encI kC 1 w13 (LaF w S8 B gk w13) ⟨0, 0, l, tx, .slice px mx cx⟩ (refOf (leafC P a u)) := Tree.keep (fun j hj => ⟨hj.1, hj.2.1, hj.2.2.1, hj.2.2.2.1, Nat.lt_of_lt_of_le hj.2.2.2.2 hb1113.size⟩) hb1113.size (fun j _ hj => hb1113.block j hj) 1 H11.out.2
          obtain ⟨g0, hg0, y0⟩ : ∃ v, w13.cell? ⟨gk, k * 3, none⟩ = some v ∧ w13.frozen? ⟨gk, k * 3, none⟩ = false := by
            obtain ⟨h1, h2⟩ := hst13.there (k * 3) (by omega)
            rw [Nat.zero_add] at h1 h2
            exact (Option.isSome_iff_exists.1 h1).imp fun v hv => ⟨hv, h2⟩
          obtain ⟨g1, hg1, y1⟩ : ∃ v, w13.cell? ⟨gk, k * 3 + 1, none⟩ = some v ∧ w13.frozen? ⟨gk, k * 3 + 1, none⟩ = false := by
            obtain ⟨h1, h2⟩ := hst13.there (k * 3 + 1) (by omega)
            rw [Nat.zero_add] at h1 h2
            exact (Option.isSome_iff_exists.1 h1).imp fun v hv => ⟨hv, h2⟩
          obtain ⟨g2, hg2, y2⟩ : ∃ v, w13.cell? ⟨gk, k * 3 + 2, none⟩ = some v ∧ w13.frozen? ⟨gk, k * 3 + 2, none⟩ = false := by
            obtain ⟨h1, h2⟩ := hst13.there (k * 3 + 2) (by omega)
            rw [Nat.zero_add] at h1 h2
            exact (Option.isSome_iff_exists.1 h1).imp fun v hv => ⟨hv, h2⟩
          have i17 : (k : Int) < 17 := by omega
          have H14 : Hid (LaSt w raw K0 P a B B gk S8 (((w13.setCell ⟨gk, k * 3, none⟩ (.bool l)).setCell ⟨gk, k * 3 + 1, none⟩ (.string tx)).setCell ⟨gk, k * 3 + 2, none⟩ (.slice px mx cx)) (us ++ [u]) (us ++ [u]) (els.set k ⟨0, 0, l, tx, .slice px mx cx⟩)) := by
            have h := hst13.kid hTr13 (by rw [HS.out.2.2]; omega)
            rw [HS.out.2.2] at h
            exact h
          have HW1 : Hid ((k : Int) + 1 = (((us ++ [u]).length : Nat) : Int)) := by
            have h : (k : Int) + 1 = (((us ++ [u]).length : Nat) : Int) := (by rw [List.length_append, HS.out.2.2]; simp)
            exact h
          clear hHd hb1113 hst13 hTr13 hb13 hba
          go_wp2
          go_roundg (n - (us ++ [u]).length)
          case measure => rw [List.length_append, HS.out.2.2]; simp; omega
          case rel =>
            refine ⟨S8, us ++ [u], _, _, by rw [List.length_append, HS.out.2.2]; simp; omega, rfl, val_int HW1.out, rfl, H14.out, fun v hv => ?_, fun v hv => ?_⟩
            · rcases List.mem_append.1 hv with hv | hv
              · exact HS.out.2.1 v hv
              · rw [List.mem_singleton.1 hv]; exact HU.out
            · have h0 : us = [] := by cases us with | nil => rfl | cons y ys => simp at hv
              subst h0
              have hk0 : k = 0 := HS.out.2.2.symm
              have hvu : u = v := by simpa using hv
              rw [hk0, hvu]
      · have i1 : ¬ (k : Int) < (n : Int) := by omega
        obtain rfl : k = n := by omega
        clear hbase
        by_cases hn1 : k = 1
        · subst hn1
          obtain ⟨u, hu⟩ : ∃ u, us = [u] := by
            have h := HS.out.2.2
            match us, h with
            | [u], _ => exact ⟨u, rfl⟩
          have HL : Hid (on = textB (listCode (textCode (pathCode (P.set a 0) true) ++ textCode (bytesOf u)))) := HOn.out u hu
          subst hu
          go_wp2_with fail
          refine (HS.out.1.tells.root HS.out.1.forest (HG.out wr HS.out.1.below).2.2 (by have := HX.out.2.2.2.2.2; have := HS.out.1.low; omega)).mono ?_
          rintro x w10 ⟨D, hD, hDl, hDb, rfl, hf10⟩
          have hDD := lone_root HX.out.2.2.2.1 HX.out.2.2.2.2.1 ha (HS.out.2.1 u (List.mem_singleton.2 rfl)) hD
          have hb10 : Below w.heap.size w w10 := HS.out.1.below.trans ((hf10.below HS.out.1.forest).mono (by have := HS.out.1.low; omega))
          have HR := Hid.hide (digest_any on w10 (HG.out w10 hb10).2.2 (by have := HX.out.2.2.2.2.2; have := hb10.size; omega))
          have He : Hid ((digF on).toList = D) := by rw [HL.out, hDD]; rfl
          have H10 : Hid (D.length = 32 ∧ (∀ x ∈ D, x < 256) ∧ Below w.heap.size w w10) := ⟨hDl, hDb, hb10⟩
          clear hf10 hD hDl hDb hb10 hDD
          go_wp2_with fail
          refine HR.out.mono ?_
          rintro x w11 ⟨rfl, hb11⟩
          rw [He.out]
          have heq := hash_refl D H10.out.1 H10.out.2.1
          have HZ : Hid (Below w.heap.size w w11) := H10.out.2.2.trans (hb11.mono H10.out.2.2.size)
          clear hb11
          go_wp2
          go_ret
          exact ⟨rfl, HZ.out⟩
        · have hn1' : ((k : Int) == 1) = false := by simp; omega
          have H2u : Hid (2 ≤ us.length ∧ us.length ≤ 16) := ⟨by have := HS.out.2.2; omega, by have := HS.out.2.2; omega⟩
          have HBr : Hid ((∀ x ∈ brC P a us, x < 256) ∧ (brC P a us).length ≤ 2048) := brC_ok HX.out.2.2.2.1 HX.out.2.2.2.2.1 ha H2u.out.2 H2u.out.1 HS.out.2.1
          have HEn := Hid.hide (tenc_any 1 (by omega) 0 0 true ⟨#[]⟩ (some ⟨gk, 0, none⟩) 17 17 (brC P a us) sent wr (fun _ => True) HS.out.1.branch (by have := HBr.out.2; omega) (HG.out wr HS.out.1.below).1)
          go_wp2_with fail
          refine HEn.out.mono ?_
          rintro x w9 ⟨hb9, ⟨-, rfl⟩ | ⟨h, -⟩⟩
          · have H9 := Hid.hide (HS.out.1.behind hb9)
            have HRo : Hid (∀ D, rootOf (gV P a us) D → D = digB (shN P a us).code) := fun D hD => sh_root HX.out.2.2.2.1 HX.out.2.2.2.2.1 ha H2u.out.2 H2u.out.1 HS.out.2.1 hD
            clear hb9 HEn
            by_cases ha0 : a = 0
            · subst ha0
              have HRo' : Hid (∀ D, rootOf (gV P 0 us) D → D = digB (brC P 0 us)) := fun D hD => by
                have := HRo.out D hD
                rwa [sh_code HX.out.2.2.2.1 0 H2u.out.2, if_pos rfl] at this
              go_wp2_with fail
              refine (H9.out.tells.root H9.out.forest (HG.out w9 H9.out.below).2.2 (by have := HX.out.2.2.2.2.2; have := HS.out.1.low; omega)).mono ?_
              rintro x w10 ⟨D, hD, hDl, hDb, rfl, hf10⟩
              have hDD := HRo'.out D hD
              have hb10 : Below w.heap.size w w10 := H9.out.below.trans ((hf10.below H9.out.forest).mono (by have := HS.out.1.low; omega))
              have HR := Hid.hide (digest_any (textB (brC P 0 us)) w10 (HG.out w10 hb10).2.2 (by have := HX.out.2.2.2.2.2; have := hb10.size; omega))
              have He : Hid ((digF (textB (brC P 0 us))).toList = D) := by rw [hDD]; rfl
              have H10 : Hid (D.length = 32 ∧ (∀ x ∈ D, x < 256) ∧ Below w.heap.size w w10) := ⟨hDl, hDb, hb10⟩
              clear hf10 hD hDl hDb hb10 hDD
              go_wp2_with fail
              refine HR.out.mono ?_
              rintro x w11 ⟨rfl, hb11⟩
              rw [He.out]
              have heq := hash_refl D H10.out.1 H10.out.2.1
              have HZ : Hid (Below w.heap.size w w11) := H10.out.2.2.trans (hb11.mono H10.out.2.2.size)
              clear hb11
              go_wp2
              go_ret
              exact ⟨rfl, HZ.out⟩
            · have ha0' : ((a : Int) == 0) = false := by simp; omega
              have HRf := Hid.hide (brRef HX.out.2.2.2.1 HX.out.2.2.2.2.1 ha H2u.out.2 H2u.out.1 HS.out.2.1 sent w9 (HG.out w9 H9.out.below).1 (HG.out w9 H9.out.below).2.1 (HG.out w9 H9.out.below).2.2 (by have := HX.out.2.2.2.2.2; have := H9.out.below.size; omega))
              go_wp2_with fail
              refine HRf.out.mono ?_
              rintro e w11 ⟨hb11, l, tx, px, mx, cx, rfl, hTr⟩
              have hst11 := H9.out.behind hb11
              obtain ⟨w12, hw12⟩ : ∃ w12, w11.alloc (.cells #[.bool l, .string tx, .slice px mx cx] 45) = w12 := ⟨_, rfl⟩
              have hba : Below w11.heap.size w11 w12 := by rw [← hw12]; exact (Below.refl _ _).alloc (Nat.le_refl _) _
              have hHd : Held w12 w11.heap.size [.bool l, .string tx, .slice px mx cx] := by rw [← hw12]; exact Held.fresh w11 _ _
              have hst12 := hst11.behind hba
              have hbase := hst12.base
              obtain ⟨d0, -⟩ := hHd.2 0 _ rfl
              obtain ⟨d1, -⟩ := hHd.2 1 _ rfl
              obtain ⟨d2, -⟩ := hHd.2 2 _ rfl
              have hT12 : Tree encI kC 2 w12 (fun _ => True) ⟨0, 0, l, tx, .slice px mx cx⟩ (refOf (brC P a us)) := Tree.keep (fun _ _ => trivial) hba.size (fun j _ hj => hba.block j hj) 2 hTr
              obtain ⟨pP, hpP⟩ : ∃ pP, textB P = pP := ⟨_, rfl⟩
              have hpb : bytesOf pP = P := by rw [← hpP]; exact nib_bytes HX.out.2.2.2.1
              have hps : pP.size = 64 := by rw [← hpP, textB_size]; exact HX.out.2.2.2.2.1
              obtain ⟨pA, hpA⟩ : ∃ pA, pP.extract 0 a = pA := ⟨_, rfl⟩
              have hpab : bytesOf pA = P.take a := by rw [← hpA, bytesOf_head, hpb]
              have i3 : (a : Int) ≤ 64 := by omega
              have HPt : Hid (∀ W, Calls Tryz.prog 20 #[.agg (K0.toList.map encB).toArray] W fun e w' => e = .returned (.string pP) ∧ Below W.heap.size W w') := fun W => by
                have h := path_any K0.toList (by simpa using HX.out.1) (fun x hx => by
                  obtain ⟨j, hj, rfl⟩ := List.getElem_of_mem hx
                  have := HX.out.2.1 j
                  rw [getElem!_pos K0 j (by simpa using hj)] at this
                  simpa using this) W
                rw [HX.out.2.2.1, hpP] at h
                exact h
              have hrl : (refOf (brC P a us)).length ≤ 33 := refOf_le _
              have HLa : Hid (∀ W, Below w12.heap.size w12 W → Calls Tryz.prog 21 #[.string pA, .bool false, .agg #[.bool l, .string tx, .slice px mx cx]] W fun e w' => e = .returned (.tuple #[.string (textB (listCode (textCode (pathCode (P.take a) false) ++ refOf (brC P a us)))), .bool true]) ∧ Below W.heap.size W w') := fun W hW => by
                have h := klaid_any (n := 2) (by omega) (p := pA) false sent (hT12.below hW) (by rw [← bytesOf_length, hpab, List.length_take]; omega) (by rw [hpab]; exact nib_take HX.out.2.2.2.1 a) (by rw [hpab]; exact leaf_len _ _ (by rw [List.length_take]; omega) (by omega)) (HG.out W (hst12.below.trans (hW.mono hst12.below.size))).1
                rw [hpab] at h
                exact h
              have hlt0 : w.heap.size < w12.heap.size := by have := hst12.low; have := hst12.forest.le; omega
              have hlt1 : w11.heap.size < w12.heap.size := by rw [← hw12]; simp
              have H12 := Hid.hide hst12
              have zK : (Tryz.prog.info? 26).map (·.size) = some (K0.toList.map encB).length := by rw [size51]; simp [HX.out.1]
              have hu26 := Tryz.underlying26
              clear hst11 hst12 hHd hT12 hTr hb11 hba hpb hpab hrl hpP HRf
              go_upto_region 38 with fail
              clear hw12
              generalize w11.heap.size = bi at d0 d1 d2 hlt1 ⊢
              have HO : Hid (∀ w', Below w12.heap.size w12 w' → w'.rangeAt w.heap.size 0 (K0.toList.map encB) ∧ w'.cell? ⟨bi, 0, none⟩ = some (.bool l) ∧ w'.cell? ⟨bi, 1, none⟩ = some (.string tx) ∧ w'.cell? ⟨bi, 2, none⟩ = some (.slice px mx cx)) := fun w' hb => by
                have e := hb.block bi hlt1
                exact ⟨rangeAt_block hbase (hb.block _ hlt0), (World.cell?_of_block e).trans d0, (World.cell?_of_block e).trans d1, (World.cell?_of_block e).trans d2⟩
              clear hlt0 hlt1
              go_region_held3 (fun w' => w'.rangeAt w.heap.size 0 (K0.toList.map encB) ∧ w'.cell? ⟨bi, 0, none⟩ = some (.bool l) ∧ w'.cell? ⟨bi, 1, none⟩ = some (.string tx) ∧ w'.cell? ⟨bi, 2, none⟩ = some (.slice px mx cx)) (first | exact ⟨hbase, d0, d1, d2⟩ | exact h1 | exact h2)
                (first | (go_at_call 20; refine (HPt.out _).mono ?_; rintro x w13 ⟨rfl, hb13⟩; have h1 := HO.out w13 (((Below.refl _ _).drew).trans hb13); have H13 : Hid (Below w12.heap.size w12 w13) := ((Below.refl _ _).drew).trans hb13; clear hb13) | (go_at_call 21; refine (HLa.out w13 H13.out).mono ?_; rintro x w14 ⟨rfl, hb14⟩; have h2 := HO.out w14 (H13.out.trans (hb14.mono H13.out.size)); have H14 : Hid (Below w12.heap.size w12 w14) := H13.out.trans (hb14.mono H13.out.size); clear hb14))
              obtain ⟨C, hC⟩ : ∃ C, listCode (textCode (pathCode (P.take a) false) ++ refOf (brC P a us)) = C := ⟨_, rfl⟩
              have HRo' : Hid (∀ D, rootOf (gV P a us) D → D = digB C) := fun D hD => by
                have := HRo.out D hD
                rwa [sh_code HX.out.2.2.2.1 a H2u.out.2, if_neg ha0, hC] at this
              have hst14 := H12.out.behind H14.out
              have HRt := Hid.hide (hst14.tells.root hst14.forest (HG.out w14 hst14.below).2.2 (by have := HX.out.2.2.2.2.2; have := HS.out.1.low; omega))
              have H15 := Hid.hide hst14
              rw [hC]
              clear hst14 h1 h2 d0 d1 d2 hbase hC
              go_wp2_with fail
              refine HRt.out.mono ?_
              rintro x w15 ⟨D, hD, hDl, hDb, rfl, hf15⟩
              have hDD := HRo'.out D hD
              have hb15 : Below w.heap.size w w15 := H15.out.below.trans ((hf15.below H15.out.forest).mono (by have := HS.out.1.low; omega))
              have HR := Hid.hide (digest_any (textB C) w15 (HG.out w15 hb15).2.2 (by have := HX.out.2.2.2.2.2; have := hb15.size; omega))
              have He : Hid ((digF (textB C)).toList = D) := by rw [hDD]; rfl
              have H16 : Hid (D.length = 32 ∧ (∀ x ∈ D, x < 256) ∧ Below w.heap.size w w15) := ⟨hDl, hDb, hb15⟩
              clear hf15 hD hDl hDb hb15 hDD
              go_wp2_with fail
              refine HR.out.mono ?_
              rintro x w16 ⟨rfl, hb16⟩
              rw [He.out]
              have heq := hash_refl D H16.out.1 H16.out.2.1
              have HZ : Hid (Below w.heap.size w w16) := H16.out.2.2.trans (hb16.mono H16.out.2.2.size)
              clear hb16
              go_wp2
              go_ret
              exact ⟨rfl, HZ.out⟩
          · exact absurd HBr.out.2 (by omega)
end Go.Proofs.YtjiikjpnlgogfaaGreatDoor
