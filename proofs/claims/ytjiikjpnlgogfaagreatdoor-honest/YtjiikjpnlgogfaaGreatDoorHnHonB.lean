/-
  Package twigskeep: Honest, the walk.
-/
import Derived.Test.YtjiikjpnlgogfaaGreatDoorHnHoG
import Derived.Test.YtjiikjpnlgogfaaGreatDoorHnVary
namespace Go.Proofs.YtjiikjpnlgogfaaGreatDoor
open Go.RowKit

theorem zeroK_ok : zero32.size = 32 ∧ Bytes zero32 := ⟨by decide, fun j => by
  unfold zero32
  by_cases h : j < 32
  · rw [getElem!_pos _ _ (by simpa using h)]; simp only [Array.getElem_replicate]; decide
  · rw [getElem!_neg _ _ (by simpa using h)]; decide⟩
abbrev zeroKV : Array Value := #[.int .u8 0, .int .u8 0, .int .u8 0, .int .u8 0, .int .u8 0, .int .u8 0, .int .u8 0, .int .u8 0, .int .u8 0, .int .u8 0, .int .u8 0, .int .u8 0, .int .u8 0, .int .u8 0, .int .u8 0, .int .u8 0, .int .u8 0, .int .u8 0, .int .u8 0, .int .u8 0, .int .u8 0, .int .u8 0, .int .u8 0, .int .u8 0, .int .u8 0, .int .u8 0, .int .u8 0, .int .u8 0, .int .u8 0, .int .u8 0, .int .u8 0, .int .u8 0]
theorem zeroK_cells : (zero32.toList.map encB).toArray = zeroKV := by kernel_rfl
theorem zeroK_row : kRow [zero32] = zero32.toList.map encB := by unfold kRow; simp

attribute [local go_sem ↓] wp_load_cells28
set_option maxRecDepth 100000 in
set_option maxHeartbeats 25600000 in
theorem honest_walk (raw other : ByteArray) (w : World) (sent : Nat → Addr) (hE : Env w.heap.size sent w) (hTy : typeAt w) (hTl : 12 < w.heap.size) (hr : raw.size ≤ 9223372036854775807) (ho : other.size ≤ 9223372036854775807) :
    Calls Tryz.prog 9 #[.string raw, .string other] w fun e w' => e = .returned (.bool true) ∧ Below w.heap.size w w' := by
  obtain ⟨i0, hi, hz0, hz1, hz2⟩ := info_parts keyZ
  have HK1 := Hid.hide (known_any raw w hr)
  have HK2 := Hid.hide (fun W => known_any other W ho)
  have HE : Hid (Env w.heap.size sent w ∧ typeAt w ∧ 12 < w.heap.size) := ⟨hE, hTy, hTl⟩
  clear hE hTy hTl hr ho
  go_enter Tryz.func9, Tryz.ntmps9
  go_wp2_with fail
  refine HK1.out.mono ?_
  rintro e w1 ⟨hb1, ks, vs, m, rfl, hk1, hd1, hl1⟩
  obtain ⟨pk, mk, ck, rfl⟩ := hk1.keys.shape
  obtain ⟨pv, mv, cv, rfl⟩ := hk1.vals.shape
  obtain ⟨rfl, rfl⟩ := hk1.len
  have H1 : Hid (Below w.heap.size w w1 ∧ Kn w1 w.heap.size (.slice pk m.length ck) (.slice pv m.length cv) m ∧ (m.map pth).Nodup ∧ m.length ≤ 12) := ⟨hb1, hk1, pth_dup hd1, hl1⟩
  clear hb1 hk1 hd1 hl1 HK1
  go_wp2_with fail
  obtain ⟨hb2, c0, c1, hs2⟩ := laid_map w1 (.slice pk m.length ck) (.slice pv m.length cv)
  have hbox : (World.alloc w1 (.cells #[.slice pk m.length ck, .slice pv m.length cv] 54)).heap[w1.heap.size]? = some (.cells #[.slice pk m.length ck, .slice pv m.length cv] 54 (0, 0)) := Array.getElem?_push_size
  generalize World.alloc w1 _ = w2 at hb2 c0 c1 hs2 hbox ⊢
  have hbw2 := H1.out.1.behind' hb2
  have HTr := Hid.hide (ktree_any (H1.out.2.1.below hb2) (Nat.le_refl _) (Below.refl _ _) (forest_none w2) (by have := H1.out; omega) H1.out.2.2.1 false)
  have H2 : Hid (Below w.heap.size w w2 ∧ w2.heap.size = w1.heap.size + 1 ∧ w2.heap[w1.heap.size]? = some (.cells #[.slice pk m.length ck, .slice pv m.length cv] 54 (0, 0)) ∧ Kn w2 w.heap.size (.slice pk m.length ck) (.slice pv m.length cv) m) := ⟨hbw2, hs2, hbox, H1.out.2.1.below hb2⟩
  clear hb2 hbw2 hbox hs2
  refine HTr.out.mono ?_
  rintro e w3 ⟨bt, hbt, rfl, S, ht, hf3⟩
  obtain ⟨t, hta, hcan, hget⟩ := ht.ex
  have hb3 : Below w2.heap.size w2 w3 := hf3.below (forest_none w2) fun _ h => h.elim
  have hbw3 := H2.out.1.behind' hb3
  have hRoot := xroot_any hf3.forest (HE.out.1.below hbw3).tabs (Nat.le_trans HE.out.1.low (by have := H2.out.1.size; omega)) hta
  have HRoot := Hid.hide hRoot
  have H3 : Hid (Below w2.heap.size w2 w3 ∧ Forest w2.heap.size S w3 ∧ TreeAt S w3 bt t ∧ t.can 64 ∧ ∀ s, s.length = 64 → t.get s = getN m s) := ⟨hb3, hf3.forest, hta, hcan, hget⟩
  clear hbt ht hf3 hta hcan hget hb3 hbw3 hRoot HTr c0 c1
  go_wp2_with fail
  refine HRoot.out.mono ?_
  rintro e w4 ⟨rfl, hf4⟩
  obtain ⟨D, hD⟩ : ∃ D, t.dig = D := ⟨_, rfl⟩
  obtain ⟨htok, _⟩ := t.can_ok 64 H3.out.2.2.2.1 (Nat.le_refl _)
  have hDl : D.length = 32 := by rw [← hD]; exact t.dig_length htok
  rw [hD]
  obtain ⟨tt, z1, o1, b5, r5, s5⟩ := laidH w4 D hDl
  have H4 : Hid (Fr w2.heap.size S S w3 w4 ∧ t.dig = D ∧ D.length = 32) := ⟨hf4, hD, hDl⟩
  clear hf4 hD hDl htok HRoot
  go_wp2_with (refine wpList_store_mid rfl 34 _ _ rfl w4.heap.size 0 (D.map encB).toArray rfl rfl tt z1 o1 ?_)
  generalize World.setCells _ w4.heap.size 0 (D.map encB) = w5 at b5 r5 s5 ⊢
  refine (HK2.out w5).mono ?_
  rintro e w6 ⟨hb6, ks, vs, o, rfl, hk6, hd6, hl6⟩
  obtain ⟨qk, nk, dk, rfl⟩ := hk6.keys.shape
  obtain ⟨qv, nv, dv, rfl⟩ := hk6.vals.shape
  obtain ⟨rfl, rfl⟩ := hk6.len
  have H6 : Hid (Below w4.heap.size w4 w5 ∧ w5.rangeAt w4.heap.size 0 (D.map encB) ∧ w4.heap.size < w5.heap.size ∧ Below w5.heap.size w5 w6 ∧ Kn w6 w5.heap.size (.slice qk o.length dk) (.slice qv o.length dv) o ∧ o.length ≤ 12) := ⟨b5, r5, s5, hb6, hk6, hl6⟩
  clear b5 r5 s5 hb6 hk6 hd6 hl6 HK2 tt z1 o1
  go_upto_region 7 with fail
  obtain ⟨hb7, d0, d1, hs7⟩ := laid_map w6 (.slice qk o.length dk) (.slice qv o.length dv)
  generalize World.alloc w6 (.cells #[.slice qk o.length dk, .slice qv o.length dv] 54) = w7 at hb7 d0 d1 hs7 ⊢
  have hs1 := H1.out.1.size
  have hs2 := H2.out.1.size
  have hs3 := H3.out.1.size
  have hs4 := H4.out.1.size
  have hs5 := H6.out.2.2.1
  have hs6 := H6.out.2.2.2.1.size
  have HO : Hid (∀ o', OwnC (w7.alloc o') w.heap.size 32 (.slice qk o.length dk) o.length (kRow (o.map (·.1)))) := fun o' => by
    have h := ((H6.out.2.2.2.2.1.below hb7).keys.alloc o').mono (show w.heap.size ≤ w5.heap.size by omega)
    have e : (o.flatMap fun x => x.1.toList.map encB) = kRow (o.map (·.1)) := by unfold kRow; rw [List.flatMap_map]
    rw [e] at h
    exact h
  have HKy : Hid (∀ t', (w7.alloc (.cells zeroKV t')).rangeAt w7.heap.size 0 (zero32.toList.map encB)) := fun t' => by
    rw [← zeroK_cells]
    exact rangeAt_new w7 (zero32.toList.map encB) t'
  have HN : Hid (o.length ≤ 12 ∧ w.heap.size ≤ w7.heap.size ∧ (o.map (·.1)).length = o.length) := ⟨H6.out.2.2.2.2.2, by omega, List.length_map ..⟩
  have H7 : Hid (Below w6.heap.size w6 w7 ∧ w7.heap.size = w6.heap.size + 1) := ⟨hb7, hs7⟩
  clear hb7 hs7 hs1 hs2 hs3 hs4 hs5 hs6 d1
  go_upto_region 8 with (at_builtin; refine wpList_append_ownp _ rfl _ _ 51 rfl 26 i0 (.agg (zero32.map encB)) 32 32 Tryz.underlying51 hi hz0 hz1 hz2 keyZs (by decide) w.heap.size (.slice qk o.length dk) _ _ rfl (HO.out _) w7.heap.size 0 1 1 (zero32.toList.map encB) rfl (by rfl) (HKy.out _) (oneCell_key zero32) (by have := HN.out; unfold maxLen; omega) (by have := HN.out; omega) (by have := HN.out; simp; omega) ?_)
  intro v8 w8 hO8 hg8 hf8 _
  have hs1 := H1.out.1.size
  have hs2 := H2.out.1.size
  have hs3 := H3.out.1.size
  have hs4 := H4.out.1.size
  have hs5 := H6.out.2.2.1
  have hs6 := H6.out.2.2.2.1.size
  have hs7 := H7.out
  have hs21 := H2.out.2.1
  have hs8 := hg8.size
  rw [World.size_alloc] at hs8
  have hf4 := H4.out.1.forest
  have hf5 : Forest w2.heap.size S w5 := hf4.below H6.out.1
  have hnone : ∀ k, w4.heap.size ≤ k → S k = none := fun k hk => hf4.fresh hk
  have hq5 : ∀ k, Value.ownBlock (.slice qk o.length dk) = some k → w5.heap.size ≤ k := fun k hk => (H6.out.2.2.2.2.1.keys.block k hk).1
  have hF8 : Fr w2.heap.size S S w5 w8 := by
    have a1 : Fr w2.heap.size S S w5 w7 := (Fr.of_below hf5 H6.out.2.2.2.1).behind H7.out.1
    have a2 := a1.behind ((Below.refl w7.heap.size w7).alloc (Nat.le_refl _) (.cells zeroKV 26))
    exact a2.grow hg8 fun k hk => ⟨hq5 k hk, hnone k (by have := hq5 k hk; omega)⟩
  have hq8 : ∀ k, v8.ownBlock = some k → w5.heap.size ≤ k := fun k hk => by
    rcases hf8 k hk with h | h
    · exact hq5 k h
    · omega
  have hF38 : Fr w2.heap.size S S w3 w8 := (H4.out.1.behind H6.out.1).trans hF8
  have hbox8 : w8.heap[w1.heap.size]? = some (.cells #[.slice pk m.length ck, .slice pv m.length cv] 54 (0, 0)) := (hF38.other _ (by omega) (H3.out.2.1.nothing (by omega))).trans ((H3.out.1.block _ (by omega)).trans H2.out.2.2.1)
  have hkn8 : Kn w8 w.heap.size (.slice pk m.length ck) (.slice pv m.length cv) m := by
    have hk3 := H2.out.2.2.2.below H3.out.1
    have hlow : ∀ g, Value.ownBlock (.slice pk m.length ck) = some g ∨ Value.ownBlock (.slice pv m.length cv) = some g → S g = none := fun g hg => by
      refine H3.out.2.1.nothing ?_
      rcases hg with hg | hg
      · exact (H2.out.2.2.2.keys.block g hg).2
      · exact (H2.out.2.2.2.vals.block g hg).2
    exact ⟨hk3.keys.frame hF38 fun g hg => hlow g (.inl hg), hk3.vals.frame hF38 fun g hg => hlow g (.inr hg), hk3.ok, hk3.apart⟩
  have e0 : w8.cell? ⟨w1.heap.size, 0, none⟩ = some (.slice pk m.length ck) := by simp [World.cell?, hbox8]
  have HMK : Hid (OwnC w8 w.heap.size 32 (.slice pk m.length ck) m.length (kRow (m.map (·.1)))) := by
    have h := hkn8.keys
    have e : (m.flatMap fun x => x.1.toList.map encB) = kRow (m.map (·.1)) := by unfold kRow; rw [List.flatMap_map]
    rw [e] at h
    exact h
  have HO8 : Hid (OwnC w8 w.heap.size 32 v8 (o.length + 1) (kRow (o.map (·.1) ++ [zero32]))) := by
    show OwnC w8 w.heap.size 32 v8 (o.length + 1) (kRow (o.map (·.1) ++ [zero32]))
    rw [kRow_app, zeroK_row]
    exact hO8
  have H8 : Hid (Fr w2.heap.size S S w5 w8 ∧ Fr w2.heap.size S S w3 w8 ∧ (∀ k, v8.ownBlock = some k → w5.heap.size ≤ k) ∧ (∀ k, w4.heap.size ≤ k → S k = none) ∧ w.heap.size ≤ w8.heap.size ∧ m.length ≤ 12 ∧ o.length ≤ 12 ∧ w2.heap[w1.heap.size]? = some (.cells #[.slice pk m.length ck, .slice pv m.length cv] 54 (0, 0))) := ⟨hF8, hF38, hq8, hnone, by omega, H1.out.2.2.2, HN.out.1, H2.out.2.2.1⟩
  obtain ⟨p8, m8, c8, rfl⟩ := hO8.shape
  clear hO8 hg8 hf8 hs1 hs2 hs3 hs4 hs5 hs6 hs7 hs21 hs8 hf4 hf5 hnone hq5 hF8 hq8 hF38 hbox8 hkn8 HO HKy d0
  go_upto_region 9 with (at_builtin; refine wpList_append_row _ rfl _ _ 51 rfl 26 i0 (.agg (zero32.map encB)) 32 32 Tryz.underlying51 hi hz0 hz1 hz2 keyZs (by decide) w.heap.size (.slice p8 m8 c8) _ _ rfl HO8.out w.heap.size (.slice pk m.length ck) m.length _ rfl HMK.out (kRow_one _) (by have := H8.out; unfold maxLen; omega) (by have := H8.out; omega) (by have := H8.out; omega) ?_)
  intro v9 w9 hO9 hg9 hf9
  obtain ⟨g1, g2, g3, g4, g5, g6, g7, g8⟩ := H8.out
  have hF9 : Fr w2.heap.size S S w5 w9 := g1.grow hg9 fun k hk => ⟨g3 k hk, g4 k (by have := g3 k hk; have := H6.out.2.2.1; omega)⟩
  have hq9 : ∀ k, v9.ownBlock = some k → w5.heap.size ≤ k := fun k hk => by
    rcases hf9 k hk with h | h
    · exact g3 k h
    · exact Nat.le_trans g1.size h
  have hF39 : Fr w2.heap.size S S w3 w9 := (H4.out.1.behind H6.out.1).trans hF9
  have hs1 := H1.out.1.size
  have hs2 := H2.out.2.1
  have hs3 := H3.out.1.size
  have hs4 := H4.out.1.size
  have hs5 := H6.out.2.2.1
  have hS : HonS w w2.heap.size S w1.heap.size w4.heap.size bt (.slice pk m.length ck) (.slice pv m.length cv) v9 m (o.map (·.1) ++ [zero32] ++ m.map (·.1)) t w9 := by
    have hk3 := H2.out.2.2.2.below H3.out.1
    have hlow : ∀ g, Value.ownBlock (.slice pk m.length ck) = some g ∨ Value.ownBlock (.slice pv m.length cv) = some g → S g = none := fun g hg => by
      refine H3.out.2.1.nothing ?_
      rcases hg with hg | hg
      · exact (H2.out.2.2.2.keys.block g hg).2
      · exact (H2.out.2.2.2.vals.block g hg).2
    refine ⟨(H2.out.1.behind' H3.out.1).trans ((hF39.below H3.out.2.1).mono (by omega)), hF39.forest, by omega, H3.out.2.2.1.frame hF39, H3.out.2.2.2.1, H3.out.2.2.2.2, (hF39.other _ (by omega) (H3.out.2.1.nothing (by omega))).trans ((H3.out.1.block _ (by omega)).trans g8), H3.out.2.1.nothing (by omega), ⟨hk3.keys.frame hF39 fun g hg => hlow g (.inl hg), hk3.vals.frame hF39 fun g hg => hlow g (.inr hg), hk3.ok, hk3.apart⟩, hlow, ?_, ⟨g4 _ (Nat.le_refl _), Nat.lt_of_lt_of_le hs5 hF9.size⟩, ?_, fun g hg => g4 g (by have := hq9 g hg; omega), fun K hK => ?_, g6, H1.out.2.2.1, ?_⟩
    · rw [H4.out.2.1]
      exact rangeAt_block H6.out.2.1 (hF9.other _ hs5 (g4 _ (Nat.le_refl _)))
    · rw [kRow_app, show (o.map (·.1) ++ [zero32] ++ m.map (·.1)).length = o.length + 1 + m.length by simp only [List.length_append, List.length_map, List.length_cons, List.length_nil]]
      exact hO9
    · rcases List.mem_append.1 hK with hK | hK
      · rcases List.mem_append.1 hK with hK | hK
        · obtain ⟨x, hx, rfl⟩ := List.mem_map.1 hK
          have := H6.out.2.2.2.2.1.ok x hx
          exact ⟨this.1, this.2.1⟩
        · obtain rfl : K = zero32 := by simpa using hK
          exact zeroK_ok
      · obtain ⟨x, hx, rfl⟩ := List.mem_map.1 hK
        have := H2.out.2.2.2.ok x hx
        exact ⟨this.1, this.2.1⟩
    · simp
      omega
  have HD : Hid (t.dig = D) := H4.out.2.1
  obtain ⟨p9, m9, c9, rfl⟩ := hO9.shape
  obtain ⟨Ks, hKs⟩ : ∃ Ks, o.map (·.1) ++ [zero32] ++ m.map (·.1) = Ks := ⟨_, rfl⟩
  rw [hKs] at hS
  have hm9 : m9 = Ks.length := by
    obtain ⟨p', c', e, _⟩ := hS.row.cap
    simp only [Value.slice.injEq] at e
    exact e.2.1
  subst hm9
  have HS := Hid.hide hS
  clear hO9 hg9 hf9 g1 g2 g3 g4 g5 g6 g7 g8 hF9 hq9 hF39 hs1 hs2 hs3 hs4 hs5 hS H1 H2 H3 H4 H6 H7 H8 HN HMK HO8 e0 hKs
  clear hi hz0 hz1 hz2
  generalize w1.heap.size = n1 at HS ⊢
  generalize w4.heap.size = hb at HS ⊢
  generalize w2.heap.size = B at HS
  go_wp2
  go_loopg [11] Ks.length (fun gh i wr => ∃ k, k ≤ Ks.length ∧ gh = Ks.length - k ∧ i = .int .i64 (k : Int) ∧ Fr B S S w9 wr)
  case atStart => exact ⟨0, Nat.zero_le _, rfl, rfl, Fr.refl HS.out.forest⟩
  case round =>
    obtain ⟨k, hk, rfl, rfl, hFr⟩ := hrel
    have hSr := HS.out.frame hFr
    by_cases hlt : k < Ks.length
    · have i1 : (k : Int) < (Ks.length : Int) := by omega
      obtain ⟨g, cap, ek, hCg, hgs, hrg⟩ := key_row hSr.row (fun K hK => (hSr.keysOK K hK).1) hlt
      have hgS : S g = none := hSr.rowS g (by rw [ek]; rfl)
      simp only [Value.slice.injEq] at ek
      obtain ⟨rfl, -, rfl⟩ := ek
      obtain ⟨K, hKe⟩ : ∃ K, Ks[k] = K := ⟨_, rfl⟩
      rw [hKe] at hrg
      obtain ⟨hK, hKb⟩ := hSr.keysOK K (by rw [← hKe]; exact List.getElem_mem hlt)
      obtain ⟨hp1, hp2, hp3⟩ := key_path hK hKb
      obtain ⟨p, hp⟩ : ∃ p, textB (nibs K.toList) = p := ⟨_, rfl⟩
      rw [hp] at hp1 hp3
      have hnb : nib (bytesOf p) := by rw [hp1]; exact hp2
      obtain ⟨L, hL⟩ : ∃ L, t.prove p = L := ⟨_, rfl⟩
      have hEr := HE.out.1.below hSr.below
      have HP := Hid.hide (xprove_any hSr.forest hEr.tabs (Nat.le_trans HE.out.1.low hSr.lowB) hSr.tree hSr.can hK hKb (L := L) (by rw [hp]; exact hL))
      have HK : Hid (K.size = 32 ∧ Bytes K ∧ p.size = 64 ∧ nib (bytesOf p) ∧ bytesOf p = nibs K.toList ∧ textB (nibs K.toList) = p ∧ t.prove p = L ∧ k < Ks.length ∧ g < wr.heap.size ∧ S g = none ∧ Ks.length ≤ 25) := ⟨hK, hKb, hp3, hnb, hp1, hp, hL, hlt, hgs, hgS, hSr.few.2.2⟩
      have HWr : Hid (w.heap.size ≤ wr.heap.size) := hSr.below.size
      have HHB : Hid (hb < wr.heap.size) := hSr.hashS.2
      have HFrW : Hid (w9.heap.size ≤ wr.heap.size) := hFr.size
      have HSr := Hid.hide hSr
      have HFr := Hid.hide hFr
      have hzK : (Tryz.prog.info? 26).map (·.size) = some (K.toList.map encB).length := by rw [size51]; simp [hK]
      have hu26 := Tryz.underlying26
      have hu34 := Tryz.underlying34
      have HRg := Hid.hide hrg
      clear hSr hCg hgS hKe hK hKb hp1 hp2 hp3 hp hnb hL hEr hk hFr
      go_upto_region 13 with (first | (refine wpList_load_mid rfl 26 _ rfl g (k * 32) rfl (K.toList.map encB) _ hrg hu26 rfl hzK ?_))
      refine HP.out.mono ?_
      rintro x w2 ⟨res, rfl, hf2, hO2⟩
      obtain ⟨pr, cr, rfl, hsr, _⟩ := strRow_of hO2
      have hS2 := HSr.out.frame hf2
      have hDl : D.length = 32 := by
        obtain ⟨htok, _⟩ := t.can_ok 64 hS2.can (Nat.le_refl _)
        rw [← HD.out]; exact t.dig_length htok
      have hDb : ∀ x ∈ D, x < 256 := by rw [← HD.out]; exact dig_byte hS2.can
      have hash2 : w2.rangeAt hb 0 (D.map encB) := by rw [← HD.out]; exact hS2.hash
      have key2 : w2.rangeAt g (k * 32) (K.toList.map encB) := rangeAt_block HRg.out (hf2.other g HK.out.2.2.2.2.2.2.2.2.1 HK.out.2.2.2.2.2.2.2.2.2.1)
      obtain ⟨ov, hov⟩ : ∃ ov, t.get (bytesOf p) = ov := ⟨_, rfl⟩
      have hq : verF D p L = .ok ov := by
        have := ver_honest hS2.can HK.out.2.2.1 HK.out.2.2.2.1
        rw [HD.out, HK.out.2.2.2.2.2.2.1, hov] at this
        exact this
      have hLb : ∀ c ∈ L, ∀ y ∈ c, y < 256 := by
        rw [← HK.out.2.2.2.2.2.2.1]
        exact prove_byte (by rw [HK.out.2.2.1]; exact hS2.can) (by have := HK.out.2.2.1; omega)
      have hL65 : L.length ≤ 65 := by rw [← HK.out.2.2.2.2.2.2.1]; exact prove_len t p
      have HVer : Hid (∀ (W : World) (h : List Nat) (q : Except Er (Option ByteArray)), Below w2.heap.size w2 W → h.length = 32 → (∀ x ∈ h, x < 256) → verF h p L = q → Calls Tryz.prog 30 #[.agg (h.map encB).toArray, .agg (K.toList.map encB).toArray, .slice pr L.length cr] W fun e w' => e = .returned (.tuple #[.string (verStr q), .bool (verHas q), verFault q]) ∧ Below W.heap.size W w') := fun W h q hb h1 h2 h3 => xver_codes sent HE.out (hS2.below.behind' hb) h K L pr cr h1 h2 HK.out.1 HK.out.2.1 (hsr.below hb) (by omega) hLb (by rw [HK.out.2.2.2.2.2.1]; exact h3)
      have H2 : Hid (HonS w B S n1 hb bt (.slice pk m.length ck) (.slice pv m.length cv) (.slice (some ⟨g, 0, none⟩) Ks.length c9) m Ks t w2 ∧ Fr B S S w9 w2 ∧ OwnC w2 wr.heap.size 1 (.slice pr L.length cr) L.length (strs L) ∧ verF D p L = .ok ov ∧ t.get (bytesOf p) = ov ∧ D.length = 32 ∧ (∀ x ∈ D, x < 256) ∧ L.length ≤ 65 ∧ (∀ c ∈ L, ∀ y ∈ c, y < 256)) := ⟨hS2, HFr.out.trans hf2, hO2, hq, hov, hDl, hDb, hL65, hLb⟩
      have hzD := hash_size hDl
      have HR2 : Hid (∀ W, Below w2.heap.size w2 W → W.rangeAt hb 0 (D.map encB) ∧ W.rangeAt g (k * 32) (K.toList.map encB)) := fun W hW => ⟨rangeAt_block hash2 (hW.block hb hS2.hashS.2), rangeAt_block key2 (hW.block g (Nat.lt_of_lt_of_le HK.out.2.2.2.2.2.2.2.2.1 hf2.size))⟩
      have HB0 : Hid (Below w2.heap.size w2 w2.drew) := (Below.refl _ _).drew
      clear hf2 hO2 hsr hS2 hDl hDb hov hq hLb hL65 hrg HRg HFr HSr HP
      obtain ⟨os, hos⟩ : ∃ os, ov.getD ⟨#[]⟩ = os := ⟨_, rfl⟩
      obtain ⟨ob, hob⟩ : ∃ ob, ov.isSome = ob := ⟨_, rfl⟩
      have HV0 : Hid (∀ W, Below w2.heap.size w2 W → Calls Tryz.prog 30 #[.agg (D.map encB).toArray, .agg (K.toList.map encB).toArray, .slice pr L.length cr] W fun e w' => e = .returned (.tuple #[.string os, .bool ob, faultV 0 0 0 0]) ∧ Below W.heap.size W w') := fun W hb => by
        have := HVer.out W D _ hb H2.out.2.2.2.2.2.1 H2.out.2.2.2.2.2.2.1 H2.out.2.2.2.1
        rw [show verStr (.ok ov) = os from hos, show verHas (.ok ov) = ob from hob] at this
        exact this
      have HOS : Hid (ov.getD ⟨#[]⟩ = os ∧ ov.isSome = ob) := ⟨hos, hob⟩
      clear hos hob
      go_upto_region 13 with fail
      go_cut [14, 15, 16] (fun a b c wc => ∃ f, a = .string os ∧ b = .bool ob ∧ c = .pointer (some ⟨f, 0, none⟩) ∧ wc.heap[f]? = some (.cells #[.int .i64 0, .int .i64 0, .int .i64 0, .int .i64 0] 66 (0, 0)) ∧ w2.heap.size ≤ f ∧ Below w2.heap.size w2 wc)
      case first => as_aux_lemma =>
        -- R13 BEGIN
        refine wp_region_any (by kernel_rfl) ?_
        change wpAny _ _ _ _ _ _ _ (World.drew _)
        obtain ⟨vf, hvf⟩ : ∃ vf : Nat → Option Value, vf = fun i => ([some (.agg (D.map encB).toArray), some (.slice (some ⟨g, 0, none⟩) Ks.length c9), some (.int .i64 (k : Int)), some (.pointer (some ⟨g, k * 32, none⟩)), some (.agg (K.toList.map encB).toArray), some (.slice pr L.length cr), some (.tuple #[.string os, .bool ob, faultV 0 0 0 0]), some (.tuple #[.string os, .bool ob, faultV 0 0 0 0]), some (.string os), some (.bool ob), some (faultV 0 0 0 0), none, some (.string os), some (.bool ob), none] : List (Option Value)).getD i none := ⟨_, rfl⟩
        refine wpAny_vary _ (fun d v w' => (∀ i x, vf i = some x → d i = true → v i = x) ∧ (fun d v w' => Below w2.heap.size w2 w' ∧ (d 11 = true → ∃ f, v 11 = .pointer (some ⟨f, 0, none⟩) ∧ w2.heap.size ≤ f ∧ (d 14 = false → w'.heap[f]? = some (.cells #[.int .i64 0, .int .i64 0, .int .i64 0, .int .i64 0] 66 (0, 0))) ∧ (d 14 = true → w'.heap[f]? = some (.cells #[.int .i64 0, .int .i64 0, .int .i64 0, .int .i64 0] 66 (0, 0))))) d v w') (by kernel_rfl) (by kernel_rfl) ?_ _ (fun _ => undef) ?_ ?_
        · intro i o ho listed val b W hsat hnew hdeps hI
          have hi : i < 15 := (Array.getElem?_eq_some_iff.1 ho).1
          match i, hi with
          | 0, _ =>
            obtain rfl := Option.some.inj ho
            have t8 : b.tmps[8]? = some (.pointer (some ⟨hb, 0, none⟩)) := (hsat.rest 8 (fun i _ => noDst_of (by kernel_rfl) i)).trans rfl
            refine wp_load_mid 34 (.tmp 8) rfl hb 0 (by simp only [Act.eval, Array.getD_eq_getD_getElem?, t8, Option.getD_some]) (D.map encB) _ (HR2.out W hI.2.1).1 hu34 rfl hzD ?_
            exact ⟨_, rfl, vals_step hI.1 (by rw [hvf]; rfl), hI.2⟩
          | 1, _ =>
            obtain rfl := Option.some.inj ho
            have t10 : b.tmps[10]? = some (.slice (some ⟨g, 0, none⟩) Ks.length c9) := (hsat.rest 10 (fun i _ => noDst_of (by kernel_rfl) i)).trans rfl
            refine Oper.wp_mono (K := fun a' w' => a' = b.put (some 63) (.slice (some ⟨g, 0, none⟩) Ks.length c9) ∧ w' = W) (by rintro a' w' ⟨rfl, rfl⟩; exact ⟨_, rfl, vals_step hI.1 (by rw [hvf]; rfl), hI.2⟩) ?_
            clear ho hdeps hsat hI hnew hvf
            go_simp
          | 2, _ =>
            obtain rfl := Option.some.inj ho
            have t11 : b.tmps[11]? = some (.int .i64 (k : Int)) := (hsat.rest 11 (fun i _ => noDst_of (by kernel_rfl) i)).trans rfl
            refine Oper.wp_mono (K := fun a' w' => a' = b.put (some 64) (.int .i64 (k : Int)) ∧ w' = W) (by rintro a' w' ⟨rfl, rfl⟩; exact ⟨_, rfl, vals_step hI.1 (by rw [hvf]; rfl), hI.2⟩) ?_
            clear ho hdeps hsat hI hnew hvf
            go_simp
          | 3, _ =>
            obtain rfl := Option.some.inj ho
            have t63 : b.tmps[63]? = some (.slice (some ⟨g, 0, none⟩) Ks.length c9) := (hsat.done 1 63 (hdeps ⟨1, .data⟩ (by simp) rfl) rfl (by simp)).trans (congrArg some (hI.1 1 _ (by rw [hvf]; rfl) (hdeps ⟨1, .data⟩ (by simp) rfl)))
            have t64 : b.tmps[64]? = some (.int .i64 (k : Int)) := (hsat.done 2 64 (hdeps ⟨2, .data⟩ (by simp) rfl) rfl (by simp)).trans (congrArg some (hI.1 2 _ (by rw [hvf]; rfl) (hdeps ⟨2, .data⟩ (by simp) rfl)))
            refine Oper.wp_mono (K := fun a' w' => a' = b.put (some 65) (.pointer (some ⟨g, k * 32, none⟩)) ∧ w' = W) (by rintro a' w' ⟨rfl, rfl⟩; exact ⟨_, rfl, vals_step hI.1 (by rw [hvf]; rfl), hI.2⟩) ?_
            clear ho hdeps hsat hI hnew hvf
            go_simp
          | 4, _ =>
            obtain rfl := Option.some.inj ho
            have t65 : b.tmps[65]? = some (.pointer (some ⟨g, k * 32, none⟩)) := (hsat.done 3 65 (hdeps ⟨3, .data⟩ (by simp) rfl) rfl (by simp)).trans (congrArg some (hI.1 3 _ (by rw [hvf]; rfl) (hdeps ⟨3, .data⟩ (by simp) rfl)))
            refine wp_load_mid 26 (.tmp 65) rfl g (k * 32) (by simp only [Act.eval, Array.getD_eq_getD_getElem?, t65, Option.getD_some]) (K.toList.map encB) _ (HR2.out W hI.2.1).2 hu26 rfl hzK ?_
            exact ⟨_, rfl, vals_step hI.1 (by rw [hvf]; rfl), hI.2⟩
          | 5, _ =>
            obtain rfl := Option.some.inj ho
            have t12 : b.tmps[12]? = some (.slice pr L.length cr) := (hsat.rest 12 (fun i _ => noDst_of (by kernel_rfl) i)).trans rfl
            refine Oper.wp_mono (K := fun a' w' => a' = b.put (some 67) (.slice pr L.length cr) ∧ w' = W) (by rintro a' w' ⟨rfl, rfl⟩; exact ⟨_, rfl, vals_step hI.1 (by rw [hvf]; rfl), hI.2⟩) ?_
            clear ho hdeps hsat hI hnew hvf
            go_simp
          | 6, _ =>
            obtain rfl := Option.some.inj ho
            have t62 : b.tmps[62]? = some (.agg (D.map encB).toArray) := (hsat.done 0 62 (hdeps ⟨0, .data⟩ (by simp) rfl) rfl (by simp)).trans (congrArg some (hI.1 0 _ (by rw [hvf]; rfl) (hdeps ⟨0, .data⟩ (by simp) rfl)))
            have t66 : b.tmps[66]? = some (.agg (K.toList.map encB).toArray) := (hsat.done 4 66 (hdeps ⟨4, .data⟩ (by simp) rfl) rfl (by simp)).trans (congrArg some (hI.1 4 _ (by rw [hvf]; rfl) (hdeps ⟨4, .data⟩ (by simp) rfl)))
            have t67 : b.tmps[67]? = some (.slice pr L.length cr) := (hsat.done 5 67 (hdeps ⟨5, .data⟩ (by simp) rfl) rfl (by simp)).trans (congrArg some (hI.1 5 _ (by rw [hvf]; rfl) (hdeps ⟨5, .data⟩ (by simp) rfl)))
            obtain ⟨G, hG⟩ : ∃ G : Value → World → Prop, ∀ x w', G x w' ↔ ((∀ j y, vf j = some y → (fun k => if k = 6 then true else listed.getD k false) j = true → (fun k => if k = 6 then x else val k) j = y) ∧ Below w2.heap.size w2 w' ∧ (listed.getD 11 false = true → ∃ f, val 11 = .pointer (some ⟨f, 0, none⟩) ∧ w2.heap.size ≤ f ∧ (listed.getD 14 false = false → w'.heap[f]? = some (.cells #[.int .i64 0, .int .i64 0, .int .i64 0, .int .i64 0] 66 (0, 0))) ∧ (listed.getD 14 false = true → w'.heap[f]? = some (.cells #[.int .i64 0, .int .i64 0, .int .i64 0, .int .i64 0] 66 (0, 0))))) := ⟨_, fun _ _ => Iff.rfl⟩
            refine Oper.wp_mono (K := fun a' w' => ∃ v, a' = b.put (some 68) v ∧ G v w') (by rintro a' w' ⟨v, rfl, hv⟩; exact ⟨v, rfl, (hG v w').1 hv⟩) ?_
            have HG := Hid.hide hG
            have HI := Hid.hide hI
            have HVF := Hid.hide hvf
            clear hG ho hdeps hsat hI hnew hvf
            go_simp
            go_at_call 30
            refine (HV0.out W HI.out.2.1).mono ?_
            rintro e w9 ⟨rfl, hb9⟩
            refine ⟨_, rfl, (HG.out _ _).2 ⟨vals_step HI.out.1 (by rw [HVF.out]; rfl), HI.out.2.1.behind' hb9, fun q => ?_⟩⟩
            obtain ⟨f, f1, f2, f3, f4⟩ := HI.out.2.2 q
            exact ⟨f, f1, f2, fun q => (hb9.block f (Array.getElem?_eq_some_iff.1 (f3 q)).1).trans (f3 q), fun q => (hb9.block f (Array.getElem?_eq_some_iff.1 (f4 q)).1).trans (f4 q)⟩
          | 7, _ =>
            obtain rfl := Option.some.inj ho
            have t68 : b.tmps[68]? = some (.tuple #[.string os, .bool ob, faultV 0 0 0 0]) := (hsat.done 6 68 (hdeps ⟨6, .data⟩ (by simp) rfl) rfl (by simp)).trans (congrArg some (hI.1 6 _ (by rw [hvf]; rfl) (hdeps ⟨6, .data⟩ (by simp) rfl)))
            refine Oper.wp_mono (K := fun a' w' => a' = b.put (some 61) (.tuple #[.string os, .bool ob, faultV 0 0 0 0]) ∧ w' = W) (by rintro a' w' ⟨rfl, rfl⟩; exact ⟨_, rfl, vals_step hI.1 (by rw [hvf]; rfl), hI.2⟩) ?_
            clear ho hdeps hsat hI hnew hvf
            go_simp
          | 8, _ =>
            obtain rfl := Option.some.inj ho
            have t61 : b.tmps[61]? = some (.tuple #[.string os, .bool ob, faultV 0 0 0 0]) := (hsat.done 7 61 (hdeps ⟨7, .data⟩ (by simp) rfl) rfl (by simp)).trans (congrArg some (hI.1 7 _ (by rw [hvf]; rfl) (hdeps ⟨7, .data⟩ (by simp) rfl)))
            refine Oper.wp_mono (K := fun a' w' => a' = b.put (some 69) (.string os) ∧ w' = W) (by rintro a' w' ⟨rfl, rfl⟩; exact ⟨_, rfl, vals_step hI.1 (by rw [hvf]; rfl), hI.2⟩) ?_
            clear ho hdeps hsat hI hnew hvf
            go_simp
          | 9, _ =>
            obtain rfl := Option.some.inj ho
            have t61 : b.tmps[61]? = some (.tuple #[.string os, .bool ob, faultV 0 0 0 0]) := (hsat.done 7 61 (hdeps ⟨7, .data⟩ (by simp) rfl) rfl (by simp)).trans (congrArg some (hI.1 7 _ (by rw [hvf]; rfl) (hdeps ⟨7, .data⟩ (by simp) rfl)))
            refine Oper.wp_mono (K := fun a' w' => a' = b.put (some 70) (.bool ob) ∧ w' = W) (by rintro a' w' ⟨rfl, rfl⟩; exact ⟨_, rfl, vals_step hI.1 (by rw [hvf]; rfl), hI.2⟩) ?_
            clear ho hdeps hsat hI hnew hvf
            go_simp
          | 10, _ =>
            obtain rfl := Option.some.inj ho
            have t61 : b.tmps[61]? = some (.tuple #[.string os, .bool ob, faultV 0 0 0 0]) := (hsat.done 7 61 (hdeps ⟨7, .data⟩ (by simp) rfl) rfl (by simp)).trans (congrArg some (hI.1 7 _ (by rw [hvf]; rfl) (hdeps ⟨7, .data⟩ (by simp) rfl)))
            refine Oper.wp_mono (K := fun a' w' => a' = b.put (some 71) (faultV 0 0 0 0) ∧ w' = W) (by rintro a' w' ⟨rfl, rfl⟩; exact ⟨_, rfl, vals_step hI.1 (by rw [hvf]; rfl), hI.2⟩) ?_
            clear ho hdeps hsat hI hnew hvf
            go_simp
          | 11, _ =>
            obtain rfl := Option.some.inj ho
            refine Oper.wp_mono (K := fun a' w' => a' = b.put (some 16) (.pointer (some ⟨W.heap.size, 0, none⟩)) ∧ w' = W.alloc (.cells #[.int .i64 0, .int .i64 0, .int .i64 0, .int .i64 0] 66)) (by rintro a' w' ⟨rfl, rfl⟩; exact ⟨_, rfl, vals_free hI.1 (by rw [hvf]; rfl), hI.2.1.alloc hI.2.1.size _, fun _ => ⟨W.heap.size, rfl, hI.2.1.size, fun _ => Array.getElem?_push_size, fun _ => Array.getElem?_push_size⟩⟩) ?_
            clear ho hdeps hsat hI hnew hvf
            go_simp
          | 12, _ =>
            obtain rfl := Option.some.inj ho
            have t69 : b.tmps[69]? = some (.string os) := (hsat.done 8 69 (hdeps ⟨8, .data⟩ (by simp) rfl) rfl (by simp)).trans (congrArg some (hI.1 8 _ (by rw [hvf]; rfl) (hdeps ⟨8, .data⟩ (by simp) rfl)))
            refine Oper.wp_mono (K := fun a' w' => a' = b.put (some 14) (.string os) ∧ w' = W) (by rintro a' w' ⟨rfl, rfl⟩; exact ⟨_, rfl, vals_step hI.1 (by rw [hvf]; rfl), hI.2⟩) ?_
            clear ho hdeps hsat hI hnew hvf
            go_simp
          | 13, _ =>
            obtain rfl := Option.some.inj ho
            have t70 : b.tmps[70]? = some (.bool ob) := (hsat.done 9 70 (hdeps ⟨9, .data⟩ (by simp) rfl) rfl (by simp)).trans (congrArg some (hI.1 9 _ (by rw [hvf]; rfl) (hdeps ⟨9, .data⟩ (by simp) rfl)))
            refine Oper.wp_mono (K := fun a' w' => a' = b.put (some 15) (.bool ob) ∧ w' = W) (by rintro a' w' ⟨rfl, rfl⟩; exact ⟨_, rfl, vals_step hI.1 (by rw [hvf]; rfl), hI.2⟩) ?_
            clear ho hdeps hsat hI hnew hvf
            go_simp
          | 14, _ =>
            obtain rfl := Option.some.inj ho
            have t71 : b.tmps[71]? = some (faultV 0 0 0 0) := (hsat.done 10 71 (hdeps ⟨10, .data⟩ (by simp) rfl) rfl (by simp)).trans (congrArg some (hI.1 10 _ (by rw [hvf]; rfl) (hdeps ⟨10, .data⟩ (by simp) rfl)))
            have d11 := hdeps ⟨11, .data⟩ (by simp) rfl
            obtain ⟨f, f1, f2, f3, _⟩ := hI.2.2 d11
            have t16 : b.tmps[16]? = some (.pointer (some ⟨f, 0, none⟩)) := (hsat.done 11 16 d11 rfl (by simp)).trans (congrArg some f1)
            refine wp_store_mid 66 (.tmp 16) (.tmp 71) rfl f 0 #[.int .i64 0, .int .i64 0, .int .i64 0, .int .i64 0] (by simp only [Act.eval, Array.getD_eq_getD_getElem?, t16, Option.getD_some]) (by simp only [Act.eval, Array.getD_eq_getD_getElem?, t71, Option.getD_some] <;> rfl) (there_cells (f3 hnew) rfl) (by kernel_rfl) (by simp [Value.oneCell']) ?_
            exact ⟨_, rfl, vals_free hI.1 (by rw [hvf]; rfl), fault_below hI.2.1 f2 _ _ _ _, fun _ => ⟨f, f1, f2, fun q => (by simp at q), fun _ => fault_set (f3 hnew) _ _ _ _⟩⟩
        · exact ⟨fun _ _ _ h => (by simp at h), (Below.refl _ _).drew, fun h => (by simp at h)⟩
        · intro val W hI
          have e0 : val 0 = .agg (D.map encB).toArray := hI.1 0 _ (by rw [hvf]; rfl) rfl
          have e1 : val 1 = .slice (some ⟨g, 0, none⟩) Ks.length c9 := hI.1 1 _ (by rw [hvf]; rfl) rfl
          have e2 : val 2 = .int .i64 (k : Int) := hI.1 2 _ (by rw [hvf]; rfl) rfl
          have e3 : val 3 = .pointer (some ⟨g, k * 32, none⟩) := hI.1 3 _ (by rw [hvf]; rfl) rfl
          have e4 : val 4 = .agg (K.toList.map encB).toArray := hI.1 4 _ (by rw [hvf]; rfl) rfl
          have e5 : val 5 = .slice pr L.length cr := hI.1 5 _ (by rw [hvf]; rfl) rfl
          have e6 : val 6 = .tuple #[.string os, .bool ob, faultV 0 0 0 0] := hI.1 6 _ (by rw [hvf]; rfl) rfl
          have e7 : val 7 = .tuple #[.string os, .bool ob, faultV 0 0 0 0] := hI.1 7 _ (by rw [hvf]; rfl) rfl
          have e8 : val 8 = .string os := hI.1 8 _ (by rw [hvf]; rfl) rfl
          have e9 : val 9 = .bool ob := hI.1 9 _ (by rw [hvf]; rfl) rfl
          have e10 : val 10 = faultV 0 0 0 0 := hI.1 10 _ (by rw [hvf]; rfl) rfl
          have e12 : val 12 = .string os := hI.1 12 _ (by rw [hvf]; rfl) rfl
          have e13 : val 13 = .bool ob := hI.1 13 _ (by rw [hvf]; rfl) rfl
          have hX := hI.2
          simp only [runFrom, Act.put, Nat.zero_add, Nat.reduceAdd, List.setIfInBounds_toArray, List.set_cons_zero, List.set_cons_succ, e0, e1, e2, e3, e4, e5, e6, e7, e8, e9, e10, e12, e13]
          clear hI hvf e0 e1 e2 e3 e4 e5 e6 e7 e8 e9 e10 e12 e13
          obtain ⟨hb3, hX2⟩ := hX
          obtain ⟨f, f1, f2, _, f4⟩ := hX2 rfl
          have HY : Hid (val 11 = .pointer (some ⟨f, 0, none⟩) ∧ W.heap[f]? = some (.cells #[.int .i64 0, .int .i64 0, .int .i64 0, .int .i64 0] 66 (0, 0)) ∧ w2.heap.size ≤ f ∧ Below w2.heap.size w2 W) := ⟨f1, f4 rfl, f2, hb3⟩
          clear hX2 f1 f2 f4 hb3
          (try go_wp2)
          go_meet
          exact ⟨f, rfl, rfl, HY.out.1, HY.out.2.1, HY.out.2.2.1, HY.out.2.2.2⟩
        -- R13 END
      case rest => as_aux_lemma =>
        obtain ⟨f, rfl, rfl, rfl, hcf, hfl, hb3⟩ := hcut
        obtain ⟨f0, f1, f2, f3, -⟩ := fault_cells hcf
        have H3 : Hid (Below w2.heap.size w2 wc ∧ wc.heap[f]? = some (.cells #[.int .i64 0, .int .i64 0, .int .i64 0, .int .i64 0] 66 (0, 0)) ∧ w2.heap.size ≤ f) := ⟨hb3, hcf, hfl⟩
        clear hcf hfl hb3 HV0
        go_upto_region 15 with (go_at_call 31; refine (fine_zero _).mono ?_; rintro x w4 ⟨rfl, hb4⟩; have HB4 := Hid.hide hb4; clear hb4)
        have HB5 : Hid (Below w2.heap.size w2 w4 ∧ w4.heap[f]? = some (.cells #[.int .i64 0, .int .i64 0, .int .i64 0, .int .i64 0] 66 (0, 0))) := ⟨H3.out.1.behind' HB4.out, (HB4.out.block f (Array.getElem?_eq_some_iff.1 H3.out.2.1).1).trans H3.out.2.1⟩
        have HN1 : Hid (∀ W, Below w2.heap.size w2 W → W.cell? ⟨n1, 0, none⟩ = some (.slice pk m.length ck) ∧ W.cell? ⟨n1, 1, none⟩ = some (.slice pv m.length cv) ∧ Kn W w.heap.size (.slice pk m.length ck) (.slice pv m.length cv) m) := fun W hW => by
          have hbx := (hW.block n1 (Array.getElem?_eq_some_iff.1 H2.out.1.box).1).trans H2.out.1.box
          exact ⟨by simp [World.cell?, hbx], by simp [World.cell?, hbx], H2.out.1.kn.below hW⟩
        have hans : ansB ov os ob = true := by
          rw [ansB, HOS.out.1, HOS.out.2]
          simp
        have hovm : getN m (nibs K.toList) = ov := by
          rw [← H2.out.2.2.2.2.1, HK.out.2.2.2.2.1]
          exact (H2.out.1.get _ (by rw [← HK.out.2.2.2.2.1, bytesOf_length, HK.out.2.2.1])).symm
        have HAns : Hid (∀ W, Below w2.heap.size w2 W → Calls Tryz.prog 32 #[.agg #[.slice pk m.length ck, .slice pv m.length cv], .agg (K.toList.map encB).toArray, .string os, .bool ob] W fun e w' => e = .returned (.bool true) ∧ Below W.heap.size W w') := fun W hW => by
          have := answered_any (HN1.out W hW).2.2 (by have := H2.out.1.few.1; omega) H2.out.1.few.2.1 HK.out.1 HK.out.2.1 os ob hovm
          rw [hans] at this
          exact this
        have HFl : Hid (w2.heap.size ≤ f) := H3.out.2.2
        clear hans hovm f0 f1 f2 f3 HB4 H3
        go_cut [18] (fun a wd => a = .bool true ∧ Below w2.heap.size w2 wd ∧ wd.heap[f]? = some (.cells #[.int .i64 0, .int .i64 0, .int .i64 0, .int .i64 0] 66 (0, 0)))
        case first => as_aux_lemma =>
          -- R15 BEGIN
          refine wp_region_any (by kernel_rfl) ?_
          change wpAny _ _ _ _ _ _ _ (World.drew _)
          obtain ⟨vf, hvf⟩ : ∃ vf : Nat → Option Value, vf = fun i => ([some (.agg #[.slice pk m.length ck, .slice pv m.length cv]), some (.slice (some ⟨g, 0, none⟩) Ks.length c9), some (.int .i64 (k : Int)), some (.pointer (some ⟨g, k * 32, none⟩)), some (.agg (K.toList.map encB).toArray), some (.string os), some (.bool ob), some (.bool true), some (.bool true)] : List (Option Value)).getD i none := ⟨_, rfl⟩
          refine wpAny_vary _ (fun d v w' => (∀ i x, vf i = some x → d i = true → v i = x) ∧ (fun d v w' => Below w2.heap.size w2 w' ∧ w'.heap[f]? = some (.cells #[.int .i64 0, .int .i64 0, .int .i64 0, .int .i64 0] 66 (0, 0))) d v w') (by kernel_rfl) (by kernel_rfl) ?_ _ (fun _ => undef) ?_ ?_
          · intro i o ho listed val b W hsat hnew hdeps hI
            have hi : i < 9 := (Array.getElem?_eq_some_iff.1 ho).1
            match i, hi with
            | 0, _ =>
              obtain rfl := Option.some.inj ho
              have t5 : b.tmps[5]? = some (.pointer (some ⟨n1, 0, none⟩)) := (hsat.rest 5 (fun i _ => noDst_of (by kernel_rfl) i)).trans rfl
              obtain ⟨z0, z1, _⟩ := HN1.out W hI.2.1
              refine Oper.wp_mono (K := fun a' w' => a' = b.put (some 74) (.agg #[.slice pk m.length ck, .slice pv m.length cv]) ∧ w' = W) (by rintro a' w' ⟨rfl, rfl⟩; exact ⟨_, rfl, vals_step hI.1 (by rw [hvf]; rfl), hI.2⟩) ?_
              clear ho hdeps hsat hI hnew hvf
              go_simp
            | 1, _ =>
              obtain rfl := Option.some.inj ho
              have t10 : b.tmps[10]? = some (.slice (some ⟨g, 0, none⟩) Ks.length c9) := (hsat.rest 10 (fun i _ => noDst_of (by kernel_rfl) i)).trans rfl
              refine Oper.wp_mono (K := fun a' w' => a' = b.put (some 75) (.slice (some ⟨g, 0, none⟩) Ks.length c9) ∧ w' = W) (by rintro a' w' ⟨rfl, rfl⟩; exact ⟨_, rfl, vals_step hI.1 (by rw [hvf]; rfl), hI.2⟩) ?_
              clear ho hdeps hsat hI hnew hvf
              go_simp
            | 2, _ =>
              obtain rfl := Option.some.inj ho
              have t11 : b.tmps[11]? = some (.int .i64 (k : Int)) := (hsat.rest 11 (fun i _ => noDst_of (by kernel_rfl) i)).trans rfl
              refine Oper.wp_mono (K := fun a' w' => a' = b.put (some 76) (.int .i64 (k : Int)) ∧ w' = W) (by rintro a' w' ⟨rfl, rfl⟩; exact ⟨_, rfl, vals_step hI.1 (by rw [hvf]; rfl), hI.2⟩) ?_
              clear ho hdeps hsat hI hnew hvf
              go_simp
            | 3, _ =>
              obtain rfl := Option.some.inj ho
              have t75 : b.tmps[75]? = some (.slice (some ⟨g, 0, none⟩) Ks.length c9) := (hsat.done 1 75 (hdeps ⟨1, .data⟩ (by simp) rfl) rfl (by simp)).trans (congrArg some (hI.1 1 _ (by rw [hvf]; rfl) (hdeps ⟨1, .data⟩ (by simp) rfl)))
              have t76 : b.tmps[76]? = some (.int .i64 (k : Int)) := (hsat.done 2 76 (hdeps ⟨2, .data⟩ (by simp) rfl) rfl (by simp)).trans (congrArg some (hI.1 2 _ (by rw [hvf]; rfl) (hdeps ⟨2, .data⟩ (by simp) rfl)))
              refine Oper.wp_mono (K := fun a' w' => a' = b.put (some 77) (.pointer (some ⟨g, k * 32, none⟩)) ∧ w' = W) (by rintro a' w' ⟨rfl, rfl⟩; exact ⟨_, rfl, vals_step hI.1 (by rw [hvf]; rfl), hI.2⟩) ?_
              clear ho hdeps hsat hI hnew hvf
              go_simp
            | 4, _ =>
              obtain rfl := Option.some.inj ho
              have t77 : b.tmps[77]? = some (.pointer (some ⟨g, k * 32, none⟩)) := (hsat.done 3 77 (hdeps ⟨3, .data⟩ (by simp) rfl) rfl (by simp)).trans (congrArg some (hI.1 3 _ (by rw [hvf]; rfl) (hdeps ⟨3, .data⟩ (by simp) rfl)))
              refine wp_load_mid 26 (.tmp 77) rfl g (k * 32) (by simp only [Act.eval, Array.getD_eq_getD_getElem?, t77, Option.getD_some]) (K.toList.map encB) _ (HR2.out W hI.2.1).2 hu26 rfl hzK ?_
              exact ⟨_, rfl, vals_step hI.1 (by rw [hvf]; rfl), hI.2⟩
            | 5, _ =>
              obtain rfl := Option.some.inj ho
              have t14 : b.tmps[14]? = some (.string os) := (hsat.rest 14 (fun i _ => noDst_of (by kernel_rfl) i)).trans rfl
              refine Oper.wp_mono (K := fun a' w' => a' = b.put (some 79) (.string os) ∧ w' = W) (by rintro a' w' ⟨rfl, rfl⟩; exact ⟨_, rfl, vals_step hI.1 (by rw [hvf]; rfl), hI.2⟩) ?_
              clear ho hdeps hsat hI hnew hvf
              go_simp
            | 6, _ =>
              obtain rfl := Option.some.inj ho
              have t15 : b.tmps[15]? = some (.bool ob) := (hsat.rest 15 (fun i _ => noDst_of (by kernel_rfl) i)).trans rfl
              refine Oper.wp_mono (K := fun a' w' => a' = b.put (some 80) (.bool ob) ∧ w' = W) (by rintro a' w' ⟨rfl, rfl⟩; exact ⟨_, rfl, vals_step hI.1 (by rw [hvf]; rfl), hI.2⟩) ?_
              clear ho hdeps hsat hI hnew hvf
              go_simp
            | 7, _ =>
              obtain rfl := Option.some.inj ho
              have t74 : b.tmps[74]? = some (.agg #[.slice pk m.length ck, .slice pv m.length cv]) := (hsat.done 0 74 (hdeps ⟨0, .data⟩ (by simp) rfl) rfl (by simp)).trans (congrArg some (hI.1 0 _ (by rw [hvf]; rfl) (hdeps ⟨0, .data⟩ (by simp) rfl)))
              have t78 : b.tmps[78]? = some (.agg (K.toList.map encB).toArray) := (hsat.done 4 78 (hdeps ⟨4, .data⟩ (by simp) rfl) rfl (by simp)).trans (congrArg some (hI.1 4 _ (by rw [hvf]; rfl) (hdeps ⟨4, .data⟩ (by simp) rfl)))
              have t79 : b.tmps[79]? = some (.string os) := (hsat.done 5 79 (hdeps ⟨5, .data⟩ (by simp) rfl) rfl (by simp)).trans (congrArg some (hI.1 5 _ (by rw [hvf]; rfl) (hdeps ⟨5, .data⟩ (by simp) rfl)))
              have t80 : b.tmps[80]? = some (.bool ob) := (hsat.done 6 80 (hdeps ⟨6, .data⟩ (by simp) rfl) rfl (by simp)).trans (congrArg some (hI.1 6 _ (by rw [hvf]; rfl) (hdeps ⟨6, .data⟩ (by simp) rfl)))
              obtain ⟨G, hG⟩ : ∃ G : Value → World → Prop, ∀ x w', G x w' ↔ ((∀ j y, vf j = some y → (fun k => if k = 7 then true else listed.getD k false) j = true → (fun k => if k = 7 then x else val k) j = y) ∧ Below w2.heap.size w2 w' ∧ w'.heap[f]? = some (.cells #[.int .i64 0, .int .i64 0, .int .i64 0, .int .i64 0] 66 (0, 0))) := ⟨_, fun _ _ => Iff.rfl⟩
              refine Oper.wp_mono (K := fun a' w' => ∃ v, a' = b.put (some 81) v ∧ G v w') (by rintro a' w' ⟨v, rfl, hv⟩; exact ⟨v, rfl, (hG v w').1 hv⟩) ?_
              have HG := Hid.hide hG
              have HI := Hid.hide hI
              have HVF := Hid.hide hvf
              clear hG ho hdeps hsat hI hnew hvf
              go_simp
              go_at_call 32
              refine (HAns.out W HI.out.2.1).mono ?_
              rintro e w9 ⟨rfl, hb9⟩
              exact ⟨_, rfl, (HG.out _ _).2 ⟨vals_step HI.out.1 (by rw [HVF.out]; rfl), HI.out.2.1.behind' hb9, (hb9.block f (Array.getElem?_eq_some_iff.1 HI.out.2.2).1).trans HI.out.2.2⟩⟩
            | 8, _ =>
              obtain rfl := Option.some.inj ho
              have t81 : b.tmps[81]? = some (.bool true) := (hsat.done 7 81 (hdeps ⟨7, .data⟩ (by simp) rfl) rfl (by simp)).trans (congrArg some (hI.1 7 _ (by rw [hvf]; rfl) (hdeps ⟨7, .data⟩ (by simp) rfl)))
              refine Oper.wp_mono (K := fun a' w' => a' = b.put (some 18) (.bool true) ∧ w' = W) (by rintro a' w' ⟨rfl, rfl⟩; exact ⟨_, rfl, vals_step hI.1 (by rw [hvf]; rfl), hI.2⟩) ?_
              clear ho hdeps hsat hI hnew hvf
              go_simp
          · exact ⟨fun _ _ _ h => (by simp at h), Below.drewN HB5.out.1 1, HB5.out.2⟩
          · intro val W hI
            have e0 : val 0 = .agg #[.slice pk m.length ck, .slice pv m.length cv] := hI.1 0 _ (by rw [hvf]; rfl) rfl
            have e1 : val 1 = .slice (some ⟨g, 0, none⟩) Ks.length c9 := hI.1 1 _ (by rw [hvf]; rfl) rfl
            have e2 : val 2 = .int .i64 (k : Int) := hI.1 2 _ (by rw [hvf]; rfl) rfl
            have e3 : val 3 = .pointer (some ⟨g, k * 32, none⟩) := hI.1 3 _ (by rw [hvf]; rfl) rfl
            have e4 : val 4 = .agg (K.toList.map encB).toArray := hI.1 4 _ (by rw [hvf]; rfl) rfl
            have e5 : val 5 = .string os := hI.1 5 _ (by rw [hvf]; rfl) rfl
            have e6 : val 6 = .bool ob := hI.1 6 _ (by rw [hvf]; rfl) rfl
            have e7 : val 7 = .bool true := hI.1 7 _ (by rw [hvf]; rfl) rfl
            have e8 : val 8 = .bool true := hI.1 8 _ (by rw [hvf]; rfl) rfl
            have hX := hI.2
            simp only [runFrom, Act.put, Nat.zero_add, Nat.reduceAdd, List.setIfInBounds_toArray, List.set_cons_zero, List.set_cons_succ, e0, e1, e2, e3, e4, e5, e6, e7, e8]
            clear hI hvf e0 e1 e2 e3 e4 e5 e6 e7 e8
            have HY : Hid (Below w2.heap.size w2 W ∧ W.heap[f]? = some (.cells #[.int .i64 0, .int .i64 0, .int .i64 0, .int .i64 0] 66 (0, 0))) := hX
            clear hX
            (try go_wp2)
            go_meet
            exact ⟨rfl, HY.out⟩
          -- R15 END
        case rest => as_aux_lemma =>
          obtain ⟨rfl, hb5, hcf⟩ := hcut
          have c0 := (HN1.out wc hb5).1
          have hno := no_iff H2.out.1.can H2.out.1.get (fun x hx => (H2.out.1.kn.ok x hx).1) p
          rw [HK.out.2.2.2.2.2.2.1] at hno
          obtain ⟨z0, hz0', hz1'⟩ : ∃ z0 : Bool, ((L.length : Int) == 0) = z0 ∧ ((m.length : Int) == 0) = z0 := by
            by_cases e : L.length = 0
            · exact ⟨true, by rw [e]; rfl, by rw [hno.1 e]; rfl⟩
            · exact ⟨false, by rw [beq_eq_false_iff_ne]; omega, by have := mt hno.2 e; rw [beq_eq_false_iff_ne]; omega⟩
          have H5 : Hid (Below w2.heap.size w2 wc ∧ wc.heap[f]? = some (.cells #[.int .i64 0, .int .i64 0, .int .i64 0, .int .i64 0] 66 (0, 0)) ∧ ((L.length : Int) == 0) = z0) := ⟨hb5, hcf, hz0'⟩
          clear hno hb5 hcf HAns HB5
          obtain ⟨zs, hzs⟩ : ∃ zs : List Nat, zs = List.replicate 32 0 := ⟨_, rfl⟩
          have hzl : zs.length = 32 := by rw [hzs]; rfl
          have hzb : ∀ x ∈ zs, x < 256 := by rw [hzs]; intro x hx; rw [List.eq_of_mem_replicate hx]; decide
          have hzZ := hash_size hzl
          obtain ⟨q1, hq1⟩ : ∃ q1, verF zs p L = q1 := ⟨_, rfl⟩
          obtain ⟨en, ep, ed, ea, hfv, hen, hen0⟩ := fault_four q1
          obtain ⟨s1, hs1⟩ : ∃ s1, verStr q1 = s1 := ⟨_, rfl⟩
          obtain ⟨b1, hb1⟩ : ∃ b1, verHas q1 = b1 := ⟨_, rfl⟩
          have HV1 : Hid (∀ W, Below w2.heap.size w2 W → Calls Tryz.prog 30 #[.agg (zs.map encB).toArray, .agg (K.toList.map encB).toArray, .slice pr L.length cr] W fun e w' => e = .returned (.tuple #[.string s1, .bool b1, faultV en ep ed ea]) ∧ Below W.heap.size W w') := fun W hb => by
            have := HVer.out W zs q1 hb hzl hzb hq1
            rw [hfv, hs1, hb1] at this
            exact this
          have HQ1 : Hid (zs.length = 32 ∧ (∀ x ∈ zs, x < 256) ∧ (D = zs → en = 0) ∧ (D ≠ zs → en ≠ 0)) := by
            refine ⟨hzl, hzb, fun e => ?_, fun e => ?_⟩
            · rw [← e, H2.out.2.2.2.1] at hq1
              exact hen0 _ hq1.symm
            · obtain ⟨er, her⟩ := ver_other H2.out.1.can (p := p) (h := zs) (by rw [HD.out]; exact e)
              rw [HK.out.2.2.2.2.2.2.1, hq1] at her
              have hsm := verF_simple (h := zs) (P := p) H2.out.2.2.2.2.2.2.2.2 (hq1.trans her)
              have := simple_num er hsm
              rw [(hen er her).1]
              intro h0
              rw [h0] at this
              revert this
              decide
          have hzc : (zs.map encB).toArray = zeroHash := by rw [hzs]; kernel_rfl
          have HZC := Hid.hide hzc
          clear hzs hzl hzb hq1 hfv hen hen0 hs1 hb1 hzc
          go_upto_region 19 with fail
          obtain ⟨wq, hwq⟩ : ∃ wq, wc.heap.size = wq := ⟨_, rfl⟩
          rw [hwq]
          generalize hw6 : wc.alloc _ = w6x
          have H6 : Hid (Below w2.heap.size w2 w6x ∧ w6x.rangeAt wq 0 (zs.map encB) ∧ w6x.heap[f]? = some (.cells #[.int .i64 0, .int .i64 0, .int .i64 0, .int .i64 0] 66 (0, 0))) := by
            obtain ⟨a1, a2, _⟩ := H5.out
            refine ⟨by rw [← hw6]; exact a1.alloc a1.size _, ?_, by rw [← hw6]; exact (Below.heap_alloc _ _ _ (Array.getElem?_eq_some_iff.1 a2).1).trans a2⟩
            rw [← hw6, ← hwq]
            have := rangeAt_new wc (zs.map encB) 34
            rw [HZC.out] at this
            exact this
          have HZL : Hid (0 < (zs.map encB).length) := by show 0 < (zs.map encB).length; rw [List.length_map, HQ1.out.1]; decide
          have HFL : Hid (w2.heap.size ≤ f ∧ wq ≠ f) := ⟨HFl.out, by
            have := (Array.getElem?_eq_some_iff.1 H5.out.2.1).1
            omega⟩
          go_cut [] (fun wd => Below w2.heap.size w2 wd ∧ wd.rangeAt wq 0 (zs.map encB) ∧ wd.heap[f]? = some (.cells #[.int .i64 (en : Int), .int .i64 (ep : Int), .int .i64 (ed : Int), .int .i64 (ea : Int)] 66 (0, 0)))
          case first => as_aux_lemma =>
            -- R19 BEGIN
            refine wp_region_any (by kernel_rfl) ?_
            change wpAny _ _ _ _ _ _ _ (World.drew _)
            obtain ⟨vf, hvf⟩ : ∃ vf : Nat → Option Value, vf = fun i => ([some (.agg (zs.map encB).toArray), some (.slice (some ⟨g, 0, none⟩) Ks.length c9), some (.int .i64 (k : Int)), some (.pointer (some ⟨g, k * 32, none⟩)), some (.agg (K.toList.map encB).toArray), some (.slice pr L.length cr), some (.tuple #[.string s1, .bool b1, faultV en ep ed ea]), some (.tuple #[.string s1, .bool b1, faultV en ep ed ea]), some (.string s1), some (.bool b1), some (faultV en ep ed ea), none] : List (Option Value)).getD i none := ⟨_, rfl⟩
            refine wpAny_vary _ (fun d v w' => (∀ i x, vf i = some x → d i = true → v i = x) ∧ (fun d v w' => Below w2.heap.size w2 w' ∧ w'.rangeAt wq 0 (zs.map encB) ∧ (d 11 = false → w'.heap[f]? = some (.cells #[.int .i64 0, .int .i64 0, .int .i64 0, .int .i64 0] 66 (0, 0))) ∧ (d 11 = true → w'.heap[f]? = some (.cells #[.int .i64 (en : Int), .int .i64 (ep : Int), .int .i64 (ed : Int), .int .i64 (ea : Int)] 66 (0, 0)))) d v w') (by kernel_rfl) (by kernel_rfl) ?_ _ (fun _ => undef) ?_ ?_
            · intro i o ho listed val b W hsat hnew hdeps hI
              have hi : i < 12 := (Array.getElem?_eq_some_iff.1 ho).1
              match i, hi with
              | 0, _ =>
                obtain rfl := Option.some.inj ho
                have t19 : b.tmps[19]? = some (.pointer (some ⟨wq, 0, none⟩)) := (hsat.rest 19 (fun i _ => noDst_of (by kernel_rfl) i)).trans rfl
                refine wp_load_mid 34 (.tmp 19) rfl wq 0 (by simp only [Act.eval, Array.getD_eq_getD_getElem?, t19, Option.getD_some]) (zs.map encB) _ hI.2.2.1 hu34 rfl hzZ ?_
                exact ⟨_, rfl, vals_step hI.1 (by rw [hvf]; rfl), hI.2⟩
              | 1, _ =>
                obtain rfl := Option.some.inj ho
                have t10 : b.tmps[10]? = some (.slice (some ⟨g, 0, none⟩) Ks.length c9) := (hsat.rest 10 (fun i _ => noDst_of (by kernel_rfl) i)).trans rfl
                refine Oper.wp_mono (K := fun a' w' => a' = b.put (some 104) (.slice (some ⟨g, 0, none⟩) Ks.length c9) ∧ w' = W) (by rintro a' w' ⟨rfl, rfl⟩; exact ⟨_, rfl, vals_step hI.1 (by rw [hvf]; rfl), hI.2⟩) ?_
                clear ho hdeps hsat hI hnew hvf
                go_simp
              | 2, _ =>
                obtain rfl := Option.some.inj ho
                have t11 : b.tmps[11]? = some (.int .i64 (k : Int)) := (hsat.rest 11 (fun i _ => noDst_of (by kernel_rfl) i)).trans rfl
                refine Oper.wp_mono (K := fun a' w' => a' = b.put (some 105) (.int .i64 (k : Int)) ∧ w' = W) (by rintro a' w' ⟨rfl, rfl⟩; exact ⟨_, rfl, vals_step hI.1 (by rw [hvf]; rfl), hI.2⟩) ?_
                clear ho hdeps hsat hI hnew hvf
                go_simp
              | 3, _ =>
                obtain rfl := Option.some.inj ho
                have t104 : b.tmps[104]? = some (.slice (some ⟨g, 0, none⟩) Ks.length c9) := (hsat.done 1 104 (hdeps ⟨1, .data⟩ (by simp) rfl) rfl (by simp)).trans (congrArg some (hI.1 1 _ (by rw [hvf]; rfl) (hdeps ⟨1, .data⟩ (by simp) rfl)))
                have t105 : b.tmps[105]? = some (.int .i64 (k : Int)) := (hsat.done 2 105 (hdeps ⟨2, .data⟩ (by simp) rfl) rfl (by simp)).trans (congrArg some (hI.1 2 _ (by rw [hvf]; rfl) (hdeps ⟨2, .data⟩ (by simp) rfl)))
                refine Oper.wp_mono (K := fun a' w' => a' = b.put (some 106) (.pointer (some ⟨g, k * 32, none⟩)) ∧ w' = W) (by rintro a' w' ⟨rfl, rfl⟩; exact ⟨_, rfl, vals_step hI.1 (by rw [hvf]; rfl), hI.2⟩) ?_
                clear ho hdeps hsat hI hnew hvf
                go_simp
              | 4, _ =>
                obtain rfl := Option.some.inj ho
                have t106 : b.tmps[106]? = some (.pointer (some ⟨g, k * 32, none⟩)) := (hsat.done 3 106 (hdeps ⟨3, .data⟩ (by simp) rfl) rfl (by simp)).trans (congrArg some (hI.1 3 _ (by rw [hvf]; rfl) (hdeps ⟨3, .data⟩ (by simp) rfl)))
                refine wp_load_mid 26 (.tmp 106) rfl g (k * 32) (by simp only [Act.eval, Array.getD_eq_getD_getElem?, t106, Option.getD_some]) (K.toList.map encB) _ (HR2.out W hI.2.1).2 hu26 rfl hzK ?_
                exact ⟨_, rfl, vals_step hI.1 (by rw [hvf]; rfl), hI.2⟩
              | 5, _ =>
                obtain rfl := Option.some.inj ho
                have t12 : b.tmps[12]? = some (.slice pr L.length cr) := (hsat.rest 12 (fun i _ => noDst_of (by kernel_rfl) i)).trans rfl
                refine Oper.wp_mono (K := fun a' w' => a' = b.put (some 108) (.slice pr L.length cr) ∧ w' = W) (by rintro a' w' ⟨rfl, rfl⟩; exact ⟨_, rfl, vals_step hI.1 (by rw [hvf]; rfl), hI.2⟩) ?_
                clear ho hdeps hsat hI hnew hvf
                go_simp
              | 6, _ =>
                obtain rfl := Option.some.inj ho
                have t103 : b.tmps[103]? = some (.agg (zs.map encB).toArray) := (hsat.done 0 103 (hdeps ⟨0, .data⟩ (by simp) rfl) rfl (by simp)).trans (congrArg some (hI.1 0 _ (by rw [hvf]; rfl) (hdeps ⟨0, .data⟩ (by simp) rfl)))
                have t107 : b.tmps[107]? = some (.agg (K.toList.map encB).toArray) := (hsat.done 4 107 (hdeps ⟨4, .data⟩ (by simp) rfl) rfl (by simp)).trans (congrArg some (hI.1 4 _ (by rw [hvf]; rfl) (hdeps ⟨4, .data⟩ (by simp) rfl)))
                have t108 : b.tmps[108]? = some (.slice pr L.length cr) := (hsat.done 5 108 (hdeps ⟨5, .data⟩ (by simp) rfl) rfl (by simp)).trans (congrArg some (hI.1 5 _ (by rw [hvf]; rfl) (hdeps ⟨5, .data⟩ (by simp) rfl)))
                obtain ⟨G, hG⟩ : ∃ G : Value → World → Prop, ∀ x w', G x w' ↔ ((∀ j y, vf j = some y → (fun k => if k = 6 then true else listed.getD k false) j = true → (fun k => if k = 6 then x else val k) j = y) ∧ Below w2.heap.size w2 w' ∧ w'.rangeAt wq 0 (zs.map encB) ∧ (listed.getD 11 false = false → w'.heap[f]? = some (.cells #[.int .i64 0, .int .i64 0, .int .i64 0, .int .i64 0] 66 (0, 0))) ∧ (listed.getD 11 false = true → w'.heap[f]? = some (.cells #[.int .i64 (en : Int), .int .i64 (ep : Int), .int .i64 (ed : Int), .int .i64 (ea : Int)] 66 (0, 0)))) := ⟨_, fun _ _ => Iff.rfl⟩
                refine Oper.wp_mono (K := fun a' w' => ∃ v, a' = b.put (some 109) v ∧ G v w') (by rintro a' w' ⟨v, rfl, hv⟩; exact ⟨v, rfl, (hG v w').1 hv⟩) ?_
                have HG := Hid.hide hG
                have HI := Hid.hide hI
                have HVF := Hid.hide hvf
                clear hG ho hdeps hsat hI hnew hvf
                go_simp
                go_at_call 30
                refine (HV1.out W HI.out.2.1).mono ?_
                rintro e w9 ⟨rfl, hb9⟩
                have hqs := HI.out.2.2.1
                exact ⟨_, rfl, (HG.out _ _).2 ⟨vals_step HI.out.1 (by rw [HVF.out]; rfl), HI.out.2.1.behind' hb9, rangeAt_block hqs (hb9.block wq (range_lt hqs HZL.out)), fun q => (hb9.block f (Array.getElem?_eq_some_iff.1 (HI.out.2.2.2.1 q)).1).trans (HI.out.2.2.2.1 q), fun q => (hb9.block f (Array.getElem?_eq_some_iff.1 (HI.out.2.2.2.2 q)).1).trans (HI.out.2.2.2.2 q)⟩⟩
              | 7, _ =>
                obtain rfl := Option.some.inj ho
                have t109 : b.tmps[109]? = some (.tuple #[.string s1, .bool b1, faultV en ep ed ea]) := (hsat.done 6 109 (hdeps ⟨6, .data⟩ (by simp) rfl) rfl (by simp)).trans (congrArg some (hI.1 6 _ (by rw [hvf]; rfl) (hdeps ⟨6, .data⟩ (by simp) rfl)))
                refine Oper.wp_mono (K := fun a' w' => a' = b.put (some 102) (.tuple #[.string s1, .bool b1, faultV en ep ed ea]) ∧ w' = W) (by rintro a' w' ⟨rfl, rfl⟩; exact ⟨_, rfl, vals_step hI.1 (by rw [hvf]; rfl), hI.2⟩) ?_
                clear ho hdeps hsat hI hnew hvf
                go_simp
              | 8, _ =>
                obtain rfl := Option.some.inj ho
                have t102 : b.tmps[102]? = some (.tuple #[.string s1, .bool b1, faultV en ep ed ea]) := (hsat.done 7 102 (hdeps ⟨7, .data⟩ (by simp) rfl) rfl (by simp)).trans (congrArg some (hI.1 7 _ (by rw [hvf]; rfl) (hdeps ⟨7, .data⟩ (by simp) rfl)))
                refine Oper.wp_mono (K := fun a' w' => a' = b.put (some 110) (.string s1) ∧ w' = W) (by rintro a' w' ⟨rfl, rfl⟩; exact ⟨_, rfl, vals_step hI.1 (by rw [hvf]; rfl), hI.2⟩) ?_
                clear ho hdeps hsat hI hnew hvf
                go_simp
              | 9, _ =>
                obtain rfl := Option.some.inj ho
                have t102 : b.tmps[102]? = some (.tuple #[.string s1, .bool b1, faultV en ep ed ea]) := (hsat.done 7 102 (hdeps ⟨7, .data⟩ (by simp) rfl) rfl (by simp)).trans (congrArg some (hI.1 7 _ (by rw [hvf]; rfl) (hdeps ⟨7, .data⟩ (by simp) rfl)))
                refine Oper.wp_mono (K := fun a' w' => a' = b.put (some 111) (.bool b1) ∧ w' = W) (by rintro a' w' ⟨rfl, rfl⟩; exact ⟨_, rfl, vals_step hI.1 (by rw [hvf]; rfl), hI.2⟩) ?_
                clear ho hdeps hsat hI hnew hvf
                go_simp
              | 10, _ =>
                obtain rfl := Option.some.inj ho
                have t102 : b.tmps[102]? = some (.tuple #[.string s1, .bool b1, faultV en ep ed ea]) := (hsat.done 7 102 (hdeps ⟨7, .data⟩ (by simp) rfl) rfl (by simp)).trans (congrArg some (hI.1 7 _ (by rw [hvf]; rfl) (hdeps ⟨7, .data⟩ (by simp) rfl)))
                refine Oper.wp_mono (K := fun a' w' => a' = b.put (some 112) (faultV en ep ed ea) ∧ w' = W) (by rintro a' w' ⟨rfl, rfl⟩; exact ⟨_, rfl, vals_step hI.1 (by rw [hvf]; rfl), hI.2⟩) ?_
                clear ho hdeps hsat hI hnew hvf
                go_simp
              | 11, _ =>
                obtain rfl := Option.some.inj ho
                have t16 : b.tmps[16]? = some (.pointer (some ⟨f, 0, none⟩)) := (hsat.rest 16 (fun i _ => noDst_of (by kernel_rfl) i)).trans rfl
                have t112 : b.tmps[112]? = some (faultV en ep ed ea) := (hsat.done 10 112 (hdeps ⟨10, .data⟩ (by simp) rfl) rfl (by simp)).trans (congrArg some (hI.1 10 _ (by rw [hvf]; rfl) (hdeps ⟨10, .data⟩ (by simp) rfl)))
                refine wp_store_mid 66 (.tmp 16) (.tmp 112) rfl f 0 #[.int .i64 (en : Int), .int .i64 (ep : Int), .int .i64 (ed : Int), .int .i64 (ea : Int)] (by simp only [Act.eval, Array.getD_eq_getD_getElem?, t16, Option.getD_some]) (by simp only [Act.eval, Array.getD_eq_getD_getElem?, t112, Option.getD_some] <;> rfl) (there_cells (hI.2.2.2.1 hnew) rfl) (by kernel_rfl) (by simp [Value.oneCell']) ?_
                exact ⟨_, rfl, vals_free hI.1 (by rw [hvf]; rfl), fault_below hI.2.1 HFL.out.1 _ _ _ _, rangeAt_block hI.2.2.1 (fault_other HFL.out.2 _ _ _ _), fun q => (by simp at q), fun _ => fault_set (hI.2.2.2.1 hnew) _ _ _ _⟩
            · exact ⟨fun _ _ _ h => (by simp at h), Below.drewN H6.out.1 1, H6.out.2.1, fun _ => H6.out.2.2, fun q => (by simp at q)⟩
            · intro val W hI
              have e0 : val 0 = .agg (zs.map encB).toArray := hI.1 0 _ (by rw [hvf]; rfl) rfl
              have e1 : val 1 = .slice (some ⟨g, 0, none⟩) Ks.length c9 := hI.1 1 _ (by rw [hvf]; rfl) rfl
              have e2 : val 2 = .int .i64 (k : Int) := hI.1 2 _ (by rw [hvf]; rfl) rfl
              have e3 : val 3 = .pointer (some ⟨g, k * 32, none⟩) := hI.1 3 _ (by rw [hvf]; rfl) rfl
              have e4 : val 4 = .agg (K.toList.map encB).toArray := hI.1 4 _ (by rw [hvf]; rfl) rfl
              have e5 : val 5 = .slice pr L.length cr := hI.1 5 _ (by rw [hvf]; rfl) rfl
              have e6 : val 6 = .tuple #[.string s1, .bool b1, faultV en ep ed ea] := hI.1 6 _ (by rw [hvf]; rfl) rfl
              have e7 : val 7 = .tuple #[.string s1, .bool b1, faultV en ep ed ea] := hI.1 7 _ (by rw [hvf]; rfl) rfl
              have e8 : val 8 = .string s1 := hI.1 8 _ (by rw [hvf]; rfl) rfl
              have e9 : val 9 = .bool b1 := hI.1 9 _ (by rw [hvf]; rfl) rfl
              have e10 : val 10 = faultV en ep ed ea := hI.1 10 _ (by rw [hvf]; rfl) rfl
              have hX := hI.2
              simp only [runFrom, Act.put, Nat.zero_add, Nat.reduceAdd, List.setIfInBounds_toArray, List.set_cons_zero, List.set_cons_succ, e0, e1, e2, e3, e4, e5, e6, e7, e8, e9, e10]
              clear hI hvf e0 e1 e2 e3 e4 e5 e6 e7 e8 e9 e10
              obtain ⟨q1, q2, _, q4⟩ := hX
              have HY : Hid (Below w2.heap.size w2 W ∧ W.rangeAt wq 0 (zs.map encB) ∧ W.heap[f]? = some (.cells #[.int .i64 (en : Int), .int .i64 (ep : Int), .int .i64 (ed : Int), .int .i64 (ea : Int)] 66 (0, 0))) := ⟨q1, q2, q4 rfl⟩
              clear q1 q2 q4
              (try go_wp2)
              go_meet
              exact HY.out
            -- R19 END
          case rest => as_aux_lemma =>
            obtain ⟨hb7, hrz, hcf⟩ := hcut
            obtain ⟨f0, f1, f2, f3, -⟩ := fault_cells hcf
            have hh7 := (HR2.out wc hb7).1
            have hca1 : cellsAt wc hb 32 = (D.map encB).toArray := cellsAt_of_range hh7 (by rw [List.length_map, H2.out.2.2.2.2.2.1])
            have hha1 : HasCells wc hb 32 := hasCells_of_range hh7 (by rw [List.length_map, H2.out.2.2.2.2.2.1])
            have hca2 : cellsAt wc wq 32 = (zs.map encB).toArray := cellsAt_of_range hrz (by rw [List.length_map, HQ1.out.1])
            have hha2 : HasCells wc wq 32 := hasCells_of_range hrz (by rw [List.length_map, HQ1.out.1])
            have hcmp := fun W => hash_cmp D zs H2.out.2.2.2.2.2.1 HQ1.out.1 H2.out.2.2.2.2.2.2.1 HQ1.out.2.1 W
            obtain ⟨zb, hzb⟩ : ∃ zb, decide (D = zs) = zb := ⟨_, rfl⟩
            rw [hzb] at hcmp
            have he0 : ((en : Int) == 0) = zb := by
              cases zb with
              | true => rw [HQ1.out.2.2.1 (of_decide_eq_true hzb)]; rfl
              | false => have := HQ1.out.2.2.2 (of_decide_eq_false hzb); rw [beq_eq_false_iff_ne]; omega
            have H7 : Hid (Below w2.heap.size w2 wc ∧ wc.heap[f]? = some (.cells #[.int .i64 (en : Int), .int .i64 (ep : Int), .int .i64 (ed : Int), .int .i64 (ea : Int)] 66 (0, 0))) := ⟨hb7, hcf⟩
            clear hb7 hrz hcf hh7 hzb H6 HV1 HQ1 HZC HZL hw6
            have HZ0 := Hid.hide hz0'
            go_upto_region 20 with fail
            go_cut [120] (fun a wd => a = .bool false ∧ wd = wc)
            case first =>
              cases zb
              all_goals go_wp2
              all_goals go_meet
              all_goals exact ⟨rfl, rfl⟩
            case rest => as_aux_lemma =>
              obtain ⟨rfl, rfl⟩ := hcut
              have HFrE : Hid (∀ W, Below w2.heap.size w2 W → Fr B S S w9 W) := fun W hW => H2.out.2.1.behind hW
              have HW64 : Hid (wrap64 ((k : Int) + 1) = ((k + 1 : Nat) : Int)) := sum_few k 1 (by have := HK.out.2.2.2.2.2.2.2.2.2.2; omega)
              clear f0 f1 f2 f3 hca1 hha1 hca2 hha2 hcmp he0
              cases z0 with
              | true =>
                go_wp2
                go_roundg (Ks.length - (k + 1))
                case measure => omega
                case rel => exact ⟨k + 1, by omega, rfl, by rw [HW64.out], HFrE.out _ H7.out.1⟩
              | false =>
                go_upto_region 23 with fail
                obtain ⟨c1', L', hL1⟩ : ∃ c L', L = c :: L' := by
                  cases hLc : L with
                  | nil => rw [hLc] at hz0'; cases hz0'
                  | cons c L' => exact ⟨c, L', rfl⟩
                obtain ⟨gp, egp, hgC, hgl⟩ : ∃ gp, pr = some ⟨gp, 0, none⟩ ∧ wr.heap.size ≤ gp ∧ gp < w2.heap.size := by
                  rcases H2.out.2.2.1.2 with ⟨_, e2⟩ | ⟨gp, cap, e1, e2, e3, _⟩
                  · rw [e2] at hz0'; cases hz0'
                  · simp only [Value.slice.injEq] at e1
                    exact ⟨gp, e1.1, e2, e3⟩
                subst egp
                obtain ⟨sc, hsc⟩ : ∃ sc, textB c1' = sc := ⟨_, rfl⟩
                obtain ⟨j0, hj, hy0, hy1, hy2⟩ := info_parts strZ
                have HGP : Hid (gp < w2.heap.size ∧ gp ≠ f ∧ w2.heap.size ≤ f) := ⟨hgl, by have := HFl.out; omega, HFl.out⟩
                have HGC : Hid (wr.heap.size ≤ gp ∧ L = c1' :: L' ∧ textB c1' = sc ∧ w9.heap.size ≤ gp) := ⟨hgC, hL1, hsc, by have := HFrW.out; omega⟩
                have HRX : Hid (∀ W, Only gp w2 W → W.rangeAt hb 0 (D.map encB) ∧ W.rangeAt g (k * 32) (K.toList.map encB)) := fun W hW => by
                  obtain ⟨r1, r2⟩ := HR2.out w2 (Below.refl _ _)
                  refine ⟨rangeAt_block r1 (hW.block hb H2.out.1.hashS.2 (by have := HHB.out; omega)), rangeAt_block r2 (hW.block g (by have := HK.out.2.2.2.2.2.2.2.2.1; omega) (by have := HK.out.2.2.2.2.2.2.2.2.1; omega))⟩
                have HF1 : Hid (∀ W, OwnC W wr.heap.size 1 (.slice (some ⟨gp, 0, none⟩) L.length cr) L.length (strs L) → W.cell? ⟨gp, 0, none⟩ = some (.string sc)) := fun W hO => by
                  rcases hO.2 with ⟨e1, _⟩ | ⟨gp', cap, e1, _, _, _, _, _, hr⟩
                  · simp at e1
                  · simp only [Value.slice.injEq, Option.some.injEq, Addr.mk.injEq] at e1
                    obtain ⟨⟨rfl, _⟩, _⟩ := e1
                    have := hr 0 (.string sc) (by rw [hL1, ← hsc]; rfl)
                    exact this
                have HV2 : Hid (∀ W v, Only gp w2 W → OwnC W wr.heap.size 1 v (L.length + 1) (strs L ++ [.string sc]) → Calls Tryz.prog 30 #[.agg (D.map encB).toArray, .agg (K.toList.map encB).toArray, v] W fun e w' => e = .returned (.tuple #[.string ⟨#[]⟩, .bool false, faultV 4 0 L.length 0]) ∧ Below W.heap.size W w') := fun W v hW hO => by
                  have e1 : strs L ++ [.string sc] = strs (L ++ [c1']) := by unfold strs; rw [List.map_append, ← hsc]; rfl
                  rw [e1, show L.length + 1 = (L ++ [c1']).length by simp] at hO
                  obtain ⟨p', c', rfl, hsr, _⟩ := strRow_of hO
                  have hne : t ≠ .no := fun e => by
                    have := HK.out.2.2.2.2.2.2.1
                    rw [e, prove_no, hL1] at this
                    cases this
                  have hq := ver_more H2.out.1.can hne HK.out.2.2.1 HK.out.2.2.2.1 c1'
                  rw [HD.out, HK.out.2.2.2.2.2.2.1] at hq
                  have hLb := H2.out.2.2.2.2.2.2.2.2
                  exact xver_codes sent HE.out (hW.below H2.out.1.below (by have := H2.out.1.below.size; have := HWr.out; omega) H2.out.1.below.size) D K (L ++ [c1']) p' c' H2.out.2.2.2.2.2.1 H2.out.2.2.2.2.2.2.1 HK.out.1 HK.out.2.1 hsr (by have := H2.out.2.2.2.2.2.2.2.1; simp; omega) (fun c hc => by
                    rcases List.mem_append.1 hc with h | h
                    · exact hLb c h
                    · obtain rfl : c = c1' := by simpa using h
                      exact hLb c (by rw [hL1]; exact List.mem_cons_self ..)) (q := .error (.inNode L.length (.base 4))) (by rw [HK.out.2.2.2.2.2.1]; exact hq)
                have HX23 : Hid (App23 w2 wr.heap.size gp cr f L sc en ep ed ea false false false undef undef wc.drew) := ⟨.of_below (Below.drewN H7.out.1 1), (H2.out.2.2.1.below H7.out.1).keep (Nat.le_refl _) fun _ _ _ => rfl, fun _ => H7.out.2, fun q => (by cases q), fun q => (by cases q), fun q => (by cases q), fun q => (by cases q), fun q => (by cases q)⟩
                have hLpos : 0 < L.length := by rw [hL1]; simp
                clear hL1 hgC hgl hsc
                go_cut [] (fun wd => Only gp w2 wd ∧ OwnC wd wr.heap.size 1 (.slice (some ⟨gp, 0, none⟩) L.length cr) L.length (strs L) ∧ wd.heap[f]? = some (.cells #[.int .i64 4, .int .i64 0, .int .i64 (L.length : Int), .int .i64 0] 66 (0, 0)))
                case first => as_aux_lemma =>
                  -- R23 BEGIN
                  refine wp_region_any (by kernel_rfl) ?_
                  change wpAny _ _ _ _ _ _ _ (World.drew _)
                  obtain ⟨vf, hvf⟩ : ∃ vf : Nat → Option Value, vf = fun i => ([some (.agg (D.map encB).toArray), some (.slice (some ⟨g, 0, none⟩) Ks.length c9), some (.int .i64 (k : Int)), some (.pointer (some ⟨g, k * 32, none⟩)), some (.agg (K.toList.map encB).toArray), some (.slice (some ⟨gp, 0, none⟩) L.length cr), some (.slice (some ⟨gp, 0, none⟩) L.length cr), some (.pointer (some ⟨gp, 0, none⟩)), some (.string sc), none, none, some (.tuple #[.string ⟨#[]⟩, .bool false, faultV 4 0 L.length 0]), some (.tuple #[.string ⟨#[]⟩, .bool false, faultV 4 0 L.length 0]), some (.string ⟨#[]⟩), some (.bool false), some (faultV 4 0 L.length 0), none] : List (Option Value)).getD i none := ⟨_, rfl⟩
                  refine wpAny_vary _ (fun d v w' => (∀ i x, vf i = some x → d i = true → v i = x) ∧ (fun d v w' => App23 w2 wr.heap.size gp cr f L sc en ep ed ea (d 9) (d 10) (d 16) (v 9) (v 10) w') d v w') (by kernel_rfl) (by kernel_rfl) ?_ _ (fun _ => undef) ?_ ?_
                  · intro i o ho listed val b W hsat hnew hdeps hI
                    have hi : i < 17 := (Array.getElem?_eq_some_iff.1 ho).1
                    match i, hi with
                    | 0, _ =>
                      obtain rfl := Option.some.inj ho
                      have t8 : b.tmps[8]? = some (.pointer (some ⟨hb, 0, none⟩)) := (hsat.rest 8 (fun i _ => noDst_of (by kernel_rfl) i)).trans rfl
                      refine wp_load_mid 34 (.tmp 8) rfl hb 0 (by simp only [Act.eval, Array.getD_eq_getD_getElem?, t8, Option.getD_some]) (D.map encB) _ (HRX.out W hI.2.only).1 hu34 rfl hzD ?_
                      exact ⟨_, rfl, vals_step hI.1 (by rw [hvf]; rfl), hI.2⟩
                    | 1, _ =>
                      obtain rfl := Option.some.inj ho
                      have t10 : b.tmps[10]? = some (.slice (some ⟨g, 0, none⟩) Ks.length c9) := (hsat.rest 10 (fun i _ => noDst_of (by kernel_rfl) i)).trans rfl
                      refine Oper.wp_mono (K := fun a' w' => a' = b.put (some 126) (.slice (some ⟨g, 0, none⟩) Ks.length c9) ∧ w' = W) (by rintro a' w' ⟨rfl, rfl⟩; exact ⟨_, rfl, vals_step hI.1 (by rw [hvf]; rfl), hI.2⟩) ?_
                      clear ho hdeps hsat hI hnew hvf
                      go_simp
                    | 2, _ =>
                      obtain rfl := Option.some.inj ho
                      have t11 : b.tmps[11]? = some (.int .i64 (k : Int)) := (hsat.rest 11 (fun i _ => noDst_of (by kernel_rfl) i)).trans rfl
                      refine Oper.wp_mono (K := fun a' w' => a' = b.put (some 127) (.int .i64 (k : Int)) ∧ w' = W) (by rintro a' w' ⟨rfl, rfl⟩; exact ⟨_, rfl, vals_step hI.1 (by rw [hvf]; rfl), hI.2⟩) ?_
                      clear ho hdeps hsat hI hnew hvf
                      go_simp
                    | 3, _ =>
                      obtain rfl := Option.some.inj ho
                      have t126 : b.tmps[126]? = some (.slice (some ⟨g, 0, none⟩) Ks.length c9) := (hsat.done 1 126 (hdeps ⟨1, .data⟩ (by simp) rfl) rfl (by simp)).trans (congrArg some (hI.1 1 _ (by rw [hvf]; rfl) (hdeps ⟨1, .data⟩ (by simp) rfl)))
                      have t127 : b.tmps[127]? = some (.int .i64 (k : Int)) := (hsat.done 2 127 (hdeps ⟨2, .data⟩ (by simp) rfl) rfl (by simp)).trans (congrArg some (hI.1 2 _ (by rw [hvf]; rfl) (hdeps ⟨2, .data⟩ (by simp) rfl)))
                      refine Oper.wp_mono (K := fun a' w' => a' = b.put (some 128) (.pointer (some ⟨g, k * 32, none⟩)) ∧ w' = W) (by rintro a' w' ⟨rfl, rfl⟩; exact ⟨_, rfl, vals_step hI.1 (by rw [hvf]; rfl), hI.2⟩) ?_
                      clear ho hdeps hsat hI hnew hvf
                      go_simp
                    | 4, _ =>
                      obtain rfl := Option.some.inj ho
                      have t128 : b.tmps[128]? = some (.pointer (some ⟨g, k * 32, none⟩)) := (hsat.done 3 128 (hdeps ⟨3, .data⟩ (by simp) rfl) rfl (by simp)).trans (congrArg some (hI.1 3 _ (by rw [hvf]; rfl) (hdeps ⟨3, .data⟩ (by simp) rfl)))
                      refine wp_load_mid 26 (.tmp 128) rfl g (k * 32) (by simp only [Act.eval, Array.getD_eq_getD_getElem?, t128, Option.getD_some]) (K.toList.map encB) _ (HRX.out W hI.2.only).2 hu26 rfl hzK ?_
                      exact ⟨_, rfl, vals_step hI.1 (by rw [hvf]; rfl), hI.2⟩
                    | 5, _ =>
                      obtain rfl := Option.some.inj ho
                      have t12 : b.tmps[12]? = some (.slice (some ⟨gp, 0, none⟩) L.length cr) := (hsat.rest 12 (fun i _ => noDst_of (by kernel_rfl) i)).trans rfl
                      refine Oper.wp_mono (K := fun a' w' => a' = b.put (some 130) (.slice (some ⟨gp, 0, none⟩) L.length cr) ∧ w' = W) (by rintro a' w' ⟨rfl, rfl⟩; exact ⟨_, rfl, vals_step hI.1 (by rw [hvf]; rfl), hI.2⟩) ?_
                      clear ho hdeps hsat hI hnew hvf
                      go_simp
                    | 6, _ =>
                      obtain rfl := Option.some.inj ho
                      have t12 : b.tmps[12]? = some (.slice (some ⟨gp, 0, none⟩) L.length cr) := (hsat.rest 12 (fun i _ => noDst_of (by kernel_rfl) i)).trans rfl
                      refine Oper.wp_mono (K := fun a' w' => a' = b.put (some 131) (.slice (some ⟨gp, 0, none⟩) L.length cr) ∧ w' = W) (by rintro a' w' ⟨rfl, rfl⟩; exact ⟨_, rfl, vals_step hI.1 (by rw [hvf]; rfl), hI.2⟩) ?_
                      clear ho hdeps hsat hI hnew hvf
                      go_simp
                    | 7, _ =>
                      obtain rfl := Option.some.inj ho
                      have t131 : b.tmps[131]? = some (.slice (some ⟨gp, 0, none⟩) L.length cr) := (hsat.done 6 131 (hdeps ⟨6, .data⟩ (by simp) rfl) rfl (by simp)).trans (congrArg some (hI.1 6 _ (by rw [hvf]; rfl) (hdeps ⟨6, .data⟩ (by simp) rfl)))
                      refine Oper.wp_mono (K := fun a' w' => a' = b.put (some 132) (.pointer (some ⟨gp, 0, none⟩)) ∧ w' = W) (by rintro a' w' ⟨rfl, rfl⟩; exact ⟨_, rfl, vals_step hI.1 (by rw [hvf]; rfl), hI.2⟩) ?_
                      clear ho hdeps hsat hI hnew hvf
                      go_simp
                    | 8, _ =>
                      obtain rfl := Option.some.inj ho
                      have t132 : b.tmps[132]? = some (.pointer (some ⟨gp, 0, none⟩)) := (hsat.done 7 132 (hdeps ⟨7, .data⟩ (by simp) rfl) rfl (by simp)).trans (congrArg some (hI.1 7 _ (by rw [hvf]; rfl) (hdeps ⟨7, .data⟩ (by simp) rfl)))
                      have c0 := HF1.out W hI.2.row
                      refine Oper.wp_mono (K := fun a' w' => a' = b.put (some 133) (.string sc) ∧ w' = W) (by rintro a' w' ⟨rfl, rfl⟩; exact ⟨_, rfl, vals_step hI.1 (by rw [hvf]; rfl), hI.2⟩) ?_
                      clear ho hdeps hsat hI hnew hvf
                      go_simp
                    | 9, _ =>
                      obtain rfl := Option.some.inj ho
                      have t133 : b.tmps[133]? = some (.string sc) := (hsat.done 8 133 (hdeps ⟨8, .data⟩ (by simp) rfl) rfl (by simp)).trans (congrArg some (hI.1 8 _ (by rw [hvf]; rfl) (hdeps ⟨8, .data⟩ (by simp) rfl)))
                      have h23 := hI.2
                      simp only [hnew] at h23
                      refine Oper.wp_mono (K := fun a' w' => a' = b.put (some 134) (.slice (some ⟨W.heap.size, 0, none⟩) 1 1) ∧ w' = W.alloc (.cells #[.string sc] 9)) (by rintro a' w' ⟨rfl, rfl⟩; exact ⟨_, rfl, vals_free hI.1 (by rw [hvf]; rfl), h23.made⟩) ?_
                      clear ho hdeps hsat hI hnew hvf h23
                      go_simp
                    | 10, _ =>
                      obtain rfl := Option.some.inj ho
                      have t130 : b.tmps[130]? = some (.slice (some ⟨gp, 0, none⟩) L.length cr) := (hsat.done 5 130 (hdeps ⟨5, .data⟩ (by simp) rfl) rfl (by simp)).trans (congrArg some (hI.1 5 _ (by rw [hvf]; rfl) (hdeps ⟨5, .data⟩ (by simp) rfl)))
                      have d9 := hdeps ⟨9, .data⟩ (by simp) rfl
                      have h23 := hI.2
                      simp only [hnew, d9] at h23
                      obtain ⟨b9, a1, a2, a3, a4, a5⟩ := h23.new9 rfl
                      have t134 : b.tmps[134]? = some (.slice (some ⟨b9, 0, none⟩) 1 1) := (hsat.done 9 134 d9 rfl (by simp)).trans (congrArg some a1)
                      refine step_append_keep W (.tmp 130) (.tmp 134) 52 rfl 9 j0 (.string ⟨#[]⟩) 1 16 Tryz.underlying52 hj hy0 hy1 hy2 rfl (by decide) wr.heap.size (.slice (some ⟨gp, 0, none⟩) L.length cr) _ _ (by simp only [Act.eval, Array.getD_eq_getD_getElem?, t130, Option.getD_some]) h23.row b9 0 1 1 [.string sc] (by simp only [Act.eval, Array.getD_eq_getD_getElem?, t134, Option.getD_some]) rfl a2 (by simp [Value.oneCell']) (by have := H2.out.2.2.2.2.2.2.2.1; unfold maxLen; omega) (by have := H2.out.2.2.2.2.2.2.2.1; omega) (by have := h23.only.size; have := HGP.out; have := HGC.out.1; omega) ?_
                      intro v' w' q1 q2 q3 q4
                      exact ⟨_, rfl, vals_free hI.1 (by rw [hvf]; rfl), by simp only [d9]; exact h23.grown HGP.out.2.1 HGP.out.1 q1 q2 q3 (fun k hk => (q4 k hk).imp (fun e => by cases e; rfl) id)⟩
                    | 11, _ =>
                      obtain rfl := Option.some.inj ho
                      have t125 : b.tmps[125]? = some (.agg (D.map encB).toArray) := (hsat.done 0 125 (hdeps ⟨0, .data⟩ (by simp) rfl) rfl (by simp)).trans (congrArg some (hI.1 0 _ (by rw [hvf]; rfl) (hdeps ⟨0, .data⟩ (by simp) rfl)))
                      have t129 : b.tmps[129]? = some (.agg (K.toList.map encB).toArray) := (hsat.done 4 129 (hdeps ⟨4, .data⟩ (by simp) rfl) rfl (by simp)).trans (congrArg some (hI.1 4 _ (by rw [hvf]; rfl) (hdeps ⟨4, .data⟩ (by simp) rfl)))
                      have d10 := hdeps ⟨10, .data⟩ (by simp) rfl
                      obtain ⟨a1, _, _⟩ := hI.2.new10 d10
                      have hc := HV2.out W (val 10) hI.2.only a1
                      obtain ⟨p10, m10, c10, hsh⟩ := a1.shape
                      rw [hsh] at hc
                      have t135 : b.tmps[135]? = some (.slice p10 m10 c10) := (hsat.done 10 135 d10 rfl (by simp)).trans (congrArg some hsh)
                      have HC := Hid.hide hc
                      obtain ⟨G, hG⟩ : ∃ G : Value → World → Prop, ∀ x w', G x w' ↔ ((∀ j y, vf j = some y → (fun k => if k = 11 then true else listed.getD k false) j = true → (fun k => if k = 11 then x else val k) j = y) ∧ App23 w2 wr.heap.size gp cr f L sc en ep ed ea (listed.getD 9 false) (listed.getD 10 false) (listed.getD 16 false) (val 9) (val 10) w') := ⟨_, fun _ _ => Iff.rfl⟩
                      refine Oper.wp_mono (K := fun a' w' => ∃ v, a' = b.put (some 136) v ∧ G v w') (by rintro a' w' ⟨v, rfl, hv⟩; exact ⟨v, rfl, (hG v w').1 hv⟩) ?_
                      have HG := Hid.hide hG
                      have HI := Hid.hide hI
                      have HVF := Hid.hide hvf
                      clear hG ho hdeps hsat hI hnew hvf a1 hc hsh d10
                      go_simp
                      go_at_call 30
                      refine HC.out.mono ?_
                      rintro e w9' ⟨rfl, hb9⟩
                      exact ⟨_, rfl, (HG.out _ _).2 ⟨vals_step HI.out.1 (by rw [HVF.out]; rfl), HI.out.2.below hb9⟩⟩
                    | 12, _ =>
                      obtain rfl := Option.some.inj ho
                      have t136 : b.tmps[136]? = some (.tuple #[.string ⟨#[]⟩, .bool false, faultV 4 0 L.length 0]) := (hsat.done 11 136 (hdeps ⟨11, .data⟩ (by simp) rfl) rfl (by simp)).trans (congrArg some (hI.1 11 _ (by rw [hvf]; rfl) (hdeps ⟨11, .data⟩ (by simp) rfl)))
                      refine Oper.wp_mono (K := fun a' w' => a' = b.put (some 124) (.tuple #[.string ⟨#[]⟩, .bool false, faultV 4 0 L.length 0]) ∧ w' = W) (by rintro a' w' ⟨rfl, rfl⟩; exact ⟨_, rfl, vals_step hI.1 (by rw [hvf]; rfl), hI.2⟩) ?_
                      clear ho hdeps hsat hI hnew hvf
                      go_simp
                    | 13, _ =>
                      obtain rfl := Option.some.inj ho
                      have t124 : b.tmps[124]? = some (.tuple #[.string ⟨#[]⟩, .bool false, faultV 4 0 L.length 0]) := (hsat.done 12 124 (hdeps ⟨12, .data⟩ (by simp) rfl) rfl (by simp)).trans (congrArg some (hI.1 12 _ (by rw [hvf]; rfl) (hdeps ⟨12, .data⟩ (by simp) rfl)))
                      refine Oper.wp_mono (K := fun a' w' => a' = b.put (some 137) (.string ⟨#[]⟩) ∧ w' = W) (by rintro a' w' ⟨rfl, rfl⟩; exact ⟨_, rfl, vals_step hI.1 (by rw [hvf]; rfl), hI.2⟩) ?_
                      clear ho hdeps hsat hI hnew hvf
                      go_simp
                    | 14, _ =>
                      obtain rfl := Option.some.inj ho
                      have t124 : b.tmps[124]? = some (.tuple #[.string ⟨#[]⟩, .bool false, faultV 4 0 L.length 0]) := (hsat.done 12 124 (hdeps ⟨12, .data⟩ (by simp) rfl) rfl (by simp)).trans (congrArg some (hI.1 12 _ (by rw [hvf]; rfl) (hdeps ⟨12, .data⟩ (by simp) rfl)))
                      refine Oper.wp_mono (K := fun a' w' => a' = b.put (some 138) (.bool false) ∧ w' = W) (by rintro a' w' ⟨rfl, rfl⟩; exact ⟨_, rfl, vals_step hI.1 (by rw [hvf]; rfl), hI.2⟩) ?_
                      clear ho hdeps hsat hI hnew hvf
                      go_simp
                    | 15, _ =>
                      obtain rfl := Option.some.inj ho
                      have t124 : b.tmps[124]? = some (.tuple #[.string ⟨#[]⟩, .bool false, faultV 4 0 L.length 0]) := (hsat.done 12 124 (hdeps ⟨12, .data⟩ (by simp) rfl) rfl (by simp)).trans (congrArg some (hI.1 12 _ (by rw [hvf]; rfl) (hdeps ⟨12, .data⟩ (by simp) rfl)))
                      refine Oper.wp_mono (K := fun a' w' => a' = b.put (some 139) (faultV 4 0 L.length 0) ∧ w' = W) (by rintro a' w' ⟨rfl, rfl⟩; exact ⟨_, rfl, vals_step hI.1 (by rw [hvf]; rfl), hI.2⟩) ?_
                      clear ho hdeps hsat hI hnew hvf
                      go_simp
                    | 16, _ =>
                      obtain rfl := Option.some.inj ho
                      have t16 : b.tmps[16]? = some (.pointer (some ⟨f, 0, none⟩)) := (hsat.rest 16 (fun i _ => noDst_of (by kernel_rfl) i)).trans rfl
                      have t139 : b.tmps[139]? = some (faultV 4 0 L.length 0) := (hsat.done 15 139 (hdeps ⟨15, .data⟩ (by simp) rfl) rfl (by simp)).trans (congrArg some (hI.1 15 _ (by rw [hvf]; rfl) (hdeps ⟨15, .data⟩ (by simp) rfl)))
                      have h23 := hI.2
                      simp only [hnew] at h23
                      have d11 := hdeps ⟨15, .data⟩ (by simp) rfl
                      refine wp_store_mid 66 (.tmp 16) (.tmp 139) rfl f 0 #[.int .i64 4, .int .i64 0, .int .i64 (L.length : Int), .int .i64 0] (by simp only [Act.eval, Array.getD_eq_getD_getElem?, t16, Option.getD_some]) (by simp only [Act.eval, Array.getD_eq_getD_getElem?, t139, Option.getD_some] <;> rfl) (there_cells (h23.flt0 rfl) rfl) (by kernel_rfl) (by simp [Value.oneCell']) ?_
                      have d10 : listed.getD 10 false = true := hdeps ⟨10, .phase⟩ (by simp) rfl
                      have d9 : listed.getD 9 false = true := hdeps ⟨9, .phase⟩ (by simp) rfl
                      simp only [d9, d10] at h23
                      exact ⟨_, rfl, vals_free hI.1 (by rw [hvf]; rfl), by simp only [d9, d10]; exact h23.wrote HGP.out.2.2 HGP.out.2.1⟩
                  · exact ⟨fun _ _ _ h => (by simp at h), HX23.out⟩
                  · intro val W hI
                    have e0 : val 0 = .agg (D.map encB).toArray := hI.1 0 _ (by rw [hvf]; rfl) rfl
                    have e1 : val 1 = .slice (some ⟨g, 0, none⟩) Ks.length c9 := hI.1 1 _ (by rw [hvf]; rfl) rfl
                    have e2 : val 2 = .int .i64 (k : Int) := hI.1 2 _ (by rw [hvf]; rfl) rfl
                    have e3 : val 3 = .pointer (some ⟨g, k * 32, none⟩) := hI.1 3 _ (by rw [hvf]; rfl) rfl
                    have e4 : val 4 = .agg (K.toList.map encB).toArray := hI.1 4 _ (by rw [hvf]; rfl) rfl
                    have e5 : val 5 = .slice (some ⟨gp, 0, none⟩) L.length cr := hI.1 5 _ (by rw [hvf]; rfl) rfl
                    have e6 : val 6 = .slice (some ⟨gp, 0, none⟩) L.length cr := hI.1 6 _ (by rw [hvf]; rfl) rfl
                    have e7 : val 7 = .pointer (some ⟨gp, 0, none⟩) := hI.1 7 _ (by rw [hvf]; rfl) rfl
                    have e8 : val 8 = .string sc := hI.1 8 _ (by rw [hvf]; rfl) rfl
                    have e11 : val 11 = .tuple #[.string ⟨#[]⟩, .bool false, faultV 4 0 L.length 0] := hI.1 11 _ (by rw [hvf]; rfl) rfl
                    have e12 : val 12 = .tuple #[.string ⟨#[]⟩, .bool false, faultV 4 0 L.length 0] := hI.1 12 _ (by rw [hvf]; rfl) rfl
                    have e13 : val 13 = .string ⟨#[]⟩ := hI.1 13 _ (by rw [hvf]; rfl) rfl
                    have e14 : val 14 = .bool false := hI.1 14 _ (by rw [hvf]; rfl) rfl
                    have e15 : val 15 = faultV 4 0 L.length 0 := hI.1 15 _ (by rw [hvf]; rfl) rfl
                    have hX := hI.2
                    simp only [runFrom, Act.put, Nat.zero_add, Nat.reduceAdd, List.setIfInBounds_toArray, List.set_cons_zero, List.set_cons_succ, e0, e1, e2, e3, e4, e5, e6, e7, e8, e11, e12, e13, e14, e15]
                    clear hI hvf e0 e1 e2 e3 e4 e5 e6 e7 e8 e11 e12 e13 e14 e15
                    have HY : Hid (Only gp w2 W ∧ OwnC W wr.heap.size 1 (.slice (some ⟨gp, 0, none⟩) L.length cr) L.length (strs L) ∧ W.heap[f]? = some (.cells #[.int .i64 4, .int .i64 0, .int .i64 (L.length : Int), .int .i64 0] 66 (0, 0))) := ⟨hX.only, hX.row, hX.flt1 rfl⟩
                    clear hX
                    (try go_wp2)
                    go_meet
                    exact HY.out
                  -- R23 END
                case rest => as_aux_lemma =>
                  obtain ⟨ho23, hr23, hf23⟩ := hcut
                  have hcr : L.length ≤ cr := by
                    obtain ⟨p', c', e1, ue⟩ := hr23.cap
                    simp only [Value.slice.injEq] at e1
                    omega
                  obtain ⟨ln, hln⟩ : ∃ ln, L.length - 1 = ln := ⟨_, rfl⟩
                  have hl65 := H2.out.2.2.2.2.2.2.2.1
                  have hw1 : wrap64 ((L.length : Int) - 1) = (ln : Int) := by
                    rw [show (L.length : Int) - 1 = ((ln : Nat) : Int) by omega]
                    exact wrap64_few _ (by omega)
                  have hw2 : IntKind.i64.wrap ((L.length : Int) - 1) = (ln : Int) := by
                    clear hw1
                    rw [IntKind.wrap_i64]
                    omega
                  have hl1 : ln ≤ L.length := by omega
                  have hl2 : ln ≤ cr := by omega
                  have hl3 : (ln : Int) ≤ (cr : Int) := by omega
                  have hl4 : (ln : Int) ≤ (L.length : Int) := by omega
                  obtain ⟨q2, hq2⟩ : ∃ q2, verF D p (L.take ln) = q2 := ⟨_, rfl⟩
                  obtain ⟨ue, up, un, ua, hfv, hen, hen0⟩ := fault_four q2
                  obtain ⟨s2, hs2⟩ : ∃ s2, verStr q2 = s2 := ⟨_, rfl⟩
                  obtain ⟨b2, hb2⟩ : ∃ b2, verHas q2 = b2 := ⟨_, rfl⟩
                  have HV3 : Hid (∀ W, Only gp w2 W → OwnC W wr.heap.size 1 (.slice (some ⟨gp, 0, none⟩) L.length cr) L.length (strs L) → Calls Tryz.prog 30 #[.agg (D.map encB).toArray, .agg (K.toList.map encB).toArray, .slice (some ⟨gp, 0, none⟩) ln cr] W fun e w' => e = .returned (.tuple #[.string s2, .bool b2, faultV ue up un ua]) ∧ Below W.heap.size W w') := fun W hW hO => by
                    have hlt : (L.take ln).length = ln := by rw [List.length_take]; omega
                    have := xver_codes sent HE.out (hW.below H2.out.1.below (by have := HWr.out; have := HGC.out.1; omega) H2.out.1.below.size) D K (L.take ln) (some ⟨gp, 0, none⟩) cr H2.out.2.2.2.2.2.1 H2.out.2.2.2.2.2.2.1 HK.out.1 HK.out.2.1 (strRow_take hO ln) (by omega) (fun c hc => H2.out.2.2.2.2.2.2.2.2 c (List.mem_of_mem_take hc)) (q := q2) (by rw [HK.out.2.2.2.2.2.1]; exact hq2)
                    rw [hlt, hfv, hs2, hb2] at this
                    exact this
                  have HX24 : Hid (Only gp w2 wc.drew ∧ OwnC wc.drew wr.heap.size 1 (.slice (some ⟨gp, 0, none⟩) L.length cr) L.length (strs L) ∧ wc.drew.heap[f]? = some (.cells #[.int .i64 4, .int .i64 0, .int .i64 (L.length : Int), .int .i64 0] 66 (0, 0))) := ⟨⟨ho23.os, ho23.tape, ho23.output, ho23.size, ho23.block⟩, hr23.keep (Nat.le_refl _) fun _ _ _ => rfl, hf23⟩
                  have HQ2 : Hid (¬ (L.length = 1 ∧ D = digB (textCode [])) → ue = 2 ∧ un = ln) := fun hsp => by
                    have hne : t ≠ .no := fun e => by
                      have := HK.out.2.2.2.2.2.2.1
                      rw [e, prove_no, HGC.out.2.1] at this
                      cases this
                    have := ver_less H2.out.1.can hne HK.out.2.2.1 HK.out.2.2.2.1 (by rw [HK.out.2.2.2.2.2.2.1, HD.out]; exact hsp)
                    rw [HD.out, HK.out.2.2.2.2.2.2.1, hln, hq2] at this
                    exact ⟨(hen _ this).1, (hen _ this).2⟩
                  clear ho23 hr23 hf23 hq2 hfv hen hen0 hs2 hb2 hln hl65
                  go_upto_region 24 with fail
                  go_cut [22] (fun a wd => ∃ f2, a = .pointer (some ⟨f2, 0, none⟩) ∧ Only gp w2 wd ∧ wd.heap[f]? = some (.cells #[.int .i64 4, .int .i64 0, .int .i64 (L.length : Int), .int .i64 0] 66 (0, 0)) ∧ wd.heap[f2]? = some (.cells #[.int .i64 (ue : Int), .int .i64 (up : Int), .int .i64 (un : Int), .int .i64 (ua : Int)] 66 (0, 0)))
                  case first => as_aux_lemma =>
                    -- R24 BEGIN
                    refine wp_region_any (by kernel_rfl) ?_
                    change wpAny _ _ _ _ _ _ _ (World.drew _)
                    obtain ⟨vf, hvf⟩ : ∃ vf : Nat → Option Value, vf = fun i => ([some (.agg (D.map encB).toArray), some (.slice (some ⟨g, 0, none⟩) Ks.length c9), some (.int .i64 (k : Int)), some (.pointer (some ⟨g, k * 32, none⟩)), some (.agg (K.toList.map encB).toArray), some (.slice (some ⟨gp, 0, none⟩) L.length cr), some (.slice (some ⟨gp, 0, none⟩) L.length cr), some (.int .i64 (L.length : Int)), some (.int .i64 (ln : Int)), some (.slice (some ⟨gp, 0, none⟩) ln cr), some (.tuple #[.string s2, .bool b2, faultV ue up un ua]), some (.tuple #[.string s2, .bool b2, faultV ue up un ua]), some (.string s2), some (.bool b2), some (faultV ue up un ua), none, some (.string s2), some (.bool b2), none] : List (Option Value)).getD i none := ⟨_, rfl⟩
                    refine wpAny_vary _ (fun d v w' => (∀ i x, vf i = some x → d i = true → v i = x) ∧ (fun d v w' => Only gp w2 w' ∧ OwnC w' wr.heap.size 1 (.slice (some ⟨gp, 0, none⟩) L.length cr) L.length (strs L) ∧ w'.heap[f]? = some (.cells #[.int .i64 4, .int .i64 0, .int .i64 (L.length : Int), .int .i64 0] 66 (0, 0)) ∧ (d 15 = true → ∃ f2, v 15 = .pointer (some ⟨f2, 0, none⟩) ∧ w2.heap.size ≤ f2 ∧ f2 ≠ f ∧ (d 18 = false → w'.heap[f2]? = some (.cells #[.int .i64 0, .int .i64 0, .int .i64 0, .int .i64 0] 66 (0, 0))) ∧ (d 18 = true → w'.heap[f2]? = some (.cells #[.int .i64 (ue : Int), .int .i64 (up : Int), .int .i64 (un : Int), .int .i64 (ua : Int)] 66 (0, 0)))) ∧ (d 18 = true → d 15 = true)) d v w') (by kernel_rfl) (by kernel_rfl) ?_ _ (fun _ => undef) ?_ ?_
                    · intro i o ho listed val b W hsat hnew hdeps hI
                      have hi : i < 19 := (Array.getElem?_eq_some_iff.1 ho).1
                      match i, hi with
                      | 0, _ =>
                        obtain rfl := Option.some.inj ho
                        have t8 : b.tmps[8]? = some (.pointer (some ⟨hb, 0, none⟩)) := (hsat.rest 8 (fun i _ => noDst_of (by kernel_rfl) i)).trans rfl
                        refine wp_load_mid 34 (.tmp 8) rfl hb 0 (by simp only [Act.eval, Array.getD_eq_getD_getElem?, t8, Option.getD_some]) (D.map encB) _ (HRX.out W hI.2.1).1 hu34 rfl hzD ?_
                        exact ⟨_, rfl, vals_step hI.1 (by rw [hvf]; rfl), hI.2⟩
                      | 1, _ =>
                        obtain rfl := Option.some.inj ho
                        have t10 : b.tmps[10]? = some (.slice (some ⟨g, 0, none⟩) Ks.length c9) := (hsat.rest 10 (fun i _ => noDst_of (by kernel_rfl) i)).trans rfl
                        refine Oper.wp_mono (K := fun a' w' => a' = b.put (some 142) (.slice (some ⟨g, 0, none⟩) Ks.length c9) ∧ w' = W) (by rintro a' w' ⟨rfl, rfl⟩; exact ⟨_, rfl, vals_step hI.1 (by rw [hvf]; rfl), hI.2⟩) ?_
                        clear ho hdeps hsat hI hnew hvf
                        go_simp
                      | 2, _ =>
                        obtain rfl := Option.some.inj ho
                        have t11 : b.tmps[11]? = some (.int .i64 (k : Int)) := (hsat.rest 11 (fun i _ => noDst_of (by kernel_rfl) i)).trans rfl
                        refine Oper.wp_mono (K := fun a' w' => a' = b.put (some 143) (.int .i64 (k : Int)) ∧ w' = W) (by rintro a' w' ⟨rfl, rfl⟩; exact ⟨_, rfl, vals_step hI.1 (by rw [hvf]; rfl), hI.2⟩) ?_
                        clear ho hdeps hsat hI hnew hvf
                        go_simp
                      | 3, _ =>
                        obtain rfl := Option.some.inj ho
                        have t142 : b.tmps[142]? = some (.slice (some ⟨g, 0, none⟩) Ks.length c9) := (hsat.done 1 142 (hdeps ⟨1, .data⟩ (by simp) rfl) rfl (by simp)).trans (congrArg some (hI.1 1 _ (by rw [hvf]; rfl) (hdeps ⟨1, .data⟩ (by simp) rfl)))
                        have t143 : b.tmps[143]? = some (.int .i64 (k : Int)) := (hsat.done 2 143 (hdeps ⟨2, .data⟩ (by simp) rfl) rfl (by simp)).trans (congrArg some (hI.1 2 _ (by rw [hvf]; rfl) (hdeps ⟨2, .data⟩ (by simp) rfl)))
                        refine Oper.wp_mono (K := fun a' w' => a' = b.put (some 144) (.pointer (some ⟨g, k * 32, none⟩)) ∧ w' = W) (by rintro a' w' ⟨rfl, rfl⟩; exact ⟨_, rfl, vals_step hI.1 (by rw [hvf]; rfl), hI.2⟩) ?_
                        clear ho hdeps hsat hI hnew hvf
                        go_simp
                      | 4, _ =>
                        obtain rfl := Option.some.inj ho
                        have t144 : b.tmps[144]? = some (.pointer (some ⟨g, k * 32, none⟩)) := (hsat.done 3 144 (hdeps ⟨3, .data⟩ (by simp) rfl) rfl (by simp)).trans (congrArg some (hI.1 3 _ (by rw [hvf]; rfl) (hdeps ⟨3, .data⟩ (by simp) rfl)))
                        refine wp_load_mid 26 (.tmp 144) rfl g (k * 32) (by simp only [Act.eval, Array.getD_eq_getD_getElem?, t144, Option.getD_some]) (K.toList.map encB) _ (HRX.out W hI.2.1).2 hu26 rfl hzK ?_
                        exact ⟨_, rfl, vals_step hI.1 (by rw [hvf]; rfl), hI.2⟩
                      | 5, _ =>
                        obtain rfl := Option.some.inj ho
                        have t12 : b.tmps[12]? = some (.slice (some ⟨gp, 0, none⟩) L.length cr) := (hsat.rest 12 (fun i _ => noDst_of (by kernel_rfl) i)).trans rfl
                        refine Oper.wp_mono (K := fun a' w' => a' = b.put (some 146) (.slice (some ⟨gp, 0, none⟩) L.length cr) ∧ w' = W) (by rintro a' w' ⟨rfl, rfl⟩; exact ⟨_, rfl, vals_step hI.1 (by rw [hvf]; rfl), hI.2⟩) ?_
                        clear ho hdeps hsat hI hnew hvf
                        go_simp
                      | 6, _ =>
                        obtain rfl := Option.some.inj ho
                        have t12 : b.tmps[12]? = some (.slice (some ⟨gp, 0, none⟩) L.length cr) := (hsat.rest 12 (fun i _ => noDst_of (by kernel_rfl) i)).trans rfl
                        refine Oper.wp_mono (K := fun a' w' => a' = b.put (some 147) (.slice (some ⟨gp, 0, none⟩) L.length cr) ∧ w' = W) (by rintro a' w' ⟨rfl, rfl⟩; exact ⟨_, rfl, vals_step hI.1 (by rw [hvf]; rfl), hI.2⟩) ?_
                        clear ho hdeps hsat hI hnew hvf
                        go_simp
                      | 7, _ =>
                        obtain rfl := Option.some.inj ho
                        have t147 : b.tmps[147]? = some (.slice (some ⟨gp, 0, none⟩) L.length cr) := (hsat.done 6 147 (hdeps ⟨6, .data⟩ (by simp) rfl) rfl (by simp)).trans (congrArg some (hI.1 6 _ (by rw [hvf]; rfl) (hdeps ⟨6, .data⟩ (by simp) rfl)))
                        refine Oper.wp_mono (K := fun a' w' => a' = b.put (some 148) (.int .i64 (L.length : Int)) ∧ w' = W) (by rintro a' w' ⟨rfl, rfl⟩; exact ⟨_, rfl, vals_step hI.1 (by rw [hvf]; rfl), hI.2⟩) ?_
                        clear ho hdeps hsat hI hnew hvf
                        go_simp
                      | 8, _ =>
                        obtain rfl := Option.some.inj ho
                        have t148 : b.tmps[148]? = some (.int .i64 (L.length : Int)) := (hsat.done 7 148 (hdeps ⟨7, .data⟩ (by simp) rfl) rfl (by simp)).trans (congrArg some (hI.1 7 _ (by rw [hvf]; rfl) (hdeps ⟨7, .data⟩ (by simp) rfl)))
                        refine Oper.wp_mono (K := fun a' w' => a' = b.put (some 149) (.int .i64 (ln : Int)) ∧ w' = W) (by rintro a' w' ⟨rfl, rfl⟩; exact ⟨_, rfl, vals_step hI.1 (by rw [hvf]; rfl), hI.2⟩) ?_
                        clear ho hdeps hsat hI hnew hvf
                        go_simp
                      | 9, _ =>
                        obtain rfl := Option.some.inj ho
                        have t146 : b.tmps[146]? = some (.slice (some ⟨gp, 0, none⟩) L.length cr) := (hsat.done 5 146 (hdeps ⟨5, .data⟩ (by simp) rfl) rfl (by simp)).trans (congrArg some (hI.1 5 _ (by rw [hvf]; rfl) (hdeps ⟨5, .data⟩ (by simp) rfl)))
                        have t149 : b.tmps[149]? = some (.int .i64 (ln : Int)) := (hsat.done 8 149 (hdeps ⟨8, .data⟩ (by simp) rfl) rfl (by simp)).trans (congrArg some (hI.1 8 _ (by rw [hvf]; rfl) (hdeps ⟨8, .data⟩ (by simp) rfl)))
                        refine Oper.wp_mono (K := fun a' w' => a' = b.put (some 150) (.slice (some ⟨gp, 0, none⟩) ln cr) ∧ w' = W) (by rintro a' w' ⟨rfl, rfl⟩; exact ⟨_, rfl, vals_step hI.1 (by rw [hvf]; rfl), hI.2⟩) ?_
                        clear ho hdeps hsat hI hnew hvf
                        go_simp
                      | 10, _ =>
                        obtain rfl := Option.some.inj ho
                        have t141 : b.tmps[141]? = some (.agg (D.map encB).toArray) := (hsat.done 0 141 (hdeps ⟨0, .data⟩ (by simp) rfl) rfl (by simp)).trans (congrArg some (hI.1 0 _ (by rw [hvf]; rfl) (hdeps ⟨0, .data⟩ (by simp) rfl)))
                        have t145 : b.tmps[145]? = some (.agg (K.toList.map encB).toArray) := (hsat.done 4 145 (hdeps ⟨4, .data⟩ (by simp) rfl) rfl (by simp)).trans (congrArg some (hI.1 4 _ (by rw [hvf]; rfl) (hdeps ⟨4, .data⟩ (by simp) rfl)))
                        have t150 : b.tmps[150]? = some (.slice (some ⟨gp, 0, none⟩) ln cr) := (hsat.done 9 150 (hdeps ⟨9, .data⟩ (by simp) rfl) rfl (by simp)).trans (congrArg some (hI.1 9 _ (by rw [hvf]; rfl) (hdeps ⟨9, .data⟩ (by simp) rfl)))
                        have hc := HV3.out W hI.2.1 hI.2.2.1
                        have HC := Hid.hide hc
                        obtain ⟨G, hG⟩ : ∃ G : Value → World → Prop, ∀ x w', G x w' ↔ ((∀ j y, vf j = some y → (fun k => if k = 10 then true else listed.getD k false) j = true → (fun k => if k = 10 then x else val k) j = y) ∧ Only gp w2 w' ∧ OwnC w' wr.heap.size 1 (.slice (some ⟨gp, 0, none⟩) L.length cr) L.length (strs L) ∧ w'.heap[f]? = some (.cells #[.int .i64 4, .int .i64 0, .int .i64 (L.length : Int), .int .i64 0] 66 (0, 0)) ∧ (listed.getD 15 false = true → ∃ f2, val 15 = .pointer (some ⟨f2, 0, none⟩) ∧ w2.heap.size ≤ f2 ∧ f2 ≠ f ∧ (listed.getD 18 false = false → w'.heap[f2]? = some (.cells #[.int .i64 0, .int .i64 0, .int .i64 0, .int .i64 0] 66 (0, 0))) ∧ (listed.getD 18 false = true → w'.heap[f2]? = some (.cells #[.int .i64 (ue : Int), .int .i64 (up : Int), .int .i64 (un : Int), .int .i64 (ua : Int)] 66 (0, 0)))) ∧ (listed.getD 18 false = true → listed.getD 15 false = true)) := ⟨_, fun _ _ => Iff.rfl⟩
                        refine Oper.wp_mono (K := fun a' w' => ∃ v, a' = b.put (some 151) v ∧ G v w') (by rintro a' w' ⟨v, rfl, hv⟩; exact ⟨v, rfl, (hG v w').1 hv⟩) ?_
                        have HG := Hid.hide hG
                        have HI := Hid.hide hI
                        have HVF := Hid.hide hvf
                        clear hG ho hdeps hsat hI hnew hvf hc
                        go_simp
                        go_at_call 30
                        refine HC.out.mono ?_
                        rintro e w9' ⟨rfl, hb9⟩
                        obtain ⟨x1, x2, x3, x4, x5⟩ := HI.out.2
                        refine ⟨_, rfl, (HG.out _ _).2 ⟨vals_step HI.out.1 (by rw [HVF.out]; rfl), x1.trans (.of_below hb9), x2.below hb9, (hb9.block f (Array.getElem?_eq_some_iff.1 x3).1).trans x3, fun q => ?_, x5⟩⟩
                        obtain ⟨f2, y1, y2, y3, y4, y5⟩ := x4 q
                        exact ⟨f2, y1, y2, y3, fun q => (hb9.block f2 (Array.getElem?_eq_some_iff.1 (y4 q)).1).trans (y4 q), fun q => (hb9.block f2 (Array.getElem?_eq_some_iff.1 (y5 q)).1).trans (y5 q)⟩
                      | 11, _ =>
                        obtain rfl := Option.some.inj ho
                        have t151 : b.tmps[151]? = some (.tuple #[.string s2, .bool b2, faultV ue up un ua]) := (hsat.done 10 151 (hdeps ⟨10, .data⟩ (by simp) rfl) rfl (by simp)).trans (congrArg some (hI.1 10 _ (by rw [hvf]; rfl) (hdeps ⟨10, .data⟩ (by simp) rfl)))
                        refine Oper.wp_mono (K := fun a' w' => a' = b.put (some 140) (.tuple #[.string s2, .bool b2, faultV ue up un ua]) ∧ w' = W) (by rintro a' w' ⟨rfl, rfl⟩; exact ⟨_, rfl, vals_step hI.1 (by rw [hvf]; rfl), hI.2⟩) ?_
                        clear ho hdeps hsat hI hnew hvf
                        go_simp
                      | 12, _ =>
                        obtain rfl := Option.some.inj ho
                        have t140 : b.tmps[140]? = some (.tuple #[.string s2, .bool b2, faultV ue up un ua]) := (hsat.done 11 140 (hdeps ⟨11, .data⟩ (by simp) rfl) rfl (by simp)).trans (congrArg some (hI.1 11 _ (by rw [hvf]; rfl) (hdeps ⟨11, .data⟩ (by simp) rfl)))
                        refine Oper.wp_mono (K := fun a' w' => a' = b.put (some 152) (.string s2) ∧ w' = W) (by rintro a' w' ⟨rfl, rfl⟩; exact ⟨_, rfl, vals_step hI.1 (by rw [hvf]; rfl), hI.2⟩) ?_
                        clear ho hdeps hsat hI hnew hvf
                        go_simp
                      | 13, _ =>
                        obtain rfl := Option.some.inj ho
                        have t140 : b.tmps[140]? = some (.tuple #[.string s2, .bool b2, faultV ue up un ua]) := (hsat.done 11 140 (hdeps ⟨11, .data⟩ (by simp) rfl) rfl (by simp)).trans (congrArg some (hI.1 11 _ (by rw [hvf]; rfl) (hdeps ⟨11, .data⟩ (by simp) rfl)))
                        refine Oper.wp_mono (K := fun a' w' => a' = b.put (some 153) (.bool b2) ∧ w' = W) (by rintro a' w' ⟨rfl, rfl⟩; exact ⟨_, rfl, vals_step hI.1 (by rw [hvf]; rfl), hI.2⟩) ?_
                        clear ho hdeps hsat hI hnew hvf
                        go_simp
                      | 14, _ =>
                        obtain rfl := Option.some.inj ho
                        have t140 : b.tmps[140]? = some (.tuple #[.string s2, .bool b2, faultV ue up un ua]) := (hsat.done 11 140 (hdeps ⟨11, .data⟩ (by simp) rfl) rfl (by simp)).trans (congrArg some (hI.1 11 _ (by rw [hvf]; rfl) (hdeps ⟨11, .data⟩ (by simp) rfl)))
                        refine Oper.wp_mono (K := fun a' w' => a' = b.put (some 154) (faultV ue up un ua) ∧ w' = W) (by rintro a' w' ⟨rfl, rfl⟩; exact ⟨_, rfl, vals_step hI.1 (by rw [hvf]; rfl), hI.2⟩) ?_
                        clear ho hdeps hsat hI hnew hvf
                        go_simp
                      | 15, _ =>
                        obtain rfl := Option.some.inj ho
                        obtain ⟨x1, x2, x3, x4, x5⟩ := hI.2
                        have hba : Below W.heap.size W (W.alloc (.cells #[.int .i64 0, .int .i64 0, .int .i64 0, .int .i64 0] 66)) := (Below.refl _ _).alloc (Nat.le_refl _) _
                        have hfl := (Array.getElem?_eq_some_iff.1 x3).1
                        have d18 : listed.getD 18 false = false := by
                          cases e : listed.getD 18 false with
                          | false => rfl
                          | true => have := x5 e; simp only at this; rw [hnew] at this; cases this
                        refine Oper.wp_mono (K := fun a' w' => a' = b.put (some 22) (.pointer (some ⟨W.heap.size, 0, none⟩)) ∧ w' = W.alloc (.cells #[.int .i64 0, .int .i64 0, .int .i64 0, .int .i64 0] 66)) (by rintro a' w' ⟨rfl, rfl⟩; exact ⟨_, rfl, vals_free hI.1 (by rw [hvf]; rfl), x1.trans (.of_below hba), x2.below hba, (hba.block f hfl).trans x3, fun _ => ⟨W.heap.size, rfl, x1.size, by omega, fun _ => Array.getElem?_push_size, fun q => (by rw [show (fun k => if k = 15 then true else listed.getD k false) 18 = listed.getD 18 false from rfl, d18] at q; cases q)⟩, fun _ => rfl⟩) ?_
                        clear ho hdeps hsat hI hnew hvf x1 x2 x3 x4 x5 hba hfl d18
                        go_simp
                      | 16, _ =>
                        obtain rfl := Option.some.inj ho
                        have t152 : b.tmps[152]? = some (.string s2) := (hsat.done 12 152 (hdeps ⟨12, .data⟩ (by simp) rfl) rfl (by simp)).trans (congrArg some (hI.1 12 _ (by rw [hvf]; rfl) (hdeps ⟨12, .data⟩ (by simp) rfl)))
                        refine Oper.wp_mono (K := fun a' w' => a' = b.put (some 20) (.string s2) ∧ w' = W) (by rintro a' w' ⟨rfl, rfl⟩; exact ⟨_, rfl, vals_step hI.1 (by rw [hvf]; rfl), hI.2⟩) ?_
                        clear ho hdeps hsat hI hnew hvf
                        go_simp
                      | 17, _ =>
                        obtain rfl := Option.some.inj ho
                        have t153 : b.tmps[153]? = some (.bool b2) := (hsat.done 13 153 (hdeps ⟨13, .data⟩ (by simp) rfl) rfl (by simp)).trans (congrArg some (hI.1 13 _ (by rw [hvf]; rfl) (hdeps ⟨13, .data⟩ (by simp) rfl)))
                        refine Oper.wp_mono (K := fun a' w' => a' = b.put (some 21) (.bool b2) ∧ w' = W) (by rintro a' w' ⟨rfl, rfl⟩; exact ⟨_, rfl, vals_step hI.1 (by rw [hvf]; rfl), hI.2⟩) ?_
                        clear ho hdeps hsat hI hnew hvf
                        go_simp
                      | 18, _ =>
                        obtain rfl := Option.some.inj ho
                        have t154 : b.tmps[154]? = some (faultV ue up un ua) := (hsat.done 14 154 (hdeps ⟨14, .data⟩ (by simp) rfl) rfl (by simp)).trans (congrArg some (hI.1 14 _ (by rw [hvf]; rfl) (hdeps ⟨14, .data⟩ (by simp) rfl)))
                        have d15 := hdeps ⟨15, .data⟩ (by simp) rfl
                        obtain ⟨x1, x2, x3, x4, x5⟩ := hI.2
                        obtain ⟨f2, y1, y2, y3, y4, _⟩ := x4 d15
                        have t22 : b.tmps[22]? = some (.pointer (some ⟨f2, 0, none⟩)) := (hsat.done 15 22 d15 rfl (by simp)).trans (congrArg some y1)
                        refine wp_store_mid 66 (.tmp 22) (.tmp 154) rfl f2 0 #[.int .i64 (ue : Int), .int .i64 (up : Int), .int .i64 (un : Int), .int .i64 (ua : Int)] (by simp only [Act.eval, Array.getD_eq_getD_getElem?, t22, Option.getD_some]) (by simp only [Act.eval, Array.getD_eq_getD_getElem?, t154, Option.getD_some] <;> rfl) (there_cells (y4 hnew) rfl) (by kernel_rfl) (by simp [Value.oneCell']) ?_
                        exact ⟨_, rfl, vals_free hI.1 (by rw [hvf]; rfl), only_fault x1 y2 _ _ _ _, x2.keep (Nat.le_of_eq (size_setCells _ _ _ _).1.symm) fun k _ hk => fault_other (fun e => by have hk' : gp = k := (by simpa [Value.ownBlock] using hk); have := HGP.out.1; omega) _ _ _ _, (fault_other (fun e => y3 e.symm) _ _ _ _).trans x3, fun _ => ⟨f2, y1, y2, y3, fun q => (by simp at q), fun _ => fault_set (y4 hnew) _ _ _ _⟩, fun _ => d15⟩
                    · exact ⟨fun _ _ _ h => (by simp at h), HX24.out.1, HX24.out.2.1, HX24.out.2.2, fun q => (by simp at q), fun q => (by simp at q)⟩
                    · intro val W hI
                      have e0 : val 0 = .agg (D.map encB).toArray := hI.1 0 _ (by rw [hvf]; rfl) rfl
                      have e1 : val 1 = .slice (some ⟨g, 0, none⟩) Ks.length c9 := hI.1 1 _ (by rw [hvf]; rfl) rfl
                      have e2 : val 2 = .int .i64 (k : Int) := hI.1 2 _ (by rw [hvf]; rfl) rfl
                      have e3 : val 3 = .pointer (some ⟨g, k * 32, none⟩) := hI.1 3 _ (by rw [hvf]; rfl) rfl
                      have e4 : val 4 = .agg (K.toList.map encB).toArray := hI.1 4 _ (by rw [hvf]; rfl) rfl
                      have e5 : val 5 = .slice (some ⟨gp, 0, none⟩) L.length cr := hI.1 5 _ (by rw [hvf]; rfl) rfl
                      have e6 : val 6 = .slice (some ⟨gp, 0, none⟩) L.length cr := hI.1 6 _ (by rw [hvf]; rfl) rfl
                      have e7 : val 7 = .int .i64 (L.length : Int) := hI.1 7 _ (by rw [hvf]; rfl) rfl
                      have e8 : val 8 = .int .i64 (ln : Int) := hI.1 8 _ (by rw [hvf]; rfl) rfl
                      have e9 : val 9 = .slice (some ⟨gp, 0, none⟩) ln cr := hI.1 9 _ (by rw [hvf]; rfl) rfl
                      have e10 : val 10 = .tuple #[.string s2, .bool b2, faultV ue up un ua] := hI.1 10 _ (by rw [hvf]; rfl) rfl
                      have e11 : val 11 = .tuple #[.string s2, .bool b2, faultV ue up un ua] := hI.1 11 _ (by rw [hvf]; rfl) rfl
                      have e12 : val 12 = .string s2 := hI.1 12 _ (by rw [hvf]; rfl) rfl
                      have e13 : val 13 = .bool b2 := hI.1 13 _ (by rw [hvf]; rfl) rfl
                      have e14 : val 14 = faultV ue up un ua := hI.1 14 _ (by rw [hvf]; rfl) rfl
                      have e16 : val 16 = .string s2 := hI.1 16 _ (by rw [hvf]; rfl) rfl
                      have e17 : val 17 = .bool b2 := hI.1 17 _ (by rw [hvf]; rfl) rfl
                      have hX := hI.2
                      simp only [runFrom, Act.put, Nat.zero_add, Nat.reduceAdd, List.setIfInBounds_toArray, List.set_cons_zero, List.set_cons_succ, e0, e1, e2, e3, e4, e5, e6, e7, e8, e9, e10, e11, e12, e13, e14, e16, e17]
                      clear hI hvf e0 e1 e2 e3 e4 e5 e6 e7 e8 e9 e10 e11 e12 e13 e14 e16 e17
                      obtain ⟨x1, x2, x3, x4, _⟩ := hX
                      obtain ⟨f2, y1, y2, y3, _, y5⟩ := x4 rfl
                      have HY : Hid (val 15 = .pointer (some ⟨f2, 0, none⟩) ∧ Only gp w2 W ∧ W.heap[f]? = some (.cells #[.int .i64 4, .int .i64 0, .int .i64 (L.length : Int), .int .i64 0] 66 (0, 0)) ∧ W.heap[f2]? = some (.cells #[.int .i64 (ue : Int), .int .i64 (up : Int), .int .i64 (un : Int), .int .i64 (ua : Int)] 66 (0, 0))) := ⟨y1, x1, x3, y5 rfl⟩
                      clear x1 x2 x3 x4 y1 y2 y3 y5
                      (try go_wp2)
                      go_meet
                      exact ⟨f2, HY.out⟩
                    -- R24 END
                  case rest => as_aux_lemma =>
                    obtain ⟨f2, rfl, ho24, hf24, hg24⟩ := hcut
                    obtain ⟨E, hE⟩ : ∃ E, digB (textCode []) = E := ⟨_, rfl⟩
                    have hEl : E.length = 32 := by rw [← hE]; exact digB_length _
                    have hEb : ∀ x ∈ E, x < 256 := by rw [← hE]; exact digB_byte _
                    have hcmp := fun W => hash_cmp D E H2.out.2.2.2.2.2.1 hEl H2.out.2.2.2.2.2.2.1 hEb W
                    obtain ⟨em, hem⟩ : ∃ em, decide (D = E) = em := ⟨_, rfl⟩
                    rw [hem] at hcmp
                    have hbw : Below w.heap.size w wc := ho24.below H2.out.1.below (by have := HWr.out; have := HGC.out.1; omega) H2.out.1.below.size
                    have hEnv := HE.out.1.below hbw
                    have HDig : Hid (∀ W, Below wc.heap.size wc W → Calls Tryz.prog 17 #[.string ⟨#[128]⟩] W fun e w' => e = .returned (.agg (E.map encB).toArray) ∧ Below W.heap.size W w') := fun W hW => by
                      have := digest_any ⟨#[128]⟩ W (hEnv.tabs.up (Nat.le_trans HE.out.1.low hbw.size) hW) (Nat.le_trans (Nat.le_trans HE.out.1.low hbw.size) hW.size)
                      rw [show (digF ⟨#[128]⟩).toList = E by rw [← hE, digB, show textB (textCode []) = ⟨#[128]⟩ by decide]] at this
                      exact this
                    have hrh := (HRX.out wc ho24).1
                    have hhs : hb < wc.heap.size := by have := HHB.out; have := ho24.size; have := H2.out.1.hashS.2; omega
                    have H24 : Hid (Only gp w2 wc ∧ wc.heap[f]? = some (.cells #[.int .i64 4, .int .i64 0, .int .i64 (L.length : Int), .int .i64 0] 66 (0, 0)) ∧ wc.heap[f2]? = some (.cells #[.int .i64 (ue : Int), .int .i64 (up : Int), .int .i64 (un : Int), .int .i64 (ua : Int)] 66 (0, 0)) ∧ decide (D = E) = em ∧ digB (textCode []) = E ∧ hb < wc.heap.size) := ⟨ho24, hf24, hg24, hem, hE, hhs⟩
                    have HBd : Hid (Below wc.heap.size wc wc.drew) := (Below.refl _ _).drew
                    clear ho24 hf24 hg24 hE hEl hEb hem hbw hEnv HV3 HX24
                    go_upto_region 25 with fail
                    go_cut [23] (fun a wd => (∃ eb : Bool, a = .bool eb ∧ (eb = true → L.length = 1 ∧ D = E) ∧ (L.length = 1 ∧ D = E → eb = true)) ∧ Below wc.heap.size wc wd)
                    case first =>
                      by_cases h1 : L.length = 1
                      · have hm1 : ((L.length : Int) == 1) = true := by rw [h1]; rfl
                        have H1L := Hid.hide h1
                        clear h1
                        go_region_held3 (fun w' => w'.rangeAt hb 0 (D.map encB)) (first | exact hrh | exact k1)
                          (first | (go_at_call 17; refine (HDig.out _ HBd.out).mono ?_; rintro x w8' ⟨rfl, hb8⟩; have k1 : w8'.rangeAt hb 0 (D.map encB) := rangeAt_block hrh (hb8.block hb hhs); have HB8 : Hid (Below wc.heap.size wc w8') := HBd.out.behind' hb8; clear hb8))
                        all_goals (try go_wp2)
                        all_goals go_meet
                        all_goals exact ⟨⟨em, rfl, fun e => ⟨H1L.out, of_decide_eq_true (H24.out.2.2.2.1.trans e)⟩, fun e => by rw [← H24.out.2.2.2.1]; exact decide_eq_true e.2⟩, HB8.out⟩
                      · have hm1 : ((L.length : Int) == 1) = false := by rw [beq_eq_false_iff_ne]; omega
                        have H1L := Hid.hide h1
                        clear h1
                        go_region
                        all_goals (try go_wp2)
                        all_goals go_meet
                        all_goals exact ⟨⟨false, rfl, fun e => (by cases e), fun e => absurd e.1 H1L.out⟩, HBd.out⟩
                    case rest => as_aux_lemma =>
                      obtain ⟨⟨eb, rfl, he1, he2⟩, hb8⟩ := hcut
                      have hcf := (hb8.block f (Array.getElem?_eq_some_iff.1 H24.out.2.1).1).trans H24.out.2.1
                      have hcg := (hb8.block f2 (Array.getElem?_eq_some_iff.1 H24.out.2.2.1).1).trans H24.out.2.2.1
                      obtain ⟨f0, f1, f2', f3, -⟩ := fault_cells hcf
                      obtain ⟨g0, g1, g2, g3, -⟩ := fault_cells hcg
                      have HEnd : Hid (Fr B S S w9 wc) := (H2.out.2.1.only H24.out.1 HGC.out.2.2.2 (HS.out.forest.fresh HGC.out.2.2.2)).behind hb8
                      have hsp : eb = false → ue = 2 ∧ un = ln := fun e => HQ2.out fun q => by
                        have := he2 ⟨q.1, q.2.trans H24.out.2.2.2.2.1⟩
                        rw [e] at this
                        cases this
                      clear he1 he2 hb8 hcf hcg hrh hhs hcmp
                      cases eb with
                      | true =>
                        clear hsp
                        go_wp2
                        go_roundg (Ks.length - (k + 1))
                        case measure => omega
                        case rel => exact ⟨k + 1, by omega, rfl, by rw [HW64.out], HEnd.out⟩
                      | false =>
                        obtain ⟨rfl, rfl⟩ := hsp rfl
                        clear hsp
                        go_wp2
                        go_roundg (Ks.length - (k + 1))
                        case measure => omega
                        case rel => exact ⟨k + 1, by omega, rfl, by rw [HW64.out], HEnd.out⟩
    · obtain rfl : k = Ks.length := by omega
      have i1 : ¬ (Ks.length : Int) < (Ks.length : Int) := by omega
      have HEnd : Hid (Below w.heap.size w wr) := hSr.below
      clear hSr hFr hk hlt
      go_wp2
      go_ret
      exact ⟨rfl, HEnd.out⟩
end Go.Proofs.YtjiikjpnlgogfaaGreatDoor
