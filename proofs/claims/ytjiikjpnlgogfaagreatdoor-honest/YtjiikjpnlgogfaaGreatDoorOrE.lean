/-
  Package twigskeep: Orders: the walk.
-/
import Derived.Test.YtjiikjpnlgogfaaGreatDoorOrdA
import Derived.Test.YtjiikjpnlgogfaaGreatDoorFixG
namespace Go.Proofs.YtjiikjpnlgogfaaGreatDoor
open Go.RowKit

theorem Tells.lt {S : Wood} {w : World} {b : Nat} {g : List Nat → Option ByteArray} (h : Tells S w b g) : b < w.heap.size := by
  obtain ⟨t, h1, _⟩ := h.ex
  exact h1.lt
/-- A map's two rows, laid into a new variable. -/
theorem laid_map (w : World) (a b : Value) : Below w.heap.size w (w.alloc (.cells #[a, b] 54)) ∧ (w.alloc (.cells #[a, b] 54)).cell? ⟨w.heap.size, 0, none⟩ = some a ∧ (w.alloc (.cells #[a, b] 54)).cell? ⟨w.heap.size, 1, none⟩ = some b ∧ (w.alloc (.cells #[a, b] 54)).heap.size = w.heap.size + 1 :=
  ⟨(Below.refl _ _).alloc (Nat.le_refl _) _, by rw [World.cell?_alloc_new]; rfl, by rw [World.cell?_alloc_new]; rfl, by simp⟩

set_option maxRecDepth 100000 in
set_option maxHeartbeats 6400000 in
theorem orders_walk (raw other : ByteArray) (w : World) (hT : Tabs w) (hM : 16 ≤ w.heap.size) (hr : raw.size ≤ 9223372036854775807) (ho : other.size ≤ 9223372036854775807) :
    Calls Tryz.prog 7 #[.string raw, .string other] w fun e w' => e = .returned (.bool true) ∧ Below w.heap.size w w' := by
  have HK1 := Hid.hide (known_any raw w hr)
  have HK2 := Hid.hide (fun W => known_any other W ho)
  have HT : Hid (Tabs w ∧ 16 ≤ w.heap.size) := ⟨hT, hM⟩
  clear hT hM hr ho
  go_enter Tryz.func7, Tryz.ntmps7
  go_wp2_with fail
  refine HK1.out.mono ?_
  rintro e w1 ⟨hb1, ks, vs, m, rfl, hk1, hd1, hl1⟩
  obtain ⟨pk, mk, ck, rfl⟩ := hk1.keys.shape
  obtain ⟨pv, mv, cv, rfl⟩ := hk1.vals.shape
  obtain ⟨rfl, rfl⟩ := hk1.len
  have H1 : Hid (Below w.heap.size w w1 ∧ Kn w1 w.heap.size (.slice pk m.length ck) (.slice pv m.length cv) m ∧ (m.map pth).Nodup ∧ m.length ≤ 12) := ⟨hb1, hk1, pth_dup hd1, hl1⟩
  clear hb1 hk1 hd1 hl1 HK1
  go_wp2_with fail
  obtain ⟨hb2, c0, c1, hs2⟩ := laid_map w1 (.slice pk m.length ck) (.slice pv m.length cv)
  generalize World.alloc w1 _ = w2 at hb2 c0 c1 hs2 ⊢
  refine (HK2.out w2).mono ?_
  rintro e w3 ⟨hb3, ks, vs, o, rfl, hk3, hd3, hl3⟩
  obtain ⟨qk, nk, dk, rfl⟩ := hk3.keys.shape
  obtain ⟨qv, nv, dv, rfl⟩ := hk3.vals.shape
  obtain ⟨rfl, rfl⟩ := hk3.len
  have H3 : Hid (Below w1.heap.size w1 w2 ∧ w2.heap.size = w1.heap.size + 1 ∧ w2.cell? ⟨w1.heap.size, 0, none⟩ = some (.slice pk m.length ck) ∧ w2.cell? ⟨w1.heap.size, 1, none⟩ = some (.slice pv m.length cv) ∧ Below w2.heap.size w2 w3 ∧ Kn w3 w2.heap.size (.slice qk o.length dk) (.slice qv o.length dv) o ∧ (o.map pth).Nodup ∧ o.length ≤ 12) := ⟨hb2, hs2, c0, c1, hb3, hk3, pth_dup hd3, hl3⟩
  clear hb2 c0 c1 hs2 hb3 hk3 hd3 hl3 HK2
  go_wp2_with fail
  obtain ⟨hb4, d0, d1, hs4⟩ := laid_map w3 (.slice qk o.length dk) (.slice qv o.length dv)
  generalize World.alloc w3 _ = w4 at hb4 d0 d1 hs4 ⊢
  obtain ⟨hb3a, hs3a, e0, e1, hb3b, hk3, -, -⟩ := H3.out
  have hbw4 : Below w.heap.size w w4 := by
    have h1 := H1.out.1
    exact h1.trans ((hb3a.trans ((hb3b.trans (hb4.mono (hb3b.size))).mono (by omega))).mono h1.size)
  have hn1 : w.heap.size ≤ w1.heap.size := H1.out.1.size
  have hs3b := hb3b.size
  refine (fixed_any w4 (HT.out.1.below hbw4 HT.out.2) (by have := HT.out.2; have := hbw4.size; omega)).mono ?_
  rintro e w5 ⟨rfl, hb5⟩
  have h24 : Below w2.heap.size w2 w4 := hb3b.trans (hb4.mono hb3b.size)
  have h25 : Below w2.heap.size w2 w5 := h24.trans (hb5.mono h24.size)
  have HL : Hid (∀ wr, Below w5.heap.size w5 wr → wr.cell? ⟨w1.heap.size, 0, none⟩ = some (.slice pk m.length ck) ∧ wr.cell? ⟨w1.heap.size, 1, none⟩ = some (.slice pv m.length cv) ∧ wr.cell? ⟨w3.heap.size, 0, none⟩ = some (.slice qk o.length dk) ∧ wr.cell? ⟨w3.heap.size, 1, none⟩ = some (.slice qv o.length dv) ∧ Kn wr w.heap.size (.slice pk m.length ck) (.slice pv m.length cv) m ∧ Kn wr w2.heap.size (.slice qk o.length dk) (.slice qv o.length dv) o ∧ Tabs wr) := fun wr hbr => by
    have a1 := (hbr.block w1.heap.size (by have := h25.size; omega)).trans (h25.block w1.heap.size (by omega))
    have a3 := (hbr.block w3.heap.size (by have := hb5.size; omega)).trans (hb5.block w3.heap.size (by omega))
    have g2 : Below w2.heap.size w2 wr := h25.trans (hbr.mono h25.size)
    have g1 : Below w1.heap.size w1 wr := hb3a.trans (g2.mono (by omega))
    have g4 : Below w4.heap.size w4 wr := hb5.trans (hbr.mono hb5.size)
    have g3 : Below w3.heap.size w3 wr := hb4.trans (g4.mono (by omega))
    exact ⟨(World.cell?_of_block a1).trans e0, (World.cell?_of_block a1).trans e1, (World.cell?_of_block a3).trans d0, (World.cell?_of_block a3).trans d1, H1.out.2.1.below g1, hk3.below g3, HT.out.1.below (hbw4.trans (g4.mono hbw4.size)) HT.out.2⟩
  have HX : Hid (Below w.heap.size w w5 ∧ 16 ≤ w5.heap.size ∧ m.length ≤ 12 ∧ o.length ≤ 12 ∧ (m.map pth).Nodup ∧ (o.map pth).Nodup ∧ w1.heap.size < w5.heap.size ∧ w3.heap.size < w5.heap.size) := by
    have h5 := hb5.size
    have hw5 : Below w.heap.size w w5 := hbw4.trans (hb5.mono hbw4.size)
    exact ⟨hw5, by have := HT.out.2; have := hw5.size; omega, H1.out.2.2.2, H3.out.2.2.2.2.2.2.2, H1.out.2.2.1, H3.out.2.2.2.2.2.2.1, by omega, by omega⟩
  clear hb3a hs3a e0 e1 hb3b hk3 hb4 d0 d1 hs4 hbw4 hn1 hs3b hb5 h24 h25 H1 H3 HT
  generalize w1.heap.size = n1 at HL HX ⊢
  generalize w3.heap.size = n3 at HL HX ⊢
  generalize w2.heap.size = n2 at HL
  obtain ⟨c0, c1, -, -, hk5, -, -⟩ := HL.out w5 (Below.refl _ _)
  have HTr := Hid.hide (ktree_any hk5 (Nat.le_refl _) (Below.refl _ _) (forest_none w5) (by have := HX.out; omega) HX.out.2.2.2.2.1 false)
  have HK5 := Hid.hide hk5
  clear hk5
  go_wp2_with fail
  refine HTr.out.mono ?_
  rintro e w6 ⟨bt, hbt, rfl, S6, ht6, hf6⟩
  have hbw6 : Below w5.heap.size w5 w6 := hf6.below (forest_none w5) fun _ h => h.elim
  obtain ⟨c0, c1, -, -, -, -, -⟩ := HL.out w6 hbw6
  have HTr2 := Hid.hide (ktree_any HK5.out (Nat.le_refl _) hbw6 hf6.forest (by have := HX.out; omega) HX.out.2.2.2.2.1 true)
  have H6 : Hid (Below w5.heap.size w5 w6 ∧ w5.heap.size ≤ bt ∧ Tells S6 w6 bt (getN m) ∧ Forest w5.heap.size S6 w6) := ⟨hbw6, hbt, ht6, hf6.forest⟩
  clear hbw6 hbt ht6 hf6 HTr
  go_wp2_with fail
  refine HTr2.out.mono ?_
  rintro e w7 ⟨bu, hbu, rfl, S7, ht7, hf7⟩
  have H7 : Hid (Two w5.heap.size w5 S7 w7 bt bu (getN m) (over (o.take 0) (getN m))) := ⟨hf7.forest, H6.out.1.trans (hf7.below H6.out.2.2.2 fun _ h => h.elim), H6.out.2.2.1.framex hf7 fun h => h, ht7.congr fun s _ => rfl⟩
  have HB : Hid (bt ≠ bu ∧ w5.heap.size ≤ bt ∧ w5.heap.size ≤ bu) := ⟨by have := H6.out.2.2.1.lt; omega, H6.out.2.1, by have := H6.out.1.size; omega⟩
  have HLo : Hid ((∀ j, Value.ownBlock (.slice pk m.length ck) = some j → j < w5.heap.size) ∧ (∀ j, Value.ownBlock (.slice pv m.length cv) = some j → j < w5.heap.size) ∧ (∀ j, Value.ownBlock (.slice qk o.length dk) = some j → j < w5.heap.size) ∧ (∀ j, Value.ownBlock (.slice qv o.length dv) = some j → j < w5.heap.size)) := by
    have h := HL.out w5 (Below.refl _ _)
    exact ⟨fun j hj => (h.2.2.2.2.1.keys.block j hj).2, fun j hj => (h.2.2.2.2.1.vals.block j hj).2, fun j hj => (h.2.2.2.2.2.1.keys.block j hj).2, fun j hj => (h.2.2.2.2.2.1.vals.block j hj).2⟩
  have hu26 := Tryz.underlying26
  clear hbu ht7 hf7 H6 HTr2 c0 c1
  go_wp2
  go_loopg [12] o.length (fun g i wr => ∃ (k : Nat) (S' : Wood), k ≤ o.length ∧ g = o.length - k ∧ i = .int .i64 (k : Int) ∧ Two w5.heap.size w5 S' wr bt bu (getN m) (over (o.take k) (getN m)))
  case atStart => exact ⟨0, S7, Nat.zero_le _, rfl, rfl, H7.out⟩
  case round =>
    obtain ⟨k, S', hk, rfl, rfl, htw⟩ := hrel
    have HS := Hid.hide htw
    obtain ⟨-, -, c0, c1, -, hKn, -⟩ := HL.out wr htw.below
    clear htw H7
    by_cases hlt : k < o.length
    · have i1 : (k : Int) < (o.length : Int) := by omega
      obtain ⟨gk, capk, hks, hgl, hrg⟩ := hKn.key hlt
      obtain ⟨gv, capv, hvs, hgl2, hcv⟩ := hKn.val hlt
      simp only [Value.slice.injEq] at hks hvs
      obtain ⟨rfl, -, rfl⟩ := hks
      obtain ⟨rfl, -, rfl⟩ := hvs
      obtain ⟨hK, hKb, hu0, hu1⟩ := hKn.ok _ (List.getElem_mem hlt)
      have hstp := fun s => over_step HX.out.2.2.2.2.2.1 hlt (getN m) s
      generalize o[k] = x at hrg hcv hK hKb hu0 hu1 hstp
      obtain ⟨K, u⟩ := x
      have hsz : (Tryz.prog.info? 26).map (·.size) = some (K.toList.map encB).length := by rw [size51]; simp [hK]
      have HP := Hid.hide (HS.out.u.drew.put HS.out.forest.drew hK hKb hu0 hu1)
      have HSt := Hid.hide hstp
      have HW1 : Hid (wrap64 ((k : Int) + 1) = ((k + 1 : Nat) : Int)) := by
        have h : wrap64 ((k : Int) + 1) = ((k + 1 : Nat) : Int) := (by unfold wrap64; have := HX.out; omega)
        exact h
      have hgB := HLo.out.2.2.1 gk rfl
      have hvB := HLo.out.2.2.2 gv rfl
      have HO : Hid (∀ w3, Below w5.heap.size wr.drew w3 → w3.rangeAt gk (k * 32) (K.toList.map encB) ∧ w3.cell? ⟨n3, 0, none⟩ = some (.slice (some ⟨gk, 0, none⟩) o.length dk) ∧ w3.cell? ⟨n3, 1, none⟩ = some (.slice (some ⟨gv, 0, none⟩) o.length dv) ∧ w3.cell? ⟨gv, k, none⟩ = some (.string u)) := fun w3 hb => by
        have e0 := hb.block n3 HX.out.2.2.2.2.2.2.2
        exact ⟨rangeAt_block hrg (hb.block gk hgB), (World.cell?_of_block e0).trans c0, (World.cell?_of_block e0).trans c1, (World.cell?_of_block (hb.block gv hvB)).trans hcv⟩
      clear hKn hK hKb hu0 hu1 hstp hgB hvB hgl hgl2
      go_upto_region 11 with fail
      go_region_held3 (fun w' => w'.rangeAt gk (k * 32) (K.toList.map encB) ∧ w'.cell? ⟨n3, 0, none⟩ = some (.slice (some ⟨gk, 0, none⟩) o.length dk) ∧ w'.cell? ⟨n3, 1, none⟩ = some (.slice (some ⟨gv, 0, none⟩) o.length dv) ∧ w'.cell? ⟨gv, k, none⟩ = some (.string u)) (first | exact ⟨hrg, c0, c1, hcv⟩ | exact h1)
        (first | (go_at_call 19; refine HP.out.mono ?_; rintro x w8 ⟨rfl, S1, ht1, hf1⟩; have h1 := HO.out w8 (hf1.below HS.out.forest.drew fun j hj => hj ▸ HB.out.2.2); have HE : Hid (Two w5.heap.size w5 S1 w8 bt bu (getN m) (over (o.take (k + 1)) (getN m))) := (HS.out.behind (Below.refl _ _).drew).turn hf1 (ht1.congr fun s _ => HSt.out s) HB.out.1 HB.out.2.2; clear ht1 hf1))
      go_wp2
      go_roundg (o.length - (k + 1))
      case measure => omega
      case rel => exact ⟨k + 1, S1, hlt, rfl, val_int HW1.out, HE.out⟩
    · have i1 : ¬ (k : Int) < (o.length : Int) := by omega
      have H8 : Hid (Two w5.heap.size w5 S' wr bt bu (getN m) (back o 0 (getN m) (over o (getN m)))) := by
        have h := HS.out
        rw [show k = o.length by omega, List.take_length] at h
        exact h.congr (fun _ _ => rfl) fun s _ => back_zero _ _ _ s
      clear hKn hk hlt
      go_wp2
      go_loopg [14] o.length (fun g i wr => ∃ (k : Nat) (S' : Wood), k ≤ o.length ∧ g = o.length - k ∧ i = .int .i64 (k : Int) ∧ Two w5.heap.size w5 S' wr bt bu (getN m) (back o k (getN m) (over o (getN m))))
      case atStart => exact ⟨0, S', Nat.zero_le _, rfl, rfl, H8.out⟩
      case round =>
        clear HS c0 c1 i1 H8
        obtain ⟨k, S', hk, rfl, rfl, htw⟩ := hrel
        have HS := Hid.hide htw
        obtain ⟨-, -, c0, c1, -, hKn, -⟩ := HL.out wr htw.below
        clear htw
        by_cases hlt : k < o.length
        · have i1 : (k : Int) < (o.length : Int) := by omega
          obtain ⟨gk, capk, hks, hgl, hrg⟩ := hKn.key hlt
          simp only [Value.slice.injEq] at hks
          obtain ⟨rfl, -, rfl⟩ := hks
          obtain ⟨hK, hKb, -, -⟩ := hKn.ok _ (List.getElem_mem hlt)
          have hat := (back_at HX.out.2.2.2.2.2.1 hlt (getN m) (over o (getN m))).trans (over_at HX.out.2.2.2.2.2.1 hlt (getN m))
          have hstp := fun x hx s => back_step hlt (getN m) (over o (getN m)) x hx s
          generalize o[k] = x at hrg hK hKb hat hstp
          obtain ⟨K, u⟩ := x
          obtain ⟨t1, z2, z1, hone, hb9, hr9, hs9⟩ := laid_key wr K hK
          have HK' : Hid (K.size = 32 ∧ Bytes K ∧ back o k (getN m) (over o (getN m)) (nibs K.toList) = some u) := ⟨hK, hKb, hat⟩
          have HSt := Hid.hide hstp
          have HW1 : Hid (wrap64 ((k : Int) + 1) = ((k + 1 : Nat) : Int)) := by
            have h : wrap64 ((k : Int) + 1) = ((k + 1 : Nat) : Int) := (by unfold wrap64; have := HX.out; omega)
            exact h
          clear hKn hK hKb hat hstp
          go_wp2_with (first | (refine wpList_load_mid rfl 26 _ rfl gk (k * 32) rfl (K.toList.map encB) _ hrg Tryz.underlying26 rfl z1 ?_) | (refine wpList_store_mid rfl 26 _ _ rfl wr.heap.size 0 (K.toList.map encB).toArray rfl rfl t1 z2 hone ?_; rw [List.toList_toArray]; generalize World.setCells _ _ _ _ = w9 at hb9 hr9 hs9 ⊢; clear t1 z2 hone) | (refine wpList_load_mid rfl 26 _ rfl wr.heap.size 0 rfl (K.toList.map encB) _ hr9 Tryz.underlying26 rfl z1 ?_))
          have htw9 := HS.out.behind hb9
          refine (htw9.u.del htw9.forest HK'.out.1 HK'.out.2.1 HK'.out.2.2).mono ?_
          rintro x w10 ⟨rfl, S10, ht10, hf10⟩
          have hp0 : S' wr.heap.size = none := HS.out.forest.fresh (Nat.le_refl _)
          have hpu : ¬ wr.heap.size = bu := by have := HS.out.u.lt; omega
          have htw10 := htw9.turn hf10 ht10 HB.out.1 HB.out.2.2
          have hr10 : w10.rangeAt wr.heap.size 0 (K.toList.map encB) := rangeAt_block hr9 (hf10.other _ hs9 hp0 hpu)
          have hp10 := hf10.new _ hs9 hp0
          have hs10 := Nat.lt_of_lt_of_le hs9 hf10.size
          simp only [Option.isSome_some]
          have H10 := Hid.hide htw10
          clear htw9 htw10 ht10 hf10 hp0 hr9 hs9 hb9 hrg hgl c0 c1
          go_wp2_with (refine wpList_load_mid rfl 26 _ rfl wr.heap.size 0 rfl (K.toList.map encB) _ hr10 Tryz.underlying26 rfl z1 ?_)
          refine (H10.out.u.del H10.out.forest HK'.out.1 HK'.out.2.1 (if_pos rfl)).mono ?_
          rintro x w11 ⟨rfl, S11, ht11, hf11⟩
          have htw11 := (H10.out.turn hf11 ht11 HB.out.1 HB.out.2.2).congr (gt' := getN m) (gu' := fun s => if s = nibs K.toList then none else back o k (getN m) (over o (getN m)) s) (fun _ _ => rfl) (fun s _ => by by_cases e : s = nibs K.toList <;> simp [e])
          have hr11 : w11.rangeAt wr.heap.size 0 (K.toList.map encB) := rangeAt_block hr10 (hf11.other _ hs10 hp10 hpu)
          have hp11 := hf11.new _ hs10 hp10
          have hs11 := Nat.lt_of_lt_of_le hs10 hf11.size
          simp only [Option.isSome_none]
          obtain ⟨c0, c1, -, -, hKm, -, -⟩ := HL.out w11 htw11.below
          have HFi := Hid.hide (kfind_any hKm (by have := HX.out; omega) HK'.out.1 HK'.out.2.1)
          have H11 := Hid.hide htw11
          clear htw11 ht11 hf11 hr10 hp10 hs10 H10 hKm
          go_wp2_with (refine wpList_load_mid rfl 26 _ rfl wr.heap.size 0 rfl (K.toList.map encB) _ hr11 Tryz.underlying26 rfl z1 ?_)
          refine HFi.out.mono ?_
          rintro x w12 ⟨rfl, hb12⟩
          have htw12 := H11.out.behind hb12
          have hr12 : w12.rangeAt wr.heap.size 0 (K.toList.map encB) := rangeAt_block hr11 (hb12.block _ hs11)
          have hs12 := Nat.lt_of_lt_of_le hs11 hb12.size
          obtain ⟨c0, c1, -, -, hKm, -, -⟩ := HL.out w12 htw12.below
          cases hfi : findN m K with
          | none =>
            have H13 : Hid (Two w5.heap.size w5 S11 w12 bt bu (getN m) (back o (k + 1) (getN m) (over o (getN m)))) := htw12.congr (fun _ _ => rfl) fun s _ => HSt.out none (find_no hfi) s
            simp only [findV]
            clear htw12 hKm hb12 hr11 hr12 hs11 hs12 HFi H11
            go_wp2
            go_roundg (o.length - (k + 1))
            case measure => omega
            case rel => exact ⟨k + 1, S11, hlt, rfl, val_int HW1.out, H13.out⟩
          | some j =>
            obtain ⟨hj, -, hgj⟩ := find_get HX.out.2.2.2.2.1 hfi
            obtain ⟨gv, capv, hvs, hgl2, hcv⟩ := hKm.val hj
            simp only [Value.slice.injEq] at hvs
            obtain ⟨rfl, -, rfl⟩ := hvs
            obtain ⟨-, -, hu0, hu1⟩ := hKm.ok _ (List.getElem_mem hj)
            have hstp := HSt.out _ hgj
            generalize m[j].2 = v at hcv hu0 hu1 hstp hgj
            have HSt2 := Hid.hide hstp
            have HP := Hid.hide (htw12.u.drew.put htw12.forest.drew HK'.out.1 HK'.out.2.1 hu0 hu1)
            have i2 : (j : Int) < (m.length : Int) := by omega
            have i3 : (0 : Int) ≤ (j : Int) := by omega
            have hvB := HLo.out.2.1 gv rfl
            have hsz := z1
            have H12 := Hid.hide htw12
            have HO : Hid (∀ S1 w3, FrX w5.heap.size (· = bu) S11 S1 w12.drew w3 → w3.rangeAt wr.heap.size 0 (K.toList.map encB) ∧ w3.cell? ⟨n1, 1, none⟩ = some (.slice (some ⟨gv, 0, none⟩) m.length cv) ∧ w3.cell? ⟨gv, j, none⟩ = some (.string v)) := fun S1 w3 hf => by
              have hb := hf.below H12.out.forest.drew fun j hj => hj ▸ HB.out.2.2
              exact ⟨rangeAt_block hr12 (hf.other _ hs12 hp11 hpu), (World.cell?_of_block (hb.block n1 HX.out.2.2.2.2.2.2.1)).trans c1, (World.cell?_of_block (hb.block gv hvB)).trans hcv⟩
            simp only [findV]
            clear htw12 hKm hb12 hr11 hs11 HFi H11 hu0 hu1 hstp hgj hvB hgl2
            go_upto_region 24 with fail
            go_region_held3 (fun w' => w'.rangeAt wr.heap.size 0 (K.toList.map encB) ∧ w'.cell? ⟨n1, 1, none⟩ = some (.slice (some ⟨gv, 0, none⟩) m.length cv) ∧ w'.cell? ⟨gv, j, none⟩ = some (.string v)) (first | exact ⟨hr12, c1, hcv⟩ | exact h1)
              (first | (go_at_call 19; refine HP.out.mono ?_; rintro x w13 ⟨rfl, S1, ht1, hf1⟩; have h1 := HO.out S1 w13 hf1; have HE : Hid (Two w5.heap.size w5 S1 w13 bt bu (getN m) (back o (k + 1) (getN m) (over o (getN m)))) := (H12.out.behind (Below.refl _ _).drew).turn hf1 (ht1.congr fun s _ => by rw [← HSt2.out s]; by_cases e : s = nibs K.toList <;> simp [e]) HB.out.1 HB.out.2.2; clear ht1 hf1))
            go_wp2
            go_roundg (o.length - (k + 1))
            case measure => omega
            case rel => exact ⟨k + 1, S1, hlt, rfl, val_int HW1.out, HE.out⟩
        · have i1 : ¬ (k : Int) < (o.length : Int) := by omega
          have H8 : Hid (Two w5.heap.size w5 S' wr bt bu (getN m) (getN m)) := by
            have h := HS.out
            rw [show k = o.length by omega] at h
            exact h.congr (fun _ _ => rfl) fun s _ => back_all _ _ s
          clear hKn hk hlt
          go_wp2
          go_loopg [21] o.length (fun g i wr => ∃ (k : Nat), k ≤ o.length ∧ g = o.length - k ∧ i = .int .i64 (k : Int) ∧ Two w5.heap.size w5 S' wr bt bu (getN m) (getN m))
          case atStart => exact ⟨0, Nat.zero_le _, rfl, rfl, H8.out⟩
          case round =>
            clear HS c0 c1 i1 H8
            obtain ⟨k, hk, rfl, rfl, htw⟩ := hrel
            have HS := Hid.hide htw
            obtain ⟨b0, b1, c0, -, -, hKn, -⟩ := HL.out wr htw.below
            clear htw
            by_cases hlt : k < o.length
            · have i1 : (k : Int) < (o.length : Int) := by omega
              obtain ⟨gk, capk, hks, hgl, hrg⟩ := hKn.key hlt
              simp only [Value.slice.injEq] at hks
              obtain ⟨rfl, -, rfl⟩ := hks
              obtain ⟨hK, hKb, -, -⟩ := hKn.ok _ (List.getElem_mem hlt)
              generalize o[k] = x at hrg hK hKb
              obtain ⟨K, u⟩ := x
              have hsz : (Tryz.prog.info? 26).map (·.size) = some (K.toList.map encB).length := by rw [size51]; simp [hK]
              have HSy : Hid (∀ W, Two w5.heap.size w5 S' W bt bu (getN m) (getN m) → Calls Tryz.prog 28 #[.agg #[.slice pk m.length ck, .slice pv m.length cv], .pointer (some ⟨bt, 0, none⟩), .agg (K.toList.map encB).toArray] W (fun e w' => e = .returned (.bool true) ∧ Below W.heap.size W w') ∧ Calls Tryz.prog 28 #[.agg #[.slice pk m.length ck, .slice pv m.length cv], .pointer (some ⟨bu, 0, none⟩), .agg (K.toList.map encB).toArray] W (fun e w' => e = .returned (.bool true) ∧ Below W.heap.size W w')) := fun W h => by
                have hm := (HL.out W h.below).2.2.2.2.1
                exact ⟨says_any h.t h.forest hm (by have := HX.out; omega) HX.out.2.2.2.2.1 hK hKb rfl, says_any h.u h.forest hm (by have := HX.out; omega) HX.out.2.2.2.2.1 hK hKb rfl⟩
              have hgB := HLo.out.2.2.1 gk rfl
              have HO : Hid (∀ w3, Below w5.heap.size wr w3 → w3.rangeAt gk (k * 32) (K.toList.map encB) ∧ w3.cell? ⟨n1, 0, none⟩ = some (.slice pk m.length ck) ∧ w3.cell? ⟨n1, 1, none⟩ = some (.slice pv m.length cv) ∧ w3.cell? ⟨n3, 0, none⟩ = some (.slice (some ⟨gk, 0, none⟩) o.length dk)) := fun w3 hb => by
                have e1 := hb.block n1 HX.out.2.2.2.2.2.2.1
                exact ⟨rangeAt_block hrg (hb.block gk hgB), (World.cell?_of_block e1).trans b0, (World.cell?_of_block e1).trans b1, (World.cell?_of_block (hb.block n3 HX.out.2.2.2.2.2.2.2)).trans c0⟩
              have HW1 : Hid (wrap64 ((k : Int) + 1) = ((k + 1 : Nat) : Int)) := by
                have h : wrap64 ((k : Int) + 1) = ((k + 1 : Nat) : Int) := (by unfold wrap64; have := HX.out; omega)
                exact h
              have HF := Hid.hide HS.out.forest.le
              clear hKn hK hKb hgB hgl
              go_upto_region 30 with fail
              go_region_held3 (fun w' => w'.rangeAt gk (k * 32) (K.toList.map encB) ∧ w'.cell? ⟨n1, 0, none⟩ = some (.slice pk m.length ck) ∧ w'.cell? ⟨n1, 1, none⟩ = some (.slice pv m.length cv) ∧ w'.cell? ⟨n3, 0, none⟩ = some (.slice (some ⟨gk, 0, none⟩) o.length dk)) (first | exact ⟨hrg, b0, b1, c0⟩ | exact h1)
                (first | (go_at_call 28; refine (HSy.out _ (HS.out.behind (Below.refl _ _).drew)).1.mono ?_; rintro x w8 ⟨rfl, hb8⟩; have h1 := HO.out w8 (((Below.refl _ _).drew).trans (hb8.mono HF.out)); have HE : Hid (Two w5.heap.size w5 S' w8 bt bu (getN m) (getN m) ∧ Below w5.heap.size wr w8) := ⟨(HS.out.behind (Below.refl _ _).drew).behind hb8, ((Below.refl _ _).drew).trans (hb8.mono HF.out)⟩; clear hb8))
              obtain ⟨hrg8, b08, b18, c08⟩ := h1
              clear hrg b0 b1 c0
              go_upto_region 31 with fail
              go_region_held3 (fun w' => w'.rangeAt gk (k * 32) (K.toList.map encB) ∧ w'.cell? ⟨n1, 0, none⟩ = some (.slice pk m.length ck) ∧ w'.cell? ⟨n1, 1, none⟩ = some (.slice pv m.length cv) ∧ w'.cell? ⟨n3, 0, none⟩ = some (.slice (some ⟨gk, 0, none⟩) o.length dk)) (first | exact ⟨hrg8, b08, b18, c08⟩ | exact h2)
                (first | (go_at_call 28; refine (HSy.out _ (HE.out.1.behind (Below.refl _ _).drew)).2.mono ?_; rintro x w9 ⟨rfl, hb9⟩; have h2 := HO.out w9 (HE.out.2.trans (((Below.refl _ _).drew).trans (hb9.mono HE.out.1.forest.le))); have HE2 : Hid (Two w5.heap.size w5 S' w9 bt bu (getN m) (getN m)) := (HE.out.1.behind (Below.refl _ _).drew).behind hb9; clear hb9))
              go_wp2
              go_roundg (o.length - (k + 1))
              case measure => omega
              case rel => exact ⟨k + 1, hlt, rfl, val_int HW1.out, HE2.out⟩
            · have i1 : ¬ (k : Int) < (o.length : Int) := by omega
              clear hKn hk hlt
              go_wp2_with fail
              refine (HS.out.t.root HS.out.forest (HL.out wr HS.out.below).2.2.2.2.2.2 HX.out.2.1).mono ?_
              rintro x w10 ⟨D, hD, hDl, hDb, rfl, hf10⟩
              have htw10 := HS.out.fr (hf10.x _)
              have HR := Hid.hide (htw10.u.root htw10.forest (HL.out w10 htw10.below).2.2.2.2.2.2 HX.out.2.1)
              have H10 : Hid (Two w5.heap.size w5 S' w10 bt bu (getN m) (getN m) ∧ rootOf (getN m) D ∧ D.length = 32 ∧ ∀ x ∈ D, x < 256) := ⟨htw10, hD, hDl, hDb⟩
              clear hf10 htw10 hD hDl hDb b0 b1 c0
              go_wp2_with fail
              refine HR.out.mono ?_
              rintro x w11 ⟨E, hE, -, -, rfl, hf11⟩
              obtain rfl : D = E := H10.out.2.1.same hE H10.out.1.t
              have heq := hash_refl D H10.out.2.2.1 H10.out.2.2.2
              have H11 : Hid (Two w5.heap.size w5 S' w11 bt bu (back m 0 (fun _ => none) (getN m)) (getN m)) := (H10.out.1.fr (hf11.x _)).congr (fun s _ => back_zero _ _ _ s) fun _ _ => rfl
              clear hE hf11 H10 HR HS
              go_wp2
              go_loopg [24] m.length (fun g i wr => ∃ (k : Nat) (S' : Wood), k ≤ m.length ∧ g = m.length - k ∧ i = .int .i64 (k : Int) ∧ Two w5.heap.size w5 S' wr bt bu (back m k (fun _ => none) (getN m)) (getN m))
              case atStart => exact ⟨0, S', Nat.zero_le _, rfl, rfl, H11.out⟩
              case round =>
                clear i1 H11 heq
                obtain ⟨k, S', hk, rfl, rfl, htw⟩ := hrel
                have HS := Hid.hide htw
                obtain ⟨b0, b1, -, -, hKn, -, -⟩ := HL.out wr htw.below
                clear htw
                by_cases hlt : k < m.length
                · have i1 : (k : Int) < (m.length : Int) := by omega
                  obtain ⟨gk, capk, hks, hgl, hrg⟩ := hKn.key hlt
                  simp only [Value.slice.injEq] at hks
                  obtain ⟨rfl, -, rfl⟩ := hks
                  obtain ⟨hK, hKb, -, -⟩ := hKn.ok _ (List.getElem_mem hlt)
                  have hat := (back_at HX.out.2.2.2.2.1 hlt (fun _ => none) (getN m)).trans (getN_mem HX.out.2.2.2.2.1 (List.getElem_mem hlt))
                  have hstp := fun s => back_step hlt (fun _ => none) (getN m) none rfl s
                  generalize m[k] = x at hrg hK hKb hat hstp
                  obtain ⟨K, u⟩ := x
                  have hsz : (Tryz.prog.info? 26).map (·.size) = some (K.toList.map encB).length := by rw [size51]; simp [hK]
                  have HK' : Hid (K.size = 32 ∧ Bytes K ∧ back m k (fun _ => none) (getN m) (nibs K.toList) = some u) := ⟨hK, hKb, hat⟩
                  have HSt := Hid.hide hstp
                  have HSy : Hid (∀ W, Two w5.heap.size w5 S' W bt bu (back m k (fun _ => none) (getN m)) (getN m) → Calls Tryz.prog 28 #[.agg #[.slice (some ⟨gk, 0, none⟩) m.length ck, .slice pv m.length cv], .pointer (some ⟨bu, 0, none⟩), .agg (K.toList.map encB).toArray] W (fun e w' => e = .returned (.bool true) ∧ Below W.heap.size W w')) := fun W h =>
                    says_any h.u h.forest (HL.out W h.below).2.2.2.2.1 (by have := HX.out; omega) HX.out.2.2.2.2.1 hK hKb rfl
                  have hgB := HLo.out.1 gk rfl
                  have HO : Hid (∀ w3, Below w5.heap.size wr w3 → w3.rangeAt gk (k * 32) (K.toList.map encB) ∧ w3.cell? ⟨n1, 0, none⟩ = some (.slice (some ⟨gk, 0, none⟩) m.length ck) ∧ w3.cell? ⟨n1, 1, none⟩ = some (.slice pv m.length cv)) := fun w3 hb => by
                    have e1 := hb.block n1 HX.out.2.2.2.2.2.2.1
                    exact ⟨rangeAt_block hrg (hb.block gk hgB), (World.cell?_of_block e1).trans b0, (World.cell?_of_block e1).trans b1⟩
                  have HW1 : Hid (wrap64 ((k : Int) + 1) = ((k + 1 : Nat) : Int)) := by
                    have h : wrap64 ((k : Int) + 1) = ((k + 1 : Nat) : Int) := (by unfold wrap64; have := HX.out; omega)
                    exact h
                  have HF := Hid.hide HS.out.forest.le
                  clear hKn hK hKb hgB hgl hat hstp
                  go_upto_region 39 with fail
                  go_region_held3 (fun w' => w'.rangeAt gk (k * 32) (K.toList.map encB) ∧ w'.cell? ⟨n1, 0, none⟩ = some (.slice (some ⟨gk, 0, none⟩) m.length ck) ∧ w'.cell? ⟨n1, 1, none⟩ = some (.slice pv m.length cv)) (first | exact ⟨hrg, b0, b1⟩ | exact h1)
                    (first | (go_at_call 28; refine (HSy.out _ (HS.out.behind (Below.refl _ _).drew)).mono ?_; rintro x w8 ⟨rfl, hb8⟩; have h1 := HO.out w8 (((Below.refl _ _).drew).trans (hb8.mono HF.out)); have HE : Hid (Two w5.heap.size w5 S' w8 bt bu (back m k (fun _ => none) (getN m)) (getN m)) := (HS.out.behind (Below.refl _ _).drew).behind hb8; clear hb8))
                  obtain ⟨hrg8, b08, b18⟩ := h1
                  have z1 := hsz
                  clear hrg b0 b1
                  go_wp2_with (refine wpList_load_mid rfl 26 _ rfl gk (k * 32) rfl (K.toList.map encB) _ hrg8 Tryz.underlying26 rfl z1 ?_)
                  refine (HE.out.t.del HE.out.forest HK'.out.1 HK'.out.2.1 HK'.out.2.2).mono ?_
                  rintro x w9 ⟨rfl, S9, ht9, hf9⟩
                  have HE9 : Hid (Two w5.heap.size w5 S9 w9 bt bu (back m (k + 1) (fun _ => none) (getN m)) (getN m)) := (HE.out.swap.turn hf9 (ht9.congr fun s _ => HSt.out s) (fun e => HB.out.1 e.symm) HB.out.2.1).swap
                  simp only [Option.isSome_some]
                  clear ht9 hf9 hrg8 b08 b18
                  go_wp2
                  go_roundg (m.length - (k + 1))
                  case measure => omega
                  case rel => exact ⟨k + 1, S9, hlt, rfl, val_int HW1.out, HE9.out⟩
                · have i1 : ¬ (k : Int) < (m.length : Int) := by omega
                  have H8 : Hid (Two w5.heap.size w5 S' wr bt bu (fun _ => none) (getN m)) := by
                    have h := HS.out
                    rw [show k = m.length by omega] at h
                    exact h.congr (fun s _ => back_none _ s) fun _ _ => rfl
                  clear hKn hk hlt
                  go_wp2_with fail
                  refine (H8.out.t.root H8.out.forest (HL.out wr H8.out.below).2.2.2.2.2.2 HX.out.2.1).mono ?_
                  rintro x w10 ⟨D, hD, hDl, hDb, rfl, hf10⟩
                  have htw10 := H8.out.fr (hf10.x _)
                  have HR := Hid.hide (digest_any ⟨#[128]⟩ w10 (HL.out w10 htw10.below).2.2.2.2.2.2 (by have := HX.out.2.1; have := htw10.forest.le; omega))
                  have e := root_none hD
                  have H10 : Hid (Two w5.heap.size w5 S' w10 bt bu (fun _ => none) (getN m) ∧ D.length = 32 ∧ ∀ x ∈ D, x < 256) := ⟨htw10, hDl, hDb⟩
                  have He := Hid.hide e
                  clear hf10 htw10 hD hDl hDb b0 b1 e
                  go_wp2_with fail
                  refine HR.out.mono ?_
                  rintro x w11 ⟨rfl, hb11⟩
                  rw [← He.out]
                  have heq := hash_refl D H10.out.2.1 H10.out.2.2
                  have HZ : Hid (Below w.heap.size w w11) := HX.out.1.trans ((H10.out.1.below.trans (hb11.mono H10.out.1.forest.le)).mono HX.out.1.size)
                  clear hb11
                  go_wp2
                  go_ret
                  exact ⟨rfl, HZ.out⟩
end Go.Proofs.YtjiikjpnlgogfaaGreatDoor
