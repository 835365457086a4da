/-
  Package twigskeep: a map with a key more, or with another value for it (Known.with).
  Package twigskeep: a map of known making out of raw bytes (known).
-/
import Derived.Test.YtjiikjpnlgogfaaGreatDoorKnoC
namespace Go.Proofs.YtjiikjpnlgogfaaGreatDoor
open Go.RowKit

theorem heap_at3 (w : World) (a b c : Obj) : (((w.alloc a).alloc b).alloc c).heap[w.heap.size]? = some a ∧ (((w.alloc a).alloc b).alloc c).heap[w.heap.size + 1]? = some b ∧ (((w.alloc a).alloc b).alloc c).heap[w.heap.size + 2]? = some c := by
  have nw : ∀ (w : World) (o : Obj), (w.alloc o).heap[w.heap.size]? = some o := fun w o => Array.getElem?_push_size
  have h1 : (w.alloc a).heap.size = w.heap.size + 1 := by simp
  have h2 : ((w.alloc a).alloc b).heap.size = w.heap.size + 2 := by simp
  refine ⟨?_, ?_, ?_⟩
  · rw [Below.heap_alloc _ _ _ (by omega), Below.heap_alloc _ _ _ (by omega)]
    exact nw w a
  · rw [Below.heap_alloc _ _ _ (by omega), ← h1]
    exact nw _ b
  · rw [← h2]
    exact nw _ c
theorem Kn.var {w : World} {C : Nat} {ks vs : Value} {m : List (Array Nat × ByteArray)} (h : Kn w C ks vs m) (hC : C ≤ w.heap.size) (t : TypeId) : Kv (w.alloc (.cells #[ks, vs] t)) C w.heap.size ks vs (m.map (·.1)) (m.map (·.2)) := by
  have hb : Below w.heap.size w (w.alloc (.cells #[ks, vs] t)) := (Below.refl _ _).alloc (Nat.le_refl _) _
  refine ⟨?_, ?_, h.apart, by rw [World.cell?_alloc_new]; rfl, by rw [World.cell?_alloc_new]; rfl, World.frozen?_alloc_new _ _ _ _, World.frozen?_alloc_new _ _ _ _, by simp, by simp; omega, fun e => ?_, fun e => ?_⟩
  · have := h.keys.below hb
    rw [List.length_map, List.flatMap_map]
    exact this
  · have := h.vals.below hb
    rw [List.length_map, List.map_map]
    exact this
  · have := (h.keys.block _ e).2; omega
  · have := (h.vals.block _ e).2; omega

theorem kwith_end {w W0 wr : World} {ob : Nat} {ko vo : Value} {l : List (Array Nat × ByteArray)} (hk : Kv wr (w.heap.size + 3) ob ko vo (l.map (·.1)) (l.map (·.2))) (hb : Below (w.heap.size + 3) W0 wr) (hb0 : Below w.heap.size w W0) (ok : ∀ x ∈ l, x.1.size = 32 ∧ Bytes x.1 ∧ 0 < x.2.size ∧ x.2.size ≤ 100) (wz : World) (h1 : wz.os = wr.os) (h2 : wz.tape = wr.tape) (h3 : wz.output = wr.output) (h4 : wz.heap = ((wr.setCell ⟨w.heap.size + 2, 0, none⟩ ko).setCell ⟨w.heap.size + 2, 1, none⟩ vo).heap) : Below w.heap.size w wz ∧ Kn wz w.heap.size ko vo l := by
  have hB : Below w.heap.size w wr := hb0.trans (hb.mono (by omega))
  have hs := hk.size
  have hkn : Kn wr (w.heap.size + 3) ko vo l := hk.kn ok
  have hne : ∀ j, j ≠ w.heap.size + 2 → wz.heap[j]? = wr.heap[j]? := fun j hj => by
    rw [h4, Below.heap_setCell _ _ _ _ hj, Below.heap_setCell _ _ _ _ hj]
  have hsz : wz.heap.size = wr.heap.size := by rw [h4]; simp
  refine ⟨⟨h1.trans hB.os, h2.trans hB.tape, h3.trans hB.output, by rw [hsz]; exact hB.size, fun j hj => (hne j (by omega)).trans (hB.block j hj)⟩, ?_⟩
  exact ⟨(hkn.keys.keep (Nat.le_of_eq hsz.symm) fun j hj e => hne j (by have := (hkn.keys.block j e).1; omega)).mono (by omega), (hkn.vals.keep (Nat.le_of_eq hsz.symm) fun j hj e => hne j (by have := (hkn.vals.block j e).1; omega)).mono (by omega), hkn.ok, hkn.apart⟩

def wiN (m : List (Array Nat × ByteArray)) (K : Array Nat) (u : ByteArray) : List (Array Nat × ByteArray) := woN m K ++ [(K, u)]

set_option maxRecDepth 100000 in
set_option maxHeartbeats 3200000 in
attribute [local go_sem ↓] wp_load_key wp_build_key in
theorem kwith_any {w : World} {C : Nat} {ks vs : Value} {m : List (Array Nat × ByteArray)} {K : Array Nat} {u : ByteArray} (h : Kn w C ks vs m) (hm : m.length ≤ 1000) (hK : K.size = 32) (hKb : Bytes K) (hu0 : 0 < u.size) (hu1 : u.size ≤ 100) :
    Calls Tryz.prog 39 #[.agg #[ks, vs], .agg (K.toList.map encB).toArray, .string u] w fun e w' => Below w.heap.size w w' ∧ ∃ ks' vs', e = .returned (.agg #[ks', vs']) ∧ Kn w' w.heap.size ks' vs' (wiN m K u) := by
  obtain ⟨pk, mk, ck, rfl⟩ := h.keys.shape
  obtain ⟨pv, mv, cv, rfl⟩ := h.vals.shape
  obtain ⟨i0, hi, hz0, hz1, hz2⟩ := info_parts keyZ
  obtain ⟨j0, hj, hy0, hy1, hy2⟩ := info_parts strZ
  obtain ⟨W0, hW0⟩ : ∃ W0, ((w.alloc (.cells #[.slice pk mk ck, .slice pv mv cv] 54)).alloc (.cells (K.toList.map encB).toArray 26)).alloc (.cells #[.slice none 0 0, .slice none 0 0] 54) = W0 := ⟨_, rfl⟩
  have hb0 : Below w.heap.size w W0 := by rw [← hW0]; exact (((Below.refl _ _).alloc (Nat.le_refl _) _).alloc (by simp) _).alloc (by simp; omega) _
  have hs0 : W0.heap.size = w.heap.size + 3 := by rw [← hW0]; simp
  obtain ⟨hp0, hp1, hp2⟩ := heap_at3 w (.cells #[.slice pk mk ck, .slice pv mv cv] 54) (.cells (K.toList.map encB).toArray 26) (.cells #[.slice none 0 0, .slice none 0 0] 54)
  rw [hW0] at hp0 hp1 hp2
  have c0 : W0.cell? ⟨w.heap.size, 0, none⟩ = some (.slice pk mk ck) := cell_of_row W0 _ 0 _ _ (0, 0) hp0
  have c1 : W0.cell? ⟨w.heap.size, 1, none⟩ = some (.slice pv mv cv) := cell_of_row W0 _ 1 _ _ (0, 0) hp0
  have hrow : W0.rangeAt (w.heap.size + 1) 0 (K.toList.map encB) := fun j u hu => by
    rw [Nat.zero_add, cell_of_row W0 _ j _ _ (0, 0) hp1]
    simpa using hu
  obtain ⟨kc, hk32⟩ := keyCells_of hrow (by simp [hK])
  have HC : Hid (∀ W, Below (w.heap.size + 3) W0 W → W.cell? ⟨w.heap.size + 2, 0, none⟩ = some (.slice none 0 0) ∧ W.cell? ⟨w.heap.size + 2, 1, none⟩ = some (.slice none 0 0) ∧ W.frozen? ⟨w.heap.size + 2, 0, none⟩ = false ∧ W.frozen? ⟨w.heap.size + 2, 1, none⟩ = false ∧ keyCells W (w.heap.size + 1) 0 = (K.toList.map encB).toArray ∧ HasKey W (w.heap.size + 1) 0) := fun W hW => by
    have e2 : W.heap[w.heap.size + 2]? = _ := (hW.block _ (by omega)).trans hp2
    have e1 := keyCells_of (rangeAt_block hrow (hW.block _ (by omega))) (by simp [hK])
    exact ⟨cell_of_row W _ 0 _ _ (0, 0) e2, cell_of_row W _ 1 _ _ (0, 0) e2, frozen_of_row W _ 0 _ _ e2, frozen_of_row W _ 1 _ _ e2, e1⟩
  have HWo := Hid.hide (without_any (h.below hb0) hm hK hKb)
  have hls : (K.toList.map encB).toArray.size = 32 := by simp [hK]
  have HX : Hid (m.length ≤ 1000 ∧ Below w.heap.size w W0 ∧ W0.heap.size = w.heap.size + 3 ∧ (∀ x ∈ wiN m K u, x.1.size = 32 ∧ Bytes x.1 ∧ 0 < x.2.size ∧ x.2.size ≤ 100)) := ⟨hm, hb0, hs0, fun x hx => by
    rcases List.mem_append.1 hx with hx | hx
    · exact h.ok x (List.mem_filter.1 hx).1
    · obtain rfl := List.mem_singleton.1 hx
      exact ⟨hK, hKb, hu0, hu1⟩⟩
  clear h hm hK hKb hb0 hs0 hp0 hp1 hp2 hrow hu0 hu1
  go_enter Tryz.func39, Tryz.ntmps39
  go_wp2_with fail
  refine HWo.out.mono ?_
  rintro e w1 ⟨hb1, ks1, vs1, rfl, hk1⟩
  obtain ⟨pa, ma, ca, rfl⟩ := hk1.keys.shape
  obtain ⟨pb, mb, cb, rfl⟩ := hk1.vals.shape
  have HK1 : Hid (Kn w1 W0.heap.size (.slice pa ma ca) (.slice pb mb cb) (woN m K) ∧ Below W0.heap.size W0 w1) := ⟨hk1, hb1⟩
  clear hk1 hb1 HWo hW0 c0 c1 kc hk32
  go_upto_region 2 with fail
  have hkv := (HK1.out.1.var HK1.out.2.size 54)
  have hbv : Below W0.heap.size W0 (w1.alloc (.cells #[.slice pa ma ca, .slice pb mb cb] 54)) := HK1.out.2.alloc HK1.out.2.size _
  obtain ⟨ob, hob⟩ : ∃ ob, w1.heap.size = ob := ⟨_, rfl⟩
  rw [hob] at hkv ⊢
  generalize w1.alloc (.cells #[.slice pa ma ca, .slice pb mb cb] 54) = W1 at hkv hbv ⊢
  rw [HX.out.2.2.1] at hkv hbv
  obtain ⟨-, -, -, -, kc, hk32⟩ := HC.out W1 hbv
  have o0 := hkv.c0
  have o1 := hkv.c1
  have y0 := hkv.f0
  have y1 := hkv.f1
  have HO : Hid (∀ o, OwnC (W1.alloc o) (w.heap.size + 3) 32 (.slice pa ma ca) ((woN m K).map (·.1)).length (((woN m K).map (·.1)).flatMap fun x => x.toList.map encB)) := fun o => hkv.keys.alloc o
  have HKy : Hid (∀ t, (W1.alloc (.cells (K.toList.map encB).toArray t)).rangeAt W1.heap.size 0 (K.toList.map encB)) := fun t => rangeAt_new W1 (K.toList.map encB) t
  have HV1 : Hid (Kv W1 (w.heap.size + 3) ob (.slice pa ma ca) (.slice pb mb cb) ((woN m K).map (·.1)) ((woN m K).map (·.2)) ∧ Below (w.heap.size + 3) W0 W1 ∧ w.heap.size + 3 ≤ ob) := ⟨hkv, hbv, by rw [← hob, ← HX.out.2.2.1]; exact HK1.out.2.size⟩
  have HN : Hid (((woN m K).map (·.1)).length ≤ 1000 ∧ ((woN m K).map (·.2)).length ≤ 1000) := by
    have h1 := wo_len m K
    have h2 := HX.out.1
    have h : ((woN m K).map (·.1)).length ≤ 1000 ∧ ((woN m K).map (·.2)).length ≤ 1000 := by simp; omega
    exact h
  clear hkv hbv hob HK1
  go_upto_region 3 with (at_builtin; refine wpList_append_ownp _ rfl _ _ 51 rfl 26 i0 (.agg (zero32.map encB)) 32 32 Tryz.underlying51 hi hz0 hz1 hz2 keyZs (by decide) (w.heap.size + 3) (.slice pa ma ca) _ _ rfl (HO.out _) W1.heap.size 0 1 1 (K.toList.map encB) rfl (by simpa using hls) (HKy.out _) (oneCell_key K) (by have := HN.out; unfold maxLen; omega) (by have := HN.out; omega) (by have := HV1.out.1.size; simp; omega) ?_)
  intro v2 w2 hO2 hg2 hf2 hp2
  have hV2 := HV1.out.1.key (K := K) (v2 := v2) (by rw [List.length_map]; exact hO2) hg2 (by rw [World.size_alloc]; exact hf2)
  have hB2 := HV1.out.1.below (.inl rfl) hg2 HV1.out.2.1 (by have := HV1.out.2.2; omega) (Nat.le_refl _) (Nat.le_of_eq HX.out.2.2.1.symm) 0 v2
  obtain ⟨hvb, hvl, -⟩ := HV1.out.1.var (.inl rfl) hg2
  have z0 := (World.cell?_of_block (a := ⟨ob, 0, none⟩) hvb).trans o0
  have z1 := (World.frozen?_of_block (a := ⟨ob, 0, none⟩) hvb).trans y0
  obtain ⟨p2, m2, k2, rfl⟩ := hO2.shape
  have HV2 : Hid (Kv (w2.setCell ⟨ob, 0, none⟩ (.slice p2 m2 k2)) (w.heap.size + 3) ob (.slice p2 m2 k2) (.slice pb mb cb) ((woN m K).map (·.1) ++ [K]) ((woN m K).map (·.2)) ∧ Below (w.heap.size + 3) W0 (w2.setCell ⟨ob, 0, none⟩ (.slice p2 m2 k2))) := ⟨hV2, hB2⟩
  clear hO2 hg2 hf2 hp2 hvb hV2 hB2 o0 o1 y0 y1 kc hk32 HO HKy
  go_upto_region 3 with fail
  obtain ⟨W2, hW2⟩ : ∃ W2, w2.setCell ⟨ob, 0, none⟩ (.slice p2 m2 k2) = W2 := ⟨_, rfl⟩
  rw [hW2] at HV2 ⊢
  clear hW2 z0 z1 hvl
  have o0 := HV2.out.1.c0
  have o1 := HV2.out.1.c1
  have y0 := HV2.out.1.f0
  have y1 := HV2.out.1.f1
  have HO : Hid (∀ o, OwnC (W2.alloc o) (w.heap.size + 3) 1 (.slice pb mb cb) ((woN m K).map (·.2)).length (((woN m K).map (·.2)).map Value.string)) := fun o => HV2.out.1.vals.alloc o
  have HKy : Hid (∀ t, (W2.alloc (.cells #[.string u] t)).rangeAt W2.heap.size 0 [.string u]) := fun t => rangeAt_new W2 [.string u] t
  go_upto_region 4 with (at_builtin; refine wpList_append_ownp _ rfl _ _ 52 rfl 9 j0 (.string ⟨#[]⟩) 1 16 Tryz.underlying52 hj hy0 hy1 hy2 rfl (by decide) (w.heap.size + 3) (.slice pb mb cb) _ _ rfl (HO.out _) W2.heap.size 0 1 1 [.string u] rfl rfl (HKy.out _) (by simp [Value.oneCell']) (by have := HN.out; unfold maxLen; omega) (by have := HN.out; omega) (by have := HV2.out.1.size; simp; omega) ?_)
  intro v3 w3 hO3 hg3 hf3 hp3
  have hV3 := HV2.out.1.val (u := u) (v2 := v3) (by rw [List.length_map]; simpa using hO3) hg3 (by rw [World.size_alloc]; exact hf3)
  have hB3 := HV2.out.1.below (.inr rfl) hg3 HV2.out.2 (by have := HV1.out.2.2; omega) (Nat.le_refl _) (Nat.le_of_eq HX.out.2.2.1.symm) 1 v3
  obtain ⟨hvb, hvl, -⟩ := HV2.out.1.var (.inr rfl) hg3
  have z0 := (World.cell?_of_block (a := ⟨ob, 1, none⟩) hvb).trans o1
  have z1 := (World.frozen?_of_block (a := ⟨ob, 1, none⟩) hvb).trans y1
  obtain ⟨p3, m3, k3, rfl⟩ := hO3.shape
  have HV3 : Hid (Kv (w3.setCell ⟨ob, 1, none⟩ (.slice p3 m3 k3)) (w.heap.size + 3) ob (.slice p2 m2 k2) (.slice p3 m3 k3) ((wiN m K u).map (·.1)) ((wiN m K u).map (·.2)) ∧ Below (w.heap.size + 3) W0 (w3.setCell ⟨ob, 1, none⟩ (.slice p3 m3 k3))) := ⟨by rw [wiN, List.map_append, List.map_append]; exact hV3, hB3⟩
  clear hO3 hg3 hf3 hp3 hvb hV3 hB3 o0 o1 y0 y1 HO HKy HV1 HV2
  go_upto_region 4 with fail
  obtain ⟨W3, hW3⟩ : ∃ W3, w3.setCell ⟨ob, 1, none⟩ (.slice p3 m3 k3) = W3 := ⟨_, rfl⟩
  rw [hW3] at HV3 ⊢
  clear hW3 z0 z1 hvl
  have o0 := HV3.out.1.c0
  have o1 := HV3.out.1.c1
  obtain ⟨s0, s1, t0, t1, -, -⟩ := HC.out W3 HV3.out.2
  have HZ : Hid (∀ wz, wz.os = W3.os → wz.tape = W3.tape → wz.output = W3.output → wz.heap = ((W3.setCell ⟨w.heap.size + 2, 0, none⟩ (.slice p2 m2 k2)).setCell ⟨w.heap.size + 2, 1, none⟩ (.slice p3 m3 k3)).heap → Below w.heap.size w wz ∧ Kn wz w.heap.size (.slice p2 m2 k2) (.slice p3 m3 k3) (wiN m K u)) := kwith_end HV3.out.1 HV3.out.2 HX.out.2.1 HX.out.2.2.2
  clear HV3
  go_wp2
  refine bodyPost_ret (v := .agg #[.slice p2 m2 k2, .slice p3 m3 k3]) (by simp [results, Tryz.results39, go_sem, s0, s1]) rfl ?_
  exact ⟨(HZ.out _ (by rfl) (by rfl) (by rfl) (by rfl)).1, _, _, rfl, (HZ.out _ (by rfl) (by rfl) (by rfl) (by rfl)).2⟩
end Go.Proofs.YtjiikjpnlgogfaaGreatDoor

namespace Go.Proofs.YtjiikjpnlgogfaaGreatDoor
open Go.RowKit

theorem Kn.mono {w : World} {C C' : Nat} {ks vs : Value} {m : List (Array Nat × ByteArray)} (h : Kn w C' ks vs m) (hc : C ≤ C') : Kn w C ks vs m := ⟨h.keys.mono hc, h.vals.mono hc, h.ok, h.apart⟩
theorem Kn.keep {w w' : World} {C : Nat} {ks vs : Value} {m : List (Array Nat × ByteArray)} (h : Kn w C ks vs m) (hs : w.heap.size ≤ w'.heap.size) (hb : ∀ j, C ≤ j → j < w.heap.size → w'.heap[j]? = w.heap[j]?) : Kn w' C ks vs m :=
  ⟨h.keys.keep hs fun j hj e => hb j (h.keys.block j e).1 hj, h.vals.keep hs fun j hj e => hb j (h.vals.block j e).1 hj, h.ok, h.apart⟩
theorem Kn.nil (w : World) (C : Nat) : Kn w C (.slice none 0 0) (.slice none 0 0) [] := ⟨OwnC.nil _ _ _, OwnC.nil _ _ _, fun x hx => absurd hx (by simp), fun g h => by simp [Value.ownBlock] at h⟩
/-- The state of known's loop. -/
structure KnSt (w wr : World) (raw : ByteArray) (ks vs : Value) (m : List (Array Nat × ByteArray)) : Prop where
  feed : FeedAt wr (w.heap.size + 1) raw
  res : wr.heap[w.heap.size]? = some (.cells #[.slice none 0 0, .slice none 0 0] 54 (0, 0))
  c0 : wr.cell? ⟨w.heap.size + 2, 0, none⟩ = some ks
  c1 : wr.cell? ⟨w.heap.size + 2, 1, none⟩ = some vs
  f0 : wr.frozen? ⟨w.heap.size + 2, 0, none⟩ = false
  f1 : wr.frozen? ⟨w.heap.size + 2, 1, none⟩ = false
  kn : Kn wr (w.heap.size + 3) ks vs m
  below : Below w.heap.size w wr
  size : w.heap.size + 3 ≤ wr.heap.size
  dup : (m.map (·.1)).Nodup
theorem KnSt.keep {w wr w' : World} {raw : ByteArray} {ks vs : Value} {m : List (Array Nat × ByteArray)} (h : KnSt w wr raw ks vs m) (hf : FeedAt w' (w.heap.size + 1) raw) (ho : Only (w.heap.size + 1) wr w') : KnSt w w' raw ks vs m := by
  have hs := h.size
  have e0 := ho.block w.heap.size (by omega) (by omega)
  have e2 := ho.block (w.heap.size + 2) (by omega) (by omega)
  exact ⟨hf, e0.trans h.res, (World.cell?_of_block e2).trans h.c0, (World.cell?_of_block e2).trans h.c1, (World.frozen?_of_block e2).trans h.f0, (World.frozen?_of_block e2).trans h.f1, h.kn.keep ho.size fun j h1 h2 => ho.block j h2 (by omega), ho.below h.below (by omega) (by omega), Nat.le_trans hs ho.size, h.dup⟩
theorem KnSt.fed {w wr w' : World} {raw : ByteArray} {ks vs : Value} {m : List (Array Nat × ByteArray)} (h : KnSt w wr raw ks vs m) (hf : Fed (w.heap.size + 1) raw wr w') : KnSt w w' raw ks vs m := h.keep hf.2 hf.1
theorem KnSt.behind {w wr w' : World} {raw : ByteArray} {ks vs : Value} {m : List (Array Nat × ByteArray)} (h : KnSt w wr raw ks vs m) (hb : Below wr.heap.size wr w') : KnSt w w' raw ks vs m := h.keep (h.feed.below hb) (.of_below hb)
theorem wi_len (m : List (Array Nat × ByteArray)) (K : Array Nat) (u : ByteArray) : (wiN m K u).length ≤ m.length + 1 := by
  have := wo_len m K
  simp [wiN]
  omega
theorem wo_dup {m : List (Array Nat × ByteArray)} (h : (m.map (·.1)).Nodup) (K : Array Nat) : ((woN m K).map (·.1)).Nodup := h.sublist (List.Sublist.map _ List.filter_sublist)
theorem wi_dup {m : List (Array Nat × ByteArray)} (h : (m.map (·.1)).Nodup) (K : Array Nat) (u : ByteArray) : ((wiN m K u).map (·.1)).Nodup := by
  rw [wiN, List.map_append]
  refine List.nodup_append.2 ⟨wo_dup h K, by simp, fun a ha b hb e => ?_⟩
  subst e
  obtain ⟨x, hx, rfl⟩ := List.mem_map.1 ha
  have h1 := (List.mem_filter.1 hx).2
  simp at hb h1
  exact h1 hb
theorem KnSt.step {w wr w' : World} {raw : ByteArray} {ks vs ks' vs' : Value} {m : List (Array Nat × ByteArray)} {K : Array Nat} {u : ByteArray} (h : KnSt w wr raw ks vs m) (hb : Below wr.heap.size wr w') (hk : Kn w' wr.heap.size ks' vs' (wiN m K u)) : KnSt w ((w'.setCell ⟨w.heap.size + 2, 0, none⟩ ks').setCell ⟨w.heap.size + 2, 1, none⟩ vs') raw ks' vs' (wiN m K u) := by
  have h' := h.behind hb
  have hs := h.size
  have hne : ∀ j, j ≠ w.heap.size + 2 → ((w'.setCell ⟨w.heap.size + 2, 0, none⟩ ks').setCell ⟨w.heap.size + 2, 1, none⟩ vs').heap[j]? = w'.heap[j]? := fun j hj => by
    rw [Below.heap_setCell _ _ _ _ hj, Below.heap_setCell _ _ _ _ hj]
  have hsz : ((w'.setCell ⟨w.heap.size + 2, 0, none⟩ ks').setCell ⟨w.heap.size + 2, 1, none⟩ vs').heap.size = w'.heap.size := by simp
  have hbl := h'.below
  refine ⟨h'.feed.keep (hne _ (by omega)) (by omega), (hne _ (by omega)).trans h'.res, ?_, ?_, ?_, ?_, ?_, ⟨hbl.os, hbl.tape, hbl.output, by rw [hsz]; exact hbl.size, fun k hk => (hne k (by omega)).trans (hbl.block k hk)⟩, by have := h'.size; omega, wi_dup h.dup K u⟩
  · rw [World.cell?_setCell_other _ _ _ _ (by simp)]
    exact World.cell?_setCell_same _ _ _ h'.c0
  · exact World.cell?_setCell_same _ _ _ ((World.cell?_setCell_other _ _ _ _ (by simp)).trans h'.c1)
  · rw [World.frozen?_setCell, World.frozen?_setCell]; exact h'.f0
  · rw [World.frozen?_setCell, World.frozen?_setCell]; exact h'.f1
  · exact (hk.keep (by omega) fun j h1 h2 => hne j (by omega)).mono (by omega)
theorem KnSt.fin {w wr : World} {raw : ByteArray} {ks vs : Value} {m : List (Array Nat × ByteArray)} (h : KnSt w wr raw ks vs m) : ∀ wz : World, wz.os = wr.os → wz.tape = wr.tape → wz.output = wr.output → wz.heap = ((wr.setCell ⟨w.heap.size, 0, none⟩ ks).setCell ⟨w.heap.size, 1, none⟩ vs).heap → Below w.heap.size w wz ∧ Kn wz w.heap.size ks vs m := fun wz h1 h2 h3 h4 => by
  have hB := h.below
  have hne : ∀ j, j ≠ w.heap.size → wz.heap[j]? = wr.heap[j]? := fun j hj => by
    rw [h4, Below.heap_setCell _ _ _ _ hj, Below.heap_setCell _ _ _ _ hj]
  have hsz : wz.heap.size = wr.heap.size := by rw [h4]; simp
  exact ⟨⟨h1.trans hB.os, h2.trans hB.tape, h3.trans hB.output, by rw [hsz]; exact hB.size, fun j hj => (hne j (by omega)).trans (hB.block j hj)⟩, (h.kn.keep (by omega) fun j h1 h2 => hne j (by omega)).mono (by omega)⟩
theorem KnSt.start {w : World} {raw : ByteArray} : KnSt w (((w.alloc (.cells #[.slice none 0 0, .slice none 0 0] 54)).alloc (.cells #[.string raw, .int .i64 0] 30)).alloc (.cells #[.slice none 0 0, .slice none 0 0] 54)) raw (.slice none 0 0) (.slice none 0 0) [] := by
  obtain ⟨hp0, hp1, hp2⟩ := heap_at3 w (.cells #[.slice none 0 0, .slice none 0 0] 54) (.cells #[.string raw, .int .i64 0] 30) (.cells #[.slice none 0 0, .slice none 0 0] 54)
  exact ⟨⟨by simp, cell_of_row _ _ 0 _ _ (0, 0) hp1, ⟨0, cell_of_row _ _ 1 _ _ (0, 0) hp1, Nat.zero_le _⟩, frozen_of_row _ _ 1 _ _ hp1⟩, hp0, cell_of_row _ _ 0 _ _ (0, 0) hp2, cell_of_row _ _ 1 _ _ (0, 0) hp2, frozen_of_row _ _ 0 _ _ hp2, frozen_of_row _ _ 1 _ _ hp2, Kn.nil _ _, (((Below.refl _ _).alloc (Nat.le_refl _) _).alloc (by simp) _).alloc (by simp; omega) _, by simp, by simp⟩

/-- A key laid into a new block. -/
abbrev z32 : Array Value := #[.int .u8 0, .int .u8 0, .int .u8 0, .int .u8 0, .int .u8 0, .int .u8 0, .int .u8 0, .int .u8 0, .int .u8 0, .int .u8 0, .int .u8 0, .int .u8 0, .int .u8 0, .int .u8 0, .int .u8 0, .int .u8 0, .int .u8 0, .int .u8 0, .int .u8 0, .int .u8 0, .int .u8 0, .int .u8 0, .int .u8 0, .int .u8 0, .int .u8 0, .int .u8 0, .int .u8 0, .int .u8 0, .int .u8 0, .int .u8 0, .int .u8 0, .int .u8 0]
theorem laid_key (w : World) (K : Array Nat) (hK : K.size = 32) :
    (w.alloc (.cells z32 26)).there w.heap.size 0 (K.toList.map encB).toArray.size ∧ (Tryz.prog.info? 26).map (·.size) = some (K.toList.map encB).toArray.size ∧ (Tryz.prog.info? 26).map (·.size) = some (K.toList.map encB).length ∧ (K.toList.map encB).toArray.all (·.oneCell') = true ∧
    Below w.heap.size w ((w.alloc (.cells z32 26)).setCells w.heap.size 0 (K.toList.map encB)) ∧ ((w.alloc (.cells z32 26)).setCells w.heap.size 0 (K.toList.map encB)).rangeAt w.heap.size 0 (K.toList.map encB) ∧
    w.heap.size < ((w.alloc (.cells z32 26)).setCells w.heap.size 0 (K.toList.map encB)).heap.size := by
  have ht : (w.alloc (.cells z32 26)).there w.heap.size 0 32 := there_new w _ 26 32 rfl
  have hb : Below w.heap.size w (w.alloc (.cells z32 26)) := (Below.refl _ _).alloc (Nat.le_refl _) _
  have hs : w.heap.size < (w.alloc (.cells z32 26)).heap.size := by simp
  generalize w.alloc (.cells z32 26) = w1 at ht hb hs
  obtain ⟨z1, z2, t1, t2⟩ := hash_cells' hK ht
  exact ⟨t1, z2, z1, all_oneCell_toArray (oneCell_enc K .u8), below_setCells hb (Nat.le_refl _) _ _, World.rangeAt_setCells_same _ _ _ _ t2, by rw [(size_setCells _ _ _ _).1]; exact hs⟩

set_option maxRecDepth 100000 in
set_option maxHeartbeats 3200000 in
theorem known_any (raw : ByteArray) (w : World) (hr : raw.size ≤ 9223372036854775807) :
    Calls Tryz.prog 24 #[.string raw] w fun e w' => Below w.heap.size w w' ∧ ∃ ks vs m, e = .returned (.agg #[ks, vs]) ∧ Kn w' w.heap.size ks vs m ∧ (m.map (·.1)).Nodup ∧ m.length ≤ 12 := by
  have HN := Hid.hide (fun k W h h0 h1 => value_loop (w.heap.size + 1) raw hr k W h h0 h1)
  have HKy := Hid.hide (fun W h => key_any (w.heap.size + 1) raw W h hr)
  have HV := Hid.hide (fun W h => value_any (w.heap.size + 1) raw W h hr)
  clear hr
  go_enter Tryz.func24, Tryz.ntmps24
  go_wp2_with fail
  have H0 : Hid (KnSt w (((w.alloc (.cells #[.slice none 0 0, .slice none 0 0] 54)).alloc (.cells #[.string raw, .int .i64 0] 30)).alloc (.cells #[.slice none 0 0, .slice none 0 0] 54)) raw (.slice none 0 0) (.slice none 0 0) []) := KnSt.start
  generalize World.alloc (World.alloc (World.alloc w _) _) _ = w0 at H0 ⊢
  refine (HN.out 13 w0 H0.out.feed (by omega) (by omega)).mono ?_
  rintro e w1 ⟨c1, hc1, rfl, hf1⟩
  have H1 : Hid (KnSt w w1 raw (.slice none 0 0) (.slice none 0 0) [] ∧ c1 ≤ 12) := ⟨H0.out.fed hf1, by omega⟩
  clear hf1 H0 hc1
  go_wp2
  go_loopg [5] c1 (fun g n wr => ∃ (k : Nat) (ks vs : Value) (m : List (Array Nat × ByteArray)), k = g ∧ n = .int .i64 (k : Int) ∧ m.length + k ≤ 12 ∧ KnSt w wr raw ks vs m)
  case atStart => exact ⟨c1, _, _, [], rfl, rfl, by have := H1.out.2; simp; omega, H1.out.1⟩
  case round =>
    obtain ⟨k, ks, vs, m, rfl, rfl, hm, hst⟩ := hrel
    obtain ⟨pk, mk, ck, rfl⟩ := hst.kn.keys.shape
    obtain ⟨pv, mv, cv, rfl⟩ := hst.kn.vals.shape
    by_cases h0 : k = 0
    · subst h0
      have o0 := hst.c0
      have o1 := hst.c1
      have s0 := cell_of_row wr _ 0 _ _ (0, 0) hst.res
      have s1 := cell_of_row wr _ 1 _ _ (0, 0) hst.res
      have t0 := frozen_of_row wr _ 0 _ _ hst.res
      have t1 := frozen_of_row wr _ 1 _ _ hst.res
      have HZ := Hid.hide hst.fin
      have HE : Hid ((m.map (·.1)).Nodup ∧ m.length ≤ 12) := ⟨hst.dup, by omega⟩
      clear hst hm
      go_wp2
      refine bodyPost_ret (v := .agg #[.slice pk mk ck, .slice pv mv cv]) (by simp [results, Tryz.results24, go_sem, s0, s1]) rfl ?_
      exact ⟨(HZ.out _ (by rfl) (by rfl) (by rfl) (by rfl)).1, _, _, m, rfl, (HZ.out _ (by rfl) (by rfl) (by rfl) (by rfl)).2, HE.out⟩
    · have hm0 : (0 : Int) < (k : Int) := by omega
      have HS : Hid (KnSt w wr raw (.slice pk mk ck) (.slice pv mv cv) m ∧ m.length + k ≤ 12 ∧ ¬ k = 0) := ⟨hst, hm, h0⟩
      have hwr := hst.size
      clear hst hm h0
      go_wp2_with fail
      refine (HKy.out wr HS.out.1.feed).mono ?_
      rintro e w2 ⟨K, hK, hKb, rfl, hf2⟩
      have HS2 : Hid (KnSt w w2 raw (.slice pk mk ck) (.slice pv mv cv) m ∧ K.size = 32 ∧ Bytes K) := ⟨HS.out.1.fed hf2, hK, hKb⟩
      obtain ⟨t1, z2, z1, hone, hb3, hr3, hs3⟩ := laid_key w2 K hK
      clear hf2 hKb hwr
      go_wp2_with (refine wpList_store_mid rfl 26 _ _ rfl w2.heap.size 0 (K.toList.map encB).toArray rfl rfl t1 z2 hone ?_; rw [List.toList_toArray]; generalize World.setCells _ _ _ _ = w3 at hb3 hr3 hs3 ⊢; clear t1 z2 hone)
      refine (HV.out w3 (HS2.out.1.behind hb3).feed).mono ?_
      rintro e w4 ⟨u, hu0, hu1, rfl, hf4⟩
      have hst4 := (HS2.out.1.behind hb3).fed hf4
      have hr4 : w4.rangeAt w2.heap.size 0 (K.toList.map encB) := rangeAt_block hr3 (hf4.1.block _ hs3 (by have := HS2.out.1.size; omega))
      have o0 := hst4.c0
      have o1 := hst4.c1
      have HW := Hid.hide (kwith_any hst4.kn (by have := HS.out.2.1; omega) HS2.out.2.1 HS2.out.2.2 hu0 hu1)
      have HS4 := Hid.hide hst4
      clear hst4 hf4 hr3 hs3 hb3 hu0 hu1 hK
      go_wp2_with (refine wpList_load_mid rfl 26 _ rfl w2.heap.size 0 rfl (K.toList.map encB) _ hr4 Tryz.underlying26 rfl z1 ?_)
      refine HW.out.mono ?_
      rintro e w5 ⟨hb5, ks', vs', rfl, hk5⟩
      obtain ⟨pa, ma, ca, rfl⟩ := hk5.keys.shape
      obtain ⟨pb, mb, cb, rfl⟩ := hk5.vals.shape
      have hst5 := HS4.out.behind hb5
      have q0 := hst5.c0
      have q1 := hst5.c1
      have f0 := hst5.f0
      have f1 := hst5.f1
      have HS6 := Hid.hide (HS4.out.step hb5 hk5)
      have HKm : Hid (wrap64 ((k : Int) - 1) = ((k - 1 : Nat) : Int)) := by
        have h : wrap64 ((k : Int) - 1) = ((k - 1 : Nat) : Int) := (by unfold wrap64; have := HS.out; omega)
        exact h
      clear hst5 hb5 hk5 o0 o1 hr4
      go_wp2
      go_roundg (k - 1)
      case measure => have := HS.out; omega
      case rel => exact ⟨k - 1, _, _, wiN m K u, rfl, val_int HKm.out, by have := wi_len m K u; have := HS.out; omega, HS6.out⟩
end Go.Proofs.YtjiikjpnlgogfaaGreatDoor
