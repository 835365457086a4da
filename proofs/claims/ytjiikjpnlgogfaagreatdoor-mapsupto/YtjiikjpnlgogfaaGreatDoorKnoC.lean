/-
  Package twigskeep: a map without a key (Known.without): the walk.
-/
import Derived.Test.YtjiikjpnlgogfaaGreatDoorKnoB
namespace Go.Proofs.YtjiikjpnlgogfaaGreatDoor
open Go.RowKit

def woN (m : List (Array Nat × ByteArray)) (K : Array Nat) : List (Array Nat × ByteArray) := m.filter fun x => decide (x.1 ≠ K)
theorem wo_take_ne {m : List (Array Nat × ByteArray)} {K : Array Nat} {k : Nat} (hk : k < m.length) (h : m[k].1 ≠ K) : woN (m.take (k + 1)) K = woN (m.take k) K ++ [m[k]] := by
  rw [woN, woN, List.take_succ_eq_append_getElem hk, List.filter_append]
  simp [h]
theorem wo_take_eq {m : List (Array Nat × ByteArray)} {K : Array Nat} {k : Nat} (hk : k < m.length) (h : m[k].1 = K) : woN (m.take (k + 1)) K = woN (m.take k) K := by
  rw [woN, woN, List.take_succ_eq_append_getElem hk, List.filter_append]
  simp [h]
theorem wo_len (m : List (Array Nat × ByteArray)) (K : Array Nat) : (woN m K).length ≤ m.length := List.length_filter_le ..
theorem oneCell_key (K : Array Nat) : ∀ u ∈ K.toList.map encB, u.oneCell' = true := oneCell_enc K .u8
/-- The value that stands there. -/
theorem Kn.val {w : World} {C : Nat} {ks vs : Value} {m : List (Array Nat × ByteArray)} (h : Kn w C ks vs m) {i : Nat} (hi : i < m.length) : ∃ g cap, vs = .slice (some ⟨g, 0, none⟩) m.length cap ∧ g < w.heap.size ∧ w.cell? ⟨g, i, none⟩ = some (.string m[i].2) := by
  obtain ⟨g, cap, e, h1, h2, h3, h4, h5, h6⟩ := h.vals.full (by omega)
  refine ⟨g, cap, e, h2, ?_⟩
  have := h6 i (.string m[i].2) (by rw [List.getElem?_map, List.getElem?_eq_getElem hi]; rfl)
  rwa [Nat.zero_add] at this

theorem keyZs : (Value.agg (zero32.map encB)).cells.size = 32 := by simp [zero32]
theorem undrewG {w w2 : World} {x : Option Nat} (h : w.drew.grownBy w2 x) : w.grownBy w2 x := ⟨h.os, h.tape, h.output, h.size, h.block⟩
theorem heap_at4 (w : World) (a b c d : Obj) : ((((w.alloc a).alloc b).alloc c).alloc d).heap[w.heap.size]? = some a ∧ ((((w.alloc a).alloc b).alloc c).alloc d).heap[w.heap.size + 1]? = some b ∧ ((((w.alloc a).alloc b).alloc c).alloc d).heap[w.heap.size + 2]? = some c ∧ ((((w.alloc a).alloc b).alloc c).alloc d).heap[w.heap.size + 3]? = some d := by
  have nw : ∀ (w : World) (o : Obj), (w.alloc o).heap[w.heap.size]? = some o := fun w o => Array.getElem?_push_size
  have h1 : (w.alloc a).heap.size = w.heap.size + 1 := by simp
  have h2 : ((w.alloc a).alloc b).heap.size = w.heap.size + 2 := by simp
  have h3 : (((w.alloc a).alloc b).alloc c).heap.size = w.heap.size + 3 := by simp
  refine ⟨?_, ?_, ?_, ?_⟩
  · rw [Below.heap_alloc _ _ _ (by omega), Below.heap_alloc _ _ _ (by omega), Below.heap_alloc _ _ _ (by omega)]
    exact nw w a
  · rw [Below.heap_alloc _ _ _ (by omega), Below.heap_alloc _ _ _ (by omega), ← h1]
    exact nw _ b
  · rw [Below.heap_alloc _ _ _ (by omega), ← h2]
    exact nw _ c
  · rw [← h3]
    exact nw _ d

theorem without_end {w W0 wr : World} {C : Nat} {ks vs ko vo : Value} {m l : List (Array Nat × ByteArray)} {K : Array Nat} (hk : Kv wr (w.heap.size + 4) (w.heap.size + 3) ko vo (l.map (·.1)) (l.map (·.2))) (hb : Below (w.heap.size + 3) W0 wr) (hb0 : Below w.heap.size w W0) (hl : l = woN m K) (h : Kn W0 C ks vs m) (wz : World) (h1 : wz.os = wr.os) (h2 : wz.tape = wr.tape) (h3 : wz.output = wr.output) (h4 : wz.heap = ((wr.setCell ⟨w.heap.size + 2, 0, none⟩ ko).setCell ⟨w.heap.size + 2, 1, none⟩ vo).heap) : Below w.heap.size w wz ∧ Kn wz w.heap.size ko vo (woN m K) := by
  subst hl
  have hB : Below w.heap.size w wr := hb0.trans (hb.mono (by omega))
  have hs := hk.size
  have hkn : Kn wr (w.heap.size + 4) ko vo (woN m K) := hk.kn fun x hx => h.ok x (List.mem_filter.1 hx).1
  have hne : ∀ j, j ≠ w.heap.size + 2 → wz.heap[j]? = wr.heap[j]? := fun j hj => by
    rw [h4, Below.heap_setCell _ _ _ _ hj, Below.heap_setCell _ _ _ _ hj]
  have hsz : wz.heap.size = wr.heap.size := by rw [h4]; simp
  refine ⟨⟨h1.trans hB.os, h2.trans hB.tape, h3.trans hB.output, by rw [hsz]; exact hB.size, fun j hj => (hne j (by omega)).trans (hB.block j hj)⟩, ?_⟩
  exact ⟨(hkn.keys.keep (Nat.le_of_eq hsz.symm) fun j hj e => hne j (by have := (hkn.keys.block j e).1; omega)).mono (by omega), (hkn.vals.keep (Nat.le_of_eq hsz.symm) fun j hj e => hne j (by have := (hkn.vals.block j e).1; omega)).mono (by omega), hkn.ok, hkn.apart⟩

set_option maxRecDepth 100000 in
set_option maxHeartbeats 3200000 in
attribute [local go_sem ↓] wp_load_key wp_build_key in
theorem without_any {w : World} {C : Nat} {ks vs : Value} {m : List (Array Nat × ByteArray)} {K : Array Nat} (h : Kn w C ks vs m) (hm : m.length ≤ 1000) (hK : K.size = 32) (hKb : Bytes K) :
    Calls Tryz.prog 60 #[.agg #[ks, vs], .agg (K.toList.map encB).toArray] w fun e w' => Below w.heap.size w w' ∧ ∃ ks' vs', e = .returned (.agg #[ks', vs']) ∧ Kn w' w.heap.size ks' vs' (woN m K) := by
  obtain ⟨pk, mk, ck, rfl⟩ := h.keys.shape
  obtain ⟨pv, mv, cv, rfl⟩ := h.vals.shape
  have hmk : mk = m.length := by
    rcases h.keys.2 with ⟨h1, h2⟩ | ⟨g, cap, h1, _⟩
    · simp only [Value.slice.injEq] at h1; omega
    · simp only [Value.slice.injEq] at h1; exact h1.2.1
  subst hmk
  obtain ⟨i0, hi, hz0, hz1, hz2⟩ := info_parts keyZ
  obtain ⟨j0, hj, hy0, hy1, hy2⟩ := info_parts strZ
  have hsz : (Tryz.prog.info? 26).map (·.size) = some (K.toList.map encB).length := by rw [size51]; simp [hK]
  obtain ⟨W0, hW0⟩ : ∃ W0, ((((w.alloc (.cells #[.slice pk m.length ck, .slice pv mv cv] 54)).alloc (.cells (K.toList.map encB).toArray 26)).alloc (.cells #[.slice none 0 0, .slice none 0 0] 54)).alloc (.cells #[.slice none 0 0, .slice none 0 0] 54)) = W0 := ⟨_, rfl⟩
  have hb0 : Below w.heap.size w W0 := by rw [← hW0]; exact ((((Below.refl _ _).alloc (Nat.le_refl _) _).alloc (by simp) _).alloc (by simp; omega) _).alloc (by simp; omega) _
  have hs0 : W0.heap.size = w.heap.size + 4 := by rw [← hW0]; simp
  obtain ⟨hp0, hp1, hp2, hp3⟩ := heap_at4 w (.cells #[.slice pk m.length ck, .slice pv mv cv] 54) (.cells (K.toList.map encB).toArray 26) (.cells #[.slice none 0 0, .slice none 0 0] 54) (.cells #[.slice none 0 0, .slice none 0 0] 54)
  rw [hW0] at hp0 hp1 hp2 hp3
  have c0 : W0.cell? ⟨w.heap.size, 0, none⟩ = some (.slice pk m.length ck) := cell_of_row W0 _ 0 _ _ (0, 0) hp0
  have c1 : W0.cell? ⟨w.heap.size, 1, none⟩ = some (.slice pv mv cv) := cell_of_row W0 _ 1 _ _ (0, 0) hp0
  have r0 : W0.cell? ⟨w.heap.size + 2, 0, none⟩ = some (.slice none 0 0) := cell_of_row W0 _ 0 _ _ (0, 0) hp2
  have r1 : W0.cell? ⟨w.heap.size + 2, 1, none⟩ = some (.slice none 0 0) := cell_of_row W0 _ 1 _ _ (0, 0) hp2
  have q0 : W0.frozen? ⟨w.heap.size + 2, 0, none⟩ = false := frozen_of_row W0 _ 0 _ _ hp2
  have q1 : W0.frozen? ⟨w.heap.size + 2, 1, none⟩ = false := frozen_of_row W0 _ 1 _ _ hp2
  have hv0 : Kv W0 (w.heap.size + 4) (w.heap.size + 3) (.slice none 0 0) (.slice none 0 0) [] [] := ⟨OwnC.nil _ _ _, OwnC.nil _ _ _, fun g e => by simp [Value.ownBlock] at e, cell_of_row W0 _ 0 _ _ (0, 0) hp3, cell_of_row W0 _ 1 _ _ (0, 0) hp3, frozen_of_row W0 _ 0 _ _ hp3, frozen_of_row W0 _ 1 _ _ hp3, by omega, by omega, by simp [Value.ownBlock], by simp [Value.ownBlock]⟩
  have hrow : W0.rangeAt (w.heap.size + 1) 0 (K.toList.map encB) := fun j u hu => by
    rw [Nat.zero_add, cell_of_row W0 _ j _ _ (0, 0) hp1]
    simpa using hu
  clear hp0 hp1 hp2 hp3
  have HK0 := Hid.hide (h.below hb0)
  have HG : Hid ((∀ g, pk = some ⟨g, 0, none⟩ → g < w.heap.size) ∧ (∀ g, pv = some ⟨g, 0, none⟩ → g < w.heap.size)) := ⟨fun g e => (h.keys.block g (by rw [e]; rfl)).2, fun g e => (h.vals.block g (by rw [e]; rfl)).2⟩
  have HX : Hid (K.size = 32 ∧ Bytes K ∧ m.length ≤ 1000 ∧ Below w.heap.size w W0 ∧ W0.heap.size = w.heap.size + 4) := ⟨hK, hKb, hm, hb0, hs0⟩
  have HC : Hid (W0.cell? ⟨w.heap.size + 2, 0, none⟩ = some (.slice none 0 0) ∧ W0.cell? ⟨w.heap.size + 2, 1, none⟩ = some (.slice none 0 0) ∧ W0.frozen? ⟨w.heap.size + 2, 0, none⟩ = false ∧ W0.frozen? ⟨w.heap.size + 2, 1, none⟩ = false) := ⟨r0, r1, q0, q1⟩
  have HV0 := Hid.hide hv0
  have hu26 := Tryz.underlying26
  clear h hm hK hKb hb0 hs0 r0 r1 q0 q1 hv0
  go_enter Tryz.func60, Tryz.ntmps60
  go_wp2
  clear hW0
  go_loopg [6] m.length (fun g i wr => ∃ (k : Nat) (ko vo : Value), k ≤ m.length ∧ g = m.length - k ∧ i = .int .i64 (k : Int) ∧ Kv wr (w.heap.size + 4) (w.heap.size + 3) ko vo ((woN (m.take k) K).map (·.1)) ((woN (m.take k) K).map (·.2)) ∧ Below (w.heap.size + 3) W0 wr)
  case atStart => exact ⟨0, _, _, Nat.zero_le _, rfl, rfl, HV0.out, .refl _ _⟩
  case round =>
    obtain ⟨k, ko, vo, hk, rfl, rfl, hkv, hbl⟩ := hrel
    obtain ⟨po, mo, co, rfl⟩ := hkv.keys.shape
    obtain ⟨px, mx, cx, rfl⟩ := hkv.vals.shape
    have hl3 : w.heap.size + 3 < wr.heap.size := by have := hkv.size; omega
    have d0 : wr.cell? ⟨w.heap.size, 0, none⟩ = some (.slice pk m.length ck) := (World.cell?_of_block (hbl.block _ (by show w.heap.size < _; omega))).trans c0
    have d1 : wr.cell? ⟨w.heap.size, 1, none⟩ = some (.slice pv mv cv) := (World.cell?_of_block (hbl.block _ (by show w.heap.size < _; omega))).trans c1
    have hrow' : wr.rangeAt (w.heap.size + 1) 0 (K.toList.map encB) := rangeAt_block hrow (hbl.block _ (by omega))
    have HB : Hid (Kv wr (w.heap.size + 4) (w.heap.size + 3) (.slice po mo co) (.slice px mx cx) ((woN (m.take k) K).map (·.1)) ((woN (m.take k) K).map (·.2)) ∧ Below (w.heap.size + 3) W0 wr ∧ k ≤ m.length) := ⟨hkv, hbl, hk⟩
    clear hkv hbl hk
    by_cases hlt : k < m.length
    · have i1 : (k : Int) < (m.length : Int) := by omega
      obtain ⟨g, cap, hks, hgl, hrg⟩ := HK0.out.key hlt
      simp only [Value.slice.injEq] at hks
      obtain ⟨rfl, -, rfl⟩ := hks
      obtain ⟨gv, capv, hvs, hgvl, hcv⟩ := HK0.out.val hlt
      simp only [Value.slice.injEq] at hvs
      obtain ⟨rfl, rfl, rfl⟩ := hvs
      have hmem := HK0.out.ok _ (List.getElem_mem hlt)
      have hsz2 : (Tryz.prog.info? 26).map (·.size) = some (m[k].1.toList.map encB).length := by rw [size51]; simp [hmem.1]
      have heq := fun W => key_same m[k].1 K hmem.1 HX.out.1 hmem.2.1 HX.out.2.1 W
      have hgl' : g < w.heap.size := HG.out.1 g rfl
      have hgvl' : gv < w.heap.size := HG.out.2 gv rfl
      by_cases he : m[k].1 = K
      · rw [decide_eq_true he] at heq
        have hT := wo_take_eq hlt he
        have hrg' : wr.rangeAt g (k * 32) (m[k].1.toList.map encB) := rangeAt_block hrg (HB.out.2.1.block _ (by omega))
        have HT := Hid.hide hT
        obtain ⟨L, hL⟩ : ∃ L, m[k].1 = L := ⟨_, rfl⟩
        rw [hL] at hrg' hsz2 heq
        have HW1 : Hid (wrap64 ((k : Int) + 1) = ((k + 1 : Nat) : Int)) := by
          have := HX.out.2.2.1
          have h : wrap64 ((k : Int) + 1) = ((k + 1 : Nat) : Int) := by unfold wrap64; omega
          exact h
        clear hT hrg hcv hmem he hL hgl hgvl c0 c1
        go_upto_region 5 with fail
        refine wp_region_quiet_lit (by kernel_rfl) (by kernel_rfl) ?_
        iterate 4 (go_big_quiet_step (fail))
        refine BigFrame.wpQuiet_want rfl fun Kq hKq => quiet_load_mid 26 _ rfl g (k * 32) rfl (L.toList.map encB) _ (fun W hW => ?ld1) hu26 rfl hsz2 (hKq _ ?_)
        case ld1 => obtain ⟨n, rfl⟩ := hW; exact fun j u hu => (by simpa using hrg' j u hu)
        clear Kq hKq
        refine BigFrame.wpQuiet_want rfl fun Kq hKq => quiet_load_mid 26 _ rfl (w.heap.size + 1) 0 rfl (K.toList.map encB) _ (fun W hW => ?ld2) hu26 rfl hsz (hKq _ ?_)
        case ld2 => obtain ⟨n, rfl⟩ := hW; exact fun j u hu => (by simpa using hrow' j u hu)
        clear Kq hKq
        quiet_step (fail)
        refine wpQuiet_nil ?_
        rintro _ ⟨nq, rfl⟩
        go_wp2
        go_roundg (m.length - (k + 1))
        case measure => omega
        case rel =>
          refine ⟨k + 1, .slice po mo co, .slice px mx cx, hlt, rfl, by rw [HW1.out], ?_, Below.drewN HB.out.2.1 _⟩
          rw [HT.out]
          exact HB.out.1.heap rfl
      · rw [decide_eq_false he] at heq
        have hT := wo_take_ne hlt he
        have hrg' : wr.rangeAt g (k * 32) (m[k].1.toList.map encB) := rangeAt_block hrg (HB.out.2.1.block _ (by omega))
        have hcv' : wr.cell? ⟨gv, k, none⟩ = some (.string m[k].2) := (World.cell?_of_block (HB.out.2.1.block gv (by omega))).trans hcv
        have HT := Hid.hide hT
        obtain ⟨L, hL⟩ : ∃ L, m[k].1 = L := ⟨_, rfl⟩
        obtain ⟨U, hU⟩ : ∃ U, m[k].2 = U := ⟨_, rfl⟩
        rw [hL] at hrg' hsz2 heq
        rw [hU] at hcv'
        have HLU : Hid (L.size = 32 ∧ m[k].1 = L ∧ m[k].2 = U) := ⟨hL ▸ hmem.1, hL, hU⟩
        clear hT hrg hcv hmem he hL hU hgl hgvl c0 c1
        go_upto_region 5 with fail
        refine wp_region_quiet_lit (by kernel_rfl) (by kernel_rfl) ?_
        iterate 4 (go_big_quiet_step (fail))
        refine BigFrame.wpQuiet_want rfl fun Kq hKq => quiet_load_mid 26 _ rfl g (k * 32) rfl (L.toList.map encB) _ (fun W hW => ?ld1) hu26 rfl hsz2 (hKq _ ?_)
        case ld1 => obtain ⟨n, rfl⟩ := hW; exact fun j u hu => (by simpa using hrg' j u hu)
        clear Kq hKq
        refine BigFrame.wpQuiet_want rfl fun Kq hKq => quiet_load_mid 26 _ rfl (w.heap.size + 1) 0 rfl (K.toList.map encB) _ (fun W hW => ?ld2) hu26 rfl hsz (hKq _ ?_)
        case ld2 => obtain ⟨n, rfl⟩ := hW; exact fun j u hu => (by simpa using hrow' j u hu)
        clear Kq hKq
        quiet_step (fail)
        refine wpQuiet_nil ?_
        rintro _ ⟨nq, rfl⟩
        go_upto_region 6 with fail
        generalize hWq : wr.drewN _ = W
        have hh : W.heap = wr.heap := by rw [← hWq]; rfl
        have HBW : Hid (Kv W (w.heap.size + 4) (w.heap.size + 3) (.slice po mo co) (.slice px mx cx) ((woN (m.take k) K).map (·.1)) ((woN (m.take k) K).map (·.2)) ∧ Below (w.heap.size + 3) W0 W) := ⟨HB.out.1.heap hh, by rw [← hWq]; exact Below.drewN HB.out.2.1 _⟩
        rw [← hh] at hl3
        rw [← cell_heap hh] at d0 d1 hcv'
        have hrgW : W.rangeAt g (k * 32) (L.toList.map encB) := fun j u hu => by rw [cell_heap hh]; exact hrg' j u hu
        obtain ⟨kc, hk32⟩ := keyCells_of hrgW (by simp [HLU.out.1])
        have hls : (L.toList.map encB).toArray.size = 32 := by simp [HLU.out.1]
        have kd := keyCells_drew
        have kh := hasKey_drew
        have o0 := HBW.out.1.c0
        have o1 := HBW.out.1.c1
        have y0 := HBW.out.1.f0
        have y1 := HBW.out.1.f1
        have HKey : Hid (∀ t, (W.alloc (.cells (L.toList.map encB).toArray t)).drew.rangeAt W.heap.size 0 (L.toList.map encB)) := fun t => rangeAt_new W (L.toList.map encB) t
        have HOw : Hid (∀ o, OwnC (W.alloc o).drew (w.heap.size + 4) 32 (.slice po mo co) ((woN (m.take k) K).map (·.1)).length (((woN (m.take k) K).map (·.1)).flatMap fun x => x.toList.map encB)) := fun o => (HBW.out.1.keys.alloc o).drew
        have HN : Hid (((woN (m.take k) K).map (·.1)).length ≤ 1000 ∧ w.heap.size + 4 ≤ W.heap.size) := ⟨by have := wo_len (m.take k) K; have := HX.out.2.2.1; have := HB.out.2.2; simp at *; omega, HBW.out.1.size⟩
        clear hWq hh hrow' hrg' hrgW HB hrow heq hu26 hsz hsz2
        go_cut [25] from 7 to 40 (fun _ wc => ∃ p2 m2 k2, Kv wc (w.heap.size + 4) (w.heap.size + 3) (.slice p2 m2 k2) (.slice px mx cx) ((woN (m.take k) K).map (·.1) ++ [L]) ((woN (m.take k) K).map (·.2)) ∧ Below (w.heap.size + 3) W0 wc)
        case first =>
          go_region_law
            (refine step_append_ownp _ rfl (.tmp 22) (.tmp 28) 51 rfl 26 i0 (.agg (zero32.map encB)) 32 32 Tryz.underlying51 hi hz0 hz1 hz2 keyZs (by decide) (w.heap.size + 4) (.slice po mo co) _ _ (by simp [Act.eval]) (HOw.out _) W.heap.size 0 1 1 (L.toList.map encB) (by simp [Act.eval]) (by simpa using hls) (HKey.out _) (oneCell_key L) (by have := HN.out; unfold maxLen; omega) (by have := HN.out; omega) (by have := HN.out; simp; omega) ?_; intro v2 w2 hO2 hg2' hf2 hp2; have hg2 := undrewG hg2'; have AM : Aside (Kv (w2.setCell ⟨w.heap.size + 3, 0, none⟩ v2) (w.heap.size + 4) (w.heap.size + 3) v2 (.slice px mx cx) ((woN (m.take k) K).map (·.1) ++ [L]) ((woN (m.take k) K).map (·.2)) ∧ Below (w.heap.size + 3) W0 (w2.setCell ⟨w.heap.size + 3, 0, none⟩ v2)) := ⟨HBW.out.1.key hO2 hg2 hf2, HBW.out.1.below (.inl rfl) hg2 HBW.out.2 (Nat.le_refl _) (by omega) (by have := HX.out.2.2.2.2; omega) _ _⟩; obtain ⟨hvb, hvl, hvC⟩ := HBW.out.1.var (.inl rfl) hg2; have z0 := (World.cell?_of_block (a := ⟨w.heap.size + 3, 0, none⟩) hvb).trans o0; have z1 := (World.frozen?_of_block (a := ⟨w.heap.size + 3, 0, none⟩) hvb).trans y0; obtain ⟨p2, m2, k2, rfl⟩ := hO2.shape; clear hO2 hg2 hg2' hf2 hp2 hvb hvC)
          all_goals go_wp2
          all_goals go_meet
          all_goals exact ⟨_, _, _, AM.out⟩
        case rest =>
          obtain ⟨p2, m2, k2, hk2, hb2⟩ := hcut
          have e0 : wc.cell? ⟨w.heap.size, 1, none⟩ = some (.slice (some ⟨gv, 0, none⟩) m.length cv) := (World.cell?_of_block ((hb2.block _ (by show w.heap.size < _; omega)).trans (HBW.out.2.block _ (by show w.heap.size < _; omega)).symm)).trans d1
          have e1 : wc.cell? ⟨gv, k, none⟩ = some (.string U) := (World.cell?_of_block ((hb2.block gv (by omega)).trans (HBW.out.2.block gv (by omega)).symm)).trans hcv'
          have o2 := hk2.c0
          have o3 := hk2.c1
          have y2 := hk2.f0
          have y3 := hk2.f1
          have hl4 : w.heap.size + 3 < wc.heap.size := by have := hk2.size; omega
          have HK2 : Hid (Kv wc (w.heap.size + 4) (w.heap.size + 3) (.slice p2 m2 k2) (.slice px mx cx) ((woN (m.take k) K).map (·.1) ++ [L]) ((woN (m.take k) K).map (·.2)) ∧ Below (w.heap.size + 3) W0 wc) := ⟨hk2, hb2⟩
          have HKy : Hid (∀ t, (wc.alloc (.cells #[.string U] t)).drew.rangeAt wc.heap.size 0 [.string U]) := fun t => rangeAt_new wc [.string U] t
          have HOx : Hid (∀ o, OwnC (wc.alloc o).drew (w.heap.size + 4) 1 (.slice px mx cx) ((woN (m.take k) K).map (·.2)).length (((woN (m.take k) K).map (·.2)).map Value.string)) := fun o => (hk2.vals.alloc o).drew
          have HN2 : Hid (((woN (m.take k) K).map (·.2)).length ≤ 1000 ∧ w.heap.size + 4 ≤ wc.heap.size) := ⟨by have := HN.out.1; simpa using this, hk2.size⟩
          clear d0 d1 hcv' hl3 HBW kc hk32 hls kd kh o0 o1 y0 y1 HKey HOw HN hk2 hb2
          go_upto_region 7 with fail
          have HW1 : Hid (wrap64 ((k : Int) + 1) = ((k + 1 : Nat) : Int)) := by
            have := HX.out.2.2.1
            have h : wrap64 ((k : Int) + 1) = ((k + 1 : Nat) : Int) := by unfold wrap64; omega
            exact h
          go_region_law
            (refine step_append_ownp _ rfl (.tmp 32) (.tmp 38) 52 rfl 9 j0 (.string ⟨#[]⟩) 1 16 Tryz.underlying52 hj hy0 hy1 hy2 rfl (by decide) (w.heap.size + 4) (.slice px mx cx) _ _ (by simp [Act.eval]) (HOx.out _) wc.heap.size 0 1 1 [.string U] (by simp [Act.eval]) rfl (HKy.out _) (by simp [Value.oneCell']) (by have := HN2.out; unfold maxLen; omega) (by have := HN2.out; omega) (by have := HN2.out; simp; omega) ?_; intro v2 w2 hO2 hg2' hf2 hp2; have hg2 := undrewG hg2'; have AM : Aside (Kv (w2.setCell ⟨w.heap.size + 3, 1, none⟩ v2) (w.heap.size + 4) (w.heap.size + 3) (.slice p2 m2 k2) v2 ((woN (m.take k) K).map (·.1) ++ [L]) ((woN (m.take k) K).map (·.2) ++ [U]) ∧ Below (w.heap.size + 3) W0 (w2.setCell ⟨w.heap.size + 3, 1, none⟩ v2)) := ⟨HK2.out.1.val hO2 hg2 hf2, HK2.out.1.below (.inr rfl) hg2 HK2.out.2 (Nat.le_refl _) (by omega) (by have := HX.out.2.2.2.2; omega) _ _⟩; obtain ⟨hvb, hvl, hvC⟩ := HK2.out.1.var (.inr rfl) hg2; have z0 := (World.cell?_of_block (a := ⟨w.heap.size + 3, 1, none⟩) hvb).trans o3; have z1 := (World.frozen?_of_block (a := ⟨w.heap.size + 3, 1, none⟩) hvb).trans y3; obtain ⟨p4, m4, k4, rfl⟩ := hO2.shape; clear hO2 hg2 hg2' hf2 hp2 hvb hvC)
          all_goals go_wp2
          all_goals
            go_roundg (m.length - (k + 1))
            case measure => omega
            case rel =>
              refine ⟨k + 1, .slice p2 m2 k2, .slice p4 m4 k4, hlt, rfl, by rw [HW1.out], ?_, AM.out.2⟩
              rw [HT.out, List.map_append, List.map_append, List.map_singleton, List.map_singleton, HLU.out.2.1, HLU.out.2.2]
              exact AM.out.1
    · have i1 : ¬ (k : Int) < (m.length : Int) := by omega
      have o0 := HB.out.1.c0
      have o1 := HB.out.1.c1
      obtain ⟨r0, r1, q0, q1⟩ := HC.out
      have s0 : wr.cell? ⟨w.heap.size + 2, 0, none⟩ = some (.slice none 0 0) := (World.cell?_of_block (HB.out.2.1.block _ (by show w.heap.size + 2 < _; omega))).trans r0
      have s1 : wr.cell? ⟨w.heap.size + 2, 1, none⟩ = some (.slice none 0 0) := (World.cell?_of_block (HB.out.2.1.block _ (by show w.heap.size + 2 < _; omega))).trans r1
      have t0 : wr.frozen? ⟨w.heap.size + 2, 0, none⟩ = false := (World.frozen?_of_block (HB.out.2.1.block _ (by show w.heap.size + 2 < _; omega))).trans q0
      have t1 : wr.frozen? ⟨w.heap.size + 2, 1, none⟩ = false := (World.frozen?_of_block (HB.out.2.1.block _ (by show w.heap.size + 2 < _; omega))).trans q1
      have HE : Hid (woN (m.take k) K = woN m K) := by rw [List.take_of_length_le (by omega)]; exact rfl
      have HZ : Hid (∀ wz, wz.os = wr.os → wz.tape = wr.tape → wz.output = wr.output → wz.heap = ((wr.setCell ⟨w.heap.size + 2, 0, none⟩ (.slice po mo co)).setCell ⟨w.heap.size + 2, 1, none⟩ (.slice px mx cx)).heap → Below w.heap.size w wz ∧ Kn wz w.heap.size (.slice po mo co) (.slice px mx cx) (woN m K)) := without_end HB.out.1 HB.out.2.1 HX.out.2.2.2.1 HE.out HK0.out
      clear r0 r1 q0 q1 c0 c1 d1 hrow hrow'
      go_wp2
      refine bodyPost_ret (v := .agg #[.slice po mo co, .slice px mx cx]) (by simp [results, Tryz.results60, go_sem, s0, s1]) rfl ?_
      exact ⟨(HZ.out _ (by rfl) (by rfl) (by rfl) (by rfl)).1, _, _, rfl, (HZ.out _ (by rfl) (by rfl) (by rfl) (by rfl)).2⟩
end Go.Proofs.YtjiikjpnlgogfaaGreatDoor
