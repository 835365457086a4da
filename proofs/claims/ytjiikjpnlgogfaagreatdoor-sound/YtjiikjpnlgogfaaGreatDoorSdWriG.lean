/-
  A hasher takes a piece (Write).
  A hasher tells the digest of what was written to it (Sum): the hasher stays as it was.
  The digest of a whole text (digest.Of, twigs.Digest), and the hasher of package twigs (NewHasher, Write, Sum).
  Digests in blocks of their own, and held against one another.
-/
import Derived.Test.YtjiikjpnlgogfaaGreatDoorSdChiG
import Derived.Stop.BytesEq
namespace Go.Proofs.YtjiikjpnlgogfaaGreatDoor
open Go.RowKit
attribute [local go_sem ↓] Go.wp_at_zero Go.wp_at_succ
structure Hs (w : World) (b : Nat) (st : HSt) : Prop where
  lanes : Row encL w b 0 st.1
  waits : Row encB w b 25 st.2.1
  count : w.cell? ⟨b, 161, none⟩ = some (.int .i64 (st.2.2 : Int))
  froz : w.frozen? ⟨b, 161, none⟩ = false
  size1 : st.1.size = 25
  size2 : st.2.1.size = 136
  small : Small st.1
  bytes : Bytes st.2.1
  less : st.2.2 < 136
theorem Hs.reset {w : World} {b : Nat} {L W : Array Nat} {v : Value} (r1 : Row encL w b 0 L) (r2 : Row encB w b 25 W) (hc : w.cell? ⟨b, 161, none⟩ = some v) (hf : w.frozen? ⟨b, 161, none⟩ = false)
    (h1 : L.size = 25) (h2 : W.size = 136) (h3 : Small L) (h4 : Bytes W) : Hs (w.setCell ⟨b, 161, none⟩ (.int .i64 0)) b (L, W, 0) :=
  ⟨r1.setBeside (by omega) _, r2.setBeside (by omega) _, World.cell?_setCell_same _ _ _ hc, (World.frozen?_setCell _ _ _ _).trans hf, h1, h2, h3, h4, by simp⟩
theorem size5 : (Tryz.prog.info? 5).map (·.size) = some 1 := by kernel_rfl
theorem bytesOf_length (t : ByteArray) : (bytesOf t).length = t.size := by
  unfold bytesOf
  rw [List.length_map, Array.length_toList]
  rfl
theorem bytesOf_drop (t : ByteArray) (n : Nat) : bytesOf (t.extract n t.size) = (bytesOf t).drop n := by
  have : t.data.toList.length = t.size := by rw [Array.length_toList]; rfl
  simp only [bytesOf, ByteArray.data_extract, Array.toList_extract, List.extract_eq_take_drop, List.map_take, List.map_drop]
  rw [List.take_of_length_le]
  rw [List.length_drop, List.length_map, this]
  exact Nat.le_refl _
theorem size_extract_to_end (t : ByteArray) (n : Nat) : (t.extract n t.size).size = t.size - n := by
  rw [← bytesOf_length, bytesOf_drop, List.length_drop, bytesOf_length]
theorem isEmpty_toList (t : ByteArray) : t.toList.isEmpty = decide (t.size = 0) := by
  rw [ByteArray.toList_eq]
  have : t.data.toList.length = t.size := by rw [Array.length_toList]; rfl
  cases h : t.data.toList with
  | nil => rw [h] at this; simp at this; simp [← this]
  | cons x l => rw [h] at this; simp at this; simp [← this]
theorem setCells_drew (b : Nat) : ∀ (vs : List Value) (o : Nat) (w : World), w.drew.setCells b o vs = (w.setCells b o vs).drew
  | [], _, _ => rfl
  | v :: r, o, w => by
    rw [World.setCells, World.setCells]
    exact setCells_drew b r (o + 1) (w.setCell ⟨b, o, none⟩ v)
theorem chunk_less {L W : Array Nat} {c n : Nat} (t : ByteArray) (h : c + n < 136) (hn : n ≤ t.size) : ((bytesOf t).take n).foldl push1 (L, W, c) = (L, putAt W c ((bytesOf t).take n), c + n) := by
  have hl : ((bytesOf t).take n).length = n := by rw [List.length_take, bytesOf_length]; omega
  rw [push_less _ _ _ _ (by omega), hl]
theorem chunk_full {L W : Array Nat} {c n : Nat} (t : ByteArray) (h : c + n = 136) (h1 : 0 < n) (hn : n ≤ t.size) : ((bytesOf t).take n).foldl push1 (L, W, c) = (absorbF L (putAt W c ((bytesOf t).take n)), putAt W c ((bytesOf t).take n), 0) := by
  have hl : ((bytesOf t).take n).length = n := by rw [List.length_take, bytesOf_length]; omega
  exact push_full _ _ _ _ (by omega) (by omega)
theorem chunk_on {st1 : HSt} (t : ByteArray) (n : Nat) : (bytesOf (t.extract n t.size)).foldl push1 (((bytesOf t).take n).foldl push1 st1) = (bytesOf t).foldl push1 st1 := by
  rw [bytesOf_drop, ← List.foldl_append, List.take_append_drop]
theorem range_step {b lo hi : Nat} {w w1 : World} (h : Step b lo hi w w1) {o : Nat} {cs : List Value} (hr : w.rangeAt b o cs) (ho : hi ≤ o) : w1.rangeAt b o cs :=
  fun j v hv => (h.cell _ (by omega)).trans (hr j v hv)
set_option maxRecDepth 100000 in
set_option maxHeartbeats 1600000 in
theorem write_any (b : Nat) (s : ByteArray) (st : HSt) (w : World) (hb : b < w.heap.size) (hH : Hs w b st) (hT : Tabs w) (hb10 : 16 ≤ b) :
    Calls Tryz.prog 79 #[.pointer (some ⟨b, 0, none⟩), .string s] w fun e w' => e = .returned (.tuple #[]) ∧ Step b 0 162 w w' ∧ Hs w' b ((bytesOf s).foldl push1 st) := by
  go_enter Tryz.func79, Tryz.ntmps79
  go_wp2
  go_loopg [1] s.size (fun g p wr => ∃ (t : ByteArray) (st1 : HSt), t.size ≤ g ∧ p = .string t ∧ w.heap.size ≤ wr.heap.size ∧ Step b 0 162 w wr ∧ Hs wr b st1 ∧ Hid ((bytesOf t).foldl push1 st1 = (bytesOf s).foldl push1 st))
  case atStart => exact ⟨s, st, Nat.le_refl _, rfl, Nat.le_refl _, Step.refl _ _ _ _, hH, rfl⟩
  case round =>
    obtain ⟨t, st1, hg, rfl, hsz, hst, hh, HF⟩ := hrel
    clear hH
    by_cases he : t.toList.isEmpty = true
    · have AS : Aside (Step b 0 162 w wr ∧ Hs wr b st1) := ⟨hst, hh⟩
      have ht : t.size = 0 := by rw [isEmpty_toList] at he; simpa using he
      have hb0 : bytesOf t = [] := List.length_eq_zero_iff.1 ((bytesOf_length t).trans ht)
      have HE : Hid (st1 = (bytesOf s).foldl push1 st) := by have := HF.out; rw [hb0] at this; exact this
      clear hst hh hT ht hb0 HF
      go_wp2
      go_end0
      obtain ⟨hst, hh⟩ := AS.out
      refine ⟨rfl, hst, ?_⟩
      rw [← HE.out]
      exact hh
    · have he' : t.toList.isEmpty = false := by simpa using he
      have ht0 : 0 < t.size := by
        rw [isEmpty_toList] at he'
        have := of_decide_eq_false he'
        omega
      clear he
      obtain ⟨L, W, c⟩ := st1
      obtain ⟨ro1, ro2, c3, f3, hs1, hs2, hsm, hby, hlc⟩ := hh
      simp only at ro1 ro2 c3 f3 hs1 hs2 hsm hby hlc
      obtain ⟨n, hn⟩ : ∃ n, n = Nat.min t.size (136 - c) := ⟨_, rfl⟩
      have hn1 : n ≤ t.size := by rw [hn]; exact Nat.min_le_left _ _
      have hn2 : n ≤ 136 - c := by rw [hn]; exact Nat.min_le_right _ _
      have hn3 : 0 < n := by rw [hn]; exact Nat.lt_min.2 ⟨ht0, by omega⟩
      have hth : wr.there b (25 + c) n := fun j hj => by
        have := ro2 (c + j) (by omega)
        rw [show 25 + (c + j) = 25 + c + j by omega] at this
        exact ⟨by rw [this.1]; rfl, this.2⟩
      have hcopy := run_copy_str (P := Tryz.prog) wr.drew 111 9 3 5 b (25 + c) (136 - c) (136 - c) t n Tryz.underlying111 size5 hn hth
      have hxl : ((bytesOf t).take n).length = n := by rw [List.length_take, bytesOf_length]; omega
      have hxb : ∀ x ∈ (bytesOf t).take n, x < 256 := fun x hx => bytesOf_lt t x (List.mem_of_mem_take hx)
      have hch := @chunk_on (L, W, c) t n
      have hcl := @chunk_less L W c n t
      have hcf := @chunk_full L W c n t
      obtain ⟨xs, hxs⟩ : ∃ xs, (bytesOf t).take n = xs := ⟨_, rfl⟩
      rw [hxs] at hcopy hxl hxb hch hcl hcf
      have st2 : Step b 0 162 w (wr.setCells b (25 + c) (xs.map encB)) := hst.setCells _ _ (by omega) (by simp; omega)
      have hro1 : Row encL (wr.setCells b (25 + c) (xs.map encB)) b 0 L := ro1.setCellsBeside _ _ (by omega)
      have hro2 : Row encB (wr.setCells b (25 + c) (xs.map encB)) b 25 (putAt W c xs) := ro2.put xs c (by omega)
      have c4 : (wr.setCells b (25 + c) (xs.map encB)).cell? ⟨b, 161, none⟩ = some (.int .i64 (c : Int)) := by
        rw [World.cell?_setCells_out b (xs.map encB) (25 + c) wr ⟨b, 161, none⟩ (fun _ _ => by right; simp; omega)]
        exact c3
      have f4 : (wr.setCells b (25 + c) (xs.map encB)).frozen? ⟨b, 161, none⟩ = false := by rw [World.frozen?_setCells]; exact f3
      have hsz2 : w.heap.size ≤ (wr.setCells b (25 + c) (xs.map encB)).heap.size := by rw [(size_setCells _ _ _ _).1]; exact hsz
      obtain ⟨w1, hw1⟩ : ∃ w1, wr.setCells b (25 + c) (xs.map encB) = w1 := ⟨_, rfl⟩
      have hw1d : wr.drew.setCells b (25 + c) (xs.map encB) = w1.drew := by rw [← hw1]; exact setCells_drew _ _ _ _
      rw [hw1d] at hcopy
      rw [hw1] at st2 hro1 hro2 c4 f4 hsz2
      have hps : (putAt W c xs).size = 136 := by rw [putAt_size]; exact hs2
      have hpb : Bytes (putAt W c xs) := bytes_putAt xs hxb W c hby
      have hex : (t.extract n t.size).size = t.size - n := size_extract_to_end t n
      have AS : Aside (Step b 0 162 w w1 ∧ Row encL w1 b 0 L ∧ Row encB w1 b 25 (putAt W c xs) ∧ L.size = 25 ∧ (putAt W c xs).size = 136 ∧ Small L ∧ Bytes (putAt W c xs) ∧ Tabs w) := ⟨st2, hro1, hro2, hs1, hps, hsm, hpb, hT⟩
      have AF : Aside ((bytesOf (t.extract n t.size)).foldl push1 (xs.foldl push1 (L, W, c)) = (bytesOf s).foldl push1 st ∧ (c + n < 136 → n ≤ t.size → xs.foldl push1 (L, W, c) = (L, putAt W c xs, c + n)) ∧ (c + n = 136 → 0 < n → n ≤ t.size → xs.foldl push1 (L, W, c) = (absorbF L (putAt W c xs), putAt W c xs, 0)) ∧ (t.extract n t.size).size = t.size - n) := ⟨by rw [hch]; exact HF.out, hcl, hcf, hex⟩
      clear hst ro1 ro2 hs1 hs2 hsm hby hT hth hn hxl hxb hch hcl hcf hxs st2 hro1 hro2 hw1d hps hpb hex HF hw1 f3
      have i1 : (0 : Int) ≤ (c : Int) := by omega
      have i2 : (c : Int) ≤ 136 := by omega
      have i3 : ¬ (136 = c) := by omega
      go_wp2
      go_region
      clear hcopy
      go_wp2
      · -- the block is full
        have hful : c + n = 136 := by
          have : ((c : Int) + (n : Int) == 136) = true := by assumption
          have := eq_of_beq this
          omega
        obtain ⟨st2, hro1, hro2, hs1, hps, hsm, hpb, hT⟩ := AS.out
        obtain ⟨Wn, hWn⟩ : ∃ Wn, putAt W c xs = Wn := ⟨_, rfl⟩
        rw [hWn] at hro2 hps hpb
        have HW : Hid (putAt W c xs = Wn) := hWn
        obtain ⟨w2, hw2⟩ : ∃ w2, w1.setCell ⟨b, 161, none⟩ (.int .i64 ((c : Int) + (n : Int))) = w2 := ⟨_, rfl⟩
        rw [hw2]
        have st3 : Step b 0 162 w w2 := by rw [← hw2]; exact st2.set (by omega) (by omega) _
        have r1 : Row encL w2 b 0 L := by rw [← hw2]; exact hro1.setBeside (by omega) _
        have r2 : Row encB w2 b 25 Wn := by rw [← hw2]; exact hro2.setBeside (by omega) _
        have c5 : w2.cell? ⟨b, 161, none⟩ = some (.int .i64 ((c : Int) + (n : Int))) := by rw [← hw2]; exact World.cell?_setCell_same _ _ _ c4
        have f5 : w2.frozen? ⟨b, 161, none⟩ = false := by rw [← hw2, World.frozen?_setCell]; exact f4
        have hsz3 : w.heap.size ≤ w2.heap.size := st3.size
        have hrg : w2.rangeAt b 25 (Wn.toList.map encB) := r2.range
        have hT2 : Tabs w2 := hT.step st3 hb10 (by omega)
        have hu68 := Tryz.underlying157
        have hsz68 : (Tryz.prog.info? 157).map (·.size) = some (Wn.toList.map encB).length := by rw [size68]; simp [hps]
        have hcall := fun W1 (h1 : Row encL W1 b 0 L) (h2 : Tabs W1) (h3 : b < W1.heap.size) => absorb_any b 0 L Wn W1 hs1 hsm h3 h1 h2 hb10 hps hpb
        have HC : Hid (∀ W1, Row encL W1 b 0 L → Tabs W1 → b < W1.heap.size → Calls Tryz.prog 143 #[.pointer (some ⟨b, 0, none⟩), .agg (Wn.toList.map encB).toArray] W1 fun e w' => e = .returned (.tuple #[]) ∧ Step b 0 (0 + 25) W1 w' ∧ Row encL w' b 0 (absorbF L Wn)) := hcall
        have hbw : b < w2.heap.size := by omega
        clear AS st2 hro1 hro2 hWn hw2 hT hcall c4 f4 c3 hsz2
        go_region_held3 (fun w' => w'.rangeAt b 25 (Wn.toList.map encB)) (first | exact hrg | exact range_step hstA hrg (by omega)) (first | (go_at_call 143; refine (HC.out w2.drew.drew r1 hT2 hbw).mono ?_; rintro e w' ⟨rfl, hstA, hroA⟩))
        rename_i hheld
        clear hheld
        have c6 : w'.cell? ⟨b, 161, none⟩ = some (.int .i64 ((c : Int) + (n : Int))) := (hstA.cell 161 (by omega)).trans c5
        have f6 : w'.frozen? ⟨b, 161, none⟩ = false := (hstA.froz 161).trans f5
        have r3 : Row encB w' b 25 Wn := hstA.row (b' := b) r2 hbw (by omega)
        have sz4 : w.heap.size ≤ w'.heap.size := Nat.le_trans hsz3 hstA.size
        have st4 : Step b 0 162 w w' := st3.trans (Step.widen (w := w2) ⟨hstA.os, hstA.tape, hstA.output, hstA.size, hstA.block, hstA.cell, hstA.froz⟩ (by omega) (by omega))
        have A3 : Aside (putAt W c xs = Wn ∧ n ≤ t.size ∧ 0 < n ∧ t.size ≤ gk) := ⟨HW.out, hn1, hn3, hg⟩
        have A2 : Aside (Step b 0 162 w w' ∧ Row encL w' b 0 (absorbF L Wn) ∧ Row encB w' b 25 Wn ∧ L.size = 25 ∧ Wn.size = 136 ∧ Small L ∧ Bytes Wn) := ⟨st4, hroA, r3, hs1, hps, hsm, hpb⟩
        have HFUL : Hid (c + n = 136) := hful
        clear st3 r1 r2 c5 f5 hrg hT2 hu68 hsz68 HC hbw hstA hroA r3 st4 hs1 hps hsm hpb hful HW hlc hn1 hn2 hn3 hsz3 hsz i1 i2 i3 hg he' ht0
        go_wp2
        obtain ⟨st4, hroA, r3, hs1, hps, hsm, hpb⟩ := A2.out
        obtain ⟨hF, _, hf, hex⟩ := AF.out
        obtain ⟨hW, hn1, hn3, hg⟩ := A3.out
        have hful := HFUL.out
        have hst5 := hf hful hn3 hn1
        rw [hW] at hst5
        have hAs := (absorbF_size L Wn).trans hs1
        have hAm := absorbF_small Wn hsm
        generalize absorbF L Wn = A at hroA hst5 hAs hAm
        rw [hst5] at hF
        go_roundg (t.extract n t.size).size
        case measure => omega
        case rel => exact ⟨t.extract n t.size, (A, Wn, 0), Nat.le_refl _, rfl, by simpa using sz4, st4.set (by omega) (by omega) _, Hs.reset hroA r3 c6 f6 hAs hps hAm hpb, hF⟩
      · -- the bytes wait
        have hnf : c + n < 136 := by
          have : ((c : Int) + (n : Int) == 136) = false := by assumption
          have := ne_of_beq_false this
          omega
        obtain ⟨st2, hro1, hro2, hs1, hps, hsm, hpb, hT⟩ := AS.out
        obtain ⟨hF, hl, _, hex⟩ := AF.out
        go_roundg (t.extract n t.size).size
        case measure => omega
        case rel =>
          refine ⟨t.extract n t.size, (L, putAt W c xs, c + n), Nat.le_refl _, rfl, ?_, (st2.set (by omega) (by omega) _).drew, ⟨(hro1.setBeside (by omega) _).drew, (hro2.setBeside (by omega) _).drew, ?_, ?_, hs1, hps, hsm, hpb, hnf⟩, ?_⟩
          · simpa using hsz2
          · exact (World.cell?_setCell_same _ _ _ c4).trans (by go_num)
          · exact (World.frozen?_setCell _ _ _ _).trans f4
          · rw [← hl hnf hn1]
            exact hF
end Go.Proofs.YtjiikjpnlgogfaaGreatDoor
namespace Go.Proofs.YtjiikjpnlgogfaaGreatDoor
open Go.RowKit
theorem size70 : (Tryz.prog.info? 159).map (·.size) = some 162 := by kernel_rfl
theorem zero70 : Tryz.zeroCells159.size = 162 := by kernel_rfl
def cellsOf (st : HSt) : List Value := st.1.toList.map encL ++ (st.2.1.toList.map encB ++ [.int .i64 (st.2.2 : Int)])
theorem cellsOf_length {st : HSt} (h1 : st.1.size = 25) (h2 : st.2.1.size = 136) : (cellsOf st).length = 162 := by
  simp [cellsOf, h1, h2]
theorem Hs.range {w : World} {b : Nat} {st : HSt} (h : Hs w b st) : w.rangeAt b 0 (cellsOf st) := by
  have h1 := h.size1
  have h2 := h.size2
  intro j v hv
  rw [Nat.zero_add]
  unfold cellsOf at hv
  rw [List.getElem?_append] at hv
  split at hv
  · rename_i hj
    have := h.lanes.range j v hv
    rwa [Nat.zero_add] at this
  · rename_i hj
    simp only [List.length_map, Array.length_toList, h1] at hj hv
    rw [List.getElem?_append] at hv
    split at hv
    · have := h.waits.range (j - 25) v hv
      rwa [show 25 + (j - 25) = j by omega] at this
    · rename_i hj2
      simp only [List.length_map, Array.length_toList, h2] at hj2 hv
      by_cases e : j = 161
      · subst e
        rw [h.count]
        exact hv
      · rw [List.getElem?_eq_none (by simp; omega)] at hv
        cases hv
theorem Hs.of_setCells {w : World} {b : Nat} {st : HSt} (ht : w.there b 0 162) (h1 : st.1.size = 25) (h2 : st.2.1.size = 136) (h3 : Small st.1) (h4 : Bytes st.2.1) (h5 : st.2.2 < 136) : Hs (w.setCells b 0 (cellsOf st)) b st := by
  have hl := cellsOf_length h1 h2
  have hr := World.rangeAt_setCells_same w b 0 (cellsOf st) (by rw [hl]; exact ht)
  have hf : ∀ j, j < 162 → (w.setCells b 0 (cellsOf st)).frozen? ⟨b, j, none⟩ = false := fun j hj => by
    rw [World.frozen?_setCells]
    have := (ht j hj).2
    rwa [Nat.zero_add] at this
  generalize w.setCells b 0 (cellsOf st) = w1 at hr hf
  refine ⟨fun j hj => ⟨hr j _ ?_, by rw [Nat.zero_add]; exact hf j (by omega)⟩, fun j hj => ⟨?_, hf (25 + j) (by omega)⟩, ?_, hf 161 (by omega), h1, h2, h3, h4, h5⟩
  · unfold cellsOf
    rw [List.getElem?_append_left (by simp; omega)]
    simp [hj]
  · have := hr (25 + j) (encB st.2.1[j]!) ?_
    · rwa [Nat.zero_add] at this
    · unfold cellsOf
      rw [List.getElem?_append_right (by simp; omega), List.getElem?_append_left (by simp; omega)]
      simp [hj, h1]
  · have := hr 161 (.int .i64 (st.2.2 : Int)) ?_
    · rwa [Nat.zero_add] at this
    · unfold cellsOf
      rw [List.getElem?_append_right (by simp; omega), List.getElem?_append_right (by simp; omega)]
      simp [h1, h2]
theorem oneCell_cellsOf (st : HSt) : ∀ v ∈ cellsOf st, v.oneCell' = true := by
  intro v hv
  unfold cellsOf at hv
  rcases List.mem_append.1 hv with h | h
  · exact oneCell_enc st.1 .u64 v h
  · rcases List.mem_append.1 h with h | h
    · exact oneCell_enc st.2.1 .u8 v h
    · rw [List.mem_singleton.1 h]; rfl
theorem sum_copy (w : World) (C : Array Value) (st : HSt) (hC : C.size = 32) (b : Nat) (hH : Hs w b st) (hT : Tabs w) (hw10 : 16 ≤ w.heap.size) :
    Hs (((w.alloc (.cells C 34)).alloc (.cells Tryz.zeroCells159 159)).setCells (w.heap.size + 1) 0 (cellsOf st)) (w.heap.size + 1) st ∧
    Below w.heap.size w (((w.alloc (.cells C 34)).alloc (.cells Tryz.zeroCells159 159)).setCells (w.heap.size + 1) 0 (cellsOf st)) ∧
    (((w.alloc (.cells C 34)).alloc (.cells Tryz.zeroCells159 159)).setCells (w.heap.size + 1) 0 (cellsOf st)).there w.heap.size 0 32 ∧
    w.heap.size + 1 < (((w.alloc (.cells C 34)).alloc (.cells Tryz.zeroCells159 159)).setCells (w.heap.size + 1) 0 (cellsOf st)).heap.size ∧
    Tabs (((w.alloc (.cells C 34)).alloc (.cells Tryz.zeroCells159 159)).setCells (w.heap.size + 1) 0 (cellsOf st)) := by
  have hth : ((w.alloc (.cells C 34)).alloc (.cells Tryz.zeroCells159 159)).there (w.heap.size + 1) 0 162 := by
    have := there_new (w.alloc (.cells C 34)) Tryz.zeroCells159 159 162 zero70.symm
    simpa using this
  have hb0 : Below w.heap.size w ((w.alloc (.cells C 34)).alloc (.cells Tryz.zeroCells159 159)) := ((Below.refl _ _).alloc (Nat.le_refl _) _).alloc (by simp) _
  have ht0 : ((w.alloc (.cells C 34)).alloc (.cells Tryz.zeroCells159 159)).there w.heap.size 0 32 := World.there_alloc (there_new _ _ _ _ hC.symm) _
  have hs0 : w.heap.size + 1 < ((w.alloc (.cells C 34)).alloc (.cells Tryz.zeroCells159 159)).heap.size := by simp
  generalize (w.alloc (.cells C 34)).alloc (.cells Tryz.zeroCells159 159) = w1 at hth hb0 ht0 hs0
  obtain ⟨q1, q2, q3, q4⟩ := size_setCells (w.heap.size + 1) (cellsOf st) 0 w1
  have hbl : Below w.heap.size w (w1.setCells (w.heap.size + 1) 0 (cellsOf st)) := hb0.trans ⟨q2, q3, q4, by rw [q1]; exact Nat.le_refl _, fun k hk => heap_setCells _ _ _ _ _ (by omega)⟩
  exact ⟨Hs.of_setCells hth hH.size1 hH.size2 hH.small hH.bytes hH.less, hbl, World.there_setCells ht0 _ _ _, by rw [q1]; exact hs0, hT.below hbl hw10⟩
theorem zero5 : (Tryz.prog.info? 5).map (·.zero) = some (some (.int .u8 0)) := by kernel_rfl
theorem sum_clear {w w2 w3 w4 w5 : World} {L W W1 : Array Nat} {c x : Nat} (hH : Hs w2 (w.heap.size + 1) (L, W, c)) (hB : Below w.heap.size w w2) (hth : w2.there w.heap.size 0 32) (hsz : w.heap.size + 1 < w2.heap.size) (hT : Tabs w2) (hw10 : 16 ≤ w.heap.size)
    (e3 : w2.setCell ⟨w.heap.size + 1, 25 + c, none⟩ (.int .u8 1) = w3) (e4 : w3.setCells (w.heap.size + 1) (25 + (c + 1)) ((List.replicate (135 - c) 0).map encB) = w4)
    (hW1 : putAt (W.set! c 1) (c + 1) (List.replicate (135 - c) 0) = W1) (hx : W1[135]! = x) (e5 : w4.setCell ⟨w.heap.size + 1, 160, none⟩ (.int .u8 (((x : Int) + 128) % 256)) = w5) :
    (Sem.run Tryz.prog (Builtin.clear_ #[111] 0 #[.slice (some ⟨w.heap.size + 1, 25 + (c + 1), none⟩) (135 - c) (135 - c)]) w3 = .ok (.tuple #[]) w4) ∧
    (Sem.run Tryz.prog (Builtin.clear_ #[111] 0 #[.slice (some ⟨w.heap.size + 1, 25, none⟩) 0 0]) w3 = .ok (.tuple #[]) (if 136 = c + 1 then w4 else w3)) ∧
    w3.cell? ⟨w.heap.size + 1, 161, none⟩ = some (.int .i64 (c : Int)) ∧
    w4.cell? ⟨w.heap.size + 1, 160, none⟩ = some (encB x) ∧
    w4.frozen? ⟨w.heap.size + 1, 160, none⟩ = false ∧
    w5.rangeAt (w.heap.size + 1) 25 ((W1.set! 135 ((x + 128) % 256)).toList.map encB) ∧
    Aside (Row encL w5 (w.heap.size + 1) 0 L ∧ Below w.heap.size w w5 ∧ w5.there w.heap.size 0 32 ∧ w.heap.size + 1 < w5.heap.size ∧ Tabs w5 ∧ L.size = 25 ∧ (W1.set! 135 ((x + 128) % 256)).size = 136 ∧ Small L ∧ Bytes (W1.set! 135 ((x + 128) % 256)) ∧ lastBlock W c = W1.set! 135 ((x + 128) % 256)) := by
  obtain ⟨r1, r2, cc, ff, h1, h2, h3, h4, h5⟩ := hH
  simp only at r1 r2 cc ff h1 h2 h3 h4 h5
  have r1' : Row encL w3 (w.heap.size + 1) 0 L := by rw [← e3]; exact r1.setBeside (by omega) _
  have r2' : Row encB w3 (w.heap.size + 1) 25 (W.set! c 1) := by rw [← e3]; exact r2.set rfl (by omega) 1 rfl
  have cc' : w3.cell? ⟨w.heap.size + 1, 161, none⟩ = some (.int .i64 (c : Int)) := by
    rw [← e3, World.cell?_setCell_other _ _ _ _ (fun e => by have e2 := congrArg Addr.off e; simp only at e2; omega)]; exact cc
  have hb3 : Below w.heap.size w w3 := by rw [← e3]; exact hB.setCell (by simp) _
  have ht3 : w3.there w.heap.size 0 32 := by rw [← e3]; exact there_set hth _ _
  have hs3 : w.heap.size + 1 < w3.heap.size := by rw [← e3]; simpa using hsz
  have hT3 : Tabs w3 := by
    rw [← e3]; exact hT.of_blocks (Below.heap_setCell _ _ _ _ (by simp; omega)) (Below.heap_setCell _ _ _ _ (by simp; omega))
  have hWs : (W.set! c 1).size = 136 := by simp [h2]
  have hth3 : w3.there (w.heap.size + 1) (25 + (c + 1)) (135 - c) := fun j hj => by
    have := r2' (c + 1 + j) (by omega)
    rw [show 25 + (c + 1 + j) = 25 + (c + 1) + j by omega] at this
    exact ⟨by rw [this.1]; rfl, this.2⟩
  have r2'' : Row encB w4 (w.heap.size + 1) 25 W1 := by
    rw [← e4, ← hW1]; exact r2'.put _ _ (by simp; omega)
  have r1'' : Row encL w4 (w.heap.size + 1) 0 L := by rw [← e4]; exact r1'.setCellsBeside _ _ (by omega)
  obtain ⟨q1, q2, q3, q4⟩ := size_setCells (w.heap.size + 1) ((List.replicate (135 - c) 0).map encB) (25 + (c + 1)) w3
  have hb4 : Below w.heap.size w w4 := by
    rw [← e4]; exact hb3.trans ⟨q2, q3, q4, by rw [q1]; exact Nat.le_refl _, fun k hk => heap_setCells _ _ _ _ _ (by omega)⟩
  have ht4 : w4.there w.heap.size 0 32 := by rw [← e4]; exact World.there_setCells ht3 _ _ _
  have hs4 : w.heap.size + 1 < w4.heap.size := by rw [← e4, q1]; exact hs3
  have hT4 : Tabs w4 := by rw [← e4]; exact hT3.of_blocks (heap_setCells _ _ _ _ _ (by omega)) (heap_setCells _ _ _ _ _ (by omega))
  have hps : W1.size = 136 := by rw [← hW1, putAt_size]; exact hWs
  have hpb : Bytes W1 := by rw [← hW1]; exact bytes_putAt _ (fun x hx => by rw [List.eq_of_mem_replicate hx]; decide) _ _ (bytes_set h4 _ _ (by decide))
  have c8 := r2'' 135 (by omega)
  rw [hx] at c8
  have r5 : Row encB w5 (w.heap.size + 1) 25 (W1.set! 135 ((x + 128) % 256)) := by
    rw [← e5]; exact r2''.set rfl (by omega) _ (val_int (by omega))
  refine ⟨?_, ?_, cc', c8.1, c8.2, r5.range, ?_, ?_, ?_, ?_, ?_, h1, by simpa using hps, h3, bytes_set hpb _ _ (Nat.mod_lt _ (by decide)), ?_⟩
  · rw [← e4]; exact run_clear_bytes w3 111 0 5 _ _ _ _ Tryz.underlying111 zero5 hth3
  · have h0 := run_clear_bytes (P := Tryz.prog) w3 111 0 5 (w.heap.size + 1) 25 0 0 Tryz.underlying111 zero5 (fun j hj => by omega)
    by_cases hc : 136 = c + 1
    · rw [if_pos hc, ← e4, show 135 - c = 0 by omega]
      exact h0
    · rw [if_neg hc]
      exact h0
  · rw [← e5]; exact r1''.setBeside (by omega) _
  · rw [← e5]; exact hb4.setCell (by simp) _
  · rw [← e5]; exact there_set ht4 _ _
  · rw [← e5]; simpa using hs4
  · rw [← e5]; exact hT4.of_blocks (Below.heap_setCell _ _ _ _ (by simp; omega)) (Below.heap_setCell _ _ _ _ (by simp; omega))
  · unfold lastBlock
    simp only [hW1, hx]
set_option maxRecDepth 100000 in
set_option maxHeartbeats 1600000 in
theorem sum_any (b : Nat) (st : HSt) (w : World) (hH : Hs w b st) (hT : Tabs w) (hw10 : 16 ≤ w.heap.size) :
    Calls Tryz.prog 80 #[.pointer (some ⟨b, 0, none⟩)] w fun e w' => e = .returned (.agg ((sumF st).toList.map encB).toArray) ∧ Below w.heap.size w w' := by
  have hl := cellsOf_length hH.size1 hH.size2
  have hone := all_oneCell_toArray (oneCell_cellsOf st)
  have hrg : ∀ o, (w.alloc o).rangeAt b 0 (cellsOf st) := fun o => World.rangeAt_alloc hH.range o
  have hsz1 : (Tryz.prog.info? 159).map (·.size) = some (cellsOf st).length := by rw [size70, hl]
  have hsz2 : (Tryz.prog.info? 159).map (·.size) = some (cellsOf st).toArray.size := by rw [size70]; simp [hl]
  have hlen : (cellsOf st).toArray.size = 162 := by simp [hl]
  have A0 : Aside (∀ C : Array Value, C.size = 32 → Hs (((w.alloc (.cells C 34)).alloc (.cells Tryz.zeroCells159 159)).setCells (w.heap.size + 1) 0 (cellsOf st)) (w.heap.size + 1) st ∧ Below w.heap.size w (((w.alloc (.cells C 34)).alloc (.cells Tryz.zeroCells159 159)).setCells (w.heap.size + 1) 0 (cellsOf st)) ∧ (((w.alloc (.cells C 34)).alloc (.cells Tryz.zeroCells159 159)).setCells (w.heap.size + 1) 0 (cellsOf st)).there w.heap.size 0 32 ∧ w.heap.size + 1 < (((w.alloc (.cells C 34)).alloc (.cells Tryz.zeroCells159 159)).setCells (w.heap.size + 1) 0 (cellsOf st)).heap.size ∧ Tabs (((w.alloc (.cells C 34)).alloc (.cells Tryz.zeroCells159 159)).setCells (w.heap.size + 1) 0 (cellsOf st))) :=
    fun C hC => sum_copy w C st hC b hH hT hw10
  obtain ⟨cs, hcs⟩ : ∃ cs, cellsOf st = cs := ⟨_, rfl⟩
  rw [hcs] at hone hrg hsz1 hsz2 hlen A0
  clear hH hT hl hcs
  have hth : ∀ o, ((w.alloc o).alloc (.cells Tryz.zeroCells159 159)).there (w.heap.size + 1) 0 cs.toArray.size := fun o => by
    have := there_new (w.alloc o) Tryz.zeroCells159 159 162 zero70.symm
    rw [hlen]
    simpa using this
  obtain ⟨L, W, c⟩ := st
  go_enter Tryz.func80, Tryz.ntmps80
  go_wp2_with (first
    | (refine wpList_load_mid rfl 159 _ rfl b 0 rfl cs _ (hrg _) Tryz.underlying159 rfl hsz1 ?_)
    | (refine wpList_store_mid rfl 159 _ _ rfl (w.heap.size + 1) 0 cs.toArray rfl rfl (hth _) hsz2 hone ?_
       rw [List.toList_toArray]
       obtain ⟨hH2, hB2, hth2, hsz3, hT2⟩ := A0.out #[.int .u8 0, .int .u8 0, .int .u8 0, .int .u8 0, .int .u8 0, .int .u8 0, .int .u8 0, .int .u8 0, .int .u8 0, .int .u8 0, .int .u8 0, .int .u8 0, .int .u8 0, .int .u8 0, .int .u8 0, .int .u8 0, .int .u8 0, .int .u8 0, .int .u8 0, .int .u8 0, .int .u8 0, .int .u8 0, .int .u8 0, .int .u8 0, .int .u8 0, .int .u8 0, .int .u8 0, .int .u8 0, .int .u8 0, .int .u8 0, .int .u8 0, .int .u8 0] rfl
       generalize ((w.alloc (.cells #[.int .u8 0, .int .u8 0, .int .u8 0, .int .u8 0, .int .u8 0, .int .u8 0, .int .u8 0, .int .u8 0, .int .u8 0, .int .u8 0, .int .u8 0, .int .u8 0, .int .u8 0, .int .u8 0, .int .u8 0, .int .u8 0, .int .u8 0, .int .u8 0, .int .u8 0, .int .u8 0, .int .u8 0, .int .u8 0, .int .u8 0, .int .u8 0, .int .u8 0, .int .u8 0, .int .u8 0, .int .u8 0, .int .u8 0, .int .u8 0, .int .u8 0, .int .u8 0] 34)).alloc (.cells Tryz.zeroCells159 159)).setCells (w.heap.size + 1) 0 cs = w2 at hH2 hB2 hth2 hsz3 hT2 ⊢
       have c5 := hH2.count
       have hlc := hH2.less
       simp only at c5 hlc
       have c6 := (hH2.waits c (by rw [hH2.size2]; exact hlc)).1
       have f6 := (hH2.waits c (by rw [hH2.size2]; exact hlc)).2
       have i1 : (0 : Int) ≤ (c : Int) + 1 := by omega
       have i2 : (c : Int) + 1 ≤ 136 := by omega
       obtain ⟨w3, e3⟩ : ∃ w3, w2.setCell ⟨w.heap.size + 1, 25 + c, none⟩ (.int .u8 1) = w3 := ⟨_, rfl⟩
       obtain ⟨w4, e4⟩ : ∃ w4, w3.setCells (w.heap.size + 1) (25 + (c + 1)) ((List.replicate (135 - c) 0).map encB) = w4 := ⟨_, rfl⟩
       obtain ⟨W1, hW1⟩ : ∃ W1, putAt (W.set! c 1) (c + 1) (List.replicate (135 - c) 0) = W1 := ⟨_, rfl⟩
       obtain ⟨x, hx⟩ : ∃ x, W1[135]! = x := ⟨_, rfl⟩
       obtain ⟨w5, e5⟩ : ∃ w5, w4.setCell ⟨w.heap.size + 1, 160, none⟩ (.int .u8 (((x : Int) + 128) % 256)) = w5 := ⟨_, rfl⟩
       obtain ⟨hcl1, hcl2, c7, c8, f8, hrg5, A4⟩ := sum_clear hH2 hB2 hth2 hsz3 hT2 hw10 e3 e4 hW1 hx e5
       obtain ⟨Wl, hWl⟩ : ∃ Wl, W1.set! 135 ((x + 128) % 256) = Wl := ⟨_, rfl⟩
       rw [hWl] at hrg5 A4
       have hsz68 : (Tryz.prog.info? 157).map (·.size) = some (Wl.toList.map encB).length := by rw [size68]; simp [A4.out.2.2.2.2.2.2.1]
       clear e4 hW1 hx hWl
       clear hrg hsz1 hsz2 hone hlen hth A0 hH2 hB2 hth2 hsz3 hT2)
    | (refine wpList_load_mid rfl 157 _ rfl (w.heap.size + 1) 25 rfl (Wl.toList.map encB) _ hrg5 Tryz.underlying157 rfl hsz68 ?_))
  all_goals
    obtain ⟨r1, hB5, ht5, hs5, hT5, h1, h2, h3, h4, hlb⟩ := A4.out
    refine (absorb_any (w.heap.size + 1) 0 L Wl w5 h1 h3 (by omega) r1 hT5 (by omega) h2 h4).mono ?_
    rintro e w6 ⟨rfl, st6, ro6⟩
    have hA : absorbF L (lastBlock W c) = absorbF L Wl := by rw [hlb]
    have hAs := (absorbF_size L Wl).trans h1
    have hB6 : Below w.heap.size w w6 := hB5.trans ⟨st6.os, st6.tape, st6.output, st6.size, fun k hk => st6.block k (by omega) (by omega)⟩
    have hs6 : w.heap.size + 1 < w6.heap.size := Nat.lt_of_lt_of_le hs5 st6.size
    have ht6 : w6.there w.heap.size 0 32 := fun j hj => by
      have hbk := st6.block w.heap.size (by omega) (by omega)
      exact ⟨by rw [World.cell?_of_block hbk]; exact (ht5 j hj).1, by rw [World.frozen?_of_block hbk]; exact (ht5 j hj).2⟩
    have hsum : sumF (L, W, c) = sqzAt (absorbF L Wl) 32 := by unfold sumF; rw [hA]
    have HS : Hid (∀ k, k = 32 → sumF (L, W, c) = sqzAt (absorbF L Wl) k) := fun k hk => by subst hk; exact hsum
    generalize absorbF L Wl = A at ro6 hAs HS
    have A6 : Aside (Row encL w6 (w.heap.size + 1) 0 A ∧ A.size = 25 ∧ Below w.heap.size w w6 ∧ w6.there w.heap.size 0 32) := ⟨ro6, hAs, hB6, ht6⟩
    clear A4 r1 hB5 ht5 hs5 hT5 h1 h2 h3 h4 hlb st6 ro6 hA hAs hB6 ht6 hsum hrg5 hsz68 e3 e5 hcl1 hcl2 c5 c6 f6 c7 c8 f8 i1 i2 hlc
    go_wp2_with fail
    obtain ⟨ro6, hAs, hB6, ht6⟩ := A6.out
    refine (squeeze_any (w.heap.size + 1) 0 A w6 hAs hs6 ro6).mono ?_
    rintro e w7 ⟨rfl, hb7⟩
    have hD := sqzAt_size A 32
    have HS2 : Hid (∀ k, k = 32 → sumF (L, W, c) = sqzAt A k) := HS
    have hr := HS.out 32 rfl
    generalize sqzAt A 32 = D at hD hr ⊢
    have HR : Hid (∀ u : Unit, sumF (L, W, c) = D) := fun _ => hr
    have hB7 : Below w.heap.size w w7 := hB6.trans (hb7.mono (by omega))
    have ht7 : w7.there w.heap.size 0 32 := fun j hj => by
      have hbk := hb7.block w.heap.size (by omega)
      exact ⟨by rw [World.cell?_of_block hbk]; exact (ht6 j hj).1, by rw [World.frozen?_of_block hbk]; exact (ht6 j hj).2⟩
    have hz1 : (Tryz.prog.info? 34).map (·.size) = some (D.toList.map encB).length := by rw [size28]; simp [hD]
    have hz2 : (Tryz.prog.info? 34).map (·.size) = some (D.toList.map encB).toArray.size := by rw [size28]; simp [hD]
    have hone := all_oneCell_toArray (oneCell_enc D .u8)
    have hth' : w7.there w.heap.size 0 (D.toList.map encB).toArray.size := by simpa [hD] using ht7
    have hth2 : w7.there w.heap.size 0 (D.toList.map encB).length := by simpa [hD] using ht7
    have A7 : Aside (Below w.heap.size w w7 ∧ w7.there w.heap.size 0 (D.toList.map encB).length ∧ D.size = 32) := ⟨hB7, hth2, hD⟩
    clear A6 HS HS2 hr ro6 hAs hB6 ht6 hb7 hB7 ht7 hth2 hD
    go_wp2_with (refine wpList_store_mid rfl 34 _ _ rfl w.heap.size 0 (D.toList.map encB).toArray rfl rfl hth' hz2 hone ?_)
    obtain ⟨hB7, hth2, hD⟩ := A7.out
    refine bodyPost_ret (v := .agg (D.toList.map encB).toArray) (results_cell1 Tryz.results80 _ _ _ w.heap.size 0 rfl (run_loadVar_mid _ _ _ 34 _ _ (World.rangeAt_setCells_same _ _ _ _ hth2) Tryz.underlying34 rfl hz1)) rfl ⟨?_, ?_⟩
    · rw [HR.out ()]
    · obtain ⟨q1, q2, q3, q4⟩ := size_setCells w.heap.size (D.toList.map encB) 0 w7
      exact hB7.trans ⟨q2, q3, q4, by rw [q1]; exact Nat.le_refl _, fun k hk => heap_setCells _ _ _ _ _ (by omega)⟩
end Go.Proofs.YtjiikjpnlgogfaaGreatDoor
namespace Go.Proofs.YtjiikjpnlgogfaaGreatDoor
open Go.RowKit
theorem Hs.of_range {w1 : World} {b : Nat} {st : HSt} (hr : w1.rangeAt b 0 (cellsOf st)) (hf : ∀ j, j < 162 → w1.frozen? ⟨b, j, none⟩ = false) (h1 : st.1.size = 25) (h2 : st.2.1.size = 136) (h3 : Small st.1) (h4 : Bytes st.2.1) (h5 : st.2.2 < 136) : Hs w1 b st := by
  refine ⟨fun j hj => ⟨hr j _ ?_, by rw [Nat.zero_add]; exact hf j (by omega)⟩, fun j hj => ⟨?_, hf (25 + j) (by omega)⟩, ?_, hf 161 (by omega), h1, h2, h3, h4, h5⟩
  · unfold cellsOf
    rw [List.getElem?_append_left (by simp; omega)]
    simp [hj]
  · have := hr (25 + j) (encB st.2.1[j]!) ?_
    · rwa [Nat.zero_add] at this
    · unfold cellsOf
      rw [List.getElem?_append_right (by simp; omega), List.getElem?_append_left (by simp; omega)]
      simp [hj, h1]
  · have := hr 161 (.int .i64 (st.2.2 : Int)) ?_
    · rwa [Nat.zero_add] at this
    · unfold cellsOf
      rw [List.getElem?_append_right (by simp; omega), List.getElem?_append_right (by simp; omega)]
      simp [h1, h2]
theorem zeros_get (n j : Nat) : (Array.replicate n 0 : Array Nat)[j]! = 0 := by
  by_cases h : j < n
  · simp [h]
  · simp [h]
theorem Hs.zero (w : World) (C : Array Value) (t : TypeId) (hC : C = (cellsOf init).toArray) : Hs (w.alloc (.cells C t)) w.heap.size init := by
  subst hC
  refine Hs.of_range ?_ (fun j _ => World.frozen?_alloc_new _ _ _ _) (by simp [init]) (by simp [init]) (fun j => ?_) (fun j => ?_) (by simp [init])
  · intro j v hv
    rw [Nat.zero_add, World.cell?_alloc_new]
    rw [← hv]
    simp
  · show (Array.replicate 25 0 : Array Nat)[j]! < _
    rw [zeros_get]; decide
  · show (Array.replicate 136 0 : Array Nat)[j]! < _
    rw [zeros_get]; decide
theorem zero70_init : Tryz.zeroCells159 = (cellsOf init).toArray := by kernel_rfl
theorem hash_cells {w7 : World} {N : Nat} {D : Array Nat} (hD : D.size = 32) (ht : w7.there N 0 32) :
    (Tryz.prog.info? 34).map (·.size) = some (D.toList.map encB).length ∧ (Tryz.prog.info? 34).map (·.size) = some (D.toList.map encB).toArray.size ∧ w7.there N 0 (D.toList.map encB).toArray.size ∧ w7.there N 0 (D.toList.map encB).length := by
  refine ⟨?_, ?_, ?_, ?_⟩
  · rw [size28]; simp [hD]
  · rw [size28]; simp [hD]
  · simpa [hD] using ht
  · simpa [hD] using ht
theorem below_setCells {w w7 : World} {N : Nat} (h : Below w.heap.size w w7) (hN : w.heap.size ≤ N) (vs : List Value) (o : Nat) : Below w.heap.size w (w7.setCells N o vs) := by
  obtain ⟨q1, q2, q3, q4⟩ := size_setCells N vs o w7
  exact h.trans ⟨q2, q3, q4, by rw [q1]; exact Nat.le_refl _, fun k hk => heap_setCells _ _ _ _ _ (by omega)⟩
theorem there_block {w w1 : World} {b o n : Nat} (h : w.there b o n) (hb : w1.heap[b]? = w.heap[b]?) : w1.there b o n := fun j hj =>
  ⟨by rw [World.cell?_of_block hb]; exact (h j hj).1, by rw [World.frozen?_of_block hb]; exact (h j hj).2⟩
theorem sumF_size (st : HSt) : (sumF st).size = 32 := sqzAt_size _ _
set_option maxRecDepth 100000 in
set_option maxHeartbeats 1600000 in
theorem of_any (s : ByteArray) (w : World) (hT : Tabs w) (hw10 : 16 ≤ w.heap.size) :
    Calls Tryz.prog 48 #[.string s] w fun e w' => e = .returned (.agg ((digF s).toList.map encB).toArray) ∧ Below w.heap.size w w' := by
  go_enter Tryz.func48, Tryz.ntmps48
  go_wp2_with fail
  generalize hw1 : (w.alloc (.cells _ 34)).alloc (.cells Tryz.zeroCells159 159) = w1
  have hH1 : Hs w1 (w.heap.size + 1) init := by
    rw [← hw1]
    have := Hs.zero (w.alloc (.cells #[.int .u8 0, .int .u8 0, .int .u8 0, .int .u8 0, .int .u8 0, .int .u8 0, .int .u8 0, .int .u8 0, .int .u8 0, .int .u8 0, .int .u8 0, .int .u8 0, .int .u8 0, .int .u8 0, .int .u8 0, .int .u8 0, .int .u8 0, .int .u8 0, .int .u8 0, .int .u8 0, .int .u8 0, .int .u8 0, .int .u8 0, .int .u8 0, .int .u8 0, .int .u8 0, .int .u8 0, .int .u8 0, .int .u8 0, .int .u8 0, .int .u8 0, .int .u8 0] 34)) Tryz.zeroCells159 159 zero70_init
    simpa using this
  have hB1 : Below w.heap.size w w1 := by rw [← hw1]; exact ((Below.refl _ _).alloc (Nat.le_refl _) _).alloc (by simp) _
  have ht1 : w1.there w.heap.size 0 32 := by rw [← hw1]; exact World.there_alloc (there_new _ _ _ _ rfl) _
  have hs1 : w.heap.size + 1 < w1.heap.size := by rw [← hw1]; simp
  clear hw1
  refine (write_any (w.heap.size + 1) s init w1 hs1 hH1 (hT.below hB1 hw10) (by omega)).mono ?_
  rintro e w2 ⟨rfl, st2, hH2⟩
  have hB2 : Below w.heap.size w w2 := st2.below hB1 (by omega) (by omega)
  have ht2 : w2.there w.heap.size 0 32 := there_block ht1 (st2.block _ (by omega) (by omega))
  have hs2 : w.heap.size + 1 < w2.heap.size := Nat.lt_of_lt_of_le hs1 st2.size
  have HD : Hid (∀ u : Unit, digF s = sumF ((bytesOf s).foldl push1 init)) := fun _ => rfl
  generalize (bytesOf s).foldl push1 init = st at hH2 HD
  have A2 : Aside (Hs w2 (w.heap.size + 1) st ∧ Below w.heap.size w w2 ∧ w2.there w.heap.size 0 32 ∧ Tabs w) := ⟨hH2, hB2, ht2, hT⟩
  clear hH1 hB1 ht1 hs1 st2 hH2 hB2 ht2 hT
  go_wp2_with fail
  obtain ⟨hH2, hB2, ht2, hT⟩ := A2.out
  refine (sum_any (w.heap.size + 1) st w2 hH2 (hT.below hB2 hw10) (by omega)).mono ?_
  rintro e w3 ⟨rfl, hb3⟩
  have hDs := sumF_size st
  generalize sumF st = D at hDs HD ⊢
  have hB3 : Below w.heap.size w w3 := hB2.trans (hb3.mono (by omega))
  obtain ⟨hz1, hz2, hth', hth2⟩ := hash_cells hDs (there_block ht2 (hb3.block _ (by omega)))
  have hone := all_oneCell_toArray (oneCell_enc D .u8)
  have A3 : Aside (Below w.heap.size w w3 ∧ w3.there w.heap.size 0 (D.toList.map encB).length) := ⟨hB3, hth2⟩
  clear A2 hH2 hB2 ht2 hT hb3 hB3 hth2 hDs
  go_wp2_with (refine wpList_store_mid rfl 34 _ _ rfl w.heap.size 0 (D.toList.map encB).toArray rfl rfl hth' hz2 hone ?_)
  obtain ⟨hB3, hth2⟩ := A3.out
  refine bodyPost_ret (v := .agg (D.toList.map encB).toArray) (results_cell1 Tryz.results48 _ _ _ w.heap.size 0 rfl (run_loadVar_mid _ _ _ 34 _ _ (World.rangeAt_setCells_same _ _ _ _ hth2) Tryz.underlying34 rfl hz1)) rfl ⟨?_, ?_⟩
  · rw [HD.out ()]
  · exact below_setCells hB3 (Nat.le_refl _) _ _
set_option maxRecDepth 100000 in
set_option maxHeartbeats 1600000 in
theorem digest_any (s : ByteArray) (w : World) (hT : Tabs w) (hw10 : 16 ≤ w.heap.size) :
    Calls Tryz.prog 17 #[.string s] w fun e w' => e = .returned (.agg ((digF s).toList.map encB).toArray) ∧ Below w.heap.size w w' := by
  go_enter Tryz.func17, Tryz.ntmps17
  go_wp2_with fail
  generalize hw1 : w.alloc (.cells _ 34) = w1
  have hB1 : Below w.heap.size w w1 := by rw [← hw1]; exact (Below.refl _ _).alloc (Nat.le_refl _) _
  have ht1 : w1.there w.heap.size 0 32 := by rw [← hw1]; exact there_new _ _ _ _ rfl
  have hs1 : w.heap.size < w1.heap.size := by rw [← hw1]; simp
  clear hw1
  refine (of_any s w1 (hT.below hB1 hw10) (by omega)).mono ?_
  rintro e w3 ⟨rfl, hb3⟩
  have hDs : (digF s).size = 32 := sumF_size _
  obtain ⟨D, hD⟩ : ∃ D, digF s = D := ⟨_, rfl⟩
  have HD : Hid (∀ u : Unit, digF s = D) := fun _ => hD
  rw [hD] at hDs ⊢
  clear hD
  have hB3 : Below w.heap.size w w3 := hB1.trans (hb3.mono (by omega))
  obtain ⟨hz1, hz2, hth', hth2⟩ := hash_cells hDs (there_block ht1 (hb3.block _ (by omega)))
  have hone := all_oneCell_toArray (oneCell_enc D .u8)
  have A3 : Aside (Below w.heap.size w w3 ∧ w3.there w.heap.size 0 (D.toList.map encB).length) := ⟨hB3, hth2⟩
  clear hB1 ht1 hs1 hT hb3 hB3 hth2 hDs
  go_wp2_with (refine wpList_store_mid rfl 34 _ _ rfl w.heap.size 0 (D.toList.map encB).toArray rfl rfl hth' hz2 hone ?_)
  obtain ⟨hB3, hth2⟩ := A3.out
  refine bodyPost_ret (v := .agg (D.toList.map encB).toArray) (results_cell1 Tryz.results17 _ _ _ w.heap.size 0 rfl (run_loadVar_mid _ _ _ 34 _ _ (World.rangeAt_setCells_same _ _ _ _ hth2) Tryz.underlying34 rfl hz1)) rfl ⟨?_, below_setCells hB3 (Nat.le_refl _) _ _⟩
  rw [HD.out ()]
end Go.Proofs.YtjiikjpnlgogfaaGreatDoor
namespace Go.Proofs.YtjiikjpnlgogfaaGreatDoor
open Go.RowKit
theorem bytesOf_append (a b : ByteArray) : bytesOf (a ++ b) = bytesOf a ++ bytesOf b := by
  unfold bytesOf
  rw [ByteArray.data_append, Array.toList_append, List.map_append]
theorem sqzAt_bytes (L : Array Nat) (k : Nat) : Bytes (sqzAt L k) := by
  induction k with
  | zero =>
    intro j
    show (Array.replicate 32 0 : Array Nat)[j]! < _
    rw [zeros_get]; decide
  | succ k ih => exact bytes_set ih _ _ (Nat.mod_lt _ (by decide))
end Go.Proofs.YtjiikjpnlgogfaaGreatDoor
