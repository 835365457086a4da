/-
  A hasher takes a piece (Write).
-/
import Derived.Test.YtjiikjpnlgogfaaDoorHash
namespace Go.Proofs.YtjiikjpnlgogfaaDoor
open Go.RowKit
attribute [local go_sem ↓] Go.wp_at_zero Go.wp_at_succ

/-- Block b holds a hasher in this state. -/
structure Hs (w : World) (b : Nat) (st : HSt) : Prop where
  lanes : Row encL w b 0 st.1
  waits : Row encB w b 25 st.2.1
  count : w.cell? ⟨b, 161, none⟩ = some (.int .i64 (st.2.2 : Int))
  froz : w.frozen? ⟨b, 161, none⟩ = false
  size1 : st.1.size = 25
  size2 : st.2.1.size = 136
  small : Small st.1
  bytes : Bytes st.2.1
  less : st.2.2 < 136

theorem Hs.reset {w : World} {b : Nat} {L W : Array Nat} {v : Value} (r1 : Row encL w b 0 L) (r2 : Row encB w b 25 W) (hc : w.cell? ⟨b, 161, none⟩ = some v) (hf : w.frozen? ⟨b, 161, none⟩ = false)
    (h1 : L.size = 25) (h2 : W.size = 136) (h3 : Small L) (h4 : Bytes W) : Hs (w.setCell ⟨b, 161, none⟩ (.int .i64 0)) b (L, W, 0) :=
  ⟨r1.setBeside (by omega) _, r2.setBeside (by omega) _, World.cell?_setCell_same _ _ _ hc, (World.frozen?_setCell _ _ _ _).trans hf, h1, h2, h3, h4, by simp⟩

theorem info5 : (Tryd.prog.info? 5).map (fun i => (i.zero, i.size, i.bytes)) = some (some (.int .u8 0), 1, 1) := by kernel_rfl
theorem size5 : (Tryd.prog.info? 5).map (·.size) = some 1 := by kernel_rfl

theorem bytesOf_length (t : ByteArray) : (bytesOf t).length = t.size := by
  unfold bytesOf
  rw [List.length_map, Array.length_toList]
  rfl
theorem bytesOf_drop (t : ByteArray) (n : Nat) : bytesOf (t.extract n t.size) = (bytesOf t).drop n := by
  have : t.data.toList.length = t.size := by rw [Array.length_toList]; rfl
  simp only [bytesOf, ByteArray.data_extract, Array.toList_extract, List.extract_eq_take_drop, List.map_take, List.map_drop]
  rw [List.take_of_length_le]
  rw [List.length_drop, List.length_map, this]
  exact Nat.le_refl _
theorem size_extract_to_end (t : ByteArray) (n : Nat) : (t.extract n t.size).size = t.size - n := by
  rw [← bytesOf_length, bytesOf_drop, List.length_drop, bytesOf_length]
theorem isEmpty_toList (t : ByteArray) : t.toList.isEmpty = decide (t.size = 0) := by
  rw [ByteArray.toList_eq]
  have : t.data.toList.length = t.size := by rw [Array.length_toList]; rfl
  cases h : t.data.toList with
  | nil => rw [h] at this; simp at this; simp [← this]
  | cons x l => rw [h] at this; simp at this; simp [← this]

theorem setCells_drew (b : Nat) : ∀ (vs : List Value) (o : Nat) (w : World), w.drew.setCells b o vs = (w.setCells b o vs).drew
  | [], _, _ => rfl
  | v :: r, o, w => by
    rw [World.setCells, World.setCells]
    exact setCells_drew b r (o + 1) (w.setCell ⟨b, o, none⟩ v)

/-- What a chunk makes of the state: it waits, or the block is full. -/
theorem chunk_less {L W : Array Nat} {c n : Nat} (t : ByteArray) (h : c + n < 136) (hn : n ≤ t.size) : ((bytesOf t).take n).foldl push1 (L, W, c) = (L, putAt W c ((bytesOf t).take n), c + n) := by
  have hl : ((bytesOf t).take n).length = n := by rw [List.length_take, bytesOf_length]; omega
  rw [push_less _ _ _ _ (by omega), hl]
theorem chunk_full {L W : Array Nat} {c n : Nat} (t : ByteArray) (h : c + n = 136) (h1 : 0 < n) (hn : n ≤ t.size) : ((bytesOf t).take n).foldl push1 (L, W, c) = (absorbF L (putAt W c ((bytesOf t).take n)), putAt W c ((bytesOf t).take n), 0) := by
  have hl : ((bytesOf t).take n).length = n := by rw [List.length_take, bytesOf_length]; omega
  exact push_full _ _ _ _ (by omega) (by omega)
theorem chunk_on {st1 : HSt} (t : ByteArray) (n : Nat) : (bytesOf (t.extract n t.size)).foldl push1 (((bytesOf t).take n).foldl push1 st1) = (bytesOf t).foldl push1 st1 := by
  rw [bytesOf_drop, ← List.foldl_append, List.take_append_drop]

theorem range_step {b lo hi : Nat} {w w1 : World} (h : Step b lo hi w w1) {o : Nat} {cs : List Value} (hr : w.rangeAt b o cs) (ho : hi ≤ o) : w1.rangeAt b o cs :=
  fun j v hv => (h.cell _ (by omega)).trans (hr j v hv)

set_option maxRecDepth 100000 in
set_option maxHeartbeats 1600000 in
theorem write_any (b : Nat) (s : ByteArray) (st : HSt) (w : World) (hb : b < w.heap.size) (hH : Hs w b st) (hT : Tabs w) (hb10 : 16 ≤ b) :
    Calls Tryd.prog 24 #[.pointer (some ⟨b, 0, none⟩), .string s] w fun e w' => e = .returned (.tuple #[]) ∧ Step b 0 162 w w' ∧ Hs w' b ((bytesOf s).foldl push1 st) := by
  go_enter Tryd.func24, Tryd.ntmps24
  go_wp2
  go_loopg [1] s.size (fun g p wr => ∃ (t : ByteArray) (st1 : HSt), t.size ≤ g ∧ p = .string t ∧ w.heap.size ≤ wr.heap.size ∧ Step b 0 162 w wr ∧ Hs wr b st1 ∧ Hid ((bytesOf t).foldl push1 st1 = (bytesOf s).foldl push1 st))
  case atStart => exact ⟨s, st, Nat.le_refl _, rfl, Nat.le_refl _, Step.refl _ _ _ _, hH, rfl⟩
  case round =>
    obtain ⟨t, st1, hg, rfl, hsz, hst, hh, HF⟩ := hrel
    clear hH
    by_cases he : t.toList.isEmpty = true
    · have AS : Aside (Step b 0 162 w wr ∧ Hs wr b st1) := ⟨hst, hh⟩
      have ht : t.size = 0 := by rw [isEmpty_toList] at he; simpa using he
      have hb0 : bytesOf t = [] := List.length_eq_zero_iff.1 ((bytesOf_length t).trans ht)
      have HE : Hid (st1 = (bytesOf s).foldl push1 st) := by have := HF.out; rw [hb0] at this; exact this
      clear hst hh hT ht hb0 HF
      go_wp2
      go_end0
      obtain ⟨hst, hh⟩ := AS.out
      refine ⟨rfl, hst, ?_⟩
      rw [← HE.out]
      exact hh
    · have he' : t.toList.isEmpty = false := by simpa using he
      have ht0 : 0 < t.size := by
        rw [isEmpty_toList] at he'
        have := of_decide_eq_false he'
        omega
      clear he
      obtain ⟨L, W, c⟩ := st1
      obtain ⟨ro1, ro2, c3, f3, hs1, hs2, hsm, hby, hlc⟩ := hh
      simp only at ro1 ro2 c3 f3 hs1 hs2 hsm hby hlc
      obtain ⟨n, hn⟩ : ∃ n, n = Nat.min t.size (136 - c) := ⟨_, rfl⟩
      have hn1 : n ≤ t.size := by rw [hn]; exact Nat.min_le_left _ _
      have hn2 : n ≤ 136 - c := by rw [hn]; exact Nat.min_le_right _ _
      have hn3 : 0 < n := by rw [hn]; exact Nat.lt_min.2 ⟨ht0, by omega⟩
      have hth : wr.there b (25 + c) n := fun j hj => by
        have := ro2 (c + j) (by omega)
        rw [show 25 + (c + j) = 25 + c + j by omega] at this
        exact ⟨by rw [this.1]; rfl, this.2⟩
      have hcopy := run_copy_str (P := Tryd.prog) wr.drew 73 9 3 5 b (25 + c) (136 - c) (136 - c) t n Tryd.underlying73 size5 hn hth
      have hxl : ((bytesOf t).take n).length = n := by rw [List.length_take, bytesOf_length]; omega
      have hxb : ∀ x ∈ (bytesOf t).take n, x < 256 := fun x hx => bytesOf_lt t x (List.mem_of_mem_take hx)
      have hch := @chunk_on (L, W, c) t n
      have hcl := @chunk_less L W c n t
      have hcf := @chunk_full L W c n t
      obtain ⟨xs, hxs⟩ : ∃ xs, (bytesOf t).take n = xs := ⟨_, rfl⟩
      rw [hxs] at hcopy hxl hxb hch hcl hcf
      have st2 : Step b 0 162 w (wr.setCells b (25 + c) (xs.map encB)) := hst.setCells _ _ (by omega) (by simp; omega)
      have hro1 : Row encL (wr.setCells b (25 + c) (xs.map encB)) b 0 L := ro1.setCellsBeside _ _ (by omega)
      have hro2 : Row encB (wr.setCells b (25 + c) (xs.map encB)) b 25 (putAt W c xs) := ro2.put xs c (by omega)
      have c4 : (wr.setCells b (25 + c) (xs.map encB)).cell? ⟨b, 161, none⟩ = some (.int .i64 (c : Int)) := by
        rw [World.cell?_setCells_out b (xs.map encB) (25 + c) wr ⟨b, 161, none⟩ (fun _ _ => by right; simp; omega)]
        exact c3
      have f4 : (wr.setCells b (25 + c) (xs.map encB)).frozen? ⟨b, 161, none⟩ = false := by rw [World.frozen?_setCells]; exact f3
      have hsz2 : w.heap.size ≤ (wr.setCells b (25 + c) (xs.map encB)).heap.size := by rw [(size_setCells _ _ _ _).1]; exact hsz
      obtain ⟨w1, hw1⟩ : ∃ w1, wr.setCells b (25 + c) (xs.map encB) = w1 := ⟨_, rfl⟩
      have hw1d : wr.drew.setCells b (25 + c) (xs.map encB) = w1.drew := by rw [← hw1]; exact setCells_drew _ _ _ _
      rw [hw1d] at hcopy
      rw [hw1] at st2 hro1 hro2 c4 f4 hsz2
      have hps : (putAt W c xs).size = 136 := by rw [putAt_size]; exact hs2
      have hpb : Bytes (putAt W c xs) := bytes_putAt xs hxb W c hby
      have hex : (t.extract n t.size).size = t.size - n := size_extract_to_end t n
      have AS : Aside (Step b 0 162 w w1 ∧ Row encL w1 b 0 L ∧ Row encB w1 b 25 (putAt W c xs) ∧ L.size = 25 ∧ (putAt W c xs).size = 136 ∧ Small L ∧ Bytes (putAt W c xs) ∧ Tabs w) := ⟨st2, hro1, hro2, hs1, hps, hsm, hpb, hT⟩
      have AF : Aside ((bytesOf (t.extract n t.size)).foldl push1 (xs.foldl push1 (L, W, c)) = (bytesOf s).foldl push1 st ∧ (c + n < 136 → n ≤ t.size → xs.foldl push1 (L, W, c) = (L, putAt W c xs, c + n)) ∧ (c + n = 136 → 0 < n → n ≤ t.size → xs.foldl push1 (L, W, c) = (absorbF L (putAt W c xs), putAt W c xs, 0)) ∧ (t.extract n t.size).size = t.size - n) := ⟨by rw [hch]; exact HF.out, hcl, hcf, hex⟩
      clear hst ro1 ro2 hs1 hs2 hsm hby hT hth hn hxl hxb hch hcl hcf hxs st2 hro1 hro2 hw1d hps hpb hex HF hw1 f3
      have i1 : (0 : Int) ≤ (c : Int) := by omega
      have i2 : (c : Int) ≤ 136 := by omega
      have i3 : ¬ (136 = c) := by omega
      go_wp2
      go_region
      clear hcopy
      go_wp2
      · -- the block is full
        have hful : c + n = 136 := by
          have : ((c : Int) + (n : Int) == 136) = true := by assumption
          have := eq_of_beq this
          omega
        obtain ⟨st2, hro1, hro2, hs1, hps, hsm, hpb, hT⟩ := AS.out
        obtain ⟨Wn, hWn⟩ : ∃ Wn, putAt W c xs = Wn := ⟨_, rfl⟩
        rw [hWn] at hro2 hps hpb
        have HW : Hid (putAt W c xs = Wn) := hWn
        obtain ⟨w2, hw2⟩ : ∃ w2, w1.setCell ⟨b, 161, none⟩ (.int .i64 ((c : Int) + (n : Int))) = w2 := ⟨_, rfl⟩
        rw [hw2]
        have st3 : Step b 0 162 w w2 := by rw [← hw2]; exact st2.set (by omega) (by omega) _
        have r1 : Row encL w2 b 0 L := by rw [← hw2]; exact hro1.setBeside (by omega) _
        have r2 : Row encB w2 b 25 Wn := by rw [← hw2]; exact hro2.setBeside (by omega) _
        have c5 : w2.cell? ⟨b, 161, none⟩ = some (.int .i64 ((c : Int) + (n : Int))) := by rw [← hw2]; exact World.cell?_setCell_same _ _ _ c4
        have f5 : w2.frozen? ⟨b, 161, none⟩ = false := by rw [← hw2, World.frozen?_setCell]; exact f4
        have hsz3 : w.heap.size ≤ w2.heap.size := st3.size
        have hrg : w2.rangeAt b 25 (Wn.toList.map encB) := r2.range
        have hT2 : Tabs w2 := hT.step st3 hb10 (by omega)
        have hu68 := Tryd.underlying68
        have hsz68 : (Tryd.prog.info? 68).map (·.size) = some (Wn.toList.map encB).length := by rw [size68]; simp [hps]
        have hcall := fun W1 (h1 : Row encL W1 b 0 L) (h2 : Tabs W1) (h3 : b < W1.heap.size) => absorb_any b 0 L Wn W1 hs1 hsm h3 h1 h2 hb10 hps hpb
        have HC : Hid (∀ W1, Row encL W1 b 0 L → Tabs W1 → b < W1.heap.size → Calls Tryd.prog 36 #[.pointer (some ⟨b, 0, none⟩), .agg (Wn.toList.map encB).toArray] W1 fun e w' => e = .returned (.tuple #[]) ∧ Step b 0 (0 + 25) W1 w' ∧ Row encL w' b 0 (absorbF L Wn)) := hcall
        have hbw : b < w2.heap.size := by omega
        clear AS st2 hro1 hro2 hWn hw2 hT hcall c4 f4 c3 hsz2
        go_region_held3 (fun w' => w'.rangeAt b 25 (Wn.toList.map encB)) (first | exact hrg | exact range_step hstA hrg (by omega)) (first | (go_at_call 36; refine (HC.out w2.drew.drew r1 hT2 hbw).mono ?_; rintro e w' ⟨rfl, hstA, hroA⟩))
        rename_i hheld
        clear hheld
        have c6 : w'.cell? ⟨b, 161, none⟩ = some (.int .i64 ((c : Int) + (n : Int))) := (hstA.cell 161 (by omega)).trans c5
        have f6 : w'.frozen? ⟨b, 161, none⟩ = false := (hstA.froz 161).trans f5
        have r3 : Row encB w' b 25 Wn := hstA.row (b' := b) r2 hbw (by omega)
        have sz4 : w.heap.size ≤ w'.heap.size := Nat.le_trans hsz3 hstA.size
        have st4 : Step b 0 162 w w' := st3.trans (Step.widen (w := w2) ⟨hstA.os, hstA.tape, hstA.output, hstA.size, hstA.block, hstA.cell, hstA.froz⟩ (by omega) (by omega))
        have A3 : Aside (putAt W c xs = Wn ∧ n ≤ t.size ∧ 0 < n ∧ t.size ≤ gk) := ⟨HW.out, hn1, hn3, hg⟩
        have A2 : Aside (Step b 0 162 w w' ∧ Row encL w' b 0 (absorbF L Wn) ∧ Row encB w' b 25 Wn ∧ L.size = 25 ∧ Wn.size = 136 ∧ Small L ∧ Bytes Wn) := ⟨st4, hroA, r3, hs1, hps, hsm, hpb⟩
        have HFUL : Hid (c + n = 136) := hful
        clear st3 r1 r2 c5 f5 hrg hT2 hu68 hsz68 HC hbw hstA hroA r3 st4 hs1 hps hsm hpb hful HW hlc hn1 hn2 hn3 hsz3 hsz i1 i2 i3 hg he' ht0
        go_wp2
        obtain ⟨st4, hroA, r3, hs1, hps, hsm, hpb⟩ := A2.out
        obtain ⟨hF, _, hf, hex⟩ := AF.out
        obtain ⟨hW, hn1, hn3, hg⟩ := A3.out
        have hful := HFUL.out
        have hst5 := hf hful hn3 hn1
        rw [hW] at hst5
        have hAs := (absorbF_size L Wn).trans hs1
        have hAm := absorbF_small Wn hsm
        generalize absorbF L Wn = A at hroA hst5 hAs hAm
        rw [hst5] at hF
        go_roundg (t.extract n t.size).size
        case measure => omega
        case rel => exact ⟨t.extract n t.size, (A, Wn, 0), Nat.le_refl _, rfl, by simpa using sz4, st4.set (by omega) (by omega) _, Hs.reset hroA r3 c6 f6 hAs hps hAm hpb, hF⟩
      · -- the bytes wait
        have hnf : c + n < 136 := by
          have : ((c : Int) + (n : Int) == 136) = false := by assumption
          have := ne_of_beq_false this
          omega
        obtain ⟨st2, hro1, hro2, hs1, hps, hsm, hpb, hT⟩ := AS.out
        obtain ⟨hF, hl, _, hex⟩ := AF.out
        go_roundg (t.extract n t.size).size
        case measure => omega
        case rel =>
          refine ⟨t.extract n t.size, (L, putAt W c xs, c + n), Nat.le_refl _, rfl, ?_, (st2.set (by omega) (by omega) _).drew, ⟨(hro1.setBeside (by omega) _).drew, (hro2.setBeside (by omega) _).drew, ?_, ?_, hs1, hps, hsm, hpb, hnf⟩, ?_⟩
          · simpa using hsz2
          · exact (World.cell?_setCell_same _ _ _ c4).trans (by go_num)
          · exact (World.frozen?_setCell _ _ _ _).trans f4
          · rw [← hl hnf hn1]
            exact hF
end Go.Proofs.YtjiikjpnlgogfaaDoor
