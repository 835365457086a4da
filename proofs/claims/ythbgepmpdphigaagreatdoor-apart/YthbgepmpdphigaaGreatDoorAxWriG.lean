/-
  A hasher takes a piece (Write).
  A hasher tells the digest of what was written to it (Sum): the hasher stays as it was.
  The digest of a whole text (digest.Of, twigs.Digest), and the hasher of package twigs (NewHasher, Write, Sum).
  Digests in blocks of their own, and held against one another.
-/
import Derived.Test.YthbgepmpdphigaaGreatDoorAxChiG
import Derived.Stop.BytesEq
namespace Go.Proofs.YthbgepmpdphigaaGreatDoor
open Go.RowKit
set_option maxRecDepth 100000
set_option maxHeartbeats 25600000
attribute [local go_sem ↓] Go.wp_at_zero Go.wp_at_succ
structure Hs (w : World) (b : Nat) (st : HSt) : Prop where
 lanes : Row encL w b 0 st.1
 waits : Row encB w b 25 st.2.1
 count : w.cell? ⟨b, 161, none⟩ = some (.int .i64 (st.2.2 : Int))
 froz : w.frozen? ⟨b, 161, none⟩ = false
 size1 : st.1.size = 25
 size2 : st.2.1.size = 136
 small : Small st.1
 bytes : Bytes st.2.1
 less : st.2.2 < 136
variable {w : World} {b : Nat} {L W : Array Nat}
theorem Hs.reset {v : Value} (r1 : Row encL w b 0 L) (r2 : Row encB w b 25 W) (hc : w.cell? ⟨b, 161, none⟩ = some v) (hf : w.frozen? ⟨b, 161, none⟩ = false)
  (h1 : L.size = 25) (h2 : W.size = 136) (h3 : Small L) (h4 : Bytes W) : Hs (w.setCell ⟨b, 161, none⟩ (.int .i64 0)) b (L, W, 0) :=
 ⟨r1.setBeside (by omega) _, r2.setBeside (by omega) _, World.cell?_setCell_same _ _ _ hc, (World.frozen?_setCell _ _ _ _).trans hf, h1, h2, h3, h4, by simp⟩
theorem QAn : (Tryz.prog.info? 5).map (·.size) = some 1 := by kernel_rfl
theorem bytesOf_length (t : ByteArray) : (bytesOf t).length = t.size := by
 unfold bytesOf
 rw [List.length_map, Array.length_toList]
 rfl
theorem Qe0 (t : ByteArray) (n : Nat) : bytesOf (t.extract n t.size) = (bytesOf t).drop n := by
 have : t.data.toList.length = t.size := by rw [Array.length_toList]; rfl
 simp only [bytesOf, ByteArray.data_extract, Array.toList_extract, List.extract_eq_take_drop, List.map_take, List.map_drop]
 rw [List.take_of_length_le]
 rw [List.length_drop, List.length_map, this]
 exact Nat.le_refl _
theorem Qer (t : ByteArray) (n : Nat) : (t.extract n t.size).size = t.size - n := by
 rw [<- bytesOf_length, Qe0, List.length_drop, bytesOf_length]
theorem Qei (t : ByteArray) : t.toList.isEmpty = decide (t.size = 0) := by
 rw [ByteArray.toList_eq]
 have : t.data.toList.length = t.size := by rw [Array.length_toList]; rfl
 cases h : t.data.toList with
 | nil => rw [h] at this; simp at this; simp [<- this]
 | cons x l => rw [h] at this; simp at this; simp [<- this]
theorem Qfe (b : Nat) : ∀ (vs : List Value) (o : Nat) (w : World), w.drew.setCells b o vs = (w.setCells b o vs).drew
 | [], _, _ => rfl
 | v :: r, o, w => by
  rw [World.setCells, World.setCells]
  exact Qfe b r (o + 1) (w.setCell ⟨b, o, none⟩ v)
variable {c n : Nat}
theorem Qrf (t : ByteArray) (h : c + n < 136) (hn : n <= t.size) : ((bytesOf t).take n).foldl push1 (L, W, c) = (L, putAt W c ((bytesOf t).take n), c + n) := by
 have a : ((bytesOf t).take n).length = n := by rw [List.length_take, bytesOf_length]; omega
 rw [Qrs _ _ _ _ (by omega), a]
theorem Qrg (t : ByteArray) (h : c + n = 136) (h1 : 0 < n) (hn : n <= t.size) : ((bytesOf t).take n).foldl push1 (L, W, c) = (absorbF L (putAt W c ((bytesOf t).take n)), putAt W c ((bytesOf t).take n), 0) := by
 have a : ((bytesOf t).take n).length = n := by rw [List.length_take, bytesOf_length]; omega
 exact Qrt _ _ _ _ (by omega) (by omega)
theorem Qxb {st1 : HSt} (t : ByteArray) (n : Nat) : (bytesOf (t.extract n t.size)).foldl push1 (((bytesOf t).take n).foldl push1 st1) = (bytesOf t).foldl push1 st1 := by
 rw [Qe0, <- List.foldl_append, List.take_append_drop]
variable {w1 : World}
theorem Qrh {lo hi : Nat} (h : Step b lo hi w w1) {o : Nat} {cs : List Value} (hr : w.rangeAt b o cs) (ho : hi <= o) : w1.rangeAt b o cs :=
 fun j v hv => (h.cell _ (by omega)).trans (hr j v hv)
theorem Qn7 (b : Nat) (s : ByteArray) (st : HSt) (w : World) (hb : b < w.heap.size) (hH : Hs w b st) (hT : Tabs w) (hb10 : 15 <= b) :
  Calls Tryz.prog 29 #[.pointer (some ⟨b, 0, none⟩), .string s] w fun e w' => e = .returned (.tuple #[]) /\ Step b 0 162 w w' /\ Hs w' b ((bytesOf s).foldl push1 st) := by
 go_enter Tryz.func29, Tryz.ntmps29
 go_wp2
 go_loopg [1] s.size (fun g p wr => ∃ (t : ByteArray) (v : HSt), t.size <= g /\ p = .string t /\ w.heap.size <= wr.heap.size /\ Step b 0 162 w wr /\ Hs wr b v /\ Hid ((bytesOf t).foldl push1 v = (bytesOf s).foldl push1 st))
 case atStart => exact ⟨s, st, Nat.le_refl _, rfl, Nat.le_refl _, Step.refl _ _ _ _, hH, rfl⟩
 case round =>
  obtain ⟨t, v, hg, rfl, ap, u, V, HF⟩ := hrel
  clear hH
  by_cases he : t.toList.isEmpty = true
  ·have K : Aside (Step b 0 162 w wr /\ Hs wr b v) := ⟨u, V⟩
   have ht : t.size = 0 := by rw [Qei] at he; simpa using he
   have al : bytesOf t = [] := List.length_eq_zero_iff.1 ((bytesOf_length t).trans ht)
   have HE : Hid (v = (bytesOf s).foldl push1 st) := by have := HF.out; rw [al] at this; exact this
   clear u V hT ht al HF
   go_wp2
   go_end0
   obtain ⟨u, V⟩ := K.out
   refine ⟨rfl, u, ?_⟩
   rw [<- HE.out]
   exact V
  ·have U : t.toList.isEmpty = false := by simpa using he
   have aq : 0 < t.size := by
    rw [Qei] at U
    have := of_decide_eq_false U
    omega
   clear he
   obtain ⟨L, W, c⟩ := v
   obtain ⟨ag, H, c3, f3, k, Z, l, Q, am⟩ := V
   simp only at ag H c3 f3 k Z l Q am
   obtain ⟨n, X⟩ : ∃ n, n = Nat.min t.size (136 - c) := ⟨_, rfl⟩
   have B : n <= t.size := by rw [X]; exact Nat.min_le_left _ _
   have b7 : n <= 136 - c := by rw [X]; exact Nat.min_le_right _ _
   have G : 0 < n := by rw [X]; exact Nat.lt_min.2 ⟨aq, by omega⟩
   have ar : wr.there b (25 + c) n := fun j hj => by
    have := H (c + j) (by omega)
    rw [show 25 + (c + j) = 25 + c + j by omega] at this
    exact ⟨by rw [this.1]; rfl, this.2⟩
   have y := Qfy (P := Tryz.prog) wr.drew 95 9 3 5 b (25 + c) (136 - c) (136 - c) t n Tryz.underlying95 QAn X ar
   have au : ((bytesOf t).take n).length = n := by rw [List.length_take, bytesOf_length]; omega
   have ae : ∀ x ∈ (bytesOf t).take n, x < 256 := fun x hx => Qar t x (List.mem_of_mem_take hx)
   have S := @Qxb (L, W, c) t n
   have T := @Qrf L W c n t
   have R := @Qrg L W c n t
   obtain ⟨xs, aw⟩ : ∃ xs, (bytesOf t).take n = xs := ⟨_, rfl⟩
   rw [aw] at y au ae S T R
   have m : Step b 0 162 w (wr.setCells b (25 + c) (xs.map encB)) := u.setCells _ _ (by omega) (by simp; omega)
   have i : Row encL (wr.setCells b (25 + c) (xs.map encB)) b 0 L := ag.setCellsBeside _ _ (by omega)
   have d : Row encB (wr.setCells b (25 + c) (xs.map encB)) b 25 (putAt W c xs) := H.put xs c (by omega)
   have c4 : (wr.setCells b (25 + c) (xs.map encB)).cell? ⟨b, 161, none⟩ = some (.int .i64 (c : Int)) := by
    rw [World.cell?_setCells_out b (xs.map encB) (25 + c) wr ⟨b, 161, none⟩ (fun _ _ => by right; simp; omega)]
    exact c3
   have f4 : (wr.setCells b (25 + c) (xs.map encB)).frozen? ⟨b, 161, none⟩ = false := by rw [World.frozen?_setCells]; exact f3
   have D : w.heap.size <= (wr.setCells b (25 + c) (xs.map encB)).heap.size := by rw [(Qa8 _ _ _ _).1]; exact ap
   obtain ⟨w1, ab⟩ : ∃ w1, wr.setCells b (25 + c) (xs.map encB) = w1 := ⟨_, rfl⟩
   have ac : wr.drew.setCells b (25 + c) (xs.map encB) = w1.drew := by rw [<- ab]; exact Qfe _ _ _ _
   rw [ac] at y
   rw [ab] at m i d c4 f4 D
   have f : (putAt W c xs).size = 136 := by rw [Qio]; exact Z
   have h : Bytes (putAt W c xs) := Qgm xs ae W c Q
   have F : (t.extract n t.size).size = t.size - n := Qer t n
   have K : Aside (Step b 0 162 w w1 /\ Row encL w1 b 0 L /\ Row encB w1 b 25 (putAt W c xs) /\ L.size = 25 /\ (putAt W c xs).size = 136 /\ Small L /\ Bytes (putAt W c xs) /\ Tabs w) := ⟨m, i, d, k, f, l, h, hT⟩
   have AF : Aside ((bytesOf (t.extract n t.size)).foldl push1 (xs.foldl push1 (L, W, c)) = (bytesOf s).foldl push1 st /\ (c + n < 136 -> n <= t.size -> xs.foldl push1 (L, W, c) = (L, putAt W c xs, c + n)) /\ (c + n = 136 -> 0 < n -> n <= t.size -> xs.foldl push1 (L, W, c) = (absorbF L (putAt W c xs), putAt W c xs, 0)) /\ (t.extract n t.size).size = t.size - n) := ⟨by rw [S]; exact HF.out, T, R, F⟩
   clear u ag H k Z l Q hT ar X au ae S T R aw m i d ac f h F HF ab f3
   have i1 : (0 : Int) <= (c : Int) := by omega
   have i2 : (c : Int) <= 136 := by omega
   have i3 : ¬ (136 = c) := by omega
   go_wp2
   go_region
   clear y
   go_wp2
   ·have z : c + n = 136 := by
     have : ((c : Int) + (n : Int) == 136) = true := by assumption
     have := eq_of_beq this
     omega
    obtain ⟨m, i, d, k, f, l, h, hT⟩ := K.out
    obtain ⟨Wn, N⟩ : ∃ Wn, putAt W c xs = Wn := ⟨_, rfl⟩
    rw [N] at d f h
    have HW : Hid (putAt W c xs = Wn) := N
    obtain ⟨w2, q⟩ : ∃ w2, w1.setCell ⟨b, 161, none⟩ (.int .i64 ((c : Int) + (n : Int))) = w2 := ⟨_, rfl⟩
    rw [q]
    have I : Step b 0 162 w w2 := by rw [<- q]; exact m.set (by omega) (by omega) _
    have r1 : Row encL w2 b 0 L := by rw [<- q]; exact i.setBeside (by omega) _
    have r2 : Row encB w2 b 25 Wn := by rw [<- q]; exact d.setBeside (by omega) _
    have c5 : w2.cell? ⟨b, 161, none⟩ = some (.int .i64 ((c : Int) + (n : Int))) := by rw [<- q]; exact World.cell?_setCell_same _ _ _ c4
    have f5 : w2.frozen? ⟨b, 161, none⟩ = false := by rw [<- q, World.frozen?_setCell]; exact f4
    have aa : w.heap.size <= w2.heap.size := I.size
    have Y : w2.rangeAt b 25 (Wn.toList.map encB) := r2.range
    have ak : Tabs w2 := hT.step I hb10 (by omega)
    have az := Tryz.underlying79
    have ah : (Tryz.prog.info? 79).map (·.size) = some (Wn.toList.map encB).length := by rw [Qou]; simp [f]
    have E := fun r (h1 : Row encL r b 0 L) (h2 : Tabs r) (h3 : b < r.heap.size) => Qin b 0 L Wn r k l h3 h1 h2 hb10 f h
    have HC : Hid (∀ r, Row encL r b 0 L -> Tabs r -> b < r.heap.size -> Calls Tryz.prog 46 #[.pointer (some ⟨b, 0, none⟩), .agg (Wn.toList.map encB).toArray] r fun e w' => e = .returned (.tuple #[]) /\ Step b 0 (0 + 25) r w' /\ Row encL w' b 0 (absorbF L Wn)) := E
    have O : b < w2.heap.size := by omega
    clear K m i d N q hT E c4 f4 c3 D
    go_region_held3 (fun w' => w'.rangeAt b 25 (Wn.toList.map encB)) (first | exact Y | exact Qrh a Y (by omega)) (first | (go_at_call 46; refine (HC.out w2.drew.drew r1 ak O).mono ?_; rintro e w' ⟨rfl, a, o⟩))
    rename_i hheld
    clear hheld
    have c6 : w'.cell? ⟨b, 161, none⟩ = some (.int .i64 ((c : Int) + (n : Int))) := (a.cell 161 (by omega)).trans c5
    have f6 : w'.frozen? ⟨b, 161, none⟩ = false := (a.froz 161).trans f5
    have r3 : Row encB w' b 25 Wn := a.row (b' := b) r2 O (by omega)
    have ba : w.heap.size <= w'.heap.size := Nat.le_trans aa a.size
    have J : Step b 0 162 w w' := I.trans (Step.widen (w := w2) ⟨a.os, a.tape, a.output, a.size, a.block, a.cell, a.froz⟩ (by omega) (by omega))
    have A3 : Aside (putAt W c xs = Wn /\ n <= t.size /\ 0 < n /\ t.size <= gk) := ⟨HW.out, B, G, hg⟩
    have A2 : Aside (Step b 0 162 w w' /\ Row encL w' b 0 (absorbF L Wn) /\ Row encB w' b 25 Wn /\ L.size = 25 /\ Wn.size = 136 /\ Small L /\ Bytes Wn) := ⟨J, o, r3, k, f, l, h⟩
    have ay : Hid (c + n = 136) := z
    clear I r1 r2 c5 f5 Y ak az ah HC O a o r3 J k f l h z HW am B b7 G aa ap i1 i2 i3 hg U aq
    go_wp2
    obtain ⟨J, o, r3, k, f, l, h⟩ := A2.out
    obtain ⟨hF, _, hf, F⟩ := AF.out
    obtain ⟨hW, B, G, hg⟩ := A3.out
    have z := ay.out
    have C := hf z G B
    rw [hW] at C
    have aj := (Qfx L Wn).trans k
    have ai := Qjs Wn l
    generalize absorbF L Wn = A at o C aj ai
    rw [C] at hF
    go_roundg (t.extract n t.size).size
    case measure => omega
    case rel => exact ⟨t.extract n t.size, (A, Wn, 0), Nat.le_refl _, rfl, by simpa using ba, J.set (by omega) (by omega) _, Hs.reset o r3 c6 f6 aj f ai h, hF⟩
   ·have ao : c + n < 136 := by
     have : ((c : Int) + (n : Int) == 136) = false := by assumption
     have := ne_of_beq_false this
     omega
    obtain ⟨m, i, d, k, f, l, h, hT⟩ := K.out
    obtain ⟨hF, hl, _, F⟩ := AF.out
    go_roundg (t.extract n t.size).size
    case measure => omega
    case rel =>
     refine ⟨t.extract n t.size, (L, putAt W c xs, c + n), Nat.le_refl _, rfl, ?_, (m.set (by omega) (by omega) _).drew, ⟨(i.setBeside (by omega) _).drew, (d.setBeside (by omega) _).drew, ?_, ?_, k, f, l, h, ao⟩, ?_⟩
     ·simpa using D
     ·exact (World.cell?_setCell_same _ _ _ c4).trans (by go_num)
     ·exact (World.frozen?_setCell _ _ _ _).trans f4
     ·rw [<- hl ao B]
      exact hF
theorem Qxo : (Tryz.prog.info? 81).map (·.size) = some 162 := by kernel_rfl
theorem zero70 : Tryz.zeroCells81.size = 162 := by kernel_rfl
def cellsOf (st : HSt) : List Value := st.1.toList.map encL ++ (st.2.1.toList.map encB ++ [.int .i64 (st.2.2 : Int)])
variable {st : HSt}
theorem Qej (h1 : st.1.size = 25) (h2 : st.2.1.size = 136) : (cellsOf st).length = 162 := by
 simp [cellsOf, h1, h2]
theorem Hs.range {w : World} {b : Nat} {st : HSt} (h : Hs w b st) : w.rangeAt b 0 (cellsOf st) := by
 have c := h.size1
 have d := h.size2
 intro j v a
 rw [Nat.zero_add]
 unfold cellsOf at a
 rw [List.getElem?_append] at a
 split at a
 ·rename_i hj
  have := h.lanes.range j v a
  rwa [Nat.zero_add] at this
 ·rename_i hj
  simp only [List.length_map, Array.length_toList, c] at hj a
  rw [List.getElem?_append] at a
  split at a
  ·have := h.waits.range (j - 25) v a
   rwa [show 25 + (j - 25) = j by omega] at this
  ·rename_i hj2
   simp only [List.length_map, Array.length_toList, d] at hj2 a
   by_cases e : j = 161
   ·subst e
    rw [h.count]
    exact a
   ·rw [List.getElem?_eq_none (by simp; omega)] at a
    cases a
theorem Hs.of_setCells (ht : w.there b 0 162) (h1 : st.1.size = 25) (h2 : st.2.1.size = 136) (h3 : Small st.1) (h4 : Bytes st.2.1) (h5 : st.2.2 < 136) : Hs (w.setCells b 0 (cellsOf st)) b st := by
 have e := Qej h1 h2
 have d := World.rangeAt_setCells_same w b 0 (cellsOf st) (by rw [e]; exact ht)
 have c : ∀ j, j < 162 -> (w.setCells b 0 (cellsOf st)).frozen? ⟨b, j, none⟩ = false := fun j a => by
  rw [World.frozen?_setCells]
  have := (ht j a).2
  rwa [Nat.zero_add] at this
 generalize w.setCells b 0 (cellsOf st) = w1 at d c
 refine ⟨fun j a => ⟨d j _ ?_, by rw [Nat.zero_add]; exact c j (by omega)⟩, fun j a => ⟨?_, c (25 + j) (by omega)⟩, ?_, c 161 (by omega), h1, h2, h3, h4, h5⟩
 ·unfold cellsOf
  rw [List.getElem?_append_left (by simp; omega)]
  simp [a]
 ·have := d (25 + j) (encB st.2.1[j]!) ?_
  ·rwa [Nat.zero_add] at this
  ·unfold cellsOf
   rw [List.getElem?_append_right (by simp; omega), List.getElem?_append_left (by simp; omega)]
   simp [a, h1]
 ·have := d 161 (.int .i64 (st.2.2 : Int)) ?_
  ·rwa [Nat.zero_add] at this
  ·unfold cellsOf
   rw [List.getElem?_append_right (by simp; omega), List.getElem?_append_right (by simp; omega)]
   simp [h1, h2]
theorem Qid (st : HSt) : ∀ v ∈ cellsOf st, v.oneCell' = true := by
 intro v a
 unfold cellsOf at a
 rcases List.mem_append.1 a with h | h
 ·exact Qaf st.1 .u64 v h
 ·rcases List.mem_append.1 h with h | h
  ·exact Qaf st.2.1 .u8 v h
  ·rw [List.mem_singleton.1 h]; rfl
theorem Qxc (w : World) (C : Array Value) (st : HSt) (hC : C.size = 32) (b : Nat) (hH : Hs w b st) (hT : Tabs w) (hw10 : 15 <= w.heap.size) :
  Hs (((w.alloc (.cells C 31)).alloc (.cells Tryz.zeroCells81 81)).setCells (w.heap.size + 1) 0 (cellsOf st)) (w.heap.size + 1) st /\
  Below w.heap.size w (((w.alloc (.cells C 31)).alloc (.cells Tryz.zeroCells81 81)).setCells (w.heap.size + 1) 0 (cellsOf st)) /\
  (((w.alloc (.cells C 31)).alloc (.cells Tryz.zeroCells81 81)).setCells (w.heap.size + 1) 0 (cellsOf st)).there w.heap.size 0 32 /\
  w.heap.size + 1 < (((w.alloc (.cells C 31)).alloc (.cells Tryz.zeroCells81 81)).setCells (w.heap.size + 1) 0 (cellsOf st)).heap.size /\
  Tabs (((w.alloc (.cells C 31)).alloc (.cells Tryz.zeroCells81 81)).setCells (w.heap.size + 1) 0 (cellsOf st)) := by
 have f : ((w.alloc (.cells C 31)).alloc (.cells Tryz.zeroCells81 81)).there (w.heap.size + 1) 0 162 := by
  have := Qae (w.alloc (.cells C 31)) Tryz.zeroCells81 81 162 zero70.symm
  simpa using this
 have a : Below w.heap.size w ((w.alloc (.cells C 31)).alloc (.cells Tryz.zeroCells81 81)) := ((Below.refl _ _).alloc (Nat.le_refl _) _).alloc (by simp) _
 have e : ((w.alloc (.cells C 31)).alloc (.cells Tryz.zeroCells81 81)).there w.heap.size 0 32 := World.there_alloc (Qae _ _ _ _ hC.symm) _
 have d : w.heap.size + 1 < ((w.alloc (.cells C 31)).alloc (.cells Tryz.zeroCells81 81)).heap.size := by simp
 generalize (w.alloc (.cells C 31)).alloc (.cells Tryz.zeroCells81 81) = w1 at f a e d
 obtain ⟨g, h, i, j⟩ := Qa8 (w.heap.size + 1) (cellsOf st) 0 w1
 have c : Below w.heap.size w (w1.setCells (w.heap.size + 1) 0 (cellsOf st)) := a.trans ⟨h, i, j, by rw [g]; exact Nat.le_refl _, fun k l => Qa4 _ _ _ _ _ (by omega)⟩
 exact ⟨Hs.of_setCells f hH.size1 hH.size2 hH.small hH.bytes hH.less, c, World.there_setCells e _ _ _, by rw [g]; exact d, hT.below c hw10⟩
theorem QAc : (Tryz.prog.info? 5).map (·.zero) = some (some (.int .u8 0)) := by kernel_rfl
theorem Quq {w2 w3 w4 w5 : World} {W1 : Array Nat} {x : Nat} (hH : Hs w2 (w.heap.size + 1) (L, W, c)) (hB : Below w.heap.size w w2) (hth : w2.there w.heap.size 0 32) (hsz : w.heap.size + 1 < w2.heap.size) (hT : Tabs w2) (hw10 : 15 <= w.heap.size)
  (e3 : w2.setCell ⟨w.heap.size + 1, 25 + c, none⟩ (.int .u8 1) = w3) (e4 : w3.setCells (w.heap.size + 1) (25 + (c + 1)) ((List.replicate (135 - c) 0).map encB) = w4)
  (hW1 : putAt (W.set! c 1) (c + 1) (List.replicate (135 - c) 0) = W1) (hx : W1[135]! = x) (e5 : w4.setCell ⟨w.heap.size + 1, 160, none⟩ (.int .u8 (((x : Int) + 128) % 256)) = w5) :
  (Sem.run Tryz.prog (Builtin.clear_ #[95] 0 #[.slice (some ⟨w.heap.size + 1, 25 + (c + 1), none⟩) (135 - c) (135 - c)]) w3 = .ok (.tuple #[]) w4) /\
  (Sem.run Tryz.prog (Builtin.clear_ #[95] 0 #[.slice (some ⟨w.heap.size + 1, 25, none⟩) 0 0]) w3 = .ok (.tuple #[]) (if 136 = c + 1 then w4 else w3)) /\
  w3.cell? ⟨w.heap.size + 1, 161, none⟩ = some (.int .i64 (c : Int)) /\
  w4.cell? ⟨w.heap.size + 1, 160, none⟩ = some (encB x) /\
  w4.frozen? ⟨w.heap.size + 1, 160, none⟩ = false /\
  w5.rangeAt (w.heap.size + 1) 25 ((W1.set! 135 ((x + 128) % 256)).toList.map encB) /\
  Aside (Row encL w5 (w.heap.size + 1) 0 L /\ Below w.heap.size w w5 /\ w5.there w.heap.size 0 32 /\ w.heap.size + 1 < w5.heap.size /\ Tabs w5 /\ L.size = 25 /\ (W1.set! 135 ((x + 128) % 256)).size = 136 /\ Small L /\ Bytes (W1.set! 135 ((x + 128) % 256)) /\ lastBlock W c = W1.set! 135 ((x + 128) % 256)) := by
 obtain ⟨G, I, h, K, m, n, o, p, N⟩ := hH
 simp only at G I h K m n o p N
 have H : Row encL w3 (w.heap.size + 1) 0 L := by rw [<- e3]; exact G.setBeside (by omega) _
 have b : Row encB w3 (w.heap.size + 1) 25 (W.set! c 1) := by rw [<- e3]; exact I.set rfl (by omega) 1 rfl
 have i : w3.cell? ⟨w.heap.size + 1, 161, none⟩ = some (.int .i64 (c : Int)) := by
  rw [<- e3, World.cell?_setCell_other _ _ _ _ (fun e => by have J := congrArg Addr.off e; simp only at J; omega)]; exact h
 have t : Below w.heap.size w w3 := by rw [<- e3]; exact hB.setCell (by simp) _
 have D : w3.there w.heap.size 0 32 := by rw [<- e3]; exact Qde hth _ _
 have B : w.heap.size + 1 < w3.heap.size := by rw [<- e3]; simpa using hsz
 have q : Tabs w3 := by
  rw [<- e3]; exact hT.of_blocks (Below.heap_setCell _ _ _ _ (by simp; omega)) (Below.heap_setCell _ _ _ _ (by simp; omega))
 have s : (W.set! c 1).size = 136 := by simp [n]
 have f : w3.there (w.heap.size + 1) (25 + (c + 1)) (135 - c) := fun j O => by
  have := b (c + 1 + j) (by omega)
  rw [show 25 + (c + 1 + j) = 25 + (c + 1) + j by omega] at this
  exact ⟨by rw [this.1]; rfl, this.2⟩
 have a : Row encB w4 (w.heap.size + 1) 25 W1 := by
  rw [<- e4, <- hW1]; exact b.put _ _ (by simp; omega)
 have g : Row encL w4 (w.heap.size + 1) 0 L := by rw [<- e4]; exact H.setCellsBeside _ _ (by omega)
 obtain ⟨F, Q, R, S⟩ := Qa8 (w.heap.size + 1) ((List.replicate (135 - c) 0).map encB) (25 + (c + 1)) w3
 have u : Below w.heap.size w w4 := by
  rw [<- e4]; exact t.trans ⟨Q, R, S, by rw [F]; exact Nat.le_refl _, fun k U => Qa4 _ _ _ _ _ (by omega)⟩
 have E : w4.there w.heap.size 0 32 := by rw [<- e4]; exact World.there_setCells D _ _ _
 have C : w.heap.size + 1 < w4.heap.size := by rw [<- e4, F]; exact B
 have r : Tabs w4 := by rw [<- e4]; exact q.of_blocks (Qa4 _ _ _ _ _ (by omega)) (Qa4 _ _ _ _ _ (by omega))
 have z : W1.size = 136 := by rw [<- hW1, Qio]; exact s
 have y : Bytes W1 := by rw [<- hW1]; exact Qgm _ (fun x hx => by rw [List.eq_of_mem_replicate hx]; decide) _ _ (Qdf p _ _ (by decide))
 have d := a 135 (by omega)
 rw [hx] at d
 have T : Row encB w5 (w.heap.size + 1) 25 (W1.set! 135 ((x + 128) % 256)) := by
  rw [<- e5]; exact a.set rfl (by omega) _ (Qav (by omega))
 refine ⟨?_, ?_, i, d.1, d.2, T.range, ?_, ?_, ?_, ?_, ?_, m, by simpa using z, o, Qdf y _ _ (Nat.mod_lt _ (by decide)), ?_⟩
 ·rw [<- e4]; exact Qdg w3 95 0 5 _ _ _ _ Tryz.underlying95 QAc f
 ·have l := Qdg (P := Tryz.prog) w3 95 0 5 (w.heap.size + 1) 25 0 0 Tryz.underlying95 QAc (fun j O => by omega)
  by_cases v : 136 = c + 1
  ·rw [if_pos v, <- e4, show 135 - c = 0 by omega]
   exact l
  ·rw [if_neg v]
   exact l
 ·rw [<- e5]; exact g.setBeside (by omega) _
 ·rw [<- e5]; exact u.setCell (by simp) _
 ·rw [<- e5]; exact Qde E _ _
 ·rw [<- e5]; simpa using C
 ·rw [<- e5]; exact r.of_blocks (Below.heap_setCell _ _ _ _ (by simp; omega)) (Below.heap_setCell _ _ _ _ (by simp; omega))
 ·unfold lastBlock
  simp only [hW1, hx]
theorem Qur (b : Nat) (st : HSt) (w : World) (hH : Hs w b st) (hT : Tabs w) (hw10 : 15 <= w.heap.size) :
    Calls Tryz.prog 36 #[.pointer (some ⟨b, 0, none⟩)] w fun e w' => e = .returned (.agg ((sumF st).toList.map encB).toArray) /\ Below w.heap.size w w' := by
  have R := Qej hH.size1 hH.size2
  have g := all_oneCell_toArray (Qid st)
  have J : ∀ o, (w.alloc o).rangeAt b 0 (cellsOf st) := fun o => World.rangeAt_alloc hH.range o
  have s : (Tryz.prog.info? 81).map (·.size) = some (cellsOf st).length := by rw [Qxo, R]
  have t : (Tryz.prog.info? 81).map (·.size) = some (cellsOf st).toArray.size := by rw [Qxo]; simp [R]
  have q : (cellsOf st).toArray.size = 162 := by simp [R]
  have A0 : Aside (∀ C : Array Value, C.size = 32 -> Hs (((w.alloc (.cells C 31)).alloc (.cells Tryz.zeroCells81 81)).setCells (w.heap.size + 1) 0 (cellsOf st)) (w.heap.size + 1) st /\ Below w.heap.size w (((w.alloc (.cells C 31)).alloc (.cells Tryz.zeroCells81 81)).setCells (w.heap.size + 1) 0 (cellsOf st)) /\ (((w.alloc (.cells C 31)).alloc (.cells Tryz.zeroCells81 81)).setCells (w.heap.size + 1) 0 (cellsOf st)).there w.heap.size 0 32 /\ w.heap.size + 1 < (((w.alloc (.cells C 31)).alloc (.cells Tryz.zeroCells81 81)).setCells (w.heap.size + 1) 0 (cellsOf st)).heap.size /\ Tabs (((w.alloc (.cells C 31)).alloc (.cells Tryz.zeroCells81 81)).setCells (w.heap.size + 1) 0 (cellsOf st))) :=
    fun C hC => Qxc w C st hC b hH hT hw10
  obtain ⟨cs, X⟩ : ∃ cs, cellsOf st = cs := ⟨_, rfl⟩
  rw [X] at g J s t q A0
  clear hH hT R X
  have aa : ∀ o, ((w.alloc o).alloc (.cells Tryz.zeroCells81 81)).there (w.heap.size + 1) 0 cs.toArray.size := fun o => by
    have := Qae (w.alloc o) Tryz.zeroCells81 81 162 zero70.symm
    rw [q]
    simpa using this
  obtain ⟨L, W, c⟩ := st
  go_enter Tryz.func36, Tryz.ntmps36
  go_wp2_with (first
    | (refine wpList_load_mid rfl 81 _ rfl b 0 rfl cs _ (J _) Tryz.underlying81 rfl s ?_)
    | (refine wpList_store_mid rfl 81 _ _ rfl (w.heap.size + 1) 0 cs.toArray rfl rfl (aa _) t g ?_
       rw [List.toList_toArray]
       obtain ⟨d, F, a, y, G⟩ := A0.out #[.int .u8 0, .int .u8 0, .int .u8 0, .int .u8 0, .int .u8 0, .int .u8 0, .int .u8 0, .int .u8 0, .int .u8 0, .int .u8 0, .int .u8 0, .int .u8 0, .int .u8 0, .int .u8 0, .int .u8 0, .int .u8 0, .int .u8 0, .int .u8 0, .int .u8 0, .int .u8 0, .int .u8 0, .int .u8 0, .int .u8 0, .int .u8 0, .int .u8 0, .int .u8 0, .int .u8 0, .int .u8 0, .int .u8 0, .int .u8 0, .int .u8 0, .int .u8 0] rfl
       generalize ((w.alloc (.cells #[.int .u8 0, .int .u8 0, .int .u8 0, .int .u8 0, .int .u8 0, .int .u8 0, .int .u8 0, .int .u8 0, .int .u8 0, .int .u8 0, .int .u8 0, .int .u8 0, .int .u8 0, .int .u8 0, .int .u8 0, .int .u8 0, .int .u8 0, .int .u8 0, .int .u8 0, .int .u8 0, .int .u8 0, .int .u8 0, .int .u8 0, .int .u8 0, .int .u8 0, .int .u8 0, .int .u8 0, .int .u8 0, .int .u8 0, .int .u8 0, .int .u8 0, .int .u8 0] 31)).alloc (.cells Tryz.zeroCells81 81)).setCells (w.heap.size + 1) 0 cs = w2 at d F a y G ⊢
       have c5 := d.count
       have B := d.less
       simp only at c5 B
       have c6 := (d.waits c (by rw [d.size2]; exact B)).1
       have f6 := (d.waits c (by rw [d.size2]; exact B)).2
       have i1 : (0 : Int) <= (c : Int) + 1 := by omega
       have i2 : (c : Int) + 1 <= 136 := by omega
       obtain ⟨w3, e3⟩ : ∃ w3, w2.setCell ⟨w.heap.size + 1, 25 + c, none⟩ (.int .u8 1) = w3 := ⟨_, rfl⟩
       obtain ⟨w4, e4⟩ : ∃ w4, w3.setCells (w.heap.size + 1) (25 + (c + 1)) ((List.replicate (135 - c) 0).map encB) = w4 := ⟨_, rfl⟩
       obtain ⟨W1, U⟩ : ∃ W1, putAt (W.set! c 1) (c + 1) (List.replicate (135 - c) 0) = W1 := ⟨_, rfl⟩
       obtain ⟨x, hx⟩ : ∃ x, W1[135]! = x := ⟨_, rfl⟩
       obtain ⟨w5, e5⟩ : ∃ w5, w4.setCell ⟨w.heap.size + 1, 160, none⟩ (.int .u8 (((x : Int) + 128) % 256)) = w5 := ⟨_, rfl⟩
       obtain ⟨ab, ac, c7, c8, f8, r, P⟩ := Quq d F a y G hw10 e3 e4 U hx e5
       obtain ⟨Wl, V⟩ : ∃ Wl, W1.set! 135 ((x + 128) % 256) = Wl := ⟨_, rfl⟩
       rw [V] at r P
       have E : (Tryz.prog.info? 79).map (·.size) = some (Wl.toList.map encB).length := by rw [Qou]; simp [P.out.2.2.2.2.2.2.1]
       clear e4 U hx V
       clear J s t g q aa A0 d F a y G)
    | (refine wpList_load_mid rfl 79 _ rfl (w.heap.size + 1) 25 rfl (Wl.toList.map encB) _ r Tryz.underlying79 rfl E ?_))
  all_goals
    obtain ⟨r1, S, N, Z, T, h1, h2, h3, h4, Y⟩ := P.out
    refine (Qin (w.heap.size + 1) 0 L Wl w5 h1 h3 (by omega) r1 T (by omega) h2 h4).mono ?_
    rintro e w6 ⟨rfl, f, l⟩
    have hA : absorbF L (lastBlock W c) = absorbF L Wl := by rw [Y]
    have h := (Qfx L Wl).trans h1
    have m : Below w.heap.size w w6 := S.trans ⟨f.os, f.tape, f.output, f.size, fun k hk => f.block k (by omega) (by omega)⟩
    have ah : w.heap.size + 1 < w6.heap.size := Nat.lt_of_lt_of_le Z f.size
    have i : w6.there w.heap.size 0 32 := fun j I => by
      have p := f.block w.heap.size (by omega) (by omega)
      exact ⟨by rw [World.cell?_of_block p]; exact (N j I).1, by rw [World.frozen?_of_block p]; exact (N j I).2⟩
    have K : sumF (L, W, c) = sqzAt (absorbF L Wl) 32 := by unfold sumF; rw [hA]
    have Q : Hid (∀ k, k = 32 -> sumF (L, W, c) = sqzAt (absorbF L Wl) k) := fun k hk => by subst hk; exact K
    generalize absorbF L Wl = A at l h Q
    have A6 : Aside (Row encL w6 (w.heap.size + 1) 0 A /\ A.size = 25 /\ Below w.heap.size w w6 /\ w6.there w.heap.size 0 32) := ⟨l, h, m, i⟩
    clear P r1 S N Z T h1 h2 h3 h4 Y f l hA h m i K r E e3 e5 ab ac c5 c6 f6 c7 c8 f8 i1 i2 B
    go_wp2_with fail
    obtain ⟨l, h, m, i⟩ := A6.out
    refine (Qng (w.heap.size + 1) 0 A w6 h ah l).mono ?_
    rintro e w7 ⟨rfl, H⟩
    have n := Qcp A 32
    have ag : Hid (∀ k, k = 32 -> sumF (L, W, c) = sqzAt A k) := Q
    have hr := Q.out 32 rfl
    generalize sqzAt A 32 = D at n hr ⊢
    have HR : Hid (∀ u : Unit, sumF (L, W, c) = D) := fun _ => hr
    have z : Below w.heap.size w w7 := m.trans (H.mono (by omega))
    have O : w7.there w.heap.size 0 32 := fun j I => by
      have p := H.block w.heap.size (by omega)
      exact ⟨by rw [World.cell?_of_block p]; exact (i j I).1, by rw [World.frozen?_of_block p]; exact (i j I).2⟩
    have ai : (Tryz.prog.info? 31).map (·.size) = some (D.toList.map encB).length := by rw [Qgl]; simp [n]
    have aj : (Tryz.prog.info? 31).map (·.size) = some (D.toList.map encB).toArray.size := by rw [Qgl]; simp [n]
    have g := all_oneCell_toArray (Qaf D .u8)
    have ae : w7.there w.heap.size 0 (D.toList.map encB).toArray.size := by simpa [n] using O
    have a : w7.there w.heap.size 0 (D.toList.map encB).length := by simpa [n] using O
    have A7 : Aside (Below w.heap.size w w7 /\ w7.there w.heap.size 0 (D.toList.map encB).length /\ D.size = 32) := ⟨z, a, n⟩
    clear A6 Q ag hr l h m i H z O a n
    go_wp2_with (refine wpList_store_mid rfl 31 _ _ rfl w.heap.size 0 (D.toList.map encB).toArray rfl rfl ae aj g ?_)
    obtain ⟨z, a, n⟩ := A7.out
    refine bodyPost_ret (v := .agg (D.toList.map encB).toArray) (Qaj Tryz.results36 _ _ _ w.heap.size 0 rfl (run_loadVar_mid _ _ _ 31 _ _ (World.rangeAt_setCells_same _ _ _ _ a) Tryz.underlying31 rfl ai)) rfl ⟨?_, ?_⟩
    · rw [HR.out ()]
    · obtain ⟨q1, q2, q3, q4⟩ := Qa8 w.heap.size (D.toList.map encB) 0 w7
      exact z.trans ⟨q2, q3, q4, by rw [q1]; exact Nat.le_refl _, fun k hk => Qa4 _ _ _ _ _ (by omega)⟩
theorem Hs.of_range (hr : w1.rangeAt b 0 (cellsOf st)) (hf : ∀ j, j < 162 -> w1.frozen? ⟨b, j, none⟩ = false) (h1 : st.1.size = 25) (h2 : st.2.1.size = 136) (h3 : Small st.1) (h4 : Bytes st.2.1) (h5 : st.2.2 < 136) : Hs w1 b st := by
 refine ⟨fun j a => ⟨hr j _ ?_, by rw [Nat.zero_add]; exact hf j (by omega)⟩, fun j a => ⟨?_, hf (25 + j) (by omega)⟩, ?_, hf 161 (by omega), h1, h2, h3, h4, h5⟩
 ·unfold cellsOf
  rw [List.getElem?_append_left (by simp; omega)]
  simp [a]
 ·have := hr (25 + j) (encB st.2.1[j]!) ?_
  ·rwa [Nat.zero_add] at this
  ·unfold cellsOf
   rw [List.getElem?_append_right (by simp; omega), List.getElem?_append_left (by simp; omega)]
   simp [a, h1]
 ·have := hr 161 (.int .i64 (st.2.2 : Int)) ?_
  ·rwa [Nat.zero_add] at this
  ·unfold cellsOf
   rw [List.getElem?_append_right (by simp; omega), List.getElem?_append_right (by simp; omega)]
   simp [h1, h2]
theorem Qie (n j : Nat) : (Array.replicate n 0 : Array Nat)[j]! = 0 := by
 by_cases h : j < n
 ·simp [h]
 ·simp [h]
theorem Hs.zero (w : World) (C : Array Value) (t : TypeId) (hC : C = (cellsOf init).toArray) : Hs (w.alloc (.cells C t)) w.heap.size init := by
 subst hC
 refine Hs.of_range ?_ (fun j _ => World.frozen?_alloc_new _ _ _ _) (by simp [init]) (by simp [init]) (fun j => ?_) (fun j => ?_) (by simp [init])
 ·intro j v a
  rw [Nat.zero_add, World.cell?_alloc_new]
  rw [<- a]
  simp
 ·show (Array.replicate 25 0 : Array Nat)[j]! < _
  rw [Qie]; decide
 ·show (Array.replicate 136 0 : Array Nat)[j]! < _
  rw [Qie]; decide
theorem Qoq : Tryz.zeroCells81 = (cellsOf init).toArray := by kernel_rfl
theorem Qb5 {w7 : World} {N : Nat} {D : Array Nat} (hD : D.size = 32) (ht : w7.there N 0 32) :
  (Tryz.prog.info? 31).map (·.size) = some (D.toList.map encB).length /\ (Tryz.prog.info? 31).map (·.size) = some (D.toList.map encB).toArray.size /\ w7.there N 0 (D.toList.map encB).toArray.size /\ w7.there N 0 (D.toList.map encB).length := by
 refine ⟨?_, ?_, ?_, ?_⟩
 ·rw [Qgl]; simp [hD]
 ·rw [Qgl]; simp [hD]
 ·simpa [hD] using ht
 ·simpa [hD] using ht
theorem Qau {w7 : World} {N : Nat} (h : Below w.heap.size w w7) (hN : w.heap.size <= N) (vs : List Value) (o : Nat) : Below w.heap.size w (w7.setCells N o vs) := by
 obtain ⟨a, b, c, d⟩ := Qa8 N vs o w7
 exact h.trans ⟨b, c, d, by rw [a]; exact Nat.le_refl _, fun k e => Qa4 _ _ _ _ _ (by omega)⟩
theorem Qab {o : Nat} (h : w.there b o n) (hb : w1.heap[b]? = w.heap[b]?) : w1.there b o n := fun j hj =>
 ⟨by rw [World.cell?_of_block hb]; exact (h j hj).1, by rw [World.frozen?_of_block hb]; exact (h j hj).2⟩
theorem Hs.block (h : Hs w b st) (hb : w1.heap[b]? = w.heap[b]?) : Hs w1 b st :=
 ⟨h.lanes.of_eq hb, h.waits.of_eq hb, (World.cell?_of_block hb).trans h.count, (World.frozen?_of_block hb).trans h.froz, h.size1, h.size2, h.small, h.bytes, h.less⟩
theorem Qcy (st : HSt) : (sumF st).size = 32 := Qcp _ _
theorem Qif (s : ByteArray) (w : World) (hT : Tabs w) (hw10 : 15 <= w.heap.size) :
  Calls Tryz.prog 37 #[.string s] w fun e w' => e = .returned (.agg ((digF s).toList.map encB).toArray) /\ Below w.heap.size w w' := by
 go_enter Tryz.func37, Tryz.ntmps37
 go_wp2_with fail
 generalize hw1 : (w.alloc (.cells _ 31)).alloc (.cells Tryz.zeroCells81 81) = w1
 have l : Hs w1 (w.heap.size + 1) init := by
  rw [<- hw1]
  have := Hs.zero (w.alloc (.cells #[.int .u8 0, .int .u8 0, .int .u8 0, .int .u8 0, .int .u8 0, .int .u8 0, .int .u8 0, .int .u8 0, .int .u8 0, .int .u8 0, .int .u8 0, .int .u8 0, .int .u8 0, .int .u8 0, .int .u8 0, .int .u8 0, .int .u8 0, .int .u8 0, .int .u8 0, .int .u8 0, .int .u8 0, .int .u8 0, .int .u8 0, .int .u8 0, .int .u8 0, .int .u8 0, .int .u8 0, .int .u8 0, .int .u8 0, .int .u8 0, .int .u8 0, .int .u8 0] 31)) Tryz.zeroCells81 81 Qoq
  simpa using this
 have h : Below w.heap.size w w1 := by rw [<- hw1]; exact ((Below.refl _ _).alloc (Nat.le_refl _) _).alloc (by simp) _
 have m : w1.there w.heap.size 0 32 := by rw [<- hw1]; exact World.there_alloc (Qae _ _ _ _ rfl) _
 have k : w.heap.size + 1 < w1.heap.size := by rw [<- hw1]; simp
 clear hw1
 refine (Qn7 (w.heap.size + 1) s init w1 k l (hT.below h hw10) (by omega)).mono ?_
 rintro e w2 ⟨rfl, g, b⟩
 have a : Below w.heap.size w w2 := g.below h (by omega) (by omega)
 have d : w2.there w.heap.size 0 32 := Qab m (g.block _ (by omega) (by omega))
 have y : w.heap.size + 1 < w2.heap.size := Nat.lt_of_lt_of_le k g.size
 have n : Hid (∀ u : Unit, digF s = sumF ((bytesOf s).foldl push1 init)) := fun _ => rfl
 generalize (bytesOf s).foldl push1 init = st at b n
 have q : Aside (Hs w2 (w.heap.size + 1) st /\ Below w.heap.size w w2 /\ w2.there w.heap.size 0 32 /\ Tabs w) := ⟨b, a, d, hT⟩
 clear l h m k g b a d hT
 go_wp2_with fail
 obtain ⟨b, a, d, hT⟩ := q.out
 refine (Qur (w.heap.size + 1) st w2 b (hT.below a hw10) (by omega)).mono ?_
 rintro e w3 ⟨rfl, j⟩
 have i := Qcy st
 generalize sumF st = D at i n ⊢
 have f : Below w.heap.size w w3 := a.trans (j.mono (by omega))
 obtain ⟨r, t, p, c⟩ := Qb5 i (Qab d (j.block _ (by omega)))
 have o := all_oneCell_toArray (Qaf D .u8)
 have x : Aside (Below w.heap.size w w3 /\ w3.there w.heap.size 0 (D.toList.map encB).length) := ⟨f, c⟩
 clear q b a d hT j f c i
 go_wp2_with (refine wpList_store_mid rfl 31 _ _ rfl w.heap.size 0 (D.toList.map encB).toArray rfl rfl p t o ?_)
 obtain ⟨f, c⟩ := x.out
 refine bodyPost_ret (v := .agg (D.toList.map encB).toArray) (Qaj Tryz.results37 _ _ _ w.heap.size 0 rfl (run_loadVar_mid _ _ _ 31 _ _ (World.rangeAt_setCells_same _ _ _ _ c) Tryz.underlying31 rfl r)) rfl ⟨?_, ?_⟩
 ·rw [n.out ()]
 ·exact Qau f (Nat.le_refl _) _ _
theorem Qri (s : ByteArray) (w : World) (hT : Tabs w) (hw10 : 15 <= w.heap.size) :
  Calls Tryz.prog 18 #[.string s] w fun e w' => e = .returned (.agg ((digF s).toList.map encB).toArray) /\ Below w.heap.size w w' := by
 go_enter Tryz.func18, Tryz.ntmps18
 go_wp2_with fail
 generalize hw1 : w.alloc (.cells _ 31) = w1
 have c : Below w.heap.size w w1 := by rw [<- hw1]; exact (Below.refl _ _).alloc (Nat.le_refl _) _
 have g : w1.there w.heap.size 0 32 := by rw [<- hw1]; exact Qae _ _ _ _ rfl
 have k : w.heap.size < w1.heap.size := by rw [<- hw1]; simp
 clear hw1
 refine (Qif s w1 (hT.below c hw10) (by omega)).mono ?_
 rintro e w3 ⟨rfl, f⟩
 have d : (digF s).size = 32 := Qcy _
 obtain ⟨D, h⟩ : ∃ D, digF s = D := ⟨_, rfl⟩
 have o : Hid (∀ u : Unit, digF s = D) := fun _ => h
 rw [h] at d ⊢
 clear h
 have b : Below w.heap.size w w3 := c.trans (f.mono (by omega))
 obtain ⟨l, m, j, a⟩ := Qb5 d (Qab g (f.block _ (by omega)))
 have i := all_oneCell_toArray (Qaf D .u8)
 have n : Aside (Below w.heap.size w w3 /\ w3.there w.heap.size 0 (D.toList.map encB).length) := ⟨b, a⟩
 clear c g k hT f b a d
 go_wp2_with (refine wpList_store_mid rfl 31 _ _ rfl w.heap.size 0 (D.toList.map encB).toArray rfl rfl j m i ?_)
 obtain ⟨b, a⟩ := n.out
 refine bodyPost_ret (v := .agg (D.toList.map encB).toArray) (Qaj Tryz.results18 _ _ _ w.heap.size 0 rfl (run_loadVar_mid _ _ _ 31 _ _ (World.rangeAt_setCells_same _ _ _ _ a) Tryz.underlying31 rfl l)) rfl ⟨?_, Qau b (Nat.le_refl _) _ _⟩
 rw [o.out ()]
theorem Qxd (b : Nat) (st : HSt) (w : World) (hH : Hs w b st) (hb : b < w.heap.size) (hT : Tabs w) (hw10 : 15 <= w.heap.size) :
  Calls Tryz.prog 17 #[.pointer (some ⟨b, 0, none⟩)] w fun e w' => e = .returned (.agg ((sumF st).toList.map encB).toArray) /\ Below w.heap.size w w' := by
 go_enter Tryz.func17, Tryz.ntmps17
 go_wp2_with fail
 generalize hw1 : w.alloc (.cells _ 31) = w1
 have c : Below w.heap.size w w1 := by rw [<- hw1]; exact (Below.refl _ _).alloc (Nat.le_refl _) _
 have h : w1.there w.heap.size 0 32 := by rw [<- hw1]; exact Qae _ _ _ _ rfl
 have l : w.heap.size < w1.heap.size := by rw [<- hw1]; simp
 clear hw1
 refine (Qur b st w1 (hH.block (c.block b hb)) (hT.below c hw10) (by omega)).mono ?_
 rintro e w3 ⟨rfl, g⟩
 have f := Qcy st
 obtain ⟨D, i⟩ : ∃ D, sumF st = D := ⟨_, rfl⟩
 have p : Hid (∀ u : Unit, sumF st = D) := fun _ => i
 rw [i] at f ⊢
 clear i
 have d : Below w.heap.size w w3 := c.trans (g.mono (by omega))
 obtain ⟨m, n, k, a⟩ := Qb5 f (Qab h (g.block _ (by omega)))
 have j := all_oneCell_toArray (Qaf D .u8)
 have o : Aside (Below w.heap.size w w3 /\ w3.there w.heap.size 0 (D.toList.map encB).length) := ⟨d, a⟩
 clear c h l hT g d a f hH
 go_wp2_with (refine wpList_store_mid rfl 31 _ _ rfl w.heap.size 0 (D.toList.map encB).toArray rfl rfl k n j ?_)
 obtain ⟨d, a⟩ := o.out
 refine bodyPost_ret (v := .agg (D.toList.map encB).toArray) (Qaj Tryz.results17 _ _ _ w.heap.size 0 rfl (run_loadVar_mid _ _ _ 31 _ _ (World.rangeAt_setCells_same _ _ _ _ a) Tryz.underlying31 rfl m)) rfl ⟨?_, Qau d (Nat.le_refl _) _ _⟩
 rw [p.out ()]
theorem Qjr (b : Nat) (s : ByteArray) (st : HSt) (w : World) (hb : b < w.heap.size) (hH : Hs w b st) (hT : Tabs w) (hb10 : 15 <= b) :
  Calls Tryz.prog 11 #[.pointer (some ⟨b, 0, none⟩), .string s] w fun e w' => e = .returned (.tuple #[]) /\ Step b 0 162 w w' /\ Hs w' b ((bytesOf s).foldl push1 st) := by
 have h := Qn7 b s st w hb hH hT hb10
 have H : Hid (Calls Tryz.prog 29 #[.pointer (some ⟨b, 0, none⟩), .string s] w fun e w' => e = .returned (.tuple #[]) /\ Step b 0 162 w w' /\ Hs w' b ((bytesOf s).foldl push1 st)) := h
 clear h hH hT
 generalize (bytesOf s).foldl push1 st = st2 at H ⊢
 go_enter Tryz.func11, Tryz.ntmps11
 go_wp2_with fail
 refine H.out.mono ?_
 rintro e d ⟨rfl, a, c⟩
 have f : Aside (Step b 0 162 w d /\ Hs d b st2) := ⟨a, c⟩
 clear a c
 go_wp2
 go_end0
 exact ⟨rfl, f.out⟩
theorem Qig : Tryz.zeroCells83 = (cellsOf init).toArray := by kernel_rfl
theorem Qus (w : World) :
  Calls Tryz.prog 10 #[] w fun e w' => e = .returned (.pointer (some ⟨w.heap.size, 0, none⟩)) /\ w' = w.alloc (.cells Tryz.zeroCells83 83) := by
 go_enter Tryz.func10, Tryz.ntmps10
 go_wp2
 go_ret
 exact ⟨rfl, rfl⟩
theorem Qn8 (w : World) (D : Array Nat) (hD : D.size = 32) :
  (w.alloc (.cells #[.int .u8 0, .int .u8 0, .int .u8 0, .int .u8 0, .int .u8 0, .int .u8 0, .int .u8 0, .int .u8 0, .int .u8 0, .int .u8 0, .int .u8 0, .int .u8 0, .int .u8 0, .int .u8 0, .int .u8 0, .int .u8 0, .int .u8 0, .int .u8 0, .int .u8 0, .int .u8 0, .int .u8 0, .int .u8 0, .int .u8 0, .int .u8 0, .int .u8 0, .int .u8 0, .int .u8 0, .int .u8 0, .int .u8 0, .int .u8 0, .int .u8 0, .int .u8 0] 31)).there w.heap.size 0 (D.toList.map encB).toArray.size /\ (Tryz.prog.info? 31).map (·.size) = some (D.toList.map encB).toArray.size /\ (Tryz.prog.info? 31).map (·.size) = some (D.toList.map encB).length /\ (D.toList.map encB).toArray.all (·.oneCell') = true /\
  Below w.heap.size w ((w.alloc (.cells #[.int .u8 0, .int .u8 0, .int .u8 0, .int .u8 0, .int .u8 0, .int .u8 0, .int .u8 0, .int .u8 0, .int .u8 0, .int .u8 0, .int .u8 0, .int .u8 0, .int .u8 0, .int .u8 0, .int .u8 0, .int .u8 0, .int .u8 0, .int .u8 0, .int .u8 0, .int .u8 0, .int .u8 0, .int .u8 0, .int .u8 0, .int .u8 0, .int .u8 0, .int .u8 0, .int .u8 0, .int .u8 0, .int .u8 0, .int .u8 0, .int .u8 0, .int .u8 0] 31)).setCells w.heap.size 0 (D.toList.map encB)) /\ ((w.alloc (.cells #[.int .u8 0, .int .u8 0, .int .u8 0, .int .u8 0, .int .u8 0, .int .u8 0, .int .u8 0, .int .u8 0, .int .u8 0, .int .u8 0, .int .u8 0, .int .u8 0, .int .u8 0, .int .u8 0, .int .u8 0, .int .u8 0, .int .u8 0, .int .u8 0, .int .u8 0, .int .u8 0, .int .u8 0, .int .u8 0, .int .u8 0, .int .u8 0, .int .u8 0, .int .u8 0, .int .u8 0, .int .u8 0, .int .u8 0, .int .u8 0, .int .u8 0, .int .u8 0] 31)).setCells w.heap.size 0 (D.toList.map encB)).rangeAt w.heap.size 0 (D.toList.map encB) /\
  w.heap.size < ((w.alloc (.cells #[.int .u8 0, .int .u8 0, .int .u8 0, .int .u8 0, .int .u8 0, .int .u8 0, .int .u8 0, .int .u8 0, .int .u8 0, .int .u8 0, .int .u8 0, .int .u8 0, .int .u8 0, .int .u8 0, .int .u8 0, .int .u8 0, .int .u8 0, .int .u8 0, .int .u8 0, .int .u8 0, .int .u8 0, .int .u8 0, .int .u8 0, .int .u8 0, .int .u8 0, .int .u8 0, .int .u8 0, .int .u8 0, .int .u8 0, .int .u8 0, .int .u8 0, .int .u8 0] 31)).setCells w.heap.size 0 (D.toList.map encB)).heap.size := by
 have c : (w.alloc (.cells #[.int .u8 0, .int .u8 0, .int .u8 0, .int .u8 0, .int .u8 0, .int .u8 0, .int .u8 0, .int .u8 0, .int .u8 0, .int .u8 0, .int .u8 0, .int .u8 0, .int .u8 0, .int .u8 0, .int .u8 0, .int .u8 0, .int .u8 0, .int .u8 0, .int .u8 0, .int .u8 0, .int .u8 0, .int .u8 0, .int .u8 0, .int .u8 0, .int .u8 0, .int .u8 0, .int .u8 0, .int .u8 0, .int .u8 0, .int .u8 0, .int .u8 0, .int .u8 0] 31)).there w.heap.size 0 32 := Qae w _ 31 32 rfl
 have a : Below w.heap.size w (w.alloc (.cells #[.int .u8 0, .int .u8 0, .int .u8 0, .int .u8 0, .int .u8 0, .int .u8 0, .int .u8 0, .int .u8 0, .int .u8 0, .int .u8 0, .int .u8 0, .int .u8 0, .int .u8 0, .int .u8 0, .int .u8 0, .int .u8 0, .int .u8 0, .int .u8 0, .int .u8 0, .int .u8 0, .int .u8 0, .int .u8 0, .int .u8 0, .int .u8 0, .int .u8 0, .int .u8 0, .int .u8 0, .int .u8 0, .int .u8 0, .int .u8 0, .int .u8 0, .int .u8 0] 31)) := (Below.refl _ _).alloc (Nat.le_refl _) _
 have b : w.heap.size < (w.alloc (.cells #[.int .u8 0, .int .u8 0, .int .u8 0, .int .u8 0, .int .u8 0, .int .u8 0, .int .u8 0, .int .u8 0, .int .u8 0, .int .u8 0, .int .u8 0, .int .u8 0, .int .u8 0, .int .u8 0, .int .u8 0, .int .u8 0, .int .u8 0, .int .u8 0, .int .u8 0, .int .u8 0, .int .u8 0, .int .u8 0, .int .u8 0, .int .u8 0, .int .u8 0, .int .u8 0, .int .u8 0, .int .u8 0, .int .u8 0, .int .u8 0, .int .u8 0, .int .u8 0] 31)).heap.size := by simp
 generalize w.alloc (.cells #[.int .u8 0, .int .u8 0, .int .u8 0, .int .u8 0, .int .u8 0, .int .u8 0, .int .u8 0, .int .u8 0, .int .u8 0, .int .u8 0, .int .u8 0, .int .u8 0, .int .u8 0, .int .u8 0, .int .u8 0, .int .u8 0, .int .u8 0, .int .u8 0, .int .u8 0, .int .u8 0, .int .u8 0, .int .u8 0, .int .u8 0, .int .u8 0, .int .u8 0, .int .u8 0, .int .u8 0, .int .u8 0, .int .u8 0, .int .u8 0, .int .u8 0, .int .u8 0] 31) = w1 at c a b
 obtain ⟨f, g, d, e⟩ := Qb5 hD c
 exact ⟨d, g, f, all_oneCell_toArray (Qaf D .u8), Qau a (Nat.le_refl _) _ _, World.rangeAt_setCells_same _ _ _ _ e, by rw [(Qa8 _ _ _ _).1]; exact b⟩
theorem Qb4 (a b : ByteArray) : bytesOf (a ++ b) = bytesOf a ++ bytesOf b := by
 unfold bytesOf
 rw [ByteArray.data_append, Array.toList_append, List.map_append]
theorem Qor (L : Array Nat) (k : Nat) : Bytes (sqzAt L k) := by
 induction k with
 | zero =>
  intro j
  show (Array.replicate 32 0 : Array Nat)[j]! < _
  rw [Qie]; decide
 | succ k ih => exact Qdf ih _ _ (Nat.mod_lt _ (by decide))
end Go.Proofs.YthbgepmpdphigaaGreatDoor
