/-
  Bytes in a row of the call's own: made, appended to.
-/
import Derived.Test.YtakidhihbgfjlaaGreatDoorSxRotG
import Derived.Test.YtakidhihbgfjlaaGreatDoorSxChiG
import Derived.ArgAppend
import Derived.Lib.ConvBytes
import Derived.Lib.AppendStr
import Derived.Lib.BufferRead
import Derived.Deep.RegionLaw
namespace Go.Proofs.YtakidhihbgfjlaaGreatDoor
open Go.RowKit
set_option maxRecDepth 100000
set_option maxHeartbeats 25600000
def Own (w : World) (B : Nat) (v : Value) (l : List Nat) : Prop :=
 (v = .slice none 0 0 /\ l = []) \/ ∃ g cap, v = .slice (some ⟨g, 0, none⟩) l.length cap /\ B <= g /\ g < w.heap.size /\ l.length <= cap /\ cap <= maxLen /\ w.there g 0 cap /\ ∀ j, j < l.length -> w.cell? ⟨g, j, none⟩ = some (encB l[j]!)
theorem Own.nil (w : World) (B : Nat) : Own w B (.slice none 0 0) [] := .inl ⟨rfl, rfl⟩
variable {w w' : World} {B : Nat} {v : Value} {l : List Nat}
theorem Own.keep (h : Own w B v l) (hs : w.heap.size <= w'.heap.size) (hb : ∀ k, k < w.heap.size -> v.ownBlock = some k -> w'.heap[k]? = w.heap[k]?) : Own w' B v l := by
 rcases h with h | ⟨g, cap, rfl, h1, h2, h3, h4, h5, h6⟩
 ·exact .inl h
 ·have e := hb g h2 rfl
  exact .inr ⟨g, cap, rfl, h1, by omega, h3, h4, fun j a => ⟨by rw [World.cell?_of_block e]; exact (h5 j a).1, (World.frozen?_of_block e).trans (h5 j a).2⟩, fun j a => (World.cell?_of_block e).trans (h6 j a)⟩
theorem Own.alloc {w : World} {B : Nat} {v : Value} {l : List Nat} (h : Own w B v l) (o : Obj) : Own (w.alloc o) B v l :=
 h.keep (by simp) fun k hk _ => Below.heap_alloc w o k hk
theorem Own.drew {w : World} {B : Nat} {v : Value} {l : List Nat} (h : Own w B v l) : Own w.drew B v l := h
theorem Own.below (h : Own w B v l) (hb : Below w.heap.size w w') : Own w' B v l :=
 h.keep hb.size fun k hk _ => hb.block k hk
theorem Own.mono {B' : Nat} (h : Own w B v l) (hb : B' <= B) : Own w B' v l := by
 rcases h with h | ⟨g, cap, rfl, h1, h2⟩
 ·exact .inl h
 ·exact .inr ⟨g, cap, rfl, by omega, h2⟩
theorem Own.block (h : Own w B v l) : ∀ k, v.ownBlock = some k -> B <= k /\ k < w.heap.size := by
 intro k a
 rcases h with ⟨rfl, _⟩ | ⟨g, cap, rfl, h1, h2, _⟩
 ·simp [Value.ownBlock] at a
 ·simp [Value.ownBlock] at a
  subst a
  exact ⟨h1, h2⟩
theorem Own.grown {W : World} (h : Own w B v l) (hg : w.grownBy w' v.ownBlock) (h0 : Below B W w) (hB : B <= w.heap.size) : Below B W w' :=
 h0.trans ⟨hg.os, hg.tape, hg.output, hg.size, fun k hk => hg.block k (by omega) (fun e => by have := h.block k e.symm; omega)⟩
theorem enc_getElem? (l : List Nat) (j : Nat) (u : Value) : (l.map encB)[j]? = some u ↔ j < l.length /\ u = encB l[j]! := by
 rw [List.getElem?_map]
 by_cases a : j < l.length
 ·simp only [List.getElem?_eq_getElem a, Option.map_some, Option.some.injEq, a, true_and, getElem!_pos l j a]
  exact eq_comm
 ·simp [a]
variable {e : TypeId}
theorem Own.of_row (h : w.ownsRow B e 1 v l.length (l.map encB)) : Own w B v l := by
 rcases h.2 with ⟨hv, hn⟩ | ⟨g, cap, cur, rfl, hb, hg, hnc, hcm, hcs, htake⟩
 ·exact .inl ⟨hv, List.eq_nil_of_length_eq_zero hn⟩
 ·refine .inr ⟨g, cap, rfl, hb, (Array.getElem?_eq_some_iff.1 hg).1, hnc, hcm, fun j b => ⟨?_, frozen_of_row w g _ cur e hg⟩, fun j b => ?_⟩
  ·rw [cell_of_row w g _ cur e (0, 0) hg, Nat.zero_add]
   have : j < cur.size := by omega
   simp [this]
  ·rw [cell_of_row w g _ cur e (0, 0) hg]
   have a : (cur.toList.take (l.length * 1))[j]? = (l.map encB)[j]? := by rw [htake]
   rw [List.getElem?_take_of_lt (by omega), (enc_getElem? l j _).2 ⟨b, rfl⟩] at a
   simpa using a
theorem Qdv (l : List Nat) : ∀ u ∈ l.map encB, u.oneCell' = true := by
 intro u a
 obtain ⟨x, _, rfl⟩ := List.mem_map.1 a
 rfl
variable {P : Program}
theorem Qdk (w : World) (t ty e : TypeId) (i : TypeInfo) (ht : P.underlying t = some (.slice e)) (hi : P.info? e = some i) (hz : i.zero = some (.int .u8 0)) (hsize : i.size = 1) (hby : i.bytes = 1)
  (B : Nat) (v : Value) (l : List Nat) (hown : Own w B v l) (b o : Nat) (c : Nat) (news : List Nat) (hnews : ∀ j, j < news.length -> w.cell? ⟨b, o + j, none⟩ = some (encB news[j]!)) (hb : l.length + news.length <= 140737488355328) (hB : B <= w.heap.size) :
  ∃ v' w', (Builtin.append_ #[t, t] ty #[v, .slice (some ⟨b, o, none⟩) news.length c]).run P w = .ok v' w' /\ Own w' B v' (l ++ news) /\ w.grownBy w' v.ownBlock := by
 have q : ∀ j u, (news.map encB)[j]? = some u -> w.cell? ((⟨b, o, none⟩ : Addr).add j) = some u := by
  intro j u s
  obtain ⟨n, rfl⟩ := (enc_getElem? news j u).1 s
  rw [Addr.add_mid]
  exact hnews j n
 have x : l.length + news.length <= maxLen := by unfold maxLen; omega
 rcases hown with ⟨rfl, rfl⟩ | ⟨g, cap, rfl, n, h2, h3, h4, h5, h6⟩
 ·obtain ⟨v', w', h, r, a, _⟩ := run_append_own (P := P) w B t ty e i (.int .u8 0) 1 1 ht hi hz hsize hby rfl (by decide) (.slice none 0 0) 0 [] (World.ownsRow_nil _ _ _ _) ⟨b, o, none⟩ news.length c (news.map encB) (by simp) q (Qdv _) (by simpa using x) (by simpa using hb) hB
  refine ⟨v', w', h, Own.of_row (e := e) ?_, a⟩
  simpa using r
 ·by_cases f : l.length + news.length <= cap
  ·have h := run_append_room_cells (P := P) w t ty e i ht hi g 0 l.length cap ⟨b, o, none⟩ news.length c (news.map encB) (by simp [hsize]) q (Qdv _) f
    (fun j m => by
     have := (h5 (l.length + j) (by simp at m; omega)).1
     rw [Nat.zero_add] at this
     simpa [hsize] using this)
    (fun j m => by
     have := (h5 (l.length + j) (by simp at m; omega)).2
     rw [Nat.zero_add] at this
     simpa [hsize] using this)
   rw [hsize, Nat.mul_one, Nat.zero_add] at h
   obtain ⟨C, E, F, G⟩ := Qa9 g (news.map encB) l.length w
   refine ⟨_, _, h, .inr ⟨g, cap, by simp, n, by rw [C]; exact h2, by simpa using f, h4, World.there_setCells h5 _ _ _, fun j m => ?_⟩, ⟨E, F, G, by rw [C]; exact Nat.le_refl _, fun k _ y => Qa8 _ _ _ _ _ (fun e => y (by simp [Value.ownBlock, e]))⟩⟩
   rw [List.length_append] at m
   by_cases d : j < l.length
   ·rw [World.cell?_setCells_out _ _ _ _ _ (fun _ _ => .inl d), h6 j d]
    simp [getElem!_def, List.getElem?_append_left d]
   ·have A : w.there g l.length (news.map encB).length := fun k p => by
     have := h5 (l.length + k) (by simp at p; omega)
     rw [Nat.zero_add] at this
     exact this
    have := World.rangeAt_setCells_same w g l.length (news.map encB) A (j - l.length) (encB news[j - l.length]!) ((enc_getElem? _ _ _).2 ⟨by omega, rfl⟩)
    rw [show l.length + (j - l.length) = j by omega] at this
    rw [this]
    simp [getElem!_def, List.getElem?_append_right (Nat.le_of_not_lt d)]
  ·obtain ⟨v', w', h, r, a⟩ := run_append_arg_grows (P := P) w t ty e i (.int .u8 0) 1 1 ht hi hz hsize hby rfl (by decide) ⟨g, 0, none⟩ l.length cap (l.map encB) (by simp)
    (fun j u s => by
     obtain ⟨D, rfl⟩ := (enc_getElem? l j u).1 s
     rw [Addr.add_mid, Nat.zero_add]
     exact h6 j D) ⟨b, o, none⟩ news.length c (news.map encB) (by simp) q (by omega) x (by simpa using hb)
   refine ⟨v', w', h, ?_, ⟨a.os, a.tape, a.output, a.size, fun k p _ => a.block k p (by simp)⟩⟩
   have z : w'.ownsRow w.heap.size e 1 v' (l ++ news).length ((l ++ news).map encB) := by simpa using r
   exact (Own.of_row z).mono hB
theorem bytesOf_length (s : ByteArray) : (bytesOf s).length = s.size := by
 simp [bytesOf]
theorem Own.full (h : Own w B v l) (hl : 0 < l.length) : ∃ g cap, v = .slice (some ⟨g, 0, none⟩) l.length cap /\ B <= g /\ g < w.heap.size /\ l.length <= cap /\ cap <= maxLen /\ w.there g 0 cap /\ ∀ j, j < l.length -> w.cell? ⟨g, j, none⟩ = some (encB l[j]!) := by
 rcases h with ⟨_, rfl⟩ | h
 ·simp at hl
 ·exact h
structure Grew (w w' : World) (B : Nat) (v v' : Value) (l' : List Nat) : Prop where
 own : Own w' B v' l'
 grown : w.grownBy w' v.ownBlock
 fresh : ∀ k, v'.ownBlock = some k -> v.ownBlock = some k \/ w.heap.size <= k
theorem Grew.refl (h : Own w B v l) : Grew w w B v v l := ⟨h, ⟨rfl, rfl, rfl, Nat.le_refl _, fun _ _ _ => rfl⟩, fun _ hk => .inl hk⟩
theorem Grew.trans {w w1 w2 : World} {B : Nat} {v v1 v2 : Value} {l1 l2 : List Nat} (h : Grew w w1 B v v1 l1) (k : Grew w1 w2 B v1 v2 l2) : Grew w w2 B v v2 l2 := by
 have c := h.grown.size
 refine ⟨k.own, ⟨k.grown.os.trans h.grown.os, k.grown.tape.trans h.grown.tape, k.grown.output.trans h.grown.output, Nat.le_trans c k.grown.size, fun i b a => ?_⟩, fun i b => ?_⟩
 ·refine (k.grown.block i (by omega) (fun e => ?_)).trans (h.grown.block i b a)
  rcases h.fresh i e.symm with e' | e'
  ·exact a e'.symm
  ·omega
 ·rcases k.fresh i b with e | e
  ·exact h.fresh i e
  ·exact .inr (by omega)
variable {l' : List Nat}
theorem Grew.after {w1 w2 : World} {v' : Value} (hb : Below w.heap.size w w1) (k : Grew w1 w2 B v v' l') : Grew w w2 B v v' l' := by
 have c := hb.size
 refine ⟨k.own, ⟨k.grown.os.trans hb.os, k.grown.tape.trans hb.tape, k.grown.output.trans hb.output, Nat.le_trans c k.grown.size, fun i a b => (k.grown.block i (by omega) b).trans (hb.block i a)⟩, fun i a => ?_⟩
 rcases k.fresh i a with e | e
 ·exact .inl e
 ·exact .inr (by omega)
theorem Grew.below {W : World} {v' : Value} (k : Grew w w' B v v' l') (ho : Own w B v l) (h0 : Below B W w) (hB : B <= w.heap.size) : Below B W w' := ho.grown k.grown h0 hB
theorem Qci (w : World) (t ty e : TypeId) (i : TypeInfo) (ht : P.underlying t = some (.slice e)) (hi : P.info? e = some i) (hz : i.zero = some (.int .u8 0)) (hsize : i.size = 1) (hby : i.bytes = 1)
  (B : Nat) (v : Value) (l : List Nat) (hown : Own w B v l) (b o : Nat) (c : Nat) (news : List Nat) (hnews : ∀ j, j < news.length -> w.cell? ⟨b, o + j, none⟩ = some (encB news[j]!)) (hb : l.length + news.length <= 140737488355328) (hB : B <= w.heap.size) :
  ∃ v' w', (Builtin.append_ #[t, t] ty #[v, .slice (some ⟨b, o, none⟩) news.length c]).run P w = .ok v' w' /\ Grew w w' B v v' (l ++ news) := by
 obtain ⟨v', w', n, x, s⟩ := Qdk (P := P) w t ty e i ht hi hz hsize hby B v l hown b o c news hnews hb hB
 refine ⟨v', w', n, x, s, ?_⟩
 rcases hown with ⟨rfl, rfl⟩ | ⟨g, cap, rfl, h1, h2, h3, h4, h5, h6⟩
 ·obtain ⟨y, z, a, d, _⟩ := Qdk (P := P) w t ty e i ht hi hz hsize hby w.heap.size (.slice none 0 0) [] (Own.nil _ _) b o c news hnews hb (Nat.le_refl _)
  rw [n] at a
  cases a
  exact fun k m => .inr (d.block k m).1
 ·intro k m
  by_cases p : l.length + news.length <= cap
  ·have r : ∀ j u, (news.map encB)[j]? = some u -> w.cell? ((⟨b, o, none⟩ : Addr).add j) = some u := by
    intro j u f
    obtain ⟨h, rfl⟩ := (enc_getElem? news j u).1 f
    rw [Addr.add_mid]
    exact hnews j h
   have a := run_append_room_cells (P := P) w t ty e i ht hi g 0 l.length cap ⟨b, o, none⟩ news.length c (news.map encB) (by simp [hsize]) r (Qdv _) p
    (fun j q => by
     have := (h5 (l.length + j) (by simp at q; omega)).1
     rw [Nat.zero_add] at this
     simpa [hsize] using this)
    (fun j q => by
     have := (h5 (l.length + j) (by simp at q; omega)).2
     rw [Nat.zero_add] at this
     simpa [hsize] using this)
   rw [n] at a
   cases a
   exact .inl m
  ·have r : ∀ j u, (news.map encB)[j]? = some u -> w.cell? ((⟨b, o, none⟩ : Addr).add j) = some u := by
    intro j u f
    obtain ⟨h, rfl⟩ := (enc_getElem? news j u).1 f
    rw [Addr.add_mid]
    exact hnews j h
   obtain ⟨y, z, a, d, _⟩ := run_append_arg_grows (P := P) w t ty e i (.int .u8 0) 1 1 ht hi hz hsize hby rfl (by decide) ⟨g, 0, none⟩ l.length cap (l.map encB) (by simp)
    (fun j u f => by
     obtain ⟨h, rfl⟩ := (enc_getElem? l j u).1 f
     rw [Addr.add_mid, Nat.zero_add]
     exact h6 j h) ⟨b, o, none⟩ news.length c (news.map encB) (by simp) r (by omega) (by unfold maxLen; omega) (by simpa using hb)
   rw [n] at a
   cases a
   exact .inr (d.lt k m).1
theorem Qcq (s : ByteArray) : Lib.strCells s = (bytesOf s).map encB := by
 unfold Lib.strCells bytesOf
 rw [List.map_map]
 rfl
theorem Qev (w : World) (t u ty e : TypeId) (i : TypeInfo) (ht : P.underlying t = some (.slice e)) (hu : P.underlying u = some .string) (hi : P.info? e = some i) (hs1 : i.size = 1)
  (b sLen sCap : Nat) (s : ByteArray) (hroom : sLen + s.size <= sCap) (hc : w.there b sLen s.size) :
  (Builtin.append_ #[t, u] ty #[.slice (some ⟨b, 0, none⟩) sLen sCap, .string s]).run P w = .ok (.slice (some ⟨b, 0, none⟩) (sLen + s.size) sCap) (w.setCells b sLen (Lib.strCells s)) := by
 have f := Lib.run_firstCells_string (P := P) w 1 s
 have d := Lib.strCells_length s
 have c := run_storeCells_cells (P := P) b sLen (Lib.strCells s) 0 w (fun j a => by rw [d] at a; simpa using (hc j a).1) (fun j a => by rw [d] at a; simpa using (hc j a).2) (Lib.strCells_oneCell s)
 simp only [Nat.add_zero] at c
 simp [Builtin.append_, run_underlying ht, run_underlying hu, sizeOf, typeInfo, hi, hs1, Builtin.lenOf, hroom, f, Addr.add_lit, c]
theorem Qdw (w : World) (t u ty e : TypeId) (i : TypeInfo) (ht : P.underlying t = some (.slice e)) (hu : P.underlying u = some .string) (hi : P.info? e = some i) (hz : i.zero = some (.int .u8 0)) (hsize : i.size = 1) (hby : i.bytes = 1)
  (B : Nat) (v : Value) (l : List Nat) (hown : Own w B v l) (s : ByteArray) (hb : l.length + s.size <= 140737488355328) (hB : B <= w.heap.size) :
  ∃ v' w', (Builtin.append_ #[t, u] ty #[v, .string s]).run P w = .ok v' w' /\ Grew w w' B v v' (l ++ bytesOf s) := by
 have a : (l ++ bytesOf s).length = l.length + s.size := by rw [List.length_append, bytesOf_length]
 have o : l.length + s.size <= maxLen := by unfold maxLen; omega
 rcases hown with ⟨rfl, rfl⟩ | ⟨g, cap, rfl, h1, h2, h3, h4, h5, h6⟩
 ·obtain ⟨v', w', f, y, A, _⟩ := Lib.run_append_own_string (P := P) w w.heap.size t u ty e i ht hu hi hz hsize hby (.slice none 0 0) 0 [] (World.ownsRow_nil _ _ _ _) s (by simpa using o) (by simpa using hb) (Nat.le_refl _)
  rw [Qcq] at y
  have m : Own w' w.heap.size v' (bytesOf s) := Own.of_row (e := e) (by rw [bytesOf_length]; simpa using y)
  exact ⟨v', w', f, ⟨by simpa using m.mono hB, A, fun k b => .inr (m.block k b).1⟩⟩
 ·by_cases d : l.length + s.size <= cap
  ·have n : w.there g l.length s.size := fun j r => by
    have := h5 (l.length + j) (by omega)
    rw [Nat.zero_add] at this
    exact this
   have f := Qev (P := P) w t u ty e i ht hu hi hsize g l.length cap s d n
   obtain ⟨z, D, E, F⟩ := Qa9 g (Lib.strCells s) l.length w
   refine ⟨_, _, f, ⟨.inr ⟨g, cap, by rw [a], h1, by rw [z]; exact h2, by rw [a]; exact d, h4, World.there_setCells h5 _ _ _, fun j r => ?_⟩, ⟨D, E, F, by rw [z]; exact Nat.le_refl _, fun k _ x => Qa8 _ _ _ _ _ (fun e => x (by simp [Value.ownBlock, e]))⟩, fun k b => .inl b⟩⟩
   rw [a] at r
   by_cases c : j < l.length
   ·rw [World.cell?_setCells_out _ _ _ _ _ (fun _ _ => .inl c), h6 j c]
    simp [getElem!_def, List.getElem?_append_left c]
   ·have := World.rangeAt_setCells_same w g l.length (Lib.strCells s) (by rw [Lib.strCells_length]; exact n) (j - l.length) (encB (bytesOf s)[j - l.length]!) (by rw [Qcq]; exact (enc_getElem? _ _ _).2 ⟨by rw [bytesOf_length]; omega, rfl⟩)
    rw [show l.length + (j - l.length) = j by omega] at this
    rw [this]
    simp [getElem!_def, List.getElem?_append_right (Nat.le_of_not_lt c)]
  ·have f := Lib.run_append_grow_string (P := P) w t u ty e i (.int .u8 0) ht hu hi hz ⟨g, 0, none⟩ l.length cap (l.map encB) (by simp [hsize])
    (fun j u hu => by
     obtain ⟨C, rfl⟩ := (enc_getElem? l j u).1 hu
     rw [Addr.add_mid, Nat.zero_add]
     exact h6 j C) s (by omega) (by unfold maxLen at o; omega) (by rw [hby]; exact growslice_fits (by omega) (by simpa using hb))
   have q := grownCap_ge w (l.length + s.size) cap e
   have p := grownCap_le_maxLen w (l.length + s.size) cap e o
   have h : (w.drew.alloc (.cells ((l.map encB).toArray ++ (Lib.strCells s).toArray ++ Builtin.zeroCells (Value.int .u8 0).cells (grownCap w (l.length + s.size) cap e - (l.length + s.size))) e)).ownsRow w.heap.size e 1 (.slice (some ⟨w.heap.size, 0, none⟩) (l.length + s.size) (grownCap w (l.length + s.size) cap e)) (l ++ bytesOf s).length ((l ++ bytesOf s).map encB) := by
    refine ⟨by simp, .inr ⟨w.heap.size, _, _, by rw [a], Nat.le_refl _, heap_alloc_new w.drew _, by rw [a]; exact q, p, ?_, ?_⟩⟩
    ·simp only [Array.size_append, List.size_toArray, size_zeroCells, List.length_map, Lib.strCells_length]
     have : (Value.int .u8 0).cells.size = 1 := rfl
     rw [this]
     omega
    ·rw [Qcq]
     simp only [Array.toList_append, List.map_append]
     rw [List.take_append_of_le_length (by simp)]
     apply List.take_of_length_le
     simp
   refine ⟨_, _, f, ⟨(Own.of_row h).mono hB, ⟨rfl, rfl, rfl, by simp, fun k b _ => Below.heap_alloc w.drew _ k b⟩, fun k b => .inr (h.lt k b).1⟩⟩
variable {o : Oper}
theorem Qal {P : Program} (w : World) {ops : Array Oper} {rest : List Oper} {a : Act} {Q : Exit -> Act -> World -> Prop} (hgd : o.guard = none) (s x : Operand) (t : TypeId)
  (ho : o.op = .call { callee := .builtin .append, args := #[s, x], argTypes := #[t, t] })
  (e : TypeId) (i : TypeInfo) (ht : P.underlying t = some (.slice e)) (hi : P.info? e = some i) (hz : i.zero = some (.int .u8 0)) (hsize : i.size = 1) (hby : i.bytes = 1)
  (B : Nat) (v : Value) (l : List Nat) (hs : a.eval s = v) (hown : Own w B v l) (b p c : Nat) (news : List Nat) (hx : a.eval x = .slice (some ⟨b, p, none⟩) news.length c)
  (hnews : ∀ j, j < news.length -> w.cell? ⟨b, p + j, none⟩ = some (encB news[j]!)) (hb : l.length + news.length <= 140737488355328) (hB : B <= w.heap.size)
  (hK : ∀ v' w', Grew w w' B v v' (l ++ news) -> wpList P ops Q rest (a.put o.dst v') w') : wpList P ops Q (o :: rest) a w := by
 refine wpList_plain hgd fun K f => ?_
 obtain ⟨v', w', d, g⟩ := Qci (P := P) w t o.type e i ht hi hz hsize hby B v l hown b p c news hnews hb hB
 unfold Oper.wp
 simp [execOp, ho, resolve, invoke, builtin, hs, hx, d, Result.andThen]
 exact f _ _ (hK v' w' g)
theorem Qaq {P : Program} (w : World) {ops : Array Oper} {rest : List Oper} {a : Act} {Q : Exit -> Act -> World -> Prop} (hgd : o.guard = none) (s x : Operand) (t u : TypeId)
  (ho : o.op = .call { callee := .builtin .append, args := #[s, x], argTypes := #[t, u] })
  (e : TypeId) (i : TypeInfo) (ht : P.underlying t = some (.slice e)) (hu : P.underlying u = some .string) (hi : P.info? e = some i) (hz : i.zero = some (.int .u8 0)) (hsize : i.size = 1) (hby : i.bytes = 1)
  (B : Nat) (v : Value) (l : List Nat) (hs : a.eval s = v) (hown : Own w B v l) (z : ByteArray) (hx : a.eval x = .string z) (hb : l.length + z.size <= 140737488355328) (hB : B <= w.heap.size)
  (hK : ∀ v' w', Grew w w' B v v' (l ++ bytesOf z) -> wpList P ops Q rest (a.put o.dst v') w') : wpList P ops Q (o :: rest) a w := by
 refine wpList_plain hgd fun K c => ?_
 obtain ⟨v', w', b, d⟩ := Qdw (P := P) w t u o.type e i ht hu hi hz hsize hby B v l hown z hb hB
 unfold Oper.wp
 simp [execOp, ho, resolve, invoke, builtin, hs, hx, b, Result.andThen]
 exact c _ _ (hK v' w' d)
theorem Qgv {P : Program} (w : World) {ops : Array Oper} {a : Act} {K : Act -> World -> Prop} {Q : Exit -> Act -> World -> Prop} {E : Prop} (hgd : o.guard = none) (s x : Operand) (t : TypeId)
  (ho : o.op = .call { callee := .builtin .append, args := #[s, x], argTypes := #[t, t] })
  (e : TypeId) (i : TypeInfo) (ht : P.underlying t = some (.slice e)) (hi : P.info? e = some i) (hz : i.zero = some (.int .u8 0)) (hsize : i.size = 1) (hby : i.bytes = 1)
  (B : Nat) (v : Value) (l : List Nat) (hs : a.eval s = v) (hown : Own w B v l) (b p c : Nat) (news : List Nat) (hx : a.eval x = .slice (some ⟨b, p, none⟩) news.length c)
  (hnews : ∀ j, j < news.length -> w.cell? ⟨b, p + j, none⟩ = some (encB news[j]!)) (hb : l.length + news.length <= 140737488355328) (hB : B <= w.heap.size)
  (hK : ∀ v' w', Grew w w' B v v' (l ++ news) -> K (a.put o.dst v') w') :
  if Region.wanted o (yielded ops a.tmps) = true then Oper.wp P o a w K Q else E := by
 have f : Region.wanted o (yielded ops a.tmps) = true := by simp [Region.wanted, hgd]
 rw [if_pos f]
 obtain ⟨v', w', d, g⟩ := Qci (P := P) w t o.type e i ht hi hz hsize hby B v l hown b p c news hnews hb hB
 unfold Oper.wp
 simp [execOp, ho, resolve, invoke, builtin, hs, hx, d, Result.andThen]
 exact hK v' w' g
theorem Own.ofCells (w : World) (t : TypeId) (l : List Nat) (hl : l.length <= maxLen) : Own (w.alloc (.cells (l.map encB).toArray t)) w.heap.size (.slice (some ⟨w.heap.size, 0, none⟩) l.length l.length) l := by
 have b : ∀ j, j < l.length -> (w.alloc (.cells (l.map encB).toArray t)).cell? ⟨w.heap.size, j, none⟩ = some (encB l[j]!) := fun j a => by
  rw [World.cell?_alloc_new]
  have := (enc_getElem? l j (encB l[j]!)).2 ⟨a, rfl⟩
  simpa using this
 exact .inr ⟨w.heap.size, l.length, rfl, Nat.le_refl _, by simp, Nat.le_refl _, hl, fun j a => ⟨by rw [Nat.zero_add, b j a]; rfl, World.frozen?_alloc_new _ _ _ _⟩, b⟩
def OwnC (w : World) (B size : Nat) (v : Value) (n : Nat) (cs : List Value) : Prop :=
 cs.length = n * size /\ ((v = .slice none 0 0 /\ n = 0) \/ ∃ g cap, v = .slice (some ⟨g, 0, none⟩) n cap /\ B <= g /\ g < w.heap.size /\ n <= cap /\ cap <= maxLen /\ w.there g 0 (cap * size) /\ w.rangeAt g 0 cs)
theorem OwnC.nil (w : World) (B size : Nat) : OwnC w B size (.slice none 0 0) 0 [] := ⟨by simp, .inl ⟨rfl, rfl⟩⟩
variable {size n : Nat} {cs : List Value}
theorem OwnC.keep (h : OwnC w B size v n cs) (hs : w.heap.size <= w'.heap.size) (hb : ∀ k, k < w.heap.size -> v.ownBlock = some k -> w'.heap[k]? = w.heap[k]?) : OwnC w' B size v n cs := by
 refine ⟨h.1, ?_⟩
 rcases h.2 with h | ⟨g, cap, rfl, h1, h2, h3, h4, h5, h6⟩
 ·exact .inl h
 ·have e := hb g h2 rfl
  exact .inr ⟨g, cap, rfl, h1, by omega, h3, h4, fun j a => ⟨by rw [World.cell?_of_block e]; exact (h5 j a).1, (World.frozen?_of_block e).trans (h5 j a).2⟩, fun j u b => (World.cell?_of_block e).trans (h6 j u b)⟩
theorem OwnC.alloc {w : World} {B size : Nat} {v : Value} {n : Nat} {cs : List Value} (h : OwnC w B size v n cs) (o : Obj) : OwnC (w.alloc o) B size v n cs :=
 h.keep (by simp) fun k hk _ => Below.heap_alloc w o k hk
theorem OwnC.drew {w : World} {B size : Nat} {v : Value} {n : Nat} {cs : List Value} (h : OwnC w B size v n cs) : OwnC w.drew B size v n cs := h
theorem OwnC.below (h : OwnC w B size v n cs) (hb : Below w.heap.size w w') : OwnC w' B size v n cs :=
 h.keep hb.size fun k hk _ => hb.block k hk
theorem OwnC.mono {B' : Nat} (h : OwnC w B size v n cs) (hb : B' <= B) : OwnC w B' size v n cs := by
 refine ⟨h.1, ?_⟩
 rcases h.2 with h | ⟨g, cap, rfl, h1, h2⟩
 ·exact .inl h
 ·exact .inr ⟨g, cap, rfl, by omega, h2⟩
theorem OwnC.block (h : OwnC w B size v n cs) : ∀ k, v.ownBlock = some k -> B <= k /\ k < w.heap.size := by
 intro k a
 rcases h.2 with ⟨rfl, _⟩ | ⟨g, cap, rfl, h1, h2, _⟩
 ·simp [Value.ownBlock] at a
 ·simp [Value.ownBlock] at a
  subst a
  exact ⟨h1, h2⟩
theorem OwnC.full (h : OwnC w B size v n cs) (hn : 0 < n) : ∃ g cap, v = .slice (some ⟨g, 0, none⟩) n cap /\ B <= g /\ g < w.heap.size /\ n <= cap /\ cap <= maxLen /\ w.there g 0 (cap * size) /\ w.rangeAt g 0 cs := by
 rcases h.2 with ⟨_, h0⟩ | h
 ·omega
 ·exact h
theorem OwnC.of_row (h : w.ownsRow B e size v n cs) : OwnC w B size v n cs := by
 refine ⟨h.1, ?_⟩
 rcases h.2 with hn | ⟨g, cap, cur, rfl, hb, hg, hnc, hcm, hcs, htake⟩
 ·exact .inl hn
 ·refine .inr ⟨g, cap, rfl, hb, (Array.getElem?_eq_some_iff.1 hg).1, hnc, hcm, fun j b => ⟨?_, frozen_of_row w g _ cur e hg⟩, fun j u a => ?_⟩
  ·rw [cell_of_row w g _ cur e (0, 0) hg, Nat.zero_add]
   have : j < cur.size := by omega
   simp [this]
  ·rw [cell_of_row w g _ cur e (0, 0) hg, Nat.zero_add]
   rw [<- htake] at a
   rw [List.getElem?_take] at a
   split at a
   ·simpa using a
   ·cases a
def Plain (w : World) (g : Nat) : Prop := ∃ cs t, w.heap[g]? = some (.cells cs t (0, 0))
theorem Plain.keep {g : Nat} (h : Plain w g) (e : w'.heap[g]? = w.heap[g]?) : Plain w' g := by
 obtain ⟨a, t, h⟩ := h
 exact ⟨a, t, e.trans h⟩
theorem Plain.setCell {w : World} {g : Nat} (h : Plain w g) (a : Addr) (u : Value) : Plain (w.setCell a u) g := by
 by_cases c : g = a.block
 ·subst c
  obtain ⟨b, t, h⟩ := h
  refine ⟨if a.spot.isSome = true then b else b.setIfInBounds a.off u, t, ?_⟩
  simp only [World.setCell, Array.getElem?_modify, if_true, h, Option.map_some]
 ·exact h.keep (Below.heap_setCell w a u g c)
theorem Plain.setCells {g b : Nat} : ∀ (vs : List Value) (o : Nat) {w : World}, Plain w g -> Plain (w.setCells b o vs) g
 | [], _, _, h => h
 | v :: r, o, _, h => by
  rw [World.setCells]
  exact Plain.setCells r (o + 1) (h.setCell _ _)
theorem Qfg (h : w.ownsRow B e size v n cs) : ∀ k, v.ownBlock = some k -> Plain w k := by
 intro k a
 rcases h.2 with ⟨rfl, _⟩ | ⟨g, cap, cur, rfl, hb, hg, _⟩
 ·simp [Value.ownBlock] at a
 ·simp [Value.ownBlock] at a
  subst a
  exact ⟨cur, e, hg⟩
theorem Qbr (w : World) (t ty e : TypeId) (i : TypeInfo) (z : Value) (size bytes : Nat) (ht : P.underlying t = some (.slice e)) (hi : P.info? e = some i) (hz : i.zero = some z) (hsize : i.size = size) (hby : i.bytes = bytes) (hzs : z.cells.size = size) (hsz : 0 < size)
  (B : Nat) (v : Value) (n : Nat) (cs : List Value) (hown : OwnC w B size v n cs) (b o m c : Nat) (news : List Value) (hl : news.length = m * size) (hnews : w.rangeAt b o news) (h1 : ∀ u ∈ news, u.oneCell' = true) (hm : n + m <= maxLen) (hb : (n + m) * bytes <= 140737488355328) (hB : B <= w.heap.size) :
  ∃ v' w', (Builtin.append_ #[t, t] ty #[v, .slice (some ⟨b, o, none⟩) m c]).run P w = .ok v' w' /\ OwnC w' B size v' (n + m) (cs ++ news) /\ w.grownBy w' v.ownBlock /\ (∀ k, v'.ownBlock = Option.some k -> v.ownBlock = Option.some k \/ w.heap.size <= k) /\ ((∀ k, v.ownBlock = Option.some k -> Plain w k) -> ∀ k, v'.ownBlock = Option.some k -> Plain w' k) := by
 have A : ∀ j u, news[j]? = some u -> w.cell? ((⟨b, o, none⟩ : Addr).add j) = some u := by
  intro j u f
  rw [Addr.add_mid]
  exact hnews j u f
 obtain ⟨q, hown⟩ := hown
 have y : (cs ++ news).length = (n + m) * size := by rw [List.length_append, q, hl, Nat.add_mul]
 rcases hown with ⟨rfl, rfl⟩ | ⟨g, cap, rfl, h2, h3, h4, h5, h6, h7⟩
 ·have C : cs = [] := List.eq_nil_of_length_eq_zero (by simpa using q)
  subst C
  obtain ⟨v', w', p, l, h, _⟩ := run_append_own (P := P) w w.heap.size t ty e i z size bytes ht hi hz hsize hby hzs hsz (.slice none 0 0) 0 [] (World.ownsRow_nil _ _ _ _) ⟨b, o, none⟩ m c news hl A h1 hm hb (Nat.le_refl _)
  exact ⟨v', w', p, (OwnC.of_row (e := e) l).mono hB, h, fun k a => .inr (l.lt k a).1, fun _ => Qfg l⟩
 ·by_cases d : n + m <= cap
  ·have J : n * size + m * size <= cap * size := by rw [<- Nat.add_mul]; exact Nat.mul_le_mul_right _ d
   have r : w.there g (n * size) news.length := fun k a => by
    have := h6 (n * size + k) (by omega)
    rw [Nat.zero_add] at this
    exact this
   have p := run_append_room_cells (P := P) w t ty e i ht hi g 0 n cap ⟨b, o, none⟩ m c news (by rw [hsize]; exact hl) A h1 d
    (fun j x => by rw [hsize, Nat.zero_add]; exact (r j x).1) (fun j x => by rw [hsize, Nat.zero_add]; exact (r j x).2)
   rw [hsize, Nat.zero_add] at p
   obtain ⟨E, G, H, I⟩ := Qa9 g news (n * size) w
   refine ⟨_, _, p, ⟨y, .inr ⟨g, cap, rfl, h2, by rw [E]; exact h3, d, h5, World.there_setCells h6 _ _ _, fun j u f => ?_⟩⟩, ⟨G, H, I, by rw [E]; exact Nat.le_refl _, fun k _ D => Qa8 _ _ _ _ _ (fun e => D (by simp [Value.ownBlock, e]))⟩, fun k a => .inl a, fun F k a => (F k a).setCells _ _⟩
   by_cases s : j < cs.length
   ·rw [List.getElem?_append_left s] at f
    rw [World.cell?_setCells_out _ _ _ _ _ (fun _ _ => .inl (show 0 + j < n * size by omega))]
    exact h7 j u f
   ·rw [List.getElem?_append_right (Nat.le_of_not_lt s)] at f
    have := World.rangeAt_setCells_same w g (n * size) news r (j - cs.length) u f
    rwa [show n * size + (j - cs.length) = 0 + j by omega] at this
  ·obtain ⟨v', w', p, l, h⟩ := run_append_arg_grows (P := P) w t ty e i z size bytes ht hi hz hsize hby hzs hsz ⟨g, 0, none⟩ n cap cs q
    (fun j u f => by
     rw [Addr.add_mid]
     exact h7 j u f) ⟨b, o, none⟩ m c news hl A (by omega) hm hb
   exact ⟨v', w', p, (OwnC.of_row l).mono hB, ⟨h.os, h.tape, h.output, h.size, fun k a _ => h.block k a (by simp)⟩, fun k a => .inr (l.lt k a).1, fun _ => Qfg l⟩
theorem Qah {P : Program} (w : World) {ops : Array Oper} {rest : List Oper} {a : Act} {Q : Exit -> Act -> World -> Prop} (hgd : o.guard = none) (s x : Operand) (t : TypeId)
  (ho : o.op = .call { callee := .builtin .append, args := #[s, x], argTypes := #[t, t] })
  (e : TypeId) (i : TypeInfo) (z : Value) (size bytes : Nat) (ht : P.underlying t = some (.slice e)) (hi : P.info? e = some i) (hz : i.zero = some z) (hsize : i.size = size) (hby : i.bytes = bytes) (hzs : z.cells.size = size) (hsz : 0 < size)
  (B : Nat) (v : Value) (n : Nat) (cs : List Value) (hs : a.eval s = v) (hown : OwnC w B size v n cs) (b p m c : Nat) (news : List Value) (hx : a.eval x = .slice (some ⟨b, p, none⟩) m c)
  (hl : news.length = m * size) (hnews : w.rangeAt b p news) (h1 : ∀ u ∈ news, u.oneCell' = true) (hm : n + m <= maxLen) (hb : (n + m) * bytes <= 140737488355328) (hB : B <= w.heap.size)
  (hK : ∀ v' w', OwnC w' B size v' (n + m) (cs ++ news) -> w.grownBy w' v.ownBlock -> (∀ k, v'.ownBlock = Option.some k -> v.ownBlock = Option.some k \/ w.heap.size <= k) -> ((∀ k, v.ownBlock = Option.some k -> Plain w k) -> ∀ k, v'.ownBlock = Option.some k -> Plain w' k) -> wpList P ops Q rest (a.put o.dst v') w') : wpList P ops Q (o :: rest) a w := by
 refine wpList_plain hgd fun K f => ?_
 obtain ⟨v', w', d, g, h, j, l⟩ := Qbr (P := P) w t o.type e i z size bytes ht hi hz hsize hby hzs hsz B v n cs hown b p m c news hl hnews h1 hm hb hB
 unfold Oper.wp
 simp [execOp, ho, resolve, invoke, builtin, hs, hx, d, Result.andThen]
 exact f _ _ (hK v' w' g h j l)
end Go.Proofs.YtakidhihbgfjlaaGreatDoor
