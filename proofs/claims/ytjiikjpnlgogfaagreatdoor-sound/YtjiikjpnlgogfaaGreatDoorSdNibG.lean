/-
  The codes' heads: HighestFirst, appendHead, AppendText, AppendList of package item.
  Paths and their codes: appendNibbles, OfKey, Code, Pack, Unpack, Common of package nibbles.
  Pack and Unpack of package nibbles.
-/
import Derived.Test.YtjiikjpnlgogfaaGreatDoorSdOwnG
import Derived.OwnWalk
import Derived.Deep.RegionLaw
import Derived.Lib.Strings
namespace Go.Proofs.YtjiikjpnlgogfaaGreatDoor
open Go.RowKit
def textB (l : List Nat) : ByteArray := ⟨(l.map UInt8.ofNat).toArray⟩
theorem textB_size (l : List Nat) : (textB l).size = l.length := by
 show (l.map UInt8.ofNat).toArray.size = _
 simp
theorem bytesOf_textB {l : List Nat} (h : ∀ x ∈ l, x < 256) : bytesOf (textB l) = l := by
 unfold bytesOf textB
 simp only [List.map_map]
 conv => rhs; rw [← List.map_id l]
 apply List.map_congr_left
 intro x hx
 have := h x hx
 simp
 omega
theorem foldl_push_ints (l : List Nat) : ∀ r : ByteArray, (l.map (fun n : Nat => (n : Int))).foldl (fun r n => r.push (UInt8.ofNat n.toNat)) r = ⟨r.data ++ (l.map UInt8.ofNat).toArray⟩ := by
 induction l with
 | nil => intro r; simp
 | cons x l ih =>
  intro r
  simp only [List.map_cons, List.foldl_cons]
  rw [ih]
  simp [ByteArray.push]
theorem run_own_text {P : Program} (w : World) (src dst e : TypeId) (hs : P.underlying src = some (.slice e)) (he : P.underlying e = some (.int .u8)) (hd : P.underlying dst = some .string) {B : Nat} {v : Value} {l : List Nat} (h : Own w B v l) :
  (convert src dst v).run P w = .ok (.string (textB l)) w := by
 rcases h with ⟨rfl, rfl⟩ | ⟨g, cap, rfl, _, _, _, _, _, h6⟩
 ·exact Lib.run_convert_nil_bytes w src dst e 0 hs he hd
 ·rw [run_convert_bytes_string w src dst e _ _ _ hs he hd]
  have hl := run_loadCells_list (P := P) w ⟨g, 0, none⟩ (l.map encB) (fun j u hu => by
   obtain ⟨k1, rfl⟩ := (enc_getElem? l j u).1 hu
   rw [Addr.add_mid, Nat.zero_add]
   exact h6 j k1)
  rw [List.length_map] at hl
  have e1 : l.map encB = (l.map (fun n : Nat => (n : Int))).map (Value.int .u8) := by rw [List.map_map]; rfl
  rw [e1] at hl
  rw [run_bytesToString w ⟨g, 0, none⟩ l.length cap _ hl, foldl_push_ints]
  unfold textB
  simp
def bigAt (n : Nat) : Nat → List Nat
 | 0 => []
 | i + 1 => if n / 2 ^ (56 - 8 * i) = 0 then bigAt n i else bigAt n i ++ [n / 2 ^ (56 - 8 * i) % 256]
def bigE (n : Nat) : List Nat := bigAt n 8
theorem bigAt_length (n : Nat) : ∀ i, (bigAt n i).length ≤ i := by
 intro i
 induction i with
 | zero => simp [bigAt]
 | succ i ih =>
  rw [bigAt]
  split
  ·omega
  ·simp only [List.length_append, List.length_cons, List.length_nil]; omega
theorem bigAt_lt (n : Nat) : ∀ i, ∀ x ∈ bigAt n i, x < 256 := by
 intro i
 induction i with
 | zero => simp [bigAt]
 | succ i ih =>
  rw [bigAt]
  split
  ·exact ih
  ·intro x hx
   rcases List.mem_append.1 hx with hx | hx
   ·exact ih x hx
   ·obtain rfl := List.mem_singleton.1 hx
    exact Nat.mod_lt _ (by decide)
theorem bigE_length (n : Nat) : (bigE n).length ≤ 8 := bigAt_length n 8
theorem bigE_lt (n : Nat) : ∀ x ∈ bigE n, x < 256 := bigAt_lt n 8
theorem wrap_u64_small (n : Nat) (h : n < 18446744073709551616) : IntKind.u64.wrap (n : Int) = (n : Int) := by
 simp only [IntKind.wrap_u64]
 omega
theorem infoU8 : (Tryz.prog.info? 5).map (fun i => (i.zero, i.size, i.bytes)) = some (some (.int .u8 0), 1, 1) := by kernel_rfl
theorem shr_nat (n k : Nat) : ((n : Int) / 2 ^ k) = ((n / 2 ^ k : Nat) : Int) := by
 rw [Int.natCast_ediv, Int.natCast_pow]
 rfl
set_option maxRecDepth 100000 in
set_option maxHeartbeats 1600000 in
theorem highest_any (n : Nat) (w : World) (hn : n < 18446744073709551616) :
  Calls Tryz.prog 104 #[.int .u64 (n : Int)] w fun e w' => e = .returned (.string (textB (bigE n))) ∧ Below w.heap.size w w' := by
 obtain ⟨i0, hi, hz0, hz1, hz2⟩ := info_parts infoU8
 go_enter Tryz.func104, Tryz.ntmps104
 have HN : Hid (n < 18446744073709551616) := hn
 clear hn
 go_wp2
 go_loopg [3, 4] 8 (fun g v s wr => ∃ x : Nat, x ≤ 8 ∧ g = 8 - x ∧ s = .int .i64 (56 - 8 * (x : Int)) ∧ Own wr w.heap.size v (bigAt n x) ∧ Below w.heap.size w wr)
 case atStart => exact ⟨0, by omega, rfl, rfl, Own.nil _ _, Below.refl _ _⟩
 case round =>
  obtain ⟨x, hx, rfl, rfl, hown, hbl⟩ := hrel
  by_cases hlt : x < 8
  ·obtain ⟨k, hk⟩ : ∃ k, 56 - 8 * x = k := ⟨_, rfl⟩
   have hki : (56 - 8 * (x : Int)) = (k : Int) := by omega
   rw [hki]
   have hst : bigAt n (x + 1) = if n / 2 ^ k = 0 then bigAt n x else bigAt n x ++ [n / 2 ^ k % 256] := by rw [← hk]; rfl
   have hk64 : k < 64 := by omega
   obtain ⟨q, hq⟩ : ∃ q, n / 2 ^ k = q := ⟨_, rfl⟩
   have hqi : ((n : Int) / 2 ^ k) = (q : Int) := by rw [shr_nat, hq]
   rw [hq] at hst
   have hk0 : (0 : Int) ≤ (k : Int) := by omega
   have hbs := hbl.size
   have hlen := bigAt_length n x
   have hdn : (k : Int) - 8 = 56 - 8 * ((x + 1 : Nat) : Int) := by omega
   have HDn : Hid ((k : Int) - 8 = 56 - 8 * ((x + 1 : Nat) : Int)) := hdn
   have AS : Aside (Own wr w.heap.size u3 (bigAt n x) ∧ Below w.heap.size w wr ∧ w.heap.size ≤ wr.heap.size ∧ (bigAt n x).length ≤ x) := ⟨hown, hbl, hbs, hlen⟩
   clear hown hbl hk hq hki hbs hlen hdn
   by_cases hq0 : q = 0
   ·subst hq0
    rw [if_pos rfl] at hst
    have AS2 : Aside (bigAt n (x + 1) = bigAt n x) := hst
    clear hst
    go_wp2
    go_roundg (8 - (x + 1))
    case measure => omega
    case rel => exact ⟨x + 1, by omega, rfl, val_int HDn.out, by rw [AS2.out]; exact AS.out.1, AS.out.2.1⟩
   ·rw [if_neg hq0] at hst
    have hqb : ((q : Int) != 0) = true := by simp [hq0]
    have AS2 : Aside (bigAt n (x + 1) = bigAt n x ++ [q % 256]) := hst
    have HO : Hid (∀ o, Own (wr.alloc o) w.heap.size u3 (bigAt n x)) := fun o => AS.out.1.alloc o
    clear hst hq0
    go_wp2_with (at_builtin; refine wpList_append_own8 _ rfl _ _ 111 rfl 5 i0 Tryz.underlying111 hi hz0 hz1 hz2 w.heap.size _ (bigAt n x) rfl (HO.out _) wr.heap.size 0 1 [q % 256] rfl ?c1 ?c2 ?c3 ?_)
    case c1 =>
     intro j hj
     have hj0 : j = 0 := by simpa using hj
     subst hj0
     rw [Nat.zero_add, World.cell?_alloc_new]
     simp
    case c2 => have := AS.out.2.2.2; simp; omega
    case c3 => have := AS.out.2.2.1; simp; omega
    intro v2 w2 hgr
    have AS3 : Aside (Own w2 w.heap.size v2 (bigAt n (x + 1)) ∧ Below w.heap.size w w2) := by
     have hb := AS.out.2.2.1
     refine ⟨by rw [AS2.out]; exact hgr.own, hgr.below (HO.out _) (AS.out.2.1.alloc hb _) (by simp; omega)⟩
    clear hgr HO
    go_wp2
    go_roundg (8 - (x + 1))
    case measure => omega
    case rel => exact ⟨x + 1, by omega, rfl, val_int HDn.out, AS3.out⟩
  ·obtain rfl : x = 8 := by omega
   have htx : ∀ W : World, W = wr → Sem.run Tryz.prog (convert 111 9 u3) W = .ok (.string (textB (bigE n))) W := fun W hW => by
    subst hW
    exact run_own_text W 111 9 5 Tryz.underlying111 Tryz.underlying5 Tryz.underlying9 hown
   have htx2 := htx wr rfl
   obtain ⟨t, ht⟩ : ∃ t, textB (bigE n) = t := ⟨_, rfl⟩
   rw [ht] at htx2
   have HT : Hid (∀ u : Unit, textB (bigE n) = t) := fun _ => ht
   have AS : Aside (Below w.heap.size w wr) := hbl
   clear hown hbl htx ht
   go_wp2
   go_ret
   exact ⟨by rw [HT.out ()]; rfl, AS.out⟩
def headB (kind n : Nat) : List Nat := if n ≤ 55 then [(kind + n) % 256] else (kind + 55 + (bigE n).length) % 256 :: bigE n
theorem headB_length (kind n : Nat) : (headB kind n).length ≤ 9 := by
 unfold headB
 split
 ·simp
 ·have := bigAt_length n 8
  simp only [List.length_cons]
  unfold bigE
  omega
set_option maxRecDepth 100000 in
set_option maxHeartbeats 1600000 in
theorem head_any {B : Nat} {v : Value} {l : List Nat} (kind n : Nat) (w : World) (hown : Own w B v l) (hB : B ≤ w.heap.size) (hn : n ≤ 70368744177664) (hl : l.length ≤ 70368744177664) :
  Calls Tryz.prog 160 #[v, .int .u8 (kind : Int), .int .i64 (n : Int)] w fun e w' => ∃ v', e = .returned v' ∧ Grew w w' B v v' (l ++ headB kind n) := by
 obtain ⟨i0, hi, hz0, hz1, hz2⟩ := info_parts infoU8
 by_cases h55 : n ≤ 55
 ·have hh : headB kind n = [(kind + n) % 256] := by unfold headB; rw [if_pos h55]
  have HO : Hid (∀ o, Own (w.alloc o) B v l) := fun o => hown.alloc o
  have h55i : (n : Int) ≤ 55 := by omega
  have AS : Aside (Own w B v l ∧ B ≤ w.heap.size ∧ l.length ≤ 70368744177664) := ⟨hown, hB, hl⟩
  rw [hh]
  clear hown hB hl hh hn
  go_enter Tryz.func160, Tryz.ntmps160
  go_wp2_with (at_builtin; refine wpList_append_own8 _ rfl _ _ 111 rfl 5 i0 Tryz.underlying111 hi hz0 hz1 hz2 B _ l rfl (HO.out _) w.heap.size 0 1 [(kind + n) % 256] rfl ?c1 ?c2 ?c3 ?_)
  case c1 =>
   intro j hj
   have hj0 : j = 0 := by simpa using hj
   subst hj0
   rw [Nat.zero_add, World.cell?_alloc_new]
   simp
  case c2 => have := AS.out.2.2; simp; omega
  case c3 => have := AS.out.2.1; simp; omega
  intro v2 w2 hgr
  have AS3 : Aside (Grew w w2 B v v2 (l ++ [(kind + n) % 256])) := hgr.after ((Below.refl _ _).alloc (Nat.le_refl _) _)
  clear hgr HO
  go_wp2
  go_ret
  exact ⟨v2, rfl, AS3.out⟩
 ·have hh : headB kind n = (kind + 55 + (bigE n).length) % 256 :: bigE n := by unfold headB; rw [if_neg h55]
  have h55i : ¬ (n : Int) ≤ 55 := by omega
  have hbl := bigE_length n
  have hblt := bigE_lt n
  have HH : Hid (∀ W, Calls Tryz.prog 104 #[.int .u64 (n : Int)] W fun e w' => e = .returned (.string (textB (bigE n))) ∧ Below W.heap.size W w') := fun W => highest_any n W (by omega)
  have HW : Hid (IntKind.u64.wrap (n : Int) = (n : Int)) := wrap_u64_small n (by omega)
  have AS : Aside (Own w B v l ∧ B ≤ w.heap.size ∧ l.length ≤ 70368744177664) := ⟨hown, hB, hl⟩
  have hts := textB_size (bigE n)
  have htb : bytesOf (textB (bigE n)) = bigE n := bytesOf_textB hblt
  rw [hh]
  obtain ⟨d, hd⟩ : ∃ d, bigE n = d := ⟨_, rfl⟩
  have hdl : d.length ≤ 8 := by rw [← hd]; exact hbl
  rw [hd] at HH hts htb ⊢
  obtain ⟨t, ht⟩ : ∃ t, textB d = t := ⟨_, rfl⟩
  rw [ht] at HH hts htb
  have HT : Hid (bytesOf t = d ∧ t.size = d.length ∧ d.length ≤ 8) := ⟨htb, hts, hdl⟩
  clear hown hB hl hh hn hbl hblt hd ht htb
  obtain ⟨q, hq⟩ : ∃ q, d.length = q := ⟨_, rfl⟩
  rw [hq] at hts hdl ⊢
  have HQ : Hid (d.length = q) := hq
  clear hq
  go_enter Tryz.func160, Tryz.ntmps160
  go_wp2_with fail
  rw [HW.out]
  refine (HH.out _).mono ?_
  rintro e w1 ⟨rfl, hb1⟩
  have hbs := hb1.size
  have HO : Hid (∀ o, Own (w1.alloc o) B v l) := fun o => (AS.out.1.below hb1).alloc o
  have A1 : Aside (Below w.heap.size w w1 ∧ B ≤ w1.heap.size) := ⟨hb1, by have := AS.out.2.1; omega⟩
  clear hb1 hbs HH HW
  go_wp2_with (at_builtin; refine wpList_append_own8 _ rfl _ _ 111 rfl 5 i0 Tryz.underlying111 hi hz0 hz1 hz2 B _ l rfl (HO.out _) w1.heap.size 0 1 [(kind + 55 + q) % 256] rfl ?c1 ?c2 ?c3 ?_)
  case c1 =>
   intro j hj
   have hj0 : j = 0 := by simpa using hj
   subst hj0
   rw [Nat.zero_add, World.cell?_alloc_new]
   simp
  case c2 => have := AS.out.2.2; simp; omega
  case c3 => have := A1.out.2; simp; omega
  intro v2 w2 hgr
  have G2 : Grew w w2 B v v2 (l ++ [(kind + 55 + q) % 256]) := (hgr.after ((Below.refl _ _).alloc (Nat.le_refl _) _)).after A1.out.1
  have HG : Hid (Grew w w2 B v v2 (l ++ [(kind + 55 + q) % 256])) := G2
  clear hgr HO G2
  go_wp2_with (at_builtin; refine wpList_append_str8 _ rfl _ _ 111 9 rfl 5 i0 Tryz.underlying111 Tryz.underlying9 hi hz0 hz1 hz2 B _ (l ++ [(kind + 55 + q) % 256]) rfl HG.out.own t rfl ?d1 ?d2 ?_)
  case d1 => have := AS.out.2.2; have := HT.out.2.1; have := HT.out.2.2; simp; omega
  case d2 => have := AS.out.2.1; have := HG.out.grown.size; omega
  intro v3 w3 hgr
  have G3 : Grew w w3 B v v3 (l ++ ((kind + 55 + q) % 256 :: d)) := by
   have := HG.out.trans hgr
   rw [HT.out.1] at this
   simpa using this
  have AS3 : Aside (Grew w w3 B v v3 (l ++ ((kind + 55 + q) % 256 :: d))) := G3
  clear hgr G3
  go_wp2
  go_ret
  exact ⟨v3, rfl, AS3.out⟩
def textCode (t : List Nat) : List Nat := (if t.length = 1 ∧ t[0]! < 128 then [] else headB 128 t.length) ++ t
def listCode (t : List Nat) : List Nat := headB 192 t.length ++ t
theorem textCode_length (t : List Nat) : (textCode t).length ≤ t.length + 9 := by
 unfold textCode
 have := headB_length 128 t.length
 split <;> simp <;> omega
theorem listCode_length (t : List Nat) : (listCode t).length ≤ t.length + 9 := by
 unfold listCode
 have := headB_length 192 t.length
 simp
 omega
set_option maxRecDepth 100000 in
set_option maxHeartbeats 1600000 in
theorem text_any {B : Nat} {v : Value} {l : List Nat} (s : ByteArray) (w : World) (hown : Own w B v l) (hB : B ≤ w.heap.size) (hs : s.size ≤ 70368744177600) (hl : l.length ≤ 70368744177600) :
  Calls Tryz.prog 103 #[v, .string s] w fun e w' => ∃ v', e = .returned v' ∧ Grew w w' B v v' (l ++ textCode (bytesOf s)) := by
 obtain ⟨i0, hi, hz0, hz1, hz2⟩ := info_parts infoU8
 have hbl := bytesOf_length s
 have HH : Hid (Calls Tryz.prog 160 #[v, .int .u8 ((128 : Nat) : Int), .int .i64 (s.size : Int)] w fun e w' => ∃ v', e = .returned v' ∧ Grew w w' B v v' (l ++ headB 128 s.size)) := head_any 128 s.size w hown hB (by omega) (by omega)
 have AS : Aside (Own w B v l ∧ B ≤ w.heap.size ∧ l.length ≤ 70368744177600 ∧ s.size ≤ 70368744177600 ∧ (headB 128 s.size).length ≤ 9) := ⟨hown, hB, hl, hs, headB_length _ _⟩
 have tail : ∀ {W : World} {u : Value} {m : List Nat}, Grew w W B v u (l ++ m) → ∀ {W' : World} {u' : Value}, Grew W W' B u u' (l ++ (m ++ bytesOf s)) → m ++ bytesOf s = textCode (bytesOf s) → Grew w W' B v u' (l ++ textCode (bytesOf s)) := fun g1 _ _ g2 e => by
  have := g1.trans g2
  rw [e] at this
  exact this
 by_cases h1 : s.size = 1
 ·have hp : 0 < s.size := by omega
  have hd : (bytesOf s)[0]! = (s[0]'hp).toNat := by
   unfold bytesOf
   rw [getElem!_pos _ 0 (by simpa using hp)]
   simp
   rfl
  by_cases h2 : (bytesOf s)[0]! < 128
  ·have e : ([] : List Nat) ++ bytesOf s = textCode (bytesOf s) := by
    unfold textCode
    rw [if_pos ⟨by rw [hbl, h1], h2⟩]
   have hs0 : ((s[0]'hp).toNat : Int) < 128 := by omega
   have HT : Hid (([] : List Nat) ++ bytesOf s = textCode (bytesOf s)) := e
   have HO : Hid (Own w B v l) := hown
   clear hown hB hs hl e hbl hd h2 HH
   go_enter Tryz.func103, Tryz.ntmps103
   go_wp2_with (at_builtin; refine wpList_append_str8 _ rfl _ _ 111 9 rfl 5 i0 Tryz.underlying111 Tryz.underlying9 hi hz0 hz1 hz2 B _ l rfl HO.out s rfl ?d1 ?d2 ?_)
   case d1 => obtain ⟨_, _, a1, a2, _⟩ := AS.out; omega
   case d2 => exact AS.out.2.1
   intro v2 w2 hg2
   have g3 : Grew w w2 B v v2 (l ++ textCode (bytesOf s)) := by
    rw [← HT.out]
    simpa using hg2
   have AS3 : Aside (Grew w w2 B v v2 (l ++ textCode (bytesOf s))) := g3
   clear g3
   clear hg2 tail
   go_wp2
   go_ret
   exact ⟨v2, rfl, AS3.out⟩
  ·have e : headB 128 s.size ++ bytesOf s = textCode (bytesOf s) := by
    unfold textCode
    rw [if_neg (fun h => h2 h.2), hbl]
   have hs0 : (128 : Int) ≤ ((s[0]'hp).toNat : Int) := by omega
   have HT : Hid (headB 128 s.size ++ bytesOf s = textCode (bytesOf s)) := e
   clear hown hB hs hl e hbl hd h2
   go_enter Tryz.func103, Tryz.ntmps103
   go_wp2_with fail
   rw [h1] at HH
   refine HH.out.mono ?_
   rintro e w1 ⟨v1, rfl, hg1⟩
   have HG : Hid (Grew w w1 B v v1 (l ++ headB 128 1)) := hg1
   rw [h1] at HT
   clear hg1 HH
   have A9 : Aside ((headB 128 1).length ≤ 9) := headB_length _ _
   go_wp2_with (at_builtin; refine wpList_append_str8 _ rfl _ _ 111 9 rfl 5 i0 Tryz.underlying111 Tryz.underlying9 hi hz0 hz1 hz2 B _ (l ++ headB 128 1) rfl HG.out.own s rfl ?d1 ?d2 ?_)
   case d1 => obtain ⟨_, _, a1, a2, a3⟩ := AS.out; have := A9.out; rw [List.length_append]; omega
   case d2 => have := AS.out.2.1; have := HG.out.grown.size; omega
   intro v2 w2 hg2
   have AS3 : Aside (Grew w w2 B v v2 (l ++ textCode (bytesOf s))) := tail HG.out hg2 HT.out
   clear hg2 tail
   go_wp2
   go_ret
   exact ⟨v2, rfl, AS3.out⟩
 ·have e : headB 128 s.size ++ bytesOf s = textCode (bytesOf s) := by
   unfold textCode
   rw [if_neg (fun h => h1 (by rw [← hbl]; exact h.1)), hbl]
  have h1i : ¬ (s.size : Int) = 1 := by omega
  have HT : Hid (headB 128 s.size ++ bytesOf s = textCode (bytesOf s)) := e
  clear hown hB hs hl e hbl h1
  go_enter Tryz.func103, Tryz.ntmps103
  go_wp2_with fail
  refine HH.out.mono ?_
  rintro e w1 ⟨v1, rfl, hg1⟩
  have HG : Hid (Grew w w1 B v v1 (l ++ headB 128 s.size)) := hg1
  clear hg1 HH
  go_wp2_with (at_builtin; refine wpList_append_str8 _ rfl _ _ 111 9 rfl 5 i0 Tryz.underlying111 Tryz.underlying9 hi hz0 hz1 hz2 B _ (l ++ headB 128 s.size) rfl HG.out.own s rfl ?d1 ?d2 ?_)
  case d1 => obtain ⟨_, _, a1, a2, a3⟩ := AS.out; rw [List.length_append]; omega
  case d2 => have := AS.out.2.1; have := HG.out.grown.size; omega
  intro v2 w2 hg2
  have AS3 : Aside (Grew w w2 B v v2 (l ++ textCode (bytesOf s))) := tail HG.out hg2 HT.out
  clear hg2 tail
  go_wp2
  go_ret
  exact ⟨v2, rfl, AS3.out⟩
set_option maxRecDepth 100000 in
set_option maxHeartbeats 1600000 in
theorem list_any {B : Nat} {v u : Value} {l m : List Nat} (w : World) (hown : Own w B v l) (hu : Own w B u m) (hne : ∀ k, v.ownBlock = some k → u.ownBlock ≠ some k) (hB : B ≤ w.heap.size) (hm : m.length ≤ 70368744177600) (hl : l.length ≤ 70368744177600) :
  Calls Tryz.prog 105 #[v, u] w fun e w' => ∃ v', e = .returned v' ∧ Grew w w' B v v' (l ++ listCode m) := by
 obtain ⟨i0, hi, hz0, hz1, hz2⟩ := info_parts infoU8
 have HH : Hid (Calls Tryz.prog 160 #[v, .int .u8 ((192 : Nat) : Int), .int .i64 (m.length : Int)] w fun e w' => ∃ v', e = .returned v' ∧ Grew w w' B v v' (l ++ headB 192 m.length)) := head_any 192 m.length w hown hB (by omega) (by omega)
 have hh9 := headB_length 192 m.length
 have AS : Aside (Own w B u m ∧ B ≤ w.heap.size ∧ l.length ≤ 70368744177600 ∧ m.length ≤ 70368744177600 ∧ (headB 192 m.length).length ≤ 9 ∧ (∀ k, v.ownBlock = some k → u.ownBlock ≠ some k)) := ⟨hu, hB, hl, hm, hh9, hne⟩
 have e : l ++ (headB 192 m.length ++ m) = l ++ listCode m := rfl
 have HT : Hid (l ++ (headB 192 m.length ++ m) = l ++ listCode m) := e
 clear e
 rcases hu with ⟨rfl, rfl⟩ | ⟨g, cap, rfl, h1, h2, h3, h4, h5, h6⟩
 ·clear hown hne hB hm hl hh9
  go_enter Tryz.func105, Tryz.ntmps105
  go_wp2_with fail
  refine HH.out.mono ?_
  rintro e w1 ⟨v1, rfl, hg1⟩
  have hg0 : Grew w w1 B v v1 (l ++ headB 192 0) := hg1
  clear hg1
  have hpos : 0 < (l ++ headB 192 0).length := by
   have : headB 192 0 = [192] := rfl
   rw [this]
   simp
  obtain ⟨g, cap, rfl, _, _, hcap, _⟩ := hg0.own.full hpos
  have e0 : l ++ headB 192 0 = l ++ listCode [] := by rw [← HT.out]; simp
  have HG : Hid (Grew w w1 B v (.slice (some ⟨g, 0, none⟩) (l ++ headB 192 0).length cap) (l ++ listCode [])) := by rw [← e0]; exact hg0
  obtain ⟨n, hn⟩ : ∃ n, (l ++ headB 192 0).length = n := ⟨_, rfl⟩
  rw [hn] at hcap HG ⊢
  have hn0 : n + 0 ≤ cap := hcap
  clear hg0 HH hpos e0 hn
  go_wp2
  go_ret
  exact ⟨_, rfl, HG.out⟩
 ·clear hown hne hB hm hl hh9
  go_enter Tryz.func105, Tryz.ntmps105
  go_wp2_with fail
  refine HH.out.mono ?_
  rintro e w1 ⟨v1, rfl, hg1⟩
  have HG : Hid (Grew w w1 B v v1 (l ++ headB 192 m.length)) := hg1
  have hb1 : w1.heap[g]? = w.heap[g]? := hg1.grown.block g h2 (fun e => AS.out.2.2.2.2.2 g e.symm rfl)
  have HC : Hid (∀ j, j < m.length → w1.cell? ⟨g, 0 + j, none⟩ = some (encB m[j]!)) := fun j hj => by
   rw [Nat.zero_add, World.cell?_of_block hb1]
   exact h6 j hj
  clear hg1 HH h1 h2 h3 h4 h5 h6 hb1
  go_wp2_with (at_builtin; refine wpList_append_own8 _ rfl _ _ 111 rfl 5 i0 Tryz.underlying111 hi hz0 hz1 hz2 B _ (l ++ headB 192 m.length) rfl HG.out.own g 0 cap m rfl HC.out ?d1 ?d2 ?_)
  case d1 => obtain ⟨_, _, a1, a2, a3, _⟩ := AS.out; rw [List.length_append]; omega
  case d2 => have := AS.out.2.1; have := HG.out.grown.size; omega
  intro v2 w2 hg2
  have g3 : Grew w w2 B v v2 (l ++ listCode m) := by
   have := HG.out.trans hg2
   rw [← HT.out]
   simpa using this
  have AS3 : Aside (Grew w w2 B v v2 (l ++ listCode m)) := g3
  clear hg2 g3
  go_wp2
  go_ret
  exact ⟨v2, rfl, AS3.out⟩
end Go.Proofs.YtjiikjpnlgogfaaGreatDoor
namespace Go.Proofs.YtjiikjpnlgogfaaGreatDoor
open Go.RowKit
def nibs (l : List Nat) : List Nat := l.flatMap fun x => [x / 16, x % 16]
theorem nibs_length (l : List Nat) : (nibs l).length = 2 * l.length := by
 induction l with
 | nil => rfl
 | cons x l ih =>
  have : nibs (x :: l) = [x / 16, x % 16] ++ nibs l := rfl
  rw [this, List.length_append, ih]
  simp
  omega
theorem nibs_snoc (l : List Nat) (x : Nat) : nibs (l ++ [x]) = nibs l ++ [x / 16, x % 16] := by
 unfold nibs
 rw [List.flatMap_append]
 simp
theorem wrap64_succ (x : Nat) (h : x < 4194304) : wrap64 ((x : Int) + 1) = ((x + 1 : Nat) : Int) := by
 unfold wrap64
 omega
theorem and15 (x : Nat) (h : x < 256) : bits .and .u8 (x : Int) 15 = ((x % 16 : Nat) : Int) := by
 have all : ∀ i : Fin 256, bits .and .u8 (i.val : Int) 15 = ((i.val % 16 : Nat) : Int) := by decide +kernel
 exact all ⟨x, h⟩
set_option maxRecDepth 100000 in
set_option maxHeartbeats 1600000 in
theorem nibbles_any {B : Nat} {v : Value} {l : List Nat} (s : ByteArray) (w : World) (hown : Own w B v l) (hB : B ≤ w.heap.size) (hs : s.size ≤ 4194304) (hl : l.length ≤ 4194304) :
  Calls Tryz.prog 154 #[v, .string s] w fun e w' => ∃ v', e = .returned v' ∧ Grew w w' B v v' (l ++ nibs (bytesOf s)) := by
 obtain ⟨i0, hi, hz0, hz1, hz2⟩ := info_parts infoU8
 have hbl := bytesOf_length s
 go_enter Tryz.func154, Tryz.ntmps154
 go_wp2
 go_loopg [0, 8] s.size (fun g u i wr => ∃ x : Nat, x ≤ s.size ∧ g = s.size - x ∧ i = .int .i64 (x : Int) ∧ Grew w wr B v u (l ++ nibs ((bytesOf s).take x)))
 case atStart => exact ⟨0, by omega, rfl, rfl, by simpa [nibs] using Grew.refl hown⟩
 case round =>
  obtain ⟨x, hx, rfl, rfl, hgr⟩ := hrel
  by_cases hlt : x < s.size
  ·obtain ⟨c, hc⟩ : ∃ c, (bytesOf s)[x]! = c := ⟨_, rfl⟩
   have hcs : (s[x]'hlt).toNat = c := by
    rw [← hc]
    unfold bytesOf
    rw [getElem!_pos _ x (by simpa using hlt)]
    simp
    rfl
   have hc8 : c < 256 := by rw [← hcs]; exact UInt8.toNat_lt _
   have htk : (bytesOf s).take (x + 1) = (bytesOf s).take x ++ [c] := by
    rw [List.take_succ_eq_append_getElem (by omega), ← hc, getElem!_pos _ x (by omega)]
   have hnx : nibs ((bytesOf s).take (x + 1)) = nibs ((bytesOf s).take x) ++ [c / 16, c % 16] := by rw [htk, nibs_snoc]
   have hand := and15 c hc8
   have hcl : (nibs ((bytesOf s).take x)).length = 2 * x := by rw [nibs_length, List.length_take]; omega
   have hxi : (x : Int) < (s.size : Int) := by omega
   have AS : Aside (Grew w wr B v u0 (l ++ nibs ((bytesOf s).take x)) ∧ B ≤ w.heap.size ∧ l.length ≤ 4194304 ∧ s.size ≤ 4194304 ∧ (nibs ((bytesOf s).take x)).length = 2 * x ∧ nibs ((bytesOf s).take (x + 1)) = nibs ((bytesOf s).take x) ++ [c / 16, c % 16]) := ⟨hgr, hB, hl, hs, hcl, hnx⟩
   clear hgr hc htk hnx hcl hown hB hs hl hbl
   obtain ⟨m, hm⟩ : ∃ m, l ++ nibs ((bytesOf s).take x) = m := ⟨_, rfl⟩
   have HM : Hid (∀ u : Unit, l ++ nibs ((bytesOf s).take x) = m) := fun _ => hm
   have HO : Hid (Own (wr.drew.alloc (.cells #[.int .u8 ((c : Int) / 16), .int .u8 ((c : Int) % 16)] 5)) B u0 m) := by
    rw [← hm]
    exact AS.out.1.own.drew.alloc _
   have HN : Hid (∀ j, j < [c / 16, c % 16].length → (wr.drew.alloc (.cells #[.int .u8 ((c : Int) / 16), .int .u8 ((c : Int) % 16)] 5)).cell? ⟨wr.heap.size, 0 + j, none⟩ = some (encB [c / 16, c % 16][j]!)) := by
    intro j hj
    have e := World.cell?_alloc_new wr.drew #[.int .u8 ((c : Int) / 16), .int .u8 ((c : Int) % 16)] 5 (0 + j)
    refine Eq.trans e ?_
    match j, hj with
    | 0, _ => simp
    | 1, _ => simp
    | j + 2, hj => simp only [List.length_cons, List.length_nil] at hj; omega
   have h1 : m.length + [c / 16, c % 16].length ≤ 140737488355328 := by
    obtain ⟨_, _, a1, a2, a3, _⟩ := AS.out
    rw [← hm, List.length_append, a3]
    simp only [List.length_cons, List.length_nil]
    omega
   have h2 : B ≤ (wr.drew.alloc (.cells #[.int .u8 ((c : Int) / 16), .int .u8 ((c : Int) % 16)] 5)).heap.size := by
    have := AS.out.1.grown.size
    have := AS.out.2.1
    simp
    omega
   have H1 : Hid (m.length + [c / 16, c % 16].length ≤ 140737488355328) := h1
   have H2 : Hid (B ≤ (wr.drew.alloc (.cells #[.int .u8 ((c : Int) / 16), .int .u8 ((c : Int) % 16)] 5)).heap.size) := h2
   clear hm h1 h2
   go_wp2
   go_region_law (refine step_append_own8 _ rfl (.tmp 11) (.tmp 20) 111 rfl 5 i0 Tryz.underlying111 hi hz0 hz1 hz2 B u0 m (by simp [Act.eval]) HO.out wr.heap.size 0 2 [c / 16, c % 16] (by simp [Act.eval]) HN.out H1.out H2.out ?_; intro v2 w2 hgr)
   all_goals
    have G2 : Grew w w2 B v v2 (l ++ nibs ((bytesOf s).take (x + 1))) := by
     obtain ⟨a1, _, _, _, _, a6⟩ := AS.out
     rw [a6, ← List.append_assoc, HM.out ()]
     rw [HM.out ()] at a1
     exact a1.trans (hgr.after ((Below.refl _ _).drew.alloc (Nat.le_refl _) _))
    have AS2 : Aside (Grew w w2 B v v2 (l ++ nibs ((bytesOf s).take (x + 1)))) := G2
    clear G2 hgr HO HN H1 H2 HM hand hcs
    go_wp2
    obtain ⟨_, hB, hl, hs, _, _⟩ := AS.out
    go_roundg (s.size - (x + 1))
    case measure => omega
    case rel => exact ⟨x + 1, by omega, rfl, val_int (wrap64_succ x (by omega)), AS2.out⟩
  ·have hxs : x = s.size := by omega
   have htk : (bytesOf s).take x = bytesOf s := List.take_of_length_le (by omega)
   rw [htk] at hgr
   have hxi : (s.size : Int) ≤ (x : Int) := by omega
   have AS : Aside (Grew w wr B v u0 (l ++ nibs (bytesOf s))) := hgr
   clear hgr hlt hxs htk hown hB hs hl hbl
   go_wp2
   go_ret
   exact ⟨u0, rfl, AS.out⟩
def pairs : List Nat → List Nat
 | a :: b :: r => (a * 16 + b) :: pairs r
 | _ => []
theorem pairs_length : ∀ l : List Nat, (pairs l).length = l.length / 2
 | [] => rfl
 | [_] => by simp [pairs]
 | a :: b :: r => by
  rw [pairs, List.length_cons, pairs_length r]
  simp only [List.length_cons]
  omega
theorem pairs_snoc : ∀ (l : List Nat) (a b : Nat), l.length % 2 = 0 → pairs (l ++ [a, b]) = pairs l ++ [a * 16 + b]
 | [], a, b, _ => rfl
 | [_], _, _, h => by simp at h
 | x :: y :: r, a, b, h => by
  have := pairs_snoc r a b (by simp at h; omega)
  simp only [List.cons_append, pairs, this]
def pathCode (p : List Nat) (leaf : Bool) : List Nat :=
 ((if leaf then 32 else 0) + (if p.length % 2 = 1 then 16 + p[0]! else 0)) :: pairs (p.drop (p.length % 2))
theorem join_nib (a b : Nat) (ha : a < 16) (hb : b < 16) : bits .or .u8 ((a : Int) * 16) (b : Int) = ((a * 16 + b : Nat) : Int) := by
 have all : ∀ i : Fin 16, ∀ j : Fin 16, bits .or .u8 ((i.val : Int) * 16) (j.val : Int) = ((i.val * 16 + j.val : Nat) : Int) := by decide +kernel
 exact all ⟨a, ha⟩ ⟨b, hb⟩
theorem wrap_nib (c : Nat) (h : c < 16) : IntKind.u8.wrap ((c : Int) * 16) = (c : Int) * 16 := by
 simp only [IntKind.wrap, IntKind.bits, IntKind.signed]
 simp
 omega
theorem byte_at (r : ByteArray) (j : Nat) (hj : j < r.size) : (r[j]'hj).toNat = (bytesOf r)[j]! := by
 unfold bytesOf
 rw [getElem!_pos _ j (by simpa using hj)]
 simp
 rfl
theorem bytesOf_rest (s : ByteArray) : bytesOf (s.extract 1 s.size) = (bytesOf s).drop 1 := by
 unfold bytesOf
 rw [← List.map_drop]
 congr 1
 simp only [ByteArray.data_extract, Array.toList_extract, List.extract_eq_take_drop]
 rw [List.take_of_length_le]
 simp
def pairsU : List Nat → List Nat
 | a :: b :: r => (a * 16 + b) :: pairsU r
 | [a] => [a * 16]
 | [] => []
theorem pairsU_even : ∀ l : List Nat, l.length % 2 = 0 → pairsU l = pairs l
 | [], _ => rfl
 | [_], h => by simp at h
 | a :: b :: r, h => by rw [pairsU, pairs, pairsU_even r (by simp only [List.length_cons] at h; omega)]
theorem pairsU_length : ∀ l : List Nat, (pairsU l).length = (l.length + 1) / 2
 | [] => rfl
 | [_] => by simp [pairsU]
 | a :: b :: r => by
  rw [pairsU, List.length_cons, pairsU_length r]
  simp only [List.length_cons]
  omega
theorem pairsU_snoc : ∀ (l : List Nat) (a b : Nat), l.length % 2 = 0 → pairsU (l ++ [a, b]) = pairsU l ++ [a * 16 + b]
 | [], a, b, _ => rfl
 | [_], _, _, h => by simp at h
 | x :: y :: r, a, b, h => by
  have := pairsU_snoc r a b (by simp at h; omega)
  simp only [List.cons_append, pairsU, this]
theorem pairsU_snoc1 : ∀ (l : List Nat) (a : Nat), l.length % 2 = 0 → pairsU (l ++ [a]) = pairsU l ++ [a * 16]
 | [], a, _ => rfl
 | [_], _, h => by simp at h
 | x :: y :: r, a, h => by
  have := pairsU_snoc1 r a (by simp at h; omega)
  simp only [List.cons_append, pairsU, this]
set_option maxRecDepth 100000 in
set_option maxHeartbeats 3200000 in
theorem pairs_any {B : Nat} {v : Value} {l : List Nat} (s : ByteArray) (w : World) (hown : Own w B v l) (hB : B ≤ w.heap.size) (hs : s.size ≤ 4194304) (hl : l.length ≤ 4194304) (hn : ∀ x ∈ bytesOf s, x < 16) :
  Calls Tryz.prog 202 #[v, .string s] w fun e w' => ∃ v', e = .returned v' ∧ Grew w w' B v v' (l ++ pairsU (bytesOf s)) := by
 obtain ⟨i0, hi, hz0, hz1, hz2⟩ := info_parts infoU8
 have hbl := bytesOf_length s
 have HS : Hid (s.size ≤ 4194304 ∧ B ≤ w.heap.size ∧ l.length ≤ 4194304 ∧ (∀ x ∈ bytesOf s, x < 16) ∧ (bytesOf s).length = s.size) := ⟨hs, hB, hl, hn, hbl⟩
 have HW : Hid (Own w B v l) := hown
 clear hown hB hs hl hn hbl
 go_enter Tryz.func202, Tryz.ntmps202
 go_wp2
 go_loopg [0, 5] s.size (fun g u i wr => ∃ x : Nat, 2 * x ≤ s.size + 1 ∧ g = s.size - 2 * x ∧ i = .int .i64 (2 * (x : Int)) ∧ Grew w wr B v u (l ++ pairsU ((bytesOf s).take (2 * x))))
 case atStart => exact ⟨0, by omega, rfl, rfl, by simpa [pairsU] using Grew.refl HW.out⟩
 case round =>
  obtain ⟨x, hx, rfl, rfl, hgr⟩ := hrel
  obtain ⟨hs, hB, hl, hn, hbl⟩ := HS.out
  by_cases hlt : 2 * x < s.size
  ·obtain ⟨c, hc⟩ : ∃ c, (bytesOf s)[2 * x]! = c := ⟨_, rfl⟩
   have hcs : (s[2 * x]'hlt).toNat = c := by rw [← hc]; exact byte_at s (2 * x) hlt
   have hc16 : c < 16 := by rw [← hc, getElem!_pos (bytesOf s) _ (by omega)]; exact hn _ (List.getElem_mem _)
   have e1 : (bytesOf s)[2 * x]'(by omega) = c := by rw [← hc, getElem!_pos (bytesOf s) _ (by omega)]
   have t1 : wrap64 (2 * (x : Int) + 2) = 2 * ((x + 1 : Nat) : Int) := by unfold wrap64; omega
   have HT1 : Hid (wrap64 (2 * (x : Int) + 2) = 2 * ((x + 1 : Nat) : Int)) := t1
   have i1 : (2 * (x : Int)).toNat = 2 * x := by omega
   have i2 : (2 * (x : Int) + 1).toNat = 2 * x + 1 := by omega
   have i3 : 2 * (x : Int) < (s.size : Int) := by omega
   have k1 : IntKind.i64.wrap (2 * (x : Int) + 1) = 2 * (x : Int) + 1 := wrap_fits _ (by omega) (by omega)
   have k2 := wrap_nib c hc16
   have i5 : (0 : Int) ≤ 2 * (x : Int) := by omega
   have i6 : (0 : Int) ≤ 2 * (x : Int) + 1 := by omega
   have hcl : (pairsU ((bytesOf s).take (2 * x))).length ≤ 4194304 := by rw [pairsU_length, List.length_take]; omega
   have hev : ((bytesOf s).take (2 * x)).length % 2 = 0 := by rw [List.length_take]; omega
   have step : ∀ z : Nat, pairsU ((bytesOf s).take (2 * (x + 1))) = pairsU ((bytesOf s).take (2 * x)) ++ [z] → 
     Hid (∀ wr', wr' = wr.alloc (.cells #[.int .u8 (z : Int)] 5) → Own wr' B u0 (l ++ pairsU ((bytesOf s).take (2 * x))) ∧ (∀ j, j < [z].length → wr'.cell? ⟨wr.heap.size, 0 + j, none⟩ = some (encB [z][j]!)) ∧ (l ++ pairsU ((bytesOf s).take (2 * x))).length + [z].length ≤ 140737488355328 ∧ B ≤ wr'.heap.size ∧
      ∀ v2 w2, Grew wr' w2 B u0 v2 ((l ++ pairsU ((bytesOf s).take (2 * x))) ++ [z]) → Grew w w2 B v v2 (l ++ pairsU ((bytesOf s).take (2 * (x + 1))))) := by
    intro z hz wr' hw
    subst hw
    refine ⟨hgr.own.alloc _, ?_, ?_, ?_, ?_⟩
    ·intro j hj
     have hj0 : j = 0 := by simpa using hj
     subst hj0
     exact World.cell?_alloc_new wr #[.int .u8 (z : Int)] 5 0
    ·simp only [List.length_append, List.length_cons, List.length_nil]
     omega
    ·have := hgr.grown.size
     simp
     omega
    ·intro v2 w2 h2
     rw [hz, ← List.append_assoc]
     exact hgr.trans (h2.after ((Below.refl _ _).alloc (Nat.le_refl _) _))
   by_cases hl2 : 2 * x + 1 < s.size
   ·obtain ⟨d, hd⟩ : ∃ d, (bytesOf s)[2 * x + 1]! = d := ⟨_, rfl⟩
    have hds : (s[2 * x + 1]'hl2).toNat = d := by rw [← hd]; exact byte_at s (2 * x + 1) hl2
    have hd16 : d < 16 := by rw [← hd, getElem!_pos (bytesOf s) _ (by omega)]; exact hn _ (List.getElem_mem _)
    have e2 : (bytesOf s)[2 * x + 1]'(by omega) = d := by rw [← hd, getElem!_pos (bytesOf s) _ (by omega)]
    have htk : (bytesOf s).take (2 * (x + 1)) = (bytesOf s).take (2 * x) ++ [c, d] := by
     rw [show 2 * (x + 1) = 2 * x + 1 + 1 by omega, List.take_succ_eq_append_getElem (by omega), List.take_succ_eq_append_getElem (by omega), e1, e2]
     simp
    have hjn := join_nib c d hc16 hd16
    have i4 : 2 * (x : Int) + 1 < (s.size : Int) := by omega
    obtain ⟨z, hz⟩ : ∃ z, c * 16 + d = z := ⟨_, rfl⟩
    have HO := step z (by rw [htk, pairsU_snoc _ _ _ hev, hz])
    rw [hz] at hjn
    clear htk e1 e2 hd hc hd16 hc16 hz step hgr hs hB hl hn hbl hcl hev t1
    go_wp2_with (at_builtin; refine wpList_append_own8 _ rfl _ _ 111 rfl 5 i0 Tryz.underlying111 hi hz0 hz1 hz2 B u0 _ rfl (HO.out _ rfl).1 wr.heap.size 0 1 [z] rfl (HO.out _ rfl).2.1 (HO.out _ rfl).2.2.1 (HO.out _ rfl).2.2.2.1 ?_; intro v2 w2 hgr; have AS2 : Aside (Grew w w2 B v v2 (l ++ pairsU ((bytesOf s).take (2 * (x + 1))))) := (HO.out _ rfl).2.2.2.2 _ _ hgr; clear hgr HO)
    clear hcs hds k1 k2 hjn i1 i2 i3 i4 i5 i6
    go_roundg (s.size - 2 * (x + 1))
    case measure => omega
    case rel => exact ⟨x + 1, by omega, rfl, val_int HT1.out, AS2.out⟩
   ·have htk : (bytesOf s).take (2 * (x + 1)) = (bytesOf s).take (2 * x) ++ [c] := by
     rw [List.take_of_length_le (by omega), show bytesOf s = (bytesOf s).take (2 * x + 1) from (List.take_of_length_le (by omega)).symm, List.take_succ_eq_append_getElem (by omega), e1]
     rw [List.take_append_of_le_length (by rw [List.length_take]; omega), List.take_take, Nat.min_self]
    have i4 : (s.size : Int) ≤ 2 * (x : Int) + 1 := by omega
    obtain ⟨z, hz⟩ : ∃ z, c * 16 = z := ⟨_, rfl⟩
    have HO := step z (by rw [htk, pairsU_snoc1 _ _ hev, hz])
    have hz2' : (c : Int) * 16 = (z : Int) := by omega
    rw [hz2'] at k2
    clear htk e1 hc hc16 hz step hgr hs hB hl hn hbl hcl hev t1
    go_wp2_with (at_builtin; refine wpList_append_own8 _ rfl _ _ 111 rfl 5 i0 Tryz.underlying111 hi hz0 hz1 hz2 B u0 _ rfl (HO.out _ rfl).1 wr.heap.size 0 1 [z] rfl (HO.out _ rfl).2.1 (HO.out _ rfl).2.2.1 (HO.out _ rfl).2.2.2.1 ?_; intro v2 w2 hgr; have AS2 : Aside (Grew w w2 B v v2 (l ++ pairsU ((bytesOf s).take (2 * (x + 1))))) := (HO.out _ rfl).2.2.2.2 _ _ hgr; clear hgr HO)
    clear hcs k1 k2 hz2' i1 i2 i3 i4 i5 i6
    go_roundg (s.size - 2 * (x + 1))
    case measure => omega
    case rel => exact ⟨x + 1, by omega, rfl, val_int HT1.out, AS2.out⟩
  ·have hxe : (s.size : Int) ≤ 2 * (x : Int) := by omega
   have htk : (bytesOf s).take (2 * x) = bytesOf s := List.take_of_length_le (by omega)
   rw [htk] at hgr
   have AS : Aside (Grew w wr B v u0 (l ++ pairsU (bytesOf s))) := hgr
   clear hgr hlt htk hs hB hl hn hbl
   go_wp2
   go_ret
   exact ⟨u0, rfl, AS.out⟩
set_option maxRecDepth 100000 in
set_option maxHeartbeats 3200000 in
theorem code_any (s : ByteArray) (leaf : Bool) (w : World) (hs : s.size ≤ 4194304) (hn : ∀ x ∈ bytesOf s, x < 16) :
  Calls Tryz.prog 149 #[.string s, .bool leaf] w fun e w' => e = .returned (.string (textB (pathCode (bytesOf s) leaf))) ∧ Below w.heap.size w w' := by
 have hbl := bytesOf_length s
 have HP : Hid (∀ (f : Nat) (r : ByteArray) (z : Int), z = (f : Int) → (∀ x ∈ bytesOf r, x < 16) → r.size ≤ 4194304 → (bytesOf r).length % 2 = 0 → Calls Tryz.prog 202 #[.slice (some ⟨w.heap.size, 0, none⟩) 1 1, .string r] (w.alloc (.cells #[.int .u8 z] 5)) fun e w' => ∃ v', e = .returned v' ∧ Below w.heap.size w w' ∧ (convert 111 9 v').run Tryz.prog w' = .ok (.string (textB (f :: pairs (bytesOf r)))) w') := by
  intro f r z hz h16 hr hev
  subst hz
  have o1 : Own (w.alloc (.cells #[.int .u8 (f : Int)] 5)) w.heap.size (.slice (some ⟨w.heap.size, 0, none⟩) 1 1) [f] := Own.ofCells w 5 [f] (by unfold maxLen; simp)
  refine (pairs_any r _ o1 (by simp) hr (by simp) h16).mono ?_
  rintro e w' ⟨v', rfl, hg⟩
  refine ⟨v', rfl, hg.below o1 ((Below.refl _ _).alloc (Nat.le_refl _) _) (by simp), ?_⟩
  have ho := hg.own
  rw [pairsU_even _ hev] at ho
  exact run_own_text w' 111 9 5 Tryz.underlying111 Tryz.underlying5 Tryz.underlying9 ho
 by_cases hodd : s.size % 2 = 1
 ·have hoi : ((s.size : Int) % 2 == 1) = true := by simp; omega
  have hp : 0 < s.size := by omega
  obtain ⟨b, hb⟩ : ∃ b, (s[0]'hp).toNat = b := ⟨_, rfl⟩
  have hb2 : (bytesOf s)[0]! = b := by rw [← hb, byte_at s 0 hp]
  have hb16 : b < 16 := by rw [← hb2, getElem!_pos _ 0 (by omega)]; exact hn _ (List.getElem_mem _)
  have m1 : (16 + (b : Int)) % 256 = 16 + (b : Int) := by omega
  have m2 : (32 + (16 + (b : Int))) % 256 = 32 + (16 + (b : Int)) := by omega
  have AS : Aside (s.size ≤ 4194304 ∧ (∀ x ∈ bytesOf s, x < 16) ∧ (bytesOf s).length = s.size ∧ (bytesOf s)[0]! = b ∧ b < 16 ∧ s.size % 2 = 1) := ⟨hs, hn, hbl, hb2, hb16, hodd⟩
  clear hs hn hbl hb2 hb16 hodd
  go_enter Tryz.func149, Tryz.ntmps149
  cases leaf
  ·go_wp2_with fail
   obtain ⟨hs, hn, hbl, hb2, hb16, hodd⟩ := AS.out
   have hcode : (16 + b) :: pairs (bytesOf (s.extract 1 s.size)) = pathCode (bytesOf s) false := by
    unfold pathCode
    rw [bytesOf_rest, hbl, hodd, if_pos rfl, hb2]
    simp
   refine (HP.out (16 + b) (s.extract 1 s.size) (16 + (b : Int)) (by simp) (by rw [bytesOf_rest]; exact fun x hx => hn x (List.mem_of_mem_drop hx)) (by have := bytesOf_length (s.extract 1 s.size); rw [bytesOf_rest, List.length_drop, hbl] at this; omega) (by rw [bytesOf_rest, List.length_drop, hbl]; omega)).mono ?_
   rintro e w1 ⟨v1, rfl, hb1, hcv⟩
   rw [hcode] at hcv
   obtain ⟨t, ht⟩ : ∃ t, textB (pathCode (bytesOf s) false) = t := ⟨_, rfl⟩
   rw [ht] at hcv
   have HT : Hid (textB (pathCode (bytesOf s) false) = t) := ht
   have AB : Aside (Below w.heap.size w w1) := hb1
   clear hb1 ht hcode hs hn hbl hodd
   go_wp2
   go_ret
   exact ⟨by rw [HT.out]; rfl, AB.out⟩
  ·go_wp2_with fail
   obtain ⟨hs, hn, hbl, hb2, hb16, hodd⟩ := AS.out
   have hcode : (32 + (16 + b)) :: pairs (bytesOf (s.extract 1 s.size)) = pathCode (bytesOf s) true := by
    unfold pathCode
    rw [bytesOf_rest, hbl, hodd, if_pos rfl, hb2]
    simp
   refine (HP.out (32 + (16 + b)) (s.extract 1 s.size) (32 + (16 + (b : Int))) (by simp) (by rw [bytesOf_rest]; exact fun x hx => hn x (List.mem_of_mem_drop hx)) (by have := bytesOf_length (s.extract 1 s.size); rw [bytesOf_rest, List.length_drop, hbl] at this; omega) (by rw [bytesOf_rest, List.length_drop, hbl]; omega)).mono ?_
   rintro e w1 ⟨v1, rfl, hb1, hcv⟩
   rw [hcode] at hcv
   obtain ⟨t, ht⟩ : ∃ t, textB (pathCode (bytesOf s) true) = t := ⟨_, rfl⟩
   rw [ht] at hcv
   have HT : Hid (textB (pathCode (bytesOf s) true) = t) := ht
   have AB : Aside (Below w.heap.size w w1) := hb1
   clear hb1 ht hcode hs hn hbl hodd
   go_wp2
   go_ret
   exact ⟨by rw [HT.out]; rfl, AB.out⟩
 ·have hoi : ((s.size : Int) % 2 == 1) = false := by simp; omega
  have AS : Aside (s.size ≤ 4194304 ∧ (∀ x ∈ bytesOf s, x < 16) ∧ (bytesOf s).length = s.size ∧ s.size % 2 = 0) := ⟨hs, hn, hbl, by omega⟩
  clear hs hn hbl hodd
  go_enter Tryz.func149, Tryz.ntmps149
  cases leaf
  ·go_wp2_with fail
   obtain ⟨hs, hn, hbl, hodd⟩ := AS.out
   have hcode : 0 :: pairs (bytesOf s) = pathCode (bytesOf s) false := by
    unfold pathCode
    rw [hbl, hodd]
    rfl
   refine (HP.out 0 s 0 (by rfl) (hn) (hs) (by rw [hbl]; exact hodd)).mono ?_
   rintro e w1 ⟨v1, rfl, hb1, hcv⟩
   rw [hcode] at hcv
   obtain ⟨t, ht⟩ : ∃ t, textB (pathCode (bytesOf s) false) = t := ⟨_, rfl⟩
   rw [ht] at hcv
   have HT : Hid (textB (pathCode (bytesOf s) false) = t) := ht
   have AB : Aside (Below w.heap.size w w1) := hb1
   clear hb1 ht hcode hs hn hbl hodd
   go_wp2
   go_ret
   exact ⟨by rw [HT.out]; rfl, AB.out⟩
  ·go_wp2_with fail
   obtain ⟨hs, hn, hbl, hodd⟩ := AS.out
   have hcode : 32 :: pairs (bytesOf s) = pathCode (bytesOf s) true := by
    unfold pathCode
    rw [hbl, hodd]
    rfl
   refine (HP.out 32 s 32 (by rfl) (hn) (hs) (by rw [hbl]; exact hodd)).mono ?_
   rintro e w1 ⟨v1, rfl, hb1, hcv⟩
   rw [hcode] at hcv
   obtain ⟨t, ht⟩ : ∃ t, textB (pathCode (bytesOf s) true) = t := ⟨_, rfl⟩
   rw [ht] at hcv
   have HT : Hid (textB (pathCode (bytesOf s) true) = t) := ht
   have AB : Aside (Below w.heap.size w w1) := hb1
   clear hb1 ht hcode hs hn hbl hodd
   go_wp2
   go_ret
   exact ⟨by rw [HT.out]; rfl, AB.out⟩
end Go.Proofs.YtjiikjpnlgogfaaGreatDoor
namespace Go.Proofs.YtjiikjpnlgogfaaGreatDoor
open Go.RowKit
def unpackF : List Nat → Option (List Nat × Bool)
 | [] => none
 | c :: r => if 3 < c / 16 then none else if c / 16 % 2 = 1 then some ((c % 16) :: nibs r, decide (2 ≤ c / 16)) else if c % 16 = 0 then some (nibs r, decide (2 ≤ c / 16)) else none
theorem some_text (s : ByteArray) (h : 0 < s.size) : s.toList.isEmpty = false := by
 rw [Lib.toList_data]
 have : s.data.toList.length = s.size := by simp
 cases e : s.data.toList with
 | nil => rw [e] at this; simp at this; omega
 | cons a l => rfl
theorem unpackF_cons (c : Nat) (r : List Nat) : unpackF (c :: r) = if 3 < c / 16 then none else if c / 16 % 2 = 1 then some ((c % 16) :: nibs r, decide (2 ≤ c / 16)) else if c % 16 = 0 then some (nibs r, decide (2 ≤ c / 16)) else none := rfl
theorem and1 (x : Nat) (h : x < 4) : bits .and .u8 (x : Int) 1 = ((x % 2 : Nat) : Int) := by
 have all : ∀ i : Fin 4, bits .and .u8 (i.val : Int) 1 = ((i.val % 2 : Nat) : Int) := by decide +kernel
 exact all ⟨x, h⟩
theorem and2 (x : Nat) (h : x < 4) : bits .and .u8 (x : Int) 2 = ((x / 2 * 2 : Nat) : Int) := by
 have all : ∀ i : Fin 4, bits .and .u8 (i.val : Int) 2 = ((i.val / 2 * 2 : Nat) : Int) := by decide +kernel
 exact all ⟨x, h⟩
set_option maxRecDepth 100000 in
set_option maxHeartbeats 1600000 in
theorem unpack_ok (s : ByteArray) (w : World) (hs : s.size ≤ 4194304) (p : List Nat) (leaf : Bool) (hu : unpackF (bytesOf s) = some (p, leaf)) :
  Calls Tryz.prog 171 #[.string s] w fun e w' => e = .returned (.tuple #[.string (textB p), .bool leaf, .nilIface]) ∧ Below w.heap.size w w' := by
 obtain ⟨i0, hi, hz0, hz1, hz2⟩ := info_parts infoU8
 have hbl := bytesOf_length s
 have hp : 0 < s.size := by
  rw [← hbl]
  cases e : bytesOf s with
  | nil => rw [e] at hu; cases hu
  | cons c r => simp
 obtain ⟨c, hc⟩ : ∃ c, (s[0]'hp).toNat = c := ⟨_, rfl⟩
 have hrest := bytesOf_rest s
 obtain ⟨r, hr⟩ : ∃ r, (bytesOf s).drop 1 = r := ⟨_, rfl⟩
 have hbs : bytesOf s = c :: r := by
  have e := List.drop_eq_getElem_cons (l := bytesOf s) (i := 0) (by omega)
  rw [List.drop_zero, Nat.zero_add, hr] at e
  rw [← hc, byte_at s 0 hp, getElem!_pos _ 0 (by omega)]
  exact e
 rw [hr] at hrest
 rw [hbs] at hu
 have hc8 : c < 256 := by rw [← hc]; exact UInt8.toNat_lt _
 rw [unpackF_cons] at hu
 by_cases h3 : 3 < c / 16
 ·rw [if_pos h3] at hu; cases hu
 rw [if_neg h3] at hu
 obtain ⟨g, hg⟩ : ∃ g, c / 16 = g := ⟨_, rfl⟩
 obtain ⟨d, hd⟩ : ∃ d, c % 16 = d := ⟨_, rfl⟩
 rw [hg] at h3 hu
 rw [hd] at hu
 have a15 := and15 c hc8
 rw [hd] at a15
 have hgi : (c : Int) / 16 = (g : Int) := by omega
 have g4 : g < 4 := by omega
 have b1 := and1 g g4
 have b2 := and2 g g4
 have hne := some_text s hp
 have g3i : (g : Int) ≤ 3 := by omega
 obtain ⟨z, hz⟩ : ∃ z, g / 2 * 2 = z := ⟨_, rfl⟩
 rw [hz] at b2
 obtain ⟨lf, hlf⟩ : ∃ lf, decide (2 ≤ g) = lf := ⟨_, rfl⟩
 have hzf : ((z : Int) != 0) = lf := by
  rw [← hlf]
  by_cases h2 : 2 ≤ g
  ·have : z ≠ 0 := by omega
   simp [h2, this]
  ·have : z = 0 := by omega
   simp [h2, this]
 rw [hlf] at hu
 clear hz hlf
 by_cases hodd : g % 2 = 1
 ·rw [if_pos hodd] at hu
  cases hu
  have b1' : bits .and .u8 (g : Int) 1 = 1 := by rw [b1, hodd]; rfl
  have HO : Hid (Own (w.drew.alloc (.cells #[.int .u8 (d : Int)] 5)) w.heap.size (.slice none 0 0) []) := Own.nil _ _
  have A1 : Aside (s.size ≤ 4194304 ∧ bytesOf (s.extract 1 s.size) = r ∧ (bytesOf s).length = s.size ∧ bytesOf s = c :: r) := ⟨hs, hrest, hbl, hbs⟩
  clear b1 hs hrest hbl hbs hr hg hd hodd h3 g4
  go_enter Tryz.func171, Tryz.ntmps171
  go_wp2
  go_region
  clear hc hgi a15 hne
  go_wp2_with (at_builtin; refine wpList_append_own8 _ rfl _ _ 111 rfl 5 i0 Tryz.underlying111 hi hz0 hz1 hz2 w.heap.size _ [] rfl HO.out w.heap.size 0 1 [d] rfl ?c1 ?c2 ?c3 ?_)
  case c1 =>
   intro j hj
   have hj0 : j = 0 := by simpa using hj
   subst hj0
   exact World.cell?_alloc_new w.drew #[.int .u8 (d : Int)] 5 0
  case c2 => simp
  case c3 => simp
  intro v1 w1 hg1
  have bw1 : Below w.heap.size w w1 := hg1.below HO.out ((Below.refl _ _).drew.alloc (Nat.le_refl _) _) (by simp)
  have o1 : Own w1 w.heap.size v1 [d] := by simpa using hg1.own
  clear hg1 HO
  obtain ⟨x, hx⟩ : ∃ x, s.extract 1 s.size = x := ⟨_, rfl⟩
  have hxs : x.size ≤ 4194304 := by
   rw [← bytesOf_length, ← hx, A1.out.2.1]
   have h1 := A1.out.2.2.1
   rw [A1.out.2.2.2, List.length_cons] at h1
   have := A1.out.1
   omega
  have HX : Hid (Calls Tryz.prog 154 #[v1, .string x] w1 fun e w' => ∃ v', e = .returned v' ∧ Grew w1 w' w.heap.size v1 v' ([d] ++ nibs r)) := by
   have := nibbles_any x w1 o1 bw1.size hxs (by simp)
   rw [← hx, A1.out.2.1, hx] at this
   exact this
  have HB : Hid (Below w.heap.size w w1 ∧ Own w1 w.heap.size v1 [d]) := ⟨bw1, o1⟩
  clear bw1 o1 hxs
  go_wp2_with fail
  refine HX.out.mono ?_
  rintro e w2 ⟨v2, rfl, hg2⟩
  have hcv := run_own_text (P := Tryz.prog) w2 111 9 5 Tryz.underlying111 Tryz.underlying5 Tryz.underlying9 hg2.own
  obtain ⟨t, ht⟩ : ∃ t, textB (d :: nibs r) = t := ⟨_, rfl⟩
  have hcv2 : Sem.run Tryz.prog (convert 111 9 v2) w2 = .ok (.string t) w2 := by rw [← ht]; exact hcv
  have HT : Hid (textB (d :: nibs r) = t) := ht
  have HW : Hid (Below w.heap.size w w2) := hg2.below HB.out.2 HB.out.1 HB.out.1.size
  clear hg2 hcv ht HX
  go_wp2
  go_ret3
  exact ⟨by rw [HT.out]; rfl, HW.out⟩
 ·rw [if_neg hodd] at hu
  by_cases hd0 : d = 0
  ·rw [if_pos hd0] at hu
   cases hu
   have b1' : bits .and .u8 (g : Int) 1 = 0 := by
    rw [b1]
    have : g % 2 = 0 := by omega
    rw [this]
    rfl
   have a15' : bits .and .u8 (c : Int) 15 = 0 := by rw [a15, hd0]; rfl
   obtain ⟨x, hx⟩ : ∃ x, s.extract 1 s.size = x := ⟨_, rfl⟩
   have hxs : x.size ≤ 4194304 := by
    rw [← bytesOf_length, ← hx, hrest]
    rw [hbs, List.length_cons] at hbl
    omega
   have HX : Hid (Calls Tryz.prog 154 #[.slice none 0 0, .string x] w.drew fun e w' => ∃ v', e = .returned v' ∧ Grew w.drew w' w.heap.size (.slice none 0 0) v' (nibs r)) := by
    have := nibbles_any (l := []) x w.drew (Own.nil _ w.heap.size) (Nat.le_refl _) hxs (by simp)
    rw [← hx, hrest, hx] at this
    exact this
   have HB : Hid (Below w.heap.size w w.drew ∧ Own w.drew w.heap.size (.slice none 0 0) []) := ⟨(Below.refl _ _).drew, Own.nil _ _⟩
   clear b1 hs hrest hbl hbs hr hg hd hodd h3 g4 hxs a15 hd0
   go_enter Tryz.func171, Tryz.ntmps171
   go_wp2
   go_region
   clear hc hgi a15' hne
   go_wp2_with fail
   refine HX.out.mono ?_
   rintro e w2 ⟨v2, rfl, hg2⟩
   have hcv := run_own_text (P := Tryz.prog) w2 111 9 5 Tryz.underlying111 Tryz.underlying5 Tryz.underlying9 hg2.own
   obtain ⟨t, ht⟩ : ∃ t, textB (nibs r) = t := ⟨_, rfl⟩
   have hcv2 : Sem.run Tryz.prog (convert 111 9 v2) w2 = .ok (.string t) w2 := by rw [← ht]; exact hcv
   have HT : Hid (textB (nibs r) = t) := ht
   have HW : Hid (Below w.heap.size w w2) := hg2.below HB.out.2 HB.out.1 HB.out.1.size
   clear hg2 hcv ht HX
   go_wp2
   go_ret3
   exact ⟨by rw [HT.out]; rfl, HW.out⟩
  ·rw [if_neg hd0] at hu
   cases hu
end Go.Proofs.YtjiikjpnlgogfaaGreatDoor
