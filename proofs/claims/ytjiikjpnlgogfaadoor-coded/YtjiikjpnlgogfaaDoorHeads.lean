/-
  The codes' heads: HighestFirst, appendHead, AppendText, AppendList of package item.
-/
import Derived.Test.YtjiikjpnlgogfaaDoorOwnB
import Derived.OwnWalk
namespace Go.Proofs.YtjiikjpnlgogfaaDoor
open Go.RowKit

/-- Bytes as a text. -/
def textB (l : List Nat) : ByteArray := ⟨(l.map UInt8.ofNat).toArray⟩
theorem textB_size (l : List Nat) : (textB l).size = l.length := by
  show (l.map UInt8.ofNat).toArray.size = _
  simp
theorem bytesOf_textB {l : List Nat} (h : ∀ x ∈ l, x < 256) : bytesOf (textB l) = l := by
  unfold bytesOf textB
  simp only [List.map_map]
  conv => rhs; rw [← List.map_id l]
  apply List.map_congr_left
  intro x hx
  have := h x hx
  simp
  omega

theorem foldl_push_ints (l : List Nat) : ∀ r : ByteArray, (l.map (fun n : Nat => (n : Int))).foldl (fun r n => r.push (UInt8.ofNat n.toNat)) r = ⟨r.data ++ (l.map UInt8.ofNat).toArray⟩ := by
  induction l with
  | nil => intro r; simp
  | cons x l ih =>
    intro r
    simp only [List.map_cons, List.foldl_cons]
    rw [ih]
    simp [ByteArray.push]

/-- A row read as a text. -/
theorem run_own_text {P : Program} (w : World) (src dst e : TypeId) (hs : P.underlying src = some (.slice e)) (he : P.underlying e = some (.int .u8)) (hd : P.underlying dst = some .string) {B : Nat} {v : Value} {l : List Nat} (h : Own w B v l) :
    (convert src dst v).run P w = .ok (.string (textB l)) w := by
  rcases h with ⟨rfl, rfl⟩ | ⟨g, cap, rfl, _, _, _, _, _, h6⟩
  · exact Lib.run_convert_nil_bytes w src dst e 0 hs he hd
  · rw [run_convert_bytes_string w src dst e _ _ _ hs he hd]
    have hl := run_loadCells_list (P := P) w ⟨g, 0, none⟩ (l.map encB) (fun j u hu => by
      obtain ⟨k1, rfl⟩ := (enc_getElem? l j u).1 hu
      rw [Addr.add_mid, Nat.zero_add]
      exact h6 j k1)
    rw [List.length_map] at hl
    have e1 : l.map encB = (l.map (fun n : Nat => (n : Int))).map (Value.int .u8) := by rw [List.map_map]; rfl
    rw [e1] at hl
    rw [run_bytesToString w ⟨g, 0, none⟩ l.length cap _ hl, foldl_push_ints]
    unfold textB
    simp

/-- A number's bytes, the highest first, none ahead that is 0: the first i of eight looked at. -/
def bigAt (n : Nat) : Nat → List Nat
  | 0 => []
  | i + 1 => if n / 2 ^ (56 - 8 * i) = 0 then bigAt n i else bigAt n i ++ [n / 2 ^ (56 - 8 * i) % 256]
def bigE (n : Nat) : List Nat := bigAt n 8
theorem bigAt_length (n : Nat) : ∀ i, (bigAt n i).length ≤ i := by
  intro i
  induction i with
  | zero => simp [bigAt]
  | succ i ih =>
    rw [bigAt]
    split
    · omega
    · simp only [List.length_append, List.length_cons, List.length_nil]; omega
theorem bigAt_lt (n : Nat) : ∀ i, ∀ x ∈ bigAt n i, x < 256 := by
  intro i
  induction i with
  | zero => simp [bigAt]
  | succ i ih =>
    rw [bigAt]
    split
    · exact ih
    · intro x hx
      rcases List.mem_append.1 hx with hx | hx
      · exact ih x hx
      · obtain rfl := List.mem_singleton.1 hx
        exact Nat.mod_lt _ (by decide)

theorem bigE_length (n : Nat) : (bigE n).length ≤ 8 := bigAt_length n 8
theorem bigE_lt (n : Nat) : ∀ x ∈ bigE n, x < 256 := bigAt_lt n 8

theorem wrap_u64_small (n : Nat) (h : n < 18446744073709551616) : IntKind.u64.wrap (n : Int) = (n : Int) := by
  simp only [IntKind.wrap_u64]
  omega

theorem infoU8 : (Tryd.prog.info? 5).map (fun i => (i.zero, i.size, i.bytes)) = some (some (.int .u8 0), 1, 1) := by kernel_rfl

theorem shr_nat (n k : Nat) : ((n : Int) / 2 ^ k) = ((n / 2 ^ k : Nat) : Int) := by
  rw [Int.natCast_ediv, Int.natCast_pow]
  rfl

set_option maxRecDepth 100000 in
set_option maxHeartbeats 1600000 in
theorem highest_any (n : Nat) (w : World) (hn : n < 18446744073709551616) :
    Calls Tryd.prog 49 #[.int .u64 (n : Int)] w fun e w' => e = .returned (.string (textB (bigE n))) ∧ Below w.heap.size w w' := by
  obtain ⟨i0, hi, hz0, hz1, hz2⟩ := info_parts infoU8
  go_enter Tryd.func49, Tryd.ntmps49
  have HN : Hid (n < 18446744073709551616) := hn
  clear hn
  go_wp2
  go_loopg [3, 4] 8 (fun g v s wr => ∃ x : Nat, x ≤ 8 ∧ g = 8 - x ∧ s = .int .i64 (56 - 8 * (x : Int)) ∧ Own wr w.heap.size v (bigAt n x) ∧ Below w.heap.size w wr)
  case atStart => exact ⟨0, by omega, rfl, rfl, Own.nil _ _, Below.refl _ _⟩
  case round =>
    obtain ⟨x, hx, rfl, rfl, hown, hbl⟩ := hrel
    by_cases hlt : x < 8
    · obtain ⟨k, hk⟩ : ∃ k, 56 - 8 * x = k := ⟨_, rfl⟩
      have hki : (56 - 8 * (x : Int)) = (k : Int) := by omega
      rw [hki]
      have hst : bigAt n (x + 1) = if n / 2 ^ k = 0 then bigAt n x else bigAt n x ++ [n / 2 ^ k % 256] := by rw [← hk]; rfl
      have hk64 : k < 64 := by omega
      obtain ⟨q, hq⟩ : ∃ q, n / 2 ^ k = q := ⟨_, rfl⟩
      have hqi : ((n : Int) / 2 ^ k) = (q : Int) := by rw [shr_nat, hq]
      rw [hq] at hst
      have hk0 : (0 : Int) ≤ (k : Int) := by omega
      have hbs := hbl.size
      have hlen := bigAt_length n x
      have hdn : (k : Int) - 8 = 56 - 8 * ((x + 1 : Nat) : Int) := by omega
      have HDn : Hid ((k : Int) - 8 = 56 - 8 * ((x + 1 : Nat) : Int)) := hdn
      have AS : Aside (Own wr w.heap.size u3 (bigAt n x) ∧ Below w.heap.size w wr ∧ w.heap.size ≤ wr.heap.size ∧ (bigAt n x).length ≤ x) := ⟨hown, hbl, hbs, hlen⟩
      clear hown hbl hk hq hki hbs hlen hdn
      by_cases hq0 : q = 0
      · subst hq0
        rw [if_pos rfl] at hst
        have AS2 : Aside (bigAt n (x + 1) = bigAt n x) := hst
        clear hst
        go_wp2
        go_roundg (8 - (x + 1))
        case measure => omega
        case rel => exact ⟨x + 1, by omega, rfl, val_int HDn.out, by rw [AS2.out]; exact AS.out.1, AS.out.2.1⟩
      · rw [if_neg hq0] at hst
        have hqb : ((q : Int) != 0) = true := by simp [hq0]
        have AS2 : Aside (bigAt n (x + 1) = bigAt n x ++ [q % 256]) := hst
        have HO : Hid (∀ o, Own (wr.alloc o) w.heap.size u3 (bigAt n x)) := fun o => AS.out.1.alloc o
        clear hst hq0
        go_wp2_with (at_builtin; refine wpList_append_own8 _ rfl _ _ 73 rfl 5 i0 Tryd.underlying73 hi hz0 hz1 hz2 w.heap.size _ (bigAt n x) rfl (HO.out _) wr.heap.size 0 1 [q % 256] rfl ?c1 ?c2 ?c3 ?_)
        case c1 =>
          intro j hj
          have hj0 : j = 0 := by simpa using hj
          subst hj0
          rw [Nat.zero_add, World.cell?_alloc_new]
          simp
        case c2 => have := AS.out.2.2.2; simp; omega
        case c3 => have := AS.out.2.2.1; simp; omega
        intro v2 w2 hgr
        have AS3 : Aside (Own w2 w.heap.size v2 (bigAt n (x + 1)) ∧ Below w.heap.size w w2) := by
          have hb := AS.out.2.2.1
          refine ⟨by rw [AS2.out]; exact hgr.own, hgr.below (HO.out _) (AS.out.2.1.alloc hb _) (by simp; omega)⟩
        clear hgr HO
        go_wp2
        go_roundg (8 - (x + 1))
        case measure => omega
        case rel => exact ⟨x + 1, by omega, rfl, val_int HDn.out, AS3.out⟩
    · obtain rfl : x = 8 := by omega
      have htx : ∀ W : World, W = wr → Sem.run Tryd.prog (convert 73 9 u3) W = .ok (.string (textB (bigE n))) W := fun W hW => by
        subst hW
        exact run_own_text W 73 9 5 Tryd.underlying73 Tryd.underlying5 Tryd.underlying9 hown
      have htx2 := htx wr rfl
      obtain ⟨t, ht⟩ : ∃ t, textB (bigE n) = t := ⟨_, rfl⟩
      rw [ht] at htx2
      have HT : Hid (∀ u : Unit, textB (bigE n) = t) := fun _ => ht
      have AS : Aside (Below w.heap.size w wr) := hbl
      clear hown hbl htx ht
      go_wp2
      go_ret
      exact ⟨by rw [HT.out ()]; rfl, AS.out⟩

/-- A head: of a text (kind 128) or a list (192) of n bytes. -/
def headB (kind n : Nat) : List Nat := if n ≤ 55 then [(kind + n) % 256] else (kind + 55 + (bigE n).length) % 256 :: bigE n
theorem headB_length (kind n : Nat) : (headB kind n).length ≤ 9 := by
  unfold headB
  split
  · simp
  · have := bigAt_length n 8
    simp only [List.length_cons]
    unfold bigE
    omega

set_option maxRecDepth 100000 in
set_option maxHeartbeats 1600000 in
theorem head_any {B : Nat} {v : Value} {l : List Nat} (kind n : Nat) (w : World) (hown : Own w B v l) (hB : B ≤ w.heap.size) (hn : n ≤ 70368744177664) (hl : l.length ≤ 70368744177664) :
    Calls Tryd.prog 68 #[v, .int .u8 (kind : Int), .int .i64 (n : Int)] w fun e w' => ∃ v', e = .returned v' ∧ Grew w w' B v v' (l ++ headB kind n) := by
  obtain ⟨i0, hi, hz0, hz1, hz2⟩ := info_parts infoU8
  by_cases h55 : n ≤ 55
  · have hh : headB kind n = [(kind + n) % 256] := by unfold headB; rw [if_pos h55]
    have HO : Hid (∀ o, Own (w.alloc o) B v l) := fun o => hown.alloc o
    have h55i : (n : Int) ≤ 55 := by omega
    have AS : Aside (Own w B v l ∧ B ≤ w.heap.size ∧ l.length ≤ 70368744177664) := ⟨hown, hB, hl⟩
    rw [hh]
    clear hown hB hl hh hn
    go_enter Tryd.func68, Tryd.ntmps68
    go_wp2_with (at_builtin; refine wpList_append_own8 _ rfl _ _ 73 rfl 5 i0 Tryd.underlying73 hi hz0 hz1 hz2 B _ l rfl (HO.out _) w.heap.size 0 1 [(kind + n) % 256] rfl ?c1 ?c2 ?c3 ?_)
    case c1 =>
      intro j hj
      have hj0 : j = 0 := by simpa using hj
      subst hj0
      rw [Nat.zero_add, World.cell?_alloc_new]
      simp
    case c2 => have := AS.out.2.2; simp; omega
    case c3 => have := AS.out.2.1; simp; omega
    intro v2 w2 hgr
    have AS3 : Aside (Grew w w2 B v v2 (l ++ [(kind + n) % 256])) := hgr.after ((Below.refl _ _).alloc (Nat.le_refl _) _)
    clear hgr HO
    go_wp2
    go_ret
    exact ⟨v2, rfl, AS3.out⟩
  · have hh : headB kind n = (kind + 55 + (bigE n).length) % 256 :: bigE n := by unfold headB; rw [if_neg h55]
    have h55i : ¬ (n : Int) ≤ 55 := by omega
    have hbl := bigE_length n
    have hblt := bigE_lt n
    have HH : Hid (∀ W, Calls Tryd.prog 49 #[.int .u64 (n : Int)] W fun e w' => e = .returned (.string (textB (bigE n))) ∧ Below W.heap.size W w') := fun W => highest_any n W (by omega)
    have HW : Hid (IntKind.u64.wrap (n : Int) = (n : Int)) := wrap_u64_small n (by omega)
    have AS : Aside (Own w B v l ∧ B ≤ w.heap.size ∧ l.length ≤ 70368744177664) := ⟨hown, hB, hl⟩
    have hts := textB_size (bigE n)
    have htb : bytesOf (textB (bigE n)) = bigE n := bytesOf_textB hblt
    rw [hh]
    obtain ⟨d, hd⟩ : ∃ d, bigE n = d := ⟨_, rfl⟩
    have hdl : d.length ≤ 8 := by rw [← hd]; exact hbl
    rw [hd] at HH hts htb ⊢
    obtain ⟨t, ht⟩ : ∃ t, textB d = t := ⟨_, rfl⟩
    rw [ht] at HH hts htb
    have HT : Hid (bytesOf t = d ∧ t.size = d.length ∧ d.length ≤ 8) := ⟨htb, hts, hdl⟩
    clear hown hB hl hh hn hbl hblt hd ht htb
    obtain ⟨q, hq⟩ : ∃ q, d.length = q := ⟨_, rfl⟩
    rw [hq] at hts hdl ⊢
    have HQ : Hid (d.length = q) := hq
    clear hq
    go_enter Tryd.func68, Tryd.ntmps68
    go_wp2_with fail
    rw [HW.out]
    refine (HH.out _).mono ?_
    rintro e w1 ⟨rfl, hb1⟩
    have hbs := hb1.size
    have HO : Hid (∀ o, Own (w1.alloc o) B v l) := fun o => (AS.out.1.below hb1).alloc o
    have A1 : Aside (Below w.heap.size w w1 ∧ B ≤ w1.heap.size) := ⟨hb1, by have := AS.out.2.1; omega⟩
    clear hb1 hbs HH HW
    go_wp2_with (at_builtin; refine wpList_append_own8 _ rfl _ _ 73 rfl 5 i0 Tryd.underlying73 hi hz0 hz1 hz2 B _ l rfl (HO.out _) w1.heap.size 0 1 [(kind + 55 + q) % 256] rfl ?c1 ?c2 ?c3 ?_)
    case c1 =>
      intro j hj
      have hj0 : j = 0 := by simpa using hj
      subst hj0
      rw [Nat.zero_add, World.cell?_alloc_new]
      simp
    case c2 => have := AS.out.2.2; simp; omega
    case c3 => have := A1.out.2; simp; omega
    intro v2 w2 hgr
    have G2 : Grew w w2 B v v2 (l ++ [(kind + 55 + q) % 256]) := (hgr.after ((Below.refl _ _).alloc (Nat.le_refl _) _)).after A1.out.1
    have HG : Hid (Grew w w2 B v v2 (l ++ [(kind + 55 + q) % 256])) := G2
    clear hgr HO G2
    go_wp2_with (at_builtin; refine wpList_append_str8 _ rfl _ _ 73 9 rfl 5 i0 Tryd.underlying73 Tryd.underlying9 hi hz0 hz1 hz2 B _ (l ++ [(kind + 55 + q) % 256]) rfl HG.out.own t rfl ?d1 ?d2 ?_)
    case d1 => have := AS.out.2.2; have := HT.out.2.1; have := HT.out.2.2; simp; omega
    case d2 => have := AS.out.2.1; have := HG.out.grown.size; omega
    intro v3 w3 hgr
    have G3 : Grew w w3 B v v3 (l ++ ((kind + 55 + q) % 256 :: d)) := by
      have := HG.out.trans hgr
      rw [HT.out.1] at this
      simpa using this
    have AS3 : Aside (Grew w w3 B v v3 (l ++ ((kind + 55 + q) % 256 :: d))) := G3
    clear hgr G3
    go_wp2
    go_ret
    exact ⟨v3, rfl, AS3.out⟩

/-- A text's code. -/
def textCode (t : List Nat) : List Nat := (if t.length = 1 ∧ t[0]! < 128 then [] else headB 128 t.length) ++ t
/-- A list's code, of the codes of its items together. -/
def listCode (t : List Nat) : List Nat := headB 192 t.length ++ t
theorem textCode_length (t : List Nat) : (textCode t).length ≤ t.length + 9 := by
  unfold textCode
  have := headB_length 128 t.length
  split <;> simp <;> omega
theorem listCode_length (t : List Nat) : (listCode t).length ≤ t.length + 9 := by
  unfold listCode
  have := headB_length 192 t.length
  simp
  omega

set_option maxRecDepth 100000 in
set_option maxHeartbeats 1600000 in
theorem text_any {B : Nat} {v : Value} {l : List Nat} (s : ByteArray) (w : World) (hown : Own w B v l) (hB : B ≤ w.heap.size) (hs : s.size ≤ 70368744177600) (hl : l.length ≤ 70368744177600) :
    Calls Tryd.prog 48 #[v, .string s] w fun e w' => ∃ v', e = .returned v' ∧ Grew w w' B v v' (l ++ textCode (bytesOf s)) := by
  obtain ⟨i0, hi, hz0, hz1, hz2⟩ := info_parts infoU8
  have hbl := bytesOf_length s
  have HH : Hid (Calls Tryd.prog 68 #[v, .int .u8 ((128 : Nat) : Int), .int .i64 (s.size : Int)] w fun e w' => ∃ v', e = .returned v' ∧ Grew w w' B v v' (l ++ headB 128 s.size)) := head_any 128 s.size w hown hB (by omega) (by omega)
  have AS : Aside (Own w B v l ∧ B ≤ w.heap.size ∧ l.length ≤ 70368744177600 ∧ s.size ≤ 70368744177600 ∧ (headB 128 s.size).length ≤ 9) := ⟨hown, hB, hl, hs, headB_length _ _⟩
  have tail : ∀ {W : World} {u : Value} {m : List Nat}, Grew w W B v u (l ++ m) → ∀ {W' : World} {u' : Value}, Grew W W' B u u' (l ++ (m ++ bytesOf s)) → m ++ bytesOf s = textCode (bytesOf s) → Grew w W' B v u' (l ++ textCode (bytesOf s)) := fun g1 _ _ g2 e => by
    have := g1.trans g2
    rw [e] at this
    exact this
  by_cases h1 : s.size = 1
  · have hp : 0 < s.size := by omega
    have hd : (bytesOf s)[0]! = (s[0]'hp).toNat := by
      unfold bytesOf
      rw [getElem!_pos _ 0 (by simpa using hp)]
      simp
      rfl
    by_cases h2 : (bytesOf s)[0]! < 128
    · have e : ([] : List Nat) ++ bytesOf s = textCode (bytesOf s) := by
        unfold textCode
        rw [if_pos ⟨by rw [hbl, h1], h2⟩]
      have hs0 : ((s[0]'hp).toNat : Int) < 128 := by omega
      have HT : Hid (([] : List Nat) ++ bytesOf s = textCode (bytesOf s)) := e
      have HO : Hid (Own w B v l) := hown
      clear hown hB hs hl e hbl hd h2 HH
      go_enter Tryd.func48, Tryd.ntmps48
      go_wp2_with (at_builtin; refine wpList_append_str8 _ rfl _ _ 73 9 rfl 5 i0 Tryd.underlying73 Tryd.underlying9 hi hz0 hz1 hz2 B _ l rfl HO.out s rfl ?d1 ?d2 ?_)
      case d1 => obtain ⟨_, _, a1, a2, _⟩ := AS.out; omega
      case d2 => exact AS.out.2.1
      intro v2 w2 hg2
      have g3 : Grew w w2 B v v2 (l ++ textCode (bytesOf s)) := by
        rw [← HT.out]
        simpa using hg2
      have AS3 : Aside (Grew w w2 B v v2 (l ++ textCode (bytesOf s))) := g3
      clear g3
      clear hg2 tail
      go_wp2
      go_ret
      exact ⟨v2, rfl, AS3.out⟩
    · have e : headB 128 s.size ++ bytesOf s = textCode (bytesOf s) := by
        unfold textCode
        rw [if_neg (fun h => h2 h.2), hbl]
      have hs0 : (128 : Int) ≤ ((s[0]'hp).toNat : Int) := by omega
      have HT : Hid (headB 128 s.size ++ bytesOf s = textCode (bytesOf s)) := e
      clear hown hB hs hl e hbl hd h2
      go_enter Tryd.func48, Tryd.ntmps48
      go_wp2_with fail
      rw [h1] at HH
      refine HH.out.mono ?_
      rintro e w1 ⟨v1, rfl, hg1⟩
      have HG : Hid (Grew w w1 B v v1 (l ++ headB 128 1)) := hg1
      rw [h1] at HT
      clear hg1 HH
      have A9 : Aside ((headB 128 1).length ≤ 9) := headB_length _ _
      go_wp2_with (at_builtin; refine wpList_append_str8 _ rfl _ _ 73 9 rfl 5 i0 Tryd.underlying73 Tryd.underlying9 hi hz0 hz1 hz2 B _ (l ++ headB 128 1) rfl HG.out.own s rfl ?d1 ?d2 ?_)
      case d1 => obtain ⟨_, _, a1, a2, a3⟩ := AS.out; have := A9.out; rw [List.length_append]; omega
      case d2 => have := AS.out.2.1; have := HG.out.grown.size; omega
      intro v2 w2 hg2
      have AS3 : Aside (Grew w w2 B v v2 (l ++ textCode (bytesOf s))) := tail HG.out hg2 HT.out
      clear hg2 tail
      go_wp2
      go_ret
      exact ⟨v2, rfl, AS3.out⟩
  · have e : headB 128 s.size ++ bytesOf s = textCode (bytesOf s) := by
      unfold textCode
      rw [if_neg (fun h => h1 (by rw [← hbl]; exact h.1)), hbl]
    have h1i : ¬ (s.size : Int) = 1 := by omega
    have HT : Hid (headB 128 s.size ++ bytesOf s = textCode (bytesOf s)) := e
    clear hown hB hs hl e hbl h1
    go_enter Tryd.func48, Tryd.ntmps48
    go_wp2_with fail
    refine HH.out.mono ?_
    rintro e w1 ⟨v1, rfl, hg1⟩
    have HG : Hid (Grew w w1 B v v1 (l ++ headB 128 s.size)) := hg1
    clear hg1 HH
    go_wp2_with (at_builtin; refine wpList_append_str8 _ rfl _ _ 73 9 rfl 5 i0 Tryd.underlying73 Tryd.underlying9 hi hz0 hz1 hz2 B _ (l ++ headB 128 s.size) rfl HG.out.own s rfl ?d1 ?d2 ?_)
    case d1 => obtain ⟨_, _, a1, a2, a3⟩ := AS.out; rw [List.length_append]; omega
    case d2 => have := AS.out.2.1; have := HG.out.grown.size; omega
    intro v2 w2 hg2
    have AS3 : Aside (Grew w w2 B v v2 (l ++ textCode (bytesOf s))) := tail HG.out hg2 HT.out
    clear hg2 tail
    go_wp2
    go_ret
    exact ⟨v2, rfl, AS3.out⟩

set_option maxRecDepth 100000 in
set_option maxHeartbeats 1600000 in
theorem list_any {B : Nat} {v u : Value} {l m : List Nat} (w : World) (hown : Own w B v l) (hu : Own w B u m) (hne : ∀ k, v.ownBlock = some k → u.ownBlock ≠ some k) (hB : B ≤ w.heap.size) (hm : m.length ≤ 70368744177600) (hl : l.length ≤ 70368744177600) :
    Calls Tryd.prog 50 #[v, u] w fun e w' => ∃ v', e = .returned v' ∧ Grew w w' B v v' (l ++ listCode m) := by
  obtain ⟨i0, hi, hz0, hz1, hz2⟩ := info_parts infoU8
  have HH : Hid (Calls Tryd.prog 68 #[v, .int .u8 ((192 : Nat) : Int), .int .i64 (m.length : Int)] w fun e w' => ∃ v', e = .returned v' ∧ Grew w w' B v v' (l ++ headB 192 m.length)) := head_any 192 m.length w hown hB (by omega) (by omega)
  have hh9 := headB_length 192 m.length
  have AS : Aside (Own w B u m ∧ B ≤ w.heap.size ∧ l.length ≤ 70368744177600 ∧ m.length ≤ 70368744177600 ∧ (headB 192 m.length).length ≤ 9 ∧ (∀ k, v.ownBlock = some k → u.ownBlock ≠ some k)) := ⟨hu, hB, hl, hm, hh9, hne⟩
  have e : l ++ (headB 192 m.length ++ m) = l ++ listCode m := rfl
  have HT : Hid (l ++ (headB 192 m.length ++ m) = l ++ listCode m) := e
  clear e
  rcases hu with ⟨rfl, rfl⟩ | ⟨g, cap, rfl, h1, h2, h3, h4, h5, h6⟩
  · clear hown hne hB hm hl hh9
    go_enter Tryd.func50, Tryd.ntmps50
    go_wp2_with fail
    refine HH.out.mono ?_
    rintro e w1 ⟨v1, rfl, hg1⟩
    have hg0 : Grew w w1 B v v1 (l ++ headB 192 0) := hg1
    clear hg1
    have hpos : 0 < (l ++ headB 192 0).length := by
      have : headB 192 0 = [192] := rfl
      rw [this]
      simp
    obtain ⟨g, cap, rfl, _, _, hcap, _⟩ := hg0.own.full hpos
    have e0 : l ++ headB 192 0 = l ++ listCode [] := by rw [← HT.out]; simp
    have HG : Hid (Grew w w1 B v (.slice (some ⟨g, 0, none⟩) (l ++ headB 192 0).length cap) (l ++ listCode [])) := by rw [← e0]; exact hg0
    obtain ⟨n, hn⟩ : ∃ n, (l ++ headB 192 0).length = n := ⟨_, rfl⟩
    rw [hn] at hcap HG ⊢
    have hn0 : n + 0 ≤ cap := hcap
    clear hg0 HH hpos e0 hn
    go_wp2
    go_ret
    exact ⟨_, rfl, HG.out⟩
  · clear hown hne hB hm hl hh9
    go_enter Tryd.func50, Tryd.ntmps50
    go_wp2_with fail
    refine HH.out.mono ?_
    rintro e w1 ⟨v1, rfl, hg1⟩
    have HG : Hid (Grew w w1 B v v1 (l ++ headB 192 m.length)) := hg1
    have hb1 : w1.heap[g]? = w.heap[g]? := hg1.grown.block g h2 (fun e => AS.out.2.2.2.2.2 g e.symm rfl)
    have HC : Hid (∀ j, j < m.length → w1.cell? ⟨g, 0 + j, none⟩ = some (encB m[j]!)) := fun j hj => by
      rw [Nat.zero_add, World.cell?_of_block hb1]
      exact h6 j hj
    clear hg1 HH h1 h2 h3 h4 h5 h6 hb1
    go_wp2_with (at_builtin; refine wpList_append_own8 _ rfl _ _ 73 rfl 5 i0 Tryd.underlying73 hi hz0 hz1 hz2 B _ (l ++ headB 192 m.length) rfl HG.out.own g 0 cap m rfl HC.out ?d1 ?d2 ?_)
    case d1 => obtain ⟨_, _, a1, a2, a3, _⟩ := AS.out; rw [List.length_append]; omega
    case d2 => have := AS.out.2.1; have := HG.out.grown.size; omega
    intro v2 w2 hg2
    have g3 : Grew w w2 B v v2 (l ++ listCode m) := by
      have := HG.out.trans hg2
      rw [← HT.out]
      simpa using this
    have AS3 : Aside (Grew w w2 B v v2 (l ++ listCode m)) := g3
    clear hg2 g3
    go_wp2
    go_ret
    exact ⟨v2, rfl, AS3.out⟩
end Go.Proofs.YtjiikjpnlgogfaaDoor
