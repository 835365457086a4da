/-
  The codes' heads: HighestFirst, appendHead, AppendText, AppendList of package item.
-/
import Derived.Test.YtakidhihbgfjlaaGreatDoorSxOwnG
import Derived.OwnWalk
import Derived.Deep.RegionLaw
import Derived.Lib.Strings
namespace Go.Proofs.YtakidhihbgfjlaaGreatDoor
open Go.RowKit
set_option maxRecDepth 100000
set_option maxHeartbeats 25600000
def textB (l : List Nat) : ByteArray := ⟨(l.map UInt8.ofNat).toArray⟩
theorem Qaa (l : List Nat) : (textB l).size = l.length := by
 show (l.map UInt8.ofNat).toArray.size = _
 simp
variable {l : List Nat}
theorem Qa5 (h : ∀ x ∈ l, x < 256) : bytesOf (textB l) = l := by
 unfold bytesOf textB
 simp only [List.map_map]
 conv => rhs; rw [<- List.map_id l]
 apply List.map_congr_left
 intro x a
 have := h x a
 simp
 omega
theorem Qdu (l : List Nat) : ∀ r : ByteArray, (l.map (fun n : Nat => (n : Int))).foldl (fun r n => r.push (UInt8.ofNat n.toNat)) r = ⟨r.data ++ (l.map UInt8.ofNat).toArray⟩ := by
 induction l with
 | nil => intro r; simp
 | cons x l ih =>
  intro r
  simp only [List.map_cons, List.foldl_cons]
  rw [ih]
  simp [ByteArray.push]
variable {B : Nat} {v : Value}
theorem Qag {P : Program} (w : World) (src dst e : TypeId) (hs : P.underlying src = some (.slice e)) (he : P.underlying e = some (.int .u8)) (hd : P.underlying dst = some .string) (h : Own w B v l) :
  (convert src dst v).run P w = .ok (.string (textB l)) w := by
 rcases h with ⟨rfl, rfl⟩ | ⟨g, cap, rfl, _, _, _, _, _, h6⟩
 ·exact Lib.run_convert_nil_bytes w src dst e 0 hs he hd
 ·rw [run_convert_bytes_string w src dst e _ _ _ hs he hd]
  have a := run_loadCells_list (P := P) w ⟨g, 0, none⟩ (l.map encB) (fun j u c => by
   obtain ⟨d, rfl⟩ := (enc_getElem? l j u).1 c
   rw [Addr.add_mid, Nat.zero_add]
   exact h6 j d)
  rw [List.length_map] at a
  have b : l.map encB = (l.map (fun n : Nat => (n : Int))).map (Value.int .u8) := by rw [List.map_map]; rfl
  rw [b] at a
  rw [run_bytesToString w ⟨g, 0, none⟩ l.length cap _ a, Qdu]
  unfold textB
  simp
def bigAt (n : Nat) : Nat -> List Nat
 | 0 => []
 | i + 1 => if n / 2 ^ (56 - 8 * i) = 0 then bigAt n i else bigAt n i ++ [n / 2 ^ (56 - 8 * i) % 256]
def bigE (n : Nat) : List Nat := bigAt n 8
theorem Qck (n : Nat) : ∀ i, (bigAt n i).length <= i := by
 intro i
 induction i with
 | zero => simp [bigAt]
 | succ i ih =>
  rw [bigAt]
  split
  ·omega
  ·simp only [List.length_append, List.length_cons, List.length_nil]; omega
theorem Qx3 (n : Nat) : ∀ i, ∀ x ∈ bigAt n i, x < 256 := by
 intro i
 induction i with
 | zero => simp [bigAt]
 | succ i ih =>
  rw [bigAt]
  split
  ·exact ih
  ·intro x a
   rcases List.mem_append.1 a with a | a
   ·exact ih x a
   ·obtain rfl := List.mem_singleton.1 a
    exact Nat.mod_lt _ (by decide)
theorem Qoq (n : Nat) : (bigE n).length <= 8 := Qck n 8
theorem QA4 (n : Nat) : ∀ x ∈ bigE n, x < 256 := Qx3 n 8
theorem Qj6 (n : Nat) (h : n < 18446744073709551616) : IntKind.u64.wrap (n : Int) = (n : Int) := by
 simp only [IntKind.wrap_u64]
 omega
theorem Qc8 : (Tryz.prog.info? 5).map (fun i => (i.zero, i.size, i.bytes)) = some (some (.int .u8 0), 1, 1) := by kernel_rfl
theorem QA5 (n k : Nat) : ((n : Int) / 2 ^ k) = ((n / 2 ^ k : Nat) : Int) := by
 rw [Int.natCast_ediv, Int.natCast_pow]
 rfl
theorem Qor (n : Nat) (w : World) (hn : n < 18446744073709551616) :
  Calls Tryz.prog 101 #[.int .u64 (n : Int)] w fun e w' => e = .returned (.string (textB (bigE n))) /\ Below w.heap.size w w' := by
 obtain ⟨S, P, I, J, K⟩ := info_parts Qc8
 go_enter Tryz.func101, Tryz.ntmps101
 have Z : Hid (n < 18446744073709551616) := hn
 clear hn
 go_wp2
 go_loopg [3, 4] 8 (fun g v s wr => ∃ x : Nat, x <= 8 /\ g = 8 - x /\ s = .int .i64 (56 - 8 * (x : Int)) /\ Own wr w.heap.size v (bigAt n x) /\ Below w.heap.size w wr)
 case atStart => exact ⟨0, by omega, rfl, rfl, Own.nil _ _, Below.refl _ _⟩
 case round =>
  obtain ⟨x, hx, rfl, rfl, c, d⟩ := hrel
  by_cases V : x < 8
  ·obtain ⟨k, H⟩ : ∃ k, 56 - 8 * x = k := ⟨_, rfl⟩
   have y : (56 - 8 * (x : Int)) = (k : Int) := by omega
   rw [y]
   have a : bigAt n (x + 1) = if n / 2 ^ k = 0 then bigAt n x else bigAt n x ++ [n / 2 ^ k % 256] := by rw [<- H]; rfl
   have R : k < 64 := by omega
   obtain ⟨q, C⟩ : ∃ q, n / 2 ^ k = q := ⟨_, rfl⟩
   have Y : ((n : Int) / 2 ^ k) = (q : Int) := by rw [QA5, C]
   rw [C] at a
   have U : (0 : Int) <= (k : Int) := by omega
   have p := d.size
   have l := Qck n x
   have r : (k : Int) - 8 = 56 - 8 * ((x + 1 : Nat) : Int) := by omega
   have m : Hid ((k : Int) - 8 = 56 - 8 * ((x + 1 : Nat) : Int)) := r
   have b : Aside (Own wr w.heap.size u3 (bigAt n x) /\ Below w.heap.size w wr /\ w.heap.size <= wr.heap.size /\ (bigAt n x).length <= x) := ⟨c, d, p, l⟩
   clear c d H C y p l r
   by_cases f : q = 0
   ·subst f
    rw [if_pos rfl] at a
    have h : Aside (bigAt n (x + 1) = bigAt n x) := a
    clear a
    go_wp2
    go_roundg (8 - (x + 1))
    case measure => omega
    case rel => exact ⟨x + 1, by omega, rfl, Qas m.out, by rw [h.out]; exact b.out.1, b.out.2.1⟩
   ·rw [if_neg f] at a
    have X : ((q : Int) != 0) = true := by simp [f]
    have h : Aside (bigAt n (x + 1) = bigAt n x ++ [q % 256]) := a
    have B : Hid (∀ o, Own (wr.alloc o) w.heap.size u3 (bigAt n x)) := fun o => b.out.1.alloc o
    clear a f
    go_wp2_with (at_builtin; refine Qal _ rfl _ _ 41 rfl 5 S Tryz.underlying41 P I J K w.heap.size _ (bigAt n x) rfl (B.out _) wr.heap.size 0 1 [q % 256] rfl ?c1 ?c2 ?c3 ?_)
    case c1 =>
     intro j Q
     have G : j = 0 := by simpa using Q
     subst G
     rw [Nat.zero_add, World.cell?_alloc_new]
     simp
    case c2 => have := b.out.2.2.2; simp; omega
    case c3 => have := b.out.2.2.1; simp; omega
    intro T L i
    have F : Aside (Own L w.heap.size T (bigAt n (x + 1)) /\ Below w.heap.size w L) := by
     have O := b.out.2.2.1
     refine ⟨by rw [h.out]; exact i.own, i.below (B.out _) (b.out.2.1.alloc O _) (by simp; omega)⟩
    clear i B
    go_wp2
    go_roundg (8 - (x + 1))
    case measure => omega
    case rel => exact ⟨x + 1, by omega, rfl, Qas m.out, F.out⟩
  ·obtain rfl : x = 8 := by omega
   have z : ∀ W : World, W = wr -> Sem.run Tryz.prog (convert 41 9 u3) W = .ok (.string (textB (bigE n))) W := fun W N => by
    subst N
    exact Qag W 41 9 5 Tryz.underlying41 Tryz.underlying5 Tryz.underlying9 c
   have E := z wr rfl
   obtain ⟨t, D⟩ : ∃ t, textB (bigE n) = t := ⟨_, rfl⟩
   rw [D] at E
   have M : Hid (∀ u : Unit, textB (bigE n) = t) := fun _ => D
   have b : Aside (Below w.heap.size w wr) := d
   clear c d z D
   go_wp2
   go_ret
   exact ⟨by rw [M.out ()]; rfl, b.out⟩
def headB (kind n : Nat) : List Nat := if n <= 55 then [(kind + n) % 256] else (kind + 55 + (bigE n).length) % 256 :: bigE n
theorem Qc0 (kind n : Nat) : (headB kind n).length <= 9 := by
 unfold headB
 split
 ·simp
 ·have := Qck n 8
  simp only [List.length_cons]
  unfold bigE
  omega
theorem Qpq (kind n : Nat) (w : World) (hown : Own w B v l) (hB : B <= w.heap.size) (hn : n <= 70368744177664) (hl : l.length <= 70368744177664) :
  Calls Tryz.prog 82 #[v, .int .u8 (kind : Int), .int .i64 (n : Int)] w fun e w' => ∃ v', e = .returned v' /\ Grew w w' B v v' (l ++ headB kind n) := by
 obtain ⟨N, K, r, s, u⟩ := info_parts Qc8
 by_cases D : n <= 55
 ·have m : headB kind n = [(kind + n) % 256] := by unfold headB; rw [if_pos D]
  have i : Hid (∀ o, Own (w.alloc o) B v l) := fun o => hown.alloc o
  have I : (n : Int) <= 55 := by omega
  have b : Aside (Own w B v l /\ B <= w.heap.size /\ l.length <= 70368744177664) := ⟨hown, hB, hl⟩
  rw [m]
  clear hown hB hl m hn
  go_enter Tryz.func82, Tryz.ntmps82
  go_wp2_with (at_builtin; refine Qal _ rfl _ _ 41 rfl 5 N Tryz.underlying41 K r s u B _ l rfl (i.out _) w.heap.size 0 1 [(kind + n) % 256] rfl ?c1 ?c2 ?c3 ?_)
  case c1 =>
   intro j L
   have p : j = 0 := by simpa using L
   subst p
   rw [Nat.zero_add, World.cell?_alloc_new]
   simp
  case c2 => have := b.out.2.2; simp; omega
  case c3 => have := b.out.2.1; simp; omega
  intro x C a
  have h : Aside (Grew w C B v x (l ++ [(kind + n) % 256])) := a.after ((Below.refl _ _).alloc (Nat.le_refl _) _)
  clear a i
  go_wp2
  go_ret
  exact ⟨x, rfl, h.out⟩
 ·have m : headB kind n = (kind + 55 + (bigE n).length) % 256 :: bigE n := by unfold headB; rw [if_neg D]
  have I : ¬ (n : Int) <= 55 := by omega
  have E := Qoq n
  have k := QA4 n
  have y : Hid (∀ W, Calls Tryz.prog 101 #[.int .u64 (n : Int)] W fun e w' => e = .returned (.string (textB (bigE n))) /\ Below W.heap.size W w') := fun W => Qor n W (by omega)
  have S : Hid (IntKind.u64.wrap (n : Int) = (n : Int)) := Qj6 n (by omega)
  have b : Aside (Own w B v l /\ B <= w.heap.size /\ l.length <= 70368744177664) := ⟨hown, hB, hl⟩
  have g := Qaa (bigE n)
  have f : bytesOf (textB (bigE n)) = bigE n := Qa5 k
  rw [m]
  obtain ⟨d, J⟩ : ∃ d, bigE n = d := ⟨_, rfl⟩
  have F : d.length <= 8 := by rw [<- J]; exact E
  rw [J] at y g f ⊢
  obtain ⟨t, U⟩ : ∃ t, textB d = t := ⟨_, rfl⟩
  rw [U] at y g f
  have H : Hid (bytesOf t = d /\ t.size = d.length /\ d.length <= 8) := ⟨f, g, F⟩
  clear hown hB hl m hn E k J U f
  obtain ⟨q, M⟩ : ∃ q, d.length = q := ⟨_, rfl⟩
  rw [M] at g F ⊢
  have X : Hid (d.length = q) := M
  clear M
  go_enter Tryz.func82, Tryz.ntmps82
  go_wp2_with fail
  rw [S.out]
  refine (y.out _).mono ?_
  rintro e z ⟨rfl, c⟩
  have T := c.size
  have i : Hid (∀ o, Own (z.alloc o) B v l) := fun o => (b.out.1.below c).alloc o
  have P : Aside (Below w.heap.size w z /\ B <= z.heap.size) := ⟨c, by have := b.out.2.1; omega⟩
  clear c T y S
  go_wp2_with (at_builtin; refine Qal _ rfl _ _ 41 rfl 5 N Tryz.underlying41 K r s u B _ l rfl (i.out _) z.heap.size 0 1 [(kind + 55 + q) % 256] rfl ?c1 ?c2 ?c3 ?_)
  case c1 =>
   intro j L
   have p : j = 0 := by simpa using L
   subst p
   rw [Nat.zero_add, World.cell?_alloc_new]
   simp
  case c2 => have := b.out.2.2; simp; omega
  case c3 => have := P.out.2; simp; omega
  intro x C a
  have Q : Grew w C B v x (l ++ [(kind + 55 + q) % 256]) := (a.after ((Below.refl _ _).alloc (Nat.le_refl _) _)).after P.out.1
  have G : Hid (Grew w C B v x (l ++ [(kind + 55 + q) % 256])) := Q
  clear a i Q
  go_wp2_with (at_builtin; refine Qaq _ rfl _ _ 41 9 rfl 5 N Tryz.underlying41 Tryz.underlying9 K r s u B _ (l ++ [(kind + 55 + q) % 256]) rfl G.out.own t rfl ?d1 ?d2 ?_)
  case d1 => have := b.out.2.2; have := H.out.2.1; have := H.out.2.2; simp; omega
  case d2 => have := b.out.2.1; have := G.out.grown.size; omega
  intro O V a
  have R : Grew w V B v O (l ++ ((kind + 55 + q) % 256 :: d)) := by
   have := G.out.trans a
   rw [H.out.1] at this
   simpa using this
  have h : Aside (Grew w V B v O (l ++ ((kind + 55 + q) % 256 :: d))) := R
  clear a R
  go_wp2
  go_ret
  exact ⟨O, rfl, h.out⟩
def textCode (t : List Nat) : List Nat := (if t.length = 1 /\ t[0]! < 128 then [] else headB 128 t.length) ++ t
def listCode (t : List Nat) : List Nat := headB 192 t.length ++ t
theorem Qae (t : List Nat) : (textCode t).length <= t.length + 9 := by
 unfold textCode
 have := Qc0 128 t.length
 split <;> simp <;> omega
theorem Qcg (t : List Nat) : (listCode t).length <= t.length + 9 := by
 unfold listCode
 have := Qc0 192 t.length
 simp
 omega
theorem Qdd (s : ByteArray) (w : World) (hown : Own w B v l) (hB : B <= w.heap.size) (hs : s.size <= 70368744177600) (hl : l.length <= 70368744177600) :
  Calls Tryz.prog 60 #[v, .string s] w fun e w' => ∃ v', e = .returned v' /\ Grew w w' B v v' (l ++ textCode (bytesOf s)) := by
 obtain ⟨C, z, q, r, t⟩ := info_parts Qc8
 have b := bytesOf_length s
 have k : Hid (Calls Tryz.prog 82 #[v, .int .u8 ((128 : Nat) : Int), .int .i64 (s.size : Int)] w fun e w' => ∃ v', e = .returned v' /\ Grew w w' B v v' (l ++ headB 128 s.size)) := Qpq 128 s.size w hown hB (by omega) (by omega)
 have j : Aside (Own w B v l /\ B <= w.heap.size /\ l.length <= 70368744177600 /\ s.size <= 70368744177600 /\ (headB 128 s.size).length <= 9) := ⟨hown, hB, hl, hs, Qc0 _ _⟩
 have c : ∀ {W : World} {u : Value} {m : List Nat}, Grew w W B v u (l ++ m) -> ∀ {W' : World} {u' : Value}, Grew W W' B u u' (l ++ (m ++ bytesOf s)) -> m ++ bytesOf s = textCode (bytesOf s) -> Grew w W' B v u' (l ++ textCode (bytesOf s)) := fun N _ _ O e => by
  have := N.trans O
  rw [e] at this
  exact this
 by_cases p : s.size = 1
 ·have y : 0 < s.size := by omega
  have I : (bytesOf s)[0]! = (s[0]'y).toNat := by
   unfold bytesOf
   rw [getElem!_pos _ 0 (by simpa using y)]
   simp
   rfl
  by_cases x : (bytesOf s)[0]! < 128
  ·have e : ([] : List Nat) ++ bytesOf s = textCode (bytesOf s) := by
    unfold textCode
    rw [if_pos ⟨by rw [b, p], x⟩]
   have J : ((s[0]'y).toNat : Int) < 128 := by omega
   have n : Hid (([] : List Nat) ++ bytesOf s = textCode (bytesOf s)) := e
   have L : Hid (Own w B v l) := hown
   clear hown hB hs hl e b I x k
   go_enter Tryz.func60, Tryz.ntmps60
   go_wp2_with (at_builtin; refine Qaq _ rfl _ _ 41 9 rfl 5 C Tryz.underlying41 Tryz.underlying9 z q r t B _ l rfl L.out s rfl ?d1 ?d2 ?_)
   case d1 => obtain ⟨_, _, F, G, _⟩ := j.out; omega
   case d2 => exact j.out.2.1
   intro d o a
   have H : Grew w o B v d (l ++ textCode (bytesOf s)) := by
    rw [<- n.out]
    simpa using a
   have f : Aside (Grew w o B v d (l ++ textCode (bytesOf s))) := H
   clear H
   clear a c
   go_wp2
   go_ret
   exact ⟨d, rfl, f.out⟩
  ·have e : headB 128 s.size ++ bytesOf s = textCode (bytesOf s) := by
    unfold textCode
    rw [if_neg (fun h => x h.2), b]
   have J : (128 : Int) <= ((s[0]'y).toNat : Int) := by omega
   have n : Hid (headB 128 s.size ++ bytesOf s = textCode (bytesOf s)) := e
   clear hown hB hs hl e b I x
   go_enter Tryz.func60, Tryz.ntmps60
   go_wp2_with fail
   rw [p] at k
   refine k.out.mono ?_
   rintro e E ⟨D, rfl, g⟩
   have i : Hid (Grew w E B v D (l ++ headB 128 1)) := g
   rw [p] at n
   clear g k
   have K : Aside ((headB 128 1).length <= 9) := Qc0 _ _
   go_wp2_with (at_builtin; refine Qaq _ rfl _ _ 41 9 rfl 5 C Tryz.underlying41 Tryz.underlying9 z q r t B _ (l ++ headB 128 1) rfl i.out.own s rfl ?d1 ?d2 ?_)
   case d1 => obtain ⟨_, _, F, G, M⟩ := j.out; have := K.out; rw [List.length_append]; omega
   case d2 => have := j.out.2.1; have := i.out.grown.size; omega
   intro d o a
   have f : Aside (Grew w o B v d (l ++ textCode (bytesOf s))) := c i.out a n.out
   clear a c
   go_wp2
   go_ret
   exact ⟨d, rfl, f.out⟩
 ·have e : headB 128 s.size ++ bytesOf s = textCode (bytesOf s) := by
   unfold textCode
   rw [if_neg (fun h => p (by rw [<- b]; exact h.1)), b]
  have P : ¬ (s.size : Int) = 1 := by omega
  have n : Hid (headB 128 s.size ++ bytesOf s = textCode (bytesOf s)) := e
  clear hown hB hs hl e b p
  go_enter Tryz.func60, Tryz.ntmps60
  go_wp2_with fail
  refine k.out.mono ?_
  rintro e E ⟨D, rfl, g⟩
  have i : Hid (Grew w E B v D (l ++ headB 128 s.size)) := g
  clear g k
  go_wp2_with (at_builtin; refine Qaq _ rfl _ _ 41 9 rfl 5 C Tryz.underlying41 Tryz.underlying9 z q r t B _ (l ++ headB 128 s.size) rfl i.out.own s rfl ?d1 ?d2 ?_)
  case d1 => obtain ⟨_, _, F, G, M⟩ := j.out; rw [List.length_append]; omega
  case d2 => have := j.out.2.1; have := i.out.grown.size; omega
  intro d o a
  have f : Aside (Grew w o B v d (l ++ textCode (bytesOf s))) := c i.out a n.out
  clear a c
  go_wp2
  go_ret
  exact ⟨d, rfl, f.out⟩
theorem Qkw {u : Value} {m : List Nat} (w : World) (hown : Own w B v l) (hu : Own w B u m) (hne : ∀ k, v.ownBlock = some k -> u.ownBlock ≠ some k) (hB : B <= w.heap.size) (hm : m.length <= 70368744177600) (hl : l.length <= 70368744177600) :
  Calls Tryz.prog 145 #[v, u] w fun e w' => ∃ v', e = .returned v' /\ Grew w w' B v v' (l ++ listCode m) := by
 obtain ⟨L, J, E, F, G⟩ := info_parts Qc8
 have o : Hid (Calls Tryz.prog 82 #[v, .int .u8 ((192 : Nat) : Int), .int .i64 (m.length : Int)] w fun e w' => ∃ v', e = .returned v' /\ Grew w w' B v v' (l ++ headB 192 m.length)) := Qpq 192 m.length w hown hB (by omega) (by omega)
 have h := Qc0 192 m.length
 have r : Aside (Own w B u m /\ B <= w.heap.size /\ l.length <= 70368744177600 /\ m.length <= 70368744177600 /\ (headB 192 m.length).length <= 9 /\ (∀ k, v.ownBlock = some k -> u.ownBlock ≠ some k)) := ⟨hu, hB, hl, hm, h, hne⟩
 have e : l ++ (headB 192 m.length ++ m) = l ++ listCode m := rfl
 have y : Hid (l ++ (headB 192 m.length ++ m) = l ++ listCode m) := e
 clear e
 rcases hu with ⟨rfl, rfl⟩ | ⟨g, cap, rfl, h1, h2, h3, h4, h5, h6⟩
 ·clear hown hne hB hm hl h
  go_enter Tryz.func145, Tryz.ntmps145
  go_wp2_with fail
  refine o.out.mono ?_
  rintro e c ⟨s, rfl, a⟩
  have f : Grew w c B v s (l ++ headB 192 0) := a
  clear a
  have i : 0 < (l ++ headB 192 0).length := by
   have : headB 192 0 = [192] := rfl
   rw [this]
   simp
  obtain ⟨g, cap, rfl, _, _, d, _⟩ := f.own.full i
  have z : l ++ headB 192 0 = l ++ listCode [] := by rw [<- y.out]; simp
  have b : Hid (Grew w c B v (.slice (some ⟨g, 0, none⟩) (l ++ headB 192 0).length cap) (l ++ listCode [])) := by rw [<- z]; exact f
  obtain ⟨n, D⟩ : ∃ n, (l ++ headB 192 0).length = n := ⟨_, rfl⟩
  rw [D] at d b ⊢
  have M : n + 0 <= cap := d
  clear f o i z D
  go_wp2
  go_ret
  exact ⟨_, rfl, b.out⟩
 ·clear hown hne hB hm hl h
  go_enter Tryz.func145, Tryz.ntmps145
  go_wp2_with fail
  refine o.out.mono ?_
  rintro e c ⟨s, rfl, a⟩
  have b : Hid (Grew w c B v s (l ++ headB 192 m.length)) := a
  have p : c.heap[g]? = w.heap[g]? := a.grown.block g h2 (fun e => r.out.2.2.2.2.2 g e.symm rfl)
  have I : Hid (∀ j, j < m.length -> c.cell? ⟨g, 0 + j, none⟩ = some (encB m[j]!)) := fun j K => by
   rw [Nat.zero_add, World.cell?_of_block p]
   exact h6 j K
  clear a o h1 h2 h3 h4 h5 h6 p
  go_wp2_with (at_builtin; refine Qal _ rfl _ _ 41 rfl 5 L Tryz.underlying41 J E F G B _ (l ++ headB 192 m.length) rfl b.out.own g 0 cap m rfl I.out ?d1 ?d2 ?_)
  case d1 => obtain ⟨_, _, N, O, P, _⟩ := r.out; rw [List.length_append]; omega
  case d2 => have := r.out.2.1; have := b.out.grown.size; omega
  intro t H q
  have C : Grew w H B v t (l ++ listCode m) := by
   have := b.out.trans q
   rw [<- y.out]
   simpa using this
  have x : Aside (Grew w H B v t (l ++ listCode m)) := C
  clear q C
  go_wp2
  go_ret
  exact ⟨t, rfl, x.out⟩
def nibs (l : List Nat) : List Nat := l.flatMap fun x => [x / 16, x % 16]
theorem Qbv (l : List Nat) : (nibs l).length = 2 * l.length := by
 induction l with
 | nil => rfl
 | cons x l ih =>
  have : nibs (x :: l) = [x / 16, x % 16] ++ nibs l := rfl
  rw [this, List.length_append, ih]
  simp
  omega
theorem Qtp (l : List Nat) (x : Nat) : nibs (l ++ [x]) = nibs l ++ [x / 16, x % 16] := by
 unfold nibs
 rw [List.flatMap_append]
 simp
theorem Qhg (x : Nat) (h : x < 4194304) : wrap64 ((x : Int) + 1) = ((x + 1 : Nat) : Int) := by
 unfold wrap64
 omega
theorem QDh (x : Nat) (h : x < 256) : bits .and .u8 (x : Int) 15 = ((x % 16 : Nat) : Int) := by
 have a : ∀ i : Fin 256, bits .and .u8 (i.val : Int) 15 = ((i.val % 16 : Nat) : Int) := by decide +kernel
 exact a ⟨x, h⟩
theorem Qhh (s : ByteArray) (w : World) (hown : Own w B v l) (hB : B <= w.heap.size) (hs : s.size <= 4194304) (hl : l.length <= 4194304) :
  Calls Tryz.prog 51 #[v, .string s] w fun e w' => ∃ v', e = .returned v' /\ Grew w w' B v v' (l ++ nibs (bytesOf s)) := by
 obtain ⟨U, T, M, N, O⟩ := info_parts Qc8
 have k := bytesOf_length s
 go_enter Tryz.func51, Tryz.ntmps51
 go_wp2
 go_loopg [0, 8] s.size (fun g u i wr => ∃ x : Nat, x <= s.size /\ g = s.size - x /\ i = .int .i64 (x : Int) /\ Grew w wr B v u (l ++ nibs ((bytesOf s).take x)))
 case atStart => exact ⟨0, by omega, rfl, rfl, by simpa [nibs] using Grew.refl hown⟩
 case round =>
  obtain ⟨x, W, rfl, rfl, a⟩ := hrel
  by_cases f : x < s.size
  ·obtain ⟨c, y⟩ : ∃ c, (bytesOf s)[x]! = c := ⟨_, rfl⟩
   have o : (s[x]'f).toNat = c := by
    rw [<- y]
    unfold bytesOf
    rw [getElem!_pos _ x (by simpa using f)]
    simp
    rfl
   have J : c < 256 := by rw [<- o]; exact UInt8.toNat_lt _
   have d : (bytesOf s).take (x + 1) = (bytesOf s).take x ++ [c] := by
    rw [List.take_succ_eq_append_getElem (by omega), <- y, getElem!_pos _ x (by omega)]
   have p : nibs ((bytesOf s).take (x + 1)) = nibs ((bytesOf s).take x) ++ [c / 16, c % 16] := by rw [d, Qtp]
   have t := QDh c J
   have n : (nibs ((bytesOf s).take x)).length = 2 * x := by rw [Qbv, List.length_take]; omega
   have K : (x : Int) < (s.size : Int) := by omega
   have b : Aside (Grew w wr B v u0 (l ++ nibs ((bytesOf s).take x)) /\ B <= w.heap.size /\ l.length <= 4194304 /\ s.size <= 4194304 /\ (nibs ((bytesOf s).take x)).length = 2 * x /\ nibs ((bytesOf s).take (x + 1)) = nibs ((bytesOf s).take x) ++ [c / 16, c % 16]) := ⟨a, hB, hl, hs, n, p⟩
   clear a y d p n hown hB hs hl k
   obtain ⟨m, h⟩ : ∃ m, l ++ nibs ((bytesOf s).take x) = m := ⟨_, rfl⟩
   have q : Hid (∀ u : Unit, l ++ nibs ((bytesOf s).take x) = m) := fun _ => h
   have G : Hid (Own (wr.drew.alloc (.cells #[.int .u8 ((c : Int) / 16), .int .u8 ((c : Int) % 16)] 5)) B u0 m) := by
    rw [<- h]
    exact b.out.1.own.drew.alloc _
   have F : Hid (∀ j, j < [c / 16, c % 16].length -> (wr.drew.alloc (.cells #[.int .u8 ((c : Int) / 16), .int .u8 ((c : Int) % 16)] 5)).cell? ⟨wr.heap.size, 0 + j, none⟩ = some (encB [c / 16, c % 16][j]!)) := by
    intro j hj
    have e := World.cell?_alloc_new wr.drew #[.int .u8 ((c : Int) / 16), .int .u8 ((c : Int) % 16)] 5 (0 + j)
    refine Eq.trans e ?_
    match j, hj with
    | 0, _ => simp
    | 1, _ => simp
    | j + 2, hj => simp only [List.length_cons, List.length_nil] at hj; omega
   have H : m.length + [c / 16, c % 16].length <= 140737488355328 := by
    obtain ⟨_, _, r, V, R, _⟩ := b.out
    rw [<- h, List.length_append, R]
    simp only [List.length_cons, List.length_nil]
    omega
   have I : B <= (wr.drew.alloc (.cells #[.int .u8 ((c : Int) / 16), .int .u8 ((c : Int) % 16)] 5)).heap.size := by
    have := b.out.1.grown.size
    have := b.out.2.1
    simp
    omega
   have D : Hid (m.length + [c / 16, c % 16].length <= 140737488355328) := H
   have E : Hid (B <= (wr.drew.alloc (.cells #[.int .u8 ((c : Int) / 16), .int .u8 ((c : Int) % 16)] 5)).heap.size) := I
   clear h H I
   go_wp2
   go_region_law (refine Qgv _ rfl (.tmp 11) (.tmp 20) 41 rfl 5 U Tryz.underlying41 T M N O B u0 m (by simp [Act.eval]) G.out wr.heap.size 0 2 [c / 16, c % 16] (by simp [Act.eval]) F.out D.out E.out ?_; intro P Q a)
   all_goals
    have C : Grew w Q B v P (l ++ nibs ((bytesOf s).take (x + 1))) := by
     obtain ⟨r, _, _, _, _, S⟩ := b.out
     rw [S, <- List.append_assoc, q.out ()]
     rw [q.out ()] at r
     exact r.trans (a.after ((Below.refl _ _).drew.alloc (Nat.le_refl _) _))
    have z : Aside (Grew w Q B v P (l ++ nibs ((bytesOf s).take (x + 1)))) := C
    clear C a G F D E q t o
    go_wp2
    obtain ⟨_, hB, hl, hs, _, _⟩ := b.out
    go_roundg (s.size - (x + 1))
    case measure => omega
    case rel => exact ⟨x + 1, by omega, rfl, Qas (Qhg x (by omega)), z.out⟩
  ·have L : x = s.size := by omega
   have d : (bytesOf s).take x = bytesOf s := List.take_of_length_le (by omega)
   rw [d] at a
   have K : (s.size : Int) <= (x : Int) := by omega
   have b : Aside (Grew w wr B v u0 (l ++ nibs (bytesOf s))) := a
   clear a f L d hown hB hs hl k
   go_wp2
   go_ret
   exact ⟨u0, rfl, b.out⟩
def pairs : List Nat -> List Nat
 | a :: b :: r => (a * 16 + b) :: pairs r
 | _ => []
theorem Qgg : ∀ l : List Nat, (pairs l).length = l.length / 2
 | [] => rfl
 | [_] => by simp [pairs]
 | a :: b :: r => by
  rw [pairs, List.length_cons, Qgg r]
  simp only [List.length_cons]
  omega
theorem Qrc : ∀ (l : List Nat) (a b : Nat), l.length % 2 = 0 -> pairs (l ++ [a, b]) = pairs l ++ [a * 16 + b]
 | [], a, b, _ => rfl
 | [_], _, _, h => by simp at h
 | x :: y :: r, a, b, h => by
  have := Qrc r a b (by simp at h; omega)
  simp only [List.cons_append, pairs, this]
def pathCode (p : List Nat) (leaf : Bool) : List Nat :=
 ((if leaf then 32 else 0) + (if p.length % 2 = 1 then 16 + p[0]! else 0)) :: pairs (p.drop (p.length % 2))
theorem Qx4 (a b : Nat) (ha : a < 16) (hb : b < 16) : bits .or .u8 ((a : Int) * 16) (b : Int) = ((a * 16 + b : Nat) : Int) := by
 have c : ∀ i : Fin 16, ∀ j : Fin 16, bits .or .u8 ((i.val : Int) * 16) (j.val : Int) = ((i.val * 16 + j.val : Nat) : Int) := by decide +kernel
 exact c ⟨a, ha⟩ ⟨b, hb⟩
theorem Qx5 (c : Nat) (h : c < 16) : IntKind.u8.wrap ((c : Int) * 16) = (c : Int) * 16 := by
 simp only [IntKind.wrap, IntKind.bits, IntKind.signed]
 simp
 omega
theorem Qbo (r : ByteArray) (j : Nat) (hj : j < r.size) : (r[j]'hj).toNat = (bytesOf r)[j]! := by
 unfold bytesOf
 rw [getElem!_pos _ j (by simpa using hj)]
 simp
 rfl
theorem Qaz (s : ByteArray) : bytesOf (s.extract 1 s.size) = (bytesOf s).drop 1 := by
 unfold bytesOf
 rw [<- List.map_drop]
 congr 1
 simp only [ByteArray.data_extract, Array.toList_extract, List.extract_eq_take_drop]
 rw [List.take_of_length_le]
 simp
def pairsU : List Nat -> List Nat
 | a :: b :: r => (a * 16 + b) :: pairsU r
 | [a] => [a * 16]
 | [] => []
theorem Qhi : ∀ l : List Nat, l.length % 2 = 0 -> pairsU l = pairs l
 | [], _ => rfl
 | [_], h => by simp at h
 | a :: b :: r, h => by rw [pairsU, pairs, Qhi r (by simp only [List.length_cons] at h; omega)]
theorem Qb3 : ∀ l : List Nat, (pairsU l).length = (l.length + 1) / 2
 | [] => rfl
 | [_] => by simp [pairsU]
 | a :: b :: r => by
  rw [pairsU, List.length_cons, Qb3 r]
  simp only [List.length_cons]
  omega
theorem Qhj : ∀ (l : List Nat) (a b : Nat), l.length % 2 = 0 -> pairsU (l ++ [a, b]) = pairsU l ++ [a * 16 + b]
 | [], a, b, _ => rfl
 | [_], _, _, h => by simp at h
 | x :: y :: r, a, b, h => by
  have := Qhj r a b (by simp at h; omega)
  simp only [List.cons_append, pairsU, this]
theorem Qgh : ∀ (l : List Nat) (a : Nat), l.length % 2 = 0 -> pairsU (l ++ [a]) = pairsU l ++ [a * 16]
 | [], a, _ => rfl
 | [_], _, h => by simp at h
 | x :: y :: r, a, h => by
  have := Qgh r a (by simp at h; omega)
  simp only [List.cons_append, pairsU, this]
theorem Qmr (s : ByteArray) (w : World) (hown : Own w B v l) (hB : B <= w.heap.size) (hs : s.size <= 4194304) (hl : l.length <= 4194304) (hn : ∀ x ∈ bytesOf s, x < 16) :
  Calls Tryz.prog 152 #[v, .string s] w fun e w' => ∃ v', e = .returned v' /\ Grew w w' B v v' (l ++ pairsU (bytesOf s)) := by
 obtain ⟨W, U, M, N, O⟩ := info_parts Qc8
 have h := bytesOf_length s
 have HS : Hid (s.size <= 4194304 /\ B <= w.heap.size /\ l.length <= 4194304 /\ (∀ x ∈ bytesOf s, x < 16) /\ (bytesOf s).length = s.size) := ⟨hs, hB, hl, hn, h⟩
 have HW : Hid (Own w B v l) := hown
 clear hown hB hs hl hn h
 go_enter Tryz.func152, Tryz.ntmps152
 go_wp2
 go_loopg [0, 5] s.size (fun g u i wr => ∃ x : Nat, 2 * x <= s.size + 1 /\ g = s.size - 2 * x /\ i = .int .i64 (2 * (x : Int)) /\ Grew w wr B v u (l ++ pairsU ((bytesOf s).take (2 * x))))
 case atStart => exact ⟨0, by omega, rfl, rfl, by simpa [pairsU] using Grew.refl HW.out⟩
 case round =>
  obtain ⟨x, hx, rfl, rfl, a⟩ := hrel
  obtain ⟨hs, hB, hl, hn, h⟩ := HS.out
  by_cases D : 2 * x < s.size
  ·obtain ⟨c, y⟩ : ∃ c, (bytesOf s)[2 * x]! = c := ⟨_, rfl⟩
   have J : (s[2 * x]'D).toNat = c := by rw [<- y]; exact Qbo s (2 * x) D
   have m : c < 16 := by rw [<- y, getElem!_pos (bytesOf s) _ (by omega)]; exact hn _ (List.getElem_mem _)
   have F : (bytesOf s)[2 * x]'(by omega) = c := by rw [<- y, getElem!_pos (bytesOf s) _ (by omega)]
   have R : wrap64 (2 * (x : Int) + 2) = 2 * ((x + 1 : Nat) : Int) := by unfold wrap64; omega
   have H : Hid (wrap64 (2 * (x : Int) + 2) = 2 * ((x + 1 : Nat) : Int)) := R
   have X : (2 * (x : Int)).toNat = 2 * x := by omega
   have Y : (2 * (x : Int) + 1).toNat = 2 * x + 1 := by omega
   have Z : 2 * (x : Int) < (s.size : Int) := by omega
   have k1 : IntKind.i64.wrap (2 * (x : Int) + 1) = 2 * (x : Int) + 1 := Qar _ (by omega) (by omega)
   have Q := Qx5 c m
   have i5 : (0 : Int) <= 2 * (x : Int) := by omega
   have i6 : (0 : Int) <= 2 * (x : Int) + 1 := by omega
   have I : (pairsU ((bytesOf s).take (2 * x))).length <= 4194304 := by rw [Qb3, List.length_take]; omega
   have r : ((bytesOf s).take (2 * x)).length % 2 = 0 := by rw [List.length_take]; omega
   have n : ∀ z : Nat, pairsU ((bytesOf s).take (2 * (x + 1))) = pairsU ((bytesOf s).take (2 * x)) ++ [z] -> 
     Hid (∀ k, k = wr.alloc (.cells #[.int .u8 (z : Int)] 5) -> Own k B u0 (l ++ pairsU ((bytesOf s).take (2 * x))) /\ (∀ j, j < [z].length -> k.cell? ⟨wr.heap.size, 0 + j, none⟩ = some (encB [z][j]!)) /\ (l ++ pairsU ((bytesOf s).take (2 * x))).length + [z].length <= 140737488355328 /\ B <= k.heap.size /\
      ∀ p q, Grew k q B u0 p ((l ++ pairsU ((bytesOf s).take (2 * x))) ++ [z]) -> Grew w q B v p (l ++ pairsU ((bytesOf s).take (2 * (x + 1))))) := by
    intro z o k hw
    subst hw
    refine ⟨a.own.alloc _, ?_, ?_, ?_, ?_⟩
    ·intro j hj
     have V : j = 0 := by simpa using hj
     subst V
     exact World.cell?_alloc_new wr #[.int .u8 (z : Int)] 5 0
    ·simp only [List.length_append, List.length_cons, List.length_nil]
     omega
    ·have := a.grown.size
     simp
     omega
    ·intro p q h2
     rw [o, <- List.append_assoc]
     exact a.trans (h2.after ((Below.refl _ _).alloc (Nat.le_refl _) _))
   by_cases L : 2 * x + 1 < s.size
   ·obtain ⟨d, G⟩ : ∃ d, (bytesOf s)[2 * x + 1]! = d := ⟨_, rfl⟩
    have T : (s[2 * x + 1]'L).toNat = d := by rw [<- G]; exact Qbo s (2 * x + 1) L
    have C : d < 16 := by rw [<- G, getElem!_pos (bytesOf s) _ (by omega)]; exact hn _ (List.getElem_mem _)
    have S : (bytesOf s)[2 * x + 1]'(by omega) = d := by rw [<- G, getElem!_pos (bytesOf s) _ (by omega)]
    have f : (bytesOf s).take (2 * (x + 1)) = (bytesOf s).take (2 * x) ++ [c, d] := by
     rw [show 2 * (x + 1) = 2 * x + 1 + 1 by omega, List.take_succ_eq_append_getElem (by omega), List.take_succ_eq_append_getElem (by omega), F, S]
     simp
    have K := Qx4 c d m C
    have P : 2 * (x : Int) + 1 < (s.size : Int) := by omega
    obtain ⟨z, o⟩ : ∃ z, c * 16 + d = z := ⟨_, rfl⟩
    have b := n z (by rw [f, Qhj _ _ _ r, o])
    rw [o] at K
    clear f F S G y C m o n a hs hB hl hn h I r R
    go_wp2_with (at_builtin; refine Qal _ rfl _ _ 41 rfl 5 W Tryz.underlying41 U M N O B u0 _ rfl (b.out _ rfl).1 wr.heap.size 0 1 [z] rfl (b.out _ rfl).2.1 (b.out _ rfl).2.2.1 (b.out _ rfl).2.2.2.1 ?_; intro p q a; have t : Aside (Grew w q B v p (l ++ pairsU ((bytesOf s).take (2 * (x + 1))))) := (b.out _ rfl).2.2.2.2 _ _ a; clear a b)
    clear J T k1 Q K X Y Z P i5 i6
    go_roundg (s.size - 2 * (x + 1))
    case measure => omega
    case rel => exact ⟨x + 1, by omega, rfl, Qas H.out, t.out⟩
   ·have f : (bytesOf s).take (2 * (x + 1)) = (bytesOf s).take (2 * x) ++ [c] := by
     rw [List.take_of_length_le (by omega), show bytesOf s = (bytesOf s).take (2 * x + 1) from (List.take_of_length_le (by omega)).symm, List.take_succ_eq_append_getElem (by omega), F]
     rw [List.take_append_of_le_length (by rw [List.length_take]; omega), List.take_take, Nat.min_self]
    have P : (s.size : Int) <= 2 * (x : Int) + 1 := by omega
    obtain ⟨z, o⟩ : ∃ z, c * 16 = z := ⟨_, rfl⟩
    have b := n z (by rw [f, Qgh _ _ r, o])
    have E : (c : Int) * 16 = (z : Int) := by omega
    rw [E] at Q
    clear f F y m o n a hs hB hl hn h I r R
    go_wp2_with (at_builtin; refine Qal _ rfl _ _ 41 rfl 5 W Tryz.underlying41 U M N O B u0 _ rfl (b.out _ rfl).1 wr.heap.size 0 1 [z] rfl (b.out _ rfl).2.1 (b.out _ rfl).2.2.1 (b.out _ rfl).2.2.2.1 ?_; intro p q a; have t : Aside (Grew w q B v p (l ++ pairsU ((bytesOf s).take (2 * (x + 1))))) := (b.out _ rfl).2.2.2.2 _ _ a; clear a b)
    clear J k1 Q E X Y Z P i5 i6
    go_roundg (s.size - 2 * (x + 1))
    case measure => omega
    case rel => exact ⟨x + 1, by omega, rfl, Qas H.out, t.out⟩
  ·have aa : (s.size : Int) <= 2 * (x : Int) := by omega
   have f : (bytesOf s).take (2 * x) = bytesOf s := List.take_of_length_le (by omega)
   rw [f] at a
   have AS : Aside (Grew w wr B v u0 (l ++ pairsU (bytesOf s))) := a
   clear a D f hs hB hl hn h
   go_wp2
   go_ret
   exact ⟨u0, rfl, AS.out⟩
theorem Qpr (s : ByteArray) (leaf : Bool) (w : World) (hs : s.size <= 4194304) (hn : ∀ x ∈ bytesOf s, x < 16) :
  Calls Tryz.prog 144 #[.string s, .bool leaf] w fun e w' => e = .returned (.string (textB (pathCode (bytesOf s) leaf))) /\ Below w.heap.size w w' := by
 have c := bytesOf_length s
 have p : Hid (∀ (f : Nat) (r : ByteArray) (z : Int), z = (f : Int) -> (∀ x ∈ bytesOf r, x < 16) -> r.size <= 4194304 -> (bytesOf r).length % 2 = 0 -> Calls Tryz.prog 152 #[.slice (some ⟨w.heap.size, 0, none⟩) 1 1, .string r] (w.alloc (.cells #[.int .u8 z] 5)) fun e w' => ∃ q, e = .returned q /\ Below w.heap.size w w' /\ (convert 41 9 q).run Tryz.prog w' = .ok (.string (textB (f :: pairs (bytesOf r)))) w') := by
  intro f r z J y I B
  subst J
  have G : Own (w.alloc (.cells #[.int .u8 (f : Int)] 5)) w.heap.size (.slice (some ⟨w.heap.size, 0, none⟩) 1 1) [f] := Own.ofCells w 5 [f] (by unfold maxLen; simp)
  refine (Qmr r _ G (by simp) I (by simp) y).mono ?_
  rintro e w' ⟨q, rfl, C⟩
  refine ⟨q, rfl, C.below G ((Below.refl _ _).alloc (Nat.le_refl _) _) (by simp), ?_⟩
  have D := C.own
  rw [Qhi _ B] at D
  exact Qag w' 41 9 5 Tryz.underlying41 Tryz.underlying5 Tryz.underlying9 D
 by_cases a : s.size % 2 = 1
 ·have E : ((s.size : Int) % 2 == 1) = true := by simp; omega
  have F : 0 < s.size := by omega
  obtain ⟨b, H⟩ : ∃ b, (s[0]'F).toNat = b := ⟨_, rfl⟩
  have j : (bytesOf s)[0]! = b := by rw [<- H, Qbo s 0 F]
  have k : b < 16 := by rw [<- j, getElem!_pos _ 0 (by omega)]; exact hn _ (List.getElem_mem _)
  have K : (16 + (b : Int)) % 256 = 16 + (b : Int) := by omega
  have L : (32 + (16 + (b : Int))) % 256 = 32 + (16 + (b : Int)) := by omega
  have o : Aside (s.size <= 4194304 /\ (∀ x ∈ bytesOf s, x < 16) /\ (bytesOf s).length = s.size /\ (bytesOf s)[0]! = b /\ b < 16 /\ s.size % 2 = 1) := ⟨hs, hn, c, j, k, a⟩
  clear hs hn c j k a
  go_enter Tryz.func144, Tryz.ntmps144
  cases leaf
  ·go_wp2_with fail
   obtain ⟨hs, hn, c, j, k, a⟩ := o.out
   have d : (16 + b) :: pairs (bytesOf (s.extract 1 s.size)) = pathCode (bytesOf s) false := by
    unfold pathCode
    rw [Qaz, c, a, if_pos rfl, j]
    simp
   refine (p.out (16 + b) (s.extract 1 s.size) (16 + (b : Int)) (by simp) (by rw [Qaz]; exact fun x u => hn x (List.mem_of_mem_drop u)) (by have := bytesOf_length (s.extract 1 s.size); rw [Qaz, List.length_drop, c] at this; omega) (by rw [Qaz, List.length_drop, c]; omega)).mono ?_
   rintro e n ⟨v, rfl, g, h⟩
   rw [d] at h
   obtain ⟨t, i⟩ : ∃ t, textB (pathCode (bytesOf s) false) = t := ⟨_, rfl⟩
   rw [i] at h
   have m : Hid (textB (pathCode (bytesOf s) false) = t) := i
   have l : Aside (Below w.heap.size w n) := g
   clear g i d hs hn c a
   go_wp2
   go_ret
   exact ⟨by rw [m.out]; rfl, l.out⟩
  ·go_wp2_with fail
   obtain ⟨hs, hn, c, j, k, a⟩ := o.out
   have d : (32 + (16 + b)) :: pairs (bytesOf (s.extract 1 s.size)) = pathCode (bytesOf s) true := by
    unfold pathCode
    rw [Qaz, c, a, if_pos rfl, j]
    simp
   refine (p.out (32 + (16 + b)) (s.extract 1 s.size) (32 + (16 + (b : Int))) (by simp) (by rw [Qaz]; exact fun x u => hn x (List.mem_of_mem_drop u)) (by have := bytesOf_length (s.extract 1 s.size); rw [Qaz, List.length_drop, c] at this; omega) (by rw [Qaz, List.length_drop, c]; omega)).mono ?_
   rintro e n ⟨v, rfl, g, h⟩
   rw [d] at h
   obtain ⟨t, i⟩ : ∃ t, textB (pathCode (bytesOf s) true) = t := ⟨_, rfl⟩
   rw [i] at h
   have m : Hid (textB (pathCode (bytesOf s) true) = t) := i
   have l : Aside (Below w.heap.size w n) := g
   clear g i d hs hn c a
   go_wp2
   go_ret
   exact ⟨by rw [m.out]; rfl, l.out⟩
 ·have E : ((s.size : Int) % 2 == 1) = false := by simp; omega
  have o : Aside (s.size <= 4194304 /\ (∀ x ∈ bytesOf s, x < 16) /\ (bytesOf s).length = s.size /\ s.size % 2 = 0) := ⟨hs, hn, c, by omega⟩
  clear hs hn c a
  go_enter Tryz.func144, Tryz.ntmps144
  cases leaf
  ·go_wp2_with fail
   obtain ⟨hs, hn, c, a⟩ := o.out
   have d : 0 :: pairs (bytesOf s) = pathCode (bytesOf s) false := by
    unfold pathCode
    rw [c, a]
    rfl
   refine (p.out 0 s 0 (by rfl) (hn) (hs) (by rw [c]; exact a)).mono ?_
   rintro e n ⟨v, rfl, g, h⟩
   rw [d] at h
   obtain ⟨t, i⟩ : ∃ t, textB (pathCode (bytesOf s) false) = t := ⟨_, rfl⟩
   rw [i] at h
   have m : Hid (textB (pathCode (bytesOf s) false) = t) := i
   have l : Aside (Below w.heap.size w n) := g
   clear g i d hs hn c a
   go_wp2
   go_ret
   exact ⟨by rw [m.out]; rfl, l.out⟩
  ·go_wp2_with fail
   obtain ⟨hs, hn, c, a⟩ := o.out
   have d : 32 :: pairs (bytesOf s) = pathCode (bytesOf s) true := by
    unfold pathCode
    rw [c, a]
    rfl
   refine (p.out 32 s 32 (by rfl) (hn) (hs) (by rw [c]; exact a)).mono ?_
   rintro e n ⟨v, rfl, g, h⟩
   rw [d] at h
   obtain ⟨t, i⟩ : ∃ t, textB (pathCode (bytesOf s) true) = t := ⟨_, rfl⟩
   rw [i] at h
   have m : Hid (textB (pathCode (bytesOf s) true) = t) := i
   have l : Aside (Below w.heap.size w n) := g
   clear g i d hs hn c a
   go_wp2
   go_ret
   exact ⟨by rw [m.out]; rfl, l.out⟩
def unpackF : List Nat -> Option (List Nat × Bool)
 | [] => none
 | c :: r => if 3 < c / 16 then none else if c / 16 % 2 = 1 then some ((c % 16) :: nibs r, decide (2 <= c / 16)) else if c % 16 = 0 then some (nibs r, decide (2 <= c / 16)) else none
theorem Qcu (s : ByteArray) (h : 0 < s.size) : s.toList.isEmpty = false := by
 rw [Lib.toList_data]
 have : s.data.toList.length = s.size := by simp
 cases e : s.data.toList with
 | nil => rw [e] at this; simp at this; omega
 | cons a l => rfl
end Go.Proofs.YtakidhihbgfjlaaGreatDoor
