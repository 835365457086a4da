/-
  Open: reading bytes, numbers, values, paths of a witness.
-/
import Derived.Test.YtakidhihbgfjlaaGreatDoorSxWeG
import Derived.BigQuiet
import Derived.Test.YtakidhihbgfjlaaGreatDoorSxWcG
import Derived.Test.YtakidhihbgfjlaaGreatDoorSxVoG
import Derived.Test.YtakidhihbgfjlaaGreatDoorSxAuG
import Derived.Test.YtakidhihbgfjlaaGreatDoorSxSaG
namespace Go.Proofs.YtakidhihbgfjlaaGreatDoor
open Go.RowKit
set_option maxRecDepth 100000
set_option maxHeartbeats 25600000
def rdTk (n : Nat) (s : ByteArray) : Except Er (ByteArray × ByteArray) := if s.size < n then .error (.base 2) else .ok (s.extract 0 n, s.extract n s.size)
def rdNm (s : ByteArray) : Except Er (Nat × ByteArray) := if s.size < 1 then .error (.base 2) else .ok ((bytesOf s)[0]!, s.extract 1 s.size)
def rdVl (s : ByteArray) : Except Er (ByteArray × ByteArray) := match rdNm s with
 | .error e => .error e
 | .ok (n, s1) => rdTk n s1
def rdPth (s : ByteArray) : Except Er ((Nat × ByteArray) × ByteArray) := match rdNm s with
 | .error e => .error e
 | .ok (n, s1) => match rdTk ((n + 1) / 2) s1 with
  | .error e => .error e
  | .ok (p, s2) => .ok ((n, p), s2)
def RdAt (w : World) (rb : Nat) (s : ByteArray) : Prop := w.heap[rb]? = some (.cells #[.string s] 87 (0, 0))
theorem RdAt.cell {w : World} {rb : Nat} {s : ByteArray} (h : RdAt w rb s) : w.cell? ⟨rb, 0, none⟩ = some (.string s) /\ w.frozen? ⟨rb, 0, none⟩ = false /\ rb < w.heap.size := by
 refine ⟨?_, ?_, (Array.getElem?_eq_some_iff.1 h).1⟩
 ·simp [World.cell?, show w.heap[rb]? = _ from h]
 ·simp [World.frozen?, show w.heap[rb]? = _ from h]
variable {w : World} {rb : Nat}
theorem RdAt.set {s : ByteArray} (h : RdAt w rb s) (s' : ByteArray) : RdAt (w.setCell ⟨rb, 0, none⟩ (.string s')) rb s' /\ Only rb w (w.setCell ⟨rb, 0, none⟩ (.string s')) :=
 ⟨Qa2 (cs := [.string s]) h 0 _, ⟨rfl, rfl, rfl, by simp, fun k _ hne => Below.heap_setCell _ _ _ _ hne⟩⟩
variable {w' : World}
theorem RdAt.below {s : ByteArray} (h : RdAt w rb s) (hb : Below w.heap.size w w') : RdAt w' rb s := (hb.block rb h.cell.2.2).trans h
structure RdC (sent : Nat -> Addr) (rb : Nat) (w : World) (zero : Value) {α : Type} (val : α -> Value) (q : Except Er (α × ByteArray)) (e : Ending) (w' : World) : Prop where
 only : Only rb w w'
 bad : ∀ er, q = .error er -> e = .returned (.tuple #[zero, er.val sent])
 good : ∀ a s', q = .ok (a, s') -> e = .returned (.tuple #[val a, .nilIface]) /\ RdAt w' rb s'
theorem Qbp {n : Nat} {s : ByteArray} {er : Er} (h : rdTk n s = .error er) : er = .base 2 /\ s.size < n := by
 unfold rdTk at h
 split at h
 ·cases h; exact ⟨rfl, by assumption⟩
 ·cases h
theorem Qcb {s : ByteArray} {er : Er} (h : rdNm s = .error er) : er = .base 2 := by
 unfold rdNm at h
 split at h
 ·cases h; rfl
 ·cases h
theorem Qfb (sent : Nat -> Addr) {s : ByteArray} (hF : Faults w sent) (h : RdAt w rb s) (n : Nat) :
  Calls Tryz.prog 87 #[.pointer (some ⟨rb, 0, none⟩), .int .i64 (n : Int)] w fun e w' => RdC sent rb w (.string ⟨#[]⟩) Value.string (rdTk n s) e w' := by
 obtain ⟨q, r, p⟩ := h.cell
 have f := Hq h
 by_cases c : s.size < n
 ·have k : (s.size : Int) < (n : Int) := by omega
  have i : decide (s.size < n) = true := decide_eq_true c
  have g := hF.var 2 (by decide)
  have m : w.cell? ⟨1, 0, none⟩ = some (.iface 243 (.pointer (some (sent 2)))) := g
  have d : Hid (rdTk n s = .error (.base 2)) := by unfold rdTk; rw [if_pos c]; exact rfl
  clear hF h g c
  go_enter Tryz.func87, Tryz.ntmps87
  go_wp2
  go_quiet (fail)
  go_wp2
  go_ret2
  exact ⟨⟨rfl, rfl, rfl, Nat.le_refl _, fun _ _ _ => rfl⟩, fun j b => (by rw [d.out] at b; cases b; rfl), fun a l b => (by rw [d.out] at b; cases b)⟩
 ·have k : ¬ (s.size : Int) < (n : Int) := by omega
  have t : (n : Int) <= (s.size : Int) := by omega
  have i : decide (s.size < n) = false := decide_eq_false c
  have o : n <= s.size := by omega
  have d : Hid (rdTk n s = .ok (s.extract 0 n, s.extract n s.size)) := by unfold rdTk; rw [if_neg c]; exact rfl
  clear hF h c
  go_enter Tryz.func87, Tryz.ntmps87
  go_wp2
  go_ret2
  exact ⟨(f.out.set _).2, fun j b => (by rw [d.out] at b; cases b), fun a l b => (by rw [d.out] at b; cases b; exact ⟨rfl, (f.out.set _).1⟩)⟩
theorem Qhp {n : Nat} {s p s' : ByteArray} (h : rdTk n s = .ok (p, s')) : n <= s.size /\ p = s.extract 0 n /\ s' = s.extract n s.size := by
 unfold rdTk at h
 split at h
 ·cases h
 ·cases h; exact ⟨by omega, rfl, rfl⟩
variable {sent : Nat -> Addr}
theorem Faults.only (h : Faults w sent) (ho : Only rb w w') (h1 : ∀ n ∈ nums, gOf n ≠ rb /\ (sent n).block ≠ rb) : Faults w' sent :=
 ⟨fun n hn => (World.cell?_of_block (a := ⟨gOf n, 0, none⟩) (ho.block _ (h.low hn) (h1 n hn).1)).trans (h.var n hn), fun n hn => by
  obtain ⟨c, t, hc⟩ := h.plain n hn
  exact ⟨c, t, (ho.block _ (h.plain n hn).lt (h1 n hn).2).trans hc⟩, h.apart⟩
structure RdE (sent : Nat -> Addr) (rb : Nat) (w : World) : Prop where
 faults : Faults w sent
 vars : ∀ n ∈ nums, gOf n ≠ rb /\ (sent n).block ≠ rb
theorem RdE.only {sent : Nat -> Addr} {rb : Nat} {w w' : World} (h : RdE sent rb w) (ho : Only rb w w') : RdE sent rb w' := ⟨h.faults.only ho h.vars, h.vars⟩
theorem RdE.below (h : RdE sent rb w) (hb : Below w.heap.size w w') : RdE sent rb w' := ⟨h.faults.keep hb (fun _ hn => h.faults.low hn) (fun n hn => (h.faults.plain n hn).lt), h.vars⟩
variable {w1 w2 : World}
theorem Only.trans' (h : Only rb w w1) (k : Only rb w1 w2) : Only rb w w2 := ⟨k.os.trans h.os, k.tape.trans h.tape, k.output.trans h.output, Nat.le_trans h.size k.size, fun i hi hne => (k.block i (Nat.lt_of_lt_of_le hi h.size) hne).trans (h.block i hi hne)⟩
theorem Only.behind' (h : Only rb w w1) (hb : Below w1.heap.size w1 w2) : Only rb w w2 := h.trans' ⟨hb.os, hb.tape, hb.output, hb.size, fun i hi _ => hb.block i hi⟩
theorem Only.ahead (hb : Below w.heap.size w w1) (k : Only rb w1 w2) : Only rb w w2 := ⟨k.os.trans hb.os, k.tape.trans hb.tape, k.output.trans hb.output, Nat.le_trans hb.size k.size, fun i hi hne => (k.block i (Nat.lt_of_lt_of_le hi hb.size) hne).trans (hb.block i hi)⟩
theorem Ql9 (sent : Nat -> Addr) {s : ByteArray} (hF : RdE sent rb w) (h : RdAt w rb s) :
  Calls Tryz.prog 72 #[.pointer (some ⟨rb, 0, none⟩)] w fun e w' => RdC sent rb w (.int .i64 0) (fun n : Nat => .int .i64 (n : Int)) (rdNm s) e w' := by
 have r := Hq (Qfb sent hF.faults h 1)
 clear hF h
 go_enter Tryz.func72, Tryz.ntmps72
 go_wp2_with fail
 refine r.out.mono ?_
 rintro e l ⟨i, f, d⟩
 by_cases g : s.size < 1
 ·obtain rfl := f (.base 2) (by unfold rdTk; rw [if_pos g])
  have c : Hid (Only rb w l /\ rdNm s = .error (.base 2)) := ⟨i, by unfold rdNm; rw [if_pos g]⟩
  clear i f d g
  simp only [Er.val]
  go_wp2
  go_ret2
  exact ⟨c.out.1, fun u b => (by rw [c.out.2] at b; cases b; rfl), fun a x b => (by rw [c.out.2] at b; cases b)⟩
 ·obtain ⟨rfl, p⟩ := d (s.extract 0 1) (s.extract 1 s.size) (by unfold rdTk; rw [if_neg g])
  obtain ⟨z, j⟩ : ∃ z, s.extract 0 1 = z := ⟨_, rfl⟩
  have y : z.size = 1 := by rw [<- j]; exact Qbe s 1 (by omega)
  have k : (z[0]'(by omega)).toNat = (bytesOf s)[0]! := by
   rw [Qbo z 0 (by omega), <- j, Qb2]
   have v : 0 < (bytesOf s).length := by rw [bytesOf_length]; omega
   rw [getElem!_pos _ 0 (by rw [List.length_take]; omega), getElem!_pos _ 0 v, List.getElem_take]
  have c : Hid (Only rb w l /\ rdNm s = .ok ((bytesOf s)[0]!, s.extract 1 s.size) /\ RdAt l rb (s.extract 1 s.size) /\ (bytesOf s)[0]! < 256) := ⟨i, by unfold rdNm; rw [if_neg g], p, by
   rw [<- k]; exact UInt8.toNat_lt _⟩
  obtain ⟨m, o⟩ : ∃ m, (bytesOf s)[0]! = m := ⟨_, rfl⟩
  rw [o] at c k
  rw [j]
  have B : (0 : Int) < (z.size : Int) := by omega
  have q : wrap64 (m : Int) = (m : Int) := by
   have := c.out.2.2.2
   unfold wrap64
   omega
  have t := Hq q
  clear i f d g p j o q
  go_wp2
  rw [t.out]
  go_ret2
  exact ⟨c.out.1, fun u b => (by rw [c.out.2.1] at b; cases b), fun a x b => (by rw [c.out.2.1] at b; cases b; exact ⟨rfl, c.out.2.2.1⟩)⟩
theorem Qxq (sent : Nat -> Addr) {s : ByteArray} (hF : RdE sent rb w) (h : RdAt w rb s) :
  Calls Tryz.prog 90 #[.pointer (some ⟨rb, 0, none⟩)] w fun e w' => RdC sent rb w (.string ⟨#[]⟩) Value.string (rdVl s) e w' := by
 have u := Hq (Ql9 sent hF h)
 have t := Hq hF
 clear hF h
 go_enter Tryz.func90, Tryz.ntmps90
 go_wp2_with fail
 refine u.out.mono ?_
 rintro e r ⟨g, d, b⟩
 cases hq : rdNm s with
 | error er =>
  obtain rfl := Qcb hq
  obtain rfl := d _ hq
  have i : Hid (Only rb w r /\ rdVl s = .error (.base 2)) := ⟨g, by unfold rdVl; rw [hq]⟩
  clear g d b hq
  simp only [Er.val]
  go_wp2
  go_ret2
  exact ⟨i.out.1, fun er c => (by rw [i.out.2] at c; cases c; rfl), fun a q c => (by rw [i.out.2] at c; cases c)⟩
 | ok z =>
  obtain ⟨m, k⟩ := z
  obtain ⟨rfl, j⟩ := b m k hq
  have o := Hq (Qfb sent (t.out.only g).faults j m)
  have i : Hid (Only rb w r /\ rdVl s = rdTk m k) := ⟨g, by unfold rdVl; rw [hq]⟩
  clear g d b hq j
  go_wp2_with fail
  refine o.out.mono ?_
  rintro e n ⟨g, d, b⟩
  cases hq : rdTk m k with
  | error er =>
   obtain rfl := d _ hq
   have f : Hid (Only rb w n /\ rdVl s = .error er) := ⟨i.out.1.trans' g, i.out.2.trans hq⟩
   clear g d b hq
   go_wp2
   go_ret2
   exact ⟨f.out.1, fun er c => (by rw [f.out.2] at c; cases c; rfl), fun a q c => (by rw [f.out.2] at c; cases c)⟩
  | ok z =>
   obtain ⟨p, l⟩ := z
   obtain ⟨rfl, j⟩ := b p l hq
   have f : Hid (Only rb w n /\ rdVl s = .ok (p, l) /\ RdAt n rb l) := ⟨i.out.1.trans' g, i.out.2.trans hq, j⟩
   clear g d b hq j
   go_wp2
   go_ret2
   exact ⟨f.out.1, fun er c => (by rw [f.out.2.1] at c; cases c), fun a q c => (by rw [f.out.2.1] at c; cases c; exact ⟨rfl, f.out.2.2⟩)⟩
variable {g : Nat}
theorem Only.over (h : Only rb w w1) (k : Only g w1 w2) (hg : w.heap.size <= g) : Only rb w w2 := ⟨k.os.trans h.os, k.tape.trans h.tape, k.output.trans h.output, Nat.le_trans h.size k.size, fun i hi hne => (k.block i (Nat.lt_of_lt_of_le hi h.size) (by omega)).trans (h.block i hi hne)⟩
abbrev wrV (z : Nat × ByteArray) : Value := .agg #[.int .i64 (z.1 : Int), .string z.2]
theorem Qn0 (m : Nat) (hm : m <= 1000) (W : World) : Calls Tryz.prog 104 #[.int .i64 (m : Int)] W fun e w' => e = .returned (.int .i64 (((m + 1) / 2 : Nat) : Int)) /\ w' = W := by
 obtain ⟨z, a⟩ : ∃ z, (m + 1) / 2 = z := ⟨_, rfl⟩
 have b : Hid (wrap64 ((wrap64 ((m : Int) + 1)).tdiv 2) = (z : Int)) := by
  have c : wrap64 ((m : Int) + 1) = (m : Int) + 1 := by unfold wrap64; omega
  have h : ((m : Int) + 1).tdiv 2 = ((m : Int) + 1) / 2 := Int.tdiv_eq_ediv_of_nonneg (by omega)
  have d : wrap64 ((wrap64 ((m : Int) + 1)).tdiv 2) = (z : Int) := by
   rw [c, h]
   unfold wrap64
   omega
  exact d
 rw [a]
 clear a hm
 go_enter Tryz.func104, Tryz.ntmps104
 go_wp2
 rw [b.out]
 go_ret
 exact ⟨rfl, rfl⟩
theorem Qub {s : ByteArray} {n : Nat} {s1 : ByteArray} (h : rdNm s = .ok (n, s1)) : n < 256 := by
 unfold rdNm at h
 split at h
 ·cases h
 ·rename_i hs
  cases h
  have a : 0 < (bytesOf s).length := by rw [bytesOf_length]; omega
  rw [getElem!_pos _ 0 a]
  exact Qao s _ (List.getElem_mem _)
theorem Qn1 (sent : Nat -> Addr) {s : ByteArray} (hF : RdE sent rb w) (h : RdAt w rb s) :
  Calls Tryz.prog 89 #[.pointer (some ⟨rb, 0, none⟩)] w fun e w' => RdC sent rb w (wrV (0, ⟨#[]⟩)) wrV (rdPth s) e w' := by
 have C : ∀ z : Obj, Below w.heap.size w (w.alloc z) := fun z => (Below.refl _ _).alloc (Nat.le_refl _) _
 have O := Hq (fun z => Ql9 sent (hF.below (C z)) (h.below (C z)))
 have y : Hid (RdE sent rb w /\ rb < w.heap.size) := ⟨hF, h.cell.2.2⟩
 have F := Hq C
 clear hF h C
 go_enter Tryz.func89, Tryz.ntmps89
 go_wp2_with fail
 have u := Qai w (.cells #[.int .i64 0, .string ⟨#[]⟩] 212)
 refine (O.out _).mono ?_
 rintro e M ⟨f, d, b⟩
 have i := (f.block w.heap.size (by simp) (by have := y.out.2; omega)).trans u
 obtain ⟨H, I, J, K⟩ := Qa7 i
 have B : Hid (Only rb w M /\ w.heap.size < M.heap.size) := ⟨Only.ahead (F.out _) f, by have := f.size; simp at this; omega⟩
 cases hq : rdNm s with
 | error er =>
  obtain rfl := Qcb hq
  obtain rfl := d _ hq
  have q : Hid (rdPth s = .error (.base 2)) := by unfold rdPth; rw [hq]; exact rfl
  obtain ⟨n, j⟩ := Qej i (.int .i64 0) (.string ⟨#[]⟩)
  obtain ⟨r, t, -⟩ := Qa7 n
  have g := Hq (B.out.1.over j (Nat.le_refl _))
  clear f d b hq u i n j
  simp only [Er.val]
  go_wp2
  refine bodyPost_ret (v := .tuple #[.agg #[.int .i64 0, .string ⟨#[]⟩], .iface 243 (.pointer (some (sent 2)))]) (by simp [results, Tryz.results89, go_sem, r, t]) rfl ?_
  exact ⟨g.out, fun er c => (by rw [q.out] at c; cases c; rfl), fun a L c => (by rw [q.out] at c; cases c)⟩
 | ok z =>
  obtain ⟨m, E⟩ := z
  obtain ⟨rfl, o⟩ := b m E hq
  have Q := Qub hq
  have G := Hq (Qfb sent ((y.out.1.below (F.out _)).only f).faults o ((m + 1) / 2))
  have q : Hid (rdPth s = match rdTk ((m + 1) / 2) E with | .error e => .error e | .ok (p, x) => .ok ((m, p), x)) := by unfold rdPth; rw [hq]; exact rfl
  have P := Hq (fun W => Qn0 m (by omega : m <= 1000) W)
  clear f d b hq o Q u
  go_wp2_with (go_at_call 104; refine (P.out _).mono ?_; rintro e R ⟨rfl, D⟩; rw [D]; clear D R)
  refine G.out.mono ?_
  rintro e N ⟨f, d, b⟩
  have l := (f.block w.heap.size B.out.2 (by have := y.out.2; omega)).trans i
  obtain ⟨S, T, U, V⟩ := Qa7 l
  cases hq : rdTk ((m + 1) / 2) E with
  | error er =>
   obtain ⟨rfl, -⟩ := Qbp hq
   obtain rfl := d _ hq
   have k : Hid (rdPth s = .error (.base 2)) := by have := q.out; rw [hq] at this; exact this
   obtain ⟨n, j⟩ := Qej l (.int .i64 0) (.string ⟨#[]⟩)
   obtain ⟨r, t, -⟩ := Qa7 n
   have g := Hq ((B.out.1.trans' f).over j (Nat.le_refl _))
   clear f d b hq i l n j H I J K
   simp only [Er.val]
   go_wp2
   refine bodyPost_ret (v := .tuple #[.agg #[.int .i64 0, .string ⟨#[]⟩], .iface 243 (.pointer (some (sent 2)))]) (by simp [results, Tryz.results89, go_sem, r, t]) rfl ?_
   exact ⟨g.out, fun er c => (by rw [k.out] at c; cases c; rfl), fun a L c => (by rw [k.out] at c; cases c)⟩
  | ok z =>
   obtain ⟨p, x⟩ := z
   obtain ⟨rfl, o⟩ := b p x hq
   have k : Hid (rdPth s = .ok ((m, p), x)) := by have := q.out; rw [hq] at this; exact this
   obtain ⟨n, j⟩ := Qej l (.int .i64 (m : Int)) (.string p)
   obtain ⟨r, t, -⟩ := Qa7 n
   have g : Hid (Only rb w ((N.setCell ⟨w.heap.size, 0, none⟩ (.int .i64 (m : Int))).setCell ⟨w.heap.size, 1, none⟩ (.string p)) /\ RdAt ((N.setCell ⟨w.heap.size, 0, none⟩ (.int .i64 (m : Int))).setCell ⟨w.heap.size, 1, none⟩ (.string p)) rb x) := ⟨(B.out.1.trans' f).over j (Nat.le_refl _), (j.block rb o.cell.2.2 (by have := y.out.2; omega)).trans o⟩
   clear f d b hq o i l n j H I J K
   go_wp2
   refine bodyPost_ret (v := .tuple #[.agg #[.int .i64 (m : Int), .string p], .nilIface]) (by simp [results, Tryz.results89, go_sem, r, t]) rfl ?_
   exact ⟨g.out.1, fun er c => (by rw [k.out] at c; cases c), fun a L c => (by rw [k.out] at c; cases c; exact ⟨rfl, g.out.2⟩)⟩
def unpF (p : ByteArray) (c : Nat) : Option ByteArray := if c < (nibs (bytesOf p)).length /\ (nibs (bytesOf p))[c]! ≠ 0 then none else some (textB ((nibs (bytesOf p)).take c))
def wrRead (c : Nat) (p : ByteArray) (most : Nat) : Except Er ByteArray := if most < c then .error (.base 8) else match unpF p c with
 | none => .error (.noNode (.base 3))
 | some q => .ok q
theorem Own.take {w : World} {B : Nat} {p : Option Addr} {l : List Nat} {k : Nat} (h : Own w B (.slice p l.length k) l) (c : Nat) (hc : c <= l.length) : Own w B (.slice p c k) (l.take c) := by
 rcases h with ⟨h1, rfl⟩ | ⟨g, cap, h1, h2, h3, h4, h5, h6, h7⟩
 ·obtain rfl : c = 0 := by simpa using hc
  exact .inl ⟨h1, by simp⟩
 ·simp only [Value.slice.injEq] at h1
  obtain ⟨rfl, -, rfl⟩ := h1
  refine .inr ⟨g, k, by rw [List.length_take, Nat.min_eq_left hc], h2, h3, by rw [List.length_take]; omega, h5, h6, fun j a => ?_⟩
  have b : j < c := by rw [List.length_take] at a; omega
  rw [h7 j (by omega), getElem!_pos l j (by omega), getElem!_pos (l.take c) j a, List.getElem_take]
theorem Own.cap_le {B : Nat} {p : Option Addr} {l : List Nat} {n k : Nat} (h : Own w B (.slice p n k) l) : n <= k := by
 rcases h with ⟨h1, -⟩ | ⟨g, cap, h1, h2, h3, h4, -⟩
 ·simp only [Value.slice.injEq] at h1; omega
 ·simp only [Value.slice.injEq] at h1; omega
theorem Qrf (sent : Nat -> Addr) (p : ByteArray) (c : Nat) (hc : c <= 255) (hp : p.size = (c + 1) / 2) (w : World) (hF : Faults w sent) :
  Calls Tryz.prog 105 #[.string p, .int .i64 (c : Int)] w fun e w' => Below w.heap.size w w' /\ (unpF p c = none -> e = .returned (.tuple #[.string ⟨#[]⟩, (Er.base 3).val sent])) /\ (∀ q, unpF p c = some q -> e = .returned (.tuple #[.string q, .nilIface])) := by
 obtain ⟨N, y⟩ : ∃ N, nibs (bytesOf p) = N := ⟨_, rfl⟩
 have D : N.length = 2 * ((c + 1) / 2) := by rw [<- y, Qbv, bytesOf_length, hp]
 have S : c <= N.length := by omega
 have I : unpF p c = if c < N.length /\ N[c]! ≠ 0 then none else some (textB (N.take c)) := by unfold unpF; rw [y]
 have O := Hq (fun W => Qn0 c (by omega : c <= 1000) W)
 have C := Hq (Qhh (B := w.heap.size) (v := .slice none 0 0) (l := []) p w (Own.nil _ _) (Nat.le_refl _) (by omega) (by simp))
 rw [y, List.nil_append] at C
 have T : (p.size : Int) = (((c + 1) / 2 : Nat) : Int) := by omega
 have k : w.cell? ⟨15, 0, none⟩ = some (.iface 243 (.pointer (some (sent 3)))) := hF.var 3 (by decide)
 have E := hF.low (n := 3) (by decide)
 have x : Hid ((unpF p c = if c < N.length /\ N[c]! ≠ 0 then none else some (textB (N.take c))) /\ N.length = 2 * ((c + 1) / 2) /\ 15 < w.heap.size) := ⟨I, D, E⟩
 clear y I hp hF E D
 go_enter Tryz.func105, Tryz.ntmps105
 go_wp2_with (first | (go_at_call 104; refine (O.out _).mono ?_; rintro e R ⟨rfl, F⟩; rw [F]; clear F R) | fail)
 refine C.out.mono ?_
 rintro e m ⟨U, rfl, j⟩
 have i := j.below (Own.nil _ _) (Below.refl _ _) (Nat.le_refl _)
 have b := j.own
 obtain ⟨L, H, rfl⟩ := b.shape'
 have r := (i.cell (p := ⟨15, 0, none⟩) x.out.2.2).trans k
 have G : Hid (Below w.heap.size w m /\ Own m w.heap.size (.slice L N.length H) N) := ⟨i, b⟩
 by_cases a : c < N.length
 ·obtain ⟨g, rfl, f⟩ : ∃ g, L = some ⟨g, 0, none⟩ /\ m.cell? ⟨g, c, none⟩ = some (encB N[c]!) := by
   rcases b with ⟨-, h⟩ | ⟨g, cap, h1, -, -, -, -, -, h7⟩
   ·rw [h] at a; simp at a
   ·simp only [Value.slice.injEq] at h1
    exact ⟨g, h1.1, h7 c a⟩
  obtain ⟨z, t⟩ : ∃ z, N[c]! = z := ⟨_, rfl⟩
  rw [t] at f
  have Q : (c : Int) < (N.length : Int) := by omega
  by_cases u : z = 0
  ·subst u
   have o := Qag (P := Tryz.prog) m 41 9 5 Tryz.underlying41 Tryz.underlying5 Tryz.underlying9 (b.take c (by omega))
   have d : Hid (unpF p c = some (textB (N.take c))) := by rw [x.out.1, if_neg (by rw [t]; simp)]; exact rfl
   obtain ⟨q, s⟩ : ∃ q, textB (N.take c) = q := ⟨_, rfl⟩
   rw [s] at d o
   have K : (c : Int) <= (H : Int) := by have := b.cap_le; omega
   have J : m.cell? ⟨g, c, none⟩ = some (.int .u8 0) := f
   clear j i b f t a s k r
   go_wp2
   go_ret2
   exact ⟨G.out.1, fun h => (by rw [d.out] at h; cases h), fun M h => (by rw [d.out] at h; cases h; rfl)⟩
  ·have d : Hid (unpF p c = none) := by rw [x.out.1, if_pos ⟨a, by rw [t]; exact u⟩]; exact rfl
   have K : ¬ (z : Int) = 0 := by omega
   clear j i b t a k u
   go_wp2
   go_quiet (fail)
   go_wp2
   go_ret2
   exact ⟨Below.drewN G.out.1 _, fun _ => rfl, fun M h => (by rw [d.out] at h; cases h)⟩
 ·have Q : ¬ (c : Int) < (N.length : Int) := by omega
  have o := Qag (P := Tryz.prog) m 41 9 5 Tryz.underlying41 Tryz.underlying5 Tryz.underlying9 (b.take c (by omega))
  have d : Hid (unpF p c = some (textB (N.take c))) := by rw [x.out.1, if_neg (by omega)]; exact rfl
  obtain ⟨q, s⟩ : ∃ q, textB (N.take c) = q := ⟨_, rfl⟩
  rw [s] at d o
  have K : (c : Int) <= (H : Int) := by have := b.cap_le; omega
  clear j i b a s k r
  go_wp2
  go_ret2
  exact ⟨G.out.1, fun h => (by rw [d.out] at h; cases h), fun M h => (by rw [d.out] at h; cases h; rfl)⟩
theorem Qn2 (sent : Nat -> Addr) (c : Nat) (p : ByteArray) (most : Nat) (hc : c <= 255) (hp : p.size = (c + 1) / 2) (w : World) (hF : Faults w sent) :
  Calls Tryz.prog 91 #[.agg #[.int .i64 (c : Int), .string p], .int .i64 (most : Int)] w fun e w' => Below w.heap.size w w' /\ (∀ er, wrRead c p most = .error er -> e = .returned (.tuple #[.string ⟨#[]⟩, er.val sent])) /\ (∀ q, wrRead c p most = .ok q -> e = .returned (.tuple #[.string q, .nilIface])) := by
 have d : ∀ z : Obj, Below w.heap.size w (w.alloc z) := fun z => (Below.refl _ _).alloc (Nat.le_refl _) _
 have g : ∀ z : Obj, Faults (w.alloc z) sent := fun z => hF.keep (d z) (fun _ m => hF.low m) (fun n m => (hF.plain n m).lt)
 by_cases i : most < c
 ·have s : (most : Int) < (c : Int) := by omega
  have t : ∀ z : Obj, (w.alloc z).cell? ⟨6, 0, none⟩ = some (.iface 243 (.pointer (some (sent 8)))) := fun z => (g z).var 8 (by decide)
  have j : Hid (wrRead c p most = .error (.base 8)) := by unfold wrRead; rw [if_pos i]; exact rfl
  have o := Hq d
  clear hF g i d hp hc
  go_enter Tryz.func91, Tryz.ntmps91
  go_wp2
  go_quiet (fail)
  go_wp2
  go_ret2
  exact ⟨Below.drewN (o.out _) _, fun er h => (by rw [j.out] at h; cases h; rfl), fun q h => (by rw [j.out] at h; cases h)⟩
 ·have s : ¬ (most : Int) < (c : Int) := by omega
  have r := Hq (fun z => Qrf sent p c hc hp (w.alloc z) (g z))
  have j : Hid (wrRead c p most = match unpF p c with | none => .error (.noNode (.base 3)) | some q => .ok q) := by unfold wrRead; rw [if_neg i]; exact rfl
  have o := Hq d
  clear hF g i d hp hc
  go_enter Tryz.func91, Tryz.ntmps91
  go_wp2_with fail
  refine (r.out _).mono ?_
  rintro e u ⟨k, f, a⟩
  have l := Hq (Below.up k)
  cases hq : unpF p c with
  | none =>
   obtain rfl := f hq
   have b : Hid (wrRead c p most = .error (.noNode (.base 3))) := by have := j.out; rw [hq] at this; exact this
   clear k f a hq
   simp only [Er.val]
   go_wp2
   go_ret2
   exact ⟨l.out, fun er h => (by rw [b.out] at h; cases h; rfl), fun q h => (by rw [b.out] at h; cases h)⟩
  | some q =>
   obtain rfl := a q hq
   have b : Hid (wrRead c p most = .ok q) := by have := j.out; rw [hq] at this; exact this
   clear k f a hq
   go_wp2
   go_ret2
   exact ⟨l.out, fun er h => (by rw [b.out] at h; cases h), fun q h => (by rw [b.out] at h; cases h; rfl)⟩
inductive Od where
 | gives (t : Nd)
 | ext (p : ByteArray)
 | br (f : Nat)
def popN : Nat -> Nat -> Nat
 | 0, _ => 0
 | n + 1, f => f % 2 + popN n (f / 2)
def Od.takes : Od -> Nat
 | .gives _ => 0
 | .ext _ => 1
 | .br f => popN 16 f
def opLeaf (s : ByteArray) : Except Er (Od × ByteArray) := match rdPth s with
 | .error e => .error e
 | .ok ((c, p), s1) => match rdVl s1 with
  | .error e => .error e
  | .ok (v, s2) => match wrRead c p 64 with
   | .error e => .error e
   | .ok q => if v.size = 0 \/ 100 < v.size then .error (.base 8) else .ok (.gives (.leaf q v), s2)
def opExt (s : ByteArray) : Except Er (Od × ByteArray) := match rdPth s with
 | .error e => .error e
 | .ok ((c, p), s1) => match wrRead c p 63 with
  | .error e => .error e
  | .ok q => if q.size = 0 then .error (.base 8) else .ok (.ext q, s1)
def forkF (t : ByteArray) : Nat := (bytesOf t)[0]! + 256 * (bytesOf t)[1]!
def opBr (s : ByteArray) : Except Er (Od × ByteArray) := match rdTk 2 s with
 | .error e => .error e
 | .ok (t, s1) => if popN 16 (forkF t) < 2 then .error (.base 8) else .ok (.br (forkF t), s1)
def opStub (s : ByteArray) : Except Er (Od × ByteArray) := match rdTk 32 s with
 | .error e => .error e
 | .ok (t, s1) => .ok (.gives (.stub (bytesOf t)), s1)
def opRd (s : ByteArray) : Except Er (Od × ByteArray) := match rdNm s with
 | .error e => .error e
 | .ok (0, s1) => .ok (.gives .no, s1)
 | .ok (1, s1) => opLeaf s1
 | .ok (2, s1) => opExt s1
 | .ok (3, s1) => opBr s1
 | .ok (4, s1) => opStub s1
 | .ok _ => .error (.base 9)
def OpV (w : World) (S : Wood) (nb : Nat) (v : Value) : Od -> Prop
 | .gives t => v = .agg #[.int .i64 0, .func (.func 88) #[] #[.pointer (some ⟨nb, 0, none⟩)]] /\ ∃ z, w.cell? ⟨nb, 0, none⟩ = some z /\ ndV S z t
 | .ext p => v = .agg #[.int .i64 1, .func (.func 92) #[] #[.pointer (some ⟨nb, 0, none⟩)]] /\ w.cell? ⟨nb, 0, none⟩ = some (.string p)
 | .br f => v = .agg #[.int .i64 ((popN 16 f : Nat) : Int), .func (.func 95) #[] #[.pointer (some ⟨nb, 0, none⟩)]] /\ w.cell? ⟨nb, 0, none⟩ = some (.int .u16 (f : Int))
theorem put2 {W : World} {n : Nat} {x y : Value} {t : TypeId} (h : W.heap[n]? = some (.cells #[x, y] t (0, 0))) (x' y' : Value) : W.there n 0 2 /\ (W.setCells n 0 [x', y']).heap[n]? = some (.cells #[x', y'] t (0, 0)) /\ Only n W (W.setCells n 0 [x', y']) :=
 ⟨Qiv h rfl, (Qej h x' y').1, (Qej h x' y').2⟩
theorem Qhq (w : World) (a b : Obj) : Below w.heap.size w ((w.alloc a).alloc b) /\ ((w.alloc a).alloc b).heap[w.heap.size]? = some a /\ ((w.alloc a).alloc b).heap[w.heap.size + 1]? = some b /\ ((w.alloc a).alloc b).heap.size = w.heap.size + 1 + 1 := by
 have c : (w.alloc a).heap.size = w.heap.size + 1 := by simp
 refine ⟨((Below.refl _ _).alloc (Nat.le_refl _) _).alloc (by simp) _, ?_, ?_, by simp⟩
 ·rw [Qby _ _ (by omega), Qai]
 ·rw [<- c, Qai]
abbrev opFnV (k : Int) (f : FuncId) (nb : Nat) : Value := .agg #[.int .i64 k, .func (.func f) #[] #[.pointer (some ⟨nb, 0, none⟩)]]
theorem Qhr : (Tryz.prog.info? 123).map (·.size) = some 2 := by kernel_rfl
variable {S : Wood}
theorem Qhs (t : Nd) (z : Value) (w : World) (hz : ndV S z t) :
  Calls Tryz.prog 73 #[z] w fun e w' => ∃ nb v, e = .returned v /\ OpV w' S nb v (.gives t) /\ w.heap.size <= nb /\ nb < w'.heap.size /\ Below w.heap.size w w' := by
 have p := Hq hz
 obtain ⟨c, h, i, l⟩ := Qhq w (.cells #[z] 56) (.cells #[.int .i64 0, .nilFunc] 123)
 obtain ⟨W, q⟩ : ∃ W, (w.alloc (.cells #[z] 56)).alloc (.cells #[.int .i64 0, .nilFunc] 123) = W := ⟨_, rfl⟩
 rw [q] at c h i l
 obtain ⟨o, n, f⟩ := put2 i (.int .i64 0) (.func (.func 88) #[] #[.pointer (some ⟨w.heap.size, 0, none⟩)])
 obtain ⟨j, k, -⟩ := Qa7 n
 have d : Hid (OpV (W.setCells (w.heap.size + 1) 0 [.int .i64 0, .func (.func 88) #[] #[.pointer (some ⟨w.heap.size, 0, none⟩)]]) S w.heap.size (opFnV 0 88 w.heap.size) (.gives t) /\ w.heap.size < (W.setCells (w.heap.size + 1) 0 [.int .i64 0, .func (.func 88) #[] #[.pointer (some ⟨w.heap.size, 0, none⟩)]]).heap.size /\ Below w.heap.size w (W.setCells (w.heap.size + 1) 0 [.int .i64 0, .func (.func 88) #[] #[.pointer (some ⟨w.heap.size, 0, none⟩)]])) := by
  have r := (f.block w.heap.size (by omega) (by omega)).trans h
  refine ⟨⟨rfl, z, ?_, hz⟩, by have := f.size; omega, f.below c (by omega) (by omega)⟩
  simp [World.cell?, r]
 obtain ⟨u, s, m⟩ : ∃ a b, z = .nilIface \/ z = .iface a b := by
  rcases hz with ⟨-, rfl⟩ | ⟨-, b, rfl, -⟩
  ·exact ⟨0, undef, .inl rfl⟩
  ·exact ⟨_, _, .inr rfl⟩
 clear hz c h i l n f p
 have g := Qhr
 rcases m with rfl | rfl
 ·go_enter Tryz.func73, Tryz.ntmps73
  go_wp2_with (refine wpList_store_mid rfl 123 _ _ rfl (w.heap.size + 1) 0 #[.int .i64 0, .func (.func 88) #[] #[.pointer (some ⟨w.heap.size, 0, none⟩)]] rfl rfl o g (by simp [Value.oneCell']) ?_)
  refine bodyPost_ret (v := opFnV 0 88 w.heap.size) (by simp [results, Tryz.results73, go_sem, j, k]) rfl ?_
  exact ⟨_, _, rfl, d.out.1, Nat.le_refl _, d.out.2⟩
 ·go_enter Tryz.func73, Tryz.ntmps73
  go_wp2_with (refine wpList_store_mid rfl 123 _ _ rfl (w.heap.size + 1) 0 #[.int .i64 0, .func (.func 88) #[] #[.pointer (some ⟨w.heap.size, 0, none⟩)]] rfl rfl o g (by simp [Value.oneCell']) ?_)
  refine bodyPost_ret (v := opFnV 0 88 w.heap.size) (by simp [results, Tryz.results73, go_sem, j, k]) rfl ?_
  exact ⟨_, _, rfl, d.out.1, Nat.le_refl _, d.out.2⟩
theorem Kn.keep2 {C : Nat} {ks vs : Value} {m : Mp} (h : Kn w C ks vs m) (hs : w.heap.size <= w'.heap.size) (hb : ∀ j, ks.ownBlock = some j \/ vs.ownBlock = some j -> w'.heap[j]? = w.heap[j]?) : Kn w' C ks vs m :=
 ⟨h.keys.keep hs fun j _ e => hb j (.inl e), h.vals.keep hs fun j _ e => hb j (.inr e), h.ok, h.apart⟩
def Wood.join (N : Nat) (S T : Wood) : Wood := fun k => if k < N then S k else T k
theorem FrX.join {B : Nat} {S T : Wood} {w w' : World} (hf : Forest B S w) (h : FrX w.heap.size (fun _ => False) (fun _ => none) T w w') : FrX B (fun _ => False) S (Wood.join w.heap.size S T) w w' := by
 have j : ∀ k t, S k = some t -> Wood.join w.heap.size S T k = some t := fun k t d => by rw [Wood.join, if_pos (hf.lt d)]; exact d
 have l : ∀ k t, T k = some t -> Wood.join w.heap.size S T k = some t := fun k t d => by rw [Wood.join, if_neg (by have := h.forest.low k t d; omega)]; exact d
 refine ⟨h.os, h.tape, h.output, h.size, fun k d _ n => h.other k d rfl n, ⟨fun b t c => ?_, fun b t c => ?_, fun b t c => ?_, Nat.le_trans hf.le h.size⟩, j, fun k d m => by rw [Wood.join, if_pos d]; exact m⟩
 ·by_cases a : b < w.heap.size
  ·rw [Wood.join, if_pos a] at c
   obtain ⟨g, r, e, f, i⟩ := hf.node b t c
   exact ⟨g, r, e, NdRest.sub j f, (h.other b a rfl fun h => h).trans i⟩
  ·rw [Wood.join, if_neg a] at c
   obtain ⟨g, r, e, f, i⟩ := h.forest.node b t c
   exact ⟨g, r, e, NdRest.sub l f, i⟩
 ·by_cases a : b < w.heap.size
  ·rw [Wood.join, if_pos a] at c
   exact hf.ok b t c
  ·rw [Wood.join, if_neg a] at c
   exact h.forest.ok b t c
 ·by_cases a : b < w.heap.size
  ·rw [Wood.join, if_pos a] at c
   exact hf.low b t c
  ·have := hf.le
   omega
def intOf : Value -> Int
 | .int _ z => z
 | _ => 0
@[simp, go_sem] theorem QCf (k : IntKind) (z : Int) : intOf (.int k z) = z := rfl
structure X7 (P0 : World -> Prop) (P4 : Value -> World -> Prop) (P5 : World -> Prop) (d3 d4 d5 : Bool) (v3 v4 : Value) (w' : World) : Prop where
 old : d5 = false -> P0 w'
 str : d3 = true -> ∃ u : ByteArray, v3 = .string u /\ 0 < u.size /\ u.size <= 100
 kn : d4 = true -> d5 = false -> P4 v4 w'
 fin : d5 = true -> P5 w'
theorem Qbj {B : Nat} (hf : Forest B S w) (ho : Only g w w') (hg : S g = none) : Forest B S w' := hf.keep ho.size fun k t hk => ho.block k (hf.lt hk) (fun e => by rw [e, hg] at hk; cases hk)
theorem TreeAt.only {b : Nat} {t : Nd} (h : TreeAt S w b t) (ho : Only g w w') (hne : b ≠ g) : TreeAt S w' b t := by
 have e := h.lt
 obtain ⟨a, v, c, d⟩ := h
 exact ⟨a, v, c, (ho.block b e hne).trans d⟩
end Go.Proofs.YtakidhihbgfjlaaGreatDoor
