/-
  readItem and readItems of package item.
  readItems of package item: the loop; and readItem and readItems, whole.
  strings.Clone: the same text, out of new memory.
-/
import Derived.Test.YthbgepmpdphigaaGreatDoorAxTreG
import Derived.Lib.UnsafeStr
import Derived.Laws.MakeOwn
namespace Go.Proofs.YthbgepmpdphigaaGreatDoor
open Go.RowKit
set_option maxRecDepth 100000
set_option maxHeartbeats 25600000
abbrev zeroP : Value := .agg #[.int .i64 0, .int .i64 0, .bool false, .string ⟨#[]⟩, .slice none 0 0]
abbrev placeV (at_ : Nat) (ev : Value) : Value := .iface 108 (.agg #[.int .i64 (at_ : Int), ev])
variable {w1 w2 : World} {o1 : Obj} {v : Value}
theorem Qs4 {o2 : Obj} (hb : Below ((w1.alloc o1).alloc o2).heap.size ((w1.alloc o1).alloc o2) w2) {g j : Nat} (hp : g < w1.heap.size) (hc : w1.cell? ⟨g, j, none⟩ = some v /\ w1.frozen? ⟨g, j, none⟩ = false) : w2.cell? ⟨g, j, none⟩ = some v /\ w2.frozen? ⟨g, j, none⟩ = false :=
 ⟨((hb.cell (p := ⟨g, j, none⟩) (by simp; omega)).trans ((World.cell?_alloc_past _ _ _ (by simp; omega)).trans (World.cell?_alloc_past _ _ _ hp))).trans hc.1, ((hb.frozen (p := ⟨g, j, none⟩) (by simp; omega)).trans ((World.frozen?_alloc_past _ _ _ (by simp; omega)).trans (World.frozen?_alloc_past _ _ _ hp))).trans hc.2⟩
variable {cs : Array Value}
theorem Qs5 {t : TypeId} (hb : Below ((w1.alloc o1).alloc (.cells cs t)).heap.size ((w1.alloc o1).alloc (.cells cs t)) w2) (j : Nat) (h : cs[j]? = some v) : w2.cell? ⟨w1.heap.size + 1, j, none⟩ = some v /\ w2.frozen? ⟨w1.heap.size + 1, j, none⟩ = false := by
 have e : w1.heap.size + 1 = (w1.alloc o1).heap.size := by simp
 rw [e]
 exact Qac hb j h
theorem Qbg (a b : Nat) (h : a + b <= 1048576) : wrap64 ((a : Int) + (b : Int)) = ((a + b : Nat) : Int) := by
 unfold wrap64
 omega
theorem Qv8 (s : ByteArray) (fr lists : Nat) (w : World) (l : Bool) (te : TypeId) (pe : Value) (h1 : (fr : Int) <= (s.size : Int)) (cut : ByteArray) (hx : s.extract fr s.size = cut) (hN : ∀ W, Below w.heap.size w W -> Calls Tryz.prog 116 #[.string cut] W fun e w' => Below W.heap.size W w' /\ e = .returned (.tuple #[headV l 0 0, .iface te pe])) :
  Calls Tryz.prog 109 #[.string s, .int .i64 (fr : Int), .int .i64 (lists : Int)] w fun e w' => Below w.heap.size w w' /\ e = .returned (.tuple #[zeroP, placeV fr (.iface te pe)]) := by
 have f : Hid (∀ W, Below w.heap.size w W -> Calls Tryz.prog 116 #[.string cut] W fun e w' => Below W.heap.size W w' /\ e = .returned (.tuple #[headV l 0 0, .iface te pe])) := hN
 clear hN
 go_enter Tryz.func109, Tryz.ntmps109
 go_wp2_with fail
 refine (f.out _ ((Below.refl _ _).alloc (Nat.le_refl _) _)).mono ?_
 rintro e c ⟨a, rfl⟩
 obtain ⟨g, n⟩ := Qac a 0 (v := .int .i64 0) rfl
 obtain ⟨h, o⟩ := Qac a 1 (v := .int .i64 0) rfl
 obtain ⟨i, p⟩ := Qac a 2 (v := .bool false) rfl
 obtain ⟨j, q⟩ := Qac a 3 (v := .string ⟨#[]⟩) rfl
 obtain ⟨k, r⟩ := Qac a 4 (v := .slice none 0 0) rfl
 have d : Aside (Below w.heap.size w c) := ((Below.refl w.heap.size w).alloc (Nat.le_refl _) _).trans (a.mono (by simp))
 have b : w.heap.size < c.heap.size := by have := a.size; simp at this; omega
 have m : w.heap.size ≠ c.heap.size := Nat.ne_of_lt b
 clear a
 go_wp2
 refine bodyPost_ret (v := .tuple #[zeroP, placeV fr (.iface te pe)]) (by simp [results, Tryz.results109, go_sem, b, g, h, i, j, k]) rfl ⟨?_, rfl⟩
 exact (((((d.out.setCell (Nat.le_refl _) _).setCell (Nat.le_refl _) _).setCell (Nat.le_refl _) _).setCell (Nat.le_refl _) _).setCell (Nat.le_refl _) _).alloc (by simp; omega) _
theorem Qs6 (s : ByteArray) (fr lists a b bh to : Nat) (w : World) (h1 : (fr : Int) <= (s.size : Int)) (cut : ByteArray) (hx : s.extract fr s.size = cut) (hN : ∀ W, Below w.heap.size w W -> Calls Tryz.prog 116 #[.string cut] W fun e w' => Below W.heap.size W w' /\ e = .returned (.tuple #[headV false a b, .nilIface]))
  (e1 : wrap64 ((fr : Int) + (a : Int)) = (bh : Int)) (e2 : wrap64 ((bh : Int) + (b : Int)) = (to : Int)) (i1 : (bh : Int) <= (to : Int)) (i2 : (to : Int) <= (s.size : Int)) :
  Calls Tryz.prog 109 #[.string s, .int .i64 (fr : Int), .int .i64 (lists : Int)] w fun e w' => Below w.heap.size w w' /\ e = .returned (.tuple #[valP ⟨fr, to, false, s.extract bh to, .slice none 0 0⟩, .nilIface]) := by
 have h : Hid (∀ W, Below w.heap.size w W -> Calls Tryz.prog 116 #[.string cut] W fun e w' => Below W.heap.size W w' /\ e = .returned (.tuple #[headV false a b, .nilIface])) := hN
 clear hN
 go_enter Tryz.func109, Tryz.ntmps109
 go_wp2_with fail
 refine (h.out _ ((Below.refl _ _).alloc (Nat.le_refl _) _)).mono ?_
 rintro e f ⟨c, rfl⟩
 obtain ⟨i, o⟩ := Qac c 0 (v := .int .i64 0) rfl
 obtain ⟨j, p⟩ := Qac c 1 (v := .int .i64 0) rfl
 obtain ⟨k, q⟩ := Qac c 2 (v := .bool false) rfl
 obtain ⟨l, r⟩ := Qac c 3 (v := .string ⟨#[]⟩) rfl
 obtain ⟨m, t⟩ := Qac c 4 (v := .slice none 0 0) rfl
 have g : Aside (Below w.heap.size w f) := ((Below.refl w.heap.size w).alloc (Nat.le_refl _) _).trans (c.mono (by simp))
 have d : w.heap.size < f.heap.size := by have := c.size; simp at this; omega
 have n : w.heap.size ≠ f.heap.size := Nat.ne_of_lt d
 clear c
 go_wp2
 refine bodyPost_ret (v := .tuple #[valP ⟨fr, to, false, s.extract bh to, .slice none 0 0⟩, .nilIface]) (by simp [results, Tryz.results109, go_sem, d, i, j, k, l, m]) rfl ⟨?_, rfl⟩
 exact ((((((g.out.setCell (Nat.le_refl _) _).setCell (Nat.le_refl _) _).setCell (Nat.le_refl _) _).setCell (Nat.le_refl _) _).setCell (Nat.le_refl _) _).alloc (by simp; omega) _).alloc (by simp; omega) _
theorem Qs7 (s : ByteArray) (fr a b bh to : Nat) (w : World) (h1 : (fr : Int) <= (s.size : Int)) (cut : ByteArray) (hx : s.extract fr s.size = cut) (hN : ∀ W, Below w.heap.size w W -> Calls Tryz.prog 116 #[.string cut] W fun e w' => Below W.heap.size W w' /\ e = .returned (.tuple #[headV true a b, .nilIface]))
  (e1 : wrap64 ((fr : Int) + (a : Int)) = (bh : Int)) (e2 : wrap64 ((bh : Int) + (b : Int)) = (to : Int)) (te : TypeId) (pe : Value) (hg : w.cell? ⟨3, 0, none⟩ = some (.iface te pe)) (hgl : 3 < w.heap.size) :
  Calls Tryz.prog 109 #[.string s, .int .i64 (fr : Int), .int .i64 6] w fun e w' => Below w.heap.size w w' /\ e = .returned (.tuple #[zeroP, placeV fr (.iface te pe)]) := by
 have h : Hid (∀ W, Below w.heap.size w W -> Calls Tryz.prog 116 #[.string cut] W fun e w' => Below W.heap.size W w' /\ e = .returned (.tuple #[headV true a b, .nilIface])) := hN
 clear hN
 go_enter Tryz.func109, Tryz.ntmps109
 go_wp2_with fail
 refine (h.out _ ((Below.refl _ _).alloc (Nat.le_refl _) _)).mono ?_
 rintro e d ⟨c, rfl⟩
 obtain ⟨i, t⟩ := Qac c 0 (v := .int .i64 0) rfl
 obtain ⟨j, u⟩ := Qac c 1 (v := .int .i64 0) rfl
 obtain ⟨k, x⟩ := Qac c 2 (v := .bool false) rfl
 obtain ⟨l, y⟩ := Qac c 3 (v := .string ⟨#[]⟩) rfl
 obtain ⟨m, z⟩ := Qac c 4 (v := .slice none 0 0) rfl
 have g : Aside (Below w.heap.size w d) := ((Below.refl w.heap.size w).alloc (Nat.le_refl _) _).trans (c.mono (by simp))
 have f : w.heap.size < d.heap.size := by have := c.size; simp at this; omega
 have r : w.heap.size ≠ d.heap.size := Nat.ne_of_lt f
 have n : d.cell? ⟨3, 0, none⟩ = some (.iface te pe) := (g.out.cell hgl).trans hg
 have o : 3 < d.heap.size := by omega
 have p : 3 < d.heap.size + 1 := by omega
 have q : ¬ 3 = w.heap.size := by omega
 clear c
 go_wp2
 go_region
 go_wp2
 refine bodyPost_ret (v := .tuple #[zeroP, placeV fr (.iface te pe)]) (by simp [results, Tryz.results109, go_sem, f, i, j, k, l, m]) rfl ⟨?_, rfl⟩
 exact (((((((g.out.setCell (Nat.le_refl _) _).setCell (Nat.le_refl _) _).setCell (Nat.le_refl _) _).setCell (Nat.le_refl _) _).setCell (Nat.le_refl _) _).alloc (by simp; omega) _).alloc (by simp; omega) _).drew
theorem Qs8 (s : ByteArray) (fr lists l1 a b bh to : Nat) (w : World) (h1 : (fr : Int) <= (s.size : Int)) (cut : ByteArray) (hx : s.extract fr s.size = cut) (hN : ∀ W, Below w.heap.size w W -> Calls Tryz.prog 116 #[.string cut] W fun e w' => Below W.heap.size W w' /\ e = .returned (.tuple #[headV true a b, .nilIface]))
  (e1 : wrap64 ((fr : Int) + (a : Int)) = (bh : Int)) (e2 : wrap64 ((bh : Int) + (b : Int)) = (to : Int)) (hl : ((lists : Int) == 6) = false) (e3 : wrap64 ((lists : Int) + 1) = (l1 : Int)) (i2 : (to : Int) <= (s.size : Int)) (cut2 : ByteArray) (hx2 : s.extract 0 to = cut2)
  (RE : TypeId -> Value -> Prop) (RO : World -> World -> Value -> Prop)
  (hI : ∀ W, Below w.heap.size w W -> Calls Tryz.prog 117 #[.string cut2, .int .i64 (bh : Int), .int .i64 (l1 : Int)] W fun e w' => Below W.heap.size W w' /\ ((∃ t v, RE t v /\ e = .returned (.tuple #[.slice none 0 0, .iface t v])) \/ ∃ p n c, RO W w' (.slice p n c) /\ e = .returned (.tuple #[.slice p n c, .nilIface]))) :
  Calls Tryz.prog 109 #[.string s, .int .i64 (fr : Int), .int .i64 (lists : Int)] w fun e w' => Below w.heap.size w w' /\ ((∃ t v, RE t v /\ e = .returned (.tuple #[zeroP, .iface t v])) \/
   ∃ W w2 p n c, Below w.heap.size w W /\ RO W w2 (.slice p n c) /\ (∀ k, W.heap.size <= k -> w'.heap[k]? = w2.heap[k]?) /\ w'.heap.size = w2.heap.size /\ w.heap.size < W.heap.size /\ e = .returned (.tuple #[valP ⟨fr, to, true, ⟨#[]⟩, .slice p n c⟩, .nilIface])) := by
 have E : Hid (∀ W, Below w.heap.size w W -> Calls Tryz.prog 116 #[.string cut] W fun e w' => Below W.heap.size W w' /\ e = .returned (.tuple #[headV true a b, .nilIface])) := hN
 have D : Hid (∀ W, Below w.heap.size w W -> Calls Tryz.prog 117 #[.string cut2, .int .i64 (bh : Int), .int .i64 (l1 : Int)] W fun e w' => Below W.heap.size W w' /\ ((∃ t v, RE t v /\ e = .returned (.tuple #[.slice none 0 0, .iface t v])) \/ ∃ p n c, RO W w' (.slice p n c) /\ e = .returned (.tuple #[.slice p n c, .nilIface]))) := hI
 clear hN hI
 go_enter Tryz.func109, Tryz.ntmps109
 go_wp2_with fail
 refine (E.out _ ((Below.refl _ _).alloc (Nat.le_refl _) _)).mono ?_
 rintro e h ⟨g, rfl⟩
 obtain ⟨i, x⟩ := Qac g 0 (v := .int .i64 0) rfl
 obtain ⟨j, y⟩ := Qac g 1 (v := .int .i64 0) rfl
 obtain ⟨l, z⟩ := Qac g 2 (v := .bool false) rfl
 obtain ⟨m, B⟩ := Qac g 3 (v := .string ⟨#[]⟩) rfl
 obtain ⟨o, C⟩ := Qac g 4 (v := .slice none 0 0) rfl
 have q : Aside (Below w.heap.size w h) := ((Below.refl w.heap.size w).alloc (Nat.le_refl _) _).trans (g.mono (by simp))
 have f : w.heap.size < h.heap.size := by have := g.size; simp at this; omega
 have I : w.heap.size ≠ h.heap.size := Nat.ne_of_lt f
 clear g
 go_wp2_with fail
 refine (D.out _ ((q.out.alloc (Nat.le_of_lt f) _).alloc (by simp; omega) _)).mono ?_
 rintro e w2 ⟨d, F⟩
 obtain ⟨i, x⟩ := Qs4 d f ⟨i, x⟩
 obtain ⟨j, y⟩ := Qs4 d f ⟨j, y⟩
 obtain ⟨l, z⟩ := Qs4 d f ⟨l, z⟩
 obtain ⟨m, B⟩ := Qs4 d f ⟨m, B⟩
 obtain ⟨o, C⟩ := Qs4 d f ⟨o, C⟩
 obtain ⟨K, P⟩ := Qs5 d 0 (v := .int .i64 (fr : Int)) rfl
 obtain ⟨L, Q⟩ := Qs5 d 1 (v := .int .i64 (to : Int)) rfl
 obtain ⟨M, R⟩ := Qs5 d 2 (v := .bool true) rfl
 obtain ⟨N, S⟩ := Qs5 d 3 (v := .string ⟨#[]⟩) rfl
 obtain ⟨O, T⟩ := Qs5 d 4 (v := .slice none 0 0) rfl
 have u : Aside (Below w.heap.size w w2 /\ h.heap.size + 2 <= w2.heap.size) := ⟨((q.out.alloc (Nat.le_of_lt f) _).alloc (by simp; omega) _).trans (d.mono (by simp; omega)), by have := d.size; simp at this; omega⟩
 have J : ¬ h.heap.size + 1 = w.heap.size := by omega
 clear d
 rcases F with ⟨t, v, hR, rfl⟩ | ⟨p, n, c, hR, rfl⟩
 ·have r : Hid (RE t v) := hR
  clear hR
  go_wp2
  refine bodyPost_ret (v := .tuple #[zeroP, .iface t v]) (by simp [results, Tryz.results109, go_sem, i, j, l, m, o]) rfl ⟨?_, .inl ⟨t, v, r.out, rfl⟩⟩
  exact ((((((u.out.1.setCell (by simp only; omega) _).setCell (Nat.le_refl _) _).setCell (Nat.le_refl _) _).setCell (Nat.le_refl _) _).setCell (Nat.le_refl _) _).setCell (Nat.le_refl _) _)
 ·have r : Hid (RO _ _ (.slice p n c)) := hR
  clear hR
  go_wp2
  refine bodyPost_ret (v := .tuple #[valP ⟨fr, to, true, ⟨#[]⟩, .slice p n c⟩, .nilIface]) (by simp [results, Tryz.results109, go_sem, i, j, l, m, o]) rfl ⟨?_, .inr ⟨_, w2, p, n, c, (q.out.alloc (Nat.le_of_lt f) _).alloc (by simp; omega) _, r.out, fun k G => ?_, by simp, by simp; omega, rfl⟩⟩
  ·exact ((((((u.out.1.setCell (by simp only; omega) _).setCell (Nat.le_refl _) _).setCell (Nat.le_refl _) _).setCell (Nat.le_refl _) _).setCell (Nat.le_refl _) _).setCell (Nat.le_refl _) _)
  ·have H : h.heap.size + 2 <= k := by simpa using G
   rw [Below.heap_setCell _ _ _ _ (by simp only; omega), Below.heap_setCell _ _ _ _ (by simp only; omega), Below.heap_setCell _ _ _ _ (by simp only; omega), Below.heap_setCell _ _ _ _ (by simp only; omega), Below.heap_setCell _ _ _ _ (by simp only; omega), Below.heap_setCell _ _ _ _ (by simp only; omega)]
theorem QAe : (Tryz.prog.info? 225).map (fun i => (i.zero, i.size, i.bytes)) = some (some zeroP, 5, 64) := by kernel_rfl
def ItemSaid (d : Nat) (s : ByteArray) (fr : Nat) (sent : Nat -> Addr) (w : World) (e : Ending) (w' : World) : Prop :=
 Below w.heap.size w w' /\ (∀ er, readIt d (bytesOf s) fr = .error er -> ∃ t v, er.val sent = .iface t v /\ e = .returned (.tuple #[zeroP, .iface t v])) /\
  ∀ x, readIt d (bytesOf s) fr = .ok x -> ∃ (l : Bool) (tx : ByteArray) (p : Option Addr) (m c : Nat), Tree encP kP d w' (fun k => w.heap.size <= k) ⟨fr, x.to, l, tx, .slice p m c⟩ x /\ e = .returned (.tuple #[valP ⟨fr, x.to, l, tx, .slice p m c⟩, .nilIface])
def Read (d : Nat) (its : List It) (w w' : World) (v : Value) : Prop :=
 ∃ ps : List (El × It), RowAt w' (fun k => w.heap.size <= k) v ps.length (ps.flatMap fun p => encP p.1) /\ (∀ p ∈ ps, Tree encP kP d w' (fun k => w.heap.size <= k) p.1 p.2) /\ ps.map (·.2) = its
def itemsF (d : Nat) (s : ByteArray) (fr : Nat) : Except Er (List It) := readIts (readIt d (bytesOf s)) s.size (s.size - fr) fr
def ItemsSaid (d : Nat) (s : ByteArray) (fr : Nat) (sent : Nat -> Addr) (w : World) (e : Ending) (w' : World) : Prop :=
 Below w.heap.size w w' /\ (∀ er, itemsF d s fr = .error er -> ∃ t v, er.val sent = .iface t v /\ e = .returned (.tuple #[.slice none 0 0, .iface t v])) /\
  ∀ its, itemsF d s fr = .ok its -> ∃ p m c, Read d its w w' (.slice p m c) /\ e = .returned (.tuple #[.slice p m c, .nilIface])
def ahead (its : List It) : Except Er (List It) -> Except Er (List It)
 | .error e => .error e
 | .ok l => .ok (its ++ l)
theorem Qs9 (r : Except Er (List It)) : ahead [] r = r := by
 cases r <;> rfl
theorem Qnn (a b : List It) (r : Except Er (List It)) : ahead a (ahead b r) = ahead (a ++ b) r := by
 cases r
 ·rfl
 ·simp [ahead]
theorem Qlh {rd : Nat -> Except Er It} {n : Nat} (hr : ∀ fr x, fr < n -> rd fr = .ok x -> fr < x.to) : ∀ (k j fr : Nat), n - fr <= k -> n - fr <= j -> readIts rd n k fr = readIts rd n j fr := by
 intro k
 induction k with
 | zero =>
  intro j fr b c
  cases j with
  | zero => rfl
  | succ j => rw [readIts, readIts, if_neg (by omega)]
 | succ k ih =>
  intro j fr b c
  by_cases a : fr < n
  ·obtain ⟨i, rfl⟩ : ∃ i, j = i + 1 := ⟨j - 1, by omega⟩
   rw [readIts, readIts, if_pos a, if_pos a]
   cases h3 : rd fr with
   | error e => rfl
   | ok x =>
    have := hr fr x a h3
    simp only
    rw [ih i x.to (by omega) (by omega)]
  ·cases j with
   | zero => rw [readIts, readIts, if_neg a]
   | succ j => rw [readIts, readIts, if_neg a, if_neg a]
variable {d fr : Nat} {s : ByteArray}
theorem Qdj {x : It} (hfr : fr <= s.size) (h : readIt d (bytesOf s) fr = .ok x) : x.fr = fr /\ fr < x.to /\ x.to <= s.size := by
 have e := bytesOf_length s
 obtain ⟨a, b, c, _⟩ := Qds d (bytesOf s) fr x (Qhu s) (by omega) h
 exact ⟨a, b, by omega⟩
variable {x : Nat}
theorem Qno (hx : x < s.size) {y : It} (h : readIt d (bytesOf s) x = .ok y) : itemsF d s x = ahead [y] (itemsF d s y.to) := by
 obtain ⟨_, f, g⟩ := Qdj (Nat.le_of_lt hx) h
 unfold itemsF
 obtain ⟨j, b⟩ : ∃ j, s.size - x = j + 1 := ⟨s.size - x - 1, by omega⟩
 rw [b, readIts, if_pos hx, h]
 simp only
 rw [Qlh (fun e z a c => (Qdj (Nat.le_of_lt a) c).2.1) j (s.size - y.to) y.to (by omega) (by omega)]
 cases readIts (readIt d (bytesOf s)) s.size (s.size - y.to) y.to <;> rfl
theorem Qli (hx : x < s.size) {e : Er} (h : readIt d (bytesOf s) x = .error e) : itemsF d s x = .error e := by
 unfold itemsF
 obtain ⟨j, a⟩ : ∃ j, s.size - x = j + 1 := ⟨s.size - x - 1, by omega⟩
 rw [a, readIts, if_pos hx, h]
theorem Qqa (hx : s.size <= x) : itemsF d s x = .ok [] := by
 unfold itemsF
 rw [show s.size - x = 0 by omega, readIts]
def Half (d : Nat) (s : ByteArray) (fr x : Nat) (w wr : World) (v : Value) : Prop :=
 ∃ ps : List (El × It), OwnC wr w.heap.size 5 v ps.length (ps.flatMap fun p => encP p.1) /\ (∀ p ∈ ps, Tree encP kP d wr (fun k => (w.heap.size <= k /\ v.ownBlock ≠ some k) /\ k < wr.heap.size) p.1 p.2) /\ itemsF d s fr = ahead (ps.map (·.2)) (itemsF d s x) /\ ps.length <= x - fr /\ Below w.heap.size w wr /\ (∀ k, v.ownBlock = some k -> Plain wr k)
theorem Half.nil (d : Nat) (s : ByteArray) (fr : Nat) (w : World) : Half d s fr fr w w (.slice none 0 0) :=
 ⟨[], OwnC.nil _ _ _, by simp, by rw [List.map_nil, Qs9], by simp, Below.refl _ _, by simp [Value.ownBlock]⟩
variable {w : World}
theorem OwnC.shape {B size : Nat} {n : Nat} {cs : List Value} (h : OwnC w B size v n cs) : ∃ p m c, v = .slice p m c := by
 rcases h.2 with ⟨rfl, _⟩ | ⟨g, cap, rfl, _⟩ <;> exact ⟨_, _, _, rfl⟩
theorem Half.shape {d : Nat} {s : ByteArray} {fr x : Nat} {w wr : World} {v : Value} (h : Half d s fr x w wr v) : ∃ p m c, v = .slice p m c := by
 obtain ⟨b, a, _⟩ := h
 exact a.shape
theorem Half.done {wr : World} (h : Half d s fr x w wr v) (hx : s.size <= x) : ∃ its, itemsF d s fr = .ok its /\ Read d its w wr v := by
 obtain ⟨i, c, g, b, _, _, e⟩ := h
 rw [Qqa hx] at b
 exact ⟨_, b, i, c.rowAt (fun k a => (c.block k a).1) e, fun p f => Tree.keep (fun k a => a.1.1) (Nat.le_refl _) (fun _ _ _ => rfl) d (g p f), by simp⟩
theorem Half.more {wr : World} {v2 : Value} {qs : List (El × It)} {o2 : Obj} {e : El} {y : It}
  (ht : ∀ p ∈ qs, Tree encP kP d wr (fun k => (w.heap.size <= k /\ v.ownBlock ≠ some k) /\ k < wr.heap.size) p.1 p.2) (hc : itemsF d s fr = ahead (qs.map (·.2)) (itemsF d s x)) (hl : qs.length <= x - fr) (hb : Below w.heap.size w wr) (hb1 : Below wr.heap.size wr w1)
  (hv : ∀ k, v.ownBlock = some k -> w.heap.size <= k /\ k < wr.heap.size)
  (hT : Tree encP kP d w1 (fun k => wr.heap.size <= k) e y) (hx : fr <= x) (hxs : x < s.size) (hy : readIt d (bytesOf s) x = .ok y)
  (hO : OwnC w2 w.heap.size 5 v2 (qs.length + 1) ((qs.flatMap fun p => encP p.1) ++ encP e)) (hg : ((w1.alloc o1).alloc o2).grownBy w2 v.ownBlock) (hf : ∀ k, v2.ownBlock = some k -> v.ownBlock = some k \/ ((w1.alloc o1).alloc o2).heap.size <= k) (hP : ∀ k, v2.ownBlock = some k -> Plain w2 k) :
  Half d s fr y.to w w2 v2 := by
 have l := hb1.size
 have j := hb.size
 have i := hg.size
 have m := (Qdj (Nat.le_of_lt hxs) hy).2.1
 simp only [World.size_alloc] at i hf
 have c : ∀ k, k < w1.heap.size -> v.ownBlock ≠ some k -> w2.heap[k]? = w1.heap[k]? := fun k a h =>
  (hg.block k (by simp; omega) (fun e => h e.symm)).trans ((Below.heap_alloc _ _ _ (by simp; omega)).trans (Below.heap_alloc _ _ _ a))
 refine ⟨qs ++ [(e, y)], by simpa using hO, fun p g => ?_, ?_, ?_, ?_, hP⟩
 ·rcases List.mem_append.1 g with g | g
  ·refine Tree.keep (fun k a => ?_) (by omega) (fun k a f => (c k (by omega) a.1.2).trans (hb1.block k f)) d (ht p g)
   refine ⟨⟨a.1.1, fun b => ?_⟩, by omega⟩
   rcases hf k b with e3 | e3
   ·exact a.1.2 e3
   ·omega
  ·obtain rfl := List.mem_singleton.1 g
   refine Tree.keep (fun k a => ?_) (by omega) (fun k a f => c k f (fun b => by have := (hv k b).2; omega)) d hT.bound
   refine ⟨⟨by have := a.1; omega, fun b => ?_⟩, by omega⟩
   rcases hf k b with e3 | e3
   ·have := (hv k e3).2; have := a.1; omega
   ·have := a.2; omega
 ·rw [hc, Qno hxs hy, Qnn, List.map_append]
  rfl
 ·simp only [List.length_append, List.length_cons, List.length_nil]
  omega
 ·exact ((hb.trans (hb1.mono j)).alloc (by omega) _ |>.alloc (by simp; omega) _).trans ⟨hg.os, hg.tape, hg.output, hg.size, fun k a => hg.block k (by simp; omega) (fun e => by have := (hv k e.symm).1; omega)⟩
theorem Qax (w : World) (l : List Value) (t : TypeId) : (w.alloc (.cells l.toArray t)).rangeAt w.heap.size 0 l := by
 intro j u a
 rw [Nat.zero_add, World.cell?_alloc_new]
 simpa using a
theorem Qlj (fr to : Nat) (l : Bool) (tx : ByteArray) (p : Option Addr) (m c : Nat) : ∀ u ∈ encP ⟨fr, to, l, tx, .slice p m c⟩, u.oneCell' = true := by
 intro u a
 simp only [List.mem_cons, List.not_mem_nil, or_false] at a
 rcases a with rfl | rfl | rfl | rfl | rfl <;> rfl
theorem Qsa (d : Nat) (s : ByteArray) (fr l1 : Nat) (sent : Nat -> Addr) (w : World) (hs : s.size <= 2048) (hfr : fr <= s.size)
  (hN : ∀ W x, Below w.heap.size w W -> x <= s.size -> Calls Tryz.prog 109 #[.string s, .int .i64 (x : Int), .int .i64 (l1 : Int)] W (ItemSaid d s x sent W)) :
  Calls Tryz.prog 117 #[.string s, .int .i64 (fr : Int), .int .i64 (l1 : Int)] w (ItemsSaid d s fr sent w) := by
 obtain ⟨i0, hi, ae, ag, ah⟩ := info_parts QAe
 have HN : Hid (∀ W x, Below w.heap.size w W -> x <= s.size -> Calls Tryz.prog 109 #[.string s, .int .i64 (x : Int), .int .i64 (l1 : Int)] W (ItemSaid d s x sent W)) := hN
 have HS : Hid (s.size <= 2048) := hs
 clear hN hs
 go_enter Tryz.func117, Tryz.ntmps117
 go_wp2
 go_loopg [1, 8] (s.size - fr) (fun g f v wr => ∃ x : Nat, fr <= x /\ x <= s.size /\ g = s.size - x /\ f = .int .i64 (x : Int) /\ Half d s fr x w wr v)
 case atStart => exact ⟨fr, Nat.le_refl _, hfr, rfl, rfl, Half.nil d s fr w⟩
 case round =>
  obtain ⟨x, ab, hx, rfl, rfl, F⟩ := hrel
  obtain ⟨z, q, n, rfl⟩ := F.shape
  by_cases M : x < s.size
  ·have ac : (x : Int) < (s.size : Int) := by omega
   have C : Aside (Half d s fr x w wr (.slice z q n)) := F
   have b : Below w.heap.size w wr := by obtain ⟨_, _, _, _, _, h, _⟩ := F; exact h
   clear F
   go_wp2_with fail
   refine (HN.out _ x b hx).mono ?_
   rintro e i ⟨a, I, J⟩
   rcases hr : readIt d (bytesOf s) x with O | y
   ·obtain ⟨t, v, D, rfl⟩ := I O hr
    have j : Aside (itemsF d s fr = .error O /\ O.val sent = .iface t v /\ Below w.heap.size w i) := by
     obtain ⟨E, _, _, R, _⟩ := C.out
     exact ⟨by rw [R, Qli M hr]; rfl, D, b.trans (a.mono b.size)⟩
    clear D a b I J hr
    go_wp2
    go_ret2
    refine ⟨j.out.2.2.alloc j.out.2.2.size _, fun ak o => ?_, fun ai o => ?_⟩
    ·rw [j.out.1] at o
     cases o
     exact ⟨t, v, j.out.2.1, rfl⟩
    ·rw [j.out.1] at o
     cases o
   ·obtain ⟨l, T, p, m, c, Y, rfl⟩ := J y hr
    obtain ⟨h0, P, Q⟩ := Qdj hx hr
    obtain ⟨to, N⟩ : ∃ to, y.to = to := ⟨_, rfl⟩
    rw [N] at Y P Q ⊢
    obtain ⟨E, X, ht, R, hl, _, hP⟩ := C.out
    have D := X.block
    have HO : Hid (∀ r u, OwnC ((i.alloc r).alloc u) w.heap.size 5 (.slice z q n) E.length (E.flatMap fun p => encP p.1)) := fun r u => ((X.below a).alloc r).alloc u
    have j : Aside (E.length <= 2048 /\ w.heap.size <= i.heap.size) := ⟨by have := HS.out; omega, Nat.le_trans b.size a.size⟩
    have Z : Aside (∀ {B : World} {G : Value} {r u : Obj}, OwnC B w.heap.size 5 G (E.length + 1) ((E.flatMap fun p => encP p.1) ++ encP ⟨x, to, l, T, .slice p m c⟩) -> ((i.alloc r).alloc u).grownBy B (Value.slice z q n).ownBlock -> (∀ k, G.ownBlock = some k -> (Value.slice z q n).ownBlock = some k \/ ((i.alloc r).alloc u).heap.size <= k) -> ((∀ k, (Value.slice z q n).ownBlock = some k -> Plain ((i.alloc r).alloc u) k) -> ∀ k, G.ownBlock = some k -> Plain B k) -> Half d s fr to w B G) := fun {B G r u} h1' h2' h3' h4' => N ▸ Half.more ht R hl b a D Y ab M hr h1' h2' h3' (h4' (fun k S => (hP k S).keep (by have aa := (D k S).2; have al := a.size; rw [Below.heap_alloc _ _ _ (by simp; omega), Below.heap_alloc _ _ _ (by omega), a.block k aa])))
    have A3 : Aside (∀ k, (Value.slice z q n).ownBlock = some k -> k < i.heap.size) := fun k S => by have := (D k S).2; have := a.size; omega
    clear X ht R hl D Y hP C a b I J hr N h0
    go_wp2_with (at_builtin; refine Qal _ rfl _ _ 223 rfl 225 i0 zeroP 5 64 Tryz.underlying223 hi ae ag ah rfl (by decide) w.heap.size _ E.length _ rfl (HO.out _ _) (i.heap.size + 1) 0 1 1 (encP ⟨x, to, l, T, .slice p m c⟩) rfl rfl ?c1 (Qlj _ _ _ _ _ _ _) ?c2 ?c3 ?c4 ?_)
    case c1 =>
     have := Qax (i.alloc (.cells (encP ⟨x, to, l, T, .slice p m c⟩).toArray 225)) (encP ⟨x, to, l, T, .slice p m c⟩) 225
     simpa using this
    case c2 => have := j.out.1; unfold maxLen; omega
    case c3 => have := j.out.1; omega
    case c4 => have := j.out.2; simp; omega
    intro G B H L U V
    obtain ⟨p2, m2, c2, rfl⟩ := H.shape
    have d1 : B.cell? ⟨i.heap.size, 1, none⟩ = some (.int .i64 (to : Int)) := by
     refine World.grownBy.cell L ?_ (fun e => ?_)
     ·rw [World.cell?_alloc_past _ _ _ (by simp), World.cell?_alloc_new]
      rfl
     ·have := A3.out _ e.symm
      simp at this
    have A4 : Aside (Half d s fr to w B (.slice p2 m2 c2)) := Z.out H L (by simpa using U) V
    clear H L U V HO Z A3
    go_wp2
    go_roundg (s.size - to)
    case measure => omega
    case rel => exact ⟨to, by omega, Q, rfl, rfl, A4.out⟩
  ·have ac : (s.size : Int) <= (x : Int) := by omega
   have C : Aside (Half d s fr x w wr (.slice z q n) /\ s.size <= x) := ⟨F, by omega⟩
   clear F M
   go_wp2
   go_ret2
   obtain ⟨ai, P, Q⟩ := C.out.1.done C.out.2
   refine ⟨by obtain ⟨_, _, _, _, _, h, _⟩ := C.out.1; exact h, fun O K => ?_, fun aj K => ?_⟩
   ·rw [P] at K
    cases K
   ·rw [P] at K
    cases K
    exact ⟨z, q, n, Q, rfl⟩
theorem Qdk (s : ByteArray) (a b : Nat) : bytesOf (s.extract a b) = ((bytesOf s).drop a).take (b - a) := by
 unfold bytesOf
 rw [<- List.map_drop, <- List.map_take]
 congr 1
 simp only [ByteArray.data_extract, Array.toList_extract, List.extract_eq_take_drop]
theorem Qjv (s : ByteArray) (a b : Nat) (h : b <= s.size) : (s.extract a b).size = b - a := by
 rw [<- bytesOf_length, Qdk, List.length_take, List.length_drop, bytesOf_length]
 omega
theorem Qe2 (d : Nat) (s : ByteArray) (fr lists : Nat) (w : World) (l : Bool) (sent : Nat -> Addr) (x : Nat) (hfr : fr <= s.size) (hN : ∀ W, Below w.heap.size w W -> Calls Tryz.prog 116 #[.string (s.extract fr s.size)] W fun e w' => Below W.heap.size W w' /\ e = .returned (.tuple #[headV l 0 0, (Er.base x).val sent])) (hr : readIt d (bytesOf s) fr = .error (.place fr (.base x))) :
  Calls Tryz.prog 109 #[.string s, .int .i64 (fr : Int), .int .i64 (lists : Int)] w (ItemSaid d s fr sent w) := by
 refine (Qv8 s fr lists w l _ _ (Int.ofNat_le.2 hfr) _ rfl hN).mono ?_
 rintro e w' ⟨b, rfl⟩
 refine ⟨b, fun c a => ?_, fun x a => ?_⟩
 ·rw [hr] at a
  cases a
  exact ⟨_, _, rfl, rfl⟩
 ·rw [hr] at a
  cases a
theorem Qir (d : Nat) (s : ByteArray) (fr lists a b : Nat) (w : World) (sent : Nat -> Addr) (hs : s.size <= 2048) (hfr : fr <= s.size) (hok : HeadOK ((bytesOf s).drop fr) false a b) (hN : ∀ W, Below w.heap.size w W -> Calls Tryz.prog 116 #[.string (s.extract fr s.size)] W fun e w' => Below W.heap.size W w' /\ e = .returned (.tuple #[headV false a b, .nilIface])) (hr : readIt d (bytesOf s) fr = .ok (.text fr (fr + a + b) (((bytesOf s).drop (fr + a)).take b))) :
  Calls Tryz.prog 109 #[.string s, .int .i64 (fr : Int), .int .i64 (lists : Int)] w (ItemSaid d s fr sent w) := by
 have f := hok.1
 have i := hok.2.1
 rw [List.length_drop, bytesOf_length] at f
 refine (Qs6 s fr lists a b (fr + a) (fr + a + b) w (Int.ofNat_le.2 hfr) _ rfl hN (Qbg fr a (by omega)) (Qbg (fr + a) b (by omega)) (Int.ofNat_le.2 (by omega)) (Int.ofNat_le.2 (by omega))).mono ?_
 rintro e w' ⟨g, rfl⟩
 refine ⟨g, fun h c => ?_, fun x c => ?_⟩
 ·rw [hr] at c
  cases c
 ·rw [hr] at c
  cases c
  refine ⟨false, _, none, 0, 0, Tree.text ⟨⟨rfl, rfl⟩, ?_⟩ d, rfl⟩
  show _ = It.text fr (fr + a + b) (bytesOf (s.extract (fr + a) (fr + a + b)))
  rw [Qdk, show fr + a + b - (fr + a) = b by omega]
theorem Qv9 (sent : Nat -> Addr) : ∀ (d lists : Nat) (s : ByteArray) (fr : Nat) (w : World), lists + d = 6 -> s.size <= 2048 -> fr <= s.size -> Faults w sent ->
  Calls Tryz.prog 109 #[.string s, .int .i64 (fr : Int), .int .i64 (lists : Int)] w (ItemSaid d s fr sent w) := by
 intro d
 induction d with
 | zero =>
  intro lists s fr w S J i j
  have N := bytesOf_length s
  have D : bytesOf (s.extract fr s.size) = (bytesOf s).drop fr := by
   rw [Qdk, List.take_of_length_le]
   rw [List.length_drop]
   omega
  have P := Qjv s fr s.size (Nat.le_refl _)
  obtain rfl : lists = 6 := by omega
  have B := Qhw (s.extract fr s.size) w _ _ _ (j.var 2 (by decide)) (j.var 3 (by decide)) (j.low (n := 2) (by decide)) (j.low (n := 3) (by decide)) (by omega)
  rw [D] at B
  cases hh : headF ((bytesOf s).drop fr) with
  | error x =>
   obtain ⟨l, U, E, o⟩ := B.1 x hh
   have f : readIt 0 (bytesOf s) fr = .error (.place fr (.base x)) := by rw [readIt, hh]
   rcases E with ⟨rfl, rfl⟩ | ⟨rfl, rfl⟩
   ·exact Qe2 0 s fr 6 w l sent 2 i o f
   ·exact Qe2 0 s fr 6 w l sent 3 i o f
  | ok p =>
   obtain ⟨l, a, b⟩ := p
   have o := B.2 l a b hh
   have u := Qgh (Qea (Qhu s) fr) hh
   have z := u.1
   rw [List.length_drop] at z
   cases l with
   | false => exact Qir 0 s fr 6 a b w sent J i u o (by rw [readIt, hh]; rfl)
   | true =>
    have f : readIt 0 (bytesOf s) fr = .error (.place fr (.base 5)) := by rw [readIt, hh]; rfl
    refine (Qs7 s fr a b (fr + a) (fr + a + b) w (Int.ofNat_le.2 i) _ rfl o (Qbg fr a (by omega)) (Qbg (fr + a) b (by omega)) _ _ (j.var 5 (by decide)) (j.low (n := 5) (by decide))).mono ?_
    rintro e G ⟨C, rfl⟩
    refine ⟨C, fun y g => ?_, fun x g => ?_⟩
    ·rw [f] at g
     cases g
     exact ⟨_, _, rfl, rfl⟩
    ·rw [f] at g
     cases g
 | succ d ih =>
  intro lists s fr w S J i j
  have N := bytesOf_length s
  have D : bytesOf (s.extract fr s.size) = (bytesOf s).drop fr := by
   rw [Qdk, List.take_of_length_le]
   rw [List.length_drop]
   omega
  have P := Qjv s fr s.size (Nat.le_refl _)
  have B := Qhw (s.extract fr s.size) w _ _ _ (j.var 2 (by decide)) (j.var 3 (by decide)) (j.low (n := 2) (by decide)) (j.low (n := 3) (by decide)) (by omega)
  rw [D] at B
  cases hh : headF ((bytesOf s).drop fr) with
  | error x =>
   obtain ⟨l, U, E, o⟩ := B.1 x hh
   have f : readIt (d + 1) (bytesOf s) fr = .error (.place fr (.base x)) := by rw [readIt, hh]
   rcases E with ⟨rfl, rfl⟩ | ⟨rfl, rfl⟩
   ·exact Qe2 (d + 1) s fr lists w l sent 2 i o f
   ·exact Qe2 (d + 1) s fr lists w l sent 3 i o f
  | ok p =>
   obtain ⟨l, a, b⟩ := p
   have o := B.2 l a b hh
   have u := Qgh (Qea (Qhu s) fr) hh
   have z := u.1
   have F := u.2.1
   rw [List.length_drop] at z
   cases l with
   | false => exact Qir (d + 1) s fr lists a b w sent J i u o (by rw [readIt, hh]; rfl)
   | true =>
    have O := Qjv s 0 (fr + a + b) (by omega)
    have H : bytesOf (s.extract 0 (fr + a + b)) = (bytesOf s).take (fr + a + b) := by rw [Qdk, List.drop_zero, Nat.sub_zero]
    have f : ∀ r, itemsF d (s.extract 0 (fr + a + b)) (fr + a) = r -> readIt (d + 1) (bytesOf s) fr = (match r with | .error e => .error e | .ok its => .ok (.list fr (fr + a + b) its)) := by
     intro r h
     unfold itemsF at h
     rw [H, O, Nat.sub_zero, show fr + a + b - (fr + a) = b by omega] at h
     rw [readIt, hh]
     simp only [if_true]
     rw [h]
     cases r <;> rfl
    refine (Qs8 s fr lists (lists + 1) a b (fr + a) (fr + a + b) w (Int.ofNat_le.2 i) _ rfl o (Qbg fr a (by omega)) (Qbg (fr + a) b (by omega)) (by simp; omega) (Qd4 lists (by omega)) (Int.ofNat_le.2 (by omega)) (s.extract 0 (fr + a + b)) rfl
     (fun t v => ∃ y : Er, itemsF d (s.extract 0 (fr + a + b)) (fr + a) = .error y /\ y.val sent = .iface t v) (fun W G v => ∃ its, itemsF d (s.extract 0 (fr + a + b)) (fr + a) = .ok its /\ Read d its W G v) ?_).mono ?_
    ·intro W L
     refine (Qsa d (s.extract 0 (fr + a + b)) (fr + a) (lists + 1) sent W (by omega) (by omega) (fun T x M X => ?_)).mono ?_
     ·exact ih (lists + 1) _ x T (by omega) (by omega) X (j.below (Below.behind L M))
     ·rintro e G ⟨C, Q, R⟩
      refine ⟨C, ?_⟩
      rcases hi : itemsF d (s.extract 0 (fr + a + b)) (fr + a) with y | its
      ·obtain ⟨t, v, z, F⟩ := Q y hi
       exact .inl ⟨t, v, ⟨y, rfl, z⟩, F⟩
      ·obtain ⟨p, m, c, z, F⟩ := R its hi
       exact .inr ⟨p, m, c, ⟨its, rfl, z⟩, F⟩
    ·rintro e G ⟨C, V⟩
     refine ⟨C, ?_⟩
     rcases V with ⟨t, v, ⟨y, hi, hv⟩, rfl⟩ | ⟨W, w2, p, m, c, L, ⟨its, hi, qs, I, ht, hc⟩, hk, hsz, hlt, rfl⟩
     ·have f := f _ hi
      simp only at f
      refine ⟨fun K g => ?_, fun x g => ?_⟩
      ·rw [f] at g
       cases g
       exact ⟨t, v, hv, rfl⟩
      ·rw [f] at g
       cases g
     ·have f := f _ hi
      simp only at f
      refine ⟨fun K g => ?_, fun x g => ?_⟩
      ·rw [f] at g
       cases g
      ·rw [f] at g
       cases g
       exact ⟨true, _, p, m, c, .inr ⟨rfl, qs, I.keep (fun k h => by omega) (by omega) (fun k h _ => hk k h), fun q I => Tree.keep (fun k h => by omega) (by omega) (fun k h _ => hk k h) d (ht q I), rfl, by rw [hc]; rfl⟩, rfl⟩
theorem Qjw {g : Nat} {t : TypeId} (h : w.heap[g]? = some (.cells cs t (0, 0))) (o : Nat) (u : Value) : ∃ cs', (w.setCell ⟨g, o, none⟩ u).heap[g]? = some (.cells cs' t (0, 0)) /\ cs'.size = cs.size := by
 refine ⟨cs.setIfInBounds o u, ?_, by simp⟩
 simp only [World.setCell, Array.getElem?_modify, if_true, h, Option.map_some, Option.isSome_none, Bool.false_eq_true, if_false]
theorem Qeg {g : Nat} {t : TypeId} : ∀ (vs : List Value) (o : Nat) {w : World} {cs : Array Value}, w.heap[g]? = some (.cells cs t (0, 0)) -> ∃ cs', (w.setCells g o vs).heap[g]? = some (.cells cs' t (0, 0)) /\ cs'.size = cs.size
 | [], _, _, cs, h => ⟨cs, h, rfl⟩
 | v :: r, o, _, _, h => by
  obtain ⟨c1, h1, e1⟩ := Qjw h o v
  obtain ⟨c2, h2, e2⟩ := Qeg r (o + 1) h1
  exact ⟨c2, h2, e2.trans e1⟩
theorem Qjx (s : ByteArray) : (⟨s.data.toList.toArray⟩ : ByteArray) = s := by
 apply ByteArray.ext
 simp
theorem Qqb (s : ByteArray) (w : World) (hs : s.size <= 1048576) :
  Calls Tryz.prog 81 #[.string s] w fun e w' => e = .returned (.string s) /\ Below w.heap.size w w' := by
 by_cases q : s.size = 0
 ·have hs : s = ⟨#[]⟩ := ByteArray.ext (Array.eq_empty_of_size_eq_zero q)
  subst hs
  go_enter Tryz.func81, Tryz.ntmps81
  go_wp2
  go_ret
  exact ⟨rfl, Below.refl _ _⟩
 ·obtain ⟨C, o, z, d, B⟩ := info_parts Qc0
  have f : (Tryz.prog.info? 5).map (·.size) = some 1 := by rw [o]; simp [d]
  have v : Tryz.prog.cellsOf 5 = 1 := by simp [Program.cellsOf, o, d]
  obtain ⟨M, m⟩ : ∃ M, madeCells (Value.int .u8 0).cells (((s.size : Nat) : Int).toNat * C.size) = M := ⟨_, rfl⟩
  have r : M.size = s.size := by rw [<- m, size_madeCells, d]; simp
  have L : ∀ W : World, (Instr.makeSlice 95 (.int .i64 (s.size : Int)) (.int .i64 (s.size : Int))).run Tryz.prog W = .ok (.slice (some ⟨W.heap.size, 0, none⟩) s.size s.size) (W.alloc (.cells M 5)) := fun W => by
   have h := run_make (P := Tryz.prog) W 95 5 C (.int .u8 0) Tryz.underlying95 o z .i64 .i64 (s.size : Int) (s.size : Int) (by omega) (by omega) (by rw [B]; omega) (by omega)
   rw [m] at h
   simpa using h
  have u := bytesOf_length s
  have c : (w.alloc (.cells M 5)).there w.heap.size 0 s.size := fun j D => ⟨by rw [Nat.zero_add, World.cell?_alloc_new]; simp [r, D], World.frozen?_alloc_new _ _ _ _⟩
  have i := Qfy (P := Tryz.prog) (w.alloc (.cells M 5)) 95 9 3 5 w.heap.size 0 s.size s.size s s.size Tryz.underlying95 f (Nat.min_self _).symm c
  rw [List.take_of_length_le (by omega)] at i
  obtain ⟨Y, n, K⟩ := Qeg ((bytesOf s).map encB) 0 (heap_alloc_new w (.cells M 5))
  have a := World.rangeAt_setCells_same (w.alloc (.cells M 5)) w.heap.size 0 ((bytesOf s).map encB) (by rw [List.length_map, u]; exact c)
  obtain ⟨W2, b⟩ : ∃ W2, (w.alloc (.cells M 5)).setCells w.heap.size 0 ((bytesOf s).map encB) = W2 := ⟨_, rfl⟩
  have g : Below w.heap.size w W2 := by
   rw [<- b]
   obtain ⟨G, H, I, J⟩ := Qa8 w.heap.size ((bytesOf s).map encB) 0 (w.alloc (.cells M 5))
   exact ⟨H, I, J, by rw [G]; simp, fun k E => (Qa4 _ _ _ _ _ (by omega)).trans (Below.heap_alloc _ _ _ E)⟩
  rw [b] at i n a
  have l : s.data.toList.length = s.size := by simp
  have y : s.data.toList ≠ [] := fun e => q (by rw [<- l, e]; rfl)
  have t := Lib.run_unsafeString_row (P := Tryz.prog) W2 229 3 9 5 Tryz.underlying229 v w.heap.size Y.size (by unfold World.shape?; rw [n]) s.data.toList y (by omega) (by omega)
   (fun j x F => by
    rw [Addr.add_mid]
    refine a j _ ?_
    unfold bytesOf
    rw [List.map_map, List.getElem?_map, F]
    rfl)
  rw [l, Qjx] at t
  have A : Aside (Below w.heap.size w W2) := g
  clear n a b m g c
  go_enter Tryz.func81, Tryz.ntmps81
  go_wp2
  go_ret
  exact ⟨rfl, Lib.below_freeze A.out (p := ⟨w.heap.size, 0, none⟩) (Nat.le_refl _) _⟩
theorem Qev (s : ByteArray) (w : World) (hs : s.size <= 1048576) :
  Calls Tryz.prog 62 #[.string s] w fun e w' => e = .returned (.string s) /\ Below w.heap.size w w' := by
 go_enter Tryz.func62, Tryz.ntmps62
 go_wp2_with (go_at_call 81; refine (Qqb s _ hs).mono ?_; rintro e b ⟨rfl, a⟩)
 go_ret
 exact ⟨rfl, a⟩
end Go.Proofs.YthbgepmpdphigaaGreatDoor
