/-
  readItem and readItems of package item.
  readItems of package item: the loop; and readItem and readItems, whole.
  strings.Clone: the same text, out of new memory.
-/
import Derived.Test.YtjiikjpnlgogfaaGreatDoorSdTreG
import Derived.Lib.UnsafeStr
import Derived.Laws.MakeOwn
namespace Go.Proofs.YtjiikjpnlgogfaaGreatDoor
open Go.RowKit
abbrev zeroP : Value := .agg #[.int .i64 0, .int .i64 0, .bool false, .string ⟨#[]⟩, .slice none 0 0]
abbrev placeV (at_ : Nat) (ev : Value) : Value := .iface 199 (.agg #[.int .i64 (at_ : Int), ev])
theorem past2 {w1 w2 : World} {o1 o2 : Obj} (hb : Below ((w1.alloc o1).alloc o2).heap.size ((w1.alloc o1).alloc o2) w2) {g j : Nat} (hp : g < w1.heap.size) {v : Value} (hc : w1.cell? ⟨g, j, none⟩ = some v ∧ w1.frozen? ⟨g, j, none⟩ = false) : w2.cell? ⟨g, j, none⟩ = some v ∧ w2.frozen? ⟨g, j, none⟩ = false :=
 ⟨((hb.cell (p := ⟨g, j, none⟩) (by simp; omega)).trans ((World.cell?_alloc_past _ _ _ (by simp; omega)).trans (World.cell?_alloc_past _ _ _ hp))).trans hc.1, ((hb.frozen (p := ⟨g, j, none⟩) (by simp; omega)).trans ((World.frozen?_alloc_past _ _ _ (by simp; omega)).trans (World.frozen?_alloc_past _ _ _ hp))).trans hc.2⟩
theorem last2 {w1 w2 : World} {o1 : Obj} {cs : Array Value} {t : TypeId} (hb : Below ((w1.alloc o1).alloc (.cells cs t)).heap.size ((w1.alloc o1).alloc (.cells cs t)) w2) (j : Nat) {v : Value} (h : cs[j]? = some v) : w2.cell? ⟨w1.heap.size + 1, j, none⟩ = some v ∧ w2.frozen? ⟨w1.heap.size + 1, j, none⟩ = false := by
 have e : w1.heap.size + 1 = (w1.alloc o1).heap.size := by simp
 rw [e]
 exact newCell hb j h
theorem sum_few (a b : Nat) (h : a + b ≤ 1048576) : wrap64 ((a : Int) + (b : Int)) = ((a + b : Nat) : Int) := by
 unfold wrap64
 omega
set_option maxRecDepth 100000 in
set_option maxHeartbeats 1600000 in
theorem item_err (s : ByteArray) (fr lists : Nat) (w : World) (l : Bool) (te : TypeId) (pe : Value) (h1 : (fr : Int) ≤ (s.size : Int)) (cut : ByteArray) (hx : s.extract fr s.size = cut) (hN : ∀ W, Below w.heap.size w W → Calls Tryz.prog 203 #[.string cut] W fun e w' => Below W.heap.size W w' ∧ e = .returned (.tuple #[headV l 0 0, .iface te pe])) :
  Calls Tryz.prog 150 #[.string s, .int .i64 (fr : Int), .int .i64 (lists : Int)] w fun e w' => Below w.heap.size w w' ∧ e = .returned (.tuple #[zeroP, placeV fr (.iface te pe)]) := by
 have HN : Hid (∀ W, Below w.heap.size w W → Calls Tryz.prog 203 #[.string cut] W fun e w' => Below W.heap.size W w' ∧ e = .returned (.tuple #[headV l 0 0, .iface te pe])) := hN
 clear hN
 go_enter Tryz.func150, Tryz.ntmps150
 go_wp2_with fail
 refine (HN.out _ ((Below.refl _ _).alloc (Nat.le_refl _) _)).mono ?_
 rintro e w1 ⟨hb1, rfl⟩
 obtain ⟨c0, f0⟩ := newCell hb1 0 (v := .int .i64 0) rfl
 obtain ⟨c1, f1⟩ := newCell hb1 1 (v := .int .i64 0) rfl
 obtain ⟨c2, f2⟩ := newCell hb1 2 (v := .bool false) rfl
 obtain ⟨c3, f3⟩ := newCell hb1 3 (v := .string ⟨#[]⟩) rfl
 obtain ⟨c4, f4⟩ := newCell hb1 4 (v := .slice none 0 0) rfl
 have AS : Aside (Below w.heap.size w w1) := ((Below.refl w.heap.size w).alloc (Nat.le_refl _) _).trans (hb1.mono (by simp))
 have hs1 : w.heap.size < w1.heap.size := by have := hb1.size; simp at this; omega
 have hs0 : w.heap.size ≠ w1.heap.size := Nat.ne_of_lt hs1
 clear hb1
 go_wp2
 refine bodyPost_ret (v := .tuple #[zeroP, placeV fr (.iface te pe)]) (by simp [results, Tryz.results150, go_sem, hs1, c0, c1, c2, c3, c4]) rfl ⟨?_, rfl⟩
 exact (((((AS.out.setCell (Nat.le_refl _) _).setCell (Nat.le_refl _) _).setCell (Nat.le_refl _) _).setCell (Nat.le_refl _) _).setCell (Nat.le_refl _) _).alloc (by simp; omega) _
set_option maxRecDepth 100000 in
set_option maxHeartbeats 1600000 in
theorem item_text (s : ByteArray) (fr lists a b bh to : Nat) (w : World) (h1 : (fr : Int) ≤ (s.size : Int)) (cut : ByteArray) (hx : s.extract fr s.size = cut) (hN : ∀ W, Below w.heap.size w W → Calls Tryz.prog 203 #[.string cut] W fun e w' => Below W.heap.size W w' ∧ e = .returned (.tuple #[headV false a b, .nilIface]))
  (e1 : wrap64 ((fr : Int) + (a : Int)) = (bh : Int)) (e2 : wrap64 ((bh : Int) + (b : Int)) = (to : Int)) (i1 : (bh : Int) ≤ (to : Int)) (i2 : (to : Int) ≤ (s.size : Int)) :
  Calls Tryz.prog 150 #[.string s, .int .i64 (fr : Int), .int .i64 (lists : Int)] w fun e w' => Below w.heap.size w w' ∧ e = .returned (.tuple #[valP ⟨fr, to, false, s.extract bh to, .slice none 0 0⟩, .nilIface]) := by
 have HN : Hid (∀ W, Below w.heap.size w W → Calls Tryz.prog 203 #[.string cut] W fun e w' => Below W.heap.size W w' ∧ e = .returned (.tuple #[headV false a b, .nilIface])) := hN
 clear hN
 go_enter Tryz.func150, Tryz.ntmps150
 go_wp2_with fail
 refine (HN.out _ ((Below.refl _ _).alloc (Nat.le_refl _) _)).mono ?_
 rintro e w1 ⟨hb1, rfl⟩
 obtain ⟨c0, f0⟩ := newCell hb1 0 (v := .int .i64 0) rfl
 obtain ⟨c1, f1⟩ := newCell hb1 1 (v := .int .i64 0) rfl
 obtain ⟨c2, f2⟩ := newCell hb1 2 (v := .bool false) rfl
 obtain ⟨c3, f3⟩ := newCell hb1 3 (v := .string ⟨#[]⟩) rfl
 obtain ⟨c4, f4⟩ := newCell hb1 4 (v := .slice none 0 0) rfl
 have AS : Aside (Below w.heap.size w w1) := ((Below.refl w.heap.size w).alloc (Nat.le_refl _) _).trans (hb1.mono (by simp))
 have hs1 : w.heap.size < w1.heap.size := by have := hb1.size; simp at this; omega
 have hs0 : w.heap.size ≠ w1.heap.size := Nat.ne_of_lt hs1
 clear hb1
 go_wp2
 refine bodyPost_ret (v := .tuple #[valP ⟨fr, to, false, s.extract bh to, .slice none 0 0⟩, .nilIface]) (by simp [results, Tryz.results150, go_sem, hs1, c0, c1, c2, c3, c4]) rfl ⟨?_, rfl⟩
 exact ((((((AS.out.setCell (Nat.le_refl _) _).setCell (Nat.le_refl _) _).setCell (Nat.le_refl _) _).setCell (Nat.le_refl _) _).setCell (Nat.le_refl _) _).alloc (by simp; omega) _).alloc (by simp; omega) _
set_option maxRecDepth 100000 in
set_option maxHeartbeats 1600000 in
theorem item_deep (s : ByteArray) (fr a b bh to : Nat) (w : World) (h1 : (fr : Int) ≤ (s.size : Int)) (cut : ByteArray) (hx : s.extract fr s.size = cut) (hN : ∀ W, Below w.heap.size w W → Calls Tryz.prog 203 #[.string cut] W fun e w' => Below W.heap.size W w' ∧ e = .returned (.tuple #[headV true a b, .nilIface]))
  (e1 : wrap64 ((fr : Int) + (a : Int)) = (bh : Int)) (e2 : wrap64 ((bh : Int) + (b : Int)) = (to : Int)) (te : TypeId) (pe : Value) (hg : w.cell? ⟨3, 0, none⟩ = some (.iface te pe)) (hgl : 3 < w.heap.size) :
  Calls Tryz.prog 150 #[.string s, .int .i64 (fr : Int), .int .i64 6] w fun e w' => Below w.heap.size w w' ∧ e = .returned (.tuple #[zeroP, placeV fr (.iface te pe)]) := by
 have HN : Hid (∀ W, Below w.heap.size w W → Calls Tryz.prog 203 #[.string cut] W fun e w' => Below W.heap.size W w' ∧ e = .returned (.tuple #[headV true a b, .nilIface])) := hN
 clear hN
 go_enter Tryz.func150, Tryz.ntmps150
 go_wp2_with fail
 refine (HN.out _ ((Below.refl _ _).alloc (Nat.le_refl _) _)).mono ?_
 rintro e w1 ⟨hb1, rfl⟩
 obtain ⟨c0, f0⟩ := newCell hb1 0 (v := .int .i64 0) rfl
 obtain ⟨c1, f1⟩ := newCell hb1 1 (v := .int .i64 0) rfl
 obtain ⟨c2, f2⟩ := newCell hb1 2 (v := .bool false) rfl
 obtain ⟨c3, f3⟩ := newCell hb1 3 (v := .string ⟨#[]⟩) rfl
 obtain ⟨c4, f4⟩ := newCell hb1 4 (v := .slice none 0 0) rfl
 have AS : Aside (Below w.heap.size w w1) := ((Below.refl w.heap.size w).alloc (Nat.le_refl _) _).trans (hb1.mono (by simp))
 have hs1 : w.heap.size < w1.heap.size := by have := hb1.size; simp at this; omega
 have hs0 : w.heap.size ≠ w1.heap.size := Nat.ne_of_lt hs1
 have hg1 : w1.cell? ⟨3, 0, none⟩ = some (.iface te pe) := (AS.out.cell hgl).trans hg
 have hg2 : 3 < w1.heap.size := by omega
 have hg3 : 3 < w1.heap.size + 1 := by omega
 have hg4 : ¬ 3 = w.heap.size := by omega
 clear hb1
 go_wp2
 go_region
 go_wp2
 refine bodyPost_ret (v := .tuple #[zeroP, placeV fr (.iface te pe)]) (by simp [results, Tryz.results150, go_sem, hs1, c0, c1, c2, c3, c4]) rfl ⟨?_, rfl⟩
 exact (((((((AS.out.setCell (Nat.le_refl _) _).setCell (Nat.le_refl _) _).setCell (Nat.le_refl _) _).setCell (Nat.le_refl _) _).setCell (Nat.le_refl _) _).alloc (by simp; omega) _).alloc (by simp; omega) _).drew
set_option maxRecDepth 100000 in
set_option maxHeartbeats 1600000 in
theorem item_list (s : ByteArray) (fr lists l1 a b bh to : Nat) (w : World) (h1 : (fr : Int) ≤ (s.size : Int)) (cut : ByteArray) (hx : s.extract fr s.size = cut) (hN : ∀ W, Below w.heap.size w W → Calls Tryz.prog 203 #[.string cut] W fun e w' => Below W.heap.size W w' ∧ e = .returned (.tuple #[headV true a b, .nilIface]))
  (e1 : wrap64 ((fr : Int) + (a : Int)) = (bh : Int)) (e2 : wrap64 ((bh : Int) + (b : Int)) = (to : Int)) (hl : ((lists : Int) == 6) = false) (e3 : wrap64 ((lists : Int) + 1) = (l1 : Int)) (i2 : (to : Int) ≤ (s.size : Int)) (cut2 : ByteArray) (hx2 : s.extract 0 to = cut2)
  (RE : TypeId → Value → Prop) (RO : World → World → Value → Prop)
  (hI : ∀ W, Below w.heap.size w W → Calls Tryz.prog 204 #[.string cut2, .int .i64 (bh : Int), .int .i64 (l1 : Int)] W fun e w' => Below W.heap.size W w' ∧ ((∃ t v, RE t v ∧ e = .returned (.tuple #[.slice none 0 0, .iface t v])) ∨ ∃ p n c, RO W w' (.slice p n c) ∧ e = .returned (.tuple #[.slice p n c, .nilIface]))) :
  Calls Tryz.prog 150 #[.string s, .int .i64 (fr : Int), .int .i64 (lists : Int)] w fun e w' => Below w.heap.size w w' ∧ ((∃ t v, RE t v ∧ e = .returned (.tuple #[zeroP, .iface t v])) ∨
   ∃ W w2 p n c, Below w.heap.size w W ∧ RO W w2 (.slice p n c) ∧ (∀ k, W.heap.size ≤ k → w'.heap[k]? = w2.heap[k]?) ∧ w'.heap.size = w2.heap.size ∧ w.heap.size < W.heap.size ∧ e = .returned (.tuple #[valP ⟨fr, to, true, ⟨#[]⟩, .slice p n c⟩, .nilIface])) := by
 have HN : Hid (∀ W, Below w.heap.size w W → Calls Tryz.prog 203 #[.string cut] W fun e w' => Below W.heap.size W w' ∧ e = .returned (.tuple #[headV true a b, .nilIface])) := hN
 have HI : Hid (∀ W, Below w.heap.size w W → Calls Tryz.prog 204 #[.string cut2, .int .i64 (bh : Int), .int .i64 (l1 : Int)] W fun e w' => Below W.heap.size W w' ∧ ((∃ t v, RE t v ∧ e = .returned (.tuple #[.slice none 0 0, .iface t v])) ∨ ∃ p n c, RO W w' (.slice p n c) ∧ e = .returned (.tuple #[.slice p n c, .nilIface]))) := hI
 clear hN hI
 go_enter Tryz.func150, Tryz.ntmps150
 go_wp2_with fail
 refine (HN.out _ ((Below.refl _ _).alloc (Nat.le_refl _) _)).mono ?_
 rintro e w1 ⟨hb1, rfl⟩
 obtain ⟨c0, f0⟩ := newCell hb1 0 (v := .int .i64 0) rfl
 obtain ⟨c1, f1⟩ := newCell hb1 1 (v := .int .i64 0) rfl
 obtain ⟨c2, f2⟩ := newCell hb1 2 (v := .bool false) rfl
 obtain ⟨c3, f3⟩ := newCell hb1 3 (v := .string ⟨#[]⟩) rfl
 obtain ⟨c4, f4⟩ := newCell hb1 4 (v := .slice none 0 0) rfl
 have AS : Aside (Below w.heap.size w w1) := ((Below.refl w.heap.size w).alloc (Nat.le_refl _) _).trans (hb1.mono (by simp))
 have hs1 : w.heap.size < w1.heap.size := by have := hb1.size; simp at this; omega
 have hs0 : w.heap.size ≠ w1.heap.size := Nat.ne_of_lt hs1
 clear hb1
 go_wp2_with fail
 refine (HI.out _ ((AS.out.alloc (Nat.le_of_lt hs1) _).alloc (by simp; omega) _)).mono ?_
 rintro e w2 ⟨hb2, hd⟩
 obtain ⟨c0, f0⟩ := past2 hb2 hs1 ⟨c0, f0⟩
 obtain ⟨c1, f1⟩ := past2 hb2 hs1 ⟨c1, f1⟩
 obtain ⟨c2, f2⟩ := past2 hb2 hs1 ⟨c2, f2⟩
 obtain ⟨c3, f3⟩ := past2 hb2 hs1 ⟨c3, f3⟩
 obtain ⟨c4, f4⟩ := past2 hb2 hs1 ⟨c4, f4⟩
 obtain ⟨d0, k0⟩ := last2 hb2 0 (v := .int .i64 (fr : Int)) rfl
 obtain ⟨d1, k1⟩ := last2 hb2 1 (v := .int .i64 (to : Int)) rfl
 obtain ⟨d2, k2⟩ := last2 hb2 2 (v := .bool true) rfl
 obtain ⟨d3, k3⟩ := last2 hb2 3 (v := .string ⟨#[]⟩) rfl
 obtain ⟨d4, k4⟩ := last2 hb2 4 (v := .slice none 0 0) rfl
 have A2 : Aside (Below w.heap.size w w2 ∧ w1.heap.size + 2 ≤ w2.heap.size) := ⟨((AS.out.alloc (Nat.le_of_lt hs1) _).alloc (by simp; omega) _).trans (hb2.mono (by simp; omega)), by have := hb2.size; simp at this; omega⟩
 have hs2 : ¬ w1.heap.size + 1 = w.heap.size := by omega
 clear hb2
 rcases hd with ⟨t, v, hR, rfl⟩ | ⟨p, n, c, hR, rfl⟩
 ·have HR : Hid (RE t v) := hR
  clear hR
  go_wp2
  refine bodyPost_ret (v := .tuple #[zeroP, .iface t v]) (by simp [results, Tryz.results150, go_sem, c0, c1, c2, c3, c4]) rfl ⟨?_, .inl ⟨t, v, HR.out, rfl⟩⟩
  exact ((((((A2.out.1.setCell (by simp only; omega) _).setCell (Nat.le_refl _) _).setCell (Nat.le_refl _) _).setCell (Nat.le_refl _) _).setCell (Nat.le_refl _) _).setCell (Nat.le_refl _) _)
 ·have HR : Hid (RO _ _ (.slice p n c)) := hR
  clear hR
  go_wp2
  refine bodyPost_ret (v := .tuple #[valP ⟨fr, to, true, ⟨#[]⟩, .slice p n c⟩, .nilIface]) (by simp [results, Tryz.results150, go_sem, c0, c1, c2, c3, c4]) rfl ⟨?_, .inr ⟨_, w2, p, n, c, (AS.out.alloc (Nat.le_of_lt hs1) _).alloc (by simp; omega) _, HR.out, fun k hk => ?_, by simp, by simp; omega, rfl⟩⟩
  ·exact ((((((A2.out.1.setCell (by simp only; omega) _).setCell (Nat.le_refl _) _).setCell (Nat.le_refl _) _).setCell (Nat.le_refl _) _).setCell (Nat.le_refl _) _).setCell (Nat.le_refl _) _)
  ·have hk' : w1.heap.size + 2 ≤ k := by simpa using hk
   rw [Below.heap_setCell _ _ _ _ (by simp only; omega), Below.heap_setCell _ _ _ _ (by simp only; omega), Below.heap_setCell _ _ _ _ (by simp only; omega), Below.heap_setCell _ _ _ _ (by simp only; omega), Below.heap_setCell _ _ _ _ (by simp only; omega), Below.heap_setCell _ _ _ _ (by simp only; omega)]
end Go.Proofs.YtjiikjpnlgogfaaGreatDoor
namespace Go.Proofs.YtjiikjpnlgogfaaGreatDoor
open Go.RowKit
theorem infoP : (Tryz.prog.info? 174).map (fun i => (i.zero, i.size, i.bytes)) = some (some zeroP, 5, 64) := by kernel_rfl
def ItemSaid (d : Nat) (s : ByteArray) (fr : Nat) (sent : Nat → Addr) (w : World) (e : Ending) (w' : World) : Prop :=
 Below w.heap.size w w' ∧ (∀ er, readIt d (bytesOf s) fr = .error er → ∃ t v, er.val sent = .iface t v ∧ e = .returned (.tuple #[zeroP, .iface t v])) ∧
  ∀ x, readIt d (bytesOf s) fr = .ok x → ∃ (l : Bool) (tx : ByteArray) (p : Option Addr) (m c : Nat), Tree encP kP d w' (fun k => w.heap.size ≤ k) ⟨fr, x.to, l, tx, .slice p m c⟩ x ∧ e = .returned (.tuple #[valP ⟨fr, x.to, l, tx, .slice p m c⟩, .nilIface])
def Read (d : Nat) (its : List It) (w w' : World) (v : Value) : Prop :=
 ∃ ps : List (El × It), RowAt w' (fun k => w.heap.size ≤ k) v ps.length (ps.flatMap fun p => encP p.1) ∧ (∀ p ∈ ps, Tree encP kP d w' (fun k => w.heap.size ≤ k) p.1 p.2) ∧ ps.map (·.2) = its
def itemsF (d : Nat) (s : ByteArray) (fr : Nat) : Except Er (List It) := readIts (readIt d (bytesOf s)) s.size (s.size - fr) fr
def ItemsSaid (d : Nat) (s : ByteArray) (fr : Nat) (sent : Nat → Addr) (w : World) (e : Ending) (w' : World) : Prop :=
 Below w.heap.size w w' ∧ (∀ er, itemsF d s fr = .error er → ∃ t v, er.val sent = .iface t v ∧ e = .returned (.tuple #[.slice none 0 0, .iface t v])) ∧
  ∀ its, itemsF d s fr = .ok its → ∃ p m c, Read d its w w' (.slice p m c) ∧ e = .returned (.tuple #[.slice p m c, .nilIface])
def ahead (its : List It) : Except Er (List It) → Except Er (List It)
 | .error e => .error e
 | .ok l => .ok (its ++ l)
theorem ahead_nil (r : Except Er (List It)) : ahead [] r = r := by
 cases r <;> rfl
theorem ahead_ahead (a b : List It) (r : Except Er (List It)) : ahead a (ahead b r) = ahead (a ++ b) r := by
 cases r
 ·rfl
 ·simp [ahead]
theorem readIts_fuel {rd : Nat → Except Er It} {n : Nat} (hr : ∀ fr x, fr < n → rd fr = .ok x → fr < x.to) : ∀ (k j fr : Nat), n - fr ≤ k → n - fr ≤ j → readIts rd n k fr = readIts rd n j fr := by
 intro k
 induction k with
 | zero =>
  intro j fr h1 h2
  cases j with
  | zero => rfl
  | succ j => rw [readIts, readIts, if_neg (by omega)]
 | succ k ih =>
  intro j fr h1 h2
  by_cases hlt : fr < n
  ·obtain ⟨i, rfl⟩ : ∃ i, j = i + 1 := ⟨j - 1, by omega⟩
   rw [readIts, readIts, if_pos hlt, if_pos hlt]
   cases h3 : rd fr with
   | error e => rfl
   | ok x =>
    have := hr fr x hlt h3
    simp only
    rw [ih i x.to (by omega) (by omega)]
  ·cases j with
   | zero => rw [readIts, readIts, if_neg hlt]
   | succ j => rw [readIts, readIts, if_neg hlt, if_neg hlt]
theorem readIt_to {d : Nat} {s : ByteArray} {fr : Nat} {x : It} (hfr : fr ≤ s.size) (h : readIt d (bytesOf s) fr = .ok x) : x.fr = fr ∧ fr < x.to ∧ x.to ≤ s.size := by
 have hl := bytesOf_length s
 obtain ⟨h1, h2, h3, _⟩ := readIt_ok d (bytesOf s) fr x (byte_lt s) (by omega) h
 exact ⟨h1, h2, by omega⟩
theorem itemsF_step {d : Nat} {s : ByteArray} {x : Nat} (hx : x < s.size) {y : It} (h : readIt d (bytesOf s) x = .ok y) : itemsF d s x = ahead [y] (itemsF d s y.to) := by
 obtain ⟨_, h2, h3⟩ := readIt_to (Nat.le_of_lt hx) h
 unfold itemsF
 obtain ⟨j, hj⟩ : ∃ j, s.size - x = j + 1 := ⟨s.size - x - 1, by omega⟩
 rw [hj, readIts, if_pos hx, h]
 simp only
 rw [readIts_fuel (fun fr z hf hz => (readIt_to (Nat.le_of_lt hf) hz).2.1) j (s.size - y.to) y.to (by omega) (by omega)]
 cases readIts (readIt d (bytesOf s)) s.size (s.size - y.to) y.to <;> rfl
theorem itemsF_wrong {d : Nat} {s : ByteArray} {x : Nat} (hx : x < s.size) {e : Er} (h : readIt d (bytesOf s) x = .error e) : itemsF d s x = .error e := by
 unfold itemsF
 obtain ⟨j, hj⟩ : ∃ j, s.size - x = j + 1 := ⟨s.size - x - 1, by omega⟩
 rw [hj, readIts, if_pos hx, h]
theorem itemsF_end {d : Nat} {s : ByteArray} {x : Nat} (hx : s.size ≤ x) : itemsF d s x = .ok [] := by
 unfold itemsF
 rw [show s.size - x = 0 by omega, readIts]
def Half (d : Nat) (s : ByteArray) (fr x : Nat) (w wr : World) (v : Value) : Prop :=
 ∃ ps : List (El × It), OwnC wr w.heap.size 5 v ps.length (ps.flatMap fun p => encP p.1) ∧ (∀ p ∈ ps, Tree encP kP d wr (fun k => (w.heap.size ≤ k ∧ v.ownBlock ≠ some k) ∧ k < wr.heap.size) p.1 p.2) ∧ itemsF d s fr = ahead (ps.map (·.2)) (itemsF d s x) ∧ ps.length ≤ x - fr ∧ Below w.heap.size w wr ∧ (∀ k, v.ownBlock = some k → Plain wr k)
theorem Half.nil (d : Nat) (s : ByteArray) (fr : Nat) (w : World) : Half d s fr fr w w (.slice none 0 0) :=
 ⟨[], OwnC.nil _ _ _, by simp, by rw [List.map_nil, ahead_nil], by simp, Below.refl _ _, by simp [Value.ownBlock]⟩
theorem OwnC.shape {w : World} {B size : Nat} {v : Value} {n : Nat} {cs : List Value} (h : OwnC w B size v n cs) : ∃ p m c, v = .slice p m c := by
 rcases h.2 with ⟨rfl, _⟩ | ⟨g, cap, rfl, _⟩ <;> exact ⟨_, _, _, rfl⟩
theorem Half.shape {d : Nat} {s : ByteArray} {fr x : Nat} {w wr : World} {v : Value} (h : Half d s fr x w wr v) : ∃ p m c, v = .slice p m c := by
 obtain ⟨ps, ho, _⟩ := h
 exact ho.shape
theorem Half.done {d : Nat} {s : ByteArray} {fr x : Nat} {w wr : World} {v : Value} (h : Half d s fr x w wr v) (hx : s.size ≤ x) : ∃ its, itemsF d s fr = .ok its ∧ Read d its w wr v := by
 obtain ⟨ps, ho, ht, hc, _, _, hP⟩ := h
 rw [itemsF_end hx] at hc
 exact ⟨_, hc, ps, ho.rowAt (fun k hk => (ho.block k hk).1) hP, fun p hp => Tree.keep (fun k hk => hk.1.1) (Nat.le_refl _) (fun _ _ _ => rfl) d (ht p hp), by simp⟩
theorem Half.more {d : Nat} {s : ByteArray} {fr x : Nat} {w wr w1 w2 : World} {v v2 : Value} {qs : List (El × It)} {o1 o2 : Obj} {e : El} {y : It}
  (ht : ∀ p ∈ qs, Tree encP kP d wr (fun k => (w.heap.size ≤ k ∧ v.ownBlock ≠ some k) ∧ k < wr.heap.size) p.1 p.2) (hc : itemsF d s fr = ahead (qs.map (·.2)) (itemsF d s x)) (hl : qs.length ≤ x - fr) (hb : Below w.heap.size w wr) (hb1 : Below wr.heap.size wr w1)
  (hv : ∀ k, v.ownBlock = some k → w.heap.size ≤ k ∧ k < wr.heap.size)
  (hT : Tree encP kP d w1 (fun k => wr.heap.size ≤ k) e y) (hx : fr ≤ x) (hxs : x < s.size) (hy : readIt d (bytesOf s) x = .ok y)
  (hO : OwnC w2 w.heap.size 5 v2 (qs.length + 1) ((qs.flatMap fun p => encP p.1) ++ encP e)) (hg : ((w1.alloc o1).alloc o2).grownBy w2 v.ownBlock) (hf : ∀ k, v2.ownBlock = some k → v.ownBlock = some k ∨ ((w1.alloc o1).alloc o2).heap.size ≤ k) (hP : ∀ k, v2.ownBlock = some k → Plain w2 k) :
  Half d s fr y.to w w2 v2 := by
 have hs1 := hb1.size
 have hsb := hb.size
 have hs2 := hg.size
 have hto := (readIt_to (Nat.le_of_lt hxs) hy).2.1
 simp only [World.size_alloc] at hs2 hf
 have hblk : ∀ k, k < w1.heap.size → v.ownBlock ≠ some k → w2.heap[k]? = w1.heap[k]? := fun k hk hne =>
  (hg.block k (by simp; omega) (fun e => hne e.symm)).trans ((Below.heap_alloc _ _ _ (by simp; omega)).trans (Below.heap_alloc _ _ _ hk))
 refine ⟨qs ++ [(e, y)], by simpa using hO, fun p hp => ?_, ?_, ?_, ?_, hP⟩
 ·rcases List.mem_append.1 hp with hp | hp
  ·refine Tree.keep (fun k hk => ?_) (by omega) (fun k hk hks => (hblk k (by omega) hk.1.2).trans (hb1.block k hks)) d (ht p hp)
   refine ⟨⟨hk.1.1, fun e2 => ?_⟩, by omega⟩
   rcases hf k e2 with e3 | e3
   ·exact hk.1.2 e3
   ·omega
  ·obtain rfl := List.mem_singleton.1 hp
   refine Tree.keep (fun k hk => ?_) (by omega) (fun k hk hks => hblk k hks (fun e2 => by have := (hv k e2).2; omega)) d hT.bound
   refine ⟨⟨by have := hk.1; omega, fun e2 => ?_⟩, by omega⟩
   rcases hf k e2 with e3 | e3
   ·have := (hv k e3).2; have := hk.1; omega
   ·have := hk.2; omega
 ·rw [hc, itemsF_step hxs hy, ahead_ahead, List.map_append]
  rfl
 ·simp only [List.length_append, List.length_cons, List.length_nil]
  omega
 ·exact ((hb.trans (hb1.mono hsb)).alloc (by omega) _ |>.alloc (by simp; omega) _).trans ⟨hg.os, hg.tape, hg.output, hg.size, fun k hk => hg.block k (by simp; omega) (fun e => by have := (hv k e.symm).1; omega)⟩
theorem rangeAt_new (w : World) (l : List Value) (t : TypeId) : (w.alloc (.cells l.toArray t)).rangeAt w.heap.size 0 l := by
 intro j u hu
 rw [Nat.zero_add, World.cell?_alloc_new]
 simpa using hu
theorem encP_oneCell (fr to : Nat) (l : Bool) (tx : ByteArray) (p : Option Addr) (m c : Nat) : ∀ u ∈ encP ⟨fr, to, l, tx, .slice p m c⟩, u.oneCell' = true := by
 intro u hu
 simp only [List.mem_cons, List.not_mem_nil, or_false] at hu
 rcases hu with rfl | rfl | rfl | rfl | rfl <;> rfl
set_option maxRecDepth 100000 in
set_option maxHeartbeats 1600000 in
theorem items_any (d : Nat) (s : ByteArray) (fr l1 : Nat) (sent : Nat → Addr) (w : World) (hs : s.size ≤ 2048) (hfr : fr ≤ s.size)
  (hN : ∀ W x, Below w.heap.size w W → x ≤ s.size → Calls Tryz.prog 150 #[.string s, .int .i64 (x : Int), .int .i64 (l1 : Int)] W (ItemSaid d s x sent W)) :
  Calls Tryz.prog 204 #[.string s, .int .i64 (fr : Int), .int .i64 (l1 : Int)] w (ItemsSaid d s fr sent w) := by
 obtain ⟨i0, hi, hz0, hz1, hz2⟩ := info_parts infoP
 have HN : Hid (∀ W x, Below w.heap.size w W → x ≤ s.size → Calls Tryz.prog 150 #[.string s, .int .i64 (x : Int), .int .i64 (l1 : Int)] W (ItemSaid d s x sent W)) := hN
 have HS : Hid (s.size ≤ 2048) := hs
 clear hN hs
 go_enter Tryz.func204, Tryz.ntmps204
 go_wp2
 go_loopg [1, 8] (s.size - fr) (fun g f v wr => ∃ x : Nat, fr ≤ x ∧ x ≤ s.size ∧ g = s.size - x ∧ f = .int .i64 (x : Int) ∧ Half d s fr x w wr v)
 case atStart => exact ⟨fr, Nat.le_refl _, hfr, rfl, rfl, Half.nil d s fr w⟩
 case round =>
  obtain ⟨x, hx0, hx, rfl, rfl, hH⟩ := hrel
  obtain ⟨p0, m0, c0, rfl⟩ := hH.shape
  by_cases hlt : x < s.size
  ·have hxi : (x : Int) < (s.size : Int) := by omega
   have A0 : Aside (Half d s fr x w wr (.slice p0 m0 c0)) := hH
   have hbw : Below w.heap.size w wr := by obtain ⟨_, _, _, _, _, h, _⟩ := hH; exact h
   clear hH
   go_wp2_with fail
   refine (HN.out _ x hbw hx).mono ?_
   rintro e w1 ⟨hb1, hd1, hd2⟩
   rcases hr : readIt d (bytesOf s) x with er | y
   ·obtain ⟨t, v, hv, rfl⟩ := hd1 er hr
    have A1 : Aside (itemsF d s fr = .error er ∧ er.val sent = .iface t v ∧ Below w.heap.size w w1) := by
     obtain ⟨qs, _, _, hc, _⟩ := A0.out
     exact ⟨by rw [hc, itemsF_wrong hlt hr]; rfl, hv, hbw.trans (hb1.mono hbw.size)⟩
    clear hv hb1 hbw hd1 hd2 hr
    go_wp2
    go_ret2
    refine ⟨A1.out.2.2.alloc A1.out.2.2.size _, fun er' he' => ?_, fun its he' => ?_⟩
    ·rw [A1.out.1] at he'
     cases he'
     exact ⟨t, v, A1.out.2.1, rfl⟩
    ·rw [A1.out.1] at he'
     cases he'
   ·obtain ⟨l, tx, p, m, c, hT, rfl⟩ := hd2 y hr
    obtain ⟨h0, h1, h2⟩ := readIt_to hx hr
    obtain ⟨to, hto⟩ : ∃ to, y.to = to := ⟨_, rfl⟩
    rw [hto] at hT h1 h2 ⊢
    obtain ⟨qs, hO, ht, hc, hl, _, hP⟩ := A0.out
    have hv := hO.block
    have HO : Hid (∀ o1 o2, OwnC ((w1.alloc o1).alloc o2) w.heap.size 5 (.slice p0 m0 c0) qs.length (qs.flatMap fun p => encP p.1)) := fun o1 o2 => ((hO.below hb1).alloc o1).alloc o2
    have A1 : Aside (qs.length ≤ 2048 ∧ w.heap.size ≤ w1.heap.size) := ⟨by have := HS.out; omega, Nat.le_trans hbw.size hb1.size⟩
    have A2 : Aside (∀ {w2 : World} {v2 : Value} {o1 o2 : Obj}, OwnC w2 w.heap.size 5 v2 (qs.length + 1) ((qs.flatMap fun p => encP p.1) ++ encP ⟨x, to, l, tx, .slice p m c⟩) → ((w1.alloc o1).alloc o2).grownBy w2 (Value.slice p0 m0 c0).ownBlock → (∀ k, v2.ownBlock = some k → (Value.slice p0 m0 c0).ownBlock = some k ∨ ((w1.alloc o1).alloc o2).heap.size ≤ k) → ((∀ k, (Value.slice p0 m0 c0).ownBlock = some k → Plain ((w1.alloc o1).alloc o2) k) → ∀ k, v2.ownBlock = some k → Plain w2 k) → Half d s fr to w w2 v2) := fun {w2 v2 o1 o2} h1' h2' h3' h4' => hto ▸ Half.more ht hc hl hbw hb1 hv hT hx0 hlt hr h1' h2' h3' (h4' (fun k hk => (hP k hk).keep (by have hk2 := (hv k hk).2; have hs1 := hb1.size; rw [Below.heap_alloc _ _ _ (by simp; omega), Below.heap_alloc _ _ _ (by omega), hb1.block k hk2])))
    have A3 : Aside (∀ k, (Value.slice p0 m0 c0).ownBlock = some k → k < w1.heap.size) := fun k hk => by have := (hv k hk).2; have := hb1.size; omega
    clear hO ht hc hl hv hT hP A0 hb1 hbw hd1 hd2 hr hto h0
    go_wp2_with (at_builtin; refine wpList_append_ownp _ rfl _ _ 172 rfl 174 i0 zeroP 5 64 Tryz.underlying172 hi hz0 hz1 hz2 rfl (by decide) w.heap.size _ qs.length _ rfl (HO.out _ _) (w1.heap.size + 1) 0 1 1 (encP ⟨x, to, l, tx, .slice p m c⟩) rfl rfl ?c1 (encP_oneCell _ _ _ _ _ _ _) ?c2 ?c3 ?c4 ?_)
    case c1 =>
     have := rangeAt_new (w1.alloc (.cells (encP ⟨x, to, l, tx, .slice p m c⟩).toArray 174)) (encP ⟨x, to, l, tx, .slice p m c⟩) 174
     simpa using this
    case c2 => have := A1.out.1; unfold maxLen; omega
    case c3 => have := A1.out.1; omega
    case c4 => have := A1.out.2; simp; omega
    intro v2 w2 hO2 hg2 hf2 hp2
    obtain ⟨p2, m2, c2, rfl⟩ := hO2.shape
    have d1 : w2.cell? ⟨w1.heap.size, 1, none⟩ = some (.int .i64 (to : Int)) := by
     refine World.grownBy.cell hg2 ?_ (fun e => ?_)
     ·rw [World.cell?_alloc_past _ _ _ (by simp), World.cell?_alloc_new]
      rfl
     ·have := A3.out _ e.symm
      simp at this
    have A4 : Aside (Half d s fr to w w2 (.slice p2 m2 c2)) := A2.out hO2 hg2 (by simpa using hf2) hp2
    clear hO2 hg2 hf2 hp2 HO A2 A3
    go_wp2
    go_roundg (s.size - to)
    case measure => omega
    case rel => exact ⟨to, by omega, h2, rfl, rfl, A4.out⟩
  ·have hxi : (s.size : Int) ≤ (x : Int) := by omega
   have A0 : Aside (Half d s fr x w wr (.slice p0 m0 c0) ∧ s.size ≤ x) := ⟨hH, by omega⟩
   clear hH hlt
   go_wp2
   go_ret2
   obtain ⟨its, h1, h2⟩ := A0.out.1.done A0.out.2
   refine ⟨by obtain ⟨_, _, _, _, _, h, _⟩ := A0.out.1; exact h, fun er he => ?_, fun its' he => ?_⟩
   ·rw [h1] at he
    cases he
   ·rw [h1] at he
    cases he
    exact ⟨p0, m0, c0, h2, rfl⟩
theorem cut_bytes (s : ByteArray) (a b : Nat) : bytesOf (s.extract a b) = ((bytesOf s).drop a).take (b - a) := by
 unfold bytesOf
 rw [← List.map_drop, ← List.map_take]
 congr 1
 simp only [ByteArray.data_extract, Array.toList_extract, List.extract_eq_take_drop]
theorem cut_size (s : ByteArray) (a b : Nat) (h : b ≤ s.size) : (s.extract a b).size = b - a := by
 rw [← bytesOf_length, cut_bytes, List.length_take, List.length_drop, bytesOf_length]
 omega
theorem item_wrong (d : Nat) (s : ByteArray) (fr lists : Nat) (w : World) (l : Bool) (sent : Nat → Addr) (x : Nat) (hfr : fr ≤ s.size) (hN : ∀ W, Below w.heap.size w W → Calls Tryz.prog 203 #[.string (s.extract fr s.size)] W fun e w' => Below W.heap.size W w' ∧ e = .returned (.tuple #[headV l 0 0, (Er.base x).val sent])) (hr : readIt d (bytesOf s) fr = .error (.place fr (.base x))) :
  Calls Tryz.prog 150 #[.string s, .int .i64 (fr : Int), .int .i64 (lists : Int)] w (ItemSaid d s fr sent w) := by
 refine (item_err s fr lists w l _ _ (Int.ofNat_le.2 hfr) _ rfl hN).mono ?_
 rintro e w' ⟨hb, rfl⟩
 refine ⟨hb, fun er he => ?_, fun x he => ?_⟩
 ·rw [hr] at he
  cases he
  exact ⟨_, _, rfl, rfl⟩
 ·rw [hr] at he
  cases he
theorem item_plain (d : Nat) (s : ByteArray) (fr lists a b : Nat) (w : World) (sent : Nat → Addr) (hs : s.size ≤ 2048) (hfr : fr ≤ s.size) (hok : HeadOK ((bytesOf s).drop fr) false a b) (hN : ∀ W, Below w.heap.size w W → Calls Tryz.prog 203 #[.string (s.extract fr s.size)] W fun e w' => Below W.heap.size W w' ∧ e = .returned (.tuple #[headV false a b, .nilIface])) (hr : readIt d (bytesOf s) fr = .ok (.text fr (fr + a + b) (((bytesOf s).drop (fr + a)).take b))) :
  Calls Tryz.prog 150 #[.string s, .int .i64 (fr : Int), .int .i64 (lists : Int)] w (ItemSaid d s fr sent w) := by
 have h1 := hok.1
 have h2 := hok.2.1
 rw [List.length_drop, bytesOf_length] at h1
 refine (item_text s fr lists a b (fr + a) (fr + a + b) w (Int.ofNat_le.2 hfr) _ rfl hN (sum_few fr a (by omega)) (sum_few (fr + a) b (by omega)) (Int.ofNat_le.2 (by omega)) (Int.ofNat_le.2 (by omega))).mono ?_
 rintro e w' ⟨hb, rfl⟩
 refine ⟨hb, fun er he => ?_, fun x he => ?_⟩
 ·rw [hr] at he
  cases he
 ·rw [hr] at he
  cases he
  refine ⟨false, _, none, 0, 0, Tree.text ⟨⟨rfl, rfl⟩, ?_⟩ d, rfl⟩
  show _ = It.text fr (fr + a + b) (bytesOf (s.extract (fr + a) (fr + a + b)))
  rw [cut_bytes, show fr + a + b - (fr + a) = b by omega]
theorem item_any (sent : Nat → Addr) : ∀ (d lists : Nat) (s : ByteArray) (fr : Nat) (w : World), lists + d = 6 → s.size ≤ 2048 → fr ≤ s.size → Faults w sent →
  Calls Tryz.prog 150 #[.string s, .int .i64 (fr : Int), .int .i64 (lists : Int)] w (ItemSaid d s fr sent w) := by
 intro d
 induction d with
 | zero =>
  intro lists s fr w hln hs hfr hF
  have hbl := bytesOf_length s
  have hcb : bytesOf (s.extract fr s.size) = (bytesOf s).drop fr := by
   rw [cut_bytes, List.take_of_length_le]
   rw [List.length_drop]
   omega
  have hcs := cut_size s fr s.size (Nat.le_refl _)
  obtain rfl : lists = 6 := by omega
  have hH := readHead_at (s.extract fr s.size) w _ _ _ (hF.var 2 (by decide)) (hF.var 3 (by decide)) (hF.low (n := 2) (by decide)) (hF.low (n := 3) (by decide)) (by omega)
  rw [hcb] at hH
  cases hh : headF ((bytesOf s).drop fr) with
  | error x =>
   obtain ⟨l, ev, hev, hN⟩ := hH.1 x hh
   have hr : readIt 0 (bytesOf s) fr = .error (.place fr (.base x)) := by rw [readIt, hh]
   rcases hev with ⟨rfl, rfl⟩ | ⟨rfl, rfl⟩
   ·exact item_wrong 0 s fr 6 w l sent 2 hfr hN hr
   ·exact item_wrong 0 s fr 6 w l sent 3 hfr hN hr
  | ok p =>
   obtain ⟨l, a, b⟩ := p
   have hN := hH.2 l a b hh
   have hok := headF_ok (bytes_drop (byte_lt s) fr) hh
   have h1 := hok.1
   rw [List.length_drop] at h1
   cases l with
   | false => exact item_plain 0 s fr 6 a b w sent hs hfr hok hN (by rw [readIt, hh]; rfl)
   | true =>
    have hr : readIt 0 (bytesOf s) fr = .error (.place fr (.base 5)) := by rw [readIt, hh]; rfl
    refine (item_deep s fr a b (fr + a) (fr + a + b) w (Int.ofNat_le.2 hfr) _ rfl hN (sum_few fr a (by omega)) (sum_few (fr + a) b (by omega)) _ _ (hF.var 5 (by decide)) (hF.low (n := 5) (by decide))).mono ?_
    rintro e w' ⟨hb, rfl⟩
    refine ⟨hb, fun er he => ?_, fun x he => ?_⟩
    ·rw [hr] at he
     cases he
     exact ⟨_, _, rfl, rfl⟩
    ·rw [hr] at he
     cases he
 | succ d ih =>
  intro lists s fr w hln hs hfr hF
  have hbl := bytesOf_length s
  have hcb : bytesOf (s.extract fr s.size) = (bytesOf s).drop fr := by
   rw [cut_bytes, List.take_of_length_le]
   rw [List.length_drop]
   omega
  have hcs := cut_size s fr s.size (Nat.le_refl _)
  have hH := readHead_at (s.extract fr s.size) w _ _ _ (hF.var 2 (by decide)) (hF.var 3 (by decide)) (hF.low (n := 2) (by decide)) (hF.low (n := 3) (by decide)) (by omega)
  rw [hcb] at hH
  cases hh : headF ((bytesOf s).drop fr) with
  | error x =>
   obtain ⟨l, ev, hev, hN⟩ := hH.1 x hh
   have hr : readIt (d + 1) (bytesOf s) fr = .error (.place fr (.base x)) := by rw [readIt, hh]
   rcases hev with ⟨rfl, rfl⟩ | ⟨rfl, rfl⟩
   ·exact item_wrong (d + 1) s fr lists w l sent 2 hfr hN hr
   ·exact item_wrong (d + 1) s fr lists w l sent 3 hfr hN hr
  | ok p =>
   obtain ⟨l, a, b⟩ := p
   have hN := hH.2 l a b hh
   have hok := headF_ok (bytes_drop (byte_lt s) fr) hh
   have h1 := hok.1
   have h2 := hok.2.1
   rw [List.length_drop] at h1
   cases l with
   | false => exact item_plain (d + 1) s fr lists a b w sent hs hfr hok hN (by rw [readIt, hh]; rfl)
   | true =>
    have hc2 := cut_size s 0 (fr + a + b) (by omega)
    have hcb2 : bytesOf (s.extract 0 (fr + a + b)) = (bytesOf s).take (fr + a + b) := by rw [cut_bytes, List.drop_zero, Nat.sub_zero]
    have hr : ∀ r, itemsF d (s.extract 0 (fr + a + b)) (fr + a) = r → readIt (d + 1) (bytesOf s) fr = (match r with | .error e => .error e | .ok its => .ok (.list fr (fr + a + b) its)) := by
     intro r h
     unfold itemsF at h
     rw [hcb2, hc2, Nat.sub_zero, show fr + a + b - (fr + a) = b by omega] at h
     rw [readIt, hh]
     simp only [if_true]
     rw [h]
     cases r <;> rfl
    refine (item_list s fr lists (lists + 1) a b (fr + a) (fr + a + b) w (Int.ofNat_le.2 hfr) _ rfl hN (sum_few fr a (by omega)) (sum_few (fr + a) b (by omega)) (by simp; omega) (wrap64_succ lists (by omega)) (Int.ofNat_le.2 (by omega)) (s.extract 0 (fr + a + b)) rfl
     (fun t v => ∃ er : Er, itemsF d (s.extract 0 (fr + a + b)) (fr + a) = .error er ∧ er.val sent = .iface t v) (fun W w' v => ∃ its, itemsF d (s.extract 0 (fr + a + b)) (fr + a) = .ok its ∧ Read d its W w' v) ?_).mono ?_
    ·intro W hW
     refine (items_any d (s.extract 0 (fr + a + b)) (fr + a) (lists + 1) sent W (by omega) (by omega) (fun W' x hW' hx => ?_)).mono ?_
     ·exact ih (lists + 1) _ x W' (by omega) (by omega) hx (hF.below (Below.behind hW hW'))
     ·rintro e w' ⟨hb, hd1, hd2⟩
      refine ⟨hb, ?_⟩
      rcases hi : itemsF d (s.extract 0 (fr + a + b)) (fr + a) with er | its
      ·obtain ⟨t, v, h1, h2⟩ := hd1 er hi
       exact .inl ⟨t, v, ⟨er, rfl, h1⟩, h2⟩
      ·obtain ⟨p, m, c, h1, h2⟩ := hd2 its hi
       exact .inr ⟨p, m, c, ⟨its, rfl, h1⟩, h2⟩
    ·rintro e w' ⟨hb, hd⟩
     refine ⟨hb, ?_⟩
     rcases hd with ⟨t, v, ⟨er, hi, hv⟩, rfl⟩ | ⟨W, w2, p, m, c, hW, ⟨its, hi, qs, hq, ht, hc⟩, hk, hsz, hlt, rfl⟩
     ·have hr := hr _ hi
      simp only at hr
      refine ⟨fun er' he => ?_, fun x he => ?_⟩
      ·rw [hr] at he
       cases he
       exact ⟨t, v, hv, rfl⟩
      ·rw [hr] at he
       cases he
     ·have hr := hr _ hi
      simp only at hr
      refine ⟨fun er' he => ?_, fun x he => ?_⟩
      ·rw [hr] at he
       cases he
      ·rw [hr] at he
       cases he
       exact ⟨true, _, p, m, c, .inr ⟨rfl, qs, hq.keep (fun k h => by omega) (by omega) (fun k h _ => hk k h), fun q hq => Tree.keep (fun k h => by omega) (by omega) (fun k h _ => hk k h) d (ht q hq), rfl, by rw [hc]; rfl⟩, rfl⟩
end Go.Proofs.YtjiikjpnlgogfaaGreatDoor
namespace Go.Proofs.YtjiikjpnlgogfaaGreatDoor
open Go.RowKit
theorem cells_setCell {w : World} {g : Nat} {cs : Array Value} {t : TypeId} (h : w.heap[g]? = some (.cells cs t (0, 0))) (o : Nat) (u : Value) : ∃ cs', (w.setCell ⟨g, o, none⟩ u).heap[g]? = some (.cells cs' t (0, 0)) ∧ cs'.size = cs.size := by
 refine ⟨cs.setIfInBounds o u, ?_, by simp⟩
 simp only [World.setCell, Array.getElem?_modify, if_true, h, Option.map_some, Option.isSome_none, Bool.false_eq_true, if_false]
theorem cells_setCells {g : Nat} {t : TypeId} : ∀ (vs : List Value) (o : Nat) {w : World} {cs : Array Value}, w.heap[g]? = some (.cells cs t (0, 0)) → ∃ cs', (w.setCells g o vs).heap[g]? = some (.cells cs' t (0, 0)) ∧ cs'.size = cs.size
 | [], _, _, cs, h => ⟨cs, h, rfl⟩
 | v :: r, o, _, _, h => by
  obtain ⟨c1, h1, e1⟩ := cells_setCell h o v
  obtain ⟨c2, h2, e2⟩ := cells_setCells r (o + 1) h1
  exact ⟨c2, h2, e2.trans e1⟩
theorem text_of_bytes (s : ByteArray) : (⟨s.data.toList.toArray⟩ : ByteArray) = s := by
 apply ByteArray.ext
 simp
set_option maxRecDepth 100000 in
set_option maxHeartbeats 1600000 in
theorem clone_lite (s : ByteArray) (w : World) (hs : s.size ≤ 1048576) :
  Calls Tryz.prog 148 #[.string s] w fun e w' => e = .returned (.string s) ∧ Below w.heap.size w w' := by
 by_cases h0 : s.size = 0
 ·have hs : s = ⟨#[]⟩ := ByteArray.ext (Array.eq_empty_of_size_eq_zero h0)
  subst hs
  go_enter Tryz.func148, Tryz.ntmps148
  go_wp2
  go_ret
  exact ⟨rfl, Below.refl _ _⟩
 ·obtain ⟨i0, hi, hz0, hz1, hz2⟩ := info_parts infoU8
  have hinfo : (Tryz.prog.info? 5).map (·.size) = some 1 := by rw [hi]; simp [hz1]
  have hco : Tryz.prog.cellsOf 5 = 1 := by simp [Program.cellsOf, hi, hz1]
  obtain ⟨M, hM⟩ : ∃ M, madeCells (Value.int .u8 0).cells (((s.size : Nat) : Int).toNat * i0.size) = M := ⟨_, rfl⟩
  have hMs : M.size = s.size := by rw [← hM, size_madeCells, hz1]; simp
  have hmk : ∀ W : World, (Instr.makeSlice 111 (.int .i64 (s.size : Int)) (.int .i64 (s.size : Int))).run Tryz.prog W = .ok (.slice (some ⟨W.heap.size, 0, none⟩) s.size s.size) (W.alloc (.cells M 5)) := fun W => by
   have h := run_make (P := Tryz.prog) W 111 5 i0 (.int .u8 0) Tryz.underlying111 hi hz0 .i64 .i64 (s.size : Int) (s.size : Int) (by omega) (by omega) (by rw [hz2]; omega) (by omega)
   rw [hM] at h
   simpa using h
  have hbl := bytesOf_length s
  have hth : (w.alloc (.cells M 5)).there w.heap.size 0 s.size := fun j hj => ⟨by rw [Nat.zero_add, World.cell?_alloc_new]; simp [hMs, hj], World.frozen?_alloc_new _ _ _ _⟩
  have hcp := run_copy_str (P := Tryz.prog) (w.alloc (.cells M 5)) 111 9 3 5 w.heap.size 0 s.size s.size s s.size Tryz.underlying111 hinfo (Nat.min_self _).symm hth
  rw [List.take_of_length_le (by omega)] at hcp
  obtain ⟨Y, hY, hYs⟩ := cells_setCells ((bytesOf s).map encB) 0 (heap_alloc_new w (.cells M 5))
  have hcell := World.rangeAt_setCells_same (w.alloc (.cells M 5)) w.heap.size 0 ((bytesOf s).map encB) (by rw [List.length_map, hbl]; exact hth)
  obtain ⟨W2, hW2⟩ : ∃ W2, (w.alloc (.cells M 5)).setCells w.heap.size 0 ((bytesOf s).map encB) = W2 := ⟨_, rfl⟩
  have hB2 : Below w.heap.size w W2 := by
   rw [← hW2]
   obtain ⟨q1, q2, q3, q4⟩ := size_setCells w.heap.size ((bytesOf s).map encB) 0 (w.alloc (.cells M 5))
   exact ⟨q2, q3, q4, by rw [q1]; simp, fun k hk => (heap_setCells _ _ _ _ _ (by omega)).trans (Below.heap_alloc _ _ _ hk)⟩
  rw [hW2] at hcp hY hcell
  have hsz : s.data.toList.length = s.size := by simp
  have hne : s.data.toList ≠ [] := fun e => h0 (by rw [← hsz, e]; rfl)
  have hUS := Lib.run_unsafeString_row (P := Tryz.prog) W2 327 3 9 5 Tryz.underlying327 hco w.heap.size Y.size (by unfold World.shape?; rw [hY]) s.data.toList hne (by omega) (by omega)
   (fun j x hx => by
    rw [Addr.add_mid]
    refine hcell j _ ?_
    unfold bytesOf
    rw [List.map_map, List.getElem?_map, hx]
    rfl)
  rw [hsz, text_of_bytes] at hUS
  have A : Aside (Below w.heap.size w W2) := hB2
  clear hY hcell hW2 hM hB2 hth
  go_enter Tryz.func148, Tryz.ntmps148
  go_wp2
  go_ret
  exact ⟨rfl, Lib.below_freeze A.out (p := ⟨w.heap.size, 0, none⟩) (Nat.le_refl _) _⟩
theorem clone_any (s : ByteArray) (w : World) (hs : s.size ≤ 1048576) :
  Calls Tryz.prog 86 #[.string s] w fun e w' => e = .returned (.string s) ∧ Below w.heap.size w w' := by
 go_enter Tryz.func86, Tryz.ntmps86
 go_wp2_with (go_at_call 148; refine (clone_lite s _ hs).mono ?_; rintro e w1 ⟨rfl, hb1⟩)
 go_ret
 exact ⟨rfl, hb1⟩
end Go.Proofs.YtjiikjpnlgogfaaGreatDoor
