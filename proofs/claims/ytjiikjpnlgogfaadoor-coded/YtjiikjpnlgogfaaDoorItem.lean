/-
  readItem and readItems of package item.
-/
import Derived.Test.YtjiikjpnlgogfaaDoorHead
namespace Go.Proofs.YtjiikjpnlgogfaaDoor
open Go.RowKit

abbrev zeroP : Value := .agg #[.int .i64 0, .int .i64 0, .bool false, .string ⟨#[]⟩, .slice none 0 0]
abbrev placeV (at_ : Nat) (ev : Value) : Value := .iface 101 (.agg #[.int .i64 (at_ : Int), ev])

theorem past2 {w1 w2 : World} {o1 o2 : Obj} (hb : Below ((w1.alloc o1).alloc o2).heap.size ((w1.alloc o1).alloc o2) w2) {g j : Nat} (hp : g < w1.heap.size) {v : Value} (hc : w1.cell? ⟨g, j, none⟩ = some v ∧ w1.frozen? ⟨g, j, none⟩ = false) : w2.cell? ⟨g, j, none⟩ = some v ∧ w2.frozen? ⟨g, j, none⟩ = false :=
  ⟨((hb.cell (p := ⟨g, j, none⟩) (by simp; omega)).trans ((World.cell?_alloc_past _ _ _ (by simp; omega)).trans (World.cell?_alloc_past _ _ _ hp))).trans hc.1, ((hb.frozen (p := ⟨g, j, none⟩) (by simp; omega)).trans ((World.frozen?_alloc_past _ _ _ (by simp; omega)).trans (World.frozen?_alloc_past _ _ _ hp))).trans hc.2⟩
theorem last2 {w1 w2 : World} {o1 : Obj} {cs : Array Value} {t : TypeId} (hb : Below ((w1.alloc o1).alloc (.cells cs t)).heap.size ((w1.alloc o1).alloc (.cells cs t)) w2) (j : Nat) {v : Value} (h : cs[j]? = some v) : w2.cell? ⟨w1.heap.size + 1, j, none⟩ = some v ∧ w2.frozen? ⟨w1.heap.size + 1, j, none⟩ = false := by
  have e : w1.heap.size + 1 = (w1.alloc o1).heap.size := by simp
  rw [e]
  exact newCell hb j h

theorem sum_few (a b : Nat) (h : a + b ≤ 1048576) : wrap64 ((a : Int) + (b : Int)) = ((a + b : Nat) : Int) := by
  unfold wrap64
  omega

set_option maxRecDepth 100000 in
set_option maxHeartbeats 1600000 in
theorem item_err (s : ByteArray) (fr lists : Nat) (w : World) (l : Bool) (te : TypeId) (pe : Value) (h1 : (fr : Int) ≤ (s.size : Int)) (cut : ByteArray) (hx : s.extract fr s.size = cut) (hN : ∀ W, Below w.heap.size w W → Calls Tryd.prog 58 #[.string cut] W fun e w' => Below W.heap.size W w' ∧ e = .returned (.tuple #[headV l 0 0, .iface te pe])) :
    Calls Tryd.prog 41 #[.string s, .int .i64 (fr : Int), .int .i64 (lists : Int)] w fun e w' => Below w.heap.size w w' ∧ e = .returned (.tuple #[zeroP, placeV fr (.iface te pe)]) := by
  have HN : Hid (∀ W, Below w.heap.size w W → Calls Tryd.prog 58 #[.string cut] W fun e w' => Below W.heap.size W w' ∧ e = .returned (.tuple #[headV l 0 0, .iface te pe])) := hN
  clear hN
  go_enter Tryd.func41, Tryd.ntmps41
  go_wp2_with fail
  refine (HN.out _ ((Below.refl _ _).alloc (Nat.le_refl _) _)).mono ?_
  rintro e w1 ⟨hb1, rfl⟩
  obtain ⟨c0, f0⟩ := newCell hb1 0 (v := .int .i64 0) rfl
  obtain ⟨c1, f1⟩ := newCell hb1 1 (v := .int .i64 0) rfl
  obtain ⟨c2, f2⟩ := newCell hb1 2 (v := .bool false) rfl
  obtain ⟨c3, f3⟩ := newCell hb1 3 (v := .string ⟨#[]⟩) rfl
  obtain ⟨c4, f4⟩ := newCell hb1 4 (v := .slice none 0 0) rfl
  have AS : Aside (Below w.heap.size w w1) := ((Below.refl w.heap.size w).alloc (Nat.le_refl _) _).trans (hb1.mono (by simp))
  have hs1 : w.heap.size < w1.heap.size := by have := hb1.size; simp at this; omega
  have hs0 : w.heap.size ≠ w1.heap.size := Nat.ne_of_lt hs1
  clear hb1
  go_wp2
  refine bodyPost_ret (v := .tuple #[zeroP, placeV fr (.iface te pe)]) (by simp [results, Tryd.results41, go_sem, hs1, c0, c1, c2, c3, c4]) rfl ⟨?_, rfl⟩
  exact (((((AS.out.setCell (Nat.le_refl _) _).setCell (Nat.le_refl _) _).setCell (Nat.le_refl _) _).setCell (Nat.le_refl _) _).setCell (Nat.le_refl _) _).alloc (by simp; omega) _

set_option maxRecDepth 100000 in
set_option maxHeartbeats 1600000 in
theorem item_text (s : ByteArray) (fr lists a b bh to : Nat) (w : World) (h1 : (fr : Int) ≤ (s.size : Int)) (cut : ByteArray) (hx : s.extract fr s.size = cut) (hN : ∀ W, Below w.heap.size w W → Calls Tryd.prog 58 #[.string cut] W fun e w' => Below W.heap.size W w' ∧ e = .returned (.tuple #[headV false a b, .nilIface]))
    (e1 : wrap64 ((fr : Int) + (a : Int)) = (bh : Int)) (e2 : wrap64 ((bh : Int) + (b : Int)) = (to : Int)) (i1 : (bh : Int) ≤ (to : Int)) (i2 : (to : Int) ≤ (s.size : Int)) :
    Calls Tryd.prog 41 #[.string s, .int .i64 (fr : Int), .int .i64 (lists : Int)] w fun e w' => Below w.heap.size w w' ∧ e = .returned (.tuple #[valP ⟨fr, to, false, s.extract bh to, .slice none 0 0⟩, .nilIface]) := by
  have HN : Hid (∀ W, Below w.heap.size w W → Calls Tryd.prog 58 #[.string cut] W fun e w' => Below W.heap.size W w' ∧ e = .returned (.tuple #[headV false a b, .nilIface])) := hN
  clear hN
  go_enter Tryd.func41, Tryd.ntmps41
  go_wp2_with fail
  refine (HN.out _ ((Below.refl _ _).alloc (Nat.le_refl _) _)).mono ?_
  rintro e w1 ⟨hb1, rfl⟩
  obtain ⟨c0, f0⟩ := newCell hb1 0 (v := .int .i64 0) rfl
  obtain ⟨c1, f1⟩ := newCell hb1 1 (v := .int .i64 0) rfl
  obtain ⟨c2, f2⟩ := newCell hb1 2 (v := .bool false) rfl
  obtain ⟨c3, f3⟩ := newCell hb1 3 (v := .string ⟨#[]⟩) rfl
  obtain ⟨c4, f4⟩ := newCell hb1 4 (v := .slice none 0 0) rfl
  have AS : Aside (Below w.heap.size w w1) := ((Below.refl w.heap.size w).alloc (Nat.le_refl _) _).trans (hb1.mono (by simp))
  have hs1 : w.heap.size < w1.heap.size := by have := hb1.size; simp at this; omega
  have hs0 : w.heap.size ≠ w1.heap.size := Nat.ne_of_lt hs1
  clear hb1
  go_wp2
  refine bodyPost_ret (v := .tuple #[valP ⟨fr, to, false, s.extract bh to, .slice none 0 0⟩, .nilIface]) (by simp [results, Tryd.results41, go_sem, hs1, c0, c1, c2, c3, c4]) rfl ⟨?_, rfl⟩
  exact ((((((AS.out.setCell (Nat.le_refl _) _).setCell (Nat.le_refl _) _).setCell (Nat.le_refl _) _).setCell (Nat.le_refl _) _).setCell (Nat.le_refl _) _).alloc (by simp; omega) _).alloc (by simp; omega) _

set_option maxRecDepth 100000 in
set_option maxHeartbeats 1600000 in
theorem item_deep (s : ByteArray) (fr a b bh to : Nat) (w : World) (h1 : (fr : Int) ≤ (s.size : Int)) (cut : ByteArray) (hx : s.extract fr s.size = cut) (hN : ∀ W, Below w.heap.size w W → Calls Tryd.prog 58 #[.string cut] W fun e w' => Below W.heap.size W w' ∧ e = .returned (.tuple #[headV true a b, .nilIface]))
    (e1 : wrap64 ((fr : Int) + (a : Int)) = (bh : Int)) (e2 : wrap64 ((bh : Int) + (b : Int)) = (to : Int)) (te : TypeId) (pe : Value) (hg : w.cell? ⟨0, 0, none⟩ = some (.iface te pe)) (hgl : 0 < w.heap.size) :
    Calls Tryd.prog 41 #[.string s, .int .i64 (fr : Int), .int .i64 6] w fun e w' => Below w.heap.size w w' ∧ e = .returned (.tuple #[zeroP, placeV fr (.iface te pe)]) := by
  have HN : Hid (∀ W, Below w.heap.size w W → Calls Tryd.prog 58 #[.string cut] W fun e w' => Below W.heap.size W w' ∧ e = .returned (.tuple #[headV true a b, .nilIface])) := hN
  clear hN
  go_enter Tryd.func41, Tryd.ntmps41
  go_wp2_with fail
  refine (HN.out _ ((Below.refl _ _).alloc (Nat.le_refl _) _)).mono ?_
  rintro e w1 ⟨hb1, rfl⟩
  obtain ⟨c0, f0⟩ := newCell hb1 0 (v := .int .i64 0) rfl
  obtain ⟨c1, f1⟩ := newCell hb1 1 (v := .int .i64 0) rfl
  obtain ⟨c2, f2⟩ := newCell hb1 2 (v := .bool false) rfl
  obtain ⟨c3, f3⟩ := newCell hb1 3 (v := .string ⟨#[]⟩) rfl
  obtain ⟨c4, f4⟩ := newCell hb1 4 (v := .slice none 0 0) rfl
  have AS : Aside (Below w.heap.size w w1) := ((Below.refl w.heap.size w).alloc (Nat.le_refl _) _).trans (hb1.mono (by simp))
  have hs1 : w.heap.size < w1.heap.size := by have := hb1.size; simp at this; omega
  have hs0 : w.heap.size ≠ w1.heap.size := Nat.ne_of_lt hs1
  have hg1 : w1.cell? ⟨0, 0, none⟩ = some (.iface te pe) := (AS.out.cell hgl).trans hg
  have hg2 : 0 < w1.heap.size := by omega
  have hg3 : 0 < w1.heap.size + 1 := by omega
  have hg4 : ¬ 0 = w.heap.size := by omega
  clear hb1
  go_wp2
  go_region
  go_wp2
  refine bodyPost_ret (v := .tuple #[zeroP, placeV fr (.iface te pe)]) (by simp [results, Tryd.results41, go_sem, hs1, c0, c1, c2, c3, c4]) rfl ⟨?_, rfl⟩
  exact (((((((AS.out.setCell (Nat.le_refl _) _).setCell (Nat.le_refl _) _).setCell (Nat.le_refl _) _).setCell (Nat.le_refl _) _).setCell (Nat.le_refl _) _).alloc (by simp; omega) _).alloc (by simp; omega) _).drew

set_option maxRecDepth 100000 in
set_option maxHeartbeats 1600000 in
theorem item_list (s : ByteArray) (fr lists l1 a b bh to : Nat) (w : World) (h1 : (fr : Int) ≤ (s.size : Int)) (cut : ByteArray) (hx : s.extract fr s.size = cut) (hN : ∀ W, Below w.heap.size w W → Calls Tryd.prog 58 #[.string cut] W fun e w' => Below W.heap.size W w' ∧ e = .returned (.tuple #[headV true a b, .nilIface]))
    (e1 : wrap64 ((fr : Int) + (a : Int)) = (bh : Int)) (e2 : wrap64 ((bh : Int) + (b : Int)) = (to : Int)) (hl : ((lists : Int) == 6) = false) (e3 : wrap64 ((lists : Int) + 1) = (l1 : Int)) (i2 : (to : Int) ≤ (s.size : Int)) (cut2 : ByteArray) (hx2 : s.extract 0 to = cut2)
    (RE : TypeId → Value → Prop) (RO : World → World → Value → Prop)
    (hI : ∀ W, Below w.heap.size w W → Calls Tryd.prog 59 #[.string cut2, .int .i64 (bh : Int), .int .i64 (l1 : Int)] W fun e w' => Below W.heap.size W w' ∧ ((∃ t v, RE t v ∧ e = .returned (.tuple #[.slice none 0 0, .iface t v])) ∨ ∃ p n c, RO W w' (.slice p n c) ∧ e = .returned (.tuple #[.slice p n c, .nilIface]))) :
    Calls Tryd.prog 41 #[.string s, .int .i64 (fr : Int), .int .i64 (lists : Int)] w fun e w' => Below w.heap.size w w' ∧ ((∃ t v, RE t v ∧ e = .returned (.tuple #[zeroP, .iface t v])) ∨
      ∃ W w2 p n c, Below w.heap.size w W ∧ RO W w2 (.slice p n c) ∧ (∀ k, W.heap.size ≤ k → w'.heap[k]? = w2.heap[k]?) ∧ w'.heap.size = w2.heap.size ∧ w.heap.size < W.heap.size ∧ e = .returned (.tuple #[valP ⟨fr, to, true, ⟨#[]⟩, .slice p n c⟩, .nilIface])) := by
  have HN : Hid (∀ W, Below w.heap.size w W → Calls Tryd.prog 58 #[.string cut] W fun e w' => Below W.heap.size W w' ∧ e = .returned (.tuple #[headV true a b, .nilIface])) := hN
  have HI : Hid (∀ W, Below w.heap.size w W → Calls Tryd.prog 59 #[.string cut2, .int .i64 (bh : Int), .int .i64 (l1 : Int)] W fun e w' => Below W.heap.size W w' ∧ ((∃ t v, RE t v ∧ e = .returned (.tuple #[.slice none 0 0, .iface t v])) ∨ ∃ p n c, RO W w' (.slice p n c) ∧ e = .returned (.tuple #[.slice p n c, .nilIface]))) := hI
  clear hN hI
  go_enter Tryd.func41, Tryd.ntmps41
  go_wp2_with fail
  refine (HN.out _ ((Below.refl _ _).alloc (Nat.le_refl _) _)).mono ?_
  rintro e w1 ⟨hb1, rfl⟩
  obtain ⟨c0, f0⟩ := newCell hb1 0 (v := .int .i64 0) rfl
  obtain ⟨c1, f1⟩ := newCell hb1 1 (v := .int .i64 0) rfl
  obtain ⟨c2, f2⟩ := newCell hb1 2 (v := .bool false) rfl
  obtain ⟨c3, f3⟩ := newCell hb1 3 (v := .string ⟨#[]⟩) rfl
  obtain ⟨c4, f4⟩ := newCell hb1 4 (v := .slice none 0 0) rfl
  have AS : Aside (Below w.heap.size w w1) := ((Below.refl w.heap.size w).alloc (Nat.le_refl _) _).trans (hb1.mono (by simp))
  have hs1 : w.heap.size < w1.heap.size := by have := hb1.size; simp at this; omega
  have hs0 : w.heap.size ≠ w1.heap.size := Nat.ne_of_lt hs1
  clear hb1
  go_wp2_with fail
  refine (HI.out _ ((AS.out.alloc (Nat.le_of_lt hs1) _).alloc (by simp; omega) _)).mono ?_
  rintro e w2 ⟨hb2, hd⟩
  obtain ⟨c0, f0⟩ := past2 hb2 hs1 ⟨c0, f0⟩
  obtain ⟨c1, f1⟩ := past2 hb2 hs1 ⟨c1, f1⟩
  obtain ⟨c2, f2⟩ := past2 hb2 hs1 ⟨c2, f2⟩
  obtain ⟨c3, f3⟩ := past2 hb2 hs1 ⟨c3, f3⟩
  obtain ⟨c4, f4⟩ := past2 hb2 hs1 ⟨c4, f4⟩
  obtain ⟨d0, k0⟩ := last2 hb2 0 (v := .int .i64 (fr : Int)) rfl
  obtain ⟨d1, k1⟩ := last2 hb2 1 (v := .int .i64 (to : Int)) rfl
  obtain ⟨d2, k2⟩ := last2 hb2 2 (v := .bool true) rfl
  obtain ⟨d3, k3⟩ := last2 hb2 3 (v := .string ⟨#[]⟩) rfl
  obtain ⟨d4, k4⟩ := last2 hb2 4 (v := .slice none 0 0) rfl
  have A2 : Aside (Below w.heap.size w w2 ∧ w1.heap.size + 2 ≤ w2.heap.size) := ⟨((AS.out.alloc (Nat.le_of_lt hs1) _).alloc (by simp; omega) _).trans (hb2.mono (by simp; omega)), by have := hb2.size; simp at this; omega⟩
  have hs2 : ¬ w1.heap.size + 1 = w.heap.size := by omega
  clear hb2
  rcases hd with ⟨t, v, hR, rfl⟩ | ⟨p, n, c, hR, rfl⟩
  · have HR : Hid (RE t v) := hR
    clear hR
    go_wp2
    refine bodyPost_ret (v := .tuple #[zeroP, .iface t v]) (by simp [results, Tryd.results41, go_sem, c0, c1, c2, c3, c4]) rfl ⟨?_, .inl ⟨t, v, HR.out, rfl⟩⟩
    exact ((((((A2.out.1.setCell (by simp only; omega) _).setCell (Nat.le_refl _) _).setCell (Nat.le_refl _) _).setCell (Nat.le_refl _) _).setCell (Nat.le_refl _) _).setCell (Nat.le_refl _) _)
  · have HR : Hid (RO _ _ (.slice p n c)) := hR
    clear hR
    go_wp2
    refine bodyPost_ret (v := .tuple #[valP ⟨fr, to, true, ⟨#[]⟩, .slice p n c⟩, .nilIface]) (by simp [results, Tryd.results41, go_sem, c0, c1, c2, c3, c4]) rfl ⟨?_, .inr ⟨_, w2, p, n, c, (AS.out.alloc (Nat.le_of_lt hs1) _).alloc (by simp; omega) _, HR.out, fun k hk => ?_, by simp, by simp; omega, rfl⟩⟩
    · exact ((((((A2.out.1.setCell (by simp only; omega) _).setCell (Nat.le_refl _) _).setCell (Nat.le_refl _) _).setCell (Nat.le_refl _) _).setCell (Nat.le_refl _) _).setCell (Nat.le_refl _) _)
    · have hk' : w1.heap.size + 2 ≤ k := by simpa using hk
      rw [Below.heap_setCell _ _ _ _ (by simp only; omega), Below.heap_setCell _ _ _ _ (by simp only; omega), Below.heap_setCell _ _ _ _ (by simp only; omega), Below.heap_setCell _ _ _ _ (by simp only; omega), Below.heap_setCell _ _ _ _ (by simp only; omega), Below.heap_setCell _ _ _ _ (by simp only; omega)]
end Go.Proofs.YtjiikjpnlgogfaaDoor
