/-
  readText and readHead of package item.
-/
import Derived.Test.YtjiikjpnlgogfaaDoorTree
namespace Go.Proofs.YtjiikjpnlgogfaaDoor
open Go.RowKit

abbrev headV (list : Bool) (a b : Nat) : Value := .agg #[.bool list, .int .i64 (a : Int), .int .i64 (b : Int)]

set_option maxRecDepth 100000 in
set_option maxHeartbeats 1600000 in
theorem text_err (s : ByteArray) (w : World) (te : TypeId) (pe : Value) (hN : ∀ W, Below w.heap.size w W → Calls Tryd.prog 71 #[.string s, .int .u8 128] W fun e w' => Below W.heap.size W w' ∧ e = .returned (.tuple #[.int .i64 0, .int .i64 0, .iface te pe])) :
    Calls Tryd.prog 70 #[.string s] w fun e w' => Below w.heap.size w w' ∧ e = .returned (.tuple #[headV false 0 0, .iface te pe]) := by
  have HN : Hid (∀ W, Below w.heap.size w W → Calls Tryd.prog 71 #[.string s, .int .u8 128] W fun e w' => Below W.heap.size W w' ∧ e = .returned (.tuple #[.int .i64 0, .int .i64 0, .iface te pe])) := hN
  clear hN
  go_enter Tryd.func70, Tryd.ntmps70
  go_wp2_with fail
  refine (HN.out _ ((Below.refl _ _).alloc (Nat.le_refl _) _)).mono ?_
  rintro e w1 ⟨hb1, rfl⟩
  obtain ⟨c0, f0⟩ := newCell hb1 0 (v := .bool false) rfl
  obtain ⟨c1, f1⟩ := newCell hb1 1 (v := .int .i64 0) rfl
  obtain ⟨c2, f2⟩ := newCell hb1 2 (v := .int .i64 0) rfl
  have AS : Aside (Below w.heap.size w w1) := ((Below.refl w.heap.size w).alloc (Nat.le_refl _) _).trans (hb1.mono (by simp))
  clear hb1
  go_wp2
  refine bodyPost_ret (v := .tuple #[headV false 0 0, .iface te pe]) (by simp [results, Tryd.results70, go_sem, c0, c1, c2]) rfl ⟨?_, rfl⟩
  exact (((AS.out.setCell (Nat.le_refl _) _).setCell (Nat.le_refl _) _).setCell (Nat.le_refl _) _)

set_option maxRecDepth 100000 in
set_option maxHeartbeats 1600000 in
theorem text_ok (s : ByteArray) (w : World) (a b : Nat) (hN : ∀ W, Below w.heap.size w W → Calls Tryd.prog 71 #[.string s, .int .u8 128] W fun e w' => Below W.heap.size W w' ∧ e = .returned (.tuple #[.int .i64 (a : Int), .int .i64 (b : Int), .nilIface])) (hb : ((b : Int) == 1) = false) :
    Calls Tryd.prog 70 #[.string s] w fun e w' => Below w.heap.size w w' ∧ e = .returned (.tuple #[headV false a b, .nilIface]) := by
  have HN : Hid (∀ W, Below w.heap.size w W → Calls Tryd.prog 71 #[.string s, .int .u8 128] W fun e w' => Below W.heap.size W w' ∧ e = .returned (.tuple #[.int .i64 (a : Int), .int .i64 (b : Int), .nilIface])) := hN
  clear hN
  go_enter Tryd.func70, Tryd.ntmps70
  go_wp2_with fail
  refine (HN.out _ ((Below.refl _ _).alloc (Nat.le_refl _) _)).mono ?_
  rintro e w1 ⟨hb1, rfl⟩
  obtain ⟨c0, f0⟩ := newCell hb1 0 (v := .bool false) rfl
  obtain ⟨c1, f1⟩ := newCell hb1 1 (v := .int .i64 0) rfl
  obtain ⟨c2, f2⟩ := newCell hb1 2 (v := .int .i64 0) rfl
  have AS : Aside (Below w.heap.size w w1) := ((Below.refl w.heap.size w).alloc (Nat.le_refl _) _).trans (hb1.mono (by simp))
  clear hb1
  go_wp2
  refine bodyPost_ret (v := .tuple #[headV false a b, .nilIface]) (by simp [results, Tryd.results70, go_sem, c0, c1, c2]) rfl ⟨?_, rfl⟩
  exact (((AS.out.setCell (Nat.le_refl _) _).setCell (Nat.le_refl _) _).setCell (Nat.le_refl _) _)

set_option maxRecDepth 100000 in
set_option maxHeartbeats 1600000 in
theorem text_one (s : ByteArray) (w : World) (a c : Nat) (hN : ∀ W, Below w.heap.size w W → Calls Tryd.prog 71 #[.string s, .int .u8 128] W fun e w' => Below W.heap.size W w' ∧ e = .returned (.tuple #[.int .i64 (a : Int), .int .i64 1, .nilIface])) (ha : a < s.size) (hc : (s[a]'ha).toNat = c) (h128 : (128 : Int) ≤ (c : Int)) :
    Calls Tryd.prog 70 #[.string s] w fun e w' => Below w.heap.size w w' ∧ e = .returned (.tuple #[headV false a 1, .nilIface]) := by
  have HN : Hid (∀ W, Below w.heap.size w W → Calls Tryd.prog 71 #[.string s, .int .u8 128] W fun e w' => Below W.heap.size W w' ∧ e = .returned (.tuple #[.int .i64 (a : Int), .int .i64 1, .nilIface])) := hN
  clear hN
  have hai : (a : Int) < (s.size : Int) := by omega
  go_enter Tryd.func70, Tryd.ntmps70
  go_wp2_with fail
  refine (HN.out _ ((Below.refl _ _).alloc (Nat.le_refl _) _)).mono ?_
  rintro e w1 ⟨hb1, rfl⟩
  obtain ⟨c0, f0⟩ := newCell hb1 0 (v := .bool false) rfl
  obtain ⟨c1, f1⟩ := newCell hb1 1 (v := .int .i64 0) rfl
  obtain ⟨c2, f2⟩ := newCell hb1 2 (v := .int .i64 0) rfl
  have AS : Aside (Below w.heap.size w w1) := ((Below.refl w.heap.size w).alloc (Nat.le_refl _) _).trans (hb1.mono (by simp))
  clear hb1
  go_wp2
  refine bodyPost_ret (v := .tuple #[headV false a 1, .nilIface]) (by simp [results, Tryd.results70, go_sem, c0, c1, c2]) rfl ⟨?_, rfl⟩
  exact (((AS.out.setCell (Nat.le_refl _) _).setCell (Nat.le_refl _) _).setCell (Nat.le_refl _) _)

set_option maxRecDepth 100000 in
set_option maxHeartbeats 1600000 in
theorem text_form (s : ByteArray) (w : World) (a c : Nat) (ef : Value) (hg : w.cell? ⟨12, 0, none⟩ = some ef) (hgl : 12 < w.heap.size) (hN : ∀ W, Below w.heap.size w W → Calls Tryd.prog 71 #[.string s, .int .u8 128] W fun e w' => Below W.heap.size W w' ∧ e = .returned (.tuple #[.int .i64 (a : Int), .int .i64 1, .nilIface])) (ha : a < s.size) (hc : (s[a]'ha).toNat = c) (h128 : (c : Int) < (128 : Int)) :
    Calls Tryd.prog 70 #[.string s] w fun e w' => Below w.heap.size w w' ∧ e = .returned (.tuple #[headV false 0 0, ef]) := by
  have HN : Hid (∀ W, Below w.heap.size w W → Calls Tryd.prog 71 #[.string s, .int .u8 128] W fun e w' => Below W.heap.size W w' ∧ e = .returned (.tuple #[.int .i64 (a : Int), .int .i64 1, .nilIface])) := hN
  clear hN
  have hai : (a : Int) < (s.size : Int) := by omega
  go_enter Tryd.func70, Tryd.ntmps70
  go_wp2_with fail
  refine (HN.out _ ((Below.refl _ _).alloc (Nat.le_refl _) _)).mono ?_
  rintro e w1 ⟨hb1, rfl⟩
  obtain ⟨c0, f0⟩ := newCell hb1 0 (v := .bool false) rfl
  obtain ⟨c1, f1⟩ := newCell hb1 1 (v := .int .i64 0) rfl
  obtain ⟨c2, f2⟩ := newCell hb1 2 (v := .int .i64 0) rfl
  have AS : Aside (Below w.heap.size w w1) := ((Below.refl w.heap.size w).alloc (Nat.le_refl _) _).trans (hb1.mono (by simp))
  have cg : w1.cell? ⟨12, 0, none⟩ = some ef := (AS.out.cell hgl).trans hg
  clear hb1
  go_wp2
  go_region
  go_wp2
  refine bodyPost_ret (v := .tuple #[headV false 0 0, ef]) (by simp [results, Tryd.results70, go_sem, c0, c1, c2]) rfl ⟨?_, rfl⟩
  exact (((AS.out.drew.setCell (Nat.le_refl _) _).setCell (Nat.le_refl _) _).setCell (Nat.le_refl _) _)

theorem byte_lt (s : ByteArray) : ∀ x ∈ bytesOf s, x < 256 := by
  intro x hx
  unfold bytesOf at hx
  obtain ⟨y, _, rfl⟩ := List.mem_map.1 hx
  exact UInt8.toNat_lt y

/-- What readLength answers, wherever the two errors stand. -/
def LenAt (s : ByteArray) (kind : Nat) (w : World) (es ef : Value) (r : Except Bool (Nat × Nat)) : Prop :=
  (∀ x, r = .error x → ∀ W, Below w.heap.size w W → Calls Tryd.prog 71 #[.string s, .int .u8 (kind : Int)] W fun e w' => Below W.heap.size W w' ∧ e = .returned (.tuple #[.int .i64 0, .int .i64 0, if x then ef else es])) ∧
    ∀ a b, r = .ok (a, b) → ∀ W, Below w.heap.size w W → Calls Tryd.prog 71 #[.string s, .int .u8 (kind : Int)] W fun e w' => Below W.heap.size W w' ∧ e = .returned (.tuple #[.int .i64 (a : Int), .int .i64 (b : Int), .nilIface])

theorem length_at (s : ByteArray) (kind : Nat) (w : World) (es ef : Value) (hes : faultAt w 2 es) (hef : faultAt w 12 ef) (hgs : 2 < w.heap.size) (hgf : 12 < w.heap.size) (hp : 0 < s.size) (hs : s.size ≤ 1048576) (hc : kind ≤ (bytesOf s)[0]!) (h63 : (bytesOf s)[0]! - kind ≤ 63) :
    LenAt s kind w es ef (lenF (bytesOf s) kind) := by
  have fS : ∀ W, Below w.heap.size w W → faultAt W 2 es := fun W hW => (hW.cell hgs).trans hes
  have fF : ∀ W, Below w.heap.size w W → faultAt W 12 ef := fun W hW => (hW.cell hgf).trans hef
  by_cases h55 : (bytesOf s)[0]! - kind ≤ 55
  · refine ⟨fun x h W hW => ?_, fun a b h W hW => ?_⟩
    · have hx : x = false := by
        rw [lenF_small h55] at h
        split at h
        · cases h; rfl
        · cases h
      subst hx
      refine (length_small s kind W es (fS W hW) hp hs hc h55).mono ?_
      rintro e w' ⟨rfl, hb⟩
      rw [h]
      exact ⟨hb, rfl⟩
    · refine (length_small s kind W es (fS W hW) hp hs hc h55).mono ?_
      rintro e w' ⟨rfl, hb⟩
      rw [h]
      exact ⟨hb, rfl⟩
  · refine ⟨fun x h W hW => ?_, fun a b h W hW => ?_⟩
    · refine (length_great s kind W es ef (fS W hW) (fF W hW) hp hs hc h55 h63).mono ?_
      rintro e w' ⟨rfl, hb⟩
      rw [h]
      cases x with
      | false => exact ⟨hb, rfl⟩
      | true => exact ⟨hb, rfl⟩
    · refine (length_great s kind W es ef (fS W hW) (fF W hW) hp hs hc h55 h63).mono ?_
      rintro e w' ⟨rfl, hb⟩
      rw [h]
      exact ⟨hb, rfl⟩

/-- What readHead and readText answer, wherever the two errors stand. -/
def HeadAt (f : FuncId) (s : ByteArray) (w : World) (es ef : Value) (r : Except Nat (Bool × Nat × Nat)) : Prop :=
  (∀ x, r = .error x → ∃ l ev, (x = 2 ∧ ev = es ∨ x = 3 ∧ ev = ef) ∧ ∀ W, Below w.heap.size w W → Calls Tryd.prog f #[.string s] W fun e w' => Below W.heap.size W w' ∧ e = .returned (.tuple #[headV l 0 0, ev])) ∧
    ∀ l a b, r = .ok (l, a, b) → ∀ W, Below w.heap.size w W → Calls Tryd.prog f #[.string s] W fun e w' => Below W.heap.size W w' ∧ e = .returned (.tuple #[headV l a b, .nilIface])
theorem HeadAt.err {f : FuncId} {s : ByteArray} {w : World} {es ef : Value} {x : Nat} (h : ∃ l ev, (x = 2 ∧ ev = es ∨ x = 3 ∧ ev = ef) ∧ ∀ W, Below w.heap.size w W → Calls Tryd.prog f #[.string s] W fun e w' => Below W.heap.size W w' ∧ e = .returned (.tuple #[headV l 0 0, ev])) : HeadAt f s w es ef (.error x) :=
  ⟨fun y hy => by cases hy; exact h, fun _ _ _ hy => by cases hy⟩
theorem HeadAt.ok {f : FuncId} {s : ByteArray} {w : World} {es ef : Value} {l : Bool} {a b : Nat} (h : ∀ W, Below w.heap.size w W → Calls Tryd.prog f #[.string s] W fun e w' => Below W.heap.size W w' ∧ e = .returned (.tuple #[headV l a b, .nilIface])) : HeadAt f s w es ef (.ok (l, a, b)) :=
  ⟨fun y hy => (by cases hy), fun _ _ _ hy => by cases hy; exact h⟩

theorem headF_text {l : List Nat} (h0 : 0 < l.length) (h1 : 128 ≤ l[0]!) (h2 : l[0]! < 192) : headF l = (match lenF l 128 with
    | .error x => .error (if x then 3 else 2)
    | .ok (a, b) => if b = 1 ∧ l[a]! < 128 then .error 3 else .ok (false, a, b)) := by
  unfold headF
  rw [if_neg (by omega), if_neg (by omega), if_pos h2]
  rcases lenF l 128 with x | ⟨a, b⟩ <;> rfl
theorem headF_list {l : List Nat} (h0 : 0 < l.length) (h2 : ¬ l[0]! < 192) : headF l = (match lenF l 192 with
    | .error x => .error (if x then 3 else 2)
    | .ok (a, b) => .ok (true, a, b)) := by
  unfold headF
  rw [if_neg (by omega), if_neg (by omega), if_neg h2]
  rcases lenF l 192 with x | ⟨a, b⟩ <;> rfl

theorem readText_at (s : ByteArray) (w : World) (te : TypeId) (ps pf : Value) (hes : faultAt w 2 (.iface te ps)) (hef : faultAt w 12 (.iface te pf)) (hgs : 2 < w.heap.size) (hgf : 12 < w.heap.size) (hp : 0 < s.size) (hs : s.size ≤ 1048576) (hc : 128 ≤ (bytesOf s)[0]!) (h63 : (bytesOf s)[0]! < 192) :
    HeadAt 70 s w (.iface te ps) (.iface te pf) (headF (bytesOf s)) := by
  have hlen := bytesOf_length s
  have hN := length_at s 128 w _ _ hes hef hgs hgf hp hs hc (by omega)
  rw [headF_text (by omega) hc h63]
  cases hl : lenF (bytesOf s) 128 with
  | error x =>
    have hN := hN.1 x hl
    cases x with
    | false => exact .err ⟨false, _, .inl ⟨rfl, rfl⟩, fun W hW => text_err s W te ps (fun W' h => hN W' (Below.behind hW h))⟩
    | true => exact .err ⟨false, _, .inr ⟨rfl, rfl⟩, fun W hW => text_err s W te pf (fun W' h => hN W' (Below.behind hW h))⟩
  | ok p =>
    obtain ⟨a, b⟩ := p
    have hN := hN.2 a b hl
    simp only
    obtain ⟨_, h2, _, _⟩ := lenF_ok (byte_lt s) (by omega) hc (by omega) hl
    by_cases h1 : b = 1
    · subst h1
      have ha : a < s.size := by omega
      have hba := byte_at s a ha
      by_cases hx : (s[a]'ha).toNat < 128
      · rw [if_pos ⟨rfl, by omega⟩]
        exact .err ⟨false, _, .inr ⟨rfl, rfl⟩, fun W hW => text_form s W a _ _ ((hW.cell hgf).trans hef) (Nat.lt_of_lt_of_le hgf hW.size) (fun W' h => hN W' (Below.behind hW h)) ha rfl (Int.ofNat_lt.2 hx)⟩
      · rw [if_neg (fun h => hx (by omega))]
        exact .ok fun W hW => text_one s W a _ (fun W' h => hN W' (Below.behind hW h)) ha rfl (Int.ofNat_le.2 (Nat.le_of_not_lt hx))
    · rw [if_neg (fun h => h1 h.1)]
      exact .ok fun W hW => text_ok s W a b (fun W' h => hN W' (Below.behind hW h)) (by simp; omega)

theorem cell_past {w : World} (o : Obj) {g : Nat} {v : Value} (h : w.cell? ⟨g, 0, none⟩ = some v) (hg : g < w.heap.size) : (w.alloc o).cell? ⟨g, 0, none⟩ = some v :=
  (World.cell?_alloc_past _ _ _ hg).trans h

set_option maxRecDepth 100000 in
set_option maxHeartbeats 1600000 in
theorem head_empty (w : World) (s : ByteArray) (hs : s.toList.isEmpty = true) (es : Value) (hg : w.cell? ⟨2, 0, none⟩ = some es) (hgl : 2 < w.heap.size) :
    Calls Tryd.prog 58 #[.string s] w fun e w' => Below w.heap.size w w' ∧ e = .returned (.tuple #[headV false 0 0, es]) := by
  have hg2 := fun o => cell_past o hg hgl
  go_enter Tryd.func58, Tryd.ntmps58
  go_wp2
  go_region
  go_wp2
  refine bodyPost_ret (v := .tuple #[headV false 0 0, es]) (by simp [results, Tryd.results58, go_sem]) rfl ⟨?_, rfl⟩
  exact ((Below.refl _ _).alloc (Nat.le_refl _) _).drew

set_option maxRecDepth 100000 in
set_option maxHeartbeats 1600000 in
theorem head_byte (w : World) (s : ByteArray) (hs : s.toList.isEmpty = false) (hp : 0 < s.size) (c : Nat) (hc : (s[0]'hp).toNat = c) (h : (c : Int) < 128) :
    Calls Tryd.prog 58 #[.string s] w fun e w' => Below w.heap.size w w' ∧ e = .returned (.tuple #[headV false 0 1, .nilIface]) := by
  go_enter Tryd.func58, Tryd.ntmps58
  go_wp2
  refine bodyPost_ret (v := .tuple #[headV false 0 1, .nilIface]) (by simp [results, Tryd.results58, go_sem]) rfl ⟨?_, rfl⟩
  exact (Below.refl _ _).alloc (Nat.le_refl _) _

set_option maxRecDepth 100000 in
set_option maxHeartbeats 1600000 in
theorem head_text (w : World) (s : ByteArray) (hs : s.toList.isEmpty = false) (hp : 0 < s.size) (c : Nat) (hc : (s[0]'hp).toNat = c) (h : (128 : Int) ≤ (c : Int)) (h2 : (c : Int) < 192) (l : Bool) (a b : Nat) (ev : Value) (hN : ∀ W, Below w.heap.size w W → Calls Tryd.prog 70 #[.string s] W fun e w' => Below W.heap.size W w' ∧ e = .returned (.tuple #[headV l a b, ev])) :
    Calls Tryd.prog 58 #[.string s] w fun e w' => Below w.heap.size w w' ∧ e = .returned (.tuple #[headV l a b, ev]) := by
  have HN : Hid (∀ W, Below w.heap.size w W → Calls Tryd.prog 70 #[.string s] W fun e w' => Below W.heap.size W w' ∧ e = .returned (.tuple #[headV l a b, ev])) := hN
  clear hN
  go_enter Tryd.func58, Tryd.ntmps58
  go_wp2_with fail
  refine (HN.out _ ((Below.refl _ _).alloc (Nat.le_refl _) _)).mono ?_
  rintro e w1 ⟨hb1, rfl⟩
  obtain ⟨c0, f0⟩ := newCell hb1 0 (v := .bool false) rfl
  obtain ⟨c1, f1⟩ := newCell hb1 1 (v := .int .i64 0) rfl
  obtain ⟨c2, f2⟩ := newCell hb1 2 (v := .int .i64 0) rfl
  have AS : Aside (Below w.heap.size w w1) := ((Below.refl w.heap.size w).alloc (Nat.le_refl _) _).trans (hb1.mono (by simp))
  clear hb1
  go_wp2
  refine bodyPost_ret (v := .tuple #[headV l a b, ev]) (by simp [results, Tryd.results58, go_sem, c0, c1, c2]) rfl ⟨?_, rfl⟩
  exact (((AS.out.setCell (Nat.le_refl _) _).setCell (Nat.le_refl _) _).setCell (Nat.le_refl _) _)

set_option maxRecDepth 100000 in
set_option maxHeartbeats 1600000 in
theorem head_list (w : World) (s : ByteArray) (hs : s.toList.isEmpty = false) (hp : 0 < s.size) (c : Nat) (hc : (s[0]'hp).toNat = c) (h2 : (192 : Int) ≤ (c : Int)) (a b : Nat) (ev : Value) (hN : ∀ W, Below w.heap.size w W → Calls Tryd.prog 71 #[.string s, .int .u8 192] W fun e w' => Below W.heap.size W w' ∧ e = .returned (.tuple #[.int .i64 (a : Int), .int .i64 (b : Int), ev])) :
    Calls Tryd.prog 58 #[.string s] w fun e w' => Below w.heap.size w w' ∧ e = .returned (.tuple #[headV true a b, ev]) := by
  have HN : Hid (∀ W, Below w.heap.size w W → Calls Tryd.prog 71 #[.string s, .int .u8 192] W fun e w' => Below W.heap.size W w' ∧ e = .returned (.tuple #[.int .i64 (a : Int), .int .i64 (b : Int), ev])) := hN
  clear hN
  have h1 : (128 : Int) ≤ (c : Int) := by omega
  go_enter Tryd.func58, Tryd.ntmps58
  go_wp2_with fail
  refine (HN.out _ ((Below.refl _ _).alloc (Nat.le_refl _) _)).mono ?_
  rintro e w1 ⟨hb1, rfl⟩
  obtain ⟨c0, f0⟩ := newCell hb1 0 (v := .bool false) rfl
  obtain ⟨c1, f1⟩ := newCell hb1 1 (v := .int .i64 0) rfl
  obtain ⟨c2, f2⟩ := newCell hb1 2 (v := .int .i64 0) rfl
  have AS : Aside (Below w.heap.size w w1) := ((Below.refl w.heap.size w).alloc (Nat.le_refl _) _).trans (hb1.mono (by simp))
  clear hb1
  go_wp2
  refine bodyPost_ret (v := .tuple #[headV true a b, ev]) (by simp [results, Tryd.results58, go_sem, c0, c1, c2]) rfl ⟨?_, rfl⟩
  exact (((AS.out.setCell (Nat.le_refl _) _).setCell (Nat.le_refl _) _).setCell (Nat.le_refl _) _)

theorem readHead_at (s : ByteArray) (w : World) (te : TypeId) (ps pf : Value) (hes : faultAt w 2 (.iface te ps)) (hef : faultAt w 12 (.iface te pf)) (hgs : 2 < w.heap.size) (hgf : 12 < w.heap.size) (hs : s.size ≤ 1048576) :
    HeadAt 58 s w (.iface te ps) (.iface te pf) (headF (bytesOf s)) := by
  have hlen := bytesOf_length s
  by_cases hp : 0 < s.size
  · have h256 : (bytesOf s)[0]! < 256 := by
      rw [getElem!_pos _ 0 (by omega)]
      exact byte_lt s _ (List.getElem_mem _)
    have hb0 := byte_at s 0 hp
    by_cases h1 : (s[0]'hp).toNat < 128
    · have e : headF (bytesOf s) = .ok (false, 0, 1) := by
        unfold headF
        rw [if_neg (by omega), if_pos (by omega)]
      rw [e]
      exact .ok fun W _ => head_byte W s (some_text s hp) hp _ rfl (Int.ofNat_lt.2 h1)
    · by_cases h2 : (s[0]'hp).toNat < 192
      · have hT := readText_at s w te ps pf hes hef hgs hgf hp hs (by omega) (by omega)
        cases hh : headF (bytesOf s) with
        | error x =>
          obtain ⟨l, ev, hev, hN⟩ := hT.1 x hh
          exact .err ⟨l, ev, hev, fun W hW => head_text W s (some_text s hp) hp _ rfl (Int.ofNat_le.2 (Nat.le_of_not_lt h1)) (Int.ofNat_lt.2 h2) l 0 0 ev (fun W' h => hN W' (Below.behind hW h))⟩
        | ok p =>
          obtain ⟨l, a, b⟩ := p
          have hT := hT.2 l a b hh
          exact .ok fun W hW => head_text W s (some_text s hp) hp _ rfl (Int.ofNat_le.2 (Nat.le_of_not_lt h1)) (Int.ofNat_lt.2 h2) l a b _ (fun W' h => hT W' (Below.behind hW h))
      · have hN := length_at s 192 w _ _ hes hef hgs hgf hp hs (by omega) (by omega)
        rw [headF_list (by omega) (by omega)]
        cases hl : lenF (bytesOf s) 192 with
        | error x =>
          have hN := hN.1 x hl
          cases x with
          | false => exact .err ⟨true, _, .inl ⟨rfl, rfl⟩, fun W hW => head_list W s (some_text s hp) hp _ rfl (Int.ofNat_le.2 (Nat.le_of_not_lt h2)) 0 0 _ (fun W' h => hN W' (Below.behind hW h))⟩
          | true => exact .err ⟨true, _, .inr ⟨rfl, rfl⟩, fun W hW => head_list W s (some_text s hp) hp _ rfl (Int.ofNat_le.2 (Nat.le_of_not_lt h2)) 0 0 _ (fun W' h => hN W' (Below.behind hW h))⟩
        | ok p =>
          obtain ⟨a, b⟩ := p
          have hN := hN.2 a b hl
          exact .ok fun W hW => head_list W s (some_text s hp) hp _ rfl (Int.ofNat_le.2 (Nat.le_of_not_lt h2)) a b _ (fun W' h => hN W' (Below.behind hW h))
  · have e : headF (bytesOf s) = .error 2 := by
      unfold headF
      rw [if_pos (by omega)]
    rw [e]
    have h0 : s.toList.isEmpty = true := by
      rw [Lib.toList_data]
      have : s.data.toList.length = s.size := by simp
      have e : s.data.toList = [] := List.eq_nil_of_length_eq_zero (by omega)
      rw [e]
      rfl
    exact .err ⟨false, _, .inl ⟨rfl, rfl⟩, fun W hW => head_empty W s h0 _ ((hW.cell hgs).trans hes) (Nat.lt_of_lt_of_le hgs hW.size)⟩
end Go.Proofs.YtjiikjpnlgogfaaDoor
