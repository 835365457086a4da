/-
  Items in memory: a tree of rows, and what it stands for.
  readText and readHead of package item.
-/
import Derived.Test.YthbgepmpdphigaaGreatDoorAxReaG
import Derived.Test.YthbgepmpdphigaaGreatDoorAxOwnG
namespace Go.Proofs.YthbgepmpdphigaaGreatDoor
open Go.RowKit
set_option maxRecDepth 100000
set_option maxHeartbeats 25600000
structure El where
 fr : Nat
 to : Nat
 lst : Bool
 text : ByteArray
 sub : Value
abbrev encP (e : El) : List Value := [.int .i64 (e.fr : Int), .int .i64 (e.to : Int), .bool e.lst, .string e.text, e.sub]
abbrev valP (e : El) : Value := .agg #[.int .i64 (e.fr : Int), .int .i64 (e.to : Int), .bool e.lst, .string e.text, e.sub]
def RowAt (w : World) (F : Nat -> Prop) (v : Value) (n : Nat) (cs : List Value) : Prop :=
 (v = .slice none 0 0 /\ n = 0 /\ cs = []) \/ ∃ g cap, v = .slice (some ⟨g, 0, none⟩) n cap /\ n <= cap /\ F g /\ g < w.heap.size /\ Plain w g /\ w.rangeAt g 0 cs
theorem RowAt.keep {w w' : World} {F F' : Nat -> Prop} {v : Value} {n : Nat} {cs : List Value} (h : RowAt w F v n cs) (hF : ∀ k, F k -> F' k) (hs : w.heap.size <= w'.heap.size) (hb : ∀ k, F k -> k < w.heap.size -> w'.heap[k]? = w.heap[k]?) : RowAt w' F' v n cs := by
 rcases h with h | ⟨g, cap, rfl, h0, h1, h2, hp, h3⟩
 ·exact .inl h
 ·exact .inr ⟨g, cap, rfl, h0, hF g h1, by omega, hp.keep (hb g h1 h2), fun j u a => (World.cell?_of_block (hb g h1 h2)).trans (h3 j u a)⟩
variable {w : World}
theorem OwnC.rowAt {B size : Nat} {v : Value} {n : Nat} {cs : List Value} (h : OwnC w B size v n cs) {F : Nat -> Prop} (hF : ∀ k, v.ownBlock = some k -> F k) (hP : ∀ k, v.ownBlock = some k -> Plain w k) : RowAt w F v n cs := by
 obtain ⟨a, h⟩ := h
 rcases h with ⟨h1, h2⟩ | ⟨g, cap, rfl, h1, h2, h3, h4, h5, h6⟩
 ·subst h2
  exact .inl ⟨h1, rfl, List.eq_nil_of_length_eq_zero (by simpa using a)⟩
 ·exact .inr ⟨g, cap, rfl, h3, hF g rfl, h2, hP g rfl, h6⟩
structure Sort' (C : Type) where
 tx : El -> C -> Prop
 ls : El -> List C -> C -> Prop
def kP : Sort' It := ⟨fun e x => x = .text e.fr e.to (bytesOf e.text), fun e l x => e.text = textB [] /\ x = .list e.fr e.to l⟩
mutual
def It.bare : It -> It
 | .text _ _ t => .text 0 0 t
 | .list _ _ l => .list 0 0 (bares l)
def bares : List It -> List It
 | [] => []
 | x :: l => x.bare :: bares l
end
theorem Qc4 (l : List It) : bares l = l.map It.bare := by
 induction l with
 | nil => rfl
 | cons x l ih => rw [bares, ih, List.map_cons]
mutual
theorem Qml : ∀ x : It, x.bare.code = x.code
 | .text _ _ _ => by rw [It.bare, It.code, It.code]
 | .list _ _ l => by rw [It.bare, It.code, It.code, Qht l]
theorem Qht : ∀ l : List It, codes (bares l) = codes l
 | [] => rfl
 | x :: l => by rw [bares, codes, codes, Qml x, Qht l]
end
def IsText (e : El) : Prop := e.lst = false /\ e.sub = .slice none 0 0
def Tree {C : Type} (enc : El -> List Value) (K : Sort' C) : Nat -> World -> (Nat -> Prop) -> El -> C -> Prop
 | 0, _, _, e, c => IsText e /\ K.tx e c
 | n + 1, w, F, e, c => (IsText e /\ K.tx e c) \/ (e.lst = true /\ ∃ ps : List (El × C), RowAt w F e.sub ps.length (ps.flatMap fun p => enc p.1) /\ (∀ p ∈ ps, Tree enc K n w F p.1 p.2) /\ K.ls e (ps.map (·.2)) c)
section
variable {C : Type} {enc : El -> List Value} {K : Sort' C}
variable {w : World} {F : Nat -> Prop}
theorem Tree.text {e : El} {c : C} (h : IsText e /\ K.tx e c) : ∀ n, Tree enc K n w F e c
 | 0 => h
 | _ + 1 => .inl h
theorem Tree.keep {w w' : World} {F F' : Nat -> Prop} (hF : ∀ k, F k -> F' k) (hs : w.heap.size <= w'.heap.size) (hb : ∀ k, F k -> k < w.heap.size -> w'.heap[k]? = w.heap[k]?) : ∀ (n : Nat) {e : El} {c : C}, Tree enc K n w F e c -> Tree enc K n w' F' e c
 | 0, _, _, h => h
 | n + 1, e, c, h => by
  rcases h with h | ⟨h1, ps, h3, h4, h5⟩
  ·exact .inl h
  ·exact .inr ⟨h1, ps, h3.keep hF hs hb, fun p hp => Tree.keep hF hs hb n (h4 p hp), h5⟩
theorem Tree.below {w' : World} {n : Nat} {e : El} {c : C} (h : Tree enc K n w F e c) (hb : Below w.heap.size w w') : Tree enc K n w' F e c :=
 Tree.keep (fun _ h => h) hb.size (fun k _ hk => hb.block k hk) n h
theorem Tree.bound {w : World} {F : Nat -> Prop} : ∀ (n : Nat) {e : El} {c : C}, Tree enc K n w F e c -> Tree enc K n w (fun k => F k /\ k < w.heap.size) e c
 | 0, _, _, h => h
 | n + 1, e, c, h => by
  rcases h with h | ⟨h1, ps, h3, h4, h5⟩
  ·exact .inl h
  ·refine .inr ⟨h1, ps, ?_, fun p hp => Tree.bound n (h4 p hp), h5⟩
   rcases h3 with h3 | ⟨g, cap, e1, e2, e3, e4, e5⟩
   ·exact .inl h3
   ·exact .inr ⟨g, cap, e1, e2, ⟨e3, e4⟩, e4, e5⟩
theorem Qyq {size : Nat} (hz : ∀ e, (enc e).length = size) : ∀ (ps : List (El × C)) (i : Nat) (hi : i < ps.length) (j : Nat), j < size -> (ps.flatMap fun p => enc p.1)[i * size + j]? = (enc ps[i].1)[j]? := by
 intro ps
 induction ps with
 | nil => intro i hi; simp at hi
 | cons p ps ih =>
  intro i hi j a
  rw [List.flatMap_cons]
  cases i with
  | zero =>
   rw [Nat.zero_mul, Nat.zero_add, List.getElem?_append_left (by rw [hz]; exact a)]
   rfl
  | succ i =>
   rw [List.getElem?_append_right (by rw [hz, Nat.add_mul, Nat.one_mul]; omega), hz, show (i + 1) * size + j - size = i * size + j by rw [Nat.add_mul, Nat.one_mul]; omega, ih i (by simpa using hi) j a]
   rfl
theorem RowAt.cells {v : Value} {size : Nat} (hz : ∀ e, (enc e).length = size) {ps : List (El × C)} (h : RowAt w F v ps.length (ps.flatMap fun p => enc p.1)) (hp : 0 < ps.length) :
  ∃ g cap, v = .slice (some ⟨g, 0, none⟩) ps.length cap /\ ps.length <= cap /\ F g /\ g < w.heap.size /\ Plain w g /\ ∀ i, (hi : i < ps.length) -> w.rangeAt g (i * size) (enc ps[i].1) := by
 rcases h with ⟨_, h, _⟩ | ⟨g, cap, rfl, h0, h1, h2, hpl, h3⟩
 ·omega
 ·refine ⟨g, cap, rfl, h0, h1, h2, hpl, fun i hi j u a => ?_⟩
  have b : j < size := by
   have := (List.getElem?_eq_some_iff.1 a).1
   rwa [hz] at this
  have := h3 (i * size + j) u (by rw [Qyq hz ps i hi j b]; exact a)
  rwa [Nat.zero_add] at this
end
abbrev headV (list : Bool) (a b : Nat) : Value := .agg #[.bool list, .int .i64 (a : Int), .int .i64 (b : Int)]
theorem Qpn (s : ByteArray) (w : World) (te : TypeId) (pe : Value) (hN : ∀ W, Below w.heap.size w W -> Calls Tryz.prog 124 #[.string s, .int .u8 128] W fun e w' => Below W.heap.size W w' /\ e = .returned (.tuple #[.int .i64 0, .int .i64 0, .iface te pe])) :
  Calls Tryz.prog 123 #[.string s] w fun e w' => Below w.heap.size w w' /\ e = .returned (.tuple #[headV false 0 0, .iface te pe]) := by
 have c : Hid (∀ W, Below w.heap.size w W -> Calls Tryz.prog 124 #[.string s, .int .u8 128] W fun e w' => Below W.heap.size W w' /\ e = .returned (.tuple #[.int .i64 0, .int .i64 0, .iface te pe])) := hN
 clear hN
 go_enter Tryz.func123, Tryz.ntmps123
 go_wp2_with fail
 refine (c.out _ ((Below.refl _ _).alloc (Nat.le_refl _) _)).mono ?_
 rintro e h ⟨a, rfl⟩
 obtain ⟨d, i⟩ := Qac a 0 (v := .bool false) rfl
 obtain ⟨f, j⟩ := Qac a 1 (v := .int .i64 0) rfl
 obtain ⟨g, k⟩ := Qac a 2 (v := .int .i64 0) rfl
 have b : Aside (Below w.heap.size w h) := ((Below.refl w.heap.size w).alloc (Nat.le_refl _) _).trans (a.mono (by simp))
 clear a
 go_wp2
 refine bodyPost_ret (v := .tuple #[headV false 0 0, .iface te pe]) (by simp [results, Tryz.results123, go_sem, d, f, g]) rfl ⟨?_, rfl⟩
 exact (((b.out.setCell (Nat.le_refl _) _).setCell (Nat.le_refl _) _).setCell (Nat.le_refl _) _)
theorem Qyr (s : ByteArray) (w : World) (a b : Nat) (hN : ∀ W, Below w.heap.size w W -> Calls Tryz.prog 124 #[.string s, .int .u8 128] W fun e w' => Below W.heap.size W w' /\ e = .returned (.tuple #[.int .i64 (a : Int), .int .i64 (b : Int), .nilIface])) (hb : ((b : Int) == 1) = false) :
  Calls Tryz.prog 123 #[.string s] w fun e w' => Below w.heap.size w w' /\ e = .returned (.tuple #[headV false a b, .nilIface]) := by
 have f : Hid (∀ W, Below w.heap.size w W -> Calls Tryz.prog 124 #[.string s, .int .u8 128] W fun e w' => Below W.heap.size W w' /\ e = .returned (.tuple #[.int .i64 (a : Int), .int .i64 (b : Int), .nilIface])) := hN
 clear hN
 go_enter Tryz.func123, Tryz.ntmps123
 go_wp2_with fail
 refine (f.out _ ((Below.refl _ _).alloc (Nat.le_refl _) _)).mono ?_
 rintro e j ⟨c, rfl⟩
 obtain ⟨g, k⟩ := Qac c 0 (v := .bool false) rfl
 obtain ⟨h, l⟩ := Qac c 1 (v := .int .i64 0) rfl
 obtain ⟨i, m⟩ := Qac c 2 (v := .int .i64 0) rfl
 have d : Aside (Below w.heap.size w j) := ((Below.refl w.heap.size w).alloc (Nat.le_refl _) _).trans (c.mono (by simp))
 clear c
 go_wp2
 refine bodyPost_ret (v := .tuple #[headV false a b, .nilIface]) (by simp [results, Tryz.results123, go_sem, g, h, i]) rfl ⟨?_, rfl⟩
 exact (((d.out.setCell (Nat.le_refl _) _).setCell (Nat.le_refl _) _).setCell (Nat.le_refl _) _)
theorem Qww (s : ByteArray) (w : World) (a c : Nat) (hN : ∀ W, Below w.heap.size w W -> Calls Tryz.prog 124 #[.string s, .int .u8 128] W fun e w' => Below W.heap.size W w' /\ e = .returned (.tuple #[.int .i64 (a : Int), .int .i64 1, .nilIface])) (ha : a < s.size) (hc : (s[a]'ha).toNat = c) (h128 : (128 : Int) <= (c : Int)) :
  Calls Tryz.prog 123 #[.string s] w fun e w' => Below w.heap.size w w' /\ e = .returned (.tuple #[headV false a 1, .nilIface]) := by
 have f : Hid (∀ W, Below w.heap.size w W -> Calls Tryz.prog 124 #[.string s, .int .u8 128] W fun e w' => Below W.heap.size W w' /\ e = .returned (.tuple #[.int .i64 (a : Int), .int .i64 1, .nilIface])) := hN
 clear hN
 have k : (a : Int) < (s.size : Int) := by omega
 go_enter Tryz.func123, Tryz.ntmps123
 go_wp2_with fail
 refine (f.out _ ((Below.refl _ _).alloc (Nat.le_refl _) _)).mono ?_
 rintro e j ⟨b, rfl⟩
 obtain ⟨g, l⟩ := Qac b 0 (v := .bool false) rfl
 obtain ⟨h, m⟩ := Qac b 1 (v := .int .i64 0) rfl
 obtain ⟨i, n⟩ := Qac b 2 (v := .int .i64 0) rfl
 have d : Aside (Below w.heap.size w j) := ((Below.refl w.heap.size w).alloc (Nat.le_refl _) _).trans (b.mono (by simp))
 clear b
 go_wp2
 refine bodyPost_ret (v := .tuple #[headV false a 1, .nilIface]) (by simp [results, Tryz.results123, go_sem, g, h, i]) rfl ⟨?_, rfl⟩
 exact (((d.out.setCell (Nat.le_refl _) _).setCell (Nat.le_refl _) _).setCell (Nat.le_refl _) _)
theorem Qu4 (s : ByteArray) (w : World) (a c : Nat) (ef : Value) (hg : w.cell? ⟨15, 0, none⟩ = some ef) (hgl : 15 < w.heap.size) (hN : ∀ W, Below w.heap.size w W -> Calls Tryz.prog 124 #[.string s, .int .u8 128] W fun e w' => Below W.heap.size W w' /\ e = .returned (.tuple #[.int .i64 (a : Int), .int .i64 1, .nilIface])) (ha : a < s.size) (hc : (s[a]'ha).toNat = c) (h128 : (c : Int) < (128 : Int)) :
  Calls Tryz.prog 123 #[.string s] w fun e w' => Below w.heap.size w w' /\ e = .returned (.tuple #[headV false 0 0, ef]) := by
 have g : Hid (∀ W, Below w.heap.size w W -> Calls Tryz.prog 124 #[.string s, .int .u8 128] W fun e w' => Below W.heap.size W w' /\ e = .returned (.tuple #[.int .i64 (a : Int), .int .i64 1, .nilIface])) := hN
 clear hN
 have k : (a : Int) < (s.size : Int) := by omega
 go_enter Tryz.func123, Tryz.ntmps123
 go_wp2_with fail
 refine (g.out _ ((Below.refl _ _).alloc (Nat.le_refl _) _)).mono ?_
 rintro e f ⟨b, rfl⟩
 obtain ⟨h, m⟩ := Qac b 0 (v := .bool false) rfl
 obtain ⟨i, n⟩ := Qac b 1 (v := .int .i64 0) rfl
 obtain ⟨j, o⟩ := Qac b 2 (v := .int .i64 0) rfl
 have d : Aside (Below w.heap.size w f) := ((Below.refl w.heap.size w).alloc (Nat.le_refl _) _).trans (b.mono (by simp))
 have l : f.cell? ⟨15, 0, none⟩ = some ef := (d.out.cell hgl).trans hg
 clear b
 go_wp2
 go_region
 go_wp2
 refine bodyPost_ret (v := .tuple #[headV false 0 0, ef]) (by simp [results, Tryz.results123, go_sem, h, i, j]) rfl ⟨?_, rfl⟩
 exact (((d.out.drew.setCell (Nat.le_refl _) _).setCell (Nat.le_refl _) _).setCell (Nat.le_refl _) _)
theorem Qhu (s : ByteArray) : ∀ x ∈ bytesOf s, x < 256 := by
 intro x a
 unfold bytesOf at a
 obtain ⟨y, _, rfl⟩ := List.mem_map.1 a
 exact UInt8.toNat_lt y
def LenAt (s : ByteArray) (kind : Nat) (w : World) (es ef : Value) (r : Except Bool (Nat × Nat)) : Prop :=
 (∀ x, r = .error x -> ∀ W, Below w.heap.size w W -> Calls Tryz.prog 124 #[.string s, .int .u8 (kind : Int)] W fun e w' => Below W.heap.size W w' /\ e = .returned (.tuple #[.int .i64 0, .int .i64 0, if x then ef else es])) /\
  ∀ a b, r = .ok (a, b) -> ∀ W, Below w.heap.size w W -> Calls Tryz.prog 124 #[.string s, .int .u8 (kind : Int)] W fun e w' => Below W.heap.size W w' /\ e = .returned (.tuple #[.int .i64 (a : Int), .int .i64 (b : Int), .nilIface])
theorem Qmm (s : ByteArray) (kind : Nat) (w : World) (es ef : Value) (hes : faultAt w 1 es) (hef : faultAt w 15 ef) (hgs : 1 < w.heap.size) (hgf : 15 < w.heap.size) (hp : 0 < s.size) (hs : s.size <= 1048576) (hc : kind <= (bytesOf s)[0]!) (h63 : (bytesOf s)[0]! - kind <= 63) :
  LenAt s kind w es ef (lenF (bytesOf s) kind) := by
 have g : ∀ W, Below w.heap.size w W -> faultAt W 1 es := fun W c => (c.cell hgs).trans hes
 have j : ∀ W, Below w.heap.size w W -> faultAt W 15 ef := fun W c => (c.cell hgf).trans hef
 by_cases d : (bytesOf s)[0]! - kind <= 55
 ·refine ⟨fun x h W c => ?_, fun a b h W c => ?_⟩
  ·have k : x = false := by
    rw [Qfp d] at h
    split at h
    ·cases h; rfl
    ·cases h
   subst k
   refine (Qg5 s kind W es (g W c) hp hs hc d).mono ?_
   rintro e i ⟨rfl, f⟩
   rw [h]
   exact ⟨f, rfl⟩
  ·refine (Qg5 s kind W es (g W c) hp hs hc d).mono ?_
   rintro e i ⟨rfl, f⟩
   rw [h]
   exact ⟨f, rfl⟩
 ·refine ⟨fun x h W c => ?_, fun a b h W c => ?_⟩
  ·refine (Qg6 s kind W es ef (g W c) (j W c) hp hs hc d h63).mono ?_
   rintro e i ⟨rfl, f⟩
   rw [h]
   cases x with
   | false => exact ⟨f, rfl⟩
   | true => exact ⟨f, rfl⟩
  ·refine (Qg6 s kind W es ef (g W c) (j W c) hp hs hc d h63).mono ?_
   rintro e i ⟨rfl, f⟩
   rw [h]
   exact ⟨f, rfl⟩
def HeadAt (f : FuncId) (s : ByteArray) (w : World) (es ef : Value) (r : Except Nat (Bool × Nat × Nat)) : Prop :=
 (∀ x, r = .error x -> ∃ l ev, (x = 2 /\ ev = es \/ x = 3 /\ ev = ef) /\ ∀ W, Below w.heap.size w W -> Calls Tryz.prog f #[.string s] W fun e w' => Below W.heap.size W w' /\ e = .returned (.tuple #[headV l 0 0, ev])) /\
  ∀ l a b, r = .ok (l, a, b) -> ∀ W, Below w.heap.size w W -> Calls Tryz.prog f #[.string s] W fun e w' => Below W.heap.size W w' /\ e = .returned (.tuple #[headV l a b, .nilIface])
theorem HeadAt.err {f : FuncId} {s : ByteArray} {es ef : Value} {x : Nat} (h : ∃ l ev, (x = 2 /\ ev = es \/ x = 3 /\ ev = ef) /\ ∀ W, Below w.heap.size w W -> Calls Tryz.prog f #[.string s] W fun e w' => Below W.heap.size W w' /\ e = .returned (.tuple #[headV l 0 0, ev])) : HeadAt f s w es ef (.error x) :=
 ⟨fun y hy => by cases hy; exact h, fun _ _ _ hy => by cases hy⟩
theorem HeadAt.ok {f : FuncId} {s : ByteArray} {w : World} {es ef : Value} {l : Bool} {a b : Nat} (h : ∀ W, Below w.heap.size w W -> Calls Tryz.prog f #[.string s] W fun e w' => Below W.heap.size W w' /\ e = .returned (.tuple #[headV l a b, .nilIface])) : HeadAt f s w es ef (.ok (l, a, b)) :=
 ⟨fun y hy => (by cases hy), fun _ _ _ hy => by cases hy; exact h⟩
theorem Qr0 {l : List Nat} (h0 : 0 < l.length) (h1 : 128 <= l[0]!) (h2 : l[0]! < 192) : headF l = (match lenF l 128 with
  | .error x => .error (if x then 3 else 2)
  | .ok (a, b) => if b = 1 /\ l[a]! < 128 then .error 3 else .ok (false, a, b)) := by
 unfold headF
 rw [if_neg (by omega), if_neg (by omega), if_pos h2]
 rcases lenF l 128 with x | ⟨a, b⟩ <;> rfl
theorem Qr1 {l : List Nat} (h0 : 0 < l.length) (h2 : ¬ l[0]! < 192) : headF l = (match lenF l 192 with
  | .error x => .error (if x then 3 else 2)
  | .ok (a, b) => .ok (true, a, b)) := by
 unfold headF
 rw [if_neg (by omega), if_neg (by omega), if_neg h2]
 rcases lenF l 192 with x | ⟨a, b⟩ <;> rfl
theorem Qoi (s : ByteArray) (w : World) (te : TypeId) (ps pf : Value) (hes : faultAt w 1 (.iface te ps)) (hef : faultAt w 15 (.iface te pf)) (hgs : 1 < w.heap.size) (hgf : 15 < w.heap.size) (hp : 0 < s.size) (hs : s.size <= 1048576) (hc : 128 <= (bytesOf s)[0]!) (h63 : (bytesOf s)[0]! < 192) :
  HeadAt 123 s w (.iface te ps) (.iface te pf) (headF (bytesOf s)) := by
 have j := bytesOf_length s
 have e := Qmm s 128 w _ _ hes hef hgs hgf hp hs hc (by omega)
 rw [Qr0 (by omega) hc h63]
 cases hl : lenF (bytesOf s) 128 with
 | error x =>
  have e := e.1 x hl
  cases x with
  | false => exact .err ⟨false, _, .inl ⟨rfl, rfl⟩, fun W c => Qpn s W te ps (fun d h => e d (Below.behind c h))⟩
  | true => exact .err ⟨false, _, .inr ⟨rfl, rfl⟩, fun W c => Qpn s W te pf (fun d h => e d (Below.behind c h))⟩
 | ok p =>
  obtain ⟨a, b⟩ := p
  have e := e.2 a b hl
  simp only
  obtain ⟨_, l, _, _⟩ := Qob (Qhu s) (by omega) hc (by omega) hl
  by_cases i : b = 1
  ·subst i
   have f : a < s.size := by omega
   have k := Qb3 s a f
   by_cases g : (s[a]'f).toNat < 128
   ·rw [if_pos ⟨rfl, by omega⟩]
    exact .err ⟨false, _, .inr ⟨rfl, rfl⟩, fun W c => Qu4 s W a _ _ ((c.cell hgf).trans hef) (Nat.lt_of_lt_of_le hgf c.size) (fun d h => e d (Below.behind c h)) f rfl (Int.ofNat_lt.2 g)⟩
   ·rw [if_neg (fun h => g (by omega))]
    exact .ok fun W c => Qww s W a _ (fun d h => e d (Below.behind c h)) f rfl (Int.ofNat_le.2 (Nat.le_of_not_lt g))
  ·rw [if_neg (fun h => i h.1)]
   exact .ok fun W c => Qyr s W a b (fun d h => e d (Below.behind c h)) (by simp; omega)
theorem Qmn (o : Obj) {g : Nat} {v : Value} (h : w.cell? ⟨g, 0, none⟩ = some v) (hg : g < w.heap.size) : (w.alloc o).cell? ⟨g, 0, none⟩ = some v :=
 (World.cell?_alloc_past _ _ _ hg).trans h
theorem Qr2 (w : World) (s : ByteArray) (hs : s.toList.isEmpty = true) (es : Value) (hg : w.cell? ⟨1, 0, none⟩ = some es) (hgl : 1 < w.heap.size) :
  Calls Tryz.prog 116 #[.string s] w fun e w' => Below w.heap.size w w' /\ e = .returned (.tuple #[headV false 0 0, es]) := by
 have a := fun o => Qmn o hg hgl
 go_enter Tryz.func116, Tryz.ntmps116
 go_wp2
 go_region
 go_wp2
 refine bodyPost_ret (v := .tuple #[headV false 0 0, es]) (by simp [results, Tryz.results116, go_sem]) rfl ⟨?_, rfl⟩
 exact ((Below.refl _ _).alloc (Nat.le_refl _) _).drew
theorem Qu5 (w : World) (s : ByteArray) (hs : s.toList.isEmpty = false) (hp : 0 < s.size) (c : Nat) (hc : (s[0]'hp).toNat = c) (h : (c : Int) < 128) :
  Calls Tryz.prog 116 #[.string s] w fun e w' => Below w.heap.size w w' /\ e = .returned (.tuple #[headV false 0 1, .nilIface]) := by
 go_enter Tryz.func116, Tryz.ntmps116
 go_wp2
 refine bodyPost_ret (v := .tuple #[headV false 0 1, .nilIface]) (by simp [results, Tryz.results116, go_sem]) rfl ⟨?_, rfl⟩
 exact (Below.refl _ _).alloc (Nat.le_refl _) _
theorem Qmo (w : World) (s : ByteArray) (hs : s.toList.isEmpty = false) (hp : 0 < s.size) (c : Nat) (hc : (s[0]'hp).toNat = c) (h : (128 : Int) <= (c : Int)) (h2 : (c : Int) < 192) (l : Bool) (a b : Nat) (ev : Value) (hN : ∀ W, Below w.heap.size w W -> Calls Tryz.prog 123 #[.string s] W fun e w' => Below W.heap.size W w' /\ e = .returned (.tuple #[headV l a b, ev])) :
  Calls Tryz.prog 116 #[.string s] w fun e w' => Below w.heap.size w w' /\ e = .returned (.tuple #[headV l a b, ev]) := by
 have g : Hid (∀ W, Below w.heap.size w W -> Calls Tryz.prog 123 #[.string s] W fun e w' => Below W.heap.size W w' /\ e = .returned (.tuple #[headV l a b, ev])) := hN
 clear hN
 go_enter Tryz.func116, Tryz.ntmps116
 go_wp2_with fail
 refine (g.out _ ((Below.refl _ _).alloc (Nat.le_refl _) _)).mono ?_
 rintro e m ⟨d, rfl⟩
 obtain ⟨i, n⟩ := Qac d 0 (v := .bool false) rfl
 obtain ⟨j, o⟩ := Qac d 1 (v := .int .i64 0) rfl
 obtain ⟨k, p⟩ := Qac d 2 (v := .int .i64 0) rfl
 have f : Aside (Below w.heap.size w m) := ((Below.refl w.heap.size w).alloc (Nat.le_refl _) _).trans (d.mono (by simp))
 clear d
 go_wp2
 refine bodyPost_ret (v := .tuple #[headV l a b, ev]) (by simp [results, Tryz.results116, go_sem, i, j, k]) rfl ⟨?_, rfl⟩
 exact (((f.out.setCell (Nat.le_refl _) _).setCell (Nat.le_refl _) _).setCell (Nat.le_refl _) _)
theorem Qhv (w : World) (s : ByteArray) (hs : s.toList.isEmpty = false) (hp : 0 < s.size) (c : Nat) (hc : (s[0]'hp).toNat = c) (h2 : (192 : Int) <= (c : Int)) (a b : Nat) (ev : Value) (hN : ∀ W, Below w.heap.size w W -> Calls Tryz.prog 124 #[.string s, .int .u8 192] W fun e w' => Below W.heap.size W w' /\ e = .returned (.tuple #[.int .i64 (a : Int), .int .i64 (b : Int), ev])) :
  Calls Tryz.prog 116 #[.string s] w fun e w' => Below w.heap.size w w' /\ e = .returned (.tuple #[headV true a b, ev]) := by
 have g : Hid (∀ W, Below w.heap.size w W -> Calls Tryz.prog 124 #[.string s, .int .u8 192] W fun e w' => Below W.heap.size W w' /\ e = .returned (.tuple #[.int .i64 (a : Int), .int .i64 (b : Int), ev])) := hN
 clear hN
 have o : (128 : Int) <= (c : Int) := by omega
 go_enter Tryz.func116, Tryz.ntmps116
 go_wp2_with fail
 refine (g.out _ ((Below.refl _ _).alloc (Nat.le_refl _) _)).mono ?_
 rintro e k ⟨d, rfl⟩
 obtain ⟨h, l⟩ := Qac d 0 (v := .bool false) rfl
 obtain ⟨i, m⟩ := Qac d 1 (v := .int .i64 0) rfl
 obtain ⟨j, n⟩ := Qac d 2 (v := .int .i64 0) rfl
 have f : Aside (Below w.heap.size w k) := ((Below.refl w.heap.size w).alloc (Nat.le_refl _) _).trans (d.mono (by simp))
 clear d
 go_wp2
 refine bodyPost_ret (v := .tuple #[headV true a b, ev]) (by simp [results, Tryz.results116, go_sem, h, i, j]) rfl ⟨?_, rfl⟩
 exact (((f.out.setCell (Nat.le_refl _) _).setCell (Nat.le_refl _) _).setCell (Nat.le_refl _) _)
theorem Qhw (s : ByteArray) (w : World) (te : TypeId) (ps pf : Value) (hes : faultAt w 1 (.iface te ps)) (hef : faultAt w 15 (.iface te pf)) (hgs : 1 < w.heap.size) (hgf : 15 < w.heap.size) (hs : s.size <= 1048576) :
  HeadAt 116 s w (.iface te ps) (.iface te pf) (headF (bytesOf s)) := by
 have r := bytesOf_length s
 by_cases c : 0 < s.size
 ·have q : (bytesOf s)[0]! < 256 := by
   rw [getElem!_pos _ 0 (by omega)]
   exact Qhu s _ (List.getElem_mem _)
  have t := Qb3 s 0 c
  by_cases k : (s[0]'c).toNat < 128
  ·have e : headF (bytesOf s) = .ok (false, 0, 1) := by
    unfold headF
    rw [if_neg (by omega), if_pos (by omega)]
   rw [e]
   exact .ok fun W _ => Qu5 W s (Qas s c) c _ rfl (Int.ofNat_lt.2 k)
  ·by_cases i : (s[0]'c).toNat < 192
   ·have j := Qoi s w te ps pf hes hef hgs hgf c hs (by omega) (by omega)
    cases hh : headF (bytesOf s) with
    | error x =>
     obtain ⟨l, m, n, g⟩ := j.1 x hh
     exact .err ⟨l, m, n, fun W d => Qmo W s (Qas s c) c _ rfl (Int.ofNat_le.2 (Nat.le_of_not_lt k)) (Int.ofNat_lt.2 i) l 0 0 m (fun f h => g f (Below.behind d h))⟩
    | ok p =>
     obtain ⟨l, a, b⟩ := p
     have j := j.2 l a b hh
     exact .ok fun W d => Qmo W s (Qas s c) c _ rfl (Int.ofNat_le.2 (Nat.le_of_not_lt k)) (Int.ofNat_lt.2 i) l a b _ (fun f h => j f (Below.behind d h))
   ·have g := Qmm s 192 w _ _ hes hef hgs hgf c hs (by omega) (by omega)
    rw [Qr1 (by omega) (by omega)]
    cases hl : lenF (bytesOf s) 192 with
    | error x =>
     have g := g.1 x hl
     cases x with
     | false => exact .err ⟨true, _, .inl ⟨rfl, rfl⟩, fun W d => Qhv W s (Qas s c) c _ rfl (Int.ofNat_le.2 (Nat.le_of_not_lt i)) 0 0 _ (fun f h => g f (Below.behind d h))⟩
     | true => exact .err ⟨true, _, .inr ⟨rfl, rfl⟩, fun W d => Qhv W s (Qas s c) c _ rfl (Int.ofNat_le.2 (Nat.le_of_not_lt i)) 0 0 _ (fun f h => g f (Below.behind d h))⟩
    | ok p =>
     obtain ⟨a, b⟩ := p
     have g := g.2 a b hl
     exact .ok fun W d => Qhv W s (Qas s c) c _ rfl (Int.ofNat_le.2 (Nat.le_of_not_lt i)) a b _ (fun f h => g f (Below.behind d h))
 ·have e : headF (bytesOf s) = .error 2 := by
   unfold headF
   rw [if_pos (by omega)]
  rw [e]
  have o : s.toList.isEmpty = true := by
   rw [Lib.toList_data]
   have : s.data.toList.length = s.size := by simp
   have e : s.data.toList = [] := List.eq_nil_of_length_eq_zero (by omega)
   rw [e]
   rfl
  exact .err ⟨false, _, .inl ⟨rfl, rfl⟩, fun W d => Qr2 W s o _ ((d.cell hgs).trans hes) (Nat.lt_of_lt_of_le hgs d.size)⟩
end Go.Proofs.YthbgepmpdphigaaGreatDoor
