/-
  Spoilt: two keys are built.
-/
import Derived.Test.YtakidhihbgfjlaaGreatDoorSxBvG
import Derived.Test.YtakidhihbgfjlaaGreatDoorSxCaG
import Derived.Test.YtakidhihbgfjlaaGreatDoorSxRtG
import Derived.Test.YtakidhihbgfjlaaGreatDoorSxPhG
import Derived.Test.YtakidhihbgfjlaaGreatDoorSxSaG
import Derived.Test.YtakidhihbgfjlaaGreatDoorSxOaG
import Derived.Test.YtakidhihbgfjlaaGreatDoorSxWcG
namespace Go.Proofs.YtakidhihbgfjlaaGreatDoor
open Go.RowKit
set_option maxRecDepth 100000
set_option maxHeartbeats 25600000
def one32 : Array Nat := #[1, 0, 0, 0, 0, 0, 0, 0, 0, 0, 0, 0, 0, 0, 0, 0, 0, 0, 0, 0, 0, 0, 0, 0, 0, 0, 0, 0, 0, 0, 0, 0]
theorem Qyl : one32.size = 32 /\ Bytes one32 := by
 refine ⟨rfl, fun j => ?_⟩
 by_cases a : j < 32
 ·have h : ∀ j : Fin 32, one32[j.1]! < 256 := by decide
  exact h ⟨j, a⟩
 ·rw [getElem!_neg one32 j (by show ¬ j < 32; exact a)]
  decide
theorem Qvl (w : World) : (Instr.build 42 #[(0, .int .u8 1)]).run Tryz.prog w = .ok (.agg (one32.toList.map encB).toArray) w :=
 run_build (P := Tryz.prog) w 42 #[(0, .int .u8 1)] _ (by kernel_rfl)
theorem Qs2 (w : World) : (Instr.build 42 #[]).run Tryz.prog w = .ok (.agg (zero32.toList.map encB).toArray) w :=
 run_build (P := Tryz.prog) w 42 #[] _ (by kernel_rfl)
theorem Qip (w : World) (cs ds : Array Value) (h : cs.size = 32) (h' : ds.size = 32) : (Instr.buildSlice 22 2 #[(0, .agg cs), (1, .agg ds)]).run Tryz.prog w = .ok (.slice (some ⟨w.heap.size, 0, none⟩) 2 2) (w.alloc (.cells (cs.toList ++ ds.toList).toArray 42)) := by
 obtain ⟨i, b, c, a, d⟩ := info_parts keyZ
 refine run_buildSlice w _ 42 2 _ (cs.toList ++ ds.toList).toArray i (.agg (zero32.map encB)) Tryz.underlying22 b c (by rw [a]; decide) (by rw [a]; decide) ?_
 rw [a]
 have := Great.fill_whole (s := 32) (by decide) [.agg cs, .agg ds] ((Array.range (2 * 32)).map ((Value.agg (zero32.map encB)).cells[· % (Value.agg (zero32.map encB)).cells.size]!)) (by simp [Value.cells, h, h']) (by simp)
 simpa [Value.cells] using this
theorem Qjc (dst : Option Tmp) (x y : Operand) (type : TypeId) (pos : String) (af : Array Edge) (gd : Option (Nat × Bool)) (a : Act) (w : World) (K : Act -> World -> Prop) (Q : Exit -> Act -> World -> Prop)
  (hx : a.eval x = .agg (a.eval x).cells) (hs : (a.eval x).cells.size = 32) (hy : a.eval y = .agg (a.eval y).cells) (hs' : (a.eval y).cells.size = 32) :
  Oper.wp Tryz.prog { dst := dst, op := .buildSlice 22 2 #[(0, x), (1, y)], type := type, pos := pos, after := af, guard := gd } a w K Q = K (a.put dst (.slice (some ⟨w.heap.size, 0, none⟩) 2 2)) (w.alloc (.cells ((a.eval x).cells.toList ++ (a.eval y).cells.toList).toArray 42)) := by
 generalize (a.eval x).cells = cs at hx hs ⊢
 generalize (a.eval y).cells = ds at hy hs' ⊢
 have h := Qip w cs ds hs hs'
 unfold Oper.wp execOp
 simp only [List.map_toArray, List.map_cons, List.map_nil, hx, hy, Sem.run_bind, h, Result.andThen_ok]
 rfl
theorem Qnw (pv : Option Addr) (n cv m : Nat) (h1 : m <= n) (w : World) : (Instr.sliceAt 22 (.slice pv n cv) (some (.int .i64 (m : Int))) none none).run Tryz.prog w = .ok (.slice (if cv = m then pv else pv.map (·.add (m * 32))) (n - m) (cv - m)) w := by
 have a : (sizeOf 42).run Tryz.prog w = .ok 32 w := by kernel_rfl
 simp [Instr.sliceAt, Instr.slice, Instr.sliceBounds, Instr.sliceBound, asIntOf, run_underlying Tryz.underlying22, go_sem, h1, a]
theorem Qlx (w : World) (a b c d e f g h i j : ByteArray) : (Instr.buildSlice 23 10 #[(0, .string a), (1, .string b), (2, .string c), (3, .string d), (4, .string e), (5, .string f), (6, .string g), (7, .string h), (8, .string i), (9, .string j)]).run Tryz.prog w = .ok (.slice (some ⟨w.heap.size, 0, none⟩) 10 10) (w.alloc (.cells ([a, b, c, d, e, f, g, h, i, j].map Value.string).toArray 9)) := by
 obtain ⟨n, l, m, k, o⟩ := info_parts strZ
 refine run_buildSlice w _ 9 10 _ ([a, b, c, d, e, f, g, h, i, j].map Value.string).toArray n (.string ⟨#[]⟩) Tryz.underlying23 l m (by rw [k]; decide) (by rw [k]; decide) ?_
 rw [k]
 have := Great.fill_whole (s := 1) (by decide) [.string a, .string b, .string c, .string d, .string e, .string f, .string g, .string h, .string i, .string j] ((Array.range (10 * 1)).map ((Value.string ⟨#[]⟩).cells[· % (Value.string ⟨#[]⟩).cells.size]!)) (by simp [Value.cells]) (by simp)
 simpa [Value.cells] using this
theorem Qjd (w : World) {o : Oper} {a : Act} {K : Act -> World -> Prop} {Q : Exit -> Act -> World -> Prop} (x0 x1 x2 x3 x4 x5 x6 x7 x8 x9 : Operand) (ho : o.op = .buildSlice 23 10 #[(0, x0), (1, x1), (2, x2), (3, x3), (4, x4), (5, x5), (6, x6), (7, x7), (8, x8), (9, x9)]) (s0 s1 s2 s3 s4 s5 s6 s7 s8 s9 : ByteArray) (h0 : a.eval x0 = .string s0) (h1 : a.eval x1 = .string s1) (h2 : a.eval x2 = .string s2) (h3 : a.eval x3 = .string s3) (h4 : a.eval x4 = .string s4) (h5 : a.eval x5 = .string s5) (h6 : a.eval x6 = .string s6) (h7 : a.eval x7 = .string s7) (h8 : a.eval x8 = .string s8) (h9 : a.eval x9 = .string s9) (hK : K (a.put o.dst (.slice (some ⟨w.heap.size, 0, none⟩) 10 10)) (w.alloc (.cells ([s0, s1, s2, s3, s4, s5, s6, s7, s8, s9].map Value.string).toArray 9))) : Oper.wp Tryz.prog o a w K Q := by
 have h := Qlx w s0 s1 s2 s3 s4 s5 s6 s7 s8 s9
 unfold Oper.wp
 simp only [execOp, ho, List.map_toArray, List.map_cons, List.map_nil, h0, h1, h2, h3, h4, h5, h6, h7, h8, h9, Sem.run_bind, h, Result.andThen_ok]
 exact hK
structure SpL (P : World -> Prop) (F : Nat -> Prop) (cs : List Value) (b27 : Bool) (v27 : Value) (b28 : Bool) (v28 : Value) (W : World) : Prop where
 all : P W
 row : b27 = true -> ∃ gg, v27 = .slice (some ⟨gg, 0, none⟩) 10 10 /\ F gg /\ gg < W.heap.size /\ W.rangeAt gg 0 cs
 same : b28 = true -> v28 = v27
 dep : b28 = true -> b27 = true
variable {P : World -> Prop} {F : Nat -> Prop} {J : Wood} {B : Nat} {cs : List Value} {b27 b28 : Bool} {v27 v28 : Value} {W : World}
theorem SpL.fr {W' : World} (h : SpL P F cs b27 v27 b28 v28 W) (hP : P W -> P W') (hF : ∀ k, F k -> J k = none) (hf : Fr B J J W W') : SpL P F cs b27 v27 b28 v28 W' :=
 ⟨hP h.all, fun q => by
  obtain ⟨gg, g1, g2, g3, g4⟩ := h.row q
  exact ⟨gg, g1, g2, Nat.lt_of_lt_of_le g3 hf.size, Qa4 g4 (hf.other gg g3 (hF gg g2))⟩, h.same, h.dep⟩
theorem SpL.lay (h : SpL P F cs b27 v27 b28 v28 W) (e : b27 = false) (hP : ∀ W', P W -> Below W.heap.size W W' -> P W') (hJ : P W -> F W.heap.size) : SpL P F cs true (.slice (some ⟨W.heap.size, 0, none⟩) 10 10) b28 v28 (W.alloc (.cells cs.toArray 9)) := by
 have a : b28 = false := by
  cases hd : b28 with
  | false => rfl
  | true => rw [h.dep hd] at e; cases e
 exact ⟨hP _ h.all ((Below.refl _ _).alloc (Nat.le_refl _) _), fun _ => ⟨_, rfl, hJ h.all, by simp, Qap W cs 9⟩, fun q => (by rw [a] at q; cases q), fun _ => rfl⟩
theorem SpL.asg {x : Value} (h : SpL P F cs b27 v27 b28 v28 W) (e : b27 = true) (hx : v27 = x) : SpL P F cs b27 v27 true x W := ⟨h.all, h.row, fun _ => hx.symm, fun _ => e⟩
structure SpO (ι : Type) where
 pt : ι -> Value
 y0 : ι -> Value
 y1 : ι -> Value
 y2 : ι -> Value
 y3 : ι -> Value
abbrev SpO.fv {ι : Type} (o : SpO ι) (i : ι) : Value := .agg #[o.y0 i, o.y1 i, o.y2 i, o.y3 i]
abbrev SpO.ov {ι : Type} (o : SpO ι) (i : ι) : Value := .tuple #[o.pt i, o.fv i]
structure SpX {ι : Type} (o : SpO ι) (P1 : World -> Prop) (F1 : Nat -> Prop) (P2 : ι -> World -> Prop) (F2 : ι -> Nat -> Prop) (d1 d6 d7 d8 d9 d10 d11 d12 : Bool) (v6 v7 v8 v9 v10 v11 : Value) (W : World) : Prop where
 o6 : d6 = true -> d1 = true
 o7 : d7 = true -> d6 = true
 o8 : d8 = true -> d7 = true
 o9 : d9 = true -> d7 = true
 o11 : d11 = true -> d8 = true
 o12 : d12 = true -> d9 = true
 pre : d6 = false -> FtY P1 F1 zI zI zI zI false undef d10 v10 d12 W
 post : d6 = true -> ∃ i, v6 = o.ov i /\ (d7 = true -> v7 = o.ov i) /\ (d8 = true -> v8 = o.pt i) /\ (d9 = true -> v9 = o.fv i) /\ (d11 = true -> v11 = o.pt i) /\ FtY (P2 i) (F2 i) (o.y0 i) (o.y1 i) (o.y2 i) (o.y3 i) false undef d10 v10 d12 W
section
variable {ι : Type} {o : SpO ι} {P1 : World -> Prop} {F1 : Nat -> Prop} {P2 : ι -> World -> Prop} {F2 : ι -> Nat -> Prop} {d1 d6 d7 d8 d9 d10 d11 d12 : Bool} {v6 v7 v8 v9 v10 v11 : Value} {W W' : World} {B : Nat} {J : Wood}
theorem SpX.any {Q : World -> Prop} (h : SpX o P1 F1 P2 F2 d1 d6 d7 d8 d9 d10 d11 d12 v6 v7 v8 v9 v10 v11 W) (h1 : ∀ W, P1 W -> Q W) (h2 : ∀ i W, P2 i W -> Q W) : Q W := by
 cases hd : d6 with
 | false => exact h1 _ (h.pre hd).all
 | true =>
  obtain ⟨i, -, -, -, -, -, a⟩ := h.post hd
  exact h2 _ _ a.all
theorem SpX.start (h : P1 W) (e1 : d1 = false) (e6 : d6 = false) (e7 : d7 = false) (e8 : d8 = false) (e9 : d9 = false) (e10 : d10 = false) (e11 : d11 = false) (e12 : d12 = false) : SpX o P1 F1 P2 F2 d1 d6 d7 d8 d9 d10 d11 d12 v6 v7 v8 v9 v10 v11 W := by
 subst e1 e6 e7 e8 e9 e10 e11 e12
 exact ⟨fun q => (by cases q), fun q => (by cases q), fun q => (by cases q), fun q => (by cases q), fun q => (by cases q), fun q => (by cases q), fun _ => FtY.start h rfl rfl rfl, fun q => (by cases q)⟩
theorem SpX.no6 (h : SpX o P1 F1 P2 F2 d1 d6 d7 d8 d9 d10 d11 d12 v6 v7 v8 v9 v10 v11 W) (e : d1 = false) : d6 = false := by
 cases hd : d6 with
 | false => rfl
 | true => rw [h.o6 hd] at e; cases e
theorem SpX.no12 (h : SpX o P1 F1 P2 F2 d1 d6 d7 d8 d9 d10 d11 d12 v6 v7 v8 v9 v10 v11 W) (e : d6 = false) : d7 = false /\ d8 = false /\ d9 = false /\ d11 = false /\ d12 = false := by
 have a : d7 = false := by
  cases hd : d7 with
  | false => rfl
  | true => rw [h.o7 hd] at e; cases e
 have b : d8 = false := by
  cases hd : d8 with
  | false => rfl
  | true => rw [h.o8 hd] at a; cases a
 have c : d9 = false := by
  cases hd : d9 with
  | false => rfl
  | true => rw [h.o9 hd] at a; cases a
 refine ⟨a, b, c, ?_, ?_⟩
 ·cases hd : d11 with
  | false => rfl
  | true => rw [h.o11 hd] at b; cases b
 ·cases hd : d12 with
  | false => rfl
  | true => rw [h.o12 hd] at c; cases c
theorem SpX.fr1 (k : StKit P1 F1 B J) (h : SpX o P1 F1 P2 F2 d1 d6 d7 d8 d9 d10 d11 d12 v6 v7 v8 v9 v10 v11 W) (e : d1 = false) (hf : Fr B J J W W') : SpX o P1 F1 P2 F2 true d6 d7 d8 d9 d10 d11 d12 v6 v7 v8 v9 v10 v11 W' := by
 have a := h.no6 e
 exact ⟨fun _ => rfl, h.o7, h.o8, h.o9, h.o11, h.o12, fun _ => (h.pre a).fr k hf, fun q => (by rw [a] at q; cases q)⟩
theorem SpX.open6 {i : ι} (h : SpX o P1 F1 P2 F2 d1 d6 d7 d8 d9 d10 d11 d12 v6 v7 v8 v9 v10 v11 W) (e : d6 = false) (e1 : d1 = true) (hb : Below W.heap.size W W') (hp : P2 i W') (hF : ∀ k, F1 k -> k < W.heap.size -> F2 i k) : SpX o P1 F1 P2 F2 d1 true d7 d8 d9 d10 d11 d12 (o.ov i) v7 v8 v9 v10 v11 W' := by
 obtain ⟨j, l, m, a, b⟩ := h.no12 e
 have d := h.pre e
 refine ⟨fun _ => e1, fun _ => rfl, h.o8, h.o9, h.o11, h.o12, fun q => (by cases q), fun _ => ⟨i, rfl, fun q => (by rw [j] at q; cases q), fun q => (by rw [l] at q; cases q), fun q => (by rw [m] at q; cases q), fun q => (by rw [a] at q; cases q), hp, fun q => (by cases q), fun q => ?_, d.ft14⟩⟩
 obtain ⟨f, r, s, t, u, n, p, g, v⟩ := d.ft q
 have c := (Array.getElem?_eq_some_iff.1 g).1
 exact ⟨f, r, s, t, u, n, hF f p c, (hb.block f c).trans g, fun q => (by rw [b] at q; cases q)⟩
theorem SpX.s7 (h : SpX o P1 F1 P2 F2 d1 d6 d7 d8 d9 d10 d11 d12 v6 v7 v8 v9 v10 v11 W) (e : d6 = true) : ∃ i, v6 = o.ov i /\ SpX o P1 F1 P2 F2 d1 d6 true d8 d9 d10 d11 d12 v6 (o.ov i) v8 v9 v10 v11 W := by
 obtain ⟨i, a, g, b, c, d, f⟩ := h.post e
 exact ⟨i, a, h.o6, fun _ => e, fun _ => rfl, fun _ => rfl, h.o11, h.o12, h.pre, fun _ => ⟨i, a, fun _ => rfl, b, c, d, f⟩⟩
theorem SpX.at7 (h : SpX o P1 F1 P2 F2 d1 d6 d7 d8 d9 d10 d11 d12 v6 v7 v8 v9 v10 v11 W) (e : d7 = true) : ∃ i, v7 = o.ov i /\ SpX o P1 F1 P2 F2 d1 d6 d7 true d9 d10 d11 d12 v6 v7 (o.pt i) v9 v10 v11 W := by
 obtain ⟨i, b, a, g, c, d, f⟩ := h.post (h.o7 e)
 exact ⟨i, a e, h.o6, h.o7, fun _ => e, h.o9, fun _ => rfl, h.o12, h.pre, fun _ => ⟨i, b, a, fun _ => rfl, c, d, f⟩⟩
theorem SpX.at9 (h : SpX o P1 F1 P2 F2 d1 d6 d7 d8 d9 d10 d11 d12 v6 v7 v8 v9 v10 v11 W) (e : d7 = true) : ∃ i, v7 = o.ov i /\ SpX o P1 F1 P2 F2 d1 d6 d7 d8 true d10 d11 d12 v6 v7 v8 (o.fv i) v10 v11 W := by
 obtain ⟨i, b, a, c, g, d, f⟩ := h.post (h.o7 e)
 exact ⟨i, a e, h.o6, h.o7, h.o8, fun _ => e, h.o11, fun _ => rfl, h.pre, fun _ => ⟨i, b, a, c, fun _ => rfl, d, f⟩⟩
theorem SpX.at8 (h : SpX o P1 F1 P2 F2 d1 d6 d7 d8 d9 d10 d11 d12 v6 v7 v8 v9 v10 v11 W) (e : d8 = true) : ∃ i, v8 = o.pt i /\ SpX o P1 F1 P2 F2 d1 d6 d7 d8 d9 d10 true d12 v6 v7 v8 v9 v10 (o.pt i) W := by
 obtain ⟨i, b, c, a, d, g, f⟩ := h.post (h.o7 (h.o8 e))
 exact ⟨i, a e, h.o6, h.o7, h.o8, h.o9, fun _ => e, h.o12, h.pre, fun _ => ⟨i, b, c, a, d, fun _ => rfl, f⟩⟩
theorem SpX.no10 (h : SpX o P1 F1 P2 F2 d1 d6 d7 d8 d9 d10 d11 d12 v6 v7 v8 v9 v10 v11 W) (e : d10 = false) : d12 = false := by
 cases hd : d12 with
 | false => rfl
 | true =>
  obtain ⟨i, -, -, -, -, -, a⟩ := h.post (h.o7 (h.o9 (h.o12 hd)))
  rw [a.ft14 hd] at e
  cases e
theorem SpX.alloc (k1 : StKit P1 F1 B J) {JJ : ι -> Wood} (k2 : ∀ i, StKit (P2 i) (F2 i) B (JJ i)) (h : SpX o P1 F1 P2 F2 d1 d6 d7 d8 d9 d10 d11 d12 v6 v7 v8 v9 v10 v11 W) (h12 : d12 = false) : SpX o P1 F1 P2 F2 d1 d6 d7 d8 d9 true d11 d12 v6 v7 v8 v9 (.pointer (some ⟨W.heap.size, 0, none⟩)) v11 (W.alloc (.cells #[.int .i64 0, .int .i64 0, .int .i64 0, .int .i64 0] 33)) := by
 refine ⟨h.o6, h.o7, h.o8, h.o9, h.o11, h.o12, fun q => (h.pre q).alloc k1 h12, fun q => ?_⟩
 obtain ⟨i, a, b, c, d, e, f⟩ := h.post q
 exact ⟨i, a, b, c, d, e, f.alloc (k2 i) h12⟩
theorem SpX.put {JJ : ι -> Wood} (k2 : ∀ i, StKit (P2 i) (F2 i) B (JJ i)) (h : SpX o P1 F1 P2 F2 d1 d6 d7 d8 d9 d10 d11 d12 v6 v7 v8 v9 v10 v11 W) (e9 : d9 = true) (e10 : d10 = true) : ∃ i f, v9 = o.fv i /\ v10 = .pointer (some ⟨f, 0, none⟩) /\ (∃ x0 x1 x2 x3, W.heap[f]? = some (.cells #[x0, x1, x2, x3] 33 (0, 0))) /\ P2 i W /\ SpX o P1 F1 P2 F2 d1 d6 d7 d8 d9 d10 d11 true v6 v7 v8 v9 v10 v11 ((((W.setCell ⟨f, 0, none⟩ (o.y0 i)).setCell ⟨f, 1, none⟩ (o.y1 i)).setCell ⟨f, 2, none⟩ (o.y2 i)).setCell ⟨f, 3, none⟩ (o.y3 i)) := by
 have b := h.o7 (h.o9 e9)
 obtain ⟨i, e, g, j, c, k, a⟩ := h.post b
 obtain ⟨f, x0, x1, x2, x3, d, m, l, n⟩ := a.ft e10
 exact ⟨i, f, c e9, d, ⟨x0, x1, x2, x3, l⟩, a.all, h.o6, h.o7, h.o8, h.o9, h.o11, fun _ => e9, fun q => (by rw [b] at q; cases q), fun _ => ⟨i, e, g, j, c, k, a.put (k2 i) e10 d⟩⟩
end
theorem StKit.and_ (k : StKit P F B J) (p : Prop) : StKit (fun W => P W /\ p) F B J :=
 ⟨fun _ _ h hb => ⟨k.more _ _ h.1 hb, h.2⟩, fun _ _ h hf => ⟨k.fr _ _ h.1 hf, h.2⟩, fun _ _ _ h hF ho => ⟨k.set _ _ _ h.1 hF ho, h.2⟩, k.wood, fun _ _ h hk => k.fresh _ _ h.1 hk⟩
structure SpIx where
 bp : Nat
 a : Nd
 J : Wood
 er : Option Er
def SpIx.pt (i : SpIx) : Value := match i.er with
 | none => .pointer (some ⟨i.bp, 0, none⟩)
 | some _ => .pointer none
def erI (o : Option Er) (f : Er -> Nat) : Value := match o with
 | none => .int .i64 0
 | some e => .int .i64 (f e : Int)
def spO : SpO SpIx := ⟨SpIx.pt, fun i => erI i.er Er.num, fun i => erI i.er Er.proof, fun i => erI i.er Er.node, fun i => erI i.er Er.at_⟩
def SpIx.said (i : SpIx) (D : List Nat) (s : ByteArray) : Prop := match i.er with
 | none => openF D s = .ok i.a
 | some e => openF D s = .error e
theorem Qly (o : Option Er) (f : Er -> Nat) : (erI o f).oneCell' = true := by cases o <;> rfl
theorem QAy (i : SpIx) : (#[spO.y0 i, spO.y1 i, spO.y2 i, spO.y3 i] : Array Value).all (·.oneCell') = true := by
 have a := Qly i.er Er.num
 have b := Qly i.er Er.proof
 have c := Qly i.er Er.node
 have d := Qly i.er Er.at_
 simp [spO, a, b, c, d]
theorem Qvm {S : Wood} (sent : Nat -> Addr) {w : World} {t : Nd} {ps : List ByteArray} (hf : Forest B S w) (hc : t.can 64) (hl : (t.witness false ps).length <= 8000) (hF : Faults w sent) (hB : Bru w) (hT : Tabs w) (hM : 15 <= w.heap.size) (hTy : typeAt w) :
  Calls Tryz.prog 7 #[.agg (t.dig.map encB).toArray, .string (textB (t.witness false ps))] w fun e w' => ∃ b S', e = .returned (opV b) /\ TreeAt S' w' b (t.prs false ps) /\ w.heap.size <= b /\ FrX B (fun _ => False) S S' w w' /\ Below w.heap.size w w' := by
 have a := Qfm t 64 (by omega) hc
 refine (Qje sent _ hf hF hB hT hM hTy (t.dig_length (t.cs_ok a)) (t.dig_byte (t.cs_ok a))).mono ?_
 have c := Qno hc false ps hl
 rintro e w' (⟨⟨g, h, _⟩, _⟩ | ⟨q, b, d, h, rfl, f⟩)
 ·rw [c] at h; cases h
 ·rw [c] at h; cases h; exact ⟨b, d, rfl, f⟩
theorem Qym {w R : World} {U : Nat -> Prop} {bt bp : Nat} {t a : Nd} (sent : Nat -> Addr) (s : ByteArray) {D : List Nat} (h : TwS w R U B bt bp t a J W) (hwB : w.heap.size <= B) (hbt : bt ≠ bp) (hF : Faults W sent) (hB : Bru W) (hT : Tabs W) (hM : 15 <= W.heap.size) (hTy : typeAt W) (hD : D.length = 32) (hDb : ∀ x ∈ D, x < 256) :
  Calls Tryz.prog 7 #[.agg (D.map encB).toArray, .string s] W fun e w' => ∃ i : SpIx, e = .returned (spO.ov i) /\ Below W.heap.size W w' /\ (TwS w R U B bt i.bp t i.a i.J w' /\ bt ≠ i.bp /\ i.said D s) /\ ∀ k, TwF w U bt bp J k -> k < W.heap.size -> TwF w U bt i.bp i.J k := by
 refine (Qje sent s h.q.wood hF hB hT hM hTy hD hDb).mono ?_
 rintro e w' (⟨⟨n, g, rfl⟩, d⟩ | ⟨q, b, m, g, rfl, o, p, f, d⟩)
 ·exact ⟨⟨bp, a, J, some n⟩, rfl, d, ⟨h.more hwB d, hbt, g⟩, fun k c _ => c⟩
 ·have l := h.q.size
  have j := h.q.tree.lt
  refine ⟨⟨b, q, m, none⟩, rfl, d, ⟨⟨⟨h.q.below.behind' d, Nat.le_trans l d.size, fun k c => (d.block k (Nat.lt_of_lt_of_le (h.uj k c).1 l)).trans (h.q.keep k c), f.forest, h.q.tree.framex f (fun h => h)⟩, o, fun k c => ?_⟩, by show bt ≠ b; omega, g⟩, fun k c j => ?_⟩
  ·obtain ⟨u1, u2, u3, u4⟩ := h.uj k c
   exact ⟨u1, f.new k (by omega) u2, u3, by show k ≠ b; omega⟩
  ·exact ⟨⟨c.1.1, f.new k j c.1.2.1, c.1.2.2.1, c.1.2.2.2⟩, by show k ≠ b; omega⟩
end Go.Proofs.YtakidhihbgfjlaaGreatDoor
