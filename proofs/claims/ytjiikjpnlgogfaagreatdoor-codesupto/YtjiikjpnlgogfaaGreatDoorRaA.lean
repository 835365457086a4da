/-
  Package twigsref: DecodeAccount: its two results, stored in whatever order.
  Package twigsref: DecodeAccount: where there is no item, or none of four.
  Package twigsref: DecodeAccount: an item that is no list of four.
  Package twigsref: DecodeAccount: a list of four.
-/
import Derived.Test.YtjiikjpnlgogfaaGreatDoorRefHash
import Derived.Test.YtjiikjpnlgogfaaGreatDoorRdC
import Derived.Test.YtjiikjpnlgogfaaGreatDoorSteady2
import Derived.Test.YtjiikjpnlgogfaaGreatDoorAccT
import Derived.Deep.DeepCutAuto
namespace Go.Proofs.YtjiikjpnlgogfaaGreatDoor
open Go.RowKit

/-- The two results' blocks, and which are written; all else as it was. -/
structure SE (w2 : World) (r0 r1 : Nat) (L M : List Value) (b2 b3 : Bool) (W : World) : Prop where
  os : W.os = w2.os
  tape : W.tape = w2.tape
  output : W.output = w2.output
  size : W.heap.size = w2.heap.size
  block : ∀ k, k ≠ r0 → k ≠ r1 → W.heap[k]? = w2.heap[k]?
  t0 : W.there r0 0 L.length
  t1 : W.there r1 0 M.length
  d0 : b2 = true → W.rangeAt r0 0 L
  d1 : b3 = true → W.rangeAt r1 0 M

theorem SE.start {w2 : World} {r0 r1 : Nat} {L M : List Value} (h0 : w2.there r0 0 L.length) (h1 : w2.there r1 0 M.length) : SE w2 r0 r1 L M false false w2 :=
  ⟨rfl, rfl, rfl, rfl, fun _ _ _ => rfl, h0, h1, (fun h => by cases h), (fun h => by cases h)⟩
theorem SE.drew {w2 : World} {r0 r1 : Nat} {L M : List Value} {b2 b3 : Bool} {W : World} (h : SE w2 r0 r1 L M b2 b3 W) : SE w2 r0 r1 L M b2 b3 W.drew :=
  ⟨h.os, h.tape, h.output, h.size, h.block, h.t0, h.t1, h.d0, h.d1⟩
theorem range_other {W : World} {r b : Nat} {L M : List Value} (h : W.rangeAt r 0 L) (hne : r ≠ b) : (W.setCells b 0 M).rangeAt r 0 L := fun j u hu => (World.cell?_of_block (heap_setCells _ _ _ _ _ hne)).trans (h j u hu)
theorem SE.store0 {w2 : World} {r0 r1 : Nat} {L M : List Value} {b2 b3 : Bool} {W : World} (h : SE w2 r0 r1 L M b2 b3 W) (hne : r0 ≠ r1) : SE w2 r0 r1 L M true b3 (W.setCells r0 0 L) := by
  obtain ⟨q1, q2, q3, q4⟩ := size_setCells r0 L 0 W
  exact ⟨q2.trans h.os, q3.trans h.tape, q4.trans h.output, q1.trans h.size, fun k k0 k1 => (heap_setCells _ _ _ _ _ k0).trans (h.block k k0 k1), World.there_setCells h.t0 _ _ _, World.there_setCells h.t1 _ _ _, fun _ => World.rangeAt_setCells_same _ _ _ _ h.t0, fun e => range_other (h.d1 e) (fun e => hne e.symm)⟩
theorem SE.store1 {w2 : World} {r0 r1 : Nat} {L M : List Value} {b2 b3 : Bool} {W : World} (h : SE w2 r0 r1 L M b2 b3 W) (hne : r0 ≠ r1) : SE w2 r0 r1 L M b2 true (W.setCells r1 0 M) := by
  obtain ⟨q1, q2, q3, q4⟩ := size_setCells r1 M 0 W
  exact ⟨q2.trans h.os, q3.trans h.tape, q4.trans h.output, q1.trans h.size, fun k k0 k1 => (heap_setCells _ _ _ _ _ k1).trans (h.block k k0 k1), World.there_setCells h.t0 _ _ _, World.there_setCells h.t1 _ _ _, fun e => range_other (h.d0 e) hne, fun _ => World.rangeAt_setCells_same _ _ _ _ h.t1⟩
theorem SE.below {w w2 : World} {r0 r1 : Nat} {L M : List Value} {b2 b3 : Bool} {W : World} (h : SE w2 r0 r1 L M b2 b3 W) (hb : Below w.heap.size w w2) (h0 : w.heap.size ≤ r0) (h1 : w.heap.size ≤ r1) : Below w.heap.size w W :=
  ⟨h.os.trans hb.os, h.tape.trans hb.tape, h.output.trans hb.output, by rw [h.size]; exact hb.size, fun k hk => (h.block k (by omega) (by omega)).trans (hb.block k hk)⟩
theorem SE.range {w2 : World} {r0 r1 : Nat} {L M : List Value} {b2 b3 : Bool} {W : World} (h : SE w2 r0 r1 L M b2 b3 W) {b : Nat} {C : List Value} (hr : w2.rangeAt b 0 C) (h0 : b ≠ r0) (h1 : b ≠ r1) : W.rangeAt b 0 C := fun j u hu => (World.cell?_of_block (h.block b h0 h1)).trans (hr j u hu)

theorem faultSize : (Tryz.prog.info? 66).map (·.size) = some 4 := by kernel_rfl
abbrev faultL (e a : Nat) : List Value := [.int .i64 (e : Int), .int .i64 0, .int .i64 0, .int .i64 (a : Int)]
theorem faultL_one (e a : Nat) : (faultL e a).toArray.all (·.oneCell') = true := by
  rw [List.all_toArray, List.all_eq_true]
  intro u hu
  simp only [List.mem_cons, List.not_mem_nil, or_false] at hu
  rcases hu with rfl | rfl | rfl | rfl <;> rfl
theorem faultV_eq (e a : Nat) : faultV e 0 0 a = .agg (faultL e a).toArray := rfl

/-- Both stored: what the call gives. -/
theorem SE.result {w w2 : World} {r0 r1 : Nat} {L : List Value} {e a : Nat} {W : World} {tmps : Array Value} {fn : Func} {p q : Tmp} (h : SE w2 r0 r1 L (faultL e a) true true W) (hL : L.length = 66) (hb : Below w.heap.size w w2) (h0 : w.heap.size ≤ r0) (h1 : w.heap.size ≤ r1) (hf : fn.results = #[.cell p 85, .cell q 66]) (hp : tmps.getD p undef = .pointer (some ⟨r0, 0, none⟩)) (hq : tmps.getD q undef = .pointer (some ⟨r1, 0, none⟩)) :
    (results fn tmps).run Tryz.prog W = .ok (.tuple #[.agg L.toArray, faultV e 0 0 a]) W ∧ Below w.heap.size w W :=
  ⟨results_cells hf tmps _ _ r0 r1 hp hq (run_loadVar_mid _ _ _ 85 _ _ (h.d0 rfl) Tryz.underlying85 rfl (by rw [hL]; exact zeroA_size)) (run_loadVar_mid _ _ _ 66 _ _ (h.d1 rfl) Tryz.underlying66 rfl faultSize), h.below hb h0 h1⟩
end Go.Proofs.YtjiikjpnlgogfaaGreatDoor

namespace Go.Proofs.YtjiikjpnlgogfaaGreatDoor
open Go.RowKit

/-- Where DecodeAccount stands, its item read. -/
structure DA (w : World) (xb : Nat) (X : List Value) (er ea : Nat) (W : World) : Prop where
  below : Below w.heap.size w W
  r0 : W.there w.heap.size 0 66
  r1 : W.there (w.heap.size + 1) 0 4
  a : Held W (w.heap.size + 2) (accL zeroAcc)
  x : Held W xb X
  f : Held W (xb + 1) (faultL er ea)
  hxb : w.heap.size + 3 ≤ xb
theorem DA.step {w : World} {xb : Nat} {X : List Value} {e a : Nat} {W W' : World} (h : DA w xb X e a W) (hb : Below W.heap.size W W') : DA w xb X e a W' := by
  have h1 := h.a.1
  have h2 := h.below.size
  have e0 := hb.block w.heap.size (by omega)
  have e1 := hb.block (w.heap.size + 1) (by omega)
  exact ⟨Below.behind h.below hb, there_block h.r0 e0, there_block h.r1 e1, h.a.below hb, h.x.below hb, h.f.below hb, h.hxb⟩
theorem zeroA_length : (accL zeroAcc).length = 66 := by kernel_rfl
theorem zeroA_one : (accL zeroAcc).toArray.all (·.oneCell') = true := by kernel_rfl

theorem DA.start {w w1 : World} {X : List Value} {e a : Nat} {t u : TypeId}
    (hb1 : Below (((w.alloc (.cells (accL zeroAcc).toArray 85)).alloc (.cells (faultL 0 0).toArray 66)).alloc (.cells (accL zeroAcc).toArray 85)).heap.size (((w.alloc (.cells (accL zeroAcc).toArray 85)).alloc (.cells (faultL 0 0).toArray 66)).alloc (.cells (accL zeroAcc).toArray 85)) w1) :
    DA w w1.heap.size X e a ((w1.alloc (.cells X.toArray t)).alloc (.cells (faultL e a).toArray u)) := by
  have hs1 := hb1.size
  simp only [World.size_alloc] at hs1
  have hb2 : Below w1.heap.size w1 ((w1.alloc (.cells X.toArray t)).alloc (.cells (faultL e a).toArray u)) := ((Below.refl _ _).alloc (Nat.le_refl _) _).alloc (by simp) _
  have h0 := (((Held.fresh w (accL zeroAcc) 85).alloc (.cells (faultL 0 0).toArray 66)).alloc (.cells (accL zeroAcc).toArray 85)).below hb1 |>.below hb2
  have h1 := ((Held.fresh (w.alloc (.cells (accL zeroAcc).toArray 85)) (faultL 0 0) 66).alloc (.cells (accL zeroAcc).toArray 85)).below hb1 |>.below hb2
  have h2 := (Held.fresh ((w.alloc (.cells (accL zeroAcc).toArray 85)).alloc (.cells (faultL 0 0).toArray 66)) (accL zeroAcc) 85).below hb1 |>.below hb2
  simp only [World.size_alloc] at h1 h2
  have th : ∀ {W : World} {b : Nat} {cs : List Value}, Held W b cs → W.there b 0 cs.length := fun h j hj => by
    have := h.2 j _ (List.getElem?_eq_getElem hj)
    rw [Nat.zero_add]
    exact ⟨by rw [this.1]; rfl, this.2⟩
  refine ⟨Below.behind (Below.behind ((((Below.refl _ _).alloc (Nat.le_refl _) _).alloc (by simp) _).alloc (by simp; omega) _) hb1) hb2, ?_, th h1, h2, (Held.fresh w1 X t).alloc _, ?_, by omega⟩
  · have := th h0
    rw [zeroA_length] at this
    exact this
  · have := Held.fresh (w1.alloc (.cells X.toArray t)) (faultL e a) u
    rw [World.size_alloc] at this
    exact this

theorem zeroArr : (accL zeroAcc).toArray = Tryz.zeroCells85 := by kernel_rfl

set_option maxRecDepth 100000 in
set_option maxHeartbeats 6400000 in
theorem da_err (s : ByteArray) (w : World) (fr en : Nat) (l : Bool) (tx : ByteArray) (p : Option Addr) (m c e a : Nat) (he : 0 < e)
    (hD : ∀ W, Calls Tryz.prog 167 #[.string s] W fun r w' => Below W.heap.size W w' ∧ r = .returned (.tuple #[valR ⟨fr, en, l, tx, .slice p m c⟩, faultV e 0 0 a])) :
    Calls Tryz.prog 122 #[.string s] w (LookSaid (.tuple #[.agg (accL zeroAcc).toArray, faultV e 0 0 a]) w) := by
  have HD := Hid.hide hD
  have hE1 : ((e : Int) != 0) = true := by simp; omega
  have hE0 : ((e : Int) == 0) = false := by simp; omega
  clear hD he
  go_enter Tryz.func122, Tryz.ntmps122
  go_wp2_with fail
  refine (HD.out _).mono ?_
  rintro r w1 ⟨hb1, rfl⟩
  rw [← zeroArr] at hb1
  have R1 := DA.start (X := encR ⟨fr, en, l, tx, .slice p m c⟩) (e := e) (a := a) (t := 288) (u := 66) hb1
  clear hb1
  rw [faultV_eq]
  go_wp2_with fail
  refine wp_region_any (by kernel_rfl) ?_
  change wpAny _ _ _ _ _ _ _ (World.drew _)
  obtain ⟨xb, hxb⟩ : ∃ xb, w1.heap.size = xb := ⟨_, rfl⟩
  generalize World.alloc (World.alloc w1 _) _ = W at R1 ⊢
  rw [hxb] at R1 ⊢
  have R0 := Hid.hide R1
  clear R1 hxb
  have hLz : (accL zeroAcc).toArray.size = 66 := by rw [List.size_toArray]; exact zeroA_length
  have hne : w.heap.size ≠ w.heap.size + 1 := by omega
  obtain ⟨f, hf⟩ : ∃ f : Nat → Value, f = fun i => ([.agg (accL zeroAcc).toArray, .agg (faultL e a).toArray, undef, undef] : List Value).getD i undef := ⟨_, rfl⟩
  have v0 : f 0 = .agg (accL zeroAcc).toArray := by rw [hf]; rfl
  have v1 : f 1 = .agg (faultL e a).toArray := by rw [hf]; rfl
  refine wpAny_all_steadyS _ { tmps := #[Value.string s, undef, Value.pointer (some { block := w.heap.size, off := 0 }), Value.pointer (some { block := w.heap.size + 1, off := 0 }), Value.pointer (some { block := w.heap.size + 1 + 1, off := 0 }), Value.pointer (some { block := xb, off := 0 }), Value.pointer (some { block := xb + 1, off := 0 }), undef, undef, undef, undef, undef, Value.tuple #[valR { fr := fr, «to» := en, lst := l, text := tx, sub := Value.slice p m c }, Value.agg (faultL e a).toArray], Value.string s, Value.tuple #[valR { fr := fr, «to» := en, lst := l, text := tx, sub := Value.slice p m c }, Value.agg (faultL e a).toArray], valR { fr := fr, «to» := en, lst := l, text := tx, sub := Value.slice p m c }, Value.agg (faultL e a).toArray, Value.pointer (some { block := xb + 1, off := 0 }), Value.int IntKind.i64 ↑e, Value.bool true, f 0, f 1, undef, undef, undef, undef, undef, undef, undef, undef, undef, undef, undef, undef, undef, undef, undef, undef, undef, undef, undef, undef, undef, undef, undef, undef, undef, undef, undef, undef, undef, undef, undef, undef, undef, undef, undef, undef, undef, undef, undef, undef, undef, undef, undef, undef, undef, undef, undef, undef, undef, undef, undef, undef, undef, undef, undef, undef, undef, undef, undef, undef, undef, undef, undef, undef, undef, undef, undef, undef, undef, undef, undef, undef, undef, undef, undef, undef, undef, undef, undef, undef, undef, undef, undef, undef, undef, undef, undef, undef, undef, undef, undef, undef, undef, undef, undef, undef, undef, undef, undef, undef, undef, undef, undef, undef, undef, undef, undef, undef, undef, undef, undef, undef, undef, undef, undef, undef, undef], defers := [] } f (fun L' W' => SE W w.heap.size (w.heap.size + 1) (accL zeroAcc) (faultL e a) (L'.getD 2 false) (L'.getD 3 false) W') (by kernel_rfl) (by kernel_rfl) ?_ _ ?_ (by kernel_rfl) ?_
  · intro i o ho listed b W' hsat hdeps hsz hnew hS
    have hi : i < 4 := (Array.getElem?_eq_some_iff.1 ho).1
    have hsz4 : listed.size = 4 := hsz
    match i, hi with
    | 0, _ =>
      obtain rfl := Option.some.inj ho
      refine ⟨fun _ => ?_, fun hno => absurd hno (by simp [Region.wanted])⟩
      have t4 : b.tmps[4]? = some (.pointer (some ⟨w.heap.size + 1 + 1, 0, none⟩)) := (hsat.rest 4 (fun i _ => noDst_of (by kernel_rfl) i)).trans rfl
      have hr : W'.rangeAt (w.heap.size + 2) 0 (accL zeroAcc) := hS.range (fun j u hu => by rw [Nat.zero_add]; exact (R0.out.a.2 j u hu).1) (by omega) (by omega)
      rw [v0]
      refine wp_load_mid 85 (.tmp 4) rfl (w.heap.size + 1 + 1) 0 (by simp only [Act.eval, Array.getD_eq_getD_getElem?, t4, Option.getD_some]) (accL zeroAcc) _ hr Tryz.underlying85 rfl (by rw [zeroA_length]; exact zeroA_size) ⟨rfl, ?_⟩
      rw [getD_set (by omega), getD_set (by omega), if_neg (by omega), if_neg (by omega)]
      exact hS
    | 1, _ =>
      obtain rfl := Option.some.inj ho
      refine ⟨fun _ => ?_, fun hno => absurd hno (by simp [Region.wanted])⟩
      have t6 : b.tmps[6]? = some (.pointer (some ⟨xb + 1, 0, none⟩)) := (hsat.rest 6 (fun i _ => noDst_of (by kernel_rfl) i)).trans rfl
      have hx3 := R0.out.hxb
      have hr : W'.rangeAt (xb + 1) 0 (faultL e a) := hS.range (fun j u hu => by rw [Nat.zero_add]; exact (R0.out.f.2 j u hu).1) (by omega) (by omega)
      rw [v1]
      refine wp_load_mid 66 (.tmp 6) rfl (xb + 1) 0 (by simp only [Act.eval, Array.getD_eq_getD_getElem?, t6, Option.getD_some]) (faultL e a) _ hr Tryz.underlying66 rfl faultSize ⟨rfl, ?_⟩
      rw [getD_set (by omega), getD_set (by omega), if_neg (by omega), if_neg (by omega)]
      exact hS
    | 2, _ =>
      obtain rfl := Option.some.inj ho
      refine ⟨fun _ => ?_, fun hno => absurd hno (by simp [Region.wanted])⟩
      have t2 : b.tmps[2]? = some (.pointer (some ⟨w.heap.size, 0, none⟩)) := (hsat.rest 2 (fun i _ => noDst_of (by kernel_rfl) i)).trans rfl
      have t20 : b.tmps[20]? = some (.agg (accL zeroAcc).toArray) := (hsat.done 0 20 (hdeps ⟨0, .data⟩ (by simp) rfl) rfl (by simp)).trans (congrArg some v0)
      refine wp_store_mid 85 (.tmp 2) (.tmp 20) rfl w.heap.size 0 (accL zeroAcc).toArray (by simp only [Act.eval, Array.getD_eq_getD_getElem?, t2, Option.getD_some]) (by simp only [Act.eval, Array.getD_eq_getD_getElem?, t20, Option.getD_some]) (by rw [List.size_toArray]; exact hS.t0) (by rw [hLz]; exact zeroA_size) zeroA_one ⟨rfl, ?_⟩
      rw [getD_set (by omega), getD_set (by omega), if_pos rfl, if_neg (by omega)]
      exact hS.store0 hne
    | 3, _ =>
      obtain rfl := Option.some.inj ho
      refine ⟨fun _ => ?_, fun hno => absurd hno (by simp [Region.wanted])⟩
      have t3 : b.tmps[3]? = some (.pointer (some ⟨w.heap.size + 1, 0, none⟩)) := (hsat.rest 3 (fun i _ => noDst_of (by kernel_rfl) i)).trans rfl
      have t21 : b.tmps[21]? = some (.agg (faultL e a).toArray) := (hsat.done 1 21 (hdeps ⟨1, .data⟩ (by simp) rfl) rfl (by simp)).trans (congrArg some v1)
      refine wp_store_mid 66 (.tmp 3) (.tmp 21) rfl (w.heap.size + 1) 0 (faultL e a).toArray (by simp only [Act.eval, Array.getD_eq_getD_getElem?, t3, Option.getD_some]) (by simp only [Act.eval, Array.getD_eq_getD_getElem?, t21, Option.getD_some]) hS.t1 faultSize (faultL_one e a) ⟨rfl, ?_⟩
      rw [getD_set (by omega), getD_set (by omega), if_neg (by omega), if_pos rfl]
      exact hS.store1 hne
  · have h0 : SE W w.heap.size (w.heap.size + 1) (accL zeroAcc) (faultL e a) false false W := SE.start (by rw [zeroA_length]; exact R0.out.r0) R0.out.r1
    exact h0.drew
  · intro W' hS
    have hS' : SE W w.heap.size (w.heap.size + 1) (accL zeroAcc) (faultL e a) true true W' := hS
    clear hS hf v0 v1
    go_wp2_with fail
    exact bodyPost_ret (v := .tuple #[.agg (accL zeroAcc).toArray, faultV e 0 0 a]) (hS'.result zeroA_length R0.out.below (Nat.le_refl _) (by omega) Tryz.results122 rfl rfl).1 rfl ⟨rfl, hS'.below R0.out.below (Nat.le_refl _) (by omega)⟩
end Go.Proofs.YtjiikjpnlgogfaaGreatDoor

namespace Go.Proofs.YtjiikjpnlgogfaaGreatDoor
open Go.RowKit

set_option maxRecDepth 100000 in
set_option maxHeartbeats 6400000 in
theorem da_not4 (s : ByteArray) (w : World)
    (hD : ∀ W, Calls Tryz.prog 167 #[.string s] W fun r w' => Below W.heap.size W w' ∧ ∃ (fr en : Nat) (l : Bool) (tx : ByteArray) (p : Option Addr) (m c : Nat), (l = false ∨ m ≠ 4) ∧ r = .returned (.tuple #[valR ⟨fr, en, l, tx, .slice p m c⟩, faultV 0 0 0 0])) :
    Calls Tryz.prog 122 #[.string s] w (LookSaid (.tuple #[.agg (accL zeroAcc).toArray, faultV 13 0 0 0]) w) := by
  have HD := Hid.hide hD
  clear hD
  go_enter Tryz.func122, Tryz.ntmps122
  go_wp2_with fail
  refine (HD.out _).mono ?_
  rintro r w1 ⟨hb1, fr, en, l, tx, p, m, c, hbad, rfl⟩
  rw [← zeroArr] at hb1
  have R1 := DA.start (X := encR ⟨fr, en, l, tx, .slice p m c⟩) (e := 0) (a := 0) (t := 288) (u := 66) hb1
  clear hb1
  rw [show faultV 0 0 0 0 = Value.agg #[.int .i64 0, .int .i64 0, .int .i64 0, .int .i64 0] from rfl]
  go_upto_region 3 with fail
  obtain ⟨xb, hxb⟩ : ∃ xb, w1.heap.size = xb := ⟨_, rfl⟩
  generalize hWW : World.alloc (World.alloc w1 _) _ = W
  have R0 : Hid (DA w xb (encR ⟨fr, en, l, tx, .slice p m c⟩) 0 0 W) := by rw [← hxb, ← hWW]; exact R1
  rw [hxb]
  clear R1 hxb hWW
  have f0 : W.cell? ⟨xb + 1, 0, none⟩ = some (.int .i64 0) := (R0.out.f.2 0 _ rfl).1
  have x0 := (R0.out.x.2 0 _ rfl).1
  have x2 := (R0.out.x.2 2 _ rfl).1
  have hrL : W.rangeAt (w.heap.size + 2) 0 (accL zeroAcc) := fun j u hu => by rw [Nat.zero_add]; exact (R0.out.a.2 j u hu).1
  have hS0 : SE W w.heap.size (w.heap.size + 1) (accL zeroAcc) (faultL 13 0) false false W := SE.start (by rw [zeroA_length]; exact R0.out.r0) R0.out.r1
  have hne : w.heap.size ≠ w.heap.size + 1 := by omega
  have hS1 := hS0.store0 hne
  have hS2 := hS1.store1 hne
  have AS : Aside (SE W w.heap.size (w.heap.size + 1) (accL zeroAcc) (faultL 13 0) true true ((W.setCells w.heap.size 0 (accL zeroAcc)).setCells (w.heap.size + 1) 0 (faultL 13 0))) := hS2
  have ht0 : W.there w.heap.size 0 (accL zeroAcc).toArray.size := by rw [List.size_toArray]; exact hS0.t0
  have ht1 : (W.setCells w.heap.size 0 (accL zeroAcc)).there (w.heap.size + 1) 0 (faultL 13 0).toArray.size := hS1.t1
  clear hS0 hS1 hS2 hne
  have hzL : (Tryz.prog.info? 85).map (·.size) = some (accL zeroAcc).length := by rw [zeroA_length]; exact zeroA_size
  have hzA : (Tryz.prog.info? 85).map (·.size) = some (accL zeroAcc).toArray.size := by rw [List.size_toArray]; exact hzL
  have hAo := zeroA_one
  have hlen : Hid ((accL zeroAcc).length = 66) := zeroA_length
  generalize hLe : accL zeroAcc = L at hrL ht0 ht1 hzL hzA hAo AS hlen
  have HLe := Hid.hide hLe
  clear hLe
  rcases hbad with rfl | hm
  · go_wp2_with (first
      | (refine wpList_load_mid rfl 85 _ rfl (w.heap.size + 1 + 1) 0 rfl L _ hrL Tryz.underlying85 rfl hzL ?_)
      | (refine wpList_store_mid rfl 85 _ _ rfl w.heap.size 0 L.toArray rfl rfl ht0 hzA hAo ?_)
      | (refine wpList_store_mid rfl 66 _ _ rfl (w.heap.size + 1) 0 (faultL 13 0).toArray rfl rfl ht1 faultSize (faultL_one 13 0) ?_))
    exact bodyPost_ret (v := .tuple #[.agg L.toArray, faultV 13 0 0 0]) (AS.out.result hlen.out R0.out.below (Nat.le_refl _) (by omega) Tryz.results122 rfl rfl).1 rfl ⟨by rw [HLe.out], AS.out.below R0.out.below (Nat.le_refl _) (by omega)⟩
  · have hmi : ((m : Int) == 4) = false := by simp; omega
    have hmi2 : ((m : Int) != 4) = true := by simp; omega
    clear hm
    cases l with
    | false =>
      go_wp2_with (first
        | (refine wpList_load_mid rfl 85 _ rfl (w.heap.size + 1 + 1) 0 rfl L _ hrL Tryz.underlying85 rfl hzL ?_)
        | (refine wpList_store_mid rfl 85 _ _ rfl w.heap.size 0 L.toArray rfl rfl ht0 hzA hAo ?_)
        | (refine wpList_store_mid rfl 66 _ _ rfl (w.heap.size + 1) 0 (faultL 13 0).toArray rfl rfl ht1 faultSize (faultL_one 13 0) ?_))
      exact bodyPost_ret (v := .tuple #[.agg L.toArray, faultV 13 0 0 0]) (AS.out.result hlen.out R0.out.below (Nat.le_refl _) (by omega) Tryz.results122 rfl rfl).1 rfl ⟨by rw [HLe.out], AS.out.below R0.out.below (Nat.le_refl _) (by omega)⟩
    | true =>
      go_wp2_with (first
        | (refine wpList_load_mid rfl 85 _ rfl (w.heap.size + 1 + 1) 0 rfl L _ hrL Tryz.underlying85 rfl hzL ?_)
        | (refine wpList_store_mid rfl 85 _ _ rfl w.heap.size 0 L.toArray rfl rfl ht0 hzA hAo ?_)
        | (refine wpList_store_mid rfl 66 _ _ rfl (w.heap.size + 1) 0 (faultL 13 0).toArray rfl rfl ht1 faultSize (faultL_one 13 0) ?_))
      exact bodyPost_ret (v := .tuple #[.agg L.toArray, faultV 13 0 0 0]) (AS.out.result hlen.out R0.out.below (Nat.le_refl _) (by omega) Tryz.results122 rfl rfl).1 rfl ⟨by rw [HLe.out], AS.out.below R0.out.below (Nat.le_refl _) (by omega)⟩
end Go.Proofs.YtjiikjpnlgogfaaGreatDoor

namespace Go.Proofs.YtjiikjpnlgogfaaGreatDoor
open Go.RowKit

/-- Whether the k-th of an account's items is wrong. -/
def badAt (k : Nat) (e : El) : Bool := if k < 2 then !(decide (numOK e.lst (bytesOf e.text))) else !(decide (e.lst = false ∧ e.text.size = 32))

theorem bad_true {k : Nat} {e : El} (hk : k < 2) (h : ¬ numOK e.lst (bytesOf e.text)) : badAt k e = true := by
  unfold badAt
  rw [if_pos hk, decide_eq_false h]
  rfl
theorem bad_false {k : Nat} {e : El} (hk : k < 2) (h : numOK e.lst (bytesOf e.text)) : badAt k e = false := by
  unfold badAt
  rw [if_pos hk, decide_eq_true h]
  rfl
theorem badAt_list (k : Nat) (e : El) (h : e.lst = true) : badAt k e = true := by
  by_cases hk : k < 2
  · exact bad_true hk fun h2 => by
      have := h2.1
      rw [h] at this
      cases this
  · unfold badAt
    rw [if_neg hk]
    simp [h]
theorem badAt_long (k : Nat) (e : El) (hk : k < 2) (h : 8 < e.text.size) : badAt k e = true := bad_true hk fun h2 => by
  have := h2.2.1
  rw [bytesOf_length] at this
  omega
theorem badAt_none (k : Nat) (e : El) (hk : k < 2) (hl : e.lst = false) (h : e.text.size = 0) : badAt k e = false := bad_false hk ⟨hl, by rw [bytesOf_length]; omega, fun h2 => by
  have := h2.1
  rw [bytesOf_length] at this
  omega⟩
theorem take1 (t : ByteArray) (h0 : 0 < t.size) : (bytesOf t).take 1 = [t[0].toNat] := by
  have hl := bytesOf_length t
  have h1 := bytesOf_at t 0 h0
  match h : bytesOf t with
  | [] => rw [h] at hl; simp at hl; omega
  | a :: r =>
    rw [h] at h1
    rw [← h1]
    rfl
theorem badAt_zero (k : Nat) (e : El) (hk : k < 2) (h0 : 0 < e.text.size) (h : e.text[0].toNat = 0) : badAt k e = true := bad_true hk fun h2 => h2.2.2 ⟨by rw [bytesOf_length]; omega, by rw [take1 _ h0, h]⟩
theorem badAt_num (k : Nat) (e : El) (hk : k < 2) (hl : e.lst = false) (h8 : e.text.size ≤ 8) (h0 : 0 < e.text.size) (h : ¬ e.text[0].toNat = 0) : badAt k e = false := bad_false hk ⟨hl, by rw [bytesOf_length]; exact h8, fun h2 => by
  have := h2.2
  rw [take1 _ h0] at this
  simp only [List.cons.injEq, and_true] at this
  exact h this⟩
theorem badAt_hash (k : Nat) (e : El) (hk : ¬ k < 2) (hl : e.lst = false) (h : e.text.size = 32) : badAt k e = false := by
  unfold badAt
  rw [if_neg hk]
  simp [hl, h]
theorem badAt_no (k : Nat) (e : El) (hk : ¬ k < 2) (h : ¬ e.text.size = 32) : badAt k e = true := by
  unfold badAt
  rw [if_neg hk]
  simp [h]
theorem wrap64_nat1' (q : Nat) (h : q ≤ 4611686018427387904) : wrap64 ((q : Int) + 1) = ((q + 1 : Nat) : Int) := by
  unfold wrap64
  omega

theorem Only.setSelf {tb : Nat} {w w' : World} (h : Only tb w w') (j : Nat) (u : Value) : Only tb w (w'.setCell ⟨tb, j, none⟩ u) :=
  ⟨h.os, h.tape, h.output, by simpa using h.size, fun k hk hne => (Below.heap_setCell _ _ _ _ hne).trans (h.block k hk hne)⟩
theorem Only.drew {tb : Nat} {w w' : World} (h : Only tb w w') : Only tb w w'.drew := ⟨h.os, h.tape, h.output, h.size, h.block⟩
theorem Only.setsSelf {tb : Nat} {w w' : World} (h : Only tb w w') (o : Nat) (l : List Value) : Only tb w (w'.setCells tb o l) := by
  obtain ⟨q1, q2, q3, q4⟩ := size_setCells tb l o w'
  exact ⟨q2.trans h.os, q3.trans h.tape, q4.trans h.output, by rw [q1]; exact h.size, fun k hk hne => (heap_setCells _ _ _ _ _ hne).trans (h.block k hk hne)⟩
theorem mulI (n : Nat) : (n : Int) * 256 = ((n * 256 : Nat) : Int) := by omega
theorem addI (n m : Nat) : (n : Int) + (m : Int) = ((n + m : Nat) : Int) := by omega
theorem wrap_add8 (n bt : Nat) (h : n * 256 + bt < 18446744073709551616) : IntKind.u64.wrap (IntKind.u64.wrap ((n : Int) * 256) + IntKind.u64.wrap (bt : Int)) = ((n * 256 + bt : Nat) : Int) := by
  rw [wrap_u64_small bt (Nat.lt_of_le_of_lt (Nat.le_add_left _ _) h), mulI, wrap_u64_small (n * 256) (Nat.lt_of_le_of_lt (Nat.le_add_right _ _) h), addI]
  exact wrap_u64_small _ h
theorem Held.there {W : World} {b : Nat} {cs : List Value} (h : Held W b cs) {o n : Nat} (hn : o + n ≤ cs.length) : W.there b o n := fun j hj => by
  have := h.2 (o + j) _ (List.getElem?_eq_getElem (by omega))
  exact ⟨by rw [this.1]; rfl, this.2⟩
theorem Held.splice {W : World} {b o : Nat} {pre mid post new : List Value} (h : Held W b (pre ++ mid ++ post)) (ho : o = pre.length) (hl : new.length = mid.length) : Held (W.setCells b o new) b (pre ++ new ++ post) := by
  have hth : W.there b o new.length := h.there (by simp only [List.length_append]; omega)
  obtain ⟨q1, _, _, _⟩ := size_setCells b new o W
  refine ⟨by rw [q1]; exact h.1, fun j v hv => ?_⟩
  have hjl : j < (pre ++ new ++ post).length := (List.getElem?_eq_some_iff.1 hv).1
  simp only [List.length_append] at hjl
  have hfz : (W.setCells b o new).frozen? ⟨b, j, none⟩ = false := by
    have := (World.there_setCells (h.there (o := 0) (n := (pre ++ mid ++ post).length) (by omega)) b o new j (by simp only [List.length_append]; omega)).2
    rwa [Nat.zero_add] at this
  refine ⟨?_, hfz⟩
  by_cases h1 : j < pre.length
  · rw [World.cell?_setCells_out _ _ _ _ _ (fun _ _ => .inl (show j < o by omega))]
    refine (h.2 j v ?_).1
    rw [List.append_assoc, List.getElem?_append_left h1] at hv ⊢
    exact hv
  · by_cases h2 : j < pre.length + new.length
    · rw [List.getElem?_append_left (by simp only [List.length_append]; omega), List.getElem?_append_right (by omega)] at hv
      have := World.rangeAt_setCells_same W b o new hth (j - pre.length) v hv
      rwa [show o + (j - pre.length) = j by omega] at this
    · rw [World.cell?_setCells_out _ _ _ _ _ (fun _ _ => .inr (show o + new.length ≤ j by omega))]
      refine (h.2 j v ?_).1
      rw [List.getElem?_append_right (by simp only [List.length_append]; omega)] at hv ⊢
      rw [List.length_append] at hv ⊢
      rw [← hl]
      exact hv
theorem accL_root (n b : Nat) (r c : List Nat) : accL ⟨n, b, r, c⟩ = [encL n, encL b] ++ r.map encB ++ c.map encB := rfl
theorem accL_code (n b : Nat) (r c : List Nat) : accL ⟨n, b, r, c⟩ = ([encL n, encL b] ++ r.map encB) ++ c.map encB ++ [] := by rw [List.append_nil]; rfl
theorem accL_one' (a : Acc) : (accL a).toArray.all (·.oneCell') = true := accL_one a
theorem encB_one32 (l : List Nat) : (l.map encB).toArray.all (·.oneCell') = true := by
  rw [List.all_toArray, List.all_eq_true]
  exact encB_oneCell _
theorem numB_step (t : ByteArray) (k : Nat) (h : k < t.size) : numB ((bytesOf t).take k) * 256 + t[k].toNat = numB ((bytesOf t).take (k + 1)) ∧ (t.size ≤ 8 → numB ((bytesOf t).take k) * 256 + t[k].toNat < 18446744073709551616) := by
  have hl := bytesOf_length t
  have e : (bytesOf t).take (k + 1) = (bytesOf t).take k ++ [t[k].toNat] := by
    rw [← List.take_append_getElem (by omega : k < (bytesOf t).length), ← getElem!_pos (bytesOf t) k (by omega), bytesOf_at t k h]
  have e2 : numB ((bytesOf t).take k) * 256 + t[k].toNat = numB ((bytesOf t).take (k + 1)) := by
    rw [e]
    unfold numB
    rw [List.foldl_append]
    rfl
  refine ⟨e2, fun h8 => ?_⟩
  rw [e2]
  have h1 := numB_lt ((bytesOf t).take (k + 1)) (fun x hx => byte_lt t x (List.mem_of_mem_take hx))
  have h2 : ((bytesOf t).take (k + 1)).length ≤ 8 := by rw [List.length_take]; omega
  have h3 : 256 ^ ((bytesOf t).take (k + 1)).length ≤ 256 ^ 8 := Nat.pow_le_pow_right (by decide) h2
  have h4 : (256 : Nat) ^ 8 = 18446744073709551616 := by decide
  omega
theorem badAt_numOf {ps : List El} {k : Nat} (h : k < ps.length) (hk : k < 2) (hb : badAt k ps[k] = false) : ps[k].text.size ≤ 8 := by
  unfold badAt at hb
  rw [if_pos hk] at hb
  by_cases hn : numOK ps[k].lst (bytesOf ps[k].text)
  · have := hn.2.1
    rwa [bytesOf_length] at this
  · rw [decide_eq_false hn] at hb
    cases hb
theorem badAt_hashOf {ps : List El} {k : Nat} (h : k < ps.length) (hk : ¬ k < 2) (hb : badAt k ps[k] = false) : ps[k].text.size = 32 := by
  unfold badAt at hb
  rw [if_neg hk] at hb
  by_cases hn : ps[k].lst = false ∧ ps[k].text.size = 32
  · exact hn.2
  · rw [decide_eq_false hn] at hb
    cases hb

/-- What Decode gave: a list of four, where they lie; what is to be answered of them. -/
def Four4 (R : Value → Prop) (r : Ending) (w' : World) : Prop :=
  ∃ (fr en : Nat) (tx : ByteArray) (g c : Nat) (ps : List El), ps.length = 4 ∧ r = .returned (.tuple #[valR ⟨fr, en, true, tx, .slice (some ⟨g, 0, none⟩) 4 c⟩, faultV 0 0 0 0]) ∧ (∀ i (h : i < ps.length), w'.rangeAt g (i * 5) (encR ps[i])) ∧ (∀ e ∈ ps, ∃ p m c, e.sub = .slice p m c) ∧
    (∀ k (h : k < ps.length), (∀ i (hi : i < ps.length), i < k → badAt i ps[i] = false) → badAt k ps[k] = true → R (.tuple #[.agg (accL zeroAcc).toArray, faultV 13 0 0 ps[k].fr])) ∧
    ∀ (q0 : 0 < ps.length) (q1 : 1 < ps.length) (q2 : 2 < ps.length) (q3 : 3 < ps.length), (∀ i (hi : i < ps.length), badAt i ps[i] = false) → R (.tuple #[.agg (accL ⟨numB (bytesOf ps[0].text), numB (bytesOf ps[1].text), bytesOf ps[2].text, bytesOf ps[3].text⟩).toArray, faultV 0 0 0 0])

set_option maxRecDepth 100000 in
set_option maxHeartbeats 12800000 in
theorem da_four (s : ByteArray) (w : World) (R : Value → Prop) (hD : ∀ W, Calls Tryz.prog 167 #[.string s] W fun r w' => Below W.heap.size W w' ∧ Four4 R r w') :
    Calls Tryz.prog 122 #[.string s] w fun e w' => (∃ v, R v ∧ e = .returned v) ∧ Below w.heap.size w w' := by
  have HD := Hid.hide hD
  clear hD
  go_enter Tryz.func122, Tryz.ntmps122
  go_wp2_with fail
  refine (HD.out _).mono ?_
  rintro r w1 ⟨hb1, fr, en, tx, g, c, ps, hps, rfl, hrow, hsub, hbad, hgd⟩
  have HB := Hid.hide hbad
  have HS := Hid.hide hsub
  have HL := Hid.hide hps
  have HGd := Hid.hide hgd
  clear hbad hsub hps hgd
  rw [← zeroArr] at hb1
  have R1 := DA.start (X := encR ⟨fr, en, true, tx, .slice (some ⟨g, 0, none⟩) 4 c⟩) (e := 0) (a := 0) (t := 288) (u := 66) hb1
  clear hb1
  rw [show faultV 0 0 0 0 = Value.agg #[.int .i64 0, .int .i64 0, .int .i64 0, .int .i64 0] from rfl]
  go_upto_region 3 with fail
  obtain ⟨xb, hxb⟩ : ∃ xb, w1.heap.size = xb := ⟨_, rfl⟩
  generalize hWW : World.alloc (World.alloc w1 _) _ = W
  have hbW : Below w1.heap.size w1 W := by rw [← hWW]; exact ((Below.refl _ _).alloc (Nat.le_refl _) _).alloc (by simp) _
  have R0 : Hid (DA w xb (encR ⟨fr, en, true, tx, .slice (some ⟨g, 0, none⟩) 4 c⟩) 0 0 W) := by rw [← hxb, ← hWW]; exact R1
  have HC : Hid (∀ i (h : i < ps.length), W.rangeAt g (i * 5) (encR ps[i])) := fun i h j u hu => (hbW.cell (World.block_lt_of_cell? w1 _ (hrow i h j u hu))).trans (hrow i h j u hu)
  rw [hxb]
  clear R1 hxb hWW hbW hrow
  have f0 : W.cell? ⟨xb + 1, 0, none⟩ = some (.int .i64 0) := (R0.out.f.2 0 _ rfl).1
  have x0 := (R0.out.x.2 0 _ rfl).1
  have x2 := (R0.out.x.2 2 _ rfl).1
  have xl := R0.out.x.1
  go_wp2
  go_loopg [7] 4 (fun gh i wr => ∃ k, k ≤ 4 ∧ gh = 4 - k ∧ i = .int .i64 (k : Int) ∧ Below W.heap.size W wr ∧ ∀ i (hi : i < ps.length), i < k → badAt i ps[i] = false)
  case atStart => exact ⟨0, by omega, rfl, rfl, Below.refl _ _, fun i _ h => by omega⟩
  case round =>
    obtain ⟨k, hk, rfl, rfl, hB, hgood⟩ := hrel
    have z2 : wr.cell? ⟨xb, 2, none⟩ = some (.slice (some ⟨g, 0, none⟩) 4 c) := (hB.cell (p := ⟨xb, 2, none⟩) xl).trans x2
    by_cases hlt : k < 4
    · have hki : (k : Int) < 4 := by omega
      have hkp : k < ps.length := by rw [HL.out]; exact hlt
      have hrk := HC.out k hkp
      have hbk := HB.out k hkp hgood
      have hsk := HS.out _ (List.getElem_mem hkp)
      obtain ⟨q, hqe⟩ : ∃ q, ps[k] = q := ⟨_, rfl⟩
      rw [hqe] at hrk hbk hsk
      have A1 : Aside (Below W.heap.size W wr ∧ (badAt k q = false → ∀ i (hi : i < ps.length), i < k + 1 → badAt i ps[i] = false)) := ⟨hB, fun hb i hi h => by
        by_cases e : i = k
        · subst e; rw [hqe]; exact hb
        · exact hgood i hi (by omega)⟩
      obtain ⟨fr', en', l', tx', sub'⟩ := q
      obtain ⟨p', m', c', hs'⟩ := hsk
      simp only at hs'
      subst hs'
      have cel : ∀ j u, W.cell? ⟨g, k * 5 + j, none⟩ = some u → wr.cell? ⟨g, k * 5 + j, none⟩ = some u := fun j u hu => (hB.cell (World.block_lt_of_cell? W _ hu)).trans hu
      have r0 : wr.cell? ⟨g, k * 5, none⟩ = some (.bool l') := cel 0 _ (hrk 0 _ rfl)
      have r1 : wr.cell? ⟨g, k * 5 + 1, none⟩ = some (.string tx') := cel 1 _ (hrk 1 _ rfl)
      have r2 : wr.cell? ⟨g, k * 5 + 2, none⟩ = some (.slice p' m' c') := cel 2 _ (hrk 2 _ rfl)
      have r3 : wr.cell? ⟨g, k * 5 + 3, none⟩ = some (.int .i64 (fr' : Int)) := cel 3 _ (hrk 3 _ rfl)
      have r4 : wr.cell? ⟨g, k * 5 + 4, none⟩ = some (.int .i64 (en' : Int)) := cel 4 _ (hrk 4 _ rfl)
      have HBk := Hid.hide hbk
      clear hrk hbk hqe hB hgood cel
      obtain ⟨bd, hbd⟩ : ∃ bd, badAt k ⟨fr', en', l', tx', .slice p' m' c'⟩ = bd := ⟨_, rfl⟩
      rw [hbd] at HBk A1
      have HBd := Hid.hide hbd
      clear hbd
      go_upto_if 45 with fail
      obtain ⟨W2, hW2⟩ : ∃ W2, W2 = wr.alloc (.cells (encR ⟨fr', en', l', tx', .slice p' m' c'⟩).toArray 288) := ⟨_, rfl⟩
      rw [show wr.alloc (.cells #[.bool l', .string tx', .slice p' m' c', .int .i64 (fr' : Int), .int .i64 (en' : Int)] 288) = W2 from hW2.symm]
      have hY : Held W2 wr.heap.size (encR ⟨fr', en', l', tx', .slice p' m' c'⟩) := by rw [hW2]; exact Held.fresh wr _ _
      obtain ⟨yb, hyb⟩ : ∃ yb, wr.heap.size = yb := ⟨_, rfl⟩
      rw [hyb] at hY ⊢
      have y1 := (hY.2 1 _ rfl).1
      have y3 := (hY.2 3 _ rfl).1
      have yl := hY.1
      have A2 : Aside (Below W.heap.size W W2 ∧ xb < yb) := ⟨by rw [hW2]; exact A1.out.1.alloc A1.out.1.size _, by have := A1.out.1.size; omega⟩
      clear hY hW2 hyb r0 r1 r2 r3 r4 z2
      go_cut [9] (fun v wc => v = .bool bd ∧ wc = W2)
      case first =>
        by_cases hk2 : k < 2
        · have hk2i : (k : Int) < 2 := by omega
          cases l' with
          | true =>
            have AB : Aside (bd = true) := by rw [← HBd.out]; exact badAt_list k _ rfl
            go_wp2
            go_meet
            exact ⟨by rw [AB.out], rfl⟩
          | false =>
            by_cases h8 : 8 < tx'.size
            · have h8i : (8 : Int) < (tx'.size : Int) := by omega
              have AB : Aside (bd = true) := by rw [← HBd.out]; exact badAt_long k _ hk2 h8
              go_wp2
              go_meet
              exact ⟨by rw [AB.out], rfl⟩
            · have h8i : (tx'.size : Int) ≤ 8 := by omega
              by_cases h0 : tx'.size = 0
              · have h0i : (tx'.size : Int) = 0 := by omega
                have AB : Aside (bd = false) := by rw [← HBd.out]; exact badAt_none k _ hk2 rfl h0
                go_wp2
                go_meet
                exact ⟨by rw [AB.out], rfl⟩
              · have h0i : (0 : Int) < (tx'.size : Int) := by omega
                have h0n : 0 < tx'.size := by omega
                by_cases hz : tx'[0].toNat = 0
                · have AB : Aside (bd = true) := by rw [← HBd.out]; exact badAt_zero k _ hk2 h0n hz
                  have hzi : ((tx'[0].toNat : Int) == 0) = true := by simp [hz]
                  go_wp2
                  go_meet
                  exact ⟨by rw [AB.out], rfl⟩
                · have AB : Aside (bd = false) := by rw [← HBd.out]; exact badAt_num k _ hk2 rfl (by simp only; omega) h0n hz
                  have hzi : ((tx'[0].toNat : Int) == 0) = false := by simp; omega
                  go_wp2
                  go_meet
                  exact ⟨by simp [AB.out, h8i], rfl⟩
        · have hk2i : (2 : Int) ≤ (k : Int) := by omega
          cases l' with
          | true =>
            have AB : Aside (bd = true) := by rw [← HBd.out]; exact badAt_list k _ rfl
            go_wp2
            go_meet
            exact ⟨by rw [AB.out], rfl⟩
          | false =>
            by_cases h32 : tx'.size = 32
            · have h32i : (tx'.size : Int) = 32 := by omega
              have AB : Aside (bd = false) := by rw [← HBd.out]; exact badAt_hash k _ hk2 rfl h32
              go_wp2
              go_meet
              exact ⟨by rw [AB.out], rfl⟩
            · have h32i : ((tx'.size : Int) == 32) = false := by simp; omega
              have h32j : ((tx'.size : Int) != 32) = true := by simp; omega
              have AB : Aside (bd = true) := by rw [← HBd.out]; exact badAt_no k _ hk2 h32
              go_wp2
              go_meet
              exact ⟨by rw [AB.out], rfl⟩
      case rest =>
        obtain ⟨rfl, rfl⟩ := hcut
        cases bd with
        | false =>
          have HG := Hid.hide (A1.out.2 rfl)
          go_wp2
          go_roundg (4 - (k + 1))
          case measure => omega
          case rel => exact ⟨k + 1, by omega, rfl, val_int (by omega), A2.out.1, HG.out⟩
        | true =>
          have HV := Hid.hide (HBk.out rfl)
          clear HBk HBd
          go_wp2_with fail
          refine wp_region_any (by kernel_rfl) ?_
          change wpAny _ _ _ _ _ _ _ (World.drew _)
          have D0 : Hid (DA w xb (encR ⟨fr, en, true, tx, .slice (some ⟨g, 0, none⟩) 4 c⟩) 0 0 wc) := R0.out.step A2.out.1
          have hLz : (accL zeroAcc).toArray.size = 66 := by rw [List.size_toArray]; exact zeroA_length
          have hne : w.heap.size ≠ w.heap.size + 1 := by omega
          have hx3 := R0.out.hxb
          have hyx := A2.out.2
          obtain ⟨f, hf⟩ : ∃ f : Nat → Value, f = fun i => ([.agg (accL zeroAcc).toArray, .pointer (some ⟨yb, 3, none⟩), .int .i64 (fr' : Int), .agg (faultL 13 fr').toArray, undef, undef] : List Value).getD i undef := ⟨_, rfl⟩
          have v0 : f 0 = .agg (accL zeroAcc).toArray := by rw [hf]; rfl
          have v1 : f 1 = .pointer (some ⟨yb, 3, none⟩) := by rw [hf]; rfl
          have v2 : f 2 = .int .i64 (fr' : Int) := by rw [hf]; rfl
          have v3 : f 3 = .agg (faultL 13 fr').toArray := by rw [hf]; rfl
          refine wpAny_all_steadyS _ { tmps := #[Value.string s, undef, Value.pointer (some { block := w.heap.size, off := 0 }), Value.pointer (some { block := w.heap.size + 1, off := 0 }), Value.pointer (some { block := w.heap.size + 1 + 1, off := 0 }), Value.pointer (some { block := xb, off := 0 }), Value.pointer (some { block := xb + 1, off := 0 }), Value.int IntKind.i64 ↑k, Value.pointer (some { block := yb, off := 0 }), Value.bool true, undef, undef, Value.tuple #[valR { fr := fr, «to» := en, lst := true, text := tx, sub := Value.slice (some { block := g, off := 0 }) 4 c }, Value.agg #[Value.int IntKind.i64 0, Value.int IntKind.i64 0, Value.int IntKind.i64 0, Value.int IntKind.i64 0]], Value.string s, Value.tuple #[valR { fr := fr, «to» := en, lst := true, text := tx, sub := Value.slice (some { block := g, off := 0 }) 4 c }, Value.agg #[Value.int IntKind.i64 0, Value.int IntKind.i64 0, Value.int IntKind.i64 0, Value.int IntKind.i64 0]], valR { fr := fr, «to» := en, lst := true, text := tx, sub := Value.slice (some { block := g, off := 0 }) 4 c }, Value.agg #[Value.int IntKind.i64 0, Value.int IntKind.i64 0, Value.int IntKind.i64 0, Value.int IntKind.i64 0], Value.pointer (some { block := xb + 1, off := 0 }), Value.int IntKind.i64 0, Value.bool false, undef, undef, Value.pointer (some { block := xb, off := 0 }), Value.bool true, Value.bool false, Value.bool false, Value.pointer (some { block := xb, off := 2 }), Value.slice (some { block := g, off := 0 }) 4 c, Value.int IntKind.i64 4, Value.bool false, Value.bool false, undef, undef, u33, u34, u35, u36, u37, u38, u39, u40, u41, u42, u43, u44, u45, u46, u47, u48, u49, u50, u51, u52, u53, u54, u55, u56, u57, u58, u59, u60, u61, u62, u63, u64, u65, u66, u67, u68, u69, u70, u71, Value.bool true, f 0, f 1, f 2, f 3, undef, undef, undef, undef, undef, undef, undef, undef, undef, undef, undef, undef, undef, undef, undef, undef, undef, undef, undef, undef, undef, undef, undef, undef, undef, undef, undef, undef, undef, undef, undef, undef, undef, undef, undef, undef, undef, undef, undef, undef, undef, undef, undef, undef, undef, undef, undef, undef, undef, undef, undef, undef, undef, undef, undef, undef, undef, undef, undef, undef, undef, undef], defers := [] } f (fun L' W' => SE wc w.heap.size (w.heap.size + 1) (accL zeroAcc) (faultL 13 fr') (L'.getD 4 false) (L'.getD 5 false) W') (by kernel_rfl) (by kernel_rfl) ?_ _ ?_ (by kernel_rfl) ?_
          · intro i o ho listed b W' hsat hdeps hsz hnew hS
            have hi : i < 6 := (Array.getElem?_eq_some_iff.1 ho).1
            have hsz6 : listed.size = 6 := hsz
            match i, hi with
            | 0, _ =>
              obtain rfl := Option.some.inj ho
              refine ⟨fun _ => ?_, fun hno => absurd hno (by simp [Region.wanted])⟩
              have t4 : b.tmps[4]? = some (.pointer (some ⟨w.heap.size + 1 + 1, 0, none⟩)) := (hsat.rest 4 (fun i _ => noDst_of (by kernel_rfl) i)).trans rfl
              have hr : W'.rangeAt (w.heap.size + 2) 0 (accL zeroAcc) := hS.range (fun j u hu => by rw [Nat.zero_add]; exact (D0.out.a.2 j u hu).1) (by omega) (by omega)
              rw [v0]
              refine wp_load_mid 85 (.tmp 4) rfl (w.heap.size + 1 + 1) 0 (by simp only [Act.eval, Array.getD_eq_getD_getElem?, t4, Option.getD_some]) (accL zeroAcc) _ hr Tryz.underlying85 rfl (by rw [zeroA_length]; exact zeroA_size) ⟨rfl, ?_⟩
              rw [getD_set (by omega), getD_set (by omega), if_neg (by omega), if_neg (by omega)]
              exact hS
            | 1, _ =>
              obtain rfl := Option.some.inj ho
              refine ⟨fun _ => ?_, fun hno => absurd hno (by simp [Region.wanted])⟩
              have t8 : b.tmps[8]? = some (.pointer (some ⟨yb, 0, none⟩)) := (hsat.rest 8 (fun i _ => noDst_of (by kernel_rfl) i)).trans rfl
              have hS2 : SE wc w.heap.size (w.heap.size + 1) (accL zeroAcc) (faultL 13 fr') ((listed.setIfInBounds 1 true).getD 4 false) ((listed.setIfInBounds 1 true).getD 5 false) W' := by
                rw [getD_set (by omega), getD_set (by omega), if_neg (by omega), if_neg (by omega)]
                exact hS
              have HS2 := Hid.hide hS2
              rw [v1]
              refine Oper.wp_mono (fun a' w' (h : a' = b.put (some 74) (.pointer (some ⟨yb, 3, none⟩)) ∧ w' = W') => ⟨h.1, by rw [h.2]; exact HS2.out⟩) ?_
              clear ho hf hdeps hsat hS hS2 HS2 v0 v1 v2 v3
              go_simp
            | 2, _ =>
              obtain rfl := Option.some.inj ho
              refine ⟨fun _ => ?_, fun hno => absurd hno (by simp [Region.wanted])⟩
              have t74 : b.tmps[74]? = some (.pointer (some ⟨yb, 3, none⟩)) := (hsat.done 1 74 (hdeps ⟨1, .data⟩ (by simp) rfl) rfl (by simp)).trans (congrArg some v1)
              have hc : W'.cell? ⟨yb, 3, none⟩ = some (.int .i64 (fr' : Int)) := (World.cell?_of_block (hS.block yb (by omega) (by omega))).trans y3
              have hS2 : SE wc w.heap.size (w.heap.size + 1) (accL zeroAcc) (faultL 13 fr') ((listed.setIfInBounds 2 true).getD 4 false) ((listed.setIfInBounds 2 true).getD 5 false) W' := by
                rw [getD_set (by omega), getD_set (by omega), if_neg (by omega), if_neg (by omega)]
                exact hS
              have HS2 := Hid.hide hS2
              rw [v2]
              refine Oper.wp_mono (fun a' w' (h : a' = b.put (some 75) (.int .i64 (fr' : Int)) ∧ w' = W') => ⟨h.1, by rw [h.2]; exact HS2.out⟩) ?_
              clear ho hf hdeps hsat hS hS2 HS2 v0 v1 v2 v3
              go_simp
            | 3, _ =>
              obtain rfl := Option.some.inj ho
              refine ⟨fun _ => ?_, fun hno => absurd hno (by simp [Region.wanted])⟩
              have t75 : b.tmps[75]? = some (.int .i64 (fr' : Int)) := (hsat.done 2 75 (hdeps ⟨2, .data⟩ (by simp) rfl) rfl (by simp)).trans (congrArg some v2)
              have hS2 : SE wc w.heap.size (w.heap.size + 1) (accL zeroAcc) (faultL 13 fr') ((listed.setIfInBounds 3 true).getD 4 false) ((listed.setIfInBounds 3 true).getD 5 false) W' := by
                rw [getD_set (by omega), getD_set (by omega), if_neg (by omega), if_neg (by omega)]
                exact hS
              have HS2 := Hid.hide hS2
              rw [v3]
              refine Oper.wp_mono (fun a' w' (h : a' = b.put (some 76) (.agg #[.int .i64 13, .int .i64 0, .int .i64 0, .int .i64 (fr' : Int)]) ∧ w' = W') => ⟨h.1, by rw [h.2]; exact HS2.out⟩) ?_
              clear ho hf hdeps hsat hS hS2 HS2 v0 v1 v2 v3
              go_simp
            | 4, _ =>
              obtain rfl := Option.some.inj ho
              refine ⟨fun _ => ?_, fun hno => absurd hno (by simp [Region.wanted])⟩
              have t2 : b.tmps[2]? = some (.pointer (some ⟨w.heap.size, 0, none⟩)) := (hsat.rest 2 (fun i _ => noDst_of (by kernel_rfl) i)).trans rfl
              have t73 : b.tmps[73]? = some (.agg (accL zeroAcc).toArray) := (hsat.done 0 73 (hdeps ⟨0, .data⟩ (by simp) rfl) rfl (by simp)).trans (congrArg some v0)
              refine wp_store_mid 85 (.tmp 2) (.tmp 73) rfl w.heap.size 0 (accL zeroAcc).toArray (by simp only [Act.eval, Array.getD_eq_getD_getElem?, t2, Option.getD_some]) (by simp only [Act.eval, Array.getD_eq_getD_getElem?, t73, Option.getD_some]) (by rw [List.size_toArray]; exact hS.t0) (by rw [hLz]; exact zeroA_size) zeroA_one ⟨rfl, ?_⟩
              rw [getD_set (by omega), getD_set (by omega), if_pos rfl, if_neg (by omega)]
              exact hS.store0 hne
            | 5, _ =>
              obtain rfl := Option.some.inj ho
              refine ⟨fun _ => ?_, fun hno => absurd hno (by simp [Region.wanted])⟩
              have t3 : b.tmps[3]? = some (.pointer (some ⟨w.heap.size + 1, 0, none⟩)) := (hsat.rest 3 (fun i _ => noDst_of (by kernel_rfl) i)).trans rfl
              have t76 : b.tmps[76]? = some (.agg (faultL 13 fr').toArray) := (hsat.done 3 76 (hdeps ⟨3, .data⟩ (by simp) rfl) rfl (by simp)).trans (congrArg some v3)
              refine wp_store_mid 66 (.tmp 3) (.tmp 76) rfl (w.heap.size + 1) 0 (faultL 13 fr').toArray (by simp only [Act.eval, Array.getD_eq_getD_getElem?, t3, Option.getD_some]) (by simp only [Act.eval, Array.getD_eq_getD_getElem?, t76, Option.getD_some]) hS.t1 faultSize (faultL_one 13 fr') ⟨rfl, ?_⟩
              rw [getD_set (by omega), getD_set (by omega), if_neg (by omega), if_pos rfl]
              exact hS.store1 hne
          · have h0 : SE wc w.heap.size (w.heap.size + 1) (accL zeroAcc) (faultL 13 fr') false false wc := SE.start (by rw [zeroA_length]; exact D0.out.r0) D0.out.r1
            exact h0.drew
          · intro W' hS
            have hS' : SE wc w.heap.size (w.heap.size + 1) (accL zeroAcc) (faultL 13 fr') true true W' := hS
            have HS' := Hid.hide hS'
            clear hS hS' hf v0 v1 v2 v3
            go_wp2_with fail
            exact bodyPost_ret (v := .tuple #[.agg (accL zeroAcc).toArray, faultV 13 0 0 fr']) (HS'.out.result zeroA_length D0.out.below (Nat.le_refl _) (by omega) Tryz.results122 rfl rfl).1 rfl ⟨⟨_, HV.out, rfl⟩, HS'.out.below D0.out.below (Nat.le_refl _) (by omega)⟩
    · have hk4 : k = 4 := by omega
      subst hk4
      have hki : (4 : Int) ≤ ((4 : Nat) : Int) := by omega
      have D1 : Hid (DA w xb (encR ⟨fr, en, true, tx, .slice (some ⟨g, 0, none⟩) 4 c⟩) 0 0 wr) := R0.out.step hB
      have q0 : 0 < ps.length := by rw [HL.out]; omega
      have q1 : 1 < ps.length := by rw [HL.out]; omega
      have q2 : 2 < ps.length := by rw [HL.out]; omega
      have q3 : 3 < ps.length := by rw [HL.out]; omega
      have HR4 : Hid (∀ i (h : i < ps.length), wr.cell? ⟨g, i * 5 + 1, none⟩ = some (.string ps[i].text)) := fun i h => by
        have := HC.out i h 1 (.string ps[i].text) rfl
        exact (hB.cell (World.block_lt_of_cell? W _ this)).trans this
      have HG4 : Hid (∀ i (hi : i < ps.length), badAt i ps[i] = false) := fun i hi => hgood i hi (by rw [HL.out] at hi; exact hi)
      have hn0 := badAt_numOf q0 (by omega) (HG4.out 0 q0)
      have hn1 := badAt_numOf q1 (by omega) (HG4.out 1 q1)
      have hn2 := badAt_hashOf q2 (by omega) (HG4.out 2 q2)
      have hn3 := badAt_hashOf q3 (by omega) (HG4.out 3 q3)
      have g0 : wr.cell? ⟨g, 1, none⟩ = _ := HR4.out 0 q0
      have g1 : wr.cell? ⟨g, 6, none⟩ = _ := HR4.out 1 q1
      have g2 : wr.cell? ⟨g, 11, none⟩ = _ := HR4.out 2 q2
      have g3 : wr.cell? ⟨g, 16, none⟩ = _ := HR4.out 3 q3
      obtain ⟨t0, ht0⟩ : ∃ t, ps[0].text = t := ⟨_, rfl⟩
      obtain ⟨t1, ht1⟩ : ∃ t, ps[1].text = t := ⟨_, rfl⟩
      obtain ⟨t2, ht2⟩ : ∃ t, ps[2].text = t := ⟨_, rfl⟩
      obtain ⟨t3, ht3⟩ : ∃ t, ps[3].text = t := ⟨_, rfl⟩
      have HTx : Hid (ps[0].text = t0 ∧ ps[1].text = t1 ∧ ps[2].text = t2 ∧ ps[3].text = t3) := ⟨ht0, ht1, ht2, ht3⟩
      rw [ht0] at hn0 g0
      rw [ht1] at hn1 g1
      rw [ht2] at hn2 g2
      rw [ht3] at hn3 g3
      have HN4 : Hid (t0.size ≤ 8 ∧ t1.size ≤ 8 ∧ t2.size = 32 ∧ t3.size = 32) := ⟨hn0, hn1, hn2, hn3⟩
      have gl : g < wr.heap.size := by simpa using World.block_lt_of_cell? wr _ g0
      have ng : g ≠ w.heap.size + 2 := by
        intro e
        have h0 := (D1.out.a.2 1 _ rfl).1
        rw [e] at g0
        have := g0.symm.trans h0
        cases this
      have zl := (hB.size : W.heap.size ≤ wr.heap.size)
      have nx : xb ≠ w.heap.size + 2 := by have := R0.out.hxb; omega
      have AL : Aside (Only (w.heap.size + 2) wr wr) := Only.refl _ _
      clear hB hgood hlt hk hn0 hn1 hn2 hn3 ht0 ht1 ht2 ht3
      obtain ⟨V, rfl⟩ : ∃ V, V = wr := ⟨_, rfl⟩
      go_wp2
      go_loopg [10] t0.size (fun gh i wr => ∃ k n, k ≤ t0.size ∧ gh = t0.size - k ∧ i = .int .i64 (k : Int) ∧ n = numB ((bytesOf t0).take k) ∧ Only (w.heap.size + 2) V wr ∧ Held wr (w.heap.size + 2) (accL ⟨n, 0, nought32, nought32⟩))
      case atStart => exact ⟨0, 0, by omega, rfl, rfl, rfl, Only.refl _ _, D1.out.a⟩
      case round =>
        obtain ⟨k, n, hk, rfl, rfl, hn, hO, hA⟩ := hrel
        have kb : ∀ b, b < V.heap.size → b ≠ w.heap.size + 2 → wr.heap[b]? = V.heap[b]? := fun b h1 h2 => hO.block b h1 h2
        have xw : xb < V.heap.size := by have := D1.out.x.1; exact this
        have e2 : wr.cell? ⟨xb, 2, none⟩ = some (.slice (some ⟨g, 0, none⟩) 4 c) := (World.cell?_of_block (kb xb xw nx)).trans (D1.out.x.2 2 _ rfl).1
        have e0 : wr.cell? ⟨g, 1, none⟩ = some (.string t0) := (World.cell?_of_block (kb g gl ng)).trans g0
        by_cases hlt : k < t0.size
        · have hki : (k : Int) < (t0.size : Int) := by omega
          obtain ⟨a0, af0⟩ := hA.2 0 _ rfl
          have a0' : wr.cell? ⟨w.heap.size + 1 + 1, 0, none⟩ = some (.int .u64 (n : Int)) := a0
          have af0' : wr.frozen? ⟨w.heap.size + 1 + 1, 0, none⟩ = false := af0
          have hal := hA.1
          have hal' : w.heap.size + 1 + 1 < wr.heap.size := hal
          obtain ⟨bt, hbt⟩ : ∃ bt, t0[k].toNat = bt := ⟨_, rfl⟩
          have A3 : Aside (Only (w.heap.size + 2) V wr ∧ Held wr (w.heap.size + 2) (accL ⟨n, 0, nought32, nought32⟩) ∧ n * 256 + bt = numB ((bytesOf t0).take (k + 1)) ∧ n * 256 + bt < 18446744073709551616) := by
            have h1 := numB_step t0 k hlt
            rw [hbt, ← hn] at h1
            exact ⟨hO, hA, h1.1, h1.2 (by have := HN4.out; omega)⟩
          have HWr := Hid.hide (wrap_add8 n bt A3.out.2.2.2)
          clear kb hO hA hn a0 af0
          go_wp2_with fail
          go_region
          go_wp2
          go_roundg (t0.size - (k + 1))
          case measure => omega
          case rel =>
            refine ⟨k + 1, n * 256 + bt, by omega, rfl, val_int (wrap64_nat1' k (by have := HN4.out; omega)), A3.out.2.2.1, (A3.out.1.setSelf 0 _).drew, ?_⟩
            rw [HWr.out]
            exact A3.out.2.1.setAt 0 (encL (n * 256 + bt)) (by show 0 < (accL ⟨n, 0, nought32, nought32⟩).length; rw [accL_length rfl rfl]; omega)
        · have hki : (t0.size : Int) ≤ (k : Int) := by omega
          have hn2 : n = numB (bytesOf t0) := by rw [hn, List.take_of_length_le (by rw [bytesOf_length]; omega)]
          have HN2 := Hid.hide hn2
          obtain ⟨V2, rfl⟩ : ∃ V2, V2 = wr := ⟨_, rfl⟩
          have A4 : Aside (Only (w.heap.size + 2) V V2 ∧ Held V2 (w.heap.size + 2) (accL ⟨n, 0, nought32, nought32⟩)) := ⟨hO, hA⟩
          clear kb hO hA hn hn2 hlt hk
          go_wp2
          go_loopg [11] t1.size (fun gh i wr => ∃ k b, k ≤ t1.size ∧ gh = t1.size - k ∧ i = .int .i64 (k : Int) ∧ b = numB ((bytesOf t1).take k) ∧ Only (w.heap.size + 2) V wr ∧ Held wr (w.heap.size + 2) (accL ⟨n, b, nought32, nought32⟩))
          case atStart => exact ⟨0, 0, by omega, rfl, rfl, rfl, A4.out⟩
          case round =>
            obtain ⟨k, b, hk, rfl, rfl, hn, hO, hA⟩ := hrel
            have kb : ∀ b, b < V.heap.size → b ≠ w.heap.size + 2 → wr.heap[b]? = V.heap[b]? := fun b h1 h2 => hO.block b h1 h2
            have e2 : wr.cell? ⟨xb, 2, none⟩ = some (.slice (some ⟨g, 0, none⟩) 4 c) := (World.cell?_of_block (kb xb xw nx)).trans (D1.out.x.2 2 _ rfl).1
            have e0 : wr.cell? ⟨g, 6, none⟩ = some (.string t1) := (World.cell?_of_block (kb g gl ng)).trans g1
            by_cases hlt : k < t1.size
            · have hki : (k : Int) < (t1.size : Int) := by omega
              obtain ⟨a0, af0⟩ := hA.2 1 _ rfl
              have a0' : wr.cell? ⟨w.heap.size + 1 + 1, 1, none⟩ = some (.int .u64 (b : Int)) := a0
              have af0' : wr.frozen? ⟨w.heap.size + 1 + 1, 1, none⟩ = false := af0
              have hal := hA.1
              have hal' : w.heap.size + 1 + 1 < wr.heap.size := hal
              obtain ⟨bt, hbt⟩ : ∃ bt, t1[k].toNat = bt := ⟨_, rfl⟩
              have A5 : Aside (Only (w.heap.size + 2) V wr ∧ Held wr (w.heap.size + 2) (accL ⟨n, b, nought32, nought32⟩) ∧ b * 256 + bt = numB ((bytesOf t1).take (k + 1)) ∧ b * 256 + bt < 18446744073709551616) := by
                have h1 := numB_step t1 k hlt
                rw [hbt, ← hn] at h1
                exact ⟨hO, hA, h1.1, h1.2 (by have := HN4.out; omega)⟩
              have HWr := Hid.hide (wrap_add8 b bt A5.out.2.2.2)
              clear kb hO hA hn a0 af0
              go_wp2_with fail
              go_region
              go_wp2
              go_roundg (t1.size - (k + 1))
              case measure => omega
              case rel =>
                refine ⟨k + 1, b * 256 + bt, by omega, rfl, val_int (wrap64_nat1' k (by have := HN4.out; omega)), A5.out.2.2.1, (A5.out.1.setSelf 1 _).drew, ?_⟩
                rw [HWr.out]
                exact A5.out.2.1.setAt 1 (encL (b * 256 + bt)) (by show 1 < (accL ⟨n, b, nought32, nought32⟩).length; rw [accL_length rfl rfl]; omega)
            · have hki : (t1.size : Int) ≤ (k : Int) := by omega
              have hb2 : b = numB (bytesOf t1) := by rw [hn, List.take_of_length_le (by rw [bytesOf_length]; omega)]
              have HB2 := Hid.hide hb2
              obtain ⟨V3, rfl⟩ : ∃ V3, V3 = wr := ⟨_, rfl⟩
              have e11 : V3.cell? ⟨g, 11, none⟩ = some (.string t2) := (World.cell?_of_block (kb g gl ng)).trans g2
              have e16 : V3.cell? ⟨g, 16, none⟩ = some (.string t3) := (World.cell?_of_block (kb g gl ng)).trans g3
              have gl3 : g < V3.heap.size := Nat.lt_of_lt_of_le gl hO.size
              have xw3 : xb < V3.heap.size := Nat.lt_of_lt_of_le xw hO.size
              have A6 : Aside (Only (w.heap.size + 2) V V3 ∧ Held V3 (w.heap.size + 2) (accL ⟨n, b, nought32, nought32⟩)) := ⟨hO, hA⟩
              have HH2 : Hid (∀ X, Calls Tryz.prog 177 #[.string t2] X fun e w' => e = .returned (.agg ((bytesOf t2).map encB).toArray) ∧ Below X.heap.size X w') := fun X => hash_ref t2 HN4.out.2.2.1 X
              have HH3 : Hid (∀ X, Calls Tryz.prog 177 #[.string t3] X fun e w' => e = .returned (.agg ((bytesOf t3).map encB).toArray) ∧ Below X.heap.size X w') := fun X => hash_ref t3 HN4.out.2.2.2 X
              have hl2 : (bytesOf t2).length = 32 := by rw [bytesOf_length]; exact HN4.out.2.2.1
              have hl3 : (bytesOf t3).length = 32 := by rw [bytesOf_length]; exact HN4.out.2.2.2
              have HLL : Hid ((bytesOf t2).length = 32 ∧ (bytesOf t3).length = 32) := ⟨hl2, hl3⟩
              clear kb hO hA hn hb2 hlt hk hl2 hl3 A4
              go_wp2_with fail
              refine (HH2.out _).mono ?_
              rintro e h1 ⟨rfl, hbh⟩
              have A7 : Aside (Below V3.heap.size V3 h1 ∧ Held h1 (w.heap.size + 2) (accL ⟨n, b, nought32, nought32⟩)) := ⟨hbh, A6.out.2.below hbh⟩
              have th2 : h1.there (w.heap.size + 1 + 1) 2 ((bytesOf t2).map encB).toArray.size := by
                rw [show ((bytesOf t2).map encB).toArray.size = 32 by rw [List.size_toArray, List.length_map, HLL.out.1]]
                exact A7.out.2.there (by rw [accL_length rfl rfl]; omega)
              have zA2 : (Tryz.prog.info? 34).map (·.size) = some ((bytesOf t2).map encB).toArray.size := by rw [List.size_toArray, List.length_map, HLL.out.1]; exact size28
              have oA2 := encB_one32 (bytesOf t2)
              have n11 : h1.cell? ⟨g, 16, none⟩ = some (.string t3) := (hbh.cell (p := ⟨g, 16, none⟩) gl3).trans e16
              have n2x : h1.cell? ⟨xb, 2, none⟩ = some (.slice (some ⟨g, 0, none⟩) 4 c) := (hbh.cell (p := ⟨xb, 2, none⟩) xw3).trans e2
              clear hbh e11 e16 e2 e0
              go_upto_region 26 with (refine wpList_store_mid rfl 34 _ _ rfl (w.heap.size + 1 + 1) 2 ((bytesOf t2).map encB).toArray rfl rfl th2 zA2 oA2 ?_)
              obtain ⟨V4, hV4⟩ : ∃ V4, V4 = h1.setCells (w.heap.size + 2) 2 ((bytesOf t2).map encB) := ⟨_, rfl⟩
              rw [show h1.setCells (w.heap.size + 1 + 1) 2 ((bytesOf t2).map encB).toArray.toList = V4 from hV4.symm]
              have A8 : Aside (Only (w.heap.size + 2) V V4 ∧ Held V4 (w.heap.size + 2) (accL ⟨n, b, bytesOf t2, nought32⟩)) := by
                rw [hV4]
                refine ⟨(A6.out.1.trans (Only.of_below A7.out.1)).setsSelf 2 _, ?_⟩
                have h0 := A7.out.2
                rw [accL_root] at h0 ⊢
                exact h0.splice rfl (by rw [List.length_map, List.length_map, HLL.out.1]; rfl)
              have ng' : g ≠ w.heap.size + 2 := ng
              have e16 : V4.cell? ⟨g, 16, none⟩ = some (.string t3) := by rw [hV4]; exact (World.cell?_of_block (heap_setCells _ _ _ _ _ ng')).trans n11
              have e2 : V4.cell? ⟨xb, 2, none⟩ = some (.slice (some ⟨g, 0, none⟩) 4 c) := by rw [hV4]; exact (World.cell?_of_block (heap_setCells _ _ _ _ _ nx)).trans n2x
              clear hV4 n11 n2x th2 zA2 oA2
              go_wp2_with fail
              refine (HH3.out _).mono ?_
              rintro e h2 ⟨rfl, hbh⟩
              have A9 : Aside (Below V4.heap.size V4 h2 ∧ Held h2 (w.heap.size + 2) (accL ⟨n, b, bytesOf t2, nought32⟩)) := ⟨hbh, A8.out.2.below hbh⟩
              have th3 : h2.there (w.heap.size + 1 + 1) 34 ((bytesOf t3).map encB).toArray.size := by
                rw [show ((bytesOf t3).map encB).toArray.size = 32 by rw [List.size_toArray, List.length_map, HLL.out.2]]
                exact A9.out.2.there (by rw [accL_length HLL.out.1 rfl]; omega)
              have zA3 : (Tryz.prog.info? 34).map (·.size) = some ((bytesOf t3).map encB).toArray.size := by rw [List.size_toArray, List.length_map, HLL.out.2]; exact size28
              have oA3 := encB_one32 (bytesOf t3)
              clear hbh e16 e2
              go_upto_region 27 with (refine wpList_store_mid rfl 34 _ _ rfl (w.heap.size + 1 + 1) 34 ((bytesOf t3).map encB).toArray rfl rfl th3 zA3 oA3 ?_)
              obtain ⟨V5, hV5⟩ : ∃ V5, V5 = h2.setCells (w.heap.size + 2) 34 ((bytesOf t3).map encB) := ⟨_, rfl⟩
              rw [show h2.setCells (w.heap.size + 1 + 1) 34 ((bytesOf t3).map encB).toArray.toList = V5 from hV5.symm]
              have AX : Aside (Only (w.heap.size + 2) V V5 ∧ Held V5 (w.heap.size + 2) (accL ⟨n, b, bytesOf t2, bytesOf t3⟩)) := by
                rw [hV5]
                refine ⟨(A8.out.1.trans (Only.of_below A9.out.1)).setsSelf 34 _, ?_⟩
                have h0 := A9.out.2
                rw [accL_code] at h0 ⊢
                exact h0.splice (by simp only [List.length_append, List.length_map, HLL.out.1, List.length_cons, List.length_nil]) (by rw [List.length_map, List.length_map, HLL.out.2]; rfl)
              clear hV5 th3 zA3 oA3
              have HRv : Hid (R (.tuple #[.agg (accL ⟨n, b, bytesOf t2, bytesOf t3⟩).toArray, faultV 0 0 0 0])) := by
                have h0 := HGd.out q0 q1 q2 q3 HG4.out
                obtain ⟨i0, i1, i2, i3⟩ := HTx.out
                rw [i0, i1, i2, i3, ← HN2.out, ← HB2.out] at h0
                exact h0
              obtain ⟨L5, hL5⟩ : ∃ L5, accL ⟨n, b, bytesOf t2, bytesOf t3⟩ = L5 := ⟨_, rfl⟩
              have hlen : L5.length = 66 := by rw [← hL5]; exact accL_length HLL.out.1 HLL.out.2
              have oL5 : L5.toArray.all (·.oneCell') = true := by rw [← hL5]; exact accL_one _
              rw [hL5] at AX HRv
              have hv0 : V5.heap[w.heap.size]? = V.heap[w.heap.size]? := AX.out.1.block _ (by have := D1.out.a.1; omega) (by omega)
              have hv1 : V5.heap[w.heap.size + 1]? = V.heap[w.heap.size + 1]? := AX.out.1.block _ (by have := D1.out.a.1; omega) (by omega)
              have hBV : Below w.heap.size w V5 := AX.out.1.below D1.out.below (by omega) D1.out.below.size
              have hS0 : SE V5 w.heap.size (w.heap.size + 1) L5 (faultL 0 0) false false V5 := SE.start (by rw [hlen]; exact there_block D1.out.r0 hv0) (there_block D1.out.r1 hv1)
              have hne : w.heap.size ≠ w.heap.size + 1 := by omega
              have hS1 := hS0.store0 hne
              have AS : Aside (SE V5 w.heap.size (w.heap.size + 1) L5 (faultL 0 0) true true ((V5.setCells w.heap.size 0 L5).setCells (w.heap.size + 1) 0 (faultL 0 0)) ∧ Below w.heap.size w V5) := ⟨hS1.store1 hne, hBV⟩
              have s0 : V5.there w.heap.size 0 L5.toArray.size := by rw [show L5.toArray.size = L5.length from List.size_toArray]; exact hS0.t0
              have s1 : (V5.setCells w.heap.size 0 L5).there (w.heap.size + 1) 0 (faultL 0 0).toArray.size := hS1.t1
              have hrL : V5.rangeAt (w.heap.size + 2) 0 L5 := fun j u hu => by rw [Nat.zero_add]; exact (AX.out.2.2 j u hu).1
              have hzL : (Tryz.prog.info? 85).map (·.size) = some L5.length := by rw [hlen]; exact zeroA_size
              have hzA : (Tryz.prog.info? 85).map (·.size) = some L5.toArray.size := by rw [show L5.toArray.size = L5.length from List.size_toArray]; exact hzL
              have HLn := Hid.hide hlen
              clear hS0 hS1 hne hv0 hv1 hBV hL5 hlen
              go_wp2_with (first
                | (refine wpList_load_mid rfl 85 _ rfl (w.heap.size + 1 + 1) 0 rfl L5 _ hrL Tryz.underlying85 rfl hzL ?_)
                | (refine wpList_store_mid rfl 85 _ _ rfl w.heap.size 0 L5.toArray rfl rfl s0 hzA oL5 ?_)
                | (refine wpList_store_mid rfl 66 _ _ rfl (w.heap.size + 1) 0 (faultL 0 0).toArray rfl rfl s1 faultSize (faultL_one 0 0) ?_))
              exact bodyPost_ret (v := .tuple #[.agg L5.toArray, faultV 0 0 0 0]) (AS.out.1.result HLn.out AS.out.2 (Nat.le_refl _) (by omega) Tryz.results122 rfl rfl).1 rfl ⟨⟨_, HRv.out, rfl⟩, AS.out.1.below AS.out.2 (Nat.le_refl _) (by omega)⟩
end Go.Proofs.YtjiikjpnlgogfaaGreatDoor
