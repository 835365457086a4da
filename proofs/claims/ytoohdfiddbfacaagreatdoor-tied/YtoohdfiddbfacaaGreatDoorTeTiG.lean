/-
  Tied: what holds on its way to the two trees.
-/
import Derived.Test.YtoohdfiddbfacaaGreatDoorTeSpG
import Derived.Test.YtoohdfiddbfacaaGreatDoorTeSuG
namespace Go.Proofs.YtoohdfiddbfacaaGreatDoor
open Go.RowKit
set_option maxRecDepth 100000
set_option maxHeartbeats 25600000
def TiU (w : World) (n1 n2 sb ab : Nat) (ks vs ks2 vs2 : Value) (k : Nat) : Prop :=
 k = w.heap.size \/ k = n1 \/ k = n2 \/ k = sb \/ k = ab \/ ks.ownBlock = some k \/ vs.ownBlock = some k \/ ks2.ownBlock = some k \/ vs2.ownBlock = some k
structure TiM (w : World) (ow : List Nat) (n1 n2 sb ab : Nat) (ks vs ks2 vs2 : Value) (m o : Mp) (sl kat : List Nat) (W : World) : Prop where
 below : Below w.heap.size w W
 own : W.rangeAt w.heap.size 0 (ow.map encB)
 box1 : W.heap[n1]? = some (.cells #[ks, vs] 27 (0, 0))
 box2 : W.heap[n2]? = some (.cells #[ks2, vs2] 27 (0, 0))
 kn1 : Kn W w.heap.size ks vs m
 kn2 : Kn W w.heap.size ks2 vs2 o
 slot : W.rangeAt sb 0 (sl.map encB)
 at_ : W.rangeAt ab 0 (kat.map encB)
 lt : ∀ k, TiU w n1 n2 sb ab ks vs ks2 vs2 k -> k < W.heap.size /\ w.heap.size <= k
theorem TiM.keep {w : World} {ow : List Nat} {n1 n2 sb ab : Nat} {ks vs ks2 vs2 : Value} {m o : Mp} {sl kat : List Nat} {W W' : World} (h : TiM w ow n1 n2 sb ab ks vs ks2 vs2 m o sl kat W) (hb : Below w.heap.size w W') (hs : W.heap.size <= W'.heap.size) (hk : ∀ k, TiU w n1 n2 sb ab ks vs ks2 vs2 k -> W'.heap[k]? = W.heap[k]?) : TiM w ow n1 n2 sb ab ks vs ks2 vs2 m o sl kat W' :=
 ⟨hb, rangeAt_block h.own (hk _ (by simp [TiU])), (hk _ (by simp [TiU])).trans h.box1, (hk _ (by simp [TiU])).trans h.box2,
  h.kn1.keep2 hs fun j hj => hk j (by rcases hj with e | e <;> simp [TiU, e]), h.kn2.keep2 hs fun j hj => hk j (by rcases hj with e | e <;> simp [TiU, e]),
  rangeAt_block h.slot (hk _ (by simp [TiU])), rangeAt_block h.at_ (hk _ (by simp [TiU])), fun k hk' => ⟨Nat.lt_of_lt_of_le (h.lt k hk').1 hs, (h.lt k hk').2⟩⟩
theorem TiM.more {w : World} {ow : List Nat} {n1 n2 sb ab : Nat} {ks vs ks2 vs2 : Value} {m o : Mp} {sl kat : List Nat} {W W' : World} (h : TiM w ow n1 n2 sb ab ks vs ks2 vs2 m o sl kat W) (hb : Below W.heap.size W W') : TiM w ow n1 n2 sb ab ks vs ks2 vs2 m o sl kat W' :=
 h.keep (h.below.behind' hb) hb.size fun k hk => hb.block k (h.lt k hk).1
theorem TiM.only {w : World} {ow : List Nat} {n1 n2 sb ab : Nat} {ks vs ks2 vs2 : Value} {m o : Mp} {sl kat : List Nat} {W W' : World} {g : Nat} (h : TiM w ow n1 n2 sb ab ks vs ks2 vs2 m o sl kat W) (hb : Only g W W') (h1 : w.heap.size <= g) (hn : ¬ TiU w n1 n2 sb ab ks vs ks2 vs2 g) : TiM w ow n1 n2 sb ab ks vs ks2 vs2 m o sl kat W' :=
 h.keep (hb.below h.below h1 h.below.size) hb.size fun k hk => hb.block k (h.lt k hk).1 fun e => hn (e ▸ hk)
theorem TiM.fr {w : World} {ow : List Nat} {n1 n2 sb ab : Nat} {ks vs ks2 vs2 : Value} {m o : Mp} {sl kat : List Nat} {W W' : World} {B : Nat} {S S' : Wood} (h : TiM w ow n1 n2 sb ab ks vs ks2 vs2 m o sl kat W) (hf : Forest B S W) (hB : w.heap.size <= B) (hr : FrX B (fun _ => False) S S' W W') (hn : ∀ k, TiU w n1 n2 sb ab ks vs ks2 vs2 k -> S k = none) : TiM w ow n1 n2 sb ab ks vs ks2 vs2 m o sl kat W' :=
 h.keep (h.below.trans ((hr.below hf fun _ h => h.elim).mono hB)) hr.size fun k hk => hr.other k (h.lt k hk).1 (hn k hk) fun h => h
theorem TiM.set1 {w : World} {ow : List Nat} {n1 n2 sb ab : Nat} {ks vs ks2 vs2 ks' vs' : Value} {m m' o : Mp} {sl kat : List Nat} {W W' : World} (h : TiM w ow n1 n2 sb ab ks vs ks2 vs2 m o sl kat W) (hb : Only n1 W W') (h1 : n1 ≠ w.heap.size /\ n1 ≠ n2 /\ n1 ≠ sb /\ n1 ≠ ab /\ ks2.ownBlock ≠ some n1 /\ vs2.ownBlock ≠ some n1) (hk : Kn W' w.heap.size ks' vs' m') (hbx : W'.heap[n1]? = some (.cells #[ks', vs'] 27 (0, 0))) : TiM w ow n1 n2 sb ab ks' vs' ks2 vs2 m' o sl kat W' := by
 obtain ⟨i, l, n, p, q, r⟩ := h1
 have c : ∀ k, TiU w n1 n2 sb ab ks vs ks2 vs2 k -> k ≠ n1 -> W'.heap[k]? = W.heap[k]? := fun k hk g => hb.block k (h.lt k hk).1 g
 refine ⟨hb.below h.below (h.lt n1 (by simp [TiU])).2 h.below.size, rangeAt_block h.own (c _ (by simp [TiU]) i.symm), hbx, (c _ (by simp [TiU]) l.symm).trans h.box2, hk,
  h.kn2.keep2 hb.size fun j d => c j (by rcases d with e | e <;> simp [TiU, e]) (by rintro rfl; exact d.elim q r),
  rangeAt_block h.slot (c _ (by simp [TiU]) n.symm), rangeAt_block h.at_ (c _ (by simp [TiU]) p.symm), fun k f => ?_⟩
 rcases f with e | e | e | e | e | e | e | e | e
 ·obtain ⟨a, b⟩ := h.lt k (.inl e); exact ⟨Nat.lt_of_lt_of_le a hb.size, b⟩
 ·obtain ⟨a, b⟩ := h.lt k (.inr (.inl e)); exact ⟨Nat.lt_of_lt_of_le a hb.size, b⟩
 ·obtain ⟨a, b⟩ := h.lt k (.inr (.inr (.inl e))); exact ⟨Nat.lt_of_lt_of_le a hb.size, b⟩
 ·obtain ⟨a, b⟩ := h.lt k (.inr (.inr (.inr (.inl e)))); exact ⟨Nat.lt_of_lt_of_le a hb.size, b⟩
 ·obtain ⟨a, b⟩ := h.lt k (.inr (.inr (.inr (.inr (.inl e))))); exact ⟨Nat.lt_of_lt_of_le a hb.size, b⟩
 ·exact ⟨(hk.keys.block k e).2, (hk.keys.block k e).1⟩
 ·exact ⟨(hk.vals.block k e).2, (hk.vals.block k e).1⟩
 ·obtain ⟨a, b⟩ := h.lt k (by simp [TiU, e]); exact ⟨Nat.lt_of_lt_of_le a hb.size, b⟩
 ·obtain ⟨a, b⟩ := h.lt k (by simp [TiU, e]); exact ⟨Nat.lt_of_lt_of_le a hb.size, b⟩
theorem TiM.set2 {w : World} {ow : List Nat} {n1 n2 sb ab : Nat} {ks vs ks2 vs2 ks' vs' : Value} {m m' o : Mp} {sl kat : List Nat} {W W' : World} (h : TiM w ow n1 n2 sb ab ks vs ks2 vs2 m o sl kat W) (hb : Only n2 W W') (h1 : n2 ≠ w.heap.size /\ n2 ≠ n1 /\ n2 ≠ sb /\ n2 ≠ ab /\ ks.ownBlock ≠ some n2 /\ vs.ownBlock ≠ some n2) (hk : Kn W' w.heap.size ks' vs' m') (hbx : W'.heap[n2]? = some (.cells #[ks', vs'] 27 (0, 0))) : TiM w ow n1 n2 sb ab ks vs ks' vs' m m' sl kat W' := by
 obtain ⟨i, l, n, p, q, r⟩ := h1
 have c : ∀ k, TiU w n1 n2 sb ab ks vs ks2 vs2 k -> k ≠ n2 -> W'.heap[k]? = W.heap[k]? := fun k hk g => hb.block k (h.lt k hk).1 g
 refine ⟨hb.below h.below (h.lt n2 (by simp [TiU])).2 h.below.size, rangeAt_block h.own (c _ (by simp [TiU]) i.symm), (c _ (by simp [TiU]) l.symm).trans h.box1, hbx,
  h.kn1.keep2 hb.size fun j d => c j (by rcases d with e | e <;> simp [TiU, e]) (by rintro rfl; exact d.elim q r), hk,
  rangeAt_block h.slot (c _ (by simp [TiU]) n.symm), rangeAt_block h.at_ (c _ (by simp [TiU]) p.symm), fun k f => ?_⟩
 rcases f with e | e | e | e | e | e | e | e | e
 ·obtain ⟨a, b⟩ := h.lt k (.inl e); exact ⟨Nat.lt_of_lt_of_le a hb.size, b⟩
 ·obtain ⟨a, b⟩ := h.lt k (.inr (.inl e)); exact ⟨Nat.lt_of_lt_of_le a hb.size, b⟩
 ·obtain ⟨a, b⟩ := h.lt k (.inr (.inr (.inl e))); exact ⟨Nat.lt_of_lt_of_le a hb.size, b⟩
 ·obtain ⟨a, b⟩ := h.lt k (.inr (.inr (.inr (.inl e)))); exact ⟨Nat.lt_of_lt_of_le a hb.size, b⟩
 ·obtain ⟨a, b⟩ := h.lt k (.inr (.inr (.inr (.inr (.inl e))))); exact ⟨Nat.lt_of_lt_of_le a hb.size, b⟩
 ·obtain ⟨a, b⟩ := h.lt k (by simp [TiU, e]); exact ⟨Nat.lt_of_lt_of_le a hb.size, b⟩
 ·obtain ⟨a, b⟩ := h.lt k (by simp [TiU, e]); exact ⟨Nat.lt_of_lt_of_le a hb.size, b⟩
 ·exact ⟨(hk.keys.block k e).2, (hk.keys.block k e).1⟩
 ·exact ⟨(hk.vals.block k e).2, (hk.vals.block k e).1⟩
def Dn13 (d0 d1 d2 d3 d4 d5 d6 d7 d8 : Bool) : Prop := (d8 = true -> d7 = true) /\ (d7 = true -> d0 = true /\ d2 = true /\ d6 = true) /\ (d6 = true -> d5 = true) /\ (d5 = true -> d4 = true) /\ (d4 = true -> d3 = true) /\ (d2 = true -> d1 = true)
instance (d0 d1 d2 d3 d4 d5 d6 d7 d8 : Bool) : Decidable (Dn13 d0 d1 d2 d3 d4 d5 d6 d7 d8) := by unfold Dn13; infer_instance
theorem dk0 : ∀ {d0 d1 d2 d3 d4 d5 d6 d7 d8 : Bool}, Dn13 d0 d1 d2 d3 d4 d5 d6 d7 d8 -> d0 = false -> (d8 = false /\ d7 = false) /\ Dn13 true d1 d2 d3 d4 d5 d6 d7 d8 := by decide
theorem dk1 : ∀ {d0 d1 d2 d3 d4 d5 d6 d7 d8 : Bool}, Dn13 d0 d1 d2 d3 d4 d5 d6 d7 d8 -> d1 = false -> (d8 = false /\ d7 = false) /\ Dn13 d0 true d2 d3 d4 d5 d6 d7 d8 := by decide
theorem dk2 : ∀ {d0 d1 d2 d3 d4 d5 d6 d7 d8 : Bool}, Dn13 d0 d1 d2 d3 d4 d5 d6 d7 d8 -> d2 = false -> d1 = true -> (d8 = false /\ d7 = false) /\ Dn13 d0 d1 true d3 d4 d5 d6 d7 d8 := by decide
theorem dk3 : ∀ {d0 d1 d2 d3 d4 d5 d6 d7 d8 : Bool}, Dn13 d0 d1 d2 d3 d4 d5 d6 d7 d8 -> d3 = false -> (d8 = false /\ d7 = false) /\ Dn13 d0 d1 d2 true d4 d5 d6 d7 d8 := by decide
theorem dk4 : ∀ {d0 d1 d2 d3 d4 d5 d6 d7 d8 : Bool}, Dn13 d0 d1 d2 d3 d4 d5 d6 d7 d8 -> d4 = false -> d3 = true -> (d8 = false /\ d7 = false) /\ Dn13 d0 d1 d2 d3 true d5 d6 d7 d8 := by decide
theorem dk5 : ∀ {d0 d1 d2 d3 d4 d5 d6 d7 d8 : Bool}, Dn13 d0 d1 d2 d3 d4 d5 d6 d7 d8 -> d5 = false -> d4 = true -> (d8 = false /\ d7 = false) /\ Dn13 d0 d1 d2 d3 d4 true d6 d7 d8 := by decide
theorem dk6 : ∀ {d0 d1 d2 d3 d4 d5 d6 d7 d8 : Bool}, Dn13 d0 d1 d2 d3 d4 d5 d6 d7 d8 -> d6 = false -> d5 = true -> (d8 = false /\ d7 = false) /\ Dn13 d0 d1 d2 d3 d4 d5 true d7 d8 := by decide
theorem dk7 : ∀ {d0 d1 d2 d3 d4 d5 d6 d7 d8 : Bool}, Dn13 d0 d1 d2 d3 d4 d5 d6 d7 d8 -> d7 = false -> d0 = true -> d2 = true -> d6 = true -> d8 = false /\ Dn13 d0 d1 d2 d3 d4 d5 d6 true d8 := by decide
theorem dk8 : ∀ {d0 d1 d2 d3 d4 d5 d6 d7 d8 : Bool}, Dn13 d0 d1 d2 d3 d4 d5 d6 d7 d8 -> d7 = true -> Dn13 d0 d1 d2 d3 d4 d5 d6 d7 true := by decide
theorem built_acc20 (f : Fin 32 -> Nat) : Tryz.prog.built 47 [(0, .int .u64 1), (2, .agg ((List.ofFn f).map encB).toArray)] = some (.int .u64 1 :: .int .u64 0 :: ((List.ofFn f).map encB ++ (List.replicate 32 0).map encB)).toArray := by kernel_rfl
theorem built_acc2 {D : List Nat} (hD : D.length = 32) : Tryz.prog.built 47 [(0, .int .u64 1), (2, .agg (D.map encB).toArray)] = some (accL ⟨1, 0, D, List.replicate 32 0⟩).toArray := by
 obtain ⟨f, rfl⟩ := list_fn hD
 exact built_acc20 f
abbrev Rw := Option Addr × List ByteArray × Nat
def rowV (r : Rw) : Value := .slice r.1 r.2.1.length r.2.2
theorem run_build_six (w : World) (p1 p2 p3 p4 p5 p6 : Option Addr) (n1 c1 n2 c2 n3 c3 n4 c4 n5 c5 n6 c6 : Nat) : (Instr.buildSlice 53 6 #[(0, .slice p1 n1 c1), (1, .slice p2 n2 c2), (2, .slice p3 n3 c3), (3, .slice p4 n4 c4), (4, .slice p5 n5 c5), (5, .slice p6 n6 c6)]).run Tryz.prog w = .ok (.slice (some ⟨w.heap.size, 0, none⟩) 6 6) (w.alloc (.cells #[.slice p1 n1 c1, .slice p2 n2 c2, .slice p3 n3 c3, .slice p4 n4 c4, .slice p5 n5 c5, .slice p6 n6 c6] 24)) := by
 obtain ⟨i, b, c, a, d⟩ := info_parts rowZ
 refine run_buildSlice w _ 24 6 _ #[.slice p1 n1 c1, .slice p2 n2 c2, .slice p3 n3 c3, .slice p4 n4 c4, .slice p5 n5 c5, .slice p6 n6 c6] i (.slice none 0 0) Tryz.underlying53 b c (by rw [a]; decide) (by rw [a]; decide) ?_
 rw [a]
 have := Great.fill_whole (s := 1) (by decide) [.slice p1 n1 c1, .slice p2 n2 c2, .slice p3 n3 c3, .slice p4 n4 c4, .slice p5 n5 c5, .slice p6 n6 c6] ((Array.range (6 * 1)).map ((Value.slice none 0 0).cells[· % (Value.slice none 0 0).cells.size]!)) (by simp [Value.cells]) (by simp)
 simpa [Value.cells] using this
def RowIn (w : World) (S : Wood) (U : Nat -> Prop) (R : World) (r : Rw) : Prop :=
 r.2.1.length <= 9223372036854775807 /\ (∀ a, r.1 = some a -> S a.block = none) /\ ((StrRow R r.1 r.2.1 r.2.2 /\ ∀ a, r.1 = some a -> U a.block) \/ StrRow w r.1 r.2.1 r.2.2)
theorem six_of {w R : World} {tb : Nat} {S : Wood} {U : Nat -> Prop} {o : TypeId} (r0 r1 r2 r3 r4 r5 : Rw) (hR : R.heap[tb]? = some (.cells #[rowV r0, rowV r1, rowV r2, rowV r3, rowV r4, rowV r5] o (0, 0)))
  (h0 : RowIn w S U R r0) (h1 : RowIn w S U R r1) (h2 : RowIn w S U R r2) (h3 : RowIn w S U R r3) (h4 : RowIn w S U R r4) (h5 : RowIn w S U R r5) :
  ∃ f : Nat -> Rw, f 0 = r0 /\ ∀ k, k < 6 -> R.cell? ⟨tb, k, none⟩ = some (rowV (f k)) /\ RowIn w S U R (f k) := by
 refine ⟨fun k => [r0, r1, r2, r3, r4, r5].getD k r0, rfl, fun k a => ?_⟩
 match k, a with
 | 0, _ => exact ⟨by simp [World.cell?, hR], h0⟩
 | 1, _ => exact ⟨by simp [World.cell?, hR], h1⟩
 | 2, _ => exact ⟨by simp [World.cell?, hR], h2⟩
 | 3, _ => exact ⟨by simp [World.cell?, hR], h3⟩
 | 4, _ => exact ⟨by simp [World.cell?, hR], h4⟩
 | 5, _ => exact ⟨by simp [World.cell?, hR], h5⟩
theorem strRow_nil (w : World) : StrRow w none [] 0 := .inl ⟨rfl, rfl, rfl⟩
theorem tied_zero {tt ts : Nd} {ow sl DO DS TD : List Nat} {o o' o2 : Mp} {a : Acc} {m : Mp} {EA : ByteArray} {L1 L2 : List (List Nat)} {th : Bool} (hct : tt.can 64) (hcs : ts.can 64) (ha : a.ok) (hr : ts.dig = a.root) (hDO : digB ow = DO) (hDS : digB sl = DS) (hEA : textB (encAcc a) = EA) (ho' : wiN o DO.toArray EA = o') (h1 : th = true -> o2 = o') (hd : (o.map (·.1)).Nodup) (hg : ∀ s, s.length = 64 -> tt.get s = getN o2 s) (hgs : ∀ s, s.length = 64 -> ts.get s = getN m s) (hTD : tt.dig = TD) (hL1 : tt.prove (textB (nibs DO)) = L1) (hL2 : ts.prove (textB (nibs DS)) = L2) (hn : th = false -> findN o2 DO.toArray = none) {er : Er} (he : storF TD ow sl L1 L2 = .error er) : th = false /\ L2 ≠ [] := by
 cases th with
 | true =>
  rw [h1 rfl] at hg
  have := stor_honest' hct hcs ha hr hDO hDS hEA ho' hg hd hgs hTD hL1 hL2 (ov := _) rfl
  rw [this] at he
  cases he
 | false =>
  refine ⟨rfl, fun c => ?_⟩
  have b := hn rfl
  subst hDO hTD hL1
  have := stor_nobody (nb := ow) (sl := sl) hct hg b L2
  rw [if_pos c] at this
  rw [this] at he
  cases he
theorem tied_or {tt ts : Nd} {ow sl DO DS TD : List Nat} {o o' o2 : Mp} {acc : Acc} {m : Mp} {EA : ByteArray} {L1 L2 : List (List Nat)} {th : Bool} (hct : tt.can 64) (hcs : ts.can 64) (hok : acc.ok) (hr : ts.dig = acc.root) (hDO : digB ow = DO) (hDS : digB sl = DS) (hEA : textB (encAcc acc) = EA) (ho' : wiN o DO.toArray EA = o') (h1 : th = true -> o2 = o') (hd : (o.map (·.1)).Nodup) (hg : ∀ s, s.length = 64 -> tt.get s = getN o2 s) (hgs : ∀ s, s.length = 64 -> ts.get s = getN m s) (hTD : tt.dig = TD) (hL1 : tt.prove (textB (nibs DO)) = L1) (hL2 : ts.prove (textB (nibs DS)) = L2) (hn : th = false -> findN o2 DO.toArray = none)
  {a b : List ByteArray} {ov : Option ByteArray} (h : storF TD ow sl (a.map bytesOf) (b.map bytesOf) = .ok ov) {x y x' y' : ByteArray} {f f' : Bool} (hx : exV (exF (orE L1) (orE (a.map bytesOf))) = .tuple #[.string x, .string y, .bool f]) (hx' : exV (exF (orE L2) (orE (b.map bytesOf))) = .tuple #[.string x', .string y', .bool f']) :
  (th = true -> ov = getN m (nibs DS) \/ collB x y f = true \/ collB x' y' f' = true) /\ (th = false -> ov = none \/ collB x y f = true) := by
 subst hDO hDS hEA ho' hTD hL1 hL2
 obtain ⟨u, v⟩ := digB_key ow
 obtain ⟨g, t, l⟩ := key_path u v
 obtain ⟨n, p⟩ := digB_key sl
 obtain ⟨c, j, i⟩ := key_path n p
 dsimp only at g t l c j i
 have q : (nibs (digB ow)).length = 64 := by rw [<- g, bytesOf_length, l]
 have r : (nibs (digB sl)).length = 64 := by rw [<- c, bytesOf_length, i]
 have := tied_pure (ow := ow) (sl := sl) hct hcs l (by rw [g]; exact t) i (by rw [c]; exact j) rfl rfl h hx hx'
 refine ⟨fun k => ?_, fun k => ?_⟩
 ·have e : tt.get (bytesOf (textB (nibs (digB ow)))) = some (textB (encAcc acc)) := by
   have d := getN_wi hd (K := (digB ow).toArray) (textB (encAcc acc))
   dsimp only at d
   rw [g, hg _ q, h1 k, d]
  have := this.1 acc e hok hr.symm
  rw [c, hgs _ r] at this
  exact this
 ·have e : tt.get (bytesOf (textB (nibs (digB ow)))) = none := by
   rw [g, hg _ q]
   have d := find_no (hn k)
   dsimp only at d
   exact d
  exact this.2 e
theorem xextract_l {B : Nat} {S : Wood} {w : World} {b : Nat} {t : Nd} {D : List Nat} (hf : Forest B S w) (hTb : Tabs w) (hM : 15 <= B) (ht : TreeAt S w b t) (hc : t.can 64) (hK : D.toArray.size = 32) (hKb : Bytes D.toArray) (p : Option Addr) (l : List ByteArray) (c : Nat) (hr : StrRow w p l c) (hn : ∀ a, p = some a -> S a.block = none) (hl : l.length <= 9223372036854775807) (hz : ∀ x ∈ l, x.size <= 1048576) {L : List (List Nat)} (hL : t.prove (textB (nibs D)) = L) :
  Calls Tryz.prog 18 #[.pointer (some ⟨b, 0, none⟩), .agg (D.map encB).toArray, .slice p l.length c] w fun x w' => x = .returned (exV (exF (orE L) (orE (l.map bytesOf)))) /\ Fr B S S w w' := by
 have h := xextract_any hf hTb hM ht hc hK hKb p l c hr hn hl hz (L := L) hL
 exact h
end Go.Proofs.YtoohdfiddbfacaaGreatDoor
