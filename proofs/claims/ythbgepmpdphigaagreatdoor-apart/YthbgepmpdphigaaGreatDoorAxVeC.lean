/-
  Showing the node of a proof: show.
  A way goes on through the next node of a proof: open.
  Where a way begins: the stub that stands for a root, the path of a key, in whichever order they come.
  Verify: the way through the nodes of a proof.
-/
import Derived.Test.YthbgepmpdphigaaGreatDoorAxVeB
import Derived.Test.YthbgepmpdphigaaGreatDoorAxOrdA
import Derived.Test.YthbgepmpdphigaaGreatDoorAxVaG
import Derived.Test.YthbgepmpdphigaaGreatDoorAxTreB
namespace Go.Proofs.YthbgepmpdphigaaGreatDoor
open Go.RowKit
set_option maxRecDepth 100000
set_option maxHeartbeats 25600000
theorem Qky (K L : List Nat) (hK : K.length = 32) (hL : L.length = 32) (hKb : ∀ x ∈ K, x < 256) (hLb : ∀ x ∈ L, x < 256) (w : World) : (Op.equalIn 10000 31 (.agg (K.map encB).toArray) (.agg (L.map encB).toArray)).run Tryz.prog w = .ok (decide (K = L)) w := by
 have f : ∀ w, (sizeOf 5).run Tryz.prog w = .ok 1 w := fun w => by kernel_rfl
 have a : ∀ (A : List Nat), (∀ x ∈ A, x < 256) -> A.map encB = (A.map UInt8.ofNat).map Extern.Stop.cell := fun A i => by
  rw [List.map_map]
  apply List.map_congr_left
  intro x k
  have l := i x k
  show Value.int .u8 _ = Value.int .u8 _
  congr 1
  simp
  omega
 have h := run_equalIn_bytes (P := Tryz.prog) w 9998 31 5 32 Tryz.underlying31 Tryz.underlying5 f (K.map UInt8.ofNat) (L.map UInt8.ofNat) (by simp [hK]) (by simp [hL])
 rw [<- a K hKb, <- a L hLb] at h
 rw [h]
 by_cases e : K = L
 ·rw [e, decide_eq_true rfl]
  simp
 ·have d : K.map UInt8.ofNat ≠ L.map UInt8.ofNat := fun j => e (by
   have c := congrArg (List.map Extern.Stop.cell) j
   rw [<- a K hKb, <- a L hLb] at c
   have b : ∀ x y : Nat, encB x = encB y -> x = y := fun x y g => by
    simp only [encB, Value.int.injEq] at g
    omega
   exact (List.map_inj_right (fun {x y} => b x y)).1 c)
  rw [decide_eq_false e, beq_eq_false_iff_ne.2 d]
variable {w w' : World}
theorem Tabs.up (h : Tabs w) (hM : 15 <= w.heap.size) (hb : Below w.heap.size w w') : Tabs w' := h.below hb hM
variable {B : Nat}
theorem Qx2 {S : Wood} (sent : Nat -> Addr) (s : ByteArray) (h : List Nat) (dep : Nat) (hf : Forest B S w) (hF : Faults w sent) (hT : Tabs w) (hM : 15 <= w.heap.size) (hh : h.length = 32) (hhb : ∀ x ∈ h, x < 256) (hd : dep <= 64) :
  Calls Tryz.prog 80 #[.string s, .agg (h.map encB).toArray, .int .i64 (dep : Int)] w (RdSaid sent B S w (shF (bytesOf s) h dep)) := by
 obtain ⟨A, E⟩ : ∃ A, (h.map encB).toArray = A := ⟨_, rfl⟩
 obtain ⟨W0, f⟩ : ∃ W0, w.alloc (.cells A 31) = W0 := ⟨_, rfl⟩
 have d : W0.rangeAt w.heap.size 0 (h.map encB) := fun j u hu => by
  rw [<- f, Nat.zero_add, World.cell?_alloc_new, <- E]
  simpa using hu
 have g : Below w.heap.size w W0 := by rw [<- f]; exact (Below.refl _ _).alloc (Nat.le_refl _) _
 have N : w.heap.size < W0.heap.size := by rw [<- f]; simp
 have Y := (hF.below g).var 1 (by decide)
 rw [show gOf 1 = 0 from rfl] at Y
 have HF := Hid.hide hf
 have ab := Hid.hide hF
 have aa := Hid.hide g
 have z : Hid (Below w.heap.size w W0.drew) := g.drew
 by_cases o : 700 < (bytesOf s).length
 ·have hi : (700 : Int) < (s.size : Int) := by rw [bytesOf_length] at o; omega
  have q : shF (bytesOf s) h dep = .error (.base 1) := by unfold shF; rw [if_pos o]
  rw [q]
  clear hf hF hT hM hh hhb hd o q d g N
  rw [E]
  go_enter Tryz.func80, Tryz.ntmps80
  go_upto_region 2 with fail
  clear f
  go_region
  all_goals (try go_wp2)
  all_goals go_ret2
  all_goals exact .inl ⟨_, rfl, rfl, Below.drewN aa.out 1⟩
 ·have hi : (s.size : Int) <= 700 := by rw [bytesOf_length] at o; omega
  obtain ⟨D, y⟩ : ∃ D, digB (bytesOf s) = D := ⟨_, rfl⟩
  have I : (digF s).toList = D := by rw [<- y, digB, Qc9]
  have J : D.length = 32 := by rw [<- y]; exact Qan _
  have H : ∀ x ∈ D, x < 256 := by rw [<- y]; exact Qdl _
  have K := fun W => Qky D h J hh H hhb W
  have HO : Hid (∀ W, Below w.heap.size w W -> Calls Tryz.prog 37 #[.string s] W fun e O => e = .returned (.agg (D.map encB).toArray) /\ Below W.heap.size W O) := fun W F => by
   have := Qif s W (hT.up hM F) (Nat.le_trans hM F.size)
   rw [I] at this
   exact this
  have Q := fun W (F : Below w.heap.size w W) => (hF.below F).var 7 (by decide)
  rw [show gOf 7 = 5 from rfl] at Q
  have ac := Hid.hide Q
  have hz : (Tryz.prog.info? 31).map (·.size) = some (h.map encB).length := by rw [List.length_map, hh]; kernel_rfl
  have ae := Tryz.underlying31
  have U : Hid (∀ W, Below w.heap.size w W -> Calls Tryz.prog 95 #[.string s] W (DecSaid s sent W)) := fun W F => Qxs s sent W (hF.below F)
  have HX : Hid (dep <= 64) := hd
  by_cases i : D = h
  ·rw [decide_eq_true i] at K
   have q : shF (bytesOf s) h dep = match decF (bytesOf s) with | .error e => .error e | .ok x => rdF 6 x dep := by
    unfold shF
    rw [if_neg o, if_neg (by rw [y]; simpa using i)]
    cases decF (bytesOf s) <;> rfl
   have HQ := Hid.hide q
   clear hf hF hT hM hh hhb hd o g y I J H Y Q i q
   rw [E]
   clear E
   go_enter Tryz.func80, Tryz.ntmps80
   go_upto_region 3 with fail
   clear f
   go_region_held3 (fun O => O.rangeAt w.heap.size 0 (h.map encB)) (first | exact d | exact Z)
    (first | (go_at_call 37; refine (HO.out _ z.out).mono ?_; rintro x P ⟨rfl, b⟩; have Z : P.rangeAt w.heap.size 0 (h.map encB) := Qa3 d (b.block w.heap.size N); have r : Hid (Below w.heap.size w P) := z.out.behind' b; clear b))
   all_goals go_wp2_with fail
   all_goals refine (U.out _ r.out).mono ?_
   all_goals intro e2 G a
   all_goals cases hx : decF (bytesOf s) with
    | error er =>
     obtain ⟨t, v, hv, rfl⟩ := a.2.1 er hx
     have k : Hid (shF (bytesOf s) h dep = .error er /\ er.val sent = .iface t v /\ Below w.heap.size w G) := ⟨by rw [HQ.out, hx], hv, r.out.behind' a.1⟩
     clear a hx hv
     go_wp2
     go_ret2
     rw [k.out.1]
     exact .inl ⟨er, rfl, by rw [k.out.2.1]; rfl, Below.alloc k.out.2.2 k.out.2.2.size _⟩
    | ok x =>
     obtain ⟨X, V, l, tx, p, m, c, R, rfl⟩ := a.2.2 x hx
     have C : Below w.heap.size w (G.alloc (.cells #[.int .i64 (X : Int), .int .i64 (V : Int), .bool l, .string tx, .slice p m c] 225)) := (r.out.behind' a.1).alloc (r.out.behind' a.1).size _
     have T : Below G.heap.size G (G.alloc (.cells #[.int .i64 (X : Int), .int .i64 (V : Int), .bool l, .string tx, .slice p m c] 225)) := (Below.refl _ _).alloc (Nat.le_refl _) _
     have HR := Hid.hide (Qpq sent B 6 S _ _ _ x dep (HF.out.below C) (ab.out.below C) (R.below T) (Qi0 (Qar s) hx) HX.out)
     have k : Hid (shF (bytesOf s) h dep = rdF 6 x dep /\ Below w.heap.size w (G.alloc (.cells #[.int .i64 (X : Int), .int .i64 (V : Int), .bool l, .string tx, .slice p m c] 225))) := ⟨by rw [HQ.out, hx], C⟩
     clear a hx R C T
     go_wp2_with fail
     refine HR.out.mono ?_
     intro e3 w3 h3
     rcases (RdSaid.after HF.out k.out.2 h3) with ⟨er, k1, rfl, hb⟩ | ⟨t, v, S', k1, rfl, k3, k4, k5⟩
     ·obtain ⟨et, ev, L⟩ := er.shape sent
      have n : Hid (rdF 6 x dep = .error er /\ er.val sent = .iface et ev /\ Below w.heap.size w w3) := ⟨k1, L, hb⟩
      rw [L]
      clear h3 k1 hb L
      go_wp2
      go_ret2
      rw [k.out.1, n.out.1]
      exact .inl ⟨er, rfl, by rw [n.out.2.1]; rfl, n.out.2.2⟩
     ·have n : Hid (rdF 6 x dep = .ok t /\ t ≠ .no /\ ndV S' v t /\ Gr B S S' w w3) := ⟨k1, k3, k4, k5⟩
      clear h3 k1 k3 k4 k5
      go_wp2
      go_ret2
      rw [k.out.1, n.out.1]
      exact .inr ⟨t, v, S', rfl, rfl, n.out.2.1, n.out.2.2.1, n.out.2.2.2⟩
  ·rw [decide_eq_false i] at K
   have q : shF (bytesOf s) h dep = .error (.base 7) := by
    unfold shF
    rw [if_neg o, if_pos (by rw [y]; exact i)]
   rw [q]
   clear hf hF hT hM hh hhb hd o g y I J H Y Q i q
   rw [E]
   clear E
   go_enter Tryz.func80, Tryz.ntmps80
   go_upto_region 3 with fail
   clear f
   go_region_held3 (fun O => O.rangeAt w.heap.size 0 (h.map encB)) (first | exact d | exact Z)
    (first | (go_at_call 37; refine (HO.out _ z.out).mono ?_; rintro x P ⟨rfl, b⟩; have Z : P.rangeAt w.heap.size 0 (h.map encB) := Qa3 d (b.block w.heap.size N); have r : Hid (Below w.heap.size w P) := z.out.behind' b; have gg := ac.out _ r.out; clear b))
   all_goals go_wp2_with fail
   all_goals go_region
   all_goals (try go_wp2)
   all_goals go_ret2
   all_goals exact .inl ⟨_, rfl, rfl, Below.drewN r.out 1⟩
structure Env (B : Nat) (sent : Nat -> Addr) (w : World) : Prop where
 faults : Faults w sent
 tabs : Tabs w
 low : 15 <= B
 vars : ∀ n ∈ nums, gOf n < B
 sents : ∀ n ∈ nums, (sent n).block < B
variable {sent : Nat -> Addr}
theorem Env.below (h : Env B sent w) (hb : Below B w w') : Env B sent w' :=
 ⟨h.faults.keep hb h.vars h.sents, h.tabs.of_blocks (hb.block 13 (by have := h.low; omega)) (hb.block 14 (by have := h.low; omega)), h.low, h.vars, h.sents⟩
theorem Env.raise {B' : Nat} (h : Env B sent w) (hb : B <= B') : Env B' sent w :=
 ⟨h.faults, h.tabs, Nat.le_trans h.low hb, fun n hn => Nat.lt_of_lt_of_le (h.vars n hn) hb, fun n hn => Nat.lt_of_lt_of_le (h.sents n hn) hb⟩
def WayS (B : Nat) (w : World) (bw : Nat) (t : Nd) (r : ByteArray) : Prop :=
 ∃ S l thr v cs, Forest B S w /\ Way S B w bw l t r thr v cs /\ S bw = none /\ (∀ k, thr.ownBlock = some k -> S k = none) /\ l.length + r.size <= 64 /\ t.fits r.size /\ nib (bytesOf r)
variable {h : List Nat}
theorem Qpr (hl : h.length = 32) : (Nd.stub h).dig = h := by
 have e : (Nd.stub h).ref = 160 :: h := Qc2 hl
 rw [Nd.dig, e, if_neg (by simp; omega)]
 rfl
variable {t : Nd} {r : ByteArray} {l : List (Nd × ByteArray)}
theorem WayTo.len {e : Nd} {r' : ByteArray} (h : WayTo t r l e r') : t.fits r.size -> l.length + r'.size <= r.size /\ e.fits r'.size := by
 induction h with
 | stop h => intro a; simp; exact a
 | go hn _ ih =>
  intro a
  obtain ⟨f, g, d⟩ := Nd.next_fits a hn
  obtain ⟨b, c⟩ := ih (by rw [Qa1]; exact d)
  rw [Qa1] at b
  exact ⟨by simp; omega, c⟩
theorem WayTo.nib {t : Nd} {r : ByteArray} {l : List (Nd × ByteArray)} {e : Nd} {r' : ByteArray} (h : WayTo t r l e r') : nib (bytesOf r) -> nib (bytesOf r') := by
 induction h with
 | stop h => exact id
 | go hn _ ih => intro a; exact ih (Qgf a _)
theorem Way.grow {S S' : Wood} {bw : Nat} {thr v : Value} {cs : List Value} (h : Way S B w bw l t r thr v cs) (hg : Fr B S S' w w') (hbw : S bw = none) (hth : ∀ k, thr.ownBlock = some k -> S k = none) : Way S' B w' bw l t r thr v cs /\ S' bw = none /\ ∀ k, thr.ownBlock = some k -> S' k = none := by
 refine ⟨⟨(hg.other bw h.lt hbw).trans h.blk, h.lo, h.node.sub hg.sub, h.own.keep hg.size fun k b a => hg.other k b (hth k a), h.apart, h.turns.sub hg.sub⟩, hg.new bw h.lt hbw, fun k a => hg.new k ?_ (hth k a)⟩
 exact (h.own.block k a).2
theorem Qud (bw : Nat) (p : Option Addr) (c : Nat) (hE : Env B sent w) :
  Calls Tryz.prog 57 #[.pointer (some ⟨bw, 0, none⟩), .slice p 0 c] w fun e w' => e = .returned ((Er.base 2).val sent) /\ Below w.heap.size w w' := by
 have a := hE.faults.var 2 (by decide)
 rw [show gOf 2 = 1 from rfl] at a
 clear hE
 go_enter Tryz.func57, Tryz.ntmps57
 go_wp2
 go_ret
 exact ⟨rfl, Below.refl _ _⟩
def OpSaid (sent : Nat -> Addr) (B bw : Nat) (w : World) (q : Except Er Nd) (r : ByteArray) (e : Ending) (w' : World) : Prop :=
 Below B w w' /\ ((∃ er : Er, q = .error er /\ e = .returned (er.val sent)) \/ ∃ t, q = .ok t /\ e = .returned .nilIface /\ WayS B w' bw (t.walk 64 r).1 (t.walk 64 r).2)
theorem Que {bw g o m c : Nat} {s : ByteArray} (hE : Env B sent w) (hS : WayS B w bw (.stub h) r) (hg : g < B) (hc : w.cell? ⟨g, o, none⟩ = some (.string s)) (hm : 0 < m) :
  Calls Tryz.prog 57 #[.pointer (some ⟨bw, 0, none⟩), .slice (some ⟨g, o, none⟩) m c] w (OpSaid sent B bw w (shF (bytesOf s) h (64 - r.size)) r) := by
 obtain ⟨S, l, G, v, cs, p, q, y, K, hl, i, R⟩ := hS
 obtain ⟨d, T, hd⟩ := q.node.full (by simp)
 have b7 : v = .iface 138 (.pointer (some ⟨d, 0, none⟩)) := T
 clear T
 subst b7
 obtain ⟨Q, I⟩ : ∃ Q, shF (bytesOf s) h (64 - r.size) = Q := ⟨_, rfl⟩
 rw [I]
 have C := p.ok d _ hd
 rw [Nd.ok] at C
 have aj : S g = none := p.nothing hg
 have ar : g < w.heap.size := Nat.lt_of_lt_of_le hg p.le
 obtain ⟨c0, c1, c2, f0, f1, f2⟩ := q.cell
 have ai := q.lt
 have bg : (0 : Int) < (m : Int) := by omega
 have bi : ¬ ((m : Int) = 0) := by omega
 have bj : ((m : Int) == 0) = false := by simp; omega
 have al : r.size <= 64 := by omega
 have ac : wrap64 ((64 : Int) - (r.size : Int)) = ((64 - r.size : Nat) : Int) := by
  rw [show (64 : Int) - (r.size : Int) = ((64 - r.size : Nat) : Int) by omega]
  exact Qe9 _ (by omega)
 obtain ⟨dep, z⟩ : ∃ dep, 64 - r.size = dep := ⟨_, rfl⟩
 rw [z] at ac I
 have ba : IntKind.i64.wrap ((64 : Int) - (r.size : Int)) = (dep : Int) := by
  clear ac
  rw [IntKind.wrap_i64]
  omega
 have HX : Hid (Forest B S w /\ Way S B w bw l (.stub h) r G (.iface 138 (.pointer (some ⟨d, 0, none⟩))) cs /\ S bw = none /\ (∀ k, G.ownBlock = some k -> S k = none) /\ l.length + r.size <= 64 /\ nib (bytesOf r) /\ Env B sent w /\ h.length = 32 /\ (∀ x ∈ h, x < 256) /\ 64 - r.size = dep /\ shF (bytesOf s) h dep = Q) := ⟨p, q, y, K, hl, R, hE, C.1, C.2, z, I⟩
 have HD : Hid (∀ W, Below w.heap.size w W -> Calls Tryz.prog 41 #[.iface 138 (.pointer (some ⟨d, 0, none⟩))] W fun e E => e = .returned (.agg (h.map encB).toArray) /\ Fr B S S w E) := fun W f => by
  have := Qcb (p.below f) (hE.tabs.up (Nat.le_trans hE.low p.le) f) hE.low hd (by simp)
  rw [Qpr C.1] at this
  exact this.mono fun e E h => ⟨h.1, (Fr.of_below p f).trans h.2⟩
 have HS : Hid (∀ W, Fr B S S w W -> Calls Tryz.prog 80 #[.string s, .agg (h.map encB).toArray, .int .i64 (dep : Int)] W fun e E => ∃ a b, e = .returned (.tuple #[a, b]) /\ ((∃ D : Er, ∃ V X, Q = .error D /\ a = .nilIface /\ b = D.val sent /\ D.val sent = .iface V X /\ Fr B S S w E) \/ ∃ t j, Q = .ok t /\ t ≠ .no /\ ndV j a t /\ b = .nilIface /\ Fr B S j w E)) := fun W f => by
  have := Qx2 sent s h dep f.forest (hE.below (f.below p)).faults (hE.below (f.below p)).tabs (Nat.le_trans hE.low f.forest.le) C.1 C.2 (by omega)
  rw [I] at this
  refine this.mono ?_
  rintro e E (⟨D, h1, h2, h3⟩ | ⟨t, v, j, h1, h2, h3, h4, h5⟩)
  ·obtain ⟨V, X, J⟩ := D.shape sent
   exact ⟨_, _, h2, .inl ⟨D, V, X, h1, rfl, rfl, J, f.behind h3⟩⟩
  ·exact ⟨_, _, h2, .inr ⟨t, j, h1, h3, h4, rfl, f.trans h5.2⟩⟩
 have HC : Hid (∀ (j : Wood) (W : World), Fr B S j w W -> W.cell? ⟨g, o, none⟩ = some (.string s) /\ W.cell? ⟨bw, 1, none⟩ = some (.iface 138 (.pointer (some ⟨d, 0, none⟩))) /\ W.cell? ⟨bw, 2, none⟩ = some (.string r)) := fun j W f => ⟨(f.cell (a := ⟨g, o, none⟩) ar aj).trans hc, (f.cell (a := ⟨bw, 1, none⟩) ai y).trans c1, (f.cell (a := ⟨bw, 2, none⟩) ai y).trans c2⟩
 have HB : Hid (Below w.heap.size w w.drew) := (Below.refl _ _).drew
 clear hE p q y K hl i R hd C aj hg z I f0 f1 f2 c0 al
 go_enter Tryz.func57, Tryz.ntmps57
 go_upto_region 3 with fail
 go_region_held3 (fun E => E.cell? ⟨g, o, none⟩ = some (.string s) /\ E.cell? ⟨bw, 1, none⟩ = some (.iface 138 (.pointer (some ⟨d, 0, none⟩))) /\ E.cell? ⟨bw, 2, none⟩ = some (.string r)) (first | exact ⟨hc, c1, c2⟩ | exact k1 | exact k2)
  (first | (go_at_call 41; refine (HD.out _ HB.out).mono ?_; rintro e w1 ⟨rfl, aa⟩; have k1 := HC.out _ w1 aa; have ao := Hid.hide aa; clear aa) | (go_at_call 80; refine (HS.out _ ao.out).mono ?_; rintro e F ⟨a, b, rfl, Z⟩; have k2 : F.cell? ⟨g, o, none⟩ = some (.string s) /\ F.cell? ⟨bw, 1, none⟩ = some (.iface 138 (.pointer (some ⟨d, 0, none⟩))) /\ F.cell? ⟨bw, 2, none⟩ = some (.string r) := (by rcases Z with ⟨_, _, _, _, _, _, _, h⟩ | ⟨_, _, _, _, _, _, h⟩ <;> exact HC.out _ F h); have U := Hid.hide Z; clear Z))
 rcases U.out with ⟨D, V, X, hq, rfl, hb', J, hf2⟩ | ⟨t, j, hq, hne, T, rfl, hf2⟩
 ·rw [J] at hb'
  subst hb'
  have O : Hid (Q = .error D /\ D.val sent = .iface V X /\ Below B w F) := ⟨hq, J, hf2.below HX.out.1⟩
  clear hq J hf2 U
  go_wp2
  go_ret
  rw [O.out.1]
  exact ⟨O.out.2.2, .inl ⟨D, rfl, by rw [O.out.2.1]; rfl⟩⟩
 ·obtain ⟨p, q, y, K, hl, R, hE, au, aw, z, I⟩ := HX.out
  obtain ⟨n, H, M⟩ := q.grow hf2 y K
  obtain ⟨P, rfl, aq⟩ := T.full hne
  obtain ⟨b0, b1, b2, f0, f1, f2⟩ := n.cell
  have bc := n.lt
  have ae : Way j B (F.setCell ⟨bw, 1, none⟩ (.iface (ndTy t) (.pointer (some ⟨P, 0, none⟩)))) bw l t r G (.iface (ndTy t) (.pointer (some ⟨P, 0, none⟩))) cs :=
   ⟨Qa0 (cs := [G, .iface 138 (.pointer (some ⟨d, 0, none⟩)), .string r]) n.blk 1 _, n.lo, T, n.own.keep (by simp) fun k L ay => Below.heap_setCell _ _ _ _ (fun e => n.apart (by rw [ay, e])), n.apart, n.turns⟩
  have ab : Forest B j (F.setCell ⟨bw, 1, none⟩ (.iface (ndTy t) (.pointer (some ⟨P, 0, none⟩)))) := hf2.forest.keep (by simp) fun k u L => Below.heap_setCell _ _ _ _ (by rintro rfl; rw [H] at L; cases L)
  have ah : Below B w (F.setCell ⟨bw, 1, none⟩ (.iface (ndTy t) (.pointer (some ⟨P, 0, none⟩)))) := by
   have hb := hf2.below p
   have bf := q.lo
   exact ⟨hb.os, hb.tape, hb.output, by simpa using hb.size, fun k L => (Below.heap_setCell _ _ _ _ (by simp; omega)).trans (hb.block k L)⟩
  have i : t.fits r.size := by
   have := (QA2 (Qar s) (by omega) (I.trans hq)).2.1
   rw [show 64 - dep = r.size by omega] at this
   exact this
  obtain ⟨l', Y, az, _, _⟩ := Qu7 64 t r i (by omega)
  have HG := Hid.hide (Qlr ab ae H M i R Y (by omega))
  have O : Hid (Q = .ok t /\ Below B w (F.setCell ⟨bw, 1, none⟩ (.iface (ndTy t) (.pointer (some ⟨P, 0, none⟩)))) /\ (∀ k, G.ownBlock = some k -> B <= k) /\ Forest B j (F.setCell ⟨bw, 1, none⟩ (.iface (ndTy t) (.pointer (some ⟨P, 0, none⟩)))) /\ j bw = none /\ (∀ k, G.ownBlock = some k -> j k = none) /\ B <= bw /\ l.length + l'.length + (t.walk 64 r).2.size <= 64 /\ (t.walk 64 r).1.fits (t.walk 64 r).2.size /\ nib (bytesOf (t.walk 64 r).2)) :=
   ⟨hq, ah, fun k L => (q.own.block k L).1, ab, H, M, q.lo, by have := (Y.len i).1; omega, (Y.len i).2, Y.nib R⟩
  clear p q y K hl R hE au aw z I n H M aq T ae ab ah i Y az hq hne hf2 U HX HD HS HC b0 b2 f0 f2
  go_wp2_with fail
  refine HG.out.mono ?_
  rintro e w3 ⟨rfl, am, v', ap, N, ag⟩
  obtain ⟨y1, y2, y3, y4, y5, y6, y7, y8, y9, ak⟩ := O.out
  have HZ : Hid (Below B w w3 /\ WayS B w3 bw (t.walk 64 r).1 (t.walk 64 r).2) := ⟨y2.trans (N.below y7 y3 y4.le), j, _, am, v', ap, y4.wayfr N y5 y6, ag, y5, N.none y4 y6, by rw [List.length_append]; omega, y9, ak⟩
  clear N ag y1 y2 y3 y4 y5 y6 y7 y8 y9 ak
  go_wp2
  go_ret
  exact ⟨HZ.out.1, .inr ⟨t, O.out.1, rfl, HZ.out.2⟩⟩
def stubCells (h : List Nat) : Obj := .cells [.string (textB (textCode h))].toArray 189 (0, 0)
def StubAt (h : List Nat) (B : Nat) (w : World) (b : Nat) : Prop := B <= b /\ w.heap[b]? = some (stubCells h)
variable {b : Nat}
theorem StubAt.lt (k : StubAt h B w b) : b < w.heap.size := (Array.getElem?_eq_some_iff.1 k.2).1
theorem StubAt.below (k : StubAt h B w b) (hb : Below w.heap.size w w') : StubAt h B w' b := ⟨k.1, (hb.block b k.lt).trans k.2⟩
structure Beg (B : Nat) (W0 : World) (A K : Value) (h : List Nat) (p : ByteArray) (d : Nat -> Bool) (v : Nat -> Value) (w : World) : Prop where
 below : Below B W0 w
 o0 : d 0 = true -> v 0 = A
 o1 : d 1 = true -> ∃ b, v 1 = .pointer (some ⟨b, 0, none⟩) /\ StubAt h B w b /\ (d 6 = true -> v 6 ≠ .pointer (some ⟨b, 0, none⟩))
 o2 : d 2 = true -> ∃ b, v 2 = .iface 138 (.pointer (some ⟨b, 0, none⟩)) /\ StubAt h B w b /\ (d 6 = true -> v 6 ≠ .pointer (some ⟨b, 0, none⟩))
 o3 : d 3 = true -> v 3 = K
 o4 : d 4 = true -> v 4 = .string p
 o5 : d 5 = true -> ∃ b thr, v 5 = .agg #[thr, .iface 138 (.pointer (some ⟨b, 0, none⟩)), .string p] /\ StubAt h B w b /\ OwnC w B 2 thr 0 [] /\ thr.ownBlock ≠ some b /\ (d 6 = true -> v 6 ≠ .pointer (some ⟨b, 0, none⟩)) /\ (d 6 = true -> ∀ k, thr.ownBlock = some k -> v 6 ≠ .pointer (some ⟨k, 0, none⟩))
 o6 : d 6 = true -> ∃ g, v 6 = .pointer (some ⟨g, 0, none⟩) /\ B <= g /\ g < w.heap.size /\ (d 7 = false -> w.heap[g]? = some (.cells #[.slice none 0 0, .nilIface, .string ⟨#[]⟩] 125 (0, 0))) /\ (d 7 = true -> ∃ x y z, v 5 = .agg #[x, y, z] /\ w.heap[g]? = some (.cells #[x, y, z] 125 (0, 0)))
 o7 : d 7 = true -> d 5 = true /\ d 6 = true
theorem Qjj {a : Nat} (h : a ≠ b) : Value.pointer (some ⟨a, 0, none⟩) ≠ .pointer (some ⟨b, 0, none⟩) := fun e => h (by cases e; rfl)
section
variable {B : Nat} {W0 : World} {A K : Value} {h : List Nat} {p : ByteArray} {d : Nat -> Bool} {v : Nat -> Value} {w w' : World}
def upd (d : Nat -> Bool) (i : Nat) : Nat -> Bool := fun k => if k = i then true else d k
def upv (v : Nat -> Value) (i : Nat) (x : Value) : Nat -> Value := fun k => if k = i then x else v k
theorem Beg.step (i : Nat) (x : Value) (hi : i < 6) (H : Beg B W0 A K h p d v w) (hn : d i = false) (hb : Below w.heap.size w w') (hBw : B <= w.heap.size)
  (h0 : i = 0 -> x = A) (h1 : i = 1 -> ∃ b, x = .pointer (some ⟨b, 0, none⟩) /\ StubAt h B w' b /\ (d 6 = true -> v 6 ≠ .pointer (some ⟨b, 0, none⟩)))
  (h2 : i = 2 -> ∃ b, x = .iface 138 (.pointer (some ⟨b, 0, none⟩)) /\ StubAt h B w' b /\ (d 6 = true -> v 6 ≠ .pointer (some ⟨b, 0, none⟩)))
  (h3 : i = 3 -> x = K) (h4 : i = 4 -> x = .string p)
  (h5 : i = 5 -> ∃ b thr, x = .agg #[thr, .iface 138 (.pointer (some ⟨b, 0, none⟩)), .string p] /\ StubAt h B w' b /\ OwnC w' B 2 thr 0 [] /\ thr.ownBlock ≠ some b /\ (d 6 = true -> v 6 ≠ .pointer (some ⟨b, 0, none⟩)) /\ (d 6 = true -> ∀ k, thr.ownBlock = some k -> v 6 ≠ .pointer (some ⟨k, 0, none⟩))) :
  Beg B W0 A K h p (upd d i) (upv v i x) w' := by
 have j : upd d i 6 = d 6 := by simp [upd]; omega
 have s : upd d i 7 = d 7 := by simp [upd]; omega
 have l : upv v i x 6 = v 6 := by simp [upv]; omega
 refine ⟨H.below.trans (hb.mono hBw), ?_, ?_, ?_, ?_, ?_, ?_, ?_, ?_⟩
 ·intro k
  by_cases e : 0 = i
  ·simp only [upv, if_pos e]; exact h0 e.symm
  ·simp only [upv, upd, if_neg e] at k ⊢; exact H.o0 k
 ·intro k
  rw [j, l]
  by_cases e : 1 = i
  ·simp only [upv, if_pos e]; exact h1 e.symm
  ·simp only [upv, upd, if_neg e] at k ⊢
   obtain ⟨b, c, f, a⟩ := H.o1 k
   exact ⟨b, c, f.below hb, a⟩
 ·intro k
  rw [j, l]
  by_cases e : 2 = i
  ·simp only [upv, if_pos e]; exact h2 e.symm
  ·simp only [upv, upd, if_neg e] at k ⊢
   obtain ⟨b, c, f, a⟩ := H.o2 k
   exact ⟨b, c, f.below hb, a⟩
 ·intro k
  by_cases e : 3 = i
  ·simp only [upv, if_pos e]; exact h3 e.symm
  ·simp only [upv, upd, if_neg e] at k ⊢; exact H.o3 k
 ·intro k
  by_cases e : 4 = i
  ·simp only [upv, if_pos e]; exact h4 e.symm
  ·simp only [upv, upd, if_neg e] at k ⊢; exact H.o4 k
 ·intro k
  rw [j, l]
  by_cases e : 5 = i
  ·simp only [upv, if_pos e]; exact h5 e.symm
  ·simp only [upv, upd, if_neg e] at k ⊢
   obtain ⟨b, thr, c, f, a, m, n⟩ := H.o5 k
   exact ⟨b, thr, c, f.below hb, a.below hb, m, n⟩
 ·intro k
  rw [j] at k
  rw [l, s]
  obtain ⟨g, c, f, a, m, n⟩ := H.o6 k
  refine ⟨g, c, f, Nat.lt_of_lt_of_le a hb.size, fun q => (hb.block g a).trans (m q), fun q => ?_⟩
  obtain ⟨u, y, z, o, r⟩ := n q
  have t : 5 ≠ i := fun e => by
   have := (H.o7 q).1
   rw [e, hn] at this
   cases this
  exact ⟨u, y, z, by simp only [upv, if_neg t]; exact o, (hb.block g a).trans r⟩
 ·intro k
  rw [s] at k
  rw [j]
  obtain ⟨o, r⟩ := H.o7 k
  exact ⟨by simp only [upd]; split <;> first | rfl | exact o, r⟩
theorem Beg.made (H : Beg B W0 A K h p d v w) (hn : d 6 = false) (hBw : B <= w.heap.size) :
  Beg B W0 A K h p (upd d 6) (upv v 6 (.pointer (some ⟨w.heap.size, 0, none⟩))) (w.alloc (.cells #[.slice none 0 0, .nilIface, .string ⟨#[]⟩] 125)) := by
 have c : Below w.heap.size w (w.alloc (.cells #[.slice none 0 0, .nilIface, .string ⟨#[]⟩] 125)) := (Below.refl _ _).alloc (Nat.le_refl _) _
 have g : d 7 = false := by
  cases e : d 7 with
  | false => rfl
  | true => have := (H.o7 e).2; rw [hn] at this; cases this
 refine ⟨H.below.trans (c.mono hBw), H.o0, fun k => ?_, fun k => ?_, H.o3, H.o4, fun k => ?_, fun _ => ?_, fun k => ?_⟩
 ·obtain ⟨b, f, a, _⟩ := H.o1 k
  exact ⟨b, f, a.below c, fun _ => Qjj (by have := a.lt; omega)⟩
 ·obtain ⟨b, f, a, _⟩ := H.o2 k
  exact ⟨b, f, a.below c, fun _ => Qjj (by have := a.lt; omega)⟩
 ·obtain ⟨b, m, f, a, j, o, _, _⟩ := H.o5 k
  exact ⟨b, m, f, a.below c, j.below c, o, fun _ => Qjj (by have := a.lt; omega), fun _ k n => Qjj (by have := (j.block k n).2; omega)⟩
 ·refine ⟨w.heap.size, rfl, hBw, by simp, fun _ => Array.getElem?_push_size, fun q => ?_⟩
  have l : d 7 = true := q
  rw [g] at l
  cases l
 ·have i : d 7 = true := k
  rw [g] at i
  cases i
theorem Beg.wrote (H : Beg B W0 A K h p d v w) (h5 : d 5 = true) (h6 : d 6 = true) (x : Value) {g : Nat} (hg : v 6 = .pointer (some ⟨g, 0, none⟩)) {a b c : Value} (hv : v 5 = .agg #[a, b, c]) (hh : w'.heap = (((w.setCell ⟨g, 0, none⟩ a).setCell ⟨g, 1, none⟩ b).setCell ⟨g, 2, none⟩ c).heap) (ho : w'.os = w.os) (ht : w'.tape = w.tape) (hu : w'.output = w.output) :
  Beg B W0 A K h p (upd d 7) (upv v 7 x) w' := by
 obtain ⟨m, z, F, N, G, I⟩ := H.o6 h6
 obtain rfl : m = g := by rw [hg] at z; simpa using z.symm
 have n : ∀ k, k ≠ m -> w'.heap[k]? = w.heap[k]? := fun k f => by
  rw [hh]
  exact (Below.heap_setCell _ _ _ _ f).trans ((Below.heap_setCell _ _ _ _ f).trans (Below.heap_setCell _ _ _ _ f))
 have L : w'.heap.size = w.heap.size := by rw [hh]; simp
 have o : ∃ r s t, w.heap[m]? = some (.cells [r, s, t].toArray 125 (0, 0)) := by
  cases e : d 7 with
  | false => exact ⟨_, _, _, G e⟩
  | true => obtain ⟨r, s, t, _, q⟩ := I e; exact ⟨r, s, t, q⟩
 obtain ⟨r, s, t, J⟩ := o
 have u : w'.heap[m]? = some (.cells #[a, b, c] 125 (0, 0)) := by
  rw [hh]
  have i := Qa0 J 0 a
  have j := Qa0 i 1 b
  exact Qa0 j 2 c
 have y : ∀ {b}, StubAt h B w b -> v 6 ≠ .pointer (some ⟨b, 0, none⟩) -> StubAt h B w' b := fun {b} k q => ⟨k.1, (n b (fun e => q (by rw [hg, e]))).trans k.2⟩
 refine ⟨⟨ho.trans H.below.os, ht.trans H.below.tape, hu.trans H.below.output, by rw [L]; exact H.below.size, fun k f => (n k (by omega)).trans (H.below.block k f)⟩, H.o0, fun k => ?_, fun k => ?_, H.o3, H.o4, fun k => ?_, fun _ => ?_, fun _ => ⟨h5, h6⟩⟩
 ·obtain ⟨b, i, j, l⟩ := H.o1 k
  exact ⟨b, i, y j (l h6), l⟩
 ·obtain ⟨b, i, j, l⟩ := H.o2 k
  exact ⟨b, i, y j (l h6), l⟩
 ·obtain ⟨b, E, i, j, l, M, C, D⟩ := H.o5 k
  exact ⟨b, E, i, y j (C h6), l.keep (by omega) fun k _ f => n k (fun e => D h6 k f (by rw [hg, e])), M, C, D⟩
 ·exact ⟨m, hg, F, by omega, fun q => by simp [upd] at q, fun _ => ⟨a, b, c, hv, u⟩⟩
end
def StrRow (w : World) (p : Option Addr) (l : List ByteArray) (c : Nat) : Prop :=
 (p = none /\ l = [] /\ c = 0) \/ ∃ g o, p = some ⟨g, o, none⟩ /\ l.length <= c /\ (0 < l.length -> g < w.heap.size) /\ w.rangeAt g o (l.map Value.string)
def VerSaid (sent : Nat -> Addr) (q : Except Er (Option ByteArray)) (e : Ending) : Prop :=
 (∃ er : Er, q = .error er /\ e = .returned (.tuple #[.string ⟨#[]⟩, .bool false, er.val sent])) \/ ∃ o : Option ByteArray, q = .ok o /\ e = .returned (.tuple #[.string (o.getD ⟨#[]⟩), .bool o.isSome, .nilIface])
def verT (L : List (List Nat)) (t : Nd) (r : ByteArray) (k : Nat) : Except Er (Option ByteArray) :=
 match t with
 | .stub h => verL L h r k
 | _ => if L = [] then .ok (valAt t r) else .error (.inNode k (.base 4))
theorem Qps (h : ∀ g, t ≠ .stub g) (L : List (List Nat)) (r : ByteArray) (k : Nat) : verT L t r k = if L = [] then .ok (valAt t r) else .error (.inNode k (.base 4)) := by
 cases t with
 | stub g => exact absurd rfl (h g)
 | _ => rfl
theorem Qmx (c : List Nat) (L : List (List Nat)) (h : List Nat) (r : ByteArray) (k : Nat) (hs : shF c h (64 - r.size) = .ok t) : verL (c :: L) h r k = verT L (t.walk 64 r).1 (t.walk 64 r).2 (k + 1) := by
 rw [verL, hs]
 simp only
 obtain ⟨e, a⟩ := t.walk 64 r
 cases e <;> rfl
theorem Qx3 (c : List Nat) (L : List (List Nat)) (h : List Nat) (r : ByteArray) (k : Nat) {er : Er} (hs : shF c h (64 - r.size) = .error er) : verL (c :: L) h r k = .error (.inNode k er) := by
 rw [verL, hs]
theorem Quf (h : List Nat) (a : Addr) (w : World) : (Instr.typeAssert (.iface (ndTy (.stub h)) (.pointer (some a))) 64 138 true).run Tryz.prog w = .ok (.tuple #[.pointer (some a), .bool true]) w := by kernel_rfl
theorem Qx4 (h : List Nat) (r : ByteArray) (p : Option Addr) (m c d : Nat) :
  Calls Tryz.prog 56 #[.agg #[.slice p m c, .iface (ndTy (.stub h)) (.pointer (some ⟨d, 0, none⟩)), .string r]] w fun x w' => x = .returned (.pointer (some ⟨d, 0, none⟩)) /\ Below w.heap.size w w' := by
 have b := fun W => Quf h ⟨d, 0, none⟩ W
 obtain ⟨T, a⟩ : ∃ T, ndTy (.stub h) = T := ⟨_, rfl⟩
 rw [a] at b ⊢
 clear a
 go_enter Tryz.func56, Tryz.ntmps56
 go_wp2
 go_ret
 exact ⟨rfl, (Below.refl _ _).alloc (Nat.le_refl _) _⟩
end Go.Proofs.YthbgepmpdphigaaGreatDoor
