/-
  What a call leaves as it was: all but one block.
-/
import Derived.Test.YtakidhihbgfjlaaGreatDoorSxErrG
import Derived.Test.YtakidhihbgfjlaaGreatDoorSxAsG
import Derived.Deep.DeepCutAuto
namespace Go.Proofs.YtakidhihbgfjlaaGreatDoor
open Go.RowKit
set_option maxRecDepth 100000
set_option maxHeartbeats 25600000
structure Only (tb : Nat) (w w' : World) : Prop where
 os : w'.os = w.os
 tape : w'.tape = w.tape
 output : w'.output = w.output
 size : w.heap.size <= w'.heap.size
 block : ∀ k, k < w.heap.size -> k ≠ tb -> w'.heap[k]? = w.heap[k]?
variable {tb : Nat} {w w' : World}
theorem Only.below {B : Nat} {w0 : World} (h : Only tb w w') (hb : Below B w0 w) (h1 : B <= tb) (h2 : B <= w.heap.size) : Below B w0 w' :=
 ⟨h.os.trans hb.os, h.tape.trans hb.tape, h.output.trans hb.output, Nat.le_trans hb.size h.size, fun k hk => (h.block k (by omega) (by omega)).trans (hb.block k hk)⟩
theorem Only.refl (tb : Nat) (w : World) : Only tb w w := ⟨rfl, rfl, rfl, Nat.le_refl _, fun _ _ _ => rfl⟩
theorem Only.trans {tb : Nat} {w w1 w2 : World} (h : Only tb w w1) (k : Only tb w1 w2) : Only tb w w2 :=
 ⟨k.os.trans h.os, k.tape.trans h.tape, k.output.trans h.output, Nat.le_trans h.size k.size, fun i hi hne => (k.block i (Nat.lt_of_lt_of_le hi h.size) hne).trans (h.block i hi hne)⟩
theorem Only.of_below (h : Below w.heap.size w w') : Only tb w w' := ⟨h.os, h.tape, h.output, h.size, fun k hk _ => h.block k hk⟩
theorem Only.alloc {tb : Nat} {w w' : World} (h : Only tb w w') (o : Obj) : Only tb w (w'.alloc o) := h.trans (.of_below ((Below.refl _ _).alloc (Nat.le_refl _) o))
open Go.RowKit Go.Stop
theorem Qio (w : World) : Calls Tryz.prog 30 #[.nilIface] w fun e w' => e = .returned (.int .i64 0) /\ w' = w := by
 go_enter Tryz.func30, Tryz.ntmps30
 go_wp2
 go_ret
 exact ⟨rfl, rfl⟩
theorem Qef : ∀ e : Er, e.simple -> e.num ∈ nums
 | .base _, h => h
 | .place _ e, h => Qef e h
 | .noNode _, _ => by simp [Er.num, nums]
 | .inNode _ e, h => Qef e h
 | .inProof _ e, h => Qef e h
theorem Qnv (sent : Nat -> Addr) (e0 : Er) (h0 : e0.simple) (w : World) (hF : Faults w sent) :
  Calls Tryz.prog 30 #[e0.val sent] w fun e w' => e = .returned (.int .i64 (e0.num : Int)) /\ Below w.heap.size w w' := by
 obtain ⟨t0, v0, u⟩ := e0.shape sent
 have c : Hid (∀ W, Below w.heap.size w W -> ∀ b ∈ nums, b ≠ 3 -> Calls Tryz.prog 45 #[.iface t0 v0, .iface 243 (.pointer (some (sent b)))] W fun e w' => e = .returned (.bool (decide (e0.num = b))) /\ Below W.heap.size W w') := by
  intro W hW b a h3
  have := QC2 sent b a h3 e0 h0 W (hF.below hW)
  rw [u] at this
  exact this
 have d : Hid (Faults w sent) := hF
 have N := Qef e0 h0
 obtain ⟨n, I⟩ : ∃ n, e0.num = n := ⟨_, rfl⟩
 rw [I] at N c ⊢
 rw [u]
 clear u h0 hF I
 have v : Hid (Below w.heap.size w w) := Below.refl _ _
 have Z : w.cell? ⟨0, 0, none⟩ = some (.iface 243 (.pointer (some (sent 1)))) := d.out.var 1 (by decide)
 go_enter Tryz.func30, Tryz.ntmps30
 go_wp2_with fail
 refine (c.out _ v.out 1 (by decide) (by decide)).mono ?_
 rintro e O ⟨rfl, a⟩
 have h : Hid (Below w.heap.size w O) := Below.behind v.out a
 clear a Z
 have g1 : O.cell? ⟨1, 0, none⟩ = some (.iface 243 (.pointer (some (sent 2)))) := (d.out.below h.out).var 2 (by decide)
 by_cases x : n = 1
 ·subst x
  go_wp2
  go_ret
  exact ⟨rfl, h.out⟩
 have ae : decide (n = 1) = false := decide_eq_false x
 go_wp2_with fail
 refine (c.out _ h.out 2 (by decide) (by decide)).mono ?_
 rintro e Q ⟨rfl, a⟩
 have i : Hid (Below w.heap.size w Q) := Below.behind h.out a
 clear a g1
 have g2 : Q.cell? ⟨2, 0, none⟩ = some (.iface 243 (.pointer (some (sent 4)))) := (d.out.below i.out).var 4 (by decide)
 by_cases y : n = 2
 ·subst y
  go_wp2
  go_ret
  exact ⟨rfl, i.out⟩
 have ag : decide (n = 2) = false := decide_eq_false y
 go_wp2_with fail
 refine (c.out _ i.out 4 (by decide) (by decide)).mono ?_
 rintro e R ⟨rfl, a⟩
 have j : Hid (Below w.heap.size w R) := Below.behind i.out a
 clear a g2
 have g3 : R.cell? ⟨3, 0, none⟩ = some (.iface 243 (.pointer (some (sent 5)))) := (d.out.below j.out).var 5 (by decide)
 by_cases z : n = 4
 ·subst z
  go_wp2
  go_ret
  exact ⟨rfl, j.out⟩
 have ah : decide (n = 4) = false := decide_eq_false z
 go_wp2_with fail
 refine (c.out _ j.out 5 (by decide) (by decide)).mono ?_
 rintro e S ⟨rfl, a⟩
 have k : Hid (Below w.heap.size w S) := Below.behind j.out a
 clear a g3
 have g4 : S.cell? ⟨4, 0, none⟩ = some (.iface 243 (.pointer (some (sent 6)))) := (d.out.below k.out).var 6 (by decide)
 by_cases B : n = 5
 ·subst B
  go_wp2
  go_ret
  exact ⟨rfl, k.out⟩
 have ai : decide (n = 5) = false := decide_eq_false B
 go_wp2_with fail
 refine (c.out _ k.out 6 (by decide) (by decide)).mono ?_
 rintro e T ⟨rfl, a⟩
 have l : Hid (Below w.heap.size w T) := Below.behind k.out a
 clear a g4
 have g5 : T.cell? ⟨5, 0, none⟩ = some (.iface 243 (.pointer (some (sent 7)))) := (d.out.below l.out).var 7 (by decide)
 by_cases C : n = 6
 ·subst C
  go_wp2
  go_ret
  exact ⟨rfl, l.out⟩
 have aj : decide (n = 6) = false := decide_eq_false C
 go_wp2_with fail
 refine (c.out _ l.out 7 (by decide) (by decide)).mono ?_
 rintro e U ⟨rfl, a⟩
 have m : Hid (Below w.heap.size w U) := Below.behind l.out a
 clear a g5
 have g6 : U.cell? ⟨6, 0, none⟩ = some (.iface 243 (.pointer (some (sent 8)))) := (d.out.below m.out).var 8 (by decide)
 by_cases D : n = 7
 ·subst D
  go_wp2
  go_ret
  exact ⟨rfl, m.out⟩
 have ak : decide (n = 7) = false := decide_eq_false D
 go_wp2_with fail
 refine (c.out _ m.out 8 (by decide) (by decide)).mono ?_
 rintro e V ⟨rfl, a⟩
 have o : Hid (Below w.heap.size w V) := Below.behind m.out a
 clear a g6
 have g7 : V.cell? ⟨7, 0, none⟩ = some (.iface 243 (.pointer (some (sent 9)))) := (d.out.below o.out).var 9 (by decide)
 by_cases E : n = 8
 ·subst E
  go_wp2
  go_ret
  exact ⟨rfl, o.out⟩
 have al : decide (n = 8) = false := decide_eq_false E
 go_wp2_with fail
 refine (c.out _ o.out 9 (by decide) (by decide)).mono ?_
 rintro e X ⟨rfl, a⟩
 have p : Hid (Below w.heap.size w X) := Below.behind o.out a
 clear a g7
 have g8 : X.cell? ⟨8, 0, none⟩ = some (.iface 243 (.pointer (some (sent 10)))) := (d.out.below p.out).var 10 (by decide)
 by_cases F : n = 9
 ·subst F
  go_wp2
  go_ret
  exact ⟨rfl, p.out⟩
 have am : decide (n = 9) = false := decide_eq_false F
 go_wp2_with fail
 refine (c.out _ p.out 10 (by decide) (by decide)).mono ?_
 rintro e Y ⟨rfl, a⟩
 have q : Hid (Below w.heap.size w Y) := Below.behind p.out a
 clear a g8
 have g9 : Y.cell? ⟨9, 0, none⟩ = some (.iface 243 (.pointer (some (sent 11)))) := (d.out.below q.out).var 11 (by decide)
 by_cases G : n = 10
 ·subst G
  go_wp2
  go_ret
  exact ⟨rfl, q.out⟩
 have ao : decide (n = 10) = false := decide_eq_false G
 go_wp2_with fail
 refine (c.out _ q.out 11 (by decide) (by decide)).mono ?_
 rintro e J ⟨rfl, a⟩
 have f : Hid (Below w.heap.size w J) := Below.behind q.out a
 clear a g9
 have L : J.cell? ⟨10, 0, none⟩ = some (.iface 243 (.pointer (some (sent 12)))) := (d.out.below f.out).var 12 (by decide)
 by_cases H : n = 11
 ·subst H
  go_wp2
  go_ret
  exact ⟨rfl, f.out⟩
 have ap : decide (n = 11) = false := decide_eq_false H
 go_wp2_with fail
 refine (c.out _ f.out 12 (by decide) (by decide)).mono ?_
 rintro e K ⟨rfl, a⟩
 have g : Hid (Below w.heap.size w K) := Below.behind f.out a
 clear a L
 have M : K.cell? ⟨11, 0, none⟩ = some (.iface 243 (.pointer (some (sent 13)))) := (d.out.below g.out).var 13 (by decide)
 by_cases s : n = 12
 ·subst s
  go_wp2
  go_ret
  exact ⟨rfl, g.out⟩
 have aa : decide (n = 12) = false := decide_eq_false s
 go_wp2_with fail
 refine (c.out _ g.out 13 (by decide) (by decide)).mono ?_
 rintro e P ⟨rfl, a⟩
 have r : Hid (Below w.heap.size w P) := Below.behind g.out a
 clear a M
 by_cases t : n = 13
 ·subst t
  go_wp2
  go_ret
  exact ⟨rfl, r.out⟩
 have ac : decide (n = 13) = false := decide_eq_false t
 obtain rfl : n = 3 := by
  simp only [nums, List.mem_cons, List.not_mem_nil, or_false] at N
  omega
 go_wp2
 go_ret
 exact ⟨rfl, r.out⟩
def Er.at_ (e : Er) : Nat := (e.asP.map (·.1)).getD 0
def Er.node (e : Er) : Nat := (e.asN.map (·.1)).getD 0
def Er.proof (e : Er) : Nat := (e.asQ.map (·.1)).getD 0
abbrev faultV (err proof node at_ : Nat) : Value := .agg #[.int .i64 (err : Int), .int .i64 (proof : Int), .int .i64 (node : Int), .int .i64 (at_ : Int)]
theorem AsSaid.soft {r : Option (Nat × Er)} {sent : Nat -> Addr} {o0 : Value} (ht : w.cell? ⟨tb, 0, none⟩ = some o0) {e : Ending} (h : AsSaid r sent tb w e w') :
  ∃ b : Bool, e = .returned (.bool b) /\ Only tb w w' /\ (b = true -> w'.cell? ⟨tb, 0, none⟩ = some (.int .i64 (((r.map (·.1)).getD 0 : Nat) : Int))) /\ (b = false -> (r.map (·.1)).getD 0 = 0) := by
 have d := World.block_lt_of_cell? w _ ht
 rcases r with _ | ⟨k, x⟩
 ·obtain ⟨rfl, a⟩ := h.1 rfl
  exact ⟨false, rfl, ⟨a.os, a.tape, a.output, a.size, fun k g _ => a.block k g⟩, by simp, by simp⟩
 ·obtain ⟨rfl, i, a, rfl⟩ := h.2 k x rfl
  refine ⟨true, rfl, ⟨a.os, a.tape, a.output, by simpa using a.size, fun j f c => ?_⟩, fun _ => ?_, by simp⟩
  ·rw [Below.heap_setCell _ _ _ _ c, Below.heap_setCell _ _ _ _ c]
   exact a.block j f
  ·rw [World.cell?_setCell_other _ _ _ _ (by simp)]
   exact World.cell?_setCell_same _ _ _ ((a.cell d).trans ht)
structure Four (w : World) (b : Nat) (x0 x1 x2 x3 : Nat) : Prop where
 lt : b < w.heap.size
 c0 : w.cell? ⟨b, 0, none⟩ = some (.int .i64 (x0 : Int))
 c1 : w.cell? ⟨b, 1, none⟩ = some (.int .i64 (x1 : Int))
 c2 : w.cell? ⟨b, 2, none⟩ = some (.int .i64 (x2 : Int))
 c3 : w.cell? ⟨b, 3, none⟩ = some (.int .i64 (x3 : Int))
 free : ∀ j, j < 4 -> w.frozen? ⟨b, j, none⟩ = false
variable {b x0 x1 x2 x3 : Nat}
theorem Four.keep (h : Four w b x0 x1 x2 x3) (e : w'.heap[b]? = w.heap[b]?) (hs : w.heap.size <= w'.heap.size) : Four w' b x0 x1 x2 x3 :=
 ⟨Nat.lt_of_lt_of_le h.lt hs, (World.cell?_of_block e).trans h.c0, (World.cell?_of_block e).trans h.c1, (World.cell?_of_block e).trans h.c2, (World.cell?_of_block e).trans h.c3, fun j hj => (World.frozen?_of_block e).trans (h.free j hj)⟩
theorem Four.fresh (w : World) (x0 x1 x2 x3 : Nat) (t : TypeId) : Four (w.alloc (.cells #[.int .i64 (x0 : Int), .int .i64 (x1 : Int), .int .i64 (x2 : Int), .int .i64 (x3 : Int)] t)) w.heap.size x0 x1 x2 x3 :=
 ⟨by simp, by rw [World.cell?_alloc_new]; rfl, by rw [World.cell?_alloc_new]; rfl, by rw [World.cell?_alloc_new]; rfl, by rw [World.cell?_alloc_new]; rfl, fun _ _ => World.frozen?_alloc_new _ _ _ _⟩
theorem Four.past (h : Four w b x0 x1 x2 x3) (o : Obj) : Four (w.alloc o) b x0 x1 x2 x3 := h.keep (Below.heap_alloc _ _ _ h.lt) (by simp)
theorem Four.only (h : Four w b x0 x1 x2 x3) (ho : Only tb w w') (hne : b ≠ tb) : Four w' b x0 x1 x2 x3 := h.keep (ho.block b h.lt hne) ho.size
theorem Four.other (h : Four w b x0 x1 x2 x3) {a : Addr} (hne : b ≠ a.block) (u : Value) : Four (w.setCell a u) b x0 x1 x2 x3 := h.keep (Below.heap_setCell _ _ _ _ hne) (by simp)
theorem Four.set1 (h : Four w b x0 x1 x2 x3) (y : Nat) : Four (w.setCell ⟨b, 1, none⟩ (.int .i64 (y : Int))) b x0 y x2 x3 :=
 ⟨by simpa using h.lt, (World.cell?_setCell_other _ _ _ _ (by simp)).trans h.c0, World.cell?_setCell_same _ _ _ h.c1, (World.cell?_setCell_other _ _ _ _ (by simp)).trans h.c2, (World.cell?_setCell_other _ _ _ _ (by simp)).trans h.c3, fun j hj => by rw [World.frozen?_setCell]; exact h.free j hj⟩
theorem Four.set2 (h : Four w b x0 x1 x2 x3) (y : Nat) : Four (w.setCell ⟨b, 2, none⟩ (.int .i64 (y : Int))) b x0 x1 y x3 :=
 ⟨by simpa using h.lt, (World.cell?_setCell_other _ _ _ _ (by simp)).trans h.c0, (World.cell?_setCell_other _ _ _ _ (by simp)).trans h.c1, World.cell?_setCell_same _ _ _ h.c2, (World.cell?_setCell_other _ _ _ _ (by simp)).trans h.c3, fun j hj => by rw [World.frozen?_setCell]; exact h.free j hj⟩
theorem Four.set3 (h : Four w b x0 x1 x2 x3) (y : Nat) : Four (w.setCell ⟨b, 3, none⟩ (.int .i64 (y : Int))) b x0 x1 x2 y :=
 ⟨by simpa using h.lt, (World.cell?_setCell_other _ _ _ _ (by simp)).trans h.c0, (World.cell?_setCell_other _ _ _ _ (by simp)).trans h.c1, (World.cell?_setCell_other _ _ _ _ (by simp)).trans h.c2, World.cell?_setCell_same _ _ _ h.c3, fun j hj => by rw [World.frozen?_setCell]; exact h.free j hj⟩
def typeAt (w : World) : Prop := w.cell? ⟨12, 0, none⟩ = some (.iface 177 (.agg #[.pointer (some ⟨17, 62, none⟩)]))
def AsSoft (f : Er -> Option (Nat × Er)) (e0 : Er) (tb : Nat) (W : World) (e : Ending) (w' : World) : Prop :=
 ∃ b : Bool, e = .returned (.bool b) /\ Only tb W w' /\ (b = true -> w'.cell? ⟨tb, 0, none⟩ = some (.int .i64 ((((f e0).map (·.1)).getD 0 : Nat) : Int))) /\ (b = false -> ((f e0).map (·.1)).getD 0 = 0)
theorem Qyk (sent : Nat -> Addr) (e0 : Er) (h0 : e0.simple) (w : World) (hF : Faults w sent) (hT : typeAt w) :
  Calls Tryz.prog 21 #[e0.val sent] w fun e w' => e = .returned (faultV e0.num e0.proof e0.node e0.at_) /\ Below w.heap.size w w' := by
 obtain ⟨E, F, p⟩ := e0.shape sent
 have z : 12 < w.heap.size := World.block_lt_of_cell? w _ hT
 have HN : Hid (∀ W, Below w.heap.size w W -> Calls Tryz.prog 30 #[.iface E F] W fun e w' => e = .returned (.int .i64 (e0.num : Int)) /\ Below W.heap.size W w') := fun W x => p ▸ Qnv sent e0 h0 W (hF.below x)
 have HP : Hid (∀ W f n o, Below w.heap.size w W -> W.cell? ⟨f, 0, none⟩ = some n -> W.cell? ⟨f, 1, none⟩ = some o -> W.frozen? ⟨f, 0, none⟩ = false -> W.frozen? ⟨f, 1, none⟩ = false -> Calls Tryz.prog 36 #[.iface E F, .iface 94 (.pointer (some ⟨f, 0, none⟩))] W (AsSoft Er.asP e0 f W)) := fun W f n o x a b c d => p ▸ (as_P sent e0 h0 f n o W ((x.cell z).trans hT) a b c d).mono fun _ _ h => h.soft a
 have HQ : Hid (∀ W f n o, Below w.heap.size w W -> W.cell? ⟨f, 0, none⟩ = some n -> W.cell? ⟨f, 1, none⟩ = some o -> W.frozen? ⟨f, 0, none⟩ = false -> W.frozen? ⟨f, 1, none⟩ = false -> Calls Tryz.prog 36 #[.iface E F, .iface 97 (.pointer (some ⟨f, 0, none⟩))] W (AsSoft Er.asN e0 f W)) := fun W f n o x a b c d => p ▸ (as_N sent e0 h0 f n o W ((x.cell z).trans hT) a b c d).mono fun _ _ h => h.soft a
 have HR : Hid (∀ W f n o, Below w.heap.size w W -> W.cell? ⟨f, 0, none⟩ = some n -> W.cell? ⟨f, 1, none⟩ = some o -> W.frozen? ⟨f, 0, none⟩ = false -> W.frozen? ⟨f, 1, none⟩ = false -> Calls Tryz.prog 36 #[.iface E F, .iface 100 (.pointer (some ⟨f, 0, none⟩))] W (AsSoft Er.asQ e0 f W)) := fun W f n o x a b c d => p ▸ (as_Q sent e0 h0 f n o W ((x.cell z).trans hT) a b c d).mono fun _ _ h => h.soft a
 rw [p]
 clear p h0 hF hT z
 go_enter Tryz.func21, Tryz.ntmps21
 go_wp2_with fail
 refine (HN.out _ ((Below.refl _ _).alloc (Nat.le_refl _) _)).mono ?_
 rintro e g ⟨rfl, y⟩
 have l : Aside (Below w.heap.size w g) := Below.up y
 have D : Aside (Four g w.heap.size 0 0 0 0) := (Four.fresh w 0 0 0 0 _).keep (y.block _ (by simp)) y.size
 clear y
 go_wp2_with fail
 refine (HP.out _ (g.heap.size + 1) (.int .i64 0) .nilIface ?b1 ?c1 ?d1 ?f1 ?g1).mono ?_
 case b1 => exact (l.out.alloc l.out.size _).alloc (by have := l.out.size; simp; omega) _
 case c1 => go_simp
 case d1 => go_simp
 case f1 => go_simp
 case g1 => go_simp
 rintro e I ⟨b, rfl, i, m, j⟩
 have r : Aside (Below w.heap.size w I /\ Four I w.heap.size 0 0 0 0 /\ Four I g.heap.size e0.num 0 0 0) := by
  have q := D.out
  have u := Four.fresh g e0.num 0 0 0 33
  have X := q.lt
  have Y := u.lt
  have h6 := l.out.size
  refine ⟨i.below ((l.out.alloc l.out.size _).alloc (by have := l.out.size; simp; omega) _) (by omega) (by simp; omega), ?_, ?_⟩
  ·exact Four.only ((q.past _).past _) i (by omega)
  ·exact Four.only ((Four.fresh g e0.num 0 0 0 _).past _) i (by omega)
 have Z : Aside (_ /\ _) := ⟨m, j⟩
 clear i m j
 go_upto_if 12 with fail
 go_cut [] (fun wc => Below w.heap.size w wc /\ Four wc w.heap.size 0 0 0 0 /\ Four wc g.heap.size e0.num 0 0 e0.at_)
 case first =>
  cases b with
  | false =>
   go_wp2
   go_meet
   have j : e0.at_ = 0 := Z.out.2 (by first | trivial | rfl)
   rw [j]
   exact r.out
  | true =>
   have m : I.cell? ⟨g.heap.size + 1, 0, none⟩ = some (.int .i64 ((e0.at_ : Nat) : Int)) := Z.out.1 rfl
   have L := r.out.2.2.c3
   have M := r.out.2.2.free 3 (by omega)
   go_wp2
   go_meet
   exact ⟨r.out.1.setCell (by simp only; exact l.out.size) _, r.out.2.1.other (by have := D.out.lt; simp only; omega) _, r.out.2.2.set3 _⟩
 obtain ⟨N, Q, T⟩ := hcut
 have B : Aside (Below w.heap.size w wc /\ Four wc w.heap.size 0 0 0 0 /\ Four wc g.heap.size e0.num 0 0 e0.at_) := ⟨N, Q, T⟩
 clear N Q T r Z
 obtain ⟨G, rfl⟩ : ∃ G : World, G = wc := ⟨_, rfl⟩
 go_wp2_with fail
 refine (HQ.out _ (G.heap.size) (.int .i64 0) .nilIface ?b2 ?c2 ?d2 ?f2 ?g2).mono ?_
 case b2 => exact B.out.1.alloc B.out.1.size _
 case c2 => go_simp
 case d2 => go_simp
 case f2 => go_simp
 case g2 => go_simp
 rintro e J ⟨b, rfl, i, m, j⟩
 have s : Aside (Below w.heap.size w J /\ Four J w.heap.size 0 0 0 0 /\ Four J g.heap.size e0.num 0 0 e0.at_) := by
  have q := B.out.2.1
  have u := B.out.2.2
  have X := q.lt
  have Y := u.lt
  have h6 := l.out.size
  refine ⟨i.below (B.out.1.alloc B.out.1.size _) (by omega) (by simp; omega), ?_, ?_⟩
  ·exact Four.only (q.past _) i (by omega)
  ·exact Four.only (u.past _) i (by omega)
 have Z : Aside (_ /\ _) := ⟨m, j⟩
 clear i m j
 go_upto_if 18 with fail
 go_cut [] (fun wc => Below w.heap.size w wc /\ Four wc w.heap.size 0 0 0 0 /\ Four wc g.heap.size e0.num 0 e0.node e0.at_)
 case first =>
  cases b with
  | false =>
   go_wp2
   go_meet
   have j : e0.node = 0 := Z.out.2 (by first | trivial | rfl)
   rw [j]
   exact s.out
  | true =>
   have m : J.cell? ⟨G.heap.size, 0, none⟩ = some (.int .i64 ((e0.node : Nat) : Int)) := Z.out.1 rfl
   have L := s.out.2.2.c2
   have M := s.out.2.2.free 2 (by omega)
   go_wp2
   go_meet
   exact ⟨s.out.1.setCell (by simp only; exact l.out.size) _, s.out.2.1.other (by have := D.out.lt; simp only; omega) _, s.out.2.2.set2 _⟩
 obtain ⟨O, R, U⟩ := hcut
 have C : Aside (Below w.heap.size w wc /\ Four wc w.heap.size 0 0 0 0 /\ Four wc g.heap.size e0.num 0 e0.node e0.at_) := ⟨O, R, U⟩
 clear O R U s Z
 obtain ⟨H, rfl⟩ : ∃ H : World, H = wc := ⟨_, rfl⟩
 go_wp2_with fail
 refine (HR.out _ (H.heap.size) (.int .i64 0) .nilIface ?b3 ?c3 ?d3 ?f3 ?g3).mono ?_
 case b3 => exact C.out.1.alloc C.out.1.size _
 case c3 => go_simp
 case d3 => go_simp
 case f3 => go_simp
 case g3 => go_simp
 rintro e K ⟨b, rfl, i, m, j⟩
 have t : Aside (Below w.heap.size w K /\ Four K w.heap.size 0 0 0 0 /\ Four K g.heap.size e0.num 0 e0.node e0.at_) := by
  have q := C.out.2.1
  have u := C.out.2.2
  have X := q.lt
  have Y := u.lt
  have h6 := l.out.size
  refine ⟨i.below (C.out.1.alloc C.out.1.size _) (by omega) (by simp; omega), ?_, ?_⟩
  ·exact Four.only (q.past _) i (by omega)
  ·exact Four.only (u.past _) i (by omega)
 have Z : Aside (_ /\ _) := ⟨m, j⟩
 clear i m j
 go_upto_if 24 with fail
 go_cut [] (fun wc => Below w.heap.size w wc /\ Four wc w.heap.size 0 0 0 0 /\ Four wc g.heap.size e0.num e0.proof e0.node e0.at_)
 case first =>
  cases b with
  | false =>
   go_wp2
   go_meet
   have j : e0.proof = 0 := Z.out.2 (by first | trivial | rfl)
   rw [j]
   exact t.out
  | true =>
   have m : K.cell? ⟨H.heap.size, 0, none⟩ = some (.int .i64 ((e0.proof : Nat) : Int)) := Z.out.1 rfl
   have L := t.out.2.2.c1
   have M := t.out.2.2.free 1 (by omega)
   go_wp2
   go_meet
   exact ⟨t.out.1.setCell (by simp only; exact l.out.size) _, t.out.2.1.other (by have := D.out.lt; simp only; omega) _, t.out.2.2.set1 _⟩
 obtain ⟨P, S, V⟩ := hcut
 have k : Aside (Below w.heap.size w wc /\ Four wc w.heap.size 0 0 0 0 /\ Four wc g.heap.size e0.num e0.proof e0.node e0.at_) := ⟨P, S, V⟩
 clear P S V t Z
 obtain ⟨v4, rfl⟩ : ∃ v4 : World, v4 = wc := ⟨_, rfl⟩
 have L := k.out.2.2.c0
 have M := k.out.2.2.c1
 have k2 := k.out.2.2.c2
 have k3 := k.out.2.2.c3
 have r0 := k.out.2.1.c0
 have r1 := k.out.2.1.c1
 have r2 := k.out.2.1.c2
 have r3 := k.out.2.1.c3
 have f0 := k.out.2.1.free 0 (by omega)
 have f1 := k.out.2.1.free 1 (by omega)
 have f2 := k.out.2.1.free 2 (by omega)
 have f3 := k.out.2.1.free 3 (by omega)
 go_wp2
 refine bodyPost_ret (v := faultV e0.num e0.proof e0.node e0.at_) (by simp [results, Tryz.results21, go_sem, r0, r1, r2, r3]) rfl ⟨rfl, ?_⟩
 exact (((k.out.1.setCell (Nat.le_refl _) _).setCell (Nat.le_refl _) _).setCell (Nat.le_refl _) _).setCell (Nat.le_refl _) _
open Go.RowKit
end Go.Proofs.YtakidhihbgfjlaaGreatDoor
