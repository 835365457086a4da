/-
  Parts of a tree (pure): some nodes are known by their digests alone. Ways, putting and deleting in a part and in its whole.
-/
import Derived.Test.YtakidhihbgfjlaaGreatDoorSxRtG
import Derived.Test.YtakidhihbgfjlaaGreatDoorSxWaG
namespace Go.Proofs.YtakidhihbgfjlaaGreatDoor
open Go.RowKit
set_option maxRecDepth 100000
set_option maxHeartbeats 25600000
inductive Prt : Nd -> Nd -> Prop
 | no : Prt .no .no
 | leaf (p v : ByteArray) : Prt (.leaf p v) (.leaf p v)
 | ext (p : ByteArray) {a t : Nd} : Prt a t -> Prt (.ext p a) (.ext p t)
 | br {xs ts : List Nd} : xs.length = ts.length -> (∀ i, Prt (xs.getD i .no) (ts.getD i .no)) -> Prt (.br xs) (.br ts)
 | hid {t : Nd} : t ≠ .no -> ¬ t.ref.length < 32 -> Prt (.stub t.dig) t
theorem Qmo {ks : List Nd} {n : Nat} (h : fitsAll ks n) (i : Nat) : (ks.getD i .no).fits n := by
 rw [List.getD_eq_getElem?_getD]
 cases hx : ks[i]? with
 | none => rw [Option.getD_none, Nd.fits]; trivial
 | some y => rw [Option.getD_some]; exact Qhn h (List.mem_of_getElem? hx)
def wide : Nd -> Prop
 | .br ks => 2 <= cntN ks 16 /\ ks.length = 16
 | _ => True
variable {t : Nd}
theorem Qkq {c : Nd} (all : Bool) (ps : List ByteArray) (h : Prt c t) : Prt (t.pickN all ps c) t := by
 by_cases a : t = .no
 ·subst a; exact .no
 ·have b : Prt (if (all || decide (ps ≠ []) || decide (t.ref.length < 32)) = true then c else .stub t.dig) t := by
   split
   ·exact h
   ·rename_i h1
    refine .hid a fun d => h1 ?_
    simp [d]
  cases t with
  | no => exact absurd rfl a
  | _ => exact b
mutual
def Nd.noStub : Nd -> Prop
 | .no => True
 | .leaf _ _ => True
 | .ext _ t => (∀ g, t ≠ .stub g) /\ t.noStub
 | .br ks => noStubs ks
 | .stub _ => False
def noStubs : List Nd -> Prop
 | [] => True
 | t :: ks => (∀ g, t ≠ .stub g) /\ t.noStub /\ noStubs ks
end
mutual
theorem Qfy : ∀ (t : Nd) (n : Nat), t.can n -> t.noStub
 | .no, _, _ => by rw [Nd.noStub]; trivial
 | .leaf _ _, _, _ => by rw [Nd.noStub]; trivial
 | .ext p t, n, h => by
  rw [Qdg] at h
  rw [Nd.noStub]
  exact ⟨Qbt h.2.2.2.1, Qfy t _ h.2.2.2.1⟩
 | .br ks, n, h => by
  rw [can_br] at h
  rw [Nd.noStub]
  exact Qhc ks _ h.2.2.1
 | .stub g, n, h => absurd rfl (Qbt h g)
theorem Qhc : ∀ (ks : List Nd) (n : Nat), canAll ks n -> noStubs ks
 | [], _, _ => by rw [noStubs]; trivial
 | t :: ks, n, h => by
  rw [canAll] at h
  rw [noStubs]
  exact ⟨Qbt h.1, Qfy t n h.1, Qhc ks n h.2⟩
end
mutual
theorem Qoo : ∀ (t : Nd) (all : Bool) (ps : List ByteArray), (∀ g, t ≠ .stub g) -> t.noStub -> Prt (t.prt all ps) t
 | .no, _, _, _, _ => by rw [Nd.prt]; exact .no
 | .leaf p v, _, _, _, _ => by rw [Nd.prt]; exact .leaf p v
 | .ext p t, all, ps, _, h => by
  rw [Nd.noStub] at h
  rw [Nd.prt]
  exact .ext p (Qkq _ _ (Qoo t all _ h.1 h.2))
 | .br ks, all, ps, _, h => by
  rw [Nd.noStub] at h
  rw [Nd.prt]
  exact .br (Qez ks 0 all ps) fun i => Qpp ks h 0 all ps i
 | .stub g, _, _, h, _ => absurd rfl (h g)
theorem Qpp : ∀ (ks : List Nd), noStubs ks -> ∀ (j : Nat) (all : Bool) (ps : List ByteArray) (i : Nat), Prt ((prts ks j all ps).getD i .no) (ks.getD i .no)
 | [], _, j, all, ps, i => by rw [prts]; exact .no
 | t :: ks, h, j, all, ps, i => by
  rw [noStubs] at h
  rw [prts]
  cases i with
  | zero =>
   rw [List.getD_cons_zero, List.getD_cons_zero]
   exact Qkq _ _ (Qoo t all _ h.1 h.2.1)
  | succ i =>
   rw [List.getD_cons_succ, List.getD_cons_succ]
   exact Qpp ks h.2.2 (j + 1) all ps i
end
theorem QA3 (h : t.can 64) (all : Bool) (ps : List ByteArray) : Prt (t.prs all ps) t := Qkq all ps (Qoo t all ps (Qbt h) (Qfy t 64 h))
variable {B b : Nat} {S : Wood} {w : World} {h : List Nat} {K : Array Nat} {p r' : ByteArray} {l : List (Nd × ByteArray)}
theorem Qtj (sent : Nat -> Addr) (hFl : Faults w sent) (hf : Forest B S w) (ht : TreeAt S w b t) (hK : K.size = 32) (hKb : Bytes K) (hp : textB (nibs K.toList) = p) (hfit : t.fits p.size) (hn : ∀ x ∈ bytesOf p, x < 16) (hps : p.size <= 1000) (hT : WayTo t p l (.stub h) r') :
  Calls Tryz.prog 47 #[.pointer (some ⟨b, 0, none⟩), .agg (K.toList.map encB).toArray] w fun x w' => x = .returned (.tuple #[.agg #[.slice none 0 0, .nilIface, .string ⟨#[]⟩], (Er.base 12).val sent]) /\ Below w.heap.size w w' := by
 obtain ⟨e, C⟩ : ∃ e, e = Nd.stub h := ⟨_, rfl⟩
 rw [<- C] at hT
 have U := Hq C
 have he : e ≠ .no := by rw [C]; simp
 have Q := Hq hFl
 clear C hFl
 have ac := ht.lt
 obtain ⟨v, hv, c0, -⟩ := ht.cell
 have HF := Hq hf
 have R := Qho K
 rw [hp] at R
 have V : Hid (∀ W, Calls Tryz.prog 32 #[.agg (K.toList.map encB).toArray] W fun e w' => e = .returned (.string p) /\ Below W.heap.size W w') := fun W => R W hK hKb
 have Y : Hid (∀ W, Below w.heap.size w W -> Calls Tryz.prog 66 #[v, .string p] W fun x w' => Below W.heap.size W w' /\ ∃ m v', x = .returned (.agg #[m, v', .string r']) /\ Followed S W.heap.size w' l e m v') := fun W hW => Qjq (hf.below hW) hv hfit hn hps hT
 have I : ∀ o, ((w.alloc (.cells (K.toList.map encB).toArray 42)).alloc o).rangeAt w.heap.size 0 (K.toList.map encB) := fun o j u T => by
  rw [World.cell?_alloc_past _ _ _ (by simp), Nat.zero_add, World.cell?_alloc_new]
  simpa using T
 have am : (Tryz.prog.info? 42).map (·.size) = some (K.toList.map encB).length := by rw [Qb4]; simp [hK]
 clear hf ht hv hK hKb hp hfit hn hps hT R
 go_enter Tryz.func47, Tryz.ntmps47
 go_upto_region 1 with fail
 have H := I (.cells #[.slice none 0 0, .nilIface, .string ⟨#[]⟩] 112)
 have z : Below w.heap.size w ((w.alloc (.cells (K.toList.map encB).toArray 42)).alloc (.cells #[.slice none 0 0, .nilIface, .string ⟨#[]⟩] 112)) := ((Below.refl _ _).alloc (Nat.le_refl _) _).alloc (by simp) _
 have J : ((w.alloc (.cells (K.toList.map encB).toArray 42)).alloc (.cells #[.slice none 0 0, .nilIface, .string ⟨#[]⟩] 112)).heap.size = w.heap.size + 2 := by simp
 have L : ((w.alloc (.cells (K.toList.map encB).toArray 42)).alloc (.cells #[.slice none 0 0, .nilIface, .string ⟨#[]⟩] 112)).there (w.heap.size + 1) 0 3 := by
  have := Qac (w.alloc (.cells (K.toList.map encB).toArray 42)) #[.slice none 0 0, .nilIface, .string ⟨#[]⟩] 112 3 rfl
  simpa using this
 have D := Qai (w.alloc (.cells (K.toList.map encB).toArray 42)) (.cells #[.slice none 0 0, .nilIface, .string ⟨#[]⟩] 112)
 rw [World.size_alloc] at D
 generalize (w.alloc (.cells (K.toList.map encB).toArray 42)).alloc (.cells #[.slice none 0 0, .nilIface, .string ⟨#[]⟩] 112) = W0 at H z J L D ⊢
 have aa := Hq D
 clear D
 have c1 := (z.cell (p := ⟨b, 0, none⟩) ac).trans c0
 have q : Hid (Below w.heap.size w W0 /\ W0.heap.size = w.heap.size + 2 /\ W0.there (w.heap.size + 1) 0 3) := ⟨z, J, L⟩
 have i : Hid (∀ N, Below W0.heap.size W0 N -> N.cell? ⟨b, 0, none⟩ = some v /\ N.rangeAt w.heap.size 0 (K.toList.map encB)) := fun N h => ⟨(h.cell (p := ⟨b, 0, none⟩) (by have := q.out.2.1; show b < _; omega)).trans c1, fun j u T => (h.cell (p := ⟨w.heap.size, 0 + j, none⟩) (by have := q.out.2.1; show w.heap.size < _; omega)).trans (H j u T)⟩
 have r : Below W0.heap.size W0 W0.drew := (Below.refl _ _).drew
 clear I z J L c0
 have aj := Tryz.underlying42
 go_cut [6] (fun v6 wc => ∃ g m v', v6 = .pointer (some ⟨g, 0, none⟩) /\ WayPut S W0 l e r' g m v' wc)
 case first =>
  go_region_held3 (fun w' => w'.cell? ⟨b, 0, none⟩ = some v /\ w'.rangeAt w.heap.size 0 (K.toList.map encB)) (first | exact i.out _ r | exact i.out _ (r.alloc (Nat.le_refl _) _) | exact i.out _ a | exact i.out _ (a.alloc a.size _) | exact i.out _ k | exact i.out _ (k.alloc k.size _) | exact i.out _ (((k.setCell (p := ⟨w1.heap.size, 0, none⟩) a.size _).setCell (p := ⟨w1.heap.size, 1, none⟩) a.size _).setCell (p := ⟨w1.heap.size, 2, none⟩) a.size _) | exact i.out _ (((k.setCell (p := ⟨W0.heap.size, 0, none⟩) (Nat.le_refl _) _).setCell (p := ⟨W0.heap.size, 1, none⟩) (Nat.le_refl _) _).setCell (p := ⟨W0.heap.size, 2, none⟩) (Nat.le_refl _) _))
   (first | (go_at_call 32; refine (V.out _).mono ?_; rintro e w1 ⟨rfl, f⟩; have a : Below W0.heap.size W0 w1 := (by first | exact r.trans f | exact (r.alloc (Nat.le_refl _) _).trans (f.mono (by simp))); have y0 := (fun h => f.cell (p := ⟨W0.heap.size, 0, none⟩) h); have y1 := (fun h => f.cell (p := ⟨W0.heap.size, 1, none⟩) h); have y2 := (fun h => f.cell (p := ⟨W0.heap.size, 2, none⟩) h); have k0 := (fun h => f.frozen (p := ⟨W0.heap.size, 0, none⟩) h); have k1 := (fun h => f.frozen (p := ⟨W0.heap.size, 1, none⟩) h); have k2 := (fun h => f.frozen (p := ⟨W0.heap.size, 2, none⟩) h); have s1 := (fun (h : W0.heap.size < _) => Nat.lt_of_lt_of_le h f.size); have O := Hq f; clear f) | (go_at_call 66; refine (Y.out _ (q.out.1.behind' (by first | exact a | exact a.alloc a.size _))).mono ?_; rintro e w2 ⟨c, m, v2, rfl, y⟩; have k : Below W0.heap.size W0 w2 := (by first | exact a.trans (c.mono a.size) | exact (a.alloc a.size _).trans (c.mono (Nat.le_trans a.size (by simp)))); have Y0 := (fun h => c.cell (p := ⟨W0.heap.size, 0, none⟩) h); have Y1 := (fun h => c.cell (p := ⟨W0.heap.size, 1, none⟩) h); have Y2 := (fun h => c.cell (p := ⟨W0.heap.size, 2, none⟩) h); have K0 := (fun h => c.frozen (p := ⟨W0.heap.size, 0, none⟩) h); have K1 := (fun h => c.frozen (p := ⟨W0.heap.size, 1, none⟩) h); have K2 := (fun h => c.frozen (p := ⟨W0.heap.size, 2, none⟩) h); have X0 := (fun h => c.cell (p := ⟨w1.heap.size, 0, none⟩) h); have X1 := (fun h => c.cell (p := ⟨w1.heap.size, 1, none⟩) h); have X2 := (fun h => c.cell (p := ⟨w1.heap.size, 2, none⟩) h); have J0 := (fun h => c.frozen (p := ⟨w1.heap.size, 0, none⟩) h); have J1 := (fun h => c.frozen (p := ⟨w1.heap.size, 1, none⟩) h); have J2 := (fun h => c.frozen (p := ⟨w1.heap.size, 2, none⟩) h); obtain ⟨pv, mv, cv, rfl⟩ := y.shape; obtain ⟨d2, rfl, -⟩ := y.node.full he; have F := Hq y; have P := Hq c; clear c y))
  all_goals (try go_wp2)
  all_goals go_meet
  ·exact ⟨_, _, _, rfl, Qfz F.out a.size k⟩
  ·exact ⟨_, _, _, rfl, Qcf F.out (Nat.le_trans a.size (by simp)) k (by simp) P.out (by simp) (Qac _ _ _ _ rfl) a.size⟩
  ·exact ⟨_, _, _, rfl, Qcf F.out a.size k (Nat.lt_of_lt_of_le (by simp) O.out.size) (O.out.behind' P.out) (by simp) (Qac W0.drew _ _ _ rfl) (Nat.le_refl _)⟩
 case rest =>
  obtain ⟨g, m, v2, rfl, s⟩ := hcut
  have hz : wc.heap[w.heap.size + 1]? = some (.cells #[.slice none 0 0, .nilIface, .string ⟨#[]⟩] 112 (0, 0)) := (s.2.2.2.block _ (by have := q.out.2.1; omega)).trans aa.out
  have ag := s.1
  have ae := s.2.1
  obtain ⟨pv, mv, cv, rfl⟩ := s.2.2.1.shape
  obtain rfl := U.out
  obtain ⟨d, rfl, hd⟩ := s.2.2.1.node.full (by simp)
  have HM := Hq (Qyz (w := wc) h r' pv mv cv d)
  have X := Hq s
  have Z := Hq hz
  clear s V Y i r c1 H hz he
  go_upto_region 3 with (first | (refine wpList_load_mid rfl 112 _ rfl g 0 rfl _ _ ag Tryz.underlying112 rfl Qbf ?_) | (go_at_call 67; refine HM.out.mono ?_; rintro x E ⟨rfl, G⟩; have M : Hid (Below w.heap.size w E /\ E.heap[w.heap.size + 1]? = some (.cells #[.slice none 0 0, .nilIface, .string ⟨#[]⟩] 112 (0, 0))) := ⟨q.out.1.behind' (X.out.2.2.2.trans (G.mono X.out.2.2.2.size)), (G.block _ (Array.getElem?_eq_some_iff.1 Z.out).1).trans Z.out⟩; clear G))
  have ah : E.cell? ⟨10, 0, none⟩ = some (.iface 243 (.pointer (some (sent 12)))) := (Q.out.below M.out.1).var 12 (by decide)
  have ae : 10 < w.heap.size := Q.out.low (n := 12) (by decide)
  have ak : 10 < w.heap.size + 1 := by omega
  have al : 10 ≠ w.heap.size + 1 := by omega
  have ai : w.heap.size + 1 ≠ 10 := by omega
  obtain ⟨z0, z1, z2⟩ := Qgp M.out.2
  obtain ⟨y0, y1, y2⟩ : E.frozen? ⟨w.heap.size + 1, 0, none⟩ = false /\ E.frozen? ⟨w.heap.size + 1, 1, none⟩ = false /\ E.frozen? ⟨w.heap.size + 1, 2, none⟩ = false := by
   have h := M.out.2
   refine ⟨?_, ?_, ?_⟩ <;> simp [World.frozen?, h]
  go_region
  go_wp2
  refine bodyPost_ret (v := .tuple #[.agg #[.slice none 0 0, .nilIface, .string ⟨#[]⟩], .iface 243 (.pointer (some (sent 12)))]) (by simp [results, Tryz.results47, go_sem, z0, z1, z2]) rfl ⟨rfl, ?_⟩
  exact (((M.out.1.setCell (p := ⟨w.heap.size + 1, 0, none⟩) (Nat.le_succ _) _).setCell (p := ⟨w.heap.size + 1, 1, none⟩) (Nat.le_succ _) _).setCell (p := ⟨w.heap.size + 1, 2, none⟩) (Nat.le_succ _) _).drew
variable {o : Option ByteArray}
theorem Qtk {e : Nd} (hf : Forest B S w) (ht : TreeAt S w b t) (hK : K.size = 32) (hKb : Bytes K) (hp : textB (nibs K.toList) = p) (hfit : t.fits p.size) (hn : ∀ x ∈ bytesOf p, x < 16) (hps : p.size <= 64) (hT : WayTo t p l e r') (hs : ∀ g, e ≠ .stub g) (hval : (o = none /\ ∀ u, e ≠ .leaf r' u) \/ ∃ u, o = some u /\ e = .leaf r' u) :
  Calls Tryz.prog 40 #[.pointer (some ⟨b, 0, none⟩), .agg (K.toList.map encB).toArray] w fun x w' => x = .returned (.tuple #[.string (o.getD ⟨#[]⟩), .bool o.isSome, .nilIface]) /\ Below w.heap.size w w' := by
 have c : Below w.heap.size w (w.alloc (.cells (K.toList.map encB).toArray 42)) := (Below.refl _ _).alloc (Nat.le_refl _) _
 have s : (w.alloc (.cells (K.toList.map encB).toArray 42)).rangeAt w.heap.size 0 (K.toList.map encB) := fun j u J => by
  rw [Nat.zero_add, World.cell?_alloc_new]
  simpa using J
 have C : (Tryz.prog.info? 42).map (·.size) = some (K.toList.map encB).length := by rw [Qb4]; simp [hK]
 have I := Hq (Ql4 (hf.below c) (ht.frame (Fr.of_below hf c)) hK hKb hp hfit hn (by omega) hT hs)
 have r : Hid (Forest B S w /\ Below w.heap.size w (w.alloc (.cells (K.toList.map encB).toArray 42)) /\ ((o = none /\ ∀ u, e ≠ .leaf r' u) \/ ∃ u, o = some u /\ e = .leaf r' u)) := ⟨hf, c, hval⟩
 obtain ⟨ov, i⟩ : ∃ ov, o.getD ⟨#[]⟩ = ov := ⟨_, rfl⟩
 obtain ⟨ob, h⟩ : ∃ ob, o.isSome = ob := ⟨_, rfl⟩
 have y : Hid (o.getD ⟨#[]⟩ = ov /\ o.isSome = ob) := ⟨i, h⟩
 rw [i, h]
 clear hf ht hK hKb hp hT hs hps hn hval c hfit i h
 go_enter Tryz.func40, Tryz.ntmps40
 go_wp2_with (first | (refine wpList_load_mid rfl 42 _ rfl w.heap.size 0 rfl _ _ s Tryz.underlying42 rfl C ?_) | (go_at_call 47; refine I.out.mono ?_; rintro x m ⟨n, N, L, rfl, a⟩; obtain ⟨F, E, z, rfl⟩ := a.shape; have D := a.node.shape; have d := r.out.2.1.behind' n; have f : ∀ o, Below w.heap.size w (m.alloc o) := (fun o => d.alloc d.size o); have H : Hid (∀ k, Calls Tryz.prog 61 #[.agg #[.slice F E z, L, .string r']] (m.alloc k) fun x w' => x = .returned (.tuple #[.string ov, .bool ob]) /\ Below (m.alloc k).heap.size (m.alloc k) w') := (fun k => by rw [<- y.out.1, <- y.out.2]; exact Qs4 F E z (r.out.1.below (f k)) a.node r.out.2.2); have v := Hq f; clear n a d f; rcases D with rfl | ⟨T2, a2, rfl⟩) | (go_at_call 61; refine (H.out _).mono ?_; rintro x M ⟨rfl, q⟩; have G : Hid (Below w.heap.size w M) := (v.out _).behind' q; clear q))
 all_goals go_ret3
 all_goals exact ⟨rfl, G.out⟩
theorem Qtl {e : Nd} (hf : Forest B S w) (ht : TreeAt S w b t) (hK : K.size = 32) (hKb : Bytes K) (hp : textB (nibs K.toList) = p) (hfit : t.fits p.size) (hn : ∀ x ∈ bytesOf p, x < 16) (hps : p.size <= 64) (hT : WayTo t p l e r') (hs : ∀ g, e ≠ .stub g) (hval : (o = none /\ ∀ u, e ≠ .leaf r' u) \/ ∃ u, o = some u /\ e = .leaf r' u) :
  Calls Tryz.prog 24 #[.pointer (some ⟨b, 0, none⟩), .agg (K.toList.map encB).toArray] w fun x w' => x = .returned (.tuple #[.string (o.getD ⟨#[]⟩), .bool o.isSome, .int .i64 0]) /\ Below w.heap.size w w' := by
 have D := ht.lt
 have E : (Tryz.prog.info? 42).map (·.size) = some (K.toList.map encB).length := by rw [Qb4]; simp [hK]
 obtain ⟨W0, c⟩ : ∃ W0, w.alloc (.cells (K.toList.map encB).toArray 42) = W0 := ⟨_, rfl⟩
 have i : Below w.heap.size w W0 := by rw [<- c]; exact (Below.refl _ _).alloc (Nat.le_refl _) _
 have q : w.heap.size < W0.heap.size := by rw [<- c]; simp
 have h : W0.rangeAt w.heap.size 0 (K.toList.map encB) := fun j u z => by
  rw [<- c, Nat.zero_add, World.cell?_alloc_new]
  simpa using z
 have f : Below w.heap.size w W0.drew := i.drew
 have a := Fr.of_below hf f
 have n := Hq (Qtk a.forest (ht.frame a) hK hKb hp hfit hn hps hT hs hval)
 have v := Hq f
 have C := Tryz.underlying42
 obtain ⟨ov, m⟩ : ∃ ov, o.getD ⟨#[]⟩ = ov := ⟨_, rfl⟩
 obtain ⟨ob, k⟩ : ∃ ob, o.isSome = ob := ⟨_, rfl⟩
 rw [m, k] at n ⊢
 clear hf ht hK hKb hp hfit hn hps hT hs hval i f a m k
 go_enter Tryz.func24, Tryz.ntmps24
 go_upto_region 1 with fail
 clear c
 go_region_held3 (fun w' => w'.rangeAt w.heap.size 0 (K.toList.map encB)) (first | exact h | exact y )
  (first | (go_at_call 40; refine n.out.mono ?_; rintro x r ⟨rfl, d⟩; have y : r.rangeAt w.heap.size 0 (K.toList.map encB) := Qa4 h (d.block w.heap.size q); have s : Hid (Below w.heap.size w r) := v.out.behind' d; clear d))
 all_goals go_wp2_with (go_at_call 30; refine (Qio _).mono ?_; rintro x F ⟨rfl, rfl⟩)
 all_goals go_ret3
 all_goals exact ⟨rfl, s.out⟩
theorem Qtm (sent : Nat -> Addr) (hFl : Faults w sent) (hf : Forest B S w) (ht : TreeAt S w b t) (hK : K.size = 32) (hKb : Bytes K) (hp : textB (nibs K.toList) = p) (hfit : t.fits p.size) (hn : ∀ x ∈ bytesOf p, x < 16) (hps : p.size <= 64) (hT : WayTo t p l (.stub h) r') :
  Calls Tryz.prog 40 #[.pointer (some ⟨b, 0, none⟩), .agg (K.toList.map encB).toArray] w fun x w' => x = .returned (.tuple #[.string ⟨#[]⟩, .bool false, (.iface 243 (.pointer (some (sent 12))))]) /\ Below w.heap.size w w' := by
 have a : Below w.heap.size w (w.alloc (.cells (K.toList.map encB).toArray 42)) := (Below.refl _ _).alloc (Nat.le_refl _) _
 have e : (w.alloc (.cells (K.toList.map encB).toArray 42)).rangeAt w.heap.size 0 (K.toList.map encB) := fun j u m => by
  rw [Nat.zero_add, World.cell?_alloc_new]
  simpa using m
 have f : (Tryz.prog.info? 42).map (·.size) = some (K.toList.map encB).length := by rw [Qb4]; simp [hK]
 have k : Hid (Calls Tryz.prog 47 #[.pointer (some ⟨b, 0, none⟩), .agg (K.toList.map encB).toArray] (w.alloc (.cells (K.toList.map encB).toArray 42)) fun x w' => x = .returned (.tuple #[.agg #[.slice none 0 0, .nilIface, .string ⟨#[]⟩], (.iface 243 (.pointer (some (sent 12))))]) /\ Below (w.alloc (.cells (K.toList.map encB).toArray 42)).heap.size (w.alloc (.cells (K.toList.map encB).toArray 42)) w') := Qtj sent (hFl.below a) (hf.below a) (ht.frame (Fr.of_below hf a)) hK hKb hp hfit hn (by omega) hT
 have i := Hq a
 clear hf ht hK hKb hp hfit hn hps hT a hFl
 go_enter Tryz.func40, Tryz.ntmps40
 go_wp2_with (first | (refine wpList_load_mid rfl 42 _ rfl w.heap.size 0 rfl _ _ e Tryz.underlying42 rfl f ?_) | (go_at_call 47; refine k.out.mono ?_; rintro x n ⟨rfl, d⟩; have c := i.out.behind' d; have g : Hid (∀ o, Below w.heap.size w (n.alloc o)) := (fun o => c.alloc c.size o); clear d c))
 go_ret3
 exact ⟨rfl, g.out _⟩
theorem Qtn (sent : Nat -> Addr) (hFl : Faults w sent) (hf : Forest B S w) (ht : TreeAt S w b t) (hK : K.size = 32) (hKb : Bytes K) (hp : textB (nibs K.toList) = p) (hfit : t.fits p.size) (hn : ∀ x ∈ bytesOf p, x < 16) (hps : p.size <= 64) (hT : WayTo t p l (.stub h) r') :
  Calls Tryz.prog 24 #[.pointer (some ⟨b, 0, none⟩), .agg (K.toList.map encB).toArray] w fun x w' => x = .returned (.tuple #[.string ⟨#[]⟩, .bool false, .int .i64 12]) /\ Below w.heap.size w w' := by
 have F := ht.lt
 have G : (Tryz.prog.info? 42).map (·.size) = some (K.toList.map encB).length := by rw [Qb4]; simp [hK]
 obtain ⟨W0, c⟩ : ∃ W0, w.alloc (.cells (K.toList.map encB).toArray 42) = W0 := ⟨_, rfl⟩
 have i : Below w.heap.size w W0 := by rw [<- c]; exact (Below.refl _ _).alloc (Nat.le_refl _) _
 have o : w.heap.size < W0.heap.size := by rw [<- c]; simp
 have g : W0.rangeAt w.heap.size 0 (K.toList.map encB) := fun j u C => by
  rw [<- c, Nat.zero_add, World.cell?_alloc_new]
  simpa using C
 have d : Below w.heap.size w W0.drew := i.drew
 have a := Fr.of_below hf d
 have v := Hq (Qtm sent (hFl.below d) a.forest (ht.frame a) hK hKb hp hfit hn hps hT)
 have r := Hq d
 have s : Hid (∀ W, Below w.heap.size w W -> Calls Tryz.prog 30 #[(.iface 243 (.pointer (some (sent 12))))] W fun e w' => e = .returned (.int .i64 12) /\ Below W.heap.size W w') := fun W z => Qnv sent (.base 12) (by show 12 ∈ nums; decide) W (hFl.below z)
 have D := Tryz.underlying42
 clear hf ht hK hKb hp hfit hn hps hT i d a hFl
 go_enter Tryz.func24, Tryz.ntmps24
 go_upto_region 1 with fail
 clear c
 go_region_held3 (fun w' => w'.rangeAt w.heap.size 0 (K.toList.map encB)) (first | exact g | exact y )
  (first | (go_at_call 40; refine v.out.mono ?_; rintro x q ⟨rfl, f⟩; have y : q.rangeAt w.heap.size 0 (K.toList.map encB) := Qa4 g (f.block w.heap.size o); have m : Hid (Below w.heap.size w q) := r.out.behind' f; clear f))
 all_goals go_wp2_with (go_at_call 30; refine (s.out _ m.out).mono ?_; rintro x E ⟨rfl, k⟩; have n : Hid (Below w.heap.size w E) := m.out.behind' k; clear k)
 all_goals go_ret3
 all_goals exact ⟨rfl, n.out⟩
end Go.Proofs.YtakidhihbgfjlaaGreatDoor
