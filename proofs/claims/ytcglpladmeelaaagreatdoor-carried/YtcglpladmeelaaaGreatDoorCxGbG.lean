/-
  Trees with stubs: the way of a key that meets a stub.
-/
import Derived.Test.YtcglpladmeelaaaGreatDoorCxWaG
import Derived.Test.YtcglpladmeelaaaGreatDoorCxRtG
import Derived.RangeFuncNested
import Derived.RangeFuncBound
namespace Go.Proofs.YtcglpladmeelaaaGreatDoor
open Go.RowKit
set_option maxRecDepth 100000
set_option maxHeartbeats 25600000
theorem tway_stub {B : Nat} {S : Wood} {w : World} {b : Nat} {t : Nd} {h : List Nat} {K : Array Nat} {p r' : ByteArray} {l : List (Nd × ByteArray)} (sent : Nat -> Addr) (hFl : Faults w sent) (hf : Forest B S w) (ht : TreeAt S w b t) (hK : K.size = 32) (hKb : Bytes K) (hp : textB (nibs K.toList) = p) (hfit : t.fits p.size) (hn : ∀ x ∈ bytesOf p, x < 16) (hps : p.size <= 1000) (hT : WayTo t p l (.stub h) r') :
  Calls Tryz.prog 42 #[.pointer (some ⟨b, 0, none⟩), .agg (K.toList.map encB).toArray] w fun x w' => x = .returned (.tuple #[.agg #[.slice none 0 0, .nilIface, .string ⟨#[]⟩], (Er.base 12).val sent]) /\ Below w.heap.size w w' := by
 obtain ⟨e, C⟩ : ∃ e, e = Nd.stub h := ⟨_, rfl⟩
 rw [<- C] at hT
 have U := Hid.hide C
 have he : e ≠ .no := by rw [C]; simp
 have Q := Hid.hide hFl
 clear C hFl
 have ab := ht.lt
 obtain ⟨v, hv, c0, -⟩ := ht.cell
 have HF := Hid.hide hf
 have R := ofkey_any K
 rw [hp] at R
 have V : Hid (∀ W, Calls Tryz.prog 33 #[.agg (K.toList.map encB).toArray] W fun e w' => e = .returned (.string p) /\ Below W.heap.size W w') := fun W => R W hK hKb
 have Y : Hid (∀ W, Below w.heap.size w W -> Calls Tryz.prog 60 #[v, .string p] W fun x w' => Below W.heap.size W w' /\ ∃ m v', x = .returned (.agg #[m, v', .string r']) /\ Followed S W.heap.size w' l e m v') := fun W hW => follow_any (hf.below hW) hv hfit hn hps hT
 have I : ∀ o, ((w.alloc (.cells (K.toList.map encB).toArray 43)).alloc o).rangeAt w.heap.size 0 (K.toList.map encB) := fun o j u T => by
  rw [World.cell?_alloc_past _ _ _ (by simp), Nat.zero_add, World.cell?_alloc_new]
  simpa using T
 have al : (Tryz.prog.info? 43).map (·.size) = some (K.toList.map encB).length := by rw [size51]; simp [hK]
 clear hf ht hv hK hKb hp hfit hn hps hT R
 go_enter Tryz.func42, Tryz.ntmps42
 go_upto_region 1 with fail
 have H := I (.cells #[.slice none 0 0, .nilIface, .string ⟨#[]⟩] 111)
 have z : Below w.heap.size w ((w.alloc (.cells (K.toList.map encB).toArray 43)).alloc (.cells #[.slice none 0 0, .nilIface, .string ⟨#[]⟩] 111)) := ((Below.refl _ _).alloc (Nat.le_refl _) _).alloc (by simp) _
 have J : ((w.alloc (.cells (K.toList.map encB).toArray 43)).alloc (.cells #[.slice none 0 0, .nilIface, .string ⟨#[]⟩] 111)).heap.size = w.heap.size + 2 := by simp
 have L : ((w.alloc (.cells (K.toList.map encB).toArray 43)).alloc (.cells #[.slice none 0 0, .nilIface, .string ⟨#[]⟩] 111)).there (w.heap.size + 1) 0 3 := by
  have := there_new (w.alloc (.cells (K.toList.map encB).toArray 43)) #[.slice none 0 0, .nilIface, .string ⟨#[]⟩] 111 3 rfl
  simpa using this
 have D := heap_new (w.alloc (.cells (K.toList.map encB).toArray 43)) (.cells #[.slice none 0 0, .nilIface, .string ⟨#[]⟩] 111)
 rw [World.size_alloc] at D
 generalize (w.alloc (.cells (K.toList.map encB).toArray 43)).alloc (.cells #[.slice none 0 0, .nilIface, .string ⟨#[]⟩] 111) = W0 at H z J L D ⊢
 have aa := Hid.hide D
 clear D
 have c1 := (z.cell (p := ⟨b, 0, none⟩) ab).trans c0
 have q : Hid (Below w.heap.size w W0 /\ W0.heap.size = w.heap.size + 2 /\ W0.there (w.heap.size + 1) 0 3) := ⟨z, J, L⟩
 have i : Hid (∀ N, Below W0.heap.size W0 N -> N.cell? ⟨b, 0, none⟩ = some v /\ N.rangeAt w.heap.size 0 (K.toList.map encB)) := fun N h => ⟨(h.cell (p := ⟨b, 0, none⟩) (by have := q.out.2.1; show b < _; omega)).trans c1, fun j u T => (h.cell (p := ⟨w.heap.size, 0 + j, none⟩) (by have := q.out.2.1; show w.heap.size < _; omega)).trans (H j u T)⟩
 have r : Below W0.heap.size W0 W0.drew := (Below.refl _ _).drew
 clear I z J L c0
 have ai := Tryz.underlying43
 go_cut [6] (fun v6 wc => ∃ g m v', v6 = .pointer (some ⟨g, 0, none⟩) /\ WayPut S W0 l e r' g m v' wc)
 case first =>
  go_region_held3 (fun w' => w'.cell? ⟨b, 0, none⟩ = some v /\ w'.rangeAt w.heap.size 0 (K.toList.map encB)) (first | exact i.out _ r | exact i.out _ (r.alloc (Nat.le_refl _) _) | exact i.out _ a | exact i.out _ (a.alloc a.size _) | exact i.out _ k | exact i.out _ (k.alloc k.size _) | exact i.out _ (((k.setCell (p := ⟨w1.heap.size, 0, none⟩) a.size _).setCell (p := ⟨w1.heap.size, 1, none⟩) a.size _).setCell (p := ⟨w1.heap.size, 2, none⟩) a.size _) | exact i.out _ (((k.setCell (p := ⟨W0.heap.size, 0, none⟩) (Nat.le_refl _) _).setCell (p := ⟨W0.heap.size, 1, none⟩) (Nat.le_refl _) _).setCell (p := ⟨W0.heap.size, 2, none⟩) (Nat.le_refl _) _))
   (first | (go_at_call 33; refine (V.out _).mono ?_; rintro e w1 ⟨rfl, f⟩; have a : Below W0.heap.size W0 w1 := (by first | exact r.trans f | exact (r.alloc (Nat.le_refl _) _).trans (f.mono (by simp))); have y0 := (fun h => f.cell (p := ⟨W0.heap.size, 0, none⟩) h); have y1 := (fun h => f.cell (p := ⟨W0.heap.size, 1, none⟩) h); have y2 := (fun h => f.cell (p := ⟨W0.heap.size, 2, none⟩) h); have k0 := (fun h => f.frozen (p := ⟨W0.heap.size, 0, none⟩) h); have k1 := (fun h => f.frozen (p := ⟨W0.heap.size, 1, none⟩) h); have k2 := (fun h => f.frozen (p := ⟨W0.heap.size, 2, none⟩) h); have s1 := (fun (h : W0.heap.size < _) => Nat.lt_of_lt_of_le h f.size); have O := Hid.hide f; clear f) | (go_at_call 60; refine (Y.out _ (q.out.1.behind' (by first | exact a | exact a.alloc a.size _))).mono ?_; rintro e w2 ⟨c, m, v2, rfl, y⟩; have k : Below W0.heap.size W0 w2 := (by first | exact a.trans (c.mono a.size) | exact (a.alloc a.size _).trans (c.mono (Nat.le_trans a.size (by simp)))); have Y0 := (fun h => c.cell (p := ⟨W0.heap.size, 0, none⟩) h); have Y1 := (fun h => c.cell (p := ⟨W0.heap.size, 1, none⟩) h); have Y2 := (fun h => c.cell (p := ⟨W0.heap.size, 2, none⟩) h); have K0 := (fun h => c.frozen (p := ⟨W0.heap.size, 0, none⟩) h); have K1 := (fun h => c.frozen (p := ⟨W0.heap.size, 1, none⟩) h); have K2 := (fun h => c.frozen (p := ⟨W0.heap.size, 2, none⟩) h); have X0 := (fun h => c.cell (p := ⟨w1.heap.size, 0, none⟩) h); have X1 := (fun h => c.cell (p := ⟨w1.heap.size, 1, none⟩) h); have X2 := (fun h => c.cell (p := ⟨w1.heap.size, 2, none⟩) h); have J0 := (fun h => c.frozen (p := ⟨w1.heap.size, 0, none⟩) h); have J1 := (fun h => c.frozen (p := ⟨w1.heap.size, 1, none⟩) h); have J2 := (fun h => c.frozen (p := ⟨w1.heap.size, 2, none⟩) h); obtain ⟨pv, mv, cv, rfl⟩ := y.shape; obtain ⟨d2, rfl, -⟩ := y.node.full he; have F := Hid.hide y; have P := Hid.hide c; clear c y))
  all_goals (try go_wp2)
  all_goals go_meet
  ·exact ⟨_, _, _, rfl, wayput_new F.out a.size k⟩
  ·exact ⟨_, _, _, rfl, wayput_old F.out (Nat.le_trans a.size (by simp)) k (by simp) P.out (by simp) (there_new _ _ _ _ rfl) a.size⟩
  ·exact ⟨_, _, _, rfl, wayput_old F.out a.size k (Nat.lt_of_lt_of_le (by simp) O.out.size) (O.out.behind' P.out) (by simp) (there_new W0.drew _ _ _ rfl) (Nat.le_refl _)⟩
 case rest =>
  obtain ⟨g, m, v2, rfl, s⟩ := hcut
  have hz : wc.heap[w.heap.size + 1]? = some (.cells #[.slice none 0 0, .nilIface, .string ⟨#[]⟩] 111 (0, 0)) := (s.2.2.2.block _ (by have := q.out.2.1; omega)).trans aa.out
  have ae := s.1
  have ac := s.2.1
  obtain ⟨pv, mv, cv, rfl⟩ := s.2.2.1.shape
  obtain rfl := U.out
  obtain ⟨d, rfl, hd⟩ := s.2.2.1.node.full (by simp)
  have HM := Hid.hide (met_stub (w := wc) h r' pv mv cv d)
  have X := Hid.hide s
  have Z := Hid.hide hz
  clear s V Y i r c1 H hz he
  go_upto_region 3 with (first | (refine wpList_load_mid rfl 111 _ rfl g 0 rfl _ _ ae Tryz.underlying111 rfl way_size ?_) | (go_at_call 61; refine HM.out.mono ?_; rintro x E ⟨rfl, G⟩; have M : Hid (Below w.heap.size w E /\ E.heap[w.heap.size + 1]? = some (.cells #[.slice none 0 0, .nilIface, .string ⟨#[]⟩] 111 (0, 0))) := ⟨q.out.1.behind' (X.out.2.2.2.trans (G.mono X.out.2.2.2.size)), (G.block _ (Array.getElem?_eq_some_iff.1 Z.out).1).trans Z.out⟩; clear G))
  have ag : E.cell? ⟨10, 0, none⟩ = some (.iface 241 (.pointer (some (sent 12)))) := (Q.out.below M.out.1).var 12 (by decide)
  have ac : 10 < w.heap.size := Q.out.low (n := 12) (by decide)
  have aj : 10 < w.heap.size + 1 := by omega
  have ak : 10 ≠ w.heap.size + 1 := by omega
  have ah : w.heap.size + 1 ≠ 10 := by omega
  obtain ⟨z0, z1, z2⟩ := rowOf3 M.out.2
  obtain ⟨y0, y1, y2⟩ : E.frozen? ⟨w.heap.size + 1, 0, none⟩ = false /\ E.frozen? ⟨w.heap.size + 1, 1, none⟩ = false /\ E.frozen? ⟨w.heap.size + 1, 2, none⟩ = false := by
   have h := M.out.2
   refine ⟨?_, ?_, ?_⟩ <;> simp [World.frozen?, h]
  go_region
  go_wp2
  refine bodyPost_ret (v := .tuple #[.agg #[.slice none 0 0, .nilIface, .string ⟨#[]⟩], .iface 241 (.pointer (some (sent 12)))]) (by simp [results, Tryz.results42, go_sem, z0, z1, z2]) rfl ⟨rfl, ?_⟩
  exact (((M.out.1.setCell (p := ⟨w.heap.size + 1, 0, none⟩) (Nat.le_succ _) _).setCell (p := ⟨w.heap.size + 1, 1, none⟩) (Nat.le_succ _) _).setCell (p := ⟨w.heap.size + 1, 2, none⟩) (Nat.le_succ _) _).drew
theorem tgetW_any {B : Nat} {S : Wood} {w : World} {b : Nat} {t e : Nd} {K : Array Nat} {p r' : ByteArray} {l : List (Nd × ByteArray)} (hf : Forest B S w) (ht : TreeAt S w b t) (hK : K.size = 32) (hKb : Bytes K) (hp : textB (nibs K.toList) = p) (hfit : t.fits p.size) (hn : ∀ x ∈ bytesOf p, x < 16) (hps : p.size <= 64) (hT : WayTo t p l e r') (hs : ∀ g, e ≠ .stub g) {o : Option ByteArray} (hval : (o = none /\ ∀ u, e ≠ .leaf r' u) \/ ∃ u, o = some u /\ e = .leaf r' u) :
  Calls Tryz.prog 41 #[.pointer (some ⟨b, 0, none⟩), .agg (K.toList.map encB).toArray] w fun x w' => x = .returned (.tuple #[.string (o.getD ⟨#[]⟩), .bool o.isSome, .nilIface]) /\ Below w.heap.size w w' := by
 have c : Below w.heap.size w (w.alloc (.cells (K.toList.map encB).toArray 43)) := (Below.refl _ _).alloc (Nat.le_refl _) _
 have s : (w.alloc (.cells (K.toList.map encB).toArray 43)).rangeAt w.heap.size 0 (K.toList.map encB) := fun j u J => by
  rw [Nat.zero_add, World.cell?_alloc_new]
  simpa using J
 have C : (Tryz.prog.info? 43).map (·.size) = some (K.toList.map encB).length := by rw [size51]; simp [hK]
 have I := Hid.hide (tway_any (hf.below c) (ht.frame (Fr.of_below hf c)) hK hKb hp hfit hn (by omega) hT hs)
 have r : Hid (Forest B S w /\ Below w.heap.size w (w.alloc (.cells (K.toList.map encB).toArray 43)) /\ ((o = none /\ ∀ u, e ≠ .leaf r' u) \/ ∃ u, o = some u /\ e = .leaf r' u)) := ⟨hf, c, hval⟩
 obtain ⟨ov, i⟩ : ∃ ov, o.getD ⟨#[]⟩ = ov := ⟨_, rfl⟩
 obtain ⟨ob, h⟩ : ∃ ob, o.isSome = ob := ⟨_, rfl⟩
 have y : Hid (o.getD ⟨#[]⟩ = ov /\ o.isSome = ob) := ⟨i, h⟩
 rw [i, h]
 clear hf ht hK hKb hp hT hs hps hn hval c hfit i h
 go_enter Tryz.func41, Tryz.ntmps41
 go_wp2_with (first | (refine wpList_load_mid rfl 43 _ rfl w.heap.size 0 rfl _ _ s Tryz.underlying43 rfl C ?_) | (go_at_call 42; refine I.out.mono ?_; rintro x m ⟨n, N, L, rfl, a⟩; obtain ⟨F, E, z, rfl⟩ := a.shape; have D := a.node.shape; have d := r.out.2.1.behind' n; have f : ∀ o, Below w.heap.size w (m.alloc o) := (fun o => d.alloc d.size o); have H : Hid (∀ k, Calls Tryz.prog 59 #[.agg #[.slice F E z, L, .string r']] (m.alloc k) fun x w' => x = .returned (.tuple #[.string ov, .bool ob]) /\ Below (m.alloc k).heap.size (m.alloc k) w') := (fun k => by rw [<- y.out.1, <- y.out.2]; exact wvalue_any F E z (r.out.1.below (f k)) a.node r.out.2.2); have v := Hid.hide f; clear n a d f; rcases D with rfl | ⟨T2, a2, rfl⟩) | (go_at_call 59; refine (H.out _).mono ?_; rintro x M ⟨rfl, q⟩; have G : Hid (Below w.heap.size w M) := (v.out _).behind' q; clear q))
 all_goals go_ret3
 all_goals exact ⟨rfl, G.out⟩
theorem xgetW_any {B : Nat} {S : Wood} {w : World} {b : Nat} {t e : Nd} {K : Array Nat} {p r' : ByteArray} {l : List (Nd × ByteArray)} (hf : Forest B S w) (ht : TreeAt S w b t) (hK : K.size = 32) (hKb : Bytes K) (hp : textB (nibs K.toList) = p) (hfit : t.fits p.size) (hn : ∀ x ∈ bytesOf p, x < 16) (hps : p.size <= 64) (hT : WayTo t p l e r') (hs : ∀ g, e ≠ .stub g) {o : Option ByteArray} (hval : (o = none /\ ∀ u, e ≠ .leaf r' u) \/ ∃ u, o = some u /\ e = .leaf r' u) :
  Calls Tryz.prog 26 #[.pointer (some ⟨b, 0, none⟩), .agg (K.toList.map encB).toArray] w fun x w' => x = .returned (.tuple #[.string (o.getD ⟨#[]⟩), .bool o.isSome, .int .i64 0]) /\ Below w.heap.size w w' := by
 have D := ht.lt
 have E : (Tryz.prog.info? 43).map (·.size) = some (K.toList.map encB).length := by rw [size51]; simp [hK]
 obtain ⟨W0, c⟩ : ∃ W0, w.alloc (.cells (K.toList.map encB).toArray 43) = W0 := ⟨_, rfl⟩
 have i : Below w.heap.size w W0 := by rw [<- c]; exact (Below.refl _ _).alloc (Nat.le_refl _) _
 have q : w.heap.size < W0.heap.size := by rw [<- c]; simp
 have h : W0.rangeAt w.heap.size 0 (K.toList.map encB) := fun j u z => by
  rw [<- c, Nat.zero_add, World.cell?_alloc_new]
  simpa using z
 have f : Below w.heap.size w W0.drew := i.drew
 have a := Fr.of_below hf f
 have n := Hid.hide (tgetW_any a.forest (ht.frame a) hK hKb hp hfit hn hps hT hs hval)
 have v := Hid.hide f
 have C := Tryz.underlying43
 obtain ⟨ov, m⟩ : ∃ ov, o.getD ⟨#[]⟩ = ov := ⟨_, rfl⟩
 obtain ⟨ob, k⟩ : ∃ ob, o.isSome = ob := ⟨_, rfl⟩
 rw [m, k] at n ⊢
 clear hf ht hK hKb hp hfit hn hps hT hs hval i f a m k
 go_enter Tryz.func26, Tryz.ntmps26
 go_upto_region 1 with fail
 clear c
 go_region_held3 (fun w' => w'.rangeAt w.heap.size 0 (K.toList.map encB)) (first | exact h | exact y )
  (first | (go_at_call 41; refine n.out.mono ?_; rintro x r ⟨rfl, d⟩; have y : r.rangeAt w.heap.size 0 (K.toList.map encB) := rangeAt_block h (d.block w.heap.size q); have s : Hid (Below w.heap.size w r) := v.out.behind' d; clear d))
 all_goals go_wp2_with (go_at_call 30; refine (errno_nil _).mono ?_; rintro x F ⟨rfl, rfl⟩)
 all_goals go_ret3
 all_goals exact ⟨rfl, s.out⟩
theorem tget_stub {B : Nat} {S : Wood} {w : World} {b : Nat} {t : Nd} {h : List Nat} {K : Array Nat} {p r' : ByteArray} {l : List (Nd × ByteArray)} (sent : Nat -> Addr) (hFl : Faults w sent) (hf : Forest B S w) (ht : TreeAt S w b t) (hK : K.size = 32) (hKb : Bytes K) (hp : textB (nibs K.toList) = p) (hfit : t.fits p.size) (hn : ∀ x ∈ bytesOf p, x < 16) (hps : p.size <= 64) (hT : WayTo t p l (.stub h) r') :
  Calls Tryz.prog 41 #[.pointer (some ⟨b, 0, none⟩), .agg (K.toList.map encB).toArray] w fun x w' => x = .returned (.tuple #[.string ⟨#[]⟩, .bool false, (.iface 241 (.pointer (some (sent 12))))]) /\ Below w.heap.size w w' := by
 have a : Below w.heap.size w (w.alloc (.cells (K.toList.map encB).toArray 43)) := (Below.refl _ _).alloc (Nat.le_refl _) _
 have e : (w.alloc (.cells (K.toList.map encB).toArray 43)).rangeAt w.heap.size 0 (K.toList.map encB) := fun j u m => by
  rw [Nat.zero_add, World.cell?_alloc_new]
  simpa using m
 have f : (Tryz.prog.info? 43).map (·.size) = some (K.toList.map encB).length := by rw [size51]; simp [hK]
 have k : Hid (Calls Tryz.prog 42 #[.pointer (some ⟨b, 0, none⟩), .agg (K.toList.map encB).toArray] (w.alloc (.cells (K.toList.map encB).toArray 43)) fun x w' => x = .returned (.tuple #[.agg #[.slice none 0 0, .nilIface, .string ⟨#[]⟩], (.iface 241 (.pointer (some (sent 12))))]) /\ Below (w.alloc (.cells (K.toList.map encB).toArray 43)).heap.size (w.alloc (.cells (K.toList.map encB).toArray 43)) w') := tway_stub sent (hFl.below a) (hf.below a) (ht.frame (Fr.of_below hf a)) hK hKb hp hfit hn (by omega) hT
 have i := Hid.hide a
 clear hf ht hK hKb hp hfit hn hps hT a hFl
 go_enter Tryz.func41, Tryz.ntmps41
 go_wp2_with (first | (refine wpList_load_mid rfl 43 _ rfl w.heap.size 0 rfl _ _ e Tryz.underlying43 rfl f ?_) | (go_at_call 42; refine k.out.mono ?_; rintro x n ⟨rfl, d⟩; have c := i.out.behind' d; have g : Hid (∀ o, Below w.heap.size w (n.alloc o)) := (fun o => c.alloc c.size o); clear d c))
 go_ret3
 exact ⟨rfl, g.out _⟩
theorem tdel_stub {B : Nat} {S : Wood} {w : World} {b : Nat} {t : Nd} {h : List Nat} {K : Array Nat} {p r' : ByteArray} {l : List (Nd × ByteArray)} (sent : Nat -> Addr) (hFl : Faults w sent) (hf : Forest B S w) (ht : TreeAt S w b t) (hK : K.size = 32) (hKb : Bytes K) (hp : textB (nibs K.toList) = p) (hfit : t.fits p.size) (hn : ∀ x ∈ bytesOf p, x < 16) (hps : p.size <= 64) (hT : WayTo t p l (.stub h) r') :
  Calls Tryz.prog 29 #[.pointer (some ⟨b, 0, none⟩), .agg (K.toList.map encB).toArray] w fun x w' => x = .returned (.tuple #[.bool false, (.iface 241 (.pointer (some (sent 12))))]) /\ Below w.heap.size w w' := by
 have a : Below w.heap.size w (w.alloc (.cells (K.toList.map encB).toArray 43)) := (Below.refl _ _).alloc (Nat.le_refl _) _
 have e : (w.alloc (.cells (K.toList.map encB).toArray 43)).rangeAt w.heap.size 0 (K.toList.map encB) := fun j u m => by
  rw [Nat.zero_add, World.cell?_alloc_new]
  simpa using m
 have f : (Tryz.prog.info? 43).map (·.size) = some (K.toList.map encB).length := by rw [size51]; simp [hK]
 have k : Hid (Calls Tryz.prog 42 #[.pointer (some ⟨b, 0, none⟩), .agg (K.toList.map encB).toArray] (w.alloc (.cells (K.toList.map encB).toArray 43)) fun x w' => x = .returned (.tuple #[.agg #[.slice none 0 0, .nilIface, .string ⟨#[]⟩], (.iface 241 (.pointer (some (sent 12))))]) /\ Below (w.alloc (.cells (K.toList.map encB).toArray 43)).heap.size (w.alloc (.cells (K.toList.map encB).toArray 43)) w') := tway_stub sent (hFl.below a) (hf.below a) (ht.frame (Fr.of_below hf a)) hK hKb hp hfit hn (by omega) hT
 have i := Hid.hide a
 clear hf ht hK hKb hp hfit hn hps hT a hFl
 go_enter Tryz.func29, Tryz.ntmps29
 go_wp2_with (first | (refine wpList_load_mid rfl 43 _ rfl w.heap.size 0 rfl _ _ e Tryz.underlying43 rfl f ?_) | (go_at_call 42; refine k.out.mono ?_; rintro x n ⟨rfl, d⟩; have c := i.out.behind' d; have g : Hid (∀ o, Below w.heap.size w (n.alloc o)) := (fun o => c.alloc c.size o); clear d c))
 go_ret2
 exact ⟨rfl, g.out _⟩
theorem tput_stub {B : Nat} {S : Wood} {w : World} {b : Nat} {t : Nd} {h : List Nat} {K : Array Nat} {p r' : ByteArray} {l : List (Nd × ByteArray)} (sent : Nat -> Addr) (hFl : Faults w sent) (hf : Forest B S w) (ht : TreeAt S w b t) (hK : K.size = 32) (hKb : Bytes K) (hp : textB (nibs K.toList) = p) (hfit : t.fits p.size) (hn : ∀ x ∈ bytesOf p, x < 16) (hps : p.size <= 64) (hT : WayTo t p l (.stub h) r') {u : ByteArray} (hu0 : 0 < u.size) (hu1 : u.size <= 100) :
  Calls Tryz.prog 31 #[.pointer (some ⟨b, 0, none⟩), .agg (K.toList.map encB).toArray, .string u] w fun x w' => x = .returned (.iface 241 (.pointer (some (sent 12)))) /\ Below w.heap.size w w' := by
 have a : Below w.heap.size w (w.alloc (.cells (K.toList.map encB).toArray 43)) := (Below.refl _ _).alloc (Nat.le_refl _) _
 have e : (w.alloc (.cells (K.toList.map encB).toArray 43)).rangeAt w.heap.size 0 (K.toList.map encB) := fun j u n => by
  rw [Nat.zero_add, World.cell?_alloc_new]
  simpa using n
 have f : (Tryz.prog.info? 43).map (·.size) = some (K.toList.map encB).length := by rw [size51]; simp [hK]
 have m : Hid (Calls Tryz.prog 42 #[.pointer (some ⟨b, 0, none⟩), .agg (K.toList.map encB).toArray] (w.alloc (.cells (K.toList.map encB).toArray 43)) fun x w' => x = .returned (.tuple #[.agg #[.slice none 0 0, .nilIface, .string ⟨#[]⟩], (.iface 241 (.pointer (some (sent 12))))]) /\ Below (w.alloc (.cells (K.toList.map encB).toArray 43)).heap.size (w.alloc (.cells (K.toList.map encB).toArray 43)) w') := tway_stub sent (hFl.below a) (hf.below a) (ht.frame (Fr.of_below hf a)) hK hKb hp hfit hn (by omega) hT
 have i := Hid.hide a
 clear hf ht hK hKb hp hfit hn hps hT a hFl
 have k := Hid.hide (fun W => isvalue_any u W hu0 hu1)
 clear hu0 hu1
 go_enter Tryz.func31, Tryz.ntmps31
 go_wp2_with (first | (refine wpList_load_mid rfl 43 _ rfl w.heap.size 0 rfl _ _ e Tryz.underlying43 rfl f ?_) | (go_at_call 42; refine m.out.mono ?_; rintro x q ⟨rfl, d⟩; have c := i.out.behind' d; have g : Hid (∀ o, Below w.heap.size w (q.alloc o)) := (fun o => c.alloc c.size o); clear d c) | (go_at_call 46; refine (k.out _).mono ?_; rintro x r ⟨rfl, rfl⟩))
 go_ret
 exact ⟨rfl, g.out _⟩
theorem xget_stub {B : Nat} {S : Wood} {w : World} {b : Nat} {t : Nd} {h : List Nat} {K : Array Nat} {p r' : ByteArray} {l : List (Nd × ByteArray)} (sent : Nat -> Addr) (hFl : Faults w sent) (hf : Forest B S w) (ht : TreeAt S w b t) (hK : K.size = 32) (hKb : Bytes K) (hp : textB (nibs K.toList) = p) (hfit : t.fits p.size) (hn : ∀ x ∈ bytesOf p, x < 16) (hps : p.size <= 64) (hT : WayTo t p l (.stub h) r') :
  Calls Tryz.prog 26 #[.pointer (some ⟨b, 0, none⟩), .agg (K.toList.map encB).toArray] w fun x w' => x = .returned (.tuple #[.string ⟨#[]⟩, .bool false, .int .i64 12]) /\ Below w.heap.size w w' := by
 have F := ht.lt
 have G : (Tryz.prog.info? 43).map (·.size) = some (K.toList.map encB).length := by rw [size51]; simp [hK]
 obtain ⟨W0, c⟩ : ∃ W0, w.alloc (.cells (K.toList.map encB).toArray 43) = W0 := ⟨_, rfl⟩
 have i : Below w.heap.size w W0 := by rw [<- c]; exact (Below.refl _ _).alloc (Nat.le_refl _) _
 have o : w.heap.size < W0.heap.size := by rw [<- c]; simp
 have g : W0.rangeAt w.heap.size 0 (K.toList.map encB) := fun j u C => by
  rw [<- c, Nat.zero_add, World.cell?_alloc_new]
  simpa using C
 have d : Below w.heap.size w W0.drew := i.drew
 have a := Fr.of_below hf d
 have v := Hid.hide (tget_stub sent (hFl.below d) a.forest (ht.frame a) hK hKb hp hfit hn hps hT)
 have r := Hid.hide d
 have s : Hid (∀ W, Below w.heap.size w W -> Calls Tryz.prog 30 #[(.iface 241 (.pointer (some (sent 12))))] W fun e w' => e = .returned (.int .i64 12) /\ Below W.heap.size W w') := fun W z => errno_any sent (.base 12) (by show 12 ∈ nums; decide) W (hFl.below z)
 have D := Tryz.underlying43
 clear hf ht hK hKb hp hfit hn hps hT i d a hFl
 go_enter Tryz.func26, Tryz.ntmps26
 go_upto_region 1 with fail
 clear c
 go_region_held3 (fun w' => w'.rangeAt w.heap.size 0 (K.toList.map encB)) (first | exact g | exact y )
  (first | (go_at_call 41; refine v.out.mono ?_; rintro x q ⟨rfl, f⟩; have y : q.rangeAt w.heap.size 0 (K.toList.map encB) := rangeAt_block g (f.block w.heap.size o); have m : Hid (Below w.heap.size w q) := r.out.behind' f; clear f))
 all_goals go_wp2_with (go_at_call 30; refine (s.out _ m.out).mono ?_; rintro x E ⟨rfl, k⟩; have n : Hid (Below w.heap.size w E) := m.out.behind' k; clear k)
 all_goals go_ret3
 all_goals exact ⟨rfl, n.out⟩
inductive Prt : Nd -> Nd -> Prop
 | no : Prt .no .no
 | leaf (p v : ByteArray) : Prt (.leaf p v) (.leaf p v)
 | ext (p : ByteArray) {a t : Nd} : Prt a t -> Prt (.ext p a) (.ext p t)
 | br {xs ts : List Nd} : xs.length = ts.length -> (∀ i, Prt (xs.getD i .no) (ts.getD i .no)) -> Prt (.br xs) (.br ts)
 | hid {t : Nd} : t ≠ .no -> ¬ t.ref.length < 32 -> Prt (.stub t.dig) t
def Nd.isStub : Nd -> Bool
 | .stub _ => true
 | _ => false
theorem notStub {t : Nd} (h : t.isStub = false) : ∀ g, t ≠ .stub g := fun g e => by rw [e] at h; cases h
theorem Prt.no_iff {a t : Nd} (h : Prt a t) : a = .no ↔ t = .no := by
 cases h with
 | no => simp
 | leaf => simp
 | ext => simp
 | br => simp
 | hid h1 => simp [h1]
theorem Prt.isNo {a t : Nd} (h : Prt a t) : a.isNo = t.isNo := by
 have := h.no_iff
 cases ha : a.isNo with
 | true => exact (Nd.isNo_iff.2 (this.1 (Nd.isNo_iff.1 ha))).symm
 | false =>
  cases ht : t.isNo with
  | false => rfl
  | true => rw [Nd.isNo_iff.2 (this.2 (Nd.isNo_iff.1 ht))] at ha; cases ha
theorem refs_congr : ∀ {xs ts : List Nd}, xs.length = ts.length -> (∀ i, (xs.getD i .no).ref = (ts.getD i .no).ref) -> refs xs = refs ts
 | [], [], _, _ => rfl
 | [], _ :: _, h, _ => by simp at h
 | _ :: _, [], h, _ => by simp at h
 | a :: xs, t :: ts, h, hr => by
  rw [refs_cons, refs_cons, refs_congr (by simpa using h) fun i => ?_]
  ·have := hr 0
   simp only [List.getD_cons_zero] at this
   rw [this]
  ·have := hr (i + 1)
   simpa only [List.getD_cons_succ] using this
theorem ok_getD {ks : List Nd} (h : oks ks) (i : Nat) : (ks.getD i .no).ok := by
 rw [List.getD_eq_getElem?_getD]
 cases hx : ks[i]? with
 | none => rw [Option.getD_none, Nd.ok]; trivial
 | some y => rw [Option.getD_some]; exact oks_mem h (List.mem_of_getElem? hx)
theorem oksD : ∀ {ks : List Nd}, (∀ i, (ks.getD i .no).ok) -> oks ks
 | [], _ => by rw [oks]; trivial
 | k :: ks, h => by
  rw [oks]
  exact ⟨by simpa only [List.getD_cons_zero] using h 0, oksD fun i => by simpa only [List.getD_cons_succ] using h (i + 1)⟩
theorem Prt.ref {a t : Nd} (h : Prt a t) : t.ok -> a.ref = t.ref := by
 induction h with
 | no => exact fun _ => rfl
 | leaf => exact fun _ => rfl
 | ext p _ ih =>
  intro b
  rw [Nd.ok] at b
  show refOf (Nd.code _) = refOf (Nd.code _)
  rw [Nd.ref_ext, Nd.ref_ext, ih b.2.1]
 | br hl _ ih =>
  intro b
  rw [Nd.ok] at b
  show refOf (Nd.code _) = refOf (Nd.code _)
  rw [Nd.code, Nd.code, refs_congr hl fun i => ih i (ok_getD b.2 i)]
 | hid h1 h2 => exact fun b => stands_ref b h2
theorem Prt.dig {a t : Nd} (h : Prt a t) (ho : t.ok) : a.dig = t.dig := by
 unfold Nd.dig
 rw [h.ref ho]
theorem Prt.ok {a t : Nd} (h : Prt a t) : t.ok -> a.ok := by
 induction h with
 | no => exact fun h => h
 | leaf => exact fun h => h
 | ext p hp ih =>
  intro b
  rw [Nd.ok] at b ⊢
  exact ⟨b.1, ih b.2.1, fun e => b.2.2 (hp.no_iff.1 e)⟩
 | br hl _ ih =>
  intro b
  rw [Nd.ok] at b ⊢
  exact ⟨hl.trans b.1, oksD fun i => ih i (ok_getD b.2 i)⟩
 | @hid t h1 h2 =>
  intro b
  rw [Nd.ok]
  exact ⟨t.dig_length b, t.dig_byte b⟩
theorem fits_getD {ks : List Nd} {n : Nat} (h : fitsAll ks n) (i : Nat) : (ks.getD i .no).fits n := by
 rw [List.getD_eq_getElem?_getD]
 cases hx : ks[i]? with
 | none => rw [Option.getD_none, Nd.fits]; trivial
 | some y => rw [Option.getD_some]; exact fitsAll_mem h (List.mem_of_getElem? hx)
theorem fits_of : ∀ {ks : List Nd} {n : Nat}, (∀ i, (ks.getD i .no).fits n) -> fitsAll ks n
 | [], _, _ => by rw [fitsAll]; trivial
 | k :: ks, n, h => by
  rw [fitsAll]
  exact ⟨by simpa only [List.getD_cons_zero] using h 0, fits_of fun i => by simpa only [List.getD_cons_succ] using h (i + 1)⟩
theorem Prt.fits {a t : Nd} (h : Prt a t) : ∀ n, t.fits n -> a.fits n := by
 induction h with
 | no => exact fun _ h => h
 | leaf => exact fun _ h => h
 | ext p hp ih =>
  intro n b
  rw [Nd.fits] at b ⊢
  exact ⟨b.1, b.2.1, ih _ b.2.2⟩
 | br hl _ ih =>
  intro n b
  rw [Nd.fits] at b ⊢
  exact ⟨b.1, fits_of fun i => ih i _ (fits_getD b.2 i)⟩
 | hid h1 h2 => exact fun _ _ => by rw [Nd.fits]; trivial
theorem Prt.next {a t : Nd} (h : Prt a t) (hs : a.isStub = false) (r : ByteArray) : Prt (a.next r).1 (t.next r).1 /\ (a.next r).2 = (t.next r).2 := by
 cases h with
 | no => exact ⟨.no, rfl⟩
 | leaf => exact ⟨.no, rfl⟩
 | @ext p a t hp =>
  by_cases b : begins p r
  ·have c : (Nd.ext p a).next r = (a, p.size) := if_pos b
   have d : (Nd.ext p t).next r = (t, p.size) := if_pos b
   rw [c, d]
   exact ⟨hp, rfl⟩
  ·have c : (Nd.ext p a).next r = (.no, 0) := if_neg b
   have d : (Nd.ext p t).next r = (.no, 0) := if_neg b
   rw [c, d]
   exact ⟨.no, rfl⟩
 | br hl hp => exact ⟨hp _, rfl⟩
 | hid => cases hs
def PrtL : List (Nd × ByteArray) -> List (Nd × ByteArray) -> Prop
 | [], [] => True
 | x :: l, y :: m => Prt x.1 y.1 /\ x.1.isStub = false /\ x.2 = y.2 /\ PrtL l m
 | _, _ => False
theorem PrtL.length : ∀ {l m : List (Nd × ByteArray)}, PrtL l m -> l.length = m.length
 | [], [], _ => rfl
 | [], _ :: _, h => h.elim
 | _ :: _, [], h => h.elim
 | _ :: l, _ :: m, h => by rw [List.length_cons, List.length_cons, PrtL.length h.2.2.2]
theorem Prt.way {t : Nd} {r : ByteArray} {m : List (Nd × ByteArray)} {d : Nd} {r' : ByteArray} (h : WayTo t r m d r') : ∀ {a : Nd}, Prt a t -> (∃ l e, WayTo a r l e r' /\ e.isStub = false /\ Prt e d /\ PrtL l m) \/ ∃ l g s, WayTo a r l (.stub g) s /\ l.length <= m.length := by
 induction h with
 | @stop t r hn =>
  intro a b
  cases hs : a.isStub with
  | true =>
   cases a with
   | stub g => exact .inr ⟨[], g, r, .stop rfl, Nat.le_refl _⟩
   | _ => cases hs
  | false => exact .inl ⟨[], a, .stop ((b.next hs r).1.no_iff.2 hn), hs, b, trivial⟩
 | @go t r m d r' hn hw ih =>
  intro a b
  cases hs : a.isStub with
  | true =>
   cases a with
   | stub g => exact .inr ⟨[], g, r, .stop rfl, Nat.zero_le _⟩
   | _ => cases hs
  | false =>
   obtain ⟨i, f⟩ := b.next hs r
   have c : (a.next r).1 ≠ .no := fun e => hn (i.no_iff.1 e)
   rcases ih i with ⟨l, e, q1, q2, q3, q4⟩ | ⟨l, g, s, q1, q2⟩
   ·rw [<- f] at q1
    refine .inl ⟨_, e, .go c q1, q2, q3, b, hs, ?_, q4⟩
    rw [f]
   ·rw [<- f] at q1
    exact .inr ⟨_, g, s, .go c q1, by simp only [List.length_cons]; omega⟩
theorem Prt.under {a t : Nd} (h : Prt a t) (q : ByteArray) : Prt (underN q a) (underN q t) := by
 unfold underN
 split
 ·exact h
 ·exact .ext q h
theorem prt_set {xs ts : List Nd} (hl : xs.length = ts.length) (h : ∀ i, Prt (xs.getD i .no) (ts.getD i .no)) (x : Nat) {a t : Nd} (ha : Prt a t) : (xs.set x a).length = (ts.set x t).length /\ ∀ i, Prt ((xs.set x a).getD i .no) ((ts.set x t).getD i .no) := by
 refine ⟨by simpa using hl, fun i => ?_⟩
 by_cases b : x < ts.length
 ·rw [getD_set xs x i a (by omega), getD_set ts x i t b]
  split
  ·exact ha
  ·exact h i
 ·rw [List.set_eq_of_length_le (by omega), List.set_eq_of_length_le (by omega)]
  exact h i
theorem prt_self_none : ∀ i, Prt (none16.getD i .no) (none16.getD i .no) := fun i => by rw [none16_getD]; exact .no
theorem Prt.parted {a t : Nd} (h : Prt a t) (x y : Nat) (r u : ByteArray) : Prt (parted x a y r u) (parted x t y r u) := by
 unfold Go.Proofs.YtcglpladmeelaaaGreatDoor.parted
 obtain ⟨b, c⟩ := prt_set rfl prt_self_none x h
 obtain ⟨d, e⟩ := prt_set b c y (Prt.leaf (r.extract 1 r.size) u)
 exact .br d e
theorem Prt.putAt {a t : Nd} (h : Prt a t) (hs : a.isStub = false) (r u : ByteArray) : Prt (a.putAt r u) (t.putAt r u) := by
 cases h with
 | no => exact .leaf r u
 | leaf p v =>
  unfold Nd.putAt
  dsimp only
  split
  ·exact .leaf r u
  ·exact ((Prt.leaf _ v).parted _ _ _ _).under _
 | ext p hp =>
  unfold Nd.putAt
  dsimp only
  exact ((hp.under _).parted _ _ _ _).under _
 | br hl hp =>
  unfold Nd.putAt
  dsimp only
  obtain ⟨b, c⟩ := prt_set hl hp ((bytesOf r)[0]!) (Prt.leaf (r.extract 1 r.size) u)
  exact .br b c
 | hid => cases hs
theorem cnt_congr {xs ts : List Nd} (h : ∀ i, Prt (xs.getD i .no) (ts.getD i .no)) : ∀ k, cntN xs k = cntN ts k /\ lastN xs k = lastN ts k
 | 0 => ⟨rfl, rfl⟩
 | k + 1 => by
  obtain ⟨h1, h2⟩ := cnt_congr h k
  rw [cntN, cntN, lastN, lastN, h1, h2, (h k).isNo]
  exact ⟨rfl, rfl⟩
theorem Prt.behind {a t : Nd} (h : Prt a t) (hs : a.isStub = false) (q : ByteArray) : Prt (behindN q a) (behindN q t) /\ (behindN q a).isStub = false := by
 cases h with
 | no => exact ⟨.no, rfl⟩
 | leaf p v => exact ⟨.leaf _ v, rfl⟩
 | ext p hp => exact ⟨.ext _ hp, rfl⟩
 | br hl hp =>
  refine ⟨(Prt.br hl hp).under q, ?_⟩
  show (underN q _).isStub = false
  unfold underN
  split <;> rfl
 | hid => cases hs
theorem Prt.room {a t : Nd} (h : Prt a t) (hs : a.isStub = false) {q : ByteArray} (hr : t.room q) : a.room q := by
 cases h with
 | no => exact hr
 | leaf p v => exact hr
 | ext p hp => exact hr
 | br hl hp => exact hr
 | hid => cases hs
def Nd.fails : Nd -> ByteArray -> Nd -> Prop
 | .br ks, q, t => 0 < q.size /\ (bytesOf q)[0]! < 16 /\ t.ok /\ cntN (ks.set ((bytesOf q)[0]!) t) 16 = 1 /\ ((ks.set ((bytesOf q)[0]!) t).getD (lastN (ks.set ((bytesOf q)[0]!) t) 16) .no).isStub = true
 | .ext _ _, _, t => t.isStub = true
 | _, _, _ => False
def endBad : List (Nd × ByteArray) -> Nd -> Prop
 | [], _ => False
 | x :: l, t => endBad l t \/ (endOK l t /\ x.1.fails x.2 (endN l t))
theorem Prt.lead {x y c d : Nd} {q : ByteArray} (h : Prt x y) (hs : x.isStub = false) (hc : Prt c d) (hl : y.leads q d) : (x.leads q c /\ Prt (x.lead q c) (y.lead q d)) \/ x.fails q c := by
 cases h with
 | no => exact hl.elim
 | leaf => exact hl.elim
 | ext p hp =>
  obtain ⟨b, f⟩ := hl
  cases hcs : c.isStub with
  | true => exact .inr hcs
  | false => exact .inl ⟨⟨fun e => b (hc.no_iff.1 e), hc.room hcs f⟩, (hc.behind hcs q).1⟩
 | @br xs ts hle hp =>
  obtain ⟨b, f, i, l⟩ := hl
  obtain ⟨m, g⟩ := prt_set hle hp ((bytesOf q)[0]!) hc
  obtain ⟨j, k⟩ := cnt_congr g 16
  show (Nd.leads (.br xs) q c /\ Prt (brLead _) (brLead _)) \/ _
  unfold brLead
  rw [j, k]
  by_cases a : cntN (ts.set ((bytesOf q)[0]!) d) 16 = 1
  ·rw [if_pos a, if_pos a]
   cases hcs : ((xs.set ((bytesOf q)[0]!) c).getD (lastN (ts.set ((bytesOf q)[0]!) d) 16) .no).isStub with
   | true => exact .inr ⟨b, f, hc.ok i, j.trans a, by rw [k]; exact hcs⟩
   | false =>
    refine .inl ⟨⟨b, f, hc.ok i, fun _ => ?_⟩, ((g _).behind hcs _).1⟩
    rw [k]
    exact (g _).room hcs (l a)
  ·rw [if_neg a, if_neg a]
   exact .inl ⟨⟨b, f, hc.ok i, fun e => absurd (j.symm.trans e) a⟩, .br m g⟩
 | hid => cases hs
theorem PrtL.ends : ∀ {l m : List (Nd × ByteArray)}, PrtL l m -> ∀ {c d : Nd}, Prt c d -> endOK m d -> (endOK l c /\ Prt (endN l c) (endN m d)) \/ endBad l c
 | [], [], _, c, d, hc, _ => .inl ⟨trivial, hc⟩
 | [], _ :: _, h, _, _, _, _ => h.elim
 | _ :: _, [], h, _, _, _, _ => h.elim
 | x :: l, y :: m, h, c, d, hc, ho => by
  rcases PrtL.ends h.2.2.2 hc ho.2 with ⟨h1, h2⟩ | h1
  ·have h3 := ho.1
   rw [<- h.2.2.1] at h3
   rcases h.1.lead h.2.1 h2 h3 with ⟨h4, h5⟩ | h4
   ·refine .inl ⟨⟨h4, h1⟩, ?_⟩
    rw [endN, endN, <- h.2.2.1]
    exact h5
   ·exact .inr (.inr ⟨h1, h4⟩)
  ·exact .inr (.inl h1)
theorem putAt_full {t : Nd} (r u : ByteArray) : t.putAt r u ≠ .no /\ (t.putAt r u).isStub = false := by
 have a : ∀ (q : ByteArray) (x : Nat) (A : Nd) (y : Nat) (r u : ByteArray), underN q (parted x A y r u) ≠ .no /\ (underN q (parted x A y r u)).isStub = false := fun q x A y r u => by
  unfold underN
  split
  ·exact ⟨by unfold parted; simp, rfl⟩
  ·exact ⟨by simp, rfl⟩
 cases t with
 | no => exact ⟨by unfold Nd.putAt; simp, rfl⟩
 | stub => exact ⟨by unfold Nd.putAt; simp, rfl⟩
 | leaf p v =>
  unfold Nd.putAt
  dsimp only
  split
  ·exact ⟨by simp, rfl⟩
  ·exact a _ _ _ _ _ _
 | ext p t => exact a _ _ _ _ _ _
 | br ks => exact ⟨by unfold Nd.putAt; simp, rfl⟩
def wide : Nd -> Prop
 | .br ks => 2 <= cntN ks 16 /\ ks.length = 16
 | _ => True
theorem Prt.wide {a t : Nd} (h : Prt a t) (hw : wide t) : wide a := by
 cases h with
 | no => trivial
 | leaf => trivial
 | ext => trivial
 | br hl hp =>
  have := hw
  exact ⟨by rw [(cnt_congr hp 16).1]; exact this.1, hl.trans this.2⟩
 | hid => trivial
theorem can_wide {t : Nd} {n : Nat} (h : t.can n) : wide t := by
 cases t with
 | br ks => rw [can_br] at h; exact ⟨h.2.2.2, h.2.1⟩
 | _ => trivial
theorem WayTo.wide {t : Nd} {r : ByteArray} {m : List (Nd × ByteArray)} {d : Nd} {r' : ByteArray} (h : WayTo t r m d r') : t.can r.size -> ∀ y ∈ m, wide y.1 := by
 induction h with
 | stop => intro _ y a; cases a
 | @go t r m d r' hn hw ih =>
  intro c y a
  obtain ⟨-, f, -, b, -⟩ := next_can c hn
  rcases List.mem_cons.1 a with rfl | a
  ·exact can_wide c
  ·refine ih ?_ y a
   rw [extract_size]
   have e : min r.size r.size - (t.next r).2 = r.size - (t.next r).2 := by omega
   first | exact b | (rw [e]; exact b)
theorem lead_full {x c : Nd} {q : ByteArray} (hw : wide x) (h1 : c ≠ .no) (h2 : c.isStub = false) : ¬ x.fails q c /\ x.lead q c ≠ .no /\ (x.lead q c).isStub = false := by
 cases x with
 | no => exact ⟨fun h => h, h1, h2⟩
 | leaf => exact ⟨fun h => h, h1, h2⟩
 | stub => exact ⟨fun h => h, h1, h2⟩
 | ext p t =>
  refine ⟨fun h => (by rw [show c.isStub = true from h] at h2; cases h2), ?_⟩
  show behindN q c ≠ .no /\ (behindN q c).isStub = false
  cases c with
  | no => exact absurd rfl h1
  | stub => cases h2
  | leaf => exact ⟨by unfold behindN; simp, rfl⟩
  | ext => exact ⟨by unfold behindN; simp, rfl⟩
  | br ks =>
   show underN q _ ≠ .no /\ (underN q _).isStub = false
   unfold underN
   split
   ·exact ⟨by simp, rfl⟩
   ·exact ⟨by simp, rfl⟩
 | br ks =>
  obtain ⟨e, b⟩ := hw
  have a : cntN (ks.set ((bytesOf q)[0]!) c) 16 ≠ 1 := by
   by_cases d : (bytesOf q)[0]! < 16
   ·have := cnt_set b d c
    rw [one_some h1] at this
    have := one_le (ks.getD ((bytesOf q)[0]!) .no)
    omega
   ·rw [List.set_eq_of_length_le (by omega)]
    omega
  refine ⟨fun h => a h.2.2.2.1, ?_⟩
  show brLead _ ≠ .no /\ (brLead _).isStub = false
  unfold brLead
  rw [if_neg a]
  exact ⟨by simp, rfl⟩
theorem ends_full : ∀ {l : List (Nd × ByteArray)}, (∀ y ∈ l, wide y.1) -> ∀ {c : Nd}, c ≠ .no -> c.isStub = false -> ¬ endBad l c /\ endN l c ≠ .no /\ (endN l c).isStub = false
 | [], _, c, h1, h2 => ⟨fun h => h, h1, h2⟩
 | x :: l, hw, c, h1, h2 => by
  obtain ⟨q1, q2, q3⟩ := ends_full (l := l) (fun y hy => hw y (List.mem_cons_of_mem _ hy)) h1 h2
  obtain ⟨q4, q5, q6⟩ := lead_full (q := x.2) (hw x (List.mem_cons_self ..)) q2 q3
  refine ⟨fun h => ?_, q5, q6⟩
  rcases h with h | h
  ·exact q1 h
  ·exact q4 h.2
theorem PrtL.wide : ∀ {l m : List (Nd × ByteArray)}, PrtL l m -> (∀ y ∈ m, Go.Proofs.YtcglpladmeelaaaGreatDoor.wide y.1) -> ∀ y ∈ l, Go.Proofs.YtcglpladmeelaaaGreatDoor.wide y.1
 | [], _, _, _ => fun y hy => by cases hy
 | _ :: _, [], h, _ => h.elim
 | x :: l, z :: m, h, hw => fun y hy => by
  rcases List.mem_cons.1 hy with rfl | hy
  ·exact h.1.wide (hw z (List.mem_cons_self ..))
  ·exact PrtL.wide h.2.2.2 (fun v hv => hw v (List.mem_cons_of_mem _ hv)) y hy
def Meets (a : Nd) (r : ByteArray) : Prop := ∃ l g s, WayTo a r l (.stub g) s /\ l.length <= r.size
theorem part_get {a t : Nd} {r : ByteArray} (h : Prt a t) (hc : t.can r.size) : Meets a r \/ ∃ l e r', WayTo a r l e r' /\ l.length <= r.size /\ (∀ g, e ≠ .stub g) /\ ((t.get (bytesOf r) = none /\ ∀ u, e ≠ .leaf r' u) \/ ∃ u, t.get (bytesOf r) = some u /\ e = .leaf r' u) := by
 obtain ⟨m, d, r', b, j⟩ := way_ex r.size t r (Nat.le_refl _) hc
 obtain ⟨i, f, c, -⟩ := way_get b hc
 rcases Prt.way b h with ⟨l, e, h1, h2, h3, h4⟩ | ⟨l, g, s, h1, h2⟩
 ·refine .inr ⟨l, e, r', h1, by rw [h4.length]; exact j, notStub h2, ?_⟩
  rw [i]
  rcases end_get f c with q | ⟨v, rfl, q2⟩
  ·refine .inl ⟨q, fun u k => ?_⟩
   subst k
   cases h3
   rw [get_leaf, if_pos rfl] at q
   cases q
  ·refine .inr ⟨v, q2, ?_⟩
   cases h3 with
   | leaf => rfl
   | hid => cases h2
 ·exact .inl ⟨l, g, s, h1, by omega⟩
theorem part_put {a t : Nd} {r u : ByteArray} (h : Prt a t) (hc : t.can r.size) (hn : nib (bytesOf r)) (h64 : r.size <= 64) (hu0 : 0 < u.size) (hu1 : u.size <= 100) : Meets a r \/ ∃ l e r' t', WayTo a r l e r' /\ l.length <= r.size /\ (∀ g, e ≠ .stub g) /\ nibOK r' /\ endOK l (e.putAt r' u) /\ Prt (endN l (e.putAt r' u)) t' /\ Grown t t' r u := by
 obtain ⟨m, d, r', b, n⟩ := way_ex r.size t r (Nat.le_refl _) hc
 obtain ⟨j, c, p, q, v⟩ := put_all b u hu0 hu1 hc hn h64
 rcases Prt.way b h with ⟨l, e, h1, h2, h3, h4⟩ | ⟨l, g, s, h1, h2⟩
 ·have o := h3.putAt h2 r' u
  rcases h4.ends o c with ⟨k1, k2⟩ | k
  ·exact .inr ⟨l, e, r', _, h1, by rw [h4.length]; exact n, notStub h2, ⟨q, p⟩, k1, k2, j⟩
  ·obtain ⟨f, i⟩ := putAt_full (t := e) r' u
   exact absurd k (ends_full (h4.wide (b.wide hc)) f i).1
 ·exact .inl ⟨l, g, s, h1, by omega⟩
theorem part_del {a t : Nd} {r : ByteArray} (h : Prt a t) (hc : t.can r.size) (hn : nib (bytesOf r)) (h64 : r.size <= 64) {v : ByteArray} (hv : t.get (bytesOf r) = some v) : Meets a r \/ ∃ l r', WayTo a r l (.leaf r' v) r' /\ l.length <= r.size /\ ((∃ t', endOK l .no /\ Prt (endN l .no) t' /\ Shrunk t t' r) \/ endBad l .no) := by
 obtain ⟨m, d, r', b, o⟩ := way_ex r.size t r (Nat.le_refl _) hc
 obtain ⟨f, n, i, -⟩ := way_get b hc
 rcases end_get n i with q | ⟨w, rfl, q2⟩
 ·rw [f, q] at hv; cases hv
 ·rw [f, q2] at hv
  cases hv
  obtain ⟨j, c⟩ := del_all b v rfl hc hn h64
  rcases Prt.way b h with ⟨l, e, h1, h2, h3, h4⟩ | ⟨l, g, s, h1, h2⟩
  ·have : e = .leaf r' v := by
    cases h3 with
    | leaf => rfl
    | hid => cases h2
   subst this
   refine .inr ⟨l, r', h1, by rw [h4.length]; exact o, ?_⟩
   rcases h4.ends Prt.no c with ⟨k1, k2⟩ | k
   ·exact .inl ⟨_, k1, k2, j⟩
   ·exact .inr k
  ·exact .inl ⟨l, g, s, h1, by omega⟩
theorem pick_prt {t c : Nd} (all : Bool) (ps : List ByteArray) (h : Prt c t) : Prt (t.pickN all ps c) t := by
 by_cases a : t = .no
 ·subst a; exact .no
 ·have b : Prt (if (all || decide (ps ≠ []) || decide (t.ref.length < 32)) = true then c else .stub t.dig) t := by
   split
   ·exact h
   ·rename_i h1
    refine .hid a fun d => h1 ?_
    simp [d]
  cases t with
  | no => exact absurd rfl a
  | _ => exact b
mutual
def Nd.noStub : Nd -> Prop
 | .no => True
 | .leaf _ _ => True
 | .ext _ t => (∀ g, t ≠ .stub g) /\ t.noStub
 | .br ks => noStubs ks
 | .stub _ => False
def noStubs : List Nd -> Prop
 | [] => True
 | t :: ks => (∀ g, t ≠ .stub g) /\ t.noStub /\ noStubs ks
end
mutual
theorem can_noStub : ∀ (t : Nd) (n : Nat), t.can n -> t.noStub
 | .no, _, _ => by rw [Nd.noStub]; trivial
 | .leaf _ _, _, _ => by rw [Nd.noStub]; trivial
 | .ext p t, n, h => by
  rw [can_ext] at h
  rw [Nd.noStub]
  exact ⟨can_stub h.2.2.2.1, can_noStub t _ h.2.2.2.1⟩
 | .br ks, n, h => by
  rw [can_br] at h
  rw [Nd.noStub]
  exact can_noStubs ks _ h.2.2.1
 | .stub g, n, h => absurd rfl (can_stub h g)
theorem can_noStubs : ∀ (ks : List Nd) (n : Nat), canAll ks n -> noStubs ks
 | [], _, _ => by rw [noStubs]; trivial
 | t :: ks, n, h => by
  rw [canAll] at h
  rw [noStubs]
  exact ⟨can_stub h.1, can_noStub t n h.1, can_noStubs ks n h.2⟩
end
mutual
theorem prt_prt : ∀ (t : Nd) (all : Bool) (ps : List ByteArray), (∀ g, t ≠ .stub g) -> t.noStub -> Prt (t.prt all ps) t
 | .no, _, _, _, _ => by rw [Nd.prt]; exact .no
 | .leaf p v, _, _, _, _ => by rw [Nd.prt]; exact .leaf p v
 | .ext p t, all, ps, _, h => by
  rw [Nd.noStub] at h
  rw [Nd.prt]
  exact .ext p (pick_prt _ _ (prt_prt t all _ h.1 h.2))
 | .br ks, all, ps, _, h => by
  rw [Nd.noStub] at h
  rw [Nd.prt]
  exact .br (prts_length ks 0 all ps) fun i => prts_prt ks h 0 all ps i
 | .stub g, _, _, h, _ => absurd rfl (h g)
theorem prts_prt : ∀ (ks : List Nd), noStubs ks -> ∀ (j : Nat) (all : Bool) (ps : List ByteArray) (i : Nat), Prt ((prts ks j all ps).getD i .no) (ks.getD i .no)
 | [], _, j, all, ps, i => by rw [prts]; exact .no
 | t :: ks, h, j, all, ps, i => by
  rw [noStubs] at h
  rw [prts]
  cases i with
  | zero =>
   rw [List.getD_cons_zero, List.getD_cons_zero]
   exact pick_prt _ _ (prt_prt t all _ h.1 h.2.1)
  | succ i =>
   rw [List.getD_cons_succ, List.getD_cons_succ]
   exact prts_prt ks h.2.2 (j + 1) all ps i
end
theorem prs_prt {t : Nd} (h : t.can 64) (all : Bool) (ps : List ByteArray) : Prt (t.prs all ps) t := pick_prt all ps (prt_prt t all ps (can_stub h) (can_noStub t 64 h))
theorem sbehind_any {sent : Nat -> Addr} {x : Nd} (hx : x.isStub = true) {W : World} (hF : W.cell? ⟨10, 0, none⟩ = some (.iface 241 (.pointer (some (sent 12))))) {d : Nat} {q : ByteArray} :
  Calls Tryz.prog (behindFn x) #[.pointer (some ⟨d, 0, none⟩), .string q] W fun e w' => e = .returned (.tuple #[.nilIface, (.iface 241 (.pointer (some (sent 12))))]) /\ Below W.heap.size W w' := by
 cases x with
 | stub h =>
  show Calls Tryz.prog 146 _ _ _
  clear hx
  go_enter Tryz.func146, Tryz.ntmps146
  go_upto_region 1 with fail
  go_region
  go_wp2
  go_ret2
  exact ⟨rfl, (Below.refl _ _).drew⟩
 | _ => cases hx
theorem elead_bad {S : Wood} {sent : Nat -> Addr} {w : World} {b : Nat} {q : ByteArray} {v : Value} {t : Nd} (hF : w.cell? ⟨10, 0, none⟩ = some (.iface 241 (.pointer (some (sent 12))))) (hv : ndV S v t) (hs : t.isStub = true) :
  Calls Tryz.prog 177 #[.pointer (some ⟨b, 0, none⟩), .string q, v] w fun e w' => e = .returned (.tuple #[.nilIface, (.iface 241 (.pointer (some (sent 12))))]) /\ Below w.heap.size w w' := by
 have a : t ≠ .no := fun e => by rw [e] at hs; cases hs
 obtain ⟨d, rfl, i⟩ := hv.full a
 have g := Hid.hide (sbehind_any (sent := sent) (q := q) (d := d) hs hF)
 have j := mBehind t a
 have f := enBehind t a
 clear hF hv i hs
 go_enter Tryz.func177, Tryz.ntmps177
 go_wp2_with fail
 refine g.out.mono ?_
 rintro e k ⟨rfl, c⟩
 have h := Hid.hide c
 clear c j f
 go_wp2
 go_ret2
 exact ⟨rfl, h.out⟩
theorem blead_bad {B : Nat} {S : Wood} {sent : Nat -> Addr} {w : World} {b : Nat} {q : ByteArray} {v : Value} {t : Nd} {ks : List Nd} (hG : w.cell? ⟨10, 0, none⟩ = some (.iface 241 (.pointer (some (sent 12))))) (hlo : S 10 = none) (hf : Forest B S w) (hb : S b = some (.br ks)) (hv : ndV S v t) (hl : (Nd.br ks).fails q t) :
  Calls Tryz.prog 166 #[.pointer (some ⟨b, 0, none⟩), .string q, v] w fun e w' => e = .returned (.tuple #[.nilIface, (.iface 241 (.pointer (some (sent 12))))]) /\ ∃ S', Fr B S S' w w' := by
 have Z : Hid (∀ {S' : Wood} W, Fr B S S' w W -> W.cell? ⟨10, 0, none⟩ = some (.iface 241 (.pointer (some (sent 12))))) := fun W h => (World.cell?_of_block (a := ⟨10, 0, none⟩) (h.other _ (World.block_lt_of_cell? w _ hG) hlo)).trans hG
 clear hG hlo
 obtain ⟨N, l, P, F, g⟩ := hl
 obtain ⟨n, T⟩ : ∃ n, (bytesOf q)[0]! = n := ⟨_, rfl⟩
 rw [T] at l F g
 have hc : (q[0]'N).toNat = n := by rw [<- T]; exact byte_at q 0 N
 have i0 : (0 : Int) < (q.size : Int) := by omega
 have s := hf.ok b _ hb
 rw [Nd.ok] at s
 obtain ⟨rr, hk, rg⟩ := kids_of hf hb
 have p := br_ok s.2 s.1 n P
 have R := Hid.hide (with_any hf rg hk l hv p)
 obtain ⟨ks1, M⟩ : ∃ ks1, ks.set n t = ks1 := ⟨_, rfl⟩
 rw [M] at F g R p
 have HO := Hid.hide p
 clear hf hb hv T s hk rg M p P l
 have f := lastN_some ks1 16 (by omega)
 have hM := lastN_lt ks1 16 (by omega)
 have G := fun (S' : Wood) (w' : World) (b' : Nat) (r' : List Value) (h : w'.rangeAt b' 1 r') (k : Kids S' r' ks1) => alone_any h k
 rw [decide_eq_true F] at G
 obtain ⟨m, hm⟩ : ∃ m, lastN ks1 16 = m := ⟨_, rfl⟩
 rw [hm] at g f hM G
 obtain ⟨x, U⟩ : ∃ x, ks1.getD m .no = x := ⟨_, rfl⟩
 rw [U] at g f
 obtain ⟨tm, O⟩ : ∃ tm, textB [m] = tm := ⟨_, rfl⟩
 have aa := Hid.hide O
 have D : x ≠ .no := fun e => by rw [e] at f; simp [Nd.isNo] at f
 have ag := mBehind x D
 have ae := enBehind x D
 have HX : Hid (x.isStub = true /\ ks1.getD m .no = x) := ⟨g, U⟩
 have X := Hid.hide G
 have i1 : (m : Int) < 16 := by omega
 clear F hm g f G U O
 go_enter Tryz.func166, Tryz.ntmps166
 go_upto_region 4 with (first | (go_at_call 142; refine R.out.mono ?_; rintro e V ⟨c, rfl, L, r⟩; obtain ⟨H, u, E⟩ := kids_of r.forest (Wood.put_same S c (.br ks1)); have J := Hid.hide r; have I := Hid.hide (X.out _ V c H E u); have j : Hid (Kids (S.put c (.br ks1)) H ks1 /\ V.rangeAt c 1 H /\ c < V.heap.size) := ⟨u, E, r.forest.lt (Wood.put_same S c (.br ks1))⟩; clear L r u E) | (go_at_call 170; refine I.out.mono ?_; rintro e i ⟨rfl, rfl⟩))
 have z : m < H.length := by have := j.out.1.1; omega
 have y : m < ks1.length := by have := j.out.1.2.1; omega
 have C := j.out.1.2.2 m z y
 have Q : ks1[m] = x := by rw [<- HX.out.2, List.getD_eq_getElem?_getD, List.getElem?_eq_getElem y]; rfl
 rw [Q] at C
 obtain ⟨d, hd, ab⟩ := C.full D
 have c1 : i.cell? ⟨c, 1 + m, none⟩ = some (.iface (ndTy x) (.pointer (some ⟨d, 0, none⟩))) := by rw [<- hd]; exact j.out.2.1 m _ (by simp [z])
 have L := j.out.2.2
 have ac : (convert 76 9 (.slice (some ⟨i.heap.size, 0, none⟩) 1 1)).run Tryz.prog (i.alloc (.cells #[.int .u8 (m : Int)] 5)).drew = .ok (.string tm) (i.alloc (.cells #[.int .u8 (m : Int)] 5)).drew := by rw [<- aa.out]; exact run_own_text _ 76 9 5 Tryz.underlying76 Tryz.underlying5 Tryz.underlying9 (Own.ofCells i 5 [m] (by unfold maxLen; simp))
 have HB : Hid (∀ o, Calls Tryz.prog (behindFn x) #[.pointer (some ⟨d, 0, none⟩), .string tm] (i.drew.alloc o) fun e w' => e = .returned (.tuple #[.nilIface, (.iface 241 (.pointer (some (sent 12))))]) /\ Below (i.drew.alloc o).heap.size (i.drew.alloc o) w') := fun o => sbehind_any HX.out.1 (Z.out _ ((J.out.behind ((Below.drew (Below.refl _ _)).alloc (Nat.le_refl _) o))))
 have Y : Hid (∀ o, Fr B S (S.put c (.br ks1)) w (i.drew.alloc o)) := fun o => J.out.behind ((Below.drew (Below.refl _ _)).alloc (Nat.le_refl _) o)
 clear z y C Q hd ab X I R
 go_region_with (refine (HB.out _).mono ?_; rintro e w3 ⟨rfl, K⟩; have HE : Hid (Fr B S (S.put c (.br ks1)) w w3) := (Y.out _).behind K; clear K)
 all_goals go_wp2
 all_goals go_ret2
 all_goals exact ⟨rfl, _, HE.out⟩
theorem lead_bad {B : Nat} {S : Wood} {sent : Nat -> Addr} {w : World} {b : Nat} {q : ByteArray} {v : Value} {t u : Nd} (hG : w.cell? ⟨10, 0, none⟩ = some (.iface 241 (.pointer (some (sent 12))))) (hlo : S 10 = none) (hf : Forest B S w) (hb : S b = some t) (hv : ndV S v u) (hl : t.fails q u) :
  Calls Tryz.prog (leadFn t) #[.pointer (some ⟨b, 0, none⟩), .string q, v] w fun e w' => e = .returned (.tuple #[.nilIface, (.iface 241 (.pointer (some (sent 12))))]) /\ ∃ S', Fr B S S' w w' := by
 cases t with
 | ext p t =>
  refine (elead_bad (sent := sent) hG hv hl).mono ?_
  rintro e w' ⟨rfl, a⟩
  exact ⟨rfl, S, Fr.of_below hf a⟩
 | br ks => exact blead_bad hG hlo hf hb hv hl
 | _ => exact hl.elim
open Go.RowKit Go.Shelf
attribute [local go_sem] Oper.semAt_some
theorem endBad.at : ∀ {l : List (Nd × ByteArray)} {t : Nd}, endBad l t -> ∃ j, ∃ h : j < l.length, l[j].1.fails l[j].2 (endN (l.drop (j + 1)) t) /\ ∀ i (hi : i < l.length), j < i -> l[i].1.leads l[i].2 (endN (l.drop (i + 1)) t)
 | [], _, h => h.elim
 | x :: l, t, h => by
  rcases h with h | ⟨h1, h2⟩
  ·obtain ⟨j, hj, q1, q2⟩ := endBad.at h
   refine ⟨j + 1, by simpa using hj, q1, fun i hi hji => ?_⟩
   match i, hi, hji with
   | i + 1, hi, hji => exact q2 i (by simpa using hi) (by omega)
  ·refine ⟨0, by simp, h2, fun i hi hji => ?_⟩
   match i, hi, hji with
   | i + 1, hi, _ => exact endOK_drop h1 i (by simpa using hi)
theorem fails_inner {t u : Nd} {q : ByteArray} (h : t.fails q u) : t.inner = true := by
 cases t with
 | ext _ _ => rfl
 | br _ => rfl
 | _ => exact h.elim
theorem wp_range_stop {P : Program} {n : Nat} {g : Operand} {ps : Array Tmp} {assign body : Code} {Q : Exit -> Act -> World -> Prop} {a : Act} {w : World} {gf : Nat} {lb : Array Value}
  (hg : a.eval g = .func (.func gf) #[] lb) (eg : ∀ args w, (callFunc gf args).run P w = .ok (.enter gf args) w)
  (N : Nat) (encs : Nat -> Array Value) (hps : ∀ k, (encs k).size = ps.size) (I : Nat -> World -> Prop) (Z : World -> Prop)
  (h0 : ∀ o1 o2 : Obj, I 0 ((w.alloc o1).alloc o2)) (hp : ∀ k W o, I k W -> I k (W.putObj (w.heap.size + 1) o)) (hz : ∀ W o, Z W -> Z (W.putObj (w.heap.size + 1) o))
  (hseq : ∀ (l : Nat) (J : Nat -> World -> Prop) (Y : World -> Prop), (∀ k W, J k W -> I k W) -> (∀ k W, k < N -> J k W -> YieldAt Fence.wide (n - 1 - 1) P l (encs k) W fun e W' => e = .returned (.bool true) /\ J (k + 1) W') -> (∀ W, J N W -> YieldAt Fence.wide (n - 1 - 1) P l (encs N) W fun e W' => e = .returned (.bool false) /\ Y W') -> ∀ W, J 0 W -> CallsIn Fence.wide (n - 1) P gf (#[.func (.yield l) #[] #[]] ++ lb) W fun e W' => (∃ v, e = .returned v) /\ Y W')
  (hround : ∀ k W, k < N -> I k W -> w.heap.size + 1 < W.heap.size -> assign.wpIn (Fence.wide.inRound (w.heap.size + 1)) (n - 1 - 1) P (Exit.then (fun a1 W1 => BkSame w.heap.size W W1 /\ I k W1 /\ ∀ o, body.wpIn (Fence.wide.inRound (w.heap.size + 1)) (n - 1 - 1) P (fun e _ W3 => e = .normal /\ BkSame w.heap.size (W1.putObj (w.heap.size + 1) o) W3 /\ I (k + 1) W3) a1 (W1.putObj (w.heap.size + 1) o)) (fun _ _ _ => False)) { tmps := (ps.zip (encs k)).foldl (fun t (p, v) => t.setIfInBounds p v) a.tmps, defers := [] } W)
  (hstop : ∀ W, I N W -> w.heap.size + 1 < W.heap.size -> assign.wpIn (Fence.wide.inRound (w.heap.size + 1)) (n - 1 - 1) P (Exit.then (fun a1 W1 => BkSame w.heap.size W W1 /\ I N W1 /\ ∀ o, body.wpIn (Fence.wide.inRound (w.heap.size + 1)) (n - 1 - 1) P (fun e _ W3 => e = .ret /\ BkSame w.heap.size (W1.putObj (w.heap.size + 1) o) W3 /\ Z W3) a1 (W1.putObj (w.heap.size + 1) o)) (fun _ _ _ => False)) { tmps := (ps.zip (encs N)).foldl (fun t (p, v) => t.setIfInBounds p v) a.tmps, defers := [] } W)
  (hdone : ∀ W, Z W -> W.heap[w.heap.size]? = some (.deferred (some [])) -> Q .ret { a with defers := { target := .collected w.heap.size, args := #[] } :: a.defers } W) :
  (Code.rangeFunc g ps assign body).wpIn Fence.wide n P Q a w := by
 refine wpIn_rangeFunc fun fn L => ?_
 have B := run_enterLoop_outer (P := P) (w := w) fn a.tmps ps assign body
 obtain ⟨rc, c⟩ : ∃ rc : Loop, { state := .ready, pending := none, fn, tmps := a.tmps, params := ps, assign, body, defers := w.heap.size } = rc := ⟨_, rfl⟩
 have O : rc.state = .ready := by rw [<- c]
 have b : rc.fn = fn /\ rc.tmps = a.tmps /\ rc.params = ps /\ rc.assign = assign /\ rc.body = body := by rw [<- c]; exact ⟨rfl, rfl, rfl, rfl, rfl⟩
 have X : rc.pending = none := by rw [<- c]
 have G : ({ { rc with state := .busy } with state := .ready, pending := none } : Loop) = rc := by rw [<- c]
 rw [c] at B
 have H := h0 (.deferred (some [])) (.loop rc)
 have M : ((w.alloc (.deferred (some []))).alloc (.loop rc)).heap[w.heap.size + 1]? = some (.loop rc) := by
  have := World.alloc_heap_new (w.alloc (.deferred (some []))) (.loop rc)
  rwa [World.size_alloc] at this
 have K : ((w.alloc (.deferred (some []))).alloc (.loop rc)).heap[w.heap.size]? = some (.deferred (some [])) := (Below.heap_alloc _ _ _ (by simp)).trans (World.alloc_heap_new w _)
 clear c
 generalize hW1 : (w.alloc (.deferred (some []))).alloc (.loop rc) = W1 at B H M K
 clear hW1
 refine ⟨w.heap.size + 1, [{ target := .collected w.heap.size, args := #[] }], W1, { target := .fn (.func gf) lb, args := #[.func (.yield (w.heap.size + 1)) #[] #[]] }, W1, gf, #[.func (.yield (w.heap.size + 1)) #[] #[]] ++ lb, W1, B, ?_, fun _ _ => trivial, ?_, fun h => by simp [Fence.wide] at h, ?_⟩
 ·simp only [resolve, hg]
  simp [go_sem]
 ·simp [invoke, eg]
 ·refine (hseq (w.heap.size + 1) (fun k W => I k W /\ W.heap[w.heap.size + 1]? = some (.loop rc) /\ W.heap[w.heap.size]? = some (.deferred (some []))) (fun W => Z W /\ (∃ r : Loop, W.heap[w.heap.size + 1]? = some (.loop r) /\ r.state = .done /\ r.pending = some .ret) /\ W.heap[w.heap.size]? = some (.deferred (some []))) (fun _ _ h => h.1) ?_ ?_ _ ⟨H, M, K⟩).mono ?_
  ·rintro k W V ⟨C, f, u⟩
   have E : w.heap.size + 1 < W.heap.size := (Array.getElem?_eq_some_iff.1 f).1
   have F := run_yield (P := P) (args := encs k) f (by rw [b.2.2.1]; exact hps k)
   rw [b.1, b.2.1, b.2.2.1, b.2.2.2.1, b.2.2.2.2] at F
   refine ⟨fn, _, assign, body, F, roundIn_of_wpIn L (wpIn_mono (hround k W V C E) ?_)⟩
   rintro e a1 W1 A
   cases e with
   | normal =>
    obtain ⟨s, R, d⟩ := A
    have j := s.2.trans f
    have y := s.1.trans u
    refine ⟨_, run_beginRound j O, wpIn_mono (d _) ?_⟩
    rintro e U W3 ⟨rfl, i, D⟩
    have q : w.heap.size + 1 < W1.heap.size := (Array.getElem?_eq_some_iff.1 j).1
    have m : W3.heap[w.heap.size + 1]? = some (.loop { rc with state := .busy }) := i.2.trans (World.putObj_heap_same q)
    have z : W3.heap[w.heap.size]? = some (.deferred (some [])) := i.1.trans ((World.putObj_heap_other (by omega)).trans y)
    refine ⟨_, _, run_endRound none m, rfl, hp _ _ _ D, ?_, (World.putObj_heap_other (by omega)).trans z⟩
    rw [World.putObj_heap_same (Array.getElem?_eq_some_iff.1 m).1]
    exact congrArg (fun x => some (Obj.loop x)) G
   | _ => exact A.elim
  ·rintro W ⟨C, f, u⟩
   have E : w.heap.size + 1 < W.heap.size := (Array.getElem?_eq_some_iff.1 f).1
   have F := run_yield (P := P) (args := encs N) f (by rw [b.2.2.1]; exact hps N)
   rw [b.1, b.2.1, b.2.2.1, b.2.2.2.1, b.2.2.2.2] at F
   refine ⟨fn, _, assign, body, F, roundIn_of_wpIn L (wpIn_mono (hstop W C E) ?_)⟩
   rintro e a1 W1 A
   cases e with
   | normal =>
    obtain ⟨s, R, d⟩ := A
    have j := s.2.trans f
    have y := s.1.trans u
    refine ⟨_, run_beginRound j O, wpIn_mono (d _) ?_⟩
    rintro e U W3 ⟨rfl, i, D⟩
    have q : w.heap.size + 1 < W1.heap.size := (Array.getElem?_eq_some_iff.1 j).1
    have m : W3.heap[w.heap.size + 1]? = some (.loop { rc with state := .busy }) := i.2.trans (World.putObj_heap_same q)
    have z : W3.heap[w.heap.size]? = some (.deferred (some [])) := i.1.trans ((World.putObj_heap_other (by omega)).trans y)
    exact ⟨_, _, run_endRound (some .ret) m, rfl, hz _ _ D, ⟨_, World.putObj_heap_same (Array.getElem?_eq_some_iff.1 m).1, rfl, rfl⟩, (World.putObj_heap_other (by omega)).trans z⟩
   | _ => exact A.elim
  ·rintro e W ⟨⟨v, rfl⟩, C, ⟨r, f, S, T⟩, u⟩
   refine ⟨some .ret, _, by rw [<- T]; exact run_endLoop f (by rw [S]; simp), ?_⟩
   exact wpIn_ret (hdone _ (hz _ _ C) ((World.putObj_heap_other (by omega)).trans u))
theorem back_stop {n : Nat} (l bs N M : Nat) (thr : Value) (cs : List Value) (J : Nat -> World -> Prop) (Y : World -> Prop) (hN : N <= 1000) (hMN : M < N)
  (hJ : ∀ k W, J k W -> W.cell? ⟨bs, 0, none⟩ = some thr /\ ((thr = .slice none 0 0 /\ N = 0) \/ ∃ g cap, thr = .slice (some ⟨g, 0, none⟩) N cap /\ ∀ j, j < N -> W.cell? ⟨g, j * 2, none⟩ = some (cs.getD (j * 2) undef) /\ W.cell? ⟨g, j * 2 + 1, none⟩ = some (cs.getD (j * 2 + 1) undef)))
  (hY : ∀ k W, k < M -> J k W -> YieldAt Fence.wide (n - 1) Tryz.prog l (backAt N cs k) W fun e W' => e = .returned (.bool true) /\ J (k + 1) W') (hZ : ∀ W, J M W -> YieldAt Fence.wide (n - 1) Tryz.prog l (backAt N cs M) W fun e W' => e = .returned (.bool false) /\ Y W') (W : World) (h0 : J 0 W) :
  CallsIn Fence.wide n Tryz.prog 98 #[.func (.yield l) #[] #[], .pointer (some ⟨bs, 0, none⟩)] W fun e W' => (∃ v, e = .returned v) /\ Y W' := by
 obtain ⟨K, Q⟩ := hJ 0 W h0
 obtain ⟨p, cap, b⟩ : ∃ p cap, thr = .slice p N cap := by
  rcases Q with ⟨rfl, rfl⟩ | ⟨g, cap, rfl, _⟩
  ·exact ⟨none, 0, rfl⟩
  ·exact ⟨_, cap, rfl⟩
 rw [b] at K
 have P := Hid.hide hJ
 have S := Hid.hide hY
 have R := Hid.hide h0
 have t : Hid (N <= 1000 /\ M < N) := ⟨hN, hMN⟩
 have T := Hid.hide hZ
 have k0 : IntKind.i64.wrap ((N : Int) - 1) = (N : Int) - 1 := wrap_fits _ (by omega) (by omega)
 clear hJ hY h0 Q hN hMN hZ
 refine callsIn_of_wp Tryz.func98 rfl trivial ?_ rfl
 simp only [Tryz.ntmps98, List.size_toArray, List.length_cons, List.length_nil, Nat.reduceAdd, Nat.reduceSub, Array.replicate_succ, Array.replicate_zero, List.push_toArray, List.append_toArray, List.nil_append, List.cons_append]
 gi_wp2
 gi_loopw [3] (fun i wr => ∃ k, k <= M /\ i = .int .i64 ((N : Int) - 1 - (k : Int)) /\ J k wr) (fun i _ => match i with | .int _ x => (x + 1).toNat | _ => 0)
 case atStart => exact ⟨0, Nat.zero_le _, by simp, R.out⟩
 case round =>
  obtain ⟨k, hk, rfl, m⟩ := hrel
  have E : k < N := by have := t.out.2; omega
  by_cases F : k < M
  ·obtain ⟨j, C⟩ : ∃ j, N - 1 - k = j := ⟨_, rfl⟩
   have D : j < N := by omega
   have y : (N : Int) - 1 - (k : Int) = (j : Int) := by omega
   obtain ⟨B, r⟩ := P.out k wr m
   rw [b] at B
   obtain ⟨g, cap', c, a⟩ : ∃ g cap', thr = .slice (some ⟨g, 0, none⟩) N cap' /\ ∀ j, j < N -> wr.cell? ⟨g, j * 2, none⟩ = some (cs.getD (j * 2) undef) /\ wr.cell? ⟨g, j * 2 + 1, none⟩ = some (cs.getD (j * 2 + 1) undef) := by
    rcases r with ⟨_, h⟩ | h
    ·omega
    ·exact h
   rw [b] at c
   obtain ⟨rfl, rfl⟩ : p = some ⟨g, 0, none⟩ /\ cap = cap' := by
    simp only [Value.slice.injEq] at c
    exact ⟨c.1, c.2.2⟩
   obtain ⟨H, I⟩ := a j D
   obtain ⟨fn, L, w, G, o, z⟩ := S.out k wr F m
   unfold backAt at o
   rw [C] at o
   obtain ⟨u0, d⟩ : ∃ u, cs.getD (j * 2) undef = u := ⟨_, rfl⟩
   obtain ⟨u1, f⟩ : ∃ u, cs.getD (j * 2 + 1) undef = u := ⟨_, rfl⟩
   rw [d, f] at o
   rw [d] at H
   rw [f] at I
   rw [y]
   have X : (j : Int) < (N : Int) := by omega
   have V : (0 : Int) <= (j : Int) := by omega
   have Z : IntKind.i64.wrap ((j : Int) - 1) = (j : Int) - 1 := wrap_fits _ (by have := t.out.1; omega) (by have := t.out.1; omega)
   have O : Hid ((N : Int) - 1 - ((k + 1 : Nat) : Int) = (j : Int) - 1 /\ k < M) := ⟨by omega, F⟩
   clear K a r c b d f m y C E
   gi_wp2
   refine ⟨fun h => by simp [Fence.wide] at h, z.mono ?_⟩
   rintro e U ⟨rfl, q⟩
   have s := Hid.hide q
   clear q z o
   gi_wp2
   refine ⟨⟨k + 1, O.out.2, by rw [O.out.1], s.out⟩, ?_⟩
   show ((j : Int) - 1 + 1).toNat < ((j : Int) + 1).toNat
   omega
  ·obtain rfl : k = M := by omega
   obtain ⟨j, C⟩ : ∃ j, N - 1 - k = j := ⟨_, rfl⟩
   have D : j < N := by omega
   have y : (N : Int) - 1 - (k : Int) = (j : Int) := by omega
   obtain ⟨B, r⟩ := P.out k wr m
   rw [b] at B
   obtain ⟨g, cap', c, a⟩ : ∃ g cap', thr = .slice (some ⟨g, 0, none⟩) N cap' /\ ∀ j, j < N -> wr.cell? ⟨g, j * 2, none⟩ = some (cs.getD (j * 2) undef) /\ wr.cell? ⟨g, j * 2 + 1, none⟩ = some (cs.getD (j * 2 + 1) undef) := by
    rcases r with ⟨_, h⟩ | h
    ·omega
    ·exact h
   rw [b] at c
   obtain ⟨rfl, rfl⟩ : p = some ⟨g, 0, none⟩ /\ cap = cap' := by
    simp only [Value.slice.injEq] at c
    exact ⟨c.1, c.2.2⟩
   obtain ⟨H, I⟩ := a j D
   obtain ⟨fn, L, w, G, o, z⟩ := T.out wr m
   unfold backAt at o
   rw [C] at o
   obtain ⟨u0, d⟩ : ∃ u, cs.getD (j * 2) undef = u := ⟨_, rfl⟩
   obtain ⟨u1, f⟩ : ∃ u, cs.getD (j * 2 + 1) undef = u := ⟨_, rfl⟩
   rw [d, f] at o
   rw [d] at H
   rw [f] at I
   rw [y]
   have X : (j : Int) < (N : Int) := by omega
   have V : (0 : Int) <= (j : Int) := by omega
   have Z : IntKind.i64.wrap ((j : Int) - 1) = (j : Int) - 1 := wrap_fits _ (by have := t.out.1; omega) (by have := t.out.1; omega)
   clear K a r c b d f m y C E
   gi_wp2
   refine ⟨fun h => by simp [Fence.wide] at h, z.mono ?_⟩
   rintro e U ⟨rfl, q⟩
   have s := Hid.hide q
   clear q z o
   gi_wp2
   (try simp only [Exit.inBlock, Exit.then])
   refine bodyPost_ret (results_none rfl _ _ _) rfl ?_
   exact ⟨⟨_, rfl⟩, s.out⟩
def EndZ (B : Nat) (S : Wood) (sent : Nat -> Addr) (w W : World) : Prop :=
 ∃ S', Fr B S S' w W /\ (∀ j, w.heap.size <= j -> j < w.heap.size + 7 -> S' j = none) /\ w.heap.size + 6 < W.heap.size /\ W.heap[w.heap.size + 2]? = some (.cells #[.nilIface] 61 (0, 0)) /\ W.heap[w.heap.size + 3]? = some (.cells #[(.iface 241 (.pointer (some (sent 12))))] 67 (0, 0))
theorem EndZ.put {B : Nat} {S : Wood} {sent : Nat -> Addr} {w W : World} (h : EndZ B S sent w W) (j : Nat) (hj : j = w.heap.size + 6) (o : Obj) : EndZ B S sent w (W.putObj j o) := by
 obtain ⟨b, c, a, d, e, f⟩ := h
 subst hj
 exact ⟨b, c.putObj _ o (by omega) (a _ (by omega) (by omega)), a, by simpa using d, (World.putObj_heap_other (by omega)).trans e, (World.putObj_heap_other (by omega)).trans f⟩
theorem EndZ.of {B : Nat} {S S' S2 : Wood} {sent : Nat -> Addr} {w W1 W2 : World} (h1 : Fr B S S' w W1) (h3 : ∀ j, w.heap.size <= j -> j < w.heap.size + 7 -> S' j = none) (h4 : w.heap.size + 6 < W1.heap.size) (h6 : W1.heap[w.heap.size + 2]? = some (.cells #[.nilIface] 61 (0, 0))) (h7 : W1.heap[w.heap.size + 3]? = some (.cells #[.nilIface] 67 (0, 0))) (hf : Fr B S' S2 W1 W2) :
  BkSame (w.heap.size + 5) W1 ((W2.setCell ⟨w.heap.size + 2, 0, none⟩ .nilIface).setCell ⟨w.heap.size + 3, 0, none⟩ (.iface 241 (.pointer (some (sent 12))))) /\ EndZ B S sent w ((W2.setCell ⟨w.heap.size + 2, 0, none⟩ .nilIface).setCell ⟨w.heap.size + 3, 0, none⟩ (.iface 241 (.pointer (some (sent 12))))) := by
 have c : ∀ j, w.heap.size <= j -> j < w.heap.size + 7 -> W2.heap[j]? = W1.heap[j]? := fun j a b => hf.other j (by omega) (h3 j a b)
 have d : ∀ j, w.heap.size <= j -> j < w.heap.size + 7 -> S2 j = none := fun j a b => hf.new j (by omega) (h3 j a b)
 have h := hf.size
 have e : ∀ j, j ≠ w.heap.size + 2 -> j ≠ w.heap.size + 3 -> ((W2.setCell ⟨w.heap.size + 2, 0, none⟩ .nilIface).setCell ⟨w.heap.size + 3, 0, none⟩ (.iface 241 (.pointer (some (sent 12))))).heap[j]? = W2.heap[j]? := fun j a b => (Below.heap_setCell _ _ _ _ b).trans (Below.heap_setCell _ _ _ _ a)
 have f := heap_setCell_list (cs := [.nilIface]) ((c (w.heap.size + 2) (by omega) (by omega)).trans h6) 0 .nilIface
 have g := heap_setCell_list (cs := [.nilIface]) ((Below.heap_setCell W2 ⟨w.heap.size + 2, 0, none⟩ .nilIface (w.heap.size + 3) (by simp)).trans ((c (w.heap.size + 3) (by omega) (by omega)).trans h7)) 0 (.iface 241 (.pointer (some (sent 12))))
 refine ⟨⟨(e _ (by omega) (by omega)).trans (c _ (by omega) (by omega)), (e _ (by omega) (by omega)).trans (c _ (by omega) (by omega))⟩, S2, ((h1.trans hf).setCell _ _ (by simp) (d _ (by simp) (by simp))).setCell _ _ (by simp) (d _ (by simp) (by simp)), d, by simp; omega, (Below.heap_setCell _ _ _ _ (by simp)).trans f, g⟩
theorem end_leave_bad {B : Nat} {S : Wood} {sent : Nat -> Addr} {w W : World} {D : Nat} {tmps : Array Value} (HF0 : Forest B S w) (h : EndZ B S sent w W) (hd : W.heap[w.heap.size + 5]? = some (.deferred (some []))) (hD : D = w.heap.size + 5) (h4 : tmps.getD 4 undef = .pointer (some ⟨w.heap.size + 2, 0, none⟩)) (h5 : tmps.getD 5 undef = .pointer (some ⟨w.heap.size + 3, 0, none⟩)) :
  bodyPostM Fence.wide 3 Tryz.prog Tryz.f62 (fun e w' => e = .returned (.tuple #[.nilIface, (.iface 241 (.pointer (some (sent 12))))]) /\ Fr B S S w w') .ret { tmps := tmps, defers := [{ target := .collected D, args := #[] }] } W := by
 obtain ⟨g, c, d, i, a, b⟩ := h
 subst hD
 refine ⟨by simp, .inl ⟨_, _, rfl, run_takeDeferred hd, ?_⟩⟩
 refine ⟨_, results_two Tryz.results62 tmps _ _ (w.heap.size + 2) (w.heap.size + 3) h4 h5 (load_node (heap_cell1 ((World.putObj_heap_other (by omega)).trans a)).1) (load_error (heap_cell1 ((World.putObj_heap_other (by omega)).trans b)).1), ?_⟩
 exact ⟨rfl, (c.putObj _ _ (by omega) (d _ (by omega) (by omega))).less HF0⟩
theorem ending_bad {B : Nat} {S : Wood} {sent : Nat -> Addr} {C : Nat} {w : World} {l : List (Nd × ByteArray)} {t : Nd} {r : ByteArray} {thr v u : Value} {cs : List Value} (hf : Forest B S w) (hO : OwnC w C 2 thr l.length cs) (hT : Turns S l cs) (hnone : ∀ g, thr.ownBlock = some g -> S g = none) (hv : v = .nilIface \/ ∃ T a, v = .iface T (.pointer (some a))) (hu : ndV S u t) (hl : l.length <= 1000) (hbad : endBad l t) (hG : w.cell? ⟨10, 0, none⟩ = some (.iface 241 (.pointer (some (sent 12))))) (hlo : S 10 = none) :
  Calls Tryz.prog 62 #[.agg #[thr, v, .string r], u] w fun e w' => e = .returned (.tuple #[.nilIface, (.iface 241 (.pointer (some (sent 12))))]) /\ Fr B S S w w' := by
 obtain ⟨pv, mv, cv, rfl⟩ := hO.shape
 have av := hu.shape
 have HF := Hid.hide hf
 have HO := Hid.hide hO
 have HT := Hid.hide hT
 have HU := Hid.hide hu
 have HN := Hid.hide hnone
 obtain ⟨I, ap, ao, aq⟩ := hbad.at
 have HK : Hid (I < l.length /\ ∀ i (hi : i < l.length), I < i -> l[i].1.leads l[i].2 (endN (l.drop (i + 1)) t)) := ⟨ap, aq⟩
 obtain ⟨M, hM⟩ : ∃ M, l.length - 1 - I = M := ⟨_, rfl⟩
 have ac : Hid (M < l.length /\ l.length - 1 - M = I /\ ∀ h : I < l.length, l[I].1.fails l[I].2 (endN (l.drop (I + 1)) t)) := ⟨by omega, by omega, fun _ => ao⟩
 have L : Hid (w.cell? ⟨10, 0, none⟩ = some (.iface 241 (.pointer (some (sent 12)))) /\ S 10 = none) := ⟨hG, hlo⟩
 have HL := Hid.hide hl
 clear hf hO hT hnone hu hbad hl ap ao aq hM hG hlo
 rcases hv with rfl | ⟨T, a, rfl⟩
 all_goals rcases av with rfl | ⟨T', a', rfl⟩
 all_goals
  refine (callsIn_wide (n := 3)).1 ?_
  refine callsIn_of_wp_marks Tryz.func62 rfl trivial ?_ rfl
  simp only [Tryz.ntmps62, List.size_toArray, List.length_cons, List.length_nil, Nat.reduceAdd, Nat.reduceSub, Array.replicate_succ, Array.replicate_zero, List.push_toArray, List.append_toArray, List.nil_append, List.cons_append]
  gi_wp2_with (refine ⟨trivial, ?_⟩; gi_at_call 80; refine (callsIn_wide.2 (backward_any _ _ _ _)).mono ?_; rintro x w1 ⟨rfl, rfl⟩)
  generalize hwL : World.alloc (World.alloc (World.alloc (World.alloc (World.alloc w _) _) _) _) _ = wL
  obtain ⟨hs, ak, q1, q2, q3, q4⟩ := five hwL
  have ae := fun o1 o2 => EndI.start (l := l) HF.out HU.out ak hs q1 q2 q3 q4 o1 o2
  clear hwL ak q1 q2 q3 q4
  refine wp_range_stop (gf := 98) (lb := #[.pointer (some ⟨w.heap.size + 4, 0, none⟩)]) rfl (enters_of Tryz.func98 (by kernel_rfl) rfl) M (backAt l.length cs) (fun _ => rfl) (EndI B S w l t (.slice pv mv cv)) (EndZ B S sent w) ae (fun k W o h => h.put _ (by omega) o) (fun W o h => h.put _ (by omega) o) ?seq ?round ?stop ?done
  case seq =>
   intro l1 J Y hJ hY hZ W0 au
   refine back_stop l1 (w.heap.size + 4) l.length M (.slice pv mv cv) cs J Y HL.out ac.out.1 (fun k W hk => ?_) hY hZ W0 au
   obtain ⟨S', u, p, q, D, O, E, G, H, P⟩ := hJ k W hk
   exact ⟨(heap_cell1 P).1, end_row HO.out (fun g hg => p.other g (HO.out.block g hg).2 (HN.out g hg))⟩
  case round =>
   intro k W hk hI ah
   obtain ⟨j, hj⟩ : ∃ j, l.length - 1 - k = j := ⟨_, rfl⟩
   have ab := ac.out
   have V : j < l.length := by omega
   obtain ⟨Q, s⟩ := HT.out.at j V
   unfold backAt
   rw [hj]
   rw [Q]
   have f := HK.out.2 j V (by omega)
   have aa := endN_drop l t V
   have e1 : l.length - k = j + 1 := by omega
   have e2 : l.length - (k + 1) = j := by omega
   obtain ⟨x, hx⟩ : ∃ x, l[j] = x := ⟨_, rfl⟩
   rw [hx] at s f aa ⊢
   have y : x.1.inner = true := leads_inner f
   obtain ⟨d, hd, U⟩ := s.full (inner_no y)
   rw [hd]
   have hm := mLead x.1 y
   have ag := enLead x.1 y
   have HI := Hid.hide hI
   have F : Hid (x.1.leads x.2 (endN (l.drop (j + 1)) t) /\ endN (l.drop j) t = x.1.lead x.2 (endN (l.drop (j + 1)) t) /\ l.length - k = j + 1 /\ l.length - (k + 1) = j /\ S d = some x.1) := ⟨f, aa, e1, e2, U⟩
   have HS := Hid.hide hs
   clear hI f aa e1 e2 U hd s Q hx hj hs ae ab
   gi_wp2
   refine ⟨⟨Below.heap_alloc _ _ _ (by omega), Below.heap_alloc _ _ _ ah⟩, HI.out.alloc _, fun o => ?_⟩
   obtain ⟨S', uk, p, q, D, O, E, G, H, P⟩ := (HI.out.alloc (.cells #[.iface (ndTy x.1) (.pointer (some ⟨d, 0, none⟩)), .string x.2] 199)).put (wL.heap.size + 1) (by have := HS.out; omega) o
   have K : ((W.alloc (.cells #[.iface (ndTy x.1) (.pointer (some ⟨d, 0, none⟩)), .string x.2] 199)).putObj (wL.heap.size + 1) o).heap[W.heap.size]? = some (.cells #[.iface (ndTy x.1) (.pointer (some ⟨d, 0, none⟩)), .string x.2] 199 (0, 0)) := (World.putObj_heap_other (by omega)).trans (World.alloc_heap_new W _)
   generalize hW1 : (W.alloc (.cells #[.iface (ndTy x.1) (.pointer (some ⟨d, 0, none⟩)), .string x.2] 199)).putObj (wL.heap.size + 1) o = W1 at p q D O E G H P K ⊢
   rw [F.out.2.2.1] at q
   have c0 : W1.cell? ⟨W.heap.size, 0, none⟩ = some (.iface (ndTy x.1) (.pointer (some ⟨d, 0, none⟩))) := by simp [World.cell?, K]
   have c1 : W1.cell? ⟨W.heap.size, 1, none⟩ = some (.string x.2) := by simp [World.cell?, K]
   obtain ⟨c2, -⟩ := heap_cell1 E
   have ai := q.shape
   have N := Hid.hide (lead_any (w := W1) p.forest (p.sub d _ F.out.2.2.2.2) q F.out.1)
   have HE : Hid (∀ c z Z, Fr B S' z W1 c -> ndV z Z (x.1.lead x.2 (endN (l.drop (j + 1)) t)) -> (c.cell? ⟨w.heap.size + 1, 0, none⟩ = some uk /\ c.frozen? ⟨w.heap.size + 1, 0, none⟩ = false) /\ BkSame wL.heap.size W1 (c.setCell ⟨w.heap.size + 1, 0, none⟩ Z) /\ EndI B S w l t (.slice pv mv cv) (k + 1) (c.setCell ⟨w.heap.size + 1, 0, none⟩ Z)) := fun c z Z m X => by
    rw [HS.out]
    refine ⟨heap_cell1 ((m.other _ (by omega) (D _ (by omega) (by omega))).trans E), EndI.next p D O E G H P m ?_⟩
    rw [F.out.2.2.2.1, F.out.2.1]
    exact X
   clear p q D O E G H P K hW1
   rcases ai with rfl | ⟨T2, a2, rfl⟩
   all_goals
    gi_wp2
    refine ⟨trivial, (calls_in N.out).mono ?_⟩
    rintro e c ⟨Z, z, rfl, X, m⟩
    obtain ⟨⟨z0, z1⟩, R, al⟩ := HE.out c z Z m X
    have HZ : Hid (BkSame wL.heap.size W1 (c.setCell ⟨w.heap.size + 1, 0, none⟩ Z) /\ EndI B S w l t (.slice pv mv cv) (k + 1) (c.setCell ⟨w.heap.size + 1, 0, none⟩ Z)) := ⟨R, al⟩
    have ar := X.shape
    clear R al X m HE N hm ag c0 c1 c2
    rcases ar with rfl | ⟨T3, a3, rfl⟩
    all_goals
     gi_wp2
     exact HZ.out
  case stop =>
   intro W hI ah
   obtain ⟨j, hj⟩ : ∃ j, l.length - 1 - M = j := ⟨_, rfl⟩
   have ab := ac.out
   have V : j < l.length := by omega
   obtain ⟨Q, s⟩ := HT.out.at j V
   unfold backAt
   rw [hj]
   rw [Q]
   have f : l[j].1.fails l[j].2 (endN (l.drop (j + 1)) t) := by
    have := ab.2.2 HK.out.1
    have e : I = j := by omega
    subst e
    exact this
   have e1 : l.length - M = j + 1 := by omega
   obtain ⟨x, hx⟩ : ∃ x, l[j] = x := ⟨_, rfl⟩
   rw [hx] at s f ⊢
   have y : x.1.inner = true := fails_inner f
   obtain ⟨d, hd, U⟩ := s.full (inner_no y)
   rw [hd]
   have hm := mLead x.1 y
   have ag := enLead x.1 y
   have HI := Hid.hide hI
   have F : Hid (x.1.fails x.2 (endN (l.drop (j + 1)) t) /\ l.length - M = j + 1 /\ S d = some x.1) := ⟨f, e1, U⟩
   have HS := Hid.hide hs
   clear hI f e1 U hd s Q hx hj hs ae ab
   gi_wp2
   refine ⟨⟨Below.heap_alloc _ _ _ (by omega), Below.heap_alloc _ _ _ ah⟩, HI.out.alloc _, fun o => ?_⟩
   obtain ⟨S', uk, p, q, D, O, E, G, H, P⟩ := (HI.out.alloc (.cells #[.iface (ndTy x.1) (.pointer (some ⟨d, 0, none⟩)), .string x.2] 199)).put (wL.heap.size + 1) (by have := HS.out; omega) o
   have K : ((W.alloc (.cells #[.iface (ndTy x.1) (.pointer (some ⟨d, 0, none⟩)), .string x.2] 199)).putObj (wL.heap.size + 1) o).heap[W.heap.size]? = some (.cells #[.iface (ndTy x.1) (.pointer (some ⟨d, 0, none⟩)), .string x.2] 199 (0, 0)) := (World.putObj_heap_other (by omega)).trans (World.alloc_heap_new W _)
   generalize hW1 : (W.alloc (.cells #[.iface (ndTy x.1) (.pointer (some ⟨d, 0, none⟩)), .string x.2] 199)).putObj (wL.heap.size + 1) o = W1 at p q D O E G H P K ⊢
   rw [F.out.2.1] at q
   have c0 : W1.cell? ⟨W.heap.size, 0, none⟩ = some (.iface (ndTy x.1) (.pointer (some ⟨d, 0, none⟩))) := by simp [World.cell?, K]
   have c1 : W1.cell? ⟨W.heap.size, 1, none⟩ = some (.string x.2) := by simp [World.cell?, K]
   obtain ⟨c2, -⟩ := heap_cell1 E
   have ai := q.shape
   have aj : W1.cell? ⟨10, 0, none⟩ = some (.iface 241 (.pointer (some (sent 12)))) := (World.cell?_of_block (a := ⟨10, 0, none⟩) (p.other _ (World.block_lt_of_cell? w _ L.out.1) L.out.2)).trans L.out.1
   have N := Hid.hide (lead_bad (sent := sent) (w := W1) aj (p.new _ (World.block_lt_of_cell? w _ L.out.1) L.out.2) p.forest (p.sub d _ F.out.2.2) q F.out.1)
   have HE : Hid (∀ c z, Fr B S' z W1 c -> ((c.cell? ⟨w.heap.size + 2, 0, none⟩ = some .nilIface /\ c.frozen? ⟨w.heap.size + 2, 0, none⟩ = false) /\ c.cell? ⟨w.heap.size + 3, 0, none⟩ = some .nilIface /\ c.frozen? ⟨w.heap.size + 3, 0, none⟩ = false) /\ BkSame wL.heap.size W1 ((c.setCell ⟨w.heap.size + 2, 0, none⟩ .nilIface).setCell ⟨w.heap.size + 3, 0, none⟩ (.iface 241 (.pointer (some (sent 12))))) /\ EndZ B S sent w ((c.setCell ⟨w.heap.size + 2, 0, none⟩ .nilIface).setCell ⟨w.heap.size + 3, 0, none⟩ (.iface 241 (.pointer (some (sent 12)))))) := fun c z m => by
    rw [HS.out]
    have ho : ∀ j, w.heap.size <= j -> j < w.heap.size + 7 -> c.heap[j]? = W1.heap[j]? := fun j a b => m.other j (by omega) (D j a b)
    exact ⟨⟨heap_cell1 ((ho _ (by omega) (by omega)).trans G), heap_cell1 ((ho _ (by omega) (by omega)).trans H)⟩, EndZ.of p D O G H m⟩
   clear p q D O E G H P K hW1 aj
   rcases ai with rfl | ⟨T2, a2, rfl⟩
   all_goals
    gi_wp2
    refine ⟨trivial, (calls_in N.out).mono ?_⟩
    rintro e c ⟨rfl, z, m⟩
    obtain ⟨⟨⟨z0, z1⟩, z2, z3⟩, R, am⟩ := HE.out c z m
    have HZ : Hid (BkSame wL.heap.size W1 ((c.setCell ⟨w.heap.size + 2, 0, none⟩ .nilIface).setCell ⟨w.heap.size + 3, 0, none⟩ (.iface 241 (.pointer (some (sent 12))))) /\ EndZ B S sent w ((c.setCell ⟨w.heap.size + 2, 0, none⟩ .nilIface).setCell ⟨w.heap.size + 3, 0, none⟩ (.iface 241 (.pointer (some (sent 12)))))) := ⟨R, am⟩
    clear R am m HE N hm ag c0 c1 c2
    gi_wp2
    exact HZ.out
  case done =>
   intro W hZ hD
   exact end_leave_bad HF.out hZ (by rw [hs] at hD; exact hD) hs rfl rfl
end Go.Proofs.YtcglpladmeelaaaGreatDoor
