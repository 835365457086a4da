/-
  Trees with stubs: the way of a key that meets a stub.
-/
import Derived.Test.YtlgajgjfjohodaaGreatDoorSxWaG
namespace Go.Proofs.YtlgajgjfjohodaaGreatDoor
open Go.RowKit
set_option maxRecDepth 100000
set_option maxHeartbeats 25600000
theorem tway_stub {B : Nat} {S : Wood} {w : World} {b : Nat} {t : Nd} {h : List Nat} {K : Array Nat} {p r' : ByteArray} {l : List (Nd × ByteArray)} (sent : Nat -> Addr) (hFl : Faults w sent) (hf : Forest B S w) (ht : TreeAt S w b t) (hK : K.size = 32) (hKb : Bytes K) (hp : textB (nibs K.toList) = p) (hfit : t.fits p.size) (hn : ∀ x ∈ bytesOf p, x < 16) (hps : p.size <= 1000) (hT : WayTo t p l (.stub h) r') :
  Calls Tryz.prog 44 #[.pointer (some ⟨b, 0, none⟩), .agg (K.toList.map encB).toArray] w fun x w' => x = .returned (.tuple #[.agg #[.slice none 0 0, .nilIface, .string ⟨#[]⟩], (Er.base 12).val sent]) /\ Below w.heap.size w w' := by
 obtain ⟨e, C⟩ : ∃ e, e = Nd.stub h := ⟨_, rfl⟩
 rw [<- C] at hT
 have U := Hid.hide C
 have he : e ≠ .no := by rw [C]; simp
 have Q := Hid.hide hFl
 clear C hFl
 have ab := ht.lt
 obtain ⟨v, hv, c0, -⟩ := ht.cell
 have HF := Hid.hide hf
 have R := ofkey_any K
 rw [hp] at R
 have V : Hid (∀ W, Calls Tryz.prog 40 #[.agg (K.toList.map encB).toArray] W fun e w' => e = .returned (.string p) /\ Below W.heap.size W w') := fun W => R W hK hKb
 have Y : Hid (∀ W, Below w.heap.size w W -> Calls Tryz.prog 62 #[v, .string p] W fun x w' => Below W.heap.size W w' /\ ∃ m v', x = .returned (.agg #[m, v', .string r']) /\ Followed S W.heap.size w' l e m v') := fun W hW => follow_any (hf.below hW) hv hfit hn hps hT
 have I : ∀ o, ((w.alloc (.cells (K.toList.map encB).toArray 41)).alloc o).rangeAt w.heap.size 0 (K.toList.map encB) := fun o j u T => by
  rw [World.cell?_alloc_past _ _ _ (by simp), Nat.zero_add, World.cell?_alloc_new]
  simpa using T
 have al : (Tryz.prog.info? 41).map (·.size) = some (K.toList.map encB).length := by rw [size51]; simp [hK]
 clear hf ht hv hK hKb hp hfit hn hps hT R
 go_enter Tryz.func44, Tryz.ntmps44
 go_upto_region 1 with fail
 have H := I (.cells #[.slice none 0 0, .nilIface, .string ⟨#[]⟩] 112)
 have z : Below w.heap.size w ((w.alloc (.cells (K.toList.map encB).toArray 41)).alloc (.cells #[.slice none 0 0, .nilIface, .string ⟨#[]⟩] 112)) := ((Below.refl _ _).alloc (Nat.le_refl _) _).alloc (by simp) _
 have J : ((w.alloc (.cells (K.toList.map encB).toArray 41)).alloc (.cells #[.slice none 0 0, .nilIface, .string ⟨#[]⟩] 112)).heap.size = w.heap.size + 2 := by simp
 have L : ((w.alloc (.cells (K.toList.map encB).toArray 41)).alloc (.cells #[.slice none 0 0, .nilIface, .string ⟨#[]⟩] 112)).there (w.heap.size + 1) 0 3 := by
  have := there_new (w.alloc (.cells (K.toList.map encB).toArray 41)) #[.slice none 0 0, .nilIface, .string ⟨#[]⟩] 112 3 rfl
  simpa using this
 have D := heap_new (w.alloc (.cells (K.toList.map encB).toArray 41)) (.cells #[.slice none 0 0, .nilIface, .string ⟨#[]⟩] 112)
 rw [World.size_alloc] at D
 generalize (w.alloc (.cells (K.toList.map encB).toArray 41)).alloc (.cells #[.slice none 0 0, .nilIface, .string ⟨#[]⟩] 112) = W0 at H z J L D ⊢
 have aa := Hid.hide D
 clear D
 have c1 := (z.cell (p := ⟨b, 0, none⟩) ab).trans c0
 have q : Hid (Below w.heap.size w W0 /\ W0.heap.size = w.heap.size + 2 /\ W0.there (w.heap.size + 1) 0 3) := ⟨z, J, L⟩
 have i : Hid (∀ N, Below W0.heap.size W0 N -> N.cell? ⟨b, 0, none⟩ = some v /\ N.rangeAt w.heap.size 0 (K.toList.map encB)) := fun N h => ⟨(h.cell (p := ⟨b, 0, none⟩) (by have := q.out.2.1; show b < _; omega)).trans c1, fun j u T => (h.cell (p := ⟨w.heap.size, 0 + j, none⟩) (by have := q.out.2.1; show w.heap.size < _; omega)).trans (H j u T)⟩
 have r : Below W0.heap.size W0 W0.drew := (Below.refl _ _).drew
 clear I z J L c0
 have ai := Tryz.underlying41
 go_cut [6] (fun v6 wc => ∃ g m v', v6 = .pointer (some ⟨g, 0, none⟩) /\ WayPut S W0 l e r' g m v' wc)
 case first =>
  go_region_held3 (fun w' => w'.cell? ⟨b, 0, none⟩ = some v /\ w'.rangeAt w.heap.size 0 (K.toList.map encB)) (first | exact i.out _ r | exact i.out _ (r.alloc (Nat.le_refl _) _) | exact i.out _ a | exact i.out _ (a.alloc a.size _) | exact i.out _ k | exact i.out _ (k.alloc k.size _) | exact i.out _ (((k.setCell (p := ⟨w1.heap.size, 0, none⟩) a.size _).setCell (p := ⟨w1.heap.size, 1, none⟩) a.size _).setCell (p := ⟨w1.heap.size, 2, none⟩) a.size _) | exact i.out _ (((k.setCell (p := ⟨W0.heap.size, 0, none⟩) (Nat.le_refl _) _).setCell (p := ⟨W0.heap.size, 1, none⟩) (Nat.le_refl _) _).setCell (p := ⟨W0.heap.size, 2, none⟩) (Nat.le_refl _) _))
   (first | (go_at_call 40; refine (V.out _).mono ?_; rintro e w1 ⟨rfl, f⟩; have a : Below W0.heap.size W0 w1 := (by first | exact r.trans f | exact (r.alloc (Nat.le_refl _) _).trans (f.mono (by simp))); have y0 := (fun h => f.cell (p := ⟨W0.heap.size, 0, none⟩) h); have y1 := (fun h => f.cell (p := ⟨W0.heap.size, 1, none⟩) h); have y2 := (fun h => f.cell (p := ⟨W0.heap.size, 2, none⟩) h); have k0 := (fun h => f.frozen (p := ⟨W0.heap.size, 0, none⟩) h); have k1 := (fun h => f.frozen (p := ⟨W0.heap.size, 1, none⟩) h); have k2 := (fun h => f.frozen (p := ⟨W0.heap.size, 2, none⟩) h); have s1 := (fun (h : W0.heap.size < _) => Nat.lt_of_lt_of_le h f.size); have O := Hid.hide f; clear f) | (go_at_call 62; refine (Y.out _ (q.out.1.behind' (by first | exact a | exact a.alloc a.size _))).mono ?_; rintro e w2 ⟨c, m, v2, rfl, y⟩; have k : Below W0.heap.size W0 w2 := (by first | exact a.trans (c.mono a.size) | exact (a.alloc a.size _).trans (c.mono (Nat.le_trans a.size (by simp)))); have Y0 := (fun h => c.cell (p := ⟨W0.heap.size, 0, none⟩) h); have Y1 := (fun h => c.cell (p := ⟨W0.heap.size, 1, none⟩) h); have Y2 := (fun h => c.cell (p := ⟨W0.heap.size, 2, none⟩) h); have K0 := (fun h => c.frozen (p := ⟨W0.heap.size, 0, none⟩) h); have K1 := (fun h => c.frozen (p := ⟨W0.heap.size, 1, none⟩) h); have K2 := (fun h => c.frozen (p := ⟨W0.heap.size, 2, none⟩) h); have X0 := (fun h => c.cell (p := ⟨w1.heap.size, 0, none⟩) h); have X1 := (fun h => c.cell (p := ⟨w1.heap.size, 1, none⟩) h); have X2 := (fun h => c.cell (p := ⟨w1.heap.size, 2, none⟩) h); have J0 := (fun h => c.frozen (p := ⟨w1.heap.size, 0, none⟩) h); have J1 := (fun h => c.frozen (p := ⟨w1.heap.size, 1, none⟩) h); have J2 := (fun h => c.frozen (p := ⟨w1.heap.size, 2, none⟩) h); obtain ⟨pv, mv, cv, rfl⟩ := y.shape; obtain ⟨d2, rfl, -⟩ := y.node.full he; have F := Hid.hide y; have P := Hid.hide c; clear c y))
  all_goals (try go_wp2)
  all_goals go_meet
  ·exact ⟨_, _, _, rfl, wayput_new F.out a.size k⟩
  ·exact ⟨_, _, _, rfl, wayput_old F.out (Nat.le_trans a.size (by simp)) k (by simp) P.out (by simp) (there_new _ _ _ _ rfl) a.size⟩
  ·exact ⟨_, _, _, rfl, wayput_old F.out a.size k (Nat.lt_of_lt_of_le (by simp) O.out.size) (O.out.behind' P.out) (by simp) (there_new W0.drew _ _ _ rfl) (Nat.le_refl _)⟩
 case rest =>
  obtain ⟨g, m, v2, rfl, s⟩ := hcut
  have hz : wc.heap[w.heap.size + 1]? = some (.cells #[.slice none 0 0, .nilIface, .string ⟨#[]⟩] 112 (0, 0)) := (s.2.2.2.block _ (by have := q.out.2.1; omega)).trans aa.out
  have ae := s.1
  have ac := s.2.1
  obtain ⟨pv, mv, cv, rfl⟩ := s.2.2.1.shape
  obtain rfl := U.out
  obtain ⟨d, rfl, hd⟩ := s.2.2.1.node.full (by simp)
  have HM := Hid.hide (met_stub (w := wc) h r' pv mv cv d)
  have X := Hid.hide s
  have Z := Hid.hide hz
  clear s V Y i r c1 H hz he
  go_upto_region 3 with (first | (refine wpList_load_mid rfl 112 _ rfl g 0 rfl _ _ ae Tryz.underlying112 rfl way_size ?_) | (go_at_call 63; refine HM.out.mono ?_; rintro x E ⟨rfl, G⟩; have M : Hid (Below w.heap.size w E /\ E.heap[w.heap.size + 1]? = some (.cells #[.slice none 0 0, .nilIface, .string ⟨#[]⟩] 112 (0, 0))) := ⟨q.out.1.behind' (X.out.2.2.2.trans (G.mono X.out.2.2.2.size)), (G.block _ (Array.getElem?_eq_some_iff.1 Z.out).1).trans Z.out⟩; clear G))
  have ag : E.cell? ⟨10, 0, none⟩ = some (.iface 238 (.pointer (some (sent 12)))) := (Q.out.below M.out.1).var 12 (by decide)
  have ac : 10 < w.heap.size := Q.out.low (n := 12) (by decide)
  have aj : 10 < w.heap.size + 1 := by omega
  have ak : 10 ≠ w.heap.size + 1 := by omega
  have ah : w.heap.size + 1 ≠ 10 := by omega
  obtain ⟨z0, z1, z2⟩ := rowOf3 M.out.2
  obtain ⟨y0, y1, y2⟩ : E.frozen? ⟨w.heap.size + 1, 0, none⟩ = false /\ E.frozen? ⟨w.heap.size + 1, 1, none⟩ = false /\ E.frozen? ⟨w.heap.size + 1, 2, none⟩ = false := by
   have h := M.out.2
   refine ⟨?_, ?_, ?_⟩ <;> simp [World.frozen?, h]
  go_region
  go_wp2
  refine bodyPost_ret (v := .tuple #[.agg #[.slice none 0 0, .nilIface, .string ⟨#[]⟩], .iface 238 (.pointer (some (sent 12)))]) (by simp [results, Tryz.results44, go_sem, z0, z1, z2]) rfl ⟨rfl, ?_⟩
  exact (((M.out.1.setCell (p := ⟨w.heap.size + 1, 0, none⟩) (Nat.le_succ _) _).setCell (p := ⟨w.heap.size + 1, 1, none⟩) (Nat.le_succ _) _).setCell (p := ⟨w.heap.size + 1, 2, none⟩) (Nat.le_succ _) _).drew
theorem tgetW_any {B : Nat} {S : Wood} {w : World} {b : Nat} {t e : Nd} {K : Array Nat} {p r' : ByteArray} {l : List (Nd × ByteArray)} (hf : Forest B S w) (ht : TreeAt S w b t) (hK : K.size = 32) (hKb : Bytes K) (hp : textB (nibs K.toList) = p) (hfit : t.fits p.size) (hn : ∀ x ∈ bytesOf p, x < 16) (hps : p.size <= 64) (hT : WayTo t p l e r') (hs : ∀ g, e ≠ .stub g) {o : Option ByteArray} (hval : (o = none /\ ∀ u, e ≠ .leaf r' u) \/ ∃ u, o = some u /\ e = .leaf r' u) :
  Calls Tryz.prog 34 #[.pointer (some ⟨b, 0, none⟩), .agg (K.toList.map encB).toArray] w fun x w' => x = .returned (.tuple #[.string (o.getD ⟨#[]⟩), .bool o.isSome, .nilIface]) /\ Below w.heap.size w w' := by
 have c : Below w.heap.size w (w.alloc (.cells (K.toList.map encB).toArray 41)) := (Below.refl _ _).alloc (Nat.le_refl _) _
 have s : (w.alloc (.cells (K.toList.map encB).toArray 41)).rangeAt w.heap.size 0 (K.toList.map encB) := fun j u J => by
  rw [Nat.zero_add, World.cell?_alloc_new]
  simpa using J
 have C : (Tryz.prog.info? 41).map (·.size) = some (K.toList.map encB).length := by rw [size51]; simp [hK]
 have I := Hid.hide (tway_any (hf.below c) (ht.frame (Fr.of_below hf c)) hK hKb hp hfit hn (by omega) hT hs)
 have r : Hid (Forest B S w /\ Below w.heap.size w (w.alloc (.cells (K.toList.map encB).toArray 41)) /\ ((o = none /\ ∀ u, e ≠ .leaf r' u) \/ ∃ u, o = some u /\ e = .leaf r' u)) := ⟨hf, c, hval⟩
 obtain ⟨ov, i⟩ : ∃ ov, o.getD ⟨#[]⟩ = ov := ⟨_, rfl⟩
 obtain ⟨ob, h⟩ : ∃ ob, o.isSome = ob := ⟨_, rfl⟩
 have y : Hid (o.getD ⟨#[]⟩ = ov /\ o.isSome = ob) := ⟨i, h⟩
 rw [i, h]
 clear hf ht hK hKb hp hT hs hps hn hval c hfit i h
 go_enter Tryz.func34, Tryz.ntmps34
 go_wp2_with (first | (refine wpList_load_mid rfl 41 _ rfl w.heap.size 0 rfl _ _ s Tryz.underlying41 rfl C ?_) | (go_at_call 44; refine I.out.mono ?_; rintro x m ⟨n, N, L, rfl, a⟩; obtain ⟨F, E, z, rfl⟩ := a.shape; have D := a.node.shape; have d := r.out.2.1.behind' n; have f : ∀ o, Below w.heap.size w (m.alloc o) := (fun o => d.alloc d.size o); have H : Hid (∀ k, Calls Tryz.prog 51 #[.agg #[.slice F E z, L, .string r']] (m.alloc k) fun x w' => x = .returned (.tuple #[.string ov, .bool ob]) /\ Below (m.alloc k).heap.size (m.alloc k) w') := (fun k => by rw [<- y.out.1, <- y.out.2]; exact wvalue_any F E z (r.out.1.below (f k)) a.node r.out.2.2); have v := Hid.hide f; clear n a d f; rcases D with rfl | ⟨T2, a2, rfl⟩) | (go_at_call 51; refine (H.out _).mono ?_; rintro x M ⟨rfl, q⟩; have G : Hid (Below w.heap.size w M) := (v.out _).behind' q; clear q))
 all_goals go_ret3
 all_goals exact ⟨rfl, G.out⟩
theorem tget_stub {B : Nat} {S : Wood} {w : World} {b : Nat} {t : Nd} {h : List Nat} {K : Array Nat} {p r' : ByteArray} {l : List (Nd × ByteArray)} (sent : Nat -> Addr) (hFl : Faults w sent) (hf : Forest B S w) (ht : TreeAt S w b t) (hK : K.size = 32) (hKb : Bytes K) (hp : textB (nibs K.toList) = p) (hfit : t.fits p.size) (hn : ∀ x ∈ bytesOf p, x < 16) (hps : p.size <= 64) (hT : WayTo t p l (.stub h) r') :
  Calls Tryz.prog 34 #[.pointer (some ⟨b, 0, none⟩), .agg (K.toList.map encB).toArray] w fun x w' => x = .returned (.tuple #[.string ⟨#[]⟩, .bool false, (.iface 238 (.pointer (some (sent 12))))]) /\ Below w.heap.size w w' := by
 have a : Below w.heap.size w (w.alloc (.cells (K.toList.map encB).toArray 41)) := (Below.refl _ _).alloc (Nat.le_refl _) _
 have e : (w.alloc (.cells (K.toList.map encB).toArray 41)).rangeAt w.heap.size 0 (K.toList.map encB) := fun j u m => by
  rw [Nat.zero_add, World.cell?_alloc_new]
  simpa using m
 have f : (Tryz.prog.info? 41).map (·.size) = some (K.toList.map encB).length := by rw [size51]; simp [hK]
 have k : Hid (Calls Tryz.prog 44 #[.pointer (some ⟨b, 0, none⟩), .agg (K.toList.map encB).toArray] (w.alloc (.cells (K.toList.map encB).toArray 41)) fun x w' => x = .returned (.tuple #[.agg #[.slice none 0 0, .nilIface, .string ⟨#[]⟩], (.iface 238 (.pointer (some (sent 12))))]) /\ Below (w.alloc (.cells (K.toList.map encB).toArray 41)).heap.size (w.alloc (.cells (K.toList.map encB).toArray 41)) w') := tway_stub sent (hFl.below a) (hf.below a) (ht.frame (Fr.of_below hf a)) hK hKb hp hfit hn (by omega) hT
 have i := Hid.hide a
 clear hf ht hK hKb hp hfit hn hps hT a hFl
 go_enter Tryz.func34, Tryz.ntmps34
 go_wp2_with (first | (refine wpList_load_mid rfl 41 _ rfl w.heap.size 0 rfl _ _ e Tryz.underlying41 rfl f ?_) | (go_at_call 44; refine k.out.mono ?_; rintro x n ⟨rfl, d⟩; have c := i.out.behind' d; have g : Hid (∀ o, Below w.heap.size w (n.alloc o)) := (fun o => c.alloc c.size o); clear d c))
 go_ret3
 exact ⟨rfl, g.out _⟩
theorem xget_stub {B : Nat} {S : Wood} {w : World} {b : Nat} {t : Nd} {h : List Nat} {K : Array Nat} {p r' : ByteArray} {l : List (Nd × ByteArray)} (sent : Nat -> Addr) (hFl : Faults w sent) (hf : Forest B S w) (ht : TreeAt S w b t) (hK : K.size = 32) (hKb : Bytes K) (hp : textB (nibs K.toList) = p) (hfit : t.fits p.size) (hn : ∀ x ∈ bytesOf p, x < 16) (hps : p.size <= 64) (hT : WayTo t p l (.stub h) r') :
  Calls Tryz.prog 18 #[.pointer (some ⟨b, 0, none⟩), .agg (K.toList.map encB).toArray] w fun x w' => x = .returned (.tuple #[.string ⟨#[]⟩, .bool false, .int .i64 12]) /\ Below w.heap.size w w' := by
 have F := ht.lt
 have G : (Tryz.prog.info? 41).map (·.size) = some (K.toList.map encB).length := by rw [size51]; simp [hK]
 obtain ⟨W0, c⟩ : ∃ W0, w.alloc (.cells (K.toList.map encB).toArray 41) = W0 := ⟨_, rfl⟩
 have i : Below w.heap.size w W0 := by rw [<- c]; exact (Below.refl _ _).alloc (Nat.le_refl _) _
 have o : w.heap.size < W0.heap.size := by rw [<- c]; simp
 have g : W0.rangeAt w.heap.size 0 (K.toList.map encB) := fun j u C => by
  rw [<- c, Nat.zero_add, World.cell?_alloc_new]
  simpa using C
 have d : Below w.heap.size w W0.drew := i.drew
 have a := Fr.of_below hf d
 have v := Hid.hide (tget_stub sent (hFl.below d) a.forest (ht.frame a) hK hKb hp hfit hn hps hT)
 have r := Hid.hide d
 have s : Hid (∀ W, Below w.heap.size w W -> Calls Tryz.prog 30 #[(.iface 238 (.pointer (some (sent 12))))] W fun e w' => e = .returned (.int .i64 12) /\ Below W.heap.size W w') := fun W z => errno_any sent (.base 12) (by show 12 ∈ nums; decide) W (hFl.below z)
 have D := Tryz.underlying41
 clear hf ht hK hKb hp hfit hn hps hT i d a hFl
 go_enter Tryz.func18, Tryz.ntmps18
 go_upto_region 1 with fail
 clear c
 go_region_held3 (fun w' => w'.rangeAt w.heap.size 0 (K.toList.map encB)) (first | exact g | exact y )
  (first | (go_at_call 34; refine v.out.mono ?_; rintro x q ⟨rfl, f⟩; have y : q.rangeAt w.heap.size 0 (K.toList.map encB) := rangeAt_block g (f.block w.heap.size o); have m : Hid (Below w.heap.size w q) := r.out.behind' f; clear f))
 all_goals go_wp2_with (go_at_call 30; refine (s.out _ m.out).mono ?_; rintro x E ⟨rfl, k⟩; have n : Hid (Below w.heap.size w E) := m.out.behind' k; clear k)
 all_goals go_ret3
 all_goals exact ⟨rfl, n.out⟩
end Go.Proofs.YtlgajgjfjohodaaGreatDoor
