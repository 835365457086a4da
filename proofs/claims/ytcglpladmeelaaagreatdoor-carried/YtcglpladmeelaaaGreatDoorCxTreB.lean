/-
  Trees: what stands at a way's end (found, value); Get.
  Trees: the value at a way's end; Get.
  Trees: twigs.Get; Delete; what each call does to the map.
  Trees: Delete.
  Trees: twigs.Delete.
-/
import Derived.Test.YtcglpladmeelaaaGreatDoorCxTreA
import Derived.Test.YtcglpladmeelaaaGreatDoorCxPuG
namespace Go.Proofs.YtcglpladmeelaaaGreatDoor
open Go.RowKit
set_option maxRecDepth 100000
set_option maxHeartbeats 25600000
theorem taLeaf (p v : ByteArray) (a : Addr) (w : World) : (Instr.typeAssert (.iface (ndTy (.leaf p v)) (.pointer (some a))) 61 114 true).run Tryz.prog w = .ok (.tuple #[.pointer (some a), .bool true]) w := by kernel_rfl
theorem taNoLeaf (t : Nd) (ht : ∀ p v, t ≠ .leaf p v) (hn : t ≠ .no) (a : Addr) (w : World) : (Instr.typeAssert (.iface (ndTy t) (.pointer (some a))) 61 114 true).run Tryz.prog w = .ok (.tuple #[.pointer none, .bool false]) w := by
 cases t with
 | no => exact absurd rfl hn
 | leaf p v => exact absurd rfl (ht p v)
 | ext _ _ => kernel_rfl
 | br _ => kernel_rfl
 | stub _ => kernel_rfl
theorem taLeafNil (w : World) : (Instr.typeAssert .nilIface 61 114 true).run Tryz.prog w = .ok (.tuple #[.pointer none, .bool false]) w := by kernel_rfl
theorem found_no {B : Nat} {S : Wood} {w : World} {e : Nd} {v : Value} {r : ByteArray} (p : Option Addr) (m c : Nat) (hf : Forest B S w) (hv : ndV S v e) (hno : ∀ u, e ≠ .leaf r u) :
  Calls Tryz.prog 43 #[.agg #[.slice p m c, v, .string r]] w fun x w' => x = .returned (.pointer none) /\ Below w.heap.size w w' := by
 rcases hv with ⟨rfl, rfl⟩ | ⟨hne, b, rfl, hb⟩
 ·have d := taLeafNil
  clear hf hno
  go_enter Tryz.func43, Tryz.ntmps43
  go_upto_region 2 with fail
  go_quiet (fail)
  go_wp2
  go_ret
  exact ⟨rfl, Below.drewN ((Below.refl _ _).alloc (Nat.le_refl _) _) _⟩
 ·by_cases f : ∃ q u, e = .leaf q u
  ·obtain ⟨q, u, rfl⟩ := f
   have a : ¬ q = r := fun h => hno u (by rw [h])
   obtain ⟨j, k⟩ := leaf_cells hf hb
   have g := hf.lt hb
   have d := taLeaf q u
   have l := toList_ne' a
   have i : ¬ b = w.heap.size := by omega
   clear hf hb hno a hne
   rw [show ndTy (.leaf q u) = 114 from rfl] at *
   go_enter Tryz.func43, Tryz.ntmps43
   go_upto_region 2 with fail
   go_quiet (fail)
   go_wp2
   go_ret
   exact ⟨rfl, Below.drewN ((Below.refl _ _).alloc (Nat.le_refl _) _) _⟩
  ·have d := taNoLeaf e (fun q u h => f ⟨q, u, h⟩) hne
   clear hf hno hb f
   go_enter Tryz.func43, Tryz.ntmps43
   go_upto_region 2 with fail
   go_quiet (fail)
   go_wp2
   go_ret
   exact ⟨rfl, Below.drewN ((Below.refl _ _).alloc (Nat.le_refl _) _) _⟩
theorem found_yes {B : Nat} {S : Wood} {w : World} {b : Nat} {r u : ByteArray} (p : Option Addr) (m c : Nat) (hf : Forest B S w) (hb : S b = some (.leaf r u)) :
  Calls Tryz.prog 43 #[.agg #[.slice p m c, .iface 114 (.pointer (some ⟨b, 0, none⟩)), .string r]] w fun x w' => x = .returned (.pointer (some ⟨b, 0, none⟩)) /\ Below w.heap.size w w' := by
 obtain ⟨f, g⟩ := leaf_cells hf hb
 have d := hf.lt hb
 have a := taLeaf r u
 have e : ¬ b = w.heap.size := by omega
 clear hf hb
 rw [show ndTy (.leaf r u) = 114 from rfl] at a
 go_enter Tryz.func43, Tryz.ntmps43
 go_upto_region 2 with fail
 go_quiet (fail)
 go_wp2
 go_ret
 exact ⟨rfl, Below.drewN ((Below.refl _ _).alloc (Nat.le_refl _) _) _⟩
theorem wvalue_any {B : Nat} {S : Wood} {w : World} {e : Nd} {v : Value} {r : ByteArray} {o : Option ByteArray} (p : Option Addr) (m c : Nat) (hf : Forest B S w) (hv : ndV S v e) (ho : (o = none /\ ∀ u, e ≠ .leaf r u) \/ ∃ u, o = some u /\ e = .leaf r u) :
  Calls Tryz.prog 59 #[.agg #[.slice p m c, v, .string r]] w fun x w' => x = .returned (.tuple #[.string (o.getD ⟨#[]⟩), .bool o.isSome]) /\ Below w.heap.size w w' := by
 have b : Below w.heap.size w (w.alloc (.cells #[.slice p m c, v, .string r] 111)) := (Below.refl _ _).alloc (Nat.le_refl _) _
 have q := Hid.hide b
 rcases ho with ⟨rfl, hno⟩ | ⟨u, rfl, rfl⟩
 ·have l := Hid.hide (found_no p m c (hf.below b) hv hno)
  have t := hv.shape
  clear hf hv hno b
  rcases t with rfl | ⟨T, a, rfl⟩
  all_goals
   go_enter Tryz.func59, Tryz.ntmps59
   go_wp2_with fail
   refine l.out.mono ?_
   rintro x h ⟨rfl, f⟩
   have k : Hid (Below w.heap.size w h) := q.out.behind' f
   clear f
   go_wp2
   go_ret2
   exact ⟨rfl, k.out⟩
 ·obtain ⟨d, rfl, g⟩ := hv.full (by simp)
  have l := Hid.hide (found_yes p m c (hf.below b) g)
  have j := hf.ok d _ g
  rw [Nd.ok] at j
  have E := hf.lt g
  have z := fun W => Hid.hide (clone_any u W (by omega))
  obtain ⟨C, s⟩ := leaf_cells (hf.below b) g
  have n : d < (w.alloc (.cells #[.slice p m c, .iface (ndTy (.leaf r u)) (.pointer (some ⟨d, 0, none⟩)), .string r] 111)).heap.size := by simp; omega
  clear hf hv g b j
  rw [show ndTy (.leaf r u) = 114 from rfl] at *
  go_enter Tryz.func59, Tryz.ntmps59
  go_wp2_with fail
  refine l.out.mono ?_
  rintro x h ⟨rfl, f⟩
  have k : Hid (Below w.heap.size w h) := q.out.behind' f
  have F : h.cell? ⟨d, 2, none⟩ = some (.string u) := (f.cell (p := ⟨d, 2, none⟩) n).trans s
  clear f C s
  go_wp2_with fail
  refine (z h).out.mono ?_
  rintro x D ⟨rfl, i⟩
  have y : Hid (Below w.heap.size w D) := k.out.behind' i
  clear i
  go_wp2
  go_ret2
  exact ⟨rfl, y.out⟩
theorem nibs_nib (l : List Nat) (h : ∀ x ∈ l, x < 256) : nib (nibs l) := fun x hx => by
 unfold nibs at hx
 obtain ⟨a, ha, hx⟩ := List.mem_flatMap.1 hx
 have := h a ha
 simp only [List.mem_cons, List.not_mem_nil, or_false] at hx
 rcases hx with rfl | rfl <;> omega
theorem key_path {K : Array Nat} (hK : K.size = 32) (hb : Bytes K) : bytesOf (textB (nibs K.toList)) = nibs K.toList /\ nib (nibs K.toList) /\ (textB (nibs K.toList)).size = 64 := by
 have b : ∀ x ∈ K.toList, x < 256 := fun x a => by
  obtain ⟨j, d, rfl⟩ := List.getElem_of_mem a
  have := hb j
  rw [getElem!_pos K j (by simpa using d)] at this
  simpa using this
 have c := nibs_nib K.toList b
 exact ⟨bytesOf_textB fun x a => Nat.lt_trans (c x a) (by omega), c, by rw [textB_size, nibs_length]; simp [hK]⟩
theorem tget_any {B : Nat} {S : Wood} {w : World} {b : Nat} {t : Nd} {K : Array Nat} (hf : Forest B S w) (ht : TreeAt S w b t) (hc : t.can 64) (hK : K.size = 32) (hKb : Bytes K) {o : Option ByteArray} (ho : t.get (nibs K.toList) = o) :
  Calls Tryz.prog 41 #[.pointer (some ⟨b, 0, none⟩), .agg (K.toList.map encB).toArray] w fun x w' => x = .returned (.tuple #[.string (o.getD ⟨#[]⟩), .bool o.isSome, .nilIface]) /\ Below w.heap.size w w' := by
 obtain ⟨n, q, a⟩ := key_path hK hKb
 obtain ⟨p, H⟩ : ∃ p, textB (nibs K.toList) = p := ⟨_, rfl⟩
 rw [H] at n a
 rw [<- n] at q ho
 obtain ⟨l, e, v, F, Y⟩ := way_ex 64 t p (by omega) (by rw [a]; exact hc)
 obtain ⟨O, G, D, _⟩ := way_get F (by rw [a]; exact hc)
 have r : (o = none /\ ∀ u, e ≠ .leaf v u) \/ ∃ u, o = some u /\ e = .leaf v u := by
  rw [<- ho, O]
  rcases end_get G D with h | ⟨u, h1, h2⟩
  ·refine .inl ⟨h, fun u J => ?_⟩
   rw [J, get_leaf, if_pos rfl] at h
   cases h
  ·exact .inr ⟨u, h2, h1⟩
 have d : Below w.heap.size w (w.alloc (.cells (K.toList.map encB).toArray 43)) := (Below.refl _ _).alloc (Nat.le_refl _) _
 have I : (w.alloc (.cells (K.toList.map encB).toArray 43)).rangeAt w.heap.size 0 (K.toList.map encB) := fun j u J => by
  rw [Nat.zero_add, World.cell?_alloc_new]
  simpa using J
 have P : (Tryz.prog.info? 43).map (·.size) = some (K.toList.map encB).length := by rw [size51]; simp [hK]
 obtain ⟨Q, i⟩ := Nd.can_ok t 64 hc (Nat.le_refl _)
 have X := Hid.hide (tway_any (hf.below d) (ht.frame (Fr.of_below hf d)) hK hKb H (by rw [a]; exact i) q (by omega) F (can_stub G))
 have E : Hid (Forest B S w /\ Below w.heap.size w (w.alloc (.cells (K.toList.map encB).toArray 43)) /\ ((o = none /\ ∀ u, e ≠ .leaf v u) \/ ∃ u, o = some u /\ e = .leaf v u)) := ⟨hf, d, r⟩
 obtain ⟨ov, m⟩ : ∃ ov, o.getD ⟨#[]⟩ = ov := ⟨_, rfl⟩
 obtain ⟨ob, k⟩ : ∃ ob, o.isSome = ob := ⟨_, rfl⟩
 have M : Hid (o.getD ⟨#[]⟩ = ov /\ o.isSome = ob) := ⟨m, k⟩
 rw [m, k]
 clear hf ht hc hK hKb ho n q H a F Y O G D r d Q i m k
 go_enter Tryz.func41, Tryz.ntmps41
 go_wp2_with (first | (refine wpList_load_mid rfl 43 _ rfl w.heap.size 0 rfl _ _ I Tryz.underlying43 rfl P ?_) | (go_at_call 42; refine X.out.mono ?_; rintro x y ⟨z, aa, Z, rfl, c⟩; obtain ⟨U, T, N, rfl⟩ := c.shape; have R := c.node.shape; have f := E.out.2.1.behind' z; have g : ∀ o, Below w.heap.size w (y.alloc o) := (fun o => f.alloc f.size o); have W : Hid (∀ s, Calls Tryz.prog 59 #[.agg #[.slice U T N, Z, .string v]] (y.alloc s) fun x w' => x = .returned (.tuple #[.string ov, .bool ob]) /\ Below (y.alloc s).heap.size (y.alloc s) w') := (fun s => by rw [<- M.out.1, <- M.out.2]; exact wvalue_any U T N (E.out.1.below (g s)) c.node E.out.2.2); have L := Hid.hide g; clear z c f g; rcases R with rfl | ⟨T2, a2, rfl⟩) | (go_at_call 59; refine (W.out _).mono ?_; rintro x w3 ⟨rfl, C⟩; have V : Hid (Below w.heap.size w w3) := (L.out _).behind' C; clear C))
 all_goals go_ret3
 all_goals exact ⟨rfl, V.out⟩
theorem map_put {B : Nat} {S : Wood} {w : World} {b : Nat} {t : Nd} {K : Array Nat} {u : ByteArray} (hf : Forest B S w) (ht : TreeAt S w b t) (hc : t.can 64) (hK : K.size = 32) (hKb : Bytes K) (hu0 : 0 < u.size) (hu1 : u.size <= 100) :
  Calls Tryz.prog 17 #[.pointer (some ⟨b, 0, none⟩), .agg (K.toList.map encB).toArray, .string u] w fun x w' => x = .returned (.int .i64 0) /\ ∃ S' t', TreeAt S' w' b t' /\ t'.can 64 /\ (∀ s, s.length = 64 -> t'.get s = if s = nibs K.toList then some u else t.get s) /\ FrX B (· = b) S S' w w' := by
 obtain ⟨d, n, a⟩ := key_path hK hKb
 obtain ⟨p, m⟩ : ∃ p, textB (nibs K.toList) = p := ⟨_, rfl⟩
 rw [m] at d a
 have f : nib (bytesOf p) := by rw [d]; exact n
 have h : t.can p.size := by rw [a]; exact hc
 obtain ⟨l, e, E, j, D⟩ := way_ex 64 t p (by omega) h
 obtain ⟨q, i⟩ := Nd.can_ok t 64 hc (Nat.le_refl _)
 obtain ⟨g, v, y, z, C⟩ := put_all j u hu0 hu1 h f (by omega)
 refine (xput_any hf ht q hK hKb m (by rw [a]; exact i) f (by omega) j C ⟨z, y⟩ hu0 hu1 (by omega) v).mono ?_
 rintro x w' ⟨rfl, S', o, k⟩
 have c := g.can
 rw [a] at c
 refine ⟨rfl, S', _, o, c, fun s r => ?_, k⟩
 rw [<- d]
 exact g.get s (by rw [a]; exact r)
theorem tdel_no {B : Nat} {S : Wood} {w : World} {b : Nat} {t : Nd} {K : Array Nat} (hf : Forest B S w) (ht : TreeAt S w b t) (hc : t.can 64) (hK : K.size = 32) (hKb : Bytes K) (ho : t.get (nibs K.toList) = none) :
  Calls Tryz.prog 29 #[.pointer (some ⟨b, 0, none⟩), .agg (K.toList.map encB).toArray] w fun x w' => x = .returned (.tuple #[.bool false, .nilIface]) /\ Below w.heap.size w w' := by
 obtain ⟨i, k, a⟩ := key_path hK hKb
 obtain ⟨p, z⟩ : ∃ p, textB (nibs K.toList) = p := ⟨_, rfl⟩
 rw [z] at i a
 rw [<- i] at k ho
 obtain ⟨l, e, E, y, U⟩ := way_ex 64 t p (by omega) (by rw [a]; exact hc)
 obtain ⟨I, H, J, _⟩ := way_get y (by rw [a]; exact hc)
 have s : ∀ u, e ≠ .leaf E u := fun u D => by
  rw [I, D, get_leaf, if_pos rfl] at ho
  cases ho
 have d : Below w.heap.size w (w.alloc (.cells (K.toList.map encB).toArray 43)) := (Below.refl _ _).alloc (Nat.le_refl _) _
 have C : (w.alloc (.cells (K.toList.map encB).toArray 43)).rangeAt w.heap.size 0 (K.toList.map encB) := fun j u D => by
  rw [Nat.zero_add, World.cell?_alloc_new]
  simpa using D
 have L : (Tryz.prog.info? 43).map (·.size) = some (K.toList.map encB).length := by rw [size51]; simp [hK]
 obtain ⟨M, h⟩ := Nd.can_ok t 64 hc (Nat.le_refl _)
 have T := Hid.hide (tway_any (hf.below d) (ht.frame (Fr.of_below hf d)) hK hKb z (by rw [a]; exact h) k (by omega) y (can_stub H))
 have v : Hid (Forest B S w /\ Below w.heap.size w (w.alloc (.cells (K.toList.map encB).toArray 43)) /\ ∀ u, e ≠ .leaf E u) := ⟨hf, d, s⟩
 clear hf ht hc hK hKb ho i k z a y U I H J s d M h
 go_enter Tryz.func29, Tryz.ntmps29
 go_wp2_with (first | (refine wpList_load_mid rfl 43 _ rfl w.heap.size 0 rfl _ _ C Tryz.underlying43 rfl L ?_) | (go_at_call 42; refine T.out.mono ?_; rintro x n ⟨q, X, V, rfl, c⟩; obtain ⟨P, O, G, rfl⟩ := c.shape; have N := c.node.shape; have f := v.out.2.1.behind' q; have g : ∀ o, Below w.heap.size w (n.alloc o) := (fun o => f.alloc f.size o); have R : Hid (∀ m, Calls Tryz.prog 43 #[.agg #[.slice P O G, V, .string E]] (n.alloc m) fun x w' => x = .returned (.pointer none) /\ Below (n.alloc m).heap.size (n.alloc m) w') := (fun m => found_no P O G (v.out.1.below (g m)) c.node v.out.2.2); have F := Hid.hide g; clear q c f g; rcases N with rfl | ⟨T2, a2, rfl⟩) | (go_at_call 43; refine (R.out _).mono ?_; rintro x W ⟨rfl, r⟩; have Q : Hid (Below w.heap.size w W) := (F.out _).behind' r; clear r))
 all_goals go_ret2
 all_goals exact ⟨rfl, Q.out⟩
theorem tdel_pre {B : Nat} {S : Wood} {w w2 w3 : World} {b : Nat} {t e : Nd} {r' : ByteArray} {l : List (Nd × ByteArray)} {pv : Option Addr} {mv cv : Nat} {v : Value} (hf : Forest B S w) (ht : TreeAt S w b t) (hb2 : Below w.heap.size w w2) (hF2 : Followed S w.heap.size w2 l e (.slice pv mv cv) v) (hok : endOK l .no) (hl : l.length <= 1000) (hb3 : Below (w2.alloc (.cells #[.slice pv mv cv, v, .string r'] 111)).heap.size (w2.alloc (.cells #[.slice pv mv cv, v, .string r'] 111)) w3) :
  (w3.cell? ⟨w2.heap.size, 0, none⟩ = some (.slice pv mv cv) /\ w3.cell? ⟨w2.heap.size, 1, none⟩ = some v /\ w3.cell? ⟨w2.heap.size, 2, none⟩ = some (.string r')) /\ Calls Tryz.prog 44 #[.pointer (some ⟨b, 0, none⟩), .agg #[.slice pv mv cv, v, .string r'], .nilIface] w3 fun x w' => x = .returned .nilIface /\ ∃ S', TreeAt S' w' b (endN l .no) /\ FrX B (· = b) S S' w w' := by
 have f : Below w.heap.size w w3 := (hb2.alloc hb2.size _).behind' hb3
 have n : w3.heap[w2.heap.size]? = some (.cells #[.slice pv mv cv, v, .string r'] 111 (0, 0)) := (hb3.block _ (by simp)).trans (World.alloc_heap_new w2 _)
 have d : Below w2.heap.size w2 w3 := ((Below.refl _ _).alloc (Nat.le_refl _) _).behind' hb3
 have c := hF2.keep d
 obtain ⟨p, g, h⟩ := c.row
 have a := Fr.of_below hf f
 refine ⟨rowOf3 n, (change_any a.forest (ht.frame a) g h (fun k o => hf.fresh (g.block k o).1) c.node.shape (.inl ⟨rfl, rfl⟩) hl hok).mono ?_⟩
 rintro x q ⟨rfl, i, j, m⟩
 exact ⟨rfl, i, j, (a.x _).trans m⟩
theorem tdel_yes {B : Nat} {S : Wood} {w : World} {b : Nat} {t : Nd} {K : Array Nat} {u : ByteArray} (hf : Forest B S w) (ht : TreeAt S w b t) (hc : t.can 64) (hK : K.size = 32) (hKb : Bytes K) (ho : t.get (nibs K.toList) = some u) :
  Calls Tryz.prog 29 #[.pointer (some ⟨b, 0, none⟩), .agg (K.toList.map encB).toArray] w fun x w' => x = .returned (.tuple #[.bool true, .nilIface]) /\ ∃ S' t', TreeAt S' w' b t' /\ t'.can 64 /\ (∀ s, s.length = 64 -> t'.get s = if s = nibs K.toList then none else t.get s) /\ FrX B (· = b) S S' w w' := by
 obtain ⟨m, n, a⟩ := key_path hK hKb
 obtain ⟨p, R⟩ : ∃ p, textB (nibs K.toList) = p := ⟨_, rfl⟩
 rw [R] at m a
 rw [<- m] at n ho
 have i : t.can p.size := by rw [a]; exact hc
 obtain ⟨l, e, q, D, hl⟩ := way_ex 64 t p (by omega) i
 obtain ⟨hg, Q, L, _⟩ := way_get D i
 obtain ⟨v, rfl⟩ : ∃ v, e = .leaf q v := by
  rcases end_get Q L with h | ⟨v, h1, _⟩
  ·rw [hg, h] at ho; cases ho
  ·exact ⟨v, h1⟩
 obtain ⟨P, F⟩ := del_all D v rfl i n (by omega)
 have y := P.can
 have k := P.get
 rw [a] at y k
 rw [m] at k
 have g : Below w.heap.size w (w.alloc (.cells (K.toList.map encB).toArray 43)) := (Below.refl _ _).alloc (Nat.le_refl _) _
 have T : (w.alloc (.cells (K.toList.map encB).toArray 43)).rangeAt w.heap.size 0 (K.toList.map encB) := fun j u hu => by
  rw [Nat.zero_add, World.cell?_alloc_new]
  simpa using hu
 have aa : (Tryz.prog.info? 43).map (·.size) = some (K.toList.map encB).length := by rw [size51]; simp [hK]
 obtain ⟨ab, r⟩ := Nd.can_ok t 64 hc (Nat.le_refl _)
 have HW := Hid.hide (tway_any (hf.below g) (ht.frame (Fr.of_below hf g)) hK hKb R (by rw [a]; exact r) n (by omega) D (can_stub Q))
 have o : Hid (Forest B S w /\ Below w.heap.size w (w.alloc (.cells (K.toList.map encB).toArray 43)) /\ TreeAt S w b t /\ endOK l .no /\ l.length <= 1000) := ⟨hf, g, ht, F, by omega⟩
 have Y : Hid ((endN l .no).can 64 /\ ∀ s, s.length = 64 -> (endN l .no).get s = if s = nibs K.toList then none else t.get s) := ⟨y, k⟩
 clear hf ht hc hK hKb ho m n R a D hl hg Q L g ab r P F y k i
 go_enter Tryz.func29, Tryz.ntmps29
 go_wp2_with (first | (refine wpList_load_mid rfl 43 _ rfl w.heap.size 0 rfl _ _ T Tryz.underlying43 rfl aa ?_) | (go_at_call 42; refine HW.out.mono ?_; rintro x C ⟨G, ac, v2, rfl, f⟩; obtain ⟨V, U, O, rfl⟩ := f.shape; have c := o.out.2.1.behind' G; obtain ⟨d, rfl, Z⟩ := f.node.full (by simp); have HV : Hid (∀ z, Calls Tryz.prog 43 #[.agg #[.slice V U O, .iface (ndTy (.leaf q v)) (.pointer (some ⟨d, 0, none⟩)), .string q]] (C.alloc z) fun x w' => x = .returned (.pointer (some ⟨d, 0, none⟩)) /\ Below (C.alloc z).heap.size (C.alloc z) w') := (fun z => found_yes V U O (o.out.1.below (c.alloc c.size z)) Z); have E : Hid (Below w.heap.size w C /\ Followed S w.heap.size C l (.leaf q v) (.slice V U O) (.iface (ndTy (.leaf q v)) (.pointer (some ⟨d, 0, none⟩)))) := ⟨c, f.mono (by simp)⟩; clear G f c Z; rw [show ndTy (.leaf q v) = 114 from rfl] at *) | (go_at_call 43; refine (HV.out _).mono ?_; rintro x w3 ⟨rfl, H⟩; obtain ⟨⟨e0, e1, e2⟩, I⟩ := tdel_pre o.out.1 o.out.2.2.1 E.out.1 E.out.2 o.out.2.2.2.1 o.out.2.2.2.2 H; have W := Hid.hide I; clear H I) | (go_at_call 44; refine W.out.mono ?_; rintro x w4 ⟨rfl, N, M, J⟩; have X : Hid (TreeAt N w4 b (endN l .no) /\ FrX B (· = b) S N w w4) := ⟨M, J⟩; clear M J))
 all_goals go_ret2
 all_goals exact ⟨rfl, N, _, X.out.1, Y.out.1, Y.out.2, X.out.2⟩
theorem map_del {B : Nat} {S : Wood} {w : World} {b : Nat} {t : Nd} {K : Array Nat} (hf : Forest B S w) (ht : TreeAt S w b t) (hc : t.can 64) (hK : K.size = 32) (hKb : Bytes K) {o : Option ByteArray} (ho : t.get (nibs K.toList) = o) :
  Calls Tryz.prog 16 #[.pointer (some ⟨b, 0, none⟩), .agg (K.toList.map encB).toArray] w fun x w' => x = .returned (.tuple #[.bool o.isSome, .int .i64 0]) /\ ∃ S' t', TreeAt S' w' b t' /\ t'.can 64 /\ (∀ s, s.length = 64 -> t'.get s = if s = nibs K.toList then none else t.get s) /\ FrX B (· = b) S S' w w' := by
 have G := ht.lt
 have H : (Tryz.prog.info? 43).map (·.size) = some (K.toList.map encB).length := by rw [size51]; simp [hK]
 obtain ⟨W0, c⟩ : ∃ W0, w.alloc (.cells (K.toList.map encB).toArray 43) = W0 := ⟨_, rfl⟩
 have k : Below w.heap.size w W0 := by rw [<- c]; exact (Below.refl _ _).alloc (Nat.le_refl _) _
 have y : w.heap.size < W0.heap.size := by rw [<- c]; simp
 have f : W0.rangeAt w.heap.size 0 (K.toList.map encB) := fun j u E => by
  rw [<- c, Nat.zero_add, World.cell?_alloc_new]
  simpa using E
 have m : Below w.heap.size w W0.drew := k.drew
 have a := Fr.of_below hf m
 obtain ⟨ob, e⟩ : ∃ ob, o.isSome = ob := ⟨_, rfl⟩
 have C : Hid (Calls Tryz.prog 29 #[.pointer (some ⟨b, 0, none⟩), .agg (K.toList.map encB).toArray] W0.drew fun x w' => x = .returned (.tuple #[.bool ob, .nilIface]) /\ ∃ S' t', TreeAt S' w' b t' /\ t'.can 64 /\ (∀ s, s.length = 64 -> t'.get s = if s = nibs K.toList then none else t.get s) /\ FrX B (· = b) S S' W0.drew w') := by
  rw [<- e]
  cases o with
  | some u => exact tdel_yes a.forest (ht.frame a) hc hK hKb ho
  | none =>
   refine (tdel_no a.forest (ht.frame a) hc hK hKb ho).mono ?_
   rintro x i ⟨rfl, l⟩
   refine ⟨rfl, S, t, (ht.frame a).frame (Fr.of_below a.forest l), hc, fun s _ => ?_, (Fr.of_below a.forest l).x _⟩
   by_cases h : s = nibs K.toList
   ·rw [if_pos h, h, ho]
   ·rw [if_neg h]
 have v : Hid (Fr B S S w W0.drew /\ S w.heap.size = none) := ⟨a, hf.fresh (Nat.le_refl _)⟩
 have F := Tryz.underlying43
 rw [e]
 clear hf ht hc hK hKb ho k m a e
 go_enter Tryz.func16, Tryz.ntmps16
 go_upto_region 1 with fail
 clear c
 go_region_held3 (fun w' => w'.rangeAt w.heap.size 0 (K.toList.map encB)) (first | exact f | exact D )
  (first | (go_at_call 29; refine C.out.mono ?_; rintro x i ⟨rfl, r, g, q, n, p, d⟩; have D : i.rangeAt w.heap.size 0 (K.toList.map encB) := rangeAt_block f (d.other w.heap.size y v.out.2 (by show ¬ w.heap.size = b; omega)); have z : Hid (TreeAt r i b g /\ g.can 64 /\ (∀ s, s.length = 64 -> g.get s = if s = nibs K.toList then none else t.get s) /\ FrX B (· = b) S r w i) := ⟨q, n, p, (v.out.1.x _).trans d⟩; clear q n p d))
 all_goals go_wp2_with (go_at_call 30; refine (errno_nil _).mono ?_; rintro x I ⟨rfl, rfl⟩)
 all_goals go_ret2
 all_goals exact ⟨rfl, r, g, z.out⟩
end Go.Proofs.YtcglpladmeelaaaGreatDoor
