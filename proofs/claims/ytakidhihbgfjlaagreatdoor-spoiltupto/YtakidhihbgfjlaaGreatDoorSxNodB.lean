/-
  Nodes are made: with, fork, under.
-/
import Derived.Test.YtakidhihbgfjlaaGreatDoorSxNodA
import Derived.Test.YtakidhihbgfjlaaGreatDoorSxBarG
import Derived.Stop.Asserts
namespace Go.Proofs.YtakidhihbgfjlaaGreatDoor
open Go.RowKit
set_option maxRecDepth 100000
set_option maxHeartbeats 25600000
variable {w : World} {b : Nat} {cs : List Value}
theorem Qa2 {t : TypeId} {fz : Nat × Nat} (h : w.heap[b]? = some (.cells cs.toArray t fz)) (o : Nat) (u : Value) : (w.setCell ⟨b, o, none⟩ u).heap[b]? = some (.cells (cs.set o u).toArray t fz) := by
 unfold World.setCell
 simp only [Array.getElem?_modify, h]
 simp
theorem Qcl {b : Nat} {t : TypeId} {fz : Nat × Nat} : ∀ (vs pre olds post : List Value) (w : World), olds.length = vs.length -> w.heap[b]? = some (.cells (pre ++ olds ++ post).toArray t fz) -> (w.setCells b pre.length vs).heap[b]? = some (.cells (pre ++ vs ++ post).toArray t fz)
 | [], pre, olds, post, w, h, hb => by
  obtain rfl : olds = [] := List.eq_nil_of_length_eq_zero (by simpa using h)
  exact hb
 | v :: vs, pre, [], post, w, h, hb => by simp at h
 | v :: vs, pre, x :: olds, post, w, h, hb => by
  have h1 := Qa2 hb pre.length v
  have e1 : (pre ++ x :: olds ++ post).set pre.length v = (pre ++ [v]) ++ olds ++ post := by simp
  rw [e1] at h1
  have h2 := Qcl vs (pre ++ [v]) olds post (w.setCell ⟨b, pre.length, none⟩ v) (by simpa using h) h1
  rw [World.setCells]
  have e2 : (pre ++ [v]).length = pre.length + 1 := by simp
  rw [e2] at h2
  simpa using h2
variable {t : Nd} {B c : Nat} {S : Wood}
theorem Fr.fresh {Y : World} (hf : Forest B S w) (hb : Below w.heap.size w Y) (hc : w.heap.size <= c) {h : ByteArray} {r : List Value} (hh : heldOK t h) (hr : NdRest S t r) (ht : t.ok) (hY : Y.heap[c]? = some (.cells (.string h :: r).toArray (ndObj t) (0, 0))) : Fr B S (S.put c t) w Y := by
 have d : ∀ b u, S b = some u -> S.put c t b = some u := fun b u hb => by
  have := hf.lt hb
  rw [Wood.put_other _ _ _ (by omega)]
  exact hb
 have f := hf.le
 refine ⟨hb.os, hb.tape, hb.output, hb.size, fun k a _ => hb.block k a, ⟨fun k u a => ?_, fun k u a => ?_, fun k u a => ?_, Nat.le_trans f hb.size⟩, d, fun k a h => by rw [Wood.put_other _ _ _ (by omega)]; exact h, fun k u a j _ => hb.cell (p := ⟨k, j, none⟩) (hf.lt a)⟩
 ·by_cases e : k = c
  ·subst e
   rw [Wood.put_same] at a
   obtain rfl := Option.some.inj a
   exact ⟨h, r, hh, hr.sub d, hY⟩
  ·rw [Wood.put_other _ _ _ e] at a
   obtain ⟨g, n, i, l, m⟩ := hf.node k u a
   exact ⟨g, n, i, l.sub d, (hb.block k (hf.lt a)).trans m⟩
 ·by_cases e : k = c
  ·subst e
   rw [Wood.put_same] at a
   obtain rfl := Option.some.inj a
   exact ht
  ·rw [Wood.put_other _ _ _ e] at a
   exact hf.ok k u a
 ·by_cases e : k = c
  ·omega
  ·rw [Wood.put_other _ _ _ e] at a
   exact hf.low k u a
theorem heldOK.empty (h : ∀ x, t ≠ .stub x) : heldOK t ⟨#[]⟩ := .inr ⟨rfl, h⟩
variable {v : Value}
theorem ndV.shape (h : ndV S v t) : v = .nilIface \/ ∃ T a, v = .iface T (.pointer (some a)) := by
 rcases h with ⟨_, rfl⟩ | ⟨_, b, rfl, _⟩
 ·exact .inl rfl
 ·exact .inr ⟨_, _, rfl⟩
theorem ndV.one (h : ndV S v t) : v.oneCell' = true := by
 rcases h.shape with rfl | ⟨T, a, rfl⟩ <;> rfl
def Kids (S : Wood) (r : List Value) (ks : List Nd) : Prop := r.length = 16 /\ ks.length = 16 /\ ∀ i (h1 : i < r.length) (h2 : i < ks.length), ndV S r[i] ks[i]
theorem Kids.set {S : Wood} {r : List Value} {ks : List Nd} (h : Kids S r ks) (n : Nat) {v : Value} {t : Nd} (hv : ndV S v t) : Kids S (r.set n v) (ks.set n t) := by
 refine ⟨by simp [h.1], by simp [h.2.1], fun i a b => ?_⟩
 rw [List.getElem_set, List.getElem_set]
 split
 ·exact hv
 ·exact h.2.2 i (by simpa using a) (by simpa using b)
theorem Kids.one {S : Wood} {r : List Value} {ks : List Nd} (h : Kids S r ks) : ∀ u ∈ r, u.oneCell' = true := fun u hu => by
 obtain ⟨i, hi, rfl⟩ := List.getElem_of_mem hu
 exact (h.2.2 i hi (by have := h.1; have := h.2.1; omega)).one
def z17 : List Value := [.string ⟨#[]⟩, .nilIface, .nilIface, .nilIface, .nilIface, .nilIface, .nilIface, .nilIface, .nilIface, .nilIface, .nilIface, .nilIface, .nilIface, .nilIface, .nilIface, .nilIface, .nilIface]
theorem QDj (r : List Value) (h : r.length = 16) : ∃ a0 a1 a2 a3 a4 a5 a6 a7 a8 a9 a10 a11 a12 a13 a14 a15, r = [a0, a1, a2, a3, a4, a5, a6, a7, a8, a9, a10, a11, a12, a13, a14, a15] := by
 match r, h with
 | [a0, a1, a2, a3, a4, a5, a6, a7, a8, a9, a10, a11, a12, a13, a14, a15], _ => exact ⟨_, _, _, _, _, _, _, _, _, _, _, _, _, _, _, _, rfl⟩
variable {w1 : World} {n : Nat}
theorem Qtt {r : List Value} {t : TypeId} {h : Value} (hw : w1.heap[c]? = some (.cells (h :: r).toArray t (0, 0))) (hn : n < r.length) (_ : True) : w1.cell? ⟨c, 1 + n, none⟩ = some r[n] := by
 simp [World.cell?, hw, Nat.add_comm 1 n, hn]
theorem Qtu {r : List Value} {t : TypeId} {h : Value} (hw : w1.heap[c]? = some (.cells (h :: r).toArray t (0, 0))) (_ : True) : w1.frozen? ⟨c, 1 + n, none⟩ = false := by
 simp [World.frozen?, hw]
variable {ks : List Nd}
theorem Qxa {r : List Value} (hf : Forest B S w) (hv : ndV S v t) (hk : Kids S r ks) (hok : (Nd.br (ks.set n t)).ok) (hw : w1.heap[w.heap.size]? = some (.cells (.string ⟨#[]⟩ :: r).toArray 235 (0, 0))) (hb : Below w.heap.size w w1) : Fr B S (S.put w.heap.size (.br (ks.set n t))) w (w1.setCell ⟨w.heap.size, 1 + n, none⟩ v) := by
 have b := Qa2 hw (1 + n) v
 rw [Nat.add_comm 1 n, List.set_cons_succ] at b
 have a := hk.set n hv
 refine Fr.fresh (r := r.set n v) hf (hb.setCell (p := ⟨w.heap.size, 1 + n, none⟩) (Nat.le_refl _) _) (Nat.le_refl _) (heldOK.empty (by simp)) ⟨a.1, a.2.2⟩ hok ?_
 rw [Nat.add_comm 1 n]
 exact b
theorem Qkz {r : List Value} (hf : Forest B S w) (rg : w.rangeAt b 1 r) (hk : Kids S r ks) (hn : n < 16) (hv : ndV S v t) (hok : (Nd.br (ks.set n t)).ok) :
  Calls Tryz.prog 153 #[.pointer (some ⟨b, 0, none⟩), .int .u8 (n : Int), v] w fun e w' => ∃ c, e = .returned (.pointer (some ⟨c, 0, none⟩)) /\ w.heap.size <= c /\ Fr B S (S.put c (.br (ks.set n t))) w w' := by
 obtain ⟨k, l, m, o, p, q, s, x, y, z, d, f, g, h, i, j, I⟩ := QDj r hk.1
 have L : (Tryz.prog.info? 233).map (·.size) = some [k, l, m, o, p, q, s, x, y, z, d, f, g, h, i, j].length := by kernel_rfl
 rw [I] at rg
 have D : (#[.string ⟨#[]⟩, k, l, m, o, p, q, s, x, y, z, d, f, g, h, i, j] : Array Value) = (Value.string ⟨#[]⟩ :: r).toArray := by rw [I]
 have E : (#[.string ⟨#[]⟩, k, l, m, o, p, q, s, x, y, z, d, f, g, h, i, j] : Array Value).all (·.oneCell') = true := by
  rw [D]
  refine all_oneCell_toArray fun u J => ?_
  rcases List.mem_cons.1 J with rfl | J
  ·rfl
  ·exact hk.one u J
 have F : (Tryz.prog.info? 235).map (·.size) = some (#[.string ⟨#[]⟩, k, l, m, o, p, q, s, x, y, z, d, f, g, h, i, j] : Array Value).size := by kernel_rfl
 have R : (n : Int) < 16 := by omega
 have G : (w.alloc (.cells z17.toArray 235)).there w.heap.size 0 (#[.string ⟨#[]⟩, k, l, m, o, p, q, s, x, y, z, d, f, g, h, i, j] : Array Value).size := Qac _ _ _ _ rfl
 have H : Hid (((w.alloc (.cells z17.toArray 235)).setCells w.heap.size 0 (#[.string ⟨#[]⟩, k, l, m, o, p, q, s, x, y, z, d, f, g, h, i, j] : Array Value).toList).heap[w.heap.size]? = some (.cells (.string ⟨#[]⟩ :: r).toArray 235 (0, 0)) /\ Below w.heap.size w ((w.alloc (.cells z17.toArray 235)).setCells w.heap.size 0 (#[.string ⟨#[]⟩, k, l, m, o, p, q, s, x, y, z, d, f, g, h, i, j] : Array Value).toList)) := by
  refine ⟨?_, Qau ((Below.refl _ _).alloc (Nat.le_refl _) _) (Nat.le_refl _) _ _⟩
  rw [D]
  have := Qcl (b := w.heap.size) (t := 235) (fz := (0, 0)) (.string ⟨#[]⟩ :: r) [] z17 [] (w.alloc (.cells z17.toArray 235)) (by simp [hk.1, z17]) (by
   show (w.heap.push _)[w.heap.size]? = some _
   rw [Array.getElem?_push_size]
   rfl)
  simpa using this
 simp only [z17] at G H
 have Q := Hq hv
 have K := Hq hk
 have N := Hq hf
 have P := Hq hok
 have M := hv.shape
 have O := Hq hn
 clear D hv hk hf hok I hn
 rcases M with rfl | ⟨T, a, rfl⟩
 all_goals go_enter Tryz.func153, Tryz.ntmps153
 all_goals go_wp2_with (first | (refine wpList_load_mid rfl 233 _ rfl b 1 rfl _ _ rg Tryz.underlying233 rfl L ?_) | (refine wpList_store_mid rfl 235 _ _ rfl w.heap.size 0 #[.string ⟨#[]⟩, k, l, m, o, p, q, s, x, y, z, d, f, g, h, i, j] rfl rfl G F E ?_; generalize hX : World.setCells _ w.heap.size 0 _ = w1; have C : Hid (w1.heap[w.heap.size]? = some (.cells (.string ⟨#[]⟩ :: r).toArray 235 (0, 0)) /\ Below w.heap.size w w1) := hX ▸ H.out; have U : w1.cell? ⟨w.heap.size, 1 + n, none⟩ = some (r[n]'(by have := K.out.1; have := O.out; omega)) := Qtt C.out.1 _ trivial; have V : w1.frozen? ⟨w.heap.size, 1 + n, none⟩ = false := Qtu C.out.1 trivial; clear hX H G E F))
 all_goals
  go_ret
  refine ⟨w.heap.size, rfl, Nat.le_refl _, ?_⟩
  exact Qxa N.out Q.out K.out P.out C.out.1 C.out.2
theorem Below.drewN {B : Nat} {a w : World} (h : Below B a w) (n : Nat) : Below B a (w.drewN n) := ⟨h.os, h.tape, h.output, h.size, h.block⟩
def comm : List Nat -> List Nat -> Nat
 | x :: a, y :: b => if x = y then comm a b + 1 else 0
 | _, _ => 0
theorem Ql0 : ∀ (n : Nat) (a b : List Nat), a.take n = b.take n -> n <= a.length -> n <= b.length -> (n = a.length \/ n = b.length \/ a[n]? ≠ b[n]?) -> comm a b = n
 | 0, [], b, _, _, _, _ => by cases b <;> rfl
 | 0, x :: a, [], _, _, _, _ => rfl
 | 0, x :: a, y :: b, _, _, _, h => by
  rw [comm, if_neg]
  rcases h with h | h | h
  ·simp at h
  ·simp at h
  ·simpa using h
 | n + 1, [], b, _, h, _, _ => by simp at h
 | n + 1, x :: a, [], _, _, h, _ => by simp at h
 | n + 1, x :: a, y :: b, h, h1, h2, h3 => by
  simp only [List.take_succ_cons, List.cons.injEq] at h
  rw [comm, if_pos h.1, Ql0 n a b h.2 (by simpa using h1) (by simpa using h2)]
  rcases h3 with h | h | h
  ·exact .inl (by simpa using h)
  ·exact .inr (.inl (by simpa using h))
  ·exact .inr (.inr (by simpa using h))
theorem Ql1 : ∀ a b : List Nat, comm a b <= a.length /\ comm a b <= b.length
 | [], b => by cases b <;> simp [comm]
 | x :: a, [] => by simp [comm]
 | x :: a, y :: b => by
  have := Ql1 a b
  rw [comm]
  split <;> simp <;> omega
theorem Qf8 : ∀ a b : List Nat, a.take (comm a b) = b.take (comm a b)
 | [], b => by cases b <;> simp [comm]
 | x :: a, [] => by simp [comm]
 | x :: a, y :: b => by
  rw [comm]
  split
  ·rename_i h
   rw [List.take_succ_cons, List.take_succ_cons, Qf8 a b, h]
  ·simp
theorem Qos : ∀ a b : List Nat, comm a b < a.length -> comm a b < b.length -> a[comm a b]? ≠ b[comm a b]?
 | [], b, h, _ => by simp at h
 | x :: a, [], _, h => by simp at h
 | x :: a, y :: b, h1, h2 => by
  rw [comm] at *
  split at h1 <;> rename_i hxy
  ·rw [if_pos hxy] at h2 ⊢
   simpa using Qos a b (by simpa using h1) (by simpa using h2)
  ·rw [if_neg hxy]
   simpa using hxy
theorem Qjm (a b : ByteArray) (w : World) (ha : a.size <= 4194304) :
  Calls Tryz.prog 147 #[.string a, .string b] w fun e w' => e = .returned (.int .i64 (comm (bytesOf a) (bytesOf b) : Nat)) /\ Below w.heap.size w w' := by
 have h := bytesOf_length a
 have j := bytesOf_length b
 have l : Hid ((bytesOf a).length = a.size /\ (bytesOf b).length = b.size /\ a.size <= 4194304) := ⟨h, j, ha⟩
 obtain ⟨N, B⟩ : ∃ N, comm (bytesOf a) (bytesOf b) = N := ⟨_, rfl⟩
 have z : Hid (comm (bytesOf a) (bytesOf b) = N) := B
 rw [B]
 clear h j ha B
 go_enter Tryz.func147, Tryz.ntmps147
 go_wp2
 go_loopg [5] a.size (fun g i wr => ∃ n : Nat, n <= a.size /\ g = a.size - n /\ i = .int .i64 (n : Int) /\ n <= b.size /\ (bytesOf a).take n = (bytesOf b).take n /\ Below w.heap.size w wr)
 case atStart => exact ⟨0, by omega, rfl, rfl, by omega, rfl, Below.refl _ _⟩
 case round =>
  obtain ⟨n, p, rfl, rfl, q, k, C⟩ := hrel
  have x := Hq C
  clear C
  by_cases r : n < a.size
  ·have F : (n : Int) < (a.size : Int) := by omega
   by_cases v : n < b.size
   ·have G : (n : Int) < (b.size : Int) := by omega
    obtain ⟨c, s⟩ : ∃ c, (bytesOf a)[n]! = c := ⟨_, rfl⟩
    have H : (a[n]'r).toNat = c := by rw [<- s]; exact Qbo a n r
    obtain ⟨d, t⟩ : ∃ d, (bytesOf b)[n]! = d := ⟨_, rfl⟩
    have I : (b[n]'v).toNat = d := by rw [<- t]; exact Qbo b n v
    have h : n < (bytesOf a).length := by have := l.out.1; omega
    have j : n < (bytesOf b).length := by have := l.out.2.1; omega
    rw [getElem!_pos (bytesOf a) _ h] at s
    rw [getElem!_pos (bytesOf b) _ j] at t
    by_cases y : c = d
    ·have D : (bytesOf a).take (n + 1) = (bytesOf b).take (n + 1) := by
      rw [List.take_succ_eq_append_getElem h, List.take_succ_eq_append_getElem j, k, s, t, y]
     have u : Hid ((bytesOf a).take (n + 1) = (bytesOf b).take (n + 1) /\ n < a.size /\ n < b.size) := ⟨D, r, v⟩
     subst y
     clear D k s t h j p q
     go_upto_region 2 with fail
     go_quiet (fail)
     go_wp2
     go_roundg (a.size - (n + 1))
     case measure => have := u.out; omega
     case rel => exact ⟨n + 1, u.out.2.1, rfl, by rw [Qhg n (by have := l.out; have := u.out; omega)], u.out.2.2, u.out.1, Below.drewN x.out _⟩
    ·have o : comm (bytesOf a) (bytesOf b) = n := Ql0 n _ _ k (by have := l.out; omega) (by have := l.out; omega) (.inr (.inr (by rw [List.getElem?_eq_getElem h, List.getElem?_eq_getElem j, s, t]; simpa using y)))
     have f : n = N := by rw [<- o, z.out]
     have J : ((c : Int) == (d : Int)) = false := by simp; omega
     have m := Hq f
     clear o k s t h j p q y f
     go_upto_region 2 with fail
     go_quiet (fail)
     go_wp2
     go_ret
     exact ⟨by rw [m.out]; rfl, Below.drewN x.out _⟩
   ·have G : (b.size : Int) <= (n : Int) := by omega
    have o : comm (bytesOf a) (bytesOf b) = n := Ql0 n _ _ k (by have := l.out; omega) (by have := l.out; omega) (.inr (.inl (by have := l.out; omega)))
    have f : n = N := by rw [<- o, z.out]
    have m := Hq f
    have E : decide (n < a.size) = true := decide_eq_true r
    have K : decide (n < b.size) = false := decide_eq_false v
    clear o k p q f v
    go_upto_region 2 with fail
    go_quiet (fail)
    go_wp2
    go_ret
    exact ⟨by rw [m.out]; rfl, Below.drewN x.out _⟩
  ·have F : (a.size : Int) <= (n : Int) := by omega
   have o : comm (bytesOf a) (bytesOf b) = n := Ql0 n _ _ k (by have := l.out; omega) (by have := l.out; omega) (.inl (by have := l.out; omega))
   have f : n = N := by rw [<- o, z.out]
   have m := Hq f
   have E : decide (n < a.size) = false := decide_eq_false r
   clear o k p q f r
   go_upto_region 2 with fail
   go_quiet (fail)
   go_wp2
   go_ret
   exact ⟨by rw [m.out]; rfl, Below.drewN x.out _⟩
theorem Qhm (s : ByteArray) (i j : Nat) : bytesOf (s.extract i j) = ((bytesOf s).drop i).take (j - i) := by
 unfold bytesOf
 rw [<- List.map_drop, <- List.map_take]
 congr 1
 simp only [ByteArray.data_extract, Array.toList_extract, List.extract_eq_take_drop]
theorem Qb2 (s : ByteArray) (n : Nat) : bytesOf (s.extract 0 n) = (bytesOf s).take n := by rw [Qhm]; simp
theorem Qab (s : ByteArray) (n : Nat) : bytesOf (s.extract n s.size) = (bytesOf s).drop n := by
 rw [Qhm, List.take_of_length_le]
 rw [List.length_drop, bytesOf_length]
 omega
theorem Qce {a b : ByteArray} (h : ¬ a = b) : (a.toList == b.toList) = false := by
 rw [beq_eq_false_iff_ne]
 intro e
 apply h
 rw [Lib.toList_data, Lib.toList_data] at e
 exact ByteArray.ext (Array.toList_inj.1 e)
def begins (p s : ByteArray) : Prop := (bytesOf s).take p.size = bytesOf p
variable {p s : ByteArray}
theorem Qmv (h : begins p s) : p.size <= s.size := by
 have := congrArg List.length h
 rw [List.length_take, bytesOf_length, bytesOf_length] at this
 omega
theorem Qjn (h : begins p s) : s.extract 0 p.size = p := Qav (by rw [Qb2]; exact h)
theorem Qf9 (h : s.extract 0 p.size = p) : begins p s := by
 unfold begins
 rw [<- Qb2, h]
instance (p s : ByteArray) : Decidable (begins p s) := inferInstanceAs (Decidable ((bytesOf s).take p.size = bytesOf p))
theorem Qjo (s p : ByteArray) (w : World) :
  Calls Tryz.prog 187 #[.string s, .string p] w fun e w' => e = .returned (.bool (decide (begins p s))) /\ w' = w := by
 by_cases h : begins p s
 ·have a := Qmv h
  have i := Qjn h
  have d : (p.size : Int) <= (s.size : Int) := by omega
  have b : decide (p.size <= s.size) = true := decide_eq_true a
  rw [decide_eq_true h]
  clear h
  go_enter Tryz.func187, Tryz.ntmps187
  go_wp2
  go_ret
  exact ⟨rfl, rfl⟩
 ·rw [decide_eq_false h]
  by_cases a : p.size <= s.size
  ·have d : (p.size : Int) <= (s.size : Int) := by omega
   have b : decide (p.size <= s.size) = true := decide_eq_true a
   obtain ⟨z, f⟩ : ∃ z, s.extract 0 p.size = z := ⟨_, rfl⟩
   have c : ¬ z = p := fun e => h (Qf9 (f.trans e))
   have g : (z.toList == p.toList) = false := Qce c
   clear h
   go_enter Tryz.func187, Tryz.ntmps187
   go_wp2
   go_ret
   exact ⟨rfl, rfl⟩
  ·have d : (s.size : Int) < (p.size : Int) := by omega
   have b : decide (p.size <= s.size) = false := decide_eq_false a
   clear h
   go_enter Tryz.func187, Tryz.ntmps187
   go_wp2
   go_ret
   exact ⟨rfl, rfl⟩
def Nd.next : Nd -> ByteArray -> Nd × Nat
 | .ext p t, r => if begins p r then (t, p.size) else (.no, 0)
 | .br ks, r => (ks.getD ((bytesOf r)[0]!) .no, 1)
 | _, _ => (.no, 0)
def NextC (S : Wood) (w : World) (F : FuncId) (b : Nat) (t : Nd) (r : ByteArray) : Prop := ∃ v, ndV S v (t.next r).1 /\ ∀ w1 : World, w1.heap = w.heap -> Calls Tryz.prog F #[.pointer (some ⟨b, 0, none⟩), .string r] w1 fun e w' => e = .returned (.tuple #[v, .int .i64 ((t.next r).2 : Nat)]) /\ ∃ m, w' = w1.drewN m
theorem Qcv (h : w1.heap = w.heap) (a : Addr) : w1.cell? a = w.cell? a := World.cell?_of_block (by rw [h])
theorem Qtv (r : ByteArray) (hf : Forest B S w) (hb : S b = some (.ext p t)) : NextC S w 183 b (.ext p t) r := by
 obtain ⟨g, o, _, k, _, i, _, _⟩ := (hf.node b _ hb).cell
 obtain ⟨v, k, f⟩ : ∃ v, o = [.string p, v] /\ ndV S v t := k
 subst k
 have m : w.cell? ⟨b, 1, none⟩ = some (.string p) := i 0 _ rfl
 have n : w.cell? ⟨b, 2, none⟩ = some v := i 1 _ rfl
 have j := f.shape
 unfold NextC
 rw [Nd.next]
 by_cases h : begins p r
 ·rw [if_pos h]
  refine ⟨v, f, fun l d => ?_⟩
  have c := Hq (Qjo r p l)
  rw [decide_eq_true h] at c
  rw [<- Qcv d] at m n
  clear h hf hb i f d
  rcases j with rfl | ⟨T, a, rfl⟩
  all_goals
   go_enter Tryz.func183, Tryz.ntmps183
   go_wp2_with fail
   refine c.out.mono ?_
   rintro e q ⟨rfl, rfl⟩
   go_upto_region 2 with fail
   go_quiet (fail)
   go_wp2
   go_ret2
   exact ⟨rfl, _, rfl⟩
 ·rw [if_neg h]
  refine ⟨.nilIface, .inl ⟨rfl, rfl⟩, fun l d => ?_⟩
  have c := Hq (Qjo r p l)
  rw [decide_eq_false h] at c
  rw [<- Qcv d] at m n
  clear h j hf hb i f d
  go_enter Tryz.func183, Tryz.ntmps183
  go_wp2_with fail
  refine c.out.mono ?_
  rintro e q ⟨rfl, rfl⟩
  go_wp2
  go_ret2
  exact ⟨rfl, 0, rfl⟩
theorem Qtw (r : ByteArray) (hf : Forest B S w) (hb : S b = some (.br ks)) (hr0 : 0 < r.size) (hn : (bytesOf r)[0]! < 16) : NextC S w 172 b (.br ks) r := by
 obtain ⟨g, d, _, u, _, t, _, _⟩ := (hf.node b _ hb).cell
 obtain ⟨m, k⟩ : d.length = 16 /\ ∀ i (h1 : i < d.length) (h2 : i < ks.length), ndV S d[i] ks[i] := u
 have e := hf.ok b _ hb
 rw [Nd.ok] at e
 obtain ⟨n, c⟩ : ∃ n, (bytesOf r)[0]! = n := ⟨_, rfl⟩
 rw [c] at hn
 have x : (r[0]'hr0).toNat = n := by rw [<- c]; exact Qbo r 0 hr0
 have j : n < d.length := by omega
 have h : n < ks.length := by have := e.1; omega
 have o : w.cell? ⟨b, 1 + n, none⟩ = some d[n] := t n _ (by simp [j])
 have f := k n j h
 obtain ⟨v, l⟩ : ∃ v, d[n] = v := ⟨_, rfl⟩
 rw [l] at o f
 have p : (Nd.br ks).next r = (ks[n], 1) := by rw [Nd.next, c, List.getD_eq_getElem?_getD, List.getElem?_eq_getElem h]; rfl
 unfold NextC
 rw [p]
 have q := f.shape
 refine ⟨v, f, fun C s => ?_⟩
 rw [<- Qcv s] at o
 have z : (n : Int) < 16 := by omega
 have y : (0 : Int) < (r.size : Int) := by omega
 clear hf hb t f k e c p l m hn s
 rcases q with rfl | ⟨T, a, rfl⟩
 all_goals
  go_enter Tryz.func172, Tryz.ntmps172
  go_upto_region 1 with fail
  go_quiet (fail)
  go_wp2
  go_ret2
  exact ⟨rfl, _, rfl⟩
def Turns (S : Wood) : List (Nd × ByteArray) -> List Value -> Prop
 | [], cs => cs = []
 | x :: l, cs => ∃ v cs', cs = v :: .string x.2 :: cs' /\ ndV S v x.1 /\ Turns S l cs'
theorem Turns.snoc {S : Wood} {t : Nd} {p : ByteArray} {v : Value} (hv : ndV S v t) : ∀ {l : List (Nd × ByteArray)} {cs : List Value}, Turns S l cs -> Turns S (l ++ [(t, p)]) (cs ++ [v, .string p])
 | [], cs, h => by
  obtain rfl : cs = [] := h
  exact ⟨v, [], rfl, hv, rfl⟩
 | x :: l, cs, h => by
  obtain ⟨u, cs', rfl, h1, h2⟩ := h
  exact ⟨u, cs' ++ [v, .string p], rfl, h1, h2.snoc hv⟩
theorem Turns.length {S : Wood} : ∀ {l : List (Nd × ByteArray)} {cs : List Value}, Turns S l cs -> cs.length = l.length * 2
 | [], cs, h => by obtain rfl : cs = [] := h; rfl
 | x :: l, cs, h => by
  obtain ⟨u, cs', rfl, h1, h2⟩ := h
  have := h2.length
  simp only [List.length_cons]
  omega
structure Way (S : Wood) (C : Nat) (w : World) (bw : Nat) (l : List (Nd × ByteArray)) (t : Nd) (r : ByteArray) (thr v : Value) (cs : List Value) : Prop where
 blk : w.heap[bw]? = some (.cells #[thr, v, .string r] 112 (0, 0))
 lo : C <= bw
 node : ndV S v t
 own : OwnC w C 2 thr l.length cs
 apart : thr.ownBlock ≠ some bw
 turns : Turns S l cs
variable {r : ByteArray} {C bw : Nat} {l : List (Nd × ByteArray)} {thr : Value}
theorem Way.lt (h : Way S C w bw l t r thr v cs) : bw < w.heap.size := (Array.getElem?_eq_some_iff.1 h.blk).1
theorem Way.cell {S : Wood} {C : Nat} {w : World} {bw : Nat} {l : List (Nd × ByteArray)} {t : Nd} {r : ByteArray} {thr v : Value} {cs : List Value} (h : Way S C w bw l t r thr v cs) : w.cell? ⟨bw, 0, none⟩ = some thr /\ w.cell? ⟨bw, 1, none⟩ = some v /\ w.cell? ⟨bw, 2, none⟩ = some (.string r) /\ w.frozen? ⟨bw, 0, none⟩ = false /\ w.frozen? ⟨bw, 1, none⟩ = false /\ w.frozen? ⟨bw, 2, none⟩ = false := by
 have h := h.blk
 refine ⟨?_, ?_, ?_, ?_, ?_, ?_⟩ <;> simp [World.cell?, World.frozen?, h]
theorem Way.heap {S : Wood} {C : Nat} {w w' : World} {bw : Nat} {l : List (Nd × ByteArray)} {t : Nd} {r : ByteArray} {thr v : Value} {cs : List Value} (h : Way S C w bw l t r thr v cs) (hh : w'.heap = w.heap) : Way S C w' bw l t r thr v cs :=
 ⟨by rw [hh]; exact h.blk, h.lo, h.node, h.own.keep (by rw [hh]; exact Nat.le_refl _) fun k _ _ => by rw [hh], h.apart, h.turns⟩
def nextFn : Nd -> FuncId
 | .ext _ _ => 183
 | .br _ => 172
 | _ => 0
def Nd.inner : Nd -> Bool
 | .ext _ _ => true
 | .br _ => true
 | _ => false
theorem QCa (t : Nd) (ht : t.inner = true) (a : Addr) (w : World) : (Go.method 386 (ndTy t) (.pointer (some a)) "twigs/tree.next").run Tryz.prog w = .ok (nextFn t, .pointer (some a)) w := by
 cases t with
 | ext _ _ => kernel_rfl
 | br _ => kernel_rfl
 | _ => simp [Nd.inner] at ht
theorem Qzb (t : Nd) (ht : t.inner = true) (args : Array Value) (w : World) : (callFunc (nextFn t) args).run Tryz.prog w = .ok (.enter (nextFn t) args) w := by
 cases t with
 | ext _ _ => kernel_rfl
 | br _ => kernel_rfl
 | _ => simp [Nd.inner] at ht
theorem Qzc (t : Nd) (ht : t.inner = true) (a : Addr) (w : World) : (nilAhead 386 (ndTy t) (.pointer (some a)) "twigs/tree.next").run Tryz.prog w = .ok (some false) w := by
 cases t with
 | ext _ _ => kernel_rfl
 | br _ => kernel_rfl
 | _ => simp [Nd.inner] at ht
theorem Qtx (t : Nd) (ht : t.inner = true) (a : Addr) (w : World) : (Instr.typeAssert (.iface (ndTy t) (.pointer (some a))) 56 194 true).run Tryz.prog w = .ok (.tuple #[.iface (ndTy t) (.pointer (some a)), .bool true]) w := by
 cases t with
 | ext _ _ => kernel_rfl
 | br _ => kernel_rfl
 | _ => simp [Nd.inner] at ht
theorem QDk (t : Nd) (ht : t.inner = false) (hn : t ≠ .no) (a : Addr) (w : World) : (Instr.typeAssert (.iface (ndTy t) (.pointer (some a))) 56 194 true).run Tryz.prog w = .ok (.tuple #[.nilIface, .bool false]) w := by
 cases t with
 | no => exact absurd rfl hn
 | leaf _ _ => exact run_typeAssert_lacksB Tryz.underlying194 (by kernel_rfl) (by kernel_rfl) _ _ w
 | stub _ => exact run_typeAssert_lacksB Tryz.underlying194 (by kernel_rfl) (by kernel_rfl) _ _ w
 | _ => simp [Nd.inner] at ht
theorem QDl (w : World) : (Instr.typeAssert .nilIface 56 194 true).run Tryz.prog w = .ok (.tuple #[.nilIface, .bool false]) w := by kernel_rfl
theorem Qxb (hW : Way S C w bw l t r thr v cs) (ht : t.inner = false) :
  Calls Tryz.prog 102 #[.pointer (some ⟨bw, 0, none⟩)] w fun e w' => e = .returned (.bool false) /\ w' = w := by
 obtain ⟨b, d, f, g, h, i⟩ := hW.cell
 rcases hW.node with ⟨rfl, rfl⟩ | ⟨hne, c, rfl, hc⟩
 ·have a := QDl
  clear hW
  go_enter Tryz.func102, Tryz.ntmps102
  go_wp2
  go_ret
  exact ⟨rfl, rfl⟩
 ·have a := QDk t ht hne
  clear hW
  go_enter Tryz.func102, Tryz.ntmps102
  go_wp2
  go_ret
  exact ⟨rfl, rfl⟩
theorem Qxc (hW : Way S C w bw l t r thr v cs) (ht : t.inner = true) (hv : v = .iface (ndTy t) (.pointer (some ⟨c, 0, none⟩))) (hN : NextC S w (nextFn t) c t r) (hno : (t.next r).1 = .no) :
  Calls Tryz.prog 102 #[.pointer (some ⟨bw, 0, none⟩)] w fun e w' => e = .returned (.bool false) /\ ∃ m, w' = w.drewN m := by
 obtain ⟨n, o, p, q, s, u⟩ := hW.cell
 subst hv
 obtain ⟨g, a, b⟩ := hN
 obtain rfl : g = .nilIface := by
  rcases a with ⟨_, h⟩ | ⟨h, _⟩
  ·exact h
  ·exact absurd hno h
 have k := Qtx t ht
 have x := QCa t ht
 have i := Qzb t ht
 have j := Qzc t ht
 obtain ⟨K, d⟩ : ∃ K, (t.next r).2 = K := ⟨_, rfl⟩
 rw [d] at b
 have f := Hq b
 clear hW a hno d b
 go_enter Tryz.func102, Tryz.ntmps102
 go_upto_region 3 with fail
 go_quiet (refine Calls.quiet_of (f.out _ rfl))
 go_wp2
 go_ret
 exact ⟨rfl, _, rfl⟩
variable {w2 w3 : World} {r' : ByteArray}
theorem QCb {t' : Nd} {by_ : ByteArray} {nv v2 : Value} (hW : Way S C w bw l t r thr v cs) (h1 : Below w.heap.size w w1) (hn : ndV S nv t') (hO : OwnC w2 C 2 v2 (l.length + 1) (cs ++ [v, .string by_])) (hg : w1.grownBy w2 thr.ownBlock) (hf : ∀ k, v2.ownBlock = some k -> thr.ownBlock = some k \/ w1.heap.size <= k) (h3 : w3.heap = (((w2.setCell ⟨bw, 0, none⟩ v2).setCell ⟨bw, 1, none⟩ nv).setCell ⟨bw, 2, none⟩ (.string r')).heap \/ w3.heap = (((w2.setCell ⟨bw, 0, none⟩ v2).setCell ⟨bw, 2, none⟩ (.string r')).setCell ⟨bw, 1, none⟩ nv).heap) : Way S C w3 bw (l ++ [(t, by_)]) t' r' v2 nv (cs ++ [v, .string by_]) := by
 have d := hW.lt
 have f : bw < w1.heap.size := Nat.lt_of_lt_of_le d h1.size
 have c : w2.heap[bw]? = some (.cells [thr, v, .string r].toArray 112 (0, 0)) := (hg.block bw f (fun e => hW.apart e.symm)).trans ((h1.block bw d).trans hW.blk)
 have h := Qa2 (Qa2 (Qa2 c 0 v2) 1 nv) 2 (.string r')
 have i := Qa2 (Qa2 (Qa2 c 0 v2) 2 (.string r')) 1 nv
 have b : v2.ownBlock ≠ some bw := fun e => by
  rcases hf bw e with e | e
  ·exact hW.apart e
  ·omega
 refine ⟨by rcases h3 with h3 | h3 <;> rw [h3] <;> assumption, hW.lo, hn, ?_, b, hW.turns.snoc hW.node⟩
 rw [List.length_append]
 refine hO.keep (by rcases h3 with h3 | h3 <;> rw [h3] <;> simp) fun k _ g => ?_
 have a : k ≠ bw := fun e => b (by rw [<- e]; exact g)
 rcases h3 with h3 | h3 <;> rw [h3] <;> exact (Below.heap_setCell _ _ _ _ a).trans ((Below.heap_setCell _ _ _ _ a).trans (Below.heap_setCell _ _ _ _ a))
theorem Qjp {o : Option Nat} (h : Below C w w1) (hC : C <= w.heap.size) (hg : w1.grownBy w2 o) (ho : ∀ k, o = some k -> C <= k) : Below C w w2 := by
 have := h.size
 refine ⟨hg.os.trans h.os, hg.tape.trans h.tape, hg.output.trans h.output, Nat.le_trans h.size hg.size, fun k a => (hg.block k (by omega) fun e => ?_).trans (h.block k a)⟩
 have := ho k e.symm
 omega
variable {x y z : Value}
theorem QCc (h : Below C w w2) (hlo : C <= bw) (ho : w3.os = w2.os) (ht : w3.tape = w2.tape) (hu : w3.output = w2.output) (h3 : w3.heap = (((w2.setCell ⟨bw, 0, none⟩ x).setCell ⟨bw, 1, none⟩ y).setCell ⟨bw, 2, none⟩ z).heap \/ w3.heap = (((w2.setCell ⟨bw, 0, none⟩ x).setCell ⟨bw, 2, none⟩ z).setCell ⟨bw, 1, none⟩ y).heap) : Below C w w3 := by
 refine ⟨ho.trans h.os, ht.trans h.tape, hu.trans h.output, Nat.le_trans h.size (by rcases h3 with h3 | h3 <;> rw [h3] <;> simp), fun k b => Eq.trans ?_ (h.block k b)⟩
 have a : k ≠ bw := by omega
 rcases h3 with h3 | h3 <;> rw [h3] <;> exact (Below.heap_setCell _ _ _ _ a).trans ((Below.heap_setCell _ _ _ _ a).trans (Below.heap_setCell _ _ _ _ a))
structure WayFr (bw : Nat) (thr thr' : Value) (w w' : World) : Prop where
 os : w'.os = w.os
 tape : w'.tape = w.tape
 output : w'.output = w.output
 size : w.heap.size <= w'.heap.size
 block : ∀ k, k < w.heap.size -> k ≠ bw -> thr.ownBlock ≠ some k -> w'.heap[k]? = w.heap[k]?
 own : ∀ k, thr'.ownBlock = some k -> thr.ownBlock = some k \/ w.heap.size <= k
theorem WayFr.refl (bw : Nat) (thr : Value) (w : World) : WayFr bw thr thr w w := ⟨rfl, rfl, rfl, Nat.le_refl _, fun _ _ _ _ => rfl, fun _ h => .inl h⟩
theorem WayFr.drewN (bw : Nat) (thr : Value) (w : World) (m : Nat) : WayFr bw thr thr w (w.drewN m) := ⟨rfl, rfl, rfl, Nat.le_refl _, fun _ _ _ _ => rfl, fun _ h => .inl h⟩
theorem WayFr.trans {bw : Nat} {x y z : Value} {w w1 w2 : World} (h : WayFr bw x y w w1) (k : WayFr bw y z w1 w2) : WayFr bw x z w w2 :=
 ⟨k.os.trans h.os, k.tape.trans h.tape, k.output.trans h.output, Nat.le_trans h.size k.size, fun i hi h1 h2 => (k.block i (Nat.lt_of_lt_of_le hi h.size) h1 fun e => by
  rcases h.own i e with e | e
  ·exact h2 e
  ·omega).trans (h.block i hi h1 h2), fun i e => by
  rcases k.own i e with e | e
  ·exact h.own i e
  ·exact .inr (Nat.le_trans h.size e)⟩
variable {w' : World}
theorem WayFr.below (h : WayFr bw x y w w') (h1 : C <= bw) (h2 : ∀ k, x.ownBlock = some k -> C <= k) (hC : C <= w.heap.size) : Below C w w' :=
 ⟨h.os, h.tape, h.output, h.size, fun k hk => h.block k (by omega) (by omega) fun e => by have := h2 k e; omega⟩
theorem Qxd {v2 : Value} (h1 : Below w.heap.size w w1) (hg : w1.grownBy w2 thr.ownBlock) (hf : ∀ k, v2.ownBlock = some k -> thr.ownBlock = some k \/ w1.heap.size <= k) (ho : w3.os = w2.os) (ht : w3.tape = w2.tape) (hu : w3.output = w2.output) (h3 : w3.heap = (((w2.setCell ⟨bw, 0, none⟩ x).setCell ⟨bw, 1, none⟩ y).setCell ⟨bw, 2, none⟩ z).heap \/ w3.heap = (((w2.setCell ⟨bw, 0, none⟩ x).setCell ⟨bw, 2, none⟩ z).setCell ⟨bw, 1, none⟩ y).heap) : WayFr bw thr v2 w w3 := by
 have c := h1.size
 have f := hg.size
 refine ⟨ho.trans (hg.os.trans h1.os), ht.trans (hg.tape.trans h1.tape), hu.trans (hg.output.trans h1.output), Nat.le_trans (Nat.le_trans c f) (by rcases h3 with h3 | h3 <;> rw [h3] <;> simp), fun k b a d => ?_, fun k b => ?_⟩
 ·refine Eq.trans ?_ ((hg.block k (by omega) fun e => d e.symm).trans (h1.block k b))
  rcases h3 with h3 | h3 <;> rw [h3] <;> exact (Below.heap_setCell _ _ _ _ a).trans ((Below.heap_setCell _ _ _ _ a).trans (Below.heap_setCell _ _ _ _ a))
 ·rcases hf k b with h | h
  ·exact .inl h
  ·exact .inr (Nat.le_trans c h)
theorem Forest.wayfr (hf : Forest B S w) (h : WayFr bw x y w w') (h1 : S bw = none) (h2 : ∀ k, x.ownBlock = some k -> S k = none) : Forest B S w' :=
 hf.keep h.size fun k t hk => h.block k (hf.lt hk) (fun e => by rw [e, h1] at hk; cases hk) fun e => by rw [h2 k e] at hk; cases hk
theorem QDm : (Tryz.prog.info? 196).map (fun i => (i.zero, i.size, i.bytes)) = some (some (.agg #[.nilIface, .string ⟨#[]⟩]), 2, 32) := by kernel_rfl
theorem Qxe (h : ndV S v t) (p : ByteArray) : ∀ u ∈ ([v, .string p] : List Value), u.oneCell' = true := by
 intro u a
 simp only [List.mem_cons, List.not_mem_nil, or_false] at a
 rcases a with rfl | rfl
 ·exact h.one
 ·rfl
theorem QAa (hW : Way S C w bw l t r thr v cs) (ht : t.inner = true) (hv : v = .iface (ndTy t) (.pointer (some ⟨c, 0, none⟩))) (hN : NextC S w (nextFn t) c t r) (hno : (t.next r).1 ≠ .no) (hk : (t.next r).2 <= r.size) (hl : l.length <= 1000) (hC : C <= w.heap.size) :
  Calls Tryz.prog 102 #[.pointer (some ⟨bw, 0, none⟩)] w fun e w' => e = .returned (.bool true) /\ Below C w w' /\ ∃ thr' v' cs', WayFr bw thr thr' w w' /\ Way S C w' bw (l ++ [(t, r.extract 0 (t.next r).2)]) (t.next r).1 (r.extract (t.next r).2 r.size) thr' v' cs' := by
 obtain ⟨i0, hi, aj, ak, al⟩ := info_parts QDm
 obtain ⟨P, Q, R, Y, Z, f2⟩ := hW.cell
 subst hv
 obtain ⟨nv, n, E⟩ := hN
 have ai := Qtx t ht
 have hm := QCa t ht
 have ac := Qzb t ht
 have ae := Qzc t ht
 obtain ⟨K, hK⟩ : ∃ K, (t.next r).2 = K := ⟨_, rfl⟩
 obtain ⟨t', O⟩ : ∃ t', (t.next r).1 = t' := ⟨_, rfl⟩
 rw [hK] at E hk ⊢
 rw [O] at hno n ⊢
 obtain ⟨d, rfl⟩ : ∃ d, nv = .iface (ndTy t') (.pointer (some ⟨d, 0, none⟩)) := by
  rcases n with ⟨h, _⟩ | ⟨_, d, h, _⟩
  ·exact absurd h hno
  ·exact ⟨d, h⟩
 have U := Hq E
 have p := Hq hW
 have HV := Hq n
 have M := hW.lt
 obtain ⟨m, aa⟩ : ∃ x, r.extract 0 K = x := ⟨_, rfl⟩
 obtain ⟨q, ah⟩ : ∃ x, r.extract K r.size = x := ⟨_, rfl⟩
 rw [aa, ah]
 have ao : (K : Int) <= (r.size : Int) := by omega
 obtain ⟨I, H, B, rfl⟩ := hW.own.shape
 have u : Hid (l.length <= 1000 /\ C <= w.heap.size) := ⟨hl, hC⟩
 clear hW n hno hK E O hk hl hC
 go_enter Tryz.func102, Tryz.ntmps102
 go_upto_region 3 with fail
 go_quiet (refine Calls.quiet_of (U.out _ rfl))
 clear ai hm ac ae U
 go_upto_region 6 with fail
 generalize hWq : w.drewN _ = W
 have j : W.heap = w.heap := by rw [<- hWq]; rfl
 have D : Below w.heap.size w W := by rw [<- hWq]; exact Below.drewN (Below.refl _ _) _
 rw [<- Qcv j] at P Q R
 have g0 : W.frozen? ⟨bw, 0, none⟩ = false := (World.frozen?_of_block (by rw [j])).trans Y
 have g1 : W.frozen? ⟨bw, 1, none⟩ = false := (World.frozen?_of_block (by rw [j])).trans Z
 have g2 : W.frozen? ⟨bw, 2, none⟩ = false := (World.frozen?_of_block (by rw [j])).trans f2
 rw [<- j] at M
 have V : Hid (∀ o, OwnC (W.drew.alloc o) C 2 (.slice I H B) l.length cs) := fun o => ((p.out.heap j).own.keep (w' := W.drew) (Nat.le_refl _) fun _ _ _ => rfl).alloc o
 have X : Hid ((W.drew.alloc (.cells #[.iface (ndTy t) (.pointer (some ⟨c, 0, none⟩)), .string m] 196)).rangeAt W.heap.size 0 [.iface (ndTy t) (.pointer (some ⟨c, 0, none⟩)), .string m]) := Qap W.drew [.iface (ndTy t) (.pointer (some ⟨c, 0, none⟩)), .string m] _
 have J : Hid (∀ o, Below w.heap.size w (W.drew.alloc o)) := fun o => D.drew.alloc D.size o
 have HH : Hid (W.heap.size = w.heap.size) := by rw [j]; exact rfl
 have L := p.out.apart
 have HA : Hid ((Value.slice I H B).ownBlock ≠ some bw) := L
 clear hWq j D Y Z f2 L
 go_region_law
  (refine Qc7 _ rfl (.tmp 34) (.tmp 43) 110 rfl 196 i0 (.agg #[.nilIface, .string ⟨#[]⟩]) 2 32 Tryz.underlying110 hi aj ak al rfl (by decide) C (.slice I H B) l.length cs (by simp [Act.eval]) (V.out _) W.heap.size 0 1 1 [.iface (ndTy t) (.pointer (some ⟨c, 0, none⟩)), .string m] (by simp [Act.eval]) rfl X.out (Qxe p.out.node m) (by have := u.out; unfold maxLen; omega) (by have := u.out; omega) (by have := u.out; have := HH.out; simp; omega) ?_; intro s g F i G ag; have N : some bw ≠ (Value.slice I H B).ownBlock := (fun e => HA.out e.symm); have f : g.heap[bw]? = W.heap[bw]? := (i.block bw (by simp; omega) N).trans (Below.heap_alloc _ _ _ M); have z0 := (World.cell?_of_block (a := ⟨bw, 0, none⟩) f).trans P; have z1 := (World.cell?_of_block (a := ⟨bw, 1, none⟩) f).trans Q; have z2 := (World.cell?_of_block (a := ⟨bw, 2, none⟩) f).trans R; have y0 := (World.frozen?_of_block (a := ⟨bw, 0, none⟩) f).trans g0; have y1 := (World.frozen?_of_block (a := ⟨bw, 1, none⟩) f).trans g1; have y2 := (World.frozen?_of_block (a := ⟨bw, 2, none⟩) f).trans g2; have AM : Aside (∀ b, (b.heap = (((g.setCell ⟨bw, 0, none⟩ s).setCell ⟨bw, 1, none⟩ (.iface (ndTy t') (.pointer (some ⟨d, 0, none⟩)))).setCell ⟨bw, 2, none⟩ (.string q)).heap \/ b.heap = (((g.setCell ⟨bw, 0, none⟩ s).setCell ⟨bw, 2, none⟩ (.string q)).setCell ⟨bw, 1, none⟩ (.iface (ndTy t') (.pointer (some ⟨d, 0, none⟩)))).heap) -> Way S C b bw (l ++ [(t, m)]) t' q s (.iface (ndTy t') (.pointer (some ⟨d, 0, none⟩))) (cs ++ [.iface (ndTy t) (.pointer (some ⟨c, 0, none⟩)), .string m])) := (fun b T => QCb p.out (J.out _) HV.out F i G T); have FM : Aside (∀ b, b.os = g.os -> b.tape = g.tape -> b.output = g.output -> (b.heap = (((g.setCell ⟨bw, 0, none⟩ s).setCell ⟨bw, 1, none⟩ (.iface (ndTy t') (.pointer (some ⟨d, 0, none⟩)))).setCell ⟨bw, 2, none⟩ (.string q)).heap \/ b.heap = (((g.setCell ⟨bw, 0, none⟩ s).setCell ⟨bw, 2, none⟩ (.string q)).setCell ⟨bw, 1, none⟩ (.iface (ndTy t') (.pointer (some ⟨d, 0, none⟩)))).heap) -> WayFr bw (.slice I H B) s w b) := (fun b ho ht hu T => Qxd (J.out _) i G ho ht hu T); have BM : Aside (Below C w g) := Qjp ((J.out _).mono u.out.2) u.out.2 i (fun k e => (p.out.own.block k e).1); have am : bw < g.heap.size := (by have := i.size; simp at this; omega); obtain ⟨p2, m2, k2, rfl⟩ := F.shape; clear F i G ag N f)
 all_goals clear P Q R g0 g1 g2 V X J
 all_goals go_wp2
 all_goals go_region
 all_goals go_wp2
 all_goals go_ret
 all_goals refine ⟨rfl, QCc (x := .slice p2 m2 k2) (y := .iface (ndTy t') (.pointer (some ⟨d, 0, none⟩))) (z := .string q) BM.out p.out.lo rfl rfl rfl ?_, _, _, _, FM.out _ rfl rfl rfl ?_, AM.out _ ?_⟩
 all_goals first | exact .inl rfl | exact .inr rfl
inductive WayTo : Nd -> ByteArray -> List (Nd × ByteArray) -> Nd -> ByteArray -> Prop
 | stop {t : Nd} {r : ByteArray} : (t.next r).1 = .no -> WayTo t r [] t r
 | go {t : Nd} {r : ByteArray} {l : List (Nd × ByteArray)} {e : Nd} {r' : ByteArray} : (t.next r).1 ≠ .no -> WayTo (t.next r).1 (r.extract (t.next r).2 r.size) l e r' -> WayTo t r ((t, r.extract 0 (t.next r).2) :: l) e r'
variable {e : Nd}
theorem WayTo.inv (h : WayTo t r l e r') (hn : (t.next r).1 ≠ .no) : ∃ l3, l = (t, r.extract 0 (t.next r).2) :: l3 /\ WayTo (t.next r).1 (r.extract (t.next r).2 r.size) l3 e r' := by
 cases h with
 | stop h => exact absurd h hn
 | go _ h => exact ⟨_, rfl, h⟩
mutual
def Nd.fits : Nd -> Nat -> Prop
 | .no, _ => True
 | .leaf p _, n => p.size = n
 | .ext p t, n => 0 < p.size /\ p.size < n /\ t.fits (n - p.size)
 | .br ks, n => 0 < n /\ fitsAll ks (n - 1)
 | .stub _, _ => True
def fitsAll : List Nd -> Nat -> Prop
 | [], _ => True
 | x :: xs, n => x.fits n /\ fitsAll xs n
end
theorem Qhn {x : Nd} : ∀ {l : List Nd}, fitsAll l n -> x ∈ l -> x.fits n := by
 intro l
 induction l with
 | nil => intro _ h; cases h
 | cons y l ih =>
  intro h a
  rw [fitsAll] at h
  rcases List.mem_cons.1 a with rfl | a
  ·exact h.1
  ·exact ih h.2 a
theorem Nd.next_not (h : t.inner = false) (r : ByteArray) : (t.next r).1 = .no := by
 cases t with
 | ext _ _ => simp [Nd.inner] at h
 | br _ => simp [Nd.inner] at h
 | _ => rfl
theorem Nd.next_fits (hf : t.fits r.size) (hn : (t.next r).1 ≠ .no) : 0 < (t.next r).2 /\ (t.next r).2 <= r.size /\ (t.next r).1.fits (r.size - (t.next r).2) := by
 cases t with
 | ext p t =>
  rw [Nd.fits] at hf
  rw [Nd.next] at hn ⊢
  split at hn
  ·rename_i hb
   rw [if_pos hb]
   exact ⟨hf.1, by omega, hf.2.2⟩
  ·exact absurd rfl hn
 | br ks =>
  rw [Nd.fits] at hf
  rw [Nd.next] at hn ⊢
  refine ⟨Nat.one_pos, hf.1, ?_⟩
  rw [List.getD_eq_getElem?_getD] at hn ⊢
  cases hk : ks[(bytesOf r)[0]!]? with
  | none => rw [hk] at hn; exact absurd rfl hn
  | some x => exact Qhn hf.2 (List.mem_of_getElem? hk)
 | _ => exact absurd rfl hn
theorem Qa6 (r : ByteArray) (n : Nat) : (r.extract n r.size).size = r.size - n := by
 rw [<- bytesOf_length, Qab, List.length_drop, bytesOf_length]
theorem Qbe (r : ByteArray) (n : Nat) (h : n <= r.size) : (r.extract 0 n).size = n := by
 rw [<- bytesOf_length, Qb2, List.length_take, bytesOf_length]
 omega
theorem Ql2 (h : ∀ x ∈ bytesOf r, x < 16) (n : Nat) : ∀ x ∈ bytesOf (r.extract n r.size), x < 16 := by
 rw [Qab]
 exact fun x a => h x (List.mem_of_mem_drop a)
theorem Qxf (h : ∀ x ∈ bytesOf r, x < 16) (n : Nat) : ∀ x ∈ bytesOf (r.extract 0 n), x < 16 := by
 rw [Qb2]
 exact fun x a => h x (List.mem_of_mem_take a)
theorem Qxg (hf : Forest B S w) (hc : S c = some t) (ht : t.inner = true) (hfit : t.fits r.size) (hn : ∀ x ∈ bytesOf r, x < 16) : NextC S w (nextFn t) c t r := by
 cases t with
 | ext p t => exact Qtv r hf hc
 | br ks =>
  rw [Nd.fits] at hfit
  refine Qtw r hf hc hfit.1 ?_
  have : 0 < (bytesOf r).length := by rw [bytesOf_length]; exact hfit.1
  rw [getElem!_pos (bytesOf r) 0 this]
  exact hn _ (List.getElem_mem _)
 | _ => simp [Nd.inner] at ht
theorem Qxh (hf : Forest B S w) (hW : Way S C w bw l t r thr v cs) (hfit : t.fits r.size) (hn : ∀ x ∈ bytesOf r, x < 16) (hl : l.length <= 1000) (hC : C <= w.heap.size) :
  Calls Tryz.prog 102 #[.pointer (some ⟨bw, 0, none⟩)] w fun e w' => Below C w w' /\ ((e = .returned (.bool false) /\ (t.next r).1 = .no /\ ∃ thr' v' cs', WayFr bw thr thr' w w' /\ Way S C w' bw l t r thr' v' cs') \/ (e = .returned (.bool true) /\ (t.next r).1 ≠ .no /\ ∃ thr' v' cs', WayFr bw thr thr' w w' /\ Way S C w' bw (l ++ [(t, r.extract 0 (t.next r).2)]) (t.next r).1 (r.extract (t.next r).2 r.size) thr' v' cs')) := by
 cases hi : t.inner with
 | false => exact (Qxb hW hi).mono (by rintro e w' ⟨rfl, rfl⟩; exact ⟨Below.refl _ _, .inl ⟨rfl, Nd.next_not hi r, _, _, _, WayFr.refl _ _ _, hW⟩⟩)
 | true =>
  obtain ⟨c, d, g⟩ : ∃ c, v = .iface (ndTy t) (.pointer (some ⟨c, 0, none⟩)) /\ S c = some t := by
   rcases hW.node with ⟨rfl, _⟩ | ⟨_, c, h1, h2⟩
   ·simp [Nd.inner] at hi
   ·exact ⟨c, h1, h2⟩
  have b := Qxg hf g hi hfit hn
  by_cases a : (t.next r).1 = .no
  ·exact (Qxc hW hi d b a).mono (by rintro e w' ⟨rfl, m, rfl⟩; exact ⟨Below.drewN (Below.refl _ _) _, .inl ⟨rfl, a, _, _, _, WayFr.drewN _ _ _ _, hW.heap rfl⟩⟩)
  ·exact (QAa hW hi d b a (Nd.next_fits hfit a).2.1 hl hC).mono (by rintro e w' ⟨rfl, f, h⟩; exact ⟨f, .inr ⟨rfl, a, h⟩⟩)
variable {l' : List (Nd × ByteArray)}
theorem Qty (hf : Forest B S w) (hW : Way S C w bw l t r thr v cs) (hbw : S bw = none) (hth : ∀ k, thr.ownBlock = some k -> S k = none) (hfit : t.fits r.size) (hn : ∀ x ∈ bytesOf r, x < 16) (hT : WayTo t r l' e r') (hl : l.length + r.size <= 1000) :
  Calls Tryz.prog 84 #[.pointer (some ⟨bw, 0, none⟩)] w fun x w' => x = .returned (.tuple #[]) /\ ∃ thr' v' cs', WayFr bw thr thr' w w' /\ Way S C w' bw (l ++ l') e r' thr' v' cs' := by
 have F : Hid (Forest B S w /\ S bw = none /\ ∀ k, thr.ownBlock = some k -> S k = none) := ⟨hf, hbw, hth⟩
 obtain ⟨L, c⟩ : ∃ L, l ++ l' = L := ⟨_, rfl⟩
 have I : Hid (WayFr bw thr thr w w /\ Way S C w bw l t r thr v cs /\ t.fits r.size /\ (∀ x ∈ bytesOf r, x < 16) /\ WayTo t r l' e r' /\ l.length + r.size <= 1000 /\ l ++ l' = L) := ⟨WayFr.refl _ _ _, hW, hfit, hn, hT, hl, c⟩
 rw [c]
 clear hf hbw hth hW hfit hn hT hl c
 go_enter Tryz.func84, Tryz.ntmps84
 go_wp2
 go_loopg [3] l'.length (fun g _ wr => ∃ i p b a j M z, g = p.length /\ WayFr bw thr j w wr /\ Way S C wr bw i b a j M z /\ b.fits a.size /\ (∀ x ∈ bytesOf a, x < 16) /\ WayTo b a p e r' /\ i.length + a.size <= 1000 /\ i ++ p = L)
 case atStart => exact ⟨l, l', t, r, thr, v, cs, rfl, I.out⟩
 case round =>
  obtain ⟨i, p, b, a, j, M, z, rfl, n, hW, hfit, hn, hT, hl, c⟩ := hrel
  have E : Forest B S wr := F.out.1.wayfr n F.out.2.1 F.out.2.2
  have J := Hq (Qxh E hW hfit hn (by omega) (by have := hW.lt; have := hW.lo; omega))
  have G : Hid (WayFr bw thr j w wr /\ b.fits a.size /\ (∀ x ∈ bytesOf a, x < 16) /\ WayTo b a p e r' /\ i.length + a.size <= 1000 /\ i ++ p = L) := ⟨n, hfit, hn, hT, hl, c⟩
  clear E n hW hfit hn hT hl c I
  go_wp2_with fail
  refine J.out.mono ?_
  rintro x y ⟨-, ⟨rfl, f, d, H, q, o, m⟩ | ⟨rfl, f, d, H, q, o, m⟩⟩
  ·have s : Hid (WayFr bw thr d w y /\ Way S C y bw L e r' d H q) := by
    obtain ⟨n, hfit, hn, hT, hl, c⟩ := G.out
    refine ⟨n.trans o, ?_⟩
    cases hT with
    | stop _ => rw [List.append_nil] at c; rw [<- c]; exact m
    | go h _ => exact absurd f h
   clear o f m
   go_wp2
   go_end0
   exact ⟨rfl, _, _, _, s.out.1, s.out.2⟩
  ·obtain ⟨n, hfit, hn, hT, hl, c⟩ := G.out
   obtain ⟨u, rfl, D⟩ := hT.inv f
   ·obtain ⟨N, O, K⟩ := Nd.next_fits hfit f
    have s : Hid (WayFr bw thr d w y /\ Way S C y bw (i ++ [(b, a.extract 0 (b.next a).2)]) (b.next a).1 (a.extract (b.next a).2 a.size) d H q /\ (b.next a).1.fits (a.extract (b.next a).2 a.size).size /\ (∀ x ∈ bytesOf (a.extract (b.next a).2 a.size), x < 16) /\ WayTo (b.next a).1 (a.extract (b.next a).2 a.size) u e r' /\ (i ++ [(b, a.extract 0 (b.next a).2)]).length + (a.extract (b.next a).2 a.size).size <= 1000 /\ (i ++ [(b, a.extract 0 (b.next a).2)]) ++ u = L) := by
     refine ⟨n.trans o, m, by rw [Qa6]; exact K, Ql2 hn _, D, ?_, by rw [<- c, List.append_assoc]; rfl⟩
     rw [Qa6, List.length_append, List.length_singleton]
     omega
    clear n o f m hfit hn D hl c N O K G J
    go_wp2
    go_roundg u.length
    case measure => simp
    case rel => exact ⟨_, u, _, _, _, _, _, rfl, s.out⟩
theorem Qxi {w0 : World} (hf : Forest B S w0) (hC : C = w0.heap.size) (hb : Below C w0 w) (hW : Way S C w bw l t r thr v cs) (hfit : t.fits r.size) (hn : ∀ x ∈ bytesOf r, x < 16) (hT : WayTo t r l' e r') (hl : l.length + r.size <= 1000) :
  Calls Tryz.prog 84 #[.pointer (some ⟨bw, 0, none⟩)] w fun x w' => x = .returned (.tuple #[]) /\ Below C w0 w' /\ ∃ thr' v' cs', Way S C w' bw (l ++ l') e r' thr' v' cs' := by
 subst hC
 have b : ∀ k, thr.ownBlock = some k -> w0.heap.size <= k := fun k a => (hW.own.block k a).1
 refine (Qty (hf.below hb) hW (hf.fresh hW.lo) (fun k a => hf.fresh (b k a)) hfit hn hT hl).mono ?_
 rintro x w' ⟨rfl, thr', v', cs', d, c⟩
 exact ⟨rfl, hb.trans (d.below hW.lo b hb.size), _, _, _, c⟩
structure Followed (S : Wood) (C : Nat) (w : World) (l : List (Nd × ByteArray)) (e : Nd) (thr v : Value) : Prop where
 row : ∃ cs, OwnC w C 2 thr l.length cs /\ Turns S l cs
 node : ndV S v e
theorem Followed.keep (h : Followed S C w l e thr v) (hb : Below w.heap.size w w') : Followed S C w' l e thr v := by
 obtain ⟨⟨a, b, c⟩, d⟩ := h
 exact ⟨⟨a, b.below hb, c⟩, d⟩
theorem Followed.shape {S : Wood} {C : Nat} {w : World} {l : List (Nd × ByteArray)} {e : Nd} {thr v : Value} (h : Followed S C w l e thr v) : ∃ p m c, thr = .slice p m c := by
 obtain ⟨b, a, _⟩ := h.row
 exact a.shape
theorem Qbf : (Tryz.prog.info? 112).map (·.size) = some 3 := by kernel_rfl
theorem Qtz (h : w.heap[b]? = some (.cells #[x, y, z] 112 (0, 0))) : w.rangeAt b 0 [x, y, z] := fun j u hu => by
 simp only [World.cell?, h, Nat.zero_add]
 simpa using hu
theorem Ql3 (h : ndV S v t) (p : Option Addr) (m c : Nat) (r : ByteArray) : (#[.slice p m c, v, .string r] : Array Value).all (·.oneCell') = true := by
 refine all_oneCell_toArray (cs := [.slice p m c, v, .string r]) fun u a => ?_
 simp only [List.mem_cons, List.not_mem_nil, or_false] at a
 rcases a with rfl | rfl | rfl
 ·rfl
 ·exact h.one
 ·rfl
theorem _root_.Go.RowKit.Below.behind' {w0 : World} (h : Below w.heap.size w w0) (k : Below w0.heap.size w0 w1) : Below w.heap.size w w1 := h.trans (k.mono h.size)
theorem Qjq (hf : Forest B S w) (hv : ndV S v t) (hfit : t.fits p.size) (hn : ∀ x ∈ bytesOf p, x < 16) (hp : p.size <= 1000) (hT : WayTo t p l e r') :
  Calls Tryz.prog 66 #[v, .string p] w fun x w' => Below w.heap.size w w' /\ ∃ thr v', x = .returned (.agg #[thr, v', .string r']) /\ Followed S w.heap.size w' l e thr v' := by
 have H := Hq hf
 have D := hv.shape
 obtain ⟨w0, c⟩ : ∃ w0, w.alloc (.cells #[.slice none 0 0, .nilIface, .string ⟨#[]⟩] 112) = w0 := ⟨_, rfl⟩
 have q : w0.heap.size = w.heap.size + 1 := by rw [<- c]; simp
 have g : Below w.heap.size w w0 := by rw [<- c]; exact (Below.refl _ _).alloc (Nat.le_refl _) _
 have o : w0.there w.heap.size 0 3 := by rw [<- c]; exact Qac _ _ _ _ rfl
 have E : Hid (Calls Tryz.prog 84 #[.pointer (some ⟨w0.heap.size, 0, none⟩)] (w0.alloc (.cells #[.slice none 0 0, v, .string p] 112)) fun x w' => x = .returned (.tuple #[]) /\ Below w0.heap.size w0 w' /\ ∃ thr' v' cs', Way S w0.heap.size w' w0.heap.size l e r' thr' v' cs') := by
  have z : Way S w0.heap.size (w0.alloc (.cells #[.slice none 0 0, v, .string p] 112)) w0.heap.size [] t p (.slice none 0 0) v [] := by
   exact ⟨Array.getElem?_push_size, Nat.le_refl _, hv, OwnC.nil _ _ _, by simp [Value.ownBlock], rfl⟩
  exact Qxi (hf.below g) rfl ((Below.refl w0.heap.size w0).alloc (Nat.le_refl _) _) z hfit hn hT (by simpa using hp)
 have f : Hid (w0.heap.size = w.heap.size + 1 /\ Below w.heap.size w w0 /\ w0.there w.heap.size 0 3) := ⟨q, g, o⟩
 clear hf hv hfit hn hp hT q g o
 rcases D with rfl | ⟨T, a, rfl⟩
 all_goals
  go_enter Tryz.func66, Tryz.ntmps66
  go_wp2_with fail
  refine E.out.mono ?_
  rintro x n ⟨rfl, h, thr, u, y, b⟩
  have r : n.there w.heap.size 0 3 := Qad f.out.2.2 (h.block _ (by have := f.out.1; omega))
  obtain ⟨I, J, K, -, -, -⟩ := b.cell
  obtain ⟨m, j, i, rfl⟩ := b.own.shape
  have C := Qtz b.blk
  have d : Hid (Below w.heap.size w n /\ Way S w0.heap.size n w0.heap.size l e r' (.slice m j i) u y /\ n.there w.heap.size 0 3) := ⟨f.out.2.1.behind' h, b, r⟩
  have s := Ql3 b.node m j i r'
  have G := b.node.shape
  clear h b c
  go_wp2_with (first | (refine wpList_load_mid rfl 112 _ rfl w0.heap.size 0 rfl _ _ C Tryz.underlying112 rfl Qbf ?_) | (refine wpList_store_mid rfl 112 _ _ rfl w.heap.size 0 #[.slice m j i, u, .string r'] rfl rfl r Qbf s ?_))
  refine bodyPost_ret (v := .agg #[.slice m j i, u, .string r']) (Qaj Tryz.results66 _ _ _ w.heap.size 0 rfl (run_loadVar_mid _ _ _ 112 _ _ (World.rangeAt_setCells_same _ _ _ _ d.out.2.2) Tryz.underlying112 rfl Qbf)) rfl ⟨?_, _, _, rfl, ?_⟩
  ·exact Qau d.out.1 (Nat.le_refl _) _ _
  ·refine ⟨⟨y, ?_, d.out.2.1.turns⟩, d.out.2.1.node⟩
   refine (d.out.2.1.own.mono (by have := f.out.1; omega)).keep (Nat.le_of_eq (Qa9 _ _ _ _).1.symm) fun k _ F => Qa8 _ _ _ _ _ ?_
   have := (d.out.2.1.own.block k F).1
   have := f.out.1
   omega
theorem Qb4 : (Tryz.prog.info? 42).map (·.size) = some 32 := by kernel_rfl
theorem Qho (K : Array Nat) (w : World) (hK : K.size = 32) (hb : Bytes K) :
  Calls Tryz.prog 32 #[.agg (K.toList.map encB).toArray] w fun e w' => e = .returned (.string (textB (nibs K.toList))) /\ Below w.heap.size w w' := by
 have f : K.toList.length = 32 := by simpa using hK
 have g : ∀ x ∈ K.toList, x < 256 := fun x y => by
  obtain ⟨j, v, rfl⟩ := List.getElem_of_mem y
  have := hb j
  rw [getElem!_pos K j (by simpa using v)] at this
  simpa using this
 have o := Own.ofCells w 42 K.toList (by rw [f]; unfold maxLen; omega)
 rw [f] at o
 have i := Qag (P := Tryz.prog) _ 41 9 5 Tryz.underlying41 Tryz.underlying5 Tryz.underlying9 o
 have d : (textB K.toList).size = 32 := by rw [Qaa, f]
 have c := Qa5 g
 obtain ⟨t, q⟩ : ∃ t, textB K.toList = t := ⟨_, rfl⟩
 rw [q] at i d c
 have p : Hid (bytesOf t = K.toList /\ t.size = 32) := ⟨c, d⟩
 clear o f g d c q hK hb
 go_enter Tryz.func32, Tryz.ntmps32
 go_wp2_with fail
 generalize hw0 : w.alloc (.cells (K.toList.map encB).toArray 42) = w0
 have b : Below w.heap.size w w0 := by rw [<- hw0]; exact (Below.refl _ _).alloc (Nat.le_refl _) _
 refine (Qhh (B := w0.heap.size) (l := []) t w0 (Own.nil _ _) (Nat.le_refl _) (by rw [p.out.2]; omega) (by simp)).mono ?_
 rintro e w1 ⟨C, rfl, a⟩
 rw [p.out.1, List.nil_append] at a
 have m := Qag (P := Tryz.prog) _ 41 9 5 Tryz.underlying41 Tryz.underlying5 Tryz.underlying9 a.own
 have h : Below w.heap.size w w1 := b.trans ⟨a.grown.os, a.grown.tape, a.grown.output, a.grown.size, fun k z => a.grown.block k (by have := b.size; omega) (by simp [Value.ownBlock])⟩
 have u : Hid (Below w.heap.size w w1) := h
 obtain ⟨r, n⟩ : ∃ r, textB (nibs K.toList) = r := ⟨_, rfl⟩
 rw [n] at m
 have s : Hid (textB (nibs K.toList) = r) := n
 clear a h b hw0 n i
 go_wp2
 go_ret
 exact ⟨by rw [s.out]; rfl, u.out⟩
theorem ndV.nil (h : ndV S v t) (ht : t = .no) : v = .nilIface := by
 rcases h with ⟨_, h⟩ | ⟨h, _⟩
 ·exact h
 ·exact absurd ht h
theorem ndV.full (h : ndV S v t) (ht : t ≠ .no) : ∃ b, v = .iface (ndTy t) (.pointer (some ⟨b, 0, none⟩)) /\ S b = some t := by
 rcases h with ⟨h, _⟩ | ⟨_, h⟩
 ·exact absurd h ht
 ·exact h
theorem QCd (t : Nd) (ht : ∀ h, t ≠ .stub h) (hn : t ≠ .no) (a : Addr) (w : World) : (Instr.typeAssert (.iface (ndTy t) (.pointer (some a))) 56 160 true).run Tryz.prog w = .ok (.tuple #[.pointer none, .bool false]) w := by
 cases t with
 | no => exact absurd rfl hn
 | leaf _ _ => kernel_rfl
 | ext _ _ => kernel_rfl
 | br _ => kernel_rfl
 | stub h => exact absurd rfl (ht h)
theorem Qu0 (w : World) : (Instr.typeAssert .nilIface 56 160 true).run Tryz.prog w = .ok (.tuple #[.pointer none, .bool false]) w := by kernel_rfl
theorem Qu1 (p : Option Addr) (m c : Nat) (hv : ndV S v e) (hs : ∀ h, e ≠ .stub h) :
  Calls Tryz.prog 67 #[.agg #[.slice p m c, v, .string r]] w fun x w' => x = .returned (.pointer none) /\ Below w.heap.size w w' := by
 rcases hv with ⟨rfl, rfl⟩ | ⟨hne, b, rfl, hb⟩
 ·have a := Qu0
  go_enter Tryz.func67, Tryz.ntmps67
  go_wp2
  go_ret
  exact ⟨rfl, (Below.refl _ _).alloc (Nat.le_refl _) _⟩
 ·have a := QCd e hs hne
  clear hb hs
  go_enter Tryz.func67, Tryz.ntmps67
  go_wp2
  go_ret
  exact ⟨rfl, (Below.refl _ _).alloc (Nat.le_refl _) _⟩
theorem Followed.on (h : Followed S C w l e thr v) (hs : w.heap.size <= w'.heap.size) (hb : ∀ k, k < w.heap.size -> C <= k -> w'.heap[k]? = w.heap[k]?) : Followed S C w' l e thr v := by
 obtain ⟨⟨b, a, c⟩, d⟩ := h
 exact ⟨⟨b, a.keep hs fun k g f => hb k g (a.block k f).1, c⟩, d⟩
theorem Followed.mono {S : Wood} {C C' : Nat} {w : World} {l : List (Nd × ByteArray)} {e : Nd} {thr v : Value} (h : Followed S C w l e thr v) (hc : C' <= C) : Followed S C' w l e thr v := by
 obtain ⟨⟨a, b, c⟩, d⟩ := h
 exact ⟨⟨a, b.mono hc, c⟩, d⟩
def WayPut (S : Wood) (W0 : World) (l : List (Nd × ByteArray)) (e : Nd) (r : ByteArray) (g : Nat) (thr v : Value) (wc : World) : Prop :=
 wc.rangeAt g 0 [thr, v, .string r] /\ g < wc.heap.size /\ Followed S W0.heap.size wc l e thr v /\ Below W0.heap.size W0 wc
theorem Qfz {W0 : World} (h : Followed S C w2 l e thr v) (hC : W0.heap.size <= C) (hb : Below W0.heap.size W0 w2) : WayPut S W0 l e r w2.heap.size thr v (w2.alloc (.cells #[thr, v, .string r] 112)) := by
 refine ⟨fun j u b => ?_, by simp, (h.mono hC).on (by simp) fun k a _ => Below.heap_alloc _ _ _ a, hb.alloc hb.size _⟩
 rw [Nat.zero_add, World.cell?_alloc_new]
 simpa using b
theorem Qcf {W0 W2 : World} {g : Nat} (h : Followed S C w2 l e thr v) (hC : W0.heap.size <= C) (hb : Below W0.heap.size W0 w2) (hg : g < C) (hW : Below W2.heap.size W2 w2) (hgW : g < W2.heap.size) (hth : W2.there g 0 3) (hg0 : W0.heap.size <= g) : WayPut S W0 l e r g thr v (((w2.setCell ⟨g, 0, none⟩ thr).setCell ⟨g, 1, none⟩ v).setCell ⟨g, 2, none⟩ (.string r)) := by
 have d := hW.size
 have b : ∀ k, k ≠ g -> (((w2.setCell ⟨g, 0, none⟩ thr).setCell ⟨g, 1, none⟩ v).setCell ⟨g, 2, none⟩ (.string r)).heap[k]? = w2.heap[k]? := fun k a => (Below.heap_setCell _ _ _ _ a).trans ((Below.heap_setCell _ _ _ _ a).trans (Below.heap_setCell _ _ _ _ a))
 refine ⟨World.rangeAt_setCells_same w2 g 0 [thr, v, .string r] (Qad hth (hW.block g hgW)), by simp; omega, (h.on (by simp) fun k _ c => b k (by omega)).mono hC, ((hb.setCell (p := ⟨g, 0, none⟩) hg0 _).setCell (p := ⟨g, 1, none⟩) hg0 _).setCell (p := ⟨g, 2, none⟩) hg0 _⟩
theorem Ql4 {K : Array Nat} (hf : Forest B S w) (ht : TreeAt S w b t) (hK : K.size = 32) (hKb : Bytes K) (hp : textB (nibs K.toList) = p) (hfit : t.fits p.size) (hn : ∀ x ∈ bytesOf p, x < 16) (hps : p.size <= 1000) (hT : WayTo t p l e r') (hs : ∀ h, e ≠ .stub h) :
  Calls Tryz.prog 47 #[.pointer (some ⟨b, 0, none⟩), .agg (K.toList.map encB).toArray] w fun x w' => Below w.heap.size w w' /\ ∃ thr v', x = .returned (.tuple #[.agg #[thr, v', .string r'], .nilIface]) /\ Followed S w.heap.size w' l e thr v' := by
 have ae := ht.lt
 obtain ⟨v, hv, c0, -⟩ := ht.cell
 have HF := Hq hf
 have HS := Hq hs
 have hk := Qho K
 rw [hp] at hk
 have HK : Hid (∀ W, Calls Tryz.prog 32 #[.agg (K.toList.map encB).toArray] W fun e w' => e = .returned (.string p) /\ Below W.heap.size W w') := fun W => hk W hK hKb
 have HW : Hid (∀ W, Below w.heap.size w W -> Calls Tryz.prog 66 #[v, .string p] W fun x w' => Below W.heap.size W w' /\ ∃ thr v', x = .returned (.agg #[thr, v', .string r']) /\ Followed S W.heap.size w' l e thr v') := fun W hW => Qjq (hf.below hW) hv hfit hn hps hT
 have O : ∀ o, ((w.alloc (.cells (K.toList.map encB).toArray 42)).alloc o).rangeAt w.heap.size 0 (K.toList.map encB) := fun o j u P => by
  rw [World.cell?_alloc_past _ _ _ (by simp), Nat.zero_add, World.cell?_alloc_new]
  simpa using P
 have ah : (Tryz.prog.info? 42).map (·.size) = some (K.toList.map encB).length := by rw [Qb4]; simp [hK]
 clear hf ht hv hK hKb hp hfit hn hps hT hs hk
 by_cases he : e = .no
 ·go_enter Tryz.func47, Tryz.ntmps47
  go_upto_region 1 with fail
  have G := O (.cells #[.slice none 0 0, .nilIface, .string ⟨#[]⟩] 112)
  have E : Below w.heap.size w ((w.alloc (.cells (K.toList.map encB).toArray 42)).alloc (.cells #[.slice none 0 0, .nilIface, .string ⟨#[]⟩] 112)) := ((Below.refl _ _).alloc (Nat.le_refl _) _).alloc (by simp) _
  have H : ((w.alloc (.cells (K.toList.map encB).toArray 42)).alloc (.cells #[.slice none 0 0, .nilIface, .string ⟨#[]⟩] 112)).heap.size = w.heap.size + 2 := by simp
  have I : ((w.alloc (.cells (K.toList.map encB).toArray 42)).alloc (.cells #[.slice none 0 0, .nilIface, .string ⟨#[]⟩] 112)).there (w.heap.size + 1) 0 3 := by
   have := Qac (w.alloc (.cells (K.toList.map encB).toArray 42)) #[.slice none 0 0, .nilIface, .string ⟨#[]⟩] 112 3 rfl
   simpa using this
  generalize (w.alloc (.cells (K.toList.map encB).toArray 42)).alloc (.cells #[.slice none 0 0, .nilIface, .string ⟨#[]⟩] 112) = W0 at G E H I ⊢
  have Z := (E.cell (p := ⟨b, 0, none⟩) ae).trans c0
  have i : Hid (Below w.heap.size w W0 /\ W0.heap.size = w.heap.size + 2 /\ W0.there (w.heap.size + 1) 0 3) := ⟨E, H, I⟩
  have f : Hid (∀ N, Below W0.heap.size W0 N -> N.cell? ⟨b, 0, none⟩ = some v /\ N.rangeAt w.heap.size 0 (K.toList.map encB)) := fun N h => ⟨(h.cell (p := ⟨b, 0, none⟩) (by have := i.out.2.1; show b < _; omega)).trans Z, fun j u P => (h.cell (p := ⟨w.heap.size, 0 + j, none⟩) (by have := i.out.2.1; show w.heap.size < _; omega)).trans (G j u P)⟩
  have n : Below W0.heap.size W0 W0.drew := (Below.refl _ _).drew
  clear O E H I c0
  have ag := Tryz.underlying42
  go_cut [6] (fun v6 wc => ∃ g thr v', v6 = .pointer (some ⟨g, 0, none⟩) /\ WayPut S W0 l e r' g thr v' wc)
  case first =>
   go_region_held3 (fun w' => w'.cell? ⟨b, 0, none⟩ = some v /\ w'.rangeAt w.heap.size 0 (K.toList.map encB)) (first | exact f.out _ n | exact f.out _ (n.alloc (Nat.le_refl _) _) | exact f.out _ a | exact f.out _ (a.alloc a.size _) | exact f.out _ m | exact f.out _ (m.alloc m.size _) | exact f.out _ (((m.setCell (p := ⟨w1.heap.size, 0, none⟩) a.size _).setCell (p := ⟨w1.heap.size, 1, none⟩) a.size _).setCell (p := ⟨w1.heap.size, 2, none⟩) a.size _) | exact f.out _ (((m.setCell (p := ⟨W0.heap.size, 0, none⟩) (Nat.le_refl _) _).setCell (p := ⟨W0.heap.size, 1, none⟩) (Nat.le_refl _) _).setCell (p := ⟨W0.heap.size, 2, none⟩) (Nat.le_refl _) _))
    (first | (go_at_call 32; refine (HK.out _).mono ?_; rintro e w1 ⟨rfl, d⟩; have a : Below W0.heap.size W0 w1 := (by first | exact n.trans d | exact (n.alloc (Nat.le_refl _) _).trans (d.mono (by simp))); have y0 := (fun h => d.cell (p := ⟨W0.heap.size, 0, none⟩) h); have y1 := (fun h => d.cell (p := ⟨W0.heap.size, 1, none⟩) h); have y2 := (fun h => d.cell (p := ⟨W0.heap.size, 2, none⟩) h); have k0 := (fun h => d.frozen (p := ⟨W0.heap.size, 0, none⟩) h); have k1 := (fun h => d.frozen (p := ⟨W0.heap.size, 1, none⟩) h); have k2 := (fun h => d.frozen (p := ⟨W0.heap.size, 2, none⟩) h); have s1 := (fun (h : W0.heap.size < _) => Nat.lt_of_lt_of_le h d.size); have R := Hq d; clear d) | (go_at_call 66; refine (HW.out _ (i.out.1.behind' (by first | exact a | exact a.alloc a.size _))).mono ?_; rintro e w2 ⟨c, thr, J, rfl, D⟩; have m : Below W0.heap.size W0 w2 := (by first | exact a.trans (c.mono a.size) | exact (a.alloc a.size _).trans (c.mono (Nat.le_trans a.size (by simp)))); have Y0 := (fun h => c.cell (p := ⟨W0.heap.size, 0, none⟩) h); have Y1 := (fun h => c.cell (p := ⟨W0.heap.size, 1, none⟩) h); have Y2 := (fun h => c.cell (p := ⟨W0.heap.size, 2, none⟩) h); have K0 := (fun h => c.frozen (p := ⟨W0.heap.size, 0, none⟩) h); have K1 := (fun h => c.frozen (p := ⟨W0.heap.size, 1, none⟩) h); have K2 := (fun h => c.frozen (p := ⟨W0.heap.size, 2, none⟩) h); have X0 := (fun h => c.cell (p := ⟨w1.heap.size, 0, none⟩) h); have X1 := (fun h => c.cell (p := ⟨w1.heap.size, 1, none⟩) h); have X2 := (fun h => c.cell (p := ⟨w1.heap.size, 2, none⟩) h); have J0 := (fun h => c.frozen (p := ⟨w1.heap.size, 0, none⟩) h); have J1 := (fun h => c.frozen (p := ⟨w1.heap.size, 1, none⟩) h); have J2 := (fun h => c.frozen (p := ⟨w1.heap.size, 2, none⟩) h); obtain ⟨C, z, y, rfl⟩ := D.shape; obtain rfl := D.node.nil he; have F := Hq D; have T := Hq c; clear c D))
   all_goals (try go_wp2)
   all_goals go_meet
   ·exact ⟨_, _, _, rfl, Qfz F.out a.size m⟩
   ·exact ⟨_, _, _, rfl, Qcf F.out (Nat.le_trans a.size (by simp)) m (by simp) T.out (by simp) (Qac _ _ _ _ rfl) a.size⟩
   ·exact ⟨_, _, _, rfl, Qcf F.out a.size m (Nat.lt_of_lt_of_le (by simp) R.out.size) (R.out.behind' T.out) (by simp) (Qac W0.drew _ _ _ rfl) (Nat.le_refl _)⟩
  case rest =>
   obtain ⟨g, thr, J, rfl, q⟩ := hcut
   have ac : wc.there (w.heap.size + 1) 0 3 := Qad i.out.2.2 (q.2.2.2.block _ (by have := i.out.2.1; omega))
   have U := q.1
   have aa := q.2.1
   obtain ⟨C, z, y, rfl⟩ := q.2.2.1.shape
   have V := Ql3 q.2.2.1.node C z y r'
   have HM := Hq (Qu1 (w := wc) (r := r') C z y q.2.2.1.node HS.out)
   have M := Hq q
   clear q HK HW f n Z G
   go_wp2_with (first | (refine wpList_load_mid rfl 112 _ rfl g 0 rfl _ _ U Tryz.underlying112 rfl Qbf ?_) | (go_at_call 67; refine HM.out.mono ?_; rintro x Q ⟨rfl, s⟩; have X : Q.rangeAt g 0 [.slice C z y, J, .string r'] := (fun j u P => (s.cell (p := ⟨g, 0 + j, none⟩) aa).trans (U j u P)); have L : Hid (Below w.heap.size w Q /\ Q.there (w.heap.size + 1) 0 3 /\ Followed S W0.heap.size Q l e (.slice C z y) J) := ⟨i.out.1.behind' (M.out.2.2.2.trans (s.mono M.out.2.2.2.size)), Qad ac (s.block _ (by have := i.out.2.1; have := M.out.2.2.2.size; omega)), M.out.2.2.1.keep s⟩; have Y := L.out.2.1; clear s) | (refine wpList_load_mid rfl 112 _ rfl g 0 rfl _ _ X Tryz.underlying112 rfl Qbf ?_) | (refine wpList_store_mid rfl 112 _ _ rfl (w.heap.size + 1) 0 #[.slice C z y, J, .string r'] rfl rfl Y Qbf V ?_))
   refine bodyPost_ret (v := .tuple #[.agg #[.slice C z y, J, .string r'], .nilIface]) (Qf2 Tryz.results47 _ _ _ (w.heap.size + 1) 0 rfl (run_loadVar_mid _ _ _ 112 _ _ (World.rangeAt_setCells_same _ _ _ _ L.out.2.1) Tryz.underlying112 rfl Qbf)) rfl ⟨?_, _, _, rfl, ?_⟩
   ·exact Qau L.out.1 (by omega) _ _
   ·exact (L.out.2.2.on (Nat.le_of_eq (Qa9 _ _ _ _).1.symm) fun k _ hk => Qa8 _ _ _ _ _ (by have := i.out.2.1; omega)).mono (by have := i.out.2.1; omega)
 ·go_enter Tryz.func47, Tryz.ntmps47
  go_upto_region 1 with fail
  have G := O (.cells #[.slice none 0 0, .nilIface, .string ⟨#[]⟩] 112)
  have E : Below w.heap.size w ((w.alloc (.cells (K.toList.map encB).toArray 42)).alloc (.cells #[.slice none 0 0, .nilIface, .string ⟨#[]⟩] 112)) := ((Below.refl _ _).alloc (Nat.le_refl _) _).alloc (by simp) _
  have H : ((w.alloc (.cells (K.toList.map encB).toArray 42)).alloc (.cells #[.slice none 0 0, .nilIface, .string ⟨#[]⟩] 112)).heap.size = w.heap.size + 2 := by simp
  have I : ((w.alloc (.cells (K.toList.map encB).toArray 42)).alloc (.cells #[.slice none 0 0, .nilIface, .string ⟨#[]⟩] 112)).there (w.heap.size + 1) 0 3 := by
   have := Qac (w.alloc (.cells (K.toList.map encB).toArray 42)) #[.slice none 0 0, .nilIface, .string ⟨#[]⟩] 112 3 rfl
   simpa using this
  generalize (w.alloc (.cells (K.toList.map encB).toArray 42)).alloc (.cells #[.slice none 0 0, .nilIface, .string ⟨#[]⟩] 112) = W0 at G E H I ⊢
  have Z := (E.cell (p := ⟨b, 0, none⟩) ae).trans c0
  have i : Hid (Below w.heap.size w W0 /\ W0.heap.size = w.heap.size + 2 /\ W0.there (w.heap.size + 1) 0 3) := ⟨E, H, I⟩
  have f : Hid (∀ N, Below W0.heap.size W0 N -> N.cell? ⟨b, 0, none⟩ = some v /\ N.rangeAt w.heap.size 0 (K.toList.map encB)) := fun N h => ⟨(h.cell (p := ⟨b, 0, none⟩) (by have := i.out.2.1; show b < _; omega)).trans Z, fun j u P => (h.cell (p := ⟨w.heap.size, 0 + j, none⟩) (by have := i.out.2.1; show w.heap.size < _; omega)).trans (G j u P)⟩
  have n : Below W0.heap.size W0 W0.drew := (Below.refl _ _).drew
  clear O E H I c0
  have ag := Tryz.underlying42
  go_cut [6] (fun v6 wc => ∃ g thr v', v6 = .pointer (some ⟨g, 0, none⟩) /\ WayPut S W0 l e r' g thr v' wc)
  case first =>
   go_region_held3 (fun w' => w'.cell? ⟨b, 0, none⟩ = some v /\ w'.rangeAt w.heap.size 0 (K.toList.map encB)) (first | exact f.out _ n | exact f.out _ (n.alloc (Nat.le_refl _) _) | exact f.out _ a | exact f.out _ (a.alloc a.size _) | exact f.out _ m | exact f.out _ (m.alloc m.size _) | exact f.out _ (((m.setCell (p := ⟨w1.heap.size, 0, none⟩) a.size _).setCell (p := ⟨w1.heap.size, 1, none⟩) a.size _).setCell (p := ⟨w1.heap.size, 2, none⟩) a.size _) | exact f.out _ (((m.setCell (p := ⟨W0.heap.size, 0, none⟩) (Nat.le_refl _) _).setCell (p := ⟨W0.heap.size, 1, none⟩) (Nat.le_refl _) _).setCell (p := ⟨W0.heap.size, 2, none⟩) (Nat.le_refl _) _))
    (first | (go_at_call 32; refine (HK.out _).mono ?_; rintro e w1 ⟨rfl, d⟩; have a : Below W0.heap.size W0 w1 := (by first | exact n.trans d | exact (n.alloc (Nat.le_refl _) _).trans (d.mono (by simp))); have y0 := (fun h => d.cell (p := ⟨W0.heap.size, 0, none⟩) h); have y1 := (fun h => d.cell (p := ⟨W0.heap.size, 1, none⟩) h); have y2 := (fun h => d.cell (p := ⟨W0.heap.size, 2, none⟩) h); have k0 := (fun h => d.frozen (p := ⟨W0.heap.size, 0, none⟩) h); have k1 := (fun h => d.frozen (p := ⟨W0.heap.size, 1, none⟩) h); have k2 := (fun h => d.frozen (p := ⟨W0.heap.size, 2, none⟩) h); have s1 := (fun (h : W0.heap.size < _) => Nat.lt_of_lt_of_le h d.size); have R := Hq d; clear d) | (go_at_call 66; refine (HW.out _ (i.out.1.behind' (by first | exact a | exact a.alloc a.size _))).mono ?_; rintro e w2 ⟨c, thr, J, rfl, D⟩; have m : Below W0.heap.size W0 w2 := (by first | exact a.trans (c.mono a.size) | exact (a.alloc a.size _).trans (c.mono (Nat.le_trans a.size (by simp)))); have Y0 := (fun h => c.cell (p := ⟨W0.heap.size, 0, none⟩) h); have Y1 := (fun h => c.cell (p := ⟨W0.heap.size, 1, none⟩) h); have Y2 := (fun h => c.cell (p := ⟨W0.heap.size, 2, none⟩) h); have K0 := (fun h => c.frozen (p := ⟨W0.heap.size, 0, none⟩) h); have K1 := (fun h => c.frozen (p := ⟨W0.heap.size, 1, none⟩) h); have K2 := (fun h => c.frozen (p := ⟨W0.heap.size, 2, none⟩) h); have X0 := (fun h => c.cell (p := ⟨w1.heap.size, 0, none⟩) h); have X1 := (fun h => c.cell (p := ⟨w1.heap.size, 1, none⟩) h); have X2 := (fun h => c.cell (p := ⟨w1.heap.size, 2, none⟩) h); have J0 := (fun h => c.frozen (p := ⟨w1.heap.size, 0, none⟩) h); have J1 := (fun h => c.frozen (p := ⟨w1.heap.size, 1, none⟩) h); have J2 := (fun h => c.frozen (p := ⟨w1.heap.size, 2, none⟩) h); obtain ⟨C, z, y, rfl⟩ := D.shape; obtain ⟨d2, rfl, -⟩ := D.node.full he; have F := Hq D; have T := Hq c; clear c D))
   all_goals (try go_wp2)
   all_goals go_meet
   ·exact ⟨_, _, _, rfl, Qfz F.out a.size m⟩
   ·exact ⟨_, _, _, rfl, Qcf F.out (Nat.le_trans a.size (by simp)) m (by simp) T.out (by simp) (Qac _ _ _ _ rfl) a.size⟩
   ·exact ⟨_, _, _, rfl, Qcf F.out a.size m (Nat.lt_of_lt_of_le (by simp) R.out.size) (R.out.behind' T.out) (by simp) (Qac W0.drew _ _ _ rfl) (Nat.le_refl _)⟩
  case rest =>
   obtain ⟨g, thr, J, rfl, q⟩ := hcut
   have ac : wc.there (w.heap.size + 1) 0 3 := Qad i.out.2.2 (q.2.2.2.block _ (by have := i.out.2.1; omega))
   have U := q.1
   have aa := q.2.1
   obtain ⟨C, z, y, rfl⟩ := q.2.2.1.shape
   have V := Ql3 q.2.2.1.node C z y r'
   have HM := Hq (Qu1 (w := wc) (r := r') C z y q.2.2.1.node HS.out)
   have M := Hq q
   clear q HK HW f n Z G
   go_wp2_with (first | (refine wpList_load_mid rfl 112 _ rfl g 0 rfl _ _ U Tryz.underlying112 rfl Qbf ?_) | (go_at_call 67; refine HM.out.mono ?_; rintro x Q ⟨rfl, s⟩; have X : Q.rangeAt g 0 [.slice C z y, J, .string r'] := (fun j u P => (s.cell (p := ⟨g, 0 + j, none⟩) aa).trans (U j u P)); have L : Hid (Below w.heap.size w Q /\ Q.there (w.heap.size + 1) 0 3 /\ Followed S W0.heap.size Q l e (.slice C z y) J) := ⟨i.out.1.behind' (M.out.2.2.2.trans (s.mono M.out.2.2.2.size)), Qad ac (s.block _ (by have := i.out.2.1; have := M.out.2.2.2.size; omega)), M.out.2.2.1.keep s⟩; have Y := L.out.2.1; clear s) | (refine wpList_load_mid rfl 112 _ rfl g 0 rfl _ _ X Tryz.underlying112 rfl Qbf ?_) | (refine wpList_store_mid rfl 112 _ _ rfl (w.heap.size + 1) 0 #[.slice C z y, J, .string r'] rfl rfl Y Qbf V ?_))
   refine bodyPost_ret (v := .tuple #[.agg #[.slice C z y, J, .string r'], .nilIface]) (Qf2 Tryz.results47 _ _ _ (w.heap.size + 1) 0 rfl (run_loadVar_mid _ _ _ 112 _ _ (World.rangeAt_setCells_same _ _ _ _ L.out.2.1) Tryz.underlying112 rfl Qbf)) rfl ⟨?_, _, _, rfl, ?_⟩
   ·exact Qau L.out.1 (by omega) _ _
   ·exact (L.out.2.2.on (Nat.le_of_eq (Qa9 _ _ _ _).1.symm) fun k _ hk => Qa8 _ _ _ _ _ (by have := i.out.2.1; omega)).mono (by have := i.out.2.1; omega)
end Go.Proofs.YtakidhihbgfjlaaGreatDoor
