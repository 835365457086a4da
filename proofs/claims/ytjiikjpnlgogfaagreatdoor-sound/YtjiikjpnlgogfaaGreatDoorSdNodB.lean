/-
  Nodes are made: with, fork, under.
  How many nibbles two paths have in common; whether one begins with the other.
  Whether a path begins with another; where a way goes on from an extension and from a branch (next).
  Ways: a way in memory; a step.
  Ways: where the way of a path ends; goOn, follow.
  Ways: follow; met.
  A key's path; a way meets no stub; the way of a key in a tree.
-/
import Derived.Test.YtjiikjpnlgogfaaGreatDoorSdNodA
import Derived.Test.YtjiikjpnlgogfaaGreatDoorSdBarG
import Derived.Stop.Asserts
namespace Go.Proofs.YtjiikjpnlgogfaaGreatDoor
open Go.RowKit
theorem heap_setCell_list {w : World} {b : Nat} {cs : List Value} {t : TypeId} {fz : Nat × Nat} (h : w.heap[b]? = some (.cells cs.toArray t fz)) (o : Nat) (u : Value) : (w.setCell ⟨b, o, none⟩ u).heap[b]? = some (.cells (cs.set o u).toArray t fz) := by
 unfold World.setCell
 simp only [Array.getElem?_modify, h]
 simp
theorem heap_setCells_list {b : Nat} {t : TypeId} {fz : Nat × Nat} : ∀ (vs pre olds post : List Value) (w : World), olds.length = vs.length → w.heap[b]? = some (.cells (pre ++ olds ++ post).toArray t fz) → (w.setCells b pre.length vs).heap[b]? = some (.cells (pre ++ vs ++ post).toArray t fz)
 | [], pre, olds, post, w, h, hb => by
  obtain rfl : olds = [] := List.eq_nil_of_length_eq_zero (by simpa using h)
  exact hb
 | v :: vs, pre, [], post, w, h, hb => by simp at h
 | v :: vs, pre, x :: olds, post, w, h, hb => by
  have h1 := heap_setCell_list hb pre.length v
  have e1 : (pre ++ x :: olds ++ post).set pre.length v = (pre ++ [v]) ++ olds ++ post := by simp
  rw [e1] at h1
  have h2 := heap_setCells_list vs (pre ++ [v]) olds post (w.setCell ⟨b, pre.length, none⟩ v) (by simpa using h) h1
  rw [World.setCells]
  have e2 : (pre ++ [v]).length = pre.length + 1 := by simp
  rw [e2] at h2
  simpa using h2
theorem Fr.fresh {B : Nat} {S : Wood} {w Y : World} (hf : Forest B S w) (hb : Below w.heap.size w Y) {c : Nat} (hc : w.heap.size ≤ c) {t : Nd} {h : ByteArray} {r : List Value} (hh : heldOK t h) (hr : NdRest S t r) (ht : t.ok) (hY : Y.heap[c]? = some (.cells (.string h :: r).toArray (ndObj t) (0, 0))) : Fr B S (S.put c t) w Y := by
 have hsub : ∀ b u, S b = some u → S.put c t b = some u := fun b u hb => by
  have := hf.lt hb
  rw [Wood.put_other _ _ _ (by omega)]
  exact hb
 have hle := hf.le
 refine ⟨hb.os, hb.tape, hb.output, hb.size, fun k hk _ => hb.block k hk, ⟨fun k u hk => ?_, fun k u hk => ?_, fun k u hk => ?_, Nat.le_trans hle hb.size⟩, hsub, fun k hk h => by rw [Wood.put_other _ _ _ (by omega)]; exact h, fun k u hk j _ => hb.cell (p := ⟨k, j, none⟩) (hf.lt hk)⟩
 ·by_cases e : k = c
  ·subst e
   rw [Wood.put_same] at hk
   obtain rfl := Option.some.inj hk
   exact ⟨h, r, hh, hr.sub hsub, hY⟩
  ·rw [Wood.put_other _ _ _ e] at hk
   obtain ⟨g, r', h1, h2, h3⟩ := hf.node k u hk
   exact ⟨g, r', h1, h2.sub hsub, (hb.block k (hf.lt hk)).trans h3⟩
 ·by_cases e : k = c
  ·subst e
   rw [Wood.put_same] at hk
   obtain rfl := Option.some.inj hk
   exact ht
  ·rw [Wood.put_other _ _ _ e] at hk
   exact hf.ok k u hk
 ·by_cases e : k = c
  ·omega
  ·rw [Wood.put_other _ _ _ e] at hk
   exact hf.low k u hk
theorem heldOK.empty {t : Nd} (h : ∀ x, t ≠ .stub x) : heldOK t ⟨#[]⟩ := .inr ⟨rfl, h⟩
theorem ndV.shape {S : Wood} {v : Value} {t : Nd} (h : ndV S v t) : v = .nilIface ∨ ∃ T a, v = .iface T (.pointer (some a)) := by
 rcases h with ⟨_, rfl⟩ | ⟨_, b, rfl, _⟩
 ·exact .inl rfl
 ·exact .inr ⟨_, _, rfl⟩
theorem ndV.one {S : Wood} {v : Value} {t : Nd} (h : ndV S v t) : v.oneCell' = true := by
 rcases h.shape with rfl | ⟨T, a, rfl⟩ <;> rfl
def Kids (S : Wood) (r : List Value) (ks : List Nd) : Prop := r.length = 16 ∧ ks.length = 16 ∧ ∀ i (h1 : i < r.length) (h2 : i < ks.length), ndV S r[i] ks[i]
theorem Kids.set {S : Wood} {r : List Value} {ks : List Nd} (h : Kids S r ks) (n : Nat) {v : Value} {t : Nd} (hv : ndV S v t) : Kids S (r.set n v) (ks.set n t) := by
 refine ⟨by simp [h.1], by simp [h.2.1], fun i h1 h2 => ?_⟩
 rw [List.getElem_set, List.getElem_set]
 split
 ·exact hv
 ·exact h.2.2 i (by simpa using h1) (by simpa using h2)
theorem Kids.one {S : Wood} {r : List Value} {ks : List Nd} (h : Kids S r ks) : ∀ u ∈ r, u.oneCell' = true := fun u hu => by
 obtain ⟨i, hi, rfl⟩ := List.getElem_of_mem hu
 exact (h.2.2 i hi (by have := h.1; have := h.2.1; omega)).one
def z17 : List Value := [.string ⟨#[]⟩, .nilIface, .nilIface, .nilIface, .nilIface, .nilIface, .nilIface, .nilIface, .nilIface, .nilIface, .nilIface, .nilIface, .nilIface, .nilIface, .nilIface, .nilIface, .nilIface]
theorem len16 (r : List Value) (h : r.length = 16) : ∃ a0 a1 a2 a3 a4 a5 a6 a7 a8 a9 a10 a11 a12 a13 a14 a15, r = [a0, a1, a2, a3, a4, a5, a6, a7, a8, a9, a10, a11, a12, a13, a14, a15] := by
 match r, h with
 | [a0, a1, a2, a3, a4, a5, a6, a7, a8, a9, a10, a11, a12, a13, a14, a15], _ => exact ⟨_, _, _, _, _, _, _, _, _, _, _, _, _, _, _, _, rfl⟩
theorem with_cell {w1 : World} {c n : Nat} {r : List Value} {t : TypeId} {h : Value} (hw : w1.heap[c]? = some (.cells (h :: r).toArray t (0, 0))) (hn : n < r.length) (_ : True) : w1.cell? ⟨c, 1 + n, none⟩ = some r[n] := by
 simp [World.cell?, hw, Nat.add_comm 1 n, hn]
theorem with_free {w1 : World} {c n : Nat} {r : List Value} {t : TypeId} {h : Value} (hw : w1.heap[c]? = some (.cells (h :: r).toArray t (0, 0))) (_ : True) : w1.frozen? ⟨c, 1 + n, none⟩ = false := by
 simp [World.frozen?, hw]
theorem with_end {B : Nat} {S : Wood} {w w1 : World} {n : Nat} {r : List Value} {ks : List Nd} {v : Value} {t : Nd} (hf : Forest B S w) (hv : ndV S v t) (hk : Kids S r ks) (hok : (Nd.br (ks.set n t)).ok) (hw : w1.heap[w.heap.size]? = some (.cells (.string ⟨#[]⟩ :: r).toArray 397 (0, 0))) (hb : Below w.heap.size w w1) : Fr B S (S.put w.heap.size (.br (ks.set n t))) w (w1.setCell ⟨w.heap.size, 1 + n, none⟩ v) := by
 have h1 := heap_setCell_list hw (1 + n) v
 rw [Nat.add_comm 1 n, List.set_cons_succ] at h1
 have hk' := hk.set n hv
 refine Fr.fresh (r := r.set n v) hf (hb.setCell (p := ⟨w.heap.size, 1 + n, none⟩) (Nat.le_refl _) _) (Nat.le_refl _) (heldOK.empty (by simp)) ⟨hk'.1, hk'.2.2⟩ hok ?_
 rw [Nat.add_comm 1 n]
 exact h1
set_option maxRecDepth 100000 in
set_option maxHeartbeats 1600000 in
theorem with_any {B : Nat} {S : Wood} {w : World} {b n : Nat} {r : List Value} {ks : List Nd} {v : Value} {t : Nd} (hf : Forest B S w) (rg : w.rangeAt b 1 r) (hk : Kids S r ks) (hn : n < 16) (hv : ndV S v t) (hok : (Nd.br (ks.set n t)).ok) :
  Calls Tryz.prog 300 #[.pointer (some ⟨b, 0, none⟩), .int .u8 (n : Int), v] w fun e w' => ∃ c, e = .returned (.pointer (some ⟨c, 0, none⟩)) ∧ w.heap.size ≤ c ∧ Fr B S (S.put c (.br (ks.set n t))) w w' := by
 obtain ⟨a0, a1, a2, a3, a4, a5, a6, a7, a8, a9, a10, a11, a12, a13, a14, a15, hr⟩ := len16 r hk.1
 have hsz : (Tryz.prog.info? 395).map (·.size) = some [a0, a1, a2, a3, a4, a5, a6, a7, a8, a9, a10, a11, a12, a13, a14, a15].length := by kernel_rfl
 rw [hr] at rg
 have hAl : (#[.string ⟨#[]⟩, a0, a1, a2, a3, a4, a5, a6, a7, a8, a9, a10, a11, a12, a13, a14, a15] : Array Value) = (Value.string ⟨#[]⟩ :: r).toArray := by rw [hr]
 have hone : (#[.string ⟨#[]⟩, a0, a1, a2, a3, a4, a5, a6, a7, a8, a9, a10, a11, a12, a13, a14, a15] : Array Value).all (·.oneCell') = true := by
  rw [hAl]
  refine all_oneCell_toArray fun u hu => ?_
  rcases List.mem_cons.1 hu with rfl | hu
  ·rfl
  ·exact hk.one u hu
 have hsz2 : (Tryz.prog.info? 397).map (·.size) = some (#[.string ⟨#[]⟩, a0, a1, a2, a3, a4, a5, a6, a7, a8, a9, a10, a11, a12, a13, a14, a15] : Array Value).size := by kernel_rfl
 have hni : (n : Int) < 16 := by omega
 have hth : (w.alloc (.cells z17.toArray 397)).there w.heap.size 0 (#[.string ⟨#[]⟩, a0, a1, a2, a3, a4, a5, a6, a7, a8, a9, a10, a11, a12, a13, a14, a15] : Array Value).size := there_new _ _ _ _ rfl
 have HX : Hid (((w.alloc (.cells z17.toArray 397)).setCells w.heap.size 0 (#[.string ⟨#[]⟩, a0, a1, a2, a3, a4, a5, a6, a7, a8, a9, a10, a11, a12, a13, a14, a15] : Array Value).toList).heap[w.heap.size]? = some (.cells (.string ⟨#[]⟩ :: r).toArray 397 (0, 0)) ∧ Below w.heap.size w ((w.alloc (.cells z17.toArray 397)).setCells w.heap.size 0 (#[.string ⟨#[]⟩, a0, a1, a2, a3, a4, a5, a6, a7, a8, a9, a10, a11, a12, a13, a14, a15] : Array Value).toList)) := by
  refine ⟨?_, below_setCells ((Below.refl _ _).alloc (Nat.le_refl _) _) (Nat.le_refl _) _ _⟩
  rw [hAl]
  have := heap_setCells_list (b := w.heap.size) (t := 397) (fz := (0, 0)) (.string ⟨#[]⟩ :: r) [] z17 [] (w.alloc (.cells z17.toArray 397)) (by simp [hk.1, z17]) (by
   show (w.heap.push _)[w.heap.size]? = some _
   rw [Array.getElem?_push_size]
   rfl)
  simpa using this
 simp only [z17] at hth HX
 have HV := Hid.hide hv
 have HK := Hid.hide hk
 have HF := Hid.hide hf
 have HO := Hid.hide hok
 have hvs := hv.shape
 have HN := Hid.hide hn
 clear hAl hv hk hf hok hr hn
 rcases hvs with rfl | ⟨T, a, rfl⟩
 all_goals go_enter Tryz.func300, Tryz.ntmps300
 all_goals go_wp2_with (first | (refine wpList_load_mid rfl 395 _ rfl b 1 rfl _ _ rg Tryz.underlying395 rfl hsz ?_) | (refine wpList_store_mid rfl 397 _ _ rfl w.heap.size 0 #[.string ⟨#[]⟩, a0, a1, a2, a3, a4, a5, a6, a7, a8, a9, a10, a11, a12, a13, a14, a15] rfl rfl hth hsz2 hone ?_; generalize hX : World.setCells _ w.heap.size 0 _ = w1; have HW1 : Hid (w1.heap[w.heap.size]? = some (.cells (.string ⟨#[]⟩ :: r).toArray 397 (0, 0)) ∧ Below w.heap.size w w1) := hX ▸ HX.out; have e1 : w1.cell? ⟨w.heap.size, 1 + n, none⟩ = some (r[n]'(by have := HK.out.1; have := HN.out; omega)) := with_cell HW1.out.1 _ trivial; have e2 : w1.frozen? ⟨w.heap.size, 1 + n, none⟩ = false := with_free HW1.out.1 trivial; clear hX HX hth hone hsz2))
 all_goals
  go_ret
  refine ⟨w.heap.size, rfl, Nat.le_refl _, ?_⟩
  exact with_end HF.out HV.out HK.out HO.out HW1.out.1 HW1.out.2
end Go.Proofs.YtjiikjpnlgogfaaGreatDoor
namespace Go.Proofs.YtjiikjpnlgogfaaGreatDoor
open Go.RowKit
theorem Below.drewN {B : Nat} {a w : World} (h : Below B a w) (n : Nat) : Below B a (w.drewN n) := ⟨h.os, h.tape, h.output, h.size, h.block⟩
def comm : List Nat → List Nat → Nat
 | x :: a, y :: b => if x = y then comm a b + 1 else 0
 | _, _ => 0
theorem comm_of : ∀ (n : Nat) (a b : List Nat), a.take n = b.take n → n ≤ a.length → n ≤ b.length → (n = a.length ∨ n = b.length ∨ a[n]? ≠ b[n]?) → comm a b = n
 | 0, [], b, _, _, _, _ => by cases b <;> rfl
 | 0, x :: a, [], _, _, _, _ => rfl
 | 0, x :: a, y :: b, _, _, _, h => by
  rw [comm, if_neg]
  rcases h with h | h | h
  ·simp at h
  ·simp at h
  ·simpa using h
 | n + 1, [], b, _, h, _, _ => by simp at h
 | n + 1, x :: a, [], _, _, h, _ => by simp at h
 | n + 1, x :: a, y :: b, h, h1, h2, h3 => by
  simp only [List.take_succ_cons, List.cons.injEq] at h
  rw [comm, if_pos h.1, comm_of n a b h.2 (by simpa using h1) (by simpa using h2)]
  rcases h3 with h | h | h
  ·exact .inl (by simpa using h)
  ·exact .inr (.inl (by simpa using h))
  ·exact .inr (.inr (by simpa using h))
theorem comm_le : ∀ a b : List Nat, comm a b ≤ a.length ∧ comm a b ≤ b.length
 | [], b => by cases b <;> simp [comm]
 | x :: a, [] => by simp [comm]
 | x :: a, y :: b => by
  have := comm_le a b
  rw [comm]
  split <;> simp <;> omega
theorem comm_take : ∀ a b : List Nat, a.take (comm a b) = b.take (comm a b)
 | [], b => by cases b <;> simp [comm]
 | x :: a, [] => by simp [comm]
 | x :: a, y :: b => by
  rw [comm]
  split
  ·rename_i h
   rw [List.take_succ_cons, List.take_succ_cons, comm_take a b, h]
  ·simp
theorem comm_ne : ∀ a b : List Nat, comm a b < a.length → comm a b < b.length → a[comm a b]? ≠ b[comm a b]?
 | [], b, h, _ => by simp at h
 | x :: a, [], _, h => by simp at h
 | x :: a, y :: b, h1, h2 => by
  rw [comm] at *
  split at h1 <;> rename_i hxy
  ·rw [if_pos hxy] at h2 ⊢
   simpa using comm_ne a b (by simpa using h1) (by simpa using h2)
  ·rw [if_neg hxy]
   simpa using hxy
set_option maxRecDepth 100000 in
set_option maxHeartbeats 1600000 in
theorem common_any (a b : ByteArray) (w : World) (ha : a.size ≤ 4194304) :
  Calls Tryz.prog 295 #[.string a, .string b] w fun e w' => e = .returned (.int .i64 (comm (bytesOf a) (bytesOf b) : Nat)) ∧ Below w.heap.size w w' := by
 have hla := bytesOf_length a
 have hlb := bytesOf_length b
 have HA : Hid ((bytesOf a).length = a.size ∧ (bytesOf b).length = b.size ∧ a.size ≤ 4194304) := ⟨hla, hlb, ha⟩
 obtain ⟨N, hN⟩ : ∃ N, comm (bytesOf a) (bytesOf b) = N := ⟨_, rfl⟩
 have HN : Hid (comm (bytesOf a) (bytesOf b) = N) := hN
 rw [hN]
 clear hla hlb ha hN
 go_enter Tryz.func295, Tryz.ntmps295
 go_wp2
 go_loopg [5] a.size (fun g i wr => ∃ n : Nat, n ≤ a.size ∧ g = a.size - n ∧ i = .int .i64 (n : Int) ∧ n ≤ b.size ∧ (bytesOf a).take n = (bytesOf b).take n ∧ Below w.heap.size w wr)
 case atStart => exact ⟨0, by omega, rfl, rfl, by omega, rfl, Below.refl _ _⟩
 case round =>
  obtain ⟨n, hna, rfl, rfl, hnb, htk, hB⟩ := hrel
  have HB := Hid.hide hB
  clear hB
  by_cases h1 : n < a.size
  ·have i1 : (n : Int) < (a.size : Int) := by omega
   by_cases h2 : n < b.size
   ·have i2 : (n : Int) < (b.size : Int) := by omega
    obtain ⟨c, hc⟩ : ∃ c, (bytesOf a)[n]! = c := ⟨_, rfl⟩
    have hcs : (a[n]'h1).toNat = c := by rw [← hc]; exact byte_at a n h1
    obtain ⟨d, hd⟩ : ∃ d, (bytesOf b)[n]! = d := ⟨_, rfl⟩
    have hds : (b[n]'h2).toNat = d := by rw [← hd]; exact byte_at b n h2
    have hla : n < (bytesOf a).length := by have := HA.out.1; omega
    have hlb : n < (bytesOf b).length := by have := HA.out.2.1; omega
    rw [getElem!_pos (bytesOf a) _ hla] at hc
    rw [getElem!_pos (bytesOf b) _ hlb] at hd
    by_cases he : c = d
    ·have hT : (bytesOf a).take (n + 1) = (bytesOf b).take (n + 1) := by
      rw [List.take_succ_eq_append_getElem hla, List.take_succ_eq_append_getElem hlb, htk, hc, hd, he]
     have HT : Hid ((bytesOf a).take (n + 1) = (bytesOf b).take (n + 1) ∧ n < a.size ∧ n < b.size) := ⟨hT, h1, h2⟩
     subst he
     clear hT htk hc hd hla hlb hna hnb
     go_upto_region 2 with fail
     go_quiet (fail)
     go_wp2
     go_roundg (a.size - (n + 1))
     case measure => have := HT.out; omega
     case rel => exact ⟨n + 1, HT.out.2.1, rfl, by rw [wrap64_succ n (by have := HA.out; have := HT.out; omega)], HT.out.2.2, HT.out.1, Below.drewN HB.out _⟩
    ·have hE : comm (bytesOf a) (bytesOf b) = n := comm_of n _ _ htk (by have := HA.out; omega) (by have := HA.out; omega) (.inr (.inr (by rw [List.getElem?_eq_getElem hla, List.getElem?_eq_getElem hlb, hc, hd]; simpa using he)))
     have hNn : n = N := by rw [← hE, HN.out]
     have hne : ((c : Int) == (d : Int)) = false := by simp; omega
     have HNn := Hid.hide hNn
     clear hE htk hc hd hla hlb hna hnb he hNn
     go_upto_region 2 with fail
     go_quiet (fail)
     go_wp2
     go_ret
     exact ⟨by rw [HNn.out]; rfl, Below.drewN HB.out _⟩
   ·have i2 : (b.size : Int) ≤ (n : Int) := by omega
    have hE : comm (bytesOf a) (bytesOf b) = n := comm_of n _ _ htk (by have := HA.out; omega) (by have := HA.out; omega) (.inr (.inl (by have := HA.out; omega)))
    have hNn : n = N := by rw [← hE, HN.out]
    have HNn := Hid.hide hNn
    have d1 : decide (n < a.size) = true := decide_eq_true h1
    have d2 : decide (n < b.size) = false := decide_eq_false h2
    clear hE htk hna hnb hNn h2
    go_upto_region 2 with fail
    go_quiet (fail)
    go_wp2
    go_ret
    exact ⟨by rw [HNn.out]; rfl, Below.drewN HB.out _⟩
  ·have i1 : (a.size : Int) ≤ (n : Int) := by omega
   have hE : comm (bytesOf a) (bytesOf b) = n := comm_of n _ _ htk (by have := HA.out; omega) (by have := HA.out; omega) (.inl (by have := HA.out; omega))
   have hNn : n = N := by rw [← hE, HN.out]
   have HNn := Hid.hide hNn
   have d1 : decide (n < a.size) = false := decide_eq_false h1
   clear hE htk hna hnb hNn h1
   go_upto_region 2 with fail
   go_quiet (fail)
   go_wp2
   go_ret
   exact ⟨by rw [HNn.out]; rfl, Below.drewN HB.out _⟩
end Go.Proofs.YtjiikjpnlgogfaaGreatDoor
namespace Go.Proofs.YtjiikjpnlgogfaaGreatDoor
open Go.RowKit
theorem bytesOf_ext (s : ByteArray) (i j : Nat) : bytesOf (s.extract i j) = ((bytesOf s).drop i).take (j - i) := by
 unfold bytesOf
 rw [← List.map_drop, ← List.map_take]
 congr 1
 simp only [ByteArray.data_extract, Array.toList_extract, List.extract_eq_take_drop]
theorem bytesOf_head (s : ByteArray) (n : Nat) : bytesOf (s.extract 0 n) = (bytesOf s).take n := by rw [bytesOf_ext]; simp
theorem bytesOf_tail (s : ByteArray) (n : Nat) : bytesOf (s.extract n s.size) = (bytesOf s).drop n := by
 rw [bytesOf_ext, List.take_of_length_le]
 rw [List.length_drop, bytesOf_length]
 omega
theorem toList_ne' {a b : ByteArray} (h : ¬ a = b) : (a.toList == b.toList) = false := by
 rw [beq_eq_false_iff_ne]
 intro e
 apply h
 rw [Lib.toList_data, Lib.toList_data] at e
 exact ByteArray.ext (Array.toList_inj.1 e)
def begins (p s : ByteArray) : Prop := (bytesOf s).take p.size = bytesOf p
theorem begins_le {p s : ByteArray} (h : begins p s) : p.size ≤ s.size := by
 have := congrArg List.length h
 rw [List.length_take, bytesOf_length, bytesOf_length] at this
 omega
theorem begins_cut {p s : ByteArray} (h : begins p s) : s.extract 0 p.size = p := bytesOf_inj (by rw [bytesOf_head]; exact h)
theorem begins_of_cut {p s : ByteArray} (h : s.extract 0 p.size = p) : begins p s := by
 unfold begins
 rw [← bytesOf_head, h]
instance (p s : ByteArray) : Decidable (begins p s) := inferInstanceAs (Decidable ((bytesOf s).take p.size = bytesOf p))
set_option maxRecDepth 100000 in
set_option maxHeartbeats 1600000 in
theorem prefix_any (s p : ByteArray) (w : World) :
  Calls Tryz.prog 229 #[.string s, .string p] w fun e w' => e = .returned (.bool (decide (begins p s))) ∧ w' = w := by
 by_cases h : begins p s
 ·have h1 := begins_le h
  have h2 := begins_cut h
  have i1 : (p.size : Int) ≤ (s.size : Int) := by omega
  have d1 : decide (p.size ≤ s.size) = true := decide_eq_true h1
  rw [decide_eq_true h]
  clear h
  go_enter Tryz.func229, Tryz.ntmps229
  go_wp2
  go_ret
  exact ⟨rfl, rfl⟩
 ·rw [decide_eq_false h]
  by_cases h1 : p.size ≤ s.size
  ·have i1 : (p.size : Int) ≤ (s.size : Int) := by omega
   have d1 : decide (p.size ≤ s.size) = true := decide_eq_true h1
   obtain ⟨z, hz⟩ : ∃ z, s.extract 0 p.size = z := ⟨_, rfl⟩
   have hne : ¬ z = p := fun e => h (begins_of_cut (hz.trans e))
   have d2 : (z.toList == p.toList) = false := toList_ne' hne
   clear h
   go_enter Tryz.func229, Tryz.ntmps229
   go_wp2
   go_ret
   exact ⟨rfl, rfl⟩
  ·have i1 : (s.size : Int) < (p.size : Int) := by omega
   have d1 : decide (p.size ≤ s.size) = false := decide_eq_false h1
   clear h
   go_enter Tryz.func229, Tryz.ntmps229
   go_wp2
   go_ret
   exact ⟨rfl, rfl⟩
def Nd.next : Nd → ByteArray → Nd × Nat
 | .ext p t, r => if begins p r then (t, p.size) else (.no, 0)
 | .br ks, r => (ks.getD ((bytesOf r)[0]!) .no, 1)
 | _, _ => (.no, 0)
def NextC (S : Wood) (w : World) (F : FuncId) (b : Nat) (t : Nd) (r : ByteArray) : Prop := ∃ v, ndV S v (t.next r).1 ∧ ∀ w1 : World, w1.heap = w.heap → Calls Tryz.prog F #[.pointer (some ⟨b, 0, none⟩), .string r] w1 fun e w' => e = .returned (.tuple #[v, .int .i64 ((t.next r).2 : Nat)]) ∧ ∃ m, w' = w1.drewN m
theorem cell_heap {w w1 : World} (h : w1.heap = w.heap) (a : Addr) : w1.cell? a = w.cell? a := World.cell?_of_block (by rw [h])
set_option maxRecDepth 100000 in
set_option maxHeartbeats 1600000 in
theorem enext_any {B : Nat} {S : Wood} {w : World} {b : Nat} {p : ByteArray} {t : Nd} (r : ByteArray) (hf : Forest B S w) (hb : S b = some (.ext p t)) : NextC S w 342 b (.ext p t) r := by
 obtain ⟨g, rr, _, hr, _, rg, _, _⟩ := (hf.node b _ hb).cell
 obtain ⟨v, hr, hv⟩ : ∃ v, rr = [.string p, v] ∧ ndV S v t := hr
 subst hr
 have c1 : w.cell? ⟨b, 1, none⟩ = some (.string p) := rg 0 _ rfl
 have c2 : w.cell? ⟨b, 2, none⟩ = some v := rg 1 _ rfl
 have hvs := hv.shape
 unfold NextC
 rw [Nd.next]
 by_cases h : begins p r
 ·rw [if_pos h]
  refine ⟨v, hv, fun w1 hw => ?_⟩
  have HP := Hid.hide (prefix_any r p w1)
  rw [decide_eq_true h] at HP
  rw [← cell_heap hw] at c1 c2
  clear h hf hb rg hv hw
  rcases hvs with rfl | ⟨T, a, rfl⟩
  all_goals
   go_enter Tryz.func342, Tryz.ntmps342
   go_wp2_with fail
   refine HP.out.mono ?_
   rintro e w2 ⟨rfl, rfl⟩
   go_upto_region 2 with fail
   go_quiet (fail)
   go_wp2
   go_ret2
   exact ⟨rfl, _, rfl⟩
 ·rw [if_neg h]
  refine ⟨.nilIface, .inl ⟨rfl, rfl⟩, fun w1 hw => ?_⟩
  have HP := Hid.hide (prefix_any r p w1)
  rw [decide_eq_false h] at HP
  rw [← cell_heap hw] at c1 c2
  clear h hvs hf hb rg hv hw
  go_enter Tryz.func342, Tryz.ntmps342
  go_wp2_with fail
  refine HP.out.mono ?_
  rintro e w2 ⟨rfl, rfl⟩
  go_wp2
  go_ret2
  exact ⟨rfl, 0, rfl⟩
set_option maxRecDepth 100000 in
set_option maxHeartbeats 1600000 in
theorem bnext_any {B : Nat} {S : Wood} {w : World} {b : Nat} {ks : List Nd} (r : ByteArray) (hf : Forest B S w) (hb : S b = some (.br ks)) (hr0 : 0 < r.size) (hn : (bytesOf r)[0]! < 16) : NextC S w 332 b (.br ks) r := by
 obtain ⟨g, rr, _, hr, _, rg, _, _⟩ := (hf.node b _ hb).cell
 obtain ⟨hr16, hrv⟩ : rr.length = 16 ∧ ∀ i (h1 : i < rr.length) (h2 : i < ks.length), ndV S rr[i] ks[i] := hr
 have hok := hf.ok b _ hb
 rw [Nd.ok] at hok
 obtain ⟨n, hn'⟩ : ∃ n, (bytesOf r)[0]! = n := ⟨_, rfl⟩
 rw [hn'] at hn
 have hc : (r[0]'hr0).toNat = n := by rw [← hn']; exact byte_at r 0 hr0
 have hnr : n < rr.length := by omega
 have hnk : n < ks.length := by have := hok.1; omega
 have c1 : w.cell? ⟨b, 1 + n, none⟩ = some rr[n] := rg n _ (by simp [hnr])
 have hv := hrv n hnr hnk
 obtain ⟨v, hvv⟩ : ∃ v, rr[n] = v := ⟨_, rfl⟩
 rw [hvv] at c1 hv
 have e1 : (Nd.br ks).next r = (ks[n], 1) := by rw [Nd.next, hn', List.getD_eq_getElem?_getD, List.getElem?_eq_getElem hnk]; rfl
 unfold NextC
 rw [e1]
 have hvs := hv.shape
 refine ⟨v, hv, fun w1 hw => ?_⟩
 rw [← cell_heap hw] at c1
 have i1 : (n : Int) < 16 := by omega
 have i0 : (0 : Int) < (r.size : Int) := by omega
 clear hf hb rg hv hrv hok hn' e1 hvv hr16 hn hw
 rcases hvs with rfl | ⟨T, a, rfl⟩
 all_goals
  go_enter Tryz.func332, Tryz.ntmps332
  go_upto_region 1 with fail
  go_quiet (fail)
  go_wp2
  go_ret2
  exact ⟨rfl, _, rfl⟩
end Go.Proofs.YtjiikjpnlgogfaaGreatDoor
namespace Go.Proofs.YtjiikjpnlgogfaaGreatDoor
open Go.RowKit
def Turns (S : Wood) : List (Nd × ByteArray) → List Value → Prop
 | [], cs => cs = []
 | x :: l, cs => ∃ v cs', cs = v :: .string x.2 :: cs' ∧ ndV S v x.1 ∧ Turns S l cs'
theorem Turns.snoc {S : Wood} {t : Nd} {p : ByteArray} {v : Value} (hv : ndV S v t) : ∀ {l : List (Nd × ByteArray)} {cs : List Value}, Turns S l cs → Turns S (l ++ [(t, p)]) (cs ++ [v, .string p])
 | [], cs, h => by
  obtain rfl : cs = [] := h
  exact ⟨v, [], rfl, hv, rfl⟩
 | x :: l, cs, h => by
  obtain ⟨u, cs', rfl, h1, h2⟩ := h
  exact ⟨u, cs' ++ [v, .string p], rfl, h1, h2.snoc hv⟩
theorem Turns.length {S : Wood} : ∀ {l : List (Nd × ByteArray)} {cs : List Value}, Turns S l cs → cs.length = l.length * 2
 | [], cs, h => by obtain rfl : cs = [] := h; rfl
 | x :: l, cs, h => by
  obtain ⟨u, cs', rfl, h1, h2⟩ := h
  have := h2.length
  simp only [List.length_cons]
  omega
structure Way (S : Wood) (C : Nat) (w : World) (bw : Nat) (l : List (Nd × ByteArray)) (t : Nd) (r : ByteArray) (thr v : Value) (cs : List Value) : Prop where
 blk : w.heap[bw]? = some (.cells #[thr, v, .string r] 165 (0, 0))
 lo : C ≤ bw
 node : ndV S v t
 own : OwnC w C 2 thr l.length cs
 apart : thr.ownBlock ≠ some bw
 turns : Turns S l cs
theorem Way.lt {S : Wood} {C : Nat} {w : World} {bw : Nat} {l : List (Nd × ByteArray)} {t : Nd} {r : ByteArray} {thr v : Value} {cs : List Value} (h : Way S C w bw l t r thr v cs) : bw < w.heap.size := (Array.getElem?_eq_some_iff.1 h.blk).1
theorem Way.cell {S : Wood} {C : Nat} {w : World} {bw : Nat} {l : List (Nd × ByteArray)} {t : Nd} {r : ByteArray} {thr v : Value} {cs : List Value} (h : Way S C w bw l t r thr v cs) : w.cell? ⟨bw, 0, none⟩ = some thr ∧ w.cell? ⟨bw, 1, none⟩ = some v ∧ w.cell? ⟨bw, 2, none⟩ = some (.string r) ∧ w.frozen? ⟨bw, 0, none⟩ = false ∧ w.frozen? ⟨bw, 1, none⟩ = false ∧ w.frozen? ⟨bw, 2, none⟩ = false := by
 have h := h.blk
 refine ⟨?_, ?_, ?_, ?_, ?_, ?_⟩ <;> simp [World.cell?, World.frozen?, h]
theorem Way.heap {S : Wood} {C : Nat} {w w' : World} {bw : Nat} {l : List (Nd × ByteArray)} {t : Nd} {r : ByteArray} {thr v : Value} {cs : List Value} (h : Way S C w bw l t r thr v cs) (hh : w'.heap = w.heap) : Way S C w' bw l t r thr v cs :=
 ⟨by rw [hh]; exact h.blk, h.lo, h.node, h.own.keep (by rw [hh]; exact Nat.le_refl _) fun k _ _ => by rw [hh], h.apart, h.turns⟩
def nextFn : Nd → FuncId
 | .ext _ _ => 342
 | .br _ => 332
 | _ => 0
def Nd.inner : Nd → Bool
 | .ext _ _ => true
 | .br _ => true
 | _ => false
theorem mNext (t : Nd) (ht : t.inner = true) (a : Addr) (w : World) : (Go.method 563 (ndTy t) (.pointer (some a)) "twigs/tree.next").run Tryz.prog w = .ok (nextFn t, .pointer (some a)) w := by
 cases t with
 | ext _ _ => kernel_rfl
 | br _ => kernel_rfl
 | _ => simp [Nd.inner] at ht
theorem enNext (t : Nd) (ht : t.inner = true) (args : Array Value) (w : World) : (callFunc (nextFn t) args).run Tryz.prog w = .ok (.enter (nextFn t) args) w := by
 cases t with
 | ext _ _ => kernel_rfl
 | br _ => kernel_rfl
 | _ => simp [Nd.inner] at ht
theorem naNext (t : Nd) (ht : t.inner = true) (a : Addr) (w : World) : (nilAhead 563 (ndTy t) (.pointer (some a)) "twigs/tree.next").run Tryz.prog w = .ok (some false) w := by
 cases t with
 | ext _ _ => kernel_rfl
 | br _ => kernel_rfl
 | _ => simp [Nd.inner] at ht
theorem taInner (t : Nd) (ht : t.inner = true) (a : Addr) (w : World) : (Instr.typeAssert (.iface (ndTy t) (.pointer (some a))) 106 254 true).run Tryz.prog w = .ok (.tuple #[.iface (ndTy t) (.pointer (some a)), .bool true]) w := by
 cases t with
 | ext _ _ => kernel_rfl
 | br _ => kernel_rfl
 | _ => simp [Nd.inner] at ht
theorem taNot (t : Nd) (ht : t.inner = false) (hn : t ≠ .no) (a : Addr) (w : World) : (Instr.typeAssert (.iface (ndTy t) (.pointer (some a))) 106 254 true).run Tryz.prog w = .ok (.tuple #[.nilIface, .bool false]) w := by
 cases t with
 | no => exact absurd rfl hn
 | leaf _ _ => exact run_typeAssert_lacksB Tryz.underlying254 (by kernel_rfl) (by kernel_rfl) _ _ w
 | stub _ => exact run_typeAssert_lacksB Tryz.underlying254 (by kernel_rfl) (by kernel_rfl) _ _ w
 | _ => simp [Nd.inner] at ht
theorem taNil (w : World) : (Instr.typeAssert .nilIface 106 254 true).run Tryz.prog w = .ok (.tuple #[.nilIface, .bool false]) w := by kernel_rfl
set_option maxRecDepth 100000 in
set_option maxHeartbeats 1600000 in
theorem step_not {S : Wood} {C : Nat} {w : World} {bw : Nat} {l : List (Nd × ByteArray)} {t : Nd} {r : ByteArray} {thr v : Value} {cs : List Value} (hW : Way S C w bw l t r thr v cs) (ht : t.inner = false) :
  Calls Tryz.prog 205 #[.pointer (some ⟨bw, 0, none⟩)] w fun e w' => e = .returned (.bool false) ∧ w' = w := by
 obtain ⟨c0, c1, c2, f0, f1, f2⟩ := hW.cell
 rcases hW.node with ⟨rfl, rfl⟩ | ⟨hne, c, rfl, hc⟩
 ·have hta := taNil
  clear hW
  go_enter Tryz.func205, Tryz.ntmps205
  go_wp2
  go_ret
  exact ⟨rfl, rfl⟩
 ·have hta := taNot t ht hne
  clear hW
  go_enter Tryz.func205, Tryz.ntmps205
  go_wp2
  go_ret
  exact ⟨rfl, rfl⟩
set_option maxRecDepth 100000 in
set_option maxHeartbeats 1600000 in
theorem step_end {S : Wood} {C : Nat} {w : World} {bw : Nat} {l : List (Nd × ByteArray)} {t : Nd} {r : ByteArray} {thr v : Value} {cs : List Value} {c : Nat} (hW : Way S C w bw l t r thr v cs) (ht : t.inner = true) (hv : v = .iface (ndTy t) (.pointer (some ⟨c, 0, none⟩))) (hN : NextC S w (nextFn t) c t r) (hno : (t.next r).1 = .no) :
  Calls Tryz.prog 205 #[.pointer (some ⟨bw, 0, none⟩)] w fun e w' => e = .returned (.bool false) ∧ ∃ m, w' = w.drewN m := by
 obtain ⟨c0, c1, c2, f0, f1, f2⟩ := hW.cell
 subst hv
 obtain ⟨nv, hnv, hC⟩ := hN
 obtain rfl : nv = .nilIface := by
  rcases hnv with ⟨_, h⟩ | ⟨h, _⟩
  ·exact h
  ·exact absurd hno h
 have hta := taInner t ht
 have hm := mNext t ht
 have hfn := enNext t ht
 have hna := naNext t ht
 obtain ⟨K, hK⟩ : ∃ K, (t.next r).2 = K := ⟨_, rfl⟩
 rw [hK] at hC
 have HC := Hid.hide hC
 clear hW hnv hno hK hC
 go_enter Tryz.func205, Tryz.ntmps205
 go_upto_region 3 with fail
 go_quiet (refine Calls.quiet_of (HC.out _ rfl))
 go_wp2
 go_ret
 exact ⟨rfl, _, rfl⟩
theorem way_on {S : Wood} {C : Nat} {w w1 w2 w3 : World} {bw : Nat} {l : List (Nd × ByteArray)} {t t' : Nd} {r by_ r' : ByteArray} {thr v nv v2 : Value} {cs : List Value} (hW : Way S C w bw l t r thr v cs) (h1 : Below w.heap.size w w1) (hn : ndV S nv t') (hO : OwnC w2 C 2 v2 (l.length + 1) (cs ++ [v, .string by_])) (hg : w1.grownBy w2 thr.ownBlock) (hf : ∀ k, v2.ownBlock = some k → thr.ownBlock = some k ∨ w1.heap.size ≤ k) (h3 : w3.heap = (((w2.setCell ⟨bw, 0, none⟩ v2).setCell ⟨bw, 1, none⟩ nv).setCell ⟨bw, 2, none⟩ (.string r')).heap ∨ w3.heap = (((w2.setCell ⟨bw, 0, none⟩ v2).setCell ⟨bw, 2, none⟩ (.string r')).setCell ⟨bw, 1, none⟩ nv).heap) : Way S C w3 bw (l ++ [(t, by_)]) t' r' v2 nv (cs ++ [v, .string by_]) := by
 have hbw := hW.lt
 have hb1 : bw < w1.heap.size := Nat.lt_of_lt_of_le hbw h1.size
 have hb2 : w2.heap[bw]? = some (.cells [thr, v, .string r].toArray 165 (0, 0)) := (hg.block bw hb1 (fun e => hW.apart e.symm)).trans ((h1.block bw hbw).trans hW.blk)
 have hb3 := heap_setCell_list (heap_setCell_list (heap_setCell_list hb2 0 v2) 1 nv) 2 (.string r')
 have hb4 := heap_setCell_list (heap_setCell_list (heap_setCell_list hb2 0 v2) 2 (.string r')) 1 nv
 have hap : v2.ownBlock ≠ some bw := fun e => by
  rcases hf bw e with e | e
  ·exact hW.apart e
  ·omega
 refine ⟨by rcases h3 with h3 | h3 <;> rw [h3] <;> assumption, hW.lo, hn, ?_, hap, hW.turns.snoc hW.node⟩
 rw [List.length_append]
 refine hO.keep (by rcases h3 with h3 | h3 <;> rw [h3] <;> simp) fun k _ hk => ?_
 have hne : k ≠ bw := fun e => hap (by rw [← e]; exact hk)
 rcases h3 with h3 | h3 <;> rw [h3] <;> exact (Below.heap_setCell _ _ _ _ hne).trans ((Below.heap_setCell _ _ _ _ hne).trans (Below.heap_setCell _ _ _ _ hne))
theorem belowGrown {C : Nat} {w w1 w2 : World} {o : Option Nat} (h : Below C w w1) (hC : C ≤ w.heap.size) (hg : w1.grownBy w2 o) (ho : ∀ k, o = some k → C ≤ k) : Below C w w2 := by
 have := h.size
 refine ⟨hg.os.trans h.os, hg.tape.trans h.tape, hg.output.trans h.output, Nat.le_trans h.size hg.size, fun k hk => (hg.block k (by omega) fun e => ?_).trans (h.block k hk)⟩
 have := ho k e.symm
 omega
theorem below3 {C : Nat} {w w2 w3 : World} {bw : Nat} {x y z : Value} (h : Below C w w2) (hlo : C ≤ bw) (ho : w3.os = w2.os) (ht : w3.tape = w2.tape) (hu : w3.output = w2.output) (h3 : w3.heap = (((w2.setCell ⟨bw, 0, none⟩ x).setCell ⟨bw, 1, none⟩ y).setCell ⟨bw, 2, none⟩ z).heap ∨ w3.heap = (((w2.setCell ⟨bw, 0, none⟩ x).setCell ⟨bw, 2, none⟩ z).setCell ⟨bw, 1, none⟩ y).heap) : Below C w w3 := by
 refine ⟨ho.trans h.os, ht.trans h.tape, hu.trans h.output, Nat.le_trans h.size (by rcases h3 with h3 | h3 <;> rw [h3] <;> simp), fun k hk => Eq.trans ?_ (h.block k hk)⟩
 have hne : k ≠ bw := by omega
 rcases h3 with h3 | h3 <;> rw [h3] <;> exact (Below.heap_setCell _ _ _ _ hne).trans ((Below.heap_setCell _ _ _ _ hne).trans (Below.heap_setCell _ _ _ _ hne))
structure WayFr (bw : Nat) (thr thr' : Value) (w w' : World) : Prop where
 os : w'.os = w.os
 tape : w'.tape = w.tape
 output : w'.output = w.output
 size : w.heap.size ≤ w'.heap.size
 block : ∀ k, k < w.heap.size → k ≠ bw → thr.ownBlock ≠ some k → w'.heap[k]? = w.heap[k]?
 own : ∀ k, thr'.ownBlock = some k → thr.ownBlock = some k ∨ w.heap.size ≤ k
theorem WayFr.refl (bw : Nat) (thr : Value) (w : World) : WayFr bw thr thr w w := ⟨rfl, rfl, rfl, Nat.le_refl _, fun _ _ _ _ => rfl, fun _ h => .inl h⟩
theorem WayFr.drewN (bw : Nat) (thr : Value) (w : World) (m : Nat) : WayFr bw thr thr w (w.drewN m) := ⟨rfl, rfl, rfl, Nat.le_refl _, fun _ _ _ _ => rfl, fun _ h => .inl h⟩
theorem WayFr.trans {bw : Nat} {x y z : Value} {w w1 w2 : World} (h : WayFr bw x y w w1) (k : WayFr bw y z w1 w2) : WayFr bw x z w w2 :=
 ⟨k.os.trans h.os, k.tape.trans h.tape, k.output.trans h.output, Nat.le_trans h.size k.size, fun i hi h1 h2 => (k.block i (Nat.lt_of_lt_of_le hi h.size) h1 fun e => by
  rcases h.own i e with e | e
  ·exact h2 e
  ·omega).trans (h.block i hi h1 h2), fun i e => by
  rcases k.own i e with e | e
  ·exact h.own i e
  ·exact .inr (Nat.le_trans h.size e)⟩
theorem WayFr.below {bw C : Nat} {x y : Value} {w w' : World} (h : WayFr bw x y w w') (h1 : C ≤ bw) (h2 : ∀ k, x.ownBlock = some k → C ≤ k) (hC : C ≤ w.heap.size) : Below C w w' :=
 ⟨h.os, h.tape, h.output, h.size, fun k hk => h.block k (by omega) (by omega) fun e => by have := h2 k e; omega⟩
theorem wayfr_on {bw : Nat} {thr v2 x y z : Value} {w w1 w2 w3 : World} (h1 : Below w.heap.size w w1) (hg : w1.grownBy w2 thr.ownBlock) (hf : ∀ k, v2.ownBlock = some k → thr.ownBlock = some k ∨ w1.heap.size ≤ k) (ho : w3.os = w2.os) (ht : w3.tape = w2.tape) (hu : w3.output = w2.output) (h3 : w3.heap = (((w2.setCell ⟨bw, 0, none⟩ x).setCell ⟨bw, 1, none⟩ y).setCell ⟨bw, 2, none⟩ z).heap ∨ w3.heap = (((w2.setCell ⟨bw, 0, none⟩ x).setCell ⟨bw, 2, none⟩ z).setCell ⟨bw, 1, none⟩ y).heap) : WayFr bw thr v2 w w3 := by
 have s1 := h1.size
 have s2 := hg.size
 refine ⟨ho.trans (hg.os.trans h1.os), ht.trans (hg.tape.trans h1.tape), hu.trans (hg.output.trans h1.output), Nat.le_trans (Nat.le_trans s1 s2) (by rcases h3 with h3 | h3 <;> rw [h3] <;> simp), fun k hk h4 h5 => ?_, fun k hk => ?_⟩
 ·refine Eq.trans ?_ ((hg.block k (by omega) fun e => h5 e.symm).trans (h1.block k hk))
  rcases h3 with h3 | h3 <;> rw [h3] <;> exact (Below.heap_setCell _ _ _ _ h4).trans ((Below.heap_setCell _ _ _ _ h4).trans (Below.heap_setCell _ _ _ _ h4))
 ·rcases hf k hk with h | h
  ·exact .inl h
  ·exact .inr (Nat.le_trans s1 h)
theorem Forest.wayfr {B : Nat} {S : Wood} {w w' : World} {bw : Nat} {x y : Value} (hf : Forest B S w) (h : WayFr bw x y w w') (h1 : S bw = none) (h2 : ∀ k, x.ownBlock = some k → S k = none) : Forest B S w' :=
 hf.keep h.size fun k t hk => h.block k (hf.lt hk) (fun e => by rw [e, h1] at hk; cases hk) fun e => by rw [h2 k e] at hk; cases hk
theorem WayFr.none {B : Nat} {S : Wood} {w w' : World} {bw : Nat} {x y : Value} (h : WayFr bw x y w w') (hf : Forest B S w) (h2 : ∀ k, x.ownBlock = some k → S k = none) : ∀ k, y.ownBlock = some k → S k = none := fun k hk => by
 rcases h.own k hk with e | e
 ·exact h2 k e
 ·exact hf.fresh e
theorem turnZ : (Tryz.prog.info? 256).map (fun i => (i.zero, i.size, i.bytes)) = some (some (.agg #[.nilIface, .string ⟨#[]⟩]), 2, 32) := by kernel_rfl
theorem oneCell2 {S : Wood} {v : Value} {t : Nd} (h : ndV S v t) (p : ByteArray) : ∀ u ∈ ([v, .string p] : List Value), u.oneCell' = true := by
 intro u hu
 simp only [List.mem_cons, List.not_mem_nil, or_false] at hu
 rcases hu with rfl | rfl
 ·exact h.one
 ·rfl
set_option maxRecDepth 100000 in
set_option maxHeartbeats 3200000 in
theorem step_on {S : Wood} {C : Nat} {w : World} {bw : Nat} {l : List (Nd × ByteArray)} {t : Nd} {r : ByteArray} {thr v : Value} {cs : List Value} {c : Nat} (hW : Way S C w bw l t r thr v cs) (ht : t.inner = true) (hv : v = .iface (ndTy t) (.pointer (some ⟨c, 0, none⟩))) (hN : NextC S w (nextFn t) c t r) (hno : (t.next r).1 ≠ .no) (hk : (t.next r).2 ≤ r.size) (hl : l.length ≤ 1000) (hC : C ≤ w.heap.size) :
  Calls Tryz.prog 205 #[.pointer (some ⟨bw, 0, none⟩)] w fun e w' => e = .returned (.bool true) ∧ Below C w w' ∧ ∃ thr' v' cs', WayFr bw thr thr' w w' ∧ Way S C w' bw (l ++ [(t, r.extract 0 (t.next r).2)]) (t.next r).1 (r.extract (t.next r).2 r.size) thr' v' cs' := by
 obtain ⟨i0, hi, hz0, hz1, hz2⟩ := info_parts turnZ
 obtain ⟨c0, c1, c2, f0, f1, f2⟩ := hW.cell
 subst hv
 obtain ⟨nv, hnv, hCC⟩ := hN
 have hta := taInner t ht
 have hm := mNext t ht
 have hfn := enNext t ht
 have hna := naNext t ht
 obtain ⟨K, hK⟩ : ∃ K, (t.next r).2 = K := ⟨_, rfl⟩
 obtain ⟨t', ht'⟩ : ∃ t', (t.next r).1 = t' := ⟨_, rfl⟩
 rw [hK] at hCC hk ⊢
 rw [ht'] at hno hnv ⊢
 obtain ⟨d, rfl⟩ : ∃ d, nv = .iface (ndTy t') (.pointer (some ⟨d, 0, none⟩)) := by
  rcases hnv with ⟨h, _⟩ | ⟨_, d, h, _⟩
  ·exact absurd h hno
  ·exact ⟨d, h⟩
 have HC := Hid.hide hCC
 have HW := Hid.hide hW
 have HV := Hid.hide hnv
 have hbw := hW.lt
 obtain ⟨b1, hb1⟩ : ∃ x, r.extract 0 K = x := ⟨_, rfl⟩
 obtain ⟨r1, hr1⟩ : ∃ x, r.extract K r.size = x := ⟨_, rfl⟩
 rw [hb1, hr1]
 have hki : (K : Int) ≤ (r.size : Int) := by omega
 obtain ⟨pv, mv, cv, rfl⟩ := hW.own.shape
 have HL : Hid (l.length ≤ 1000 ∧ C ≤ w.heap.size) := ⟨hl, hC⟩
 clear hW hnv hno hK hCC ht' hk hl hC
 go_enter Tryz.func205, Tryz.ntmps205
 go_upto_region 3 with fail
 go_quiet (refine Calls.quiet_of (HC.out _ rfl))
 clear hta hm hfn hna HC
 go_upto_region 6 with fail
 generalize hWq : w.drewN _ = W
 have hh : W.heap = w.heap := by rw [← hWq]; rfl
 have hB0 : Below w.heap.size w W := by rw [← hWq]; exact Below.drewN (Below.refl _ _) _
 rw [← cell_heap hh] at c0 c1 c2
 have g0 : W.frozen? ⟨bw, 0, none⟩ = false := (World.frozen?_of_block (by rw [hh])).trans f0
 have g1 : W.frozen? ⟨bw, 1, none⟩ = false := (World.frozen?_of_block (by rw [hh])).trans f1
 have g2 : W.frozen? ⟨bw, 2, none⟩ = false := (World.frozen?_of_block (by rw [hh])).trans f2
 rw [← hh] at hbw
 have HO : Hid (∀ o, OwnC (W.drew.alloc o) C 2 (.slice pv mv cv) l.length cs) := fun o => ((HW.out.heap hh).own.keep (w' := W.drew) (Nat.le_refl _) fun _ _ _ => rfl).alloc o
 have HX : Hid ((W.drew.alloc (.cells #[.iface (ndTy t) (.pointer (some ⟨c, 0, none⟩)), .string b1] 256)).rangeAt W.heap.size 0 [.iface (ndTy t) (.pointer (some ⟨c, 0, none⟩)), .string b1]) := rangeAt_new W.drew [.iface (ndTy t) (.pointer (some ⟨c, 0, none⟩)), .string b1] _
 have HB : Hid (∀ o, Below w.heap.size w (W.drew.alloc o)) := fun o => hB0.drew.alloc hB0.size o
 have HH : Hid (W.heap.size = w.heap.size) := by rw [hh]; exact rfl
 have hap := HW.out.apart
 have HA : Hid ((Value.slice pv mv cv).ownBlock ≠ some bw) := hap
 clear hWq hh hB0 f0 f1 f2 hap
 go_region_law
  (refine step_append_ownp _ rfl (.tmp 34) (.tmp 43) 163 rfl 256 i0 (.agg #[.nilIface, .string ⟨#[]⟩]) 2 32 Tryz.underlying163 hi hz0 hz1 hz2 rfl (by decide) C (.slice pv mv cv) l.length cs (by simp [Act.eval]) (HO.out _) W.heap.size 0 1 1 [.iface (ndTy t) (.pointer (some ⟨c, 0, none⟩)), .string b1] (by simp [Act.eval]) rfl HX.out (oneCell2 HW.out.node b1) (by have := HL.out; unfold maxLen; omega) (by have := HL.out; omega) (by have := HL.out; have := HH.out; simp; omega) ?_; intro v2 w2 hO2 hg2 hf2 hp2; have hne : some bw ≠ (Value.slice pv mv cv).ownBlock := (fun e => HA.out e.symm); have hbl : w2.heap[bw]? = W.heap[bw]? := (hg2.block bw (by simp; omega) hne).trans (Below.heap_alloc _ _ _ hbw); have z0 := (World.cell?_of_block (a := ⟨bw, 0, none⟩) hbl).trans c0; have z1 := (World.cell?_of_block (a := ⟨bw, 1, none⟩) hbl).trans c1; have z2 := (World.cell?_of_block (a := ⟨bw, 2, none⟩) hbl).trans c2; have y0 := (World.frozen?_of_block (a := ⟨bw, 0, none⟩) hbl).trans g0; have y1 := (World.frozen?_of_block (a := ⟨bw, 1, none⟩) hbl).trans g1; have y2 := (World.frozen?_of_block (a := ⟨bw, 2, none⟩) hbl).trans g2; have AM : Aside (∀ w3, (w3.heap = (((w2.setCell ⟨bw, 0, none⟩ v2).setCell ⟨bw, 1, none⟩ (.iface (ndTy t') (.pointer (some ⟨d, 0, none⟩)))).setCell ⟨bw, 2, none⟩ (.string r1)).heap ∨ w3.heap = (((w2.setCell ⟨bw, 0, none⟩ v2).setCell ⟨bw, 2, none⟩ (.string r1)).setCell ⟨bw, 1, none⟩ (.iface (ndTy t') (.pointer (some ⟨d, 0, none⟩)))).heap) → Way S C w3 bw (l ++ [(t, b1)]) t' r1 v2 (.iface (ndTy t') (.pointer (some ⟨d, 0, none⟩))) (cs ++ [.iface (ndTy t) (.pointer (some ⟨c, 0, none⟩)), .string b1])) := (fun w3 h3 => way_on HW.out (HB.out _) HV.out hO2 hg2 hf2 h3); have FM : Aside (∀ w3, w3.os = w2.os → w3.tape = w2.tape → w3.output = w2.output → (w3.heap = (((w2.setCell ⟨bw, 0, none⟩ v2).setCell ⟨bw, 1, none⟩ (.iface (ndTy t') (.pointer (some ⟨d, 0, none⟩)))).setCell ⟨bw, 2, none⟩ (.string r1)).heap ∨ w3.heap = (((w2.setCell ⟨bw, 0, none⟩ v2).setCell ⟨bw, 2, none⟩ (.string r1)).setCell ⟨bw, 1, none⟩ (.iface (ndTy t') (.pointer (some ⟨d, 0, none⟩)))).heap) → WayFr bw (.slice pv mv cv) v2 w w3) := (fun w3 ho ht hu h3 => wayfr_on (HB.out _) hg2 hf2 ho ht hu h3); have BM : Aside (Below C w w2) := belowGrown ((HB.out _).mono HL.out.2) HL.out.2 hg2 (fun k e => (HW.out.own.block k e).1); have hb2 : bw < w2.heap.size := (by have := hg2.size; simp at this; omega); obtain ⟨p2, m2, k2, rfl⟩ := hO2.shape; clear hO2 hg2 hf2 hp2 hne hbl)
 all_goals clear c0 c1 c2 g0 g1 g2 HO HX HB
 all_goals go_wp2
 all_goals go_region
 all_goals go_wp2
 all_goals go_ret
 all_goals refine ⟨rfl, below3 (x := .slice p2 m2 k2) (y := .iface (ndTy t') (.pointer (some ⟨d, 0, none⟩))) (z := .string r1) BM.out HW.out.lo rfl rfl rfl ?_, _, _, _, FM.out _ rfl rfl rfl ?_, AM.out _ ?_⟩
 all_goals first | exact .inl rfl | exact .inr rfl
end Go.Proofs.YtjiikjpnlgogfaaGreatDoor
namespace Go.Proofs.YtjiikjpnlgogfaaGreatDoor
open Go.RowKit
inductive WayTo : Nd → ByteArray → List (Nd × ByteArray) → Nd → ByteArray → Prop
 | stop {t : Nd} {r : ByteArray} : (t.next r).1 = .no → WayTo t r [] t r
 | go {t : Nd} {r : ByteArray} {l : List (Nd × ByteArray)} {e : Nd} {r' : ByteArray} : (t.next r).1 ≠ .no → WayTo (t.next r).1 (r.extract (t.next r).2 r.size) l e r' → WayTo t r ((t, r.extract 0 (t.next r).2) :: l) e r'
theorem WayTo.inv {t : Nd} {r : ByteArray} {l : List (Nd × ByteArray)} {e : Nd} {r' : ByteArray} (h : WayTo t r l e r') (hn : (t.next r).1 ≠ .no) : ∃ l3, l = (t, r.extract 0 (t.next r).2) :: l3 ∧ WayTo (t.next r).1 (r.extract (t.next r).2 r.size) l3 e r' := by
 cases h with
 | stop h => exact absurd h hn
 | go _ h => exact ⟨_, rfl, h⟩
mutual
def Nd.fits : Nd → Nat → Prop
 | .no, _ => True
 | .leaf p _, n => p.size = n
 | .ext p t, n => 0 < p.size ∧ p.size < n ∧ t.fits (n - p.size)
 | .br ks, n => 0 < n ∧ fitsAll ks (n - 1)
 | .stub _, _ => True
def fitsAll : List Nd → Nat → Prop
 | [], _ => True
 | x :: xs, n => x.fits n ∧ fitsAll xs n
end
theorem fitsAll_mem {x : Nd} {n : Nat} : ∀ {l : List Nd}, fitsAll l n → x ∈ l → x.fits n := by
 intro l
 induction l with
 | nil => intro _ h; cases h
 | cons y l ih =>
  intro h hx
  rw [fitsAll] at h
  rcases List.mem_cons.1 hx with rfl | hx
  ·exact h.1
  ·exact ih h.2 hx
theorem fitsAll_of {n : Nat} : ∀ {l : List Nd}, (∀ x ∈ l, x.fits n) → fitsAll l n := by
 intro l
 induction l with
 | nil => intro _; rw [fitsAll]; trivial
 | cons y l ih => intro h; rw [fitsAll]; exact ⟨h y (List.mem_cons_self ..), ih fun x hx => h x (List.mem_cons_of_mem _ hx)⟩
theorem Nd.next_not {t : Nd} (h : t.inner = false) (r : ByteArray) : (t.next r).1 = .no := by
 cases t with
 | ext _ _ => simp [Nd.inner] at h
 | br _ => simp [Nd.inner] at h
 | _ => rfl
theorem Nd.next_fits {t : Nd} {r : ByteArray} (hf : t.fits r.size) (hn : (t.next r).1 ≠ .no) : 0 < (t.next r).2 ∧ (t.next r).2 ≤ r.size ∧ (t.next r).1.fits (r.size - (t.next r).2) := by
 cases t with
 | ext p t =>
  rw [Nd.fits] at hf
  rw [Nd.next] at hn ⊢
  split at hn
  ·rename_i hb
   rw [if_pos hb]
   exact ⟨hf.1, by omega, hf.2.2⟩
  ·exact absurd rfl hn
 | br ks =>
  rw [Nd.fits] at hf
  rw [Nd.next] at hn ⊢
  refine ⟨Nat.one_pos, hf.1, ?_⟩
  rw [List.getD_eq_getElem?_getD] at hn ⊢
  cases hk : ks[(bytesOf r)[0]!]? with
  | none => rw [hk] at hn; exact absurd rfl hn
  | some x => exact fitsAll_mem hf.2 (List.mem_of_getElem? hk)
 | _ => exact absurd rfl hn
theorem extract_size (r : ByteArray) (n : Nat) : (r.extract n r.size).size = r.size - n := by
 rw [← bytesOf_length, bytesOf_tail, List.length_drop, bytesOf_length]
theorem extract_size0 (r : ByteArray) (n : Nat) (h : n ≤ r.size) : (r.extract 0 n).size = n := by
 rw [← bytesOf_length, bytesOf_head, List.length_take, bytesOf_length]
 omega
theorem nib_tail {r : ByteArray} (h : ∀ x ∈ bytesOf r, x < 16) (n : Nat) : ∀ x ∈ bytesOf (r.extract n r.size), x < 16 := by
 rw [bytesOf_tail]
 exact fun x hx => h x (List.mem_of_mem_drop hx)
theorem nib_head {r : ByteArray} (h : ∀ x ∈ bytesOf r, x < 16) (n : Nat) : ∀ x ∈ bytesOf (r.extract 0 n), x < 16 := by
 rw [bytesOf_head]
 exact fun x hx => h x (List.mem_of_mem_take hx)
theorem next_any {B : Nat} {S : Wood} {w : World} {c : Nat} {t : Nd} {r : ByteArray} (hf : Forest B S w) (hc : S c = some t) (ht : t.inner = true) (hfit : t.fits r.size) (hn : ∀ x ∈ bytesOf r, x < 16) : NextC S w (nextFn t) c t r := by
 cases t with
 | ext p t => exact enext_any r hf hc
 | br ks =>
  rw [Nd.fits] at hfit
  refine bnext_any r hf hc hfit.1 ?_
  have : 0 < (bytesOf r).length := by rw [bytesOf_length]; exact hfit.1
  rw [getElem!_pos (bytesOf r) 0 this]
  exact hn _ (List.getElem_mem _)
 | _ => simp [Nd.inner] at ht
theorem step_any {B : Nat} {S : Wood} {C : Nat} {w : World} {bw : Nat} {l : List (Nd × ByteArray)} {t : Nd} {r : ByteArray} {thr v : Value} {cs : List Value} (hf : Forest B S w) (hW : Way S C w bw l t r thr v cs) (hfit : t.fits r.size) (hn : ∀ x ∈ bytesOf r, x < 16) (hl : l.length ≤ 1000) (hC : C ≤ w.heap.size) :
  Calls Tryz.prog 205 #[.pointer (some ⟨bw, 0, none⟩)] w fun e w' => Below C w w' ∧ ((e = .returned (.bool false) ∧ (t.next r).1 = .no ∧ ∃ thr' v' cs', WayFr bw thr thr' w w' ∧ Way S C w' bw l t r thr' v' cs') ∨ (e = .returned (.bool true) ∧ (t.next r).1 ≠ .no ∧ ∃ thr' v' cs', WayFr bw thr thr' w w' ∧ Way S C w' bw (l ++ [(t, r.extract 0 (t.next r).2)]) (t.next r).1 (r.extract (t.next r).2 r.size) thr' v' cs')) := by
 cases hi : t.inner with
 | false => exact (step_not hW hi).mono (by rintro e w' ⟨rfl, rfl⟩; exact ⟨Below.refl _ _, .inl ⟨rfl, Nd.next_not hi r, _, _, _, WayFr.refl _ _ _, hW⟩⟩)
 | true =>
  obtain ⟨c, hv, hc⟩ : ∃ c, v = .iface (ndTy t) (.pointer (some ⟨c, 0, none⟩)) ∧ S c = some t := by
   rcases hW.node with ⟨rfl, _⟩ | ⟨_, c, h1, h2⟩
   ·simp [Nd.inner] at hi
   ·exact ⟨c, h1, h2⟩
  have hN := next_any hf hc hi hfit hn
  by_cases hno : (t.next r).1 = .no
  ·exact (step_end hW hi hv hN hno).mono (by rintro e w' ⟨rfl, m, rfl⟩; exact ⟨Below.drewN (Below.refl _ _) _, .inl ⟨rfl, hno, _, _, _, WayFr.drewN _ _ _ _, hW.heap rfl⟩⟩)
  ·exact (step_on hW hi hv hN hno (Nd.next_fits hfit hno).2.1 hl hC).mono (by rintro e w' ⟨rfl, hb, h⟩; exact ⟨hb, .inr ⟨rfl, hno, h⟩⟩)
set_option maxRecDepth 100000 in
set_option maxHeartbeats 1600000 in
theorem goon2_any {B : Nat} {S : Wood} {C : Nat} {w : World} {bw : Nat} {l l' : List (Nd × ByteArray)} {t e : Nd} {r r' : ByteArray} {thr v : Value} {cs : List Value} (hf : Forest B S w) (hW : Way S C w bw l t r thr v cs) (hbw : S bw = none) (hth : ∀ k, thr.ownBlock = some k → S k = none) (hfit : t.fits r.size) (hn : ∀ x ∈ bytesOf r, x < 16) (hT : WayTo t r l' e r') (hl : l.length + r.size ≤ 1000) :
  Calls Tryz.prog 152 #[.pointer (some ⟨bw, 0, none⟩)] w fun x w' => x = .returned (.tuple #[]) ∧ ∃ thr' v' cs', WayFr bw thr thr' w w' ∧ Way S C w' bw (l ++ l') e r' thr' v' cs' := by
 have HF : Hid (Forest B S w ∧ S bw = none ∧ ∀ k, thr.ownBlock = some k → S k = none) := ⟨hf, hbw, hth⟩
 obtain ⟨L, hL⟩ : ∃ L, l ++ l' = L := ⟨_, rfl⟩
 have H0 : Hid (WayFr bw thr thr w w ∧ Way S C w bw l t r thr v cs ∧ t.fits r.size ∧ (∀ x ∈ bytesOf r, x < 16) ∧ WayTo t r l' e r' ∧ l.length + r.size ≤ 1000 ∧ l ++ l' = L) := ⟨WayFr.refl _ _ _, hW, hfit, hn, hT, hl, hL⟩
 rw [hL]
 clear hf hbw hth hW hfit hn hT hl hL
 go_enter Tryz.func152, Tryz.ntmps152
 go_wp2
 go_loopg [3] l'.length (fun g _ wr => ∃ l1 l2 t1 r1 thr1 v1 cs1, g = l2.length ∧ WayFr bw thr thr1 w wr ∧ Way S C wr bw l1 t1 r1 thr1 v1 cs1 ∧ t1.fits r1.size ∧ (∀ x ∈ bytesOf r1, x < 16) ∧ WayTo t1 r1 l2 e r' ∧ l1.length + r1.size ≤ 1000 ∧ l1 ++ l2 = L)
 case atStart => exact ⟨l, l', t, r, thr, v, cs, rfl, H0.out⟩
 case round =>
  obtain ⟨l1, l2, t1, r1, thr1, v1, cs1, rfl, hb, hW, hfit, hn, hT, hl, hL⟩ := hrel
  have hfw : Forest B S wr := HF.out.1.wayfr hb HF.out.2.1 HF.out.2.2
  have HS := Hid.hide (step_any hfw hW hfit hn (by omega) (by have := hW.lt; have := hW.lo; omega))
  have HX : Hid (WayFr bw thr thr1 w wr ∧ t1.fits r1.size ∧ (∀ x ∈ bytesOf r1, x < 16) ∧ WayTo t1 r1 l2 e r' ∧ l1.length + r1.size ≤ 1000 ∧ l1 ++ l2 = L) := ⟨hb, hfit, hn, hT, hl, hL⟩
  clear hfw hb hW hfit hn hT hl hL H0
  go_wp2_with fail
  refine HS.out.mono ?_
  rintro x w1 ⟨-, ⟨rfl, hno, thr2, v2, cs2, hb1, hW2⟩ | ⟨rfl, hno, thr2, v2, cs2, hb1, hW2⟩⟩
  ·have HE : Hid (WayFr bw thr thr2 w w1 ∧ Way S C w1 bw L e r' thr2 v2 cs2) := by
    obtain ⟨hb, hfit, hn, hT, hl, hL⟩ := HX.out
    refine ⟨hb.trans hb1, ?_⟩
    cases hT with
    | stop _ => rw [List.append_nil] at hL; rw [← hL]; exact hW2
    | go h _ => exact absurd hno h
   clear hb1 hno hW2
   go_wp2
   go_end0
   exact ⟨rfl, _, _, _, HE.out.1, HE.out.2⟩
  ·obtain ⟨hb, hfit, hn, hT, hl, hL⟩ := HX.out
   obtain ⟨l3, rfl, hT'⟩ := hT.inv hno
   ·obtain ⟨k1, k2, k3⟩ := Nd.next_fits hfit hno
    have HE : Hid (WayFr bw thr thr2 w w1 ∧ Way S C w1 bw (l1 ++ [(t1, r1.extract 0 (t1.next r1).2)]) (t1.next r1).1 (r1.extract (t1.next r1).2 r1.size) thr2 v2 cs2 ∧ (t1.next r1).1.fits (r1.extract (t1.next r1).2 r1.size).size ∧ (∀ x ∈ bytesOf (r1.extract (t1.next r1).2 r1.size), x < 16) ∧ WayTo (t1.next r1).1 (r1.extract (t1.next r1).2 r1.size) l3 e r' ∧ (l1 ++ [(t1, r1.extract 0 (t1.next r1).2)]).length + (r1.extract (t1.next r1).2 r1.size).size ≤ 1000 ∧ (l1 ++ [(t1, r1.extract 0 (t1.next r1).2)]) ++ l3 = L) := by
     refine ⟨hb.trans hb1, hW2, by rw [extract_size]; exact k3, nib_tail hn _, hT', ?_, by rw [← hL, List.append_assoc]; rfl⟩
     rw [extract_size, List.length_append, List.length_singleton]
     omega
    clear hb hb1 hno hW2 hfit hn hT' hl hL k1 k2 k3 HX HS
    go_wp2
    go_roundg l3.length
    case measure => simp
    case rel => exact ⟨_, l3, _, _, _, _, _, rfl, HE.out⟩
theorem goon_any {B : Nat} {S : Wood} {C : Nat} {w0 w : World} {bw : Nat} {l l' : List (Nd × ByteArray)} {t e : Nd} {r r' : ByteArray} {thr v : Value} {cs : List Value} (hf : Forest B S w0) (hC : C = w0.heap.size) (hb : Below C w0 w) (hW : Way S C w bw l t r thr v cs) (hfit : t.fits r.size) (hn : ∀ x ∈ bytesOf r, x < 16) (hT : WayTo t r l' e r') (hl : l.length + r.size ≤ 1000) :
  Calls Tryz.prog 152 #[.pointer (some ⟨bw, 0, none⟩)] w fun x w' => x = .returned (.tuple #[]) ∧ Below C w0 w' ∧ ∃ thr' v' cs', Way S C w' bw (l ++ l') e r' thr' v' cs' := by
 subst hC
 have h2 : ∀ k, thr.ownBlock = some k → w0.heap.size ≤ k := fun k hk => (hW.own.block k hk).1
 refine (goon2_any (hf.below hb) hW (hf.fresh hW.lo) (fun k hk => hf.fresh (h2 k hk)) hfit hn hT hl).mono ?_
 rintro x w' ⟨rfl, thr', v', cs', hfr, hW'⟩
 exact ⟨rfl, hb.trans (hfr.below hW.lo h2 hb.size), _, _, _, hW'⟩
end Go.Proofs.YtjiikjpnlgogfaaGreatDoor
namespace Go.Proofs.YtjiikjpnlgogfaaGreatDoor
open Go.RowKit
structure Followed (S : Wood) (C : Nat) (w : World) (l : List (Nd × ByteArray)) (e : Nd) (thr v : Value) : Prop where
 row : ∃ cs, OwnC w C 2 thr l.length cs ∧ Turns S l cs
 node : ndV S v e
theorem Followed.keep {S : Wood} {C : Nat} {w w' : World} {l : List (Nd × ByteArray)} {e : Nd} {thr v : Value} (h : Followed S C w l e thr v) (hb : Below w.heap.size w w') : Followed S C w' l e thr v := by
 obtain ⟨⟨cs, h1, h2⟩, h3⟩ := h
 exact ⟨⟨cs, h1.below hb, h2⟩, h3⟩
theorem Followed.shape {S : Wood} {C : Nat} {w : World} {l : List (Nd × ByteArray)} {e : Nd} {thr v : Value} (h : Followed S C w l e thr v) : ∃ p m c, thr = .slice p m c := by
 obtain ⟨cs, h1, _⟩ := h.row
 exact h1.shape
theorem way_size : (Tryz.prog.info? 165).map (·.size) = some 3 := by kernel_rfl
theorem way_cells {w : World} {b : Nat} {x y z : Value} (h : w.heap[b]? = some (.cells #[x, y, z] 165 (0, 0))) : w.rangeAt b 0 [x, y, z] := fun j u hu => by
 simp only [World.cell?, h, Nat.zero_add]
 simpa using hu
theorem way_one {S : Wood} {v : Value} {t : Nd} (h : ndV S v t) (p : Option Addr) (m c : Nat) (r : ByteArray) : (#[.slice p m c, v, .string r] : Array Value).all (·.oneCell') = true := by
 refine all_oneCell_toArray (cs := [.slice p m c, v, .string r]) fun u hu => ?_
 simp only [List.mem_cons, List.not_mem_nil, or_false] at hu
 rcases hu with rfl | rfl | rfl
 ·rfl
 ·exact h.one
 ·rfl
theorem _root_.Go.RowKit.Below.behind' {w w0 w1 : World} (h : Below w.heap.size w w0) (k : Below w0.heap.size w0 w1) : Below w.heap.size w w1 := h.trans (k.mono h.size)
set_option maxRecDepth 100000 in
set_option maxHeartbeats 1600000 in
theorem follow_any {B : Nat} {S : Wood} {w : World} {v : Value} {t e : Nd} {p r' : ByteArray} {l : List (Nd × ByteArray)} (hf : Forest B S w) (hv : ndV S v t) (hfit : t.fits p.size) (hn : ∀ x ∈ bytesOf p, x < 16) (hp : p.size ≤ 1000) (hT : WayTo t p l e r') :
  Calls Tryz.prog 95 #[v, .string p] w fun x w' => Below w.heap.size w w' ∧ ∃ thr v', x = .returned (.agg #[thr, v', .string r']) ∧ Followed S w.heap.size w' l e thr v' := by
 have HF := Hid.hide hf
 have hvs := hv.shape
 obtain ⟨w0, hw0⟩ : ∃ w0, w.alloc (.cells #[.slice none 0 0, .nilIface, .string ⟨#[]⟩] 165) = w0 := ⟨_, rfl⟩
 have hs0 : w0.heap.size = w.heap.size + 1 := by rw [← hw0]; simp
 have hb0 : Below w.heap.size w w0 := by rw [← hw0]; exact (Below.refl _ _).alloc (Nat.le_refl _) _
 have hc0 : w0.there w.heap.size 0 3 := by rw [← hw0]; exact there_new _ _ _ _ rfl
 have HG : Hid (Calls Tryz.prog 152 #[.pointer (some ⟨w0.heap.size, 0, none⟩)] (w0.alloc (.cells #[.slice none 0 0, v, .string p] 165)) fun x w' => x = .returned (.tuple #[]) ∧ Below w0.heap.size w0 w' ∧ ∃ thr' v' cs', Way S w0.heap.size w' w0.heap.size l e r' thr' v' cs') := by
  have hWy : Way S w0.heap.size (w0.alloc (.cells #[.slice none 0 0, v, .string p] 165)) w0.heap.size [] t p (.slice none 0 0) v [] := by
   exact ⟨Array.getElem?_push_size, Nat.le_refl _, hv, OwnC.nil _ _ _, by simp [Value.ownBlock], rfl⟩
  exact goon_any (hf.below hb0) rfl ((Below.refl w0.heap.size w0).alloc (Nat.le_refl _) _) hWy hfit hn hT (by simpa using hp)
 have HW : Hid (w0.heap.size = w.heap.size + 1 ∧ Below w.heap.size w w0 ∧ w0.there w.heap.size 0 3) := ⟨hs0, hb0, hc0⟩
 clear hf hv hfit hn hp hT hs0 hb0 hc0
 rcases hvs with rfl | ⟨T, a, rfl⟩
 all_goals
  go_enter Tryz.func95, Tryz.ntmps95
  go_wp2_with fail
  refine HG.out.mono ?_
  rintro x w1 ⟨rfl, hb1, thr, v1, cs, hW1⟩
  have hth : w1.there w.heap.size 0 3 := there_block HW.out.2.2 (hb1.block _ (by have := HW.out.1; omega))
  obtain ⟨d0, d1, d2, -, -, -⟩ := hW1.cell
  obtain ⟨pv, mv, cv, rfl⟩ := hW1.own.shape
  have hrg := way_cells hW1.blk
  have HE : Hid (Below w.heap.size w w1 ∧ Way S w0.heap.size w1 w0.heap.size l e r' (.slice pv mv cv) v1 cs ∧ w1.there w.heap.size 0 3) := ⟨HW.out.2.1.behind' hb1, hW1, hth⟩
  have hone := way_one hW1.node pv mv cv r'
  have hvs1 := hW1.node.shape
  clear hb1 hW1 hw0
  go_wp2_with (first | (refine wpList_load_mid rfl 165 _ rfl w0.heap.size 0 rfl _ _ hrg Tryz.underlying165 rfl way_size ?_) | (refine wpList_store_mid rfl 165 _ _ rfl w.heap.size 0 #[.slice pv mv cv, v1, .string r'] rfl rfl hth way_size hone ?_))
  refine bodyPost_ret (v := .agg #[.slice pv mv cv, v1, .string r']) (results_cell1 Tryz.results95 _ _ _ w.heap.size 0 rfl (run_loadVar_mid _ _ _ 165 _ _ (World.rangeAt_setCells_same _ _ _ _ HE.out.2.2) Tryz.underlying165 rfl way_size)) rfl ⟨?_, _, _, rfl, ?_⟩
  ·exact below_setCells HE.out.1 (Nat.le_refl _) _ _
  ·refine ⟨⟨cs, ?_, HE.out.2.1.turns⟩, HE.out.2.1.node⟩
   refine (HE.out.2.1.own.mono (by have := HW.out.1; omega)).keep (Nat.le_of_eq (size_setCells _ _ _ _).1.symm) fun k _ hk => heap_setCells _ _ _ _ _ ?_
   have := (HE.out.2.1.own.block k hk).1
   have := HW.out.1
   omega
end Go.Proofs.YtjiikjpnlgogfaaGreatDoor
namespace Go.Proofs.YtjiikjpnlgogfaaGreatDoor
open Go.RowKit
theorem size51 : (Tryz.prog.info? 26).map (·.size) = some 32 := by kernel_rfl
set_option maxRecDepth 100000 in
set_option maxHeartbeats 1600000 in
theorem ofkey_any (K : Array Nat) (w : World) (hK : K.size = 32) (hb : Bytes K) :
  Calls Tryz.prog 97 #[.agg (K.toList.map encB).toArray] w fun e w' => e = .returned (.string (textB (nibs K.toList))) ∧ Below w.heap.size w w' := by
 have hl : K.toList.length = 32 := by simpa using hK
 have hbs : ∀ x ∈ K.toList, x < 256 := fun x hx => by
  obtain ⟨j, hj, rfl⟩ := List.getElem_of_mem hx
  have := hb j
  rw [getElem!_pos K j (by simpa using hj)] at this
  simpa using this
 have o0 := Own.ofCells w 26 K.toList (by rw [hl]; unfold maxLen; omega)
 rw [hl] at o0
 have hcv := run_own_text (P := Tryz.prog) _ 111 9 5 Tryz.underlying111 Tryz.underlying5 Tryz.underlying9 o0
 have hts : (textB K.toList).size = 32 := by rw [textB_size, hl]
 have htb := bytesOf_textB hbs
 obtain ⟨t, ht⟩ : ∃ t, textB K.toList = t := ⟨_, rfl⟩
 rw [ht] at hcv hts htb
 have HB : Hid (bytesOf t = K.toList ∧ t.size = 32) := ⟨htb, hts⟩
 clear o0 hl hbs hts htb ht hK hb
 go_enter Tryz.func97, Tryz.ntmps97
 go_wp2_with fail
 generalize hw0 : w.alloc (.cells (K.toList.map encB).toArray 26) = w0
 have hb0 : Below w.heap.size w w0 := by rw [← hw0]; exact (Below.refl _ _).alloc (Nat.le_refl _) _
 refine (nibbles_any (B := w0.heap.size) (l := []) t w0 (Own.nil _ _) (Nat.le_refl _) (by rw [HB.out.2]; omega) (by simp)).mono ?_
 rintro e w1 ⟨v1, rfl, hg1⟩
 rw [HB.out.1, List.nil_append] at hg1
 have hcv1 := run_own_text (P := Tryz.prog) _ 111 9 5 Tryz.underlying111 Tryz.underlying5 Tryz.underlying9 hg1.own
 have hbw : Below w.heap.size w w1 := hb0.trans ⟨hg1.grown.os, hg1.grown.tape, hg1.grown.output, hg1.grown.size, fun k hk => hg1.grown.block k (by have := hb0.size; omega) (by simp [Value.ownBlock])⟩
 have HW : Hid (Below w.heap.size w w1) := hbw
 obtain ⟨r, hr⟩ : ∃ r, textB (nibs K.toList) = r := ⟨_, rfl⟩
 rw [hr] at hcv1
 have HR : Hid (textB (nibs K.toList) = r) := hr
 clear hg1 hbw hb0 hw0 hr hcv
 go_wp2
 go_ret
 exact ⟨by rw [HR.out]; rfl, HW.out⟩
theorem ndV.nil {S : Wood} {v : Value} {t : Nd} (h : ndV S v t) (ht : t = .no) : v = .nilIface := by
 rcases h with ⟨_, h⟩ | ⟨h, _⟩
 ·exact h
 ·exact absurd ht h
theorem ndV.full {S : Wood} {v : Value} {t : Nd} (h : ndV S v t) (ht : t ≠ .no) : ∃ b, v = .iface (ndTy t) (.pointer (some ⟨b, 0, none⟩)) ∧ S b = some t := by
 rcases h with ⟨h, _⟩ | ⟨_, h⟩
 ·exact absurd h ht
 ·exact h
theorem taStub (t : Nd) (ht : ∀ h, t ≠ .stub h) (hn : t ≠ .no) (a : Addr) (w : World) : (Instr.typeAssert (.iface (ndTy t) (.pointer (some a))) 106 191 true).run Tryz.prog w = .ok (.tuple #[.pointer none, .bool false]) w := by
 cases t with
 | no => exact absurd rfl hn
 | leaf _ _ => kernel_rfl
 | ext _ _ => kernel_rfl
 | br _ => kernel_rfl
 | stub h => exact absurd rfl (ht h)
theorem taStubNil (w : World) : (Instr.typeAssert .nilIface 106 191 true).run Tryz.prog w = .ok (.tuple #[.pointer none, .bool false]) w := by kernel_rfl
set_option maxRecDepth 100000 in
set_option maxHeartbeats 1600000 in
theorem met_any {S : Wood} {w : World} {e : Nd} {v : Value} {r : ByteArray} (p : Option Addr) (m c : Nat) (hv : ndV S v e) (hs : ∀ h, e ≠ .stub h) :
  Calls Tryz.prog 98 #[.agg #[.slice p m c, v, .string r]] w fun x w' => x = .returned (.pointer none) ∧ Below w.heap.size w w' := by
 rcases hv with ⟨rfl, rfl⟩ | ⟨hne, b, rfl, hb⟩
 ·have hta := taStubNil
  go_enter Tryz.func98, Tryz.ntmps98
  go_wp2
  go_ret
  exact ⟨rfl, (Below.refl _ _).alloc (Nat.le_refl _) _⟩
 ·have hta := taStub e hs hne
  clear hb hs
  go_enter Tryz.func98, Tryz.ntmps98
  go_wp2
  go_ret
  exact ⟨rfl, (Below.refl _ _).alloc (Nat.le_refl _) _⟩
theorem Followed.on {S : Wood} {C : Nat} {w w' : World} {l : List (Nd × ByteArray)} {e : Nd} {thr v : Value} (h : Followed S C w l e thr v) (hs : w.heap.size ≤ w'.heap.size) (hb : ∀ k, k < w.heap.size → C ≤ k → w'.heap[k]? = w.heap[k]?) : Followed S C w' l e thr v := by
 obtain ⟨⟨cs, h1, h2⟩, h3⟩ := h
 exact ⟨⟨cs, h1.keep hs fun k hk he => hb k hk (h1.block k he).1, h2⟩, h3⟩
theorem Followed.mono {S : Wood} {C C' : Nat} {w : World} {l : List (Nd × ByteArray)} {e : Nd} {thr v : Value} (h : Followed S C w l e thr v) (hc : C' ≤ C) : Followed S C' w l e thr v := by
 obtain ⟨⟨cs, h1, h2⟩, h3⟩ := h
 exact ⟨⟨cs, h1.mono hc, h2⟩, h3⟩
def WayPut (S : Wood) (W0 : World) (l : List (Nd × ByteArray)) (e : Nd) (r : ByteArray) (g : Nat) (thr v : Value) (wc : World) : Prop :=
 wc.rangeAt g 0 [thr, v, .string r] ∧ g < wc.heap.size ∧ Followed S W0.heap.size wc l e thr v ∧ Below W0.heap.size W0 wc
theorem wayput_new {S : Wood} {W0 w2 : World} {C : Nat} {l : List (Nd × ByteArray)} {e : Nd} {r : ByteArray} {thr v : Value} (h : Followed S C w2 l e thr v) (hC : W0.heap.size ≤ C) (hb : Below W0.heap.size W0 w2) : WayPut S W0 l e r w2.heap.size thr v (w2.alloc (.cells #[thr, v, .string r] 165)) := by
 refine ⟨fun j u hu => ?_, by simp, (h.mono hC).on (by simp) fun k hk _ => Below.heap_alloc _ _ _ hk, hb.alloc hb.size _⟩
 rw [Nat.zero_add, World.cell?_alloc_new]
 simpa using hu
theorem wayput_old {S : Wood} {W0 w2 W2 : World} {C g : Nat} {l : List (Nd × ByteArray)} {e : Nd} {r : ByteArray} {thr v : Value} (h : Followed S C w2 l e thr v) (hC : W0.heap.size ≤ C) (hb : Below W0.heap.size W0 w2) (hg : g < C) (hW : Below W2.heap.size W2 w2) (hgW : g < W2.heap.size) (hth : W2.there g 0 3) (hg0 : W0.heap.size ≤ g) : WayPut S W0 l e r g thr v (((w2.setCell ⟨g, 0, none⟩ thr).setCell ⟨g, 1, none⟩ v).setCell ⟨g, 2, none⟩ (.string r)) := by
 have hs := hW.size
 have hne : ∀ k, k ≠ g → (((w2.setCell ⟨g, 0, none⟩ thr).setCell ⟨g, 1, none⟩ v).setCell ⟨g, 2, none⟩ (.string r)).heap[k]? = w2.heap[k]? := fun k hn => (Below.heap_setCell _ _ _ _ hn).trans ((Below.heap_setCell _ _ _ _ hn).trans (Below.heap_setCell _ _ _ _ hn))
 refine ⟨World.rangeAt_setCells_same w2 g 0 [thr, v, .string r] (there_block hth (hW.block g hgW)), by simp; omega, (h.on (by simp) fun k _ hk => hne k (by omega)).mono hC, ((hb.setCell (p := ⟨g, 0, none⟩) hg0 _).setCell (p := ⟨g, 1, none⟩) hg0 _).setCell (p := ⟨g, 2, none⟩) hg0 _⟩
set_option maxRecDepth 100000 in
set_option maxHeartbeats 3200000 in
theorem tway_any {B : Nat} {S : Wood} {w : World} {b : Nat} {t e : Nd} {K : Array Nat} {p r' : ByteArray} {l : List (Nd × ByteArray)} (hf : Forest B S w) (ht : TreeAt S w b t) (hK : K.size = 32) (hKb : Bytes K) (hp : textB (nibs K.toList) = p) (hfit : t.fits p.size) (hn : ∀ x ∈ bytesOf p, x < 16) (hps : p.size ≤ 1000) (hT : WayTo t p l e r') (hs : ∀ h, e ≠ .stub h) :
  Calls Tryz.prog 83 #[.pointer (some ⟨b, 0, none⟩), .agg (K.toList.map encB).toArray] w fun x w' => Below w.heap.size w w' ∧ ∃ thr v', x = .returned (.tuple #[.agg #[thr, v', .string r'], .nilIface]) ∧ Followed S w.heap.size w' l e thr v' := by
 have hbl := ht.lt
 obtain ⟨v, hv, c0, -⟩ := ht.cell
 have HF := Hid.hide hf
 have HS := Hid.hide hs
 have hk := ofkey_any K
 rw [hp] at hk
 have HK : Hid (∀ W, Calls Tryz.prog 97 #[.agg (K.toList.map encB).toArray] W fun e w' => e = .returned (.string p) ∧ Below W.heap.size W w') := fun W => hk W hK hKb
 have HW : Hid (∀ W, Below w.heap.size w W → Calls Tryz.prog 95 #[v, .string p] W fun x w' => Below W.heap.size W w' ∧ ∃ thr v', x = .returned (.agg #[thr, v', .string r']) ∧ Followed S W.heap.size w' l e thr v') := fun W hW => follow_any (hf.below hW) hv hfit hn hps hT
 have hrow : ∀ o, ((w.alloc (.cells (K.toList.map encB).toArray 26)).alloc o).rangeAt w.heap.size 0 (K.toList.map encB) := fun o j u hu => by
  rw [World.cell?_alloc_past _ _ _ (by simp), Nat.zero_add, World.cell?_alloc_new]
  simpa using hu
 have hsz : (Tryz.prog.info? 26).map (·.size) = some (K.toList.map encB).length := by rw [size51]; simp [hK]
 clear hf ht hv hK hKb hp hfit hn hps hT hs hk
 by_cases he : e = .no
 ·go_enter Tryz.func83, Tryz.ntmps83
  go_upto_region 1 with fail
  have hr0 := hrow (.cells #[.slice none 0 0, .nilIface, .string ⟨#[]⟩] 165)
  have hb0 : Below w.heap.size w ((w.alloc (.cells (K.toList.map encB).toArray 26)).alloc (.cells #[.slice none 0 0, .nilIface, .string ⟨#[]⟩] 165)) := ((Below.refl _ _).alloc (Nat.le_refl _) _).alloc (by simp) _
  have hs0 : ((w.alloc (.cells (K.toList.map encB).toArray 26)).alloc (.cells #[.slice none 0 0, .nilIface, .string ⟨#[]⟩] 165)).heap.size = w.heap.size + 2 := by simp
  have ht0 : ((w.alloc (.cells (K.toList.map encB).toArray 26)).alloc (.cells #[.slice none 0 0, .nilIface, .string ⟨#[]⟩] 165)).there (w.heap.size + 1) 0 3 := by
   have := there_new (w.alloc (.cells (K.toList.map encB).toArray 26)) #[.slice none 0 0, .nilIface, .string ⟨#[]⟩] 165 3 rfl
   simpa using this
  generalize (w.alloc (.cells (K.toList.map encB).toArray 26)).alloc (.cells #[.slice none 0 0, .nilIface, .string ⟨#[]⟩] 165) = W0 at hr0 hb0 hs0 ht0 ⊢
  have c1 := (hb0.cell (p := ⟨b, 0, none⟩) hbl).trans c0
  have HS0 : Hid (Below w.heap.size w W0 ∧ W0.heap.size = w.heap.size + 2 ∧ W0.there (w.heap.size + 1) 0 3) := ⟨hb0, hs0, ht0⟩
  have HK0 : Hid (∀ W', Below W0.heap.size W0 W' → W'.cell? ⟨b, 0, none⟩ = some v ∧ W'.rangeAt w.heap.size 0 (K.toList.map encB)) := fun W' h => ⟨(h.cell (p := ⟨b, 0, none⟩) (by have := HS0.out.2.1; show b < _; omega)).trans c1, fun j u hu => (h.cell (p := ⟨w.heap.size, 0 + j, none⟩) (by have := HS0.out.2.1; show w.heap.size < _; omega)).trans (hr0 j u hu)⟩
  have hB0 : Below W0.heap.size W0 W0.drew := (Below.refl _ _).drew
  clear hrow hb0 hs0 ht0 c0
  have hu26 := Tryz.underlying26
  go_cut [6] (fun v6 wc => ∃ g thr v', v6 = .pointer (some ⟨g, 0, none⟩) ∧ WayPut S W0 l e r' g thr v' wc)
  case first =>
   go_region_held3 (fun w' => w'.cell? ⟨b, 0, none⟩ = some v ∧ w'.rangeAt w.heap.size 0 (K.toList.map encB)) (first | exact HK0.out _ hB0 | exact HK0.out _ (hB0.alloc (Nat.le_refl _) _) | exact HK0.out _ hA1 | exact HK0.out _ (hA1.alloc hA1.size _) | exact HK0.out _ hA2 | exact HK0.out _ (hA2.alloc hA2.size _) | exact HK0.out _ (((hA2.setCell (p := ⟨w1.heap.size, 0, none⟩) hA1.size _).setCell (p := ⟨w1.heap.size, 1, none⟩) hA1.size _).setCell (p := ⟨w1.heap.size, 2, none⟩) hA1.size _) | exact HK0.out _ (((hA2.setCell (p := ⟨W0.heap.size, 0, none⟩) (Nat.le_refl _) _).setCell (p := ⟨W0.heap.size, 1, none⟩) (Nat.le_refl _) _).setCell (p := ⟨W0.heap.size, 2, none⟩) (Nat.le_refl _) _))
    (first | (go_at_call 97; refine (HK.out _).mono ?_; rintro e w1 ⟨rfl, hb1⟩; have hA1 : Below W0.heap.size W0 w1 := (by first | exact hB0.trans hb1 | exact (hB0.alloc (Nat.le_refl _) _).trans (hb1.mono (by simp))); have y0 := (fun h => hb1.cell (p := ⟨W0.heap.size, 0, none⟩) h); have y1 := (fun h => hb1.cell (p := ⟨W0.heap.size, 1, none⟩) h); have y2 := (fun h => hb1.cell (p := ⟨W0.heap.size, 2, none⟩) h); have k0 := (fun h => hb1.frozen (p := ⟨W0.heap.size, 0, none⟩) h); have k1 := (fun h => hb1.frozen (p := ⟨W0.heap.size, 1, none⟩) h); have k2 := (fun h => hb1.frozen (p := ⟨W0.heap.size, 2, none⟩) h); have s1 := (fun (h : W0.heap.size < _) => Nat.lt_of_lt_of_le h hb1.size); have HB1 := Hid.hide hb1; clear hb1) | (go_at_call 95; refine (HW.out _ (HS0.out.1.behind' (by first | exact hA1 | exact hA1.alloc hA1.size _))).mono ?_; rintro e w2 ⟨hb2, thr, v2, rfl, hF2⟩; have hA2 : Below W0.heap.size W0 w2 := (by first | exact hA1.trans (hb2.mono hA1.size) | exact (hA1.alloc hA1.size _).trans (hb2.mono (Nat.le_trans hA1.size (by simp)))); have Y0 := (fun h => hb2.cell (p := ⟨W0.heap.size, 0, none⟩) h); have Y1 := (fun h => hb2.cell (p := ⟨W0.heap.size, 1, none⟩) h); have Y2 := (fun h => hb2.cell (p := ⟨W0.heap.size, 2, none⟩) h); have K0 := (fun h => hb2.frozen (p := ⟨W0.heap.size, 0, none⟩) h); have K1 := (fun h => hb2.frozen (p := ⟨W0.heap.size, 1, none⟩) h); have K2 := (fun h => hb2.frozen (p := ⟨W0.heap.size, 2, none⟩) h); have X0 := (fun h => hb2.cell (p := ⟨w1.heap.size, 0, none⟩) h); have X1 := (fun h => hb2.cell (p := ⟨w1.heap.size, 1, none⟩) h); have X2 := (fun h => hb2.cell (p := ⟨w1.heap.size, 2, none⟩) h); have J0 := (fun h => hb2.frozen (p := ⟨w1.heap.size, 0, none⟩) h); have J1 := (fun h => hb2.frozen (p := ⟨w1.heap.size, 1, none⟩) h); have J2 := (fun h => hb2.frozen (p := ⟨w1.heap.size, 2, none⟩) h); obtain ⟨pv, mv, cv, rfl⟩ := hF2.shape; obtain rfl := hF2.node.nil he; have HF2 := Hid.hide hF2; have HB2 := Hid.hide hb2; clear hb2 hF2))
   all_goals (try go_wp2)
   all_goals go_meet
   ·exact ⟨_, _, _, rfl, wayput_new HF2.out hA1.size hA2⟩
   ·exact ⟨_, _, _, rfl, wayput_old HF2.out (Nat.le_trans hA1.size (by simp)) hA2 (by simp) HB2.out (by simp) (there_new _ _ _ _ rfl) hA1.size⟩
   ·exact ⟨_, _, _, rfl, wayput_old HF2.out hA1.size hA2 (Nat.lt_of_lt_of_le (by simp) HB1.out.size) (HB1.out.behind' HB2.out) (by simp) (there_new W0.drew _ _ _ rfl) (Nat.le_refl _)⟩
  case rest =>
   obtain ⟨g, thr, v2, rfl, hP⟩ := hcut
   have hth : wc.there (w.heap.size + 1) 0 3 := there_block HS0.out.2.2 (hP.2.2.2.block _ (by have := HS0.out.2.1; omega))
   have hrg := hP.1
   have hgl := hP.2.1
   obtain ⟨pv, mv, cv, rfl⟩ := hP.2.2.1.shape
   have hone := way_one hP.2.2.1.node pv mv cv r'
   have HM := Hid.hide (met_any (w := wc) (r := r') pv mv cv hP.2.2.1.node HS.out)
   have HP := Hid.hide hP
   clear hP HK HW HK0 hB0 c1 hr0
   go_wp2_with (first | (refine wpList_load_mid rfl 165 _ rfl g 0 rfl _ _ hrg Tryz.underlying165 rfl way_size ?_) | (go_at_call 98; refine HM.out.mono ?_; rintro x w3 ⟨rfl, hb3⟩; have hrg3 : w3.rangeAt g 0 [.slice pv mv cv, v2, .string r'] := (fun j u hu => (hb3.cell (p := ⟨g, 0 + j, none⟩) hgl).trans (hrg j u hu)); have HE : Hid (Below w.heap.size w w3 ∧ w3.there (w.heap.size + 1) 0 3 ∧ Followed S W0.heap.size w3 l e (.slice pv mv cv) v2) := ⟨HS0.out.1.behind' (HP.out.2.2.2.trans (hb3.mono HP.out.2.2.2.size)), there_block hth (hb3.block _ (by have := HS0.out.2.1; have := HP.out.2.2.2.size; omega)), HP.out.2.2.1.keep hb3⟩; have hth3 := HE.out.2.1; clear hb3) | (refine wpList_load_mid rfl 165 _ rfl g 0 rfl _ _ hrg3 Tryz.underlying165 rfl way_size ?_) | (refine wpList_store_mid rfl 165 _ _ rfl (w.heap.size + 1) 0 #[.slice pv mv cv, v2, .string r'] rfl rfl hth3 way_size hone ?_))
   refine bodyPost_ret (v := .tuple #[.agg #[.slice pv mv cv, v2, .string r'], .nilIface]) (results_cell2 Tryz.results83 _ _ _ (w.heap.size + 1) 0 rfl (run_loadVar_mid _ _ _ 165 _ _ (World.rangeAt_setCells_same _ _ _ _ HE.out.2.1) Tryz.underlying165 rfl way_size)) rfl ⟨?_, _, _, rfl, ?_⟩
   ·exact below_setCells HE.out.1 (by omega) _ _
   ·exact (HE.out.2.2.on (Nat.le_of_eq (size_setCells _ _ _ _).1.symm) fun k _ hk => heap_setCells _ _ _ _ _ (by have := HS0.out.2.1; omega)).mono (by have := HS0.out.2.1; omega)
 ·go_enter Tryz.func83, Tryz.ntmps83
  go_upto_region 1 with fail
  have hr0 := hrow (.cells #[.slice none 0 0, .nilIface, .string ⟨#[]⟩] 165)
  have hb0 : Below w.heap.size w ((w.alloc (.cells (K.toList.map encB).toArray 26)).alloc (.cells #[.slice none 0 0, .nilIface, .string ⟨#[]⟩] 165)) := ((Below.refl _ _).alloc (Nat.le_refl _) _).alloc (by simp) _
  have hs0 : ((w.alloc (.cells (K.toList.map encB).toArray 26)).alloc (.cells #[.slice none 0 0, .nilIface, .string ⟨#[]⟩] 165)).heap.size = w.heap.size + 2 := by simp
  have ht0 : ((w.alloc (.cells (K.toList.map encB).toArray 26)).alloc (.cells #[.slice none 0 0, .nilIface, .string ⟨#[]⟩] 165)).there (w.heap.size + 1) 0 3 := by
   have := there_new (w.alloc (.cells (K.toList.map encB).toArray 26)) #[.slice none 0 0, .nilIface, .string ⟨#[]⟩] 165 3 rfl
   simpa using this
  generalize (w.alloc (.cells (K.toList.map encB).toArray 26)).alloc (.cells #[.slice none 0 0, .nilIface, .string ⟨#[]⟩] 165) = W0 at hr0 hb0 hs0 ht0 ⊢
  have c1 := (hb0.cell (p := ⟨b, 0, none⟩) hbl).trans c0
  have HS0 : Hid (Below w.heap.size w W0 ∧ W0.heap.size = w.heap.size + 2 ∧ W0.there (w.heap.size + 1) 0 3) := ⟨hb0, hs0, ht0⟩
  have HK0 : Hid (∀ W', Below W0.heap.size W0 W' → W'.cell? ⟨b, 0, none⟩ = some v ∧ W'.rangeAt w.heap.size 0 (K.toList.map encB)) := fun W' h => ⟨(h.cell (p := ⟨b, 0, none⟩) (by have := HS0.out.2.1; show b < _; omega)).trans c1, fun j u hu => (h.cell (p := ⟨w.heap.size, 0 + j, none⟩) (by have := HS0.out.2.1; show w.heap.size < _; omega)).trans (hr0 j u hu)⟩
  have hB0 : Below W0.heap.size W0 W0.drew := (Below.refl _ _).drew
  clear hrow hb0 hs0 ht0 c0
  have hu26 := Tryz.underlying26
  go_cut [6] (fun v6 wc => ∃ g thr v', v6 = .pointer (some ⟨g, 0, none⟩) ∧ WayPut S W0 l e r' g thr v' wc)
  case first =>
   go_region_held3 (fun w' => w'.cell? ⟨b, 0, none⟩ = some v ∧ w'.rangeAt w.heap.size 0 (K.toList.map encB)) (first | exact HK0.out _ hB0 | exact HK0.out _ (hB0.alloc (Nat.le_refl _) _) | exact HK0.out _ hA1 | exact HK0.out _ (hA1.alloc hA1.size _) | exact HK0.out _ hA2 | exact HK0.out _ (hA2.alloc hA2.size _) | exact HK0.out _ (((hA2.setCell (p := ⟨w1.heap.size, 0, none⟩) hA1.size _).setCell (p := ⟨w1.heap.size, 1, none⟩) hA1.size _).setCell (p := ⟨w1.heap.size, 2, none⟩) hA1.size _) | exact HK0.out _ (((hA2.setCell (p := ⟨W0.heap.size, 0, none⟩) (Nat.le_refl _) _).setCell (p := ⟨W0.heap.size, 1, none⟩) (Nat.le_refl _) _).setCell (p := ⟨W0.heap.size, 2, none⟩) (Nat.le_refl _) _))
    (first | (go_at_call 97; refine (HK.out _).mono ?_; rintro e w1 ⟨rfl, hb1⟩; have hA1 : Below W0.heap.size W0 w1 := (by first | exact hB0.trans hb1 | exact (hB0.alloc (Nat.le_refl _) _).trans (hb1.mono (by simp))); have y0 := (fun h => hb1.cell (p := ⟨W0.heap.size, 0, none⟩) h); have y1 := (fun h => hb1.cell (p := ⟨W0.heap.size, 1, none⟩) h); have y2 := (fun h => hb1.cell (p := ⟨W0.heap.size, 2, none⟩) h); have k0 := (fun h => hb1.frozen (p := ⟨W0.heap.size, 0, none⟩) h); have k1 := (fun h => hb1.frozen (p := ⟨W0.heap.size, 1, none⟩) h); have k2 := (fun h => hb1.frozen (p := ⟨W0.heap.size, 2, none⟩) h); have s1 := (fun (h : W0.heap.size < _) => Nat.lt_of_lt_of_le h hb1.size); have HB1 := Hid.hide hb1; clear hb1) | (go_at_call 95; refine (HW.out _ (HS0.out.1.behind' (by first | exact hA1 | exact hA1.alloc hA1.size _))).mono ?_; rintro e w2 ⟨hb2, thr, v2, rfl, hF2⟩; have hA2 : Below W0.heap.size W0 w2 := (by first | exact hA1.trans (hb2.mono hA1.size) | exact (hA1.alloc hA1.size _).trans (hb2.mono (Nat.le_trans hA1.size (by simp)))); have Y0 := (fun h => hb2.cell (p := ⟨W0.heap.size, 0, none⟩) h); have Y1 := (fun h => hb2.cell (p := ⟨W0.heap.size, 1, none⟩) h); have Y2 := (fun h => hb2.cell (p := ⟨W0.heap.size, 2, none⟩) h); have K0 := (fun h => hb2.frozen (p := ⟨W0.heap.size, 0, none⟩) h); have K1 := (fun h => hb2.frozen (p := ⟨W0.heap.size, 1, none⟩) h); have K2 := (fun h => hb2.frozen (p := ⟨W0.heap.size, 2, none⟩) h); have X0 := (fun h => hb2.cell (p := ⟨w1.heap.size, 0, none⟩) h); have X1 := (fun h => hb2.cell (p := ⟨w1.heap.size, 1, none⟩) h); have X2 := (fun h => hb2.cell (p := ⟨w1.heap.size, 2, none⟩) h); have J0 := (fun h => hb2.frozen (p := ⟨w1.heap.size, 0, none⟩) h); have J1 := (fun h => hb2.frozen (p := ⟨w1.heap.size, 1, none⟩) h); have J2 := (fun h => hb2.frozen (p := ⟨w1.heap.size, 2, none⟩) h); obtain ⟨pv, mv, cv, rfl⟩ := hF2.shape; obtain ⟨d2, rfl, -⟩ := hF2.node.full he; have HF2 := Hid.hide hF2; have HB2 := Hid.hide hb2; clear hb2 hF2))
   all_goals (try go_wp2)
   all_goals go_meet
   ·exact ⟨_, _, _, rfl, wayput_new HF2.out hA1.size hA2⟩
   ·exact ⟨_, _, _, rfl, wayput_old HF2.out (Nat.le_trans hA1.size (by simp)) hA2 (by simp) HB2.out (by simp) (there_new _ _ _ _ rfl) hA1.size⟩
   ·exact ⟨_, _, _, rfl, wayput_old HF2.out hA1.size hA2 (Nat.lt_of_lt_of_le (by simp) HB1.out.size) (HB1.out.behind' HB2.out) (by simp) (there_new W0.drew _ _ _ rfl) (Nat.le_refl _)⟩
  case rest =>
   obtain ⟨g, thr, v2, rfl, hP⟩ := hcut
   have hth : wc.there (w.heap.size + 1) 0 3 := there_block HS0.out.2.2 (hP.2.2.2.block _ (by have := HS0.out.2.1; omega))
   have hrg := hP.1
   have hgl := hP.2.1
   obtain ⟨pv, mv, cv, rfl⟩ := hP.2.2.1.shape
   have hone := way_one hP.2.2.1.node pv mv cv r'
   have HM := Hid.hide (met_any (w := wc) (r := r') pv mv cv hP.2.2.1.node HS.out)
   have HP := Hid.hide hP
   clear hP HK HW HK0 hB0 c1 hr0
   go_wp2_with (first | (refine wpList_load_mid rfl 165 _ rfl g 0 rfl _ _ hrg Tryz.underlying165 rfl way_size ?_) | (go_at_call 98; refine HM.out.mono ?_; rintro x w3 ⟨rfl, hb3⟩; have hrg3 : w3.rangeAt g 0 [.slice pv mv cv, v2, .string r'] := (fun j u hu => (hb3.cell (p := ⟨g, 0 + j, none⟩) hgl).trans (hrg j u hu)); have HE : Hid (Below w.heap.size w w3 ∧ w3.there (w.heap.size + 1) 0 3 ∧ Followed S W0.heap.size w3 l e (.slice pv mv cv) v2) := ⟨HS0.out.1.behind' (HP.out.2.2.2.trans (hb3.mono HP.out.2.2.2.size)), there_block hth (hb3.block _ (by have := HS0.out.2.1; have := HP.out.2.2.2.size; omega)), HP.out.2.2.1.keep hb3⟩; have hth3 := HE.out.2.1; clear hb3) | (refine wpList_load_mid rfl 165 _ rfl g 0 rfl _ _ hrg3 Tryz.underlying165 rfl way_size ?_) | (refine wpList_store_mid rfl 165 _ _ rfl (w.heap.size + 1) 0 #[.slice pv mv cv, v2, .string r'] rfl rfl hth3 way_size hone ?_))
   refine bodyPost_ret (v := .tuple #[.agg #[.slice pv mv cv, v2, .string r'], .nilIface]) (results_cell2 Tryz.results83 _ _ _ (w.heap.size + 1) 0 rfl (run_loadVar_mid _ _ _ 165 _ _ (World.rangeAt_setCells_same _ _ _ _ HE.out.2.1) Tryz.underlying165 rfl way_size)) rfl ⟨?_, _, _, rfl, ?_⟩
   ·exact below_setCells HE.out.1 (by omega) _ _
   ·exact (HE.out.2.2.on (Nat.le_of_eq (size_setCells _ _ _ _).1.symm) fun k _ hk => heap_setCells _ _ _ _ _ (by have := HS0.out.2.1; omega)).mono (by have := HS0.out.2.1; omega)
end Go.Proofs.YtjiikjpnlgogfaaGreatDoor
