/-
  Two proofs that are accepted for one root: the same, or the first two nodes that are different have one digest.
-/
import Derived.Test.YtakidhihbgfjlaaGreatDoorSxVoG
import Derived.Test.YtakidhihbgfjlaaGreatDoorSxText
import Derived.Test.YtakidhihbgfjlaaGreatDoorSxNibG
import Derived.Test.YtakidhihbgfjlaaGreatDoorSxSmaG
import Derived.Test.YtakidhihbgfjlaaGreatDoorSxOrdA
import Derived.Test.YtakidhihbgfjlaaGreatDoorSxRawG
import Derived.Test.YtakidhihbgfjlaaGreatDoorSxWriG
namespace Go.Proofs.YtakidhihbgfjlaaGreatDoor
open Go.RowKit
set_option maxRecDepth 100000
set_option maxHeartbeats 25600000
def exF : List (List Nat) -> List (List Nat) -> Option (List Nat × List Nat)
 | x :: xs, y :: ys => if x = y then exF xs ys else some (x, y)
 | _, _ => none
def orE (L : List (List Nat)) : List (List Nat) := if L = [] then [textCode []] else L
variable {h : List Nat}
theorem Qp8 {c : List Nat} {dep : Nat} {t : Nd} (hs : shF c h dep = .ok t) : digB c = h := by
 unfold shF at hs
 split at hs
 ·cases hs
 ·split at hs
  ·cases hs
  ·rename_i h'
   exact Classical.not_not.1 h'
theorem Qve (h : List Nat) (dep : Nat) (t : Nd) : shF (textCode []) h dep ≠ .ok t := by
 intro a
 unfold shF at a
 split at a
 ·cases a
 ·split at a
  ·cases a
  ·have b : decF (textCode []) = .ok (.text 0 1 []) := by kernel_rfl
   rw [b] at a
   simp only at a
   rw [rdF] at a
   cases a
theorem Qqi : ∀ (M L : List (List Nat)) (h : List Nat) (r : ByteArray) (k : Nat) (o1 o2 : Option ByteArray), verL M h r k = .ok o1 -> verL L h r k = .ok o2 ->
  (M = L /\ o1 = o2) \/ ∃ x y, exF M L = some (x, y) /\ x ≠ y /\ digB x = digB y
 | [], L, h, r, k, o1, o2, h1, h2 => by rw [verL] at h1; cases h1
 | c :: M, [], h, r, k, o1, o2, h1, h2 => by rw [verL] at h2; cases h2
 | c :: M, d :: L, h, r, k, o1, o2, h1, h2 => by
  rw [verL] at h1 h2
  cases hs1 : shF c h (64 - r.size) with
  | error e => rw [hs1] at h1; cases h1
  | ok t1 =>
   cases hs2 : shF d h (64 - r.size) with
   | error e => rw [hs2] at h2; cases h2
   | ok t2 =>
    rw [hs1] at h1
    rw [hs2] at h2
    simp only at h1 h2
    by_cases hcd : c = d
    ·subst hcd
     obtain rfl : t1 = t2 := by rw [hs1] at hs2; cases hs2; rfl
     rw [exF, if_pos rfl]
     cases hw : stubAt (t1.walk 64 r) with
     | some q =>
      obtain ⟨h', r'⟩ := q
      rw [hw] at h1 h2
      simp only at h1 h2
      rcases Qqi M L h' r' (k + 1) o1 o2 h1 h2 with ⟨rfl, rfl⟩ | hx
      ·exact .inl ⟨rfl, rfl⟩
      ·exact .inr hx
     | none =>
      rw [hw] at h1 h2
      simp only at h1 h2
      split at h1
      ·split at h2
       ·rename_i e1 e2
        subst e1 e2
        rw [h1] at h2
        cases h2
        exact .inl ⟨rfl, rfl⟩
       ·cases h2
      ·cases h1
    ·exact .inr ⟨c, d, by rw [exF, if_neg hcd], hcd, (Qp8 hs1).trans (Qp8 hs2).symm⟩
variable {L : List (List Nat)} {r : ByteArray} {o : Option ByteArray}
theorem Qee {k : Nat} (hv : verL L h r k = .ok o) : ∃ c L', L = c :: L' /\ c ≠ textCode [] /\ digB c = h := by
 cases L with
 | nil => rw [verL] at hv; cases hv
 | cons c L' =>
  rw [verL] at hv
  cases hs : shF c h (64 - r.size) with
  | error e => rw [hs] at hv; cases hv
  | ok t => exact ⟨c, L', rfl, fun e => Qve _ _ _ (e ▸ hs), Qp8 hs⟩
theorem Qyh {p : ByteArray} {M : List (List Nat)} {o1 o2 : Option ByteArray} (h1 : verF h p M = .ok o1) (h2 : verF h p L = .ok o2) :
  o1 = o2 \/ ∃ x y, exF (orE M) (orE L) = some (x, y) /\ x ≠ y /\ digB x = digB y := by
 unfold verF at h1 h2
 split at h1
 ·rename_i e1
  split at h2
  ·cases h1; cases h2; exact .inl rfl
  ·obtain ⟨c, f, rfl, a, b⟩ := Qee h2
   right
   refine ⟨textCode [], c, ?_, fun e => a e.symm, by rw [b, e1.2]⟩
   rw [e1.1, orE, if_pos rfl, orE, if_neg (by simp), exF, if_neg (fun e => a e.symm)]
 ·split at h2
  ·rename_i e2
   obtain ⟨c, f, rfl, a, b⟩ := Qee h1
   right
   refine ⟨c, textCode [], ?_, a, by rw [b, e2.2]⟩
   rw [e2.1, orE, if_neg (by simp), orE, if_pos rfl, exF, if_neg a]
  ·rcases Qqi _ _ _ _ _ _ _ h1 h2 with ⟨rfl, rfl⟩ | hx
   ·exact .inl rfl
   ·right
    obtain ⟨c, f, rfl, -⟩ := Qee h1
    obtain ⟨d, g, rfl, -⟩ := Qee h2
    rwa [orE, if_neg (by simp), orE, if_neg (by simp)]
theorem Qyi (c : Int) (h1 : -9223372036854775808 <= c) (h2 : c < 9223372036854775808) (h0 : c < 0) : wrap64 (-wrap64 (c + 1)) = -(c + 1) := by
 unfold wrap64
 omega
theorem Qqj (c : Int) (n : Nat) (h : 0 <= c) (hn : 0 < n) : ∃ k : Nat, k < n /\ c.tmod (n : Int) = (k : Int) := by
 refine ⟨(c % (n : Int)).toNat, ?_, ?_⟩
 ·have := Int.emod_lt_of_pos c (show (0 : Int) < n by omega)
  have := Int.emod_nonneg c (show (n : Int) ≠ 0 by omega)
  omega
 ·rw [Int.tmod_eq_emod_of_nonneg h]
  have := Int.emod_nonneg c (show (n : Int) ≠ 0 by omega)
  omega
theorem Qvf (w : World) : Calls Tryz.prog 9 #[.agg #[.int .i64 0, .int .i64 0, .int .i64 0, .int .i64 0]] w fun e w' => e = .returned (.bool true) /\ Below w.heap.size w w' := by
 go_enter Tryz.func9, Tryz.ntmps9
 go_wp2
 go_ret
 exact ⟨rfl, (Below.refl _ _).alloc (Nat.le_refl _) _⟩
def ansB (o : Option ByteArray) (s : ByteArray) (f : Bool) : Bool := decide (s = o.getD ⟨#[]⟩ /\ f = o.isSome)
theorem Qvg (s : ByteArray) : s.toList.isEmpty = decide (s = (⟨#[]⟩ : ByteArray)) := by
 by_cases h : s.size = 0
 ·rw [QB4 s h, decide_eq_true (Qmw h)]
 ·rw [Qcu s (by omega), decide_eq_false (fun e => h (by rw [e]; rfl))]
variable {w : World} {C : Nat}
theorem Qnr {ks vs : Value} {m : Mp} {K : Array Nat} (hk : Kn w C ks vs m) (hm : m.length <= 1000) (hd : (m.map pth).Nodup) (hK : K.size = 32) (hKb : Bytes K) (s : ByteArray) (f : Bool) (ho : getN m (nibs K.toList) = o) :
  Calls Tryz.prog 28 #[.agg #[ks, vs], .agg (K.toList.map encB).toArray, .string s, .bool f] w fun e w' => e = .returned (.bool (ansB o s f)) /\ Below w.heap.size w w' := by
 obtain ⟨x, t, p, rfl⟩ := hk.keys.shape
 obtain ⟨y, v, q, rfl⟩ := hk.vals.shape
 have L : (Tryz.prog.info? 42).map (·.size) = some (K.toList.map encB).length := by rw [Qb4]; simp [hK]
 obtain ⟨W0, c⟩ : ∃ W0, (w.alloc (.cells #[.slice x t p, .slice y v q] 25)).alloc (.cells (K.toList.map encB).toArray 42) = W0 := ⟨_, rfl⟩
 have k : Below w.heap.size w W0 := by rw [<- c]; exact ((Below.refl _ _).alloc (Nat.le_refl _) _).alloc (by simp) _
 have J : W0.heap.size = w.heap.size + 2 := by rw [<- c]; simp
 have H : W0.cell? ⟨w.heap.size, 0, none⟩ = some (.slice x t p) := by rw [<- c]; simp
 have D : W0.cell? ⟨w.heap.size, 1, none⟩ = some (.slice y v q) := by rw [<- c]; simp
 have h : W0.rangeAt (w.heap.size + 1) 0 (K.toList.map encB) := fun j u r => by
  have O : (w.alloc (.cells #[.slice x t p, .slice y v q] 25)).heap.size = w.heap.size + 1 := by simp
  rw [<- c, Nat.zero_add, <- O, World.cell?_alloc_new]
  simpa using r
 have F := Hq (Qtc (hk.below k) hm hK hKb)
 have B : Hid (Below w.heap.size w W0 /\ W0.heap.size = w.heap.size + 2 /\ m.length <= 1000 /\ (m.map pth).Nodup /\ Kn W0 C (.slice x t p) (.slice y v q) m) := ⟨k, J, hm, hd, hk.below k⟩
 have G := Hq ho
 clear hk hm hd hK hKb k ho
 go_enter Tryz.func28, Tryz.ntmps28
 go_wp2_with (refine wpList_load_mid rfl 42 _ rfl (w.heap.size + 1) 0 rfl (K.toList.map encB) _ h Tryz.underlying42 rfl L ?_)
 refine F.out.mono ?_
 rintro e P ⟨rfl, g⟩
 have N := (World.cell?_of_block (a := ⟨w.heap.size, 1, none⟩) (g.block w.heap.size (by omega))).trans D
 have d : Hid (Below w.heap.size w P) := B.out.1.behind' g
 cases hfi : findN m K with
 | none =>
  have n := QAl hfi
  have l : Hid (∀ b, ansB o s b = (!b && s.toList.isEmpty)) := fun b => by
   rw [<- G.out, n, ansB, Qvg]
   cases b <;> simp
  simp only [findV]
  clear n hfi g h H D c N
  cases f with
  | true =>
   go_wp2
   go_ret
   exact ⟨by rw [l.out]; rfl, d.out⟩
  | false =>
   go_wp2
   go_ret
   exact ⟨by rw [l.out]; rfl, d.out⟩
 | some i =>
  obtain ⟨E, -, n⟩ := Qy3 B.out.2.2.2.1 hfi
  obtain ⟨U, Q, z, R, I⟩ := (B.out.2.2.2.2.below g).val E
  simp only [Value.slice.injEq] at z
  obtain ⟨rfl, rfl, rfl⟩ := z
  obtain ⟨u, r⟩ : ∃ u, m[i].2 = u := ⟨_, rfl⟩
  rw [r] at I n
  have l : Hid (∀ b, ansB o s b = (b && decide (s = u))) := fun b => by
   rw [<- G.out, n, ansB]
   cases b <;> simp
  have V : (i : Int) < (m.length : Int) := by omega
  have W : ¬ (i : Int) < 0 := by omega
  have T : Hid (i < m.length) := E
  simp only [findV]
  clear n hfi g h H D c r E
  cases f with
  | false =>
   go_wp2
   go_ret
   exact ⟨by rw [l.out]; rfl, d.out⟩
  | true =>
   by_cases e : s = u
   ·subst e
    go_wp2
    go_ret
    exact ⟨by rw [l.out]; simp, d.out⟩
   ·have S := Qce e
    have M : Hid (decide (s = u) = false) := decide_eq_false e
    clear e
    go_wp2
    go_ret
    exact ⟨by rw [l.out, M.out]; rfl, d.out⟩
variable {P : Program}
theorem Qeo (w : World) (t ty e : TypeId) (i : TypeInfo) (ht : P.underlying t = some (.slice e)) (hi : P.info? e = some i) (base : Option Addr) (n c : Nat) (hle : n <= c) :
  (Builtin.append_ #[t, t] ty #[.slice base n c, .slice none 0 0]).run P w = .ok (.slice base n c) w := by
 cases base <;> simp [Builtin.append_, run_underlying ht, sizeOf, typeInfo, hi, hle, Builtin.lenOf, Builtin.firstCells, storeCells]
theorem OwnC.cap {w : World} {B size : Nat} {v : Value} {n : Nat} {cs : List Value} (h : OwnC w B size v n cs) : ∃ p c, v = .slice p n c /\ n <= c := by
 rcases h.2 with ⟨e1, e2⟩ | ⟨g, cap, e1, _, _, e2, _⟩
 ·subst e2; exact ⟨none, 0, e1, Nat.le_refl _⟩
 ·exact ⟨_, cap, e1, e2⟩
theorem Qja (w : World) (t ty e : TypeId) (i : TypeInfo) (z : Value) (size bytes : Nat) (ht : P.underlying t = some (.slice e)) (hi : P.info? e = some i) (hz : i.zero = some z) (hsize : i.size = size) (hby : i.bytes = bytes) (hzs : z.cells.size = size) (hsz : 0 < size)
  (B : Nat) (v : Value) (n : Nat) (cs : List Value) (hown : OwnC w B size v n cs) (C : Nat) (x : Value) (m : Nat) (news : List Value) (hrow : OwnC w C size x m news) (h1 : ∀ u ∈ news, u.oneCell' = true) (hm : n + m <= maxLen) (hb : (n + m) * bytes <= 140737488355328) (hB : B <= w.heap.size) :
  ∃ v' w', (Builtin.append_ #[t, t] ty #[v, x]).run P w = .ok v' w' /\ OwnC w' B size v' (n + m) (cs ++ news) /\ w.grownBy w' v.ownBlock /\ (∀ k, v'.ownBlock = Option.some k -> v.ownBlock = Option.some k \/ w.heap.size <= k) := by
 rcases hrow.2 with ⟨rfl, rfl⟩ | ⟨g, cap, rfl, _, _, _, _, _, hr⟩
 ·have l : news = [] := List.eq_nil_of_length_eq_zero (by rw [hrow.1]; simp)
  subst l
  obtain ⟨p, c, rfl, a⟩ := hown.cap
  refine ⟨_, w, Qeo w t ty e i ht hi p n c a, by simpa using hown, ⟨rfl, rfl, rfl, Nat.le_refl _, fun _ _ _ => rfl⟩, fun k j => .inl j⟩
 ·obtain ⟨v', w', b, d, f, h, _⟩ := Qbr (P := P) w t ty e i z size bytes ht hi hz hsize hby hzs hsz B v n cs hown g 0 m cap news hrow.1 hr h1 hm hb hB
  exact ⟨v', w', b, d, f, h⟩
theorem Qg7 {P : Program} (w : World) {ops : Array Oper} {rest : List Oper} {o : Oper} {a : Act} {Q : Exit -> Act -> World -> Prop} (hgd : o.guard = none) (s x : Operand) (t : TypeId)
  (ho : o.op = .call { callee := .builtin .append, args := #[s, x], argTypes := #[t, t] })
  (e : TypeId) (i : TypeInfo) (z : Value) (size bytes : Nat) (ht : P.underlying t = some (.slice e)) (hi : P.info? e = some i) (hz : i.zero = some z) (hsize : i.size = size) (hby : i.bytes = bytes) (hzs : z.cells.size = size) (hsz : 0 < size)
  (B : Nat) (v : Value) (n : Nat) (cs : List Value) (hs : a.eval s = v) (hown : OwnC w B size v n cs) (C : Nat) (xv : Value) (m : Nat) (news : List Value) (hx : a.eval x = xv) (hrow : OwnC w C size xv m news) (h1 : ∀ u ∈ news, u.oneCell' = true) (hm : n + m <= maxLen) (hb : (n + m) * bytes <= 140737488355328) (hB : B <= w.heap.size)
  (hK : ∀ v' w', OwnC w' B size v' (n + m) (cs ++ news) -> w.grownBy w' v.ownBlock -> (∀ k, v'.ownBlock = Option.some k -> v.ownBlock = Option.some k \/ w.heap.size <= k) -> wpList P ops Q rest (a.put o.dst v') w') : wpList P ops Q (o :: rest) a w := by
 refine wpList_plain hgd fun K c => ?_
 obtain ⟨v', w', b, d, f, g⟩ := Qja (P := P) w t o.type e i z size bytes ht hi hz hsize hby hzs hsz B v n cs hown C xv m news hrow h1 hm hb hB
 unfold Oper.wp
 simp [execOp, ho, resolve, invoke, builtin, hs, hx, b, Result.andThen]
 exact c _ _ (hK v' w' d f g)
theorem Qqk (w : World) (a b : Value) : Below w.heap.size w (w.alloc (.cells #[a, b] 25)) /\ (w.alloc (.cells #[a, b] 25)).cell? ⟨w.heap.size, 0, none⟩ = some a /\ (w.alloc (.cells #[a, b] 25)).cell? ⟨w.heap.size, 1, none⟩ = some b /\ (w.alloc (.cells #[a, b] 25)).heap.size = w.heap.size + 1 :=
 ⟨(Below.refl _ _).alloc (Nat.le_refl _) _, by rw [World.cell?_alloc_new]; rfl, by rw [World.cell?_alloc_new]; rfl, by simp⟩
def kRow (Ks : List (Array Nat)) : List Value := Ks.flatMap fun x => x.toList.map encB
theorem Qql (Ks : List (Array Nat)) : ∀ u ∈ kRow Ks, u.oneCell' = true := fun u hu => by
 obtain ⟨K, _, hu⟩ := List.mem_flatMap.1 hu
 exact Qet K u hu
theorem Qqm (a b : List (Array Nat)) : kRow (a ++ b) = kRow a ++ kRow b := List.flatMap_append
theorem Qvh : ∀ (Ks : List (Array Nat)) (_ : ∀ K ∈ Ks, K.size = 32) (k : Nat) (hk : k < Ks.length) (j : Nat) (_ : j < 32), (kRow Ks)[k * 32 + j]? = (Ks[k].toList.map encB)[j]?
 | [], _, k, hk, _, _ => by cases hk
 | K :: Ks, h32, k, hk, j, hj => by
  have hl : (K.toList.map encB).length = 32 := by rw [List.length_map, Array.length_toList, h32 K (List.mem_cons_self ..)]
  have e : kRow (K :: Ks) = K.toList.map encB ++ kRow Ks := by unfold kRow; rw [List.flatMap_cons]
  rw [e]
  cases k with
  | zero => rw [Nat.zero_mul, Nat.zero_add, List.getElem?_append_left (by omega)]; rfl
  | succ k =>
   rw [List.getElem?_append_right (by omega), hl, show (k + 1) * 32 + j - 32 = k * 32 + j by omega]
   exact Qvh Ks (fun K hK => h32 K (List.mem_cons_of_mem _ hK)) k (by simpa using hk) j hj
theorem Qvi {v : Value} {Ks : List (Array Nat)} (h : OwnC w C 32 v Ks.length (kRow Ks)) (h32 : ∀ K ∈ Ks, K.size = 32) {k : Nat} (hk : k < Ks.length) : ∃ g cap, v = .slice (some ⟨g, 0, none⟩) Ks.length cap /\ C <= g /\ g < w.heap.size /\ w.rangeAt g (k * 32) (Ks[k].toList.map encB) := by
 rcases h.2 with ⟨_, e⟩ | ⟨g, cap, e1, e2, e3, _, _, _, hr⟩
 ·omega
 ·refine ⟨g, cap, e1, e2, e3, fun j u a => ?_⟩
  have b : j < 32 := by
   have := (List.getElem?_eq_some_iff.1 a).1
   rw [List.length_map, Array.length_toList, h32 _ (List.getElem_mem hk)] at this
   exact this
  have := hr (k * 32 + j) u (by rw [Qvh Ks h32 k hk j b]; exact a)
  rw [Nat.zero_add] at this
  exact this
theorem Qqn : ∀ (n : Nat) (t : Nd) (r : ByteArray), t.can r.size -> r.size <= 64 -> ∀ u ∈ t.ways n r, u.ok
 | 0, t, r, hc, h64, u, hu => by
  rw [Nd.ways] at hu
  unfold Nd.shownL at hu
  split at hu
  ·cases hu
  ·obtain rfl : u = t := by simpa using hu
   exact (u.can_ok _ hc h64).1
 | n + 1, t, r, hc, h64, u, hu => by
  have hs : u ∈ t.shownL -> u.ok := fun hu => by
   unfold Nd.shownL at hu
   split at hu
   ·cases hu
   ·obtain rfl : u = t := by simpa using hu
    exact (u.can_ok _ hc h64).1
  rw [Nd.ways] at hu
  split at hu
  ·exact hs hu
  ·rename_i hx
   have hx' : (t.next r).1 ≠ .no := fun e => hx (Nd.isNo_iff.2 e)
   obtain ⟨_, k1, k2, k3, _⟩ := Qfi hc hx'
   rcases List.mem_cons.1 hu with rfl | hu
   ·exact (u.can_ok _ hc h64).1
   ·exact Qqn n _ _ (by rw [Qa6]; exact k3) (by rw [Qa6]; omega) u hu
theorem Qrz {t : Nd} (hc : t.can r.size) (h64 : r.size <= 64) : ∀ c ∈ t.prove r, ∀ y ∈ c, y < 256 := by
 have b := Qqn 64 t r hc h64
 unfold Nd.prove
 intro c a y d
 cases hts : t.ways 64 r with
 | nil => rw [hts] at a; cases a
 | cons u us =>
  rw [hts] at b a
  rw [Qei] at a
  rcases List.mem_cons.1 a with rfl | h
  ·exact u.code_byte (b u (List.mem_cons_self ..)) y d
  ·unfold longs at h
   obtain ⟨v, e, rfl⟩ := List.mem_map.1 (List.mem_filter.1 h).1
   exact v.code_byte (b v (List.mem_cons_of_mem _ e)) y d
theorem Qqo : ∀ (n : Nat) (t : Nd) (r : ByteArray), (t.ways n r).length <= n + 1
 | 0, t, r => by rw [Nd.ways]; unfold Nd.shownL; split <;> simp
 | n + 1, t, r => by
  rw [Nd.ways]
  split
  ·unfold Nd.shownL; split <;> simp
  ·rw [List.length_cons]; have := Qqo n (t.next r).1 (r.extract (t.next r).2 r.size); omega
theorem Qvj (t : Nd) (r : ByteArray) : (t.prove r).length <= 65 := Nat.le_trans (Qgs _) (Qqo 64 t r)
theorem Qns {v : Value} (h : OwnC w C 1 v L.length (strs L)) : ∃ p c, v = .slice p L.length c /\ StrRow w p (L.map textB) c /\ (p.isSome = true -> ∃ g, p = some ⟨g, 0, none⟩) := by
 rcases h.2 with ⟨e1, e2⟩ | ⟨g, cap, e1, _, e3, e4, _, _, hr⟩
 ·have : L = [] := List.eq_nil_of_length_eq_zero e2
  subst this
  exact ⟨none, 0, e1, .inl ⟨rfl, rfl, rfl⟩, by simp⟩
 ·refine ⟨_, cap, e1, .inr ⟨g, 0, rfl, by rw [List.length_map]; exact e4, fun _ => e3, ?_⟩, fun _ => ⟨g, rfl⟩⟩
  rw [List.map_map]
  exact hr
theorem StrRow.below {w' : World} {p : Option Addr} {l : List ByteArray} {c : Nat} (h : StrRow w p l c) (hb : Below w.heap.size w w') : StrRow w' p l c := by
 rcases h with h | ⟨g, o, e1, e2, e3, e4⟩
 ·exact .inl h
 ·exact .inr ⟨g, o, e1, e2, fun h => Nat.lt_of_lt_of_le (e3 h) hb.size, fun j u a => by
   have b : 0 < l.length := by
    have := (List.getElem?_eq_some_iff.1 a).1
    simp at this
    omega
   exact (hb.cell (p := ⟨g, o + j, none⟩) (e3 b)).trans (e4 j u a)⟩
theorem Qs0 (h : ∀ c ∈ L, ∀ y ∈ c, y < 256) : (L.map textB).map bytesOf = L := by
 rw [List.map_map]
 conv => rhs; rw [<- List.map_id L]
 exact List.map_congr_left fun c a => Qa5 (h c a)
theorem Qfn {b : Nat} {x0 x1 x2 x3 : Value} {t : TypeId} (h : w.heap[b]? = some (.cells #[x0, x1, x2, x3] t (0, 0))) (y0 y1 y2 y3 : Value) : ((((w.setCell ⟨b, 0, none⟩ y0).setCell ⟨b, 1, none⟩ y1).setCell ⟨b, 2, none⟩ y2).setCell ⟨b, 3, none⟩ y3).heap[b]? = some (.cells #[y0, y1, y2, y3] t (0, 0)) :=
 Qa2 (Qa2 (Qa2 (Qa2 (cs := [x0, x1, x2, x3]) h 0 _) 1 _) 2 _) 3 _
theorem Qp9 {B : Nat} {w0 : World} (h : Below B w0 w) {b : Nat} (hb : B <= b) (y0 y1 y2 y3 : Value) : Below B w0 ((((w.setCell ⟨b, 0, none⟩ y0).setCell ⟨b, 1, none⟩ y1).setCell ⟨b, 2, none⟩ y2).setCell ⟨b, 3, none⟩ y3) :=
 (((h.setCell (p := ⟨b, 0, none⟩) hb _).setCell (p := ⟨b, 1, none⟩) hb _).setCell (p := ⟨b, 2, none⟩) hb _).setCell (p := ⟨b, 3, none⟩) hb _
section
variable {w2 : World} {C gp cr f : Nat} {L : List (List Nat)} {sc : ByteArray} {en ep ed ea : Nat} {d9 d10 d16 : Bool} {v9 v10 : Value} {W W' : World}
end
end Go.Proofs.YtakidhihbgfjlaaGreatDoor
