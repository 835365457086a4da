/-
  Package twigskeep: pick, fine.
-/
import Derived.Test.YthbgepmpdphigaaGreatDoorAxText
import Derived.Test.YthbgepmpdphigaaGreatDoorAxNibG
import Derived.Test.YthbgepmpdphigaaGreatDoorAxSmaG
import Derived.Test.YthbgepmpdphigaaGreatDoorAxVoG
import Derived.Test.YthbgepmpdphigaaGreatDoorAxOrdA
import Derived.Test.YthbgepmpdphigaaGreatDoorAxRawG
import Derived.Test.YthbgepmpdphigaaGreatDoorAxWriG
namespace Go.Proofs.YthbgepmpdphigaaGreatDoor
open Go.RowKit
set_option maxRecDepth 100000
set_option maxHeartbeats 25600000
theorem Qmi (w : World) : Calls Tryz.prog 9 #[.agg #[.int .i64 0, .int .i64 0, .int .i64 0, .int .i64 0]] w fun e w' => e = .returned (.bool true) /\ Below w.heap.size w w' := by
 go_enter Tryz.func9, Tryz.ntmps9
 go_wp2
 go_ret
 exact ⟨rfl, (Below.refl _ _).alloc (Nat.le_refl _) _⟩
def ansB (o : Option ByteArray) (s : ByteArray) (f : Bool) : Bool := decide (s = o.getD ⟨#[]⟩ /\ f = o.isSome)
theorem Qtx (s : ByteArray) : s.toList.isEmpty = decide (s = (⟨#[]⟩ : ByteArray)) := by
 by_cases h : s.size = 0
 ·rw [Qkv s h, decide_eq_true (Qlu h)]
 ·rw [Qas s (by omega), decide_eq_false (fun e => h (by rw [e]; rfl))]
variable {w : World}
theorem Qmj {C : Nat} {ks vs : Value} {m : Mp} {K : Array Nat} (hk : Kn w C ks vs m) (hm : m.length <= 1000) (hd : (m.map pth).Nodup) (hK : K.size = 32) (hKb : Bytes K) (s : ByteArray) (f : Bool) {o : Option ByteArray} (ho : getN m (nibs K.toList) = o) :
  Calls Tryz.prog 16 #[.agg #[ks, vs], .agg (K.toList.map encB).toArray, .string s, .bool f] w fun e w' => e = .returned (.bool (ansB o s f)) /\ Below w.heap.size w w' := by
 obtain ⟨x, t, p, rfl⟩ := hk.keys.shape
 obtain ⟨y, v, q, rfl⟩ := hk.vals.shape
 have L : (Tryz.prog.info? 45).map (·.size) = some (K.toList.map encB).length := by rw [Qbc]; simp [hK]
 obtain ⟨W0, c⟩ : ∃ W0, (w.alloc (.cells #[.slice x t p, .slice y v q] 25)).alloc (.cells (K.toList.map encB).toArray 45) = W0 := ⟨_, rfl⟩
 have k : Below w.heap.size w W0 := by rw [<- c]; exact ((Below.refl _ _).alloc (Nat.le_refl _) _).alloc (by simp) _
 have J : W0.heap.size = w.heap.size + 2 := by rw [<- c]; simp
 have H : W0.cell? ⟨w.heap.size, 0, none⟩ = some (.slice x t p) := by rw [<- c]; simp
 have D : W0.cell? ⟨w.heap.size, 1, none⟩ = some (.slice y v q) := by rw [<- c]; simp
 have h : W0.rangeAt (w.heap.size + 1) 0 (K.toList.map encB) := fun j u r => by
  have O : (w.alloc (.cells #[.slice x t p, .slice y v q] 25)).heap.size = w.heap.size + 1 := by simp
  rw [<- c, Nat.zero_add, <- O, World.cell?_alloc_new]
  simpa using r
 have F := Hid.hide (Qlb (hk.below k) hm hK hKb)
 have B : Hid (Below w.heap.size w W0 /\ W0.heap.size = w.heap.size + 2 /\ m.length <= 1000 /\ (m.map pth).Nodup /\ Kn W0 C (.slice x t p) (.slice y v q) m) := ⟨k, J, hm, hd, hk.below k⟩
 have G := Hid.hide ho
 clear hk hm hd hK hKb k ho
 go_enter Tryz.func16, Tryz.ntmps16
 go_wp2_with (refine wpList_load_mid rfl 45 _ rfl (w.heap.size + 1) 0 rfl (K.toList.map encB) _ h Tryz.underlying45 rfl L ?_)
 refine F.out.mono ?_
 rintro e P ⟨rfl, g⟩
 have N := (World.cell?_of_block (a := ⟨w.heap.size, 1, none⟩) (g.block w.heap.size (by omega))).trans D
 have d : Hid (Below w.heap.size w P) := B.out.1.behind' g
 cases hfi : findN m K with
 | none =>
  have n := Qte hfi
  have l : Hid (∀ b, ansB o s b = (!b && s.toList.isEmpty)) := fun b => by
   rw [<- G.out, n, ansB, Qtx]
   cases b <;> simp
  simp only [findV]
  clear n hfi g h H D c N
  cases f with
  | true =>
   go_wp2
   go_ret
   exact ⟨by rw [l.out]; rfl, d.out⟩
  | false =>
   go_wp2
   go_ret
   exact ⟨by rw [l.out]; rfl, d.out⟩
 | some i =>
  obtain ⟨E, -, n⟩ := Qp5 B.out.2.2.2.1 hfi
  obtain ⟨U, Q, z, R, I⟩ := (B.out.2.2.2.2.below g).val E
  simp only [Value.slice.injEq] at z
  obtain ⟨rfl, rfl, rfl⟩ := z
  obtain ⟨u, r⟩ : ∃ u, m[i].2 = u := ⟨_, rfl⟩
  rw [r] at I n
  have l : Hid (∀ b, ansB o s b = (b && decide (s = u))) := fun b => by
   rw [<- G.out, n, ansB]
   cases b <;> simp
  have V : (i : Int) < (m.length : Int) := by omega
  have W : ¬ (i : Int) < 0 := by omega
  have T : Hid (i < m.length) := E
  simp only [findV]
  clear n hfi g h H D c r E
  cases f with
  | false =>
   go_wp2
   go_ret
   exact ⟨by rw [l.out]; rfl, d.out⟩
  | true =>
   by_cases e : s = u
   ·subst e
    go_wp2
    go_ret
    exact ⟨by rw [l.out]; simp, d.out⟩
   ·have S := Qe3 e
    have M : Hid (decide (s = u) = false) := decide_eq_false e
    clear e
    go_wp2
    go_ret
    exact ⟨by rw [l.out, M.out]; rfl, d.out⟩
theorem OwnC.cap {w : World} {B size : Nat} {v : Value} {n : Nat} {cs : List Value} (h : OwnC w B size v n cs) : ∃ p c, v = .slice p n c /\ n <= c := by
 rcases h.2 with ⟨e1, e2⟩ | ⟨g, cap, e1, _, _, e2, _⟩
 ·subst e2; exact ⟨none, 0, e1, Nat.le_refl _⟩
 ·exact ⟨_, cap, e1, e2⟩
theorem Qpi (w : World) (a b : Value) : Below w.heap.size w (w.alloc (.cells #[a, b] 25)) /\ (w.alloc (.cells #[a, b] 25)).cell? ⟨w.heap.size, 0, none⟩ = some a /\ (w.alloc (.cells #[a, b] 25)).cell? ⟨w.heap.size, 1, none⟩ = some b /\ (w.alloc (.cells #[a, b] 25)).heap.size = w.heap.size + 1 :=
 ⟨(Below.refl _ _).alloc (Nat.le_refl _) _, by rw [World.cell?_alloc_new]; rfl, by rw [World.cell?_alloc_new]; rfl, by simp⟩
theorem Qpj : ∀ (n : Nat) (t : Nd) (r : ByteArray), t.can r.size -> r.size <= 64 -> ∀ u ∈ t.ways n r, u.ok
 | 0, t, r, hc, h64, u, hu => by
  rw [Nd.ways] at hu
  unfold Nd.shownL at hu
  split at hu
  ·cases hu
  ·obtain rfl : u = t := by simpa using hu
   exact (u.can_ok _ hc h64).1
 | n + 1, t, r, hc, h64, u, hu => by
  have hs : u ∈ t.shownL -> u.ok := fun hu => by
   unfold Nd.shownL at hu
   split at hu
   ·cases hu
   ·obtain rfl : u = t := by simpa using hu
    exact (u.can_ok _ hc h64).1
  rw [Nd.ways] at hu
  split at hu
  ·exact hs hu
  ·rename_i hx
   have hx' : (t.next r).1 ≠ .no := fun e => hx (Nd.isNo_iff.2 e)
   obtain ⟨_, k1, k2, k3, _⟩ := Qda hc hx'
   rcases List.mem_cons.1 hu with rfl | hu
   ·exact (u.can_ok _ hc h64).1
   ·exact Qpj n _ _ (by rw [Qa1]; exact k3) (by rw [Qa1]; omega) u hu
theorem Qqy {t : Nd} {r : ByteArray} (hc : t.can r.size) (h64 : r.size <= 64) : ∀ c ∈ t.prove r, ∀ y ∈ c, y < 256 := by
 have b := Qpj 64 t r hc h64
 unfold Nd.prove
 intro c a y d
 cases hts : t.ways 64 r with
 | nil => rw [hts] at a; cases a
 | cons u us =>
  rw [hts] at b a
  rw [Qed] at a
  rcases List.mem_cons.1 a with rfl | h
  ·exact u.code_byte (b u (List.mem_cons_self ..)) y d
  ·unfold longs at h
   obtain ⟨v, e, rfl⟩ := List.mem_map.1 (List.mem_filter.1 h).1
   exact v.code_byte (b v (List.mem_cons_of_mem _ e)) y d
theorem Qpk : ∀ (n : Nat) (t : Nd) (r : ByteArray), (t.ways n r).length <= n + 1
 | 0, t, r => by rw [Nd.ways]; unfold Nd.shownL; split <;> simp
 | n + 1, t, r => by
  rw [Nd.ways]
  split
  ·unfold Nd.shownL; split <;> simp
  ·rw [List.length_cons]; have := Qpk n (t.next r).1 (r.extract (t.next r).2 r.size); omega
theorem Qty (t : Nd) (r : ByteArray) : (t.prove r).length <= 65 := Nat.le_trans (Qgc _) (Qpk 64 t r)
variable {L : List (List Nat)}
theorem Qtz {C : Nat} {v : Value} (h : OwnC w C 1 v L.length (strs L)) : ∃ p c, v = .slice p L.length c /\ StrRow w p (L.map textB) c /\ (p.isSome = true -> ∃ g, p = some ⟨g, 0, none⟩) := by
 rcases h.2 with ⟨e1, e2⟩ | ⟨g, cap, e1, _, e3, e4, _, _, hr⟩
 ·have : L = [] := List.eq_nil_of_length_eq_zero e2
  subst this
  exact ⟨none, 0, e1, .inl ⟨rfl, rfl, rfl⟩, by simp⟩
 ·refine ⟨_, cap, e1, .inr ⟨g, 0, rfl, by rw [List.length_map]; exact e4, fun _ => e3, ?_⟩, fun _ => ⟨g, rfl⟩⟩
  rw [List.map_map]
  exact hr
theorem StrRow.below {w' : World} {p : Option Addr} {l : List ByteArray} {c : Nat} (h : StrRow w p l c) (hb : Below w.heap.size w w') : StrRow w' p l c := by
 rcases h with h | ⟨g, o, e1, e2, e3, e4⟩
 ·exact .inl h
 ·exact .inr ⟨g, o, e1, e2, fun h => Nat.lt_of_lt_of_le (e3 h) hb.size, fun j u a => by
   have b : 0 < l.length := by
    have := (List.getElem?_eq_some_iff.1 a).1
    simp at this
    omega
   exact (hb.cell (p := ⟨g, o + j, none⟩) (e3 b)).trans (e4 j u a)⟩
theorem Qqz (h : ∀ c ∈ L, ∀ y ∈ c, y < 256) : (L.map textB).map bytesOf = L := by
 rw [List.map_map]
 conv => rhs; rw [<- List.map_id L]
 exact List.map_congr_left fun c a => Qa7 (h c a)
theorem Qhr {b : Nat} {x0 x1 x2 x3 : Value} {t : TypeId} (h : w.heap[b]? = some (.cells #[x0, x1, x2, x3] t (0, 0))) (y0 y1 y2 y3 : Value) : ((((w.setCell ⟨b, 0, none⟩ y0).setCell ⟨b, 1, none⟩ y1).setCell ⟨b, 2, none⟩ y2).setCell ⟨b, 3, none⟩ y3).heap[b]? = some (.cells #[y0, y1, y2, y3] t (0, 0)) :=
 Qa0 (Qa0 (Qa0 (Qa0 (cs := [x0, x1, x2, x3]) h 0 _) 1 _) 2 _) 3 _
section
variable {w2 : World} {C gp cr f : Nat} {L : List (List Nat)} {sc : ByteArray} {en ep ed ea : Nat} {d9 d10 d16 : Bool} {v9 v10 : Value} {W W' : World}
end
end Go.Proofs.YthbgepmpdphigaaGreatDoor
