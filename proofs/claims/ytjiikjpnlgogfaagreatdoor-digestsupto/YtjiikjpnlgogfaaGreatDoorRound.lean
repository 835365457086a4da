/-
  The reference's round (round): what it makes of the 25 numbers.
-/
import Derived.Test.YtjiikjpnlgogfaaGreatDoorRef
import Derived.Test.YtjiikjpnlgogfaaGreatDoorSqz
namespace Go.Proofs.YtjiikjpnlgogfaaGreatDoor
open Go.RowKit
attribute [local go_sem ↓] Go.wp_at_zero Go.wp_at_succ

abbrev encI (n : Nat) : Value := .int .i64 (n : Int)

/-- The cells of a Sponge of the reference. -/
def spCells (A S K : Array Nat) : List Value := A.toList.map encL ++ (S.toList.map encI ++ K.toList.map encL)

theorem spCells_length {A S K : Array Nat} (h1 : A.size = 25) (h2 : S.size = 25) (h3 : K.size = 24) : (spCells A S K).length = 74 := by
  simp [spCells, h1, h2, h3]

/-- Block b holds a Sponge. -/
structure Sp (w : World) (b : Nat) (A S K : Array Nat) : Prop where
  a : Row encL w b 0 A
  s : Row encI w b 25 S
  k : Row encL w b 50 K

theorem Sp.of_range {w : World} {b : Nat} {A S K : Array Nat} (hr : w.rangeAt b 0 (spCells A S K)) (hf : ∀ j, j < 74 → w.frozen? ⟨b, j, none⟩ = false) (h1 : A.size = 25) (h2 : S.size = 25) (h3 : K.size = 24) : Sp w b A S K := by
  refine ⟨fun j hj => ⟨hr j _ ?_, by rw [Nat.zero_add]; exact hf j (by omega)⟩, fun j hj => ⟨?_, hf (25 + j) (by omega)⟩, fun j hj => ⟨?_, hf (50 + j) (by omega)⟩⟩
  · unfold spCells
    rw [List.getElem?_append_left (by simp; omega)]
    simp [hj]
  · have := hr (25 + j) (encI S[j]!) ?_
    · rwa [Nat.zero_add] at this
    · unfold spCells
      rw [List.getElem?_append_right (by simp; omega), List.getElem?_append_left (by simp; omega)]
      simp [hj, h1]
  · have := hr (50 + j) (encL K[j]!) ?_
    · rwa [Nat.zero_add] at this
    · unfold spCells
      rw [List.getElem?_append_right (by simp; omega), List.getElem?_append_right (by simp; omega)]
      simp only [List.length_map, Array.length_toList, h1, h2]
      rw [show 50 + j - 25 - 25 = j by omega]
      simp [hj]

theorem Sp.range {w : World} {b : Nat} {A S K : Array Nat} (h : Sp w b A S K) (h1 : A.size = 25) (h2 : S.size = 25) : w.rangeAt b 0 (spCells A S K) := by
  intro j v hv
  rw [Nat.zero_add]
  unfold spCells at hv
  rw [List.getElem?_append] at hv
  split at hv
  · have := h.a.range j v hv
    rwa [Nat.zero_add] at this
  · rename_i hj
    simp only [List.length_map, Array.length_toList, h1] at hj hv
    rw [List.getElem?_append] at hv
    split at hv
    · have := h.s.range (j - 25) v hv
      rwa [show 25 + (j - 25) = j by omega] at this
    · rename_i hj2
      simp only [List.length_map, Array.length_toList, h2] at hj2 hv
      have := h.k.range (j - 25 - 25) v hv
      rwa [show 50 + (j - 25 - 25) = j by omega] at this

theorem refC_size (L : Array Nat) (k : Nat) : (refC L k).size = 5 := by
  induction k with
  | zero => rfl
  | succ k ih => simp [refC, ih]
theorem refC_small {L : Array Nat} (h : Small L) (k : Nat) : Small (refC L k) := by
  induction k with
  | zero =>
    intro j
    show (#[0, 0, 0, 0, 0] : Array Nat)[j]! < _
    match j with
    | 0 => decide
    | 1 => decide
    | 2 => decide
    | 3 => decide
    | 4 => decide
    | j + 5 => simp
  | succ k ih => exact small_set ih _ _ (xor5_lt (h _) (h _) (h _) (h _) (h _))

theorem xor5_eq (a b c d e : Nat) (ha : a < 18446744073709551616) (hb : b < 18446744073709551616) (hc : c < 18446744073709551616) (hd : d < 18446744073709551616) (he : e < 18446744073709551616) :
    bits .xor .u64 (bits .xor .u64 (bits .xor .u64 (bits .xor .u64 (a : Int) (b : Int)) (c : Int)) (d : Int)) (e : Int) = ((a ^^^ b ^^^ c ^^^ d ^^^ e : Nat) : Int) := by
  rw [u64_xor_nat a b ha hb, u64_xor_nat _ c (xor_lt ha hb) hc, u64_xor_nat _ d (xor_lt (xor_lt ha hb) hc) hd, u64_xor_nat _ e (xor_lt (xor_lt (xor_lt ha hb) hc) hd) he]

theorem there_set0 {w : World} {b o n : Nat} (h : w.there b o n) (p : Addr) (u : Value) : (w.setCell p u).there b o n := by
  intro j hj
  refine ⟨?_, (World.frozen?_setCell _ _ _ _).trans (h j hj).2⟩
  obtain ⟨v, hv⟩ := Option.isSome_iff_exists.1 (h j hj).1
  by_cases e : p = ⟨b, o + j, none⟩
  · subst e; rw [World.cell?_setCell_same _ _ _ hv]; rfl
  · rw [World.cell?_setCell_other _ _ _ _ e, hv]; rfl

theorem refB_size (c L S : Array Nat) (k : Nat) : (refB c L S k).size = 25 := by
  induction k with
  | zero => rfl
  | succ k ih => simp [refB, ih]

theorem refB_small {c L S : Array Nat} (hc : Small c) (h : Small L) (hS : ∀ j : Nat, S[j]! < 64) (k : Nat) : Small (refB c L S k) := by
  induction k with
  | zero =>
    intro j
    show (Array.replicate 25 0 : Array Nat)[j]! < _
    by_cases hj : j < 25
    · simp [hj]
    · simp [hj]
  | succ k ih =>
    have h1 : turnedF c[(k / 5 + 1) % 5]! 1 < 18446744073709551616 := by rw [turnedF_eq _ 1 (hc _) (by omega)]; exact rotl_lt _ _ (hc _)
    have h2 : L[k]! ^^^ c[(k / 5 + 4) % 5]! ^^^ turnedF c[(k / 5 + 1) % 5]! 1 < 18446744073709551616 := xor_lt (xor_lt (h _) (hc _)) h1
    exact small_set ih _ _ (by rw [turnedF_eq _ _ h2 (hS _)]; exact rotl_lt _ _ h2)
theorem refA_size (b L : Array Nat) (k : Nat) : (refA b L k).size = L.size := by
  induction k with
  | zero => rfl
  | succ k ih => simp [refA, ih]
theorem refA_val (a b c : Nat) (ha : a < 18446744073709551616) (hb : b < 18446744073709551616) (hc : c < 18446744073709551616) :
    bits .xor .u64 (a : Int) (bits .and .u64 (b : Int) (18446744073709551615 - (c : Int))) = ((a ^^^ (b &&& (18446744073709551615 - c)) : Nat) : Int) := by
  have e : (18446744073709551615 - (c : Int)) = ((18446744073709551615 - c : Nat) : Int) := by omega
  rw [e, u64_and_nat b _ hb (by omega), u64_xor_nat _ _ ha (Nat.lt_of_le_of_lt Nat.and_le_left hb)]

/-- What stays known all through a round. -/
structure Rd (w wr : World) (A S K : Array Nat) : Prop where
  below : Below w.heap.size w wr
  sp : Sp wr w.heap.size A S K
  th : wr.there (w.heap.size + 1) 0 74
  sz : w.heap.size + 1 + 1 < wr.heap.size

theorem Rd.drew {w wr : World} {A S K : Array Nat} (h : Rd w wr A S K) : Rd w wr.drew A S K := ⟨h.below.drew, ⟨h.sp.a, h.sp.s, h.sp.k⟩, h.th, h.sz⟩
theorem Rd.drewN {w wr : World} {A S K : Array Nat} (h : Rd w wr A S K) (n : Nat) : Rd w (wr.drewN n) A S K := ⟨⟨h.below.os, h.below.tape, h.below.output, h.below.size, h.below.block⟩, ⟨h.sp.a, h.sp.s, h.sp.k⟩, h.th, h.sz⟩
/-- A store beyond the two sponges. -/
theorem Rd.set {w wr : World} {A S K : Array Nat} (h : Rd w wr A S K) {p : Addr} (hp : w.heap.size + 1 < p.block) (u : Value) : Rd w (wr.setCell p u) A S K :=
  ⟨h.below.setCell (by omega) _, ⟨h.sp.a.setOther _ (by omega) _, h.sp.s.setOther _ (by omega) _, h.sp.k.setOther _ (by omega) _⟩, there_set0 h.th _ _, by simpa using h.sz⟩
theorem Rd.alloc {w wr : World} {A S K : Array Nat} (h : Rd w wr A S K) (o : Obj) : Rd w (wr.alloc o) A S K := by
  have hz := h.sz
  exact ⟨h.below.alloc (by omega) _, ⟨h.sp.a.alloc (by omega) _, h.sp.s.alloc (by omega) _, h.sp.k.alloc (by omega) _⟩, World.there_alloc h.th _, by simp; omega⟩

theorem Rd.setA {w wr : World} {A S K : Array Nat} (h : Rd w wr A S K) {j o x : Nat} {v : Value} (ho : o = j) (hj : j < A.size) (hA : A.size = 25) (hv : v = encL x) : Rd w (wr.setCell ⟨w.heap.size, o, none⟩ v) (A.set! j x) S K :=
  ⟨h.below.setCell (by simp) _, ⟨h.sp.a.set (by omega) hj x hv, h.sp.s.setBeside (by omega) _, h.sp.k.setBeside (by omega) _⟩, there_set0 h.th _ _, by simpa using h.sz⟩
theorem refA_small {b L : Array Nat} (hb : Small b) (h : Small L) (k : Nat) : Small (refA b L k) := by
  induction k with
  | zero => exact h
  | succ k ih => exact small_set ih _ _ (xor_lt (hb _) (Nat.lt_of_le_of_lt Nat.and_le_left (hb _)))
theorem size125 : (Tryz.prog.info? 279).map (·.size) = some 74 := by kernel_rfl
theorem oneCell_sp (A S K : Array Nat) : ∀ v ∈ spCells A S K, v.oneCell' = true := by
  intro v hv
  unfold spCells at hv
  rcases List.mem_append.1 hv with h | h
  · exact oneCell_enc A .u64 v h
  · rcases List.mem_append.1 h with h | h
    · exact oneCell_enc S .i64 v h
    · exact oneCell_enc K .u64 v h

set_option maxRecDepth 100000 in
set_option maxHeartbeats 6400000 in
theorem round_any (A S K : Array Nat) (r : Nat) (w : World) (hA : A.size = 25) (hS : S.size = 25) (hK : K.size = 24) (hAm : Small A) (hSm : ∀ j : Nat, S[j]! < 64) (hKm : Small K) (hr : r < 24) :
    Calls Tryz.prog 164 #[.agg (spCells A S K).toArray, .int .i64 (r : Int)] w fun e w' => e = .returned (.agg (spCells (refRound A S K r) S K).toArray) ∧ Below w.heap.size w w' := by
  have sp0 : Sp (w.alloc (.cells (spCells A S K).toArray 279)) w.heap.size A S K := by
    refine Sp.of_range ?_ (fun j _ => World.frozen?_alloc_new _ _ _ _) hA hS hK
    intro j v hv
    rw [Nat.zero_add, World.cell?_alloc_new, ← hv]
    simp
  have hz : Tryz.zeroCells279.size = 74 := by kernel_rfl
  go_enter Tryz.func164, Tryz.ntmps164
  go_wp2
  have e5 : Array.map encL #[0, 0, 0, 0, 0] = #[.int .u64 0, .int .u64 0, .int .u64 0, .int .u64 0, .int .u64 0] := by simp
  rw [← e5]
  generalize hw1 : (w.alloc (.cells (spCells A S K).toArray 279)).alloc (.cells Tryz.zeroCells279 279) = w1
  have hw1s : w1.heap.size = w.heap.size + 1 + 1 := by rw [← hw1]; simp
  have rd1 : Below w.heap.size w w1 ∧ Sp w1 w.heap.size A S K ∧ w1.there (w.heap.size + 1) 0 74 := by
    rw [← hw1]
    refine ⟨((Below.refl _ _).alloc (Nat.le_refl _) _).alloc (by simp) _, ⟨sp0.a.alloc (by simp) _, sp0.s.alloc (by simp) _, sp0.k.alloc (by simp) _⟩, ?_⟩
    have := there_new (w.alloc (.cells (spCells A S K).toArray 279)) Tryz.zeroCells279 279 74 hz.symm
    simpa using this
  have rc1 : Row encL (w1.alloc (.cells (Array.map encL #[0, 0, 0, 0, 0]) 153)) (w.heap.size + 1 + 1) 0 (refC A 0) := by
    have := Row.new (enc := encL) w1 #[0, 0, 0, 0, 0] 153
    rw [hw1s] at this
    exact this
  have rd2 : Rd w (w1.alloc (.cells (Array.map encL #[0, 0, 0, 0, 0]) 153)) A S K :=
    ⟨rd1.1.alloc (by omega) _, ⟨rd1.2.1.a.alloc (by omega) _, rd1.2.1.s.alloc (by omega) _, rd1.2.1.k.alloc (by omega) _⟩, World.there_alloc rd1.2.2 _, by simp; omega⟩
  generalize w1.alloc (.cells (Array.map encL #[0, 0, 0, 0, 0]) 153) = w2 at rc1 rd2 ⊢
  clear hw1 hw1s rd1 e5 sp0 hz
  go_loopg [6] 5 (fun g i wr => ∃ x : Nat, x ≤ 5 ∧ g = 5 - x ∧ i = .int .i64 x ∧ Rd w wr A S K ∧ Row encL wr (w.heap.size + 1 + 1) 0 (refC A x))
  case atStart => exact ⟨0, by omega, rfl, rfl, rd2, rc1⟩
  case round =>
    obtain ⟨x, hx, rfl, rfl, hrd, hrc⟩ := hrel
    clear rc1 rd2
    by_cases hlt : x < 5
    · obtain ⟨c0, f0⟩ := hrd.sp.a (5 * x) (by omega)
      obtain ⟨c1, f1⟩ := hrd.sp.a (5 * x + 1) (by omega)
      obtain ⟨c2, f2⟩ := hrd.sp.a (5 * x + 2) (by omega)
      obtain ⟨c3, f3⟩ := hrd.sp.a (5 * x + 3) (by omega)
      obtain ⟨c4, f4⟩ := hrd.sp.a (5 * x + 4) (by omega)
      obtain ⟨c5, f5⟩ := hrc x (by rw [refC_size]; exact hlt)
      have hcol : refC A (x + 1) = (refC A x).set! x (A[5 * x]! ^^^ A[5 * x + 1]! ^^^ A[5 * x + 2]! ^^^ A[5 * x + 3]! ^^^ A[5 * x + 4]!) := rfl
      have hxor := xor5_eq _ _ _ _ _ (hAm (5 * x)) (hAm (5 * x + 1)) (hAm (5 * x + 2)) (hAm (5 * x + 3)) (hAm (5 * x + 4))
      rw [show 0 + 5 * x = x * 5 by omega] at c0
      rw [show 0 + (5 * x + 1) = x * 5 + 1 by omega] at c1
      rw [show 0 + (5 * x + 2) = x * 5 + 2 by omega] at c2
      rw [show 0 + (5 * x + 3) = x * 5 + 3 by omega] at c3
      rw [show 0 + (5 * x + 4) = x * 5 + 4 by omega] at c4
      rw [Nat.zero_add] at c5 f5
      obtain ⟨u0, hu0⟩ : ∃ u, A[5 * x]! = u := ⟨_, rfl⟩
      obtain ⟨u1, hu1⟩ : ∃ u, A[5 * x + 1]! = u := ⟨_, rfl⟩
      obtain ⟨u2, hu2⟩ : ∃ u, A[5 * x + 2]! = u := ⟨_, rfl⟩
      obtain ⟨u3, hu3⟩ : ∃ u, A[5 * x + 3]! = u := ⟨_, rfl⟩
      obtain ⟨u4, hu4⟩ : ∃ u, A[5 * x + 4]! = u := ⟨_, rfl⟩
      obtain ⟨z, hz⟩ : ∃ z, (refC A x)[x]! = z := ⟨_, rfl⟩
      rw [hu0] at c0
      rw [hu1] at c1
      rw [hu2] at c2
      rw [hu3] at c3
      rw [hu4] at c4
      rw [hz] at c5
      rw [hu0, hu1, hu2, hu3, hu4] at hcol hxor
      have AS : Aside (Rd w wr A S K ∧ Row encL wr (w.heap.size + 1 + 1) 0 (refC A x) ∧ refC A (x + 1) = (refC A x).set! x (u0 ^^^ u1 ^^^ u2 ^^^ u3 ^^^ u4) ∧ bits .xor .u64 (bits .xor .u64 (bits .xor .u64 (bits .xor .u64 (u0 : Int) (u1 : Int)) (u2 : Int)) (u3 : Int)) (u4 : Int) = ((u0 ^^^ u1 ^^^ u2 ^^^ u3 ^^^ u4 : Nat) : Int) ∧ A.size = 25 ∧ S.size = 25 ∧ K.size = 24 ∧ Small A ∧ (∀ j : Nat, S[j]! < 64) ∧ Small K) := ⟨hrd, hrc, hcol, hxor, hA, hS, hK, hAm, hSm, hKm⟩
      clear hrd hrc hcol hxor hA hS hK hAm hSm hKm hu0 hu1 hu2 hu3 hu4 hz f0 f1 f2 f3 f4
      go_wp2
      have hxi : (x : Int) < 5 := by omega
      have n0 : ∀ o o' : Nat, (⟨w.heap.size + 1 + 1, o, none⟩ : Addr) ≠ ⟨w.heap.size, o', none⟩ := fun o o' e => by have e2 := congrArg Addr.block e; simp only at e2; omega
      go_region_held3 (fun w' => w'.cell? ⟨w.heap.size, x * 5, none⟩ = some (encL u0) ∧ w'.cell? ⟨w.heap.size, x * 5 + 1, none⟩ = some (encL u1) ∧ w'.cell? ⟨w.heap.size, x * 5 + 2, none⟩ = some (encL u2) ∧ w'.cell? ⟨w.heap.size, x * 5 + 3, none⟩ = some (encL u3) ∧ w'.cell? ⟨w.heap.size, x * 5 + 4, none⟩ = some (encL u4)) (first | exact ⟨c0, c1, c2, c3, c4⟩ | exact ⟨(World.cell?_setCell_other _ _ _ _ (n0 _ _)).trans c0, (World.cell?_setCell_other _ _ _ _ (n0 _ _)).trans c1, (World.cell?_setCell_other _ _ _ _ (n0 _ _)).trans c2, (World.cell?_setCell_other _ _ _ _ (n0 _ _)).trans c3, (World.cell?_setCell_other _ _ _ _ (n0 _ _)).trans c4⟩) (fail)
      clear n0 hxi
      go_wp2
      obtain ⟨hrd, hrc, hcol, hxor, _, _, _, _, _, _⟩ := AS.out
      go_roundg (5 - (x + 1))
      case measure => omega
      case rel =>
        refine ⟨x + 1, by omega, rfl, by go_num, (hrd.set (by simp) _).drew, ?_⟩
        rw [hcol]
        exact (hrc.set (by omega) (by rw [refC_size]; exact hlt) _ (val_int hxor)).drew
    · have hx5 : x = 5 := by omega
      rw [hx5] at hrc
      have hnl : (5 : Int) ≤ (x : Int) := by omega
      obtain ⟨c, hc⟩ : ∃ c, refC A 5 = c := ⟨_, rfl⟩
      have hcs : c.size = 5 := by rw [← hc]; exact refC_size _ _
      have hcm : Small c := by rw [← hc]; exact refC_small hAm _
      rw [hc] at hrc
      have HC : Hid (∀ k, k = 5 → refC A k = c) := fun k hk => by subst hk; exact hc
      have AS : Aside (Rd w wr A S K ∧ Row encL wr (w.heap.size + 1 + 1) 0 c ∧ c.size = 5 ∧ Small c ∧ A.size = 25 ∧ S.size = 25 ∧ K.size = 24 ∧ Small A ∧ (∀ j : Nat, S[j]! < 64) ∧ Small K) := ⟨hrd, hrc, hcs, hcm, hA, hS, hK, hAm, hSm, hKm⟩
      clear hrd hrc hcs hcm hA hS hK hAm hSm hKm hc hx5 hlt
      go_wp2
      obtain ⟨hrd, hrc, hcs, hcm, hA, hS, hK, hAm, hSm, hKm⟩ := AS.out
      have e25 : (#[.int .u64 0, .int .u64 0, .int .u64 0, .int .u64 0, .int .u64 0, .int .u64 0, .int .u64 0, .int .u64 0, .int .u64 0, .int .u64 0, .int .u64 0, .int .u64 0, .int .u64 0, .int .u64 0, .int .u64 0, .int .u64 0, .int .u64 0, .int .u64 0, .int .u64 0, .int .u64 0, .int .u64 0, .int .u64 0, .int .u64 0, .int .u64 0, .int .u64 0] : Array Value) = Array.map encL #[0, 0, 0, 0, 0, 0, 0, 0, 0, 0, 0, 0, 0, 0, 0, 0, 0, 0, 0, 0, 0, 0, 0, 0, 0] := by simp
      rw [e25]
      obtain ⟨Bk, hBk⟩ : ∃ Bk, wr.heap.size = Bk := ⟨_, rfl⟩
      have hBk1 : w.heap.size + 1 + 1 < Bk := by rw [← hBk]; exact hrd.sz
      have rb3 : Row encL (wr.alloc (.cells (Array.map encL #[0, 0, 0, 0, 0, 0, 0, 0, 0, 0, 0, 0, 0, 0, 0, 0, 0, 0, 0, 0, 0, 0, 0, 0, 0]) 154)) Bk 0 (refB c A S 0) := by
        rw [← hBk]; exact Row.new (enc := encL) wr #[0, 0, 0, 0, 0, 0, 0, 0, 0, 0, 0, 0, 0, 0, 0, 0, 0, 0, 0, 0, 0, 0, 0, 0, 0] 154
      have rd3 := hrd.alloc (.cells (Array.map encL #[0, 0, 0, 0, 0, 0, 0, 0, 0, 0, 0, 0, 0, 0, 0, 0, 0, 0, 0, 0, 0, 0, 0, 0, 0]) 154)
      have rc3 := hrc.alloc hrd.sz (.cells (Array.map encL #[0, 0, 0, 0, 0, 0, 0, 0, 0, 0, 0, 0, 0, 0, 0, 0, 0, 0, 0, 0, 0, 0, 0, 0, 0]) 154)
      have sz3 : Bk < (wr.alloc (.cells (Array.map encL #[0, 0, 0, 0, 0, 0, 0, 0, 0, 0, 0, 0, 0, 0, 0, 0, 0, 0, 0, 0, 0, 0, 0, 0, 0]) 154)).heap.size := by rw [← hBk]; simp
      generalize wr.alloc (.cells (Array.map encL #[0, 0, 0, 0, 0, 0, 0, 0, 0, 0, 0, 0, 0, 0, 0, 0, 0, 0, 0, 0, 0, 0, 0, 0, 0]) 154) = w3 at rb3 rd3 rc3 sz3 ⊢
      rw [hBk]
      clear AS hrd hrc hBk e25
      go_loopg [8] 5 (fun g i wr => ∃ x : Nat, x ≤ 5 ∧ g = 5 - x ∧ i = .int .i64 x ∧ Bk < wr.heap.size ∧ Rd w wr A S K ∧ Row encL wr (w.heap.size + 1 + 1) 0 c ∧ Row encL wr Bk 0 (refB c A S (5 * x)))
      case atStart => exact ⟨0, by omega, rfl, rfl, sz3, rd3, rc3, rb3⟩
      case round =>
        obtain ⟨x', hx', rfl, rfl, hsz, hrd, hrc, hrb⟩ := hrel
        clear sz3 rd3 rc3 rb3
        by_cases hlt : x' < 5
        · obtain ⟨c1, f1⟩ := hrc ((x' + 1) % 5) (by omega)
          rw [Nat.zero_add] at c1
          have hb1 := hcm ((x' + 1) % 5)
          obtain ⟨v, hv⟩ : ∃ v, c[(x' + 1) % 5]! = v := ⟨_, rfl⟩
          rw [hv] at c1 hb1
          have A1 : Aside (Rd w wr A S K ∧ Row encL wr (w.heap.size + 1 + 1) 0 c ∧ Row encL wr Bk 0 (refB c A S (5 * x')) ∧ c[(x' + 1) % 5]! = v ∧ c.size = 5 ∧ Small c ∧ A.size = 25 ∧ S.size = 25 ∧ K.size = 24 ∧ Small A ∧ (∀ j : Nat, S[j]! < 64) ∧ Small K) := ⟨hrd, hrc, hrb, hv, hcs, hcm, hA, hS, hK, hAm, hSm, hKm⟩
          clear hrd hrc hrb hv hcs hcm hA hS hK hAm hSm hKm f1
          have hd : decide ((x' : Int) < 5) = true := decide_eq_true (by omega)
          go_wp2_with fail
          refine (turned_any v 1 _ hb1 (by omega)).mono ?_
          rintro e w4 ⟨rfl, q, rfl⟩
          clear c1
          go_wp2
          obtain ⟨hrd, hrc, hrb, hv, hcs, hcm, hA, hS, hK, hAm, hSm, hKm⟩ := A1.out
          have hone : turnedF v 1 < 18446744073709551616 := by rw [turnedF_eq v 1 hb1 (by omega)]; exact rotl_lt _ _ hb1
          obtain ⟨one, ho⟩ : ∃ one, turnedF v 1 = one := ⟨_, rfl⟩
          rw [ho] at hone ⊢
          have HO : Hid (turnedF c[(x' + 1) % 5]! 1 = one) := by show _ = _; rw [hv]; exact ho
          clear hv ho A1 hb1
          go_loopg [10] 5 (fun g i wr => ∃ y : Nat, y ≤ 5 ∧ g = 5 - y ∧ i = .int .i64 y ∧ Bk < wr.heap.size ∧ Rd w wr A S K ∧ Row encL wr (w.heap.size + 1 + 1) 0 c ∧ Row encL wr Bk 0 (refB c A S (5 * x' + y)))
          case atStart => exact ⟨0, by omega, rfl, rfl, hsz, hrd.drewN _, hrc.drewN _, hrb.drewN _⟩
          case round =>
            obtain ⟨y, hy, rfl, rfl, hsz, hrd, hrc, hrb⟩ := hrel
            by_cases hly : y < 5
            · have hbs := refB_size c A S (5 * x' + y)
              obtain ⟨c1, f1⟩ := hrd.sp.a (5 * x' + y) (by omega)
              obtain ⟨c2, f2⟩ := hrc ((x' + 4) % 5) (by omega)
              obtain ⟨c3, f3⟩ := hrd.sp.s (5 * x' + y) (by omega)
              obtain ⟨c4, f4⟩ := hrb (5 * y + (2 * x' + 3 * y) % 5) (by omega)
              rw [show 0 + (5 * x' + y) = x' * 5 + y by omega] at c1
              rw [Nat.zero_add] at c2
              rw [show 25 + (5 * x' + y) = 25 + x' * 5 + y by omega] at c3
              rw [show 0 + (5 * y + (2 * x' + 3 * y) % 5) = y * 5 + (2 * x' + 3 * y) % 5 by omega] at c4 f4
              have hm : A[5 * x' + y]! ^^^ c[(x' + 4) % 5]! ^^^ one < 18446744073709551616 := xor_lt (xor_lt (hAm _) (hcm _)) hone
              have hx1 : bits .xor .u64 (bits .xor .u64 ((A[5 * x' + y]! : Nat) : Int) ((c[(x' + 4) % 5]! : Nat) : Int)) (one : Int) = ((A[5 * x' + y]! ^^^ c[(x' + 4) % 5]! ^^^ one : Nat) : Int) := by
                rw [u64_xor_nat _ _ (hAm _) (hcm _), u64_xor_nat _ _ (xor_lt (hAm _) (hcm _)) hone]
              have hcol : refB c A S (5 * x' + (y + 1)) = (refB c A S (5 * x' + y)).set! (5 * y + (2 * x' + 3 * y) % 5) (turnedF (A[5 * x' + y]! ^^^ c[(x' + 4) % 5]! ^^^ one) S[5 * x' + y]!) := by
                show refB c A S (5 * x' + y + 1) = _
                simp only [refB]
                rw [show (5 * x' + y) / 5 = x' by omega, show (5 * x' + y) % 5 = y by omega, HO.out]
              have htl := hSm (5 * x' + y)
              obtain ⟨u1, hu1⟩ : ∃ u, A[5 * x' + y]! = u := ⟨_, rfl⟩
              obtain ⟨u2, hu2⟩ : ∃ u, c[(x' + 4) % 5]! = u := ⟨_, rfl⟩
              obtain ⟨t, hu3⟩ : ∃ u, S[5 * x' + y]! = u := ⟨_, rfl⟩
              obtain ⟨z, hz⟩ : ∃ z, (refB c A S (5 * x' + y))[5 * y + (2 * x' + 3 * y) % 5]! = z := ⟨_, rfl⟩
              rw [hu1] at c1
              rw [hu2] at c2
              rw [hu3] at c3 htl
              rw [hz] at c4
              rw [hu1, hu2] at hm hx1 hcol
              rw [hu3] at hcol
              obtain ⟨m, hmm⟩ : ∃ m, u1 ^^^ u2 ^^^ one = m := ⟨_, rfl⟩
              rw [hmm] at hm hx1 hcol
              have HX : Hid (bits .xor .u64 (bits .xor .u64 (u1 : Int) (u2 : Int)) (one : Int) = ((m : Nat) : Int)) := hx1
              have AS : Aside (Rd w wr A S K ∧ Row encL wr (w.heap.size + 1 + 1) 0 c ∧ Row encL wr Bk 0 (refB c A S (5 * x' + y)) ∧ refB c A S (5 * x' + (y + 1)) = (refB c A S (5 * x' + y)).set! (5 * y + (2 * x' + 3 * y) % 5) (turnedF m t) ∧ (refB c A S (5 * x' + y)).size = 25 ∧ c.size = 5 ∧ Small c ∧ A.size = 25 ∧ S.size = 25 ∧ K.size = 24 ∧ Small A ∧ (∀ j : Nat, S[j]! < 64) ∧ Small K) := ⟨hrd, hrc, hrb, hcol, hbs, hcs, hcm, hA, hS, hK, hAm, hSm, hKm⟩
              clear hrd hrc hrb hcol hbs hcs hcm hA hS hK hAm hSm hKm hu1 hu2 hu3 hz hmm hx1 f1 f2 f3
              have hxi : (x' : Int) < 5 := by omega
              go_wp2_with fail
              go_quiet (fail)
              go_wp2
              rw [HX.out]
              clear HX c1 c2
              have a1 : IntKind.i64.wrap (2 * (x' : Int)) = 2 * (x' : Int) := wrap_fits _ (by omega) (by omega)
              have a2 : IntKind.i64.wrap (3 * (y : Int)) = 3 * (y : Int) := wrap_fits _ (by omega) (by omega)
              have a3 : IntKind.i64.wrap (2 * (x' : Int) + 3 * (y : Int)) = 2 * (x' : Int) + 3 * (y : Int) := wrap_fits _ (by omega) (by omega)
              have i0 : (2 * (x' : Int) + 3 * (y : Int)).tmod 5 = (2 * (x' : Int) + 3 * (y : Int)) % 5 := Int.tmod_eq_emod_of_nonneg (by omega)
              have i1 : (0 : Int) ≤ (2 * (x' : Int) + 3 * (y : Int)) % 5 := by omega
              have i2 : (2 * (x' : Int) + 3 * (y : Int)) % 5 < 5 := by omega
              have i3 : ((2 * (x' : Int) + 3 * (y : Int)) % 5).toNat = (2 * x' + 3 * y) % 5 := by omega
              have n0 : (⟨Bk, y * 5 + (2 * x' + 3 * y) % 5, none⟩ : Addr) ≠ ⟨w.heap.size, 25 + x' * 5 + y, none⟩ := fun e => by have e2 := congrArg Addr.block e; simp only at e2; omega
              go_region_held3 (fun w' => w'.cell? ⟨w.heap.size, 25 + x' * 5 + y, none⟩ = some (encI t)) (first | exact c3 | exact (World.cell?_setCell_other _ _ _ _ n0).trans c3) (first | (go_at_call 211; refine (turned_any _ _ _ hm htl).mono ?_; rintro e w' ⟨rfl, q, rfl⟩))
              clear a1 a2 a3 i0 i1 i2 i3 n0 hxi c3
              go_wp2
              obtain ⟨hrd, hrc, hrb, hcol, hbs, _⟩ := AS.out
              go_roundg (5 - (y + 1))
              case measure => omega
              case rel =>
                refine ⟨y + 1, by omega, rfl, by go_num, by simpa using hsz, (hrd.drewN _).set (by simp only; omega) _, (hrc.drewN _).setOther _ (by simp only; omega) _, ?_⟩
                rw [hcol]
                exact (hrb.drewN _).set (by omega) (by omega) _ rfl
            · have hy5 : y = 5 := by omega
              rw [hy5] at hrb
              have hnl2 : (5 : Int) ≤ (y : Int) := by omega
              have AS : Aside (Rd w wr A S K ∧ Row encL wr (w.heap.size + 1 + 1) 0 c ∧ Row encL wr Bk 0 (refB c A S (5 * x' + 5))) := ⟨hrd, hrc, hrb⟩
              clear hrd hrc hrb hcs hcm hA hS hK hAm hSm hKm hy5 hly
              go_wp2
              obtain ⟨hrd, hrc, hrb⟩ := AS.out
              go_roundg (5 - (x' + 1))
              case measure => omega
              case rel => exact ⟨x' + 1, by omega, rfl, by go_num, hsz, hrd, hrc, hrb⟩
        · have hx5' : x' = 5 := by omega
          rw [hx5'] at hrb
          have hnl2 : (5 : Int) ≤ (x' : Int) := by omega
          obtain ⟨b, hb⟩ : ∃ b, refB c A S 25 = b := ⟨_, rfl⟩
          have hbs : b.size = 25 := by rw [← hb]; exact refB_size _ _ _ _
          have hbm : Small b := by rw [← hb]; exact refB_small hcm hAm hSm 25
          have hrb' : Row encL wr Bk 0 b := by rw [← hb]; exact hrb
          have HB : Hid (∀ k, k = 25 → refB c A S k = b) := fun k hk => by subst hk; exact hb
          have AS : Aside (Rd w wr A S K ∧ Row encL wr Bk 0 b ∧ b.size = 25 ∧ Small b ∧ A.size = 25 ∧ S.size = 25 ∧ K.size = 24 ∧ Small A ∧ Small K) := ⟨hrd, hrb', hbs, hbm, hA, hS, hK, hAm, hKm⟩
          clear hrd hrc hrb hrb' hbs hbm hcs hcm hA hS hK hAm hSm hKm hb hx5' hlt
          go_wp2
          obtain ⟨hrd, hrb, hbs, hbm, hA, hS, hK, hAm, hKm⟩ := AS.out
          clear AS
          go_loopg [12] 5 (fun g i wr => ∃ x : Nat, x ≤ 5 ∧ g = 5 - x ∧ i = .int .i64 x ∧ Bk < wr.heap.size ∧ Rd w wr (refA b A (5 * x)) S K ∧ Row encL wr Bk 0 b)
          case atStart => exact ⟨0, by omega, rfl, rfl, hsz, hrd, hrb⟩
          case round =>
            obtain ⟨p, hp, rfl, rfl, hsz, hrd, hrb⟩ := hrel
            by_cases hlt : p < 5
            · have A1 : Aside (Rd w wr (refA b A (5 * p)) S K ∧ Row encL wr Bk 0 b ∧ b.size = 25 ∧ Small b ∧ A.size = 25 ∧ S.size = 25 ∧ K.size = 24 ∧ Small A ∧ Small K) := ⟨hrd, hrb, hbs, hbm, hA, hS, hK, hAm, hKm⟩
              clear hrd hrb hbs hbm hA hS hK hAm hKm
              have hd : decide ((p : Int) < 5) = true := decide_eq_true (by omega)
              go_wp2
              obtain ⟨hrd, hrb, hbs, hbm, hA, hS, hK, hAm, hKm⟩ := A1.out
              clear A1
              go_loopg [13] 5 (fun g i wr => ∃ y : Nat, y ≤ 5 ∧ g = 5 - y ∧ i = .int .i64 y ∧ Bk < wr.heap.size ∧ Rd w wr (refA b A (5 * p + y)) S K ∧ Row encL wr Bk 0 b)
              case atStart => exact ⟨0, by omega, rfl, rfl, hsz, hrd, hrb⟩
              case round =>
                obtain ⟨y, hy, rfl, rfl, hsz, hrd, hrb⟩ := hrel
                by_cases hly : y < 5
                · have hps := refA_size b A (5 * p + y)
                  obtain ⟨c1, f1⟩ := hrb (5 * p + y) (by omega)
                  obtain ⟨c2, f2⟩ := hrb (5 * ((p + 2) % 5) + y) (by omega)
                  obtain ⟨c3, f3⟩ := hrb (5 * ((p + 1) % 5) + y) (by omega)
                  obtain ⟨c4, f4⟩ := hrd.sp.a (5 * p + y) (by omega)
                  have hcol : refA b A (5 * p + (y + 1)) = (refA b A (5 * p + y)).set! (5 * p + y) (b[5 * p + y]! ^^^ (b[5 * ((p + 2) % 5) + y]! &&& (18446744073709551615 - b[5 * ((p + 1) % 5) + y]!))) := by
                    show refA b A (5 * p + y + 1) = _
                    simp only [refA]
                    rw [show (5 * p + y) / 5 = p by omega, show (5 * p + y) % 5 = y by omega]
                  have hval := refA_val _ _ _ (hbm (5 * p + y)) (hbm (5 * ((p + 2) % 5) + y)) (hbm (5 * ((p + 1) % 5) + y))
                  rw [show 0 + (5 * p + y) = p * 5 + y by omega] at c1 c4 f4
                  rw [show 0 + (5 * ((p + 2) % 5) + y) = (p + 2) % 5 * 5 + y by omega] at c2
                  rw [show 0 + (5 * ((p + 1) % 5) + y) = (p + 1) % 5 * 5 + y by omega] at c3
                  have hb3 := hbm (5 * ((p + 1) % 5) + y)
                  obtain ⟨u1, hu1⟩ : ∃ u, b[5 * p + y]! = u := ⟨_, rfl⟩
                  obtain ⟨u2, hu2⟩ : ∃ u, b[5 * ((p + 2) % 5) + y]! = u := ⟨_, rfl⟩
                  obtain ⟨u3, hu3⟩ : ∃ u, b[5 * ((p + 1) % 5) + y]! = u := ⟨_, rfl⟩
                  obtain ⟨z, hz⟩ : ∃ z, (refA b A (5 * p + y))[5 * p + y]! = z := ⟨_, rfl⟩
                  rw [hu1] at c1
                  rw [hu2] at c2
                  rw [hu3] at c3 hb3
                  rw [hz] at c4
                  rw [hu1, hu2, hu3] at hcol hval
                  have AS : Aside (Rd w wr (refA b A (5 * p + y)) S K ∧ Row encL wr Bk 0 b ∧ refA b A (5 * p + (y + 1)) = (refA b A (5 * p + y)).set! (5 * p + y) (u1 ^^^ (u2 &&& (18446744073709551615 - u3))) ∧ (refA b A (5 * p + y)).size = 25) := ⟨hrd, hrb, hcol, by omega⟩
                  have AV : Aside (bits .xor .u64 (u1 : Int) (bits .and .u64 (u2 : Int) (18446744073709551615 - (u3 : Int))) = ((u1 ^^^ (u2 &&& (18446744073709551615 - u3)) : Nat) : Int)) := hval
                  clear hrd hrb hcol hval hps hbs hbm hA hS hK hAm hKm hu1 hu2 hu3 hz f1 f2 f3
                  have a1 : IntKind.i64.wrap ((p : Int) + 1) = (p : Int) + 1 := wrap_fits _ (by omega) (by omega)
                  have a2 : IntKind.i64.wrap ((p : Int) + 2) = (p : Int) + 2 := wrap_fits _ (by omega) (by omega)
                  have b1 : ((p : Int) + 1).tmod 5 = ((p : Int) + 1) % 5 := Int.tmod_eq_emod_of_nonneg (by omega)
                  have b2 : ((p : Int) + 2).tmod 5 = ((p : Int) + 2) % 5 := Int.tmod_eq_emod_of_nonneg (by omega)
                  have d1 : (0 : Int) ≤ ((p : Int) + 1) % 5 := by omega
                  have d2 : (0 : Int) ≤ ((p : Int) + 2) % 5 := by omega
                  have e1 : ((p : Int) + 1) % 5 < 5 := by omega
                  have e2 : ((p : Int) + 2) % 5 < 5 := by omega
                  have g1 : (((p : Int) + 1) % 5).toNat = (p + 1) % 5 := by omega
                  have g2 : (((p : Int) + 2) % 5).toNat = (p + 2) % 5 := by omega
                  have hxi : (p : Int) < 5 := by omega
                  have n0 : ∀ o o' : Nat, (⟨w.heap.size, o, none⟩ : Addr) ≠ ⟨Bk, o', none⟩ := fun o o' e => by have e2 := congrArg Addr.block e; simp only at e2; omega
                  go_wp2
                  go_region_held3 (fun w' => w'.cell? ⟨Bk, p * 5 + y, none⟩ = some (encL u1) ∧ w'.cell? ⟨Bk, (p + 2) % 5 * 5 + y, none⟩ = some (encL u2) ∧ w'.cell? ⟨Bk, (p + 1) % 5 * 5 + y, none⟩ = some (encL u3)) (first | exact ⟨c1, c2, c3⟩ | exact ⟨(World.cell?_setCell_other _ _ _ _ (n0 _ _)).trans c1, (World.cell?_setCell_other _ _ _ _ (n0 _ _)).trans c2, (World.cell?_setCell_other _ _ _ _ (n0 _ _)).trans c3⟩) (fail)
                  clear a1 a2 b1 b2 d1 d2 e1 e2 g1 g2 hxi n0 c1 c2 c3
                  go_wp2
                  obtain ⟨hrd, hrb, hcol, hps⟩ := AS.out
                  go_roundg (5 - (y + 1))
                  case measure => omega
                  case rel =>
                    refine ⟨y + 1, by omega, rfl, by go_num, by simpa using hsz, ?_, (hrb.setOther _ (by simp only; omega) _).drew⟩
                    rw [hcol]
                    exact (hrd.setA (by omega) (by omega) hps (val_int AV.out)).drew
                · have hy5 : y = 5 := by omega
                  rw [hy5] at hrd
                  have hnl3 : (5 : Int) ≤ (y : Int) := by omega
                  have AS : Aside (Rd w wr (refA b A (5 * p + 5)) S K ∧ Row encL wr Bk 0 b) := ⟨hrd, hrb⟩
                  clear hrd hrb hbs hbm hA hS hK hAm hKm hy5 hly
                  go_wp2
                  obtain ⟨hrd, hrb⟩ := AS.out
                  go_roundg (5 - (p + 1))
                  case measure => omega
                  case rel => exact ⟨p + 1, by omega, rfl, by go_num, hsz, hrd, hrb⟩
            · have hp5 : p = 5 := by omega
              rw [hp5] at hrd
              have hnl3 : (5 : Int) ≤ (p : Int) := by omega
              obtain ⟨M, hM⟩ : ∃ M, refA b A 25 = M := ⟨_, rfl⟩
              have hMs : M.size = 25 := by rw [← hM, refA_size]; exact hA
              have hMm : Small M := by rw [← hM]; exact refA_small hbm hAm 25
              have hrd' : Rd w wr M S K := by rw [← hM]; exact hrd
              have HM : Hid (∀ k, k = 25 → refA b A k = M) := fun k hk => by subst hk; exact hM
              obtain ⟨c1, f1⟩ := hrd'.sp.a 0 (by omega)
              obtain ⟨c2, f2⟩ := hrd'.sp.k r (by omega)
              rw [Nat.add_zero] at c1 f1
              have hxor := u64_xor_nat _ _ (hMm 0) (hKm r)
              obtain ⟨u, hu⟩ : ∃ u, M[0]! = u := ⟨_, rfl⟩
              obtain ⟨v, hv⟩ : ∃ v, K[r]! = v := ⟨_, rfl⟩
              rw [hu] at c1 hxor
              rw [hv] at c2 hxor
              have AS : Aside (Rd w wr M S K ∧ M.size = 25 ∧ bits .xor .u64 (u : Int) (v : Int) = ((u ^^^ v : Nat) : Int) ∧ M[0]! = u ∧ K[r]! = v ∧ S.size = 25 ∧ K.size = 24) := ⟨hrd', hMs, hxor, hu, hv, hS, hK⟩
              clear hrd hrd' hrb hbs hbm hA hS hK hAm hKm hp5 hlt hM hMs hMm hxor hu hv f2
              have hri : (r : Int) < 24 := by omega
              go_wp2
              go_region
              obtain ⟨hrd, hMs, hxor, hu, hv, hS, hK⟩ := AS.out
              have rd5 : ∀ W : World, W = (wr.setCell ⟨w.heap.size, 0, none⟩ (.int .u64 (bits .xor .u64 (u : Int) (v : Int)))).drew → Rd w W (M.set! 0 (u ^^^ v)) S K := fun W hW => by
                rw [hW]; exact (hrd.setA rfl (by omega) hMs (val_int hxor)).drew
              generalize hw5 : World.drew (World.setCell wr _ _) = w5
              have rd5' := rd5 w5 hw5.symm
              have hF : refRound A S K r = M.set! 0 (u ^^^ v) := by
                unfold refRound
                rw [HC.out 5 rfl, HB.out 25 rfl, HM.out 25 rfl, hu, hv]
              have HF : Hid (∀ x : Unit, refRound A S K r = M.set! 0 (u ^^^ v)) := fun _ => hF
              have hFs : (M.set! 0 (u ^^^ v)).size = 25 := by simpa using hMs
              generalize M.set! 0 (u ^^^ v) = F at rd5' HF hFs
              have hrg := rd5'.sp.range hFs hS
              have hl := spCells_length hFs hS hK
              have hz1 : (Tryz.prog.info? 279).map (·.size) = some (spCells F S K).length := by rw [size125, hl]
              have hz2 : (Tryz.prog.info? 279).map (·.size) = some (spCells F S K).toArray.size := by rw [size125]; simp [hl]
              have hone := all_oneCell_toArray (oneCell_sp F S K)
              have hth2 : w5.there (w.heap.size + 1) 0 (spCells F S K).length := by rw [hl]; exact rd5'.th
              have hth : w5.there (w.heap.size + 1) 0 (spCells F S K).toArray.size := by simpa using hth2
              have A5 : Aside (Below w.heap.size w w5 ∧ w5.there (w.heap.size + 1) 0 (spCells F S K).length) := ⟨rd5'.below, hth2⟩
              obtain ⟨cs, hcs⟩ : ∃ cs, spCells F S K = cs := ⟨_, rfl⟩
              have HCS : Hid (∀ x : Unit, spCells F S K = cs) := fun _ => hcs
              rw [hcs] at hrg hz1 hz2 hone hth A5
              clear AS hrd hMs hxor hu hv hS hK rd5 hw5 rd5' hF hFs hl hth2 hcs c1 f1 c2 hri
              go_wp2_with (first
                | (refine wpList_load_mid rfl 279 _ rfl w.heap.size 0 rfl cs _ hrg Tryz.underlying279 rfl hz1 ?_)
                | (refine wpList_store_mid rfl 279 _ _ rfl (w.heap.size + 1) 0 cs.toArray rfl rfl hth hz2 hone ?_))
              obtain ⟨hB5, hth2⟩ := A5.out
              refine bodyPost_ret (v := .agg cs.toArray) (results_cell1 Tryz.results164 _ _ _ (w.heap.size + 1) 0 rfl (run_loadVar_mid _ _ _ 279 _ _ (World.rangeAt_setCells_same _ _ _ _ hth2) Tryz.underlying279 rfl hz1)) rfl ⟨?_, ?_⟩
              · rw [HF.out (), HCS.out ()]
              · obtain ⟨q1, q2, q3, q4⟩ := size_setCells (w.heap.size + 1) cs 0 w5
                exact hB5.trans ⟨q2, q3, q4, by rw [q1]; exact Nat.le_refl _, fun k hk => heap_setCells _ _ _ _ _ (by omega)⟩
end Go.Proofs.YtjiikjpnlgogfaaGreatDoor
