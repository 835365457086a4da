/-
  The reference's tables (begin): what its loops make are the two tables.
-/
import Derived.Test.YtjiikjpnlgogfaaGreatDoorRound
namespace Go.Proofs.YtjiikjpnlgogfaaGreatDoor
open Go.RowKit
attribute [local go_sem ↓] Go.wp_at_zero Go.wp_at_succ

def z25 : Array Nat := #[0, 0, 0, 0, 0, 0, 0, 0, 0, 0, 0, 0, 0, 0, 0, 0, 0, 0, 0, 0, 0, 0, 0, 0, 0]
def z24 : Array Nat := #[0, 0, 0, 0, 0, 0, 0, 0, 0, 0, 0, 0, 0, 0, 0, 0, 0, 0, 0, 0, 0, 0, 0, 0]

/-- The first table after t steps, and where it stands. -/
def begS : Nat → Array Nat × Nat × Nat
  | 0 => (z25, 1, 0)
  | t + 1 => ((begS t).1.set! (5 * (begS t).2.1 + (begS t).2.2) ((t + 1) * (t + 2) / 2 % 64), (begS t).2.2, (2 * (begS t).2.1 + 3 * (begS t).2.2) % 5)
theorem begS_size (t : Nat) : (begS t).1.size = 25 := by
  induction t with
  | zero => rfl
  | succ t ih => simp [begS, ih]
theorem begS_lt (t : Nat) : (begS t).2.1 < 5 ∧ (begS t).2.2 < 5 := by
  induction t with
  | zero => decide
  | succ t ih => exact ⟨ih.2, Nat.mod_lt _ (by decide)⟩
theorem begS_end : (begS 24).1.toList = turnsT.toList := by decide +kernel

/-- One step of the row of bits: the second table's entry, the bit's place, the number. -/
def bitNext (b : Nat) : Nat := if 2 * b > 255 then 2 * b ^^^ 369 else 2 * b
theorem bitNext_lt (b : Nat) (h : b < 256) : bitNext b < 256 := by
  have all : ∀ i : Fin 256, bitNext i.val < 256 := by decide +kernel
  exact all ⟨b, h⟩
/-- One entry after j of its seven places. -/
def begE (e b : Nat) : Nat → Nat × Nat × Nat
  | 0 => (e, 1, b)
  | j + 1 => (if (begE e b j).2.2 % 2 = 1 then ((begE e b j).1 + 2 ^ ((begE e b j).2.1 - 1)) % 18446744073709551616 else (begE e b j).1, (begE e b j).2.1 * 2, bitNext (begE e b j).2.2)
/-- The second table after r entries, and the number. -/
def begK : Nat → Array Nat × Nat
  | 0 => (z24, 1)
  | r + 1 => ((begK r).1.set! r (begE (begK r).1[r]! (begK r).2 7).1, (begE (begK r).1[r]! (begK r).2 7).2.2)
theorem begK_size (t : Nat) : (begK t).1.size = 24 := by
  induction t with
  | zero => rfl
  | succ t ih => simp [begK, ih]
theorem begK_end : (begK 24).1.toList = keysT.toList := by decide +kernel
theorem begE_unit (e b : Nat) (j : Nat) : (begE e b j).2.1 = 2 ^ j := by
  induction j with
  | zero => rfl
  | succ j ih => simp only [begE, ih]; rw [Nat.pow_succ]
theorem begE_lt (e b : Nat) (h : b < 256) (j : Nat) : (begE e b j).2.2 < 256 := by
  induction j with
  | zero => exact h
  | succ j ih => exact bitNext_lt _ ih
theorem begK_lt (r : Nat) : (begK r).2 < 256 := by
  induction r with
  | zero => decide
  | succ r ih =>
    simp only [begK]
    exact begE_lt _ _ ih 7

theorem begS_turns : (begS 24).1 = turnsT := Array.ext' begS_end
theorem begK_keys : (begK 24).1 = keysT := Array.ext' begK_end
theorem set_self (K : Array Nat) (r : Nat) : K.set! r K[r]! = K := by
  apply Array.ext_getElem?
  intro i
  simp only [Array.set!_eq_setIfInBounds, Array.getElem?_setIfInBounds]
  by_cases e : r = i
  · subst e
    by_cases h : r < K.size
    · simp [h]
    · simp [h]
  · simp [e]
theorem set_set (K : Array Nat) (r x y : Nat) : (K.set! r x).set! r y = K.set! r y := by
  apply Array.ext_getElem?
  intro i
  simp only [Array.set!_eq_setIfInBounds, Array.getElem?_setIfInBounds, Array.size_setIfInBounds]
  by_cases e : r = i
  · simp [e]
  · simp [e]
theorem xor369 (b : Nat) (h : b < 256) : bits .xor .i64 ((b : Int) * 2) 369 = ((2 * b ^^^ 369 : Nat) : Int) := by
  have all : ∀ i : Fin 256, bits .xor .i64 ((i.val : Int) * 2) 369 = ((2 * i.val ^^^ 369 : Nat) : Int) := by decide +kernel
  exact all ⟨b, h⟩

/-- What stays known while the tables are made. -/
structure Bg (w wr : World) (S K : Array Nat) : Prop where
  below : Below w.heap.size w wr
  sp : Sp wr (w.heap.size + 1) z25 S K
  th : wr.there w.heap.size 0 74
  sz : w.heap.size + 1 < wr.heap.size

theorem Bg.setS {w wr : World} {S K : Array Nat} (h : Bg w wr S K) {j o x : Nat} {v : Value} (ho : o = 25 + j) (hj : j < S.size) (hS : S.size = 25) (hv : v = encI x) : Bg w (wr.setCell ⟨w.heap.size + 1, o, none⟩ v) (S.set! j x) K :=
  ⟨h.below.setCell (by simp) _, ⟨h.sp.a.setBeside (by have : z25.size = 25 := rfl; omega) _, h.sp.s.set ho hj x hv, h.sp.k.setBeside (by omega) _⟩, there_set0 h.th _ _, by simpa using h.sz⟩
theorem Bg.setK {w wr : World} {S K : Array Nat} (h : Bg w wr S K) {j o x : Nat} {v : Value} (ho : o = 50 + j) (hj : j < K.size) (hS : S.size = 25) (hv : v = encL x) : Bg w (wr.setCell ⟨w.heap.size + 1, o, none⟩ v) S (K.set! j x) :=
  ⟨h.below.setCell (by simp) _, ⟨h.sp.a.setBeside (by have : z25.size = 25 := rfl; omega) _, h.sp.s.setBeside (by omega) _, h.sp.k.set ho hj x hv⟩, there_set0 h.th _ _, by simpa using h.sz⟩

theorem zero125 : Tryz.zeroCells279 = (spCells z25 z25 z24).toArray := by kernel_rfl

theorem dbl (k : Nat) (h1 : 1 ≤ k) (h : k ≤ 63) : IntKind.u64.wrap (((2 ^ (k - 1) : Nat) : Int) * 2) = ((2 ^ (k + 1 - 1) : Nat) : Int) := by
  have e : 2 ^ (k + 1 - 1) = 2 ^ (k - 1) * 2 := by rw [← Nat.pow_succ]; congr 1; omega
  have hlt : 2 ^ (k - 1) ≤ 2 ^ 62 := Nat.pow_le_pow_right (by omega) (by omega)
  rw [e, IntKind.wrap_u64]
  generalize 2 ^ (k - 1) = n at hlt
  omega

set_option maxRecDepth 100000 in
set_option maxHeartbeats 6400000 in
theorem begin_any (w : World) :
    Calls Tryz.prog 163 #[] w fun e w' => e = .returned (.agg (spCells z25 turnsT keysT).toArray) ∧ Below w.heap.size w w' := by
  go_enter Tryz.func163, Tryz.ntmps163
  go_wp2
  generalize hw0 : w.alloc (.cells Tryz.zeroCells279 279) = w0
  have hw0s : w0.heap.size = w.heap.size + 1 := by rw [← hw0]; simp
  have b0 : Below w.heap.size w w0 ∧ w0.there w.heap.size 0 74 := by
    rw [← hw0]; exact ⟨(Below.refl _ _).alloc (Nat.le_refl _) _, there_new _ _ _ _ (by kernel_rfl)⟩
  have bg : Bg w (w0.alloc (.cells Tryz.zeroCells279 279)) z25 z24 := by
    refine ⟨b0.1.alloc (by omega) _, ?_, World.there_alloc b0.2 _, by simp; omega⟩
    rw [← hw0s, zero125]
    refine Sp.of_range ?_ (fun j _ => World.frozen?_alloc_new _ _ _ _) rfl rfl rfl
    intro j v hv
    rw [Nat.zero_add, World.cell?_alloc_new, ← hv]
    simp
  generalize w0.alloc (.cells Tryz.zeroCells279 279) = w1 at bg ⊢
  clear hw0 hw0s b0
  go_loopg [2, 3, 4] 24 (fun g vx vy i wr => ∃ t : Nat, t ≤ 24 ∧ g = 24 - t ∧ i = .int .i64 t ∧ vx = encI (begS t).2.1 ∧ vy = encI (begS t).2.2 ∧ Bg w wr (begS t).1 z24)
  case atStart => exact ⟨0, by omega, rfl, rfl, rfl, rfl, bg⟩
  case round =>
    obtain ⟨t, ht, rfl, rfl, rfl, rfl, hbg⟩ := hrel
    clear bg
    have hsS := begS_size t
    by_cases hlt : t < 24
    · obtain ⟨hx5, hy5⟩ := begS_lt t
      have hnext : begS (t + 1) = ((begS t).1.set! (5 * (begS t).2.1 + (begS t).2.2) ((t + 1) * (t + 2) / 2 % 64), (begS t).2.2, (2 * (begS t).2.1 + 3 * (begS t).2.2) % 5) := rfl
      obtain ⟨c1, f1⟩ := hbg.sp.s (5 * (begS t).2.1 + (begS t).2.2) (by omega)
      obtain ⟨x, hx⟩ : ∃ x, (begS t).2.1 = x := ⟨_, rfl⟩
      obtain ⟨y, hy⟩ : ∃ y, (begS t).2.2 = y := ⟨_, rfl⟩
      obtain ⟨Sx, hSx⟩ : ∃ Sx, (begS t).1 = Sx := ⟨_, rfl⟩
      rw [hx, hy, hSx] at hnext c1
      rw [hx, hy] at f1
      rw [hx] at hx5
      rw [hy] at hy5
      rw [hSx] at hbg hsS
      rw [hx, hy]
      rw [show 25 + (5 * x + y) = 25 + x * 5 + y by omega] at c1 f1
      obtain ⟨m, hm⟩ : ∃ m, (t + 1) * (t + 2) = m := ⟨_, rfl⟩
      have hmb : m ≤ 650 := by rw [← hm]; exact Nat.le_trans (Nat.mul_le_mul (show t + 1 ≤ 24 by omega) (show t + 2 ≤ 25 by omega)) (by omega)
      have hmi : ((t : Int) + 1) * ((t : Int) + 2) = (m : Int) := by rw [← hm]; push_cast; rfl
      rw [hm] at hnext
      obtain ⟨z, hz⟩ : ∃ z, Sx[5 * x + y]! = z := ⟨_, rfl⟩
      rw [hz] at c1
      have AS : Aside (Bg w wr Sx z24 ∧ begS (t + 1) = (Sx.set! (5 * x + y) (m / 2 % 64), y, (2 * x + 3 * y) % 5) ∧ Sx.size = 25) := ⟨hbg, hnext, hsS⟩
      clear hbg hnext hsS hx hy hSx hm hz
      go_wp2
      obtain ⟨hbg, hnext, hsS⟩ := AS.out
      go_roundg (24 - (t + 1))
      case measure => omega
      case rel =>
        refine ⟨t + 1, by omega, rfl, by go_num, ?_, ?_, ?_⟩
        · rw [hnext]
        · rw [hnext]
          show Value.int .i64 _ = Value.int .i64 (((2 * x + 3 * y) % 5 : Nat) : Int)
          exact val_int (by omega)
        · rw [hnext]; exact hbg.setS (by omega) (by omega) hsS (val_int (by omega))
    · have ht24 : t = 24 := by omega
      have hnl : (24 : Int) ≤ (t : Int) := by omega
      have hbg' : Bg w wr turnsT z24 := by rw [← begS_turns, ← ht24]; exact hbg
      obtain ⟨x, hx⟩ : ∃ x, (begS t).2.1 = x := ⟨_, rfl⟩
      obtain ⟨y, hy⟩ : ∃ y, (begS t).2.2 = y := ⟨_, rfl⟩
      rw [hx, hy]
      have AS : Aside (Bg w wr turnsT z24) := hbg'
      clear hbg hbg' hsS ht24 hlt hx hy
      go_wp2
      have hbg := AS.out
      clear AS
      go_loopg [6, 7] 24 (fun g vb i wr => ∃ r : Nat, r ≤ 24 ∧ g = 24 - r ∧ i = .int .i64 r ∧ vb = encI (begK r).2 ∧ Bg w wr turnsT (begK r).1)
      case atStart => exact ⟨0, by omega, rfl, rfl, rfl, hbg⟩
      case round =>
        obtain ⟨r, hr, rfl, rfl, rfl, hbg⟩ := hrel
        by_cases hlt : r < 24
        · have hb256 := begK_lt r
          have hKs := begK_size r
          have hnext : begK (r + 1) = ((begK r).1.set! r (begE (begK r).1[r]! (begK r).2 7).1, (begE (begK r).1[r]! (begK r).2 7).2.2) := rfl
          obtain ⟨Kr, hKr⟩ : ∃ Kr, (begK r).1 = Kr := ⟨_, rfl⟩
          obtain ⟨b0, hb0⟩ : ∃ b0, (begK r).2 = b0 := ⟨_, rfl⟩
          rw [hKr, hb0] at hnext
          rw [hKr] at hKs hbg
          rw [hb0] at hb256 ⊢
          have hbg0 : Bg w wr turnsT (Kr.set! r (begE Kr[r]! b0 0).1) := by
            show Bg w wr turnsT (Kr.set! r Kr[r]!)
            rw [set_self]; exact hbg
          have HN : Hid (∀ k, k = 7 → begK (r + 1) = (Kr.set! r (begE Kr[r]! b0 k).1, (begE Kr[r]! b0 k).2.2)) := fun k hk => by subst hk; exact hnext
          have hEu := begE_unit Kr[r]! b0
          have hEl := begE_lt Kr[r]! b0 hb256
          have hE0 : (begE Kr[r]! b0 0).2.2 = b0 := rfl
          obtain ⟨E, hE⟩ : ∃ E : Nat → Nat × Nat × Nat, E = begE Kr[r]! b0 := ⟨_, rfl⟩
          have hEs : ∀ j, E (j + 1) = (if (E j).2.2 % 2 = 1 then ((E j).1 + 2 ^ ((E j).2.1 - 1)) % 18446744073709551616 else (E j).1, (E j).2.1 * 2, bitNext (E j).2.2) := fun j => by rw [hE]; rfl
          rw [← hE] at hbg0 HN hEu hEl hE0
          have A1 : Aside (Bg w wr turnsT (Kr.set! r (E 0).1) ∧ Kr.size = 24 ∧ (∀ j, (E j).2.1 = 2 ^ j) ∧ (∀ j, (E j).2.2 < 256) ∧ (E 0).2.2 = b0 ∧ (∀ j, E (j + 1) = (if (E j).2.2 % 2 = 1 then ((E j).1 + 2 ^ ((E j).2.1 - 1)) % 18446744073709551616 else (E j).1, (E j).2.1 * 2, bitNext (E j).2.2))) := ⟨hbg0, hKs, hEu, hEl, hE0, hEs⟩
          clear hbg hbg0 hKs hEu hEl hE0 hEs hE hnext hKr hb0
          have hd : decide ((r : Int) < 24) = true := decide_eq_true (by omega)
          go_wp2
          obtain ⟨hbg, hKs, hEu, hEl, hE0, hEs⟩ := A1.out
          rw [← hE0]
          go_loopg [6, 8, 9] 7 (fun g vb vu i wr => ∃ j : Nat, j ≤ 7 ∧ g = 7 - j ∧ i = .int .i64 j ∧ vu = encI (2 ^ j) ∧ vb = encI (E j).2.2 ∧ Bg w wr turnsT (Kr.set! r (E j).1))
          case atStart => exact ⟨0, by omega, rfl, rfl, rfl, rfl, hbg⟩
          case round =>
            obtain ⟨j, hj, rfl, rfl, rfl, rfl, hbg⟩ := hrel
            by_cases hlj : j < 7
            · have hbj := hEl j
              have hunit := hEu j
              have hstep := hEs j
              rw [hunit] at hstep
              have hu64 : 2 ^ j ≤ 64 := Nat.pow_le_pow_right (by omega) (show j ≤ 6 by omega)
              have hu1 : 1 ≤ 2 ^ j := Nat.one_le_two_pow
              have hxx := xor369 (E j).2.2 hbj
              obtain ⟨b, hb⟩ : ∃ b, (E j).2.2 = b := ⟨_, rfl⟩
              obtain ⟨e, he⟩ : ∃ e, (E j).1 = e := ⟨_, rfl⟩
              obtain ⟨u, hu'⟩ : ∃ u, 2 ^ j = u := ⟨_, rfl⟩
              rw [hb] at hbj hstep hxx ⊢
              rw [he] at hstep hbg
              rw [hu'] at hstep hu64 hu1 ⊢
              have hu : Hid (2 ^ j = u) := hu'
              have hKs' : (Kr.set! r e).size = 24 := by simpa using hKs
              have HX : Hid (bits .xor .i64 ((b : Int) * 2) 369 = ((2 * b ^^^ 369 : Nat) : Int)) := hxx
              obtain ⟨ce, fe⟩ := hbg.sp.k r (by omega)
              have hre : (Kr.set! r e)[r]! = e := getD_set_same Kr r e (by omega)
              rw [hre] at ce
              clear hre
              by_cases hodd : b % 2 = 1
              · have hstep' : E (j + 1) = ((e + 2 ^ (u - 1)) % 18446744073709551616, u * 2, bitNext b) := by rw [hstep, if_pos hodd]
                have ho : ((b : Int) % 2 == 1) = true := beq_iff_eq.2 (by omega)
                by_cases hbig : 2 * b > 255
                · have hnb : bitNext b = 2 * b ^^^ 369 := by unfold bitNext; rw [if_pos hbig]
                  have hg : (255 : Int) < (b : Int) * 2 := by omega
                  have AS : Aside (Bg w wr turnsT (Kr.set! r e) ∧ ((E (j + 1)).2.2 = 2 * b ^^^ 369 ∧ (E (j + 1)).1 = (e + 2 ^ (u - 1)) % 18446744073709551616) ∧ (Kr.set! r e).size = 24 ∧ turnsT.size = 25) := ⟨hbg, by rw [hstep', hnb]; exact ⟨rfl, rfl⟩, hKs', rfl⟩
                  have A0 := A1
                  clear hbg hKs hKs' hEu hEl hE0 hEs hstep hstep' hb he hu' hxx hunit hodd hbig hnb A1
                  go_wp2
                  go_loopg [10, 11] (u - 1) (fun g vn vk wr' => ∃ k : Nat, 1 ≤ k ∧ k ≤ u ∧ g = u - k ∧ vk = .int .i64 k ∧ vn = encL (2 ^ (k - 1)) ∧ wr' = wr)
                  case atStart => exact ⟨1, by omega, hu1, rfl, rfl, rfl, rfl⟩
                  case round =>
                    obtain ⟨k, hk1, hku, rfl, rfl, rfl, hwr⟩ := hrel
                    subst hwr
                    by_cases hlk : k < u
                    · have hdb := dbl k hk1 (by omega)
                      obtain ⟨n, hn⟩ : ∃ n, 2 ^ (k - 1) = n := ⟨_, rfl⟩
                      rw [hn] at hdb ⊢
                      have HD : Hid (IntKind.u64.wrap ((n : Int) * 2) = ((2 ^ (k + 1 - 1) : Nat) : Int)) := hdb
                      clear hdb hn
                      go_wp2
                      go_roundg (u - (k + 1))
                      case measure => omega
                      case rel => exact ⟨k + 1, by omega, by omega, rfl, by go_num, val_int HD.out, rfl⟩
                    · have hku' : k = u := by omega
                      have hnl4 : (u : Int) ≤ (k : Int) := by omega
                      obtain ⟨n, hn⟩ : ∃ n, 2 ^ (k - 1) = n := ⟨_, rfl⟩
                      rw [hn]
                      have hne : (e + 2 ^ (u - 1)) % 18446744073709551616 = (e + n) % 18446744073709551616 := by rw [← hn, hku']
                      have HE : Hid ((e + 2 ^ (u - 1)) % 18446744073709551616 = (e + n) % 18446744073709551616) := hne
                      clear hn hku' hlk hne
                      go_wp2
                      obtain ⟨hbg, hnx, hKs', hTs⟩ := AS.out
                      go_roundg (7 - (j + 1))
                      case measure => omega
                      case rel =>
                        refine ⟨j + 1, by omega, rfl, by go_num, by rw [Nat.pow_succ, hu.out]; exact val_int (by omega), by rw [hnx.1]; exact val_int (HX.out), ?_⟩
                        rw [hnx.2, HE.out, ← set_set Kr r e]
                        exact hbg.setK rfl (by omega) hTs (val_int (by rw [IntKind.wrap_u64, Int.natCast_emod, Int.natCast_add]; rfl))
                · have hnb : bitNext b = 2 * b := by unfold bitNext; rw [if_neg hbig]
                  have hg : (b : Int) * 2 ≤ 255 := by omega
                  have AS : Aside (Bg w wr turnsT (Kr.set! r e) ∧ ((E (j + 1)).2.2 = 2 * b ∧ (E (j + 1)).1 = (e + 2 ^ (u - 1)) % 18446744073709551616) ∧ (Kr.set! r e).size = 24 ∧ turnsT.size = 25) := ⟨hbg, by rw [hstep', hnb]; exact ⟨rfl, rfl⟩, hKs', rfl⟩
                  have A0 := A1
                  clear hbg hKs hKs' hEu hEl hE0 hEs hstep hstep' hb he hu' hxx hunit hodd hbig hnb A1
                  go_wp2
                  go_loopg [10, 11] (u - 1) (fun g vn vk wr' => ∃ k : Nat, 1 ≤ k ∧ k ≤ u ∧ g = u - k ∧ vk = .int .i64 k ∧ vn = encL (2 ^ (k - 1)) ∧ wr' = wr)
                  case atStart => exact ⟨1, by omega, hu1, rfl, rfl, rfl, rfl⟩
                  case round =>
                    obtain ⟨k, hk1, hku, rfl, rfl, rfl, hwr⟩ := hrel
                    subst hwr
                    by_cases hlk : k < u
                    · have hdb := dbl k hk1 (by omega)
                      obtain ⟨n, hn⟩ : ∃ n, 2 ^ (k - 1) = n := ⟨_, rfl⟩
                      rw [hn] at hdb ⊢
                      have HD : Hid (IntKind.u64.wrap ((n : Int) * 2) = ((2 ^ (k + 1 - 1) : Nat) : Int)) := hdb
                      clear hdb hn
                      go_wp2
                      go_roundg (u - (k + 1))
                      case measure => omega
                      case rel => exact ⟨k + 1, by omega, by omega, rfl, by go_num, val_int HD.out, rfl⟩
                    · have hku' : k = u := by omega
                      have hnl4 : (u : Int) ≤ (k : Int) := by omega
                      obtain ⟨n, hn⟩ : ∃ n, 2 ^ (k - 1) = n := ⟨_, rfl⟩
                      rw [hn]
                      have hne : (e + 2 ^ (u - 1)) % 18446744073709551616 = (e + n) % 18446744073709551616 := by rw [← hn, hku']
                      have HE : Hid ((e + 2 ^ (u - 1)) % 18446744073709551616 = (e + n) % 18446744073709551616) := hne
                      clear hn hku' hlk hne
                      go_wp2
                      obtain ⟨hbg, hnx, hKs', hTs⟩ := AS.out
                      go_roundg (7 - (j + 1))
                      case measure => omega
                      case rel =>
                        refine ⟨j + 1, by omega, rfl, by go_num, by rw [Nat.pow_succ, hu.out]; exact val_int (by omega), by rw [hnx.1]; exact val_int (by omega), ?_⟩
                        rw [hnx.2, HE.out, ← set_set Kr r e]
                        exact hbg.setK rfl (by omega) hTs (val_int (by rw [IntKind.wrap_u64, Int.natCast_emod, Int.natCast_add]; rfl))
              · have hstep' : E (j + 1) = (e, u * 2, bitNext b) := by rw [hstep, if_neg hodd]
                have ho : ((b : Int) % 2 == 1) = false := beq_eq_false_iff_ne.2 (by omega)
                by_cases hbig : 2 * b > 255
                · have hnb : bitNext b = 2 * b ^^^ 369 := by unfold bitNext; rw [if_pos hbig]
                  have hg : (255 : Int) < (b : Int) * 2 := by omega
                  have AS : Aside (Bg w wr turnsT (Kr.set! r e) ∧ ((E (j + 1)).2.2 = 2 * b ^^^ 369 ∧ (E (j + 1)).1 = e) ∧ (Kr.set! r e).size = 24) := ⟨hbg, by rw [hstep', hnb]; exact ⟨rfl, rfl⟩, hKs'⟩
                  have A0 := A1
                  clear hbg hKs hKs' hEu hEl hE0 hEs hstep hstep' hb he hu' hxx hunit hodd hbig hnb A1
                  go_wp2
                  obtain ⟨hbg, hnx, _⟩ := AS.out
                  go_roundg (7 - (j + 1))
                  case measure => omega
                  case rel => exact ⟨j + 1, by omega, rfl, by go_num, by rw [Nat.pow_succ, hu.out]; exact val_int (by omega), by rw [hnx.1]; exact val_int (HX.out), by rw [hnx.2]; exact hbg⟩
                · have hnb : bitNext b = 2 * b := by unfold bitNext; rw [if_neg hbig]
                  have hg : (b : Int) * 2 ≤ 255 := by omega
                  have AS : Aside (Bg w wr turnsT (Kr.set! r e) ∧ ((E (j + 1)).2.2 = 2 * b ∧ (E (j + 1)).1 = e) ∧ (Kr.set! r e).size = 24) := ⟨hbg, by rw [hstep', hnb]; exact ⟨rfl, rfl⟩, hKs'⟩
                  have A0 := A1
                  clear hbg hKs hKs' hEu hEl hE0 hEs hstep hstep' hb he hu' hxx hunit hodd hbig hnb A1
                  go_wp2
                  obtain ⟨hbg, hnx, _⟩ := AS.out
                  go_roundg (7 - (j + 1))
                  case measure => omega
                  case rel => exact ⟨j + 1, by omega, rfl, by go_num, by rw [Nat.pow_succ, hu.out]; exact val_int (by omega), by rw [hnx.1]; exact val_int (by omega), by rw [hnx.2]; exact hbg⟩
            · have hj7 : j = 7 := by omega
              have hnl3 : (7 : Int) ≤ (j : Int) := by omega
              have hv : encI (E j).2.2 = encI (begK (r + 1)).2 := by rw [HN.out 7 rfl, hj7]
              have hbg' : Bg w wr turnsT (begK (r + 1)).1 := by rw [HN.out 7 rfl, ← hj7]; exact hbg
              rw [hv]
              obtain ⟨u, hu⟩ : ∃ u, 2 ^ j = u := ⟨_, rfl⟩
              rw [hu]
              obtain ⟨Kn, hKn⟩ : ∃ Kn, begK (r + 1) = Kn := ⟨_, rfl⟩
              rw [hKn] at hbg' ⊢
              have AS : Aside (Bg w wr turnsT Kn.1 ∧ begK (r + 1) = Kn) := ⟨hbg', hKn⟩
              clear hbg hbg' hv hj7 hlj hu hKn A1 hKs hEu hEl hE0 hEs HN
              go_wp2
              obtain ⟨hbg, hKn⟩ := AS.out
              go_roundg (24 - (r + 1))
              case measure => omega
              case rel => exact ⟨r + 1, by omega, rfl, by go_num, by rw [hKn], by rw [hKn]; exact hbg⟩
        · have hr24 : r = 24 := by omega
          have hnl3 : (24 : Int) ≤ (r : Int) := by omega
          have hbg' : Bg w wr turnsT keysT := by rw [← begK_keys, ← hr24]; exact hbg
          obtain ⟨b, hb⟩ : ∃ b, (begK r).2 = b := ⟨_, rfl⟩
          rw [hb]
          have hrg := hbg'.sp.range rfl rfl
          have hl : (spCells z25 turnsT keysT).length = 74 := spCells_length rfl rfl rfl
          have hz1 : (Tryz.prog.info? 279).map (·.size) = some (spCells z25 turnsT keysT).length := by rw [size125, hl]
          have hz2 : (Tryz.prog.info? 279).map (·.size) = some (spCells z25 turnsT keysT).toArray.size := by rw [size125]; simp [hl]
          have hone := all_oneCell_toArray (oneCell_sp z25 turnsT keysT)
          have hth2 : wr.there w.heap.size 0 (spCells z25 turnsT keysT).length := by rw [hl]; exact hbg'.th
          have hth : wr.there w.heap.size 0 (spCells z25 turnsT keysT).toArray.size := by simpa using hth2
          have A5 : Aside (Below w.heap.size w wr ∧ wr.there w.heap.size 0 (spCells z25 turnsT keysT).length) := ⟨hbg'.below, hth2⟩
          obtain ⟨cs, hcs⟩ : ∃ cs, spCells z25 turnsT keysT = cs := ⟨_, rfl⟩
          have HCS : Hid (∀ x : Unit, spCells z25 turnsT keysT = cs) := fun _ => hcs
          rw [hcs] at hrg hz1 hz2 hone hth A5
          clear hbg hbg' hl hth2 hcs hr24 hlt hb
          go_wp2_with (first
            | (refine wpList_load_mid rfl 279 _ rfl (w.heap.size + 1) 0 rfl cs _ hrg Tryz.underlying279 rfl hz1 ?_)
            | (refine wpList_store_mid rfl 279 _ _ rfl w.heap.size 0 cs.toArray rfl rfl hth hz2 hone ?_))
          obtain ⟨hB5, hth2⟩ := A5.out
          refine bodyPost_ret (v := .agg cs.toArray) (results_cell1 Tryz.results163 _ _ _ w.heap.size 0 rfl (run_loadVar_mid _ _ _ 279 _ _ (World.rangeAt_setCells_same _ _ _ _ hth2) Tryz.underlying279 rfl hz1)) rfl ⟨?_, ?_⟩
          · rw [HCS.out ()]
          · obtain ⟨q1, q2, q3, q4⟩ := size_setCells w.heap.size cs 0 wr
            exact hB5.trans ⟨q2, q3, q4, by rw [q1]; exact Nat.le_refl _, fun k hk => heap_setCells _ _ _ _ _ (by omega)⟩
end Go.Proofs.YtjiikjpnlgogfaaGreatDoor
