/-
  The reference's digest (twigsref.Digest) is the program's.
-/
import Derived.Test.YtjiikjpnlgogfaaGreatDoorBlk
import Derived.Test.YtjiikjpnlgogfaaGreatDoorOwn
import Derived.OwnWalk
import Derived.Deep.RegionHeld3
namespace Go.Proofs.YtjiikjpnlgogfaaGreatDoor
open Go.RowKit
attribute [local go_sem ↓] Go.wp_at_zero Go.wp_at_succ

theorem infoB : (Tryz.prog.info? 5).map (fun i => (i.zero, i.size, i.bytes)) = some (some (.int .u8 0), 1, 1) := by kernel_rfl

/-- The text with a 1 and k noughts behind it. -/
def behind1 (l : List Nat) (k : Nat) : List Nat := l ++ 1 :: List.replicate k 0
theorem behind1_length (l : List Nat) (k : Nat) : (behind1 l k).length = l.length + 1 + k := by
  unfold behind1
  simp
  omega
theorem behind1_succ (l : List Nat) (k : Nat) : behind1 l k ++ [0] = behind1 l (k + 1) := pad_zero l k

/-- What stays known: all that was there, and the result's cells. -/
structure Fr (w wr : World) : Prop where
  below : Below w.heap.size w wr
  th : wr.there w.heap.size 0 32
  size : w.heap.size + 1 ≤ wr.heap.size

theorem Fr.append {w wr w1 : World} {v : Value} {l : List Nat} {o : Obj} (h : Fr w wr) (ho : Own wr (w.heap.size + 1) v l) (hg : (wr.alloc o).grownBy w1 v.ownBlock) : Fr w w1 := by
  have hz := h.size
  have hb : ∀ k, k < w.heap.size + 1 → w1.heap[k]? = wr.heap[k]? := fun k hk =>
    (hg.block k (by simp; omega) (fun e => by have := ho.block k e.symm; omega)).trans (Below.heap_alloc wr o k (by omega))
  have hgs := hg.size
  simp only [World.size_alloc] at hgs
  exact ⟨h.below.trans ⟨hg.os, hg.tape, hg.output, by omega, fun k hk => hb k (by omega)⟩, there_block h.th (hb _ (by omega)), by omega⟩

theorem Fr.call {w wr w1 : World} (h : Fr w wr) (hb : Below wr.heap.size wr w1) : Fr w w1 := by
  have hz := h.size
  have hs := hb.size
  exact ⟨h.below.trans (hb.mono (by omega)), there_block h.th (hb.block _ (by omega)), by omega⟩

/-- What is known between the blocks: the text in block bg, the sponge in block bp. -/
structure Dg (w wr : World) (bg bp : Nat) (P A : Array Nat) : Prop where
  fr : Fr w wr
  l : Row encB wr bg 0 P
  p : Sp wr bp A turnsT keysT
  b1 : w.heap.size < bg
  b2 : bg < bp
  b3 : bp < wr.heap.size

theorem Dg.drew {w wr : World} {bg bp : Nat} {P A : Array Nat} (h : Dg w wr bg bp P A) : Dg w wr.drew bg bp P A := ⟨⟨h.fr.below.drew, h.fr.th, h.fr.size⟩, h.l, ⟨h.p.a, h.p.s, h.p.k⟩, h.b1, h.b2, h.b3⟩
theorem Dg.setA {w wr : World} {bg bp : Nat} {P A : Array Nat} (h : Dg w wr bg bp P A) {j o x : Nat} {v : Value} (ho : o = j) (hj : j < 25) (hA : A.size = 25) (hv : v = encL x) : Dg w (wr.setCell ⟨bp, o, none⟩ v) bg bp P (A.set! j x) := by
  have h1 := h.b1
  have h2 := h.b2
  exact ⟨⟨h.fr.below.setCell (by simp; omega) _, there_set h.fr.th _ _, by simpa using h.fr.size⟩, h.l.setOther _ (by simp; omega) _, ⟨h.p.a.set (by omega) (by omega) x hv, h.p.s.setBeside (by omega) _, h.p.k.setBeside (by omega) _⟩, h1, h2, by simpa using h.b3⟩
theorem Dg.call {w wr w1 : World} {bg bp : Nat} {P A : Array Nat} (h : Dg w wr bg bp P A) (hb : Below wr.heap.size wr w1) : Dg w w1 bg bp P A := by
  have h2 := h.b2
  have h3 := h.b3
  have e := hb.block bp h3
  exact ⟨h.fr.call hb, h.l.of_eq (hb.block bg (by omega)), ⟨h.p.a.of_eq e, h.p.s.of_eq e, h.p.k.of_eq e⟩, h.b1, h2, Nat.lt_of_lt_of_le h3 hb.size⟩
theorem sp74 {F : Array Nat} (hF : F.size = 25) : (spCells F turnsT keysT).length = 74 := spCells_length hF rfl rfl

theorem Dg.there {w wr : World} {bg bp : Nat} {P A : Array Nat} (h : Dg w wr bg bp P A) (hA : A.size = 25) : wr.there bp 0 74 := fun j hj => by
  rw [Nat.zero_add]
  by_cases c1 : j < 25
  · have := h.p.a j (by omega)
    rw [Nat.zero_add] at this
    exact ⟨by rw [this.1]; rfl, this.2⟩
  · by_cases c2 : j < 50
    · have := h.p.s (j - 25) (show j - 25 < 25 by omega)
      rw [show 25 + (j - 25) = j by omega] at this
      exact ⟨by rw [this.1]; rfl, this.2⟩
    · have := h.p.k (j - 50) (show j - 50 < 24 by omega)
      rw [show 50 + (j - 50) = j by omega] at this
      exact ⟨by rw [this.1]; rfl, this.2⟩

theorem at_fits (q m : Nat) {Q : Nat} (h : m + 1 = 136 * Q) (hq : q < Q) (hm : (m : Int) < 140737488355328) : wrap64 (136 * (q : Int) + 136) = 136 * (q : Int) + 136 := by
  unfold wrap64
  omega

theorem Dg.setAll {w wr : World} {bg bp : Nat} {P A A' : Array Nat} (h : Dg w wr bg bp P A) (hA : A.size = 25) (hA' : A'.size = 25) : Dg w (wr.setCells bp 0 (spCells A' turnsT keysT)) bg bp P A' := by
  have h1 := h.b1
  have h2 := h.b2
  obtain ⟨q1, q2, q3, q4⟩ := size_setCells bp (spCells A' turnsT keysT) 0 wr
  have hl : (spCells A' turnsT keysT).length = 74 := spCells_length hA' rfl rfl
  have hth := h.there hA
  refine ⟨⟨below_setCells h.fr.below (by omega) _ _, World.there_setCells h.fr.th _ _ _, by rw [q1]; exact h.fr.size⟩, h.l.setCellsOther _ _ (by omega) _, Sp.of_range (World.rangeAt_setCells_same _ _ _ _ (by rw [hl]; exact hth)) (fun j hj => ?_) hA' rfl rfl, h1, h2, by rw [q1]; exact h.b3⟩
  have := (World.there_setCells hth bp 0 (spCells A' turnsT keysT) j hj).2
  rwa [Nat.zero_add] at this

theorem idx_facts (fr z m : Nat) (h : fr + 8 ≤ m + 1) (hz : z < 8) (hm : (m : Int) < 140737488355328) : wrap64 (fr : Int) = (fr : Int) ∧ wrap64 ((fr : Int) + (z : Int)) = (fr : Int) + (z : Int) ∧ (fr : Int) + (z : Int) < (m : Int) + 1 ∧ (0 : Int) ≤ (fr : Int) + (z : Int) ∧ ((fr : Int) + (z : Int)).toNat = fr + z := by
  unfold wrap64
  omega

theorem low_step8 (n b : Nat) : IntKind.u64.wrap (IntKind.u64.wrap ((n : Int) * 256) + IntKind.u64.wrap (b : Int)) = (((n * 256 + b) % 18446744073709551616 : Nat) : Int) := by
  simp only [IntKind.wrap_u64]
  omega
theorem down_step (z y : Nat) (h : 7 - (y : Int) = (z : Int)) : wrap64 ((z : Int) - 1) = 7 - ((y + 1 : Nat) : Int) := by
  unfold wrap64
  omega
theorem mix_facts (x : Nat) (h : x < 17) : (x : Int).tmod 5 = (x : Int) % 5 ∧ (x : Int).tdiv 5 = (x : Int) / 5 ∧ IntKind.i64.wrap ((x : Int) / 5) = (x : Int) / 5 ∧ (0 : Int) ≤ (x : Int) % 5 ∧ (x : Int) % 5 < 5 ∧ ((x : Int) % 5).toNat = x % 5 ∧ (0 : Int) ≤ (x : Int) / 5 ∧ (x : Int) / 5 < 5 ∧ ((x : Int) / 5).toNat = x / 5 :=
  ⟨Int.tmod_eq_emod_of_nonneg (by omega), Int.tdiv_eq_ediv_of_nonneg (by omega), wrap_fits _ (by omega) (by omega), by omega, by omega, by omega, by omega, by omega, by omega⟩

/-- What is known while the digest is written. -/
structure Ot (w wr : World) (bp bo : Nat) (L D : Array Nat) : Prop where
  below : Below w.heap.size w wr
  th : wr.there w.heap.size 0 32
  a : Row encL wr bp 0 L
  o : Row encB wr bo 0 D
  b1 : w.heap.size < bp
  b2 : bp < bo
  b3 : bo < wr.heap.size

theorem Ot.set {w wr : World} {bp bo : Nat} {L D : Array Nat} (h : Ot w wr bp bo L D) {j o x : Nat} {v : Value} (ho : o = j) (hj : j < D.size) (hv : v = encB x) : Ot w (wr.setCell ⟨bo, o, none⟩ v) bp bo L (D.set! j x) := by
  have h1 := h.b1
  have h2 := h.b2
  exact ⟨h.below.setCell (by simp; omega) _, there_set h.th _ _, h.a.setOther _ (by simp; omega) _, h.o.set (by omega) hj x hv, h1, h2, by simpa using h.b3⟩

theorem blocks_count (len m G q : Nat) (h1 : m + 1 = 136 * q) (h2 : m = len + G) (h3 : 135 - len % 136 = G) : len / 136 + 1 = q := by omega
theorem sqz_step (L : Array Nat) (x y u : Nat) (hu : L[5 * x]! = u) (hy : y < 8) : sqzAt L (8 * x + (y + 1)) = (sqzAt L (8 * x + y)).set! (8 * x + y) (u / 256 ^ y % 256) := by
  show (sqzAt L (8 * x + y)).set! (8 * x + y) (L[5 * ((8 * x + y) / 8)]! / 2 ^ ((8 * x + y) % 8 * 8) % 256) = _
  rw [show (8 * x + y) / 8 = x by omega, show (8 * x + y) % 8 = y by omega, hu, Nat.mul_comm y 8, Nat.pow_mul]
theorem out_facts (x y : Nat) (hx : x < 4) (hy : y < 8) : IntKind.i64.wrap (8 * (x : Int)) = 8 * (x : Int) ∧ (0 : Int) ≤ 8 * (x : Int) + (y : Int) ∧ 8 * (x : Int) + (y : Int) < 32 ∧ (8 * (x : Int) + (y : Int)).toNat = 8 * x + y :=
  ⟨wrap_fits _ (by omega) (by omega), by omega, by omega, by omega⟩

theorem div_step (n : Nat) (h : n < 18446744073709551616) : IntKind.u64.wrap ((n : Int) / 256) = ((n / 256 : Nat) : Int) := by
  simp only [IntKind.wrap_u64]
  omega
theorem byte_step (n : Nat) : (n : Int) % 256 = ((n % 256 : Nat) : Int) := by omega

theorem bytes_of_mem {l : List Nat} (h : ∀ x ∈ l, x < 256) : Bytes l.toArray := by
  intro j
  by_cases hj : j < l.length
  · rw [getElem!_pos l.toArray j (by simpa using hj)]
    exact h _ (by simp)
  · rw [getElem!_neg l.toArray j (by simpa using hj)]
    decide
theorem behind1_lt {l : List Nat} (h : ∀ x ∈ l, x < 256) (k : Nat) : ∀ x ∈ behind1 l k, x < 256 := by
  intro x hx
  unfold behind1 at hx
  rcases List.mem_append.1 hx with hx | hx
  · exact h x hx
  · rcases List.mem_cons.1 hx with hx | hx
    · omega
    · have := (List.mem_replicate.1 hx).2
      omega
theorem padded_lt {l : List Nat} (h : ∀ x ∈ l, x < 256) : ∀ x ∈ padded l, x < 256 := by
  intro x hx
  unfold padded at hx
  rcases List.mem_or_eq_of_mem_set hx with hx | hx
  · exact behind1_lt h _ x hx
  · omega
theorem padded_eq (l : List Nat) (k m x : Nat) (hk : 135 - l.length % 136 = k) (hm : (behind1 l k).length = m + 1) (hx : (behind1 l k).toArray[m]! = x) : (behind1 l k).toArray.set! m ((x + 128) % 256) = (padded l).toArray := by
  have e : padded l = (behind1 l k).set ((behind1 l k).length - 1) (((behind1 l k).getD ((behind1 l k).length - 1) 0 + 128) % 256) := by
    rw [← hk]
    rfl
  rw [e, hm, Nat.add_sub_cancel]
  have hg : (behind1 l k).getD m 0 = x := by
    rw [← hx]
    simp only [getElem!_def, List.getD, List.getElem?_toArray]
    cases (behind1 l k)[m]? <;> rfl
  rw [hg]
  simp
theorem dg_start {w w3 : World} {bg : Nat} {P : Array Nat} {C : Array Value} {t : TypeId} (l : List Nat) (hC : C.size = 74) (hf : Fr w w3) (hr : Row encB w3 bg 0 P) (hb1 : w.heap.size + 1 ≤ bg) (hb : bg < w3.heap.size) : Dg w ((w3.alloc (.cells C t)).setCells w3.heap.size 0 (spCells z25 turnsT keysT)) bg w3.heap.size P (lanesAt l 0) := by
  have hz : lanesAt l 0 = z25 := by rw [lanesAt_zero]; rfl
  rw [hz]
  obtain ⟨q1, q2, q3, q4⟩ := size_setCells w3.heap.size (spCells z25 turnsT keysT) 0 (w3.alloc (.cells C t))
  have hl : (spCells z25 turnsT keysT).length = 74 := sp74 rfl
  have hth : (w3.alloc (.cells C t)).there w3.heap.size 0 74 := there_new w3 C t 74 hC.symm
  have hs := hf.size
  refine ⟨⟨below_setCells (hf.below.alloc (by omega) _) (by omega) _ _, World.there_setCells (World.there_alloc hf.th _) _ _ _, by rw [q1]; simp; omega⟩, (hr.alloc hb _).setCellsOther _ _ (by omega) _, Sp.of_range (World.rangeAt_setCells_same _ _ _ _ (by rw [hl]; exact hth)) (fun j hj => ?_) rfl rfl rfl, by omega, hb, by rw [q1]; simp⟩
  have := (World.there_setCells hth w3.heap.size 0 (spCells z25 turnsT keysT) j hj).2
  rwa [Nat.zero_add] at this

/-- 32 noughts. -/
def Zh : Array Value := #[.int .u8 0, .int .u8 0, .int .u8 0, .int .u8 0, .int .u8 0, .int .u8 0, .int .u8 0, .int .u8 0, .int .u8 0, .int .u8 0, .int .u8 0, .int .u8 0, .int .u8 0, .int .u8 0, .int .u8 0, .int .u8 0, .int .u8 0, .int .u8 0, .int .u8 0, .int .u8 0, .int .u8 0, .int .u8 0, .int .u8 0, .int .u8 0, .int .u8 0, .int .u8 0, .int .u8 0, .int .u8 0, .int .u8 0, .int .u8 0, .int .u8 0, .int .u8 0]

set_option maxRecDepth 100000 in
set_option maxHeartbeats 3200000 in
theorem refdig_any (s : ByteArray) (w : World) (hs : s.size ≤ 70368744177664) :
    Calls Tryz.prog 109 #[.string s] w fun e w' => e = .returned (.agg ((digF s).toList.map encB).toArray) ∧ Below w.heap.size w w' := by
  have hconv : ∀ W, Sem.run Tryz.prog (convert 9 111 (.string s)) W = .ok (.slice (some ⟨W.heap.size, 0, none⟩) s.size (grownCap W s.size 0 5)) (Lib.bytesWorld W 5 s) := fun W => Lib.run_convert_string_bytes W 9 111 5 s Tryz.underlying9 Tryz.underlying111 Tryz.underlying5
  obtain ⟨i0, hi, hz0, hz1, hz2⟩ := info_parts infoB
  go_enter Tryz.func109, Tryz.ntmps109
  have hown0 : ∀ C, Own (Lib.bytesWorld (w.alloc (.cells C 34)) 5 s) (w.heap.size + 1) (.slice (some ⟨w.heap.size + 1, 0, none⟩) s.size (grownCap (w.alloc (.cells C 34)) s.size 0 5)) (bytesOf s) := fun C => by
    have := Own.ofString (w.alloc (.cells C 34)) 5 s (by unfold maxLen; omega)
    simpa using this
  have hfr0 : ∀ C : Array Value, C.size = 32 → Below w.heap.size w (Lib.bytesWorld (w.alloc (.cells C 34)) 5 s) ∧ (Lib.bytesWorld (w.alloc (.cells C 34)) 5 s).there w.heap.size 0 32 ∧ (Lib.bytesWorld (w.alloc (.cells C 34)) 5 s).heap.size = w.heap.size + 2 := fun C hC => by
    have hb := bytesWorld_below (w.alloc (.cells C 34)) 5 s
    have h0 : Below w.heap.size w (w.alloc (.cells C 34)) := (Below.refl _ _).alloc (Nat.le_refl _) _
    refine ⟨h0.trans (hb.mono (by simp)), there_block (there_new w C _ 32 hC.symm) (hb.block _ (by simp)), ?_⟩
    rw [Lib.bytesWorld_size]
    simp
  have hlen := bytesOf_length s
  obtain ⟨l, hl⟩ : ∃ l, bytesOf s = l := ⟨_, rfl⟩
  have HL : Hid (∀ u : Unit, bytesOf s = l) := fun _ => hl
  have HB : Hid (∀ x ∈ l, x < 256) := by rw [← hl]; exact bytesOf_lt s
  rw [hl] at hlen hown0
  clear hl
  go_wp2_with (at_builtin; refine wpList_append_bytes _ rfl _ _ 111 rfl 5 i0 Tryz.underlying111 hi hz0 hz1 hz2 (w.heap.size + 1) _ l rfl ((hown0 _).alloc _) (w.heap.size + 2) 0 1 [1] rfl ?c1 ?c2 ?c3 ?_)
  case c1 =>
    intro j hj
    have hj0 : j = 0 := by simpa using hj
    subst hj0
    have := World.cell?_alloc_new (Lib.bytesWorld (w.alloc (.cells Zh 34)) 5 s) (#[encB 1]) 5 0
    rw [(hfr0 Zh rfl).2.2] at this
    exact this
  case c2 => simp; omega
  case c3 =>
    have := (hfr0 Zh rfl).2.2
    have e := Array.size_push (Obj.cells #[encB 1] 5) (xs := (Lib.bytesWorld (w.alloc (.cells Zh 34)) 5 s).heap)
    rw [this] at e
    exact Nat.le_trans (by omega) (Nat.le_of_eq e.symm)
  intro v1 w1 hown1 hgrow1
  have fr1 : Fr w w1 := (Fr.mk (hfr0 Zh rfl).1 (hfr0 Zh rfl).2.1 (by rw [(hfr0 Zh rfl).2.2]; omega)).append (hown0 Zh) hgrow1
  clear hgrow1 hown0 hfr0 hconv
  go_wp2
  obtain ⟨G, hG⟩ : ∃ G, 135 - s.size % 136 = G := ⟨_, rfl⟩
  go_loopg [3] G (fun g v wr => ∃ k : Nat, k ≤ G ∧ g = G - k ∧ Own wr (w.heap.size + 1) v (behind1 l k) ∧ Fr w wr)
  case atStart => exact ⟨0, by omega, rfl, hown1, fr1⟩
  case round =>
    obtain ⟨k, hk, rfl, hown, hfr⟩ := hrel
    clear hown1 fr1
    obtain ⟨bg, cap, rfl, hjunk⟩ := hown.full (by rw [behind1_length]; omega)
    clear hjunk
    have hbl := behind1_length l k
    rw [hlen] at hbl
    rw [hbl]
    by_cases hlt : k < G
    · have AS : Aside (Own wr (w.heap.size + 1) (.slice (some ⟨bg, 0, none⟩) (s.size + 1 + k) cap) (behind1 l k) ∧ Fr w wr) := by rw [← hbl]; exact ⟨hown, hfr⟩
      have hne : ((s.size : Int) + 1 + (k : Int)) % 136 ≠ 0 := by omega
      have hs9 : s.size + 1 + k ≤ 140737488355327 := by omega
      have hown2 : ∀ o, Own (wr.alloc o) (w.heap.size + 1) (.slice (some ⟨bg, 0, none⟩) (s.size + 1 + k) cap) (behind1 l k) := fun o => AS.out.1.alloc o
      have hwz : w.heap.size + 1 ≤ wr.heap.size := hfr.size
      clear hown hfr
      go_wp2_with (at_builtin; refine wpList_append_bytes _ rfl _ _ 111 rfl 5 i0 Tryz.underlying111 hi hz0 hz1 hz2 (w.heap.size + 1) _ (behind1 l k) rfl (hown2 _) wr.heap.size 0 1 [0] rfl ?c1 ?c2 ?c3 ?_)
      case c1 =>
        intro j hj
        have hj0 : j = 0 := by simpa using hj
        subst hj0
        exact World.cell?_alloc_new wr (#[encB 0]) 5 0
      case c2 => rw [hbl]; simp; omega
      case c3 => simp; omega
      intro v2 w2 hown3 hgrow2
      obtain ⟨ho, hfr⟩ := AS.out
      have fr2 : Fr w w2 := hfr.append ho hgrow2
      rw [behind1_succ] at hown3
      have AS2 : Aside (Own w2 (w.heap.size + 1) v2 (behind1 l (k + 1)) ∧ Fr w w2) := ⟨hown3, fr2⟩
      clear hgrow2 ho hfr AS hown2 hown3 fr2
      go_wp2
      go_roundg (G - (k + 1))
      case measure => omega
      case rel => exact ⟨k + 1, by omega, rfl, AS2.out⟩
    · have hkG : k = G := by omega
      have heq : ((s.size : Int) + 1 + (k : Int)) % 136 = 0 := by omega
      have hin := hown
      obtain ⟨bg', cap', e0, hbg, hbgs, hcap, hcm, hth, hcell⟩ := hown.full (by rw [hbl]; omega)
      simp only [Value.slice.injEq, Option.some.injEq, Addr.mk.injEq, and_true, true_and] at e0
      obtain ⟨rfl, rfl⟩ := e0
      have hrow : Row encB wr bg 0 (behind1 l k).toArray := fun j hj => by
        rw [List.size_toArray] at hj
        refine ⟨?_, (hth j (by omega)).2⟩
        rw [Nat.zero_add, hcell j hj]
        simp [getElem!_def]
      obtain ⟨m, hm⟩ : ∃ m, s.size + 1 + k = m + 1 := ⟨s.size + k, by omega⟩
      have heq' : ((m : Int) + 1) % 136 = 0 := by omega
      rw [hm] at hbl ⊢
      clear heq
      have hm136 : (m + 1) % 136 = 0 := by omega
      obtain ⟨x, hx⟩ : ∃ x, (behind1 l k).toArray[m]! = x := ⟨_, rfl⟩
      have hx8 : x < 256 := by rw [← hx]; exact bytes_of_mem (behind1_lt HB.out k) m
      obtain ⟨c0, f0⟩ := hrow m (by simp; omega)
      rw [Nat.zero_add, hx] at c0
      rw [Nat.zero_add] at f0
      have hpad : (behind1 l k).toArray.set! m ((x + 128) % 256) = (padded l).toArray := padded_eq l k m x (by rw [hlen]; omega) hbl hx
      have AS : Aside (Row encB wr bg 0 (behind1 l k).toArray ∧ Fr w wr ∧ (behind1 l k).toArray.set! m ((x + 128) % 256) = (padded l).toArray ∧ (behind1 l k).length = m + 1 ∧ w.heap.size + 1 ≤ bg ∧ bg < wr.heap.size ∧ m = s.size + G) := ⟨hrow, hfr, hpad, hbl, hbg, hbgs, by omega⟩
      have hmi : (m : Int) < 140737488355328 := by omega
      clear hrow hfr hpad hbl hbg hbgs hown hin hcell hth hcm hcap hx hlt hkG hk hm
      go_wp2_with fail
      obtain ⟨hrow, hfr, hpad, hbl, hbg, hbgs, hmG⟩ := AS.out
      have HMG : Hid (m = s.size + G) := hmG
      clear hmG
      have hrow2 : Row encB (wr.setCell ⟨bg, m, none⟩ (.int .u8 (((x : Int) + 128) % 256))) bg 0 (padded l).toArray := by
        rw [← hpad]
        exact hrow.set (Nat.zero_add _).symm (by simp; omega) _ (by simp)
      have fr2 : Fr w (wr.setCell ⟨bg, m, none⟩ (.int .u8 (((x : Int) + 128) % 256))) := ⟨hfr.below.setCell (by simp; omega) _, there_set hfr.th _ _, by simpa using hfr.size⟩
      have hbg2 : bg < (wr.setCell ⟨bg, m, none⟩ (.int .u8 (((x : Int) + 128) % 256))).heap.size := by simpa using hbgs
      generalize wr.setCell ⟨bg, m, none⟩ (.int .u8 (((x : Int) + 128) % 256)) = w2 at hrow2 fr2 hbg2 ⊢
      refine (begin_any w2).mono ?_
      rintro e w3 ⟨rfl, hb3⟩
      have dg3 : Fr w w3 ∧ Row encB w3 bg 0 (padded l).toArray ∧ bg < w3.heap.size := ⟨fr2.call hb3, hrow2.of_eq (hb3.block _ hbg2), Nat.lt_of_lt_of_le hbg2 hb3.size⟩
      have hlp : (padded l).length = m + 1 := by
        have := congrArg Array.size hpad
        simp at this
        omega
      have AS2 : Aside (Fr w w3 ∧ Row encB w3 bg 0 (padded l).toArray ∧ bg < w3.heap.size ∧ (padded l).length = m + 1 ∧ w.heap.size + 1 ≤ bg) := ⟨dg3.1, dg3.2.1, dg3.2.2, hlp, hbg⟩
      clear hrow hfr hpad hbl hbg hbgs hrow2 fr2 hbg2 hb3 AS c0 f0 dg3 hlp
      have hl74 : (spCells z25 turnsT keysT).length = 74 := spCells_length rfl rfl rfl
      have hz2' : (Tryz.prog.info? 279).map (·.size) = some (spCells z25 turnsT keysT).toArray.size := by rw [size125]; simp [hl74]
      have hone := all_oneCell_toArray (oneCell_sp z25 turnsT keysT)
      have hth : (w3.alloc (.cells Tryz.zeroCells279 279)).there w3.heap.size 0 (spCells z25 turnsT keysT).toArray.size := by
        have hzz : Tryz.zeroCells279.size = 74 := by kernel_rfl
        have := there_new w3 Tryz.zeroCells279 279 74 hzz.symm
        simpa [hl74] using this
      have A5 : Aside (Dg w ((w3.alloc (.cells Tryz.zeroCells279 279)).setCells w3.heap.size 0 (spCells z25 turnsT keysT)) bg w3.heap.size (padded l).toArray (lanesAt (padded l) 0)) :=
        dg_start (padded l) (by kernel_rfl) AS2.out.1 AS2.out.2.1 AS2.out.2.2.2.2 AS2.out.2.2.1
      obtain ⟨cs, hcs⟩ : ∃ cs, spCells z25 turnsT keysT = cs := ⟨_, rfl⟩
      rw [hcs] at hz2' hone hth A5 ⊢
      clear hcs hl74
      go_wp2_with (refine wpList_store_mid rfl 279 _ _ rfl w3.heap.size 0 cs.toArray rfl rfl hth hz2' hone ?_)
      obtain ⟨fr3, hrow3, hbg3, hlp, hbg⟩ := AS2.out
      obtain ⟨bp, hbp⟩ : ∃ bp, w3.heap.size = bp := ⟨_, rfl⟩
      have dg0 : Dg w ((w3.alloc (.cells Tryz.zeroCells279 279)).setCells w3.heap.size 0 cs) bg w3.heap.size (padded l).toArray (lanesAt (padded l) 0) := A5.out
      generalize (w3.alloc (.cells Tryz.zeroCells279 279)).setCells w3.heap.size 0 cs = w4 at dg0 ⊢
      rw [hbp] at dg0 ⊢
      obtain ⟨Q, hQ⟩ : ∃ Q, m + 1 = 136 * Q := ⟨(m + 1) / 136, by omega⟩
      have hby : Bytes (padded l).toArray := bytes_of_mem (padded_lt HB.out)
      obtain ⟨pl, hpl⟩ : ∃ pl, padded l = pl := ⟨_, rfl⟩
      have HP : Hid (∀ u : Unit, padded l = pl) := fun _ => hpl
      rw [hpl] at dg0 hby hlp
      have HQ : Hid (m + 1 = 136 * Q) := hQ
      have HG : Hid (135 - s.size % 136 = G) := hG
      have HS : Hid (s.size ≤ 70368744177664 ∧ (m : Int) < 140737488355328 ∧ l.length = s.size ∧ w.heap.size + 1 ≤ bg) := ⟨hs, hmi, hlen, hbg⟩
      clear fr3 hrow3 hbg3 AS2 A5 hone hth hz2' hbp hpl hQ hm136 heq' hG hs hmi hlen hbg hi hz0 hz1 hz2 hx8
      go_loopg [5] Q (fun g i wr => ∃ q : Nat, q ≤ Q ∧ g = Q - q ∧ i = .int .i64 (136 * (q : Int)) ∧ Dg w wr bg bp pl.toArray (lanesAt pl q))
      case atStart => exact ⟨0, by omega, rfl, rfl, dg0⟩
      case round =>
        obtain ⟨q, hq, rfl, rfl, hdg⟩ := hrel
        clear dg0
        by_cases hlt : q < Q
        · have hA := lanesAt_size pl hby q
          have hAm := lanesAt_small pl hby q
          have hnx := lanesAt_succ pl hby q
          obtain ⟨A, hAe⟩ : ∃ A, lanesAt pl q = A := ⟨_, rfl⟩
          rw [hAe] at hA hAm hnx hdg
          have HN : Hid (∀ k a b, k = q + 1 → a = 17 → b = 24 → lanesAt pl k = roundsAt (refMix A pl.toArray (136 * q) a) b) := fun k a b hk ha hb => by subst hk ha hb; exact hnx
          have t1 : (136 * (q : Int)) < (m : Int) + 1 := by have := HQ.out; omega
          have AS : Aside (Dg w wr bg bp pl.toArray A ∧ A.size = 25 ∧ Small A ∧ Bytes pl.toArray ∧ pl.length = m + 1) := ⟨hdg, hA, hAm, hby, hlp⟩
          clear hdg hA hAm hnx hAe hby hlp
          go_wp2
          obtain ⟨hdg, hA, hAm, hby, hlp⟩ := AS.out
          go_loopg [6] 17 (fun g i wr => ∃ x : Nat, x ≤ 17 ∧ g = 17 - x ∧ i = .int .i64 (x : Int) ∧ Dg w wr bg bp pl.toArray (refMix A pl.toArray (136 * q) x))
          case atStart => exact ⟨0, by omega, rfl, rfl, hdg⟩
          case round =>
            obtain ⟨x, hx, rfl, rfl, hdx⟩ := hrel
            clear hdg AS
            by_cases hltx : x < 17
            · have AS : Aside (Dg w wr bg bp pl.toArray (refMix A pl.toArray (136 * q) x) ∧ A.size = 25 ∧ Small A ∧ Bytes pl.toArray ∧ pl.length = m + 1) := ⟨hdx, hA, hAm, hby, hlp⟩
              clear hdx hA hAm hby hlp
              go_wp2
              obtain ⟨fr, hfr⟩ : ∃ fr, 136 * q + 8 * x = fr := ⟨_, rfl⟩
              have hfm : fr + 8 ≤ m + 1 := by have := HQ.out; omega
              have hfi : 136 * (q : Int) + 8 * (x : Int) = (fr : Int) := by omega
              go_loopg [7, 8] 8 (fun g n k W => ∃ y : Nat, y ≤ 8 ∧ g = 8 - y ∧ n = .int .u64 ((refLow pl.toArray fr y : Nat) : Int) ∧ k = .int .i64 (7 - (y : Int)) ∧ W = wr)
              case atStart => exact ⟨0, by omega, rfl, rfl, rfl, rfl⟩
              case round =>
                obtain ⟨y, hy, rfl, rfl, rfl, rfl⟩ := hrel
                by_cases hlty : y < 8
                · obtain ⟨hdx, hA, hAm, hby, hlp⟩ := AS.out
                  obtain ⟨z, hz⟩ : ∃ z, 7 - y = z := ⟨_, rfl⟩
                  have hzi : (7 - (y : Int)) = (z : Int) := by omega
                  obtain ⟨c0, f0⟩ := hdx.l (fr + z) (by simp; omega)
                  have hst : refLow pl.toArray fr (y + 1) = (refLow pl.toArray fr y * 256 + pl.toArray[fr + z]!) % 18446744073709551616 := by rw [← hz]; rfl
                  have hnl := refLow_lt pl.toArray fr y
                  have hb8 := hby (fr + z)
                  obtain ⟨n, hn⟩ : ∃ n, refLow pl.toArray fr y = n := ⟨_, rfl⟩
                  obtain ⟨b, hb⟩ : ∃ b, pl.toArray[fr + z]! = b := ⟨_, rfl⟩
                  rw [hn] at hst hnl ⊢
                  rw [hb] at hst hb8 c0
                  rw [hzi]
                  rw [Nat.zero_add] at c0
                  have i1 : IntKind.i64.wrap (8 * (x : Int)) = 8 * (x : Int) := wrap_fits _ (by omega) (by omega)
                  have HST : Hid (refLow pl.toArray fr (y + 1) = (n * 256 + b) % 18446744073709551616 ∧ n < 18446744073709551616 ∧ b < 256 ∧ 7 - (y : Int) = (z : Int)) := ⟨hst, hnl, hb8, hzi⟩
                  obtain ⟨j1, j2, j3, j4, j5⟩ := idx_facts fr z m hfm (by clear AS HN HST c0; omega) HS.out.2.1
                  clear hdx hA hAm hby hlp hst hn hb hnl hb8 f0 hzi hz
                  go_wp2
                  go_roundg (8 - (y + 1))
                  case measure => omega
                  case rel => exact ⟨y + 1, by omega, rfl, by rw [HST.out.1]; exact val_int (low_step8 n b), val_int (down_step z y HST.out.2.2.2), rfl⟩
                · obtain rfl : y = 8 := by omega
                  obtain ⟨hdx, hA, hAm, hby, hlp⟩ := AS.out
                  have hps := refMix_size A pl.toArray (136 * q) x
                  have hcol := refMix_succ A pl.toArray (136 * q) x
                  have hMm := refMix_small pl.toArray (136 * q) hAm x
                  rw [hfr] at hcol
                  have hnl := refLow_lt pl.toArray fr 8
                  obtain ⟨n, hn⟩ : ∃ n, refLow pl.toArray fr 8 = n := ⟨_, rfl⟩
                  rw [hn] at hcol hnl ⊢
                  obtain ⟨c1, f1⟩ := hdx.p.a (5 * (x % 5) + x / 5) (by omega)
                  have hxor := u64_xor_nat _ _ (hMm (5 * (x % 5) + x / 5)) hnl
                  obtain ⟨u, hu⟩ : ∃ u, (refMix A pl.toArray (136 * q) x)[5 * (x % 5) + x / 5]! = u := ⟨_, rfl⟩
                  rw [hu] at c1 hcol hxor
                  rw [show 0 + (5 * (x % 5) + x / 5) = x % 5 * 5 + x / 5 by omega] at c1 f1
                  have AS2 : Aside (Dg w wr bg bp pl.toArray (refMix A pl.toArray (136 * q) x) ∧ refMix A pl.toArray (136 * q) (x + 1) = (refMix A pl.toArray (136 * q) x).set! (5 * (x % 5) + x / 5) (u ^^^ n) ∧ bits .xor .u64 (u : Int) (n : Int) = ((u ^^^ n : Nat) : Int) ∧ (refMix A pl.toArray (136 * q) x).size = 25) := ⟨hdx, hcol, hxor, by omega⟩
                  clear hdx hA hAm hby hlp hps hcol hMm hnl hn hxor hu hfr hfm hfi hlty hy
                  obtain ⟨a1, a2, a3, b1, b2, b3, d1, d2, d3⟩ := mix_facts x hltx
                  go_wp2
                  go_region
                  clear a1 a2 a3 b1 b2 b3 d1 d2 d3 c1 f1
                  go_wp2
                  obtain ⟨hdx, hcol, hxor, hps⟩ := AS2.out
                  go_roundg (17 - (x + 1))
                  case measure => omega
                  case rel =>
                    refine ⟨x + 1, by omega, rfl, by go_num, ?_⟩
                    rw [hcol]
                    exact (hdx.setA (by omega) (by omega) hps (val_int hxor)).drew
            · obtain rfl : x = 17 := by omega
              obtain ⟨M, hM⟩ : ∃ M, refMix A pl.toArray (136 * q) 17 = M := ⟨_, rfl⟩
              have hMs : M.size = 25 := by rw [← hM, refMix_size]; exact hA
              have hMm : Small M := by rw [← hM]; exact refMix_small _ _ hAm 17
              have hdm : Dg w wr bg bp pl.toArray M := by rw [← hM]; exact hdx
              have HM : Hid (∀ k, k = 17 → refMix A pl.toArray (136 * q) k = M) := fun k hk => by subst hk; exact hM
              have AS : Aside (Dg w wr bg bp pl.toArray M ∧ M.size = 25 ∧ Small M ∧ Bytes pl.toArray ∧ pl.length = m + 1) := ⟨hdm, hMs, hMm, hby, hlp⟩
              clear hdx hA hAm hby hlp hM hMs hMm hdm hltx hx
              go_wp2
              obtain ⟨hdm, hMs, hMm, hby, hlp⟩ := AS.out
              go_loopg [9] 24 (fun g i wr => ∃ r : Nat, r ≤ 24 ∧ g = 24 - r ∧ i = .int .i64 (r : Int) ∧ Dg w wr bg bp pl.toArray (roundsAt M r))
              case atStart => exact ⟨0, by omega, rfl, rfl, hdm⟩
              case round =>
                obtain ⟨r, hr, rfl, rfl, hdr⟩ := hrel
                clear hdm AS
                by_cases hltr : r < 24
                · have hRs := (roundsAt_size M r).trans hMs
                  have hRm := roundsAt_small hMm r
                  have hnx : roundsAt M (r + 1) = roundF (roundsAt M r) r := rfl
                  rw [← refRound_eq _ hRs hRm] at hnx
                  obtain ⟨R, hR⟩ : ∃ R, roundsAt M r = R := ⟨_, rfl⟩
                  rw [hR] at hRs hRm hnx hdr
                  have hF : (refRound R turnsT keysT r).size = 25 := by rw [refRound_eq R hRs hRm, roundF_size]; exact hRs
                  have hcall := fun W => round_any R turnsT keysT r W hRs rfl rfl hRm turnsT_lt keysT_lt hltr
                  obtain ⟨F, hFe⟩ : ∃ F, refRound R turnsT keysT r = F := ⟨_, rfl⟩
                  rw [hFe] at hnx hF hcall
                  have hrg := hdr.p.range hRs rfl
                  have hz1 : (Tryz.prog.info? 279).map (·.size) = some (spCells R turnsT keysT).length := by rw [size125, spCells_length hRs rfl rfl]
                  have hz2 : (Tryz.prog.info? 279).map (·.size) = some (spCells F turnsT keysT).toArray.size := by rw [size125]; simp [sp74 hF]
                  have hone := all_oneCell_toArray (oneCell_sp F turnsT keysT)
                  have hstore : ∀ W, Below wr.heap.size wr W → W.there bp 0 (spCells F turnsT keysT).toArray.size ∧ Dg w (W.setCells bp 0 (spCells F turnsT keysT)) bg bp pl.toArray F := fun W hW =>
                    ⟨by have := (hdr.call hW).there hRs; simpa [sp74 hF] using this, (hdr.call hW).setAll hRs hF⟩
                  obtain ⟨cs1, hcs1⟩ : ∃ cs, spCells R turnsT keysT = cs := ⟨_, rfl⟩
                  obtain ⟨cs2, hcs2⟩ : ∃ cs, spCells F turnsT keysT = cs := ⟨_, rfl⟩
                  rw [hcs1] at hrg hz1 hcall
                  rw [hcs2] at hz2 hone hcall hstore
                  have HC : Hid (∀ W, Calls Tryz.prog 164 #[.agg cs1.toArray, .int .i64 (r : Int)] W fun e W' => e = .returned (.agg cs2.toArray) ∧ Below W.heap.size W W') := hcall
                  have HS2 : Hid (∀ W, Below wr.heap.size wr W → W.there bp 0 cs2.toArray.size ∧ Dg w (W.setCells bp 0 cs2) bg bp pl.toArray F) := hstore
                  have AS : Aside (M.size = 25 ∧ Small M ∧ Bytes pl.toArray ∧ pl.length = m + 1 ∧ roundsAt M (r + 1) = F) := ⟨hMs, hMm, hby, hlp, hnx⟩
                  clear hdr hMs hMm hby hlp hRs hRm hnx hR hF hFe hcall hstore hcs1 hcs2
                  go_wp2_with (refine wpList_load_mid rfl 279 _ rfl bp 0 rfl cs1 _ hrg Tryz.underlying279 rfl hz1 ?_)
                  refine (HC.out _).mono ?_
                  rintro e w6 ⟨rfl, hb6⟩
                  have hth6 := (HS2.out w6 hb6).1
                  have A6 : Aside (Dg w (w6.setCells bp 0 cs2) bg bp pl.toArray F) := (HS2.out w6 hb6).2
                  clear hb6 hrg
                  go_wp2_with (refine wpList_store_mid rfl 279 _ _ rfl bp 0 cs2.toArray rfl rfl hth6 hz2 hone ?_)
                  clear hth6 hz1 hz2 hone
                  obtain ⟨hMs, hMm, hby, hlp, hnx⟩ := AS.out
                  go_roundg (24 - (r + 1))
                  case measure => omega
                  case rel => exact ⟨r + 1, by omega, rfl, by go_num, by rw [hnx]; exact A6.out⟩
                · obtain rfl : r = 24 := by omega
                  have hnx := HN.out (q + 1) 17 24 rfl rfl rfl
                  rw [HM.out 17 rfl] at hnx
                  have hdn : Dg w wr bg bp pl.toArray (lanesAt pl (q + 1)) := by rw [hnx]; exact hdr
                  obtain ⟨An, hAn⟩ : ∃ An, lanesAt pl (q + 1) = An := ⟨_, rfl⟩
                  rw [hAn] at hdn
                  have AS : Aside (Dg w wr bg bp pl.toArray An ∧ lanesAt pl (q + 1) = An) := ⟨hdn, hAn⟩
                  have j6 : wrap64 (136 * (q : Int) + 136) = 136 * (q : Int) + 136 := at_fits q m HQ.out hlt HS.out.2.1
                  clear hdr hMs hMm hby hlp hnx hdn hAn hltr hr HN HM
                  go_wp2
                  obtain ⟨hdn, hAn⟩ := AS.out
                  go_roundg (Q - (q + 1))
                  case measure => omega
                  case rel => exact ⟨q + 1, by omega, rfl, val_int (by omega), by rw [hAn]; exact hdn⟩
        · obtain rfl : q = Q := by omega
          have hLs := lanesAt_size pl hby q
          have hLm := lanesAt_small pl hby q
          have hDg : digF s = sqzAt (lanesAt pl q) 32 := by
            rw [digF_ref, HL.out (), HP.out (), blocks_count l.length m G q HQ.out (by rw [HS.out.2.2.1]; exact HMG.out) (by rw [HS.out.2.2.1]; exact HG.out)]
          obtain ⟨L, hL⟩ : ∃ L, lanesAt pl q = L := ⟨_, rfl⟩
          rw [hL] at hdg hLs hLm hDg
          have HD : Hid (∀ k, k = 32 → digF s = sqzAt L k) := fun k hk => by subst hk; exact hDg
          have t1 : ((m : Int) + 1) ≤ (136 * (q : Int)) := by have := HQ.out; omega
          have ot0 : Ot w (wr.alloc (.cells Zh 34)) bp wr.heap.size L (sqzAt L 0) :=
            ⟨hdg.fr.below.alloc (by have := hdg.fr.size; omega) _, World.there_alloc hdg.fr.th _, hdg.p.a.alloc hdg.b3 _, row_zeros wr _ Zh 32 (by kernel_rfl), Nat.lt_trans hdg.b1 hdg.b2, hdg.b3, by simp⟩
          have AS : Aside (Ot w (wr.alloc (.cells Zh 34)) bp wr.heap.size L (sqzAt L 0) ∧ L.size = 25 ∧ Small L) := ⟨ot0, hLs, hLm⟩
          clear hdg hLs hLm hDg hL ot0 hby hlp
          go_wp2
          obtain ⟨ot0, hLs, hLm⟩ := AS.out
          obtain ⟨bo, hbo⟩ : ∃ bo, wr.heap.size = bo := ⟨_, rfl⟩
          rw [hbo] at ot0 ⊢
          generalize hw7 : wr.alloc (.cells _ 34) = w7
          have ot1 : Ot w w7 bp bo L (sqzAt L 0) := by rw [← hw7]; exact ot0
          clear ot0 hw7 AS hbo t1 HL HP HQ HG HS HMG
          go_loopg [11] 4 (fun g i wr => ∃ x : Nat, x ≤ 4 ∧ g = 4 - x ∧ i = .int .i64 (x : Int) ∧ Ot w wr bp bo L (sqzAt L (8 * x)))
          case atStart => exact ⟨0, by omega, rfl, rfl, ot1⟩
          case round =>
            obtain ⟨x, hx, rfl, rfl, hot⟩ := hrel
            clear ot1
            by_cases hltx : x < 4
            · obtain ⟨c0, f0⟩ := hot.a (5 * x) (by omega)
              have hu8 := hLm (5 * x)
              obtain ⟨u, hu⟩ : ∃ u, L[5 * x]! = u := ⟨_, rfl⟩
              rw [hu] at c0 hu8
              rw [show 0 + 5 * x = x * 5 by omega] at c0
              have HU : Hid (L[5 * x]! = u ∧ u < 18446744073709551616) := ⟨hu, hu8⟩
              have AS : Aside (Ot w wr bp bo L (sqzAt L (8 * x)) ∧ L.size = 25 ∧ Small L) := ⟨hot, hLs, hLm⟩
              clear hot hLs hLm hu hu8 f0
              go_wp2
              obtain ⟨hot, hLs, hLm⟩ := AS.out
              clear c0
              go_loopg [12, 13] 8 (fun g n k wr => ∃ y : Nat, y ≤ 8 ∧ g = 8 - y ∧ n = .int .u64 ((u / 256 ^ y : Nat) : Int) ∧ k = .int .i64 (y : Int) ∧ Ot w wr bp bo L (sqzAt L (8 * x + y)))
              case atStart => exact ⟨0, by omega, rfl, by simp, rfl, hot⟩
              case round =>
                obtain ⟨y, hy, rfl, rfl, rfl, hoy⟩ := hrel
                clear hot AS
                by_cases hlty : y < 8
                · obtain ⟨c1, f1⟩ := hoy.o (8 * x + y) (by rw [sqzAt_size]; omega)
                  rw [Nat.zero_add] at c1 f1
                  have hst := sqz_step L x y u HU.out.1 hlty
                  have hnn : u / 256 ^ (y + 1) = u / 256 ^ y / 256 := by rw [Nat.pow_succ, Nat.div_div_eq_div_mul]
                  have hnu : u / 256 ^ y < 18446744073709551616 := Nat.lt_of_le_of_lt (Nat.div_le_self _ _) HU.out.2
                  obtain ⟨n, hn⟩ : ∃ n, u / 256 ^ y = n := ⟨_, rfl⟩
                  rw [hn] at hst hnn hnu ⊢
                  have HST : Hid (sqzAt L (8 * x + (y + 1)) = (sqzAt L (8 * x + y)).set! (8 * x + y) (n % 256) ∧ u / 256 ^ (y + 1) = n / 256 ∧ n < 18446744073709551616) := ⟨hst, hnn, hnu⟩
                  have AS : Aside (Ot w wr bp bo L (sqzAt L (8 * x + y)) ∧ L.size = 25 ∧ Small L) := ⟨hoy, hLs, hLm⟩
                  clear hoy hLs hLm hst hnn hnu hn
                  obtain ⟨j1, j2, j3, j4⟩ := out_facts x y hltx hlty
                  go_wp2
                  clear j1 j2 j3 j4 c1 f1
                  obtain ⟨hoy, hLs, hLm⟩ := AS.out
                  go_roundg (8 - (y + 1))
                  case measure => omega
                  case rel =>
                    refine ⟨y + 1, by omega, rfl, ?_, by go_num, ?_⟩
                    · rw [HST.out.2.1]
                      exact val_int (div_step n HST.out.2.2)
                    · rw [HST.out.1]
                      exact hoy.set (by omega) (by rw [sqzAt_size]; omega) (val_int (byte_step n))
                · obtain rfl : y = 8 := by omega
                  have hoz : Ot w wr bp bo L (sqzAt L (8 * (x + 1))) := by rw [show 8 * (x + 1) = 8 * x + 8 by omega]; exact hoy
                  obtain ⟨D, hD⟩ : ∃ D, sqzAt L (8 * (x + 1)) = D := ⟨_, rfl⟩
                  rw [hD] at hoz
                  obtain ⟨n, hn⟩ : ∃ n, u / 256 ^ 8 = n := ⟨_, rfl⟩
                  rw [hn]
                  have AS : Aside (Ot w wr bp bo L D ∧ sqzAt L (8 * (x + 1)) = D ∧ L.size = 25 ∧ Small L) := ⟨hoz, hD, hLs, hLm⟩
                  clear hoy hoz hD hLs hLm hn hlty hy HU
                  go_wp2
                  obtain ⟨hoz, hD, hLs, hLm⟩ := AS.out
                  go_roundg (4 - (x + 1))
                  case measure => omega
                  case rel => exact ⟨x + 1, by omega, rfl, by go_num, by rw [hD]; exact hoz⟩
            · obtain rfl : x = 4 := by omega
              have hDs := sqzAt_size L 32
              have hoz : Ot w wr bp bo L (sqzAt L 32) := hot
              obtain ⟨D, hD⟩ : ∃ D, sqzAt L 32 = D := ⟨_, rfl⟩
              rw [hD] at hoz hDs
              have HD2 : Hid (∀ u : Unit, digF s = D) := fun _ => (HD.out 32 rfl).trans hD
              obtain ⟨hz1, hz2, hth', hth2⟩ := hash_cells hDs hoz.th
              have hrg := hoz.o.range
              have hone := all_oneCell_toArray (oneCell_enc D .u8)
              have A3 : Aside (Below w.heap.size w wr ∧ wr.there w.heap.size 0 (D.toList.map encB).length) := ⟨hoz.below, hth2⟩
              clear hot hoz hD hLs hLm hltx hx HD hth2 hDs
              go_wp2_with (first
                | (refine wpList_load_mid rfl 34 _ rfl bo 0 rfl (D.toList.map encB) _ hrg Tryz.underlying34 rfl hz1 ?_)
                | (refine wpList_store_mid rfl 34 _ _ rfl w.heap.size 0 (D.toList.map encB).toArray rfl rfl hth' hz2 hone ?_))
              obtain ⟨hB3, hth2⟩ := A3.out
              refine bodyPost_ret (v := .agg (D.toList.map encB).toArray) (results_cell1 Tryz.results109 _ _ _ w.heap.size 0 rfl (run_loadVar_mid _ _ _ 34 _ _ (World.rangeAt_setCells_same _ _ _ _ hth2) Tryz.underlying34 rfl hz1)) rfl ⟨?_, below_setCells hB3 (Nat.le_refl _) _ _⟩
              rw [HD2.out ()]
end Go.Proofs.YtjiikjpnlgogfaaGreatDoor
