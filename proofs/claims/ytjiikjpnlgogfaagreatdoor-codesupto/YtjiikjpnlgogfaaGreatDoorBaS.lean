/-
  Bare of package item, told anew: the rows of what it makes lie apart.
  Decode of package twigs, told anew: the rows of what it gives lie apart.
  Decode of both packages, told as one: an item, a fault.
-/
import Derived.Test.YtjiikjpnlgogfaaGreatDoorRawG
import Derived.Test.YtjiikjpnlgogfaaGreatDoorAccH
import Derived.Test.YtjiikjpnlgogfaaGreatDoorEndG
import Derived.Test.YtjiikjpnlgogfaaGreatDoorRdC
namespace Go.Proofs.YtjiikjpnlgogfaaGreatDoor
open Go.RowKit

/-- Made bare so far: the first k. -/
structure BHalfS (d g : Nat) (W0 : World) (B : Nat) (l : Bool) (tx : ByteArray) (rs : List Raw) (k : Nat) (wr : World) (v : Value) (qs : List (El × Raw)) (iv : Nat → Nat × Nat) : Prop where
  lo : W0.heap.size ≤ g
  hib : g < B
  hi : B ≤ wr.heap.size
  below : Below W0.heap.size W0 wr
  free : ∀ j, j < 3 → wr.frozen? ⟨g, j, none⟩ = false
  c0 : wr.cell? ⟨g, 0, none⟩ = some (.bool l)
  c1 : wr.cell? ⟨g, 1, none⟩ = some (.string tx)
  c2 : wr.cell? ⟨g, 2, none⟩ = some v
  half : SHalf d B wr v qs iv
  len : qs.length = k
  codes : qs.map (·.2) = rs.take k

theorem BHalfS.kept {d g : Nat} {W0 : World} {B : Nat} {l : Bool} {tx : ByteArray} {rs : List Raw} {k : Nat} {wr w1 w2 : World} {v : Value} {qs : List (El × Raw)} {iv : Nat → Nat × Nat} {o1 o2 : Obj} (h : BHalfS d g W0 B l tx rs k wr v qs iv) (hg : (w1.alloc o2).grownBy w2 v.ownBlock) (hb1 : Below (wr.alloc o1).heap.size (wr.alloc o1) w1) {b : Nat} (hb : b < B) : w2.heap[b]? = wr.heap[b]? := by
  have h1 := h.hi
  have h2 := hb1.size
  rw [World.size_alloc] at h2
  exact (hg.block b (by simp; omega) (fun e => by have := (h.half.row.own.block b e.symm).1; omega)).trans ((Below.heap_alloc _ _ _ (by omega)).trans ((hb1.block b (by simp; omega)).trans (Below.heap_alloc _ _ _ (by omega))))

theorem bareS_kept {d g : Nat} {W0 : World} {B : Nat} {l : Bool} {tx : ByteArray} {rs : List Raw} {k : Nat} {wr w1 w2 : World} {v : Value} {qs : List (El × Raw)} {iv : Nat → Nat × Nat} {o1 o2 : Obj} (h : BHalfS d g W0 B l tx rs k wr v qs iv) (hg : (w1.alloc o2).grownBy w2 v.ownBlock) (hb1 : Below (wr.alloc o1).heap.size (wr.alloc o1) w1) :
    w2.cell? ⟨g, 2, none⟩ = some v ∧ w2.frozen? ⟨g, 2, none⟩ = false ∧ g < w2.heap.size := by
  have h1 := h.hi
  have h0 := h.hib
  have h2 := hb1.size
  have h3 := hg.size
  rw [World.size_alloc] at h2 h3
  have e := h.kept hg hb1 h.hib
  exact ⟨(World.cell?_of_block e).trans h.c2, (World.frozen?_of_block e).trans (h.free 2 (by omega)), by omega⟩

theorem bareS_step {d g : Nat} {W0 : World} {B : Nat} {l : Bool} {tx : ByteArray} {rs : List Raw} {k : Nat} {wr w1 w2 : World} {v v2 : Value} {qs : List (El × Raw)} {iv : Nat → Nat × Nat} {o1 o2 : Obj} {e : El} {c : Raw} (h : BHalfS d g W0 B l tx rs k wr v qs iv ∧ rs[k]? = some c)
    (hO2 : OwnC w2 B 3 v2 (k + 1) ((qs.flatMap fun q => encI q.1) ++ encI e)) (hg : (w1.alloc o2).grownBy w2 v.ownBlock) (hf : ∀ b, v2.ownBlock = some b → v.ownBlock = some b ∨ (w1.alloc o2).heap.size ≤ b) (hP : (∀ k, v.ownBlock = some k → Plain (w1.alloc o2) k) → ∀ b, v2.ownBlock = some b → Plain w2 b)
    (hb1 : Below (wr.alloc o1).heap.size (wr.alloc o1) w1) (hT : TreeS d w1 (wr.alloc o1).heap.size w1.heap.size e c) :
    ∃ p3 m3 c3, v2 = .slice p3 m3 c3 ∧ ∃ iv', BHalfS d g W0 B l tx rs (k + 1) (w2.setCell ⟨g, 2, none⟩ (.slice p3 m3 c3)) (.slice p3 m3 c3) (qs ++ [(e, c)]) iv' := by
  obtain ⟨h, hk⟩ := h
  obtain ⟨p3, m3, c3, rfl⟩ := hO2.shape
  have hM := SHalf.more h.half h.hi ((Below.refl _ _).alloc (Nat.le_refl _) o1) hb1 hT ((Below.refl _ _).alloc (Nat.le_refl _) o2) (by rw [h.len]; exact hO2) hg hf hP
  have hs0 := h.lo
  have hs1 := h.hib
  have hs2 := h.hi
  have hs3 := hb1.size
  have hs4 := hg.size
  rw [World.size_alloc] at hs3 hs4
  have hgb := h.kept hg hb1 h.hib
  have hset : ∀ b, b ≠ g → (w2.setCell ⟨g, 2, none⟩ (.slice p3 m3 c3)).heap[b]? = w2.heap[b]? := fun b hb => Below.heap_setCell _ _ _ _ hb
  have hcell : ∀ j u, wr.cell? ⟨g, j, none⟩ = some u → w2.cell? ⟨g, j, none⟩ = some u := fun j u hu => (World.cell?_of_block hgb).trans hu
  refine ⟨p3, m3, c3, rfl, _, hs0, hs1, by simp; omega, ?_, fun j hj => ?_, (World.cell?_setCell_other _ _ _ _ (by simp)).trans (hcell 0 _ h.c0), (World.cell?_setCell_other _ _ _ _ (by simp)).trans (hcell 1 _ h.c1), World.cell?_setCell_same _ _ _ (hcell 2 _ h.c2), hM.keep (by simp) (fun b hb _ => hset b (by omega)), by simp [h.len], ?_⟩
  · refine Below.setCell ?_ (by simp only; omega) _
    have hB1 : Below W0.heap.size W0 w1 := (h.below.alloc (by omega) o1).trans (hb1.mono (by simp; omega))
    exact (hB1.alloc (by omega) o2).trans ⟨hg.os, hg.tape, hg.output, hg.size, fun b hb => hg.block b (by simp; omega) (fun e => by have := (h.half.row.own.block b e.symm).1; omega)⟩
  · rw [World.frozen?_setCell, World.frozen?_of_block hgb]
    exact h.free j hj
  · have hkl : k < rs.length := (List.getElem?_eq_some_iff.1 hk).1
    rw [List.map_append, h.codes, ← List.take_append_getElem hkl]
    simp [(List.getElem?_eq_some_iff.1 hk).2]

theorem grownS_cell {d g : Nat} {W0 : World} {B : Nat} {l : Bool} {tx : ByteArray} {rs : List Raw} {k : Nat} {wr w1 w2 : World} {v : Value} {qs : List (El × Raw)} {iv : Nat → Nat × Nat} {o2 : Obj} (h : BHalfS d g W0 B l tx rs k wr v qs iv) (hg : (w1.alloc o2).grownBy w2 v.ownBlock) (hs : wr.heap.size < w1.heap.size) {j : Nat} {u : Value} (hu : w1.cell? ⟨wr.heap.size, j, none⟩ = some u) : w2.cell? ⟨wr.heap.size, j, none⟩ = some u :=
  (World.cell?_of_block ((hg.block wr.heap.size (by simp; omega) (fun e => by have := (h.half.row.own.block wr.heap.size e.symm).2; omega)).trans (Below.heap_alloc _ _ _ hs))).trans hu

theorem bareS_out {d g : Nat} {w W0 : World} {B : Nat} {l : Bool} {tx : ByteArray} {rs : List Raw} {k : Nat} {wr : World} {v : Value} {qs : List (El × Raw)} {iv : Nat → Nat × Nat} {cs : Array Value} {t u : TypeId} (h : BHalfS d g W0 B l tx rs k wr v qs iv) (hZ : W0.heap.size = w.heap.size + 2 ∧ Below w.heap.size w W0) (hW : W0 = (w.alloc (.cells cs t)).alloc (.cells #[.bool false, .string ⟨#[]⟩, .slice none 0 0] u)) :
    (wr.cell? ⟨w.heap.size + 1, 0, none⟩ = some (.bool false) ∧ wr.frozen? ⟨w.heap.size + 1, 0, none⟩ = false) ∧ (wr.cell? ⟨w.heap.size + 1, 1, none⟩ = some (.string ⟨#[]⟩) ∧ wr.frozen? ⟨w.heap.size + 1, 1, none⟩ = false) ∧ (wr.cell? ⟨w.heap.size + 1, 2, none⟩ = some (.slice none 0 0) ∧ wr.frozen? ⟨w.heap.size + 1, 2, none⟩ = false) ∧ ¬ w.heap.size + 1 = g := by
  have hb := h.below
  have hlo := h.lo
  have hz := hZ.1
  rw [hW] at hb
  have hs : w.heap.size + 1 = (w.alloc (.cells cs t)).heap.size := by simp
  rw [hs]
  exact ⟨newCell hb 0 rfl, newCell hb 1 rfl, newCell hb 2 rfl, by rw [← hs]; omega⟩

theorem bareS_end {d g : Nat} {w W0 : World} {B : Nat} {l : Bool} {tx : ByteArray} {rs : List Raw} {k : Nat} {wr : World} {qs : List (El × Raw)} {iv : Nat → Nat × Nat} {p0 : Option Addr} {m0 c0 : Nat} (h : BHalfS d g W0 B l tx rs k wr (.slice p0 m0 c0) qs iv) (hk : k = rs.length) (hZ : W0.heap.size = w.heap.size + 2 ∧ Below w.heap.size w W0) {a b c : Value} :
    MadeSaid (d + 1) (.mk l tx rs) w (.returned (valI ⟨0, 0, l, tx, .slice p0 m0 c0⟩)) (((wr.setCell ⟨w.heap.size + 1, 0, none⟩ a).setCell ⟨w.heap.size + 1, 1, none⟩ b).setCell ⟨w.heap.size + 1, 2, none⟩ c) := by
  subst hk
  have hz := hZ.1
  have h1 := h.lo
  have h2 := h.hib
  have h3 := h.hi
  have hB : Below w.heap.size w wr := hZ.2.trans (h.below.mono (by omega))
  refine ⟨((hB.setCell (by simp only; omega) _).setCell (by simp only; omega) _).setCell (by simp only; omega) _, l, tx, p0, m0, c0, rfl, ?_⟩
  have hc := h.codes
  rw [List.take_of_length_le (Nat.le_refl _)] at hc
  have := (h.half.keep (w' := ((wr.setCell ⟨w.heap.size + 1, 0, none⟩ a).setCell ⟨w.heap.size + 1, 1, none⟩ b).setCell ⟨w.heap.size + 1, 2, none⟩ c) (by simp) (fun b' hb' _ => by
    rw [Below.heap_setCell _ _ _ _ (by simp only; omega), Below.heap_setCell _ _ _ _ (by simp only; omega), Below.heap_setCell _ _ _ _ (by simp only; omega)])).done (l := l) (tx := tx) (Nat.le_refl _)
  rw [hc] at this
  exact this.widen (by omega) (Nat.le_refl _)

set_option maxRecDepth 100000 in
set_option maxHeartbeats 3200000 in
theorem bareS_body (d : Nat) (fr en : Nat) (l : Bool) (tx : ByteArray) (p : Option Addr) (m c : Nat) (ps : List (El × It)) (F : Nat → Prop) (w : World) (htx : tx.size ≤ 1048576) (hm : m = ps.length) (hm2 : m ≤ 2048)
    (hrow : RowAt w F (.slice p m c) ps.length (ps.flatMap fun q => encP q.1)) (hsub : ∀ q ∈ ps, ∃ p m c, q.1.sub = .slice p m c)
    (hN : ∀ q ∈ ps, ∀ W, Below w.heap.size w W → Calls Tryz.prog 89 #[valP q.1] W (MadeSaid d q.2.raw W)) :
    Calls Tryz.prog 89 #[valP ⟨fr, en, l, tx, .slice p m c⟩] w (MadeSaid (d + 1) (.mk l tx (ps.map (·.2.raw))) w) := by
  obtain ⟨i0, hi, hz0, hz1, hz2⟩ := info_parts infoI
  have HC : Hid (∀ W : World, Calls Tryz.prog 86 #[.string tx] W fun e w' => e = .returned (.string tx) ∧ Below W.heap.size W w') := fun W => clone_any tx W htx
  have HN : Hid (∀ q ∈ ps, ∀ W, Below w.heap.size w W → Calls Tryz.prog 89 #[valP q.1] W (MadeSaid d q.2.raw W)) := hN
  have HR : Hid (RowAt w F (.slice p m c) ps.length (ps.flatMap fun q => encP q.1)) := hrow
  have HS : Hid (∀ q ∈ ps, ∃ p m c, q.1.sub = .slice p m c) := hsub
  have HM : Hid (m = ps.length ∧ m ≤ 2048) := ⟨hm, hm2⟩
  obtain ⟨rs, hrs⟩ : ∃ rs, ps.map (·.2.raw) = rs := ⟨_, rfl⟩
  have HRs := Hid.hide hrs
  rw [hrs]
  clear htx hN hrow hsub hm hm2 hrs
  go_enter Tryz.func89, Tryz.ntmps89
  go_upto_region 1 with fail
  obtain ⟨W0, hW0⟩ : ∃ W0, W0 = (w.alloc (.cells #[.int .i64 (fr : Int), .int .i64 (en : Int), .bool l, .string tx, .slice p m c] 174)).alloc (.cells #[.bool false, .string ⟨#[]⟩, .slice none 0 0] 45) := ⟨_, rfl⟩
  have HW0 : Hid (W0 = (w.alloc (.cells #[.int .i64 (fr : Int), .int .i64 (en : Int), .bool l, .string tx, .slice p m c] 174)).alloc (.cells #[.bool false, .string ⟨#[]⟩, .slice none 0 0] 45)) := hW0
  clear hW0
  go_cut [3] (fun v wc => ∃ g, v = .pointer (some ⟨g, 0, none⟩) ∧ Made W0 g [.bool l, .string tx, .slice none 0 0] wc)
  case first =>
    go_region_held3 (fun w' => w'.cell? ⟨w.heap.size, 2, none⟩ = some (.bool l) ∧ w'.cell? ⟨w.heap.size, 3, none⟩ = some (.string tx)) (first | (go_keep; done) | (exact ⟨d2, d3⟩; done) | (refine ⟨?_, ?_⟩ <;> (go_simp; done)))
      (first | (go_at_call 86; refine (HC.out _).mono ?_; rintro e w1 ⟨rfl, hb1⟩; have b0 := fun h => hb1.cell (p := ⟨w.heap.size + 1 + 1, 0, none⟩) h; have b1 := fun h => hb1.cell (p := ⟨w.heap.size + 1 + 1, 1, none⟩) h; have b2 := fun h => hb1.cell (p := ⟨w.heap.size + 1 + 1, 2, none⟩) h; have k0 := fun h => hb1.frozen (p := ⟨w.heap.size + 1 + 1, 0, none⟩) h; have k1 := fun h => hb1.frozen (p := ⟨w.heap.size + 1 + 1, 1, none⟩) h; have k2 := fun h => hb1.frozen (p := ⟨w.heap.size + 1 + 1, 2, none⟩) h; have hs1 : w.heap.size + 1 < w1.heap.size := (by have := hb1.size; simp at this; omega); have hs0 : ¬ w.heap.size = w1.heap.size := (by omega); have d2 : w1.cell? ⟨w.heap.size, 2, none⟩ = some (.bool l) := (hb1.cell (p := ⟨w.heap.size, 2, none⟩) (by simp <;> omega)).trans (by (go_simp; done)); have d3 : w1.cell? ⟨w.heap.size, 3, none⟩ = some (.string tx) := (hb1.cell (p := ⟨w.heap.size, 3, none⟩) (by simp <;> omega)).trans (by (go_simp; done))))
    all_goals (try go_wp2)
    all_goals go_meet
    · refine ⟨_, rfl, ?_⟩
      rw [HW0.out]
      exact Made.fresh (Below.undrew hb1) [.bool l, .string tx, .slice none 0 0] _
    · refine ⟨_, rfl, ?_⟩
      have := Made.write (W0 := W0) (w1 := w1) (zs := #[.bool false, .string ⟨#[]⟩, .slice none 0 0]) (t := 45) (by rw [HW0.out]; exact Below.undrew hb1) [.bool l, .string tx, .slice none 0 0] rfl
      rw [HW0.out] at this ⊢
      simpa [World.setCells] using this
  case rest =>
    obtain ⟨g, rfl, hM⟩ := hcut
    have hM0 := HW0.out
    have d4 : wc.cell? ⟨w.heap.size, 4, none⟩ = some (.slice p m c) := by
      refine (hM.below.cell (p := ⟨w.heap.size, 4, none⟩) (by rw [hM0]; simp; omega)).trans ?_
      rw [hM0]
      simp
    obtain ⟨B, hBe⟩ : ∃ B, wc.heap.size = B := ⟨_, rfl⟩
    have A0 : Aside (BHalfS d g W0 B l tx rs 0 wc (.slice none 0 0) [] (fun _ => (0, 0))) := ⟨hM.lo, by rw [← hBe]; exact hM.hi, Nat.le_of_eq hBe.symm, hM.below, fun j hj => hM.free j (by simpa using hj), hM.cells 0 _ rfl, hM.cells 1 _ rfl, hM.cells 2 _ rfl, SHalf.nil _ _ _, rfl, by simp⟩
    have hsz : W0.heap.size = w.heap.size + 2 := by rw [hM0]; simp
    have HZ : Hid (W0.heap.size = w.heap.size + 2 ∧ Below w.heap.size w W0) := ⟨hsz, by rw [hM0]; exact ((Below.refl _ _).alloc (Nat.le_refl _) _).alloc (by simp) _⟩
    clear hM hM0 hsz hBe
    go_wp2
    go_loopg [15] m (fun gh i wr => ∃ k v qs iv, k ≤ m ∧ gh = m - k ∧ i = .int .i64 (k : Int) ∧ BHalfS d g W0 B l tx rs k wr v qs iv)
    case atStart => exact ⟨0, _, _, _, Nat.zero_le _, rfl, rfl, A0.out⟩
    case round =>
      obtain ⟨k, v, qs, iv, hk, rfl, rfl, hB⟩ := hrel
      by_cases hlt : k < m
      · have hki : (k : Int) < (m : Int) := by omega
        have hkp : k < ps.length := by have := HM.out; omega
        obtain ⟨gr, cap, er, hcap, hFg, hgs, hpl, hcells⟩ := HR.out.cells (size := 5) (fun _ => rfl) (by omega)
        have hq := List.getElem_mem hkp
        obtain ⟨q, hqe⟩ : ∃ q, ps[k] = q := ⟨_, rfl⟩
        obtain ⟨⟨fr', en', l', tx', sub'⟩, x'⟩ := q
        rw [hqe] at hq
        obtain ⟨p', m', c', hs'⟩ := HS.out _ hq
        simp only at hs'
        subst hs'
        have hrk := hcells k hkp
        rw [hqe] at hrk
        obtain ⟨rfl, _⟩ : p = some ⟨gr, 0, none⟩ ∧ True := by
          simp only [Value.slice.injEq] at er
          exact ⟨er.1, trivial⟩
        have hgr : gr < wr.heap.size ∧ wr.heap[gr]? = w.heap[gr]? := by
          have h1 := hB.below.size
          have h2 := HZ.out.1
          exact ⟨by omega, (hB.below.block gr (by omega)).trans (HZ.out.2.block gr hgs)⟩
        have r0 : wr.cell? ⟨gr, k * 5, none⟩ = some (.int .i64 (fr' : Int)) := (World.cell?_of_block hgr.2).trans (hrk 0 _ rfl)
        have r1 : wr.cell? ⟨gr, k * 5 + 1, none⟩ = some (.int .i64 (en' : Int)) := (World.cell?_of_block hgr.2).trans (hrk 1 _ rfl)
        have r2 : wr.cell? ⟨gr, k * 5 + 2, none⟩ = some (.bool l') := (World.cell?_of_block hgr.2).trans (hrk 2 _ rfl)
        have r3 : wr.cell? ⟨gr, k * 5 + 3, none⟩ = some (.string tx') := (World.cell?_of_block hgr.2).trans (hrk 3 _ rfl)
        have r4 : wr.cell? ⟨gr, k * 5 + 4, none⟩ = some (.slice p' m' c') := (World.cell?_of_block hgr.2).trans (hrk 4 _ rfl)
        obtain ⟨p0, m0, c0, rfl⟩ := hB.half.row.own.shape
        have t2 := hB.c2
        have hgw : g < wr.heap.size := Nat.lt_of_lt_of_le hB.hib hB.hi
        have hgn : ¬ g = wr.heap.size := by omega
        have HW : Hid (Below w.heap.size w wr ∧ B ≤ wr.heap.size) := by
          have h1 := hB.below
          have h2 := HZ.out
          exact ⟨h2.2.trans (h1.mono (by omega)), hB.hi⟩
        have HB : Hid (∀ W, Below wr.heap.size wr W → Calls Tryz.prog 89 #[.agg #[.int .i64 (fr' : Int), .int .i64 (en' : Int), .bool l', .string tx', .slice p' m' c']] W (MadeSaid d x'.raw W)) := fun W hW => HN.out _ hq W (Below.behind HW.out.1 hW)
        have AB : Aside (BHalfS d g W0 B l tx rs k wr (.slice p0 m0 c0) qs iv ∧ rs[k]? = some x'.raw) := ⟨hB, by rw [← HRs.out, List.getElem?_map, List.getElem?_eq_getElem hkp, hqe]; rfl⟩
        have HK : Hid (k + 1 ≤ 2048) := by have := HM.out; exact (by omega : k + 1 ≤ 2048)
        clear hB hrk er hcells hgr hpl hFg hqe hq
        go_wp2_with fail
        go_region_law
          (first
            | (go_simp; go_at_call 89; refine (HB.out _ ?_).mono ?_; exact ((Below.refl _ _).alloc (Nat.le_refl _) _).drew; rintro e w1 ⟨hb1, l2, tx2, p2, m2, c2, rfl, hT⟩; obtain ⟨y0, _⟩ := newCellD (g := wr.heap.size) hb1 rfl 0 (v := .int .i64 (fr' : Int)) rfl; obtain ⟨y1, _⟩ := newCellD (g := wr.heap.size) hb1 rfl 1 (v := .int .i64 (en' : Int)) rfl; obtain ⟨y2, _⟩ := newCellD (g := wr.heap.size) hb1 rfl 2 (v := .bool l') rfl; obtain ⟨y3, _⟩ := newCellD (g := wr.heap.size) hb1 rfl 3 (v := .string tx') rfl; obtain ⟨y4, _⟩ := newCellD (g := wr.heap.size) hb1 rfl 4 (v := .slice p' m' c') rfl; have HB1 : Hid (Below (wr.alloc (.cells #[.int .i64 (fr' : Int), .int .i64 (en' : Int), .bool l', .string tx', .slice p' m' c'] 174)).heap.size (wr.alloc (.cells #[.int .i64 (fr' : Int), .int .i64 (en' : Int), .bool l', .string tx', .slice p' m' c'] 174)) w1) := Below.undrew hb1; have HT : Hid (TreeS d w1 (wr.alloc (.cells #[.int .i64 (fr' : Int), .int .i64 (en' : Int), .bool l', .string tx', .slice p' m' c'] 174)).heap.size w1.heap.size ⟨0, 0, l2, tx2, .slice p2 m2 c2⟩ x'.raw) := hT; clear hb1 hT; have hs1 : wr.heap.size < w1.heap.size := (by have := HB1.out.size; simp at this; omega); have hs2 : g < w1.heap.size := (by omega); have hs3 : ¬ g = w1.heap.size := (by omega); have hs4 : ¬ wr.heap.size = w1.heap.size := (by omega); have t3 : w1.cell? ⟨g, 2, none⟩ = some (.slice p0 m0 c0) := (HB1.out.cell (p := ⟨g, 2, none⟩) (by simp; omega)).trans ((World.cell?_alloc_past _ _ _ hgw).trans t2); have HO : Hid (∀ o, OwnC (w1.alloc o) B 3 (.slice p0 m0 c0) k (qs.flatMap fun q => encI q.1)) := (fun o => (((AB.out.1.len ▸ AB.out.1.half.row.own).alloc _).below HB1.out).alloc o); have HNw : Hid ((w1.alloc (.cells #[.bool l2, .string tx2, .slice p2 m2 c2] 45)).rangeAt w1.heap.size 0 [.bool l2, .string tx2, .slice p2 m2 c2]) := rangeAt_new w1 [.bool l2, .string tx2, .slice p2 m2 c2] _; go_simp)
            | (refine step_append_ownp _ rfl (.tmp 20) (.tmp 23) 37 rfl 45 i0 zeroI 3 48 Tryz.underlying37 hi hz0 hz1 hz2 rfl (by decide) B (.slice p0 m0 c0) k _ (by simp [Act.eval]) (HO.out _) w1.heap.size 0 1 1 [.bool l2, .string tx2, .slice p2 m2 c2] (by simp [Act.eval]) rfl HNw.out (oneCell3 _ _ _ _ _) (by have := HK.out; unfold maxLen; omega) (by have := HK.out; omega) (by have := HW.out.2; simp; omega) ?_; intro v2 w2 hO2 hg2 hf2 hp2; have AM : Aside (∃ p3 m3 c3, v2 = .slice p3 m3 c3 ∧ ∃ iv', BHalfS d g W0 B l tx rs (k + 1) (w2.setCell ⟨g, 2, none⟩ (.slice p3 m3 c3)) (.slice p3 m3 c3) (qs ++ [(⟨0, 0, l2, tx2, .slice p2 m2 c2⟩, x'.raw)]) iv') := bareS_step AB.out hO2 hg2 hf2 hp2 HB1.out HT.out; have z0 := grownS_cell AB.out.1 hg2 hs1 y0; have z1 := grownS_cell AB.out.1 hg2 hs1 y1; have z2 := grownS_cell AB.out.1 hg2 hs1 y2; have z3 := grownS_cell AB.out.1 hg2 hs1 y3; have z4 := grownS_cell AB.out.1 hg2 hs1 y4; obtain ⟨t4, t5, t6⟩ := bareS_kept AB.out.1 hg2 HB1.out; clear hO2 hg2 hf2 hp2; obtain ⟨p3, m3, c3, rfl, hM3⟩ := AM.out; clear hM3))
        all_goals go_wp2
        all_goals
          go_roundg (m - (k + 1))
          case measure => omega
          case rel =>
            obtain ⟨p5, m5, c5, e5, iv5, hM5⟩ := AM.out
            cases e5
            refine ⟨k + 1, _, _, iv5, by omega, rfl, ?_, hM5⟩
            rw [wrap64_succ k (by have := HK.out; omega)]
      · have hki : (m : Int) ≤ (k : Int) := by omega
        obtain ⟨p0, m0, c0, rfl⟩ := hB.half.row.own.shape
        have t0 := hB.c0
        have t1 := hB.c1
        have t2 := hB.c2
        obtain ⟨⟨e0, f0⟩, ⟨e1, f1⟩, ⟨e2, f2⟩, hsl⟩ := bareS_out hB HZ.out HW0.out
        have AB : Aside (BHalfS d g W0 B l tx rs k wr (.slice p0 m0 c0) qs iv ∧ k = rs.length) := ⟨hB, by have := HM.out; rw [← HRs.out, List.length_map]; omega⟩
        clear hB hlt
        go_wp2
        refine bodyPost_ret (v := valI ⟨0, 0, l, tx, .slice p0 m0 c0⟩) (by simp [results, Tryz.results89, go_sem, e0, e1, e2]) rfl ?_
        exact bareS_end AB.out.1 AB.out.2 HZ.out

theorem textB_ofBytes (s : ByteArray) : textB (bytesOf s) = s := bytesOf_inj (bytesOf_textB (byte_lt s))

/-- Bare, of an item that was read. -/
theorem bareS_any : ∀ (d : Nat) (x : It) (e : El) (w : World) (F : Nat → Prop), Tree encP kP d w F e x → x.code.length ≤ 2048 → Calls Tryz.prog 89 #[valP e] w (MadeSaid (d + 1) x.raw w) := by
  have htext : ∀ (d : Nat) (x : It) (e : El) (w : World), IsText e ∧ kP.tx e x → x.code.length ≤ 2048 → Calls Tryz.prog 89 #[valP e] w (MadeSaid (d + 1) x.raw w) := by
    rintro d x ⟨fr, en, l, tx, sub⟩ w ⟨⟨h1, h2⟩, h3⟩ hx
    simp only at h1 h2
    subst h1 h2
    have h3 : x = .text fr en (bytesOf tx) := h3
    subst h3
    rw [It.code] at hx
    have := (textCode_pos (bytesOf tx)).2
    rw [bytesOf_length] at this
    have h := bareS_body d fr en false tx none 0 0 [] (fun _ => False) w (by omega) rfl (by omega) (.inl ⟨rfl, rfl, rfl⟩) (by simp) (by simp)
    rw [It.raw, textB_ofBytes]
    exact h
  intro d
  induction d with
  | zero => intro x e w F h hx; exact htext 0 x e w h hx
  | succ d ih =>
    intro x e w F h hx
    rcases h with h | ⟨h1, ps, h2, h3, h4⟩
    · exact htext (d + 1) x e w h hx
    · obtain ⟨fr, en, l, tx, sub⟩ := e
      simp only at h1
      subst h1
      obtain ⟨h4, h5⟩ : tx = textB [] ∧ x = .list fr en (ps.map (·.2)) := h4
      subst h4 h5
      rw [It.code] at hx
      have hle := listCode_le (codes (ps.map (·.2)))
      have hln := codes_length (ps.map (·.2))
      rw [List.length_map] at hln
      obtain ⟨p, m, c, hs, hm⟩ : ∃ p m c, sub = .slice p m c ∧ m = ps.length := by
        rcases h2 with ⟨h, h', _⟩ | ⟨g, cap, h, _⟩
        · exact ⟨_, _, _, h, h'.symm⟩
        · exact ⟨_, _, _, h, rfl⟩
      simp only at h2
      subst hs
      have h := bareS_body (d + 1) fr en true (textB []) p m c ps F w (by rw [textB_size]; simp) hm (by omega) h2 (fun q hq => (h3 q hq).sub) (fun q hq W hW => by
        have := codes_mem (List.mem_map_of_mem (f := (·.2)) hq)
        exact ih q.2 q.1 W F ((h3 q hq).below hW) (by omega))
      rw [It.raw, raws_map, List.map_map]
      exact h
end Go.Proofs.YtjiikjpnlgogfaaGreatDoor

namespace Go.Proofs.YtjiikjpnlgogfaaGreatDoor
open Go.RowKit

/-- What Decode answers: the item, its rows apart, or what is wrong. -/
def TDecS (s : ByteArray) (w : World) (e : Ending) (w' : World) : Prop :=
  Below w.heap.size w w' ∧ (∀ er, decF (bytesOf s) = .error er → e = .returned (.tuple #[zeroI, faultV er.num 0 0 er.at_])) ∧
    ∀ x, decF (bytesOf s) = .ok x → ∃ (l : Bool) (tx : ByteArray) (p : Option Addr) (m c : Nat), TreeS 7 w' w.heap.size w'.heap.size ⟨0, 0, l, tx, .slice p m c⟩ x.raw ∧ e = .returned (.tuple #[valI ⟨0, 0, l, tx, .slice p m c⟩, faultV 0 0 0 0])

set_option maxRecDepth 100000 in
set_option maxHeartbeats 3200000 in
theorem tdecS_any (s : ByteArray) (sent : Nat → Addr) (w : World) (hF : Faults w sent) (hT : typeAt w) :
    Calls Tryz.prog 52 #[.string s] w (TDecS s w) := by
  have HD : Hid (∀ W, Below w.heap.size w W → Calls Tryz.prog 88 #[.string s] W (DecSaid s sent W)) := fun W hW => dec_any s sent W (hF.below hW)
  have hlg : 12 < w.heap.size := World.block_lt_of_cell? w _ hT
  have HB := Hid.hide (fun W => bare_zero W)
  cases hd : decF (bytesOf s) with
  | error er =>
    obtain ⟨q1, q2, q3, q4, q5⟩ := decF_err (byte_lt s) hd
    obtain ⟨t, v, hv⟩ := er.shape sent
    have HT : Hid (∀ W, Below w.heap.size w W → Calls Tryz.prog 58 #[.iface t v] W fun e w' => e = .returned (faultV er.num 0 0 er.at_) ∧ Below W.heap.size W w') := fun W hW => by
      have := tell_any sent er q1 W (hF.below hW) ((hW.cell hlg).trans hT)
      rw [hv, q4, q5] at this
      exact this
    have HD2 : Hid (∀ W, Below w.heap.size w W → Calls Tryz.prog 88 #[.string s] W fun e w' => Below W.heap.size W w' ∧ e = .returned (.tuple #[zeroP, .iface t v])) := fun W hW => (HD.out W hW).mono fun e w' h => by
      obtain ⟨hb, h1, _⟩ := h
      obtain ⟨t', v', hv', he⟩ := h1 er hd
      rw [hv] at hv'
      cases hv'
      exact ⟨hb, he⟩
    have A : Aside (decF (bytesOf s) = .error er) := hd
    clear HD hv hF hT hlg hd q1 q2 q3 q4 q5
    go_enter Tryz.func52, Tryz.ntmps52
    go_wp2_with fail
    refine (HD2.out _ (((Below.refl _ _).alloc (Nat.le_refl _) _).alloc (by simp) _)).mono ?_
    rintro e w1 ⟨hb1, rfl⟩
    have B1 : Aside (Below w.heap.size w w1) := Below.behind (((Below.refl _ _).alloc (Nat.le_refl _) _).alloc (by simp) _) hb1
    have H1 : Aside (Held w1 w.heap.size [.bool false, .string ⟨#[]⟩, .slice none 0 0] ∧ Held w1 (w.heap.size + 1) [.int .i64 0, .int .i64 0, .int .i64 0, .int .i64 0]) := by
      refine ⟨((Held.fresh w [.bool false, .string ⟨#[]⟩, .slice none 0 0] _).alloc _).below hb1, ?_⟩
      have := (Held.fresh (w.alloc (.cells #[.bool false, .string ⟨#[]⟩, .slice none 0 0] 45)) [.int .i64 0, .int .i64 0, .int .i64 0, .int .i64 0] 66).below hb1
      simpa using this
    clear hb1
    go_wp2_with fail
    refine (HB.out _).mono ?_
    rintro e w2 ⟨rfl, hb2⟩
    have B2 : Aside (Below w.heap.size w w2) := B1.out.trans ((Below.up hb2).mono B1.out.size)
    have H2 : Aside (Held w2 w.heap.size [.bool false, .string ⟨#[]⟩, .slice none 0 0] ∧ Held w2 (w.heap.size + 1) [.int .i64 0, .int .i64 0, .int .i64 0, .int .i64 0]) := ⟨H1.out.1.below (Below.up hb2), H1.out.2.below (Below.up hb2)⟩
    clear hb2
    go_wp2_with fail
    refine (HT.out _ B2.out).mono ?_
    rintro e w3 ⟨rfl, hb3⟩
    have B3 : Aside (Below w.heap.size w w3) := Below.behind B2.out hb3
    obtain ⟨a0, f0⟩ := (H2.out.1.below hb3).2 0 _ rfl
    obtain ⟨a1, f1⟩ := (H2.out.1.below hb3).2 1 _ rfl
    obtain ⟨a2, f2⟩ := (H2.out.1.below hb3).2 2 _ rfl
    obtain ⟨b0, g0⟩ := (H2.out.2.below hb3).2 0 _ rfl
    obtain ⟨b1, g1⟩ := (H2.out.2.below hb3).2 1 _ rfl
    obtain ⟨b2, g2⟩ := (H2.out.2.below hb3).2 2 _ rfl
    obtain ⟨b3, g3⟩ := (H2.out.2.below hb3).2 3 _ rfl
    clear hb3
    go_wp2
    refine bodyPost_ret (v := .tuple #[zeroI, faultV er.num 0 0 er.at_]) (by simp [results, Tryz.results52, go_sem, a0, a1, a2, b0, b1, b2, b3]) rfl ?_
    refine ⟨?_, fun er' he => ?_, fun x he => ?_⟩
    · exact ((((((B3.out.setCell (Nat.le_refl _) _).setCell (Nat.le_refl _) _).setCell (Nat.le_refl _) _).setCell (by simp) _).setCell (by simp) _).setCell (by simp) _).setCell (by simp) _
    · rw [A.out] at he
      cases he
      rfl
    · rw [A.out] at he
      cases he
  | ok x =>
    obtain ⟨q1, q2, q3, q4⟩ := decF_ok (byte_lt s) hd
    have A : Aside (decF (bytesOf s) = .ok x ∧ x.code = bytesOf s) := ⟨hd, q4⟩
    have HBx : Hid (∀ (e : El) (W : World) (F : Nat → Prop), Tree encP kP 6 W F e x → Calls Tryz.prog 89 #[valP e] W (MadeSaid 7 x.raw W)) := fun e W F h => bareS_any 6 x e W F h (by rw [q4]; exact q1)
    clear hd hF hT hlg HB q1 q2 q3 q4
    go_enter Tryz.func52, Tryz.ntmps52
    go_wp2_with fail
    refine (HD.out _ (((Below.refl _ _).alloc (Nat.le_refl _) _).alloc (by simp) _)).mono ?_
    rintro e w1 ⟨hb1, _, hd2⟩
    obtain ⟨fr, en, l, tx, p, m, c, hTr, rfl⟩ := hd2 x A.out.1
    have B1 : Aside (Below w.heap.size w w1) := Below.behind (((Below.refl _ _).alloc (Nat.le_refl _) _).alloc (by simp) _) hb1
    have H1 : Aside (Held w1 w.heap.size [.bool false, .string ⟨#[]⟩, .slice none 0 0] ∧ Held w1 (w.heap.size + 1) [.int .i64 0, .int .i64 0, .int .i64 0, .int .i64 0]) := by
      refine ⟨((Held.fresh w [.bool false, .string ⟨#[]⟩, .slice none 0 0] _).alloc _).below hb1, ?_⟩
      have := (Held.fresh (w.alloc (.cells #[.bool false, .string ⟨#[]⟩, .slice none 0 0] 45)) [.int .i64 0, .int .i64 0, .int .i64 0, .int .i64 0] 66).below hb1
      simpa using this
    have T1 : Aside (Tree encP kP 6 w1 (fun _ => True) ⟨fr, en, l, tx, .slice p m c⟩ x) := Tree.keep (fun _ _ => trivial) (Nat.le_refl _) (fun _ _ _ => rfl) 6 hTr
    clear hb1 hd2 hTr
    go_wp2_with fail
    refine (HBx.out _ _ (fun _ => True) (T1.out.below ((Below.refl _ _).alloc (Nat.le_refl _) _))).mono ?_
    rintro e w2 ⟨hb2, l2, tx2, p2, m2, c2, rfl, hT2⟩
    have B2 : Aside (Below w.heap.size w w2) := B1.out.trans ((Below.up hb2).mono B1.out.size)
    have H2 : Aside (Held w2 w.heap.size [.bool false, .string ⟨#[]⟩, .slice none 0 0] ∧ Held w2 (w.heap.size + 1) [.int .i64 0, .int .i64 0, .int .i64 0, .int .i64 0]) := ⟨H1.out.1.below (Below.up hb2), H1.out.2.below (Below.up hb2)⟩
    have T2 : Aside (TreeS 7 w2 (w.heap.size + 2) w2.heap.size ⟨0, 0, l2, tx2, .slice p2 m2 c2⟩ x.raw) := hT2.widen (by have := H1.out.2.1; simp; omega) (Nat.le_refl _)
    clear hb2 hT2 T1
    go_wp2_with fail
    refine (tell_nil _).mono ?_
    rintro e w3 ⟨rfl, hb3⟩
    have B3 : Aside (Below w.heap.size w w3) := Below.behind B2.out hb3
    have T3 : Aside (TreeS 7 w3 (w.heap.size + 2) w3.heap.size ⟨0, 0, l2, tx2, .slice p2 m2 c2⟩ x.raw) := (T2.out.below hb3).widen (Nat.le_refl _) hb3.size
    obtain ⟨a0, f0⟩ := (H2.out.1.below hb3).2 0 _ rfl
    obtain ⟨a1, f1⟩ := (H2.out.1.below hb3).2 1 _ rfl
    obtain ⟨a2, f2⟩ := (H2.out.1.below hb3).2 2 _ rfl
    obtain ⟨b0, g0⟩ := (H2.out.2.below hb3).2 0 _ rfl
    obtain ⟨b1, g1⟩ := (H2.out.2.below hb3).2 1 _ rfl
    obtain ⟨b2, g2⟩ := (H2.out.2.below hb3).2 2 _ rfl
    obtain ⟨b3, g3⟩ := (H2.out.2.below hb3).2 3 _ rfl
    clear hb3
    go_wp2
    refine bodyPost_ret (v := .tuple #[valI ⟨0, 0, l2, tx2, .slice p2 m2 c2⟩, faultV 0 0 0 0]) (by simp [results, Tryz.results52, go_sem, a0, a1, a2, b0, b1, b2, b3]) rfl ?_
    refine ⟨?_, fun er' he => ?_, fun y he => ?_⟩
    · exact ((((((B3.out.setCell (Nat.le_refl _) _).setCell (Nat.le_refl _) _).setCell (Nat.le_refl _) _).setCell (by simp) _).setCell (by simp) _).setCell (by simp) _).setCell (by simp) _
    · rw [A.out.1] at he
      cases he
    · refine ⟨l2, tx2, p2, m2, c2, ?_, rfl⟩
      have := T3.out
      rw [A.out.1] at he
      cases he
      refine (TreeS.keep (by simp) this (fun k hk _ _ => ?_)).widen (by omega) (by simp)
      rw [Below.heap_setCell _ _ _ _ (by simp only; omega), Below.heap_setCell _ _ _ _ (by simp only; omega), Below.heap_setCell _ _ _ _ (by simp only; omega), Below.heap_setCell _ _ _ _ (by simp only; omega), Below.heap_setCell _ _ _ _ (by simp only; omega), Below.heap_setCell _ _ _ _ (by simp only; omega), Below.heap_setCell _ _ _ _ (by simp only; omega)]

end Go.Proofs.YtjiikjpnlgogfaaGreatDoor

namespace Go.Proofs.YtjiikjpnlgogfaaGreatDoor
open Go.RowKit

/-- What comes of bytes: the item (none: an empty text), the fault. -/
def decR (l : List Nat) : Raw := match decF l with
  | .ok x => x.raw
  | .error _ => .mk false ⟨#[]⟩ []
def decE (l : List Nat) : Nat × Nat := match decF l with
  | .ok _ => (0, 0)
  | .error er => (er.num, er.at_)
theorem decR_ok {l : List Nat} {x : It} (h : decF l = .ok x) : decR l = x.raw ∧ decE l = (0, 0) := by
  unfold decR decE
  rw [h]
  exact ⟨rfl, rfl⟩
theorem decR_bad {l : List Nat} {er : Er} (h : decF l = .error er) : decR l = .mk false ⟨#[]⟩ [] ∧ decE l = (er.num, er.at_) := by
  unfold decR decE
  rw [h]
  exact ⟨rfl, rfl⟩
mutual
theorem It.raw_size : ∀ x : It, x.raw.size ≤ 2 * x.code.length
  | .text _ _ t => by
    have h := textCode_pos t
    have e := textB_size t
    rw [It.raw, It.code, Raw.size, rsize, e]
    omega
  | .list _ _ l => by
    have h := raws_size l
    have h1 := listCode_pos (codes l)
    have h2 : (codes l).length + 1 ≤ (listCode (codes l)).length := by
      unfold listCode
      have := headB_pos 192 (codes l).length
      rw [List.length_append]
      omega
    have e := textB_size []
    rw [It.raw, It.code, Raw.size, e, List.length_nil]
    omega
theorem raws_size : ∀ l : List It, rsize (raws l) ≤ 2 * (codes l).length
  | [] => by simp [raws, rsize]
  | x :: l => by
    have h1 := x.raw_size
    have h2 := raws_size l
    rw [raws, rsize, codes, List.length_append]
    omega
end
theorem decR_size (l : List Nat) (hl : ∀ y ∈ l, y < 256) : (decR l).size ≤ 4096 := by
  cases h : decF l with
  | error er =>
    rw [(decR_bad h).1, Raw.size, rsize]
    exact (by decide : 1 + (⟨#[]⟩ : ByteArray).size + 0 ≤ 4096)
  | ok x =>
    obtain ⟨h1, _, _, h4⟩ := decF_ok hl h
    rw [(decR_ok h).1]
    have := x.raw_size
    rw [h4] at this
    omega

theorem RowAt.rowOff {w : World} {F : Nat → Prop} {v : Value} {n : Nat} {cs : List Value} (h : RowAt w F v n cs) : RowOff w v n cs := by
  rcases h with h | ⟨g, cap, rfl, _, _, _, _, h⟩
  · exact .inl ⟨⟨_, _, h.1⟩, h.2⟩
  · exact .inr ⟨g, 0, cap, rfl, h⟩
theorem Tree.rawR {enc : El → List Value} {w : World} {F : Nat → Prop} : ∀ {n : Nat} {e : El} {x : It}, Tree enc kP n w F e x → RTree enc (n + 1) w e x.raw := by
  have htext : ∀ {n : Nat} {e : El} {x : It}, IsText e ∧ kP.tx e x → RTree enc (n + 1) w e x.raw := by
    rintro n e x ⟨⟨h1, h2⟩, h3⟩
    have h3 : x = .text e.fr e.to (bytesOf e.text) := h3
    refine ⟨[], .inl ⟨⟨_, _, h2⟩, rfl, rfl⟩, by simp, ?_⟩
    rw [h3, It.raw, textB_ofBytes, h1]
    rfl
  intro n
  induction n with
  | zero => intro e x h; exact htext h
  | succ n ih =>
    intro e x h
    rcases h with h | ⟨h1, ps, h2, h3, h4⟩
    · exact htext h
    · obtain ⟨h4, h5⟩ : e.text = textB [] ∧ x = .list e.fr e.to (ps.map (·.2)) := h4
      refine ⟨ps.map (fun p => (p.1, p.2.raw)), ?_, fun p hp => ?_, ?_⟩
      · rw [List.length_map, List.flatMap_map]
        exact h2.rowOff
      · obtain ⟨q, hq, rfl⟩ := List.mem_map.1 hp
        exact ih (h3 q hq)
      · rw [h5, It.raw, h1, h4, raws_map, List.map_map, List.map_map]
        rfl

theorem tdecX (s : ByteArray) (sent : Nat → Addr) (w : World) (hF : Faults w sent) (hT : typeAt w) :
    Calls Tryz.prog 52 #[.string s] w fun e w' => Below w.heap.size w w' ∧ ∃ (l : Bool) (tx : ByteArray) (p : Option Addr) (m c : Nat), TreeS 7 w' w.heap.size w'.heap.size ⟨0, 0, l, tx, .slice p m c⟩ (decR (bytesOf s)) ∧ e = .returned (.tuple #[valI ⟨0, 0, l, tx, .slice p m c⟩, faultV (decE (bytesOf s)).1 0 0 (decE (bytesOf s)).2]) := by
  refine (tdecS_any s sent w hF hT).mono ?_
  rintro e w' ⟨hb, h1, h2⟩
  refine ⟨hb, ?_⟩
  cases h : decF (bytesOf s) with
  | error er =>
    obtain ⟨q1, q2⟩ := decR_bad h
    rw [q1, q2]
    refine ⟨false, ⟨#[]⟩, none, 0, 0, ⟨[], fun _ => (0, 0), ⟨OwnC.nil _ _ _, by simp [Value.ownBlock], by simp, by simp⟩, by simp, rfl⟩, h1 er h⟩
  | ok x =>
    obtain ⟨q1, q2⟩ := decR_ok h
    rw [q1, q2]
    exact h2 x h
theorem rdecX (s : ByteArray) (w : World) :
    Calls Tryz.prog 167 #[.string s] w fun e w' => Below w.heap.size w w' ∧ ∃ (fr en : Nat) (l : Bool) (tx : ByteArray) (p : Option Addr) (m c : Nat), RTree encR 7 w' ⟨fr, en, l, tx, .slice p m c⟩ (decR (bytesOf s)) ∧ e = .returned (.tuple #[valR ⟨fr, en, l, tx, .slice p m c⟩, faultV (decE (bytesOf s)).1 0 0 (decE (bytesOf s)).2]) := by
  refine (rdec_any s w).mono ?_
  rintro e w' ⟨hb, h1, h2⟩
  refine ⟨hb, ?_⟩
  cases h : decF (bytesOf s) with
  | error er =>
    obtain ⟨q1, q2⟩ := decR_bad h
    rw [q1, q2]
    exact ⟨0, 0, false, ⟨#[]⟩, none, 0, 0, ⟨[], .inl ⟨⟨_, _, rfl⟩, rfl, rfl⟩, by simp, rfl⟩, (h1 er h).2⟩
  | ok x =>
    obtain ⟨q1, q2⟩ := decR_ok h
    rw [q1, q2]
    obtain ⟨b, tx, p, m, c, h3, h4⟩ := h2 x h
    exact ⟨0, x.to, b, tx, p, m, c, h3.rawR, h4⟩
end Go.Proofs.YtjiikjpnlgogfaaGreatDoor
