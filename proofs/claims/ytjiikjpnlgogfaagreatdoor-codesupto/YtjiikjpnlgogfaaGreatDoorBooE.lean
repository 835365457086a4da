/-
  twigslaw: keepItems: its end, the pure half.
  twigslaw: keepItems: the walk.
  twigslaw: keepItems, whole; looks.
-/
import Derived.Test.YtjiikjpnlgogfaaGreatDoorBooA
import Derived.Test.YtjiikjpnlgogfaaGreatDoorBaS
import Derived.Deep.RegionLaw
namespace Go.Proofs.YtjiikjpnlgogfaaGreatDoor
open Go.RowKit

/-- The book behind the mark, and behind the making of the lists. -/
theorem Bk.marked {wr w0 w1 W : World} {bw lo : Nat} {es : List Ent} {v l : Value} {N M : Nat} (h : Bk wr bw es v N) (hw0 : w0 = wr.setCell ⟨bw, 5, none⟩ (.int .i64 (M : Int))) (hb1 : Below w0.heap.size w0 w1) (hg : w1.grownBy W l.ownBlock) (hl : ∀ k, l.ownBlock = some k → bw < k ∧ v.ownBlock ≠ some k ∧ ∀ e ∈ es, ¬ e.has k) : Bk W bw es v M ∧ W.cell? ⟨bw, 4, none⟩ = some v ∧ lo = lo := by
  have hbl := h.lt
  have hs0 : w0.heap.size = wr.heap.size := by rw [hw0]; simp
  have hset : ∀ k, k ≠ bw → w0.heap[k]? = wr.heap[k]? := fun k hk => by rw [hw0]; exact Below.heap_setCell _ _ _ _ hk
  have e0 : Bk w0 bw es v M := by
    refine ⟨?_, ?_, h.own.keep (by omega) fun k _ hk => hset k (by have := (h.own.block k hk).1; omega), fun e he => (h.ents e he).keep (by omega) (fun k hk => hset k (by have := ((h.ents e he).ap k hk).1; omega)) fun k hk => ((h.ents e he).ap k hk).2.2⟩
    · rw [hw0]
      exact ⟨(World.cell?_setCell_other _ _ _ _ (by simp)).trans h.c4.1, by rw [World.frozen?_setCell]; exact h.c4.2⟩
    · rw [hw0]
      exact ⟨World.cell?_setCell_same _ _ _ h.c5.1, by rw [World.frozen?_setCell]; exact h.c5.2⟩
  have e1 := e0.below hb1
  have e2 : Bk W bw es v M := e1.keep hg.size (hg.block bw e1.lt (fun e => by have := (hl bw e.symm).1; omega)) (fun k hk => hg.block k (e1.own.block k hk).2 (fun e => (hl k e.symm).2.1 hk)) (fun e he k hk => hg.block k ((e1.ents e he).ap k hk).2.1 (fun x => (hl k x.symm).2.2 e he hk))
  exact ⟨e2, e2.c4.1, rfl⟩

theorem keep_end {bw lo hi : Nat} {iv : Nat → Nat × Nat} {es es' : List Ent} {v v' l a b c v2 : Value} {N N' M n yb xb : Nat} {rs : List Raw} {w wr w0 w1 W w' : World} {ps : List (El × Raw)} {mk : ByteArray} {o : Obj}
    (hP : KPre bw lo hi es v N w) (hR : SRow w lo hi l ps iv) (h1 : K1 bw iv es v N rs w ps.length wr es' v' N') (hrs : rs.length = ps.length) (hw0 : w0 = wr.setCell ⟨bw, 5, none⟩ (.int .i64 (M : Int))) (hM : N' + 1 = M) (hb1 : Below w0.heap.size w0 w1)
    (hS : St w1 lo l n yb xb mk a b c W) (L1 : Ln w1 l mk a (n + 1) W) (L2 : Ln w1 l mk b (n + 2) W) (L3 : Ln w1 l mk c (n + 3) W) (hn : n ≤ 1048576)
    (hO : OwnC w' (bw + 1) 5 v2 ((es ++ es').length + 1) (((es ++ es').flatMap encE) ++ encE ⟨l, a, b, c, n, mk⟩)) (hg : (W.alloc o).grownBy w' v'.ownBlock) (hf : ∀ k, v2.ownBlock = some k → v'.ownBlock = some k ∨ (W.alloc o).heap.size ≤ k) :
    KeepSaid bw (fun k => lo ≤ k ∧ k < hi) es v N (1 + rsize rs) w (w'.setCell ⟨bw, 4, none⟩ v2) := by
  have htk : rs.take ps.length = rs := List.take_of_length_le (by omega)
  have hnb := h1.nb
  have hlb := h1.lb
  rw [htk] at hnb hlb
  have hbw := hP.hlo
  have hhi := hP.hhi
  have hs1 := h1.kept.size
  have hs0 : w0.heap.size = wr.heap.size := by rw [hw0]; simp
  have hs2 := hb1.size
  have hs3 := hS.grown.size
  have hs4 := hg.size
  rw [World.size_alloc] at hs4 hf
  have hbl := h1.bk.lt
  have hlr : ∀ k, l.ownBlock = some k → lo ≤ k ∧ k < hi := fun k hk => ⟨(hR.own.block k hk).1, (hR.top k hk).1⟩
  have hv' : ∀ k, v'.ownBlock = some k → ¬ (lo ≤ k ∧ k < hi) ∧ k < wr.heap.size ∧ bw < k := fun k hk => by
    have h2 := (h1.bk.own.block k hk)
    refine ⟨fun hin => ?_, h2.2, by omega⟩
    rcases h1.vf k hk with e | e
    · exact hP.hv k e hin
    · omega
  have hl : ∀ k, l.ownBlock = some k → bw < k ∧ v'.ownBlock ≠ some k ∧ ∀ e ∈ es ++ es', ¬ e.has k := fun k hk => by
    have h2 := hlr k hk
    refine ⟨by omega, fun e => (hv' k e).1 h2, fun e he hh => ?_⟩
    rcases List.mem_append.1 he with he | he
    · exact hP.he e he k hh h2
    · rcases h1.ef e he k hh with ⟨i, hi', c1⟩ | c1
      · exact (hR.top k hk).2.2 i hi' c1
      · omega
  obtain ⟨hB, _, _⟩ := Bk.marked (lo := lo) h1.bk hw0 hb1 hS.grown hl
  have hall : ∀ k, k < W.heap.size → v'.ownBlock ≠ some k → w'.heap[k]? = W.heap[k]? := fun k hk hne => (hg.block k (by simp; omega) (fun e => hne e.symm)).trans (Below.heap_alloc _ _ _ hk)
  have hvb : v'.ownBlock ≠ some bw := fun e => by have := (hv' bw e).2.2; omega
  have hv2b : v2.ownBlock ≠ some bw := fun e => by have := (hO.block bw e).1; omega
  have hset : ∀ k, k ≠ bw → (w'.setCell ⟨bw, 4, none⟩ v2).heap[k]? = w'.heap[k]? := fun k hk => Below.heap_setCell _ _ _ _ hk
  have hbe : w'.heap[bw]? = W.heap[bw]? := hall bw hB.lt hvb
  have rowsNew : ∀ k, (⟨l, a, b, c, n, mk⟩ : Ent).has k → ((lo ≤ k ∧ k < hi) ∨ w1.heap.size ≤ k) ∧ k < W.heap.size := fun k hk => by
    have go : ∀ x j, Ln w1 l mk x j W → x.ownBlock = some k → ((lo ≤ k ∧ k < hi) ∨ w1.heap.size ≤ k) ∧ k < W.heap.size := fun x j L hx => by
      obtain ⟨f1, f2⟩ := L.fresh k hx
      rcases f1 with f1 | f1
      · exact ⟨.inl (hlr k f1), f2⟩
      · exact ⟨.inr f1, f2⟩
    rcases hk with hk | hk | hk | hk
    · exact ⟨.inl (hlr k hk), (hS.own.block k hk).2⟩
    · exact go _ _ L1 hk
    · exact go _ _ L2 hk
    · exact go _ _ L3 hk
  have newFree : ∀ k, (⟨l, a, b, c, n, mk⟩ : Ent).has k → v'.ownBlock ≠ some k ∧ v2.ownBlock ≠ some k ∧ bw < k := fun k hk => by
    obtain ⟨f1, f2⟩ := rowsNew k hk
    have g1 : v'.ownBlock ≠ some k := fun e => by
      have h2 := hv' k e
      rcases f1 with f1 | f1
      · exact h2.1 f1
      · omega
    refine ⟨g1, fun e => ?_, by rcases f1 with f1 | f1 <;> omega⟩
    rcases hf k e with e1 | e1
    · exact g1 e1
    · omega
  have keepNew : ∀ k, (⟨l, a, b, c, n, mk⟩ : Ent).has k → (w'.setCell ⟨bw, 4, none⟩ v2).heap[k]? = W.heap[k]? := fun k hk => by
    obtain ⟨g1, _, g3⟩ := newFree k hk
    exact (hset k (by omega)).trans (hall k (rowsNew k hk).2 g1)
  refine ⟨?_, es' ++ [⟨l, a, b, c, n, mk⟩], v2, M, ⟨?_, ?_, ?_, fun e he => ?_⟩, by omega, by simp; omega, fun k hk => ?_, fun e he k hk => ?_⟩
  · have K0 : Kept bw (fun k => (lo ≤ k ∧ k < hi) ∨ v.ownBlock = some k) w wr := h1.kept.mono fun k hk => by
      rcases hk with ⟨i, hi', c1⟩ | c1
      · have := hR.room i hi'
        unfold inIv at c1
        exact .inl ⟨by omega, by omega⟩
      · exact .inr c1
    have K1' : Kept bw (fun _ => False) wr w0 := by rw [hw0]; exact Kept.set (.inr rfl) _
    have K2 : Kept bw (fun _ => False) w0 w1 := Kept.of_below (by omega) hb1
    have K3 : Kept bw (fun k => l.ownBlock = some k) w1 W := Kept.grown hS.grown (by omega) (fun e => by have := (hl bw e).1; omega)
    have K4 : Kept bw (fun _ => False) W (W.alloc o) := Kept.of_below hB.lt ((Below.refl _ _).alloc (Nat.le_refl _) _)
    have K5 : Kept bw (fun k => v'.ownBlock = some k) (W.alloc o) w' := Kept.grown hg (by have := hB.lt; simp; omega) hvb
    have K6 : Kept bw (fun _ => False) w' (w'.setCell ⟨bw, 4, none⟩ v2) := Kept.set (.inl rfl) _
    have fin : ∀ {x y : World}, w.heap.size ≤ x.heap.size → Kept bw (fun k => (lo ≤ k ∧ k < hi) ∨ v.ownBlock = some k) w x → ∀ {T : Nat → Prop}, Kept bw T x y → (∀ k, k < w.heap.size → T k → (lo ≤ k ∧ k < hi) ∨ v.ownBlock = some k) → Kept bw (fun k => (lo ≤ k ∧ k < hi) ∨ v.ownBlock = some k) w y := fun _ h T k hT => h.trans k (fun _ h => h) hT
    refine fin ?_ (fin ?_ (fin ?_ (fin ?_ (fin ?_ (fin ?_ K0 K1' ?_) K2 ?_) K3 ?_) K4 ?_) K5 ?_) K6 ?_
    · omega
    · simp; omega
    · omega
    · omega
    · omega
    · omega
    · intro k _ h; exact h.elim
    · intro k _ h; exact h.elim
    · intro k _ h; exact .inl (hlr k h)
    · intro k _ h; exact h.elim
    · intro k hk h
      rcases h1.vf k h with e | e
      · exact .inr e
      · omega
    · intro k _ h; exact h.elim
  · have c4 := (World.cell?_of_block hbe).trans hB.c4.1
    exact ⟨World.cell?_setCell_same _ _ _ c4, by rw [World.frozen?_setCell]; exact (World.frozen?_of_block hbe).trans hB.c4.2⟩
  · exact ⟨(World.cell?_setCell_other _ _ _ _ (by simp)).trans ((World.cell?_of_block hbe).trans hB.c5.1), by rw [World.frozen?_setCell]; exact (World.frozen?_of_block hbe).trans hB.c5.2⟩
  · have := hO.keep (w' := w'.setCell ⟨bw, 4, none⟩ v2) (by simp) (fun k _ hk => hset k (fun e => hv2b (e ▸ hk)))
    simpa [Nat.add_assoc] using this
  · rw [← List.append_assoc] at he
    rcases List.mem_append.1 he with he | he
    · refine (hB.ents e he).keep (by simp; omega) (fun k hk => ?_) (fun k hk => ?_)
      · have h2 := (hB.ents e he).ap k hk
        exact (hset k (by omega)).trans (hall k h2.2.1 h2.2.2)
      · have h2 := (hB.ents e he).ap k hk
        intro e1
        rcases hf k e1 with e2 | e2
        · exact h2.2.2 e2
        · omega
    · obtain rfl := List.mem_singleton.1 he
      have hsz : W.heap.size ≤ (w'.setCell ⟨bw, 4, none⟩ v2).heap.size := by simp; omega
      exact ⟨hS.own.isFull.keep fun k hk _ => keepNew k (.inl hk), L1.full.keep fun k hk _ => keepNew k (.inr (.inl hk)), L2.full.keep fun k hk _ => keepNew k (.inr (.inr (.inl hk))), L3.full.keep fun k hk _ => keepNew k (.inr (.inr (.inr hk))), hn, fun k hk => ⟨(newFree k hk).2.2, Nat.lt_of_lt_of_le (rowsNew k hk).2 hsz, (newFree k hk).2.1⟩⟩
  · rcases hf k hk with e | e
    · exact h1.vf k e
    · exact .inr (by omega)
  · rcases List.mem_append.1 he with he | he
    · rcases h1.ef e he k hk with ⟨i, hi', c1⟩ | c1
      · have := hR.room i hi'
        unfold inIv at c1
        exact .inl ⟨by omega, by omega⟩
      · exact .inr c1
    · obtain rfl := List.mem_singleton.1 he
      rcases (rowsNew k hk).1 with f1 | f1
      · exact .inl f1
      · exact .inr (by omega)
end Go.Proofs.YtjiikjpnlgogfaaGreatDoor

namespace Go.Proofs.YtjiikjpnlgogfaaGreatDoor
open Go.RowKit

/-- Where the row lies nothing turned so far. -/
theorem K1.row {bw lo hi : Nat} {iv : Nat → Nat × Nat} {es : List Ent} {v V : Value} {N : Nat} {rs : List Raw} {w : World} {k : Nat} {wr : World} {es' : List Ent} {v' : Value} {N' : Nat} {ps : List (El × Raw)} (h : K1 bw iv es v N rs w k wr es' v' N') (hP : KPre bw lo hi es v N w) (hR : SRow w lo hi V ps iv) (hk : k ≤ ps.length) {g : Nat} (hg : V.ownBlock = some g) : wr.heap[g]? = w.heap[g]? := by
  have h1 := hR.own.block g hg
  have h2 := hR.top g hg
  have h3 := hP.hlo
  refine h.kept.block g h1.2 (by omega) ?_
  rintro (⟨i, hi', c⟩ | c)
  · exact h2.2.2 i (by omega) c
  · exact hP.hv g c ⟨h1.1, h2.1⟩

theorem K1.len {bw : Nat} {iv : Nat → Nat × Nat} {es : List Ent} {v : Value} {N : Nat} {rs : List Raw} {w : World} {k n : Nat} {wr : World} {es' : List Ent} {v' : Value} {N' : Nat} (h : K1 bw iv es v N rs w k wr es' v' N') (e : k = n) : K1 bw iv es v N rs w n wr es' v' N' := e ▸ h
theorem encE_one {p1 p2 p3 p4 : Option Addr} {m1 m2 m3 m4 c1 c2 c3 c4 n : Nat} {mk : ByteArray} : ∀ u ∈ encE ⟨.slice p1 m1 c1, .slice p2 m2 c2, .slice p3 m3 c3, .slice p4 m4 c4, n, mk⟩, u.oneCell' = true := by
  intro u hu
  simp only [List.mem_cons, List.not_mem_nil, or_false] at hu
  rcases hu with rfl | rfl | rfl | rfl | rfl <;> rfl
theorem undrewG {X w' : World} {b : Option Nat} (h : X.drew.grownBy w' b) : X.grownBy w' b := ⟨h.os, h.tape, h.output, h.size, h.block⟩
theorem own_ne {W : World} {bw n : Nat} {v : Value} {cs : List Value} (h : ∀ o, OwnC (W.alloc o) (bw + 1) 5 v n cs) : ¬ v.ownBlock = some bw := fun e => by
  have := (h (.cells #[] 0)).block bw e
  omega
theorem keep_apart {bw lo hi : Nat} {iv : Nat → Nat × Nat} {es es' : List Ent} {v v' l : Value} {N N' : Nat} {rs : List Raw} {w wr : World} {ps : List (El × Raw)} (hP : KPre bw lo hi es v N w) (hR : SRow w lo hi l ps iv) (h1 : K1 bw iv es v N rs w ps.length wr es' v' N') : ∀ b, l.ownBlock = some b → bw < b ∧ v'.ownBlock ≠ some b ∧ ∀ e ∈ es ++ es', ¬ e.has b := fun k hk => by
  have hbw := hP.hlo
  have hhi := hP.hhi
  have h2 : lo ≤ k ∧ k < hi := ⟨(hR.own.block k hk).1, (hR.top k hk).1⟩
  refine ⟨by omega, fun e => ?_, fun e he hh => ?_⟩
  · rcases h1.vf k e with e | e
    · exact hP.hv k e h2
    · omega
  · rcases List.mem_append.1 he with he | he
    · exact hP.he e he k hh h2
    · rcases h1.ef e he k hh with ⟨i, hi', c1⟩ | c1
      · exact (hR.top k hk).2.2 i hi' c1
      · omega

set_option maxRecDepth 100000 in
set_option maxHeartbeats 6400000 in
theorem keep_body (d bw lo hi : Nat) (p : Option Addr) (m c : Nat) (ps : List (El × Raw)) (iv : Nat → Nat × Nat) (es : List Ent) (v : Value) (N : Nat) (w : World) (hP : KPre bw lo hi es v N w) (hR : SRow w lo hi (.slice p m c) ps iv) (hT : ∀ i (h : i < ps.length), TreeS d w (iv i).1 (iv i).2 ps[i].1 ps[i].2)
    (hlh : lo ≤ hi) (hm2 : m ≤ 1048576) (hNb : N + rsize (ps.map (·.2)) ≤ 8589934592) (hEb : es.length + rsize (ps.map (·.2)) ≤ 8589934592)
    (hN : ∀ i (h : i < ps.length) W es1 v1 N1, KPre bw (iv i).1 (iv i).2 es1 v1 N1 W → TreeS d W (iv i).1 (iv i).2 ps[i].1 ps[i].2 → N1 + ps[i].2.size ≤ 8589934592 → es1.length + ps[i].2.size ≤ 8589934592 → Calls Tryz.prog 169 #[.pointer (some ⟨bw, 3, none⟩), ps[i].1.sub] W fun e w' => e = .returned (.tuple #[]) ∧ KeepSaid bw (inIv iv i) es1 v1 N1 ps[i].2.size W w') :
    Calls Tryz.prog 169 #[.pointer (some ⟨bw, 3, none⟩), .slice p m c] w fun e w' => e = .returned (.tuple #[]) ∧ KeepSaid bw (fun k => lo ≤ k ∧ k < hi) es v N (1 + rsize (ps.map (·.2))) w w' := by
  obtain ⟨i0, hi0, hz0, hz1, hz2⟩ := info_parts infoI
  obtain ⟨i1, hi1, hy0, hy1, hy2⟩ := info_parts infoE
  obtain ⟨rs, hrs⟩ : ∃ rs, ps.map (·.2) = rs := ⟨_, rfl⟩
  rw [hrs] at hNb hEb ⊢
  have HN := Hid.hide hN
  have HP := Hid.hide hP
  have HR := Hid.hide hR
  have HT := Hid.hide hT
  have HM : Hid (m = ps.length ∧ m ≤ 1048576 ∧ ps.map (·.2) = rs ∧ N + rsize rs ≤ 8589934592 ∧ es.length + rsize rs ≤ 8589934592) := ⟨hR.own.rowOff.len, hm2, hrs, hNb, hEb⟩
  have HL : Hid (lo ≤ hi) := hlh
  clear hN hP hR hT hm2 hrs hNb hEb hlh
  go_enter Tryz.func169, Tryz.ntmps169
  go_wp2
  go_loopg [4] m (fun gh i wr => ∃ k es' v' N', k ≤ m ∧ gh = m - k ∧ i = .int .i64 (k : Int) ∧ K1 bw iv es v N rs w k wr es' v' N')
  case atStart => exact ⟨0, [], v, N, Nat.zero_le _, rfl, rfl, K1.start HP.out.bk⟩
  case round =>
    obtain ⟨k, es', v', N', hk, rfl, rfl, hK⟩ := hrel
    by_cases hlt : k < m
    · have hki : (k : Int) < (m : Int) := by omega
      have hkp : k < ps.length := by have := HM.out; omega
      obtain ⟨g, cap, e, hg1, hg2, hg3, hg4, hg5, hg6⟩ := HR.out.own.full (by omega)
      simp only [Value.slice.injEq] at e
      obtain ⟨rfl, -, rfl⟩ := e
      have hge := hK.row HP.out HR.out (by omega) (g := g) rfl
      obtain ⟨q, hqe⟩ : ∃ q, ps[k] = q := ⟨_, rfl⟩
      have hxk : rs[k]? = some q.2 := by rw [← HM.out.2.2.1, List.getElem?_map, List.getElem?_eq_getElem hkp, hqe]; rfl
      obtain ⟨hTk, hPk⟩ := hK.pre HP.out HR.out hkp (HT.out k hkp)
      have hst := rsize_step rs k hxk
      have htk := rsize_take rs (k + 1)
      have hcall := HN.out k hkp wr (es ++ es') v' N' hPk hTk (by rw [hqe]; have := hK.nb; have := HM.out; omega) (by rw [hqe, List.length_append]; have := hK.lb; have := HM.out; omega)
      have hfl := flat_at (enc := encI) (size := 3) (fun _ => rfl) ps k hkp 2 (by omega)
      rw [hqe] at hcall hfl
      obtain ⟨⟨fr', en', l', tx', sub'⟩, x'⟩ := q
      obtain ⟨p', m', c', hs'⟩ := hTk.shape
      rw [hqe] at hs'
      simp only at hs' hcall
      subst hs'
      have r2 : wr.cell? ⟨g, k * 3 + 2, none⟩ = some (.slice p' m' c') := by
        have := hg6 (k * 3 + 2) (.slice p' m' c') (by rw [hfl]; rfl)
        rw [Nat.zero_add] at this
        exact (World.cell?_of_block hge).trans this
      have HC := Hid.hide hcall
      have A1 : Aside (K1 bw iv es v N rs w k wr es' v' N' ∧ rs[k]? = some x') := ⟨hK, hxk⟩
      clear hcall hfl hqe hxk hK hTk hPk hge hst htk hg1 hg2 hg3 hg4 hg5 hg6
      go_wp2_with fail
      refine HC.out.mono ?_
      rintro e w1 ⟨rfl, hS⟩
      obtain ⟨es2, v2, N2, hK2⟩ := A1.out.1.next A1.out.2 hS
      have A2 : Aside _ := hK2
      clear hS hK2 HC r2
      go_wp2
      go_roundg (m - (k + 1))
      case measure => omega
      case rel => exact ⟨k + 1, es' ++ es2, v2, N2, by omega, rfl, by rw [wrap64_succ k (by have := HM.out; omega)], A2.out⟩
    · have hki : (m : Int) ≤ (k : Int) := by omega
      have hkm : k = m := by omega
      have hbk := hK.bk
      have hbl := hbk.lt
      obtain ⟨M, hM⟩ : ∃ M, N' + 1 = M := ⟨_, rfl⟩
      obtain ⟨w0, hw0⟩ : ∃ w0, w0 = wr.setCell ⟨bw, 5, none⟩ (.int .i64 (M : Int)) := ⟨_, rfl⟩
      have HMk := Hid.hide (mark_any bw N' M wr w0 hw0 hM (by have := hK.nb; have := rsize_take rs k; have := HM.out; omega) hbk.c5.1 hbk.c5.2)
      have A1 : Aside (K1 bw iv es v N rs w m wr es' v' N' ∧ w0 = wr.setCell ⟨bw, 5, none⟩ (.int .i64 (M : Int)) ∧ N' + 1 = M) := ⟨hkm ▸ hK, hw0, hM⟩
      clear hK hbk hw0 hM hlt hkm
      go_wp2_with fail
      refine HMk.out.mono ?_
      rintro e w1 ⟨mk, rfl, hb1⟩
      have hO1 : OwnC w1 lo 3 (.slice p m c) m (ps.flatMap fun q => encI q.1) := by
        have h0 := HR.out.own
        rw [← HM.out.1] at h0
        refine OwnC.below (OwnC.keep h0 ?_ fun g _ hg => ?_) hb1
        · rw [A1.out.2.1]
          simpa using A1.out.1.kept.size
        · have hlo := HP.out.hlo
          have h1 := HR.out.own.block g hg
          rw [A1.out.2.1, Below.heap_setCell _ _ _ _ (by simp only; omega)]
          exact A1.out.1.row HP.out HR.out (by rw [HM.out.1]; exact Nat.le_refl _) hg
      have A2 : Aside (Below w0.heap.size w0 w1 ∧ OwnC w1 lo 3 (.slice p m c) m (ps.flatMap fun q => encI q.1)) := ⟨hb1, hO1⟩
      clear hb1 hO1 HMk
      go_wp2
      go_loopg [7] m (fun gh i W => ∃ k, k ≤ m ∧ gh = m - k ∧ i = .int .i64 (k : Int) ∧ Fl w1 p m c w1.heap.size mk k W)
      case atStart => exact ⟨0, Nat.zero_le _, rfl, rfl, Fl.start A2.out.2⟩
      case round =>
        obtain ⟨k, hk, rfl, rfl, hF⟩ := hrel
        by_cases hlt : k < m
        · have hki : (k : Int) < (m : Int) := by omega
          obtain ⟨g, cap, e, hg1, hg2, hg3, hg4, hg5, hg6⟩ := A2.out.2.full (by omega)
          simp only [Value.slice.injEq] at e
          obtain ⟨rfl, -, rfl⟩ := e
          obtain ⟨a1, a2, a3⟩ := hF.row g rfl
          have ex : ∀ j, j < 3 → ∃ u, wr.cell? ⟨g, k * 3 + j, none⟩ = some u ∧ wr.frozen? ⟨g, k * 3 + j, none⟩ = false := fun j hj => by
            have h1 := a2 (k * 3 + j) (by omega)
            rw [Nat.zero_add] at h1
            obtain ⟨u, hu⟩ := Option.isSome_iff_exists.1 h1.1
            exact ⟨u, hu, h1.2⟩
          obtain ⟨u0, c0, f0⟩ := ex 0 (by omega)
          obtain ⟨u1, c1, f1⟩ := ex 1 (by omega)
          obtain ⟨u2, c2, f2⟩ := ex 2 (by omega)
          rw [Nat.add_zero] at c0 f0
          have y0 := (hF.y.2 0 _ rfl).1
          have y1 := (hF.y.2 1 _ rfl).1
          have y2 := (hF.y.2 2 _ rfl).1
          have yl := hF.y.1
          have ng : ¬ w1.heap.size = g := by omega
          have A3 : Aside _ := hF.next hlt hg3 (by omega)
          clear hF ex a2 a3 hg1 hg3 hg4 hg5 hg6
          go_wp2
          go_roundg (m - (k + 1))
          case measure => omega
          case rel => exact ⟨k + 1, by omega, rfl, by rw [wrap64_succ k (by have := HM.out; omega)], A3.out⟩
        · have hki : (m : Int) ≤ (k : Int) := by omega
          have hkm : k = m := by omega
          subst hkm
          have hyl := hF.y.1
          have y0 := (hF.y.2 0 _ rfl).1
          have y1 := (hF.y.2 1 _ rfl).1
          have y2 := (hF.y.2 2 _ rfl).1
          have hS0 := hF.done (t := 148) A2.out.2
          have hgs := hF.grown.size
          clear hF hlt hk
          go_upto_region 11 with fail
          obtain ⟨yb, hyb⟩ : ∃ yb, w1.heap.size = yb := ⟨_, rfl⟩
          obtain ⟨xb, hxb⟩ : ∃ xb, wr.heap.size = xb := ⟨_, rfl⟩
          obtain ⟨W1, hW1⟩ : ∃ W1, W1 = wr.alloc (.cells #[.slice p k c, .slice none 0 0, .slice none 0 0, .slice none 0 0, .string mk] 148) := ⟨_, rfl⟩
          rw [← hW1] at hS0 ⊢
          rw [hxb, hyb] at hS0 ⊢
          have AW : Aside (w1.heap.size = yb ∧ w1.heap.size ≤ xb ∧ (∀ b, (Value.slice p k c).ownBlock = some b → b < w1.heap.size) ∧ lo ≤ w1.heap.size) := ⟨hyb, by omega, fun b hb => (A2.out.2.block b hb).2, by have h1 := HP.out.hhi; have h2 := A1.out.1.kept.size; have h3 := A2.out.1.size; rw [A1.out.2.1] at h3; simp at h3; have h4 := HL.out; omega⟩
          have A3 : Aside (St w1 lo (.slice p k c) k yb xb mk (.slice none 0 0) (.slice none 0 0) (.slice none 0 0) W1) := hS0
          clear hS0 hW1 hxb hyb y0 y1 y2 hyl hgs
          have y0 := (A3.out.y.2 0 _ rfl).1
          have y1 := (A3.out.y.2 1 _ rfl).1
          have y2 := (A3.out.y.2 2 _ rfl).1
          have yl := A3.out.y.1
          have xl := A3.out.x.1
          have HO : Hid (∀ o, OwnC (W1.alloc o) lo 3 (.slice p k c) k (yrow mk k)) := fun o => A3.out.own.alloc o
          go_upto_region 12 with (at_builtin; refine wpList_append_keep _ rfl _ _ 37 rfl 45 i0 zeroI 3 48 Tryz.underlying37 hi0 hz0 hz1 hz2 rfl (by decide) lo (.slice p k c) k (yrow mk k) rfl (HO.out _) W1.heap.size 0 1 1 (yrow mk 1) rfl rfl ?c1 (yrow_one mk 1) ?c2 ?c3 ?c4 ?_)
          case c1 => exact rangeAt_new W1 (yrow mk 1) 45
          case c2 => have := HM.out; unfold maxLen; omega
          case c3 => have := HM.out; omega
          case c4 => have := AW.out; have := A3.out.grown.size; simp; omega
          intro v1 t1 hO1 hQ1 hg1 hf1 hc1
          obtain ⟨pa1, ma1, ca1, rfl⟩ := hO1.shape
          obtain ⟨k1, k2, k3, k4, k5, k6, k7⟩ := St.more (idx := 1) A3.out AW.out.2.1 (Nat.le_of_eq AW.out.1) AW.out.2.2.1 (by omega) hO1 hQ1 hg1 (by simpa using hf1)
          have nx1 : ¬ (Value.slice pa1 ma1 ca1).ownBlock = some xb := fun e => by
            rcases hf1 xb e with e1 | e1
            · have := AW.out.2.2.1 xb e1; have := AW.out.2.1; omega
            · (try simp at e1); omega
          obtain ⟨xc, xf⟩ := k5.2 1 _ rfl
          have xl2 := k5.1
          have k8 : Hid (St w1 lo (.slice p k c) k yb xb mk (.slice pa1 ma1 ca1) (.slice none 0 0) (.slice none 0 0) (t1.setCell ⟨xb, 1, none⟩ (.slice pa1 ma1 ca1))) := ⟨k1, k2, k3, k4, A3.out.yx⟩
          have L1 := k7
          clear hO1 hQ1 hg1 hf1 hc1 k1 k2 k3 k4 k5 k6 k7 HO y0 y1 y2 yl xl
          go_upto_region 12 with fail
          obtain ⟨W2, hW2⟩ : ∃ W2, W2 = t1.setCell ⟨xb, 1, none⟩ (.slice pa1 ma1 ca1) := ⟨_, rfl⟩
          rw [← hW2] at L1 k8 ⊢
          have A4 : Aside (St w1 lo (.slice p k c) k yb xb mk (.slice pa1 ma1 ca1) (.slice none 0 0) (.slice none 0 0) W2) := k8.out
          clear k8 hW2 xc xf xl2 A3
          have y0 := (A4.out.y.2 0 _ rfl).1
          have y1 := (A4.out.y.2 1 _ rfl).1
          have y2 := (A4.out.y.2 2 _ rfl).1
          have yl := A4.out.y.1
          have xl := A4.out.x.1
          have HO : Hid (∀ o, OwnC (W2.alloc o) lo 3 (.slice p k c) k (yrow mk k)) := fun o => A4.out.own.alloc o
          go_upto_region 13 with (at_builtin; refine wpList_append_keep _ rfl _ _ 37 rfl 45 i0 zeroI 3 48 Tryz.underlying37 hi0 hz0 hz1 hz2 rfl (by decide) lo (.slice p k c) k (yrow mk k) rfl (HO.out _) W2.heap.size 0 2 2 (yrow mk 2) rfl rfl ?c1 (yrow_one mk 2) ?c2 ?c3 ?c4 ?_)
          case c1 => exact rangeAt_new W2 (yrow mk 2) 45
          case c2 => have := HM.out; unfold maxLen; omega
          case c3 => have := HM.out; omega
          case c4 => have := AW.out; have := A4.out.grown.size; simp; omega
          intro v2 t2 hO2 hQ2 hg2 hf2 hc2
          obtain ⟨pa2, ma2, ca2, rfl⟩ := hO2.shape
          obtain ⟨k1, k2, k3, k4, k5, k6, k7⟩ := St.more (idx := 2) A4.out AW.out.2.1 (Nat.le_of_eq AW.out.1) AW.out.2.2.1 (by omega) hO2 hQ2 hg2 (by simpa using hf2)
          have nx2 : ¬ (Value.slice pa2 ma2 ca2).ownBlock = some xb := fun e => by
            rcases hf2 xb e with e1 | e1
            · have := AW.out.2.2.1 xb e1; have := AW.out.2.1; omega
            · (try simp at e1); omega
          have L1 := ((L1.keep (w' := W2.alloc (.cells (yrow mk 2).toArray 45)) (by simp) (fun k hk => Below.heap_alloc _ _ _ (L1.fresh k hk).2)).append hg2 (fun g hg j => (hc2 g hg j).imp id (fun ⟨a, u, b, c⟩ => ⟨u, a, b, c⟩))).set (xb := xb) (idx := 2) (u := .slice pa2 ma2 ca2) nx1
          obtain ⟨xc, xf⟩ := k5.2 2 _ rfl
          have xl2 := k5.1
          have k8 : Hid (St w1 lo (.slice p k c) k yb xb mk (.slice pa1 ma1 ca1) (.slice pa2 ma2 ca2) (.slice none 0 0) (t2.setCell ⟨xb, 2, none⟩ (.slice pa2 ma2 ca2))) := ⟨k1, k2, k3, k4, A4.out.yx⟩
          have L2 := k7
          clear hO2 hQ2 hg2 hf2 hc2 k1 k2 k3 k4 k5 k6 k7 HO y0 y1 y2 yl xl
          go_upto_region 13 with fail
          obtain ⟨W3, hW3⟩ : ∃ W3, W3 = t2.setCell ⟨xb, 2, none⟩ (.slice pa2 ma2 ca2) := ⟨_, rfl⟩
          rw [← hW3] at L1 L2 k8 ⊢
          have A5 : Aside (St w1 lo (.slice p k c) k yb xb mk (.slice pa1 ma1 ca1) (.slice pa2 ma2 ca2) (.slice none 0 0) W3) := k8.out
          clear k8 hW3 xc xf xl2 A4
          have y0 := (A5.out.y.2 0 _ rfl).1
          have y1 := (A5.out.y.2 1 _ rfl).1
          have y2 := (A5.out.y.2 2 _ rfl).1
          have yl := A5.out.y.1
          have xl := A5.out.x.1
          have HO : Hid (∀ o, OwnC (W3.alloc o) lo 3 (.slice p k c) k (yrow mk k)) := fun o => A5.out.own.alloc o
          go_upto_region 14 with (at_builtin; refine wpList_append_keep _ rfl _ _ 37 rfl 45 i0 zeroI 3 48 Tryz.underlying37 hi0 hz0 hz1 hz2 rfl (by decide) lo (.slice p k c) k (yrow mk k) rfl (HO.out _) W3.heap.size 0 3 3 (yrow mk 3) rfl rfl ?c1 (yrow_one mk 3) ?c2 ?c3 ?c4 ?_)
          case c1 => exact rangeAt_new W3 (yrow mk 3) 45
          case c2 => have := HM.out; unfold maxLen; omega
          case c3 => have := HM.out; omega
          case c4 => have := AW.out; have := A5.out.grown.size; simp; omega
          intro v3 t3 hO3 hQ3 hg3 hf3 hc3
          obtain ⟨pa3, ma3, ca3, rfl⟩ := hO3.shape
          obtain ⟨k1, k2, k3, k4, k5, k6, k7⟩ := St.more (idx := 3) A5.out AW.out.2.1 (Nat.le_of_eq AW.out.1) AW.out.2.2.1 (by omega) hO3 hQ3 hg3 (by simpa using hf3)
          have nx3 : ¬ (Value.slice pa3 ma3 ca3).ownBlock = some xb := fun e => by
            rcases hf3 xb e with e1 | e1
            · have := AW.out.2.2.1 xb e1; have := AW.out.2.1; omega
            · (try simp at e1); omega
          have L1 := ((L1.keep (w' := W3.alloc (.cells (yrow mk 3).toArray 45)) (by simp) (fun k hk => Below.heap_alloc _ _ _ (L1.fresh k hk).2)).append hg3 (fun g hg j => (hc3 g hg j).imp id (fun ⟨a, u, b, c⟩ => ⟨u, a, b, c⟩))).set (xb := xb) (idx := 3) (u := .slice pa3 ma3 ca3) nx1
          have L2 := ((L2.keep (w' := W3.alloc (.cells (yrow mk 3).toArray 45)) (by simp) (fun k hk => Below.heap_alloc _ _ _ (L2.fresh k hk).2)).append hg3 (fun g hg j => (hc3 g hg j).imp id (fun ⟨a, u, b, c⟩ => ⟨u, a, b, c⟩))).set (xb := xb) (idx := 3) (u := .slice pa3 ma3 ca3) nx2
          obtain ⟨xc, xf⟩ := k5.2 3 _ rfl
          have xl2 := k5.1
          have k8 : Hid (St w1 lo (.slice p k c) k yb xb mk (.slice pa1 ma1 ca1) (.slice pa2 ma2 ca2) (.slice pa3 ma3 ca3) (t3.setCell ⟨xb, 3, none⟩ (.slice pa3 ma3 ca3))) := ⟨k1, k2, k3, k4, A5.out.yx⟩
          have L3 := k7
          clear hO3 hQ3 hg3 hf3 hc3 k1 k2 k3 k4 k5 k6 k7 HO y0 y1 y2 yl xl
          go_upto_region 14 with fail
          obtain ⟨W4, hW4⟩ : ∃ W4, W4 = t3.setCell ⟨xb, 3, none⟩ (.slice pa3 ma3 ca3) := ⟨_, rfl⟩
          rw [← hW4] at L1 L2 L3 k8 ⊢
          have A6 : Aside (St w1 lo (.slice p k c) k yb xb mk (.slice pa1 ma1 ca1) (.slice pa2 ma2 ca2) (.slice pa3 ma3 ca3) W4) := k8.out
          clear k8 hW4 xc xf xl2 A5
          have hlr : ∀ b, (Value.slice p k c).ownBlock = some b → bw < b ∧ v'.ownBlock ≠ some b ∧ ∀ e ∈ es ++ es', ¬ e.has b := keep_apart HP.out HR.out (A1.out.1.len HM.out.1)
          obtain ⟨hBk, hb4, -⟩ := Bk.marked (lo := lo) A1.out.1.bk A1.out.2.1 A2.out.1 A6.out.grown hlr
          have hb4f := hBk.c4.2
          have hbl2 := hBk.lt
          obtain ⟨pv, mv, cv, rfl⟩ := hBk.own.shape
          have x0 := (A6.out.x.2 0 _ rfl).1
          have x1 := (A6.out.x.2 1 _ rfl).1
          have x2 := (A6.out.x.2 2 _ rfl).1
          have x3 := (A6.out.x.2 3 _ rfl).1
          have x4 := (A6.out.x.2 4 _ rfl).1
          have xl := A6.out.x.1
          have HO : Hid (∀ o, OwnC (W4.alloc o) (bw + 1) 5 (.slice pv mv cv) (es ++ es').length ((es ++ es').flatMap encE)) := fun o => hBk.own.alloc o
          have AL : Aside (Ln w1 (.slice p k c) mk (.slice pa1 ma1 ca1) (k + 1) W4 ∧ Ln w1 (.slice p k c) mk (.slice pa2 ma2 ca2) (k + 2) W4 ∧ Ln w1 (.slice p k c) mk (.slice pa3 ma3 ca3) (k + 3) W4) := ⟨L1, L2, L3⟩
          have HE : Hid ((es ++ es').length + 1 ≤ 8589934593 ∧ bw + 1 ≤ W4.heap.size) := ⟨by have := A1.out.1.lb; have := rsize_take rs k; have := HM.out; rw [List.length_append]; omega, hbl2⟩
          have HX : Hid ((W4.alloc (.cells #[.slice p k c, .slice pa1 ma1 ca1, .slice pa2 ma2 ca2, .slice pa3 ma3 ca3, .string mk] 148)).rangeAt W4.heap.size 0 (encE ⟨.slice p k c, .slice pa1 ma1 ca1, .slice pa2 ma2 ca2, .slice pa3 ma3 ca3, k, mk⟩)) := rangeAt_new W4 (encE ⟨.slice p k c, .slice pa1 ma1 ca1, .slice pa2 ma2 ca2, .slice pa3 ma3 ca3, k, mk⟩) _
          clear L1 L2 L3 hBk hlr nx1 nx2 nx3
          go_region_law
            (refine step_append_ownp _ rfl (.tmp 61) (.tmp 63) 95 rfl 148 i1 _ 5 112 Tryz.underlying95 hi1 hy0 hy1 hy2 rfl (by decide) (bw + 1) (.slice pv mv cv) (es ++ es').length _ (by simp [Act.eval]) (HO.out _) W4.heap.size 0 1 1 (encE ⟨.slice p k c, .slice pa1 ma1 ca1, .slice pa2 ma2 ca2, .slice pa3 ma3 ca3, k, mk⟩) (by simp [Act.eval]) rfl HX.out encE_one (by have := HE.out; unfold maxLen; omega) (by have := HE.out; omega) (by have := HE.out; simp; omega) ?_; intro v2 w2 hO2 hg2 hf2 hp2; have AM : Aside (KeepSaid bw (fun k => lo ≤ k ∧ k < hi) es v N (1 + rsize rs) w (w2.setCell ⟨bw, 4, none⟩ v2)) := keep_end HP.out HR.out (A1.out.1.len HM.out.1) (by rw [← HM.out.2.2.1, List.length_map]) A1.out.2.1 A1.out.2.2 A2.out.1 A6.out AL.out.1 AL.out.2.1 AL.out.2.2 HM.out.2.1 hO2 (undrewG hg2) hf2; obtain ⟨pz, mz, cz, rfl⟩ := hO2.shape; have z4 : w2.cell? ⟨bw, 4, none⟩ = some (.slice pv mv cv) := World.grownBy.cell hg2 ((World.cell?_alloc_past _ _ _ hbl2).trans hb4) (fun e => own_ne HO.out e.symm); have z4f : w2.frozen? ⟨bw, 4, none⟩ = false := (World.frozen?_of_block (hg2.block bw (by simp; omega) (fun e => own_ne HO.out e.symm))).trans ((World.frozen?_alloc_past _ _ _ hbl2).trans hb4f); have z5 : bw < w2.heap.size := (by have := hg2.size; simp at this; omega); clear hO2 hg2 hf2 hp2)
          all_goals go_end0
          all_goals exact ⟨rfl, AM.out⟩
end Go.Proofs.YtjiikjpnlgogfaaGreatDoor

namespace Go.Proofs.YtjiikjpnlgogfaaGreatDoor
open Go.RowKit

theorem KeepSaid.mono {bw : Nat} {T U : Nat → Prop} {es : List Ent} {v : Value} {N K L : Nat} {w w' : World} (h : KeepSaid bw T es v N K w w') (h1 : ∀ k, T k → U k) (h2 : K ≤ L) : KeepSaid bw U es v N L w w' := by
  obtain ⟨a, es', v', N', b1, b2, b3, b4, b5⟩ := h
  refine ⟨a.mono fun k hk => hk.imp (h1 k) id, es', v', N', b1, by omega, by omega, b4, fun e he k hk => (b5 e he k hk).imp (h1 k) id⟩
theorem TreeS.flat {n a b c : Nat} {w : World} {e : El} {r : Raw} (h : TreeS n w a b e r) (hab : b < a) : TreeS n w c c e r := by
  cases n with
  | zero => exact h
  | succ n =>
    obtain ⟨ps, iv, h1, h2, h3⟩ := h
    have hnil : e.sub = .slice none 0 0 ∧ ps.length = 0 := by
      rcases h1.own.2 with h | ⟨g, cap, e1, b1, _⟩
      · exact h
      · have := (h1.top g (by rw [e1]; rfl)).1
        omega
    have hps : ps = [] := List.eq_nil_of_length_eq_zero hnil.2
    subst hps
    refine ⟨[], iv, ⟨?_, fun k hk => ?_, by simp, by simp⟩, by simp, h3⟩
    · rw [hnil.1]
      exact OwnC.nil _ _ _
    · rw [hnil.1] at hk
      simp [Value.ownBlock] at hk

/-- keepItems, of whatever items that were made anew. -/
theorem keep_any (bw : Nat) : ∀ (n lo hi : Nat) (e : El) (r : Raw) (es : List Ent) (v : Value) (N : Nat) (w : World), TreeS n w lo hi e r → KPre bw lo hi es v N w → lo ≤ hi → r.size ≤ 1048576 → N + r.size ≤ 8589934592 → es.length + r.size ≤ 8589934592 →
    Calls Tryz.prog 169 #[.pointer (some ⟨bw, 3, none⟩), e.sub] w fun e w' => e = .returned (.tuple #[]) ∧ KeepSaid bw (fun k => lo ≤ k ∧ k < hi) es v N r.size w w' := by
  intro n
  induction n with
  | zero => intro lo hi e r es v N w h; exact h.elim
  | succ n ih =>
    rintro lo hi ⟨fr, en, l, tx, sub⟩ r es v N w ⟨ps, iv, h1, h2, h3⟩ hP hlh hr hN hE
    simp only at h1 h3
    subst h3
    rw [Raw.size] at hr hN hE
    have hl := rsize_length (ps.map (·.2))
    rw [List.length_map] at hl
    obtain ⟨p, c, hs⟩ := h1.own.rowOff.shape
    subst hs
    refine (keep_body n bw lo hi p ps.length c ps iv es v N w hP h1 h2 hlh (by omega) (by omega) (by omega) (fun i hi' W es1 v1 N1 hP1 hT1 hN1 hE1 => ?_)).mono ?_
    · have hsz := rsize_mem (List.mem_map_of_mem (f := (·.2)) (List.getElem_mem hi'))
      by_cases hiv : (iv i).1 ≤ (iv i).2
      · exact ih (iv i).1 (iv i).2 ps[i].1 ps[i].2 es1 v1 N1 W hT1 hP1 hiv (by omega) hN1 hE1
      · refine (ih W.heap.size W.heap.size ps[i].1 ps[i].2 es1 v1 N1 W (hT1.flat (by omega)) ⟨hP1.bk, hP1.bk.lt, Nat.le_refl _, fun k _ h => by omega, fun e _ k _ h => by omega⟩ (Nat.le_refl _) (by omega) hN1 hE1).mono ?_
        rintro e w' ⟨he, hk⟩
        exact ⟨he, hk.mono (fun k h => by omega) (Nat.le_refl _)⟩
    · rintro e w' ⟨he, hk⟩
      refine ⟨he, hk.mono (fun _ h => h) ?_⟩
      rw [Raw.size]
      omega

theorem wrap64_nat1 (q : Nat) (h : q ≤ 4611686018427387904) : wrap64 ((q : Int) + 1) = ((q + 1 : Nat) : Int) := by
  unfold wrap64
  omega
theorem flatE_at : ∀ (es : List Ent) (i : Nat) (hi : i < es.length) (j : Nat), j < 5 → (es.flatMap encE)[i * 5 + j]? = (encE es[i])[j]? := by
  intro es
  induction es with
  | nil => intro i hi; simp at hi
  | cons p ps ih =>
    intro i hi j hj
    rw [List.flatMap_cons]
    cases i with
    | zero =>
      rw [Nat.zero_mul, Nat.zero_add, List.getElem?_append_left (by simpa using hj)]
      rfl
    | succ i =>
      rw [List.getElem?_append_right (by simp; omega), show (i + 1) * 5 + j - (encE p).length = i * 5 + j by simp; omega, ih i (by simpa using hi) j hj]
      rfl

set_option maxRecDepth 100000 in
set_option maxHeartbeats 3200000 in
/-- looks: every list reads as its owner wrote it. -/
theorem looksB_any (bw : Nat) (es : List Ent) (v : Value) (N : Nat) (w : World) (h : Bk w bw es v N) (h3 : w.cell? ⟨bw, 3, none⟩ = some (.slice none 0 0)) (hE : es.length ≤ 8589934592) :
    Calls Tryz.prog 45 #[.pointer (some ⟨bw, 3, none⟩)] w fun e w' => e = .returned (.bool true) ∧ Below w.heap.size w w' := by
  obtain ⟨p, m, c, rfl⟩ := h.own.shape
  have hm : m = es.length := h.own.rowOff.len
  have H := Hid.hide h
  have HE : Hid (m = es.length ∧ m ≤ 8589934592) := ⟨hm, by omega⟩
  have hb4 := h.c4.1
  have hbl := h.lt
  clear h hm hE
  go_enter Tryz.func45, Tryz.ntmps45
  go_wp2
  go_loopg [3] 0 (fun g i W => g = 0 ∧ i = .int .i64 0 ∧ W = w)
  case atStart => exact ⟨rfl, rfl, rfl⟩
  case round =>
    obtain ⟨rfl, rfl, hW⟩ := hrel
    have hW2 := hW.symm
    subst hW2
    go_wp2
    go_loopg [9] m (fun gh i W => ∃ k, k ≤ m ∧ gh = m - k ∧ i = .int .i64 (k : Int) ∧ Below w.heap.size w W)
    case atStart => exact ⟨0, Nat.zero_le _, rfl, rfl, Below.refl _ _⟩
    case round =>
      obtain ⟨k, hk, rfl, rfl, hB⟩ := hrel
      have b4 : wr.cell? ⟨bw, 4, none⟩ = some (.slice p m c) := (hB.cell (p := ⟨bw, 4, none⟩) hbl).trans hb4
      by_cases hlt : k < m
      · have hki : (k : Int) < (m : Int) := by omega
        have hke : k < es.length := by have := HE.out; omega
        obtain ⟨g, cap, e, hg1, hg2, hg3, hg4, hg5, hg6⟩ := H.out.own.full (by omega)
        simp only [Value.slice.injEq] at e
        obtain ⟨rfl, -, rfl⟩ := e
        have hen := H.out.ents _ (List.getElem_mem hke)
        have hfl := flatE_at es k hke
        obtain ⟨⟨l, a, b, c', n, mk⟩, hee⟩ : ∃ x, es[k] = x := ⟨_, rfl⟩
        rw [hee] at hen hfl
        obtain ⟨pl, cl, hl1⟩ := hen.fl.shape
        obtain ⟨pa, ca, hl2⟩ := hen.fa.shape
        obtain ⟨pb, cb, hl3⟩ := hen.fb.shape
        obtain ⟨pc, cc, hl4⟩ := hen.fc.shape
        simp only at hl1 hl2 hl3 hl4
        subst hl1 hl2 hl3 hl4
        have cel : ∀ j u, ([.slice pl n cl, .slice pa (n + 1) ca, .slice pb (n + 2) cb, .slice pc (n + 3) cc, .string mk] : List Value)[j]? = some u → j < 5 → wr.cell? ⟨g, k * 5 + j, none⟩ = some u := fun j u hu hj => by
          have := hg6 (k * 5 + j) u (by rw [hfl j hj]; exact hu)
          rw [Nat.zero_add] at this
          exact (hB.cell (World.block_lt_of_cell? w _ this)).trans this
        have e0 : wr.cell? ⟨g, k * 5, none⟩ = some (.slice pl n cl) := cel 0 _ rfl (by omega)
        have e1 : wr.cell? ⟨g, k * 5 + 1, none⟩ = some (.slice pa (n + 1) ca) := cel 1 _ rfl (by omega)
        have e2 : wr.cell? ⟨g, k * 5 + 2, none⟩ = some (.slice pb (n + 2) cb) := cel 2 _ rfl (by omega)
        have e3 : wr.cell? ⟨g, k * 5 + 3, none⟩ = some (.slice pc (n + 3) cc) := cel 3 _ rfl (by omega)
        have e4 : wr.cell? ⟨g, k * 5 + 4, none⟩ = some (.string mk) := cel 4 _ rfl (by omega)
        have hnn := hen.hn
        simp only at hnn
        have kp : ∀ (o : Obj) (x : Value), (∀ b, x.ownBlock = some b → b < w.heap.size) → ∀ j, FullRow w x j mk → FullRow (wr.alloc o) x j mk := fun o x hx j hf => hf.keep fun b hb _ => (Below.heap_alloc _ _ _ (Nat.lt_of_lt_of_le (hx b hb) hB.size)).trans (hB.block b (hx b hb))
        have F0 : Hid (∀ o, Calls Tryz.prog 76 #[.slice pl n cl, .string mk] (wr.alloc o) fun e w' => e = .returned (.bool true) ∧ w' = wr.alloc o) := fun o => fullItems_any (.slice pl n cl) n mk (wr.alloc o) (kp o _ (fun b hb => (hen.ap b (.inl hb)).2.1) _ hen.fl) (by omega)
        have F1 : Hid (∀ o, Calls Tryz.prog 76 #[.slice pa (n + 1) ca, .string mk] (wr.alloc o) fun e w' => e = .returned (.bool true) ∧ w' = wr.alloc o) := fun o => fullItems_any (.slice pa (n + 1) ca) (n + 1) mk (wr.alloc o) (kp o _ (fun b hb => (hen.ap b (.inr (.inl hb))).2.1) _ hen.fa) (by omega)
        have F2 : Hid (∀ o, Calls Tryz.prog 76 #[.slice pb (n + 2) cb, .string mk] (wr.alloc o) fun e w' => e = .returned (.bool true) ∧ w' = wr.alloc o) := fun o => fullItems_any (.slice pb (n + 2) cb) (n + 2) mk (wr.alloc o) (kp o _ (fun b hb => (hen.ap b (.inr (.inr (.inl hb)))).2.1) _ hen.fb) (by omega)
        have F3 : Hid (∀ o, Calls Tryz.prog 76 #[.slice pc (n + 3) cc, .string mk] (wr.alloc o) fun e w' => e = .returned (.bool true) ∧ w' = wr.alloc o) := fun o => fullItems_any (.slice pc (n + 3) cc) (n + 3) mk (wr.alloc o) (kp o _ (fun b hb => (hen.ap b (.inr (.inr (.inr hb)))).2.1) _ hen.fc) (by omega)
        have A1 : Aside (Below w.heap.size w wr) := hB
        clear hB kp cel hen hfl hee hg1 hg2 hg3 hg4 hg5 hg6 hnn
        go_wp2_with fail
        refine (F0.out _).mono ?_
        rintro e w1 ⟨rfl, rfl⟩
        go_wp2_with fail
        refine (F1.out _).mono ?_
        rintro e w1 ⟨rfl, rfl⟩
        go_wp2_with fail
        refine (F2.out _).mono ?_
        rintro e w1 ⟨rfl, rfl⟩
        go_wp2_with fail
        refine (F3.out _).mono ?_
        rintro e w1 ⟨rfl, rfl⟩
        go_wp2
        go_roundg (m - (k + 1))
        case measure => omega
        case rel => exact ⟨k + 1, by omega, rfl, val_int ((wrap64_nat1 k (by have := HE.out; omega))), A1.out.alloc A1.out.size _⟩
      · have hki : (m : Int) ≤ (k : Int) := by omega
        have A1 : Aside (Below w.heap.size w wr) := hB
        clear hB hlt
        go_wp2
        go_ret
        exact ⟨rfl, A1.out⟩
end Go.Proofs.YtjiikjpnlgogfaaGreatDoor
