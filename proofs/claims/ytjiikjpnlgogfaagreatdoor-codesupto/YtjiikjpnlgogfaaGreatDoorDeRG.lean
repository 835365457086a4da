/-
  tooDeep of package item, exactly, of whatever items.
  Encode of packages item and twigs, exactly, of whatever item that was made anew.
-/
import Derived.Test.YtjiikjpnlgogfaaGreatDoorDeeG
import Derived.Test.YtjiikjpnlgogfaaGreatDoorRawG
import Derived.Test.YtjiikjpnlgogfaaGreatDoorSamG
import Derived.Test.YtjiikjpnlgogfaaGreatDoorEndG
namespace Go.Proofs.YtjiikjpnlgogfaaGreatDoor
open Go.RowKit

/-- One row stands for one list of items. -/
theorem rows_unique {w : World} {v : Value} {ps qs : List (El × Raw)} (h1 : RowOff w v ps.length (ps.flatMap fun p => encI p.1)) (h2 : RowOff w v qs.length (qs.flatMap fun p => encI p.1))
    (hs : ∀ p ∈ ps, ∀ q ∈ qs, p.1.lst = q.1.lst → p.1.text = q.1.text → p.1.sub = q.1.sub → p.2 = q.2) : ps.map (·.2) = qs.map (·.2) := by
  obtain ⟨p, c, rfl⟩ := h1.shape
  have hl : ps.length = qs.length := h2.len
  refine List.ext_getElem (by simpa using hl) fun i hi1 hi2 => ?_
  rw [List.getElem_map, List.getElem_map]
  have k1 : i < ps.length := by simpa using hi1
  have k2 : i < qs.length := by simpa using hi2
  obtain ⟨g, off, rfl, -, c1⟩ := RowOff.cells (size := 3) (fun _ => rfl) h1 (by omega)
  obtain ⟨g', off', e, -, c2⟩ := RowOff.cells (size := 3) (fun _ => rfl) h2 (by omega)
  simp only [Option.some.injEq, Addr.mk.injEq, and_true] at e
  obtain ⟨rfl, rfl⟩ := e
  have a0 := (c1 i k1 0 _ rfl).symm.trans (c2 i k2 0 _ rfl)
  have a1 := (c1 i k1 1 _ rfl).symm.trans (c2 i k2 1 _ rfl)
  have a2 := (c1 i k1 2 _ rfl).symm.trans (c2 i k2 2 _ rfl)
  simp only [Option.some.injEq, Value.bool.injEq, Value.string.injEq] at a0 a1 a2
  exact hs _ (List.getElem_mem k1) _ (List.getElem_mem k2) a0 a1 a2
theorem RTree.unique {w : World} : ∀ (n n' : Nat) (e e' : El) (r r' : Raw), RTree encI n w e r → RTree encI n' w e' r' → e.lst = e'.lst → e.text = e'.text → e.sub = e'.sub → r = r' := by
  intro n
  induction n with
  | zero => intro n' e e' r r' h; exact h.elim
  | succ n ih =>
    intro n' e e' r r' h h' e1 e2 e3
    cases n' with
    | zero => exact h'.elim
    | succ n' =>
      obtain ⟨ps, a1, a2, rfl⟩ := h
      obtain ⟨qs, b1, b2, rfl⟩ := h'
      rw [e3] at a1
      rw [e1, e2, rows_unique a1 b1 fun p hp q hq => ih n' p.1 q.1 p.2 q.2 (a2 p hp) (b2 q hq)]

/-- The row there, of n items, so many deep, holds nothing too deep. -/
def GoodRow (w0 : World) (b n : Nat) (v : Int) : Prop := ∀ (cap d : Nat) (ps : List (El × Raw)), RowOff w0 (.slice (some ⟨b, 0, none⟩) n cap) ps.length (ps.flatMap fun p => encI p.1) → (∀ p ∈ ps, RTree encI d w0 p.1 p.2) → v + (rdeep (ps.map (·.2)) : Int) ≤ 6
theorem goodRow_of {w0 : World} {b n cap d : Nat} {v : Int} {ps : List (El × Raw)} (h1 : RowOff w0 (.slice (some ⟨b, 0, none⟩) n cap) ps.length (ps.flatMap fun p => encI p.1)) (h2 : ∀ p ∈ ps, RTree encI d w0 p.1 p.2) (h3 : v + (rdeep (ps.map (·.2)) : Int) ≤ 6) : GoodRow w0 b n v := by
  intro cap' d' qs k1 k2
  have e : ps.map (·.2) = qs.map (·.2) := by
    refine rows_unique (v := .slice (some ⟨b, 0, none⟩) n cap') ?_ k1 fun p hp q hq => RTree.unique d d' p.1 q.1 p.2 q.2 (h2 p hp) (k2 q hq)
    rcases h1 with ⟨⟨q, c, h⟩, hn, hc⟩ | ⟨g, off, c, e, h⟩
    · simp only [Value.slice.injEq] at h
      exact .inl ⟨⟨_, _, by rw [h.2.1]⟩, hn, hc⟩
    · simp only [Value.slice.injEq, Option.some.injEq, Addr.mk.injEq, and_true] at e
      obtain ⟨⟨rfl, rfl⟩, rfl, rfl⟩ := e
      exact .inr ⟨b, 0, cap', rfl, h⟩
  rw [← e]
  exact h3

/-- A map whose rows are good. -/
def KeyG (G : Nat → Nat → Int → Prop) (w : World) (e : MapEntry) : Prop := ∃ b n : Nat, ∃ v : Int, e.key = rowKey b n ∧ Plain w b ∧ e.val = .int .i64 v ∧ G b n v
def MapG (G : Nat → Nat → Int → Prop) (w : World) (mb : Nat) : Prop := ∃ es clock, w.heap[mb]? = some (.map es clock) ∧ ∀ e ∈ es.toList, KeyG G w e
theorem KeyG.ok {G : Nat → Nat → Int → Prop} {w : World} {e : MapEntry} (h : KeyG G w e) : KeyOK w e := by
  obtain ⟨b, n, v, h1, h2, h3, _⟩ := h
  exact ⟨b, n, v, h1, h2, h3⟩
theorem KeyG.keep {G : Nat → Nat → Int → Prop} {w w' : World} {e : MapEntry} (h : KeyG G w e) (hb : ∀ b, Plain w b → w'.heap[b]? = w.heap[b]?) : KeyG G w' e := by
  obtain ⟨b, n, v, h1, h2, h3, h4⟩ := h
  exact ⟨b, n, v, h1, h2.keep (hb b h2), h3, h4⟩
theorem MapG.below {G : Nat → Nat → Int → Prop} {w w' : World} {mb : Nat} (h : MapG G w mb) (hb : Below w.heap.size w w') : MapG G w' mb := by
  obtain ⟨es, clock, hm, hk⟩ := h
  have hmb : mb < w.heap.size := (Array.getElem?_eq_some_iff.1 hm).1
  exact ⟨es, clock, (hb.block mb hmb).trans hm, fun e he => (hk e he).keep fun b hb' => hb.block b hb'.lt⟩
theorem MapG.lt {G : Nat → Nat → Int → Prop} {w : World} {mb : Nat} (h : MapG G w mb) : mb < w.heap.size := by
  obtain ⟨es, clock, hm, _⟩ := h
  exact (Array.getElem?_eq_some_iff.1 hm).1
theorem MapG.alloc {G : Nat → Nat → Int → Prop} {w : World} {mb : Nat} (h : MapG G w mb) (o : Obj) : MapG G (w.alloc o) mb := h.below ((Below.refl _ _).alloc (Nat.le_refl _) o)

theorem lookup_g {G : Nat → Nat → Int → Prop} {a m mb : Nat} {w : World} (ha : Plain w a) (hM : MapG G w mb) : ∃ v : Int, (Instr.lookup 179 (.map (some mb)) (rowKey a m) false).run Tryz.prog w = .ok (.int .i64 v) w ∧ (v = 0 ∨ G a m v) := by
  obtain ⟨es, clock, hm, hkg⟩ := hM
  have hk : ∀ e ∈ es.toList, KeyOK w e := fun e he => (hkg e he).ok
  unfold Instr.lookup
  have hf := findKey_eq (a := a) (m := m) es.toList w hk
  rcases find_any (m := m) ha es.toList 0 hk with h | ⟨j, e, h, hj, hkey⟩
  · refine ⟨0, ?_, .inl rfl⟩
    simp [Sem.run_bind, run_underlying Tryz.underlying179, MapKept.run_getObj_map hm, rowCheck, hf, h]
  · obtain ⟨b, n, v, hb, _, hv, hG⟩ := hkg e (List.mem_of_getElem? hj)
    rw [hkey] at hb
    simp only [Value.agg.injEq, Array.mk.injEq, List.cons.injEq, Value.pointer.injEq, Option.some.injEq, Addr.mk.injEq, and_true, Value.int.injEq, true_and, Int.ofNat_inj] at hb
    obtain ⟨rfl, rfl⟩ := hb
    refine ⟨v, ?_, .inr hG⟩
    simp [Sem.run_bind, run_underlying Tryz.underlying179, MapKept.run_getObj_map hm, rowCheck, hf, h, hv]

theorem update_g {G : Nat → Nat → Int → Prop} {a m mb : Nat} {w : World} (v : Int) (ha : Plain w a) (hG : G a m v) (hM : MapG G w mb) : ∃ w', (Instr.mapUpdate 179 (.map (some mb)) (rowKey a m) (.int .i64 v)).run Tryz.prog w = .ok () w' ∧ MapG G w' mb ∧ w'.os = w.os ∧ w'.tape = w.tape ∧ w'.output = w.output ∧ w'.heap.size = w.heap.size ∧ ∀ k, k ≠ mb → w'.heap[k]? = w.heap[k]? := by
  obtain ⟨es, clock, hm, hkg⟩ := hM
  have hk : ∀ e ∈ es.toList, KeyOK w e := fun e he => (hkg e he).ok
  have hmb : mb < w.heap.size := (Array.getElem?_eq_some_iff.1 hm).1
  have hf := findKey_eq (a := a) (m := m) es.toList w hk
  have hother : ∀ (o : Obj) (k : Nat), k ≠ mb → ({ w with heap := w.heap.setIfInBounds mb o } : World).heap[k]? = w.heap[k]? := fun o k hne => by
    simp only [Array.getElem?_setIfInBounds]
    rw [if_neg (fun e => hne e.symm)]
  have hself : ∀ (o : Obj), ({ w with heap := w.heap.setIfInBounds mb o } : World).heap[mb]? = some o := fun o => by
    simp only [Array.getElem?_setIfInBounds, if_true, hmb]
  have hpl : ∀ (o : Obj) b, Plain w b → ({ w with heap := w.heap.setIfInBounds mb o } : World).heap[b]? = w.heap[b]? := fun o b hb => by
    refine hother o b (fun e => ?_)
    obtain ⟨c, t, hb⟩ := hb
    rw [e, hm] at hb
    cases hb
  unfold Instr.mapUpdate
  rcases find_any (m := m) ha es.toList 0 hk with h | ⟨j, e, h, hj, hkey⟩
  · refine ⟨_, by simp [Sem.run_bind, run_underlying Tryz.underlying179, MapKept.run_getObj_map hm, rowCheck, hf, h, MapKept.run_setObj_map _ hm]; rfl, ⟨_, _, hself _, fun e he => ?_⟩, rfl, rfl, rfl, by simp, fun k hne => hother _ k hne⟩
    rw [Array.toList_push] at he
    rcases List.mem_append.1 he with he | he
    · exact (hkg e he).keep (hpl _)
    · obtain rfl := List.mem_singleton.1 he
      exact ⟨a, m, v, rfl, ha.keep (hpl _ a ha), rfl, hG⟩
  · have hj' : es[j]? = some e := by simpa using hj
    have hst : ∀ w : World, (Instr.keyThatStays (((es[j]?).map (·.key)).getD (rowKey a m)) (rowKey a m)).run Tryz.prog w = .ok (rowKey a m) w := by
      intro w
      rw [hj']
      unfold Instr.keyThatStays
      simp only [Option.map_some, Option.getD_some, hkey]
      rw [sameBits_key]
      rfl
    refine ⟨_, by simp [Sem.run_bind, run_underlying Tryz.underlying179, MapKept.run_getObj_map hm, rowCheck, hf, h, MapKept.run_setObj_map _ hm, hst]; rfl, ⟨_, _, hself _, fun e he => ?_⟩, rfl, rfl, rfl, by simp, fun k hne => hother _ k hne⟩
    have : e ∈ (es.modify j fun e => { key := rowKey a m, val := .int .i64 v, born := e.born }).toList := he
    rw [Array.toList_modify] at this
    obtain ⟨i, hi, hie⟩ := List.mem_iff_getElem.1 this
    rw [List.getElem_modify] at hie
    split at hie
    · rw [← hie]
      exact ⟨a, m, v, rfl, ha.keep (hpl _ a ha), rfl, hG⟩
    · rw [← hie]
      exact (hkg _ (List.getElem_mem _)).keep (hpl _)

/-- What tooDeep answers. -/
def DeepIs (w0 : World) (mb : Nat) (b : Bool) (W : World) (e : Ending) (w' : World) : Prop := e = .returned (.bool b) ∧ Only mb W w' ∧ (b = false → MapG (GoodRow w0) w' mb)

/-- Gone through so far. -/
def GHalf (w0 : World) (mb gr m : Nat) (w wr : World) : Prop :=
  Only mb w wr ∧ MapG (GoodRow w0) wr mb ∧ w.heap.size < wr.heap.size ∧ wr.cell? ⟨w.heap.size, 0, none⟩ = some (.pointer (some ⟨gr, 0, none⟩)) ∧ wr.cell? ⟨w.heap.size, 1, none⟩ = some (.int .i64 (m : Int))
theorem GHalf.alloc {w0 : World} {mb gr m : Nat} {w wr : World} (h : GHalf w0 mb gr m w wr) (o : Obj) : GHalf w0 mb gr m w (wr.alloc o) := by
  obtain ⟨h1, h2, h3, h4, h5⟩ := h
  exact ⟨h1.alloc o, h2.alloc o, by simp; omega, (World.cell?_alloc_past _ _ _ h3).trans h4, (World.cell?_alloc_past _ _ _ h3).trans h5⟩
theorem GHalf.only {w0 : World} {mb gr m : Nat} {w wr w1 : World} (h : GHalf w0 mb gr m w wr) (ho : Only mb wr w1) (hM : MapG (GoodRow w0) w1 mb) (hne : w.heap.size ≠ mb) : GHalf w0 mb gr m w w1 := by
  obtain ⟨h1, h2, h3, h4, h5⟩ := h
  have e := ho.block w.heap.size h3 hne
  exact ⟨h1.trans ho, hM, Nat.lt_of_lt_of_le h3 ho.size, (World.cell?_of_block e).trans h4, (World.cell?_of_block e).trans h5⟩

set_option maxRecDepth 100000 in
set_option maxHeartbeats 3200000 in
theorem deep_over (w0 : World) (mb dp : Nat) (q : Option Addr) (m c : Nat) (w : World) (hdp : 6 < dp) :
    Calls Tryz.prog 90 #[.map (some mb), .slice q m c, .int .i64 (dp : Int)] w (DeepIs w0 mb true w) := by
  have hd6 : (6 : Int) < (dp : Int) := by omega
  clear hdp
  go_enter Tryz.func90, Tryz.ntmps90
  go_wp2
  go_ret
  exact ⟨rfl, Only.refl _ _, fun h => by cases h⟩

theorem rdeep_take' (rs : List Raw) (k : Nat) {x : Raw} (h : rs[k]? = some x) : rdeep (rs.take (k + 1)) = max (rdeep (rs.take k)) x.depth := by
  have hk := (List.getElem?_eq_some_iff.1 h).1
  rw [← List.take_append_getElem hk, rdeep_append, (List.getElem?_eq_some_iff.1 h).2, rdeep, rdeep, Nat.max_eq_left (Nat.zero_le _)]

set_option maxRecDepth 100000 in
set_option maxHeartbeats 3200000 in
theorem deepR_body (mb dp d : Nat) (q : Option Addr) (m c : Nat) (ps : List (El × Raw)) (F : Nat → Prop) (w0 w : World) (hdp : dp ≤ 6) (hdp1 : 1 ≤ dp) (hm2 : m ≤ 1048576) (hrow : RowAt w0 F (.slice q m c) ps.length (ps.flatMap fun x => encI x.1)) (hT : ∀ x ∈ ps, RTree encI d w0 x.1 x.2)
    (hb : Below w0.heap.size w0 w) (hM : MapG (GoodRow w0) w mb) (hmb : w0.heap.size ≤ mb)
    (hN : ∀ x ∈ ps, x.1.lst = true → ∀ W, Below w0.heap.size w0 W → MapG (GoodRow w0) W mb → Calls Tryz.prog 90 #[.map (some mb), x.1.sub, .int .i64 ((dp + 1 : Nat) : Int)] W (DeepIs w0 mb (decide (6 < dp + x.2.depth)) W)) :
    Calls Tryz.prog 90 #[.map (some mb), .slice q m c, .int .i64 (dp : Int)] w (DeepIs w0 mb (decide (6 < dp + rdeep (ps.map (·.2)))) w) := by
  have hd6 : (dp : Int) ≤ 6 := by omega
  have hm : m = ps.length := by
    rcases hrow with ⟨h, h', _⟩ | ⟨g, cap, h, _⟩
    · simp only [Value.slice.injEq] at h
      omega
    · simp only [Value.slice.injEq] at h
      exact h.2.1
  by_cases h0 : m = 0
  · subst h0
    have hps : ps = [] := List.eq_nil_of_length_eq_zero (by omega)
    subst hps
    have e : decide (6 < dp + rdeep (([] : List (El × Raw)).map (·.2))) = false := decide_eq_false (by simp only [List.map_nil, rdeep]; omega)
    rw [e]
    have A : Aside (Below w0.heap.size w0 w ∧ MapG (GoodRow w0) w mb) := ⟨hb, hM⟩
    clear hN hrow hT hm hb hM e
    go_enter Tryz.func90, Tryz.ntmps90
    go_wp2
    go_ret
    exact ⟨rfl, Only.refl _ _, fun _ => A.out.2⟩
  · obtain ⟨gr, cap, er, hcap, hFg, hgs, hpl, hcells⟩ := hrow.cells (size := 3) (fun _ => rfl) (by omega)
    obtain ⟨rfl, _⟩ : q = some ⟨gr, 0, none⟩ ∧ True := by
      simp only [Value.slice.injEq] at er
      exact ⟨er.1, trivial⟩
    have hoff : RowOff w0 (.slice (some ⟨gr, 0, none⟩) m c) ps.length (ps.flatMap fun x => encI x.1) := by
      rcases hrow with ⟨h, _⟩ | ⟨g, cap, h, _, _, _, _, h2⟩
      · cases h
      · simp only [Value.slice.injEq, Option.some.injEq, Addr.mk.injEq, and_true] at h
        obtain ⟨rfl, h3, rfl⟩ := h
        exact .inr ⟨gr, 0, c, by rw [← h3], h2⟩
    have hplw : Plain w gr := hpl.keep (hb.block gr hgs)
    have h0i : ((m : Int) == 0) = false := by simp; omega
    have h0p : (0 : Int) < (m : Int) := by omega
    obtain ⟨rs, hrs⟩ : ∃ rs, ps.map (·.2) = rs := ⟨_, rfl⟩
    rw [hrs]
    obtain ⟨b, hbv⟩ : ∃ b, decide (6 < dp + rdeep rs) = b := ⟨_, rfl⟩
    rw [hbv]
    obtain ⟨vl, hvl, hvg⟩ := lookup_g (m := m) (hplw.keep (Below.heap_alloc w (.cells #[.pointer (some ⟨gr, 0, none⟩), .int .i64 (m : Int)] 250) gr hplw.lt)) (hM.alloc (.cells #[.pointer (some ⟨gr, 0, none⟩), .int .i64 (m : Int)] 250))
    have hvl : (Instr.lookup 179 (.map (some mb)) (.agg #[.pointer (some ⟨gr, 0, none⟩), .int .i64 (m : Int)]) false).run Tryz.prog (w.alloc (.cells #[.pointer (some ⟨gr, 0, none⟩), .int .i64 (m : Int)] 250)) = .ok (.int .i64 vl) (w.alloc (.cells #[.pointer (some ⟨gr, 0, none⟩), .int .i64 (m : Int)] 250)) := hvl
    have HV : Hid ((dp : Int) ≤ vl → b = false) := fun hge => by
      rcases hvg with rfl | hvg
      · omega
      · have := hvg c d ps hoff hT
        rw [hrs] at this
        rw [← hbv]
        exact decide_eq_false (by omega)
    have HG : Hid (dp + rdeep rs ≤ 6 → GoodRow w0 gr m (dp : Int)) := fun h => goodRow_of hoff hT (by rw [hrs]; omega)
    have HB : Hid (decide (6 < dp + rdeep rs) = b ∧ ps.map (·.2) = rs) := ⟨hbv, hrs⟩
    have A : Aside (Below w0.heap.size w0 w ∧ MapG (GoodRow w0) w mb ∧ Plain w0 gr ∧ m = ps.length ∧ m ≤ 1048576 ∧ w0.heap.size ≤ mb ∧ gr < w0.heap.size) := ⟨hb, hM, hpl, hm, hm2, hmb, hgs⟩
    have HN := Hid.hide hN
    have HT := Hid.hide hT
    have HCs := Hid.hide hcells
    clear hN hT hcells hb hM hm hm2 hrow er hplw hFg hpl hmb hgs hoff hrs hbv hvg
    by_cases hge : (dp : Int) ≤ vl
    · obtain rfl := HV.out hge
      go_enter Tryz.func90, Tryz.ntmps90
      go_wp2
      go_ret
      exact ⟨rfl, (Only.refl _ _).alloc _, fun _ => A.out.2.1.alloc _⟩
    · have hlt : vl < (dp : Int) := by omega
      go_enter Tryz.func90, Tryz.ntmps90
      go_wp2
      go_loopg [27] m (fun gh i wr => ∃ k, k ≤ m ∧ gh = m - k ∧ i = .int .i64 (k : Int) ∧ GHalf w0 mb gr m w wr ∧ dp + rdeep (rs.take k) ≤ 6)
      case atStart => exact ⟨0, Nat.zero_le _, rfl, rfl, ⟨(Only.refl _ _).alloc _, A.out.2.1.alloc _, by simp, by rw [World.cell?_alloc_new]; rfl, by rw [World.cell?_alloc_new]; rfl⟩, by simp only [List.take_zero, rdeep]; omega⟩
      case round =>
        obtain ⟨k, hk, rfl, rfl, hD, hsum⟩ := hrel
        obtain ⟨hO, hMr, hwr, k0, k1⟩ := hD
        by_cases hlt2 : k < m
        · have hki : (k : Int) < (m : Int) := by omega
          have hkp : k < ps.length := by have := A.out.2.2.2.1; omega
          have hBr : Below w0.heap.size w0 wr := hO.below A.out.1 A.out.2.2.2.2.2.1 A.out.1.size
          have hq := List.getElem_mem hkp
          obtain ⟨x, hqe⟩ : ∃ x, ps[k] = x := ⟨_, rfl⟩
          have hxk : rs[k]? = some x.2 := by rw [← HB.out.2, List.getElem?_map, List.getElem?_eq_getElem hkp, hqe]; rfl
          obtain ⟨⟨fr', en', l', tx', sub'⟩, x'⟩ := x
          rw [hqe] at hq
          obtain ⟨p', m', c', hs'⟩ := (HT.out _ hq).shape
          simp only at hs' hxk
          subst hs'
          have hrk := HCs.out k hkp
          rw [hqe] at hrk
          have hge := hBr.block gr A.out.2.2.2.2.2.2
          have r0 : wr.cell? ⟨gr, k * 3, none⟩ = some (.bool l') := (World.cell?_of_block hge).trans (hrk 0 _ rfl)
          have r1 : wr.cell? ⟨gr, k * 3 + 1, none⟩ = some (.string tx') := (World.cell?_of_block hge).trans (hrk 1 _ rfl)
          have r2 : wr.cell? ⟨gr, k * 3 + 2, none⟩ = some (.slice p' m' c') := (World.cell?_of_block hge).trans (hrk 2 _ rfl)
          have hdl : l' = false → x'.depth = 0 := by
            have := HT.out _ hq
            cases d with
            | zero => exact this.elim
            | succ d =>
              obtain ⟨qs, _, _, he⟩ := this
              rintro rfl
              simp only at he
              rw [he, Raw.depth]
              rfl
          have HC : Hid (l' = true → ∀ o, Calls Tryz.prog 90 #[.map (some mb), .slice p' m' c', .int .i64 ((dp + 1 : Nat) : Int)] (wr.alloc o) (DeepIs w0 mb (decide (6 < dp + x'.depth)) (wr.alloc o))) := fun hl o => HN.out _ hq hl (wr.alloc o) (hBr.alloc hBr.size o) (hMr.alloc o)
          have A1 : Aside (GHalf w0 mb gr m w wr ∧ dp + rdeep (rs.take k) ≤ 6 ∧ rdeep (rs.take (k + 1)) = max (rdeep (rs.take k)) x'.depth ∧ x'.depth ≤ rdeep rs) := ⟨⟨hO, hMr, hwr, k0, k1⟩, hsum, rdeep_take' rs k hxk, rdeep_mem (List.mem_of_getElem? hxk)⟩
          have hdw : wrap64 ((dp : Int) + 1) = ((dp + 1 : Nat) : Int) := wrap64_succ dp (by omega)
          clear hrk hge hqe hq hBr hO hMr hwr k0 k1 hsum hxk
          cases l' with
          | false =>
            have H5 := Hid.hide (hdl rfl)
            clear hdl
            go_wp2
            go_roundg (m - (k + 1))
            case measure => omega
            case rel => exact ⟨k + 1, by omega, rfl, by rw [wrap64_succ k (by have := A.out.2.2.2.2.1; omega)], A1.out.1.alloc _, by have := A1.out; have h5 := H5.out; rw [this.2.2.1, h5]; omega⟩
          | true =>
            have HC2 := Hid.hide (HC.out rfl)
            clear HC hdl
            obtain ⟨bx, hbx⟩ : ∃ bx, decide (6 < dp + x'.depth) = bx := ⟨_, rfl⟩
            rw [hbx] at HC2
            have HX := Hid.hide hbx
            clear hbx
            go_wp2_with fail
            refine (HC2.out _).mono ?_
            rintro e w1 ⟨rfl, hO1, hM1⟩
            cases bx with
            | false =>
              have A2 : Aside (GHalf w0 mb gr m w w1) := GHalf.only (A1.out.1.alloc _) hO1 (hM1 rfl) (Nat.ne_of_gt A.out.2.1.lt)
              clear hO1 hM1
              go_wp2
              go_roundg (m - (k + 1))
              case measure => omega
              case rel => exact ⟨k + 1, by omega, rfl, by rw [wrap64_succ k (by have := A.out.2.2.2.2.1; omega)], A2.out, by have h1 := A1.out; have h2 := of_decide_eq_false HX.out; rw [h1.2.2.1]; omega⟩
            | true =>
              have A2 : Aside (Only mb w w1 ∧ b = true) := ⟨(A1.out.1.alloc _).1.trans hO1, by
                have h1 := A1.out
                have h2 := of_decide_eq_true HX.out
                rw [← HB.out.1]
                exact decide_eq_true (by omega)⟩
              clear hO1 hM1
              go_wp2
              go_ret
              exact ⟨by rw [A2.out.2]; rfl, A2.out.1, fun h => Bool.noConfusion (A2.out.2.symm.trans h)⟩
        · have hki : (m : Int) ≤ (k : Int) := by omega
          have hplr : Plain wr gr := A.out.2.2.1.keep ((hO.below A.out.1 A.out.2.2.2.2.2.1 A.out.1.size).block gr A.out.2.2.2.2.2.2)
          have hall : dp + rdeep rs ≤ 6 := by
            have e : rs.take k = rs := List.take_of_length_le (by rw [← HB.out.2, List.length_map]; have := A.out.2.2.2.1; omega)
            rwa [e] at hsum
          obtain ⟨w2, hu, hM2, e1, e2, e3, e4, e5⟩ := update_g (m := m) (dp : Int) hplr (HG.out hall) hMr
          have hu : (Instr.mapUpdate 179 (.map (some mb)) (.agg #[.pointer (some ⟨gr, 0, none⟩), .int .i64 (m : Int)]) (.int .i64 (dp : Int))).run Tryz.prog wr = .ok () w2 := hu
          have A1 : Aside (Only mb w w2 ∧ MapG (GoodRow w0) w2 mb ∧ b = false) := ⟨hO.trans ⟨e1, e2, e3, Nat.le_of_eq e4.symm, fun k _ hne => e5 k hne⟩, hM2, by rw [← HB.out.1]; exact decide_eq_false (by omega)⟩
          clear hO hMr hwr hplr hM2 e1 e2 e3 e4 e5 hlt2 hsum hall
          go_wp2
          go_ret
          exact ⟨by rw [A1.out.2.2]; rfl, A1.out.1, fun _ => A1.out.2.1⟩

/-- tooDeep, of whatever items that were made anew. -/
theorem deepR_any : ∀ (n dp mb lo hi : Nat) (q : Option Addr) (m c : Nat) (ps : List (El × Raw)) (iv : Nat → Nat × Nat) (w0 w : World), 1 ≤ dp → SRow w0 lo hi (.slice q m c) ps iv → (∀ i (h : i < ps.length), TreeS n w0 (iv i).1 (iv i).2 ps[i].1 ps[i].2) → rsize (ps.map (·.2)) ≤ 1048576 →
    Below w0.heap.size w0 w → MapG (GoodRow w0) w mb → w0.heap.size ≤ mb → Calls Tryz.prog 90 #[.map (some mb), .slice q m c, .int .i64 (dp : Int)] w (DeepIs w0 mb (decide (6 < dp + rdeep (ps.map (·.2)))) w) := by
  intro n
  induction n with
  | zero =>
    intro dp mb lo hi q m c ps iv w0 w hd hrow ht hl hb hM hmb
    have hps : ps = [] := by
      cases ps with
      | nil => rfl
      | cons x ps => exact (ht 0 (by simp)).elim
    subst hps
    by_cases h6 : 6 < dp
    · rw [decide_eq_true (by omega)]
      exact deep_over w0 mb dp q m c w h6
    · refine deepR_body mb dp 0 q m c [] _ w0 w (by omega) hd (by have := hrow.own.rowOff.len; simp at this; omega) hrow.rowAt (by simp) hb hM hmb (by simp)
  | succ n ih =>
    intro dp mb lo hi q m c ps iv w0 w hd hrow ht hl hb hM hmb
    by_cases h6 : 6 < dp
    · rw [decide_eq_true (by omega)]
      exact deep_over w0 mb dp q m c w h6
    · have hcnt := rsize_length (ps.map (·.2))
      rw [List.length_map] at hcnt
      have hmem : ∀ x ∈ ps, ∃ lo hi, TreeS (n + 1) w0 lo hi x.1 x.2 := fun x hx => by
        obtain ⟨i, hi', rfl⟩ := List.mem_iff_getElem.1 hx
        exact ⟨_, _, ht i hi'⟩
      refine deepR_body mb dp (n + 1) q m c ps _ w0 w (by omega) hd (by have := hrow.own.rowOff.len; omega) hrow.rowAt (fun x hx => by obtain ⟨_, _, h⟩ := hmem x hx; exact h.read) hb hM hmb (fun x hx hlst W hW hMW => ?_)
      obtain ⟨lo', hi', qs, iv', k1, k2, k3⟩ := hmem x hx
      obtain ⟨q', c', hs⟩ := k1.own.rowOff.shape
      have hsz := rsize_mem (List.mem_map_of_mem (f := (·.2)) hx)
      rw [hs] at k1 ⊢
      rw [k3, hlst, Raw.depth, if_pos rfl]
      rw [k3, Raw.size] at hsz
      have := ih (dp + 1) mb lo' hi' q' qs.length c' qs iv' w0 W (by omega) k1 k2 (by simp only at hsz; omega) hW hMW hmb
      rw [show dp + (rdeep (qs.map (·.2)) + 1) = dp + 1 + rdeep (qs.map (·.2)) by omega]
      exact this
end Go.Proofs.YtjiikjpnlgogfaaGreatDoor

namespace Go.Proofs.YtjiikjpnlgogfaaGreatDoor
open Go.RowKit

set_option maxRecDepth 100000 in
set_option maxHeartbeats 1600000 in
theorem ai_textR {l : List Nat} {n : Nat} (p : Option Addr) (k : Nat) (tx : ByteArray) (q : Option Addr) (m0 c0 : Nat) (sent : Nat → Addr) (w0 w : World) (hb : Below w0.heap.size w0 w) (hn : l.length = n) (hO : Own w w0.heap.size (.slice p n k) l) (hl : n ≤ 2048) (hF : Faults w0 sent) :
    Calls Tryz.prog 91 #[.slice p n k, .agg #[.bool false, .string tx, .slice q m0 c0]] w (AppSaid w0.heap.size (.slice p n k) l (textCode (bytesOf tx)) sent w) := by
  have hbl := bytesOf_length tx
  have hcl := (textCode_pos (bytesOf tx)).2
  have hbs := hb.size
  obtain ⟨c, hc⟩ : ∃ c, textCode (bytesOf tx) = c := ⟨_, rfl⟩
  by_cases hbig : tx.size ≤ 2048
  · have hbi : (tx.size : Int) ≤ 2048 := by omega
    have HT : Hid (∀ o, Calls Tryz.prog 103 #[.slice p n k, .string tx] (w.alloc o) fun e w' => ∃ v', e = .returned v' ∧ Grew (w.alloc o) w' w0.heap.size (.slice p n k) v' (l ++ textCode (bytesOf tx))) := fun o => text_any tx (w.alloc o) (hO.alloc o) (by simp; omega) (by omega) (by omega)
    rw [hc] at HT ⊢
    have A : Aside (Faults w0 sent ∧ Below w0.heap.size w0 w ∧ l.length = n ∧ Own w w0.heap.size (.slice p n k) l) := ⟨hF, hb, hn, hO⟩
    clear hF hO hbl hcl hc hbig hb hbs hn hl
    go_enter Tryz.func91, Tryz.ntmps91
    go_wp2_with fail
    refine (HT.out _).mono ?_
    rintro e w1 ⟨v', rfl, hg⟩
    obtain ⟨p', k', rfl⟩ := hg.own.shape
    have hlen : (l ++ c).length = n + c.length := by rw [List.length_append, A.out.2.2.1]
    rw [hlen] at hg ⊢
    obtain ⟨m, hm⟩ : ∃ m, n + c.length = m := ⟨_, rfl⟩
    obtain ⟨hF1, hF2⟩ := longAt A.out.1 (hg.below (A.out.2.2.2.alloc _) (A.out.2.1.alloc A.out.2.1.size _) (by have := A.out.2.1.size; simp; omega))
    obtain ⟨E1, E2⟩ := app_end (w0 := w0) (sent := sent) A.out.2.2.1 (Grew.after ((Below.refl _ _).alloc (Nat.le_refl _) _) hg)
    rw [hm] at E1 E2 ⊢
    have B1 : Aside _ := E1
    have B2 : Aside _ := E2
    clear hg E1 E2 hlen hm
    by_cases hle : m ≤ 2048
    · have hlei : (m : Int) ≤ 2048 := by omega
      go_wp2
      go_ret2
      exact B1.out hle
    · have hlei : (2048 : Int) < (m : Int) := by omega
      go_wp2
      go_region
      go_wp2
      go_ret2
      exact B2.out (by omega)
  · have hbi : (2048 : Int) < (tx.size : Int) := by omega
    obtain ⟨hF1, hF2⟩ := longAt hF hb
    have hF3 := fun o => cell_past o hF1 hF2
    rw [hc]
    have A : Aside (2048 < l.length + c.length) := by rw [← hc]; exact (by omega : 2048 < l.length + (textCode (bytesOf tx)).length)
    clear hF hO hbl hcl hc hbig hb hbs hn hl
    go_enter Tryz.func91, Tryz.ntmps91
    go_wp2
    go_region
    go_wp2
    go_ret2
    exact .inr ⟨A.out, below_grown _ ((Below.refl _ _).alloc (Nat.le_refl _) _).drew, rfl⟩

theorem flatCodes_raw (ps : List (El × Raw)) : flatCodes (ps.map fun p => (p.1, p.2.code)) = rcodes (ps.map (·.2)) := by
  induction ps with
  | nil => rfl
  | cons p ps ih =>
    unfold flatCodes at ih ⊢
    rw [List.map_cons, List.map_cons, List.flatMap_cons, rcodes, ih]

/-- appendItem, of whatever item. -/
theorem aiR_any (sent : Nat → Addr) : ∀ (n lo hi : Nat) (e : El) (r : Raw) (w0 w : World) (p : Option Addr) (m k : Nat) (l : List Nat), TreeS n w0 lo hi e r → r.size ≤ 1048576 → Faults w0 sent → Below w0.heap.size w0 w → l.length = m → Own w w0.heap.size (.slice p m k) l → m ≤ 2048 →
    Calls Tryz.prog 91 #[.slice p m k, valI e] w (AppSaid w0.heap.size (.slice p m k) l r.code sent w) := by
  intro n
  induction n with
  | zero => intro lo hi e r w0 w p m k l h; exact h.elim
  | succ n ih =>
    rintro lo hi ⟨fr, en, lst, tx, sub⟩ r w0 w p m k l ⟨ps, iv, h1, h2, rfl⟩ hr hF hb hl hO hm
    rw [Raw.size] at hr
    simp only at hr h1
    obtain ⟨q, c', hs⟩ := h1.own.rowOff.shape
    subst hs
    rw [Raw.code]
    cases lst with
    | false => exact ai_textR p k tx q _ c' sent w0 w hb hl hO hm hF
    | true =>
      have hcnt := rsize_length (ps.map (·.2))
      rw [List.length_map] at hcnt
      simp only [if_true]
      refine ai_list p k tx q ps.length c' sent w0 w hb hl hO hm hF (fun W hW => ?_)
      have hW0 : Below w0.heap.size w0 W := hb.trans (hW.mono hb.size)
      have hrow : RowAt W (fun _ => True) (.slice q ps.length c') (ps.map fun p => (p.1, p.2.code)).length ((ps.map fun p => (p.1, p.2.code)).flatMap fun x => encI x.1) := by
        rw [List.length_map, List.flatMap_map]
        exact h1.rowAt.keep (fun _ h => h) hW0.size (fun k _ hk => hW0.block k hk)
      rw [← flatCodes_raw]
      have hmem : ∀ x ∈ (ps.map fun p => (p.1, p.2.code)), ∃ lo hi r, TreeS n w0 lo hi x.1 r ∧ x.2 = r.code ∧ r.size ≤ rsize (ps.map (·.2)) := fun x hx => by
        obtain ⟨y, hy, rfl⟩ := List.mem_map.1 hx
        have hsz := rsize_mem (List.mem_map_of_mem (f := (·.2)) hy)
        obtain ⟨i, hi', rfl⟩ := List.mem_iff_getElem.1 hy
        exact ⟨_, _, _, h2 i hi', rfl, hsz⟩
      refine apps_any _ q ps.length c' _ sent W (by rw [List.length_map]) (by omega) hrow (fun x hx => ?_) (fun x hx W' p n k l hW' hl' hO' hn => ?_)
      · obtain ⟨_, _, _, h, _⟩ := hmem x hx
        exact h.shape
      · obtain ⟨lo', hi', r, h, e, hsz⟩ := hmem x hx
        rw [e]
        exact ih lo' hi' x.1 r W W' p n k l (h.below hW0) (by omega) (hF.below hW0) hW' hl' hO' hn

def errV (sent : Nat → Addr) (n : Nat) : Value := if n = 0 then .nilIface else .iface 423 (.pointer (some (sent n)))
def EncIs (r : Raw) (sent : Nat → Addr) (w : World) (e : Ending) (w' : World) : Prop :=
  Below w.heap.size w w' ∧ e = .returned (.tuple #[.string (textB (encR' r).1), errV sent (encR' r).2])

theorem encR'_deep {r : Raw} (h : 6 < r.depth) : encR' r = ([], 5) := by unfold encR'; rw [if_pos h]
theorem encR'_long {r : Raw} (h : ¬ 6 < r.depth) (h2 : 2048 < r.code.length) : encR' r = ([], 1) := by unfold encR'; rw [if_neg h, if_pos h2]
theorem encR'_ok {r : Raw} (h : ¬ 6 < r.depth) (h2 : ¬ 2048 < r.code.length) : encR' r = (r.code, 0) := by unfold encR'; rw [if_neg h, if_neg h2]

set_option maxRecDepth 100000 in
set_option maxHeartbeats 3200000 in
theorem encodeR_body (l : Bool) (tx : ByteArray) (q : Option Addr) (m c : Nat) (r : Raw) (sent : Nat → Addr) (w : World) (hF : Faults w sent) (hl0 : l = false → r.depth = 0)
    (hD : l = true → ∀ W mb, Below w.heap.size w W → MapG (GoodRow w) W mb → w.heap.size ≤ mb → Calls Tryz.prog 90 #[.map (some mb), .slice q m c, .int .i64 1] W (DeepIs w mb (decide (6 < r.depth)) W))
    (hA : ∀ W, Below w.heap.size w W → Calls Tryz.prog 91 #[.slice none 0 0, .agg #[.bool l, .string tx, .slice q m c]] W (AppSaid w.heap.size (.slice none 0 0) [] r.code sent W)) :
    Calls Tryz.prog 53 #[.agg #[.bool l, .string tx, .slice q m c]] w (EncIs r sent w) := by
  have HA := Hid.hide hA
  have HF := Hid.hide hF
  have hend : ∀ w2 W, Below w.heap.size w W → ∀ p n k, Grew W w2 w.heap.size (.slice none 0 0) (.slice p n k) r.code → (convert 111 9 (.slice p n k)).run Tryz.prog w2 = .ok (.string (textB r.code)) w2 ∧ Below w.heap.size w w2 := fun w2 W hW p n k hg => ⟨run_own_text w2 _ _ _ Tryz.underlying111 Tryz.underlying5 Tryz.underlying9 hg.own, hg.below (Own.nil _ _) hW hW.size⟩
  have HE := Hid.hide hend
  clear hA hend hF
  cases l with
  | true =>
    have HD := Hid.hide (hD rfl)
    have hmk := fun W : World => run_makeMap (P := Tryz.prog) 179 W
    clear hD hl0
    obtain ⟨b, hbv⟩ : ∃ b, decide (6 < r.depth) = b := ⟨_, rfl⟩
    rw [hbv] at HD
    have HB := Hid.hide hbv
    clear hbv
    go_enter Tryz.func53, Tryz.ntmps53
    go_wp2_with fail
    refine (HD.out _ _ (((Below.refl _ _).alloc (Nat.le_refl _) _).alloc (by simp) _) ⟨#[], 0, ?mk, by simp⟩ (by simp)).mono ?_
    case mk =>
      have := heap_alloc_new (w.alloc (.cells #[.bool true, .string tx, .slice q m c] 45)) (.map #[] 0)
      simpa using this
    rintro e w1 ⟨rfl, hO, _⟩
    have hB : Below w.heap.size w w1 := hO.below (((Below.refl _ _).alloc (Nat.le_refl _) _).alloc (by simp) _) (by omega) (by simp; omega)
    have hbl : w1.heap[w.heap.size]? = some (.cells #[.bool true, .string tx, .slice q m c] 45) := (hO.block w.heap.size (by simp; omega) (by omega)).trans ((Below.heap_alloc _ _ _ (by simp)).trans (heap_alloc_new _ _))
    have k0 : w1.cell? ⟨w.heap.size, 0, none⟩ = some (.bool true) := by rw [World.cell?, hbl]; rfl
    have k1 : w1.cell? ⟨w.heap.size, 1, none⟩ = some (.string tx) := by rw [World.cell?, hbl]; rfl
    have k2 : w1.cell? ⟨w.heap.size, 2, none⟩ = some (.slice q m c) := by rw [World.cell?, hbl]; rfl
    have B1 : Aside (Below w.heap.size w w1) := hB
    have hg1 : w1.cell? ⟨3, 0, none⟩ = some (.iface 423 (.pointer (some (sent 5)))) := (HF.out.below hB).var 5 (by decide)
    have hg2 : 3 < w1.heap.size := (HF.out.below hB).low (n := 5) (by decide)
    clear hO hB hbl
    cases b with
    | true =>
      have A5 : Aside (encR' r = ([], 5)) := encR'_deep (of_decide_eq_true HB.out)
      go_wp2
      go_region
      go_wp2
      go_ret2
      refine ⟨B1.out.drew, ?_⟩
      rw [A5.out]
      rfl
    | false =>
      have HB2 := Hid.hide (of_decide_eq_false HB.out)
      clear HB
      go_wp2_with fail
      refine (HA.out _ B1.out).mono ?_
      rintro e w2 hd
      rcases hd with ⟨h1, p2, c2, rfl, hg⟩ | ⟨h1, hg, rfl⟩
      · simp only [List.length_nil, Nat.zero_add, List.nil_append] at h1 hg ⊢
        obtain ⟨hcv, hb⟩ := HE.out w2 _ B1.out _ _ _ hg
        have A1 : Aside (encR' r = (r.code, 0) ∧ Below w.heap.size w w2) := ⟨encR'_ok HB2.out (by omega), hb⟩
        clear hg h1 hb
        go_wp2
        go_ret2
        refine ⟨A1.out.2, ?_⟩
        rw [A1.out.1]
        rfl
      · have A1 : Aside (encR' r = ([], 1) ∧ Below w.heap.size w w2) := ⟨encR'_long HB2.out (by simpa using h1), (Own.nil _ _).grown hg B1.out B1.out.size⟩
        clear hg h1
        go_wp2
        go_ret2
        refine ⟨A1.out.2, ?_⟩
        rw [A1.out.1]
        rfl
  | false =>
    have HB2 : Hid (¬ 6 < r.depth) := by rw [hl0 rfl]; exact (by omega : ¬ 6 < 0)
    clear hD hl0
    go_enter Tryz.func53, Tryz.ntmps53
    go_wp2_with fail
    refine (HA.out _ ((Below.refl _ _).alloc (Nat.le_refl _) _)).mono ?_
    rintro e w1 hd
    rcases hd with ⟨h1, p2, c2, rfl, hg⟩ | ⟨h1, hg, rfl⟩
    · simp only [List.length_nil, Nat.zero_add, List.nil_append] at h1 hg ⊢
      obtain ⟨hcv, hb⟩ := HE.out w1 _ ((Below.refl _ _).alloc (Nat.le_refl _) _) _ _ _ hg
      have A1 : Aside (encR' r = (r.code, 0) ∧ Below w.heap.size w w1) := ⟨encR'_ok HB2.out (by omega), hb⟩
      clear hg h1 hb
      go_wp2
      go_ret2
      refine ⟨A1.out.2, ?_⟩
      rw [A1.out.1]
      rfl
    · have A1 : Aside (encR' r = ([], 1) ∧ Below w.heap.size w w1) := ⟨encR'_long HB2.out (by simpa using h1), Below.up ((Own.nil _ _).grown hg (Below.refl _ _) (Nat.le_refl _))⟩
      clear hg h1
      go_wp2
      go_ret2
      refine ⟨A1.out.2, ?_⟩
      rw [A1.out.1]
      rfl

set_option maxRecDepth 100000 in
/-- Encode of package item. -/
theorem encodeR_any (n lo hi : Nat) (e : El) (r : Raw) (sent : Nat → Addr) (w : World) (h : TreeS n w lo hi e r) (hr : r.size ≤ 1048576) (hF : Faults w sent) : Calls Tryz.prog 53 #[valI e] w (EncIs r sent w) := by
  cases n with
  | zero => exact h.elim
  | succ n =>
    obtain ⟨fr, en, l, tx, sub⟩ := e
    obtain ⟨ps, iv, h1, h2, h3⟩ := h
    simp only at h1 h3
    subst h3
    obtain ⟨q, c, hs⟩ := h1.own.rowOff.shape
    subst hs
    have h0 : TreeS (n + 1) w lo hi ⟨fr, en, l, tx, .slice q ps.length c⟩ (.mk l tx (ps.map (·.2))) := ⟨ps, iv, h1, h2, rfl⟩
    obtain ⟨r, hre⟩ : ∃ r, Raw.mk l tx (ps.map (·.2)) = r := ⟨_, rfl⟩
    have hr2 := hr
    rw [hre] at h0 hr2 ⊢
    have hA : ∀ W, Below w.heap.size w W → Calls Tryz.prog 91 #[.slice none 0 0, .agg #[.bool l, .string tx, .slice q ps.length c]] W (AppSaid w.heap.size (.slice none 0 0) [] r.code sent W) := fun W hW => aiR_any sent (n + 1) lo hi ⟨fr, en, l, tx, .slice q ps.length c⟩ r w W none 0 0 [] h0 hr2 hF hW rfl (Own.nil _ _) (by omega)
    refine encodeR_body l tx q ps.length c r sent w hF (fun hl => by rw [← hre, Raw.depth, if_neg (by rw [hl]; exact Bool.false_ne_true)]) (fun hl W mb hW hM hmb => ?_) hA
    rw [← hre]
    rw [Raw.size] at hr
    have := deepR_any n 1 mb lo hi q ps.length c ps iv w W (by omega) h1 h2 (by omega) hW hM hmb
    rw [Raw.depth, if_pos hl, show rdeep (ps.map (·.2)) + 1 = 1 + rdeep (ps.map (·.2)) by omega]
    exact this

theorem encR'_err (r : Raw) : (encR' r).2 = 0 ∨ (encR' r).2 = 1 ∨ (encR' r).2 = 5 := by
  unfold encR'
  split
  · exact .inr (.inr rfl)
  · split
    · exact .inr (.inl rfl)
    · exact .inl rfl

set_option maxRecDepth 100000 in
/-- Encode of package twigs. -/
theorem tencR_any (n lo hi : Nat) (e : El) (r : Raw) (sent : Nat → Addr) (w : World) (h : TreeS n w lo hi e r) (hr : r.size ≤ 1048576) (hF : Faults w sent) :
    Calls Tryz.prog 23 #[valI e] w (LookSaid (.tuple #[.string (textB (encR' r).1), .int .i64 ((encR' r).2 : Int)]) w) := by
  obtain ⟨p, m, c, hs⟩ := h.shape
  obtain ⟨fr, en, l, tx, sub⟩ := e
  simp only at hs
  subst hs
  have HE : Hid (∀ W, Below w.heap.size w W → Calls Tryz.prog 53 #[.agg #[.bool l, .string tx, .slice p m c]] W (EncIs r sent W)) := fun W hW => encodeR_any n lo hi ⟨fr, en, l, tx, .slice p m c⟩ r sent W (h.below hW) hr (hF.below hW)
  have HN : Hid (∀ k, k ∈ nums → ∀ W, Below w.heap.size w W → Calls Tryz.prog 49 #[.iface 423 (.pointer (some (sent k)))] W fun e w' => e = .returned (.int .i64 (k : Int)) ∧ Below W.heap.size W w') := fun k hk W hW => errno_any sent (.base k) (by show k ∈ nums; exact hk) W (hF.below hW)
  obtain ⟨v, hv⟩ : ∃ v, encR' r = v := ⟨_, rfl⟩
  have herr := encR'_err r
  unfold EncIs at HE
  rw [hv] at HE herr ⊢
  obtain ⟨C, N⟩ := v
  simp only at HE herr ⊢
  clear h hr hF hv
  go_enter Tryz.func23, Tryz.ntmps23
  go_wp2_with fail
  refine (HE.out _ ((Below.refl _ _).alloc (Nat.le_refl _) _)).mono ?_
  rintro e w1 ⟨hb1, rfl⟩
  have B1 : Aside (Below w.heap.size w w1) := Below.up hb1
  clear hb1
  rcases herr with rfl | herr
  · have e0 : errV sent 0 = .nilIface := rfl
    rw [e0]
    clear e0
    go_wp2_with (go_at_call 49; refine (errno_nil _).mono ?_; rintro e w1 ⟨rfl, rfl⟩)
    go_ret2
    exact ⟨rfl, B1.out⟩
  · have e0 : errV sent N = .iface 423 (.pointer (some (sent N))) := by
      unfold errV
      rw [if_neg (by omega)]
    have HK : Hid (N ∈ nums) := by rcases herr with rfl | rfl <;> (show _ ∈ nums; decide)
    rw [e0]
    clear e0 herr
    go_wp2_with fail
    refine (HN.out N HK.out _ B1.out).mono ?_
    rintro e w2 ⟨rfl, hb2⟩
    go_wp2
    go_ret2
    exact ⟨rfl, Below.behind B1.out hb2⟩
end Go.Proofs.YtjiikjpnlgogfaaGreatDoor
