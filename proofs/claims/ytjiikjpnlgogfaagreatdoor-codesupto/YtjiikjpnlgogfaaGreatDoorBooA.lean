/-
  twigslaw: fullItems of a list that its owner wrote full; mark; what an append keeps.
  twigslaw: mark.
  twigslaw: the book: what it holds, and what keeps it.
  twigslaw: keepItems: the pure half.
-/
import Derived.Test.YtjiikjpnlgogfaaGreatDoorSamG
import Derived.Test.YtjiikjpnlgogfaaGreatDoorHeaG
namespace Go.Proofs.YtjiikjpnlgogfaaGreatDoor
open Go.RowKit

/-- A list of n items, each the mark alone. -/
def FullRow (w : World) (v : Value) (n : Nat) (m : ByteArray) : Prop :=
  (v = .slice none 0 0 ∧ n = 0) ∨ ∃ g cap, v = .slice (some ⟨g, 0, none⟩) n cap ∧ ∀ i, i < n → w.cell? ⟨g, i * 3, none⟩ = some (.bool false) ∧ w.cell? ⟨g, i * 3 + 1, none⟩ = some (.string m) ∧ w.cell? ⟨g, i * 3 + 2, none⟩ = some (.slice none 0 0)

theorem FullRow.shape {w : World} {v : Value} {n : Nat} {m : ByteArray} (h : FullRow w v n m) : ∃ p c, v = .slice p n c := by
  rcases h with ⟨rfl, rfl⟩ | ⟨g, cap, rfl, _⟩ <;> exact ⟨_, _, rfl⟩
theorem FullRow.keep {w w' : World} {v : Value} {n : Nat} {m : ByteArray} (h : FullRow w v n m) (hb : ∀ k, v.ownBlock = some k → k < w.heap.size → w'.heap[k]? = w.heap[k]?) : FullRow w' v n m := by
  rcases h with h | ⟨g, cap, rfl, h⟩
  · exact .inl h
  · refine .inr ⟨g, cap, rfl, fun i hi => ?_⟩
    obtain ⟨h1, h2, h3⟩ := h i hi
    have e := hb g rfl (by simpa using World.block_lt_of_cell? w _ h1)
    exact ⟨(World.cell?_of_block e).trans h1, (World.cell?_of_block e).trans h2, (World.cell?_of_block e).trans h3⟩

set_option maxRecDepth 100000 in
set_option maxHeartbeats 3200000 in
theorem fullItems_any (v : Value) (n : Nat) (m : ByteArray) (w : World) (h : FullRow w v n m) (hn : n ≤ 4194304) : Calls Tryz.prog 76 #[v, .string m] w fun e w' => e = .returned (.bool true) ∧ w' = w := by
  obtain ⟨p, c, rfl⟩ := h.shape
  have H := Hid.hide h
  have HN := Hid.hide hn
  clear h hn
  go_enter Tryz.func76, Tryz.ntmps76
  go_wp2
  go_loopg [5] n (fun gh i wr => ∃ k, k ≤ n ∧ gh = n - k ∧ i = .int .i64 (k : Int) ∧ wr = w)
  case atStart => exact ⟨0, Nat.zero_le _, rfl, rfl, rfl⟩
  case round =>
    obtain ⟨k, hk, rfl, rfl, rfl⟩ := hrel
    by_cases hlt : k < n
    · have hki : (k : Int) < (n : Int) := by omega
      rcases H.out with ⟨_, h0⟩ | ⟨g, cap, e, hc⟩
      · omega
      · simp only [Value.slice.injEq] at e
        obtain ⟨rfl, -, rfl⟩ := e
        obtain ⟨c0, c1, c2⟩ := hc k hlt
        clear hc
        go_wp2
        go_roundg (n - (k + 1))
        case measure => omega
        case rel => exact ⟨k + 1, by omega, rfl, by rw [wrap64_succ k (by have := HN.out; omega)], rfl⟩
    · have hki : (n : Int) ≤ (k : Int) := by omega
      clear hlt
      go_wp2
      go_ret
      exact ⟨rfl, rfl⟩

/-- ELEMENTS APPENDED: what was there is there still, told cell by cell. -/
theorem run_append_keep {P : Program} (w : World) (t ty e : TypeId) (i : TypeInfo) (z : Value) (size bytes : Nat) (ht : P.underlying t = some (.slice e)) (hi : P.info? e = some i) (hz : i.zero = some z) (hsize : i.size = size) (hby : i.bytes = bytes) (hzs : z.cells.size = size) (hsz : 0 < size)
    (B : Nat) (v : Value) (n : Nat) (cs : List Value) (hown : OwnC w B size v n cs) (b o m c : Nat) (news : List Value) (hl : news.length = m * size) (hnews : w.rangeAt b o news) (h1 : ∀ u ∈ news, u.oneCell' = true) (hm : n + m ≤ maxLen) (hb : (n + m) * bytes ≤ 140737488355328) (hB : B ≤ w.heap.size) :
    ∃ v' w', (Builtin.append_ #[t, t] ty #[v, .slice (some ⟨b, o, none⟩) m c]).run P w = .ok v' w' ∧ OwnC w' B size v' (n + m) (cs ++ news) ∧ OwnC w' B size v n cs ∧ w.grownBy w' v.ownBlock ∧ (∀ k, v'.ownBlock = Option.some k → v.ownBlock = Option.some k ∨ w.heap.size ≤ k) ∧ ((∀ k, v.ownBlock = Option.some k → Plain w k) → (∀ k, v'.ownBlock = Option.some k → Plain w' k) ∧ ∀ k, v.ownBlock = Option.some k → Plain w' k) ∧
      ∀ g, v.ownBlock = some g → ∀ j, w'.cell? ⟨g, j, none⟩ = w.cell? ⟨g, j, none⟩ ∨ ∃ u, n * size ≤ j ∧ news[j - n * size]? = some u ∧ w'.cell? ⟨g, j, none⟩ = some u := by
  have hn : ∀ j u, news[j]? = some u → w.cell? ((⟨b, o, none⟩ : Addr).add j) = some u := by
    intro j u hu
    rw [Addr.add_mid]
    exact hnews j u hu
  have hown0 := hown
  obtain ⟨hcl, hown⟩ := hown
  have hlen : (cs ++ news).length = (n + m) * size := by rw [List.length_append, hcl, hl, Nat.add_mul]
  rcases hown with ⟨rfl, rfl⟩ | ⟨g, cap, rfl, h2, h3, h4, h5, h6, h7⟩
  · have hcs : cs = [] := List.eq_nil_of_length_eq_zero (by simpa using hcl)
    subst hcs
    obtain ⟨v', w', hr, ho, hg, _⟩ := run_append_own (P := P) w w.heap.size t ty e i z size bytes ht hi hz hsize hby hzs hsz (.slice none 0 0) 0 [] (World.ownsRow_nil _ _ _ _) ⟨b, o, none⟩ m c news hl hn h1 hm hb (Nat.le_refl _)
    exact ⟨v', w', hr, (OwnC.of_row (e := e) ho).mono hB, OwnC.nil _ _ _, hg, fun k hk => .inr (ho.lt k hk).1, fun _ => ⟨ownsRow_plain ho, fun k hk => by simp [Value.ownBlock] at hk⟩, fun g hg => by simp [Value.ownBlock] at hg⟩
  · by_cases hroom : n + m ≤ cap
    · have hms : n * size + m * size ≤ cap * size := by rw [← Nat.add_mul]; exact Nat.mul_le_mul_right _ hroom
      have hth : w.there g (n * size) news.length := fun k hk => by
        have := h6 (n * size + k) (by omega)
        rw [Nat.zero_add] at this
        exact this
      have hr := run_append_room_cells (P := P) w t ty e i ht hi g 0 n cap ⟨b, o, none⟩ m c news (by rw [hsize]; exact hl) hn h1 hroom
        (fun j hj => by rw [hsize, Nat.zero_add]; exact (hth j hj).1) (fun j hj => by rw [hsize, Nat.zero_add]; exact (hth j hj).2)
      rw [hsize, Nat.zero_add] at hr
      obtain ⟨q1, q2, q3, q4⟩ := size_setCells g news (n * size) w
      have hold : ∀ j, j < n * size → (w.setCells g (n * size) news).cell? ⟨g, j, none⟩ = w.cell? ⟨g, j, none⟩ := fun j hj => World.cell?_setCells_out _ _ _ _ _ (fun _ _ => .inl (show j < n * size by omega))
      have hnew : ∀ j u, news[j]? = some u → (w.setCells g (n * size) news).cell? ⟨g, n * size + j, none⟩ = some u := fun j u hu => World.rangeAt_setCells_same w g (n * size) news hth j u hu
      refine ⟨_, _, hr, ⟨hlen, .inr ⟨g, cap, rfl, h2, by rw [q1]; exact h3, hroom, h5, World.there_setCells h6 _ _ _, fun j u hu => ?_⟩⟩, ⟨hcl, .inr ⟨g, cap, rfl, h2, by rw [q1]; exact h3, h4, h5, World.there_setCells h6 _ _ _, fun j u hu => ?_⟩⟩, ⟨q2, q3, q4, by rw [q1]; exact Nat.le_refl _, fun k _ hne => heap_setCells _ _ _ _ _ (fun e => hne (by simp [Value.ownBlock, e]))⟩, fun k hk => .inl hk, fun hp => ⟨fun k hk => (hp k hk).setCells _ _, fun k hk => (hp k hk).setCells _ _⟩, fun g' hg' j => ?_⟩
      · rw [Nat.zero_add]
        by_cases hjl : j < cs.length
        · rw [List.getElem?_append_left hjl] at hu
          rw [hold j (by omega)]
          have := h7 j u hu
          rwa [Nat.zero_add] at this
        · rw [List.getElem?_append_right (Nat.le_of_not_lt hjl)] at hu
          have := hnew (j - cs.length) u hu
          rwa [show n * size + (j - cs.length) = j by omega] at this
      · rw [Nat.zero_add]
        have hjl := (List.getElem?_eq_some_iff.1 hu).1
        rw [hold j (by omega)]
        have := h7 j u hu
        rwa [Nat.zero_add] at this
      · simp only [Value.ownBlock, Option.some.injEq] at hg'
        subst hg'
        by_cases hj1 : j < n * size
        · exact .inl (hold j hj1)
        · by_cases hj2 : j - n * size < news.length
          · refine .inr ⟨news[j - n * size], by omega, List.getElem?_eq_getElem hj2, ?_⟩
            have := hnew (j - n * size) _ (List.getElem?_eq_getElem hj2)
            rwa [show n * size + (j - n * size) = j by omega] at this
          · exact .inl (World.cell?_setCells_out _ _ _ _ _ (fun _ _ => .inr (show n * size + news.length ≤ j by omega)))
    · obtain ⟨v', w', hr, ho, hg⟩ := run_append_arg_grows (P := P) w t ty e i z size bytes ht hi hz hsize hby hzs hsz ⟨g, 0, none⟩ n cap cs hcl
        (fun j u hu => by
          rw [Addr.add_mid]
          exact h7 j u hu) ⟨b, o, none⟩ m c news hl hn (by omega) hm hb
      have hgb : ∀ k, k < w.heap.size → w'.heap[k]? = w.heap[k]? := fun k hk => hg.block k hk (by simp)
      exact ⟨v', w', hr, (OwnC.of_row ho).mono hB, hown0.keep hg.size (fun k hk _ => hgb k hk), ⟨hg.os, hg.tape, hg.output, hg.size, fun k hk _ => hg.block k hk (by simp)⟩, fun k hk => .inr (ho.lt k hk).1, fun hp => ⟨ownsRow_plain ho, fun k hk => (hp k hk).keep (hgb k (by obtain ⟨_, _, h⟩ := hp k hk; exact (Array.getElem?_eq_some_iff.1 h).1))⟩, fun g' hg' j => by
        simp only [Value.ownBlock, Option.some.injEq] at hg'
        subst hg'
        exact .inl (World.cell?_of_block (hgb g h3))⟩
end Go.Proofs.YtjiikjpnlgogfaaGreatDoor

namespace Go.Proofs.YtjiikjpnlgogfaaGreatDoor
open Go.RowKit

theorem wrap64_nat (q : Nat) (h : q ≤ 4611686018427387904) : wrap64 (q : Int) = (q : Int) := by
  unfold wrap64
  omega

set_option maxRecDepth 100000 in
set_option maxHeartbeats 3200000 in
theorem mark_any (bw N M : Nat) (w w0 : World) (hw0 : w0 = w.setCell ⟨bw, 5, none⟩ (.int .i64 (M : Int))) (hM : N + 1 = M) (hN : N ≤ 17179869184) (h5 : w.cell? ⟨bw, 5, none⟩ = some (.int .i64 (N : Int))) (f5 : w.frozen? ⟨bw, 5, none⟩ = false) :
    Calls Tryz.prog 194 #[.pointer (some ⟨bw, 3, none⟩)] w fun e w' => ∃ m : ByteArray, e = .returned (.string m) ∧ Below w0.heap.size w0 w' := by
  have hlt : bw < w.heap.size := by simpa using World.block_lt_of_cell? w _ h5
  have hN1 : wrap64 ((N : Int) + 1) = (M : Int) := by unfold wrap64; omega
  have HB := Hid.hide byte_text
  have HN : Hid (M ≤ 17179869185) := by rw [← hM]; exact (by omega : N + 1 ≤ 17179869185)
  have h5' := World.cell?_setCell_same w ⟨bw, 5, none⟩ (.int .i64 (M : Int)) h5
  clear hN hM
  go_enter Tryz.func194, Tryz.ntmps194
  go_wp2
  clear hN1 h5 f5 hlt h5'
  go_loopg [3, 4] M (fun γ s v wr => ∃ (n : Nat) (l : List Nat), n = γ ∧ n ≤ M ∧ v = .int .i64 (n : Int) ∧ s = .string (textB l) ∧ l.length + n ≤ M + 12 ∧ Below w0.heap.size w0 wr)
  case atStart => exact ⟨M, [116, 104, 101, 32, 111, 119, 110, 101, 114, 39, 115, 32], rfl, Nat.le_refl _, rfl, rfl, by simp; omega, by rw [hw0]; exact Below.refl _ _⟩
  case round =>
    obtain ⟨n, l, rfl, hn, rfl, rfl, hl, hb⟩ := hrel
    by_cases h0 : n = 0
    · subst h0
      have A : Aside (Below w0.heap.size w0 wr) := hb
      clear hb hl hn
      go_wp2
      go_ret
      exact ⟨_, rfl, A.out⟩
    · have hpos : (0 : Int) < (n : Int) := by omega
      obtain ⟨q, hq⟩ : ∃ q, n / 10 = q := ⟨_, rfl⟩
      obtain ⟨r, hr⟩ : ∃ r, n % 10 = r := ⟨_, rfl⟩
      have A : Aside (Below w0.heap.size w0 wr ∧ l.length + n ≤ M + 12 ∧ q < n ∧ n ≤ M ∧ r < 10) := ⟨hb, hl, by omega, hn, by omega⟩
      have hadd := fun W => add_text l [48 + r] (by have := HN.out; simp only [List.length_cons, List.length_nil]; omega) W
      have hcv := HB.out wr (48 + r)
      rw [show ((48 + r : Nat) : Int) = 48 + (r : Int) by omega] at hcv
      have hm1 : (n : Int).tmod 10 = (r : Int) := by rw [← hr]; exact (Int.ofNat_tmod n 10).symm
      have hd1 : (n : Int).tdiv 10 = (q : Int) := by rw [← hq]; exact (Int.ofNat_tdiv n 10).symm
      clear hb hl hn h0
      go_wp2
      go_roundg q
      case measure => have := A.out; omega
      case rel => exact ⟨q, l ++ [48 + r], rfl, by have := A.out; omega, val_int (wrap64_nat q (by have := A.out; have := HN.out; omega)), rfl, by have := A.out; simp only [List.length_append, List.length_cons, List.length_nil]; omega, A.out.1.alloc A.out.1.size _⟩
end Go.Proofs.YtjiikjpnlgogfaaGreatDoor

namespace Go.Proofs.YtjiikjpnlgogfaaGreatDoor
open Go.RowKit

/-- A list that came out, and the longer ones; how many items it has; its mark. -/
structure Ent where
  l : Value
  a : Value
  b : Value
  c : Value
  n : Nat
  m : ByteArray
abbrev encE (e : Ent) : List Value := [e.l, e.a, e.b, e.c, .string e.m]
/-- k is a block of one of its rows. -/
def Ent.has (e : Ent) (k : Nat) : Prop := e.l.ownBlock = some k ∨ e.a.ownBlock = some k ∨ e.b.ownBlock = some k ∨ e.c.ownBlock = some k

structure EntOK (w : World) (bw : Nat) (v : Value) (e : Ent) : Prop where
  fl : FullRow w e.l e.n e.m
  fa : FullRow w e.a (e.n + 1) e.m
  fb : FullRow w e.b (e.n + 2) e.m
  fc : FullRow w e.c (e.n + 3) e.m
  hn : e.n ≤ 1048576
  ap : ∀ k, e.has k → bw < k ∧ k < w.heap.size ∧ v.ownBlock ≠ some k

theorem EntOK.keep {w w' : World} {bw : Nat} {v v' : Value} {e : Ent} (h : EntOK w bw v e) (hs : w.heap.size ≤ w'.heap.size) (hb : ∀ k, e.has k → w'.heap[k]? = w.heap[k]?) (hv : ∀ k, e.has k → v'.ownBlock ≠ some k) : EntOK w' bw v' e :=
  ⟨h.fl.keep fun k hk _ => hb k (.inl hk), h.fa.keep fun k hk _ => hb k (.inr (.inl hk)), h.fb.keep fun k hk _ => hb k (.inr (.inr (.inl hk))), h.fc.keep fun k hk _ => hb k (.inr (.inr (.inr hk))), h.hn, fun k hk => ⟨(h.ap k hk).1, by have := (h.ap k hk).2.1; omega, hv k hk⟩⟩

/-- The book's items, at bw's cells 4 and 5. -/
structure Bk (w : World) (bw : Nat) (es : List Ent) (v : Value) (N : Nat) : Prop where
  c4 : w.cell? ⟨bw, 4, none⟩ = some v ∧ w.frozen? ⟨bw, 4, none⟩ = false
  c5 : w.cell? ⟨bw, 5, none⟩ = some (.int .i64 (N : Int)) ∧ w.frozen? ⟨bw, 5, none⟩ = false
  own : OwnC w (bw + 1) 5 v es.length (es.flatMap encE)
  ents : ∀ e ∈ es, EntOK w bw v e

/-- All but these blocks is as it was; of bw its cells 4 and 5 alone may have turned. -/
structure Kept (bw : Nat) (T : Nat → Prop) (w w' : World) : Prop where
  os : w'.os = w.os
  tape : w'.tape = w.tape
  output : w'.output = w.output
  size : w.heap.size ≤ w'.heap.size
  block : ∀ k, k < w.heap.size → k ≠ bw → ¬ T k → w'.heap[k]? = w.heap[k]?
  cells : ∀ j, j ≠ 4 → j ≠ 5 → w'.cell? ⟨bw, j, none⟩ = w.cell? ⟨bw, j, none⟩ ∧ w'.frozen? ⟨bw, j, none⟩ = w.frozen? ⟨bw, j, none⟩

theorem Kept.refl (bw : Nat) (T : Nat → Prop) (w : World) : Kept bw T w w := ⟨rfl, rfl, rfl, Nat.le_refl _, fun _ _ _ _ => rfl, fun _ _ _ => ⟨rfl, rfl⟩⟩
theorem Kept.trans {bw : Nat} {T T' U : Nat → Prop} {w w1 w2 : World} (h : Kept bw T w w1) (k : Kept bw T' w1 w2) (h1 : ∀ b, T b → U b) (h2 : ∀ b, b < w.heap.size → T' b → U b) : Kept bw U w w2 :=
  ⟨k.os.trans h.os, k.tape.trans h.tape, k.output.trans h.output, Nat.le_trans h.size k.size, fun b hb hne hT => (k.block b (Nat.lt_of_lt_of_le hb h.size) hne (fun ht => hT (h2 b hb ht))).trans (h.block b hb hne (fun ht => hT (h1 b ht))), fun j h4 h5 => ⟨(k.cells j h4 h5).1.trans (h.cells j h4 h5).1, (k.cells j h4 h5).2.trans (h.cells j h4 h5).2⟩⟩
theorem Kept.mono {bw : Nat} {T U : Nat → Prop} {w w1 : World} (h : Kept bw T w w1) (h1 : ∀ b, T b → U b) : Kept bw U w w1 := ⟨h.os, h.tape, h.output, h.size, fun b hb hne hT => h.block b hb hne (fun ht => hT (h1 b ht)), h.cells⟩
theorem Kept.of_below {bw : Nat} {w w' : World} (hbw : bw < w.heap.size) (h : Below w.heap.size w w') : Kept bw (fun _ => False) w w' :=
  ⟨h.os, h.tape, h.output, h.size, fun k hk _ _ => h.block k hk, fun _ _ _ => ⟨World.cell?_of_block (h.block bw hbw), World.frozen?_of_block (h.block bw hbw)⟩⟩
theorem Kept.set {bw : Nat} {w : World} {j : Nat} (hj : j = 4 ∨ j = 5) (u : Value) : Kept bw (fun _ => False) w (w.setCell ⟨bw, j, none⟩ u) :=
  ⟨rfl, rfl, rfl, by simp, fun k _ hne _ => Below.heap_setCell _ _ _ _ hne, fun i h4 h5 => ⟨World.cell?_setCell_other _ _ _ _ (fun e => by have e2 := congrArg Addr.off e; simp only at e2; omega), by rw [World.frozen?_setCell]⟩⟩
theorem Kept.grown {bw : Nat} {w w' : World} {b : Option Nat} (h : w.grownBy w' b) (hbw : bw < w.heap.size) (hne : b ≠ some bw) : Kept bw (fun k => b = some k) w w' :=
  ⟨h.os, h.tape, h.output, h.size, fun k hk _ hT => h.block k hk (fun e => hT e.symm), fun _ _ _ => ⟨World.cell?_of_block (h.block bw hbw (fun e => hne e.symm)), World.frozen?_of_block (h.block bw hbw (fun e => hne e.symm))⟩⟩
theorem Kept.set' {bw g : Nat} {w : World} {j : Nat} (hg : g ≠ bw) (u : Value) : Kept bw (fun k => k = g) w (w.setCell ⟨g, j, none⟩ u) :=
  ⟨rfl, rfl, rfl, by simp, fun k _ _ hT => Below.heap_setCell _ _ _ _ hT, fun i _ _ => by
    have e : (w.setCell ⟨g, j, none⟩ u).heap[bw]? = w.heap[bw]? := Below.heap_setCell _ _ _ _ (fun e => hg e.symm)
    exact ⟨World.cell?_of_block e, World.frozen?_of_block e⟩⟩

/-- The book is as it was where none of its blocks has turned. -/
theorem Bk.keep {w w' : World} {bw : Nat} {es : List Ent} {v : Value} {N : Nat} (h : Bk w bw es v N) (hs : w.heap.size ≤ w'.heap.size) (hbw : w'.heap[bw]? = w.heap[bw]?) (hv : ∀ k, v.ownBlock = some k → w'.heap[k]? = w.heap[k]?) (he : ∀ e ∈ es, ∀ k, e.has k → w'.heap[k]? = w.heap[k]?) : Bk w' bw es v N :=
  ⟨⟨(World.cell?_of_block hbw).trans h.c4.1, (World.frozen?_of_block hbw).trans h.c4.2⟩, ⟨(World.cell?_of_block hbw).trans h.c5.1, (World.frozen?_of_block hbw).trans h.c5.2⟩, h.own.keep hs fun k _ hk => hv k hk, fun e hh => (h.ents e hh).keep hs (he e hh) fun k hk => ((h.ents e hh).ap k hk).2.2⟩
theorem Bk.lt {w : World} {bw : Nat} {es : List Ent} {v : Value} {N : Nat} (h : Bk w bw es v N) : bw < w.heap.size := by simpa using World.block_lt_of_cell? w _ h.c4.1
theorem Bk.below {w w' : World} {bw : Nat} {es : List Ent} {v : Value} {N : Nat} (h : Bk w bw es v N) (hb : Below w.heap.size w w') : Bk w' bw es v N :=
  h.keep hb.size (hb.block bw h.lt) (fun k hk => hb.block k (h.own.block k hk).2) (fun e he k hk => hb.block k ((h.ents e he).ap k hk).2.1)

/-- What keepItems leaves: the book, longer; the rest kept. -/
def KeepSaid (bw : Nat) (T : Nat → Prop) (es : List Ent) (v : Value) (N K : Nat) (w w' : World) : Prop :=
  Kept bw (fun k => T k ∨ v.ownBlock = some k) w w' ∧ ∃ es' v' N', Bk w' bw (es ++ es') v' N' ∧ N' ≤ N + K ∧ es'.length ≤ K ∧ (∀ k, v'.ownBlock = some k → v.ownBlock = some k ∨ w.heap.size ≤ k) ∧ ∀ e ∈ es', ∀ k, e.has k → T k ∨ w.heap.size ≤ k

/-- The mark, so many times. -/
def yrow (m : ByteArray) (n : Nat) : List Value := (List.replicate n [.bool false, .string m, .slice none 0 0]).flatten
theorem yrow_length (m : ByteArray) (n : Nat) : (yrow m n).length = n * 3 := by
  unfold yrow
  simp
theorem yrow_get (m : ByteArray) : ∀ (n i r : Nat), i < n → r < 3 → (yrow m n)[i * 3 + r]? = ([.bool false, .string m, .slice none 0 0] : List Value)[r]? := by
  intro n
  induction n with
  | zero => intro i r h; omega
  | succ n ih =>
    intro i r hi hr
    unfold yrow at ih ⊢
    rw [List.replicate_succ, List.flatten_cons]
    cases i with
    | zero => rw [Nat.zero_mul, Nat.zero_add, List.getElem?_append_left (by simpa using hr)]
    | succ i =>
      rw [List.getElem?_append_right (by simp; omega)]
      have := ih i r (by omega) hr
      simp only [List.length_cons, List.length_nil]
      rw [show (i + 1) * 3 + r - (0 + 1 + 1 + 1) = i * 3 + r by omega]
      exact this
theorem yrow_add (m : ByteArray) (a b : Nat) : yrow m a ++ yrow m b = yrow m (a + b) := by
  unfold yrow
  rw [← List.flatten_append, List.replicate_append_replicate]
theorem yrow_one (m : ByteArray) : ∀ n, ∀ u ∈ yrow m n, u.oneCell' = true := by
  intro n u hu
  unfold yrow at hu
  obtain ⟨l, hl, hu⟩ := List.mem_flatten.1 hu
  rw [(List.mem_replicate.1 hl).2] at hu
  simp only [List.mem_cons, List.not_mem_nil, or_false] at hu
  rcases hu with rfl | rfl | rfl <;> rfl

/-- A row of marks is full. -/
theorem OwnC.isFull {w : World} {B : Nat} {v : Value} {n : Nat} {m : ByteArray} (h : OwnC w B 3 v n (yrow m n)) : FullRow w v n m := by
  rcases h.2 with h | ⟨g, cap, rfl, _, _, _, _, _, h⟩
  · exact .inl h
  · refine .inr ⟨g, cap, rfl, fun i hi => ?_⟩
    have c : ∀ r u, r < 3 → ([.bool false, .string m, .slice none 0 0] : List Value)[r]? = some u → w.cell? ⟨g, i * 3 + r, none⟩ = some u := fun r u hr hu => by
      have := h (i * 3 + r) u (by rw [yrow_get m n i r hi hr]; exact hu)
      rwa [Nat.zero_add] at this
    exact ⟨c 0 _ (by omega) rfl, c 1 _ (by omega) rfl, c 2 _ (by omega) rfl⟩

/-- Marks appended leave what was full of them full. -/
theorem FullRow.append {w w' : World} {v x : Value} {n j k : Nat} {m : ByteArray} (h : FullRow w x j m) (hg : w.grownBy w' v.ownBlock) (hc : ∀ g, v.ownBlock = some g → ∀ i, w'.cell? ⟨g, i, none⟩ = w.cell? ⟨g, i, none⟩ ∨ ∃ u, n * 3 ≤ i ∧ (yrow m k)[i - n * 3]? = some u ∧ w'.cell? ⟨g, i, none⟩ = some u) : FullRow w' x j m := by
  rcases h with h | ⟨g, cap, rfl, h⟩
  · exact .inl h
  · refine .inr ⟨g, cap, rfl, fun i hi => ?_⟩
    obtain ⟨h1, h2, h3⟩ := h i hi
    have hlt : g < w.heap.size := by simpa using World.block_lt_of_cell? w _ h1
    by_cases hv : v.ownBlock = some g
    · have key : ∀ r u, r < 3 → ([.bool false, .string m, .slice none 0 0] : List Value)[r]? = some u → w.cell? ⟨g, i * 3 + r, none⟩ = some u → w'.cell? ⟨g, i * 3 + r, none⟩ = some u := by
        intro r u hr hu hcell
        rcases hc g hv (i * 3 + r) with e | ⟨u', a1, a2, a3⟩
        · exact e.trans hcell
        · have hl := (List.getElem?_eq_some_iff.1 a2).1
          rw [yrow_length] at hl
          have := yrow_get m k (i - n) r (by omega) hr
          rw [show (i - n) * 3 + r = i * 3 + r - n * 3 by omega, a2, hu] at this
          rw [a3, this]
      exact ⟨key 0 _ (by omega) rfl h1, key 1 _ (by omega) rfl h2, key 2 _ (by omega) rfl h3⟩
    · have e := hg.block g hlt (fun e => hv e.symm)
      exact ⟨(World.cell?_of_block e).trans h1, (World.cell?_of_block e).trans h2, (World.cell?_of_block e).trans h3⟩
theorem OwnC.filled {w : World} {B g n cap : Nat} {m : ByteArray} (hB : B ≤ g) (hg : g < w.heap.size) (h1 : n ≤ cap) (h2 : cap ≤ maxLen) (h3 : w.there g 0 (cap * 3)) (h4 : ∀ i, i < n → w.cell? ⟨g, i * 3, none⟩ = some (.bool false) ∧ w.cell? ⟨g, i * 3 + 1, none⟩ = some (.string m) ∧ w.cell? ⟨g, i * 3 + 2, none⟩ = some (.slice none 0 0)) : OwnC w B 3 (.slice (some ⟨g, 0, none⟩) n cap) n (yrow m n) := by
  refine ⟨yrow_length m n, .inr ⟨g, cap, rfl, hB, hg, h1, h2, h3, fun j u hu => ?_⟩⟩
  have hl := (List.getElem?_eq_some_iff.1 hu).1
  rw [yrow_length] at hl
  rw [Nat.zero_add]
  have hy := yrow_get m n (j / 3) (j % 3) (by omega) (by omega)
  rw [show j / 3 * 3 + j % 3 = j by omega, hu] at hy
  obtain ⟨a0, a1, a2⟩ := h4 (j / 3) (by omega)
  have hr : j % 3 = 0 ∨ j % 3 = 1 ∨ j % 3 = 2 := by omega
  rcases hr with hr | hr | hr
  · rw [hr] at hy
    cases hy
    rw [show j / 3 * 3 = j by omega] at a0
    exact a0
  · rw [hr] at hy
    cases hy
    rw [show j / 3 * 3 + 1 = j by omega] at a1
    exact a1
  · rw [hr] at hy
    cases hy
    rw [show j / 3 * 3 + 2 = j by omega] at a2
    exact a2

theorem wpList_append_keep {P : Program} (w : World) {ops : Array Oper} {rest : List Oper} {o : Oper} {a : Act} {Q : Exit → Act → World → Prop} (hgd : o.guard = none) (s x : Operand) (t : TypeId)
    (ho : o.op = .call { callee := .builtin .append, args := #[s, x], argTypes := #[t, t] })
    (e : TypeId) (i : TypeInfo) (z : Value) (size bytes : Nat) (ht : P.underlying t = some (.slice e)) (hi : P.info? e = some i) (hz : i.zero = some z) (hsize : i.size = size) (hby : i.bytes = bytes) (hzs : z.cells.size = size) (hsz : 0 < size)
    (B : Nat) (v : Value) (n : Nat) (cs : List Value) (hs : a.eval s = v) (hown : OwnC w B size v n cs) (b p m c : Nat) (news : List Value) (hx : a.eval x = .slice (some ⟨b, p, none⟩) m c)
    (hl : news.length = m * size) (hnews : w.rangeAt b p news) (h1 : ∀ u ∈ news, u.oneCell' = true) (hm : n + m ≤ maxLen) (hb : (n + m) * bytes ≤ 140737488355328) (hB : B ≤ w.heap.size)
    (hK : ∀ v' w', OwnC w' B size v' (n + m) (cs ++ news) → OwnC w' B size v n cs → w.grownBy w' v.ownBlock → (∀ k, v'.ownBlock = Option.some k → v.ownBlock = Option.some k ∨ w.heap.size ≤ k) → (∀ g, v.ownBlock = some g → ∀ j, w'.cell? ⟨g, j, none⟩ = w.cell? ⟨g, j, none⟩ ∨ ∃ u, n * size ≤ j ∧ news[j - n * size]? = some u ∧ w'.cell? ⟨g, j, none⟩ = some u) → wpList P ops Q rest (a.put o.dst v') w') : wpList P ops Q (o :: rest) a w := by
  refine wpList_plain hgd fun K hK' => ?_
  obtain ⟨v', w', hrun, r1, r2, r3, r4, _, r5⟩ := run_append_keep (P := P) w t o.type e i z size bytes ht hi hz hsize hby hzs hsz B v n cs hown b p m c news hl hnews h1 hm hb hB
  unfold Oper.wp
  simp [execOp, ho, resolve, invoke, builtin, hs, hx, hrun, Result.andThen]
  exact hK' _ _ (hK v' w' r1 r2 r3 r4 r5)
end Go.Proofs.YtjiikjpnlgogfaaGreatDoor

namespace Go.Proofs.YtjiikjpnlgogfaaGreatDoor
open Go.RowKit

theorem infoE : (Tryz.prog.info? 148).map (fun i => (i.zero, i.size, i.bytes)) = some (some (.agg #[.slice none 0 0, .slice none 0 0, .slice none 0 0, .slice none 0 0, .string ⟨#[]⟩]), 5, 112) := by kernel_rfl

def inIv (iv : Nat → Nat × Nat) (i b : Nat) : Prop := (iv i).1 ≤ b ∧ b < (iv i).2

/-- What keepItems asks. -/
structure KPre (bw lo hi : Nat) (es : List Ent) (v : Value) (N : Nat) (w : World) : Prop where
  bk : Bk w bw es v N
  hlo : bw < lo
  hhi : hi ≤ w.heap.size
  hv : ∀ k, v.ownBlock = some k → ¬ (lo ≤ k ∧ k < hi)
  he : ∀ e ∈ es, ∀ k, e.has k → ¬ (lo ≤ k ∧ k < hi)

/-- The items of the first k are in the book. -/
structure K1 (bw : Nat) (iv : Nat → Nat × Nat) (es : List Ent) (v : Value) (N : Nat) (rs : List Raw) (w : World) (k : Nat) (wr : World) (es' : List Ent) (v' : Value) (N' : Nat) : Prop where
  bk : Bk wr bw (es ++ es') v' N'
  nb : N' ≤ N + rsize (rs.take k)
  lb : es'.length ≤ rsize (rs.take k)
  kept : Kept bw (fun b => (∃ i, i < k ∧ inIv iv i b) ∨ v.ownBlock = some b) w wr
  vf : ∀ b, v'.ownBlock = some b → v.ownBlock = some b ∨ w.heap.size ≤ b
  ef : ∀ e ∈ es', ∀ b, e.has b → (∃ i, i < k ∧ inIv iv i b) ∨ w.heap.size ≤ b

theorem K1.start {bw : Nat} {iv : Nat → Nat × Nat} {es : List Ent} {v : Value} {N : Nat} {rs : List Raw} {w : World} (h : Bk w bw es v N) : K1 bw iv es v N rs w 0 w [] v N :=
  ⟨by rw [List.append_nil]; exact h, by omega, by simp, Kept.refl _ _ _, fun _ h => .inl h, by simp⟩

theorem rsize_step (rs : List Raw) (k : Nat) {x : Raw} (h : rs[k]? = some x) : rsize (rs.take (k + 1)) = rsize (rs.take k) + x.size := by
  have hk := (List.getElem?_eq_some_iff.1 h).1
  rw [← List.take_append_getElem hk, rsize_append, (List.getElem?_eq_some_iff.1 h).2, rsize, rsize]
  omega

/-- The tree of the k-th is as it was; and the call's terms are met. -/
theorem K1.pre {bw lo hi d : Nat} {iv : Nat → Nat × Nat} {es : List Ent} {v V : Value} {N : Nat} {rs : List Raw} {w : World} {k : Nat} {wr : World} {es' : List Ent} {v' : Value} {N' : Nat} {ps : List (El × Raw)} (h : K1 bw iv es v N rs w k wr es' v' N') (hP : KPre bw lo hi es v N w) (hR : SRow w lo hi V ps iv) (hk : k < ps.length) {e : El} {r : Raw} (hT : TreeS d w (iv k).1 (iv k).2 e r) :
    TreeS d wr (iv k).1 (iv k).2 e r ∧ KPre bw (iv k).1 (iv k).2 (es ++ es') v' N' wr := by
  have hr := hR.room k hk
  have hl := hP.hlo
  have hh := hP.hhi
  have hs := h.kept.size
  have apart : ∀ b, (iv k).1 ≤ b → b < (iv k).2 → ¬ ((∃ i, i < k ∧ inIv iv i b) ∨ v.ownBlock = some b) := by
    rintro b b1 b2 (⟨i, hi', c1, c2⟩ | c)
    · have := hR.ord i k hi' hk
      omega
    · exact hP.hv b c ⟨by omega, by omega⟩
  refine ⟨hT.keep hs fun b b1 b2 b3 => h.kept.block b b3 (by omega) (apart b b1 b2), ⟨h.bk, by omega, by omega, fun b hb hin => ?_, fun x hx b hb hin => ?_⟩⟩
  · rcases h.vf b hb with c | c
    · exact hP.hv b c ⟨by omega, by omega⟩
    · omega
  · rcases List.mem_append.1 hx with hx | hx
    · exact hP.he x hx b hb ⟨by omega, by omega⟩
    · rcases h.ef x hx b hb with c | c
      · exact apart b hin.1 hin.2 (.inl c)
      · omega

theorem K1.next {bw : Nat} {iv : Nat → Nat × Nat} {es : List Ent} {v : Value} {N : Nat} {rs : List Raw} {w : World} {k : Nat} {wr w1 : World} {es' : List Ent} {v' : Value} {N' : Nat} {x : Raw} (h : K1 bw iv es v N rs w k wr es' v' N') (hx : rs[k]? = some x) (hS : KeepSaid bw (inIv iv k) (es ++ es') v' N' x.size wr w1) :
    ∃ es2 v2 N2, K1 bw iv es v N rs w (k + 1) w1 (es' ++ es2) v2 N2 := by
  obtain ⟨hk, es2, v2, N2, b1, b2, b3, b4, b5⟩ := hS
  have hs := h.kept.size
  have hst := rsize_step rs k hx
  have hnb := h.nb
  have hlb := h.lb
  refine ⟨es2, v2, N2, ⟨by rw [← List.append_assoc]; exact b1, by omega, by rw [List.length_append]; omega, ?_, fun b hb => ?_, fun e he b hb => ?_⟩⟩
  · refine h.kept.trans hk (fun b hb => ?_) (fun b hbs hb => ?_)
    · rcases hb with ⟨i, hi, hb⟩ | hb
      · exact .inl ⟨i, by omega, hb⟩
      · exact .inr hb
    · rcases hb with hb | hb
      · exact .inl ⟨k, by omega, hb⟩
      · rcases h.vf b hb with c | c
        · exact .inr c
        · omega
  · rcases b4 b hb with c | c
    · exact h.vf b c
    · exact .inr (by omega)
  · rcases List.mem_append.1 he with he | he
    · rcases h.ef e he b hb with ⟨i, hi, c⟩ | c
      · exact .inl ⟨i, by omega, c⟩
      · exact .inr c
    · rcases b5 e he b hb with c | c
      · exact .inl ⟨k, by omega, c⟩
      · exact .inr (by omega)

theorem grown_trans {w w1 w2 : World} {b : Option Nat} (h : w.grownBy w1 b) (k : w1.grownBy w2 b) : w.grownBy w2 b :=
  ⟨k.os.trans h.os, k.tape.trans h.tape, k.output.trans h.output, Nat.le_trans h.size k.size, fun i hi hne => (k.block i (Nat.lt_of_lt_of_le hi h.size) hne).trans (h.block i hi hne)⟩
theorem grown_set {w w1 : World} {b : Option Nat} (h : w.grownBy w1 b) {a : Addr} (ha : w.heap.size ≤ a.block) (u : Value) : w.grownBy (w1.setCell a u) b :=
  ⟨h.os, h.tape, h.output, by simpa using h.size, fun i hi hne => (Below.heap_setCell _ _ _ _ (by omega)).trans (h.block i hi hne)⟩
theorem grown_set' {w w1 : World} {b : Option Nat} (h : w.grownBy w1 b) {a : Addr} (ha : b = some a.block) (u : Value) : w.grownBy (w1.setCell a u) b :=
  ⟨h.os, h.tape, h.output, by simpa using h.size, fun i hi hne => (Below.heap_setCell _ _ _ _ (fun e => hne (by rw [ha, e]))).trans (h.block i hi hne)⟩

/-- The list's own row, filled up to the k-th item; the mark's item lies at yb. -/
structure Fl (w2 : World) (p : Option Addr) (n c yb : Nat) (m : ByteArray) (k : Nat) (wr : World) : Prop where
  grown : w2.grownBy wr (Value.slice p n c).ownBlock
  y : Held wr yb [.bool false, .string m, .slice none 0 0]
  row : ∀ g, p = some ⟨g, 0, none⟩ → g < wr.heap.size ∧ wr.there g 0 (c * 3) ∧ ∀ i, i < k → wr.cell? ⟨g, i * 3, none⟩ = some (.bool false) ∧ wr.cell? ⟨g, i * 3 + 1, none⟩ = some (.string m) ∧ wr.cell? ⟨g, i * 3 + 2, none⟩ = some (.slice none 0 0)

set_option maxHeartbeats 400000 in
theorem Fl.next {w2 : World} {g n c yb : Nat} {m : ByteArray} {k : Nat} {wr : World} (h : Fl w2 (some ⟨g, 0, none⟩) n c yb m k wr) (hk : k < n) (hc : n ≤ c) (hy : yb ≠ g) :
    Fl w2 (some ⟨g, 0, none⟩) n c yb m (k + 1) (((wr.setCell ⟨g, k * 3, none⟩ (.bool false)).setCell ⟨g, k * 3 + 1, none⟩ (.string m)).setCell ⟨g, k * 3 + 2, none⟩ (.slice none 0 0)) := by
  obtain ⟨h1, h2, h3⟩ := h.row g rfl
  have ex : ∀ j, j < 3 → ∃ u, wr.cell? ⟨g, k * 3 + j, none⟩ = some u := fun j hj => by
    have := (h2 (k * 3 + j) (by omega)).1
    rw [Nat.zero_add] at this
    exact Option.isSome_iff_exists.1 this
  have hown : (Value.slice (some ⟨g, 0, none⟩) n c).ownBlock = some g := rfl
  have q1 : w2.grownBy (wr.setCell ⟨g, k * 3, none⟩ (.bool false)) (Value.slice (some ⟨g, 0, none⟩) n c).ownBlock := grown_set' (a := ⟨g, k * 3, none⟩) h.grown hown _
  have q2 := grown_set' (a := ⟨g, k * 3 + 1, none⟩) q1 hown (.string m)
  have q3 := grown_set' (a := ⟨g, k * 3 + 2, none⟩) q2 hown (.slice none 0 0)
  have y1 := Held.otherB (a := ⟨g, k * 3, none⟩) h.y hy (.bool false)
  have y2 := Held.otherB (a := ⟨g, k * 3 + 1, none⟩) y1 hy (.string m)
  have y3 := Held.otherB (a := ⟨g, k * 3 + 2, none⟩) y2 hy (.slice none 0 0)
  refine ⟨q3, y3, fun g' e => ?_⟩
  simp only [Option.some.injEq, Addr.mk.injEq, and_true] at e
  subst e
  have t3 := there_set (there_set (there_set h2 ⟨g, k * 3, none⟩ (.bool false)) ⟨g, k * 3 + 1, none⟩ (.string m)) ⟨g, k * 3 + 2, none⟩ (.slice none 0 0)
  refine ⟨by simpa using h1, t3, fun i hi => ?_⟩
  by_cases hik : i < k
  · obtain ⟨a0, a1, a2⟩ := h3 i hik
    have ot : ∀ r u, r < 3 → wr.cell? ⟨g, i * 3 + r, none⟩ = some u → (((wr.setCell ⟨g, k * 3, none⟩ (.bool false)).setCell ⟨g, k * 3 + 1, none⟩ (.string m)).setCell ⟨g, k * 3 + 2, none⟩ (.slice none 0 0)).cell? ⟨g, i * 3 + r, none⟩ = some u := fun r u hr hu => by
      rw [World.cell?_setCell_other _ _ _ _ (fun e => by have e2 := congrArg Addr.off e; simp only at e2; omega), World.cell?_setCell_other _ _ _ _ (fun e => by have e2 := congrArg Addr.off e; simp only at e2; omega), World.cell?_setCell_other _ _ _ _ (fun e => by have e2 := congrArg Addr.off e; simp only at e2; omega)]
      exact hu
    exact ⟨ot 0 _ (by omega) a0, ot 1 _ (by omega) a1, ot 2 _ (by omega) a2⟩
  · obtain rfl : i = k := by omega
    obtain ⟨u0, e0⟩ := ex 0 (by omega)
    obtain ⟨u1, e1⟩ := ex 1 (by omega)
    obtain ⟨u2, e2⟩ := ex 2 (by omega)
    rw [Nat.add_zero] at e0
    have d1 : (wr.setCell ⟨g, i * 3, none⟩ (.bool false)).cell? ⟨g, i * 3 + 1, none⟩ = some u1 := (World.cell?_setCell_other _ _ _ _ (by simp)).trans e1
    have d2 : ((wr.setCell ⟨g, i * 3, none⟩ (.bool false)).setCell ⟨g, i * 3 + 1, none⟩ (.string m)).cell? ⟨g, i * 3 + 2, none⟩ = some u2 := (World.cell?_setCell_other _ _ _ _ (by simp)).trans ((World.cell?_setCell_other _ _ _ _ (by simp)).trans e2)
    refine ⟨?_, ?_, World.cell?_setCell_same _ _ _ d2⟩
    · rw [World.cell?_setCell_other _ _ _ _ (by simp), World.cell?_setCell_other _ _ _ _ (by simp)]
      exact World.cell?_setCell_same _ _ _ e0
    · rw [World.cell?_setCell_other _ _ _ _ (by simp)]
      exact World.cell?_setCell_same _ _ _ d1

/-- The list is full; the longer ones made so far stand in the entry at xb. -/
structure St (w2 : World) (lo : Nat) (l : Value) (n yb xb : Nat) (m : ByteArray) (a b c : Value) (W : World) : Prop where
  grown : w2.grownBy W l.ownBlock
  own : OwnC W lo 3 l n (yrow m n)
  y : Held W yb [.bool false, .string m, .slice none 0 0]
  x : Held W xb [l, a, b, c, .string m]
  yx : yb ≠ xb

/-- One longer list. -/
structure Ln (w2 : World) (l : Value) (m : ByteArray) (a : Value) (j : Nat) (W : World) : Prop where
  full : FullRow W a j m
  fresh : ∀ k, a.ownBlock = some k → (l.ownBlock = some k ∨ w2.heap.size ≤ k) ∧ k < W.heap.size

theorem Ln.append {w2 : World} {l : Value} {m : ByteArray} {a : Value} {j n k : Nat} {W w' : World} (h : Ln w2 l m a j W) (hg : W.grownBy w' l.ownBlock) (hc : ∀ g, l.ownBlock = some g → ∀ i, w'.cell? ⟨g, i, none⟩ = W.cell? ⟨g, i, none⟩ ∨ ∃ u, n * 3 ≤ i ∧ (yrow m k)[i - n * 3]? = some u ∧ w'.cell? ⟨g, i, none⟩ = some u) : Ln w2 l m a j w' :=
  ⟨h.full.append hg hc, fun b hb => ⟨(h.fresh b hb).1, Nat.lt_of_lt_of_le (h.fresh b hb).2 hg.size⟩⟩
theorem Ln.keep {w2 : World} {l : Value} {m : ByteArray} {a : Value} {j : Nat} {W w' : World} (h : Ln w2 l m a j W) (hs : W.heap.size ≤ w'.heap.size) (hb : ∀ k, a.ownBlock = some k → w'.heap[k]? = W.heap[k]?) : Ln w2 l m a j w' :=
  ⟨h.full.keep fun k hk _ => hb k hk, fun b hb' => ⟨(h.fresh b hb').1, Nat.lt_of_lt_of_le (h.fresh b hb').2 hs⟩⟩

theorem Held.setAt {w : World} {b : Nat} {cs : List Value} (h : Held w b cs) (i : Nat) (u : Value) (hi : i < cs.length) : Held (w.setCell ⟨b, i, none⟩ u) b (cs.set i u) := by
  refine ⟨by simpa using h.1, fun j v hv => ?_⟩
  rw [List.getElem?_set] at hv
  have hfr : ∀ j v, cs[j]? = some v → (w.setCell ⟨b, i, none⟩ u).frozen? ⟨b, j, none⟩ = false := fun j v hv => by rw [World.frozen?_setCell]; exact (h.2 j v hv).2
  have hci := List.getElem?_eq_getElem hi
  split at hv
  · rename_i e
    subst e
    cases hv
    exact ⟨World.cell?_setCell_same _ _ _ (h.2 i _ hci).1, hfr i _ hci⟩
  · rename_i hne
    exact ⟨(World.cell?_setCell_other _ _ _ _ (fun e => by have e2 := congrArg Addr.off e; simp only at e2; omega)).trans (h.2 j v hv).1, hfr j v hv⟩

theorem Fl.start {w1 : World} {p : Option Addr} {n c B : Nat} {cs : List Value} {m : ByteArray} {t : TypeId} (h : OwnC w1 B 3 (.slice p n c) n cs) : Fl w1 p n c w1.heap.size m 0 (w1.alloc (.cells #[.bool false, .string m, .slice none 0 0] t)) := by
  refine ⟨⟨rfl, rfl, rfl, by simp, fun k hk _ => Below.heap_alloc _ _ _ hk⟩, Held.fresh w1 [.bool false, .string m, .slice none 0 0] t, fun g e => ?_⟩
  subst e
  rcases h.2 with ⟨h, _⟩ | ⟨g', cap, e, h1, h2, h3, h4, h5, h6⟩
  · cases h
  · simp only [Value.slice.injEq, Option.some.injEq, Addr.mk.injEq, and_true, true_and] at e
    obtain ⟨rfl, rfl⟩ := e
    refine ⟨by simp; omega, fun j hj => ?_, fun i hi => by omega⟩
    have e := Below.heap_alloc w1 (.cells #[.bool false, .string m, .slice none 0 0] t) g h2
    exact ⟨by rw [World.cell?_of_block e]; exact (h5 j hj).1, (World.frozen?_of_block e).trans (h5 j hj).2⟩

/-- Filled: the entry is laid. -/
theorem Fl.done {w1 : World} {p : Option Addr} {n c lo yb : Nat} {cs : List Value} {m : ByteArray} {wr : World} {t : TypeId} (h : Fl w1 p n c yb m n wr) (ho : OwnC w1 lo 3 (.slice p n c) n cs) :
    St w1 lo (.slice p n c) n yb wr.heap.size m (.slice none 0 0) (.slice none 0 0) (.slice none 0 0) (wr.alloc (.cells #[.slice p n c, .slice none 0 0, .slice none 0 0, .slice none 0 0, .string m] t)) := by
  have hyl := h.y.1
  refine ⟨grown_trans h.grown ⟨rfl, rfl, rfl, by simp, fun k hk _ => Below.heap_alloc _ _ _ hk⟩, OwnC.alloc ?_ _, h.y.alloc _, Held.fresh wr [.slice p n c, .slice none 0 0, .slice none 0 0, .slice none 0 0, .string m] t, by omega⟩
  rcases ho.2 with ⟨e, h0⟩ | ⟨g, cap, e, h1, h2, h3, h4, h5, h6⟩
  · subst h0
    rw [e]
    exact OwnC.nil _ _ _
  · simp only [Value.slice.injEq, true_and] at e
    obtain ⟨rfl, rfl⟩ := e
    obtain ⟨a1, a2, a3⟩ := h.row g rfl
    exact OwnC.filled h1 a1 h3 h4 a2 a3

/-- One longer list is made and laid into the entry. -/
theorem St.more {w1 : World} {lo n yb xb : Nat} {l : Value} {m : ByteArray} {a b c : Value} {W w' : World} {o : Obj} {u : Value} {j idx : Nat} (h : St w1 lo l n yb xb m a b c W) (hx : w1.heap.size ≤ xb) (hy : w1.heap.size ≤ yb) (hl : ∀ k, l.ownBlock = some k → k < w1.heap.size) (hi : idx < 5)
    (hO : OwnC w' lo 3 u (n + j) (yrow m n ++ yrow m j)) (hO2 : OwnC w' lo 3 l n (yrow m n)) (hg : (W.alloc o).grownBy w' l.ownBlock) (hf : ∀ k, u.ownBlock = some k → l.ownBlock = some k ∨ (W.alloc o).heap.size ≤ k) :
    w1.grownBy (w'.setCell ⟨xb, idx, none⟩ u) l.ownBlock ∧ OwnC (w'.setCell ⟨xb, idx, none⟩ u) lo 3 l n (yrow m n) ∧ Held (w'.setCell ⟨xb, idx, none⟩ u) yb [.bool false, .string m, .slice none 0 0] ∧ Held (w'.setCell ⟨xb, idx, none⟩ u) xb (([l, a, b, c, .string m] : List Value).set idx u) ∧ Held w' xb [l, a, b, c, .string m] ∧ Held w' yb [.bool false, .string m, .slice none 0 0] ∧ Ln w1 l m u (n + j) (w'.setCell ⟨xb, idx, none⟩ u) := by
  have hsW := h.grown.size
  have hs' := hg.size
  rw [World.size_alloc] at hs' hf
  have hne : ∀ k, w1.heap.size ≤ k → l.ownBlock ≠ some k := fun k hk e => by have := hl k e; omega
  have hk : ∀ k, w1.heap.size ≤ k → k < W.heap.size → w'.heap[k]? = W.heap[k]? := fun k h1 h2 => (hg.block k (by simp; omega) (fun e => hne k h1 e.symm)).trans (Below.heap_alloc _ _ _ h2)
  have hX : Held w' xb [l, a, b, c, .string m] := h.x.keep (hk xb hx h.x.1) (by omega)
  have hY : Held w' yb [.bool false, .string m, .slice none 0 0] := h.y.keep (hk yb hy h.y.1) (by omega)
  have hW : W.grownBy w' l.ownBlock := grown_alloc hg
  rw [yrow_add] at hO
  have hux : u.ownBlock ≠ some xb := fun e => by
    rcases hf xb e with e1 | e1
    · exact hne xb hx e1
    · have := h.x.1; omega
  have hset : ∀ k, k ≠ xb → (w'.setCell ⟨xb, idx, none⟩ u).heap[k]? = w'.heap[k]? := fun k hk => Below.heap_setCell _ _ _ _ hk
  refine ⟨grown_set (a := ⟨xb, idx, none⟩) (grown_trans h.grown hW) hx u, hO2.keep (by simp) (fun k _ hk => hset k (fun e => hne xb hx (e ▸ hk))), hY.keep (hset yb h.yx) (by simp), hX.setAt idx u (by simpa using hi), hX, hY, ⟨hO.isFull.keep (fun k hk _ => hset k (fun e => hux (e ▸ hk))), fun k hk => ⟨?_, by simpa using (hO.block k hk).2⟩⟩⟩
  rcases hf k hk with e | e
  · exact .inl e
  · exact .inr (by omega)
theorem Ln.set {w1 : World} {l : Value} {m : ByteArray} {a : Value} {j xb idx : Nat} {W : World} {u : Value} (h : Ln w1 l m a j W) (hn : ¬ a.ownBlock = some xb) : Ln w1 l m a j (W.setCell ⟨xb, idx, none⟩ u) :=
  h.keep (by simp) (fun k hk => Below.heap_setCell _ _ _ _ (fun e => hn (by rw [hk]; exact congrArg some e)))
end Go.Proofs.YtjiikjpnlgogfaaGreatDoor
