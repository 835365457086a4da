/-
  Sound: plain facts.
  Sound: a key out of the map's own row.
-/
import Derived.Test.YtjiikjpnlgogfaaGreatDoorSdSbG
import Derived.Test.YtjiikjpnlgogfaaGreatDoorSdStG
import Derived.Test.YtjiikjpnlgogfaaGreatDoorSdSuG
namespace Go.Proofs.YtjiikjpnlgogfaaGreatDoor
open Go.RowKit
theorem shF_size {c h : List Nat} {dep : Nat} {t : Nd} (hs : shF c h dep = .ok t) : c.length ≤ 700 := by
 unfold shF at hs
 split at hs
 ·cases hs
 ·omega
theorem verL_size : ∀ (L : List (List Nat)) (h : List Nat) (r : ByteArray) (k : Nat) (o : Option ByteArray), verL L h r k = .ok o → ∀ c ∈ L, c.length ≤ 700
 | [], _, _, _, _, _, _, hc => by cases hc
 | c :: L, h, r, k, o, hv, x, hx => by
  rw [verL] at hv
  cases hs : shF c h (64 - r.size) with
  | error e => rw [hs] at hv; cases hv
  | ok t =>
   rw [hs] at hv
   rcases List.mem_cons.1 hx with rfl | hx
   ·exact shF_size hs
   ·dsimp only at hv
    cases hst : stubAt (t.walk 64 r) with
    | some z => obtain ⟨h', r'⟩ := z; rw [hst] at hv; exact verL_size L h' r' (k + 1) o hv x hx
    | none =>
     rw [hst] at hv
     dsimp only at hv
     split at hv
     ·rename_i hL; rw [hL] at hx; cases hx
     ·cases hv
theorem verF_size {h : List Nat} {p : ByteArray} {L : List (List Nat)} {o : Option ByteArray} (hv : verF h p L = .ok o) : ∀ c ∈ L, c.length ≤ 700 := by
 rw [verF] at hv
 split at hv
 ·rename_i hL; intro c hc; rw [hL.1] at hc; cases hc
 ·exact verL_size _ _ _ _ _ hv
theorem nums_pos : ∀ n ∈ nums, n ≠ 0 := by decide
theorem Er.num_pos : ∀ {e : Er}, e.simple → e.num ≠ 0
 | .base n, h => nums_pos n h
 | .place _ e, h => Er.num_pos (e := e) h
 | .noNode _, _ => (by show (8 : Nat) ≠ 0; omega)
 | .inNode _ e, h => Er.num_pos (e := e) h
 | .inProof _ e, h => Er.num_pos (e := e) h
theorem sound_pure {t : Nd} {p : ByteArray} (hc : t.can 64) (hp : p.size = 64) (hnb : nib (bytesOf p)) {l : List ByteArray} {o : Option ByteArray} (h : verF t.dig p (l.map bytesOf) = .ok o) {x y : ByteArray} {b : Bool} (hx : exV (exF (orE (t.prove p)) (orE (l.map bytesOf))) = .tuple #[.string x, .string y, .bool b]) :
  o = t.get (bytesOf p) ∨ collB x y b = true := by
 rcases ver_sound hc hp hnb h with e | ⟨u, v, e1, e2, e3⟩
 ·exact .inl e
 ·right
  rw [e1] at hx
  have hbyte : ∀ (M : List (List Nat)), (∀ c ∈ M, ∀ y ∈ c, y < 256) → ∀ c ∈ orE M, ∀ y ∈ c, y < 256 := fun M hM c hc y hy => by
   rw [orE] at hc
   split at hc
   ·rw [List.mem_singleton] at hc
    subst hc
    exact textCode_byte (fun _ h => by cases h) y hy
   ·exact hM c hc y hy
  have hmem : ∀ (A B : List (List Nat)) u v, exF A B = some (u, v) → u ∈ A ∧ v ∈ B := by
   intro A
   induction A with
   | nil => intro B u v h; cases B <;> cases h
   | cons a A ih =>
    intro B u v h
    cases B with
    | nil => cases h
    | cons b B =>
     by_cases hab : a = b
     ·subst hab
      rw [exF_eq] at h
      have := ih B u v h
      exact ⟨List.mem_cons_of_mem _ this.1, List.mem_cons_of_mem _ this.2⟩
     ·rw [exF_ne hab] at h
      cases h
      exact ⟨List.mem_cons_self .., List.mem_cons_self ..⟩
  obtain ⟨m1, m2⟩ := hmem _ _ _ _ e1
  have hu := hbyte _ (prove_byte (by rw [hp]; exact hc) (by omega)) u m1
  have hv := hbyte _ (bytes_all l) v m2
  simp only [exV, Value.tuple.injEq] at hx
  simp only [Array.mk.injEq, List.cons.injEq, Value.string.injEq, Value.bool.injEq, and_true] at hx
  obtain ⟨rfl, rfl, rfl⟩ := hx
  have hd : (digF (textB u)).toList = (digF (textB v)).toList := e3
  have hne : textB u ≠ textB v := fun e => e2 (by rw [← bytes_textB hu, ← bytes_textB hv, e])
  simp [collB, hd, hne, e3]
theorem prove_small {t : Nd} {p : ByteArray} (hc : t.can 64) (hp : p.size = 64) (hnb : nib (bytesOf p)) : ∀ s ∈ (t.prove p).map textB, s.size ≤ 9223372036854775806 := by
 intro s hs
 obtain ⟨c, hc', rfl⟩ := List.mem_map.1 hs
 have := verF_size (ver_honest hc hp hnb) c hc'
 rw [textB_size]
 omega
end Go.Proofs.YtjiikjpnlgogfaaGreatDoor
namespace Go.Proofs.YtjiikjpnlgogfaaGreatDoor
open Go.RowKit
structure N9K (G : World → Prop) (fb ka : Nat) : Prop where
 feeds : ∀ W W', G W → Only fb W W' → G W'
 keys : ∀ W W', G W → Only ka W W' → G W'
 ne : fb ≠ ka
structure Nu9 (G : World → Prop) (fb ka : Nat) (asked : ByteArray) (n gk : Nat) (b6 : Bool) (v6 : Value) (b7 : Bool) (v7 : Value) (b8 : Bool) (v8 : Value) (b9 : Bool) (W : World) : Prop where
 all : G W
 feed : FeedAt W fb asked
 there : W.there ka 0 32
 dep : b7 = true → b6 = true
 pos : b6 = true → ∃ i : Nat, i < n ∧ v6 = .int .i64 (i : Int) ∧ (b7 = true → v7 = .pointer (some ⟨gk, i * 32, none⟩))
 key : b8 = true → ∃ K : Array Nat, K.size = 32 ∧ Bytes K ∧ v8 = .agg (K.toList.map encB).toArray
 done : b9 = true → ∃ K : Array Nat, K.size = 32 ∧ Bytes K ∧ W.rangeAt ka 0 (K.toList.map encB)
theorem there_lt {W : World} {g n : Nat} (h : W.there g 0 n) (hn : 0 < n) : g < W.heap.size := by
 have := (h 0 hn).1
 cases hc : W.cell? ⟨g, 0 + 0, none⟩ with
 | none => rw [hc] at this; cases this
 | some v => exact World.block_lt_of_cell? W _ hc
theorem Nu9.next {G : World → Prop} {fb ka : Nat} {asked : ByteArray} {n gk : Nat} {b6 : Bool} {v6 : Value} {b7 : Bool} {v7 : Value} {b8 : Bool} {v8 : Value} {b9 : Bool} {W W' : World} {c : Nat} (k : N9K G fb ka) (h : Nu9 G fb ka asked n gk b6 v6 b7 v7 b8 v8 b9 W) (hc : c < n) (hf : Fed fb asked W W') (h7 : b7 = false) : Nu9 G fb ka asked n gk true (.int .i64 (c : Int)) b7 v7 b8 v8 b9 W' := by
 have hb : W'.heap[ka]? = W.heap[ka]? := hf.1.block ka (there_lt h.there (by omega)) k.ne.symm
 refine ⟨k.feeds _ _ h.all hf.1, hf.2, fun j hj => ?_, fun q => rfl, fun _ => ⟨c, hc, rfl, fun q => (by rw [h7] at q; cases q)⟩, h.key, fun q => ?_⟩
 ·rw [World.cell?_of_block hb, World.frozen?_of_block hb]
  exact h.there j hj
 ·obtain ⟨K, h1, h2, h3⟩ := h.done q
  exact ⟨K, h1, h2, rangeAt_block h3 hb⟩
theorem Nu9.index {G : World → Prop} {fb ka : Nat} {asked : ByteArray} {n gk : Nat} {b6 : Bool} {v6 : Value} {b7 : Bool} {v7 : Value} {b8 : Bool} {v8 : Value} {b9 : Bool} {W : World} {i : Nat} (h : Nu9 G fb ka asked n gk b6 v6 b7 v7 b8 v8 b9 W) (d6 : b6 = true) (e : v6 = .int .i64 (i : Int)) : Nu9 G fb ka asked n gk b6 v6 true (.pointer (some ⟨gk, i * 32, none⟩)) b8 v8 b9 W := by
 refine ⟨h.all, h.feed, h.there, fun _ => d6, fun q => ?_, h.key, h.done⟩
 obtain ⟨j, h1, h2, _⟩ := h.pos q
 rw [e] at h2
 simp only [Value.int.injEq, true_and] at h2
 have : i = j := by omega
 subst this
 exact ⟨i, h1, e, fun _ => rfl⟩
theorem Nu9.at7 {G : World → Prop} {fb ka : Nat} {asked : ByteArray} {n gk : Nat} {b6 : Bool} {v6 : Value} {b7 : Bool} {v7 : Value} {b8 : Bool} {v8 : Value} {b9 : Bool} {W : World} (h : Nu9 G fb ka asked n gk b6 v6 b7 v7 b8 v8 b9 W) (d7 : b7 = true) : ∃ i, i < n ∧ v7 = .pointer (some ⟨gk, i * 32, none⟩) := by
 obtain ⟨j, h1, _, h3⟩ := h.pos (h.dep d7)
 exact ⟨j, h1, h3 d7⟩
theorem Nu9.load {G : World → Prop} {fb ka : Nat} {asked : ByteArray} {n gk : Nat} {b6 : Bool} {v6 : Value} {b7 : Bool} {v7 : Value} {b8 : Bool} {v8 : Value} {b9 : Bool} {W : World} {K : Array Nat} (h : Nu9 G fb ka asked n gk b6 v6 b7 v7 b8 v8 b9 W) (h1 : K.size = 32) (h2 : Bytes K) : Nu9 G fb ka asked n gk b6 v6 b7 v7 true (.agg (K.toList.map encB).toArray) b9 W :=
 ⟨h.all, h.feed, h.there, h.dep, h.pos, fun _ => ⟨K, h1, h2, rfl⟩, h.done⟩
theorem Nu9.store {G : World → Prop} {fb ka : Nat} {asked : ByteArray} {n gk : Nat} {b6 : Bool} {v6 : Value} {b7 : Bool} {v7 : Value} {b8 : Bool} {v8 : Value} {b9 : Bool} {W : World} {K : Array Nat} (k : N9K G fb ka) (h : Nu9 G fb ka asked n gk b6 v6 b7 v7 b8 v8 b9 W) (h1 : K.size = 32) (h2 : Bytes K) : Nu9 G fb ka asked n gk b6 v6 b7 v7 b8 v8 true (W.setCells ka 0 (K.toList.map encB)) := by
 obtain ⟨q1, q2, q3, q4⟩ := size_setCells ka (K.toList.map encB) 0 W
 have ho : Only ka W (W.setCells ka 0 (K.toList.map encB)) := ⟨q2, q3, q4, Nat.le_of_eq q1.symm, fun j _ hne => heap_setCells _ _ _ _ _ hne⟩
 exact ⟨k.keys _ _ h.all ho, h.feed.keep (ho.block fb h.feed.lt k.ne) ho.size, World.there_setCells h.there _ _ _, h.dep, h.pos, h.key, fun _ => ⟨K, h1, h2, World.rangeAt_setCells_same W ka 0 _ (by simpa [h1] using h.there)⟩⟩
theorem rowZ : (Tryz.prog.info? 52).map (fun i => (i.zero, i.size, i.bytes)) = some (some (.slice none 0 0), 1, 24) := by kernel_rfl
theorem run_build_four (w : World) (p q r s : Option Addr) (n1 c1 n2 c2 n3 c3 n4 c4 : Nat) : (Instr.buildSlice 74 4 #[(0, .slice p n1 c1), (1, .slice q n2 c2), (2, .slice r n3 c3), (3, .slice s n4 c4)]).run Tryz.prog w = .ok (.slice (some ⟨w.heap.size, 0, none⟩) 4 4) (w.alloc (.cells #[.slice p n1 c1, .slice q n2 c2, .slice r n3 c3, .slice s n4 c4] 52)) := by
 obtain ⟨i, h1, h2, h3, h4⟩ := info_parts rowZ
 refine run_buildSlice w _ 52 4 _ #[.slice p n1 c1, .slice q n2 c2, .slice r n3 c3, .slice s n4 c4] i (.slice none 0 0) Tryz.underlying74 h1 h2 (by rw [h3]; decide) (by rw [h3]; decide) ?_
 rw [h3]
 have := Great.fill_whole (s := 1) (by decide) [.slice p n1 c1, .slice q n2 c2, .slice r n3 c3, .slice s n4 c4] ((Array.range (4 * 1)).map ((Value.slice none 0 0).cells[· % (Value.slice none 0 0).cells.size]!)) (by simp [Value.cells]) (by simp)
 simpa [Value.cells] using this
structure Tries (w : World) (tb : Nat) (S : Wood) (U : Nat → Prop) (R : World) : Prop where
 at_ : ∀ k, k < 4 → ∃ (qp : Option Addr) (ql : List ByteArray) (qc : Nat), R.cell? ⟨tb, k, none⟩ = some (.slice qp ql.length qc) ∧ ql.length ≤ 9223372036854775807 ∧ (∀ a, qp = some a → S a.block = none) ∧ ((StrRow R qp ql qc ∧ ∀ a, qp = some a → U a.block) ∨ StrRow w qp ql qc)
theorem tries_of {w R : World} {tb : Nat} {S : Wood} {U : Nat → Prop} {o : TypeId} {p1 p2 p3 p4 : Option Addr} {l1 l2 l3 l4 : List ByteArray} {c1 c2 c3 c4 : Nat} (hR : R.heap[tb]? = some (.cells #[.slice p1 l1.length c1, .slice p2 l2.length c2, .slice p3 l3.length c3, .slice p4 l4.length c4] o (0, 0)))
  (h1 : l1.length ≤ 9223372036854775807) (h2 : l2.length ≤ 9223372036854775807) (h3 : l3.length ≤ 9223372036854775807) (h4 : l4.length ≤ 9223372036854775807)
  (r1 : StrRow R p1 l1 c1 ∧ ∀ a, p1 = some a → U a.block) (r2 : StrRow R p2 l2 c2 ∧ ∀ a, p2 = some a → U a.block) (r3 : StrRow w p3 l3 c3) (r4 : StrRow R p4 l4 c4 ∧ ∀ a, p4 = some a → U a.block) (hU : ∀ k, U k → S k = none) (h3S : ∀ a, p3 = some a → S a.block = none) : Tries w tb S U R :=
 ⟨fun k hk => by
  match k, hk with
  | 0, _ => exact ⟨p1, l1, c1, by simp [World.cell?, hR], h1, fun a ha => hU _ (r1.2 a ha), .inl r1⟩
  | 1, _ => exact ⟨p2, l2, c2, by simp [World.cell?, hR], h2, fun a ha => hU _ (r2.2 a ha), .inl r2⟩
  | 2, _ => exact ⟨p3, l3, c3, by simp [World.cell?, hR], h3, h3S, .inr r3⟩
  | 3, _ => exact ⟨p4, l4, c4, by simp [World.cell?, hR], h4, fun a ha => hU _ (r4.2 a ha), .inl r4⟩⟩
theorem xver_any {w W : World} (sent : Nat → Addr) (hE : Env w.heap.size sent w ∧ typeAt w ∧ 12 < w.heap.size) (hb : Below w.heap.size w W) (h : List Nat) (K : Array Nat) (l : List ByteArray) (p : Option Addr) (c : Nat) (hh : h.length = 32) (hhb : ∀ x ∈ h, x < 256) (hK : K.size = 32) (hKb : Bytes K) (hr : StrRow W p l c) (hl : l.length ≤ 9223372036854775807) {q : Except Er (Option ByteArray)} (hq : verF h (textB (nibs K.toList)) (l.map bytesOf) = q) :
  Calls Tryz.prog 30 #[.agg (h.map encB).toArray, .agg (K.toList.map encB).toArray, .slice p l.length c] W fun e w' => e = .returned (.tuple #[.string (verStr q), .bool (verHas q), verFault q]) ∧ Below W.heap.size W w' :=
 xverify_any sent h K l p c ((hE.1.below hb).raise hb.size) ((hb.cell (p := ⟨12, 0, none⟩) hE.2.2).trans hE.2.1) (Nat.lt_of_lt_of_le hE.2.2 hb.size) hh hhb hK hKb hr hl (q := q) hq
end Go.Proofs.YtjiikjpnlgogfaaGreatDoor
