/-
  Items of whatever making: a plain tree; how it may lie in memory: read (rows anywhere), or made anew (rows in blocks of their own, each apart from the others).
  twigslaw: copied: an item of its own.
  Package twigsref: Plain: an item that was read, without its places.
-/
import Derived.Test.YtjiikjpnlgogfaaGreatDoorEncG
import Derived.Test.YtjiikjpnlgogfaaGreatDoorFull
namespace Go.Proofs.YtjiikjpnlgogfaaGreatDoor
open Go.RowKit

/-- An item as it was handed in. -/
inductive Raw where
  | mk (lst : Bool) (text : ByteArray) (items : List Raw)

mutual
def Raw.code : Raw → List Nat
  | .mk l t its => if l then listCode (rcodes its) else textCode (bytesOf t)
def rcodes : List Raw → List Nat
  | [] => []
  | x :: xs => x.code ++ rcodes xs
end
mutual
def Raw.depth : Raw → Nat
  | .mk l _ its => if l then rdeep its + 1 else 0
def rdeep : List Raw → Nat
  | [] => 0
  | x :: xs => max x.depth (rdeep xs)
end
mutual
def Raw.size : Raw → Nat
  | .mk _ t its => 1 + t.size + rsize its
def rsize : List Raw → Nat
  | [] => 0
  | x :: xs => x.size + rsize xs
end
mutual
/-- An item that was read, without its places. -/
def It.raw : It → Raw
  | .text _ _ t => .mk false (textB t) []
  | .list _ _ l => .mk true (textB []) (raws l)
def raws : List It → List Raw
  | [] => []
  | x :: xs => x.raw :: raws xs
end
theorem raws_map (l : List It) : raws l = l.map It.raw := by
  induction l with
  | nil => rfl
  | cons x l ih => rw [raws, ih, List.map_cons]
theorem rcodes_append (a b : List Raw) : rcodes (a ++ b) = rcodes a ++ rcodes b := by
  induction a with
  | nil => rfl
  | cons x a ih => rw [List.cons_append, rcodes, rcodes, ih, List.append_assoc]
theorem rdeep_append (a b : List Raw) : rdeep (a ++ b) = max (rdeep a) (rdeep b) := by
  induction a with
  | nil => simp [rdeep]
  | cons x a ih => rw [List.cons_append, rdeep, rdeep, ih, Nat.max_assoc]
theorem Raw.size_pos (x : Raw) : 0 < x.size := by
  cases x
  rw [Raw.size]
  omega
theorem rsize_length : ∀ l : List Raw, l.length ≤ rsize l
  | [] => by simp
  | x :: l => by
    have := rsize_length l
    have := x.size_pos
    rw [rsize, List.length_cons]
    omega
theorem rsize_mem {x : Raw} : ∀ {l : List Raw}, x ∈ l → x.size ≤ rsize l := by
  intro l
  induction l with
  | nil => intro h; cases h
  | cons y l ih =>
    intro h
    rw [rsize]
    rcases List.mem_cons.1 h with rfl | h
    · omega
    · have := ih h
      omega
theorem rdeep_mem {x : Raw} : ∀ {l : List Raw}, x ∈ l → x.depth ≤ rdeep l := by
  intro l
  induction l with
  | nil => intro h; cases h
  | cons y l ih =>
    intro h
    rw [rdeep]
    rcases List.mem_cons.1 h with rfl | h
    · exact Nat.le_max_left _ _
    · exact Nat.le_trans (ih h) (Nat.le_max_right _ _)
mutual
theorem Raw.depth_le : ∀ x : Raw, x.depth ≤ x.size
  | .mk l t its => by
    have := rdeep_le its
    rw [Raw.depth, Raw.size]
    split <;> omega
theorem rdeep_le : ∀ l : List Raw, rdeep l ≤ rsize l
  | [] => by simp [rdeep]
  | x :: l => by
    have := x.depth_le
    have := rdeep_le l
    rw [rdeep, rsize]
    omega
end
theorem bigE_len9 (n : Nat) : (headB 128 n).length ≤ 9 ∧ (headB 192 n).length ≤ 9 := by
  have := bigE_le n
  unfold headB
  constructor <;> split <;> simp <;> omega
mutual
theorem Raw.code_le : ∀ x : Raw, x.code.length ≤ 9 * x.size
  | .mk l t its => by
    have := rcodes_le its
    have h1 := bigE_len9 (rcodes its).length
    have h2 := bigE_len9 (bytesOf t).length
    have h3 := bytesOf_length t
    rw [Raw.code, Raw.size]
    split
    · unfold listCode
      rw [List.length_append]
      omega
    · unfold textCode
      rw [List.length_append]
      split
      · simp only [List.length_nil]; omega
      · omega
theorem rcodes_le : ∀ l : List Raw, (rcodes l).length ≤ 9 * rsize l
  | [] => by simp [rcodes]
  | x :: l => by
    have := x.code_le
    have := rcodes_le l
    rw [rcodes, rsize, List.length_append]
    omega
end
theorem headB_byte' : ∀ k n b, b ∈ headB k n → b < 256 := fun k n b hb => by
  unfold headB at hb
  split at hb
  · rw [List.mem_singleton.1 hb]; omega
  · rcases List.mem_cons.1 hb with rfl | hb
    · omega
    · exact bigE_byte n b hb
mutual
theorem Raw.code_byte : ∀ x : Raw, ∀ b ∈ x.code, b < 256
  | .mk l t its => by
    have h := rcodes_byte its
    intro b hb
    rw [Raw.code] at hb
    split at hb
    · unfold listCode at hb
      rcases List.mem_append.1 hb with hb | hb
      · exact headB_byte' _ _ b hb
      · exact h b hb
    · unfold textCode at hb
      rcases List.mem_append.1 hb with hb | hb
      · split at hb
        · cases hb
        · exact headB_byte' _ _ b hb
      · exact byte_lt t b hb
theorem rcodes_byte : ∀ l : List Raw, ∀ b ∈ rcodes l, b < 256
  | [] => by simp [rcodes]
  | x :: l => by
    have h1 := x.code_byte
    have h2 := rcodes_byte l
    intro b hb
    rw [rcodes] at hb
    rcases List.mem_append.1 hb with hb | hb
    · exact h1 b hb
    · exact h2 b hb
end

/-- v is a slice of n elements that are the cells cs together, wherever. -/
def RowOff (w : World) (v : Value) (n : Nat) (cs : List Value) : Prop :=
  ((∃ p c, v = .slice p 0 c) ∧ n = 0 ∧ cs = []) ∨ ∃ g off cap, v = .slice (some ⟨g, off, none⟩) n cap ∧ w.rangeAt g off cs

theorem RowOff.below {w w' : World} {v : Value} {n : Nat} {cs : List Value} (h : RowOff w v n cs) (hb : Below w.heap.size w w') : RowOff w' v n cs := by
  rcases h with h | ⟨g, off, cap, rfl, h⟩
  · exact .inl h
  · refine .inr ⟨g, off, cap, rfl, fun j u hu => ?_⟩
    have h1 := h j u hu
    have h2 := World.block_lt_of_cell? w _ h1
    exact (hb.cell h2).trans h1
theorem RowOff.shape {w : World} {v : Value} {n : Nat} {cs : List Value} (h : RowOff w v n cs) : ∃ p c, v = .slice p n c := by
  rcases h with ⟨⟨p, c, rfl⟩, rfl, _⟩ | ⟨g, off, cap, rfl, _⟩ <;> exact ⟨_, _, rfl⟩

/-- An item in memory, its rows anywhere. -/
def RTree (enc : El → List Value) : Nat → World → El → Raw → Prop
  | 0, _, _, _ => False
  | n + 1, w, e, r => ∃ ps : List (El × Raw), RowOff w e.sub ps.length (ps.flatMap fun p => enc p.1) ∧ (∀ p ∈ ps, RTree enc n w p.1 p.2) ∧ r = .mk e.lst e.text (ps.map (·.2))

theorem RTree.below {enc : El → List Value} {w w' : World} (hb : Below w.heap.size w w') : ∀ {n : Nat} {e : El} {r : Raw}, RTree enc n w e r → RTree enc n w' e r
  | 0, _, _, h => h
  | _ + 1, _, _, ⟨ps, h1, h2, h3⟩ => ⟨ps, h1.below hb, fun p hp => (h2 p hp).below hb, h3⟩
theorem RTree.shape {enc : El → List Value} {w : World} {n : Nat} {e : El} {r : Raw} (h : RTree enc n w e r) : ∃ p m c, e.sub = .slice p m c := by
  cases n with
  | zero => exact h.elim
  | succ n =>
    obtain ⟨ps, h1, _⟩ := h
    obtain ⟨p, c, h⟩ := h1.shape
    exact ⟨p, _, c, h⟩
/-- Of elements of so many cells each: the cells of the i-th. -/
theorem RowOff.cells {w : World} {enc : El → List Value} {size : Nat} (hz : ∀ e, (enc e).length = size) {p : Option Addr} {m c : Nat} {ps : List (El × Raw)} (h : RowOff w (.slice p m c) ps.length (ps.flatMap fun x => enc x.1)) (hp : 0 < ps.length) :
    ∃ g off, p = some ⟨g, off, none⟩ ∧ m = ps.length ∧ ∀ i, (hi : i < ps.length) → w.rangeAt g (off + i * size) (enc ps[i].1) := by
  rcases h with ⟨_, h, _⟩ | ⟨g, off, cap, e, h3⟩
  · omega
  · simp only [Value.slice.injEq] at e
    obtain ⟨rfl, rfl, rfl⟩ := e
    refine ⟨g, off, rfl, rfl, fun i hi j u hu => ?_⟩
    have hj : j < size := by
      have := (List.getElem?_eq_some_iff.1 hu).1
      rwa [hz] at this
    have := h3 (i * size + j) u (by rw [flat_at hz ps i hi j hj]; exact hu)
    rwa [← Nat.add_assoc] at this
theorem RowOff.len {w : World} {p : Option Addr} {m c n : Nat} {cs : List Value} (h : RowOff w (.slice p m c) n cs) : m = n := by
  rcases h with ⟨⟨p', c', h⟩, h2, _⟩ | ⟨g, off, cap, e, _⟩
  · simp only [Value.slice.injEq] at h
    omega
  · simp only [Value.slice.injEq] at e
    exact e.2.1

/-- A row in a block of its own, from lo up to hi; each of its items has a stretch of blocks of its own. -/
structure SRow (w : World) (lo hi : Nat) (v : Value) (ps : List (El × Raw)) (iv : Nat → Nat × Nat) : Prop where
  own : OwnC w lo 3 v ps.length (ps.flatMap fun p => encI p.1)
  top : ∀ k, v.ownBlock = some k → k < hi ∧ Plain w k ∧ ∀ i, i < ps.length → ¬ ((iv i).1 ≤ k ∧ k < (iv i).2)
  room : ∀ i, i < ps.length → lo ≤ (iv i).1 ∧ (iv i).2 ≤ hi
  ord : ∀ i j, i < j → j < ps.length → (iv i).2 ≤ (iv j).1

/-- An item that was made anew, in the blocks from lo up to hi. -/
def TreeS : Nat → World → Nat → Nat → El → Raw → Prop
  | 0, _, _, _, _, _ => False
  | n + 1, w, lo, hi, e, r => ∃ (ps : List (El × Raw)) (iv : Nat → Nat × Nat), SRow w lo hi e.sub ps iv ∧ (∀ i (h : i < ps.length), TreeS n w (iv i).1 (iv i).2 ps[i].1 ps[i].2) ∧ r = .mk e.lst e.text (ps.map (·.2))

theorem SRow.keep {w w' : World} {lo hi : Nat} {v : Value} {ps : List (El × Raw)} {iv : Nat → Nat × Nat} (h : SRow w lo hi v ps iv) (hs : w.heap.size ≤ w'.heap.size) (hb : ∀ k, v.ownBlock = some k → w'.heap[k]? = w.heap[k]?) : SRow w' lo hi v ps iv :=
  ⟨h.own.keep hs fun k _ hk => hb k hk, fun k hk => ⟨(h.top k hk).1, (h.top k hk).2.1.keep (hb k hk), (h.top k hk).2.2⟩, h.room, h.ord⟩
theorem TreeS.keep {w w' : World} (hs : w.heap.size ≤ w'.heap.size) : ∀ {n lo hi : Nat} {e : El} {r : Raw}, TreeS n w lo hi e r → (∀ k, lo ≤ k → k < hi → k < w.heap.size → w'.heap[k]? = w.heap[k]?) → TreeS n w' lo hi e r
  | 0, _, _, _, _, h, _ => h
  | n + 1, lo, hi, e, r, ⟨ps, iv, h1, h2, h3⟩, hb => ⟨ps, iv, h1.keep hs fun k hk => hb k (h1.own.block k hk).1 (h1.top k hk).1 (h1.own.block k hk).2, fun i hi' => TreeS.keep hs (h2 i hi') fun k k1 k2 k3 => hb k (by have := (h1.room i hi').1; omega) (by have := (h1.room i hi').2; omega) k3, h3⟩
theorem TreeS.below {w w' : World} {n lo hi : Nat} {e : El} {r : Raw} (h : TreeS n w lo hi e r) (hb : Below w.heap.size w w') : TreeS n w' lo hi e r := h.keep hb.size fun k _ _ hk => hb.block k hk
theorem TreeS.widen {w : World} {n lo hi lo' hi' : Nat} {e : El} {r : Raw} (h : TreeS n w lo hi e r) (h1 : lo' ≤ lo) (h2 : hi ≤ hi') : TreeS n w lo' hi' e r := by
  cases n with
  | zero => exact h
  | succ n =>
    obtain ⟨ps, iv, a, b, c⟩ := h
    refine ⟨ps, iv, ⟨a.own.mono h1, fun k hk => ⟨by have := (a.top k hk).1; omega, (a.top k hk).2⟩, fun i hi => ?_, a.ord⟩, b, c⟩
    have := a.room i hi
    omega
theorem OwnC.rowOff {w : World} {B size : Nat} {v : Value} {n : Nat} {cs : List Value} (h : OwnC w B size v n cs) : RowOff w v n cs := by
  obtain ⟨hl, h⟩ := h
  rcases h with ⟨h1, h2⟩ | ⟨g, cap, rfl, h1, h2, h3, h4, h5, h6⟩
  · subst h2
    exact .inl ⟨⟨_, _, h1⟩, rfl, List.eq_nil_of_length_eq_zero (by simpa using hl)⟩
  · exact .inr ⟨g, 0, cap, rfl, h6⟩
theorem SRow.rowAt {w : World} {lo hi : Nat} {v : Value} {ps : List (El × Raw)} {iv : Nat → Nat × Nat} (h : SRow w lo hi v ps iv) : RowAt w (fun _ => True) v ps.length (ps.flatMap fun p => encI p.1) := h.own.rowAt (fun _ _ => trivial) (fun k hk => (h.top k hk).2.1)
theorem TreeS.read {w : World} : ∀ {n lo hi : Nat} {e : El} {r : Raw}, TreeS n w lo hi e r → RTree encI n w e r
  | 0, _, _, _, _, h => h
  | n + 1, lo, hi, e, r, ⟨ps, iv, h1, h2, h3⟩ => ⟨ps, h1.own.rowOff, fun p hp => by
      obtain ⟨i, hi', rfl⟩ := List.mem_iff_getElem.1 hp
      exact (h2 i hi').read, h3⟩
theorem TreeS.shape {w : World} {n lo hi : Nat} {e : El} {r : Raw} (h : TreeS n w lo hi e r) : ∃ p m c, e.sub = .slice p m c := h.read.shape

/-- Made so far. -/
structure SHalf (d B : Nat) (wr : World) (v : Value) (qs : List (El × Raw)) (iv : Nat → Nat × Nat) : Prop where
  row : SRow wr B wr.heap.size v qs iv
  trees : ∀ i (h : i < qs.length), TreeS d wr (iv i).1 (iv i).2 qs[i].1 qs[i].2

theorem SHalf.nil (d B : Nat) (w : World) : SHalf d B w (.slice none 0 0) [] (fun _ => (0, 0)) :=
  ⟨⟨OwnC.nil _ _ _, by simp [Value.ownBlock], by simp, by simp⟩, by simp⟩
theorem SHalf.keep {d B : Nat} {wr w' : World} {v : Value} {qs : List (El × Raw)} {iv : Nat → Nat × Nat} (h : SHalf d B wr v qs iv) (hs : wr.heap.size ≤ w'.heap.size) (hb : ∀ k, B ≤ k → k < wr.heap.size → w'.heap[k]? = wr.heap[k]?) : SHalf d B w' v qs iv := by
  refine ⟨?_, fun i hi => (h.trees i hi).keep hs fun k k1 k2 k3 => hb k (by have := (h.row.room i hi).1; omega) k3⟩
  have := h.row.keep hs fun k hk => hb k (h.row.own.block k hk).1 (h.row.own.block k hk).2
  exact ⟨this.own, fun k hk => ⟨by have := (this.top k hk).1; omega, (this.top k hk).2⟩, fun i hi => by have := this.room i hi; omega, this.ord⟩
theorem SHalf.more {d B : Nat} {wr W w1 W1 w2 : World} {v v2 : Value} {qs : List (El × Raw)} {iv : Nat → Nat × Nat} {e : El} {c : Raw} (h : SHalf d B wr v qs iv) (hB : B ≤ wr.heap.size)
    (hW : Below wr.heap.size wr W) (hb1 : Below W.heap.size W w1) (hT : TreeS d w1 W.heap.size w1.heap.size e c) (hW1 : Below w1.heap.size w1 W1)
    (hO2 : OwnC w2 B 3 v2 (qs.length + 1) ((qs.flatMap fun q => encI q.1) ++ encI e)) (hg : W1.grownBy w2 v.ownBlock) (hf : ∀ b, v2.ownBlock = some b → v.ownBlock = some b ∨ W1.heap.size ≤ b) (hP : (∀ k, v.ownBlock = some k → Plain W1 k) → ∀ b, v2.ownBlock = some b → Plain w2 b) :
    SHalf d B w2 v2 (qs ++ [(e, c)]) (fun i => if i < qs.length then iv i else (W.heap.size, w1.heap.size)) := by
  have hs2 := hW.size
  have hs3 := hb1.size
  have hs4 := hW1.size
  have hs5 := hg.size
  have hblk : ∀ k, k < wr.heap.size → v.ownBlock ≠ some k → w2.heap[k]? = wr.heap[k]? := fun k hk hne =>
    (hg.block k (by omega) (fun e => hne e.symm)).trans ((hW1.block k (by omega)).trans ((hb1.block k (by omega)).trans (hW.block k hk)))
  have hblk1 : ∀ k, wr.heap.size ≤ k → k < w1.heap.size → w2.heap[k]? = w1.heap[k]? := fun k hk hk2 =>
    (hg.block k (by omega) (fun e => by have := (h.row.own.block k e.symm).2; omega)).trans (hW1.block k hk2)
  have hplain : ∀ k, v.ownBlock = some k → Plain W1 k := fun k hk => by
    have hk2 := (h.row.own.block k hk).2
    exact (h.row.top k hk).2.1.keep ((hW1.block k (by omega)).trans ((hb1.block k (by omega)).trans (hW.block k hk2)))
  refine ⟨⟨by simpa using hO2, fun k hk => ⟨by have := (hO2.block k hk).2; omega, hP hplain k hk, fun i hi => ?_⟩, fun i hi => ?_, fun i j hij hj => ?_⟩, fun i hi => ?_⟩
  · by_cases hlt : i < qs.length
    · rw [if_pos hlt]
      rcases hf k hk with e1 | e1
      · exact (h.row.top k e1).2.2 i hlt
      · have := (h.row.room i hlt).2
        omega
    · rw [if_neg hlt]
      simp only
      rcases hf k hk with e1 | e1
      · have := (h.row.own.block k e1).2
        omega
      · omega
  · by_cases hlt : i < qs.length
    · rw [if_pos hlt]
      have := h.row.room i hlt
      omega
    · rw [if_neg hlt]
      simp only
      omega
  · have hlt : i < qs.length := by simp at hj; omega
    rw [if_pos hlt]
    by_cases hlt2 : j < qs.length
    · rw [if_pos hlt2]
      exact h.row.ord i j hij hlt2
    · rw [if_neg hlt2]
      have := (h.row.room i hlt).2
      simp only
      omega
  · by_cases hlt : i < qs.length
    · rw [if_pos hlt, List.getElem_append_left hlt]
      refine (h.trees i hlt).keep (by omega) fun k k1 k2 k3 => hblk k k3 (fun e1 => (h.row.top k e1).2.2 i hlt ⟨k1, k2⟩)
    · have e1 : i = qs.length := by simp at hi; omega
      subst e1
      rw [if_neg hlt, List.getElem_append_right (Nat.le_refl _)]
      simp only [Nat.sub_self, List.getElem_cons_zero]
      exact hT.keep (by omega) fun k k1 k2 k3 => hblk1 k (by omega) k3
theorem SHalf.done {d B hi : Nat} {wr : World} {l : Bool} {tx : ByteArray} {v : Value} {qs : List (El × Raw)} {iv : Nat → Nat × Nat} (h : SHalf d B wr v qs iv) (hh : wr.heap.size ≤ hi) : TreeS (d + 1) wr B hi ⟨0, 0, l, tx, v⟩ (.mk l tx (qs.map (·.2))) :=
  TreeS.widen (n := d + 1) ⟨qs, iv, h.row, h.trees, rfl⟩ (Nat.le_refl _) hh
end Go.Proofs.YtjiikjpnlgogfaaGreatDoor

namespace Go.Proofs.YtjiikjpnlgogfaaGreatDoor
open Go.RowKit

/-- What a call answers that makes an item anew. -/
def MadeSaid (n : Nat) (r : Raw) (W : World) (e : Ending) (w' : World) : Prop :=
  Below W.heap.size W w' ∧ ∃ (l : Bool) (tx : ByteArray) (p : Option Addr) (m c : Nat), e = .returned (valI ⟨0, 0, l, tx, .slice p m c⟩) ∧ TreeS n w' W.heap.size w'.heap.size ⟨0, 0, l, tx, .slice p m c⟩ r

/-- Copied so far: the first k; V stands where the source's row is read, in its cell j; what is made stands in the third block. -/
structure CHalf (d : Nat) (w : World) (l : Bool) (tx : ByteArray) (V : Value) (rs : List Raw) (k : Nat) (wr : World) (v : Value) (qs : List (El × Raw)) (iv : Nat → Nat × Nat) : Prop where
  below : Below w.heap.size w wr
  lt : w.heap.size + 2 < wr.heap.size
  src : wr.cell? ⟨w.heap.size, 2, none⟩ = some V
  r0 : wr.cell? ⟨w.heap.size + 1, 0, none⟩ = some (.bool false) ∧ wr.frozen? ⟨w.heap.size + 1, 0, none⟩ = false
  r1 : wr.cell? ⟨w.heap.size + 1, 1, none⟩ = some (.string ⟨#[]⟩) ∧ wr.frozen? ⟨w.heap.size + 1, 1, none⟩ = false
  r2 : wr.cell? ⟨w.heap.size + 1, 2, none⟩ = some (.slice none 0 0) ∧ wr.frozen? ⟨w.heap.size + 1, 2, none⟩ = false
  o0 : wr.cell? ⟨w.heap.size + 2, 0, none⟩ = some (.bool l)
  o1 : wr.cell? ⟨w.heap.size + 2, 1, none⟩ = some (.string tx)
  o2 : wr.cell? ⟨w.heap.size + 2, 2, none⟩ = some v ∧ wr.frozen? ⟨w.heap.size + 2, 2, none⟩ = false
  half : SHalf d (w.heap.size + 3) wr v qs iv
  codes : qs.map (·.2) = rs.take k
  len : qs.length = k

theorem CHalf.start (d : Nat) (w : World) (l : Bool) (tx : ByteArray) (cs : Array Value) (V : Value) (hV : cs[2]? = some V) (rs : List Raw) (t u s : TypeId) :
    CHalf d w l tx V rs 0 (((w.alloc (.cells cs t)).alloc (.cells #[.bool false, .string ⟨#[]⟩, .slice none 0 0] u)).alloc (.cells #[.bool l, .string tx, .slice none 0 0] s)) (.slice none 0 0) [] (fun _ => (0, 0)) := by
  have e1 : w.heap.size + 1 = (w.alloc (.cells cs t)).heap.size := by simp
  have e2 : w.heap.size + 2 = ((w.alloc (.cells cs t)).alloc (.cells #[.bool false, .string ⟨#[]⟩, .slice none 0 0] u)).heap.size := by simp
  have p1 : ∀ j, (((w.alloc (.cells cs t)).alloc (.cells #[.bool false, .string ⟨#[]⟩, .slice none 0 0] u)).alloc (.cells #[.bool l, .string tx, .slice none 0 0] s)).cell? ⟨w.heap.size + 1, j, none⟩ = (#[.bool false, .string ⟨#[]⟩, .slice none 0 0] : Array Value)[j]? := fun j => by
    rw [World.cell?_alloc_past _ _ _ (by simp), e1, World.cell?_alloc_new]
  have q1 : ∀ j, (((w.alloc (.cells cs t)).alloc (.cells #[.bool false, .string ⟨#[]⟩, .slice none 0 0] u)).alloc (.cells #[.bool l, .string tx, .slice none 0 0] s)).frozen? ⟨w.heap.size + 1, j, none⟩ = false := fun j => by
    rw [World.frozen?_alloc_past _ _ _ (by simp), e1, World.frozen?_alloc_new]
  have p2 : ∀ j, (((w.alloc (.cells cs t)).alloc (.cells #[.bool false, .string ⟨#[]⟩, .slice none 0 0] u)).alloc (.cells #[.bool l, .string tx, .slice none 0 0] s)).cell? ⟨w.heap.size + 2, j, none⟩ = (#[.bool l, .string tx, .slice none 0 0] : Array Value)[j]? := fun j => by
    rw [e2, World.cell?_alloc_new]
  refine ⟨(((Below.refl _ _).alloc (Nat.le_refl _) _).alloc (by simp) _).alloc (by simp; omega) _, by simp, ?_, ⟨p1 0, q1 0⟩, ⟨p1 1, q1 1⟩, ⟨p1 2, q1 2⟩, p2 0, p2 1, ⟨p2 2, by rw [e2, World.frozen?_alloc_new]⟩, SHalf.nil _ _ _, by simp, rfl⟩
  rw [World.cell?_alloc_past _ _ _ (by simp; omega), World.cell?_alloc_past _ _ _ (by simp), World.cell?_alloc_new, hV]

theorem CHalf.more {d : Nat} {w : World} {l : Bool} {tx : ByteArray} {V : Value} {rs : List Raw} {k : Nat} {wr w1 w2 : World} {v v2 : Value} {qs : List (El × Raw)} {iv : Nat → Nat × Nat} {o1 o2 : Obj} {e : El} {c : Raw} (h : CHalf d w l tx V rs k wr v qs iv) (hk : rs[k]? = some c)
    (hb1 : Below wr.heap.size wr w1) (hT : TreeS d w1 wr.heap.size w1.heap.size e c)
    (hO2 : OwnC w2 (w.heap.size + 3) 3 v2 (k + 1) ((qs.flatMap fun q => encI q.1) ++ encI e)) (hg : ((w1.alloc o1).alloc o2).grownBy w2 v.ownBlock) (hf : ∀ b, v2.ownBlock = some b → v.ownBlock = some b ∨ ((w1.alloc o1).alloc o2).heap.size ≤ b) (hP : (∀ k, v.ownBlock = some k → Plain ((w1.alloc o1).alloc o2) k) → ∀ b, v2.ownBlock = some b → Plain w2 b) :
    ∃ p m c', v2 = .slice p m c' ∧ w2.cell? ⟨w.heap.size + 2, 2, none⟩ = some v ∧ w2.frozen? ⟨w.heap.size + 2, 2, none⟩ = false ∧ w.heap.size + 2 < w2.heap.size ∧ ∃ iv', CHalf d w l tx V rs (k + 1) (w2.setCell ⟨w.heap.size + 2, 2, none⟩ (.slice p m c')) (.slice p m c') (qs ++ [(e, c)]) iv' := by
  obtain ⟨p, m, c', rfl⟩ := hO2.shape
  have hlt := h.lt
  have hs1 := hb1.size
  have hs2 := hg.size
  simp only [World.size_alloc] at hs2
  have hblk : ∀ b, b < w.heap.size + 3 → w2.heap[b]? = wr.heap[b]? := fun b hb =>
    (hg.block b (by simp; omega) (fun e1 => by have := (h.half.row.own.block b e1.symm).1; omega)).trans ((Below.heap_alloc _ _ _ (by simp; omega)).trans ((Below.heap_alloc _ _ _ (by omega)).trans (hb1.block b (by omega))))
  have cl : ∀ b j u, b < w.heap.size + 3 → wr.cell? ⟨b, j, none⟩ = some u → w2.cell? ⟨b, j, none⟩ = some u := fun b j u hb hu => (World.cell?_of_block (hblk b hb)).trans hu
  have fz : ∀ b j, b < w.heap.size + 3 → wr.frozen? ⟨b, j, none⟩ = false → w2.frozen? ⟨b, j, none⟩ = false := fun b j hb hu => (World.frozen?_of_block (hblk b hb)).trans hu
  have st : ∀ b j u, b ≠ w.heap.size + 2 ∨ j ≠ 2 → w2.cell? ⟨b, j, none⟩ = some u → (w2.setCell ⟨w.heap.size + 2, 2, none⟩ (.slice p m c')).cell? ⟨b, j, none⟩ = some u := fun b j u hne hu => (World.cell?_setCell_other _ _ _ _ (by simp; omega)).trans hu
  have hM := SHalf.more h.half (by omega) (Below.refl _ _) hb1 hT (((Below.refl _ _).alloc (Nat.le_refl _) o1).alloc (by simp) o2) (by rw [h.len]; exact hO2) hg hf hP
  refine ⟨p, m, c', rfl, cl _ _ _ (by omega) h.o2.1, fz _ _ (by omega) h.o2.2, by omega, _, ⟨?_, by simp; omega, st _ _ _ (by omega) (cl _ _ _ (by omega) h.src), ⟨st _ _ _ (by omega) (cl _ _ _ (by omega) h.r0.1), by rw [World.frozen?_setCell]; exact fz _ _ (by omega) h.r0.2⟩, ⟨st _ _ _ (by omega) (cl _ _ _ (by omega) h.r1.1), by rw [World.frozen?_setCell]; exact fz _ _ (by omega) h.r1.2⟩, ⟨st _ _ _ (by omega) (cl _ _ _ (by omega) h.r2.1), by rw [World.frozen?_setCell]; exact fz _ _ (by omega) h.r2.2⟩, st _ _ _ (by omega) (cl _ _ _ (by omega) h.o0), st _ _ _ (by omega) (cl _ _ _ (by omega) h.o1), ⟨World.cell?_setCell_same _ _ _ (cl _ _ _ (by omega) h.o2.1), by rw [World.frozen?_setCell]; exact fz _ _ (by omega) h.o2.2⟩, hM.keep (by simp) fun b hb _ => Below.heap_setCell _ _ _ _ (by simp only; omega), ?_, by simp [h.len]⟩⟩
  · refine Below.setCell ?_ (by simp only; omega) _
    have hB1 : Below w.heap.size w w1 := h.below.trans (hb1.mono (by omega))
    exact ((hB1.alloc (by omega) o1).alloc (by simp; omega) o2).trans ⟨hg.os, hg.tape, hg.output, hg.size, fun b hb => hg.block b (by simp; omega) (fun e => by have := (h.half.row.own.block b e.symm).1; omega)⟩
  · have hkl : k < rs.length := (List.getElem?_eq_some_iff.1 hk).1
    rw [List.map_append, h.codes, ← List.take_append_getElem hkl]
    simp [(List.getElem?_eq_some_iff.1 hk).2]

theorem CHalf.fin {d : Nat} {w : World} {l : Bool} {tx : ByteArray} {V : Value} {rs : List Raw} {k : Nat} {wr : World} {p : Option Addr} {m c : Nat} {qs : List (El × Raw)} {iv : Nat → Nat × Nat} (h : CHalf d w l tx V rs k wr (.slice p m c) qs iv) (hk : k = rs.length) {a b e : Value} :
    MadeSaid (d + 1) (.mk l tx rs) w (.returned (valI ⟨0, 0, l, tx, .slice p m c⟩)) (((wr.setCell ⟨w.heap.size + 1, 0, none⟩ a).setCell ⟨w.heap.size + 1, 1, none⟩ b).setCell ⟨w.heap.size + 1, 2, none⟩ e) := by
  subst hk
  have hlt := h.lt
  refine ⟨((h.below.setCell (by simp only; omega) _).setCell (by simp only; omega) _).setCell (by simp only; omega) _, l, tx, p, m, c, rfl, ?_⟩
  have hc := h.codes
  rw [List.take_of_length_le (Nat.le_refl _)] at hc
  have := (h.half.keep (w' := ((wr.setCell ⟨w.heap.size + 1, 0, none⟩ a).setCell ⟨w.heap.size + 1, 1, none⟩ b).setCell ⟨w.heap.size + 1, 2, none⟩ e) (by simp) (fun b' hb' _ => by
    rw [Below.heap_setCell _ _ _ _ (by simp only; omega), Below.heap_setCell _ _ _ _ (by simp only; omega), Below.heap_setCell _ _ _ _ (by simp only; omega)])).done (l := l) (tx := tx) (Nat.le_refl _)
  rw [hc] at this
  exact this.widen (by omega) (Nat.le_refl _)

set_option maxRecDepth 100000 in
set_option maxHeartbeats 3200000 in
theorem copied_body (d : Nat) (l : Bool) (tx : ByteArray) (p : Option Addr) (m c : Nat) (ps : List (El × Raw)) (w : World) (hm2 : m ≤ 1048576) (hrow : RowOff w (.slice p m c) ps.length (ps.flatMap fun q => encI q.1)) (hsub : ∀ q ∈ ps, ∃ p m c, q.1.sub = .slice p m c)
    (hN : ∀ q ∈ ps, ∀ W, Below w.heap.size w W → Calls Tryz.prog 113 #[valI q.1] W (MadeSaid d q.2 W)) :
    Calls Tryz.prog 113 #[.agg #[.bool l, .string tx, .slice p m c]] w (MadeSaid (d + 1) (.mk l tx (ps.map (·.2))) w) := by
  obtain ⟨i0, hi, hz0, hz1, hz2⟩ := info_parts infoI
  have HN := Hid.hide hN
  have HR := Hid.hide hrow
  have HS := Hid.hide hsub
  have HM : Hid (m = ps.length ∧ m ≤ 1048576) := ⟨hrow.len, hm2⟩
  obtain ⟨rs, hrs⟩ : ∃ rs, ps.map (·.2) = rs := ⟨_, rfl⟩
  have HRs := Hid.hide hrs
  rw [hrs]
  clear hN hrow hsub hm2 hrs
  go_enter Tryz.func113, Tryz.ntmps113
  go_wp2
  go_loopg [4] m (fun gh i wr => ∃ k v qs iv, k ≤ m ∧ gh = m - k ∧ i = .int .i64 (k : Int) ∧ CHalf d w l tx (.slice p m c) rs k wr v qs iv)
  case atStart => exact ⟨0, _, _, _, Nat.zero_le _, rfl, rfl, CHalf.start d w l tx #[.bool l, .string tx, .slice p m c] _ rfl rs _ _ _⟩
  case round =>
    obtain ⟨k, v, qs, iv, hk, rfl, rfl, hC⟩ := hrel
    have hsrc := hC.src
    have hslt := hC.lt
    have hsl0 : w.heap.size < wr.heap.size := by omega
    by_cases hlt : k < m
    · have hki : (k : Int) < (m : Int) := by omega
      have hkp : k < ps.length := by have := HM.out; omega
      obtain ⟨gr, off, rfl, hml, hcells⟩ := RowOff.cells (size := 3) (fun _ => rfl) HR.out (by omega)
      have hq := List.getElem_mem hkp
      obtain ⟨q, hqe⟩ : ∃ q, ps[k] = q := ⟨_, rfl⟩
      obtain ⟨⟨fr', en', l', tx', sub'⟩, x'⟩ := q
      rw [hqe] at hq
      obtain ⟨p', m', c', hs'⟩ := HS.out _ hq
      simp only at hs'
      subst hs'
      have hrk := hcells k hkp
      rw [hqe] at hrk
      have hBw := hC.below
      have cel : ∀ j u, w.cell? ⟨gr, off + k * 3 + j, none⟩ = some u → wr.cell? ⟨gr, off + k * 3 + j, none⟩ = some u := fun j u hu => (hBw.cell (World.block_lt_of_cell? w _ hu)).trans hu
      have r0 : wr.cell? ⟨gr, off + k * 3, none⟩ = some (.bool l') := cel 0 _ (hrk 0 _ rfl)
      have r1 : wr.cell? ⟨gr, off + k * 3 + 1, none⟩ = some (.string tx') := cel 1 _ (hrk 1 _ rfl)
      have r2 : wr.cell? ⟨gr, off + k * 3 + 2, none⟩ = some (.slice p' m' c') := cel 2 _ (hrk 2 _ rfl)
      have HC : Hid (Calls Tryz.prog 113 #[.agg #[.bool l', .string tx', .slice p' m' c']] wr (MadeSaid d x' wr)) := HN.out _ hq wr hBw
      have A1 : Aside (CHalf d w l tx (.slice (some ⟨gr, off, none⟩) m c) rs k wr v qs iv ∧ rs[k]? = some x') := ⟨hC, by rw [← HRs.out, List.getElem?_map, List.getElem?_eq_getElem hkp, hqe]; rfl⟩
      clear hrk hcells hqe hq hBw hC hml
      go_wp2_with fail
      refine HC.out.mono ?_
      rintro e w1 ⟨hb1, l2, tx2, p2, m2, c2, rfl, hT⟩
      obtain ⟨p0, m0, c0, rfl⟩ := A1.out.1.half.row.own.shape
      have hw1 : wr.heap.size ≤ w1.heap.size := hb1.size
      have t2 : w1.cell? ⟨w.heap.size + 2, 2, none⟩ = some (.slice p0 m0 c0) := (hb1.cell (p := ⟨w.heap.size + 2, 2, none⟩) hslt).trans A1.out.1.o2.1
      have hs1 : w.heap.size + 2 < w1.heap.size := by omega
      have hs2 : ¬ w.heap.size + 2 = w1.heap.size := by omega
      have hs3 : ¬ w.heap.size + 2 = w1.heap.size + 1 := by omega
      have HO : Hid (∀ o1 o2, OwnC ((w1.alloc o1).alloc o2) (w.heap.size + 3) 3 (.slice p0 m0 c0) k (qs.flatMap fun q => encI q.1)) := fun o1 o2 => ((A1.out.1.len ▸ A1.out.1.half.row.own.below hb1).alloc o1).alloc o2
      have A2 : Aside (Below wr.heap.size wr w1 ∧ TreeS d w1 wr.heap.size w1.heap.size ⟨0, 0, l2, tx2, .slice p2 m2 c2⟩ x') := ⟨hb1, hT⟩
      have HK : Hid (k + 1 ≤ 1048576) := by have := HM.out; exact (by omega : k + 1 ≤ 1048576)
      have HZ : Hid (w.heap.size + 3 ≤ w1.heap.size) := hs1
      clear hb1 hT hw1 HC r0 r1 r2
      go_wp2_with (at_builtin; refine wpList_append_ownp _ rfl _ _ 37 rfl 45 i0 zeroI 3 48 Tryz.underlying37 hi hz0 hz1 hz2 rfl (by decide) (w.heap.size + 3) (.slice p0 m0 c0) k _ rfl (HO.out _ _) (w1.heap.size + 1) 0 1 1 (encI ⟨0, 0, l2, tx2, .slice p2 m2 c2⟩) rfl rfl ?c1 (oneCell3 _ _ _ _ _) ?c2 ?c3 ?c4 ?_)
      case c1 =>
        have := rangeAt_new (w1.alloc (.cells (encI ⟨0, 0, l2, tx2, .slice p2 m2 c2⟩).toArray 45)) (encI ⟨0, 0, l2, tx2, .slice p2 m2 c2⟩) 45
        simpa using this
      case c2 => have := HK.out; unfold maxLen; omega
      case c3 => have := HK.out; omega
      case c4 => have := HZ.out; simp; omega
      intro v2 w2 hO2 hg2 hf2 hp2
      obtain ⟨p3, m3, c3, rfl, u1, u2, u3, iv', hC'⟩ := A1.out.1.more A1.out.2 A2.out.1 A2.out.2 hO2 hg2 (by simpa using hf2) hp2
      have A3 : Aside _ := hC'
      clear hO2 hg2 hf2 hp2 hC' HO t2
      go_wp2
      go_roundg (m - (k + 1))
      case measure => omega
      case rel => exact ⟨k + 1, _, _, iv', by omega, rfl, by rw [wrap64_succ k (by have := HK.out; omega)], A3.out⟩
    · have hki : (m : Int) ≤ (k : Int) := by omega
      obtain ⟨p0, m0, c0, rfl⟩ := hC.half.row.own.shape
      obtain ⟨e0, f0⟩ := hC.r0
      obtain ⟨e1, f1⟩ := hC.r1
      obtain ⟨e2, f2⟩ := hC.r2
      have t0 := hC.o0
      have t1 := hC.o1
      have t2 := hC.o2.1
      have A1 : Aside (CHalf d w l tx (.slice p m c) rs k wr (.slice p0 m0 c0) qs iv ∧ k = rs.length) := ⟨hC, by have := HM.out; rw [← HRs.out, List.length_map]; omega⟩
      have hn1 : ¬ w.heap.size + 1 = w.heap.size + 2 := by omega
      clear hC hlt
      go_wp2
      refine bodyPost_ret (v := valI ⟨0, 0, l, tx, .slice p0 m0 c0⟩) (by simp [results, Tryz.results113, go_sem, e0, e1, e2]) rfl ?_
      exact A1.out.1.fin A1.out.2

/-- copied, of whatever item. -/
theorem copied_any : ∀ (n : Nat) (e : El) (r : Raw) (w : World), RTree encI n w e r → r.size ≤ 1048576 → Calls Tryz.prog 113 #[valI e] w (MadeSaid n r w) := by
  intro n
  induction n with
  | zero => intro e r w h; exact h.elim
  | succ n ih =>
    rintro ⟨fr, en, l, tx, sub⟩ r w ⟨ps, h1, h2, rfl⟩ hr
    rw [Raw.size] at hr
    have hl := rsize_length (ps.map (·.2))
    rw [List.length_map] at hl
    obtain ⟨p, c, hs⟩ := h1.shape
    simp only at hs h1
    subst hs
    refine copied_body n l tx p ps.length c ps w (by simp only at hr; omega) h1 (fun q hq => (h2 q hq).shape) (fun q hq W hW => ?_)
    have := rsize_mem (List.mem_map_of_mem (f := (·.2)) hq)
    exact ih q.1 q.2 W ((h2 q hq).below hW) (by simp only at hr; omega)
end Go.Proofs.YtjiikjpnlgogfaaGreatDoor

namespace Go.Proofs.YtjiikjpnlgogfaaGreatDoor
open Go.RowKit

/-- An item of package twigsref, as it stands in a row. -/
abbrev encR (e : El) : List Value := [.bool e.lst, .string e.text, e.sub, .int .i64 (e.fr : Int), .int .i64 (e.to : Int)]
abbrev valR (e : El) : Value := .agg #[.bool e.lst, .string e.text, e.sub, .int .i64 (e.fr : Int), .int .i64 (e.to : Int)]

set_option maxRecDepth 100000 in
set_option maxHeartbeats 3200000 in
theorem plain_body (d fr en : Nat) (l : Bool) (tx : ByteArray) (p : Option Addr) (m c : Nat) (ps : List (El × Raw)) (w : World) (hm2 : m ≤ 1048576) (hrow : RowOff w (.slice p m c) ps.length (ps.flatMap fun q => encR q.1)) (hsub : ∀ q ∈ ps, ∃ p m c, q.1.sub = .slice p m c)
    (hN : ∀ q ∈ ps, ∀ W, Below w.heap.size w W → Calls Tryz.prog 168 #[valR q.1] W (MadeSaid d q.2 W)) :
    Calls Tryz.prog 168 #[.agg #[.bool l, .string tx, .slice p m c, .int .i64 (fr : Int), .int .i64 (en : Int)]] w (MadeSaid (d + 1) (.mk l tx (ps.map (·.2))) w) := by
  obtain ⟨i0, hi, hz0, hz1, hz2⟩ := info_parts infoI
  have HN := Hid.hide hN
  have HR := Hid.hide hrow
  have HS := Hid.hide hsub
  have HM : Hid (m = ps.length ∧ m ≤ 1048576) := ⟨hrow.len, hm2⟩
  obtain ⟨rs, hrs⟩ : ∃ rs, ps.map (·.2) = rs := ⟨_, rfl⟩
  have HRs := Hid.hide hrs
  rw [hrs]
  clear hN hrow hsub hm2 hrs
  go_enter Tryz.func168, Tryz.ntmps168
  go_wp2
  go_loopg [4] m (fun gh i wr => ∃ k v qs iv, k ≤ m ∧ gh = m - k ∧ i = .int .i64 (k : Int) ∧ CHalf d w l tx (.slice p m c) rs k wr v qs iv)
  case atStart => exact ⟨0, _, _, _, Nat.zero_le _, rfl, rfl, CHalf.start d w l tx #[.bool l, .string tx, .slice p m c, .int .i64 (fr : Int), .int .i64 (en : Int)] _ rfl rs _ _ _⟩
  case round =>
    obtain ⟨k, v, qs, iv, hk, rfl, rfl, hC⟩ := hrel
    have hsrc := hC.src
    have hslt := hC.lt
    have hsl0 : w.heap.size < wr.heap.size := by omega
    by_cases hlt : k < m
    · have hki : (k : Int) < (m : Int) := by omega
      have hkp : k < ps.length := by have := HM.out; omega
      obtain ⟨gr, off, rfl, hml, hcells⟩ := RowOff.cells (size := 5) (fun _ => rfl) HR.out (by omega)
      have hq := List.getElem_mem hkp
      obtain ⟨q, hqe⟩ : ∃ q, ps[k] = q := ⟨_, rfl⟩
      obtain ⟨⟨fr', en', l', tx', sub'⟩, x'⟩ := q
      rw [hqe] at hq
      obtain ⟨p', m', c', hs'⟩ := HS.out _ hq
      simp only at hs'
      subst hs'
      have hrk := hcells k hkp
      rw [hqe] at hrk
      have hBw := hC.below
      have cel : ∀ j u, w.cell? ⟨gr, off + k * 5 + j, none⟩ = some u → wr.cell? ⟨gr, off + k * 5 + j, none⟩ = some u := fun j u hu => (hBw.cell (World.block_lt_of_cell? w _ hu)).trans hu
      have r0 : wr.cell? ⟨gr, off + k * 5, none⟩ = some (.bool l') := cel 0 _ (hrk 0 _ rfl)
      have r1 : wr.cell? ⟨gr, off + k * 5 + 1, none⟩ = some (.string tx') := cel 1 _ (hrk 1 _ rfl)
      have r2 : wr.cell? ⟨gr, off + k * 5 + 2, none⟩ = some (.slice p' m' c') := cel 2 _ (hrk 2 _ rfl)
      have r3 : wr.cell? ⟨gr, off + k * 5 + 3, none⟩ = some (.int .i64 (fr' : Int)) := cel 3 _ (hrk 3 _ rfl)
      have r4 : wr.cell? ⟨gr, off + k * 5 + 4, none⟩ = some (.int .i64 (en' : Int)) := cel 4 _ (hrk 4 _ rfl)
      have HC : Hid (Calls Tryz.prog 168 #[.agg #[.bool l', .string tx', .slice p' m' c', .int .i64 (fr' : Int), .int .i64 (en' : Int)]] wr (MadeSaid d x' wr)) := HN.out _ hq wr hBw
      have A1 : Aside (CHalf d w l tx (.slice (some ⟨gr, off, none⟩) m c) rs k wr v qs iv ∧ rs[k]? = some x') := ⟨hC, by rw [← HRs.out, List.getElem?_map, List.getElem?_eq_getElem hkp, hqe]; rfl⟩
      clear hrk hcells hqe hq hBw hC hml
      go_wp2_with fail
      refine HC.out.mono ?_
      rintro e w1 ⟨hb1, l2, tx2, p2, m2, c2, rfl, hT⟩
      obtain ⟨p0, m0, c0, rfl⟩ := A1.out.1.half.row.own.shape
      have hw1 : wr.heap.size ≤ w1.heap.size := hb1.size
      have t2 : w1.cell? ⟨w.heap.size + 2, 2, none⟩ = some (.slice p0 m0 c0) := (hb1.cell (p := ⟨w.heap.size + 2, 2, none⟩) hslt).trans A1.out.1.o2.1
      have hs1 : w.heap.size + 2 < w1.heap.size := by omega
      have hs2 : ¬ w.heap.size + 2 = w1.heap.size := by omega
      have hs3 : ¬ w.heap.size + 2 = w1.heap.size + 1 := by omega
      have HO : Hid (∀ o1 o2, OwnC ((w1.alloc o1).alloc o2) (w.heap.size + 3) 3 (.slice p0 m0 c0) k (qs.flatMap fun q => encI q.1)) := fun o1 o2 => ((A1.out.1.len ▸ A1.out.1.half.row.own.below hb1).alloc o1).alloc o2
      have A2 : Aside (Below wr.heap.size wr w1 ∧ TreeS d w1 wr.heap.size w1.heap.size ⟨0, 0, l2, tx2, .slice p2 m2 c2⟩ x') := ⟨hb1, hT⟩
      have HK : Hid (k + 1 ≤ 1048576) := by have := HM.out; exact (by omega : k + 1 ≤ 1048576)
      have HZ : Hid (w.heap.size + 3 ≤ w1.heap.size) := hs1
      clear hb1 hT hw1 HC r0 r1 r2 r3 r4
      go_wp2_with (at_builtin; refine wpList_append_ownp _ rfl _ _ 37 rfl 45 i0 zeroI 3 48 Tryz.underlying37 hi hz0 hz1 hz2 rfl (by decide) (w.heap.size + 3) (.slice p0 m0 c0) k _ rfl (HO.out _ _) (w1.heap.size + 1) 0 1 1 (encI ⟨0, 0, l2, tx2, .slice p2 m2 c2⟩) rfl rfl ?c1 (oneCell3 _ _ _ _ _) ?c2 ?c3 ?c4 ?_)
      case c1 =>
        have := rangeAt_new (w1.alloc (.cells (encI ⟨0, 0, l2, tx2, .slice p2 m2 c2⟩).toArray 45)) (encI ⟨0, 0, l2, tx2, .slice p2 m2 c2⟩) 45
        simpa using this
      case c2 => have := HK.out; unfold maxLen; omega
      case c3 => have := HK.out; omega
      case c4 => have := HZ.out; simp; omega
      intro v2 w2 hO2 hg2 hf2 hp2
      obtain ⟨p3, m3, c3, rfl, u1, u2, u3, iv', hC'⟩ := A1.out.1.more A1.out.2 A2.out.1 A2.out.2 hO2 hg2 (by simpa using hf2) hp2
      have A3 : Aside _ := hC'
      clear hO2 hg2 hf2 hp2 hC' HO t2
      go_wp2
      go_roundg (m - (k + 1))
      case measure => omega
      case rel => exact ⟨k + 1, _, _, iv', by omega, rfl, by rw [wrap64_succ k (by have := HK.out; omega)], A3.out⟩
    · have hki : (m : Int) ≤ (k : Int) := by omega
      obtain ⟨p0, m0, c0, rfl⟩ := hC.half.row.own.shape
      obtain ⟨e0, f0⟩ := hC.r0
      obtain ⟨e1, f1⟩ := hC.r1
      obtain ⟨e2, f2⟩ := hC.r2
      have t0 := hC.o0
      have t1 := hC.o1
      have t2 := hC.o2.1
      have A1 : Aside (CHalf d w l tx (.slice p m c) rs k wr (.slice p0 m0 c0) qs iv ∧ k = rs.length) := ⟨hC, by have := HM.out; rw [← HRs.out, List.length_map]; omega⟩
      have hn1 : ¬ w.heap.size + 1 = w.heap.size + 2 := by omega
      clear hC hlt
      go_wp2
      refine bodyPost_ret (v := valI ⟨0, 0, l, tx, .slice p0 m0 c0⟩) (by simp [results, Tryz.results168, go_sem, e0, e1, e2]) rfl ?_
      exact A1.out.1.fin A1.out.2

/-- Plain, of whatever item. -/
theorem plain_any : ∀ (n : Nat) (e : El) (r : Raw) (w : World), RTree encR n w e r → r.size ≤ 1048576 → Calls Tryz.prog 168 #[valR e] w (MadeSaid n r w) := by
  intro n
  induction n with
  | zero => intro e r w h; exact h.elim
  | succ n ih =>
    rintro ⟨fr, en, l, tx, sub⟩ r w ⟨ps, h1, h2, rfl⟩ hr
    rw [Raw.size] at hr
    have hl := rsize_length (ps.map (·.2))
    rw [List.length_map] at hl
    obtain ⟨p, c, hs⟩ := h1.shape
    simp only at hs h1
    subst hs
    refine plain_body n fr en l tx p ps.length c ps w (by simp only at hr; omega) h1 (fun q hq => (h2 q hq).shape) (fun q hq W hW => ?_)
    have := rsize_mem (List.mem_map_of_mem (f := (·.2)) hq)
    exact ih q.1 q.2 W ((h2 q hq).below hW) (by simp only at hr; omega)
end Go.Proofs.YtjiikjpnlgogfaaGreatDoor
