/-
  Items in memory: a tree of rows, and what it stands for.
-/
import Derived.Test.YtjiikjpnlgogfaaDoorSpec
import Derived.Test.YtjiikjpnlgogfaaDoorOwnC
namespace Go.Proofs.YtjiikjpnlgogfaaDoor
open Go.RowKit

/-- An item as it stands in a row: where it was read (not in every row), whether it is a list, its text, its items' row. -/
structure El where
  fr : Nat
  to : Nat
  lst : Bool
  text : ByteArray
  sub : Value

abbrev encP (e : El) : List Value := [.int .i64 (e.fr : Int), .int .i64 (e.to : Int), .bool e.lst, .string e.text, e.sub]
abbrev encI (e : El) : List Value := [.bool e.lst, .string e.text, e.sub]
abbrev valP (e : El) : Value := .agg #[.int .i64 (e.fr : Int), .int .i64 (e.to : Int), .bool e.lst, .string e.text, e.sub]
abbrev valI (e : El) : Value := .agg #[.bool e.lst, .string e.text, e.sub]

/-- v is a slice of n elements that are the cells cs together, in a block of F. -/
def RowAt (w : World) (F : Nat → Prop) (v : Value) (n : Nat) (cs : List Value) : Prop :=
  (v = .slice none 0 0 ∧ n = 0 ∧ cs = []) ∨ ∃ g cap, v = .slice (some ⟨g, 0, none⟩) n cap ∧ n ≤ cap ∧ F g ∧ g < w.heap.size ∧ Plain w g ∧ w.rangeAt g 0 cs

theorem RowAt.keep {w w' : World} {F F' : Nat → Prop} {v : Value} {n : Nat} {cs : List Value} (h : RowAt w F v n cs) (hF : ∀ k, F k → F' k) (hs : w.heap.size ≤ w'.heap.size) (hb : ∀ k, F k → k < w.heap.size → w'.heap[k]? = w.heap[k]?) : RowAt w' F' v n cs := by
  rcases h with h | ⟨g, cap, rfl, h0, h1, h2, hp, h3⟩
  · exact .inl h
  · exact .inr ⟨g, cap, rfl, h0, hF g h1, by omega, hp.keep (hb g h1 h2), fun j u hu => (World.cell?_of_block (hb g h1 h2)).trans (h3 j u hu)⟩

theorem OwnC.rowAt {w : World} {B size : Nat} {v : Value} {n : Nat} {cs : List Value} (h : OwnC w B size v n cs) {F : Nat → Prop} (hF : ∀ k, v.ownBlock = some k → F k) (hP : ∀ k, v.ownBlock = some k → Plain w k) : RowAt w F v n cs := by
  obtain ⟨hl, h⟩ := h
  rcases h with ⟨h1, h2⟩ | ⟨g, cap, rfl, h1, h2, h3, h4, h5, h6⟩
  · subst h2
    exact .inl ⟨h1, rfl, List.eq_nil_of_length_eq_zero (by simpa using hl)⟩
  · exact .inr ⟨g, cap, rfl, h3, hF g rfl, h2, hP g rfl, h6⟩

/-- What an element stands for: as a text, or out of its items. -/
structure Sort' (C : Type) where
  tx : El → C → Prop
  ls : El → List C → C → Prop

/-- Items that were read, with their places. -/
def kP : Sort' It := ⟨fun e x => x = .text e.fr e.to (bytesOf e.text), fun e l x => e.text = textB [] ∧ x = .list e.fr e.to l⟩
/-- Items by their code; lists have no text. -/
def kC : Sort' (List Nat) := ⟨fun e c => c = textCode (bytesOf e.text), fun e l c => e.text = textB [] ∧ c = listCode l.flatten⟩

mutual
/-- An item without its places. -/
def It.bare : It → It
  | .text _ _ t => .text 0 0 t
  | .list _ _ l => .list 0 0 (bares l)
def bares : List It → List It
  | [] => []
  | x :: l => x.bare :: bares l
end
theorem bares_map (l : List It) : bares l = l.map It.bare := by
  induction l with
  | nil => rfl
  | cons x l ih => rw [bares, ih, List.map_cons]
mutual
theorem bare_code : ∀ x : It, x.bare.code = x.code
  | .text _ _ _ => by rw [It.bare, It.code, It.code]
  | .list _ _ l => by rw [It.bare, It.code, It.code, bares_codes l]
theorem bares_codes : ∀ l : List It, codes (bares l) = codes l
  | [] => rfl
  | x :: l => by rw [bares, codes, codes, bare_code x, bares_codes l]
end
/-- Items without their places; lists have no text. -/
def kB : Sort' It := ⟨fun e x => x = .text 0 0 (bytesOf e.text), fun e l x => e.text = textB [] ∧ x = .list 0 0 l⟩

def IsText (e : El) : Prop := e.lst = false ∧ e.sub = .slice none 0 0

/-- e, in a world, is an item that stands for c, of at most n lists in one another, whose rows lie in F. -/
def Tree {C : Type} (enc : El → List Value) (K : Sort' C) : Nat → World → (Nat → Prop) → El → C → Prop
  | 0, _, _, e, c => IsText e ∧ K.tx e c
  | n + 1, w, F, e, c => (IsText e ∧ K.tx e c) ∨ (e.lst = true ∧ ∃ ps : List (El × C), RowAt w F e.sub ps.length (ps.flatMap fun p => enc p.1) ∧ (∀ p ∈ ps, Tree enc K n w F p.1 p.2) ∧ K.ls e (ps.map (·.2)) c)

section
variable {C : Type} {enc : El → List Value} {K : Sort' C}

theorem Tree.text {w : World} {F : Nat → Prop} {e : El} {c : C} (h : IsText e ∧ K.tx e c) : ∀ n, Tree enc K n w F e c
  | 0 => h
  | _ + 1 => .inl h

theorem Tree.keep {w w' : World} {F F' : Nat → Prop} (hF : ∀ k, F k → F' k) (hs : w.heap.size ≤ w'.heap.size) (hb : ∀ k, F k → k < w.heap.size → w'.heap[k]? = w.heap[k]?) : ∀ (n : Nat) {e : El} {c : C}, Tree enc K n w F e c → Tree enc K n w' F' e c
  | 0, _, _, h => h
  | n + 1, e, c, h => by
    rcases h with h | ⟨h1, ps, h3, h4, h5⟩
    · exact .inl h
    · exact .inr ⟨h1, ps, h3.keep hF hs hb, fun p hp => Tree.keep hF hs hb n (h4 p hp), h5⟩

theorem Tree.below {w w' : World} {F : Nat → Prop} {n : Nat} {e : El} {c : C} (h : Tree enc K n w F e c) (hb : Below w.heap.size w w') : Tree enc K n w' F e c :=
  Tree.keep (fun _ h => h) hb.size (fun k _ hk => hb.block k hk) n h

theorem Tree.up {w : World} {F : Nat → Prop} : ∀ (n : Nat) {e : El} {c : C}, Tree enc K n w F e c → Tree enc K (n + 1) w F e c
  | 0, _, _, h => .inl h
  | n + 1, e, c, h => by
    rcases h with h | ⟨h1, ps, h3, h4, h5⟩
    · exact .inl h
    · exact .inr ⟨h1, ps, h3, fun p hp => Tree.up n (h4 p hp), h5⟩

theorem Tree.bound {w : World} {F : Nat → Prop} : ∀ (n : Nat) {e : El} {c : C}, Tree enc K n w F e c → Tree enc K n w (fun k => F k ∧ k < w.heap.size) e c
  | 0, _, _, h => h
  | n + 1, e, c, h => by
    rcases h with h | ⟨h1, ps, h3, h4, h5⟩
    · exact .inl h
    · refine .inr ⟨h1, ps, ?_, fun p hp => Tree.bound n (h4 p hp), h5⟩
      rcases h3 with h3 | ⟨g, cap, e1, e2, e3, e4, e5⟩
      · exact .inl h3
      · exact .inr ⟨g, cap, e1, e2, ⟨e3, e4⟩, e4, e5⟩

/-- The same tree, told otherwise. -/
theorem Tree.map {D : Type} {L : Sort' D} (f : C → D) (h1 : ∀ e c, K.tx e c → L.tx e (f c)) (h2 : ∀ e l c, K.ls e l c → L.ls e (l.map f) (f c)) {w : World} {F : Nat → Prop} : ∀ (n : Nat) {e : El} {c : C}, Tree enc K n w F e c → Tree enc L n w F e (f c)
  | 0, _, _, h => ⟨h.1, h1 _ _ h.2⟩
  | n + 1, e, c, h => by
    rcases h with h | ⟨a1, ps, a2, a3, a4⟩
    · exact .inl ⟨h.1, h1 _ _ h.2⟩
    · refine .inr ⟨a1, ps.map (fun p => (p.1, f p.2)), ?_, ?_, ?_⟩
      · rw [List.length_map, List.flatMap_map]
        exact a2
      · intro p hp
        obtain ⟨q, hq, rfl⟩ := List.mem_map.1 hp
        exact Tree.map f h1 h2 n (a3 q hq)
      · have := h2 e _ c a4
        rw [List.map_map] at this ⊢
        exact this

/-- Of elements of so many cells each: the cells of the i-th. -/
theorem flat_at {size : Nat} (hz : ∀ e, (enc e).length = size) : ∀ (ps : List (El × C)) (i : Nat) (hi : i < ps.length) (j : Nat), j < size → (ps.flatMap fun p => enc p.1)[i * size + j]? = (enc ps[i].1)[j]? := by
  intro ps
  induction ps with
  | nil => intro i hi; simp at hi
  | cons p ps ih =>
    intro i hi j hj
    rw [List.flatMap_cons]
    cases i with
    | zero =>
      rw [Nat.zero_mul, Nat.zero_add, List.getElem?_append_left (by rw [hz]; exact hj)]
      rfl
    | succ i =>
      rw [List.getElem?_append_right (by rw [hz, Nat.add_mul, Nat.one_mul]; omega), hz, show (i + 1) * size + j - size = i * size + j by rw [Nat.add_mul, Nat.one_mul]; omega, ih i (by simpa using hi) j hj]
      rfl
theorem flat_length {size : Nat} (hz : ∀ e, (enc e).length = size) (ps : List (El × C)) : (ps.flatMap fun p => enc p.1).length = ps.length * size := by
  induction ps with
  | nil => simp
  | cons p ps ih => rw [List.flatMap_cons, List.length_append, hz, ih, List.length_cons, Nat.add_mul, Nat.one_mul, Nat.add_comm]

theorem RowAt.cells {w : World} {F : Nat → Prop} {v : Value} {size : Nat} (hz : ∀ e, (enc e).length = size) {ps : List (El × C)} (h : RowAt w F v ps.length (ps.flatMap fun p => enc p.1)) (hp : 0 < ps.length) :
    ∃ g cap, v = .slice (some ⟨g, 0, none⟩) ps.length cap ∧ ps.length ≤ cap ∧ F g ∧ g < w.heap.size ∧ Plain w g ∧ ∀ i, (hi : i < ps.length) → w.rangeAt g (i * size) (enc ps[i].1) := by
  rcases h with ⟨_, h, _⟩ | ⟨g, cap, rfl, h0, h1, h2, hpl, h3⟩
  · omega
  · refine ⟨g, cap, rfl, h0, h1, h2, hpl, fun i hi j u hu => ?_⟩
    have hj : j < size := by
      have := (List.getElem?_eq_some_iff.1 hu).1
      rwa [hz] at this
    have := h3 (i * size + j) u (by rw [flat_at hz ps i hi j hj]; exact hu)
    rwa [Nat.zero_add] at this
end

/-- What was read stands for its code. -/
theorem Tree.code {enc : El → List Value} {n : Nat} {w : World} {F : Nat → Prop} {e : El} {x : It} (h : Tree enc kP n w F e x) : Tree enc kC n w F e x.code := by
  refine Tree.map It.code (fun e c hc => ?_) (fun e l c hc => ?_) n h
  · show _ = textCode _
    rw [show c = .text e.fr e.to (bytesOf e.text) from hc]
    rfl
  · obtain ⟨h1, h2⟩ := hc
    refine ⟨h1, ?_⟩
    rw [show c = .list e.fr e.to l from h2, It.code, codes_flat, List.flatMap_def]
theorem Tree.codeB {enc : El → List Value} {n : Nat} {w : World} {F : Nat → Prop} {e : El} {x : It} (h : Tree enc kB n w F e x) : Tree enc kC n w F e x.code := by
  refine Tree.map It.code (fun e c hc => ?_) (fun e l c hc => ?_) n h
  · show _ = textCode _
    rw [show c = .text 0 0 (bytesOf e.text) from hc]
    rfl
  · obtain ⟨h1, h2⟩ := hc
    refine ⟨h1, ?_⟩
    rw [show c = .list 0 0 l from h2, It.code, codes_flat, List.flatMap_def]
end Go.Proofs.YtjiikjpnlgogfaaDoor
