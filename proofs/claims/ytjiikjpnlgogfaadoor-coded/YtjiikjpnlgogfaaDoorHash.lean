/-
  A hasher's state (lanes, the bytes that wait, how many), what a byte more makes of it, and its digest: plain functions on numbers; and how a row of bytes is laid into cells.
-/
import Derived.Test.YtjiikjpnlgogfaaDoorSqz
namespace Go.Proofs.YtjiikjpnlgogfaaDoor
open Go.RowKit

abbrev HSt := Array Nat × Array Nat × Nat

/-- A byte more. -/
def push1 (st : HSt) (x : Nat) : HSt :=
  if st.2.2 + 1 = 136 then (absorbF st.1 (st.2.1.set! st.2.2 x), st.2.1.set! st.2.2 x, 0) else (st.1, st.2.1.set! st.2.2 x, st.2.2 + 1)

/-- Bytes laid from place c on. -/
def putAt (W : Array Nat) (c : Nat) : List Nat → Array Nat
  | [] => W
  | x :: xs => putAt (W.set! c x) (c + 1) xs

theorem putAt_size (xs : List Nat) : ∀ (W : Array Nat) (c : Nat), (putAt W c xs).size = W.size := by
  induction xs with
  | nil => intro W c; rfl
  | cons x xs ih => intro W c; rw [putAt, ih]; simp

theorem absorbF_size (L blk : Array Nat) : (absorbF L blk).size = L.size := by
  unfold absorbF
  rw [roundsAt_size, mixAt_size]
theorem absorbF_small {L : Array Nat} (blk : Array Nat) (h : Small L) : Small (absorbF L blk) := roundsAt_small (mixAt_small blk h 17) 24

theorem push_less (xs : List Nat) : ∀ (L W : Array Nat) (c : Nat), c + xs.length < 136 → xs.foldl push1 (L, W, c) = (L, putAt W c xs, c + xs.length) := by
  induction xs with
  | nil => intro L W c _; rfl
  | cons x xs ih =>
    intro L W c h
    simp only [List.length_cons] at h
    rw [List.foldl_cons]
    have e : push1 (L, W, c) x = (L, W.set! c x, c + 1) := by
      unfold push1
      rw [if_neg (by simp only; omega)]
    rw [e, ih L _ (c + 1) (by omega)]
    simp only [putAt, List.length_cons]
    rw [show c + 1 + xs.length = c + (xs.length + 1) by omega]

theorem push_full (xs : List Nat) : ∀ (L W : Array Nat) (c : Nat), c + xs.length = 136 → 0 < xs.length → xs.foldl push1 (L, W, c) = (absorbF L (putAt W c xs), putAt W c xs, 0) := by
  induction xs with
  | nil => intro L W c _ h; simp at h
  | cons x xs ih =>
    intro L W c h _
    simp only [List.length_cons] at h
    rw [List.foldl_cons]
    by_cases hx : xs.length = 0
    · have : xs = [] := List.length_eq_zero_iff.1 hx
      subst this
      simp only [List.foldl_nil, putAt]
      unfold push1
      rw [if_pos (by simp only; omega)]
    · have e : push1 (L, W, c) x = (L, W.set! c x, c + 1) := by
        unfold push1
        rw [if_neg (by simp only; omega)]
      rw [e, ih L _ (c + 1) (by omega) (by omega)]
      rfl

/-- The digest of what was written. -/
def lastBlock (W : Array Nat) (c : Nat) : Array Nat :=
  let W1 := putAt (W.set! c 1) (c + 1) (List.replicate (135 - c) 0)
  W1.set! 135 ((W1[135]! + 128) % 256)
def sumF (st : HSt) : Array Nat := sqzAt (absorbF st.1 (lastBlock st.2.1 st.2.2)) 32

def init : HSt := (Array.replicate 25 0, Array.replicate 136 0, 0)

/-- The bytes of a text. -/
def bytesOf (s : ByteArray) : List Nat := s.data.toList.map (·.toNat)
def digF (s : ByteArray) : Array Nat := sumF ((bytesOf s).foldl push1 init)

def Bytes (W : Array Nat) : Prop := ∀ j : Nat, W[j]! < 256

theorem bytes_set {W : Array Nat} (h : Bytes W) (i x : Nat) (hx : x < 256) : Bytes (W.set! i x) := by
  intro j
  by_cases hj : j < W.size
  · by_cases e : i = j
    · subst e; rw [getD_set_same W i x hj]; exact hx
    · rw [getD_set_other W i j x e]; exact h j
  · have : (W.set! i x)[j]! = 0 := by simp [hj]
    rw [this]; decide

theorem bytes_putAt (xs : List Nat) (hx : ∀ x ∈ xs, x < 256) : ∀ (W : Array Nat) (c : Nat), Bytes W → Bytes (putAt W c xs) := by
  induction xs with
  | nil => intro W c h; exact h
  | cons x xs ih => intro W c h; exact ih (fun y hy => hx y (List.mem_cons_of_mem _ hy)) _ _ (bytes_set h _ _ (hx x List.mem_cons_self))

theorem bytesOf_lt (s : ByteArray) : ∀ x ∈ bytesOf s, x < 256 := by
  intro x hx
  simp only [bytesOf, List.mem_map] at hx
  obtain ⟨b, _, rfl⟩ := hx
  exact b.toNat_lt

/-- A row's cells with bytes laid from place c on. -/
theorem Row.put {b off : Nat} (xs : List Nat) : ∀ {w : World} {W : Array Nat} (c : Nat), Row encB w b off W → c + xs.length ≤ W.size → Row encB (w.setCells b (off + c) (xs.map encB)) b off (putAt W c xs) := by
  induction xs with
  | nil => intro w W c h _; exact h
  | cons x xs ih =>
    intro w W c h hl
    simp only [List.length_cons] at hl
    have h1 : Row encB (w.setCell ⟨b, off + c, none⟩ (encB x)) b off (W.set! c x) := h.set rfl (by omega) x rfl
    have h2 := ih (c + 1) h1 (by simp; omega)
    exact h2

theorem Row.setCellsBeside {enc : Nat → Value} {b off : Nat} {d : Array Nat} (vs : List Value) : ∀ {w : World} (o : Nat), Row enc w b off d → o + vs.length ≤ off ∨ off + d.size ≤ o → Row enc (w.setCells b o vs) b off d := by
  induction vs with
  | nil => intro w o h _; exact h
  | cons v vs ih =>
    intro w o h ho
    simp only [List.length_cons] at ho
    exact ih (o + 1) (h.setBeside (by omega) v) (by omega)

theorem Step.setCells {b lo hi : Nat} (vs : List Value) : ∀ {w w1 : World} (o : Nat), Step b lo hi w w1 → lo ≤ o → o + vs.length ≤ hi → Step b lo hi w (w1.setCells b o vs) := by
  induction vs with
  | nil => intro w w1 o h _ _; exact h
  | cons v vs ih =>
    intro w w1 o h h1 h2
    simp only [List.length_cons] at h2
    exact ih (o + 1) (h.set h1 (by omega) v) (by omega) (by omega)

theorem run_copy_str {P : Program} (w : World) (dT sT ty elem : TypeId) (b o dLen dCap : Nat) (s : ByteArray) (n : Nat) (hu : P.underlying dT = some (.slice elem)) (hs : (P.info? elem).map (·.size) = some 1)
    (hn : n = Nat.min s.size dLen) (ht : w.there b o n) :
    (Builtin.copy_ #[dT, sT] ty #[.slice (some ⟨b, o, none⟩) dLen dCap, .string s]).run P w = .ok (goInt n) (w.setCells b o (((bytesOf s).take n).map encB)) := by
  subst hn
  have hbl : (bytesOf s).length = s.size := by
    unfold bytesOf
    rw [List.length_map, Array.length_toList]
    rfl
  have hf : (Builtin.firstCells 1 (Nat.min s.size dLen) (.string s)).run P w = .ok (((bytesOf s).take (Nat.min s.size dLen)).map encB).toArray w := by
    have : ((s.extract 0 (Nat.min s.size dLen)).data.map fun b => Value.int .u8 b.toNat) = (((bytesOf s).take (Nat.min s.size dLen)).map encB).toArray := by
      apply Array.ext'
      simp only [bytesOf, Array.toList_map, ByteArray.data_extract, Array.toList_extract, List.extract_eq_take_drop, List.drop_zero, Nat.sub_zero, List.map_take, List.map_map]
      rfl
    simp only [Builtin.firstCells, this]
    rfl
  have h1 : ∀ v ∈ ((bytesOf s).take (Nat.min s.size dLen)).map encB, v.oneCell' = true := fun v hv => by
    simp only [List.mem_map] at hv; obtain ⟨x, _, rfl⟩ := hv; rfl
  have hl : (((bytesOf s).take (Nat.min s.size dLen)).map encB).length = Nat.min s.size dLen := by
    rw [List.length_map, List.length_take, hbl]
    exact Nat.min_eq_left (Nat.min_le_left _ _)
  generalize ((bytesOf s).take (Nat.min s.size dLen)).map encB = cs at hf h1 hl ⊢
  have hst := run_storeCells_cells (P := P) b o cs 0 w (fun j hj => by rw [Nat.add_zero]; exact (ht j (by omega)).1) (fun j hj => by rw [Nat.add_zero]; exact (ht j (by omega)).2) h1
  cases hq : P.info? elem with
  | none => simp [hq] at hs
  | some i =>
    have hi : i.size = 1 := by simpa [hq] using hs
    simp [Builtin.copy_, run_underlying hu, Builtin.lenOf, sizeOf, typeInfo, hq, hi, hf, hst]

theorem run_clear_bytes {P : Program} (w : World) (dT ty elem : TypeId) (b o n cap : Nat) (hu : P.underlying dT = some (.slice elem)) (hz : (P.info? elem).map (·.zero) = some (some (.int .u8 0)))
    (ht : w.there b o n) :
    (Builtin.clear_ #[dT] ty #[.slice (some ⟨b, o, none⟩) n cap]).run P w = .ok (.tuple #[]) (w.setCells b o ((List.replicate n 0).map encB)) := by
  have hcells : (Builtin.zeroCells (Value.int .u8 0).cells n).toList = (List.replicate n 0).map encB := by
    apply List.ext_getElem?
    intro j
    by_cases hj : j < n
    · simp [Builtin.zeroCells, Value.cells, hj, Nat.mod_one]
    · simp [Builtin.zeroCells, Value.cells, hj]
  have h1 : ∀ v ∈ (List.replicate n 0).map encB, v.oneCell' = true := fun v hv => by
    simp only [List.mem_map] at hv; obtain ⟨x, _, rfl⟩ := hv; rfl
  have hl : ((List.replicate n 0).map encB).length = n := by simp
  generalize (List.replicate n 0).map encB = cs at hcells h1 hl ⊢
  have hst := run_storeCells_cells (P := P) b o cs 0 w (fun j hj => by rw [Nat.add_zero]; exact (ht j (by omega)).1) (fun j hj => by rw [Nat.add_zero]; exact (ht j (by omega)).2) h1
  cases hq : P.info? elem with
  | none => simp [hq] at hz
  | some i =>
    have hi : i.zero = some (.int .u8 0) := by simpa [hq] using hz
    cases n with
    | zero =>
      have : cs = [] := List.length_eq_zero_iff.1 hl
      subst this
      simp [Builtin.clear_, run_underlying hu]
      rfl
    | succ n => simp [Builtin.clear_, run_underlying hu, zeroValue, typeInfo, hq, hi, hcells, hst]

end Go.Proofs.YtjiikjpnlgogfaaDoor
