/-
  Package twigskeep: Laid: the tree of known shape: a leaf; a branch of leaves; an extension over it: what it has, its form, its code.
-/
import Derived.Test.YtjiikjpnlgogfaaGreatDoorLaC
import Derived.Test.YtjiikjpnlgogfaaGreatDoorOrdA
namespace Go.Proofs.YtjiikjpnlgogfaaGreatDoor
open Go.RowKit

/-- What a map has whose keys part at one place alone. -/
def gV (P : List Nat) (a : Nat) (us : List ByteArray) (s : List Nat) : Option ByteArray := if s.take a = P.take a ∧ s.drop (a + 1) = P.drop (a + 1) then us[s.getD a 0]? else none
theorem split_at {s : List Nat} {a : Nat} (h : a < s.length) : s = s.take a ++ s.getD a 0 :: s.drop (a + 1) := by
  conv => lhs; rw [← List.take_append_drop a s, List.drop_eq_getElem_cons h]
  rw [List.getD_eq_getElem?_getD, List.getElem?_eq_getElem h]
  rfl
theorem eq_set {P s : List Nat} {a v : Nat} (hs : s.length = P.length) (ha : a < P.length) : s = P.set a v ↔ s.take a = P.take a ∧ s.getD a 0 = v ∧ s.drop (a + 1) = P.drop (a + 1) := by
  rw [List.set_eq_take_append_cons_drop, if_pos ha]
  constructor
  · intro h
    have hl : (P.take a).length = a := by rw [List.length_take]; omega
    refine ⟨?_, ?_, ?_⟩
    · rw [h, List.take_left' hl]
    · rw [h, List.getD_eq_getElem?_getD, List.getElem?_append_right (by omega), hl, Nat.sub_self]; rfl
    · rw [h, show P.take a ++ v :: P.drop (a + 1) = (P.take a ++ [v]) ++ P.drop (a + 1) by simp, List.drop_left' (by simp; omega)]
  · rintro ⟨h1, h2, h3⟩
    rw [← h1, ← h2, ← h3]
    exact split_at (by omega)
theorem gV_snoc {P s : List Nat} {a : Nat} (hs : s.length = P.length) (ha : a < P.length) (us : List ByteArray) (u : ByteArray) : (if s = P.set a us.length then some u else gV P a us s) = gV P a (us ++ [u]) s := by
  unfold gV
  by_cases h : s.take a = P.take a ∧ s.drop (a + 1) = P.drop (a + 1)
  · rw [if_pos h, if_pos h]
    by_cases e : s.getD a 0 = us.length
    · rw [if_pos ((eq_set hs ha).2 ⟨h.1, e, h.2⟩), e]
      simp
    · rw [if_neg fun h' => e ((eq_set hs ha).1 h').2.1]
      by_cases l : s.getD a 0 < us.length
      · rw [List.getElem?_append_left l]
      · rw [List.getElem?_eq_none (by omega), List.getElem?_eq_none (by rw [List.length_append, List.length_singleton]; omega)]
  · rw [if_neg h, if_neg h, if_neg fun h' => h ⟨((eq_set hs ha).1 h').1, ((eq_set hs ha).1 h').2.2⟩]
theorem gV_nil (P : List Nat) (a : Nat) (s : List Nat) : gV P a [] s = none := by
  unfold gV
  split <;> simp

def kidN (P : List Nat) (a : Nat) (us : List ByteArray) (v : Nat) : Nd :=
  match us[v]? with
  | some u => .leaf (textB (P.drop (a + 1))) u
  | none => .no
def kidsN (P : List Nat) (a : Nat) (us : List ByteArray) : List Nd := (List.range 16).map (kidN P a us)
def shN (P : List Nat) (a : Nat) (us : List ByteArray) : Nd := if a = 0 then .br (kidsN P a us) else .ext (textB (P.take a)) (.br (kidsN P a us))
theorem nib_bytes {l : List Nat} (h : nib l) : bytesOf (textB l) = l := bytesOf_textB fun x hx => by have := h x hx; omega
theorem nib_drop {l : List Nat} (h : nib l) (n : Nat) : nib (l.drop n) := fun x hx => h x (List.mem_of_mem_drop hx)
theorem nib_take {l : List Nat} (h : nib l) (n : Nat) : nib (l.take n) := fun x hx => h x (List.mem_of_mem_take hx)
theorem kid_get {P : List Nat} (hP : nib P) (a : Nat) (us : List ByteArray) (v : Nat) (r : List Nat) : (kidN P a us v).get r = if r = P.drop (a + 1) then us[v]? else none := by
  unfold kidN
  cases us[v]? with
  | none => rw [Nd.get]; split <;> rfl
  | some u =>
    simp only
    rw [Nd.get, nib_bytes (nib_drop hP _)]
    by_cases e : r = P.drop (a + 1)
    · rw [if_pos e, if_pos e.symm]
    · rw [if_neg e, if_neg fun h => e h.symm]
theorem kids_getD {P : List Nat} (a : Nat) {us : List ByteArray} (hu : us.length ≤ 16) (x : Nat) : (kidsN P a us).getD x .no = kidN P a us x := by
  unfold kidsN
  rw [List.getD_eq_getElem?_getD, List.getElem?_map]
  by_cases h : x < 16
  · rw [List.getElem?_range h]; rfl
  · rw [List.getElem?_eq_none (by simp; omega)]
    unfold kidN
    rw [List.getElem?_eq_none (by omega)]
    rfl
theorem br_get {P : List Nat} (hP : nib P) (a : Nat) {us : List ByteArray} (hu : us.length ≤ 16) (x : Nat) (r : List Nat) : (Nd.br (kidsN P a us)).get (x :: r) = if r = P.drop (a + 1) then us[x]? else none := by
  rw [get_br, kids_getD a hu, kid_get hP]
theorem sh_get {P : List Nat} (hP : nib P) (hl : P.length = 64) {a : Nat} (ha : a < 64) {us : List ByteArray} (hu : us.length ≤ 16) (s : List Nat) (hs : s.length = 64) : (shN P a us).get s = gV P a us s := by
  have hsa : a < s.length := by omega
  unfold shN gV
  by_cases h0 : a = 0
  · subst h0
    rw [if_pos rfl]
    have e := split_at hsa
    rw [List.take_zero, List.nil_append] at e
    conv => lhs; rw [e]
    rw [br_get hP 0 hu]
    simp
  · rw [if_neg h0, Nd.get, textB_size, List.length_take, hl, Nat.min_eq_left (by omega), nib_bytes (nib_take hP _)]
    have e : s.drop a = s.getD a 0 :: s.drop (a + 1) := by
      rw [List.drop_eq_getElem_cons hsa, List.getD_eq_getElem?_getD, List.getElem?_eq_getElem hsa]
      rfl
    rw [e, br_get hP a hu]
    by_cases h1 : s.take a = P.take a
    · rw [if_pos h1]
      by_cases h2 : s.drop (a + 1) = P.drop (a + 1)
      · rw [if_pos h2, if_pos ⟨h1, h2⟩]
      · rw [if_neg h2, if_neg fun h => h2 h.2]
    · rw [if_neg h1, if_neg fun h => h1 h.1]
theorem lone_get {P : List Nat} (hP : nib P) (hl : P.length = 64) {a : Nat} (ha : a < 64) (u : ByteArray) (s : List Nat) (hs : s.length = 64) : (Nd.leaf (textB (P.set a 0)) u).get s = gV P a [u] s := by
  have h := gV_snoc (us := []) (u := u) (s := s) (P := P) (a := a) (by omega) (by omega)
  rw [List.nil_append] at h
  rw [← h, gV_nil, Nd.get, nib_bytes (fun x hx => by
    rcases List.mem_or_eq_of_mem_set hx with hx | rfl
    · exact hP x hx
    · omega)]
  by_cases e : s = P.set a 0
  · rw [if_pos e.symm, if_pos (by simpa using e)]
  · rw [if_neg (fun h => e h.symm), if_neg (by simpa using e)]
theorem cntN_mono (ks : List Nd) : ∀ k j, cntN ks k ≤ cntN ks (k + j)
  | _, 0 => Nat.le_refl _
  | k, j + 1 => by
    have := cntN_mono ks k j
    rw [← Nat.add_assoc, cntN]
    omega
theorem kid_can {P : List Nat} (hP : nib P) (a : Nat) {us : List ByteArray} (hv : ∀ u ∈ us, 0 < u.size ∧ u.size ≤ 100) (v : Nat) : (kidN P a us v).can (P.length - (a + 1)) := by
  unfold kidN
  cases h : us[v]? with
  | none => simp only; rw [Nd.can]; trivial
  | some u =>
    simp only
    rw [Nd.can, textB_size, List.length_drop, nib_bytes (nib_drop hP _)]
    exact ⟨rfl, nib_drop hP _, hv u (List.mem_of_getElem? h)⟩
theorem br_can {P : List Nat} (hP : nib P) {a n : Nat} (hn : n = P.length - a) (ha : a < P.length) {us : List ByteArray} (hu : us.length ≤ 16) (hu2 : 2 ≤ us.length) (hv : ∀ u ∈ us, 0 < u.size ∧ u.size ≤ 100) : (Nd.br (kidsN P a us)).can n := by
  rw [Nd.can]
  refine ⟨by omega, by simp [kidsN], canAll_of fun x hx => ?_, ?_⟩
  · obtain ⟨v, _, rfl⟩ := List.mem_map.1 hx
    have := kid_can hP a hv v
    rw [show n - 1 = P.length - (a + 1) by omega]
    exact this
  · have h : cntN (kidsN P a us) 2 ≤ cntN (kidsN P a us) 16 := cntN_mono (kidsN P a us) 2 14
    have h2 : cntN (kidsN P a us) 2 = 2 := by
      have k : ∀ v, v < 2 → (kidN P a us v).isNo = false := fun v hv => by
        unfold kidN
        rw [List.getElem?_eq_getElem (by omega)]
        rfl
      rw [cntN, cntN, cntN, kids_getD a hu, kids_getD a hu, k 0 (by omega), k 1 (by omega)]
      rfl
    omega
theorem sh_can {P : List Nat} (hP : nib P) (hl : P.length = 64) {a : Nat} (ha : a < 64) {us : List ByteArray} (hu : us.length ≤ 16) (hu2 : 2 ≤ us.length) (hv : ∀ u ∈ us, 0 < u.size ∧ u.size ≤ 100) : (shN P a us).can 64 := by
  unfold shN
  by_cases h0 : a = 0
  · rw [if_pos h0]
    exact br_can hP (by omega) (by omega) hu hu2 hv
  · rw [if_neg h0, Nd.can, textB_size, List.length_take, hl, Nat.min_eq_left (by omega), nib_bytes (nib_take hP _)]
    exact ⟨by omega, ha, nib_take hP _, br_can hP (by omega) (by omega) hu hu2 hv, rfl⟩
theorem lone_can {P : List Nat} (hP : nib P) (hl : P.length = 64) (a : Nat) {u : ByteArray} (hu : 0 < u.size ∧ u.size ≤ 100) : (Nd.leaf (textB (P.set a 0)) u).can 64 := by
  have h : nib (P.set a 0) := fun x hx => by
    rcases List.mem_or_eq_of_mem_set hx with hx | rfl
    · exact hP x hx
    · omega
  rw [Nd.can, textB_size, List.length_set, nib_bytes h]
  exact ⟨hl, h, hu⟩
/-- The root of such a map. -/
theorem sh_root {P : List Nat} (hP : nib P) (hl : P.length = 64) {a : Nat} (ha : a < 64) {us : List ByteArray} (hu : us.length ≤ 16) (hu2 : 2 ≤ us.length) (hv : ∀ u ∈ us, 0 < u.size ∧ u.size ≤ 100) {D : List Nat} (hD : rootOf (gV P a us) D) : D = digB (shN P a us).code := by
  rw [← hD (shN P a us) (sh_can hP hl ha hu hu2 hv) fun s hs => sh_get hP hl ha hu s hs]
  refine Nd.dig_eq ?_
  unfold shN
  split <;> rfl
theorem lone_root {P : List Nat} (hP : nib P) (hl : P.length = 64) {a : Nat} (ha : a < 64) {u : ByteArray} (hu : 0 < u.size ∧ u.size ≤ 100) {D : List Nat} (hD : rootOf (gV P a [u]) D) : D = digB (listCode (textCode (pathCode (P.set a 0) true) ++ textCode (bytesOf u))) := by
  rw [← hD (.leaf (textB (P.set a 0)) u) (lone_can hP hl a hu) fun s hs => lone_get hP hl ha u s hs, Nd.dig_eq rfl, Nd.code, nib_bytes (fun x hx => by
    rcases List.mem_or_eq_of_mem_set hx with hx | rfl
    · exact hP x hx
    · omega)]

/-! The codes. -/
def leafC (P : List Nat) (a : Nat) (u : ByteArray) : List Nat := listCode (textCode (pathCode (P.drop (a + 1)) true) ++ textCode (bytesOf u))
def leafIt (P : List Nat) (a : Nat) (u : ByteArray) : It := .list 0 0 [.text 0 0 (pathCode (P.drop (a + 1)) true), .text 0 0 (bytesOf u)]
theorem leafIt_code (P : List Nat) (a : Nat) (u : ByteArray) : (leafIt P a u).code = leafC P a u := by
  simp [leafIt, leafC, It.code, codes]
theorem leafIt_fits (P : List Nat) (a : Nat) (u : ByteArray) : fits 1 (leafIt P a u) := by
  unfold leafIt fits
  intro x hx
  rcases List.mem_cons.1 hx with rfl | hx
  · unfold fits; trivial
  · rw [List.mem_singleton.1 hx]; unfold fits; trivial
def refIt (P : List Nat) (a : Nat) (u : ByteArray) : It := if (leafC P a u).length < 32 then leafIt P a u else .text 0 0 (digB (leafC P a u))
theorem refIt_code (P : List Nat) (a : Nat) (u : ByteArray) : (refIt P a u).code = refOf (leafC P a u) := by
  unfold refIt refOf
  split
  · exact leafIt_code P a u
  · rw [It.code]
theorem refIt_fits (P : List Nat) (a : Nat) (u : ByteArray) : fits 1 (refIt P a u) := by
  unfold refIt
  split
  · exact leafIt_fits P a u
  · unfold fits; trivial
def kidIt (P : List Nat) (a : Nat) (us : List ByteArray) (v : Nat) : It :=
  match us[v]? with
  | some u => refIt P a u
  | none => .text 0 0 []
def kidC (P : List Nat) (a : Nat) (us : List ByteArray) (v : Nat) : List Nat :=
  match us[v]? with
  | some u => refOf (leafC P a u)
  | none => textCode []
theorem kidIt_code (P : List Nat) (a : Nat) (us : List ByteArray) (v : Nat) : (kidIt P a us v).code = kidC P a us v := by
  unfold kidIt kidC
  cases us[v]? with
  | none => simp only; rw [It.code]
  | some u => exact refIt_code P a u
theorem kid_ref {P : List Nat} (hP : nib P) (a : Nat) (us : List ByteArray) (v : Nat) : (kidN P a us v).ref = kidC P a us v := by
  unfold kidN kidC
  cases us[v]? with
  | none => rfl
  | some u =>
    show refOf (Nd.code _) = _
    rw [Nd.code, nib_bytes (nib_drop hP _)]
    rfl
def brIt (P : List Nat) (a : Nat) (us : List ByteArray) : It := .list 0 0 ((List.range 17).map (kidIt P a us))
def brC (P : List Nat) (a : Nat) (us : List ByteArray) : List Nat := listCode (((List.range 17).map (kidC P a us)).flatten)
theorem codes_map (f : Nat → It) (l : List Nat) : codes (l.map f) = (l.map fun v => (f v).code).flatten := by
  induction l with
  | nil => rfl
  | cons x l ih => rw [List.map_cons, codes, ih]; rfl
theorem brIt_code (P : List Nat) (a : Nat) (us : List ByteArray) : (brIt P a us).code = brC P a us := by
  unfold brIt brC
  rw [It.code, codes_map]
  simp only [kidIt_code]
theorem brIt_fits (P : List Nat) (a : Nat) (us : List ByteArray) : fits 2 (brIt P a us) := by
  unfold brIt fits
  intro x hx
  obtain ⟨v, _, rfl⟩ := List.mem_map.1 hx
  unfold kidIt
  cases us[v]? with
  | none => simp only; unfold fits; trivial
  | some u => exact refIt_fits P a u
theorem refs_map (f : Nat → Nd) (l : List Nat) : refs (l.map f) = (l.map fun v => (f v).ref).flatten := by
  induction l with
  | nil => rfl
  | cons x l ih => rw [List.map_cons, refs_cons, ih]; rfl
theorem brN_code {P : List Nat} (hP : nib P) (a : Nat) {us : List ByteArray} (hu : us.length ≤ 16) : (Nd.br (kidsN P a us)).code = brC P a us := by
  rw [Nd.code, kidsN, refs_map, brC, show List.range 17 = List.range 16 ++ [16] by rfl, List.map_append, List.flatten_append]
  simp only [kid_ref hP]
  have : kidC P a us 16 = textCode [] := by
    unfold kidC
    rw [List.getElem?_eq_none (by omega)]
  simp [this]
theorem sh_code {P : List Nat} (hP : nib P) (a : Nat) {us : List ByteArray} (hu : us.length ≤ 16) : (shN P a us).code = if a = 0 then brC P a us else listCode (textCode (pathCode (P.take a) false) ++ refOf (brC P a us)) := by
  unfold shN
  split
  · exact brN_code hP a hu
  · rw [Nd.ref_ext, nib_bytes (nib_take hP _), show (Nd.br (kidsN P a us)).ref = refOf (Nd.br (kidsN P a us)).code from rfl, brN_code hP a hu]
end Go.Proofs.YtjiikjpnlgogfaaGreatDoor
