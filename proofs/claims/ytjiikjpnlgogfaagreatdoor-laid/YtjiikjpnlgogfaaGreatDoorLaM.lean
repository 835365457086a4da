/-
  Package twigskeep: Laid: seventeen items, made anew.
-/
import Derived.Test.YtjiikjpnlgogfaaGreatDoorLaE
namespace Go.Proofs.YtjiikjpnlgogfaaGreatDoor
open Go.RowKit

theorem Tells.lt' {S : Wood} {w : World} {b : Nat} {g : List Nat → Option ByteArray} (h : Tells S w b g) : b < w.heap.size := by
  obtain ⟨t, h1, _⟩ := h.ex
  exact h1.lt
abbrev zeroE : El := ⟨0, 0, false, ⟨#[]⟩, .slice none 0 0⟩
def zeros17 : Array Value := ((List.replicate 17 zeroE).flatMap encI).toArray
theorem run_make17 (w : World) : (Instr.makeSlice 37 (.int .i64 17) (.int .i64 17)).run Tryz.prog w = .ok (.slice (some ⟨w.heap.size, 0, none⟩) 17 17) (w.alloc (.cells zeros17 45)) := by kernel_rfl
theorem LaSt.start {w : World} {raw : ByteArray} {K0 : Array Nat} {P : List Nat} {a B b : Nat} {S : Wood} {w3 : World} (hf : Forest B S w3) (ht : Tells S w3 b (gV P a [])) (hb : Below w.heap.size w w3) (hr : w3.rangeAt w.heap.size 0 (K0.toList.map encB)) (hfd : FeedAt w3 (w.heap.size + 1) raw) (hB : w.heap.size + 2 ≤ B) (hbB : B ≤ b) : LaSt w raw K0 P a B b w3.heap.size S (w3.alloc (.cells zeros17 45)) [] [] (List.replicate 17 zeroE) := by
  have hba : Below w3.heap.size w3 (w3.alloc (.cells zeros17 45)) := (Below.refl _ _).alloc (Nat.le_refl _) _
  have hlt := ht.lt'
  refine ⟨(Fr.of_below hf hba).forest, ht.behind hf hba, hb.trans (hba.mono hb.size), rangeAt_block hr (hba.block _ (by have := hf.le; omega)), hfd.below hba, hf.fresh (Nat.le_refl _), rangeAt_new w3 _ _, there_new w3 _ _ 51 rfl, ⟨_, _, Array.getElem?_push_size⟩, by simp, fun v hv => ?_, hB, hbB, hlt⟩
  rw [List.getElem_replicate]
  refine Tree.text ⟨⟨rfl, rfl⟩, ?_⟩ 1
  show kidC P a [] v = textCode (bytesOf ⟨#[]⟩)
  unfold kidC
  simp only [List.getElem?_nil]
  rfl
/-! The calls that work out the codes. -/
theorem leaf_len (Q : List Nat) (leaf : Bool) (hQ : Q.length ≤ 64) {c : List Nat} (hc : c.length ≤ 200) : (listCode (textCode (pathCode Q leaf) ++ c)).length ≤ 2048 := by
  have h1 := listCode_length (textCode (pathCode Q leaf) ++ c)
  have h2 := textCode_length (pathCode Q leaf)
  have h3 := pathCode_length Q leaf
  rw [List.length_append] at h1
  omega
theorem text_len {u : ByteArray} (h : u.size ≤ 100) : (textCode (bytesOf u)).length ≤ 200 := by
  have h1 := textCode_length (bytesOf u)
  rw [bytesOf_length] at h1
  omega
theorem leaf_laid {Q : List Nat} {p u : ByteArray} (hp : bytesOf p = Q) (hQ : nib Q) (hl : Q.length ≤ 64) (hu : u.size ≤ 100) (sent : Nat → Addr) (W : World) (hF : Faults W sent) :
    Calls Tryz.prog 21 #[.string p, .bool true, .agg #[.bool false, .string u, .slice none 0 0]] W fun e w' => e = .returned (.tuple #[.string (textB (listCode (textCode (pathCode Q true) ++ textCode (bytesOf u)))), .bool true]) ∧ Below W.heap.size W w' := by
  have h := klaid_any (n := 0) (by omega) (F := fun _ => True) (p := p) (c := textCode (bytesOf u)) true sent (w := W) (l := false) (tx := u) (px := none) (mx := 0) (cx := 0) ⟨⟨rfl, rfl⟩, rfl⟩ (by rw [← bytesOf_length, hp]; exact hl) (by rw [hp]; exact hQ) (by rw [hp]; exact leaf_len Q true hl (text_len hu)) hF
  rw [hp] at h
  exact h
theorem leafC_byte {P : List Nat} (hP : nib P) (hl : P.length = 64) (a : Nat) {u : ByteArray} (hu : u.size ≤ 100) : ∀ x ∈ leafC P a u, x < 256 := by
  have h := Nd.code_byte (.leaf (textB (P.drop (a + 1))) u) (by
    rw [Nd.ok]
    refine ⟨⟨by rw [textB_size, List.length_drop]; omega, ?_⟩, by omega⟩
    rw [nib_bytes (nib_drop hP _)]
    exact nib_drop hP _)
  rw [Nd.code, nib_bytes (nib_drop hP _)] at h
  exact h
theorem leafRef {P : List Nat} (hP : nib P) (hl : P.length = 64) (a : Nat) {u : ByteArray} (hu : u.size ≤ 100) (sent : Nat → Addr) (W : World) (hF : Faults W sent) (hT : typeAt W) (hTab : Tabs W) (hM : 16 ≤ W.heap.size) :
    Calls Tryz.prog 22 #[.string (textB (leafC P a u))] W (RefSaid (leafC P a u) 1 W) :=
  reference_any (leafIt_code P a u) (leafIt_fits P a u) (by omega) (leafC_byte hP hl a hu) (leaf_len _ _ (by rw [List.length_drop]; omega) (text_len hu)) sent W hF hT hTab hM
theorem brC_ok {P : List Nat} (hP : nib P) (hl : P.length = 64) {a : Nat} (ha : a < 64) {us : List ByteArray} (hu : us.length ≤ 16) (hu2 : 2 ≤ us.length) (hv : ∀ u ∈ us, 0 < u.size ∧ u.size ≤ 100) : (∀ x ∈ brC P a us, x < 256) ∧ (brC P a us).length ≤ 2048 := by
  have hok := (Nd.can_ok _ (64 - a) (br_can hP (a := a) (n := 64 - a) (by omega) (by omega) hu hu2 hv) (by omega)).1
  rw [← brN_code hP a hu]
  refine ⟨Nd.code_byte _ hok, ?_⟩
  rw [Nd.ok] at hok
  have h1 := refs_le _ hok.2
  have h2 := listCode_length (refs (kidsN P a us) ++ textCode [])
  have h3 := textCode_length []
  rw [Nd.code]
  rw [List.length_append] at h2
  rw [hok.1] at h1
  simp only [List.length_nil] at h3
  omega
theorem brRef {P : List Nat} (hP : nib P) (hl : P.length = 64) {a : Nat} (ha : a < 64) {us : List ByteArray} (hu : us.length ≤ 16) (hu2 : 2 ≤ us.length) (hv : ∀ u ∈ us, 0 < u.size ∧ u.size ≤ 100) (sent : Nat → Addr) (W : World) (hF : Faults W sent) (hT : typeAt W) (hTab : Tabs W) (hM : 16 ≤ W.heap.size) :
    Calls Tryz.prog 22 #[.string (textB (brC P a us))] W (RefSaid (brC P a us) 2 W) :=
  reference_any (brIt_code P a us) (brIt_fits P a us) (by omega) (brC_ok hP hl ha hu hu2 hv).1 (brC_ok hP hl ha hu hu2 hv).2 sent W hF hT hTab hM
end Go.Proofs.YtjiikjpnlgogfaaGreatDoor
