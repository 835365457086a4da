/-
  twigs.Verify.
-/
import Derived.Test.YtoohdfiddbfacaaGreatDoorTeVfN
namespace Go.Proofs.YtoohdfiddbfacaaGreatDoor
open Go.RowKit
set_option maxRecDepth 100000
set_option maxHeartbeats 25600000
theorem rdF_simple : ∀ (n : Nat) (x : It) (dep : Nat) (er : Er), rdF n x dep = .error er -> er.simple
 | 0, x, dep, er, h => by rw [rdF] at h; cases h; show (8 : Nat) ∈ nums; decide
 | n + 1, x, dep, er, h => by
  have hno : ∀ fr, (noN fr).simple := fun fr => by show (8 : Nat) ∈ nums; decide
  have ih := rdF_simple n
  have hR : ∀ y d er, rdRef (rdF n) y d = .error er -> er.simple := fun y d er h => by
   cases y with
   | text _ _ _ => cases h
   | list a b l => exact ih _ _ _ h
  cases x with
  | text a b s => rw [rdF] at h; cases h; exact hno _
  | list fr en l =>
   rw [rdF] at h
   by_cases h2 : l.length = 2
   ·obtain ⟨a, b, rfl⟩ := two_items h2
    rw [rdL_two] at h
    unfold rdPath at h
    cases a with
    | list _ _ _ => cases h; exact hno _
    | text a1 a2 s =>
     simp only at h
     cases hu : unpackF s with
     | none => rw [hu] at h; cases h; show Er.base 3 = _; rfl
     | some q =>
      obtain ⟨p, leaf⟩ := q
      rw [hu] at h
      simp only at h
      split at h
      ·split at h
       ·cases h; exact hno _
       ·cases h
      ·unfold rdExt at h
       split at h
       ·cases h; exact hno _
       ·cases hn : rdRef (rdF n) b (dep + p.length) with
        | error e => rw [hn] at h; cases h; exact hR _ _ _ hn
        | ok m => rw [hn] at h; cases h
   ·rw [rdL_more h2] at h
    split at h
    ·unfold rdBr at h
     split at h
     ·cases h; exact hno _
     ·have hk : ∀ (xs : List It) er, rdKids (rdF n) (dep + 1) xs = .error er -> er.simple := by
       intro xs
       induction xs with
       | nil => intro er h; rw [rdKids] at h; cases h
       | cons y ys ihy =>
        intro er h
        rw [rdKids] at h
        split at h
        ·cases hn : rdKids (rdF n) (dep + 1) ys with
         | error e => rw [hn] at h; cases h; exact ihy _ hn
         | ok m => rw [hn] at h; cases h
        ·cases hm : rdRef (rdF n) y (dep + 1) with
         | error e => rw [hm] at h; cases h; exact hR _ _ _ hm
         | ok m =>
          rw [hm] at h
          simp only at h
          cases hn : rdKids (rdF n) (dep + 1) ys with
          | error e => rw [hn] at h; cases h; exact ihy _ hn
          | ok m => rw [hn] at h; cases h
      cases hn : rdKids (rdF n) (dep + 1) (l.take 16) with
      | error e => rw [hn] at h; cases h; exact hk _ _ hn
      | ok m => rw [hn] at h; cases h
    ·cases h; exact hno _
theorem shF_simple {c h : List Nat} (hc : ∀ y ∈ c, y < 256) {dep : Nat} {er : Er} (hs : shF c h dep = .error er) : er.simple := by
 unfold shF at hs
 split at hs
 ·cases hs; show (1 : Nat) ∈ nums; decide
 ·split at hs
  ·cases hs; show (7 : Nat) ∈ nums; decide
  ·cases hx : decF c with
   | error e => rw [hx] at hs; cases hs; exact (decF_err hc hx).1
   | ok x => rw [hx] at hs; exact rdF_simple _ _ _ _ hs
theorem verL_simple : ∀ (L : List (List Nat)) (h : List Nat) (r : ByteArray) (k : Nat) (er : Er), (∀ c ∈ L, ∀ y ∈ c, y < 256) -> verL L h r k = .error er -> er.simple
 | [], h, r, k, er, _, e => by rw [verL] at e; cases e; show (2 : Nat) ∈ nums; decide
 | c :: L, h, r, k, er, hL, e => by
  rw [verL] at e
  cases hs : shF c h (64 - r.size) with
  | error er' => rw [hs] at e; cases e; show er'.simple; exact shF_simple (hL c (List.mem_cons_self ..)) hs
  | ok t =>
   rw [hs] at e
   simp only at e
   split at e
   ·exact verL_simple L _ _ _ _ (fun c hc => hL c (List.mem_cons_of_mem _ hc)) e
   ·split at e
    ·cases e
    ·cases e; show (4 : Nat) ∈ nums; decide
theorem verF_simple {h : List Nat} {P : ByteArray} {L : List (List Nat)} (hL : ∀ c ∈ L, ∀ y ∈ c, y < 256) {er : Er} (e : verF h P L = .error er) : er.simple := by
 unfold verF at e
 split at e
 ·cases e
 ·exact verL_simple _ _ _ _ _ hL e
def verStr : Except Er (Option ByteArray) -> ByteArray
 | .error _ => ⟨#[]⟩
 | .ok o => o.getD ⟨#[]⟩
def verHas : Except Er (Option ByteArray) -> Bool
 | .error _ => false
 | .ok o => o.isSome
def verFault : Except Er (Option ByteArray) -> Value
 | .error er => faultV er.num er.proof er.node er.at_
 | .ok _ => faultV 0 0 0 0
theorem bytes_all (l : List ByteArray) : ∀ c ∈ l.map bytesOf, ∀ y ∈ c, y < 256 := fun c hc => by
 obtain ⟨s, _, rfl⟩ := List.mem_map.1 hc
 exact bytesOf_lt s
theorem fault_cells {w : World} {b : Nat} {x0 x1 x2 x3 : Value} {t : TypeId} (h : w.heap[b]? = some (.cells #[x0, x1, x2, x3] t (0, 0))) : w.cell? ⟨b, 0, none⟩ = some x0 /\ w.cell? ⟨b, 1, none⟩ = some x1 /\ w.cell? ⟨b, 2, none⟩ = some x2 /\ w.cell? ⟨b, 3, none⟩ = some x3 /\ w.frozen? ⟨b, 0, none⟩ = false /\ w.frozen? ⟨b, 1, none⟩ = false /\ w.frozen? ⟨b, 2, none⟩ = false /\ w.frozen? ⟨b, 3, none⟩ = false := by
 refine ⟨?_, ?_, ?_, ?_, ?_, ?_, ?_, ?_⟩ <;> simp [World.cell?, World.frozen?, h]
end Go.Proofs.YtoohdfiddbfacaaGreatDoor
