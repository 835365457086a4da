/-
  Package twigskeep: what a map of known making has for a path; trees and maps side by side.
  Package twigskeep: the program's tree of a map (Known.tree), in either order.
  Package twigskeep: does a tree say of a key what the map has? (Known.says): it answers yes, where the tree has what the map has.
  Package twigskeep: two trees side by side; what Orders' four loops do to what they have.
-/
import Derived.Test.YtjiikjpnlgogfaaGreatDoorMqKnG
import Derived.Test.YtjiikjpnlgogfaaGreatDoorMqTreB
namespace Go.Proofs.YtjiikjpnlgogfaaGreatDoor
open Go.RowKit

abbrev Mp := List (Array Nat × ByteArray)
def pth (x : Array Nat × ByteArray) : List Nat := nibs x.1.toList
theorem TreeAt.framex {B : Nat} {X : Nat → Prop} {S S' : Wood} {w w' : World} {b : Nat} {t : Nd} (h : TreeAt S w b t) (hf : FrX B X S S' w w') (hb : ¬ X b) : TreeAt S' w' b t := by
  have hlt := h.lt
  obtain ⟨h0, v, hv, he⟩ := h
  exact ⟨hf.new b hlt h0, v, hv.sub hf.sub, (hf.other b hlt h0 hb).trans he⟩
theorem FrX.below {B : Nat} {X : Nat → Prop} {S S' : Wood} {w w' : World} (h : FrX B X S S' w w') (hf : Forest B S w) (hX : ∀ k, X k → B ≤ k) : Below B w w' :=
  ⟨h.os, h.tape, h.output, h.size, fun k hk => h.other k (Nat.lt_of_lt_of_le hk hf.le) (by
    cases e : S k with
    | none => rfl
    | some t => have := hf.low k t e; omega) fun hx => by have := hX k hx; omega⟩
/-- A tree that has what the map has. -/
structure Tells (S : Wood) (w : World) (b : Nat) (g : List Nat → Option ByteArray) : Prop where
  ex : ∃ t : Nd, TreeAt S w b t ∧ t.can 64 ∧ ∀ s, s.length = 64 → t.get s = g s
theorem Tells.congr {S : Wood} {w : World} {b : Nat} {g g' : List Nat → Option ByteArray} (h : Tells S w b g) (e : ∀ s, s.length = 64 → g s = g' s) : Tells S w b g' := by
  obtain ⟨t, h1, h2, h3⟩ := h.ex
  exact ⟨t, h1, h2, fun s hs => (h3 s hs).trans (e s hs)⟩
theorem Tells.framex {B : Nat} {X : Nat → Prop} {S S' : Wood} {w w' : World} {b : Nat} {g : List Nat → Option ByteArray} (h : Tells S w b g) (hf : FrX B X S S' w w') (hb : ¬ X b) : Tells S' w' b g := by
  obtain ⟨t, h1, h2, h3⟩ := h.ex
  exact ⟨t, h1.framex hf hb, h2, h3⟩
theorem Tells.put {B : Nat} {S : Wood} {w : World} {b : Nat} {g : List Nat → Option ByteArray} {K : Array Nat} {u : ByteArray} (h : Tells S w b g) (hf : Forest B S w) (hK : K.size = 32) (hKb : Bytes K) (hu0 : 0 < u.size) (hu1 : u.size ≤ 100) :
    Calls Tryz.prog 19 #[.pointer (some ⟨b, 0, none⟩), .agg (K.toList.map encB).toArray, .string u] w fun x w' => x = .returned (.int .i64 0) ∧ ∃ S', Tells S' w' b (fun s => if s = nibs K.toList then some u else g s) ∧ FrX B (· = b) S S' w w' := by
  obtain ⟨t, h1, h2, h3⟩ := h.ex
  refine (map_put hf h1 h2 hK hKb hu0 hu1).mono ?_
  rintro x w' ⟨rfl, S', t', ht', hc', hg', hf'⟩
  exact ⟨rfl, S', ⟨t', ht', hc', fun s hs => by rw [hg' s hs, h3 s hs]⟩, hf'⟩
theorem key_len {K : Array Nat} (hK : K.size = 32) : (nibs K.toList).length = 64 := by rw [nibs_length, Array.length_toList, hK]
theorem Tells.del {B : Nat} {S : Wood} {w : World} {b : Nat} {g : List Nat → Option ByteArray} {K : Array Nat} (h : Tells S w b g) (hf : Forest B S w) (hK : K.size = 32) (hKb : Bytes K) {o : Option ByteArray} (ho : g (nibs K.toList) = o) :
    Calls Tryz.prog 26 #[.pointer (some ⟨b, 0, none⟩), .agg (K.toList.map encB).toArray] w fun x w' => x = .returned (.tuple #[.bool o.isSome, .int .i64 0]) ∧ ∃ S', Tells S' w' b (fun s => if s = nibs K.toList then none else g s) ∧ FrX B (· = b) S S' w w' := by
  obtain ⟨t, h1, h2, h3⟩ := h.ex
  refine (map_del hf h1 h2 hK hKb ((h3 _ (key_len hK)).trans ho)).mono ?_
  rintro x w' ⟨rfl, S', t', ht', hc', hg', hf'⟩
  exact ⟨rfl, S', ⟨t', ht', hc', fun s hs => by rw [hg' s hs, h3 s hs]⟩, hf'⟩
theorem Tells.get {B : Nat} {S : Wood} {w : World} {b : Nat} {g : List Nat → Option ByteArray} {K : Array Nat} (h : Tells S w b g) (hf : Forest B S w) (hK : K.size = 32) (hKb : Bytes K) {o : Option ByteArray} (ho : g (nibs K.toList) = o) :
    Calls Tryz.prog 55 #[.pointer (some ⟨b, 0, none⟩), .agg (K.toList.map encB).toArray] w fun x w' => x = .returned (.tuple #[.string (o.getD ⟨#[]⟩), .bool o.isSome, .int .i64 0]) ∧ Below w.heap.size w w' := by
  obtain ⟨t, h1, h2, h3⟩ := h.ex
  exact xget_any hf h1 h2 hK hKb ((h3 _ (key_len hK)).trans ho)
theorem Nd.can_dig {t : Nd} {n : Nat} (h : t.can n) : ∃ c, t.dig = digB c := by
  cases t with
  | no => exact ⟨_, Nd.dig_no⟩
  | leaf _ _ => exact ⟨_, Nd.dig_eq rfl⟩
  | ext _ _ => exact ⟨_, Nd.dig_eq rfl⟩
  | br _ => exact ⟨_, Nd.dig_eq rfl⟩
  | stub _ => rw [Nd.can] at h; exact h.elim
/-- The root of what a map has: of whatever tree that has it. -/
def rootOf (g : List Nat → Option ByteArray) (D : List Nat) : Prop := ∀ t : Nd, t.can 64 → (∀ s, s.length = 64 → t.get s = g s) → t.dig = D
theorem Tells.root {B : Nat} {S : Wood} {w : World} {b : Nat} {g : List Nat → Option ByteArray} (h : Tells S w b g) (hf : Forest B S w) (hT : Tabs w) (hM : 16 ≤ B) :
    Calls Tryz.prog 16 #[.pointer (some ⟨b, 0, none⟩)] w fun e w' => ∃ D, rootOf g D ∧ D.length = 32 ∧ (∀ x ∈ D, x < 256) ∧ e = .returned (.agg (D.map encB).toArray) ∧ Fr B S S w w' := by
  obtain ⟨t, h1, h2, h3⟩ := h.ex
  refine (xroot_any hf hT hM h1).mono ?_
  rintro e w' ⟨rfl, hfr⟩
  refine ⟨t.dig, fun t' h2' h3' => ?_, ?_, ?_, rfl, hfr⟩
  · rw [can_unique 64 64 t' t (Nat.le_refl _) h2' h2 fun s hs _ => (h3' s hs).trans (h3 s hs).symm]
  · obtain ⟨c, hc⟩ := Nd.can_dig h2
    rw [hc]
    exact digB_length c
  · obtain ⟨c, hc⟩ := Nd.can_dig h2
    rw [hc]
    exact digB_byte c
end Go.Proofs.YtjiikjpnlgogfaaGreatDoor

namespace Go.Proofs.YtjiikjpnlgogfaaGreatDoor
open Go.RowKit

end Go.Proofs.YtjiikjpnlgogfaaGreatDoor

namespace Go.Proofs.YtjiikjpnlgogfaaGreatDoor
open Go.RowKit

theorem Tells.behind {B : Nat} {S : Wood} {w w' : World} {b : Nat} {g : List Nat → Option ByteArray} (h : Tells S w b g) (hf : Forest B S w) (hb : Below w.heap.size w w') : Tells S w' b g := h.framex ((Fr.of_below hf hb).x fun _ => False) fun h => h

end Go.Proofs.YtjiikjpnlgogfaaGreatDoor

namespace Go.Proofs.YtjiikjpnlgogfaaGreatDoor
open Go.RowKit

/-- Two trees, and all that was there before them as it was. -/
structure Two (B : Nat) (w0 : World) (S : Wood) (w : World) (bt bu : Nat) (gt gu : List Nat → Option ByteArray) : Prop where
  forest : Forest B S w
  below : Below B w0 w
  t : Tells S w bt gt
  u : Tells S w bu gu
/-- The one map for the first k keys, the laid one for the rest. -/
def back (o : Mp) (k : Nat) (f g : List Nat → Option ByteArray) (s : List Nat) : Option ByteArray := if s ∈ (o.take k).map pth then f s else g s
theorem hash_refl (l : List Nat) (hl : l.length = 32) (hb : ∀ x ∈ l, x < 256) (w : World) : (Op.equalIn 10000 34 (.agg (l.map encB).toArray) (.agg (l.map encB).toArray)).run Tryz.prog w = .ok true w := by
  have e : l.map encB = (l.map UInt8.ofNat).map Extern.Stop.cell := by
    rw [List.map_map]
    apply List.map_congr_left
    intro x hx
    have := hb x hx
    show Value.int .u8 _ = Value.int .u8 _
    congr 1
    simp
    omega
  have hs5 : ∀ w, (sizeOf 5).run Tryz.prog w = .ok 1 w := fun w => by kernel_rfl
  have h := run_equalIn_bytes (P := Tryz.prog) w 9998 34 5 32 Tryz.underlying34 Tryz.underlying5 hs5 (l.map UInt8.ofNat) (l.map UInt8.ofNat) (by simp [hl]) (by simp [hl])
  rw [← e] at h
  rw [h, beq_self_eq_true]
theorem forest_none (w : World) : Forest w.heap.size (fun _ => none) w := ⟨fun _ _ h => (by cases h), fun _ _ h => (by cases h), fun _ _ h => (by cases h), Nat.le_refl _⟩
end Go.Proofs.YtjiikjpnlgogfaaGreatDoor
