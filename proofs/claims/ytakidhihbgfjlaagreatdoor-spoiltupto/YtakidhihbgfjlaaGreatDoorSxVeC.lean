/-
  Showing the node of a proof: show.
-/
import Derived.Test.YtakidhihbgfjlaaGreatDoorSxVbG
import Derived.Test.YtakidhihbgfjlaaGreatDoorSxOrdA
import Derived.Test.YtakidhihbgfjlaaGreatDoorSxVaG
import Derived.Test.YtakidhihbgfjlaaGreatDoorSxTreB
namespace Go.Proofs.YtakidhihbgfjlaaGreatDoor
open Go.RowKit
set_option maxRecDepth 100000
set_option maxHeartbeats 25600000
theorem Qm1 (K L : List Nat) (hK : K.length = 32) (hL : L.length = 32) (hKb : ∀ x ∈ K, x < 256) (hLb : ∀ x ∈ L, x < 256) (w : World) : (Op.equalIn 10000 37 (.agg (K.map encB).toArray) (.agg (L.map encB).toArray)).run Tryz.prog w = .ok (decide (K = L)) w := by
 have f : ∀ w, (sizeOf 5).run Tryz.prog w = .ok 1 w := fun w => by kernel_rfl
 have a : ∀ (A : List Nat), (∀ x ∈ A, x < 256) -> A.map encB = (A.map UInt8.ofNat).map Extern.Stop.cell := fun A i => by
  rw [List.map_map]
  apply List.map_congr_left
  intro x k
  have l := i x k
  show Value.int .u8 _ = Value.int .u8 _
  congr 1
  simp
  omega
 have h := run_equalIn_bytes (P := Tryz.prog) w 9998 37 5 32 Tryz.underlying37 Tryz.underlying5 f (K.map UInt8.ofNat) (L.map UInt8.ofNat) (by simp [hK]) (by simp [hL])
 rw [<- a K hKb, <- a L hLb] at h
 rw [h]
 by_cases e : K = L
 ·rw [e, decide_eq_true rfl]
  simp
 ·have d : K.map UInt8.ofNat ≠ L.map UInt8.ofNat := fun j => e (by
   have c := congrArg (List.map Extern.Stop.cell) j
   rw [<- a K hKb, <- a L hLb] at c
   have b : ∀ x y : Nat, encB x = encB y -> x = y := fun x y g => by
    simp only [encB, Value.int.injEq] at g
    omega
   exact (List.map_inj_right (fun {x y} => b x y)).1 c)
  rw [decide_eq_false e, beq_eq_false_iff_ne.2 d]
structure Env (B : Nat) (sent : Nat -> Addr) (w : World) : Prop where
 faults : Faults w sent
 tabs : Tabs w
 low : 15 <= B
 vars : ∀ n ∈ nums, gOf n < B
 sents : ∀ n ∈ nums, (sent n).block < B
theorem Env.below {B : Nat} {sent : Nat -> Addr} {w w' : World} (h : Env B sent w) (hb : Below B w w') : Env B sent w' :=
 ⟨h.faults.keep hb h.vars h.sents, h.tabs.of_blocks (hb.block 13 (by have := h.low; omega)) (hb.block 14 (by have := h.low; omega)), h.low, h.vars, h.sents⟩
theorem Qyx {h : List Nat} (hl : h.length = 32) : (Nd.stub h).dig = h := by
 have e : (Nd.stub h).ref = 160 :: h := Qc1 hl
 rw [Nd.dig, e, if_neg (by simp; omega)]
 rfl
section
variable {B : Nat} {W0 : World} {A K : Value} {h : List Nat} {p : ByteArray} {d : Nat -> Bool} {v : Nat -> Value} {w w' : World}
end
def StrRow (w : World) (p : Option Addr) (l : List ByteArray) (c : Nat) : Prop :=
 (p = none /\ l = [] /\ c = 0) \/ ∃ g o, p = some ⟨g, o, none⟩ /\ l.length <= c /\ (0 < l.length -> g < w.heap.size) /\ w.rangeAt g o (l.map Value.string)
def verT (L : List (List Nat)) (t : Nd) (r : ByteArray) (k : Nat) : Except Er (Option ByteArray) :=
 match t with
 | .stub h => verL L h r k
 | _ => if L = [] then .ok (valAt t r) else .error (.inNode k (.base 4))
theorem Qyy {t : Nd} (h : ∀ g, t ≠ .stub g) (L : List (List Nat)) (r : ByteArray) (k : Nat) : verT L t r k = if L = [] then .ok (valAt t r) else .error (.inNode k (.base 4)) := by
 cases t with
 | stub g => exact absurd rfl (h g)
 | _ => rfl
theorem Qvv (c : List Nat) (L : List (List Nat)) (h : List Nat) (r : ByteArray) (k : Nat) {t : Nd} (hs : shF c h (64 - r.size) = .ok t) : verL (c :: L) h r k = verT L (t.walk 64 r).1 (t.walk 64 r).2 (k + 1) := by
 rw [verL, hs]
 simp only
 obtain ⟨e, a⟩ := t.walk 64 r
 cases e <;> rfl
theorem Qvw (h : List Nat) (a : Addr) (w : World) : (Instr.typeAssert (.iface (ndTy (.stub h)) (.pointer (some a))) 56 160 true).run Tryz.prog w = .ok (.tuple #[.pointer (some a), .bool true]) w := by kernel_rfl
theorem Qyz {w : World} (h : List Nat) (r : ByteArray) (p : Option Addr) (m c d : Nat) :
  Calls Tryz.prog 67 #[.agg #[.slice p m c, .iface (ndTy (.stub h)) (.pointer (some ⟨d, 0, none⟩)), .string r]] w fun x w' => x = .returned (.pointer (some ⟨d, 0, none⟩)) /\ Below w.heap.size w w' := by
 have b := fun W => Qvw h ⟨d, 0, none⟩ W
 obtain ⟨T, a⟩ : ∃ T, ndTy (.stub h) = T := ⟨_, rfl⟩
 rw [a] at b ⊢
 clear a
 go_enter Tryz.func67, Tryz.ntmps67
 go_wp2
 go_ret
 exact ⟨rfl, (Below.refl _ _).alloc (Nat.le_refl _) _⟩
end Go.Proofs.YtakidhihbgfjlaaGreatDoor
