/-
  Errors as values: the thirteen of package fault, and what the layers wrap around them.
  errors.Is at the errors of package fault: how deep an error is wrapped does not count.
-/
import Derived.Test.YthbgepmpdphigaaGreatDoorAxOwnG
import Derived.Stop.Asserts
import Derived.LaidEql
namespace Go.Proofs.YthbgepmpdphigaaGreatDoor
open Go.RowKit
set_option maxRecDepth 100000
set_option maxHeartbeats 25600000
inductive Er where
 | base (n : Nat)
 | place (at_ : Nat) (e : Er)
 | noNode (e : Er)
 | inNode (n : Nat) (e : Er)
 | inProof (n : Nat) (e : Er)
theorem Hid.hide {p : Prop} (h : p) : Hid p := h
variable {w : World}
theorem Below.up {w' : World} {o : Obj} (h : Below (w.alloc o).heap.size (w.alloc o) w') : Below w.heap.size w w' := ((Below.refl w.heap.size w).alloc (Nat.le_refl _) _).trans (h.mono (by simp))
theorem Below.behind {W W' : World} (h : Below w.heap.size w W) (k : Below W.heap.size W W') : Below w.heap.size w W' := h.trans (k.mono h.size)
theorem Qac {w1 : World} {cs : Array Value} {t : TypeId} (hb : Below (w.alloc (.cells cs t)).heap.size (w.alloc (.cells cs t)) w1) (j : Nat) {v : Value} (h : cs[j]? = some v) : w1.cell? ⟨w.heap.size, j, none⟩ = some v /\ w1.frozen? ⟨w.heap.size, j, none⟩ = false :=
 ⟨((hb.cell (p := ⟨w.heap.size, j, none⟩) (by simp)).trans (World.cell?_alloc_new _ _ _ _)).trans h, (hb.frozen (p := ⟨w.heap.size, j, none⟩) (by simp)).trans (World.frozen?_alloc_new _ _ _ _)⟩
def Er.val (sent : Nat -> Addr) : Er -> Value
 | .base n => .iface 271 (.pointer (some (sent n)))
 | .place k e => .iface 108 (.agg #[.int .i64 (k : Int), e.val sent])
 | .noNode e => .iface 249 (.agg #[e.val sent])
 | .inNode k e => .iface 113 (.agg #[.int .i64 (k : Int), e.val sent])
 | .inProof k e => .iface 116 (.agg #[.int .i64 (k : Int), e.val sent])
theorem Er.shape (sent : Nat -> Addr) (e : Er) : ∃ t v, e.val sent = .iface t v := by
 cases e <;> exact ⟨_, _, rfl⟩
def gOf : Nat -> Nat
 | 1 => 0
 | 2 => 1
 | 3 => 15
 | 4 => 2
 | 5 => 3
 | 6 => 4
 | 7 => 5
 | 8 => 6
 | 9 => 7
 | 10 => 8
 | 11 => 9
 | 12 => 10
 | _ => 11
def nums : List Nat := [1, 2, 3, 4, 5, 6, 7, 8, 9, 10, 11, 12, 13]
structure Faults (w : World) (sent : Nat -> Addr) : Prop where
 var : ∀ n ∈ nums, w.cell? ⟨gOf n, 0, none⟩ = some (.iface 271 (.pointer (some (sent n))))
 plain : ∀ n ∈ nums, Plain w (sent n).block
 apart : ∀ m ∈ nums, ∀ n ∈ nums, m ≠ n -> sent m ≠ sent n
variable {sent : Nat -> Addr}
theorem Faults.low (h : Faults w sent) {n : Nat} (hn : n ∈ nums) : gOf n < w.heap.size :=
 World.block_lt_of_cell? w _ (h.var n hn)
theorem Plain.lt {g : Nat} (h : Plain w g) : g < w.heap.size := by
 obtain ⟨c, t, h⟩ := h
 exact (Array.getElem?_eq_some_iff.1 h).1
theorem Faults.below {W : World} (h : Faults w sent) (hb : Below w.heap.size w W) : Faults W sent :=
 ⟨fun n hn => (hb.cell (h.low hn)).trans (h.var n hn), fun n hn => (h.plain n hn).keep (hb.block _ (h.plain n hn).lt), h.apart⟩
theorem Faults.keep {w W : World} {sent : Nat -> Addr} (h : Faults w sent) {B : Nat} (hb : Below B w W) (h1 : ∀ n ∈ nums, gOf n < B) (h2 : ∀ n ∈ nums, (sent n).block < B) : Faults W sent :=
 ⟨fun n hn => (hb.cell (h1 n hn)).trans (h.var n hn), fun n hn => (h.plain n hn).keep (hb.block _ (h2 n hn)), h.apart⟩
open Go.RowKit Go.Stop
def Er.num : Er -> Nat
 | .base n => n
 | .place _ e => e.num
 | .noNode _ => 8
 | .inNode _ e => e.num
 | .inProof _ e => e.num
end Go.Proofs.YthbgepmpdphigaaGreatDoor
