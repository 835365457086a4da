/-
  Bare of package item: the item without its places.
-/
import Derived.Test.YtakidhihbgfjlaaGreatDoorSxIteG
import Derived.Deep.RegionHeld3
import Derived.Deep.DeepCutAuto
import Derived.Deep.RegionLaw
namespace Go.Proofs.YtakidhihbgfjlaaGreatDoor
open Go.RowKit
set_option maxRecDepth 100000
set_option maxHeartbeats 25600000
theorem Qc7 {P : Program} (w : World) {ops : Array Oper} {o : Oper} {a : Act} {K : Act -> World -> Prop} {Q : Exit -> Act -> World -> Prop} {E : Prop} (hgd : o.guard = none) (s x : Operand) (t : TypeId)
  (ho : o.op = .call { callee := .builtin .append, args := #[s, x], argTypes := #[t, t] })
  (e : TypeId) (i : TypeInfo) (z : Value) (size bytes : Nat) (ht : P.underlying t = some (.slice e)) (hi : P.info? e = some i) (hz : i.zero = some z) (hsize : i.size = size) (hby : i.bytes = bytes) (hzs : z.cells.size = size) (hsz : 0 < size)
  (B : Nat) (v : Value) (n : Nat) (cs : List Value) (hs : a.eval s = v) (hown : OwnC w B size v n cs) (b p m c : Nat) (news : List Value) (hx : a.eval x = .slice (some ⟨b, p, none⟩) m c)
  (hl : news.length = m * size) (hnews : w.rangeAt b p news) (h1 : ∀ u ∈ news, u.oneCell' = true) (hm : n + m <= maxLen) (hb : (n + m) * bytes <= 140737488355328) (hB : B <= w.heap.size)
  (hK : ∀ v' w', OwnC w' B size v' (n + m) (cs ++ news) -> w.grownBy w' v.ownBlock -> (∀ k, v'.ownBlock = Option.some k -> v.ownBlock = Option.some k \/ w.heap.size <= k) -> ((∀ k, v.ownBlock = Option.some k -> Plain w k) -> ∀ k, v'.ownBlock = Option.some k -> Plain w' k) -> K (a.put o.dst v') w') :
  if Region.wanted o (yielded ops a.tmps) = true then Oper.wp P o a w K Q else E := by
 have f : Region.wanted o (yielded ops a.tmps) = true := by simp [Region.wanted, hgd]
 rw [if_pos f]
 obtain ⟨v', w', d, g, h, j, l⟩ := Qbr (P := P) w t o.type e i z size bytes ht hi hz hsize hby hzs hsz B v n cs hown b p m c news hl hnews h1 hm hb hB
 unfold Oper.wp
 simp [execOp, ho, resolve, invoke, builtin, hs, hx, d, Result.andThen]
 exact hK v' w' g h j l
theorem Qcs (k n : Nat) : 0 < (headB k n).length := by
 unfold headB
 split <;> simp
theorem Qb9 (t : List Nat) : 0 < (textCode t).length /\ t.length <= (textCode t).length := by
 unfold textCode
 split
 ·rename_i h
  simp [h.1]
 ·have := Qcs 128 t.length
  rw [List.length_append]
  omega
theorem Qpi (x : It) : 0 < x.code.length := by
 cases x with
 | text fr en t => rw [It.code]; exact (Qb9 t).1
 | list fr en l =>
  rw [It.code]
  unfold listCode
  have := Qcs 192 (Go.Proofs.YtakidhihbgfjlaaGreatDoor.codes l).length
  rw [List.length_append]
  omega
theorem Qsr {l : List It} {x : It} (h : x ∈ l) : x.code.length <= (codes l).length := by
 induction l with
 | nil => cases h
 | cons y l ih =>
  rw [codes, List.length_append]
  rcases List.mem_cons.1 h with rfl | h
  ·omega
  ·have := ih h
   omega
end Go.Proofs.YtakidhihbgfjlaaGreatDoor
