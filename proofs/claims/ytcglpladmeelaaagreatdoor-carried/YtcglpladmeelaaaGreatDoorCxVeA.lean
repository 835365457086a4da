/-
  Proofs, pure: the node that an item is the code of (rdF); the way through the nodes of a proof (verF).
  Reading nodes: the small functions of package tree (isEmpty, isReference, isValue, noNode, hide).
-/
import Derived.Test.YtcglpladmeelaaaGreatDoorCxPuG
import Derived.Test.YtcglpladmeelaaaGreatDoorCxAuG
import Derived.Test.YtcglpladmeelaaaGreatDoorCxFull
import Derived.Test.YtcglpladmeelaaaGreatDoorCxNodB
import Derived.Test.YtcglpladmeelaaaGreatDoorCxNibG
import Derived.Test.YtcglpladmeelaaaGreatDoorCxSmaG
namespace Go.Proofs.YtcglpladmeelaaaGreatDoor
open Go.RowKit
set_option maxRecDepth 100000
set_option maxHeartbeats 25600000
theorem isNo_false {t : Nd} (h : t ≠ .no) : t.isNo = false := by
 cases hn : t.isNo with
 | false => rfl
 | true => exact absurd (Nd.isNo_iff.1 hn) h
theorem no_text (s : ByteArray) (h : s.size = 0) : s.toList.isEmpty = true := by
 rw [Lib.toList_data]
 have : s.data.toList.length = s.size := by simp
 have e : s.data.toList = [] := List.eq_nil_of_length_eq_zero (by omega)
 rw [e]
 rfl
theorem hide_any (l : List Nat) (hl : l.length = 32) (hb : ∀ x ∈ l, x < 256) (w : World) :
  Calls Tryz.prog 66 #[.agg (l.map encB).toArray] w fun e w' => ∃ b, e = .returned (.pointer (some ⟨b, 0, none⟩)) /\ w.heap.size <= b /\ Below w.heap.size w w' /\ w'.heap[b]? = some (.cells [.string (textB (textCode l))].toArray 207 (0, 0)) := by
 have d := Hid.hide (fun W => refby_any l hl hb W)
 obtain ⟨A, g⟩ : ∃ A, (l.map encB).toArray = A := ⟨_, rfl⟩
 have i : (w.alloc (.cells A 38)).rangeAt w.heap.size 0 (l.map encB) := fun j v k => by
  rw [Nat.zero_add, World.cell?_alloc_new, <- g]
  simpa using k
 have m : (Tryz.prog.info? 38).map (·.size) = some (l.map encB).length := by rw [List.length_map, hl]; kernel_rfl
 obtain ⟨R, h⟩ : ∃ R, textB (textCode l) = R := ⟨_, rfl⟩
 rw [h] at d ⊢
 rw [g] at d ⊢
 clear hl hb
 go_enter Tryz.func66, Tryz.ntmps66
 go_wp2_with (first | (refine wpList_load_mid rfl 38 _ rfl w.heap.size 0 rfl (l.map encB) _ i Tryz.underlying38 rfl m ?_) | (go_at_call 81; refine (d.out _).mono ?_; rintro e f ⟨rfl, a⟩; have c : Hid (Below w.heap.size w f) := Below.up a; clear a))
 go_ret
 refine ⟨_, rfl, c.out.size, c.out.alloc c.out.size _, ?_⟩
 show (f.heap.push _)[f.heap.size]? = some _
 exact Array.getElem?_push_size
end Go.Proofs.YtcglpladmeelaaaGreatDoor
