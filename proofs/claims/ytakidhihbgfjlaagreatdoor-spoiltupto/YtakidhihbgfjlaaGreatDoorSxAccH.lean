/-
  Accounts: Encode of package account.
-/
import Derived.Test.YtakidhihbgfjlaaGreatDoorSxNibG
import Derived.Test.YtakidhihbgfjlaaGreatDoorSxWriG
import Derived.Test.YtakidhihbgfjlaaGreatDoorSxErrG
import Derived.Test.YtakidhihbgfjlaaGreatDoorSxBarG
import Derived.Test.YtakidhihbgfjlaaGreatDoorSxEncG
import Derived.Test.YtakidhihbgfjlaaGreatDoorSxSmaG
import Derived.LaidEql
import Derived.Laws.StructEq
import Derived.MapKept
import Derived.Test.YtakidhihbgfjlaaGreatDoorSxReaG
import Derived.Lib.Strings
import Derived.Laws.ResultCell
namespace Go.Proofs.YtakidhihbgfjlaaGreatDoor
open Go.RowKit
set_option maxRecDepth 100000
set_option maxHeartbeats 25600000
variable {l : List Nat}
theorem Qek {P : Program} (w : World) (src dst e : TypeId) (hs : P.underlying src = some (.slice e)) (he : P.underlying e = some (.int .u8)) (hd : P.underlying dst = some .string) {b o : Nat} (h : w.rangeAt b o (l.map encB)) (m cap : Nat) (hm : m = l.length) :
  (convert src dst (.slice (some ⟨b, o, none⟩) m cap)).run P w = .ok (.string (textB l)) w := by
 subst hm
 rw [run_convert_bytes_string w src dst e _ _ _ hs he hd]
 have a := run_loadCells_list (P := P) w ⟨b, o, none⟩ (l.map encB) (fun j u d => by
  rw [Addr.add_mid]
  exact h j u d)
 rw [List.length_map] at a
 have c : l.map encB = (l.map (fun n : Nat => (n : Int))).map (Value.int .u8) := by rw [List.map_map]; rfl
 rw [c] at a
 rw [run_bytesToString w ⟨b, o, none⟩ l.length cap _ a, Qdu]
 unfold textB
 simp
theorem Qh0 (h : ∀ x ∈ l, x < 256) : bytesOf (textB l) = l := Qa5 h
variable {v : Value}
theorem Own.shape' {w : World} {B : Nat} (h : Own w B v l) : ∃ p k, v = .slice p l.length k := by
 rcases h with ⟨rfl, rfl⟩ | ⟨g, cap, rfl, _⟩ <;> exact ⟨_, _, rfl⟩
theorem Qf1 {W0 w1 w2 : World} {v' : Value} {l' : List Nat} (hb : Below W0.heap.size W0 w1) (hO : Own w1 W0.heap.size v l) (hg : Grew w1 w2 W0.heap.size v v' l') : Below W0.heap.size W0 w2 := hg.below hO hb hb.size
theorem Qav {a b : ByteArray} (h : bytesOf a = bytesOf b) : a = b := by
 unfold bytesOf at h
 have : a.data.toList = b.data.toList := by
  have c : Function.Injective UInt8.toNat := fun x y e => UInt8.toNat_inj.1 e
  exact (List.map_inj_right (fun x y e => c e)).1 h
 exact ByteArray.ext (Array.toList_inj.1 this)
theorem Qf2 {fn : Func} {p u : Tmp} {ty : TypeId} (h : fn.results = #[.cell p ty, .tmp u]) (tmps : Array Value) (P : Program) (w : World) (b o : Nat) (hp : tmps.getD p undef = .pointer (some ⟨b, o, none⟩)) (hv : (loadVar ty ⟨b, o, none⟩).run P w = .ok v w) :
  (results fn tmps).run P w = .ok (.tuple #[v, tmps.getD u undef]) w := by
 rw [results_cell_tmp h, hp]
 simp [asAddr, hv]
end Go.Proofs.YtakidhihbgfjlaaGreatDoor
