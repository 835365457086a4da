/-
  Trees: what stands at a way's end (found, value); Get.
-/
import Derived.Test.YtakidhihbgfjlaaGreatDoorSxTreA
import Derived.Test.YtakidhihbgfjlaaGreatDoorSxPuG
namespace Go.Proofs.YtakidhihbgfjlaaGreatDoor
open Go.RowKit
set_option maxRecDepth 100000
set_option maxHeartbeats 25600000
theorem Qzi (p v : ByteArray) (a : Addr) (w : World) : (Instr.typeAssert (.iface (ndTy (.leaf p v)) (.pointer (some a))) 56 165 true).run Tryz.prog w = .ok (.tuple #[.pointer (some a), .bool true]) w := by kernel_rfl
theorem Qyr (t : Nd) (ht : ∀ p v, t ≠ .leaf p v) (hn : t ≠ .no) (a : Addr) (w : World) : (Instr.typeAssert (.iface (ndTy t) (.pointer (some a))) 56 165 true).run Tryz.prog w = .ok (.tuple #[.pointer none, .bool false]) w := by
 cases t with
 | no => exact absurd rfl hn
 | leaf p v => exact absurd rfl (ht p v)
 | ext _ _ => kernel_rfl
 | br _ => kernel_rfl
 | stub _ => kernel_rfl
theorem Qvr (w : World) : (Instr.typeAssert .nilIface 56 165 true).run Tryz.prog w = .ok (.tuple #[.pointer none, .bool false]) w := by kernel_rfl
variable {B : Nat} {S : Wood} {w : World} {r : ByteArray}
theorem Qys {e : Nd} {v : Value} (p : Option Addr) (m c : Nat) (hf : Forest B S w) (hv : ndV S v e) (hno : ∀ u, e ≠ .leaf r u) :
  Calls Tryz.prog 83 #[.agg #[.slice p m c, v, .string r]] w fun x w' => x = .returned (.pointer none) /\ Below w.heap.size w w' := by
 rcases hv with ⟨rfl, rfl⟩ | ⟨hne, b, rfl, hb⟩
 ·have d := Qvr
  clear hf hno
  go_enter Tryz.func83, Tryz.ntmps83
  go_upto_region 2 with fail
  go_quiet (fail)
  go_wp2
  go_ret
  exact ⟨rfl, Below.drewN ((Below.refl _ _).alloc (Nat.le_refl _) _) _⟩
 ·by_cases f : ∃ q u, e = .leaf q u
  ·obtain ⟨q, u, rfl⟩ := f
   have a : ¬ q = r := fun h => hno u (by rw [h])
   obtain ⟨j, k⟩ := Qcw hf hb
   have g := hf.lt hb
   have d := Qzi q u
   have l := Qce a
   have i : ¬ b = w.heap.size := by omega
   clear hf hb hno a hne
   rw [show ndTy (.leaf q u) = 165 from rfl] at *
   go_enter Tryz.func83, Tryz.ntmps83
   go_upto_region 2 with fail
   go_quiet (fail)
   go_wp2
   go_ret
   exact ⟨rfl, Below.drewN ((Below.refl _ _).alloc (Nat.le_refl _) _) _⟩
  ·have d := Qyr e (fun q u h => f ⟨q, u, h⟩) hne
   clear hf hno hb f
   go_enter Tryz.func83, Tryz.ntmps83
   go_upto_region 2 with fail
   go_quiet (fail)
   go_wp2
   go_ret
   exact ⟨rfl, Below.drewN ((Below.refl _ _).alloc (Nat.le_refl _) _) _⟩
variable {u : ByteArray}
theorem Qvs {b : Nat} (p : Option Addr) (m c : Nat) (hf : Forest B S w) (hb : S b = some (.leaf r u)) :
  Calls Tryz.prog 83 #[.agg #[.slice p m c, .iface 165 (.pointer (some ⟨b, 0, none⟩)), .string r]] w fun x w' => x = .returned (.pointer (some ⟨b, 0, none⟩)) /\ Below w.heap.size w w' := by
 obtain ⟨f, g⟩ := Qcw hf hb
 have d := hf.lt hb
 have a := Qzi r u
 have e : ¬ b = w.heap.size := by omega
 clear hf hb
 rw [show ndTy (.leaf r u) = 165 from rfl] at a
 go_enter Tryz.func83, Tryz.ntmps83
 go_upto_region 2 with fail
 go_quiet (fail)
 go_wp2
 go_ret
 exact ⟨rfl, Below.drewN ((Below.refl _ _).alloc (Nat.le_refl _) _) _⟩
theorem Qs4 {e : Nd} {v : Value} {o : Option ByteArray} (p : Option Addr) (m c : Nat) (hf : Forest B S w) (hv : ndV S v e) (ho : (o = none /\ ∀ u, e ≠ .leaf r u) \/ ∃ u, o = some u /\ e = .leaf r u) :
  Calls Tryz.prog 61 #[.agg #[.slice p m c, v, .string r]] w fun x w' => x = .returned (.tuple #[.string (o.getD ⟨#[]⟩), .bool o.isSome]) /\ Below w.heap.size w w' := by
 have b : Below w.heap.size w (w.alloc (.cells #[.slice p m c, v, .string r] 112)) := (Below.refl _ _).alloc (Nat.le_refl _) _
 have q := Hq b
 rcases ho with ⟨rfl, hno⟩ | ⟨u, rfl, rfl⟩
 ·have l := Hq (Qys p m c (hf.below b) hv hno)
  have t := hv.shape
  clear hf hv hno b
  rcases t with rfl | ⟨T, a, rfl⟩
  all_goals
   go_enter Tryz.func61, Tryz.ntmps61
   go_wp2_with fail
   refine l.out.mono ?_
   rintro x h ⟨rfl, f⟩
   have k : Hid (Below w.heap.size w h) := q.out.behind' f
   clear f
   go_wp2
   go_ret2
   exact ⟨rfl, k.out⟩
 ·obtain ⟨d, rfl, g⟩ := hv.full (by simp)
  have l := Hq (Qvs p m c (hf.below b) g)
  have j := hf.ok d _ g
  rw [Nd.ok] at j
  have E := hf.lt g
  have z := fun W => Hq (Qds u W (by omega))
  obtain ⟨C, s⟩ := Qcw (hf.below b) g
  have n : d < (w.alloc (.cells #[.slice p m c, .iface (ndTy (.leaf r u)) (.pointer (some ⟨d, 0, none⟩)), .string r] 112)).heap.size := by simp; omega
  clear hf hv g b j
  rw [show ndTy (.leaf r u) = 165 from rfl] at *
  go_enter Tryz.func61, Tryz.ntmps61
  go_wp2_with fail
  refine l.out.mono ?_
  rintro x h ⟨rfl, f⟩
  have k : Hid (Below w.heap.size w h) := q.out.behind' f
  have F : h.cell? ⟨d, 2, none⟩ = some (.string u) := (f.cell (p := ⟨d, 2, none⟩) n).trans s
  clear f C s
  go_wp2_with fail
  refine (z h).out.mono ?_
  rintro x D ⟨rfl, i⟩
  have y : Hid (Below w.heap.size w D) := k.out.behind' i
  clear i
  go_wp2
  go_ret2
  exact ⟨rfl, y.out⟩
theorem Qyt (l : List Nat) (h : ∀ x ∈ l, x < 256) : nib (nibs l) := fun x hx => by
 unfold nibs at hx
 obtain ⟨a, ha, hx⟩ := List.mem_flatMap.1 hx
 have := h a ha
 simp only [List.mem_cons, List.not_mem_nil, or_false] at hx
 rcases hx with rfl | rfl <;> omega
variable {K : Array Nat}
theorem Qeg (hK : K.size = 32) (hb : Bytes K) : bytesOf (textB (nibs K.toList)) = nibs K.toList /\ nib (nibs K.toList) /\ (textB (nibs K.toList)).size = 64 := by
 have b : ∀ x ∈ K.toList, x < 256 := fun x a => by
  obtain ⟨j, d, rfl⟩ := List.getElem_of_mem a
  have := hb j
  rw [getElem!_pos K j (by simpa using d)] at this
  simpa using this
 have c := Qyt K.toList b
 exact ⟨Qa5 fun x a => Nat.lt_trans (c x a) (by omega), c, by rw [Qaa, Qbv]; simp [hK]⟩
theorem QB0 {b : Nat} {t : Nd} (hf : Forest B S w) (ht : TreeAt S w b t) (hc : t.can 64) (hK : K.size = 32) (hKb : Bytes K) (hu0 : 0 < u.size) (hu1 : u.size <= 100) :
  Calls Tryz.prog 18 #[.pointer (some ⟨b, 0, none⟩), .agg (K.toList.map encB).toArray, .string u] w fun x w' => x = .returned (.int .i64 0) /\ ∃ S' t', TreeAt S' w' b t' /\ t'.can 64 /\ (∀ s, s.length = 64 -> t'.get s = if s = nibs K.toList then some u else t.get s) /\ FrX B (· = b) S S' w w' := by
 obtain ⟨d, n, a⟩ := Qeg hK hKb
 obtain ⟨p, m⟩ : ∃ p, textB (nibs K.toList) = p := ⟨_, rfl⟩
 rw [m] at d a
 have f : nib (bytesOf p) := by rw [d]; exact n
 have h : t.can p.size := by rw [a]; exact hc
 obtain ⟨l, e, E, j, D⟩ := Qv0 64 t p (by omega) h
 obtain ⟨q, i⟩ := Nd.can_ok t 64 hc (Nat.le_refl _)
 obtain ⟨g, v, y, z, C⟩ := QAp j u hu0 hu1 h f (by omega)
 refine (Qyq hf ht q hK hKb m (by rw [a]; exact i) f (by omega) j C ⟨z, y⟩ hu0 hu1 (by omega) v).mono ?_
 rintro x w' ⟨rfl, S', o, k⟩
 have c := g.can
 rw [a] at c
 refine ⟨rfl, S', _, o, c, fun s r => ?_, k⟩
 rw [<- d]
 exact g.get s (by rw [a]; exact r)
end Go.Proofs.YtakidhihbgfjlaaGreatDoor
