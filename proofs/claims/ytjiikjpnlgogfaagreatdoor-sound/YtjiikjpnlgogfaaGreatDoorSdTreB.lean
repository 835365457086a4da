/-
  Trees: what stands at a way's end (found, value); Get.
  Trees: the value at a way's end; Get.
  Trees: twigs.Get; Delete; what each call does to the map.
  Trees: Delete.
  Trees: twigs.Delete.
-/
import Derived.Test.YtjiikjpnlgogfaaGreatDoorSdTreA
import Derived.Test.YtjiikjpnlgogfaaGreatDoorSdPuG
namespace Go.Proofs.YtjiikjpnlgogfaaGreatDoor
open Go.RowKit
theorem taLeaf (p v : ByteArray) (a : Addr) (w : World) : (Instr.typeAssert (.iface (ndTy (.leaf p v)) (.pointer (some a))) 106 183 true).run Tryz.prog w = .ok (.tuple #[.pointer (some a), .bool true]) w := by kernel_rfl
theorem taNoLeaf (t : Nd) (ht : ∀ p v, t ≠ .leaf p v) (hn : t ≠ .no) (a : Addr) (w : World) : (Instr.typeAssert (.iface (ndTy t) (.pointer (some a))) 106 183 true).run Tryz.prog w = .ok (.tuple #[.pointer none, .bool false]) w := by
 cases t with
 | no => exact absurd rfl hn
 | leaf p v => exact absurd rfl (ht p v)
 | ext _ _ => kernel_rfl
 | br _ => kernel_rfl
 | stub _ => kernel_rfl
theorem taLeafNil (w : World) : (Instr.typeAssert .nilIface 106 183 true).run Tryz.prog w = .ok (.tuple #[.pointer none, .bool false]) w := by kernel_rfl
set_option maxRecDepth 100000 in
set_option maxHeartbeats 1600000 in
theorem found_no {B : Nat} {S : Wood} {w : World} {e : Nd} {v : Value} {r : ByteArray} (p : Option Addr) (m c : Nat) (hf : Forest B S w) (hv : ndV S v e) (hno : ∀ u, e ≠ .leaf r u) :
  Calls Tryz.prog 92 #[.agg #[.slice p m c, v, .string r]] w fun x w' => x = .returned (.pointer none) ∧ Below w.heap.size w w' := by
 rcases hv with ⟨rfl, rfl⟩ | ⟨hne, b, rfl, hb⟩
 ·have hta := taLeafNil
  clear hf hno
  go_enter Tryz.func92, Tryz.ntmps92
  go_upto_region 2 with fail
  go_quiet (fail)
  go_wp2
  go_ret
  exact ⟨rfl, Below.drewN ((Below.refl _ _).alloc (Nat.le_refl _) _) _⟩
 ·by_cases hl : ∃ q u, e = .leaf q u
  ·obtain ⟨q, u, rfl⟩ := hl
   have hqr : ¬ q = r := fun h => hno u (by rw [h])
   obtain ⟨c1, c2⟩ := leaf_cells hf hb
   have hbl := hf.lt hb
   have hta := taLeaf q u
   have d2 := toList_ne' hqr
   have hbn : ¬ b = w.heap.size := by omega
   clear hf hb hno hqr hne
   rw [show ndTy (.leaf q u) = 183 from rfl] at *
   go_enter Tryz.func92, Tryz.ntmps92
   go_upto_region 2 with fail
   go_quiet (fail)
   go_wp2
   go_ret
   exact ⟨rfl, Below.drewN ((Below.refl _ _).alloc (Nat.le_refl _) _) _⟩
  ·have hta := taNoLeaf e (fun q u h => hl ⟨q, u, h⟩) hne
   clear hf hno hb hl
   go_enter Tryz.func92, Tryz.ntmps92
   go_upto_region 2 with fail
   go_quiet (fail)
   go_wp2
   go_ret
   exact ⟨rfl, Below.drewN ((Below.refl _ _).alloc (Nat.le_refl _) _) _⟩
set_option maxRecDepth 100000 in
set_option maxHeartbeats 1600000 in
theorem found_yes {B : Nat} {S : Wood} {w : World} {b : Nat} {r u : ByteArray} (p : Option Addr) (m c : Nat) (hf : Forest B S w) (hb : S b = some (.leaf r u)) :
  Calls Tryz.prog 92 #[.agg #[.slice p m c, .iface 183 (.pointer (some ⟨b, 0, none⟩)), .string r]] w fun x w' => x = .returned (.pointer (some ⟨b, 0, none⟩)) ∧ Below w.heap.size w w' := by
 obtain ⟨c1, c2⟩ := leaf_cells hf hb
 have hbl := hf.lt hb
 have hta := taLeaf r u
 have hbn : ¬ b = w.heap.size := by omega
 clear hf hb
 rw [show ndTy (.leaf r u) = 183 from rfl] at hta
 go_enter Tryz.func92, Tryz.ntmps92
 go_upto_region 2 with fail
 go_quiet (fail)
 go_wp2
 go_ret
 exact ⟨rfl, Below.drewN ((Below.refl _ _).alloc (Nat.le_refl _) _) _⟩
end Go.Proofs.YtjiikjpnlgogfaaGreatDoor
namespace Go.Proofs.YtjiikjpnlgogfaaGreatDoor
open Go.RowKit
set_option maxRecDepth 100000 in
set_option maxHeartbeats 1600000 in
theorem wvalue_any {B : Nat} {S : Wood} {w : World} {e : Nd} {v : Value} {r : ByteArray} {o : Option ByteArray} (p : Option Addr) (m c : Nat) (hf : Forest B S w) (hv : ndV S v e) (ho : (o = none ∧ ∀ u, e ≠ .leaf r u) ∨ ∃ u, o = some u ∧ e = .leaf r u) :
  Calls Tryz.prog 100 #[.agg #[.slice p m c, v, .string r]] w fun x w' => x = .returned (.tuple #[.string (o.getD ⟨#[]⟩), .bool o.isSome]) ∧ Below w.heap.size w w' := by
 have hb0 : Below w.heap.size w (w.alloc (.cells #[.slice p m c, v, .string r] 165)) := (Below.refl _ _).alloc (Nat.le_refl _) _
 have HB := Hid.hide hb0
 rcases ho with ⟨rfl, hno⟩ | ⟨u, rfl, rfl⟩
 ·have HF := Hid.hide (found_no p m c (hf.below hb0) hv hno)
  have hvs := hv.shape
  clear hf hv hno hb0
  rcases hvs with rfl | ⟨T, a, rfl⟩
  all_goals
   go_enter Tryz.func100, Tryz.ntmps100
   go_wp2_with fail
   refine HF.out.mono ?_
   rintro x w1 ⟨rfl, hb1⟩
   have H1 : Hid (Below w.heap.size w w1) := HB.out.behind' hb1
   clear hb1
   go_wp2
   go_ret2
   exact ⟨rfl, H1.out⟩
 ·obtain ⟨d, rfl, hd⟩ := hv.full (by simp)
  have HF := Hid.hide (found_yes p m c (hf.below hb0) hd)
  have hok := hf.ok d _ hd
  rw [Nd.ok] at hok
  have hdl := hf.lt hd
  have HC := fun W => Hid.hide (clone_any u W (by omega))
  obtain ⟨c1, c2⟩ := leaf_cells (hf.below hb0) hd
  have hdl2 : d < (w.alloc (.cells #[.slice p m c, .iface (ndTy (.leaf r u)) (.pointer (some ⟨d, 0, none⟩)), .string r] 165)).heap.size := by simp; omega
  clear hf hv hd hb0 hok
  rw [show ndTy (.leaf r u) = 183 from rfl] at *
  go_enter Tryz.func100, Tryz.ntmps100
  go_wp2_with fail
  refine HF.out.mono ?_
  rintro x w1 ⟨rfl, hb1⟩
  have H1 : Hid (Below w.heap.size w w1) := HB.out.behind' hb1
  have d2 : w1.cell? ⟨d, 2, none⟩ = some (.string u) := (hb1.cell (p := ⟨d, 2, none⟩) hdl2).trans c2
  clear hb1 c1 c2
  go_wp2_with fail
  refine (HC w1).out.mono ?_
  rintro x w2 ⟨rfl, hb2⟩
  have H2 : Hid (Below w.heap.size w w2) := H1.out.behind' hb2
  clear hb2
  go_wp2
  go_ret2
  exact ⟨rfl, H2.out⟩
theorem nibs_nib (l : List Nat) (h : ∀ x ∈ l, x < 256) : nib (nibs l) := fun x hx => by
 unfold nibs at hx
 obtain ⟨a, ha, hx⟩ := List.mem_flatMap.1 hx
 have := h a ha
 simp only [List.mem_cons, List.not_mem_nil, or_false] at hx
 rcases hx with rfl | rfl <;> omega
theorem key_path {K : Array Nat} (hK : K.size = 32) (hb : Bytes K) : bytesOf (textB (nibs K.toList)) = nibs K.toList ∧ nib (nibs K.toList) ∧ (textB (nibs K.toList)).size = 64 := by
 have hbs : ∀ x ∈ K.toList, x < 256 := fun x hx => by
  obtain ⟨j, hj, rfl⟩ := List.getElem_of_mem hx
  have := hb j
  rw [getElem!_pos K j (by simpa using hj)] at this
  simpa using this
 have hn := nibs_nib K.toList hbs
 exact ⟨bytesOf_textB fun x hx => Nat.lt_trans (hn x hx) (by omega), hn, by rw [textB_size, nibs_length]; simp [hK]⟩
end Go.Proofs.YtjiikjpnlgogfaaGreatDoor
namespace Go.Proofs.YtjiikjpnlgogfaaGreatDoor
open Go.RowKit
theorem map_put {B : Nat} {S : Wood} {w : World} {b : Nat} {t : Nd} {K : Array Nat} {u : ByteArray} (hf : Forest B S w) (ht : TreeAt S w b t) (hc : t.can 64) (hK : K.size = 32) (hKb : Bytes K) (hu0 : 0 < u.size) (hu1 : u.size ≤ 100) :
  Calls Tryz.prog 19 #[.pointer (some ⟨b, 0, none⟩), .agg (K.toList.map encB).toArray, .string u] w fun x w' => x = .returned (.int .i64 0) ∧ ∃ S' t', TreeAt S' w' b t' ∧ t'.can 64 ∧ (∀ s, s.length = 64 → t'.get s = if s = nibs K.toList then some u else t.get s) ∧ FrX B (· = b) S S' w w' := by
 obtain ⟨hp1, hp2, hp3⟩ := key_path hK hKb
 obtain ⟨p, hp⟩ : ∃ p, textB (nibs K.toList) = p := ⟨_, rfl⟩
 rw [hp] at hp1 hp3
 have hp2' : nib (bytesOf p) := by rw [hp1]; exact hp2
 have hc' : t.can p.size := by rw [hp3]; exact hc
 obtain ⟨l, e, r', hT, hl⟩ := way_ex 64 t p (by omega) hc'
 obtain ⟨hto, hfit⟩ := Nd.can_ok t 64 hc (Nat.le_refl _)
 obtain ⟨g, ok, q1, q2, q3⟩ := put_all hT u hu0 hu1 hc' hp2' (by omega)
 refine (xput_any hf ht hto hK hKb hp (by rw [hp3]; exact hfit) hp2' (by omega) hT q3 ⟨q2, q1⟩ hu0 hu1 (by omega) ok).mono ?_
 rintro x w' ⟨rfl, S', ht', hf'⟩
 have hcan := g.can
 rw [hp3] at hcan
 refine ⟨rfl, S', _, ht', hcan, fun s hs => ?_, hf'⟩
 rw [← hp1]
 exact g.get s (by rw [hp3]; exact hs)
end Go.Proofs.YtjiikjpnlgogfaaGreatDoor
namespace Go.Proofs.YtjiikjpnlgogfaaGreatDoor
open Go.RowKit
end Go.Proofs.YtjiikjpnlgogfaaGreatDoor
namespace Go.Proofs.YtjiikjpnlgogfaaGreatDoor
open Go.RowKit
end Go.Proofs.YtjiikjpnlgogfaaGreatDoor
