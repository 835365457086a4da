/-
  Trees: what stands at a way's end (found, value); Get.
  Trees: the value at a way's end; Get.
  Trees: twigs.Get; Delete; what each call does to the map.
  Trees: Delete.
  Trees: twigs.Delete.
-/
import Derived.Test.YtjiikjpnlgogfaaGreatDoorMqTreA
import Derived.Test.YtjiikjpnlgogfaaGreatDoorMqPuG
namespace Go.Proofs.YtjiikjpnlgogfaaGreatDoor
open Go.RowKit

theorem taLeaf (p v : ByteArray) (a : Addr) (w : World) : (Instr.typeAssert (.iface (ndTy (.leaf p v)) (.pointer (some a))) 106 183 true).run Tryz.prog w = .ok (.tuple #[.pointer (some a), .bool true]) w := by kernel_rfl
theorem taNoLeaf (t : Nd) (ht : ∀ p v, t ≠ .leaf p v) (hn : t ≠ .no) (a : Addr) (w : World) : (Instr.typeAssert (.iface (ndTy t) (.pointer (some a))) 106 183 true).run Tryz.prog w = .ok (.tuple #[.pointer none, .bool false]) w := by
  cases t with
  | no => exact absurd rfl hn
  | leaf p v => exact absurd rfl (ht p v)
  | ext _ _ => kernel_rfl
  | br _ => kernel_rfl
  | stub _ => kernel_rfl
theorem taLeafNil (w : World) : (Instr.typeAssert .nilIface 106 183 true).run Tryz.prog w = .ok (.tuple #[.pointer none, .bool false]) w := by kernel_rfl

set_option maxRecDepth 100000 in
set_option maxHeartbeats 1600000 in
/-- No leaf, or another path's. -/
theorem found_no {B : Nat} {S : Wood} {w : World} {e : Nd} {v : Value} {r : ByteArray} (p : Option Addr) (m c : Nat) (hf : Forest B S w) (hv : ndV S v e) (hno : ∀ u, e ≠ .leaf r u) :
    Calls Tryz.prog 92 #[.agg #[.slice p m c, v, .string r]] w fun x w' => x = .returned (.pointer none) ∧ Below w.heap.size w w' := by
  rcases hv with ⟨rfl, rfl⟩ | ⟨hne, b, rfl, hb⟩
  · have hta := taLeafNil
    clear hf hno
    go_enter Tryz.func92, Tryz.ntmps92
    go_upto_region 2 with fail
    go_quiet (fail)
    go_wp2
    go_ret
    exact ⟨rfl, Below.drewN ((Below.refl _ _).alloc (Nat.le_refl _) _) _⟩
  · by_cases hl : ∃ q u, e = .leaf q u
    · obtain ⟨q, u, rfl⟩ := hl
      have hqr : ¬ q = r := fun h => hno u (by rw [h])
      obtain ⟨c1, c2⟩ := leaf_cells hf hb
      have hbl := hf.lt hb
      have hta := taLeaf q u
      have d2 := toList_ne' hqr
      have hbn : ¬ b = w.heap.size := by omega
      clear hf hb hno hqr hne
      rw [show ndTy (.leaf q u) = 183 from rfl] at *
      go_enter Tryz.func92, Tryz.ntmps92
      go_upto_region 2 with fail
      go_quiet (fail)
      go_wp2
      go_ret
      exact ⟨rfl, Below.drewN ((Below.refl _ _).alloc (Nat.le_refl _) _) _⟩
    · have hta := taNoLeaf e (fun q u h => hl ⟨q, u, h⟩) hne
      clear hf hno hb hl
      go_enter Tryz.func92, Tryz.ntmps92
      go_upto_region 2 with fail
      go_quiet (fail)
      go_wp2
      go_ret
      exact ⟨rfl, Below.drewN ((Below.refl _ _).alloc (Nat.le_refl _) _) _⟩

set_option maxRecDepth 100000 in
set_option maxHeartbeats 1600000 in
theorem found_yes {B : Nat} {S : Wood} {w : World} {b : Nat} {r u : ByteArray} (p : Option Addr) (m c : Nat) (hf : Forest B S w) (hb : S b = some (.leaf r u)) :
    Calls Tryz.prog 92 #[.agg #[.slice p m c, .iface 183 (.pointer (some ⟨b, 0, none⟩)), .string r]] w fun x w' => x = .returned (.pointer (some ⟨b, 0, none⟩)) ∧ Below w.heap.size w w' := by
  obtain ⟨c1, c2⟩ := leaf_cells hf hb
  have hbl := hf.lt hb
  have hta := taLeaf r u
  have hbn : ¬ b = w.heap.size := by omega
  clear hf hb
  rw [show ndTy (.leaf r u) = 183 from rfl] at hta
  go_enter Tryz.func92, Tryz.ntmps92
  go_upto_region 2 with fail
  go_quiet (fail)
  go_wp2
  go_ret
  exact ⟨rfl, Below.drewN ((Below.refl _ _).alloc (Nat.le_refl _) _) _⟩
end Go.Proofs.YtjiikjpnlgogfaaGreatDoor

namespace Go.Proofs.YtjiikjpnlgogfaaGreatDoor
open Go.RowKit

set_option maxRecDepth 100000 in
set_option maxHeartbeats 1600000 in
theorem wvalue_any {B : Nat} {S : Wood} {w : World} {e : Nd} {v : Value} {r : ByteArray} {o : Option ByteArray} (p : Option Addr) (m c : Nat) (hf : Forest B S w) (hv : ndV S v e) (ho : (o = none ∧ ∀ u, e ≠ .leaf r u) ∨ ∃ u, o = some u ∧ e = .leaf r u) :
    Calls Tryz.prog 100 #[.agg #[.slice p m c, v, .string r]] w fun x w' => x = .returned (.tuple #[.string (o.getD ⟨#[]⟩), .bool o.isSome]) ∧ Below w.heap.size w w' := by
  have hb0 : Below w.heap.size w (w.alloc (.cells #[.slice p m c, v, .string r] 165)) := (Below.refl _ _).alloc (Nat.le_refl _) _
  have HB := Hid.hide hb0
  rcases ho with ⟨rfl, hno⟩ | ⟨u, rfl, rfl⟩
  · have HF := Hid.hide (found_no p m c (hf.below hb0) hv hno)
    have hvs := hv.shape
    clear hf hv hno hb0
    rcases hvs with rfl | ⟨T, a, rfl⟩
    all_goals
      go_enter Tryz.func100, Tryz.ntmps100
      go_wp2_with fail
      refine HF.out.mono ?_
      rintro x w1 ⟨rfl, hb1⟩
      have H1 : Hid (Below w.heap.size w w1) := HB.out.behind' hb1
      clear hb1
      go_wp2
      go_ret2
      exact ⟨rfl, H1.out⟩
  · obtain ⟨d, rfl, hd⟩ := hv.full (by simp)
    have HF := Hid.hide (found_yes p m c (hf.below hb0) hd)
    have hok := hf.ok d _ hd
    rw [Nd.ok] at hok
    have hdl := hf.lt hd
    have HC := fun W => Hid.hide (clone_any u W (by omega))
    obtain ⟨c1, c2⟩ := leaf_cells (hf.below hb0) hd
    have hdl2 : d < (w.alloc (.cells #[.slice p m c, .iface (ndTy (.leaf r u)) (.pointer (some ⟨d, 0, none⟩)), .string r] 165)).heap.size := by simp; omega
    clear hf hv hd hb0 hok
    rw [show ndTy (.leaf r u) = 183 from rfl] at *
    go_enter Tryz.func100, Tryz.ntmps100
    go_wp2_with fail
    refine HF.out.mono ?_
    rintro x w1 ⟨rfl, hb1⟩
    have H1 : Hid (Below w.heap.size w w1) := HB.out.behind' hb1
    have d2 : w1.cell? ⟨d, 2, none⟩ = some (.string u) := (hb1.cell (p := ⟨d, 2, none⟩) hdl2).trans c2
    clear hb1 c1 c2
    go_wp2_with fail
    refine (HC w1).out.mono ?_
    rintro x w2 ⟨rfl, hb2⟩
    have H2 : Hid (Below w.heap.size w w2) := H1.out.behind' hb2
    clear hb2
    go_wp2
    go_ret2
    exact ⟨rfl, H2.out⟩

theorem nibs_nib (l : List Nat) (h : ∀ x ∈ l, x < 256) : nib (nibs l) := fun x hx => by
  unfold nibs at hx
  obtain ⟨a, ha, hx⟩ := List.mem_flatMap.1 hx
  have := h a ha
  simp only [List.mem_cons, List.not_mem_nil, or_false] at hx
  rcases hx with rfl | rfl <;> omega
/-- A key's path. -/
theorem key_path {K : Array Nat} (hK : K.size = 32) (hb : Bytes K) : bytesOf (textB (nibs K.toList)) = nibs K.toList ∧ nib (nibs K.toList) ∧ (textB (nibs K.toList)).size = 64 := by
  have hbs : ∀ x ∈ K.toList, x < 256 := fun x hx => by
    obtain ⟨j, hj, rfl⟩ := List.getElem_of_mem hx
    have := hb j
    rw [getElem!_pos K j (by simpa using hj)] at this
    simpa using this
  have hn := nibs_nib K.toList hbs
  exact ⟨bytesOf_textB fun x hx => Nat.lt_trans (hn x hx) (by omega), hn, by rw [textB_size, nibs_length]; simp [hK]⟩

set_option maxRecDepth 100000 in
set_option maxHeartbeats 3200000 in
theorem tget_any {B : Nat} {S : Wood} {w : World} {b : Nat} {t : Nd} {K : Array Nat} (hf : Forest B S w) (ht : TreeAt S w b t) (hc : t.can 64) (hK : K.size = 32) (hKb : Bytes K) {o : Option ByteArray} (ho : t.get (nibs K.toList) = o) :
    Calls Tryz.prog 93 #[.pointer (some ⟨b, 0, none⟩), .agg (K.toList.map encB).toArray] w fun x w' => x = .returned (.tuple #[.string (o.getD ⟨#[]⟩), .bool o.isSome, .nilIface]) ∧ Below w.heap.size w w' := by
  obtain ⟨hp1, hp2, hp3⟩ := key_path hK hKb
  obtain ⟨p, hp⟩ : ∃ p, textB (nibs K.toList) = p := ⟨_, rfl⟩
  rw [hp] at hp1 hp3
  rw [← hp1] at hp2 ho
  obtain ⟨l, e, r', hT, hl⟩ := way_ex 64 t p (by omega) (by rw [hp3]; exact hc)
  obtain ⟨hg, he, hnx, _⟩ := way_get hT (by rw [hp3]; exact hc)
  have hval : (o = none ∧ ∀ u, e ≠ .leaf r' u) ∨ ∃ u, o = some u ∧ e = .leaf r' u := by
    rw [← ho, hg]
    rcases end_get he hnx with h | ⟨u, h1, h2⟩
    · refine .inl ⟨h, fun u hu => ?_⟩
      rw [hu, get_leaf, if_pos rfl] at h
      cases h
    · exact .inr ⟨u, h2, h1⟩
  have hb0 : Below w.heap.size w (w.alloc (.cells (K.toList.map encB).toArray 26)) := (Below.refl _ _).alloc (Nat.le_refl _) _
  have hrow : (w.alloc (.cells (K.toList.map encB).toArray 26)).rangeAt w.heap.size 0 (K.toList.map encB) := fun j u hu => by
    rw [Nat.zero_add, World.cell?_alloc_new]
    simpa using hu
  have hsz : (Tryz.prog.info? 26).map (·.size) = some (K.toList.map encB).length := by rw [size51]; simp [hK]
  obtain ⟨hto, hfit⟩ := Nd.can_ok t 64 hc (Nat.le_refl _)
  have HW := Hid.hide (tway_any (hf.below hb0) (ht.frame (Fr.of_below hf hb0)) hK hKb hp (by rw [hp3]; exact hfit) hp2 (by omega) hT (can_stub he))
  have HF : Hid (Forest B S w ∧ Below w.heap.size w (w.alloc (.cells (K.toList.map encB).toArray 26)) ∧ ((o = none ∧ ∀ u, e ≠ .leaf r' u) ∨ ∃ u, o = some u ∧ e = .leaf r' u)) := ⟨hf, hb0, hval⟩
  obtain ⟨ov, hov⟩ : ∃ ov, o.getD ⟨#[]⟩ = ov := ⟨_, rfl⟩
  obtain ⟨ob, hob⟩ : ∃ ob, o.isSome = ob := ⟨_, rfl⟩
  have HO : Hid (o.getD ⟨#[]⟩ = ov ∧ o.isSome = ob) := ⟨hov, hob⟩
  rw [hov, hob]
  clear hf ht hc hK hKb ho hp1 hp2 hp hp3 hT hl hg he hnx hval hb0 hto hfit hov hob
  go_enter Tryz.func93, Tryz.ntmps93
  go_wp2_with (first | (refine wpList_load_mid rfl 26 _ rfl w.heap.size 0 rfl _ _ hrow Tryz.underlying26 rfl hsz ?_) | (go_at_call 83; refine HW.out.mono ?_; rintro x w2 ⟨hb2, thr, v2, rfl, hF2⟩; obtain ⟨pv, mv, cv, rfl⟩ := hF2.shape; have hvs := hF2.node.shape; have hB2 := HF.out.2.1.behind' hb2; have hB3 : ∀ o, Below w.heap.size w (w2.alloc o) := (fun o => hB2.alloc hB2.size o); have HV : Hid (∀ o', Calls Tryz.prog 100 #[.agg #[.slice pv mv cv, v2, .string r']] (w2.alloc o') fun x w' => x = .returned (.tuple #[.string ov, .bool ob]) ∧ Below (w2.alloc o').heap.size (w2.alloc o') w') := (fun o' => by rw [← HO.out.1, ← HO.out.2]; exact wvalue_any pv mv cv (HF.out.1.below (hB3 o')) hF2.node HF.out.2.2); have HB3 := Hid.hide hB3; clear hb2 hF2 hB2 hB3; rcases hvs with rfl | ⟨T2, a2, rfl⟩) | (go_at_call 100; refine (HV.out _).mono ?_; rintro x w3 ⟨rfl, hb3⟩; have H3 : Hid (Below w.heap.size w w3) := (HB3.out _).behind' hb3; clear hb3))
  all_goals go_ret3
  all_goals exact ⟨rfl, H3.out⟩
end Go.Proofs.YtjiikjpnlgogfaaGreatDoor

namespace Go.Proofs.YtjiikjpnlgogfaaGreatDoor
open Go.RowKit

set_option maxRecDepth 100000 in
set_option maxHeartbeats 3200000 in
theorem xget_any {B : Nat} {S : Wood} {w : World} {b : Nat} {t : Nd} {K : Array Nat} (hf : Forest B S w) (ht : TreeAt S w b t) (hc : t.can 64) (hK : K.size = 32) (hKb : Bytes K) {o : Option ByteArray} (ho : t.get (nibs K.toList) = o) :
    Calls Tryz.prog 55 #[.pointer (some ⟨b, 0, none⟩), .agg (K.toList.map encB).toArray] w fun x w' => x = .returned (.tuple #[.string (o.getD ⟨#[]⟩), .bool o.isSome, .int .i64 0]) ∧ Below w.heap.size w w' := by
  have hbl := ht.lt
  have hsz : (Tryz.prog.info? 26).map (·.size) = some (K.toList.map encB).length := by rw [size51]; simp [hK]
  obtain ⟨W0, hW0⟩ : ∃ W0, w.alloc (.cells (K.toList.map encB).toArray 26) = W0 := ⟨_, rfl⟩
  have hb0 : Below w.heap.size w W0 := by rw [← hW0]; exact (Below.refl _ _).alloc (Nat.le_refl _) _
  have hs0 : w.heap.size < W0.heap.size := by rw [← hW0]; simp
  have hrow : W0.rangeAt w.heap.size 0 (K.toList.map encB) := fun j u hu => by
    rw [← hW0, Nat.zero_add, World.cell?_alloc_new]
    simpa using hu
  have hbd : Below w.heap.size w W0.drew := hb0.drew
  have hfrd := Fr.of_below hf hbd
  have HP := Hid.hide (tget_any hfrd.forest (ht.frame hfrd) hc hK hKb ho)
  have HF := Hid.hide hbd
  have hu26 := Tryz.underlying26
  obtain ⟨ov, hov⟩ : ∃ ov, o.getD ⟨#[]⟩ = ov := ⟨_, rfl⟩
  obtain ⟨ob, hob⟩ : ∃ ob, o.isSome = ob := ⟨_, rfl⟩
  rw [hov, hob] at HP ⊢
  clear hf ht hc hK hKb ho hb0 hbd hfrd hov hob
  go_enter Tryz.func55, Tryz.ntmps55
  go_upto_region 1 with fail
  clear hW0
  go_region_held3 (fun w' => w'.rangeAt w.heap.size 0 (K.toList.map encB)) (first | exact hrow | exact h1 )
    (first | (go_at_call 93; refine HP.out.mono ?_; rintro x w1 ⟨rfl, hb1⟩; have h1 : w1.rangeAt w.heap.size 0 (K.toList.map encB) := rangeAt_block hrow (hb1.block w.heap.size hs0); have HE : Hid (Below w.heap.size w w1) := HF.out.behind' hb1; clear hb1))
  all_goals go_wp2_with (go_at_call 49; refine (errno_nil _).mono ?_; rintro x w2 ⟨rfl, rfl⟩)
  all_goals go_ret3
  all_goals exact ⟨rfl, HE.out⟩

/-- A key, a value: the map then. -/
theorem map_put {B : Nat} {S : Wood} {w : World} {b : Nat} {t : Nd} {K : Array Nat} {u : ByteArray} (hf : Forest B S w) (ht : TreeAt S w b t) (hc : t.can 64) (hK : K.size = 32) (hKb : Bytes K) (hu0 : 0 < u.size) (hu1 : u.size ≤ 100) :
    Calls Tryz.prog 19 #[.pointer (some ⟨b, 0, none⟩), .agg (K.toList.map encB).toArray, .string u] w fun x w' => x = .returned (.int .i64 0) ∧ ∃ S' t', TreeAt S' w' b t' ∧ t'.can 64 ∧ (∀ s, s.length = 64 → t'.get s = if s = nibs K.toList then some u else t.get s) ∧ FrX B (· = b) S S' w w' := by
  obtain ⟨hp1, hp2, hp3⟩ := key_path hK hKb
  obtain ⟨p, hp⟩ : ∃ p, textB (nibs K.toList) = p := ⟨_, rfl⟩
  rw [hp] at hp1 hp3
  have hp2' : nib (bytesOf p) := by rw [hp1]; exact hp2
  have hc' : t.can p.size := by rw [hp3]; exact hc
  obtain ⟨l, e, r', hT, hl⟩ := way_ex 64 t p (by omega) hc'
  obtain ⟨hto, hfit⟩ := Nd.can_ok t 64 hc (Nat.le_refl _)
  obtain ⟨g, ok, q1, q2, q3⟩ := put_all hT u hu0 hu1 hc' hp2' (by omega)
  refine (xput_any hf ht hto hK hKb hp (by rw [hp3]; exact hfit) hp2' (by omega) hT q3 ⟨q2, q1⟩ hu0 hu1 (by omega) ok).mono ?_
  rintro x w' ⟨rfl, S', ht', hf'⟩
  have hcan := g.can
  rw [hp3] at hcan
  refine ⟨rfl, S', _, ht', hcan, fun s hs => ?_, hf'⟩
  rw [← hp1]
  exact g.get s (by rw [hp3]; exact hs)

set_option maxRecDepth 100000 in
set_option maxHeartbeats 3200000 in
theorem tdel_no {B : Nat} {S : Wood} {w : World} {b : Nat} {t : Nd} {K : Array Nat} (hf : Forest B S w) (ht : TreeAt S w b t) (hc : t.can 64) (hK : K.size = 32) (hKb : Bytes K) (ho : t.get (nibs K.toList) = none) :
    Calls Tryz.prog 54 #[.pointer (some ⟨b, 0, none⟩), .agg (K.toList.map encB).toArray] w fun x w' => x = .returned (.tuple #[.bool false, .nilIface]) ∧ Below w.heap.size w w' := by
  obtain ⟨hp1, hp2, hp3⟩ := key_path hK hKb
  obtain ⟨p, hp⟩ : ∃ p, textB (nibs K.toList) = p := ⟨_, rfl⟩
  rw [hp] at hp1 hp3
  rw [← hp1] at hp2 ho
  obtain ⟨l, e, r', hT, hl⟩ := way_ex 64 t p (by omega) (by rw [hp3]; exact hc)
  obtain ⟨hg, he, hnx, _⟩ := way_get hT (by rw [hp3]; exact hc)
  have hno : ∀ u, e ≠ .leaf r' u := fun u hu => by
    rw [hg, hu, get_leaf, if_pos rfl] at ho
    cases ho
  have hb0 : Below w.heap.size w (w.alloc (.cells (K.toList.map encB).toArray 26)) := (Below.refl _ _).alloc (Nat.le_refl _) _
  have hrow : (w.alloc (.cells (K.toList.map encB).toArray 26)).rangeAt w.heap.size 0 (K.toList.map encB) := fun j u hu => by
    rw [Nat.zero_add, World.cell?_alloc_new]
    simpa using hu
  have hsz : (Tryz.prog.info? 26).map (·.size) = some (K.toList.map encB).length := by rw [size51]; simp [hK]
  obtain ⟨hto, hfit⟩ := Nd.can_ok t 64 hc (Nat.le_refl _)
  have HW := Hid.hide (tway_any (hf.below hb0) (ht.frame (Fr.of_below hf hb0)) hK hKb hp (by rw [hp3]; exact hfit) hp2 (by omega) hT (can_stub he))
  have HF : Hid (Forest B S w ∧ Below w.heap.size w (w.alloc (.cells (K.toList.map encB).toArray 26)) ∧ ∀ u, e ≠ .leaf r' u) := ⟨hf, hb0, hno⟩
  clear hf ht hc hK hKb ho hp1 hp2 hp hp3 hT hl hg he hnx hno hb0 hto hfit
  go_enter Tryz.func54, Tryz.ntmps54
  go_wp2_with (first | (refine wpList_load_mid rfl 26 _ rfl w.heap.size 0 rfl _ _ hrow Tryz.underlying26 rfl hsz ?_) | (go_at_call 83; refine HW.out.mono ?_; rintro x w2 ⟨hb2, thr, v2, rfl, hF2⟩; obtain ⟨pv, mv, cv, rfl⟩ := hF2.shape; have hvs := hF2.node.shape; have hB2 := HF.out.2.1.behind' hb2; have hB3 : ∀ o, Below w.heap.size w (w2.alloc o) := (fun o => hB2.alloc hB2.size o); have HV : Hid (∀ o', Calls Tryz.prog 92 #[.agg #[.slice pv mv cv, v2, .string r']] (w2.alloc o') fun x w' => x = .returned (.pointer none) ∧ Below (w2.alloc o').heap.size (w2.alloc o') w') := (fun o' => found_no pv mv cv (HF.out.1.below (hB3 o')) hF2.node HF.out.2.2); have HB3 := Hid.hide hB3; clear hb2 hF2 hB2 hB3; rcases hvs with rfl | ⟨T2, a2, rfl⟩) | (go_at_call 92; refine (HV.out _).mono ?_; rintro x w3 ⟨rfl, hb3⟩; have H3 : Hid (Below w.heap.size w w3) := (HB3.out _).behind' hb3; clear hb3))
  all_goals go_ret2
  all_goals exact ⟨rfl, H3.out⟩
end Go.Proofs.YtjiikjpnlgogfaaGreatDoor

namespace Go.Proofs.YtjiikjpnlgogfaaGreatDoor
open Go.RowKit

/-- Behind found: the way's cells are there; the tree is changed. -/
theorem tdel_pre {B : Nat} {S : Wood} {w w2 w3 : World} {b : Nat} {t e : Nd} {r' : ByteArray} {l : List (Nd × ByteArray)} {pv : Option Addr} {mv cv : Nat} {v : Value} (hf : Forest B S w) (ht : TreeAt S w b t) (hb2 : Below w.heap.size w w2) (hF2 : Followed S w.heap.size w2 l e (.slice pv mv cv) v) (hok : endOK l .no) (hl : l.length ≤ 1000) (hb3 : Below (w2.alloc (.cells #[.slice pv mv cv, v, .string r'] 165)).heap.size (w2.alloc (.cells #[.slice pv mv cv, v, .string r'] 165)) w3) :
    (w3.cell? ⟨w2.heap.size, 0, none⟩ = some (.slice pv mv cv) ∧ w3.cell? ⟨w2.heap.size, 1, none⟩ = some v ∧ w3.cell? ⟨w2.heap.size, 2, none⟩ = some (.string r')) ∧ Calls Tryz.prog 84 #[.pointer (some ⟨b, 0, none⟩), .agg #[.slice pv mv cv, v, .string r'], .nilIface] w3 fun x w' => x = .returned .nilIface ∧ ∃ S', TreeAt S' w' b (endN l .no) ∧ FrX B (· = b) S S' w w' := by
  have hB3 : Below w.heap.size w w3 := (hb2.alloc hb2.size _).behind' hb3
  have hg : w3.heap[w2.heap.size]? = some (.cells #[.slice pv mv cv, v, .string r'] 165 (0, 0)) := (hb3.block _ (by simp)).trans (World.alloc_heap_new w2 _)
  have h23 : Below w2.heap.size w2 w3 := ((Below.refl _ _).alloc (Nat.le_refl _) _).behind' hb3
  have hF3 := hF2.keep h23
  obtain ⟨cs, hO, hTn⟩ := hF3.row
  have hfr := Fr.of_below hf hB3
  refine ⟨rowOf3 hg, (change_any hfr.forest (ht.frame hfr) hO hTn (fun k hk => hf.fresh (hO.block k hk).1) hF3.node.shape (.inl ⟨rfl, rfl⟩) hl hok).mono ?_⟩
  rintro x w4 ⟨rfl, S4, h1, h2⟩
  exact ⟨rfl, S4, h1, (hfr.x _).trans h2⟩

set_option maxRecDepth 100000 in
set_option maxHeartbeats 3200000 in
theorem tdel_yes {B : Nat} {S : Wood} {w : World} {b : Nat} {t : Nd} {K : Array Nat} {u : ByteArray} (hf : Forest B S w) (ht : TreeAt S w b t) (hc : t.can 64) (hK : K.size = 32) (hKb : Bytes K) (ho : t.get (nibs K.toList) = some u) :
    Calls Tryz.prog 54 #[.pointer (some ⟨b, 0, none⟩), .agg (K.toList.map encB).toArray] w fun x w' => x = .returned (.tuple #[.bool true, .nilIface]) ∧ ∃ S' t', TreeAt S' w' b t' ∧ t'.can 64 ∧ (∀ s, s.length = 64 → t'.get s = if s = nibs K.toList then none else t.get s) ∧ FrX B (· = b) S S' w w' := by
  obtain ⟨hp1, hp2, hp3⟩ := key_path hK hKb
  obtain ⟨p, hp⟩ : ∃ p, textB (nibs K.toList) = p := ⟨_, rfl⟩
  rw [hp] at hp1 hp3
  rw [← hp1] at hp2 ho
  have hc' : t.can p.size := by rw [hp3]; exact hc
  obtain ⟨l, e, r', hT, hl⟩ := way_ex 64 t p (by omega) hc'
  obtain ⟨hg, he, hnx, _⟩ := way_get hT hc'
  obtain ⟨v, rfl⟩ : ∃ v, e = .leaf r' v := by
    rcases end_get he hnx with h | ⟨v, h1, _⟩
    · rw [hg, h] at ho; cases ho
    · exact ⟨v, h1⟩
  obtain ⟨gs, eok⟩ := del_all hT v rfl hc' hp2 (by omega)
  have hgc := gs.can
  have hgg := gs.get
  rw [hp3] at hgc hgg
  rw [hp1] at hgg
  have hb0 : Below w.heap.size w (w.alloc (.cells (K.toList.map encB).toArray 26)) := (Below.refl _ _).alloc (Nat.le_refl _) _
  have hrow : (w.alloc (.cells (K.toList.map encB).toArray 26)).rangeAt w.heap.size 0 (K.toList.map encB) := fun j u hu => by
    rw [Nat.zero_add, World.cell?_alloc_new]
    simpa using hu
  have hsz : (Tryz.prog.info? 26).map (·.size) = some (K.toList.map encB).length := by rw [size51]; simp [hK]
  obtain ⟨hto, hfit⟩ := Nd.can_ok t 64 hc (Nat.le_refl _)
  have HW := Hid.hide (tway_any (hf.below hb0) (ht.frame (Fr.of_below hf hb0)) hK hKb hp (by rw [hp3]; exact hfit) hp2 (by omega) hT (can_stub he))
  have HF : Hid (Forest B S w ∧ Below w.heap.size w (w.alloc (.cells (K.toList.map encB).toArray 26)) ∧ TreeAt S w b t ∧ endOK l .no ∧ l.length ≤ 1000) := ⟨hf, hb0, ht, eok, by omega⟩
  have HG : Hid ((endN l .no).can 64 ∧ ∀ s, s.length = 64 → (endN l .no).get s = if s = nibs K.toList then none else t.get s) := ⟨hgc, hgg⟩
  clear hf ht hc hK hKb ho hp1 hp2 hp hp3 hT hl hg he hnx hb0 hto hfit gs eok hgc hgg hc'
  go_enter Tryz.func54, Tryz.ntmps54
  go_wp2_with (first | (refine wpList_load_mid rfl 26 _ rfl w.heap.size 0 rfl _ _ hrow Tryz.underlying26 rfl hsz ?_) | (go_at_call 83; refine HW.out.mono ?_; rintro x w2 ⟨hb2, thr, v2, rfl, hF2⟩; obtain ⟨pv, mv, cv, rfl⟩ := hF2.shape; have hB2 := HF.out.2.1.behind' hb2; obtain ⟨d, rfl, hd⟩ := hF2.node.full (by simp); have HV : Hid (∀ o', Calls Tryz.prog 92 #[.agg #[.slice pv mv cv, .iface (ndTy (.leaf r' v)) (.pointer (some ⟨d, 0, none⟩)), .string r']] (w2.alloc o') fun x w' => x = .returned (.pointer (some ⟨d, 0, none⟩)) ∧ Below (w2.alloc o').heap.size (w2.alloc o') w') := (fun o' => found_yes pv mv cv (HF.out.1.below (hB2.alloc hB2.size o')) hd); have HF2 : Hid (Below w.heap.size w w2 ∧ Followed S w.heap.size w2 l (.leaf r' v) (.slice pv mv cv) (.iface (ndTy (.leaf r' v)) (.pointer (some ⟨d, 0, none⟩)))) := ⟨hB2, hF2.mono (by simp)⟩; clear hb2 hF2 hB2 hd; rw [show ndTy (.leaf r' v) = 183 from rfl] at *) | (go_at_call 92; refine (HV.out _).mono ?_; rintro x w3 ⟨rfl, hb3⟩; obtain ⟨⟨e0, e1, e2⟩, hch⟩ := tdel_pre HF.out.1 HF.out.2.2.1 HF2.out.1 HF2.out.2 HF.out.2.2.2.1 HF.out.2.2.2.2 hb3; have HCh := Hid.hide hch; clear hb3 hch) | (go_at_call 84; refine HCh.out.mono ?_; rintro x w4 ⟨rfl, S4, ht4, hf4⟩; have HE : Hid (TreeAt S4 w4 b (endN l .no) ∧ FrX B (· = b) S S4 w w4) := ⟨ht4, hf4⟩; clear ht4 hf4))
  all_goals go_ret2
  all_goals exact ⟨rfl, S4, _, HE.out.1, HG.out.1, HG.out.2, HE.out.2⟩
end Go.Proofs.YtjiikjpnlgogfaaGreatDoor

namespace Go.Proofs.YtjiikjpnlgogfaaGreatDoor
open Go.RowKit

set_option maxRecDepth 100000 in
set_option maxHeartbeats 3200000 in
theorem map_del {B : Nat} {S : Wood} {w : World} {b : Nat} {t : Nd} {K : Array Nat} (hf : Forest B S w) (ht : TreeAt S w b t) (hc : t.can 64) (hK : K.size = 32) (hKb : Bytes K) {o : Option ByteArray} (ho : t.get (nibs K.toList) = o) :
    Calls Tryz.prog 26 #[.pointer (some ⟨b, 0, none⟩), .agg (K.toList.map encB).toArray] w fun x w' => x = .returned (.tuple #[.bool o.isSome, .int .i64 0]) ∧ ∃ S' t', TreeAt S' w' b t' ∧ t'.can 64 ∧ (∀ s, s.length = 64 → t'.get s = if s = nibs K.toList then none else t.get s) ∧ FrX B (· = b) S S' w w' := by
  have hbl := ht.lt
  have hsz : (Tryz.prog.info? 26).map (·.size) = some (K.toList.map encB).length := by rw [size51]; simp [hK]
  obtain ⟨W0, hW0⟩ : ∃ W0, w.alloc (.cells (K.toList.map encB).toArray 26) = W0 := ⟨_, rfl⟩
  have hb0 : Below w.heap.size w W0 := by rw [← hW0]; exact (Below.refl _ _).alloc (Nat.le_refl _) _
  have hs0 : w.heap.size < W0.heap.size := by rw [← hW0]; simp
  have hrow : W0.rangeAt w.heap.size 0 (K.toList.map encB) := fun j u hu => by
    rw [← hW0, Nat.zero_add, World.cell?_alloc_new]
    simpa using hu
  have hbd : Below w.heap.size w W0.drew := hb0.drew
  have hfrd := Fr.of_below hf hbd
  obtain ⟨ob, hob⟩ : ∃ ob, o.isSome = ob := ⟨_, rfl⟩
  have HP : Hid (Calls Tryz.prog 54 #[.pointer (some ⟨b, 0, none⟩), .agg (K.toList.map encB).toArray] W0.drew fun x w' => x = .returned (.tuple #[.bool ob, .nilIface]) ∧ ∃ S' t', TreeAt S' w' b t' ∧ t'.can 64 ∧ (∀ s, s.length = 64 → t'.get s = if s = nibs K.toList then none else t.get s) ∧ FrX B (· = b) S S' W0.drew w') := by
    rw [← hob]
    cases o with
    | some u => exact tdel_yes hfrd.forest (ht.frame hfrd) hc hK hKb ho
    | none =>
      refine (tdel_no hfrd.forest (ht.frame hfrd) hc hK hKb ho).mono ?_
      rintro x w1 ⟨rfl, hb1⟩
      refine ⟨rfl, S, t, (ht.frame hfrd).frame (Fr.of_below hfrd.forest hb1), hc, fun s _ => ?_, (Fr.of_below hfrd.forest hb1).x _⟩
      by_cases h : s = nibs K.toList
      · rw [if_pos h, h, ho]
      · rw [if_neg h]
  have HF : Hid (Fr B S S w W0.drew ∧ S w.heap.size = none) := ⟨hfrd, hf.fresh (Nat.le_refl _)⟩
  have hu26 := Tryz.underlying26
  rw [hob]
  clear hf ht hc hK hKb ho hb0 hbd hfrd hob
  go_enter Tryz.func26, Tryz.ntmps26
  go_upto_region 1 with fail
  clear hW0
  go_region_held3 (fun w' => w'.rangeAt w.heap.size 0 (K.toList.map encB)) (first | exact hrow | exact h1 )
    (first | (go_at_call 54; refine HP.out.mono ?_; rintro x w1 ⟨rfl, S1, t1, ht1, hc1, hg1, hf1⟩; have h1 : w1.rangeAt w.heap.size 0 (K.toList.map encB) := rangeAt_block hrow (hf1.other w.heap.size hs0 HF.out.2 (by show ¬ w.heap.size = b; omega)); have HE : Hid (TreeAt S1 w1 b t1 ∧ t1.can 64 ∧ (∀ s, s.length = 64 → t1.get s = if s = nibs K.toList then none else t.get s) ∧ FrX B (· = b) S S1 w w1) := ⟨ht1, hc1, hg1, (HF.out.1.x _).trans hf1⟩; clear ht1 hc1 hg1 hf1))
  all_goals go_wp2_with (go_at_call 49; refine (errno_nil _).mono ?_; rintro x w2 ⟨rfl, rfl⟩)
  all_goals go_ret2
  all_goals exact ⟨rfl, S1, t1, HE.out⟩
end Go.Proofs.YtjiikjpnlgogfaaGreatDoor
