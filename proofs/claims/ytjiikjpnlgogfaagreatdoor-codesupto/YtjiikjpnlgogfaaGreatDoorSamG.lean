/-
  twigslaw: sameItem, of two that are the same.
  Package twigsref: depth, code, Encode, of whatever item.
-/
import Derived.Test.YtjiikjpnlgogfaaGreatDoorRawG
import Derived.Test.YtjiikjpnlgogfaaGreatDoorSteady
import Derived.Test.YtjiikjpnlgogfaaGreatDoorWriG
import Derived.Test.YtjiikjpnlgogfaaGreatDoorDeeG
import Derived.Test.YtjiikjpnlgogfaaGreatDoorRefG
namespace Go.Proofs.YtjiikjpnlgogfaaGreatDoor
open Go.RowKit

/-- What a call answers that only looks. -/
def TrueSaid (W : World) (e : Ending) (w' : World) : Prop := e = .returned (.bool true) ∧ Below W.heap.size W w'

set_option maxRecDepth 100000 in
set_option maxHeartbeats 3200000 in
theorem same_body (l : Bool) (tx : ByteArray) (p p2 : Option Addr) (m c c2 : Nat) (ps qs : List (El × Raw)) (w : World) (hm2 : m ≤ 1048576) (hrow : RowOff w (.slice p m c) ps.length (ps.flatMap fun q => encI q.1)) (hrow2 : RowOff w (.slice p2 m c2) qs.length (qs.flatMap fun q => encI q.1))
    (hsub : ∀ q ∈ ps, ∃ p m c, q.1.sub = .slice p m c) (hsub2 : ∀ q ∈ qs, ∃ p m c, q.1.sub = .slice p m c)
    (hN : ∀ k (h1 : k < ps.length) (h2 : k < qs.length), ∀ W, Below w.heap.size w W → Calls Tryz.prog 115 #[valI ps[k].1, valI qs[k].1] W (TrueSaid W)) :
    Calls Tryz.prog 115 #[.agg #[.bool l, .string tx, .slice p m c], .agg #[.bool l, .string tx, .slice p2 m c2]] w (TrueSaid w) := by
  have HN := Hid.hide hN
  have HR := Hid.hide hrow
  have HR2 := Hid.hide hrow2
  have HS := Hid.hide hsub
  have HS2 := Hid.hide hsub2
  have HM : Hid (m = ps.length ∧ m = qs.length ∧ m ≤ 1048576) := ⟨hrow.len, hrow2.len, hm2⟩
  clear hN hrow hrow2 hsub hsub2 hm2
  go_enter Tryz.func115, Tryz.ntmps115
  go_wp2
  go_loopg [5] m (fun gh i wr => ∃ k, k ≤ m ∧ gh = m - k ∧ i = .int .i64 (k : Int) ∧ Below w.heap.size w wr ∧ w.heap.size + 1 < wr.heap.size ∧ wr.cell? ⟨w.heap.size, 2, none⟩ = some (.slice p m c) ∧ wr.cell? ⟨w.heap.size + 1, 2, none⟩ = some (.slice p2 m c2))
  case atStart => exact ⟨0, Nat.zero_le _, rfl, rfl, ((Below.refl _ _).alloc (Nat.le_refl _) _).alloc (by simp) _, by simp, by simp, by simp⟩
  case round =>
    obtain ⟨k, hk, rfl, rfl, hB, hslt, s1, s2⟩ := hrel
    have hs0 : w.heap.size < wr.heap.size := by omega
    by_cases hlt : k < m
    · have hki : (k : Int) < (m : Int) := by omega
      have hkp : k < ps.length := by have := HM.out; omega
      have hkq : k < qs.length := by have := HM.out; omega
      obtain ⟨g1, o1, rfl, -, hcells⟩ := RowOff.cells (size := 3) (fun _ => rfl) HR.out (by omega)
      obtain ⟨g2, o2, rfl, -, hcells2⟩ := RowOff.cells (size := 3) (fun _ => rfl) HR2.out (by omega)
      obtain ⟨q1, hq1⟩ : ∃ q, ps[k] = q := ⟨_, rfl⟩
      obtain ⟨q2, hq2⟩ : ∃ q, qs[k] = q := ⟨_, rfl⟩
      have hr1 := hcells k hkp
      have hr2 := hcells2 k hkq
      have hcall := HN.out k hkp hkq
      have hm1 := List.getElem_mem hkp
      have hm2 := List.getElem_mem hkq
      rw [hq1] at hr1 hcall hm1
      rw [hq2] at hr2 hcall hm2
      obtain ⟨⟨fr1, en1, l1, tx1, sub1⟩, x1⟩ := q1
      obtain ⟨⟨fr2, en2, l2, tx2, sub2⟩, x2⟩ := q2
      obtain ⟨p1, m1, c1, hs1⟩ := HS.out _ hm1
      obtain ⟨p3, m3, c3, hs2⟩ := HS2.out _ hm2
      simp only at hs1 hs2
      subst hs1 hs2
      have hg1 : g1 < wr.heap.size := Nat.lt_of_lt_of_le (World.block_lt_of_cell? w _ (hr1 0 _ rfl)) hB.size
      have hg2 : g2 < wr.heap.size := Nat.lt_of_lt_of_le (World.block_lt_of_cell? w _ (hr2 0 _ rfl)) hB.size
      have R1 : Hid (wr.rangeAt g1 (o1 + k * 3) (encI ⟨0, 0, l1, tx1, .slice p1 m1 c1⟩)) := range_below hr1 (hB.block g1 (World.block_lt_of_cell? w _ (hr1 0 _ rfl)))
      have R2 : Hid (wr.rangeAt g2 (o2 + k * 3) (encI ⟨0, 0, l2, tx2, .slice p3 m3 c3⟩)) := range_below hr2 (hB.block g2 (World.block_lt_of_cell? w _ (hr2 0 _ rfl)))
      have HC : Hid (∀ W, Below wr.heap.size wr W → Calls Tryz.prog 115 #[.agg #[.bool l1, .string tx1, .slice p1 m1 c1], .agg #[.bool l2, .string tx2, .slice p3 m3 c3]] W (TrueSaid W)) := fun W hW => hcall W (Below.behind hB hW)
      have A1 : Aside (Below w.heap.size w wr) := hB
      clear hcells hcells2 hr1 hr2 hcall hm1 hm2 hq1 hq2 hB
      go_wp2_with fail
      refine wp_region_any (by kernel_rfl) ?_
      change wpAny _ _ _ _ _ _ _ (World.drew _)
      obtain ⟨f, hf⟩ : ∃ f : Nat → Value, f = fun i => ([.pointer (some ⟨w.heap.size, 2, none⟩), .slice (some ⟨g1, o1, none⟩) m c, .int .i64 (k : Int), .pointer (some ⟨g1, o1 + k * 3, none⟩), valI ⟨0, 0, l1, tx1, .slice p1 m1 c1⟩, .pointer (some ⟨w.heap.size + 1, 2, none⟩), .slice (some ⟨g2, o2, none⟩) m c2, .int .i64 (k : Int), .pointer (some ⟨g2, o2 + k * 3, none⟩), valI ⟨0, 0, l2, tx2, .slice p3 m3 c3⟩, .bool true, .bool true] : List Value).getD i undef := ⟨_, rfl⟩
      refine wpAny_all_steady _ _ f (fun W => Below wr.heap.size wr W) (by kernel_rfl) (by kernel_rfl) ?_ _ ?_ rfl ?_
      · intro i o ho listed b W hsat hdeps hS
        have hi : i < 12 := (Array.getElem?_eq_some_iff.1 ho).1
        match i, hi with
        | 0, _ =>
          obtain rfl := Option.some.inj ho
          have hv : f 0 = .pointer (some ⟨w.heap.size, 2, none⟩) := by rw [hf]; rfl
          have t2 : b.tmps[2]? = some (.pointer (some ⟨w.heap.size, 0, none⟩)) := (hsat.rest 2 (fun i _ => noDst_of (by kernel_rfl) i)).trans rfl
          rw [hv]
          clear ho hf hdeps hsat
          go_simp
        | 1, _ =>
          obtain rfl := Option.some.inj ho
          have hv : f 1 = .slice (some ⟨g1, o1, none⟩) m c := by rw [hf]; rfl
          have v0 : f 0 = .pointer (some ⟨w.heap.size, 2, none⟩) := by rw [hf]; rfl
          have t35 : b.tmps[35]? = some (.pointer (some ⟨w.heap.size, 2, none⟩)) := (hsat.done 0 35 (hdeps ⟨0, .data⟩ (by simp) rfl) rfl (by simp)).trans (congrArg some v0)
          rw [hv]
          clear ho hf hdeps hsat
          have c0 := (hS.cell (p := ⟨w.heap.size, 2, none⟩) hs0).trans s1
          go_simp
        | 2, _ =>
          obtain rfl := Option.some.inj ho
          have hv : f 2 = .int .i64 (k : Int) := by rw [hf]; rfl
          have t5 : b.tmps[5]? = some (.int .i64 (k : Int)) := (hsat.rest 5 (fun i _ => noDst_of (by kernel_rfl) i)).trans rfl
          rw [hv]
          clear ho hf hdeps hsat
          go_simp
        | 3, _ =>
          obtain rfl := Option.some.inj ho
          have hv : f 3 = .pointer (some ⟨g1, o1 + k * 3, none⟩) := by rw [hf]; rfl
          have v1 : f 1 = .slice (some ⟨g1, o1, none⟩) m c := by rw [hf]; rfl
          have t36 : b.tmps[36]? = some (.slice (some ⟨g1, o1, none⟩) m c) := (hsat.done 1 36 (hdeps ⟨1, .data⟩ (by simp) rfl) rfl (by simp)).trans (congrArg some v1)
          have v2 : f 2 = .int .i64 (k : Int) := by rw [hf]; rfl
          have t37 : b.tmps[37]? = some (.int .i64 (k : Int)) := (hsat.done 2 37 (hdeps ⟨2, .data⟩ (by simp) rfl) rfl (by simp)).trans (congrArg some v2)
          rw [hv]
          clear ho hf hdeps hsat
          go_simp
        | 4, _ =>
          obtain rfl := Option.some.inj ho
          have hv : f 4 = valI ⟨0, 0, l1, tx1, .slice p1 m1 c1⟩ := by rw [hf]; rfl
          have v3 : f 3 = .pointer (some ⟨g1, o1 + k * 3, none⟩) := by rw [hf]; rfl
          have t38 : b.tmps[38]? = some (.pointer (some ⟨g1, o1 + k * 3, none⟩)) := (hsat.done 3 38 (hdeps ⟨3, .data⟩ (by simp) rfl) rfl (by simp)).trans (congrArg some v3)
          rw [hv]
          clear ho hf hdeps hsat
          refine wp_load_mid 45 (.tmp 38) rfl g1 (o1 + k * 3) (by simp only [Act.eval, Array.getD_eq_getD_getElem?, t38, Option.getD_some]) (encI ⟨0, 0, l1, tx1, .slice p1 m1 c1⟩) _ (range_below R1.out (hS.block g1 hg1)) Tryz.underlying45 rfl itemSize ?_
          exact ⟨rfl, hS⟩
        | 5, _ =>
          obtain rfl := Option.some.inj ho
          have hv : f 5 = .pointer (some ⟨w.heap.size + 1, 2, none⟩) := by rw [hf]; rfl
          have t3 : b.tmps[3]? = some (.pointer (some ⟨w.heap.size + 1, 0, none⟩)) := (hsat.rest 3 (fun i _ => noDst_of (by kernel_rfl) i)).trans rfl
          rw [hv]
          clear ho hf hdeps hsat
          go_simp
        | 6, _ =>
          obtain rfl := Option.some.inj ho
          have hv : f 6 = .slice (some ⟨g2, o2, none⟩) m c2 := by rw [hf]; rfl
          have v5 : f 5 = .pointer (some ⟨w.heap.size + 1, 2, none⟩) := by rw [hf]; rfl
          have t40 : b.tmps[40]? = some (.pointer (some ⟨w.heap.size + 1, 2, none⟩)) := (hsat.done 5 40 (hdeps ⟨5, .data⟩ (by simp) rfl) rfl (by simp)).trans (congrArg some v5)
          rw [hv]
          clear ho hf hdeps hsat
          have c0 := (hS.cell (p := ⟨w.heap.size + 1, 2, none⟩) hslt).trans s2
          go_simp
        | 7, _ =>
          obtain rfl := Option.some.inj ho
          have hv : f 7 = .int .i64 (k : Int) := by rw [hf]; rfl
          have t5 : b.tmps[5]? = some (.int .i64 (k : Int)) := (hsat.rest 5 (fun i _ => noDst_of (by kernel_rfl) i)).trans rfl
          rw [hv]
          clear ho hf hdeps hsat
          go_simp
        | 8, _ =>
          obtain rfl := Option.some.inj ho
          have hv : f 8 = .pointer (some ⟨g2, o2 + k * 3, none⟩) := by rw [hf]; rfl
          have v6 : f 6 = .slice (some ⟨g2, o2, none⟩) m c2 := by rw [hf]; rfl
          have t41 : b.tmps[41]? = some (.slice (some ⟨g2, o2, none⟩) m c2) := (hsat.done 6 41 (hdeps ⟨6, .data⟩ (by simp) rfl) rfl (by simp)).trans (congrArg some v6)
          have v7 : f 7 = .int .i64 (k : Int) := by rw [hf]; rfl
          have t42 : b.tmps[42]? = some (.int .i64 (k : Int)) := (hsat.done 7 42 (hdeps ⟨7, .data⟩ (by simp) rfl) rfl (by simp)).trans (congrArg some v7)
          rw [hv]
          clear ho hf hdeps hsat
          go_simp
        | 9, _ =>
          obtain rfl := Option.some.inj ho
          have hv : f 9 = valI ⟨0, 0, l2, tx2, .slice p3 m3 c3⟩ := by rw [hf]; rfl
          have v8 : f 8 = .pointer (some ⟨g2, o2 + k * 3, none⟩) := by rw [hf]; rfl
          have t43 : b.tmps[43]? = some (.pointer (some ⟨g2, o2 + k * 3, none⟩)) := (hsat.done 8 43 (hdeps ⟨8, .data⟩ (by simp) rfl) rfl (by simp)).trans (congrArg some v8)
          rw [hv]
          clear ho hf hdeps hsat
          refine wp_load_mid 45 (.tmp 43) rfl g2 (o2 + k * 3) (by simp only [Act.eval, Array.getD_eq_getD_getElem?, t43, Option.getD_some]) (encI ⟨0, 0, l2, tx2, .slice p3 m3 c3⟩) _ (range_below R2.out (hS.block g2 hg2)) Tryz.underlying45 rfl itemSize ?_
          exact ⟨rfl, hS⟩
        | 10, _ =>
          obtain rfl := Option.some.inj ho
          have hv : f 10 = .bool true := by rw [hf]; rfl
          have v4 : f 4 = valI ⟨0, 0, l1, tx1, .slice p1 m1 c1⟩ := by rw [hf]; rfl
          have t39 : b.tmps[39]? = some (valI ⟨0, 0, l1, tx1, .slice p1 m1 c1⟩) := (hsat.done 4 39 (hdeps ⟨4, .data⟩ (by simp) rfl) rfl (by simp)).trans (congrArg some v4)
          have v9 : f 9 = valI ⟨0, 0, l2, tx2, .slice p3 m3 c3⟩ := by rw [hf]; rfl
          have t44 : b.tmps[44]? = some (valI ⟨0, 0, l2, tx2, .slice p3 m3 c3⟩) := (hsat.done 9 44 (hdeps ⟨9, .data⟩ (by simp) rfl) rfl (by simp)).trans (congrArg some v9)
          rw [hv]
          clear ho hf hdeps hsat
          go_simp
          go_at_call 115
          refine (HC.out W hS).mono ?_
          rintro e w1 ⟨rfl, hb1⟩
          exact ⟨rfl, Below.behind hS hb1⟩
        | 11, _ =>
          obtain rfl := Option.some.inj ho
          have hv : f 11 = .bool true := by rw [hf]; rfl
          have v10 : f 10 = .bool true := by rw [hf]; rfl
          have t45 : b.tmps[45]? = some (.bool true) := (hsat.done 10 45 (hdeps ⟨10, .data⟩ (by simp) rfl) rfl (by simp)).trans (congrArg some v10)
          rw [hv]
          clear ho hf hdeps hsat
          go_simp
      · exact (Below.refl _ _).drew
      · intro W hS
        have u1 := (hS.cell (p := ⟨w.heap.size, 2, none⟩) hs0).trans s1
        have u2 := (hS.cell (p := ⟨w.heap.size + 1, 2, none⟩) hslt).trans s2
        have A2 : Aside (Below wr.heap.size wr W) := hS
        have hv : f 11 = .bool true := by rw [hf]; rfl
        simp only [runFrom]
        clear hS hf
        go_wp2
        go_roundg (m - (k + 1))
        case measure => omega
        case rel => exact ⟨k + 1, by omega, rfl, by rw [wrap64_succ k (by have := HM.out; omega)], Below.behind A1.out A2.out, by have := A2.out.size; omega, u1, u2⟩
    · have hki : (m : Int) ≤ (k : Int) := by omega
      have A1 : Aside (Below w.heap.size w wr) := hB
      clear hB hlt
      go_wp2
      go_ret
      exact ⟨rfl, A1.out⟩

/-- sameItem, of two that stand for the same. -/
theorem same_any : ∀ (n : Nat) (n' : Nat) (a b : El) (r : Raw) (w : World), RTree encI n w a r → RTree encI n' w b r → r.size ≤ 1048576 → Calls Tryz.prog 115 #[valI a, valI b] w (TrueSaid w) := by
  intro n
  induction n with
  | zero => intro n' a b r w h; exact h.elim
  | succ n ih =>
    intro n' a b r w h h'
    cases n' with
    | zero => exact h'.elim
    | succ n' =>
      obtain ⟨fr1, en1, l1, tx1, sub1⟩ := a
      obtain ⟨fr2, en2, l2, tx2, sub2⟩ := b
      obtain ⟨ps, h1, h2, rfl⟩ := h
      obtain ⟨qs, k1, k2, hr⟩ := h'
      simp only [Raw.mk.injEq] at hr
      obtain ⟨rfl, rfl, hpq⟩ := hr
      intro hr
      rw [Raw.size] at hr
      have hl := rsize_length (ps.map (·.2))
      rw [List.length_map] at hl
      have hlen : ps.length = qs.length := by
        have := congrArg List.length hpq
        simpa using this
      obtain ⟨p, c, hs⟩ := h1.shape
      obtain ⟨p', c', hs'⟩ := k1.shape
      simp only at hs h1 hs' k1
      subst hs hs'
      simp only at hr
      obtain ⟨M, hM⟩ : ∃ M, ps.length = M := ⟨_, rfl⟩
      have k1' : RowOff w (.slice p' M c') qs.length (qs.flatMap fun q => encI q.1) := by rw [← hM, hlen]; exact k1
      have h1' : RowOff w (.slice p M c) ps.length (ps.flatMap fun q => encI q.1) := by rw [← hM]; exact h1
      rw [← hlen, hM]
      refine same_body _ _ p p' M c c' ps qs w (by omega) h1' k1' (fun q hq => (h2 q hq).shape) (fun q hq => (k2 q hq).shape) (fun k hk1 hk2 W hW => ?_)
      have e : ps[k].2 = qs[k].2 := by
        have := congrArg (fun x => x[k]?) hpq
        simp only [List.getElem?_map, List.getElem?_eq_getElem hk1, List.getElem?_eq_getElem hk2, Option.map_some, Option.some.injEq] at this
        exact this
      have hsz := rsize_mem (List.mem_map_of_mem (f := (·.2)) (List.getElem_mem hk1))
      exact ih n' ps[k].1 qs[k].1 ps[k].2 W ((h2 _ (List.getElem_mem hk1)).below hW) (by rw [e]; exact (k2 _ (List.getElem_mem hk2)).below hW) (by omega)
end Go.Proofs.YtjiikjpnlgogfaaGreatDoor

namespace Go.Proofs.YtjiikjpnlgogfaaGreatDoor
open Go.RowKit

/-- What a call answers that only looks. -/
def LookSaid (v : Value) (W : World) (e : Ending) (w' : World) : Prop := e = .returned v ∧ Below W.heap.size W w'

set_option maxRecDepth 100000 in
set_option maxHeartbeats 3200000 in
theorem depth_text (tx : ByteArray) (p : Option Addr) (m c : Nat) (w : World) :
    Calls Tryz.prog 165 #[.agg #[.bool false, .string tx, .slice p m c]] w (LookSaid (.int .i64 0) w) := by
  go_enter Tryz.func165, Tryz.ntmps165
  go_wp2
  go_ret
  exact ⟨rfl, (Below.refl _ _).alloc (Nat.le_refl _) _⟩

theorem rdeep_take (rs : List Raw) (k : Nat) {x : Raw} (h : rs[k]? = some x) : rdeep (rs.take (k + 1)) = max (rdeep (rs.take k)) x.depth := by
  have hk := (List.getElem?_eq_some_iff.1 h).1
  rw [← List.take_append_getElem hk, rdeep_append, (List.getElem?_eq_some_iff.1 h).2, rdeep, rdeep, Nat.max_eq_left (Nat.zero_le _)]
theorem rcodes_take (rs : List Raw) (k : Nat) {x : Raw} (h : rs[k]? = some x) : rcodes (rs.take (k + 1)) = rcodes (rs.take k) ++ x.code := by
  have hk := (List.getElem?_eq_some_iff.1 h).1
  rw [← List.take_append_getElem hk, rcodes_append, (List.getElem?_eq_some_iff.1 h).2, rcodes, rcodes, List.append_nil]
theorem rsize_append (a b : List Raw) : rsize (a ++ b) = rsize a + rsize b := by
  induction a with
  | nil => simp [rsize]
  | cons x a ih => rw [List.cons_append, rsize, rsize, ih]; omega
theorem rsize_take (rs : List Raw) (k : Nat) : rsize (rs.take k) ≤ rsize rs := by
  conv => rhs; rw [← List.take_append_drop k rs, rsize_append]
  omega

set_option maxRecDepth 100000 in
set_option maxHeartbeats 3200000 in
theorem depth_list (tx : ByteArray) (p : Option Addr) (m c : Nat) (ps : List (El × Raw)) (w : World) (hz : rsize (ps.map (·.2)) ≤ 1048576) (hrow : RowOff w (.slice p m c) ps.length (ps.flatMap fun q => encI q.1)) (hsub : ∀ q ∈ ps, ∃ p m c, q.1.sub = .slice p m c)
    (hN : ∀ q ∈ ps, ∀ W, Below w.heap.size w W → Calls Tryz.prog 165 #[valI q.1] W (LookSaid (.int .i64 (q.2.depth : Int)) W)) :
    Calls Tryz.prog 165 #[.agg #[.bool true, .string tx, .slice p m c]] w (LookSaid (.int .i64 ((rdeep (ps.map (·.2)) + 1 : Nat) : Int)) w) := by
  have hl := rsize_length (ps.map (·.2))
  have hdp := rdeep_le (ps.map (·.2))
  rw [List.length_map] at hl
  have HN := Hid.hide hN
  have HR := Hid.hide hrow
  have HS := Hid.hide hsub
  obtain ⟨rs, hrs⟩ : ∃ rs, ps.map (·.2) = rs := ⟨_, rfl⟩
  rw [hrs] at hdp hz hl
  have HM : Hid (m = ps.length ∧ m ≤ 1048576 ∧ rdeep rs ≤ 1048576 ∧ ps.map (·.2) = rs) := ⟨hrow.len, by have := hrow.len; omega, by omega, hrs⟩
  rw [hrs]
  clear hN hrow hsub hz hrs hl hdp
  go_enter Tryz.func165, Tryz.ntmps165
  go_wp2
  go_loopg [3, 4] m (fun gh d i wr => ∃ k D, k ≤ m ∧ gh = m - k ∧ i = .int .i64 (k : Int) ∧ d = .int .i64 ((D : Nat) : Int) ∧ D = rdeep (rs.take k) ∧ Below w.heap.size w wr ∧ w.heap.size < wr.heap.size ∧ wr.cell? ⟨w.heap.size, 2, none⟩ = some (.slice p m c))
  case atStart => exact ⟨0, 0, Nat.zero_le _, rfl, rfl, rfl, by simp [rdeep], (Below.refl _ _).alloc (Nat.le_refl _) _, by simp, by simp⟩
  case round =>
    obtain ⟨k, D, hk, rfl, rfl, rfl, hD, hB, hslt, s1⟩ := hrel
    by_cases hlt : k < m
    · have hki : (k : Int) < (m : Int) := by omega
      have hkp : k < ps.length := by have := HM.out; omega
      obtain ⟨gr, off, rfl, -, hcells⟩ := RowOff.cells (size := 3) (fun _ => rfl) HR.out (by omega)
      have hq := List.getElem_mem hkp
      obtain ⟨q, hqe⟩ : ∃ q, ps[k] = q := ⟨_, rfl⟩
      obtain ⟨⟨fr', en', l', tx', sub'⟩, x'⟩ := q
      rw [hqe] at hq
      obtain ⟨p', m', c', hs'⟩ := HS.out _ hq
      simp only at hs'
      subst hs'
      have hrk := hcells k hkp
      rw [hqe] at hrk
      have cel : ∀ j u, w.cell? ⟨gr, off + k * 3 + j, none⟩ = some u → wr.cell? ⟨gr, off + k * 3 + j, none⟩ = some u := fun j u hu => (hB.cell (World.block_lt_of_cell? w _ hu)).trans hu
      have r0 : wr.cell? ⟨gr, off + k * 3, none⟩ = some (.bool l') := cel 0 _ (hrk 0 _ rfl)
      have r1 : wr.cell? ⟨gr, off + k * 3 + 1, none⟩ = some (.string tx') := cel 1 _ (hrk 1 _ rfl)
      have r2 : wr.cell? ⟨gr, off + k * 3 + 2, none⟩ = some (.slice p' m' c') := cel 2 _ (hrk 2 _ rfl)
      have hxk : rs[k]? = some x' := by rw [← HM.out.2.2.2, List.getElem?_map, List.getElem?_eq_getElem hkp, hqe]; rfl
      obtain ⟨D', hD'⟩ : ∃ D', x'.depth = D' := ⟨_, rfl⟩
      have HC : Hid (Calls Tryz.prog 165 #[.agg #[.bool l', .string tx', .slice p' m' c']] wr (LookSaid (.int .i64 (D' : Int)) wr)) := hD' ▸ HN.out _ hq wr hB
      have A1 : Aside (Below w.heap.size w wr ∧ rdeep (rs.take (k + 1)) = max D D') := ⟨hB, by rw [rdeep_take rs k hxk, hD', hD]⟩
      clear hrk hcells hqe hq hB hD hxk hD' cel
      go_wp2_with fail
      refine HC.out.mono ?_
      rintro e w1 ⟨rfl, hb1⟩
      have s2 := (hb1.cell (p := ⟨w.heap.size, 2, none⟩) hslt).trans s1
      have A2 : Aside (Below wr.heap.size wr w1) := hb1
      clear hb1 HC r0 r1 r2
      by_cases hgt : D < D'
      · have hgi : (D : Int) < (D' : Int) := by omega
        go_wp2
        go_roundg (m - (k + 1))
        case measure => omega
        case rel => exact ⟨k + 1, D', by omega, rfl, by rw [wrap64_succ k (by have := HM.out; omega)], rfl, by rw [A1.out.2]; omega, Below.behind A1.out.1 A2.out, by have := A2.out.size; omega, s2⟩
      · have hgi : (D' : Int) ≤ (D : Int) := by omega
        go_wp2
        go_roundg (m - (k + 1))
        case measure => omega
        case rel => exact ⟨k + 1, D, by omega, rfl, by rw [wrap64_succ k (by have := HM.out; omega)], rfl, by rw [A1.out.2]; omega, Below.behind A1.out.1 A2.out, by have := A2.out.size; omega, s2⟩
    · have hki : (m : Int) ≤ (k : Int) := by omega
      have A1 : Aside (Below w.heap.size w wr ∧ D = rdeep rs ∧ D ≤ 1048576) := by
        have := HM.out
        have e : rs.take k = rs := List.take_of_length_le (by rw [← this.2.2.2, List.length_map]; omega)
        rw [e] at hD
        exact ⟨hB, hD, by omega⟩
      clear hB hlt hD
      go_wp2
      go_ret
      rw [wrap64_succ D (by have := A1.out; omega), ← A1.out.2.1]
      exact ⟨rfl, A1.out.1⟩

theorem depth_any : ∀ (n : Nat) (e : El) (r : Raw) (w : World), RTree encI n w e r → r.size ≤ 1048576 → Calls Tryz.prog 165 #[valI e] w (LookSaid (.int .i64 (r.depth : Int)) w) := by
  intro n
  induction n with
  | zero => intro e r w h; exact h.elim
  | succ n ih =>
    rintro ⟨fr, en, l, tx, sub⟩ r w ⟨ps, h1, h2, rfl⟩ hr
    rw [Raw.size] at hr
    obtain ⟨p, c, hs⟩ := h1.shape
    simp only at hs h1 hr
    subst hs
    rw [Raw.depth]
    cases l with
    | false => exact depth_text tx p _ c w
    | true =>
      refine depth_list tx p ps.length c ps w (by omega) h1 (fun q hq => (h2 q hq).shape) (fun q hq W hW => ?_)
      have := rsize_mem (List.mem_map_of_mem (f := (·.2)) hq)
      exact ih q.1 q.2 W ((h2 q hq).below hW) (by omega)

set_option maxRecDepth 100000 in
set_option maxHeartbeats 3200000 in
theorem rcode_text (tx : ByteArray) (p : Option Addr) (m c : Nat) (w : World) (hs : tx.size ≤ 1048576) :
    Calls Tryz.prog 166 #[.agg #[.bool false, .string tx, .slice p m c]] w (LookSaid (.string (textB (textCode (bytesOf tx)))) w) := by
  have HT : Hid (∀ W, Calls Tryz.prog 174 #[.string tx] W fun e w' => e = .returned (.string (textB (textCode (bytesOf tx)))) ∧ Below W.heap.size W w') := fun W => rtext_any tx W (by omega)
  clear hs
  go_enter Tryz.func166, Tryz.ntmps166
  go_wp2_with fail
  refine (HT.out _).mono ?_
  rintro e w1 ⟨rfl, hb⟩
  have A1 : Aside (Below w.heap.size w w1) := Below.up hb
  clear hb
  go_wp2
  go_ret
  exact ⟨rfl, A1.out⟩

set_option maxRecDepth 100000 in
set_option maxHeartbeats 3200000 in
theorem rcode_list (tx : ByteArray) (p : Option Addr) (m c : Nat) (ps : List (El × Raw)) (w : World) (hz : rsize (ps.map (·.2)) ≤ 1048576) (hrow : RowOff w (.slice p m c) ps.length (ps.flatMap fun q => encI q.1)) (hsub : ∀ q ∈ ps, ∃ p m c, q.1.sub = .slice p m c)
    (hN : ∀ q ∈ ps, ∀ W, Below w.heap.size w W → Calls Tryz.prog 166 #[valI q.1] W (LookSaid (.string (textB q.2.code)) W)) :
    Calls Tryz.prog 166 #[.agg #[.bool true, .string tx, .slice p m c]] w (LookSaid (.string (textB (listCode (rcodes (ps.map (·.2)))))) w) := by
  have hl := rsize_length (ps.map (·.2))
  rw [List.length_map] at hl
  have HN := Hid.hide hN
  have HR := Hid.hide hrow
  have HS := Hid.hide hsub
  obtain ⟨rs, hrs⟩ : ∃ rs, ps.map (·.2) = rs := ⟨_, rfl⟩
  rw [hrs] at hz hl
  have HM : Hid (m = ps.length ∧ m ≤ 1048576 ∧ rsize rs ≤ 1048576 ∧ ps.map (·.2) = rs) := ⟨hrow.len, by have := hrow.len; omega, by omega, hrs⟩
  have HL : Hid (∀ W, Calls Tryz.prog 173 #[.string (textB (rcodes rs))] W fun e w' => e = .returned (.string (textB (listCode (rcodes rs)))) ∧ Below W.heap.size W w') := fun W => by
    have h := rlist_any (textB (rcodes rs)) W (by rw [textB_size]; have := rcodes_le rs; omega)
    rw [bytesOf_textB (rcodes_byte rs)] at h
    exact h
  rw [hrs]
  clear hN hrow hsub hz hrs hl
  go_enter Tryz.func166, Tryz.ntmps166
  go_wp2
  go_loopg [3, 4] m (fun gh d i wr => ∃ k D, k ≤ m ∧ gh = m - k ∧ i = .int .i64 (k : Int) ∧ d = .string (textB D) ∧ D = rcodes (rs.take k) ∧ Below w.heap.size w wr ∧ w.heap.size < wr.heap.size ∧ wr.cell? ⟨w.heap.size, 2, none⟩ = some (.slice p m c))
  case atStart => exact ⟨0, [], Nat.zero_le _, rfl, rfl, rfl, by simp [rcodes], (Below.refl _ _).alloc (Nat.le_refl _) _, by simp, by simp⟩
  case round =>
    obtain ⟨k, D, hk, rfl, rfl, rfl, hD, hB, hslt, s1⟩ := hrel
    by_cases hlt : k < m
    · have hki : (k : Int) < (m : Int) := by omega
      have hkp : k < ps.length := by have := HM.out; omega
      obtain ⟨gr, off, rfl, -, hcells⟩ := RowOff.cells (size := 3) (fun _ => rfl) HR.out (by omega)
      have hq := List.getElem_mem hkp
      obtain ⟨q, hqe⟩ : ∃ q, ps[k] = q := ⟨_, rfl⟩
      obtain ⟨⟨fr', en', l', tx', sub'⟩, x'⟩ := q
      rw [hqe] at hq
      obtain ⟨p', m', c', hs'⟩ := HS.out _ hq
      simp only at hs'
      subst hs'
      have hrk := hcells k hkp
      rw [hqe] at hrk
      have cel : ∀ j u, w.cell? ⟨gr, off + k * 3 + j, none⟩ = some u → wr.cell? ⟨gr, off + k * 3 + j, none⟩ = some u := fun j u hu => (hB.cell (World.block_lt_of_cell? w _ hu)).trans hu
      have r0 : wr.cell? ⟨gr, off + k * 3, none⟩ = some (.bool l') := cel 0 _ (hrk 0 _ rfl)
      have r1 : wr.cell? ⟨gr, off + k * 3 + 1, none⟩ = some (.string tx') := cel 1 _ (hrk 1 _ rfl)
      have r2 : wr.cell? ⟨gr, off + k * 3 + 2, none⟩ = some (.slice p' m' c') := cel 2 _ (hrk 2 _ rfl)
      have hxk : rs[k]? = some x' := by rw [← HM.out.2.2.2, List.getElem?_map, List.getElem?_eq_getElem hkp, hqe]; rfl
      obtain ⟨D', hD'⟩ : ∃ D', x'.code = D' := ⟨_, rfl⟩
      have HC : Hid (Calls Tryz.prog 166 #[.agg #[.bool l', .string tx', .slice p' m' c']] wr (LookSaid (.string (textB D')) wr)) := hD' ▸ HN.out _ hq wr hB
      have hlen : D.length + D'.length ≤ 9437184 := by
        have a1 := rcodes_le (rs.take (k + 1))
        have a2 := rsize_take rs (k + 1)
        have a3 := HM.out.2.2.1
        rw [rcodes_take rs k hxk, List.length_append, hD', ← hD] at a1
        omega
      have A1 : Aside (Below w.heap.size w wr ∧ rcodes (rs.take (k + 1)) = D ++ D') := ⟨hB, by rw [rcodes_take rs k hxk, hD', hD]⟩
      have hadd := fun W => add_text D D' (by omega) W
      clear hrk hcells hqe hq hB hD hxk hD' cel hlen
      go_wp2_with fail
      refine HC.out.mono ?_
      rintro e w1 ⟨rfl, hb1⟩
      have s2 := (hb1.cell (p := ⟨w.heap.size, 2, none⟩) hslt).trans s1
      have A2 : Aside (Below wr.heap.size wr w1) := hb1
      clear hb1 HC r0 r1 r2
      go_wp2
      go_roundg (m - (k + 1))
      case measure => omega
      case rel => exact ⟨k + 1, D ++ D', by omega, rfl, by rw [wrap64_succ k (by have := HM.out; omega)], rfl, by rw [A1.out.2], Below.behind A1.out.1 A2.out, by have := A2.out.size; omega, s2⟩
    · have hki : (m : Int) ≤ (k : Int) := by omega
      have A1 : Aside (Below w.heap.size w wr) := hB
      have hDe : D = rcodes rs := by
        have := HM.out
        have e : rs.take k = rs := List.take_of_length_le (by rw [← this.2.2.2, List.length_map]; omega)
        rw [e] at hD
        exact hD
      obtain rfl := hDe.symm
      clear hB hlt hD hDe
      go_wp2_with fail
      refine (HL.out _).mono ?_
      rintro e w1 ⟨rfl, hb1⟩
      have A2 : Aside (Below w.heap.size w w1) := Below.behind A1.out hb1
      clear hb1
      go_wp2
      go_ret
      exact ⟨rfl, A2.out⟩

theorem rcode_any : ∀ (n : Nat) (e : El) (r : Raw) (w : World), RTree encI n w e r → r.size ≤ 1048576 → Calls Tryz.prog 166 #[valI e] w (LookSaid (.string (textB r.code)) w) := by
  intro n
  induction n with
  | zero => intro e r w h; exact h.elim
  | succ n ih =>
    rintro ⟨fr, en, l, tx, sub⟩ r w ⟨ps, h1, h2, rfl⟩ hr
    rw [Raw.size] at hr
    obtain ⟨p, c, hs⟩ := h1.shape
    simp only at hs h1 hr
    subst hs
    rw [Raw.code]
    cases l with
    | false => exact rcode_text tx p _ c w (by omega)
    | true =>
      refine rcode_list tx p ps.length c ps w (by omega) h1 (fun q hq => (h2 q hq).shape) (fun q hq W hW => ?_)
      have := rsize_mem (List.mem_map_of_mem (f := (·.2)) hq)
      exact ih q.1 q.2 W ((h2 q hq).below hW) (by omega)

/-- What Encode of package twigsref answers. -/
def encR' (r : Raw) : List Nat × Nat := if 6 < r.depth then ([], 5) else if 2048 < r.code.length then ([], 1) else (r.code, 0)

set_option maxRecDepth 100000 in
set_option maxHeartbeats 3200000 in
theorem rencode_any (n : Nat) (e : El) (r : Raw) (w : World) (h : RTree encI n w e r) (hr : r.size ≤ 1048576) : Calls Tryz.prog 114 #[valI e] w (LookSaid (.tuple #[.string (textB (encR' r).1), .int .i64 ((encR' r).2 : Int)]) w) := by
  obtain ⟨p, m, c, hs⟩ := h.shape
  obtain ⟨fr, en, l, tx, sub⟩ := e
  simp only at hs
  subst hs
  have HD : Hid (∀ W, Below w.heap.size w W → Calls Tryz.prog 165 #[.agg #[.bool l, .string tx, .slice p m c]] W (LookSaid (.int .i64 (r.depth : Int)) W)) := fun W hW => depth_any n ⟨fr, en, l, tx, .slice p m c⟩ r W (h.below hW) hr
  have HC : Hid (∀ W, Below w.heap.size w W → Calls Tryz.prog 166 #[.agg #[.bool l, .string tx, .slice p m c]] W (LookSaid (.string (textB r.code)) W)) := fun W hW => rcode_any n ⟨fr, en, l, tx, .slice p m c⟩ r W (h.below hW) hr
  obtain ⟨v, hv⟩ : ∃ v, encR' r = v := ⟨_, rfl⟩
  unfold encR' at hv ⊢
  obtain ⟨D, hD⟩ : ∃ D, r.depth = D := ⟨_, rfl⟩
  obtain ⟨C, hC⟩ : ∃ C, r.code = C := ⟨_, rfl⟩
  have hsz := textB_size C
  rw [hD] at HD hv
  rw [hC] at HC hv
  rw [hD, hC, hv]
  have HV := Hid.hide hv
  clear h hr hD hC hv
  go_enter Tryz.func114, Tryz.ntmps114
  go_wp2_with fail
  refine (HD.out _ ((Below.refl _ _).alloc (Nat.le_refl _) _)).mono ?_
  rintro e w1 ⟨rfl, hb1⟩
  obtain ⟨c0, f0⟩ := newCell hb1 0 (v := .bool l) rfl
  obtain ⟨c1, f1⟩ := newCell hb1 1 (v := .string tx) rfl
  obtain ⟨c2, f2⟩ := newCell hb1 2 (v := .slice p m c) rfl
  have A1 : Aside (Below w.heap.size w w1) := Below.up hb1
  clear hb1
  by_cases hd : 6 < D
  · have hdi : (6 : Int) < (D : Int) := by omega
    have hv2 : v = ([], 5) := by rw [← HV.out, if_pos hd]
    subst hv2
    clear hd HV
    go_wp2
    go_ret2
    exact ⟨rfl, A1.out⟩
  · have hdi : (D : Int) ≤ 6 := by omega
    have hv1 := HV.out
    rw [if_neg hd] at hv1
    have HV2 := Hid.hide hv1
    clear hd HV hv1
    go_wp2_with fail
    refine (HC.out _ A1.out).mono ?_
    rintro e w2 ⟨rfl, hb2⟩
    have A2 : Aside (Below w.heap.size w w2) := Below.behind A1.out hb2
    clear hb2
    by_cases hc : 2048 < C.length
    · have hci : (2048 : Int) < (C.length : Int) := by omega
      have hv2 : v = ([], 1) := by rw [← HV2.out, if_pos hc]
      subst hv2
      clear hc HV2
      go_wp2
      go_ret2
      exact ⟨rfl, A2.out⟩
    · have hci : (C.length : Int) ≤ 2048 := by omega
      have hv2 : v = (C, 0) := by rw [← HV2.out, if_neg hc]
      subst hv2
      clear hc HV2
      go_wp2
      go_ret2
      exact ⟨rfl, A2.out⟩
end Go.Proofs.YtjiikjpnlgogfaaGreatDoor
