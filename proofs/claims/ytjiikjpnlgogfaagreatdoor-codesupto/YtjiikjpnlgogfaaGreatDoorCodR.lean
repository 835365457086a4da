/-
  The contract of twigslaw.Codes, for every argument within the bound.
  The second form's step of twigslaw.Codes.
  The second form of twigslaw.Codes.
-/
import Derived.Test.YtjiikjpnlgogfaaGreatDoorCodA
import Derived.Test.YtjiikjpnlgogfaaGreatDoorTabW
import Derived.Test.YtjiikjpnlgogfaaGreatDoorErrTab
import Derived.Test.YtjiikjpnlgogfaaGreatDoorCodesClosed
import Derived.Deep.Slices
namespace Go.Proofs.YtjiikjpnlgogfaaGreatDoor
open Go.ChangeShapes Go.WideShapes Go.ChangeAt Go.RowKit

theorem cellsOp : Tryz.prog.cellsOf 102 = 160 := by kernel_rfl
theorem cells9 : Tryz.prog.cellsOf 9 = 1 := by kernel_rfl
theorem cells4 : Tryz.prog.cellsOf 4 = 1 := by kernel_rfl
theorem cells5 : Tryz.prog.cellsOf 5 = 1 := by kernel_rfl
theorem cellsHash : Tryz.prog.cellsOf 34 = 32 := by kernel_rfl
theorem cellsItem : Tryz.prog.cellsOf 45 = 3 := by kernel_rfl
theorem cellsItems : Tryz.prog.cellsOf 37 = 1 := by kernel_rfl
theorem cellsAcc : Tryz.prog.cellsOf 85 = 66 := by kernel_rfl

theorem bulk_pos {H : Type} (d : DataW H) : 1 ≤ Rows.uptoBulk d := by
  cases d with
  | lit l => cases l <;> simp [Rows.uptoBulk]
  | _ => simp [Rows.uptoBulk]
theorem bulkAll_mem {H : Type} {d : DataW H} : ∀ {l : List (DataW H)}, d ∈ l → Rows.uptoBulk d ≤ Rows.uptoBulkAll l := by
  intro l
  induction l with
  | nil => intro h; cases h
  | cons e l ih =>
    intro h
    rw [Rows.uptoBulkAll]
    rcases List.mem_cons.1 h with rfl | h
    · omega
    · have := ih h
      omega
theorem bulkAll_length {H : Type} : ∀ l : List (DataW H), l.length ≤ Rows.uptoBulkAll l := by
  intro l
  induction l with
  | nil => simp [Rows.uptoBulkAll]
  | cons e l ih =>
    rw [Rows.uptoBulkAll, List.length_cons]
    have := bulk_pos e
    omega

theorem part_cell {cs : List Value} {o n j : Nat} {l : List Value} (h : (cs.drop o).take n = l) (hj : j < l.length) : cs.toArray[o + j]? = l[j]? := by
  have hn : l.length ≤ n := by
    rw [← h, List.length_take]
    exact Nat.min_le_left _ _
  have e : ((cs.drop o).take n)[j]? = (cs.drop o)[j]? := List.getElem?_take_of_lt (by omega)
  rw [h, List.getElem?_drop] at e
  rw [e]
  simp

/-- WHAT READING A ROOT GIVES: its 32 bytes. -/
theorem hash_of_trod {H : Type} {enc : TypeId × Value → H} {W : World} {base : Nat} {sp : Nat → Bool} {held : Bool} {fuel : Nat} {cs : List Value} {x : DataW H × List MemPlace} (h : DataW.trod enc Tryz.prog W base sp held fuel 34 cs = some x) :
    ∃ root : List Nat, root.length = 32 ∧ (∀ b ∈ root, b < 256) ∧ cs = root.map encB := by
  obtain ⟨xs, m, _, _, hl, hx, hi⟩ := DataW.trod_array Tryz.underlying34 h
  rw [cellsHash] at hl
  have key : ∀ i, i < 32 → ∃ n : Nat, n < 256 ∧ cs[i]? = some (encB n) := by
    intro i hi32
    have hq := hi i hi32
    rw [cells5, Nat.mul_one, List.getElem?_eq_getElem (by rw [hx]; exact hi32)] at hq
    obtain ⟨z, e, _, wf⟩ := DataW.trod_int Tryz.underlying5 hq
    have hb := bounds_u8 wf
    refine ⟨z.toNat, by omega, ?_⟩
    have e1 : (cs.drop i)[0]? = some (.int .u8 z) := by
      rw [← List.getElem?_take_of_lt (show 0 < 1 by omega), e]
      rfl
    rw [List.getElem?_drop, Nat.add_zero] at e1
    rw [e1]
    congr 2
    omega
  refine ⟨cs.map (fun v => match v with | .int _ z => z.toNat | _ => 0), by rw [List.length_map, hl], ?_, ?_⟩
  · intro b hb
    obtain ⟨v, hv, rfl⟩ := List.mem_map.1 hb
    obtain ⟨i, hi', rfl⟩ := List.getElem_of_mem hv
    obtain ⟨n, hn, he⟩ := key i (by omega)
    rw [List.getElem?_eq_getElem hi', Option.some.injEq] at he
    rw [he]
    simpa using hn
  · rw [List.map_map]
    conv => lhs; rw [← List.map_id cs]
    apply List.map_congr_left
    intro v hv
    obtain ⟨i, hi', rfl⟩ := List.getElem_of_mem hv
    obtain ⟨n, hn, he⟩ := key i (by omega)
    rw [List.getElem?_eq_getElem hi', Option.some.injEq] at he
    rw [he]
    simp

/-- WHAT READING AN ACCOUNT GIVES. -/
theorem acc_of_trod {H : Type} {enc : TypeId × Value → H} {W : World} {base : Nat} {sp : Nat → Bool} {held : Bool} {fuel : Nat} {cs : List Value} {x : DataW H × List MemPlace} (h : DataW.trod enc Tryz.prog W base sp held fuel 85 cs = some x) :
    ∃ a : Acc, a.ok ∧ cs = accL a := by
  obtain ⟨xs, n, _, rfl, hl, hlen, hf⟩ := DataW.trod_struct Tryz.underlying85 h
  have hx : ∀ i, i < 4 → ∃ y, xs[i]? = some y := fun i hi => ⟨xs[i]'(by rw [hlen]; show i < 4; omega), List.getElem?_eq_getElem _⟩
  obtain ⟨y0, hy0⟩ := hx 0 (by omega)
  obtain ⟨y1, hy1⟩ := hx 1 (by omega)
  obtain ⟨y2, hy2⟩ := hx 2 (by omega)
  obtain ⟨y3, hy3⟩ := hx 3 (by omega)
  have f0 : DataW.trod enc Tryz.prog W base sp held n 83 ((cs.drop 0).take (Tryz.prog.cellsOf 83)) = xs[0]? := hf 0 _ rfl
  have f1 : DataW.trod enc Tryz.prog W base sp held n 83 ((cs.drop 1).take (Tryz.prog.cellsOf 83)) = xs[1]? := hf 1 _ rfl
  have f2 : DataW.trod enc Tryz.prog W base sp held n 34 ((cs.drop 2).take (Tryz.prog.cellsOf 34)) = xs[2]? := hf 2 _ rfl
  have f3 : DataW.trod enc Tryz.prog W base sp held n 34 ((cs.drop 34).take (Tryz.prog.cellsOf 34)) = xs[3]? := hf 3 _ rfl
  rw [hy0] at f0
  rw [hy1] at f1
  rw [hy2] at f2
  rw [hy3] at f3
  obtain ⟨z0, e0, _, w0⟩ := DataW.trod_int Tryz.underlying83 f0
  obtain ⟨z1, e1, _, w1⟩ := DataW.trod_int Tryz.underlying83 f1
  obtain ⟨root, r1, r2, e2⟩ := hash_of_trod f2
  obtain ⟨code, c1, c2, e3⟩ := hash_of_trod f3
  have b0 := bounds_u64 w0
  have b1 := bounds_u64 w1
  rw [cells32] at e0 e1
  rw [cellsHash] at e2 e3
  rw [cellsAcc] at hl
  refine ⟨⟨z0.toNat, z1.toNat, root, code⟩, ⟨by show z0.toNat < _; omega, by show z1.toNat < _; omega, r1, c1, r2, c2⟩, ?_⟩
  have s1 : cs = cs.take 1 ++ ((cs.drop 1).take 1 ++ ((cs.drop 2).take 32 ++ (cs.drop 34).take 32)) := by
    rw [show (cs.drop 34).take 32 = cs.drop 34 from List.take_of_length_le (by rw [List.length_drop]; omega), show cs.drop 34 = (cs.drop 2).drop 32 by rw [List.drop_drop], List.take_append_drop, show cs.drop 2 = (cs.drop 1).drop 1 by rw [List.drop_drop], List.take_append_drop, List.take_append_drop]
  rw [List.drop_zero] at e0
  rw [s1, e0, e1, e2, e3]
  unfold accL encL
  rw [show ((z0.toNat : Nat) : Int) = z0 by omega, show ((z1.toNat : Nat) : Int) = z1 by omega]
  rfl

theorem RTree.more {enc : El → List Value} {w : World} : ∀ {n : Nat} {e : El} {r : Raw}, RTree enc n w e r → RTree enc (n + 1) w e r
  | 0, _, _, h => h.elim
  | _ + 1, _, _, ⟨ps, h1, h2, h3⟩ => ⟨ps, h1, fun p hp => (h2 p hp).more, h3⟩

theorem rsize_bulk {H : Type} : ∀ (rs : List Raw) (ds : List (DataW H)), rs.length = ds.length → (∀ (i : Nat) (r : Raw) (d : DataW H), rs[i]? = some r → ds[i]? = some d → r.size ≤ Rows.uptoBulk d) → rsize rs ≤ Rows.uptoBulkAll ds := by
  intro rs
  induction rs with
  | nil => intro ds _ _; rw [rsize]; exact Nat.zero_le _
  | cons r rs ih =>
    intro ds hl h
    cases ds with
    | nil => simp at hl
    | cons d ds =>
      have h0 := h 0 r d rfl rfl
      have h1 := ih ds (by simpa using hl) fun i r d hr hd => h (i + 1) r d (by simpa using hr) (by simpa using hd)
      rw [rsize, Rows.uptoBulkAll]
      omega

instance : Inhabited (El × Raw) := ⟨⟨⟨0, 0, false, ⟨#[]⟩, .slice none 0 0⟩, .mk false ⟨#[]⟩ []⟩⟩

/-- WHAT READING AN ITEM GIVES: an item as it lies in memory, no greater than what was read. -/
theorem item_of_trod {H : Type} {enc : TypeId × Value → H} {W : World} {base : Nat} {sp : Nat → Bool} {held : Bool} : ∀ (N fuel : Nat), fuel ≤ N → ∀ (cs : List Value) (x : DataW H × List MemPlace), DataW.trod enc Tryz.prog W base sp held fuel 45 cs = some x →
    ∃ e r, cs = encI e ∧ RTree encI (N + 1) W e r ∧ r.size ≤ Rows.uptoBulk x.1 := by
  intro N
  induction N with
  | zero =>
    intro fuel hf cs x h
    obtain ⟨_, n, hn, _⟩ := DataW.trod_struct Tryz.underlying45 h
    omega
  | succ N ih =>
    intro fuel hfu cs x h
    obtain ⟨xs, n, hn, rfl, hl, hlen, hf⟩ := DataW.trod_struct Tryz.underlying45 h
    have hx : ∀ i, i < 3 → ∃ y, xs[i]? = some y := fun i hi => ⟨xs[i]'(by rw [hlen]; show i < 3; omega), List.getElem?_eq_getElem _⟩
    obtain ⟨y0, hy0⟩ := hx 0 (by omega)
    obtain ⟨y1, hy1⟩ := hx 1 (by omega)
    obtain ⟨y2, hy2⟩ := hx 2 (by omega)
    have hxs : xs = [y0, y1, y2] := by
      have hlen3 : xs.length = 3 := hlen
      match xs, hlen3, hy0, hy1, hy2 with
      | [a, b, c], _, h0, h1, h2 => simp at h0 h1 h2; rw [h0, h1, h2]
    have f0 : DataW.trod enc Tryz.prog W base sp held n 4 ((cs.drop 0).take (Tryz.prog.cellsOf 4)) = xs[0]? := hf 0 _ rfl
    have f1 : DataW.trod enc Tryz.prog W base sp held n 9 ((cs.drop 1).take (Tryz.prog.cellsOf 9)) = xs[1]? := hf 1 _ rfl
    have f2 : DataW.trod enc Tryz.prog W base sp held n 37 ((cs.drop 2).take (Tryz.prog.cellsOf 37)) = xs[2]? := hf 2 _ rfl
    rw [hy0] at f0
    rw [hy1] at f1
    rw [hy2] at f2
    obtain ⟨l, e0, x0⟩ := DataW.trod_bool Tryz.underlying4 f0
    obtain ⟨tx, e1, x1, _⟩ := DataW.trod_string Tryz.underlying9 f1
    rw [cells4, List.drop_zero] at e0
    rw [cells9] at e1
    rw [cellsItems] at f2
    rw [cellsItem] at hl
    have hcs : ∀ v, (cs.drop 2).take 1 = [v] → cs = [.bool l, .string tx, v] := fun v e2 => by
      have s1 : cs = cs.take 1 ++ ((cs.drop 1).take 1 ++ (cs.drop 2).take 1) := by
        rw [show (cs.drop 2).take 1 = cs.drop 2 from List.take_of_length_le (by rw [List.length_drop]; omega), show cs.drop 2 = (cs.drop 1).drop 1 by rw [List.drop_drop], List.take_append_drop, List.take_append_drop]
      rw [s1, e0, e1, e2]
      rfl
    have hbk : ∀ k, k ≤ Rows.uptoBulk y2.1 → 1 + tx.size + k ≤ Rows.uptoBulk (DataW.agg (xs.map (·.1))) := fun k hk => by
      rw [hxs, x0, x1]
      simp only [List.map_cons, List.map_nil, Rows.uptoBulk, Rows.uptoBulkAll]
      have e : tx.data.toList.length = tx.size := by rw [Array.length_toList]; rfl
      omega
    rcases DataW.trod_slice Tryz.underlying37 f2 with ⟨h0, _⟩ | ⟨a, len, cap, elems, rest, k, hk, hc2, hx2, _, hlc, _, hel, hea, _, _⟩
    · refine ⟨⟨0, 0, l, tx, .slice none 0 0⟩, .mk l tx [], hcs _ h0, ⟨[], .inl ⟨⟨_, _, rfl⟩, rfl, rfl⟩, (fun p hp => by cases hp), rfl⟩, ?_⟩
      rw [Raw.size, rsize]
      exact hbk 0 (Nat.zero_le _)
    · have each : ∀ i, i < len → ∃ q : El × Raw, (∃ y, elems[i]? = some y ∧ q.2.size ≤ Rows.uptoBulk y.1) ∧ RTree encI (N + 1) W q.1 q.2 ∧ W.cells? base (a.add (i * 3)) 3 = some (encI q.1) := by
        intro i hi
        have hy : elems[i]? = some (elems[i]'(by omega)) := List.getElem?_eq_getElem _
        have h1 := hea i hi
        rw [cellsItem, hy] at h1
        cases hc : W.cells? base (a.add (i * 3)) 3 with
        | none => rw [hc] at h1; simp at h1
        | some cs' =>
          rw [hc, Option.bind_some] at h1
          obtain ⟨e, r, g1, g2, g3⟩ := ih k (by omega) cs' _ h1
          exact ⟨(e, r), ⟨_, hy, g3⟩, g2, by rw [g1]⟩
      obtain ⟨f, hff⟩ := Go.Deep.choose_lt each
      refine ⟨⟨0, 0, l, tx, .slice (some a) len cap⟩, .mk l tx ((List.range len).map fun i => (f i).2), hcs _ hc2, ⟨(List.range len).map f, ?_, ?_, ?_⟩, ?_⟩
      · rw [List.length_map, List.length_range]
        by_cases hl0 : len = 0
        · subst hl0
          exact .inl ⟨⟨_, _, rfl⟩, rfl, rfl⟩
        · obtain ⟨b, off, spot⟩ := a
          have hspot : spot = none := by
            obtain ⟨_, _, hcc⟩ := World.cells?_some (hff 0 (by omega)).2.2
            have h1 := hcc 0 (by omega)
            have h2 : (encI (f 0).1)[0]? = some (.bool (f 0).1.lst) := rfl
            rw [h2] at h1
            simpa [Addr.add] using World.cell?_spot h1
          subst hspot
          have hps : ∀ i (hi : i < len), ∀ j v, (encI (f i).1)[j]? = some v → W.cell? ⟨b, off + (i * 3 + j), none⟩ = some v := fun i hi j v hv => by
            obtain ⟨_, hcl, hcc⟩ := World.cells?_some (hff i hi).2.2
            have hj : j < 3 := (List.getElem?_eq_some_iff.1 hv).1
            have := hcc j hj
            rw [Addr.add_mid, Addr.add_mid, hv] at this
            rw [← Nat.add_assoc]
            exact this
          refine .inr ⟨b, off, cap, rfl, fun j v hv => ?_⟩
          have hjl : j < len * 3 := by
            have := (List.getElem?_eq_some_iff.1 hv).1
            have e : (((List.range len).map f).flatMap fun p => encI p.1).length = len * 3 := by
              rw [flat_length (size := 3) (fun _ => rfl)]
              simp
            omega
          have hi : j / 3 < len := by omega
          have hq : (((List.range len).map f).flatMap fun p => encI p.1)[j / 3 * 3 + j % 3]? = (encI (((List.range len).map f)[j / 3]'(by simpa using hi)).1)[j % 3]? := flat_at (size := 3) (fun _ => rfl) ((List.range len).map f) (j / 3) (by simpa using hi) (j % 3) (by omega)
          rw [show j / 3 * 3 + j % 3 = j by omega, hv] at hq
          simp only [List.getElem_map, List.getElem_range] at hq
          have := hps (j / 3) hi (j % 3) v hq.symm
          rw [show j / 3 * 3 + j % 3 = j by omega] at this
          exact this
      · intro p hp
        obtain ⟨i, hi, rfl⟩ := List.mem_map.1 hp
        exact (hff i (List.mem_range.1 hi)).2.1
      · rw [List.map_map]
        rfl
      · rw [Raw.size]
        refine hbk _ ?_
        rw [hx2]
        simp only [Rows.uptoBulk]
        have := rsize_bulk (H := H) ((List.range len).map fun i => (f i).2) (elems.map (·.1)) (by simp [hel]) fun i r d hr hd => by
          have hi : i < len := by
            have := (List.getElem?_eq_some_iff.1 hr).1
            simpa using this
          obtain ⟨⟨y, hy, hs⟩, _⟩ := hff i hi
          rw [List.getElem?_map, hy] at hd
          rw [List.getElem?_map, List.getElem?_range hi] at hr
          simp only [Option.map_some, Option.some.injEq] at hr hd
          subst hr hd
          exact hs
        omega

/-- WHAT READING A STEP GIVES: its kind, its text, its flag, its item, its account. -/
theorem op_of_trod {H : Type} {enc : TypeId × Value → H} {W : World} {base : Nat} {sp : Nat → Bool} {held : Bool} {fuel : Nat} {cs : List Value} {x : DataW H × List MemPlace} (h : DataW.trod enc Tryz.prog W base sp held fuel 102 cs = some x) :
    ∃ kd s fl e a n r, OpX cs.toArray kd s fl e a ∧ s.size ≤ Rows.uptoBulk x.1 ∧ RTree encI n W e r ∧ r.size ≤ Rows.uptoBulk x.1 := by
  obtain ⟨xs, n, _, rfl, hl, hlen, hf⟩ := DataW.trod_struct Tryz.underlying102 h
  have hx : ∀ i, i < 12 → ∃ y, xs[i]? = some y := fun i hi => ⟨xs[i]'(by rw [hlen]; show i < 12; omega), List.getElem?_eq_getElem _⟩
  obtain ⟨y0, hy0⟩ := hx 0 (by omega)
  obtain ⟨y5, hy5⟩ := hx 5 (by omega)
  obtain ⟨y6, hy6⟩ := hx 6 (by omega)
  obtain ⟨y9, hy9⟩ := hx 9 (by omega)
  obtain ⟨y10, hy10⟩ := hx 10 (by omega)
  have f0 : DataW.trod enc Tryz.prog W base sp held n 3 ((cs.drop 0).take (Tryz.prog.cellsOf 3)) = xs[0]? := hf 0 _ rfl
  have f5 : DataW.trod enc Tryz.prog W base sp held n 9 ((cs.drop 67).take (Tryz.prog.cellsOf 9)) = xs[5]? := hf 5 _ rfl
  have f6 : DataW.trod enc Tryz.prog W base sp held n 4 ((cs.drop 68).take (Tryz.prog.cellsOf 4)) = xs[6]? := hf 6 _ rfl
  have f9 : DataW.trod enc Tryz.prog W base sp held n 45 ((cs.drop 71).take (Tryz.prog.cellsOf 45)) = xs[9]? := hf 9 _ rfl
  have f10 : DataW.trod enc Tryz.prog W base sp held n 85 ((cs.drop 74).take (Tryz.prog.cellsOf 85)) = xs[10]? := hf 10 _ rfl
  rw [hy0] at f0
  rw [hy5] at f5
  rw [hy6] at f6
  rw [hy9] at f9
  rw [hy10] at f10
  obtain ⟨kd, e0, _, w0⟩ := DataW.trod_int Tryz.underlying3 f0
  obtain ⟨s, e5, x5, _⟩ := DataW.trod_string Tryz.underlying9 f5
  obtain ⟨fl, e6, _⟩ := DataW.trod_bool Tryz.underlying4 f6
  obtain ⟨e, r, e9, hT, hr⟩ := item_of_trod n n (Nat.le_refl _) _ _ f9
  obtain ⟨a, ha, e10⟩ := acc_of_trod f10
  rw [cells3] at e0
  rw [cells9] at e5
  rw [cells4] at e6
  rw [cellsItem] at e9
  rw [cellsAcc] at e10
  have hm : ∀ {i : Nat} {y : DataW H × List MemPlace}, xs[i]? = some y → Rows.uptoBulk y.1 ≤ Rows.uptoBulk (DataW.agg (xs.map (·.1))) := fun {i y} hy => by
    have h1 : y.1 ∈ xs.map (·.1) := List.mem_map.2 ⟨y, List.mem_of_getElem? hy, rfl⟩
    have h2 := bulkAll_mem h1
    rw [show Rows.uptoBulk (DataW.agg (xs.map (·.1))) = Rows.uptoBulkAll (xs.map (·.1)) + 1 from rfl]
    omega
  have hal : (accL a).length = 66 := accL_length ha.2.2.1 ha.2.2.2.1
  refine ⟨kd, s, fl, e, a, n + 1, r, ⟨by rw [List.size_toArray, hl, cellsOp], part_cell (j := 0) e0 (by simp), part_cell (j := 0) e5 (by simp), part_cell (j := 0) e6 (by simp), part_cell (j := 0) e9 (by simp), part_cell (j := 1) e9 (by simp), part_cell (j := 2) e9 (by simp), fun j v hv => ?_, ha⟩, ?_, hT, Nat.le_trans hr (hm hy9)⟩
  · have hj := (List.getElem?_eq_some_iff.1 hv).1
    rw [part_cell e10 hj, hv]
  · have h5 := hm hy5
    rw [x5] at h5
    have e : s.data.toList.length = s.size := by rw [Array.length_toList]; rfl
    rw [show Rows.uptoBulk (H := H) (.lit (.string s.data.toList)) = s.data.toList.length + 1 from rfl] at h5
    show s.size ≤ Rows.uptoBulk (DataW.agg (xs.map (·.1)))
    omega

theorem laid_met (os : Os) : laidMetH Tryz.prog Rows.codesUptoRow.laid ((laidWorld os).forCall (fun _ _ => 0) ⟨#[], #[.slice none 0 0], []⟩).memory :=
  laidMetH_of_parts (laidMet_of_run' 8 (by kernel_rfl) (by kernel_rfl)) (by kernel_rfl)
theorem reads (os : Os) {H : Type} (enc : TypeId × Value → H) : ∃ places, DataW.whole enc Tryz.prog ((laidWorld os).forCall (fun _ _ => 0) ⟨#[], #[.slice none 0 0], []⟩).memory Tryz.f4.params.toList Rows.codesSpec.vars false #[Value.slice none 0 0].toList 8 = some ([.nil], [], places) :=
  ⟨[], by kernel_rfl⟩

theorem params_ok {W : World} (hL : laidMetH Tryz.prog Rows.codesUptoRow.laid W) : (∃ sent, Faults W sent) ∧ typeAt W := by
  have h : laidMet Tryz.prog (("math/bits.deBruijn32tab", Rows.laid_math_bits_deBruijn32tab) :: ("twigs/digest.turns", Rows.laid_twigs_digest_turns) :: ("twigs/digest.roundKeys", Rows.laid_twigs_digest_roundKeys) :: ([1, 2, 3, 4, 5, 6, 7, 8, 9, 10, 11, 12, 13].map fun n => (errName n, errText n))) W := hL.1
  exact ⟨faults_of_list (by decide) (by decide) h.tail.tail.tail, typeAt_of (hs := [("errors.errorType", Rows.laid_errors_errorType)]) (List.mem_singleton.2 rfl) hL.2⟩

set_option maxRecDepth 100000 in
/-- WHAT THE WALK GIVES, FOR EVERY ARGUMENT WITHIN THE BOUND AND EVERY WORLD THAT HOLDS THE TABLES. -/
theorem codes_contract (H : Type) (enc : TypeId × Value → H) (W : World) (base : Nat) (args : Array Value) (ds gs : List (DataW H)) (before : List MemPlace)
    (hval : ∀ (j : Nat) t v, Tryz.f4.params[j]? = some t → args[j]? = some v → Value.okWide Tryz.prog W .any base t v)
    (hW : DataW.Whole enc Tryz.prog Tryz.f4.params.toList Rows.codesSpec.vars false W args.toList ds gs before) (hL : laidMetH Tryz.prog Rows.codesUptoRow.laid W) (hk : Rows.uptoSmall H (ds ++ gs) = true) :
    Calls Tryz.prog 4 args W fun e W' => ∃ v, e = .returned v ∧ Rows.codesSpec.post enc Tryz.prog Tryz.f4 false true false false W args v W' := by
  obtain ⟨⟨sent, hF⟩, hT⟩ := params_ok hL
  have hW' := hW
  obtain ⟨p, q, hA0, hV, rfl, hfz, hnd⟩ := hW
  have hA : DataW.TrodAll enc Tryz.prog W 0 (fun _ => true) true Tryz.f4.params.toList args.toList ds p := hA0
  rw [Tryz.params4] at hA hval
  obtain ⟨v0, vs0, d0, ds0, p0, q0, hargs, rfl, rfl, h0, r0⟩ := trodAll_cons hA
  obtain ⟨rfl, rfl, rfl⟩ := trodAll_nil r0
  obtain rfl : args = #[v0] := by cases args; simp_all
  obtain ⟨rfl, rfl⟩ := trodVars_none hV
  obtain ⟨a0, len, cap, rfl⟩ := okWide_slice Tryz.underlying22 (hval 0 22 v0 rfl rfl)
  have h0k := h0
  obtain ⟨fuel, hf⟩ := h0
  clear hA0
  simp only [List.append_nil] at hW' hk
  have hlt : ∀ x ∈ p0, x.block < W.heap.size := fun x hx => by simpa using hW'.lt x hx
  have fin : ∀ W' : World, Below W.heap.size W W' → Rows.codesSpec.post enc Tryz.prog Tryz.f4 false true false false W #[.slice a0 len cap] (.bool true) W' := by
    intro W' hnx
    refine ⟨[d0], [], _, [] ++ [], p0 ++ [], [], hW', ?_, ?_, ?_, hnx.frame _, fun h => by cases h⟩
    · exact trodAll_cons_mk (shut_bool Tryz.underlying4 true) trodAll_mk0
    · exact trodAll_cons_mk (Below.trod laidOut (by kernel_rfl) (of_decide_eq_true (by kernel_rfl)) h0k hnx hlt) trodAll_mk0
    · rfl
  rcases Go.Deep.open_slice Tryz.underlying22 hf with ⟨hcs, hx⟩ | ⟨a, len', cap', m, n, D, Pl, hcs, _, hlc, hcm, hm, hx, hel⟩
  · simp [Value.cells] at hcs
    obtain ⟨rfl, rfl, rfl⟩ := hcs
    refine (codes_any none 0 0 W sent hF hT (by omega) (fun i hi => by omega)).mono fun e W' ⟨he, hnx⟩ => ?_
    subst he
    exact ⟨_, rfl, fin _ hnx⟩
  · simp [Value.cells] at hcs
    obtain ⟨rfl, rfl, rfl⟩ := hcs
    simp only [if_true] at hm
    subst hm
    simp only [Prod.mk.injEq] at hx
    obtain ⟨rfl, rfl⟩ := hx
    have hbulk : Rows.uptoBulkAll [DataW.slice (H := H) ((List.range len).map D) ((List.range (m - len)).map fun j => D (len + j))] ≤ 1048576 := of_decide_eq_true hk
    simp only [Rows.uptoBulkAll, Rows.uptoBulk] at hbulk
    have hb1 := bulkAll_length ((List.range len).map D)
    rw [List.length_map, List.length_range] at hb1
    have hS : ScriptX W (some a) len := by
      intro i hi
      obtain ⟨cs, hc1, hc2⟩ := hel i (by omega)
      obtain ⟨_, hcl, hcc⟩ := World.cells?_some hc1
      obtain ⟨kd, s, fl, xe, aa, nn, r, hop, hsz, hRT, hrs⟩ := op_of_trod hc2
      have hmem : D i ∈ (List.range len).map D := List.mem_map.2 ⟨i, List.mem_range.2 hi, rfl⟩
      have hb2 := bulkAll_mem hmem
      simp only at hsz hrs
      rw [cellsOp] at hcl hcc
      obtain ⟨b, off, spot⟩ := a
      obtain ⟨cs0, hc01, _⟩ := hel 0 (by omega)
      obtain ⟨_, hcl0, hcc0⟩ := World.cells?_some hc01
      rw [cellsOp] at hcl0 hcc0
      have hv00 := hcc0 0 (by omega)
      rw [List.getElem?_eq_getElem (by omega)] at hv00
      have hspot : spot = none := by simpa [Addr.add] using World.cell?_spot hv00
      subst hspot
      have hc0 := hcc 0 (by omega)
      have hv0 : cs[0]? = some (.int .i64 kd) := by have := hop.k; simpa using this
      rw [hv0] at hc0
      have hbW : b < W.heap.size := by
        have := World.block_lt_of_cell? W _ hc0
        simpa [Addr.add_mid] using this
      refine ⟨b, off, cs.toArray, kd, s, fl, xe, aa, nn, r, rfl, hbW, hop, by omega, hRT, by omega, fun j v hv => ?_⟩
      have hj : j < 160 := by
        have := (List.getElem?_eq_some_iff.1 hv).1
        simpa [hcl] using this
      have hcj := hcc j hj
      rw [Addr.add_mid, Addr.add_mid] at hcj
      rw [hcj, ← hv]
    refine (codes_any (some a) len m W sent hF hT (by omega) hS).mono fun e W' ⟨he, hnx⟩ => ?_
    subst he
    exact ⟨_, rfl, fin _ hnx⟩
end Go.Proofs.YtjiikjpnlgogfaaGreatDoor

namespace Go.Proofs.YtjiikjpnlgogfaaGreatDoor
open Go.ChangeShapes Go.WideShapes Go.ChangeAt Go.RowKit

set_option maxRecDepth 100000 in
/-- THE SECOND FORM's STEP. -/
theorem liftedUpto (os : Os) (started : os.Started) (H : Type) (enc : TypeId × Value → H) (F : Stop.Interp) :
    ReturnsInHanded {} Tryz.checked os 4 .any ((Rows.OpenSpec.upto Rows.codesSpec).preRow enc Tryz.prog Tryz.f4 Rows.codesUptoRow.domain false Rows.codesUptoRow.laid) (((Rows.OpenSpec.upto Rows.codesSpec).at F).post enc Tryz.prog Tryz.f4 false true false false) := by
  obtain ⟨places, hx⟩ := reads os enc
  refine returnsInHanded_of_row (C := Tryz.checked) (s := Rows.OpenSpec.upto Rows.codesSpec) own started (by kernel_rfl) Tryz.func4
    (witness_row_at (enc := enc) (C := Tryz.checked) false (laidWorld os) #[.slice none 0 0] rfl (by kernel_rfl) (by kernel_rfl) (by kernel_rfl)
      (OpenSpec.preRow_of_cond 8 hx (by kernel_rfl) (fun k hk => by cases hk; kernel_rfl) (by kernel_rfl) (laid_met os))) ?_
  intro W base args ds gs before hval hW _ hcond _ hL _ _
  exact codes_contract H enc W base args ds gs before hval hW hL (hcond _ rfl)
end Go.Proofs.YtjiikjpnlgogfaaGreatDoor

namespace Go.Proofs.YtjiikjpnlgogfaaGreatDoor
open Go.ChangeShapes Go.WideShapes Go.ChangeAt Go.RowKit

theorem saidUpto : Rows.CodesUptoSaid :=
  OpenClaim.holds_of_cond 4 Tryz.f4 rfl rfl rfl rfl rfl rfl rfl ⟨rfl, rfl, rfl, rfl, rfl⟩ rfl rfl rfl rfl rfl (by as_aux_lemma => kernel_rfl) Tryz.func4 closedCodes
    (of_decide_eq_true (by as_aux_lemma => kernel_rfl)) (by unfold Func.isWrapper; first | (rw [if_pos (by decide +kernel)]; kernel_rfl) | (rw [if_neg (by decide +kernel)]; exact ⟨rfl, rfl⟩))
    (fun os started H enc _ F => by rw [OpenClaim.pre_eq_preRow]; exact liftedUpto os started H enc F)
end Go.Proofs.YtjiikjpnlgogfaaGreatDoor
