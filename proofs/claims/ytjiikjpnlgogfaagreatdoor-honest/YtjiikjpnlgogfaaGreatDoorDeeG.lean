/-
  The map of rows that were gone through: keys are a row's first item's address, and how many there are.
  tooDeep of package item, where nothing is too deep.
-/
import Derived.Test.YtjiikjpnlgogfaaGreatDoorBarG
import Derived.Test.YtjiikjpnlgogfaaGreatDoorEncG
import Derived.Test.YtjiikjpnlgogfaaGreatDoorSmaG
import Derived.LaidEql
import Derived.Laws.StructEq
import Derived.MapKept
namespace Go.Proofs.YtjiikjpnlgogfaaGreatDoor
open Go.RowKit

abbrev rowKey (b n : Nat) : Value := .agg #[.pointer (some ⟨b, 0, none⟩), .int .i64 (n : Int)]

theorem rowFields : ((Tryz.prog.fieldsOf 250).toList.map fun f => (f.name == "_", f.type, f.offset)) = [(false, 248, 0), (false, 3, 1)] := by kernel_rfl
theorem rowStruct : Tryz.prog.underlying 250 = some (.struct (Tryz.prog.fieldsOf 250)) := by kernel_rfl
theorem rowStood : Tryz.prog.stoodInHeld 250 = false := by kernel_rfl
theorem part0 (a b : Value) (w : World) : (part 248 #[a, b] 0).run Tryz.prog w = .ok a w := by kernel_rfl
theorem part1 (a b : Value) (w : World) : (part 3 #[a, b] 1).run Tryz.prog w = .ok b w := by kernel_rfl
theorem itemSize : (Tryz.prog.info? 45).map (·.size) = some 3 := by kernel_rfl

theorem key_eq {a b : Nat} (m n : Nat) {w : World} (ha : Plain w a) (hb : Plain w b) (d : Nat) : (Op.equalIn (d + 2) 250 (rowKey a m) (rowKey b n)).run Tryz.prog w = .ok (decide (a = b ∧ m = n)) w := by
  rw [run_equalIn_struct (P := Tryz.prog) w (d + 1) _ _ _ rowStruct rowStood]
  obtain ⟨f0, f1, hl, h0, h1⟩ : ∃ f0 f1, (Tryz.prog.fieldsOf 250).toList = [f0, f1] ∧ (f0.name == "_", f0.type, f0.offset) = (false, 248, 0) ∧ (f1.name == "_", f1.type, f1.offset) = (false, 3, 1) := by
    have h := rowFields
    match hl : (Tryz.prog.fieldsOf 250).toList with
    | [] => rw [hl] at h; simp at h
    | [f0] => rw [hl] at h; simp at h
    | [f0, f1] =>
      rw [hl] at h
      simp only [List.map_cons, List.map_nil, List.cons.injEq, and_true] at h
      exact ⟨f0, f1, rfl, h.1, h.2⟩
    | f0 :: f1 :: f2 :: r => rw [hl] at h; simp at h
  simp only [Prod.mk.injEq, beq_eq_false_iff_ne] at h0 h1
  obtain ⟨n0, t0, o0⟩ := h0
  obtain ⟨n1, t1, o1⟩ := h1
  obtain ⟨j, hj, hjs⟩ := Option.map_eq_some_iff.1 itemSize
  obtain ⟨ca, ta, ha⟩ := ha
  obtain ⟨cb, tb, hb⟩ := hb
  have hpe : (Op.equalIn (d + 1) 248 (.pointer (some ⟨a, 0, none⟩)) (.pointer (some ⟨b, 0, none⟩))).run Tryz.prog w = .ok (decide (a = b)) w := by
    by_cases hab : a = b
    · subst hab
      simp [Op.equalIn, run_underlying Tryz.underlying248, sizeOf, typeInfo, hj, run_sameAddr_same]
    · have hne : (⟨a, 0, none⟩ : Addr) ≠ ⟨b, 0, none⟩ := fun e => hab (congrArg Addr.block e)
      simp [Op.equalIn, run_underlying Tryz.underlying248, sizeOf, typeInfo, hj, hjs, run_sameAddr_other w hne ha hb, hab]
  have hie : (Op.equalIn (d + 1) 3 (.int .i64 (m : Int)) (.int .i64 (n : Int))).run Tryz.prog w = .ok (decide (m = n)) w := by
    simp [Op.equalIn, run_underlying Tryz.underlying3]
    by_cases hmn : m = n
    · simp [hmn]
    · rw [decide_eq_false hmn]
      simpa using fun e : (m : Int) = (n : Int) => hmn (Int.ofNat.inj e)
  rw [hl]
  simp only [Op.eqFields, t0, t1, o0, o1, ne_eq, n0, n1, not_false_eq_true, if_true, Sem.run_bind, part0, Result.andThen_ok, hpe]
  by_cases hab : a = b
  · simp only [hab, decide_true, Bool.not_true, Bool.false_eq_true, if_false, Sem.run_bind, part1, Result.andThen_ok, hie, true_and]
    by_cases hmn : m = n
    · simp [hmn]
    · simp [hmn]
  · simp [hab]

/-- A key's map, as tooDeep keeps it. -/
def KeyOK (w : World) (e : MapEntry) : Prop := ∃ b n : Nat, ∃ v : Int, e.key = rowKey b n ∧ Plain w b ∧ e.val = .int .i64 v
def MapOK (w : World) (mb : Nat) : Prop := ∃ es clock, w.heap[mb]? = some (.map es clock) ∧ ∀ e ∈ es.toList, KeyOK w e

theorem equal_eq (t : TypeId) (x y : Value) : Op.equal t x y = Op.equalIn (9998 + 2) t x y := rfl

theorem find_any {a m : Nat} {w : World} (ha : Plain w a) : ∀ (es : List MapEntry) (i : Nat), (∀ e ∈ es, KeyOK w e) →
    ((Instr.findAsking 250 (rowKey a m) es i).run Tryz.prog w = .ok none w) ∨ ∃ j e, (Instr.findAsking 250 (rowKey a m) es i).run Tryz.prog w = .ok (some (i + j, e.val)) w ∧ es[j]? = some e ∧ e.key = rowKey a m := by
  intro es
  induction es with
  | nil => intro i _; exact .inl rfl
  | cons e es ih =>
    intro i h
    obtain ⟨b, n, v, hk, hb, hv⟩ := h e (by simp)
    rw [Instr.findAsking, hk, equal_eq]
    simp only [Sem.run_bind, key_eq m n ha hb, Result.andThen_ok]
    by_cases hab : a = b ∧ m = n
    · obtain ⟨rfl, rfl⟩ := hab
      refine .inr ⟨0, e, by simp, rfl, hk⟩
    · simp only [hab, decide_false, Bool.false_eq_true, if_false]
      rcases ih (i + 1) (fun e he => h e (by simp [he])) with h1 | ⟨j, e', h1, h2, h3⟩
      · exact .inl h1
      · exact .inr ⟨j + 1, e', by rw [h1]; simp; omega, by simpa using h2, h3⟩

theorem rowCheck (em : Bool) (a n : Nat) (w : World) : (Instr.checkKey em 10000 250 (rowKey a n)).run Tryz.prog w = .ok () w := by kernel_rfl

theorem findKey_eq {a m : Nat} (es : List MapEntry) (w : World) (h : ∀ e ∈ es, KeyOK w e) : (Instr.findKey 250 (rowKey a m) es).run Tryz.prog w = (Instr.findAsking 250 (rowKey a m) es).run Tryz.prog w := by
  unfold Instr.findKey
  simp only [Sem.run_bind, run_underlying rowStruct, Result.andThen_ok]
  cases es with
  | nil => rfl
  | cons e es =>
    have : Instr.findNow (.struct (Tryz.prog.fieldsOf 250)) (rowKey a m) (e :: es) 0 = none := by
      unfold Instr.findNow
      rfl
    rw [this]

theorem lookup_any {a m mb : Nat} {w : World} (ha : Plain w a) (hM : MapOK w mb) : ∃ v : Int, (Instr.lookup 179 (.map (some mb)) (rowKey a m) false).run Tryz.prog w = .ok (.int .i64 v) w := by
  obtain ⟨es, clock, hm, hk⟩ := hM
  unfold Instr.lookup
  have hf := findKey_eq (a := a) (m := m) es.toList w hk
  rcases find_any (m := m) ha es.toList 0 hk with h | ⟨j, e, h, hj, _⟩
  · refine ⟨0, ?_⟩
    simp [Sem.run_bind, run_underlying Tryz.underlying179, MapKept.run_getObj_map hm, rowCheck, hf, h]
  · obtain ⟨_, _, v, _, _, hv⟩ := hk e (List.mem_of_getElem? hj)
    refine ⟨v, ?_⟩
    simp [Sem.run_bind, run_underlying Tryz.underlying179, MapKept.run_getObj_map hm, rowCheck, hf, h, hv]

theorem sameBits_key (a m : Nat) : Instr.sameBits 10000 (rowKey a m) (rowKey a m) = true := by
  simp [Instr.sameBits]

theorem KeyOK.keep {w w' : World} {e : MapEntry} (h : KeyOK w e) (hb : ∀ b, Plain w b → w'.heap[b]? = w.heap[b]?) : KeyOK w' e := by
  obtain ⟨b, n, v, h1, h2, h3⟩ := h
  exact ⟨b, n, v, h1, h2.keep (hb b h2), h3⟩

theorem update_any {a m mb : Nat} {w : World} (v : Int) (ha : Plain w a) (hM : MapOK w mb) : ∃ w', (Instr.mapUpdate 179 (.map (some mb)) (rowKey a m) (.int .i64 v)).run Tryz.prog w = .ok () w' ∧ MapOK w' mb ∧ w'.os = w.os ∧ w'.tape = w.tape ∧ w'.output = w.output ∧ w'.heap.size = w.heap.size ∧ ∀ k, k ≠ mb → w'.heap[k]? = w.heap[k]? := by
  obtain ⟨es, clock, hm, hk⟩ := hM
  have hmb : mb < w.heap.size := (Array.getElem?_eq_some_iff.1 hm).1
  have hf := findKey_eq (a := a) (m := m) es.toList w hk
  have hother : ∀ (o : Obj) (k : Nat), k ≠ mb → ({ w with heap := w.heap.setIfInBounds mb o } : World).heap[k]? = w.heap[k]? := fun o k hne => by
    simp only [Array.getElem?_setIfInBounds]
    rw [if_neg (fun e => hne e.symm)]
  have hself : ∀ (o : Obj), ({ w with heap := w.heap.setIfInBounds mb o } : World).heap[mb]? = some o := fun o => by
    simp only [Array.getElem?_setIfInBounds, if_true, hmb]
  have hpl : ∀ (o : Obj) b, Plain w b → ({ w with heap := w.heap.setIfInBounds mb o } : World).heap[b]? = w.heap[b]? := fun o b hb => by
    refine hother o b (fun e => ?_)
    obtain ⟨c, t, hb⟩ := hb
    rw [e, hm] at hb
    cases hb
  unfold Instr.mapUpdate
  rcases find_any (m := m) ha es.toList 0 hk with h | ⟨j, e, h, hj, hkey⟩
  · refine ⟨_, by simp [Sem.run_bind, run_underlying Tryz.underlying179, MapKept.run_getObj_map hm, rowCheck, hf, h, MapKept.run_setObj_map _ hm]; rfl, ⟨_, _, hself _, fun e he => ?_⟩, rfl, rfl, rfl, by simp, fun k hne => hother _ k hne⟩
    rw [Array.toList_push] at he
    rcases List.mem_append.1 he with he | he
    · exact (hk e he).keep (hpl _)
    · obtain rfl := List.mem_singleton.1 he
      exact ⟨a, m, v, rfl, ha.keep (hpl _ a ha), rfl⟩
  · have hj' : es[j]? = some e := by simpa using hj
    have hst : ∀ w : World, (Instr.keyThatStays (((es[j]?).map (·.key)).getD (rowKey a m)) (rowKey a m)).run Tryz.prog w = .ok (rowKey a m) w := by
      intro w
      rw [hj']
      unfold Instr.keyThatStays
      simp only [Option.map_some, Option.getD_some, hkey]
      rw [sameBits_key]
      rfl
    refine ⟨_, by simp [Sem.run_bind, run_underlying Tryz.underlying179, MapKept.run_getObj_map hm, rowCheck, hf, h, MapKept.run_setObj_map _ hm, hst]; rfl, ⟨_, _, hself _, fun e he => ?_⟩, rfl, rfl, rfl, by simp, fun k hne => hother _ k hne⟩
    have : e ∈ (es.modify j fun e => { key := rowKey a m, val := .int .i64 v, born := e.born }).toList := he
    rw [Array.toList_modify] at this
    obtain ⟨i, hi, hie⟩ := List.mem_iff_getElem.1 this
    rw [List.getElem_modify] at hie
    split at hie
    · rw [← hie]
      exact ⟨a, m, v, rfl, ha.keep (hpl _ a ha), rfl⟩
    · rw [← hie]
      exact (hk _ (List.getElem_mem _)).keep (hpl _)
end Go.Proofs.YtjiikjpnlgogfaaGreatDoor

namespace Go.Proofs.YtjiikjpnlgogfaaGreatDoor
open Go.RowKit

/-- What tooDeep leaves, where it says no. -/
def DeepSaid (mb : Nat) (W : World) (e : Ending) (w' : World) : Prop := e = .returned (.bool false) ∧ Only mb W w' ∧ MapOK w' mb

theorem MapOK.below {w w' : World} {mb : Nat} (h : MapOK w mb) (hb : Below w.heap.size w w') : MapOK w' mb := by
  obtain ⟨es, clock, hm, hk⟩ := h
  have hmb : mb < w.heap.size := (Array.getElem?_eq_some_iff.1 hm).1
  exact ⟨es, clock, (hb.block mb hmb).trans hm, fun e he => (hk e he).keep fun b hb' => hb.block b hb'.lt⟩
theorem MapOK.lt {w : World} {mb : Nat} (h : MapOK w mb) : mb < w.heap.size := by
  obtain ⟨es, clock, hm, _⟩ := h
  exact (Array.getElem?_eq_some_iff.1 hm).1
theorem MapOK.alloc {w : World} {mb : Nat} (h : MapOK w mb) (o : Obj) : MapOK (w.alloc o) mb := h.below ((Below.refl _ _).alloc (Nat.le_refl _) o)

/-- Gone through so far. -/
def DHalf (mb gr m : Nat) (w wr : World) : Prop :=
  Only mb w wr ∧ MapOK wr mb ∧ w.heap.size < wr.heap.size ∧ wr.cell? ⟨w.heap.size, 0, none⟩ = some (.pointer (some ⟨gr, 0, none⟩)) ∧ wr.cell? ⟨w.heap.size, 1, none⟩ = some (.int .i64 (m : Int))
theorem DHalf.alloc {mb gr m : Nat} {w wr : World} (h : DHalf mb gr m w wr) (o : Obj) : DHalf mb gr m w (wr.alloc o) := by
  obtain ⟨h1, h2, h3, h4, h5⟩ := h
  exact ⟨h1.alloc o, h2.alloc o, by simp; omega, (World.cell?_alloc_past _ _ _ h3).trans h4, (World.cell?_alloc_past _ _ _ h3).trans h5⟩

theorem DHalf.only {mb gr m : Nat} {w wr w1 : World} (h : DHalf mb gr m w wr) (ho : Only mb wr w1) (hM : MapOK w1 mb) (hne : w.heap.size ≠ mb) : DHalf mb gr m w w1 := by
  obtain ⟨h1, h2, h3, h4, h5⟩ := h
  have e := ho.block w.heap.size h3 hne
  exact ⟨h1.trans ho, hM, Nat.lt_of_lt_of_le h3 ho.size, (World.cell?_of_block e).trans h4, (World.cell?_of_block e).trans h5⟩

set_option maxRecDepth 100000 in
set_option maxHeartbeats 3200000 in
theorem deep_body (mb dp : Nat) (q : Option Addr) (m c : Nat) (ps : List (El × List Nat)) (F : Nat → Prop) (w0 w : World) (hdp : dp ≤ 6) (hm : m = ps.length) (hm2 : m ≤ 1048576) (hrow : RowAt w0 F (.slice q m c) ps.length (ps.flatMap fun x => encI x.1)) (hsub : ∀ x ∈ ps, ∃ p m c, x.1.sub = .slice p m c)
    (hb : Below w0.heap.size w0 w) (hM : MapOK w mb) (hmb : w0.heap.size ≤ mb)
    (hN : ∀ x ∈ ps, x.1.lst = true → ∀ W, Below w0.heap.size w0 W → MapOK W mb → Calls Tryz.prog 90 #[.map (some mb), x.1.sub, .int .i64 ((dp + 1 : Nat) : Int)] W (DeepSaid mb W)) :
    Calls Tryz.prog 90 #[.map (some mb), .slice q m c, .int .i64 (dp : Int)] w (DeepSaid mb w) := by
  have hd6 : (dp : Int) ≤ 6 := by omega
  by_cases h0 : m = 0
  · subst h0
    have A : Aside (Below w0.heap.size w0 w ∧ MapOK w mb) := ⟨hb, hM⟩
    clear hN hrow hsub hm hb hM
    go_enter Tryz.func90, Tryz.ntmps90
    go_wp2
    go_ret
    exact ⟨rfl, Only.refl _ _, A.out.2⟩
  · obtain ⟨gr, cap, er, hcap, hFg, hgs, hpl, hcells⟩ := hrow.cells (size := 3) (fun _ => rfl) (by omega)
    obtain ⟨rfl, _⟩ : q = some ⟨gr, 0, none⟩ ∧ True := by
      simp only [Value.slice.injEq] at er
      exact ⟨er.1, trivial⟩
    have hplw : Plain w gr := hpl.keep (hb.block gr hgs)
    have h0i : ((m : Int) == 0) = false := by simp; omega
    have h0p : (0 : Int) < (m : Int) := by omega
    obtain ⟨vl, hvl⟩ := lookup_any (m := m) (hplw.keep (Below.heap_alloc w (.cells #[.pointer (some ⟨gr, 0, none⟩), .int .i64 (m : Int)] 250) gr hplw.lt)) (hM.alloc (.cells #[.pointer (some ⟨gr, 0, none⟩), .int .i64 (m : Int)] 250))
    have hvl : (Instr.lookup 179 (.map (some mb)) (.agg #[.pointer (some ⟨gr, 0, none⟩), .int .i64 (m : Int)]) false).run Tryz.prog (w.alloc (.cells #[.pointer (some ⟨gr, 0, none⟩), .int .i64 (m : Int)] 250)) = .ok (.int .i64 vl) (w.alloc (.cells #[.pointer (some ⟨gr, 0, none⟩), .int .i64 (m : Int)] 250)) := hvl
    have A : Aside (Below w0.heap.size w0 w ∧ MapOK w mb ∧ Plain w0 gr ∧ m = ps.length ∧ m ≤ 1048576 ∧ w0.heap.size ≤ mb ∧ gr < w0.heap.size) := ⟨hb, hM, hpl, hm, hm2, hmb, hgs⟩
    have HN := Hid.hide hN
    have HS := Hid.hide hsub
    have HCs := Hid.hide hcells
    clear hN hsub hcells hb hM hm hm2 hrow er hplw hFg hpl hmb hgs
    by_cases hge : (dp : Int) ≤ vl
    · go_enter Tryz.func90, Tryz.ntmps90
      go_wp2
      go_ret
      exact ⟨rfl, (Only.refl _ _).alloc _, A.out.2.1.alloc _⟩
    · have hlt : vl < (dp : Int) := by omega
      go_enter Tryz.func90, Tryz.ntmps90
      go_wp2
      go_loopg [27] m (fun gh i wr => ∃ k, k ≤ m ∧ gh = m - k ∧ i = .int .i64 (k : Int) ∧ DHalf mb gr m w wr)
      case atStart => exact ⟨0, Nat.zero_le _, rfl, rfl, (Only.refl _ _).alloc _, A.out.2.1.alloc _, by simp, by rw [World.cell?_alloc_new]; rfl, by rw [World.cell?_alloc_new]; rfl⟩
      case round =>
        obtain ⟨k, hk, rfl, rfl, hD⟩ := hrel
        obtain ⟨hO, hMr, hwr, k0, k1⟩ := hD
        by_cases hlt2 : k < m
        · have hki : (k : Int) < (m : Int) := by omega
          have hkp : k < ps.length := by have := A.out.2.2.2.1; omega
          have hBr : Below w0.heap.size w0 wr := hO.below A.out.1 A.out.2.2.2.2.2.1 A.out.1.size
          have hq := List.getElem_mem hkp
          obtain ⟨x, hqe⟩ : ∃ x, ps[k] = x := ⟨_, rfl⟩
          obtain ⟨⟨fr', en', l', tx', sub'⟩, x'⟩ := x
          rw [hqe] at hq
          obtain ⟨p', m', c', hs'⟩ := HS.out _ hq
          simp only at hs'
          subst hs'
          have hrk := HCs.out k hkp
          rw [hqe] at hrk
          have hge := hBr.block gr A.out.2.2.2.2.2.2
          have r0 : wr.cell? ⟨gr, k * 3, none⟩ = some (.bool l') := (World.cell?_of_block hge).trans (hrk 0 _ rfl)
          have r1 : wr.cell? ⟨gr, k * 3 + 1, none⟩ = some (.string tx') := (World.cell?_of_block hge).trans (hrk 1 _ rfl)
          have r2 : wr.cell? ⟨gr, k * 3 + 2, none⟩ = some (.slice p' m' c') := (World.cell?_of_block hge).trans (hrk 2 _ rfl)
          have HC : Hid (l' = true → ∀ o, Calls Tryz.prog 90 #[.map (some mb), .slice p' m' c', .int .i64 ((dp + 1 : Nat) : Int)] (wr.alloc o) (DeepSaid mb (wr.alloc o))) := fun hl o => HN.out _ hq hl (wr.alloc o) (hBr.alloc hBr.size o) (hMr.alloc o)
          have A1 : Aside (DHalf mb gr m w wr) := ⟨hO, hMr, hwr, k0, k1⟩
          have hdw : wrap64 ((dp : Int) + 1) = ((dp + 1 : Nat) : Int) := wrap64_succ dp (by omega)
          clear hrk hge hqe hq hBr hO hMr hwr k0 k1
          cases l' with
          | false =>
            go_wp2
            go_roundg (m - (k + 1))
            case measure => omega
            case rel => exact ⟨k + 1, by omega, rfl, by rw [wrap64_succ k (by have := A.out.2.2.2.2.1; omega)], A1.out.alloc _⟩
          | true =>
            have HC2 := Hid.hide (HC.out rfl)
            clear HC
            go_wp2_with fail
            refine (HC2.out _).mono ?_
            rintro e w1 ⟨rfl, hO1, hM1⟩
            have A2 : Aside (DHalf mb gr m w w1) := DHalf.only (A1.out.alloc _) hO1 hM1 (Nat.ne_of_gt A.out.2.1.lt)
            clear hO1 hM1
            go_wp2
            go_roundg (m - (k + 1))
            case measure => omega
            case rel => exact ⟨k + 1, by omega, rfl, by rw [wrap64_succ k (by have := A.out.2.2.2.2.1; omega)], A2.out⟩
        · have hki : (m : Int) ≤ (k : Int) := by omega
          have hplr : Plain wr gr := A.out.2.2.1.keep ((hO.below A.out.1 A.out.2.2.2.2.2.1 A.out.1.size).block gr A.out.2.2.2.2.2.2)
          obtain ⟨w2, hu, hM2, e1, e2, e3, e4, e5⟩ := update_any (m := m) (dp : Int) hplr hMr
          have hu : (Instr.mapUpdate 179 (.map (some mb)) (.agg #[.pointer (some ⟨gr, 0, none⟩), .int .i64 (m : Int)]) (.int .i64 (dp : Int))).run Tryz.prog wr = .ok () w2 := hu
          have A1 : Aside (Only mb w w2 ∧ MapOK w2 mb) := ⟨hO.trans ⟨e1, e2, e3, Nat.le_of_eq e4.symm, fun k _ hne => e5 k hne⟩, hM2⟩
          clear hO hMr hwr hplr hM2 e1 e2 e3 e4 e5 hlt2
          go_wp2
          go_ret
          exact ⟨rfl, A1.out.1, A1.out.2⟩

/-- tooDeep: of items of at most n lists in one another. -/
theorem deep_any : ∀ (n dp mb : Nat) (q : Option Addr) (m c : Nat) (ps : List (El × List Nat)) (F : Nat → Prop) (w0 w : World), dp + n ≤ 6 → m = ps.length → (∀ x ∈ ps, Tree encI kC n w0 F x.1 x.2) → (flatCodes ps).length ≤ 1048576 → RowAt w0 F (.slice q m c) ps.length (ps.flatMap fun x => encI x.1) →
    Below w0.heap.size w0 w → MapOK w mb → w0.heap.size ≤ mb → Calls Tryz.prog 90 #[.map (some mb), .slice q m c, .int .i64 (dp : Int)] w (DeepSaid mb w) := by
  intro n
  induction n with
  | zero =>
    intro dp mb q m c ps F w0 w hd hm ht hl hrow hb hM hmb
    have hcnt := flatCodes_count ps (fun x hx => (ht x hx).code_pos)
    refine deep_body mb dp q m c ps F w0 w (by omega) hm (by omega) hrow (fun x hx => (ht x hx).sub) hb hM hmb (fun x hx hlst W hW hMW => ?_)
    have := (ht x hx).1.1
    rw [hlst] at this
    cases this
  | succ n ih =>
    intro dp mb q m c ps F w0 w hd hm ht hl hrow hb hM hmb
    have hcnt := flatCodes_count ps (fun x hx => (ht x hx).code_pos)
    refine deep_body mb dp q m c ps F w0 w (by omega) hm (by omega) hrow (fun x hx => (ht x hx).sub) hb hM hmb (fun x hx hlst W hW hMW => ?_)
    rcases ht x hx with h | ⟨_, qs, h2, h3, h4, h5⟩
    · have := h.1.1
      rw [hlst] at this
      cases this
    · have h6 := flatCodes_mem hx
      have h5 : x.2 = listCode (flatCodes qs) := by rw [h5]; unfold flatCodes; rw [List.flatMap_def]
      have h7 := listCode_le (flatCodes qs)
      rw [h5] at h6
      obtain ⟨q', m', c', hs, hm'⟩ : ∃ q m c, x.1.sub = .slice q m c ∧ m = qs.length := by
        rcases h2 with ⟨h, h', _⟩ | ⟨g, cap, h, _⟩
        · exact ⟨_, _, _, h, h'.symm⟩
        · exact ⟨_, _, _, h, rfl⟩
      rw [hs] at h2 ⊢
      exact ih (dp + 1) mb q' m' c' qs F w0 W (by omega) hm' h3 (by omega) h2 hW hMW hmb
end Go.Proofs.YtjiikjpnlgogfaaGreatDoor
