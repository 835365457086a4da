/-
  Package twigsref: ends (a path, a value; or a stub) in rows; begins, path.
  Package twigsref: cut (of some ends those whose path begins with a path, without it), without (all ends but one).
  Package twigsref: meets, find: of ends without stubs.
  Package twigsref: shared (how many nibbles all paths have in common), kind (of the node of some ends), of ends without stubs.
-/
import Derived.Test.YtjiikjpnlgogfaaGreatDoorMqTreB
import Derived.Test.YtjiikjpnlgogfaaGreatDoorMqText
import Derived.Great.BuildSlice
import Derived.BigQuiet
namespace Go.Proofs.YtjiikjpnlgogfaaGreatDoor
open Go.RowKit

/-- An end of a way. -/
structure Ed where
  path : ByteArray
  val : ByteArray
  stub : Bool
  sum : Fin 32 → Nat
def encE (x : Ed) : List Value := .string x.path :: .string x.val :: .bool x.stub :: (List.ofFn x.sum).map encB
theorem encE_len (x : Ed) : (encE x).length = 35 := by simp [encE]
theorem encE_one (x : Ed) : ∀ u ∈ encE x, u.oneCell' = true := by
  intro u hu
  unfold encE at hu
  rcases List.mem_cons.1 hu with rfl | hu
  · rfl
  rcases List.mem_cons.1 hu with rfl | hu
  · rfl
  rcases List.mem_cons.1 hu with rfl | hu
  · rfl
  obtain ⟨n, _, rfl⟩ := List.mem_map.1 hu
  rfl
theorem flatE (l : List Ed) (i : Nat) (hi : i < l.length) (j : Nat) (hj : j < 35) : (l.flatMap encE)[i * 35 + j]? = (encE l[i])[j]? := by
  induction l generalizing i with
  | nil => simp at hi
  | cons x l ih =>
    rw [List.flatMap_cons]
    cases i with
    | zero => rw [Nat.zero_mul, Nat.zero_add, List.getElem?_append_left (by rw [encE_len]; exact hj)]; rfl
    | succ i => rw [List.getElem?_append_right (by rw [encE_len]; omega), encE_len, show (i + 1) * 35 + j - 35 = i * 35 + j by omega, ih i (by simpa using hi)]; rfl
/-- A row of ends. -/
abbrev Eds (w : World) (C : Nat) (v : Value) (l : List Ed) : Prop := OwnC w C 35 v l.length (l.flatMap encE)
theorem Eds.nil (w : World) (C : Nat) : Eds w C (.slice none 0 0) [] := OwnC.nil _ _ _
theorem Eds.len {w : World} {C : Nat} {p : Option Addr} {m c : Nat} {l : List Ed} (h : Eds w C (.slice p m c) l) : m = l.length := by
  rcases h.2 with ⟨h1, h2⟩ | ⟨g, cap, h1, _⟩
  · simp only [Value.slice.injEq] at h1; omega
  · simp only [Value.slice.injEq] at h1; exact h1.2.1
theorem Eds.row {w : World} {C : Nat} {v : Value} {l : List Ed} (h : Eds w C v l) {i : Nat} (hi : i < l.length) : ∃ g cap, v = .slice (some ⟨g, 0, none⟩) l.length cap ∧ C ≤ g ∧ g < w.heap.size ∧ w.rangeAt g (i * 35) (encE l[i]) := by
  obtain ⟨g, cap, e, h1, h2, h3, h4, h5, h6⟩ := h.full (by omega)
  refine ⟨g, cap, e, h1, h2, fun j u hu => ?_⟩
  have hj : j < 35 := by
    have := (List.getElem?_eq_some_iff.1 hu).1
    rwa [encE_len] at this
  have := h6 (i * 35 + j) u (by rw [flatE l i hi j hj]; exact hu)
  rwa [Nat.zero_add] at this
theorem Eds.path {w : World} {g i : Nat} {x : Ed} (h : w.rangeAt g (i * 35) (encE x)) : w.cell? ⟨g, i * 35, none⟩ = some (.string x.path) ∧ w.cell? ⟨g, i * 35 + 1, none⟩ = some (.string x.val) ∧ w.cell? ⟨g, i * 35 + 2, none⟩ = some (.bool x.stub) := ⟨h 0 _ rfl, h 1 _ rfl, h 2 _ rfl⟩

def zeroEnd : Value := .agg (encE ⟨⟨#[]⟩, ⟨#[]⟩, false, fun _ => 0⟩).toArray
theorem endZ : (Tryz.prog.info? 304).map (fun i => (i.zero, i.size, i.bytes)) = some (some zeroEnd, 35, 72) := by kernel_rfl
theorem endZs : zeroEnd.cells.size = 35 := by simp [zeroEnd, Value.cells, encE_len]
theorem sizeE : (Tryz.prog.info? 304).map (·.size) = some 35 := by
  obtain ⟨i, h1, _, h3, _⟩ := info_parts endZ
  rw [h1, Option.map_some, h3]
theorem run_build_end (w : World) (cs : Array Value) (h : cs.size = 35) : (Instr.buildSlice 135 1 #[(0, .agg cs)]).run Tryz.prog w = .ok (.slice (some ⟨w.heap.size, 0, none⟩) 1 1) (w.alloc (.cells cs 304)) := by
  obtain ⟨i, h1, h2, h3, h4⟩ := info_parts endZ
  refine run_buildSlice w _ 304 1 _ cs i _ Tryz.underlying135 h1 h2 (by rw [h3]; decide) (by rw [h3]; decide) ?_
  rw [h3]
  have := Great.fill_whole (s := 35) (by decide) [.agg cs] ((Array.range (1 * 35)).map (zeroEnd.cells[· % zeroEnd.cells.size]!)) (by simpa [Value.cells] using h) (by simp)
  simpa [Value.cells] using this

@[simp] theorem cells_aggE (cs : Array Value) : Value.cells (.agg cs) = cs := rfl
theorem wp_build_end (dst : Option Tmp) (x : Operand) (type : TypeId) (pos : String) (af : Array Edge) (gd : Option (Nat × Bool)) (a : Act) (w : World) (K : Act → World → Prop) (Q : Exit → Act → World → Prop)
    (hx : a.eval x = .agg (a.eval x).cells) (hs : (a.eval x).cells.size = 35) :
    Oper.wp Tryz.prog { dst := dst, op := .buildSlice 135 1 #[(0, x)], type := type, pos := pos, after := af, guard := gd } a w K Q = K (a.put dst (.slice (some ⟨w.heap.size, 0, none⟩) 1 1)) (w.alloc (.cells (a.eval x).cells 304)) := by
  generalize (a.eval x).cells = cs at hx hs ⊢
  have h := run_build_end w cs hs
  unfold Oper.wp execOp
  simp only [List.map_toArray, List.map_cons, List.map_nil, hx, Sem.run_bind, h, Result.andThen_ok]
  rfl

theorem begins_iff (s t : ByteArray) : begins t s ↔ t.size ≤ s.size ∧ s.extract 0 t.size = t := ⟨fun h => ⟨begins_le h, begins_cut h⟩, fun h => begins_of_cut h.2⟩
set_option maxRecDepth 100000 in
theorem rbegins_any (s t : ByteArray) (w : World) : Calls Tryz.prog 191 #[.string s, .string t] w fun e w' => e = .returned (.bool (decide (begins t s))) ∧ w' = w := by
  by_cases h1 : t.size ≤ s.size
  · have i1 : (t.size : Int) ≤ (s.size : Int) := by omega
    obtain ⟨u, hu⟩ : ∃ u, s.extract 0 t.size = u := ⟨_, rfl⟩
    have he : decide (begins t s) = decide (u = t) := by
      rw [decide_eq_decide, begins_iff, hu]
      exact ⟨fun h => h.2, fun h => ⟨h1, h⟩⟩
    rw [he]
    clear he h1
    by_cases e : u = t
    · subst e
      rw [decide_eq_true rfl]
      go_enter Tryz.func191, Tryz.ntmps191
      go_wp2
      go_ret
      exact ⟨rfl, rfl⟩
    · rw [decide_eq_false e]
      have e' : (u.toList == t.toList) = false := toList_ne' e
      go_enter Tryz.func191, Tryz.ntmps191
      go_wp2
      go_ret
      exact ⟨rfl, rfl⟩
  · have i1 : ¬ (t.size : Int) ≤ (s.size : Int) := by omega
    have he : decide (begins t s) = false := decide_eq_false fun h => h1 (begins_le h)
    rw [he]
    clear he h1
    go_enter Tryz.func191, Tryz.ntmps191
    go_wp2
    go_ret
    exact ⟨rfl, rfl⟩
end Go.Proofs.YtjiikjpnlgogfaaGreatDoor

namespace Go.Proofs.YtjiikjpnlgogfaaGreatDoor
open Go.RowKit

def Ed.cut (p : ByteArray) (x : Ed) : Ed := { x with path := x.path.extract p.size x.path.size }
def cutE (l : List Ed) (p : ByteArray) : List Ed := (l.filter fun x => decide (begins p x.path)).map (Ed.cut p)
theorem cutE_take_yes {l : List Ed} {p : ByteArray} {k : Nat} (hk : k < l.length) (h : begins p l[k].path) : cutE (l.take (k + 1)) p = cutE (l.take k) p ++ [l[k].cut p] := by
  rw [cutE, cutE, List.take_succ_eq_append_getElem hk, List.filter_append, List.map_append]
  simp [h]
theorem cutE_take_no {l : List Ed} {p : ByteArray} {k : Nat} (hk : k < l.length) (h : ¬ begins p l[k].path) : cutE (l.take (k + 1)) p = cutE (l.take k) p := by
  rw [cutE, cutE, List.take_succ_eq_append_getElem hk, List.filter_append, List.map_append]
  simp [h]
theorem cutE_len (l : List Ed) (p : ByteArray) : (cutE l p).length ≤ l.length := by
  rw [cutE, List.length_map]
  exact List.length_filter_le ..
/-- An end laid into a new block. -/
abbrev zEnd : Array Value := #[.string ⟨#[]⟩, .string ⟨#[]⟩, .bool false, .int .u8 0, .int .u8 0, .int .u8 0, .int .u8 0, .int .u8 0, .int .u8 0, .int .u8 0, .int .u8 0, .int .u8 0, .int .u8 0, .int .u8 0, .int .u8 0, .int .u8 0, .int .u8 0, .int .u8 0, .int .u8 0, .int .u8 0, .int .u8 0, .int .u8 0, .int .u8 0, .int .u8 0, .int .u8 0, .int .u8 0, .int .u8 0, .int .u8 0, .int .u8 0, .int .u8 0, .int .u8 0, .int .u8 0, .int .u8 0, .int .u8 0, .int .u8 0]
theorem laid_end (w : World) (x : Ed) :
    (w.alloc (.cells zEnd 304)).there w.heap.size 0 (encE x).toArray.size ∧ (Tryz.prog.info? 304).map (·.size) = some (encE x).toArray.size ∧ (Tryz.prog.info? 304).map (·.size) = some (encE x).length ∧ (encE x).toArray.all (·.oneCell') = true ∧
    Below w.heap.size w ((w.alloc (.cells zEnd 304)).setCells w.heap.size 0 (encE x)) ∧ ((w.alloc (.cells zEnd 304)).setCells w.heap.size 0 (encE x)).rangeAt w.heap.size 0 (encE x) ∧
    ((w.alloc (.cells zEnd 304)).setCells w.heap.size 0 (encE x)).heap.size = w.heap.size + 1 ∧ ((w.alloc (.cells zEnd 304)).setCells w.heap.size 0 (encE x)).frozen? ⟨w.heap.size, 0, none⟩ = false := by
  have ht : (w.alloc (.cells zEnd 304)).there w.heap.size 0 35 := there_new w _ 304 35 rfl
  have hb : Below w.heap.size w (w.alloc (.cells zEnd 304)) := (Below.refl _ _).alloc (Nat.le_refl _) _
  have hs : (w.alloc (.cells zEnd 304)).heap.size = w.heap.size + 1 := by simp
  generalize w.alloc (.cells zEnd 304) = w1 at ht hb hs
  have hl := encE_len x
  refine ⟨by simpa [hl] using ht, by rw [sizeE]; simp [hl], by rw [sizeE]; simp [hl], all_oneCell_toArray (encE_one x), below_setCells hb (Nat.le_refl _) _ _, World.rangeAt_setCells_same _ _ _ _ (by rw [hl]; exact ht), by rw [(size_setCells _ _ _ _).1]; exact hs, ?_⟩
  rw [World.frozen?_setCells]
  exact (ht 0 (by omega)).2
theorem range_set0 {w : World} {g : Nat} {v u : Value} {cs : List Value} (h : w.rangeAt g 0 (v :: cs)) : (w.setCell ⟨g, 0, none⟩ u).rangeAt g 0 (u :: cs) := by
  intro j x hx
  rw [Nat.zero_add]
  cases j with
  | zero =>
    have := h 0 v rfl
    rw [World.cell?_setCell_same _ _ _ this]
    exact hx
  | succ j =>
    rw [World.cell?_setCell_other _ _ _ _ (by simp)]
    have := h (j + 1) x hx
    rwa [Nat.zero_add] at this

theorem below_grownE {w wr w1 w2 : World} {B : Nat} {v : Value} {n : Nat} {cs : List Value} (hb : Below B w wr) (hB : B ≤ wr.heap.size) (h1 : Below wr.heap.size wr w1) (ho : OwnC w1 B 35 v n cs) (hg : w1.grownBy w2 v.ownBlock) : Below B w w2 := by
  have h := hb.trans (h1.mono hB)
  refine ⟨hg.os.trans h.os, hg.tape.trans h.tape, hg.output.trans h.output, Nat.le_trans h.size hg.size, fun k hk => (hg.block k (by have := h1.size; omega) fun e => ?_).trans (h.block k hk)⟩
  have := (ho.block k e.symm).1
  omega
theorem Eds.more {w : World} {B : Nat} {v : Value} {l : List Ed} {y : Ed} (h : OwnC w B 35 v (l.length + 1) (l.flatMap encE ++ encE y)) : Eds w B v (l ++ [y]) := by
  unfold Eds
  rw [List.length_append, List.flatMap_append]
  simpa using h

set_option maxRecDepth 100000 in
set_option maxHeartbeats 800000 in
attribute [local go_sem ↓] wp_build_end in
theorem rcut_any {w : World} {C : Nat} {v : Value} {l : List Ed} {p : ByteArray} (h : Eds w C v l) (hl : l.length ≤ 2097152) (hp : ∀ x ∈ l, x.path.size ≤ 64) :
    Calls Tryz.prog 186 #[v, .string p] w fun e w' => Below w.heap.size w w' ∧ ∃ v', e = .returned v' ∧ Eds w' w.heap.size v' (cutE l p) := by
  obtain ⟨pk, mk, ck, rfl⟩ := h.shape
  obtain rfl := h.len
  obtain ⟨i0, hi, hz0, hz1, hz2⟩ := info_parts endZ
  have HX : Hid (Eds w C (.slice pk l.length ck) l ∧ l.length ≤ 2097152 ∧ ∀ x ∈ l, x.path.size ≤ 64) := ⟨h, hl, hp⟩
  have HBg := Hid.hide rbegins_any
  clear h hl hp
  go_enter Tryz.func186, Tryz.ntmps186
  go_wp2
  go_loopg [5, 6] l.length (fun g out i wr => ∃ k : Nat, k ≤ l.length ∧ g = l.length - k ∧ i = .int .i64 (k : Int) ∧ Below w.heap.size w wr ∧ Eds wr w.heap.size out (cutE (l.take k) p))
  case atStart => exact ⟨0, Nat.zero_le _, rfl, rfl, Below.refl _ _, Eds.nil _ _⟩
  case round =>
    obtain ⟨k, hk, rfl, rfl, hb, ho⟩ := hrel
    obtain ⟨po, mo, co, rfl⟩ := ho.shape
    have HO : Hid (Below w.heap.size w wr ∧ Eds wr w.heap.size (.slice po mo co) (cutE (l.take k) p)) := ⟨hb, ho⟩
    have hE := HX.out.1.below hb
    clear hb ho
    by_cases hlt : k < l.length
    · have i1 : (k : Int) < (l.length : Int) := by omega
      obtain ⟨g, cap, hv, -, hgl, hrg⟩ := Eds.row hE hlt
      simp only [Value.slice.injEq] at hv
      obtain ⟨rfl, -, rfl⟩ := hv
      obtain ⟨c0, -, -⟩ := Eds.path hrg
      have hp64 := HX.out.2.2 _ (List.getElem_mem hlt)
      have HW1 : Hid (wrap64 ((k : Int) + 1) = ((k + 1 : Nat) : Int)) := by
        have h : wrap64 ((k : Int) + 1) = ((k + 1 : Nat) : Int) := (by unfold wrap64; have := HX.out.2.1; omega)
        exact h
      by_cases hbg : begins p l[k].path
      · have HSt : Hid (cutE (l.take (k + 1)) p = cutE (l.take k) p ++ [l[k].cut p]) := cutE_take_yes hlt hbg
        have hpl := begins_le hbg
        have HBl : Hid (decide (begins p l[k].path) = true) := decide_eq_true hbg
        obtain ⟨x, hx⟩ : ∃ x, l[k] = x := ⟨_, rfl⟩
        rw [hx] at c0 hrg hp64 HSt hpl HBl
        clear hbg hx hE
        go_wp2_with fail
        refine (HBg.out x.path p _).mono ?_
        rintro e w2 ⟨rfl, hw2⟩
        obtain rfl := hw2.symm
        rw [HBl.out]
        obtain ⟨t1, z2, z1, hone, hb5, hr5, hs5, hf5⟩ := laid_end wr x
        have c5 : ((wr.alloc (.cells zEnd 304)).setCells wr.heap.size 0 (encE x)).cell? ⟨wr.heap.size, 0, none⟩ = some (.string x.path) := hr5 0 _ rfl
        have i3 : (p.size : Int) ≤ (x.path.size : Int) := by omega
        go_upto_region 9 with (first | (refine wpList_load_mid rfl 304 _ rfl g (k * 35) rfl (encE x) _ hrg Tryz.underlying304 rfl z1 ?_) | (refine wpList_store_mid rfl 304 _ _ rfl wr.heap.size 0 (encE x).toArray rfl rfl t1 z2 hone ?_; rw [List.toList_toArray]; generalize World.setCells _ _ _ _ = w5 at hb5 hr5 hs5 hf5 c5 ⊢; clear t1 z2 hone))
        obtain ⟨y, hy⟩ : ∃ y, x.cut p = y := ⟨_, rfl⟩
        have hr6 : (w5.setCell ⟨wr.heap.size, 0, none⟩ (.string (x.path.extract p.size x.path.size))).rangeAt wr.heap.size 0 (encE y) := by rw [← hy]; exact range_set0 hr5
        have hb6 : Below wr.heap.size wr (w5.setCell ⟨wr.heap.size, 0, none⟩ (.string (x.path.extract p.size x.path.size))) := hb5.setCell (Nat.le_refl _) _
        generalize w5.setCell ⟨wr.heap.size, 0, none⟩ (.string (x.path.extract p.size x.path.size)) = w6 at hr6 hb6 ⊢
        have hls : (encE y).toArray.size = 35 := by simp [encE_len]
        have zy : (Tryz.prog.info? 304).map (·.size) = some (encE y).length := by rw [sizeE, encE_len]
        have HO6 : Hid (∀ t, OwnC (w6.alloc (.cells (encE y).toArray t)) w.heap.size 35 (.slice po mo co) (cutE (l.take k) p).length ((cutE (l.take k) p).flatMap encE)) := fun t => (HO.out.2.below hb6).alloc _
        have HKy : Hid (∀ t, (w6.alloc (.cells (encE y).toArray t)).rangeAt w6.heap.size 0 (encE y)) := fun t => rangeAt_new w6 _ t
        have HN : Hid ((cutE (l.take k) p).length ≤ 2097152 ∧ w.heap.size ≤ w6.heap.size) := ⟨by have h1 := cutE_len (l.take k) p; have := HX.out.2.1; rw [List.length_take] at h1; omega, by have := HO.out.1.size; have := hb6.size; omega⟩
        have H6 : Hid (Below wr.heap.size wr w6 ∧ cutE (l.take (k + 1)) p = cutE (l.take k) p ++ [y]) := ⟨hb6, by rw [← hy]; exact HSt.out⟩
        clear hy hb6 hr5 hb5 hs5 hf5 c5 hrg c0 HSt HBl hpl hp64 i3 hgl
        go_upto_region 4 with (first | (refine wpList_load_mid rfl 304 _ rfl wr.heap.size 0 rfl (encE y) _ hr6 Tryz.underlying304 rfl zy ?_) | (at_builtin; refine wpList_append_ownp _ rfl _ _ 135 rfl 304 i0 zeroEnd 35 72 Tryz.underlying135 hi hz0 hz1 hz2 endZs (by decide) w.heap.size (.slice po mo co) _ _ rfl (HO6.out _) w6.heap.size 0 1 1 (encE y) rfl (by rw [encE_len]) (HKy.out _) (encE_one y) (by have := HN.out.1; unfold maxLen; omega) (by have := HN.out.1; omega) (by have := HN.out.2; simp; omega) ?_))
        intro v2 w2 hO2 hg2 hf2 hp2
        have H2 : Hid (Below w.heap.size w w2 ∧ Eds w2 w.heap.size v2 (cutE (l.take (k + 1)) p)) := ⟨below_grownE HO.out.1 HO.out.1.size ((H6.out.1).alloc H6.out.1.size _) (HO6.out _) hg2, by rw [H6.out.2]; exact Eds.more hO2⟩
        obtain ⟨p2, m2, k2, rfl⟩ := hO2.shape
        clear hO2 hg2 hf2 hp2 hr6
        go_wp2
        go_roundg (l.length - (k + 1))
        case measure => omega
        case rel => exact ⟨k + 1, hlt, rfl, val_int HW1.out, H2.out⟩
      · have HSt : Hid (cutE (l.take (k + 1)) p = cutE (l.take k) p) := cutE_take_no hlt hbg
        have HBl : Hid (decide (begins p l[k].path) = false) := decide_eq_false hbg
        obtain ⟨x, hx⟩ : ∃ x, l[k] = x := ⟨_, rfl⟩
        rw [hx] at c0 hrg HBl
        clear hbg hx hE hp64
        go_wp2_with fail
        refine (HBg.out x.path p _).mono ?_
        rintro e w2 ⟨rfl, hw2⟩
        obtain rfl := hw2.symm
        rw [HBl.out]
        go_wp2
        go_roundg (l.length - (k + 1))
        case measure => omega
        case rel => exact ⟨k + 1, hlt, rfl, val_int HW1.out, HO.out.1, by rw [HSt.out]; exact HO.out.2⟩
    · have i1 : ¬ (k : Int) < (l.length : Int) := by omega
      have H2 : Hid (Below w.heap.size w wr ∧ Eds wr w.heap.size (.slice po mo co) (cutE l p)) := by
        have h := HO.out
        rw [List.take_of_length_le (by omega)] at h
        exact h
      clear hE
      go_wp2
      go_ret
      exact ⟨H2.out.1, _, rfl, H2.out.2⟩
def idxV : Option Nat → Int
  | none => -1
  | some i => (i : Int)
/-- All but one. -/
def wth (l : List Ed) : Option Nat → List Ed
  | none => l
  | some j => l.eraseIdx j
theorem wth_skip {l : List Ed} {k : Nat} (hk : k < l.length) : wth (l.take (k + 1)) (some k) = wth (l.take k) (some k) := by
  have hl : (l.take k).length = k := by rw [List.length_take]; omega
  have e1 : (l.take k ++ [l[k]]).eraseIdx k = l.take k := by
    rw [List.eraseIdx_append_of_length_le (by omega), hl, Nat.sub_self]
    simp
  have e2 : (l.take k).eraseIdx k = l.take k := List.eraseIdx_of_length_le (by omega)
  simp only [wth]
  rw [List.take_succ_eq_append_getElem hk, e1, e2]
theorem wth_keep {l : List Ed} {k : Nat} (hk : k < l.length) {o : Option Nat} (ho : o ≠ some k) : wth (l.take (k + 1)) o = wth (l.take k) o ++ [l[k]] := by
  have hl : (l.take k).length = k := by rw [List.length_take]; omega
  cases o with
  | none => exact List.take_succ_eq_append_getElem hk
  | some j =>
    simp only [wth]
    by_cases h : j < k
    · rw [List.take_succ_eq_append_getElem hk, List.eraseIdx_append_of_lt_length (by omega)]
    · have : k < j := by
        have : j ≠ k := fun e => ho (by rw [e])
        omega
      rw [List.eraseIdx_of_length_le (by rw [List.length_take]; omega), List.eraseIdx_of_length_le (by omega)]
      exact List.take_succ_eq_append_getElem hk
theorem wth_len (l : List Ed) (o : Option Nat) : (wth l o).length ≤ l.length := by
  cases o with
  | none => exact Nat.le_refl _
  | some j => simp only [wth]; rw [List.length_eraseIdx]; split <;> omega

set_option maxRecDepth 100000 in
set_option maxHeartbeats 800000 in
attribute [local go_sem ↓] wp_build_end in
theorem rwithout_any {w : World} {C : Nat} {v : Value} {l : List Ed} {o : Option Nat} (h : Eds w C v l) (hl : l.length ≤ 2097152) :
    Calls Tryz.prog 185 #[v, .int .i64 (idxV o)] w fun e w' => Below w.heap.size w w' ∧ ∃ v', e = .returned v' ∧ Eds w' w.heap.size v' (wth l o) := by
  obtain ⟨pk, mk, ck, rfl⟩ := h.shape
  obtain rfl := h.len
  obtain ⟨i0, hi, hz0, hz1, hz2⟩ := info_parts endZ
  have HX : Hid (Eds w C (.slice pk l.length ck) l ∧ l.length ≤ 2097152) := ⟨h, hl⟩
  obtain ⟨ov, hov⟩ : ∃ ov, idxV o = ov := ⟨_, rfl⟩
  rw [hov]
  have HV := Hid.hide hov
  clear h hl hov
  go_enter Tryz.func185, Tryz.ntmps185
  go_wp2
  go_loopg [5, 6] l.length (fun g out i wr => ∃ k : Nat, k ≤ l.length ∧ g = l.length - k ∧ i = .int .i64 (k : Int) ∧ Below w.heap.size w wr ∧ Eds wr w.heap.size out (wth (l.take k) o))
  case atStart => exact ⟨0, Nat.zero_le _, rfl, rfl, Below.refl _ _, by rw [show wth (l.take 0) o = [] by cases o <;> simp [wth]]; exact Eds.nil _ _⟩
  case round =>
    obtain ⟨k, hk, rfl, rfl, hb, ho⟩ := hrel
    obtain ⟨po, mo, co, rfl⟩ := ho.shape
    have HO : Hid (Below w.heap.size w wr ∧ Eds wr w.heap.size (.slice po mo co) (wth (l.take k) o)) := ⟨hb, ho⟩
    have hE := HX.out.1.below hb
    clear hb ho
    by_cases hlt : k < l.length
    · have i1 : (k : Int) < (l.length : Int) := by omega
      have HW1 : Hid (wrap64 ((k : Int) + 1) = ((k + 1 : Nat) : Int)) := by
        have h : wrap64 ((k : Int) + 1) = ((k + 1 : Nat) : Int) := (by unfold wrap64; have := HX.out.2; omega)
        exact h
      by_cases hko : o = some k
      · have hkv : ov = (k : Int) := by rw [← HV.out, hko]; rfl
        subst hkv
        have HSt : Hid (wth (l.take (k + 1)) o = wth (l.take k) o) := by rw [hko]; exact wth_skip hlt
        clear hE
        go_wp2
        go_roundg (l.length - (k + 1))
        case measure => omega
        case rel => exact ⟨k + 1, hlt, rfl, val_int HW1.out, HO.out.1, by rw [HSt.out]; exact HO.out.2⟩
      · have hne : ((k : Int) == ov) = false := by
          rw [beq_eq_false_iff_ne]
          intro e
          apply hko
          have h := HV.out
          rw [← e] at h
          cases o with
          | none => simp only [idxV] at h; omega
          | some j => simp only [idxV] at h; rw [show j = k by omega]
        obtain ⟨g, cap, hv, -, hgl, hrg⟩ := Eds.row hE hlt
        simp only [Value.slice.injEq] at hv
        obtain ⟨rfl, -, rfl⟩ := hv
        have HSt : Hid (wth (l.take (k + 1)) o = wth (l.take k) o ++ [l[k]]) := wth_keep hlt hko
        obtain ⟨y, hx⟩ : ∃ x, l[k] = x := ⟨_, rfl⟩
        rw [hx] at hrg HSt
        have hls : (encE y).toArray.size = 35 := by simp [encE_len]
        have zy : (Tryz.prog.info? 304).map (·.size) = some (encE y).length := by rw [sizeE, encE_len]
        have HO6 : Hid (∀ t, OwnC (wr.alloc (.cells (encE y).toArray t)) w.heap.size 35 (.slice po mo co) (wth (l.take k) o).length ((wth (l.take k) o).flatMap encE)) := fun t => HO.out.2.alloc _
        have HKy : Hid (∀ t, (wr.alloc (.cells (encE y).toArray t)).rangeAt wr.heap.size 0 (encE y)) := fun t => rangeAt_new wr _ t
        have HN : Hid ((wth (l.take k) o).length ≤ 2097152 ∧ w.heap.size ≤ wr.heap.size) := ⟨by have h1 := wth_len (l.take k) o; have := HX.out.2; rw [List.length_take] at h1; omega, HO.out.1.size⟩
        clear hx hE hgl hko
        go_upto_region 4 with (first | (refine wpList_load_mid rfl 304 _ rfl g (k * 35) rfl (encE y) _ hrg Tryz.underlying304 rfl zy ?_) | (at_builtin; refine wpList_append_ownp _ rfl _ _ 135 rfl 304 i0 zeroEnd 35 72 Tryz.underlying135 hi hz0 hz1 hz2 endZs (by decide) w.heap.size (.slice po mo co) _ _ rfl (HO6.out _) wr.heap.size 0 1 1 (encE y) rfl (by rw [encE_len]) (HKy.out _) (encE_one y) (by have := HN.out.1; unfold maxLen; omega) (by have := HN.out.1; omega) (by have := HN.out.2; simp; omega) ?_))
        intro v2 w2 hO2 hg2 hf2 hp2
        have H2 : Hid (Below w.heap.size w w2 ∧ Eds w2 w.heap.size v2 (wth (l.take (k + 1)) o)) := ⟨below_grownE HO.out.1 HO.out.1.size ((Below.refl _ _).alloc (Nat.le_refl _) _) (HO6.out _) hg2, by rw [HSt.out]; exact Eds.more hO2⟩
        obtain ⟨p2, m2, k2, rfl⟩ := hO2.shape
        clear hO2 hg2 hf2 hp2 hrg
        go_wp2
        go_roundg (l.length - (k + 1))
        case measure => omega
        case rel => exact ⟨k + 1, hlt, rfl, val_int HW1.out, H2.out⟩
    · have i1 : ¬ (k : Int) < (l.length : Int) := by omega
      have H2 : Hid (Below w.heap.size w wr ∧ Eds wr w.heap.size (.slice po mo co) (wth l o)) := by
        have h := HO.out
        rw [List.take_of_length_le (by omega)] at h
        exact h
      clear hE
      go_wp2
      go_ret
      exact ⟨H2.out.1, _, rfl, H2.out.2⟩
end Go.Proofs.YtjiikjpnlgogfaaGreatDoor

namespace Go.Proofs.YtjiikjpnlgogfaaGreatDoor
open Go.RowKit

/-- A tree of the document's, in memory. -/
structure RtAt (w : World) (C b : Nat) (v : Value) (l : List Ed) : Prop where
  heap : w.heap[b]? = some (.cells #[v] 137 (0, 0))
  row : Eds w C v l
theorem RtAt.cell {w : World} {C b : Nat} {v : Value} {l : List Ed} (h : RtAt w C b v l) : w.cell? ⟨b, 0, none⟩ = some v := cell_of_row w _ 0 _ _ (0, 0) h.heap
theorem RtAt.froz {w : World} {C b : Nat} {v : Value} {l : List Ed} (h : RtAt w C b v l) : w.frozen? ⟨b, 0, none⟩ = false := frozen_of_row w _ 0 _ _ h.heap
theorem RtAt.lt {w : World} {C b : Nat} {v : Value} {l : List Ed} (h : RtAt w C b v l) : b < w.heap.size := (Array.getElem?_eq_some_iff.1 h.heap).1
theorem RtAt.below {w w' : World} {C b : Nat} {v : Value} {l : List Ed} (h : RtAt w C b v l) (hb : Below w.heap.size w w') : RtAt w' C b v l := ⟨(hb.block b h.lt).trans h.heap, h.row.below hb⟩

set_option maxRecDepth 100000 in
set_option maxHeartbeats 800000 in
theorem rmeets_any {w : World} {C b : Nat} {v : Value} {l : List Ed} {p : ByteArray} (h : RtAt w C b v l) (hl : l.length ≤ 2097152) (hs : ∀ x ∈ l, x.stub = false) :
    Calls Tryz.prog 183 #[.pointer (some ⟨b, 0, none⟩), .string p] w fun e w' => e = .returned (.bool false) ∧ w' = w := by
  obtain ⟨pk, mk, ck, rfl⟩ := h.row.shape
  obtain rfl := Eds.len h.row
  have HX : Hid (RtAt w C b (.slice pk l.length ck) l ∧ l.length ≤ 2097152 ∧ ∀ x ∈ l, x.stub = false) := ⟨h, hl, hs⟩
  have c0 := h.cell
  have HBg := Hid.hide rbegins_any
  clear h hl hs
  go_enter Tryz.func183, Tryz.ntmps183
  go_wp2
  go_loopg [5] l.length (fun g i wr => ∃ k : Nat, k ≤ l.length ∧ g = l.length - k ∧ i = .int .i64 (k : Int) ∧ wr = w)
  case atStart => exact ⟨0, Nat.zero_le _, rfl, rfl, rfl⟩
  case round =>
    obtain ⟨k, hk, rfl, rfl, hwr⟩ := hrel
    obtain rfl := hwr.symm
    by_cases hlt : k < l.length
    · have i1 : (k : Int) < (l.length : Int) := by omega
      obtain ⟨g, cap, hv, -, hgl, hrg⟩ := Eds.row HX.out.1.row hlt
      simp only [Value.slice.injEq] at hv
      obtain ⟨rfl, -, rfl⟩ := hv
      obtain ⟨d0, -, d2⟩ := Eds.path hrg
      rw [HX.out.2.2 _ (List.getElem_mem hlt)] at d2
      have HW1 : Hid (wrap64 ((k : Int) + 1) = ((k + 1 : Nat) : Int)) := by
        have h : wrap64 ((k : Int) + 1) = ((k + 1 : Nat) : Int) := (by unfold wrap64; have := HX.out.2.1; omega)
        exact h
      generalize l[k].path = q at d0
      clear hrg hgl
      go_wp2_with fail
      refine (HBg.out p q _).mono ?_
      rintro e w2 ⟨rfl, hw2⟩
      obtain rfl := hw2.symm
      go_wp2
      go_roundg (l.length - (k + 1))
      case measure => omega
      case rel => exact ⟨k + 1, hlt, rfl, val_int HW1.out, rfl⟩
    · have i1 : ¬ (k : Int) < (l.length : Int) := by omega
      go_wp2
      go_ret
      exact ⟨rfl, rfl⟩

/-- Where a path stands. -/
def findE : List Ed → ByteArray → Option Nat
  | [], _ => none
  | x :: l, p => if x.path = p then some 0 else (findE l p).map (· + 1)
theorem findE_drop {l : List Ed} {p : ByteArray} : ∀ {i : Nat}, (∀ j (h : j < l.length), j < i → l[j].path ≠ p) → i ≤ l.length → findE l p = (findE (l.drop i) p).map (· + i) := by
  induction l with
  | nil => intro i _ hi; have : i = 0 := (by simpa using hi); subst this; rfl
  | cons x l ih =>
    intro i h hi
    cases i with
    | zero => rw [List.drop_zero]; cases findE (x :: l) p <;> rfl
    | succ i =>
      have h0 := h 0 (by simp) (by omega)
      rw [List.getElem_cons_zero] at h0
      rw [findE, if_neg h0, List.drop_succ_cons, ih (i := i) (fun j hj hji => by have := h (j + 1) (by simpa using hj) (by omega); simpa using this) (by simpa using hi)]
      cases findE (l.drop i) p <;> simp [Nat.add_assoc]
theorem findE_at {l : List Ed} {p : ByteArray} {i : Nat} (h : ∀ j (hj : j < l.length), j < i → l[j].path ≠ p) (hi : i < l.length) (he : l[i].path = p) : findE l p = some i := by
  rw [findE_drop h (Nat.le_of_lt hi), List.drop_eq_getElem_cons hi, findE, if_pos he]
  simp
theorem findE_no {l : List Ed} {p : ByteArray} (h : ∀ j (hj : j < l.length), l[j].path ≠ p) : findE l p = none := by
  rw [findE_drop (i := l.length) (fun j hj _ => h j hj) (Nat.le_refl _), List.drop_of_length_le (Nat.le_refl _)]
  rfl

set_option maxRecDepth 100000 in
set_option maxHeartbeats 800000 in
theorem rfind_any {w : World} {C b : Nat} {v : Value} {l : List Ed} {p : ByteArray} (h : RtAt w C b v l) (hl : l.length ≤ 2097152) (hs : ∀ x ∈ l, x.stub = false) :
    Calls Tryz.prog 184 #[.pointer (some ⟨b, 0, none⟩), .string p] w fun e w' => e = .returned (.int .i64 (idxV (findE l p))) ∧ w' = w := by
  obtain ⟨pk, mk, ck, rfl⟩ := h.row.shape
  obtain rfl := Eds.len h.row
  obtain ⟨R, hR⟩ : ∃ R, idxV (findE l p) = R := ⟨_, rfl⟩
  have HX : Hid (RtAt w C b (.slice pk l.length ck) l ∧ l.length ≤ 2097152 ∧ (∀ x ∈ l, x.stub = false) ∧ idxV (findE l p) = R) := ⟨h, hl, hs, hR⟩
  have c0 := h.cell
  rw [hR]
  clear h hl hs hR
  go_enter Tryz.func184, Tryz.ntmps184
  go_wp2
  go_loopg [5] l.length (fun g i wr => ∃ k : Nat, k ≤ l.length ∧ g = l.length - k ∧ i = .int .i64 (k : Int) ∧ (∀ j (hj : j < l.length), j < k → l[j].path ≠ p) ∧ wr = w)
  case atStart => exact ⟨0, Nat.zero_le _, rfl, rfl, fun j _ h => absurd h (Nat.not_lt_zero _), rfl⟩
  case round =>
    obtain ⟨k, hk, rfl, rfl, hne, hwr⟩ := hrel
    obtain rfl := hwr.symm
    by_cases hlt : k < l.length
    · have i1 : (k : Int) < (l.length : Int) := by omega
      obtain ⟨g, cap, hv, -, hgl, hrg⟩ := Eds.row HX.out.1.row hlt
      simp only [Value.slice.injEq] at hv
      obtain ⟨rfl, -, rfl⟩ := hv
      obtain ⟨d0, -, d2⟩ := Eds.path hrg
      rw [HX.out.2.2.1 _ (List.getElem_mem hlt)] at d2
      have HW1 : Hid (wrap64 ((k : Int) + 1) = ((k + 1 : Nat) : Int)) := by
        have h : wrap64 ((k : Int) + 1) = ((k + 1 : Nat) : Int) := (by unfold wrap64; have := HX.out.2.1; omega)
        exact h
      by_cases he : l[k].path = p
      · have HF : Hid (R = (k : Int)) := by rw [← HX.out.2.2.2, findE_at hne hlt he]; rfl
        rw [he] at d0
        clear hrg hgl hne he
        go_wp2
        go_ret
        exact ⟨by rw [HF.out]; rfl, rfl⟩
      · have HQ : Hid (∀ j (hj : j < l.length), j < k + 1 → l[j].path ≠ p) := fun j hj hjk => by
          by_cases e : j = k
          · subst e; exact he
          · exact hne j hj (by omega)
        have he' := toList_ne' he
        generalize l[k].path = q at d0 he'
        clear hrg hgl hne he
        go_wp2
        go_roundg (l.length - (k + 1))
        case measure => omega
        case rel => exact ⟨k + 1, hlt, rfl, val_int HW1.out, HQ.out, rfl⟩
    · have i1 : ¬ (k : Int) < (l.length : Int) := by omega
      have HF : Hid (R = -1) := by rw [← HX.out.2.2.2, findE_no fun j hj => hne j hj (by omega)]; rfl
      clear hne
      go_wp2
      go_ret
      exact ⟨by rw [HF.out]; rfl, rfl⟩
end Go.Proofs.YtjiikjpnlgogfaaGreatDoor

namespace Go.Proofs.YtjiikjpnlgogfaaGreatDoor
open Go.RowKit

def shrE (x : Ed) (l : List Ed) : Nat := l.foldl (fun n y => comm ((bytesOf x.path).take n) (bytesOf y.path)) x.path.size
theorem shrE_snoc (x : Ed) (l : List Ed) (y : Ed) : shrE x (l ++ [y]) = comm ((bytesOf x.path).take (shrE x l)) (bytesOf y.path) := by
  unfold shrE
  rw [List.foldl_append]
  rfl
theorem fold_le (p : List Nat) : ∀ (l : List Ed) (n : Nat), l.foldl (fun n y => comm (p.take n) (bytesOf y.path)) n ≤ n
  | [], n => Nat.le_refl n
  | y :: l, n => by
    have h1 := fold_le p l (comm (p.take n) (bytesOf y.path))
    have h2 := (comm_le (p.take n) (bytesOf y.path)).1
    rw [List.length_take] at h2
    rw [List.foldl_cons]
    omega
theorem shrE_le (x : Ed) (l : List Ed) : shrE x l ≤ x.path.size := fold_le _ _ _
theorem take_more {a b : List Nat} {j : Nat} (h : a.take j = b.take j) (e : a[j]? = b[j]?) : a.take (j + 1) = b.take (j + 1) := by
  rw [List.take_add_one, List.take_add_one, h, e]
theorem bytesAt (s : ByteArray) (k : Nat) (h : k < s.size) : (bytesOf s)[k]? = some (s[k]'h).toNat := by
  unfold bytesOf
  rw [List.getElem?_map, List.getElem?_eq_getElem (by simpa using h)]
  rfl

set_option maxRecDepth 100000 in
set_option maxHeartbeats 800000 in
theorem rshared_any {w : World} {C : Nat} {v : Value} {x : Ed} {l : List Ed} (h : Eds w C v (x :: l)) (hl : l.length ≤ 2097152) (hp : ∀ y ∈ x :: l, y.path.size ≤ 64) :
    Calls Tryz.prog 190 #[v] w fun e w' => e = .returned (.int .i64 ((shrE x l : Nat) : Int)) ∧ Below w.heap.size w w' := by
  obtain ⟨g, cap, rfl, hgC, hgl, hr0⟩ := Eds.row h (i := 0) (by simp)
  have hll : (x :: l).length = l.length + 1 := rfl
  rw [Nat.zero_mul, List.getElem_cons_zero] at hr0
  obtain ⟨c0, -, -⟩ : w.cell? ⟨g, 0, none⟩ = some (.string x.path) ∧ True ∧ True := ⟨hr0 0 _ rfl, trivial, trivial⟩
  have HX : Hid (Eds w C (.slice (some ⟨g, 0, none⟩) (x :: l).length cap) (x :: l) ∧ l.length ≤ 2097152 ∧ (∀ y ∈ x :: l, y.path.size ≤ 64)) := ⟨h, hl, hp⟩
  obtain ⟨L, hL⟩ : ∃ L, l.length + 1 = L := ⟨_, rfl⟩
  rw [hll, hL]
  have hL0 : (0 : Int) < (L : Int) := by omega
  have HL := Hid.hide hL
  clear h hl hp hr0 hll hgC hL hgl
  go_enter Tryz.func190, Tryz.ntmps190
  go_wp2
  go_loopg [3, 4] l.length (fun gh n i wr => ∃ k : Nat, k ≤ l.length ∧ gh = l.length - k ∧ i = .int .i64 ((k + 1 : Nat) : Int) ∧ n = .int .i64 ((shrE x (l.take k) : Nat) : Int) ∧ ∃ q, wr = w.drewN q)
  case atStart => exact ⟨0, Nat.zero_le _, rfl, rfl, rfl, 0, rfl⟩
  case round =>
    obtain ⟨k, hk, rfl, rfl, rfl, q, rfl⟩ := hrel
    obtain ⟨n, hn⟩ : ∃ n, shrE x (l.take k) = n := ⟨_, rfl⟩
    rw [hn]
    have hnx : n ≤ x.path.size := by rw [← hn]; exact shrE_le _ _
    by_cases hlt : k < l.length
    · have i1 : ((k + 1 : Nat) : Int) < (L : Int) := by have := HL.out; omega
      obtain ⟨g', cap', hv, -, -, hrg⟩ := Eds.row HX.out.1 (i := k + 1) (by simpa using hlt)
      simp only [Value.slice.injEq, Option.some.injEq, Addr.mk.injEq, and_true] at hv
      obtain ⟨rfl, -, rfl⟩ := hv
      rw [List.getElem_cons_succ] at hrg
      obtain ⟨d0, -, -⟩ := Eds.path hrg
      have hxs : x.path.size ≤ 64 := HX.out.2.2 x (List.mem_cons_self ..)
      have hys : l[k].path.size ≤ 64 := HX.out.2.2 _ (List.mem_cons_of_mem _ (List.getElem_mem hlt))
      obtain ⟨y, hy⟩ : ∃ y, l[k] = y := ⟨_, rfl⟩
      have hSt : shrE x (l.take (k + 1)) = comm ((bytesOf x.path).take n) (bytesOf y.path) := by rw [List.take_succ_eq_append_getElem hlt, shrE_snoc, hn, hy]
      have HSt := Hid.hide hSt
      clear hSt
      rw [hy] at d0 hys
      obtain ⟨px, hpx⟩ : ∃ px, x.path = px := ⟨_, rfl⟩
      obtain ⟨py, hpy⟩ : ∃ py, y.path = py := ⟨_, rfl⟩
      rw [hpx] at c0 hnx hxs HSt
      rw [hpy] at d0 hys HSt
      have HW1 : Hid (wrap64 (((k + 1 : Nat) : Int) + 1) = ((k + 1 + 1 : Nat) : Int)) := by
        have h : wrap64 (((k + 1 : Nat) : Int) + 1) = ((k + 1 + 1 : Nat) : Int) := (by unfold wrap64; have := HX.out.2.1; omega)
        exact h
      clear hrg hy hpx hpy hn
      go_wp2
      go_loopg [5] n (fun gh kk wr => ∃ j : Nat, j ≤ n ∧ j ≤ py.size ∧ gh = n - j ∧ kk = .int .i64 (j : Int) ∧ ((bytesOf px).take n).take j = (bytesOf py).take j ∧ ∃ q, wr = w.drewN q)
      case atStart => exact ⟨0, Nat.zero_le _, Nat.zero_le _, rfl, rfl, by simp, q, rfl⟩
      case round =>
        obtain ⟨j, hjn, hjy, rfl, rfl, hjt, q2, rfl⟩ := hrel
        have hpl : ((bytesOf px).take n).length = n := by rw [List.length_take, bytesOf_length]; omega
        have hyl : (bytesOf py).length = py.size := bytesOf_length py
        by_cases c1 : j < n
        · have i2 : (j : Int) < (n : Int) := by omega
          have hjx : j < px.size := by omega
          by_cases c2 : j < py.size
          · have i3 : (j : Int) < (py.size : Int) := by omega
            have i4 : (j : Int) < (px.size : Int) := by omega
            have b1 := bytesAt px j hjx
            have b2 := bytesAt py j c2
            obtain ⟨a1, ha1⟩ : ∃ a1, (py[j]'c2).toNat = a1 := ⟨_, rfl⟩
            obtain ⟨a2, ha2⟩ : ∃ a2, (px[j]'hjx).toNat = a2 := ⟨_, rfl⟩
            rw [ha2] at b1
            rw [ha1] at b2
            have b3 : ((bytesOf px).take n)[j]? = some a2 := by rw [List.getElem?_take_of_lt c1, b1]
            by_cases c3 : a1 = a2
            · subst c3
              have HQ : Hid (((bytesOf px).take n).take (j + 1) = (bytesOf py).take (j + 1)) := take_more hjt (by rw [b3, b2])
              clear b1 b2 b3 hjt hpl hyl
              go_upto_region 6 with fail
              go_quiet (fail)
              go_wp2
              go_roundg (n - (j + 1))
              case measure => omega
              case rel => exact ⟨j + 1, c1, c2, rfl, val_int rfl, HQ.out, _, rfl⟩
            · have hne : ((a1 : Int) == (a2 : Int)) = false := by rw [beq_eq_false_iff_ne]; omega
              have HC : Hid (comm ((bytesOf px).take n) (bytesOf py) = j) := comm_of j _ _ hjt (by omega) (by omega) (.inr (.inr (by rw [b3, b2]; simp; omega)))
              clear b1 b2 b3 hjt hpl hyl
              go_upto_region 6 with fail
              go_quiet (fail)
              go_wp2
              go_roundg (l.length - (k + 1))
              case measure => omega
              case rel => exact ⟨k + 1, hlt, rfl, val_int HW1.out, by rw [HSt.out, HC.out], _, rfl⟩
          · have i3 : ¬ (j : Int) < (py.size : Int) := by omega
            have HC : Hid (comm ((bytesOf px).take n) (bytesOf py) = j) := comm_of j _ _ hjt (by omega) (by omega) (.inr (.inl (by omega)))
            clear hjt hpl hyl
            go_upto_region 6 with fail
            go_quiet (fail)
            go_wp2
            go_roundg (l.length - (k + 1))
            case measure => omega
            case rel => exact ⟨k + 1, hlt, rfl, val_int HW1.out, by rw [HSt.out, HC.out], _, rfl⟩
        · have i2 : ¬ (j : Int) < (n : Int) := by omega
          have HC : Hid (comm ((bytesOf px).take n) (bytesOf py) = j) := comm_of j _ _ hjt (by omega) (by omega) (.inl (by omega))
          clear hjt hpl hyl
          go_upto_region 6 with fail
          go_quiet (fail)
          go_wp2
          go_roundg (l.length - (k + 1))
          case measure => omega
          case rel => exact ⟨k + 1, hlt, rfl, val_int HW1.out, by rw [HSt.out, HC.out], _, rfl⟩
    · have i1 : ¬ ((k + 1 : Nat) : Int) < (L : Int) := by have := HL.out; omega
      have hE : shrE x l = n := by rw [← hn, List.take_of_length_le (by omega)]
      have HE := Hid.hide hE
      clear hE
      clear hn
      go_wp2
      go_ret
      exact ⟨by rw [HE.out]; rfl, Below.drewN (Below.refl _ _) q⟩

def kndE (x : Ed) (l : List Ed) : Nat := if l.length = 0 then 1 else if 0 < shrE x l then 2 else 3
set_option maxRecDepth 100000 in
set_option maxHeartbeats 800000 in
theorem rkind_any {w : World} {C : Nat} {v : Value} {x : Ed} {l : List Ed} (h : Eds w C v (x :: l)) (hl : l.length ≤ 2097152) (hp : ∀ y ∈ x :: l, y.path.size ≤ 64) (hs : x.stub = false) :
    Calls Tryz.prog 189 #[v] w fun e w' => e = .returned (.int .i64 ((kndE x l : Nat) : Int)) ∧ Below w.heap.size w w' := by
  have HSh := Hid.hide (rshared_any h hl hp)
  obtain ⟨g, cap, rfl, hgC, hgl, hr0⟩ := Eds.row h (i := 0) (by simp)
  rw [Nat.zero_mul, List.getElem_cons_zero] at hr0
  have c2 : w.cell? ⟨g, 2, none⟩ = some (.bool false) := by rw [← hs]; exact hr0 2 _ rfl
  have hll : (x :: l).length = l.length + 1 := rfl
  rw [hll] at HSh ⊢
  unfold kndE
  clear h hp hr0 hll hgC hs
  by_cases h0 : l.length = 0
  · rw [h0, if_pos rfl]
    rw [h0] at HSh
    go_enter Tryz.func189, Tryz.ntmps189
    go_wp2_with fail
    refine HSh.out.mono ?_
    rintro e w1 ⟨rfl, hb1⟩
    have c3 := (World.cell?_of_block (a := ⟨g, 2, none⟩) (hb1.block g hgl)).trans c2
    have HB := Hid.hide hb1
    clear hb1
    go_wp2
    go_ret
    exact ⟨rfl, HB.out⟩
  · rw [if_neg h0]
    have hne : (((l.length + 1 : Nat) : Int) == 1) = false := by rw [beq_eq_false_iff_ne]; omega
    obtain ⟨L, hL⟩ : ∃ L, l.length + 1 = L := ⟨_, rfl⟩
    rw [hL] at hne HSh ⊢
    obtain ⟨n, hn⟩ : ∃ n, shrE x l = n := ⟨_, rfl⟩
    rw [hn] at HSh ⊢
    clear hL hn h0
    by_cases h1 : 0 < n
    · have i1 : (0 : Int) < (n : Int) := by omega
      rw [if_pos h1]
      go_enter Tryz.func189, Tryz.ntmps189
      go_wp2_with fail
      refine HSh.out.mono ?_
      rintro e w1 ⟨rfl, hb1⟩
      have HB := Hid.hide hb1
      clear hb1
      go_wp2
      go_ret
      exact ⟨rfl, HB.out⟩
    · obtain rfl : n = 0 := by omega
      rw [if_neg (by omega)]
      go_enter Tryz.func189, Tryz.ntmps189
      go_wp2_with fail
      refine HSh.out.mono ?_
      rintro e w1 ⟨rfl, hb1⟩
      have HB := Hid.hide hb1
      clear hb1
      go_wp2
      go_ret
      exact ⟨rfl, HB.out⟩
end Go.Proofs.YtjiikjpnlgogfaaGreatDoor
