/-
  Package twigskeep: maps of known making: where a key stands (find).
  Package twigskeep: where a key stands (find): the walk.
  Package twigskeep: a map without a key (Known.without): what a walk over arrays of 32 bytes wants, and the state of its loop.
  Package twigskeep: a map without a key (Known.without).
-/
import Derived.Test.YtjiikjpnlgogfaaGreatDoorKnoA
import Derived.Great.BuildSlice
namespace Go.Proofs.YtjiikjpnlgogfaaGreatDoor
open Go.RowKit

/-- Two keys held against each other. -/
theorem key_same (K L : Array Nat) (hK : K.size = 32) (hL : L.size = 32) (hKb : Bytes K) (hLb : Bytes L) (w : World) : (Op.equalIn 10000 26 (.agg (K.toList.map encB).toArray) (.agg (L.toList.map encB).toArray)).run Tryz.prog w = .ok (decide (K = L)) w := by
  have hs5 : ∀ w, (sizeOf 5).run Tryz.prog w = .ok 1 w := fun w => by kernel_rfl
  have hc : ∀ (A : Array Nat), Bytes A → A.toList.map encB = (A.toList.map UInt8.ofNat).map Extern.Stop.cell := fun A hA => by
    rw [List.map_map]
    apply List.map_congr_left
    intro x hx
    obtain ⟨j, hj, rfl⟩ := List.getElem_of_mem hx
    have hlt : A.toList[j] < 256 := by
      have := hA j
      rw [getElem!_pos A j (by simpa using hj)] at this
      simpa using this
    show Value.int .u8 _ = Value.int .u8 _
    congr 1
    have hlt' : A[j] < 256 := by simpa using hlt
    simp
    omega
  have h := run_equalIn_bytes (P := Tryz.prog) w 9998 26 5 32 Tryz.underlying26 Tryz.underlying5 hs5 (K.toList.map UInt8.ofNat) (L.toList.map UInt8.ofNat) (by simp [hK]) (by simp [hL])
  rw [← hc K hKb, ← hc L hLb] at h
  rw [h]
  by_cases e : K = L
  · rw [e, decide_eq_true rfl]
    simp
  · have hne : K.toList.map UInt8.ofNat ≠ L.toList.map UInt8.ofNat := fun he => e (by
      have h1 := congrArg (List.map Extern.Stop.cell) he
      rw [← hc K hKb, ← hc L hLb] at h1
      have hinj : ∀ x y : Nat, encB x = encB y → x = y := fun x y hxy => by
        simp only [encB, Value.int.injEq] at hxy
        omega
      exact Array.toList_inj.1 ((List.map_inj_right (fun {x y} => hinj x y)).1 h1))
    rw [decide_eq_false e, beq_eq_false_iff_ne.2 hne]

/-- A map of known making, in memory. -/
structure Kn (w : World) (C : Nat) (ks vs : Value) (m : List (Array Nat × ByteArray)) : Prop where
  keys : OwnC w C 32 ks m.length (m.flatMap fun x => x.1.toList.map encB)
  vals : OwnC w C 1 vs m.length (m.map fun x => .string x.2)
  ok : ∀ x ∈ m, x.1.size = 32 ∧ Bytes x.1 ∧ 0 < x.2.size ∧ x.2.size ≤ 100
  apart : ∀ g, ks.ownBlock = some g → vs.ownBlock ≠ some g
theorem Kn.below {w w' : World} {C : Nat} {ks vs : Value} {m : List (Array Nat × ByteArray)} (h : Kn w C ks vs m) (hb : Below w.heap.size w w') : Kn w' C ks vs m := ⟨h.keys.below hb, h.vals.below hb, h.ok, h.apart⟩
theorem keys_len {m : List (Array Nat × ByteArray)} (h : ∀ x ∈ m, x.1.size = 32) : (m.flatMap fun x => x.1.toList.map encB).length = m.length * 32 := by
  induction m with
  | nil => rfl
  | cons x m ih =>
    have h1 := h x (List.mem_cons_self ..)
    have h2 := ih fun y hy => h y (List.mem_cons_of_mem _ hy)
    rw [List.flatMap_cons, List.length_append, h2, List.length_map, Array.length_toList, h1, List.length_cons]
    omega
theorem keys_flat {m : List (Array Nat × ByteArray)} (h : ∀ x ∈ m, x.1.size = 32) {i : Nat} (hi : i < m.length) {j : Nat} {u : Value} (hu : (m[i].1.toList.map encB)[j]? = some u) : (m.flatMap fun x => x.1.toList.map encB)[i * 32 + j]? = some u := by
  induction m generalizing i with
  | nil => simp at hi
  | cons x m ih =>
    have h1 := h x (List.mem_cons_self ..)
    have hl : (x.1.toList.map encB).length = 32 := by rw [List.length_map, Array.length_toList, h1]
    rw [List.flatMap_cons]
    cases i with
    | zero =>
      rw [List.getElem_cons_zero] at hu
      rw [Nat.zero_mul, Nat.zero_add, List.getElem?_append_left (List.getElem?_eq_some_iff.1 hu).1]
      exact hu
    | succ i =>
      rw [List.getElem_cons_succ] at hu
      rw [List.getElem?_append_right (by omega), hl, show (i + 1) * 32 + j - 32 = i * 32 + j by omega]
      exact ih (fun y hy => h y (List.mem_cons_of_mem _ hy)) (by simpa using hi) hu
/-- The key that stands there. -/
theorem Kn.key {w : World} {C : Nat} {ks vs : Value} {m : List (Array Nat × ByteArray)} (h : Kn w C ks vs m) {i : Nat} (hi : i < m.length) : ∃ g cap, ks = .slice (some ⟨g, 0, none⟩) m.length cap ∧ g < w.heap.size ∧ w.rangeAt g (i * 32) (m[i].1.toList.map encB) := by
  obtain ⟨g, cap, e, h1, h2, h3, h4, h5, h6⟩ : ∃ g cap, ks = .slice (some ⟨g, 0, none⟩) m.length cap ∧ C ≤ g ∧ g < w.heap.size ∧ m.length ≤ cap ∧ cap ≤ maxLen ∧ w.there g 0 (cap * 32) ∧ w.rangeAt g 0 (m.flatMap fun x => x.1.toList.map encB) := by
    rcases h.keys.2 with ⟨_, h0⟩ | h
    · omega
    · exact h
  refine ⟨g, cap, e, h2, fun j u hu => ?_⟩
  have := h6 (i * 32 + j) u (keys_flat (fun x hx => (h.ok x hx).1) hi hu)
  rwa [Nat.zero_add] at this

/-- Where a key stands. -/
def findN : List (Array Nat × ByteArray) → Array Nat → Option Nat
  | [], _ => none
  | x :: m, K => if x.1 = K then some 0 else (findN m K).map (· + 1)
theorem findN_drop {m : List (Array Nat × ByteArray)} {K : Array Nat} : ∀ {i : Nat}, (∀ j (h : j < m.length), j < i → m[j].1 ≠ K) → i ≤ m.length → findN m K = (findN (m.drop i) K).map (· + i) := by
  induction m with
  | nil => intro i _ hi; have : i = 0 := (by simpa using hi); subst this; rfl
  | cons x m ih =>
    intro i h hi
    cases i with
    | zero => rw [List.drop_zero]; cases findN (x :: m) K <;> rfl
    | succ i =>
      have h0 := h 0 (by simp) (by omega)
      rw [List.getElem_cons_zero] at h0
      rw [findN, if_neg h0, List.drop_succ_cons, ih (i := i) (fun j hj hji => by have := h (j + 1) (by simpa using hj) (by omega); simpa using this) (by simpa using hi)]
      cases findN (m.drop i) K <;> simp [Nat.add_assoc]
end Go.Proofs.YtjiikjpnlgogfaaGreatDoor

namespace Go.Proofs.YtjiikjpnlgogfaaGreatDoor
open Go.RowKit

/-- A long array loaded, in a region that only reads. -/
theorem quiet_load_mid {P : Program} {C : World → Prop} {op : Oper} {a : Act} {K : Act → Prop} (ty : TypeId) (x : Operand) (ho : op.op = .load ty x) (b o : Nat) (hx : a.eval x = .pointer (some ⟨b, o, none⟩)) (cs : List Value) (d : TypeDesc) (hc : ∀ w, C w → w.rangeAt b o cs) (hu : P.underlying ty = some d) (hd : d.isRow = true) (hi : (P.info? ty).map (·.size) = some cs.length) (h : K (a.put op.dst (.agg cs.toArray))) : op.quiet P a C K :=
  ⟨_, fun w hw => by
    unfold Oper.quietAt execOp
    simp only [ho, hx, Instr.loadAt, Instr.sureAddr, Sem.run_bind, Sem.run_pure, Result.andThen_ok, run_loadVar_mid w b o ty cs d (hc w hw) hu hd hi]
    exact ⟨rfl, rfl⟩, h⟩

def findV : Option Nat → Int
  | none => -1
  | some i => (i : Int)
theorem findN_at {m : List (Array Nat × ByteArray)} {K : Array Nat} {i : Nat} (h : ∀ j (hj : j < m.length), j < i → m[j].1 ≠ K) (hi : i < m.length) (he : m[i].1 = K) : findN m K = some i := by
  rw [findN_drop h (Nat.le_of_lt hi), List.drop_eq_getElem_cons hi, findN, if_pos he]
  simp
theorem findN_no {m : List (Array Nat × ByteArray)} {K : Array Nat} (h : ∀ j (hj : j < m.length), m[j].1 ≠ K) : findN m K = none := by
  rw [findN_drop (i := m.length) (fun j hj _ => h j hj) (Nat.le_refl _), List.drop_of_length_le (Nat.le_refl _)]
  rfl

set_option maxRecDepth 100000 in
set_option maxHeartbeats 3200000 in
theorem kfind_any {w : World} {C : Nat} {ks vs : Value} {m : List (Array Nat × ByteArray)} {K : Array Nat} (h : Kn w C ks vs m) (hm : m.length ≤ 1000) (hK : K.size = 32) (hKb : Bytes K) :
    Calls Tryz.prog 27 #[.agg #[ks, vs], .agg (K.toList.map encB).toArray] w fun e w' => e = .returned (.int .i64 (findV (findN m K))) ∧ Below w.heap.size w w' := by
  obtain ⟨pk, mk, ck, rfl⟩ := h.keys.shape
  obtain ⟨pv, mv, cv, rfl⟩ := h.vals.shape
  have hmk : mk = m.length := by
    rcases h.keys.2 with ⟨h1, h2⟩ | ⟨g, cap, h1, _⟩
    · simp only [Value.slice.injEq] at h1; omega
    · simp only [Value.slice.injEq] at h1; exact h1.2.1
  subst hmk
  have hsz : (Tryz.prog.info? 26).map (·.size) = some (K.toList.map encB).length := by rw [size51]; simp [hK]
  obtain ⟨W0, hW0⟩ : ∃ W0, (w.alloc (.cells #[.slice pk m.length ck, .slice pv mv cv] 54)).alloc (.cells (K.toList.map encB).toArray 26) = W0 := ⟨_, rfl⟩
  have hb0 : Below w.heap.size w W0 := by rw [← hW0]; exact ((Below.refl _ _).alloc (Nat.le_refl _) _).alloc (by simp) _
  have hs0 : W0.heap.size = w.heap.size + 2 := by rw [← hW0]; simp
  have c0 : W0.cell? ⟨w.heap.size, 0, none⟩ = some (.slice pk m.length ck) := by rw [← hW0]; simp
  have hrow : W0.rangeAt (w.heap.size + 1) 0 (K.toList.map encB) := fun j u hu => by
    have e1 : (w.alloc (.cells #[.slice pk m.length ck, .slice pv mv cv] 54)).heap.size = w.heap.size + 1 := by simp
    rw [← hW0, Nat.zero_add, ← e1, World.cell?_alloc_new]
    simpa using hu
  have HK0 := Hid.hide (h.below hb0)
  obtain ⟨R, hR⟩ : ∃ R, findV (findN m K) = R := ⟨_, rfl⟩
  have HX : Hid (findV (findN m K) = R ∧ K.size = 32 ∧ Bytes K ∧ m.length ≤ 1000 ∧ Below w.heap.size w W0 ∧ W0.heap.size = w.heap.size + 2) := ⟨hR, hK, hKb, hm, hb0, hs0⟩
  have hu26 := Tryz.underlying26
  rw [hR]
  clear h hm hK hKb hb0 hs0 hR
  go_enter Tryz.func27, Tryz.ntmps27
  go_wp2
  clear hW0
  go_loopg [5] m.length (fun g i wr => ∃ k : Nat, k ≤ m.length ∧ g = m.length - k ∧ i = .int .i64 (k : Int) ∧ (∀ j (hj : j < m.length), j < k → m[j].1 ≠ K) ∧ ∃ q, wr = W0.drewN q)
  case atStart => exact ⟨0, Nat.zero_le _, rfl, rfl, fun j _ h => absurd h (Nat.not_lt_zero _), 0, rfl⟩
  case round =>
    obtain ⟨k, hk, rfl, rfl, hne, q, rfl⟩ := hrel
    by_cases hlt : k < m.length
    · have i1 : (k : Int) < (m.length : Int) := by omega
      obtain ⟨g, cap, hks, hgl, hrg⟩ := HK0.out.key hlt
      simp only [Value.slice.injEq] at hks
      obtain ⟨rfl, -, rfl⟩ := hks
      have hmem := HK0.out.ok _ (List.getElem_mem hlt)
      have hsz2 : (Tryz.prog.info? 26).map (·.size) = some (m[k].1.toList.map encB).length := by rw [size51]; simp [hmem.1]
      have heq := fun W => key_same m[k].1 K hmem.1 HX.out.2.1 hmem.2.1 HX.out.2.2.1 W
      have HNe := Hid.hide hne
      by_cases he : m[k].1 = K
      · have hfin : R = (k : Int) := by rw [← HX.out.1, findN_at hne hlt he]; rfl
        rw [decide_eq_true he] at heq
        have HR := Hid.hide hfin
        clear hne hfin he hmem
        go_upto_region 4 with fail
        refine wp_region_quiet_lit (by kernel_rfl) (by kernel_rfl) ?_
        iterate 4 (go_big_quiet_step (fail))
        refine BigFrame.wpQuiet_want rfl fun Kq hKq => quiet_load_mid 26 _ rfl g (k * 32) rfl (m[k].1.toList.map encB) _ (fun W hW => ?ld1) hu26 rfl hsz2 (hKq _ ?_)
        case ld1 => obtain ⟨n, rfl⟩ := hW; exact fun j u hu => (by simpa using hrg j u hu)
        clear Kq hKq
        refine BigFrame.wpQuiet_want rfl fun Kq hKq => quiet_load_mid 26 _ rfl (w.heap.size + 1) 0 rfl (K.toList.map encB) _ (fun W hW => ?ld2) hu26 rfl hsz (hKq _ ?_)
        case ld2 => obtain ⟨n, rfl⟩ := hW; exact fun j u hu => (by simpa using hrow j u hu)
        clear Kq hKq
        quiet_step (fail)
        refine wpQuiet_nil ?_
        rintro _ ⟨nq, rfl⟩
        go_wp2
        go_ret
        exact ⟨by rw [HR.out]; rfl, Below.drewN (Below.drewN HX.out.2.2.2.2.1 q) nq⟩
      · rw [decide_eq_false he] at heq
        have HQ : Hid (∀ j (hj : j < m.length), j < k + 1 → m[j].1 ≠ K) := fun j hj hjk => by
          by_cases e : j = k
          · subst e; exact he
          · exact HNe.out j hj (by omega)
        have hk1 := HX.out.2.2.2.1
        have hw1 : wrap64 ((k : Int) + 1) = ((k + 1 : Nat) : Int) := by unfold wrap64; omega
        have HW1 := Hid.hide hw1
        clear hne he hmem hw1 hk1
        go_upto_region 4 with fail
        refine wp_region_quiet_lit (by kernel_rfl) (by kernel_rfl) ?_
        iterate 4 (go_big_quiet_step (fail))
        refine BigFrame.wpQuiet_want rfl fun Kq hKq => quiet_load_mid 26 _ rfl g (k * 32) rfl (m[k].1.toList.map encB) _ (fun W hW => ?ld1) hu26 rfl hsz2 (hKq _ ?_)
        case ld1 => obtain ⟨n, rfl⟩ := hW; exact fun j u hu => (by simpa using hrg j u hu)
        clear Kq hKq
        refine BigFrame.wpQuiet_want rfl fun Kq hKq => quiet_load_mid 26 _ rfl (w.heap.size + 1) 0 rfl (K.toList.map encB) _ (fun W hW => ?ld2) hu26 rfl hsz (hKq _ ?_)
        case ld2 => obtain ⟨n, rfl⟩ := hW; exact fun j u hu => (by simpa using hrow j u hu)
        clear Kq hKq
        quiet_step (fail)
        refine wpQuiet_nil ?_
        rintro _ ⟨nq, rfl⟩
        go_wp2
        go_roundg (m.length - (k + 1))
        case measure => omega
        case rel => exact ⟨k + 1, hlt, rfl, by rw [HW1.out], HQ.out, q + nq, rfl⟩
    · have i1 : ¬ (k : Int) < (m.length : Int) := by omega
      have hfin : R = -1 := by rw [← HX.out.1, findN_no fun j hj => hne j hj (by omega)]; rfl
      have HR := Hid.hide hfin
      clear hne hfin
      go_wp2
      go_ret
      exact ⟨by rw [HR.out]; rfl, Below.drewN HX.out.2.2.2.2.1 q⟩
end Go.Proofs.YtjiikjpnlgogfaaGreatDoor

namespace Go.Proofs.YtjiikjpnlgogfaaGreatDoor
open Go.RowKit

def offAt : Value → Nat
  | .pointer (some a) => a.off
  | _ => 0
@[simp] theorem offAt_pointer (b o : Nat) : offAt (.pointer (some ⟨b, o, none⟩)) = o := rfl
@[simp] theorem cells_agg (cs : Array Value) : Value.cells (.agg cs) = cs := rfl
/-- The 32 cells that lie there. -/
def keyCells (w : World) (b o : Nat) : Array Value := ((List.range 32).map fun j => (w.cell? ⟨b, o + j, none⟩).getD undef).toArray
def HasKey (w : World) (b o : Nat) : Prop := ∀ j, j < 32 → (w.cell? ⟨b, o + j, none⟩).isSome = true
theorem keyCells_of {w : World} {b o : Nat} {cs : List Value} (h : w.rangeAt b o cs) (hl : cs.length = 32) : keyCells w b o = cs.toArray ∧ HasKey w b o := by
  have hj : ∀ j (hj : j < 32), w.cell? ⟨b, o + j, none⟩ = some (cs[j]'(by omega)) := fun j hj => h j _ (List.getElem?_eq_getElem (by omega))
  refine ⟨?_, fun j hjj => by rw [hj j hjj]; rfl⟩
  unfold keyCells
  apply congrArg List.toArray
  apply List.ext_getElem (by simp [hl])
  intro j h1 h2
  have h3 : j < 32 := by simpa using h1
  rw [List.getElem_map, List.getElem_range, hj j h3]
  rfl
theorem keyCells_drew (w : World) (b o : Nat) : keyCells w.drew b o = keyCells w b o := rfl
theorem hasKey_drew (w : World) (b o : Nat) : HasKey w.drew b o = HasKey w b o := rfl

theorem wp_load_key (dst : Option Tmp) (x : Operand) (type : TypeId) (pos : String) (af : Array Edge) (gd : Option (Nat × Bool)) (a : Act) (w : World) (K : Act → World → Prop) (Q : Exit → Act → World → Prop)
    (hx : a.eval x = .pointer (some ⟨blockOf (a.eval x), offAt (a.eval x), none⟩)) (hall : HasKey w (blockOf (a.eval x)) (offAt (a.eval x))) :
    Oper.wp Tryz.prog { dst := dst, op := .load 26 x, type := type, pos := pos, after := af, guard := gd } a w K Q = K (a.put dst (.agg (keyCells w (blockOf (a.eval x)) (offAt (a.eval x))))) w := by
  generalize blockOf (a.eval x) = b at hx hall ⊢
  generalize offAt (a.eval x) = o at hx hall ⊢
  have hr : w.rangeAt b o ((List.range 32).map fun j => (w.cell? ⟨b, o + j, none⟩).getD undef) := by
    intro j v hv
    have hj : j < 32 := by
      have := (List.getElem?_eq_some_iff.1 hv).1
      simpa using this
    obtain ⟨u, hu⟩ := Option.isSome_iff_exists.1 (hall j hj)
    simp only [List.getElem?_map, List.getElem?_range hj, Option.map_some, Option.some.injEq] at hv
    rw [hu, ← hv, hu]
    rfl
  unfold Oper.wp execOp
  simp only [hx, Instr.loadAt, Instr.sureAddr, Sem.run_bind, Sem.run_pure, Result.andThen_ok, run_loadVar_mid w b o 26 _ _ hr Tryz.underlying26 rfl (by rw [size51]; simp)]
  rfl

theorem keyZ : (Tryz.prog.info? 26).map (fun i => (i.zero, i.size, i.bytes)) = some (some (.agg (zero32.map encB)), 32, 32) := by kernel_rfl
theorem strZ : (Tryz.prog.info? 9).map (fun i => (i.zero, i.size, i.bytes)) = some (some (.string ⟨#[]⟩), 1, 16) := by kernel_rfl
theorem run_build_key (w : World) (cs : Array Value) (h : cs.size = 32) : (Instr.buildSlice 51 1 #[(0, .agg cs)]).run Tryz.prog w = .ok (.slice (some ⟨w.heap.size, 0, none⟩) 1 1) (w.alloc (.cells cs 26)) := by
  obtain ⟨i, h1, h2, h3, h4⟩ := info_parts keyZ
  refine run_buildSlice w _ 26 1 _ cs i (.agg (zero32.map encB)) Tryz.underlying51 h1 h2 (by rw [h3]; decide) (by rw [h3]; decide) ?_
  rw [h3]
  have := Great.fill_whole (s := 32) (by decide) [.agg cs] ((Array.range (1 * 32)).map ((Value.agg (zero32.map encB)).cells[· % (Value.agg (zero32.map encB)).cells.size]!)) (by simpa [Value.cells] using h) (by simp)
  simpa [Value.cells] using this
theorem wp_build_key (dst : Option Tmp) (x : Operand) (type : TypeId) (pos : String) (af : Array Edge) (gd : Option (Nat × Bool)) (a : Act) (w : World) (K : Act → World → Prop) (Q : Exit → Act → World → Prop)
    (hx : a.eval x = .agg (a.eval x).cells) (hs : (a.eval x).cells.size = 32) :
    Oper.wp Tryz.prog { dst := dst, op := .buildSlice 51 1 #[(0, x)], type := type, pos := pos, after := af, guard := gd } a w K Q = K (a.put dst (.slice (some ⟨w.heap.size, 0, none⟩) 1 1)) (w.alloc (.cells (a.eval x).cells 26)) := by
  generalize (a.eval x).cells = cs at hx hs ⊢
  have h := run_build_key w cs hs
  unfold Oper.wp execOp
  simp only [List.map_toArray, List.map_cons, List.map_nil, hx, Sem.run_bind, h, Result.andThen_ok]
  rfl
end Go.Proofs.YtjiikjpnlgogfaaGreatDoor

namespace Go.Proofs.YtjiikjpnlgogfaaGreatDoor
open Go.RowKit

/-- Two rows that grow, and the variable that holds them. -/
structure Kv (w : World) (C ob : Nat) (ks vs : Value) (A : List (Array Nat)) (V : List ByteArray) : Prop where
  keys : OwnC w C 32 ks A.length (A.flatMap fun x => x.toList.map encB)
  vals : OwnC w C 1 vs V.length (V.map Value.string)
  apart : ∀ g, ks.ownBlock = some g → vs.ownBlock ≠ some g
  c0 : w.cell? ⟨ob, 0, none⟩ = some ks
  c1 : w.cell? ⟨ob, 1, none⟩ = some vs
  f0 : w.frozen? ⟨ob, 0, none⟩ = false
  f1 : w.frozen? ⟨ob, 1, none⟩ = false
  lt : ob < w.heap.size
  size : C ≤ w.heap.size
  nk : ks.ownBlock ≠ some ob
  nv : vs.ownBlock ≠ some ob
theorem Kv.heap {w w' : World} {C ob : Nat} {ks vs : Value} {A : List (Array Nat)} {V : List ByteArray} (h : Kv w C ob ks vs A V) (hh : w'.heap = w.heap) : Kv w' C ob ks vs A V :=
  ⟨h.keys.keep (by rw [hh]; exact Nat.le_refl _) fun k _ _ => by rw [hh], h.vals.keep (by rw [hh]; exact Nat.le_refl _) fun k _ _ => by rw [hh], h.apart, (World.cell?_of_block (by rw [hh])).trans h.c0, (World.cell?_of_block (by rw [hh])).trans h.c1, (World.frozen?_of_block (by rw [hh])).trans h.f0, (World.frozen?_of_block (by rw [hh])).trans h.f1, by rw [hh]; exact h.lt, by rw [hh]; exact h.size, h.nk, h.nv⟩

/-- What an append to a row leaves of the variable. -/
theorem Kv.var {w w2 : World} {C ob : Nat} {ks vs : Value} {A : List (Array Nat)} {V : List ByteArray} {o : Obj} {x : Option Nat} (h : Kv w C ob ks vs A V) (hx : x = ks.ownBlock ∨ x = vs.ownBlock) (hg : (w.alloc o).grownBy w2 x) : w2.heap[ob]? = w.heap[ob]? ∧ ob < w2.heap.size ∧ C ≤ w2.heap.size := by
  have hs := hg.size
  have h1 := h.lt
  have h2 := h.size
  simp only [World.size_alloc] at hs
  refine ⟨(hg.block ob (by simp; omega) fun e => ?_).trans (Below.heap_alloc _ _ _ (by omega)), by omega, by omega⟩
  rcases hx with rfl | rfl
  · exact h.nk e.symm
  · exact h.nv e.symm
theorem setCell_own {w : World} {C size : Nat} {v : Value} {n : Nat} {cs : List Value} (h : OwnC w C size v n cs) {ob : Nat} (hob : v.ownBlock ≠ some ob) (j : Nat) (u : Value) : OwnC (w.setCell ⟨ob, j, none⟩ u) C size v n cs :=
  h.keep (by simp) fun k _ e => Below.heap_setCell _ _ _ _ (fun e' => hob (by rw [e]; exact congrArg some e'))

theorem Kv.key {w w2 : World} {C ob : Nat} {ks vs v2 : Value} {A : List (Array Nat)} {V : List ByteArray} {o : Obj} {K : Array Nat} (h : Kv w C ob ks vs A V) (hO : OwnC w2 C 32 v2 (A.length + 1) ((A.flatMap fun x => x.toList.map encB) ++ K.toList.map encB)) (hg : (w.alloc o).grownBy w2 ks.ownBlock) (hf : ∀ k, v2.ownBlock = some k → ks.ownBlock = some k ∨ (w.alloc o).heap.size ≤ k) : Kv (w2.setCell ⟨ob, 0, none⟩ v2) C ob v2 vs (A ++ [K]) V := by
  obtain ⟨hb, hl, hC⟩ := h.var (.inl rfl) hg
  have hv : OwnC w2 C 1 vs V.length (V.map Value.string) := (h.vals.alloc o).keep hg.size fun k hk e => hg.block k hk fun e' => h.apart k e'.symm e
  have hn2 : v2.ownBlock ≠ some ob := fun e => by
    rcases hf ob e with e2 | e2
    · exact h.nk e2
    · have := h.lt
      simp at e2
      omega
  refine ⟨?_, setCell_own hv h.nv _ _, fun g e e' => ?_, ?_, ?_, ?_, ?_, by simpa using hl, by simpa using hC, hn2, h.nv⟩
  · have := setCell_own hO hn2 0 v2
    rw [List.length_append, List.flatMap_append]
    simpa using this
  · rcases hf g e with e2 | e2
    · exact h.apart g e2 e'
    · have := (h.vals.block g e').2
      simp at e2
      omega
  · exact World.cell?_setCell_same' _ _ _ (by rw [World.cell?_of_block hb, h.c0]; rfl)
  · rw [World.cell?_setCell_other _ _ _ _ (by simp), World.cell?_of_block hb, h.c1]
  · rw [World.frozen?_setCell, World.frozen?_of_block hb, h.f0]
  · rw [World.frozen?_setCell, World.frozen?_of_block hb, h.f1]
theorem Kv.val {w w2 : World} {C ob : Nat} {ks vs v2 : Value} {A : List (Array Nat)} {V : List ByteArray} {o : Obj} {u : ByteArray} (h : Kv w C ob ks vs A V) (hO : OwnC w2 C 1 v2 (V.length + 1) (V.map Value.string ++ [.string u])) (hg : (w.alloc o).grownBy w2 vs.ownBlock) (hf : ∀ k, v2.ownBlock = some k → vs.ownBlock = some k ∨ (w.alloc o).heap.size ≤ k) : Kv (w2.setCell ⟨ob, 1, none⟩ v2) C ob ks v2 A (V ++ [u]) := by
  obtain ⟨hb, hl, hC⟩ := h.var (.inr rfl) hg
  have hv : OwnC w2 C 32 ks A.length (A.flatMap fun x => x.toList.map encB) := (h.keys.alloc o).keep hg.size fun k hk e => hg.block k hk fun e' => h.apart k e e'.symm
  have hn2 : v2.ownBlock ≠ some ob := fun e => by
    rcases hf ob e with e2 | e2
    · exact h.nv e2
    · have := h.lt
      simp at e2
      omega
  refine ⟨setCell_own hv h.nk _ _, ?_, fun g e e' => ?_, ?_, ?_, ?_, ?_, by simpa using hl, by simpa using hC, h.nk, hn2⟩
  · have := setCell_own hO hn2 1 v2
    rw [List.length_append, List.map_append]
    simpa using this
  · rcases hf g e' with e2 | e2
    · exact h.apart g e e2
    · have := (h.keys.block g e).2
      simp at e2
      omega
  · rw [World.cell?_setCell_other _ _ _ _ (by simp), World.cell?_of_block hb, h.c0]
  · exact World.cell?_setCell_same' _ _ _ (by rw [World.cell?_of_block hb, h.c1]; rfl)
  · rw [World.frozen?_setCell, World.frozen?_of_block hb, h.f0]
  · rw [World.frozen?_setCell, World.frozen?_of_block hb, h.f1]
theorem Kv.below {w w2 W0 : World} {B C ob : Nat} {ks vs : Value} {A : List (Array Nat)} {V : List ByteArray} {o : Obj} {x : Option Nat} (h : Kv w C ob ks vs A V) (hx : x = ks.ownBlock ∨ x = vs.ownBlock) (hg : (w.alloc o).grownBy w2 x) (hb : Below B W0 w) (hB : B ≤ ob) (hBC : B ≤ C) (hB0 : B ≤ W0.heap.size) (j : Nat) (u : Value) : Below B W0 (w2.setCell ⟨ob, j, none⟩ u) := by
  refine (belowGrown (hb.alloc (Nat.le_trans hB0 hb.size) o) hB0 hg fun k e => ?_).setCell (p := ⟨ob, j, none⟩) hB u
  rcases hx with rfl | rfl
  · have := (h.keys.block k e).1; omega
  · have := (h.vals.block k e).1; omega
theorem Kv.kn {w : World} {C ob : Nat} {ks vs : Value} {m : List (Array Nat × ByteArray)} (h : Kv w C ob ks vs (m.map (·.1)) (m.map (·.2))) (ok : ∀ x ∈ m, x.1.size = 32 ∧ Bytes x.1 ∧ 0 < x.2.size ∧ x.2.size ≤ 100) : Kn w C ks vs m := by
  refine ⟨?_, ?_, ok, h.apart⟩
  · have := h.keys
    rw [List.length_map, List.flatMap_map] at this
    exact this
  · have := h.vals
    rw [List.length_map, List.map_map] at this
    exact this
end Go.Proofs.YtjiikjpnlgogfaaGreatDoor
