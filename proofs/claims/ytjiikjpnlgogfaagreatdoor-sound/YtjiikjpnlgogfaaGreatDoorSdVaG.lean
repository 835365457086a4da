/-
  A region that draws its order, whose operations each yield a value that hangs on nothing but what the others yield: whatever the order, the same comes out. (So a region with many calls is walked once, operation by operation, and not order by order.)
  A region that draws its order, whose operations make values that hang on the order (new blocks): one step an operation, under a relation of what came up, what it yielded and the world.
-/
import Derived.Test.YtjiikjpnlgogfaaGreatDoorSdBase
import Derived.Orders
import Derived.RegionTactic
namespace Go.Proofs.YtjiikjpnlgogfaaGreatDoor
open Go.RowKit
section
variable {P : Program} {md : Region.Mode} {ops : Array Oper} {Q : Exit → Act → World → Prop}
def dstOf (ops : Array Oper) (i : Nat) : Option Nat := (ops[i]?).bind (·.dst)
structure Sat (ops : Array Oper) (a0 : Act) (val : Nat → Value) (listed : Array Bool) (a : Act) : Prop where
 defers : a.defers = a0.defers
 size : a.tmps.size = a0.tmps.size
 done : ∀ i j, listed.getD i false = true → dstOf ops i = some j → j < a0.tmps.size → a.tmps[j]? = some (val i)
 rest : ∀ j, (∀ i, listed.getD i false = true → dstOf ops i ≠ some j) → a.tmps[j]? = a0.tmps[j]?
theorem Sat.start (ops : Array Oper) (a0 : Act) (val : Nat → Value) (n : Nat) : Sat ops a0 val (Array.replicate n false) a0 := by
 have hf : ∀ i, (Array.replicate n false).getD i false = false := by
  intro i
  simp only [Array.getD]
  split
  ·simp
  ·rfl
 exact ⟨rfl, rfl, fun i j h => (by rw [hf] at h; cases h), fun j _ => rfl⟩
theorem listed_set {listed : Array Bool} {i : Nat} (hi : i < listed.size) (k : Nat) : (listed.setIfInBounds i true).getD k false = if k = i then true else listed.getD k false := by
 by_cases h : k = i
 ·subst h
  rw [if_pos rfl]
  simp [Array.getD, hi]
 ·rw [if_neg h]
  simp only [Array.getD, Array.size_setIfInBounds]
  split
  ·rename_i hk
   exact Array.getElem_setIfInBounds_ne hk (Ne.symm h)
  ·rfl
theorem Sat.put {a0 a : Act} {val : Nat → Value} {listed : Array Bool} (h : Sat ops a0 val listed a) {i : Nat} {o : Oper} (ho : ops[i]? = some o) (hi : i < listed.size) (hnew : listed.getD i false = false)
  (hinj : ∀ i k j, dstOf ops i = some j → dstOf ops k = some j → i = k) : Sat ops a0 val (listed.setIfInBounds i true) (a.put o.dst (val i)) := by
 have hd : dstOf ops i = o.dst := by unfold dstOf; rw [ho]; rfl
 cases hdst : o.dst with
 | none =>
  rw [hdst] at hd
  refine ⟨h.defers, h.size, fun k j hk hj hlt => ?_, fun j hj => h.rest j (fun k hk => ?_)⟩
  ·rw [listed_set hi] at hk
   by_cases e : k = i
   ·subst e; rw [hd] at hj; cases hj
   ·rw [if_neg e] at hk; exact h.done k j hk hj hlt
  ·exact hj k (by rw [listed_set hi]; split <;> first | rfl | exact hk)
 | some d =>
  rw [hdst] at hd
  have hput : (a.put (some d) (val i)).tmps = a.tmps.setIfInBounds d (val i) := rfl
  refine ⟨h.defers, by rw [hput, Array.size_setIfInBounds]; exact h.size, fun k j hk hj hlt => ?_, fun j hj => ?_⟩
  ·rw [hput]
   rw [listed_set hi] at hk
   by_cases e : k = i
   ·subst e
    rw [hd] at hj
    cases hj
    rw [Array.getElem?_setIfInBounds_self, if_pos (by rw [h.size]; exact hlt)]
   ·rw [if_neg e] at hk
    rw [Array.getElem?_setIfInBounds_ne (fun e2 => e (hinj k i j hj (by rw [hd, e2])))]
    exact h.done k j hk hj hlt
  ·have hne : d ≠ j := fun e => hj i (by rw [listed_set hi, if_pos rfl]) (by rw [hd, e])
   rw [hput, Array.getElem?_setIfInBounds_ne hne]
   exact h.rest j (fun k hk => hj k (by rw [listed_set hi]; split <;> first | rfl | exact hk))
theorem Sat.same {a0 a b : Act} {val : Nat → Value} {listed : Array Bool} (h : Sat ops a0 val listed a) (k : Sat ops a0 val listed b) : a = b := by
 obtain ⟨at_, ad⟩ := a
 obtain ⟨bt, bd⟩ := b
 have e1 : ad = bd := h.defers.trans k.defers.symm
 subst e1
 have e2 : at_ = bt := by
  apply Array.ext_getElem?
  intro j
  by_cases hj : j < a0.tmps.size
  ·by_cases hex : ∃ i, listed.getD i false = true ∧ dstOf ops i = some j
   ·obtain ⟨i, h1, h2⟩ := hex
    exact (h.done i j h1 h2 hj).trans (k.done i j h1 h2 hj).symm
   ·have hno : ∀ i, listed.getD i false = true → dstOf ops i ≠ some j := fun i h1 h2 => hex ⟨i, h1, h2⟩
    exact (h.rest j hno).trans (k.rest j hno).symm
  ·have h1 := h.size
   have h2 := k.size
   simp only at h1 h2
   rw [Array.getElem?_eq_none (by omega), Array.getElem?_eq_none (by omega)]
 subst e2
 rfl
def left_ (listed : Array Bool) : Nat := (listed.toList.filter (fun b => !b)).length
theorem left_set {listed : Array Bool} {i : Nat} (hi : i < listed.size) (hnew : listed.getD i false = false) : left_ (listed.setIfInBounds i true) + 1 = left_ listed := by
 unfold left_
 have hset : (listed.setIfInBounds i true).toList = listed.toList.set i true := by simp
 rw [hset]
 have hget : listed.toList[i]? = some false := by
  simp only [Array.getD, hi, dif_pos] at hnew
  rw [Array.getElem?_toList, Array.getElem?_eq_getElem hi]
  simpa using hnew
 generalize listed.toList = l at hget
 clear hset hnew hi
 induction l generalizing i with
 | nil => simp at hget
 | cons x l ih =>
  cases i with
  | zero =>
   simp only [List.getElem?_cons_zero, Option.some.injEq] at hget
   subst hget
   simp
  | succ i =>
   simp only [List.getElem?_cons_succ] at hget
   have := ih hget
   simp only [List.set_cons_succ, List.filter_cons]
   split
   ·simp only [List.length_cons]; omega
   ·exact this
def runFrom (val : Nat → Value) : List Oper → Nat → Act → Act
 | [], _, a => a
 | o :: r, k, a => runFrom val r (k + 1) (a.put o.dst (val k))
theorem Sat.all {a0 : Act} {val : Nat → Value} (hinj : ∀ i k j, dstOf ops i = some j → dstOf ops k = some j → i = k) : ∀ (post pre : List Oper) (listed : Array Bool) (a : Act), ops.toList = pre ++ post → listed.size = ops.size → (∀ i, listed.getD i false = decide (i < pre.length)) → Sat ops a0 val listed a → Sat ops a0 val (Array.replicate ops.size true) (runFrom val post pre.length a)
 | [], pre, listed, a, hp, hs, hl, h => by
  have hn : pre.length = ops.size := by rw [List.append_nil] at hp; rw [← hp, Array.length_toList]
  have : listed = Array.replicate ops.size true := by
   apply Array.ext
   ·simp [hs]
   ·intro i h1 h2
    have := hl i
    simp only [Array.getD, h1, dif_pos] at this
    rw [decide_eq_true (by omega)] at this
    simpa using this
  subst this
  exact h
 | o :: r, pre, listed, a, hp, hs, hl, h => by
  have hlen : pre.length < ops.size := by
   have := congrArg List.length hp
   simp only [Array.length_toList, List.length_append, List.length_cons] at this
   omega
  have ho : ops[pre.length]? = some o := by
   rw [← Array.getElem?_toList, hp, List.getElem?_append_right (Nat.le_refl _), Nat.sub_self]
   rfl
  have := Sat.all hinj r (pre ++ [o]) (listed.setIfInBounds pre.length true) (a.put o.dst (val pre.length)) (by rw [hp]; simp) (by simp [hs]) (fun i => by
   rw [listed_set (by omega), hl]
   simp only [List.length_append, List.length_cons, List.length_nil]
   by_cases e : i = pre.length
   ·rw [if_pos e, decide_eq_true (by omega)]
   ·rw [if_neg e]
    by_cases e2 : i < pre.length
    ·rw [decide_eq_true e2, decide_eq_true (by omega)]
    ·rw [decide_eq_false e2, decide_eq_false (by omega)]) (h.put ho (by omega) (by rw [hl]; exact decide_eq_false (Nat.lt_irrefl _)) hinj)
  rw [runFrom]
  simpa using this
def dstsApart (ops : Array Oper) : Bool := (List.range ops.size).all fun i => (List.range ops.size).all fun k => decide (i = k) || (match dstOf ops i, dstOf ops k with | some a, some b => decide (a ≠ b) | _, _ => true)
theorem dst_inj (h : dstsApart ops = true) : ∀ i k j, dstOf ops i = some j → dstOf ops k = some j → i = k := by
 intro i k j hi hk
 have lt : ∀ n, dstOf ops n = some j → n < ops.size := fun n hn => by
  by_cases hl : n < ops.size
  ·exact hl
  ·unfold dstOf at hn
   rw [Array.getElem?_eq_none (by omega)] at hn
   cases hn
 have := List.all_eq_true.1 (List.all_eq_true.1 h i (List.mem_range.2 (lt i hi))) k (List.mem_range.2 (lt k hk))
 rw [hi, hk] at this
 simpa using this
def noDst (ops : Array Oper) (j : Nat) : Bool := (List.range ops.size).all fun i => decide (dstOf ops i ≠ some j)
theorem noDst_of {j : Nat} (h : noDst ops j = true) : ∀ i, dstOf ops i ≠ some j := by
 intro i hi
 have hl : i < ops.size := by
  by_cases hl : i < ops.size
  ·exact hl
  ·unfold dstOf at hi
   rw [Array.getElem?_eq_none (by omega)] at hi
   cases hi
 have := List.all_eq_true.1 h i (List.mem_range.2 hl)
 simp only [decide_eq_true_eq] at this
 exact this hi
end
end Go.Proofs.YtjiikjpnlgogfaaGreatDoor
namespace Go.Proofs.YtjiikjpnlgogfaaGreatDoor
open Go.RowKit
section
variable {P : Program} {md : Region.Mode} {ops : Array Oper} {Q : Exit → Act → World → Prop}
theorem Sat.congr {a0 a : Act} {val val' : Nat → Value} {listed : Array Bool} (h : Sat ops a0 val listed a) (he : ∀ i, listed.getD i false = true → val i = val' i) : Sat ops a0 val' listed a :=
 ⟨h.defers, h.size, fun i j hl hd hj => by rw [← he i hl]; exact h.done i j hl hd hj, h.rest⟩
def backBind (md : Region.Mode) (ops : Array Oper) : Bool := (List.range ops.size).all fun i => match ops[i]? with | some o => o.guard.isNone && o.after.all (fun e => !Region.binds md e || decide (e.on < i)) | none => true
theorem bind_of (h : backBind md ops = true) : ∀ (i : Nat) (o : Oper), ops[i]? = some o → o.guard = none ∧ ∀ e ∈ o.after, Region.binds md e = true → e.on < i := by
 intro i o ho
 have hi : i < ops.size := (Array.getElem?_eq_some_iff.1 ho).1
 have := List.all_eq_true.1 h i (List.mem_range.2 hi)
 rw [ho] at this
 simp only [Bool.and_eq_true] at this
 refine ⟨by simpa using this.1, fun e he hb => ?_⟩
 have h2 := Array.all_eq_true'.1 this.2 e he
 rw [hb] at h2
 simpa using h2
theorem wpAny_vary (a0 : Act) (I : (Nat → Bool) → (Nat → Value) → World → Prop) (h1 : dstsApart ops = true) (h2 : backBind md ops = true)
  (each : ∀ (i : Nat) (o : Oper), ops[i]? = some o → ∀ (listed : Array Bool) (val : Nat → Value) (a : Act) (w : World), Sat ops a0 val listed a → listed.getD i false = false → (∀ e ∈ o.after, Region.binds md e = true → listed.getD e.on false = true) → I (fun k => listed.getD k false) val w → o.wp P a w (fun a' w' => ∃ v, a' = a.put o.dst v ∧ I (fun k => if k = i then true else listed.getD k false) (fun k => if k = i then v else val k) w') Q)
  (w : World) (val0 : Nat → Value) (hI : I (fun _ => false) val0 w) (hQ : ∀ val w, I (fun k => decide (k < ops.size)) val w → Q .normal (runFrom val ops.toList 0 a0) w) : wpAny P md ops Q ops.size (Array.replicate ops.size false) a0 w := by
 have hinj := dst_inj h1
 have hback := bind_of h2
 have hf : ∀ i, (Array.replicate ops.size false).getD i false = false := by
  intro i
  simp only [Array.getD]
  split
  ·simp
  ·rfl
 have hall : ∀ (listed : Array Bool) (val : Nat → Value) (a : Act) (w : World), listed.size = ops.size → (∀ i, i < ops.size → listed.getD i false = true) → Sat ops a0 val listed a → I (fun k => listed.getD k false) val w → Q .normal a w := by
  intro listed val a w hs hl hsat hS
  have : listed = Array.replicate ops.size true := by
   apply Array.ext
   ·simp [hs]
   ·intro i h1 h2
    have := hl i (by omega)
    simp only [Array.getD, h1, dif_pos] at this
    simpa using this
  subst this
  have he : (fun k => (Array.replicate ops.size true).getD k false) = fun k => decide (k < ops.size) := by
   funext k
   simp only [Array.getD]
   split
   ·rename_i h; rw [decide_eq_true (by simpa using h)]; simp
   ·rename_i h; rw [decide_eq_false (by simpa using h)]
  rw [he] at hS
  rw [hsat.same (Sat.all hinj ops.toList [] (Array.replicate ops.size false) a0 rfl (by simp) (fun i => by rw [hf]; exact (decide_eq_false (Nat.not_lt_zero _)).symm) (Sat.start ops a0 val ops.size))]
  exact hQ val w hS
 have hready : ∀ (listed : Array Bool), listed.size = ops.size → Region.ready md ops listed = [] → ∀ i, i < ops.size → listed.getD i false = true := by
  intro listed hs hr
  have key : ∀ n i, i < n → i < ops.size → listed.getD i false = true := by
   intro n
   induction n with
   | zero => intro i h; omega
   | succ n ih =>
    intro i hin hi
    by_cases hd : listed.getD i false = true
    ·exact hd
    ·exfalso
     have hmem : i ∈ Region.ready md ops listed := by
      unfold Region.ready
      rw [List.mem_filter]
      refine ⟨List.mem_range.2 hi, ?_⟩
      have h1 : listed.getD i true = false := by
       simp only [Array.getD, show i < listed.size by omega, dif_pos] at hd ⊢
       simpa using hd
      rw [h1, Array.getElem?_eq_getElem hi]
      simp only [Bool.not_false, Option.map_some, Option.getD_some, Bool.true_and]
      rw [Array.all_eq_true']
      intro e he
      cases hb : Region.binds md e with
      | false => rfl
      | true =>
       have q1 := (hback i ops[i] (Array.getElem?_eq_getElem hi)).2 e he hb
       rw [ih e.on (by omega) (by omega)]
       rfl
     rw [hr] at hmem
     cases hmem
  exact fun i hi => key (i + 1) i (by omega) hi
 have main : ∀ (fuel : Nat) (listed : Array Bool) (val : Nat → Value) (a : Act) (w : World), listed.size = ops.size → left_ listed ≤ fuel → Sat ops a0 val listed a → I (fun k => listed.getD k false) val w → wpAny P md ops Q fuel listed a w := by
  intro fuel
  induction fuel with
  | zero =>
   intro listed val a w hs hl hsat hS
   have hnone : ∀ i, i < ops.size → listed.getD i false = true := by
    intro i hi
    by_cases h : listed.getD i false = true
    ·exact h
    ·exfalso
     have := left_set (listed := listed) (i := i) (by omega) (by simpa using h)
     omega
   refine ⟨?_, hall listed val a w hs hnone hsat hS⟩
   unfold Region.ready
   rw [List.filter_eq_nil_iff]
   intro i hi
   have h1 : listed.getD i true = true := by
    have h2 := hnone i (List.mem_range.1 hi)
    simp only [Array.getD] at h2 ⊢
    split
    ·rename_i hk
     simpa [hk] using h2
    ·rfl
   rw [h1]
   simp
  | succ fuel ih =>
   intro listed val a w hs hl hsat hS
   refine ⟨fun hr => hall listed val a w hs (hready listed hs hr) hsat hS, fun i hi => ?_⟩
   unfold Region.ready at hi
   rw [List.mem_filter] at hi
   obtain ⟨hi1, hi2⟩ := hi
   have hio := List.mem_range.1 hi1
   have ho : ops[i]? = some ops[i] := Array.getElem?_eq_getElem hio
   rw [ho] at hi2
   simp only [Option.map_some, Option.getD_some, Bool.and_eq_true, Bool.not_eq_true'] at hi2
   obtain ⟨h1, h2⟩ := hi2
   have hnew : listed.getD i false = false := by
    simp only [Array.getD, show i < listed.size by omega, dif_pos] at h1 ⊢
    exact h1
   have hdeps : ∀ e ∈ ops[i].after, Region.binds md e = true → listed.getD e.on false = true := by
    intro e he hb
    have := (Array.all_eq_true'.1 h2) e he
    rw [hb] at this
    simpa using this
   unfold wpOp
   rw [ho]
   simp only
   have hw : Region.wanted ops[i] (yielded ops a.tmps) = true := by simp [Region.wanted, (hback i _ ho).1]
   rw [if_pos hw]
   refine .inl (Oper.wp_mono ?_ (each i _ ho listed val a w hsat hnew hdeps hS))
   rintro a' w' ⟨v, rfl, hS'⟩
   have := left_set (listed := listed) (i := i) (by omega) hnew
   have hsat' : Sat ops a0 (fun k => if k = i then v else val k) listed a := hsat.congr fun k hk => by
    rw [if_neg (fun e => by rw [e, hnew] at hk; cases hk)]
   have hput := hsat'.put ho (by omega) hnew hinj
   rw [if_pos rfl] at hput
   have he : (fun k => (listed.setIfInBounds i true).getD k false) = fun k => if k = i then true else listed.getD k false := by
    funext k
    exact listed_set (by omega) k
   exact ih _ _ _ w' (by simp [hs]) (by omega) hput (by rw [he]; exact hS')
 refine main ops.size _ val0 a0 w (by simp) ?_ (Sat.start ops a0 val0 ops.size) ?_
 ·unfold left_
  simp
 ·have he : (fun k => (Array.replicate ops.size false).getD k false) = fun _ => false := by funext k; exact hf k
  rw [he]
  exact hI
end
theorem vals_step {vf : Nat → Option Value} {d : Nat → Bool} {v : Nat → Value} (h : ∀ i x, vf i = some x → d i = true → v i = x) {i : Nat} {x : Value} (hi : vf i = some x) : ∀ j y, vf j = some y → (fun k => if k = i then true else d k) j = true → (fun k => if k = i then x else v k) j = y := fun j y hj hd => by
 by_cases e : j = i
 ·subst e
  rw [hi] at hj
  cases hj
  simp
 ·simp only [if_neg e] at hd ⊢
  exact h j y hj hd
theorem vals_free {vf : Nat → Option Value} {d : Nat → Bool} {v : Nat → Value} (h : ∀ i x, vf i = some x → d i = true → v i = x) {i : Nat} {x : Value} (hi : vf i = none) : ∀ j y, vf j = some y → (fun k => if k = i then true else d k) j = true → (fun k => if k = i then x else v k) j = y := fun j y hj hd => by
 by_cases e : j = i
 ·subst e
  rw [hi] at hj
  cases hj
 ·simp only [if_neg e] at hd ⊢
  exact h j y hj hd
end Go.Proofs.YtjiikjpnlgogfaaGreatDoor
