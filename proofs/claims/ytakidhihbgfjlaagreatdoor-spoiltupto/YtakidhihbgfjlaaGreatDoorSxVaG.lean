/-
  A region that draws its order, whose operations each yield a value that hangs on nothing but what the others yield: whatever the order, the same comes out. (So a region with many calls is walked once, operation by operation, and not order by order.)
-/
import Derived.Test.YtakidhihbgfjlaaGreatDoorSxBase
import Derived.Orders
import Derived.RegionTactic
namespace Go.Proofs.YtakidhihbgfjlaaGreatDoor
open Go.RowKit
set_option maxRecDepth 100000
set_option maxHeartbeats 25600000
section
variable {P : Program} {md : Region.Mode} {ops : Array Oper} {Q : Exit -> Act -> World -> Prop}
def dstOf (ops : Array Oper) (i : Nat) : Option Nat := (ops[i]?).bind (·.dst)
structure Sat (ops : Array Oper) (a0 : Act) (val : Nat -> Value) (listed : Array Bool) (a : Act) : Prop where
 defers : a.defers = a0.defers
 size : a.tmps.size = a0.tmps.size
 done : ∀ i j, listed.getD i false = true -> dstOf ops i = some j -> j < a0.tmps.size -> a.tmps[j]? = some (val i)
 rest : ∀ j, (∀ i, listed.getD i false = true -> dstOf ops i ≠ some j) -> a.tmps[j]? = a0.tmps[j]?
theorem Sat.start (ops : Array Oper) (a0 : Act) (val : Nat -> Value) (n : Nat) : Sat ops a0 val (Array.replicate n false) a0 := by
 have a : ∀ i, (Array.replicate n false).getD i false = false := by
  intro i
  simp only [Array.getD]
  split
  ·simp
  ·rfl
 exact ⟨rfl, rfl, fun i j h => (by rw [a] at h; cases h), fun j _ => rfl⟩
variable {listed : Array Bool}
theorem Qbw {i : Nat} (hi : i < listed.size) (k : Nat) : (listed.setIfInBounds i true).getD k false = if k = i then true else listed.getD k false := by
 by_cases h : k = i
 ·subst h
  rw [if_pos rfl]
  simp [Array.getD, hi]
 ·rw [if_neg h]
  simp only [Array.getD, Array.size_setIfInBounds]
  split
  ·rename_i hk
   exact Array.getElem_setIfInBounds_ne hk (Ne.symm h)
  ·rfl
theorem Sat.put {a0 a : Act} {val : Nat -> Value} {listed : Array Bool} (h : Sat ops a0 val listed a) {i : Nat} {o : Oper} (ho : ops[i]? = some o) (hi : i < listed.size) (hnew : listed.getD i false = false)
  (hinj : ∀ i k j, dstOf ops i = some j -> dstOf ops k = some j -> i = k) : Sat ops a0 val (listed.setIfInBounds i true) (a.put o.dst (val i)) := by
 have l : dstOf ops i = o.dst := by unfold dstOf; rw [ho]; rfl
 cases hdst : o.dst with
 | none =>
  rw [hdst] at l
  refine ⟨h.defers, h.size, fun k j c b g => ?_, fun j b => h.rest j (fun k c => ?_)⟩
  ·rw [Qbw hi] at c
   by_cases e : k = i
   ·subst e; rw [l] at b; cases b
   ·rw [if_neg e] at c; exact h.done k j c b g
  ·exact b k (by rw [Qbw hi]; split <;> first | rfl | exact c)
 | some d =>
  rw [hdst] at l
  have f : (a.put (some d) (val i)).tmps = a.tmps.setIfInBounds d (val i) := rfl
  refine ⟨h.defers, by rw [f, Array.size_setIfInBounds]; exact h.size, fun k j c b g => ?_, fun j b => ?_⟩
  ·rw [f]
   rw [Qbw hi] at c
   by_cases e : k = i
   ·subst e
    rw [l] at b
    cases b
    rw [Array.getElem?_setIfInBounds_self, if_pos (by rw [h.size]; exact g)]
   ·rw [if_neg e] at c
    rw [Array.getElem?_setIfInBounds_ne (fun n => e (hinj k i j b (by rw [l, n])))]
    exact h.done k j c b g
  ·have m : d ≠ j := fun e => b i (by rw [Qbw hi, if_pos rfl]) (by rw [l, e])
   rw [f, Array.getElem?_setIfInBounds_ne m]
   exact h.rest j (fun k c => b k (by rw [Qbw hi]; split <;> first | rfl | exact c))
theorem Sat.same {a0 a b : Act} {val : Nat -> Value} (h : Sat ops a0 val listed a) (k : Sat ops a0 val listed b) : a = b := by
 obtain ⟨g, m⟩ := a
 obtain ⟨bt, bd⟩ := b
 have n : m = bd := h.defers.trans k.defers.symm
 subst n
 have o : g = bt := by
  apply Array.ext_getElem?
  intro j
  by_cases l : j < a0.tmps.size
  ·by_cases e : ∃ i, listed.getD i false = true /\ dstOf ops i = some j
   ·obtain ⟨i, c, d⟩ := e
    exact (h.done i j c d l).trans (k.done i j c d l).symm
   ·have f : ∀ i, listed.getD i false = true -> dstOf ops i ≠ some j := fun i c d => e ⟨i, c, d⟩
    exact (h.rest j f).trans (k.rest j f).symm
  ·have c := h.size
   have d := k.size
   simp only at c d
   rw [Array.getElem?_eq_none (by omega), Array.getElem?_eq_none (by omega)]
 subst o
 rfl
def left_ (listed : Array Bool) : Nat := (listed.toList.filter (fun b => !b)).length
theorem Qeh {i : Nat} (hi : i < listed.size) (hnew : listed.getD i false = false) : left_ (listed.setIfInBounds i true) + 1 = left_ listed := by
 unfold left_
 have b : (listed.setIfInBounds i true).toList = listed.toList.set i true := by simp
 rw [b]
 have a : listed.toList[i]? = some false := by
  simp only [Array.getD, hi, dif_pos] at hnew
  rw [Array.getElem?_toList, Array.getElem?_eq_getElem hi]
  simpa using hnew
 generalize listed.toList = l at a
 clear b hnew hi
 induction l generalizing i with
 | nil => simp at a
 | cons x l ih =>
  cases i with
  | zero =>
   simp only [List.getElem?_cons_zero, Option.some.injEq] at a
   subst a
   simp
  | succ i =>
   simp only [List.getElem?_cons_succ] at a
   have := ih a
   simp only [List.set_cons_succ, List.filter_cons]
   split
   ·simp only [List.length_cons]; omega
   ·exact this
theorem Qnz (a0 a1 : Act) (val : Nat -> Value) (S : World -> Prop) (hinj : ∀ i k j, dstOf ops i = some j -> dstOf ops k = some j -> i = k)
  (hback : ∀ (i : Nat) (o : Oper), ops[i]? = some o -> o.guard = none /\ ∀ e ∈ o.after, e.on < i)
  (each : ∀ (i : Nat) (o : Oper), ops[i]? = some o -> ∀ (listed : Array Bool) (a : Act) (w : World), Sat ops a0 val listed a -> (∀ e ∈ o.after, Region.binds md e = true -> listed.getD e.on false = true) -> S w -> o.wp P a w (fun a' w' => a' = a.put o.dst (val i) /\ S w') Q)
  (hend : Sat ops a0 val (Array.replicate ops.size true) a1) (hQ : ∀ w, S w -> Q .normal a1 w) :
  ∀ (fuel : Nat) (listed : Array Bool) (a : Act) (w : World), listed.size = ops.size -> left_ listed <= fuel -> Sat ops a0 val listed a -> S w -> wpAny P md ops Q fuel listed a w := by
 have p : ∀ (listed : Array Bool) (a : Act) (w : World), listed.size = ops.size -> (∀ i, i < ops.size -> listed.getD i false = true) -> Sat ops a0 val listed a -> S w -> Q .normal a w := by
  intro listed a w f z b l
  have : listed = Array.replicate ops.size true := by
   apply Array.ext
   ·simp [f]
   ·intro i d m
    have := z i (by omega)
    simp only [Array.getD, d, dif_pos] at this
    simpa using this
  subst this
  rw [b.same hend]
  exact hQ w l
 have u : ∀ (listed : Array Bool), listed.size = ops.size -> Region.ready md ops listed = [] -> ∀ i, i < ops.size -> listed.getD i false = true := by
  intro listed f A
  have F : ∀ n i, i < n -> i < ops.size -> listed.getD i false = true := by
   intro n
   induction n with
   | zero => intro i h; omega
   | succ n ih =>
    intro i I c
    by_cases E : i < n
    ·exact ih i E c
    ·by_cases x : listed.getD i false = true
     ·exact x
     ·exfalso
      have r : i ∈ Region.ready md ops listed := by
       unfold Region.ready
       rw [List.mem_filter]
       refine ⟨List.mem_range.2 c, ?_⟩
       have d : listed.getD i true = false := by
        simp only [Array.getD, show i < listed.size by omega, dif_pos] at x ⊢
        simpa using x
       rw [d, Array.getElem?_eq_getElem c]
       simp only [Bool.not_false, Option.map_some, Option.getD_some, Bool.true_and]
       rw [Array.all_eq_true']
       intro e y
       have := (hback i ops[i] (Array.getElem?_eq_getElem c)).2 e y
       rw [ih e.on (by omega) (by omega)]
       simp
      rw [A] at r
      cases r
  exact fun i c => F (i + 1) i (by omega) c
 intro fuel
 induction fuel with
 | zero =>
  intro listed a w f z b l
  have g : ∀ i, i < ops.size -> listed.getD i false = true := by
   intro i c
   by_cases h : listed.getD i false = true
   ·exact h
   ·exfalso
    have := Qeh (listed := listed) (i := i) (by omega) (by simpa using h)
    omega
  refine ⟨?_, p listed a w f g b l⟩
  unfold Region.ready
  rw [List.filter_eq_nil_iff]
  intro i c
  have d : listed.getD i true = true := by
   have m := g i (List.mem_range.1 c)
   simp only [Array.getD] at m ⊢
   split
   ·rename_i hk
    simpa [hk] using m
   ·rfl
  rw [d]
  simp
 | succ fuel ih =>
  intro listed a w f z b l
  refine ⟨fun A => p listed a w f (u listed f A) b l, fun i c => ?_⟩
  unfold Region.ready at c
  rw [List.mem_filter] at c
  obtain ⟨C, q⟩ := c
  have D := List.mem_range.1 C
  have t : ops[i]? = some ops[i] := Array.getElem?_eq_getElem D
  rw [t] at q
  simp only [Option.map_some, Option.getD_some, Bool.and_eq_true, Bool.not_eq_true'] at q
  obtain ⟨d, m⟩ := q
  have s : listed.getD i false = false := by
   simp only [Array.getD, show i < listed.size by omega, dif_pos] at d ⊢
   exact d
  have v : ∀ e ∈ ops[i].after, Region.binds md e = true -> listed.getD e.on false = true := by
   intro e y G
   have := (Array.all_eq_true'.1 m) e y
   rw [G] at this
   simpa using this
  unfold wpOp
  rw [t]
  simp only
  have H : Region.wanted ops[i] (yielded ops a.tmps) = true := by simp [Region.wanted, (hback i _ t).1]
  rw [if_pos H]
  refine .inl (Oper.wp_mono ?_ (each i _ t listed a w b v l))
  rintro a' w' ⟨rfl, B⟩
  have := Qeh (listed := listed) (i := i) (by omega) s
  exact ih _ _ w' (by simp [f]) (by omega) (b.put t (by omega) s hinj) B
theorem Qm0 (a0 a1 : Act) (val : Nat -> Value) (S : World -> Prop) (hinj : ∀ i k j, dstOf ops i = some j -> dstOf ops k = some j -> i = k)
  (hback : ∀ (i : Nat) (o : Oper), ops[i]? = some o -> ∀ e ∈ o.after, e.on < i)
  (each : ∀ (i : Nat) (o : Oper), ops[i]? = some o -> ∀ (listed : Array Bool) (a : Act) (w : World), Sat ops a0 val listed a -> (∀ e ∈ o.after, Region.binds md e = true -> listed.getD e.on false = true) -> S w -> (Region.wanted o (yielded ops a.tmps) = true -> o.wp P a w (fun a' w' => a' = a.put o.dst (val i) /\ S w') Q) /\ (Region.wanted o (yielded ops a.tmps) = false -> val i = undef))
  (hend : Sat ops a0 val (Array.replicate ops.size true) a1) (hQ : ∀ w, S w -> Q .normal a1 w) :
  ∀ (fuel : Nat) (listed : Array Bool) (a : Act) (w : World), listed.size = ops.size -> left_ listed <= fuel -> Sat ops a0 val listed a -> S w -> wpAny P md ops Q fuel listed a w := by
 have q : ∀ (listed : Array Bool) (a : Act) (w : World), listed.size = ops.size -> (∀ i, i < ops.size -> listed.getD i false = true) -> Sat ops a0 val listed a -> S w -> Q .normal a w := by
  intro listed a w d z b g
  have : listed = Array.replicate ops.size true := by
   apply Array.ext
   ·simp [d]
   ·intro i f p
    have := z i (by omega)
    simp only [Array.getD, f, dif_pos] at this
    simpa using this
  subst this
  rw [b.same hend]
  exact hQ w g
 have u : ∀ (listed : Array Bool), listed.size = ops.size -> Region.ready md ops listed = [] -> ∀ i, i < ops.size -> listed.getD i false = true := by
  intro listed d A
  have H : ∀ n i, i < n -> i < ops.size -> listed.getD i false = true := by
   intro n
   induction n with
   | zero => intro i h; omega
   | succ n ih =>
    intro i K c
    by_cases F : i < n
    ·exact ih i F c
    ·by_cases x : listed.getD i false = true
     ·exact x
     ·exfalso
      have s : i ∈ Region.ready md ops listed := by
       unfold Region.ready
       rw [List.mem_filter]
       refine ⟨List.mem_range.2 c, ?_⟩
       have f : listed.getD i true = false := by
        simp only [Array.getD, show i < listed.size by omega, dif_pos] at x ⊢
        simpa using x
       rw [f, Array.getElem?_eq_getElem c]
       simp only [Bool.not_false, Option.map_some, Option.getD_some, Bool.true_and]
       rw [Array.all_eq_true']
       intro e y
       have := hback i ops[i] (Array.getElem?_eq_getElem c) e y
       rw [ih e.on (by omega) (by omega)]
       simp
      rw [A] at s
      cases s
  exact fun i c => H (i + 1) i (by omega) c
 intro fuel
 induction fuel with
 | zero =>
  intro listed a w d z b g
  have m : ∀ i, i < ops.size -> listed.getD i false = true := by
   intro i c
   by_cases h : listed.getD i false = true
   ·exact h
   ·exfalso
    have := Qeh (listed := listed) (i := i) (by omega) (by simpa using h)
    omega
  refine ⟨?_, q listed a w d m b g⟩
  unfold Region.ready
  rw [List.filter_eq_nil_iff]
  intro i c
  have f : listed.getD i true = true := by
   have p := m i (List.mem_range.1 c)
   simp only [Array.getD] at p ⊢
   split
   ·rename_i hk
    simpa [hk] using p
   ·rfl
  rw [f]
  simp
 | succ fuel ih =>
  intro listed a w d z b g
  refine ⟨fun A => q listed a w d (u listed d A) b g, fun i c => ?_⟩
  unfold Region.ready at c
  rw [List.mem_filter] at c
  obtain ⟨D, r⟩ := c
  have E := List.mem_range.1 D
  have t : ops[i]? = some ops[i] := Array.getElem?_eq_getElem E
  rw [t] at r
  simp only [Option.map_some, Option.getD_some, Bool.and_eq_true, Bool.not_eq_true'] at r
  obtain ⟨f, p⟩ := r
  have l : listed.getD i false = false := by
   simp only [Array.getD, show i < listed.size by omega, dif_pos] at f ⊢
   exact f
  have v : ∀ e ∈ ops[i].after, Region.binds md e = true -> listed.getD e.on false = true := by
   intro e y J
   have := (Array.all_eq_true'.1 p) e y
   rw [J] at this
   simpa using this
  unfold wpOp
  rw [t]
  simp only
  have B := each i _ t listed a w b v g
  have I := Qeh (listed := listed) (i := i) (by omega) l
  cases hw : Region.wanted ops[i] (yielded ops a.tmps) with
  | true =>
   rw [if_pos rfl]
   refine .inl (Oper.wp_mono ?_ (B.1 hw))
   rintro a' w' ⟨rfl, C⟩
   exact ih _ _ w' (by simp [d]) (by omega) (b.put t (by omega) l hinj) C
  | false =>
   rw [if_neg (by simp)]
   have G := b.put t (by omega) l hinj
   rw [B.2 hw] at G
   exact ih _ _ w (by simp [d]) (by omega) G g
def runFrom (val : Nat -> Value) : List Oper -> Nat -> Act -> Act
 | [], _, a => a
 | o :: r, k, a => runFrom val r (k + 1) (a.put o.dst (val k))
theorem Sat.all {a0 : Act} {val : Nat -> Value} (hinj : ∀ i k j, dstOf ops i = some j -> dstOf ops k = some j -> i = k) : ∀ (post pre : List Oper) (listed : Array Bool) (a : Act), ops.toList = pre ++ post -> listed.size = ops.size -> (∀ i, listed.getD i false = decide (i < pre.length)) -> Sat ops a0 val listed a -> Sat ops a0 val (Array.replicate ops.size true) (runFrom val post pre.length a)
 | [], pre, listed, a, hp, hs, hl, h => by
  have hn : pre.length = ops.size := by rw [List.append_nil] at hp; rw [<- hp, Array.length_toList]
  have : listed = Array.replicate ops.size true := by
   apply Array.ext
   ·simp [hs]
   ·intro i c g
    have := hl i
    simp only [Array.getD, c, dif_pos] at this
    rw [decide_eq_true (by omega)] at this
    simpa using this
  subst this
  exact h
 | o :: r, pre, listed, a, hp, hs, hl, h => by
  have d : pre.length < ops.size := by
   have := congrArg List.length hp
   simp only [Array.length_toList, List.length_append, List.length_cons] at this
   omega
  have f : ops[pre.length]? = some o := by
   rw [<- Array.getElem?_toList, hp, List.getElem?_append_right (Nat.le_refl _), Nat.sub_self]
   rfl
  have := Sat.all hinj r (pre ++ [o]) (listed.setIfInBounds pre.length true) (a.put o.dst (val pre.length)) (by rw [hp]; simp) (by simp [hs]) (fun i => by
   rw [Qbw (by omega), hl]
   simp only [List.length_append, List.length_cons, List.length_nil]
   by_cases e : i = pre.length
   ·rw [if_pos e, decide_eq_true (by omega)]
   ·rw [if_neg e]
    by_cases b : i < pre.length
    ·rw [decide_eq_true b, decide_eq_true (by omega)]
    ·rw [decide_eq_false b, decide_eq_false (by omega)]) (h.put f (by omega) (by rw [hl]; exact decide_eq_false (Nat.lt_irrefl _)) hinj)
  rw [runFrom]
  simpa using this
def dstsApart (ops : Array Oper) : Bool := (List.range ops.size).all fun i => (List.range ops.size).all fun k => decide (i = k) || (match dstOf ops i, dstOf ops k with | some a, some b => decide (a ≠ b) | _, _ => true)
theorem Qit (h : dstsApart ops = true) : ∀ i k j, dstOf ops i = some j -> dstOf ops k = some j -> i = k := by
 intro i k j b c
 have d : ∀ n, dstOf ops n = some j -> n < ops.size := fun n a => by
  by_cases e : n < ops.size
  ·exact e
  ·unfold dstOf at a
   rw [Array.getElem?_eq_none (by omega)] at a
   cases a
 have := List.all_eq_true.1 (List.all_eq_true.1 h i (List.mem_range.2 (d i b))) k (List.mem_range.2 (d k c))
 rw [b, c] at this
 simpa using this
def backOnly (ops : Array Oper) : Bool := (List.range ops.size).all fun i => match ops[i]? with | some o => o.guard.isNone && o.after.all (fun e => decide (e.on < i)) | none => true
theorem QB1 (h : backOnly ops = true) : ∀ (i : Nat) (o : Oper), ops[i]? = some o -> o.guard = none /\ ∀ e ∈ o.after, e.on < i := by
 intro i o a
 have c : i < ops.size := (Array.getElem?_eq_some_iff.1 a).1
 have := List.all_eq_true.1 h i (List.mem_range.2 c)
 rw [a] at this
 simp only [Bool.and_eq_true, Option.isNone_iff_eq_none] at this
 refine ⟨this.1, fun e b => ?_⟩
 have := (Array.all_eq_true'.1 this.2) e b
 simpa using this
def noDst (ops : Array Oper) (j : Nat) : Bool := (List.range ops.size).all fun i => decide (dstOf ops i ≠ some j)
theorem Qyu {j : Nat} (h : noDst ops j = true) : ∀ i, dstOf ops i ≠ some j := by
 intro i a
 have b : i < ops.size := by
  by_cases b : i < ops.size
  ·exact b
  ·unfold dstOf at a
   rw [Array.getElem?_eq_none (by omega)] at a
   cases a
 have := List.all_eq_true.1 h i (List.mem_range.2 b)
 simp only [decide_eq_true_eq] at this
 exact this a
theorem Qdl (a0 a1 : Act) (val : Nat -> Value) (S : World -> Prop) (h1 : dstsApart ops = true) (h2 : backOnly ops = true)
  (each : ∀ (i : Nat) (o : Oper), ops[i]? = some o -> ∀ (listed : Array Bool) (a : Act) (w : World), Sat ops a0 val listed a -> (∀ e ∈ o.after, Region.binds md e = true -> listed.getD e.on false = true) -> S w -> o.wp P a w (fun a' w' => a' = a.put o.dst (val i) /\ S w') Q)
  (w : World) (hS : S w) (h3 : runFrom val ops.toList 0 a0 = a1) (hQ : ∀ w, S w -> Q .normal a1 w) : wpAny P md ops Q ops.size (Array.replicate ops.size false) a0 w := by
 subst h3
 have b : ∀ i, (Array.replicate ops.size false).getD i false = false := by
  intro i
  simp only [Array.getD]
  split
  ·simp
  ·rfl
 refine Qnz a0 _ val S (Qit h1) (QB1 h2) each (Sat.all (Qit h1) ops.toList [] (Array.replicate ops.size false) a0 rfl (by simp) (fun i => by rw [b]; exact (decide_eq_false (Nat.not_lt_zero _)).symm) (Sat.start ops a0 val ops.size)) hQ ops.size _ a0 w (by simp) ?_ (Sat.start ops a0 val ops.size) hS
 unfold left_
 simp
def backOnlyG (ops : Array Oper) : Bool := (List.range ops.size).all fun i => match ops[i]? with | some o => o.after.all (fun e => decide (e.on < i)) | none => true
theorem Qyv (h : backOnlyG ops = true) : ∀ (i : Nat) (o : Oper), ops[i]? = some o -> ∀ e ∈ o.after, e.on < i := by
 intro i o a e b
 have c : i < ops.size := (Array.getElem?_eq_some_iff.1 a).1
 have := List.all_eq_true.1 h i (List.mem_range.2 c)
 rw [a] at this
 have := (Array.all_eq_true'.1 this) e b
 simpa using this
theorem Qd2 (a0 a1 : Act) (val : Nat -> Value) (S : World -> Prop) (h1 : dstsApart ops = true) (h2 : backOnlyG ops = true)
  (each : ∀ (i : Nat) (o : Oper), ops[i]? = some o -> ∀ (listed : Array Bool) (a : Act) (w : World), Sat ops a0 val listed a -> (∀ e ∈ o.after, Region.binds md e = true -> listed.getD e.on false = true) -> S w -> (Region.wanted o (yielded ops a.tmps) = true -> o.wp P a w (fun a' w' => a' = a.put o.dst (val i) /\ S w') Q) /\ (Region.wanted o (yielded ops a.tmps) = false -> val i = undef))
  (w : World) (hS : S w) (h3 : runFrom val ops.toList 0 a0 = a1) (hQ : ∀ w, S w -> Q .normal a1 w) : wpAny P md ops Q ops.size (Array.replicate ops.size false) a0 w := by
 subst h3
 have b : ∀ i, (Array.replicate ops.size false).getD i false = false := by
  intro i
  simp only [Array.getD]
  split
  ·simp
  ·rfl
 refine Qm0 a0 _ val S (Qit h1) (Qyv h2) each (Sat.all (Qit h1) ops.toList [] (Array.replicate ops.size false) a0 rfl (by simp) (fun i => by rw [b]; exact (decide_eq_false (Nat.not_lt_zero _)).symm) (Sat.start ops a0 val ops.size)) hQ ops.size _ a0 w (by simp) ?_ (Sat.start ops a0 val ops.size) hS
 unfold left_
 simp
end
variable {vf : Nat -> Option Value} {i : Nat}
theorem ve {l : List (Option Value)} (h : vf = fun i => l.getD i none) {x : Option Value} (hx : l.getD i none = x) : vf i = x := by rw [h]; exact hx
variable {x : Value}
theorem fe {f : Nat -> Value} {l : List Value} (h : f = fun i => l.getD i undef) (hx : l.getD i undef = x) : f i = x := by rw [h]; exact hx
variable {ops : Array Oper} {a0 a : Act} {val : Nat -> Value} {listed : Array Bool}
theorem Sat.dn (h : Sat ops a0 val listed a) (i j : Nat) (v : Value) (hd : listed.getD i false = true) (hj : dstOf ops i = some j) (hl : j < a0.tmps.size) (hv : val i = v) : a.tmps[j]? = some v := (h.done i j hd hj hl).trans (congrArg some hv)
theorem Sat.rs (h : Sat ops a0 val listed a) (j : Nat) (hn : noDst ops j = true) : a.tmps[j]? = a0.tmps[j]? := h.rest j fun i _ => Qyu hn i
theorem Sat.vt (h : Sat ops a0 val listed a) (i j : Nat) (v : Value) (hd : listed.getD i false = true) (hj : dstOf ops i = some j) (hl : j < a0.tmps.size) (hv : vf i = some v) (hI : ∀ i x, vf i = some x -> listed.getD i false = true -> val i = x) : a.tmps[j]? = some v := (h.done i j hd hj hl).trans (congrArg some (hI i v hv hd))
variable {P : Program} {o : Oper} {w : World} {K : Act -> World -> Prop} {Q : Exit -> Act -> World -> Prop}
theorem Qa1 (v : Value) (hK : K (a.put o.dst v) w) (h : o.wp P a w (fun a' w' => a' = a.put o.dst v /\ w' = w) Q) : o.wp P a w K Q := Oper.wp_mono (by rintro _ _ ⟨rfl, rfl⟩; exact hK) h
theorem Qay (v : Value) (k : Nat) (ho : o.op = .move (.tmp k)) (ht : a.tmps[k]? = some v) (hK : K (a.put o.dst v) w) : o.wp P a w K Q := by
 unfold Oper.wp execOp
 rw [ho]
 show K (a.put o.dst (a.eval (.tmp k))) w
 rw [show a.eval (.tmp k) = v by simp only [Act.eval, Array.getD_eq_getD_getElem?, ht, Option.getD_some]]
 exact hK
theorem QD0 (v : Value) (k : Nat) (ho : o.op = .assign (.tmp k)) (ht : a.tmps[k]? = some v) (hK : K (a.put o.dst v) w) : o.wp P a w K Q := by
 unfold Oper.wp execOp
 rw [ho]
 show K (a.put o.dst (a.eval (.tmp k))) w
 rw [show a.eval (.tmp k) = v by simp only [Act.eval, Array.getD_eq_getD_getElem?, ht, Option.getD_some]]
 exact hK
section
variable {P : Program} {md : Region.Mode} {ops : Array Oper} {Q : Exit -> Act -> World -> Prop}
theorem Sat.congr {a0 a : Act} {val val' : Nat -> Value} {listed : Array Bool} (h : Sat ops a0 val listed a) (he : ∀ i, listed.getD i false = true -> val i = val' i) : Sat ops a0 val' listed a :=
 ⟨h.defers, h.size, fun i j hl hd hj => by rw [<- he i hl]; exact h.done i j hl hd hj, h.rest⟩
def backBind (md : Region.Mode) (ops : Array Oper) : Bool := (List.range ops.size).all fun i => match ops[i]? with | some o => o.guard.isNone && o.after.all (fun e => !Region.binds md e || decide (e.on < i)) | none => true
theorem QB2 (h : backBind md ops = true) : ∀ (i : Nat) (o : Oper), ops[i]? = some o -> o.guard = none /\ ∀ e ∈ o.after, Region.binds md e = true -> e.on < i := by
 intro i o b
 have f : i < ops.size := (Array.getElem?_eq_some_iff.1 b).1
 have := List.all_eq_true.1 h i (List.mem_range.2 f)
 rw [b] at this
 simp only [Bool.and_eq_true] at this
 refine ⟨by simpa using this.1, fun e d c => ?_⟩
 have a := Array.all_eq_true'.1 this.2 e d
 rw [c] at a
 simpa using a
theorem Qam (a0 : Act) (I : (Nat -> Bool) -> (Nat -> Value) -> World -> Prop) (h1 : dstsApart ops = true) (h2 : backBind md ops = true)
  (each : ∀ (i : Nat) (o : Oper), ops[i]? = some o -> ∀ (listed : Array Bool) (val : Nat -> Value) (a : Act) (w : World), Sat ops a0 val listed a -> listed.getD i false = false -> (∀ e ∈ o.after, Region.binds md e = true -> listed.getD e.on false = true) -> I (fun k => listed.getD k false) val w -> o.wp P a w (fun a' w' => ∃ v, a' = a.put o.dst v /\ I (fun k => if k = i then true else listed.getD k false) (fun k => if k = i then v else val k) w') Q)
  (w : World) (val0 : Nat -> Value) (hI : I (fun _ => false) val0 w) (hQ : ∀ val w, I (fun k => decide (k < ops.size)) val w -> Q .normal (runFrom val ops.toList 0 a0) w) : wpAny P md ops Q ops.size (Array.replicate ops.size false) a0 w := by
 have r := Qit h1
 have l := QB2 h2
 have G : ∀ i, (Array.replicate ops.size false).getD i false = false := by
  intro i
  simp only [Array.getD]
  split
  ·simp
  ·rfl
 have p : ∀ (listed : Array Bool) (val : Nat -> Value) (a : Act) (w : World), listed.size = ops.size -> (∀ i, i < ops.size -> listed.getD i false = true) -> Sat ops a0 val listed a -> I (fun k => listed.getD k false) val w -> Q .normal a w := by
  intro listed val a w g C b j
  have : listed = Array.replicate ops.size true := by
   apply Array.ext
   ·simp [g]
   ·intro i h1 h2
    have := C i (by omega)
    simp only [Array.getD, h1, dif_pos] at this
    simpa using this
  subst this
  have d : (fun k => (Array.replicate ops.size true).getD k false) = fun k => decide (k < ops.size) := by
   funext k
   simp only [Array.getD]
   split
   ·rename_i h; rw [decide_eq_true (by simpa using h)]; simp
   ·rename_i h; rw [decide_eq_false (by simpa using h)]
  rw [d] at j
  rw [b.same (Sat.all r ops.toList [] (Array.replicate ops.size false) a0 rfl (by simp) (fun i => by rw [G]; exact (decide_eq_false (Nat.not_lt_zero _)).symm) (Sat.start ops a0 val ops.size))]
  exact hQ val w j
 have x : ∀ (listed : Array Bool), listed.size = ops.size -> Region.ready md ops listed = [] -> ∀ i, i < ops.size -> listed.getD i false = true := by
  intro listed g D
  have K : ∀ n i, i < n -> i < ops.size -> listed.getD i false = true := by
   intro n
   induction n with
   | zero => intro i h; omega
   | succ n ih =>
    intro i M c
    by_cases B : listed.getD i false = true
    ·exact B
    ·exfalso
     have s : i ∈ Region.ready md ops listed := by
      unfold Region.ready
      rw [List.mem_filter]
      refine ⟨List.mem_range.2 c, ?_⟩
      have h1 : listed.getD i true = false := by
       simp only [Array.getD, show i < listed.size by omega, dif_pos] at B ⊢
       simpa using B
      rw [h1, Array.getElem?_eq_getElem c]
      simp only [Bool.not_false, Option.map_some, Option.getD_some, Bool.true_and]
      rw [Array.all_eq_true']
      intro e d
      cases A : Region.binds md e with
      | false => rfl
      | true =>
       have N := (l i ops[i] (Array.getElem?_eq_getElem c)).2 e d A
       rw [ih e.on (by omega) (by omega)]
       rfl
     rw [D] at s
     cases s
  exact fun i c => K (i + 1) i (by omega) c
 have E : ∀ (fuel : Nat) (listed : Array Bool) (val : Nat -> Value) (a : Act) (w : World), listed.size = ops.size -> left_ listed <= fuel -> Sat ops a0 val listed a -> I (fun k => listed.getD k false) val w -> wpAny P md ops Q fuel listed a w := by
  intro fuel
  induction fuel with
  | zero =>
   intro listed val a w g C b j
   have m : ∀ i, i < ops.size -> listed.getD i false = true := by
    intro i c
    by_cases h : listed.getD i false = true
    ·exact h
    ·exfalso
     have := Qeh (listed := listed) (i := i) (by omega) (by simpa using h)
     omega
   refine ⟨?_, p listed val a w g m b j⟩
   unfold Region.ready
   rw [List.filter_eq_nil_iff]
   intro i c
   have h1 : listed.getD i true = true := by
    have h2 := m i (List.mem_range.1 c)
    simp only [Array.getD] at h2 ⊢
    split
    ·rename_i hk
     simpa [hk] using h2
    ·rfl
   rw [h1]
   simp
  | succ fuel ih =>
   intro listed val a w g C b j
   refine ⟨fun D => p listed val a w g (x listed g D) b j, fun i c => ?_⟩
   unfold Region.ready at c
   rw [List.mem_filter] at c
   obtain ⟨H, q⟩ := c
   have J := List.mem_range.1 H
   have t : ops[i]? = some ops[i] := Array.getElem?_eq_getElem J
   rw [t] at q
   simp only [Option.map_some, Option.getD_some, Bool.and_eq_true, Bool.not_eq_true'] at q
   obtain ⟨h1, h2⟩ := q
   have f : listed.getD i false = false := by
    simp only [Array.getD, show i < listed.size by omega, dif_pos] at h1 ⊢
    exact h1
   have y : ∀ e ∈ ops[i].after, Region.binds md e = true -> listed.getD e.on false = true := by
    intro e d A
    have := (Array.all_eq_true'.1 h2) e d
    rw [A] at this
    simpa using this
   unfold wpOp
   rw [t]
   simp only
   have L : Region.wanted ops[i] (yielded ops a.tmps) = true := by simp [Region.wanted, (l i _ t).1]
   rw [if_pos L]
   refine .inl (Oper.wp_mono ?_ (each i _ t listed val a w b f y j))
   rintro a' w' ⟨v, rfl, F⟩
   have := Qeh (listed := listed) (i := i) (by omega) f
   have z : Sat ops a0 (fun k => if k = i then v else val k) listed a := b.congr fun k hk => by
    rw [if_neg (fun e => by rw [e, f] at hk; cases hk)]
   have u := z.put t (by omega) f r
   rw [if_pos rfl] at u
   have d : (fun k => (listed.setIfInBounds i true).getD k false) = fun k => if k = i then true else listed.getD k false := by
    funext k
    exact Qbw (by omega) k
   exact ih _ _ _ w' (by simp [g]) (by omega) u (by rw [d]; exact F)
 refine E ops.size _ val0 a0 w (by simp) ?_ (Sat.start ops a0 val0 ops.size) ?_
 ·unfold left_
  simp
 ·have d : (fun k => (Array.replicate ops.size false).getD k false) = fun _ => false := by funext k; exact G k
  rw [d]
  exact hI
end
variable {d : Nat -> Bool} {v : Nat -> Value}
theorem Qa0 (h : ∀ i x, vf i = some x -> d i = true -> v i = x) (hi : vf i = some x) : ∀ j y, vf j = some y -> (fun k => if k = i then true else d k) j = true -> (fun k => if k = i then x else v k) j = y := fun j y hj hd => by
 by_cases e : j = i
 ·subst e
  rw [hi] at hj
  cases hj
  simp
 ·simp only [if_neg e] at hd ⊢
  exact h j y hj hd
theorem Qa3 (h : ∀ i x, vf i = some x -> d i = true -> v i = x) (hi : vf i = none) : ∀ j y, vf j = some y -> (fun k => if k = i then true else d k) j = true -> (fun k => if k = i then x else v k) j = y := fun j y hj hd => by
 by_cases e : j = i
 ·subst e
  rw [hi] at hj
  cases hj
 ·simp only [if_neg e] at hd ⊢
  exact h j y hj hd
variable {b : Act}
theorem QDv (hs : Sat ops a0 val listed b) (h1 : ∀ i x, vf i = some x -> listed.getD i false = true -> val i = x) {j s : Nat} (hd : listed.getD j false = true) (ht : dstOf ops j = some s) (hl : s < a0.tmps.size) (hv : vf j = some x) : b.tmps[s]? = some x := (hs.done j s hd ht hl).trans (congrArg some (h1 j x hv hd))
variable {I : Value -> World -> Prop}
theorem QDr {W : World} {dl : Nat -> Bool} (h1 : ∀ j y, vf j = some y -> dl j = true -> val j = y) (hi : vf i = some x) (hX : I x W) (h : Oper.wp P o b W (fun a' w' => a' = b.put o.dst x /\ w' = W) Q) :
  Oper.wp P o b W (fun a' w' => ∃ v, a' = b.put o.dst v /\ (∀ j y, vf j = some y -> (fun k => if k = i then true else dl k) j = true -> (fun k => if k = i then v else val k) j = y) /\ I v w') Q :=
 Oper.wp_mono (by rintro a' w' ⟨rfl, rfl⟩; exact ⟨x, rfl, Qa0 h1 hi, hX⟩) h
theorem Qbl {W : World} (h : ∀ G : Value -> World -> Prop, (∀ x w', G x w' ↔ I x w') -> Oper.wp P o b W (fun a' w' => ∃ v, a' = b.put o.dst v /\ G v w') Q) : Oper.wp P o b W (fun a' w' => ∃ v, a' = b.put o.dst v /\ I v w') Q := h I fun _ _ => Iff.rfl
end Go.Proofs.YtakidhihbgfjlaaGreatDoor
