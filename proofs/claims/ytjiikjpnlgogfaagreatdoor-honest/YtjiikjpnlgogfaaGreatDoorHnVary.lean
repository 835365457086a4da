/-
  A region that draws its order, whose operations make values that hang on the order (new blocks): one step an operation, under a relation of what came up, what it yielded and the world.
-/
import Derived.Test.YtjiikjpnlgogfaaGreatDoorHnSteady
namespace Go.Proofs.YtjiikjpnlgogfaaGreatDoor
open Go.RowKit

section
variable {P : Program} {md : Region.Mode} {ops : Array Oper} {Q : Exit → Act → World → Prop}

theorem Sat.congr {a0 a : Act} {val val' : Nat → Value} {listed : Array Bool} (h : Sat ops a0 val listed a) (he : ∀ i, listed.getD i false = true → val i = val' i) : Sat ops a0 val' listed a :=
  ⟨h.defers, h.size, fun i j hl hd hj => by rw [← he i hl]; exact h.done i j hl hd hj, h.rest⟩

/-- Each operation waits for such ahead of it alone. -/
def backBind (md : Region.Mode) (ops : Array Oper) : Bool := (List.range ops.size).all fun i => match ops[i]? with | some o => o.guard.isNone && o.after.all (fun e => !Region.binds md e || decide (e.on < i)) | none => true
theorem bind_of (h : backBind md ops = true) : ∀ (i : Nat) (o : Oper), ops[i]? = some o → o.guard = none ∧ ∀ e ∈ o.after, Region.binds md e = true → e.on < i := by
  intro i o ho
  have hi : i < ops.size := (Array.getElem?_eq_some_iff.1 ho).1
  have := List.all_eq_true.1 h i (List.mem_range.2 hi)
  rw [ho] at this
  simp only [Bool.and_eq_true] at this
  refine ⟨by simpa using this.1, fun e he hb => ?_⟩
  have h2 := Array.all_eq_true'.1 this.2 e he
  rw [hb] at h2
  simpa using h2
theorem wpAny_vary (a0 : Act) (I : (Nat → Bool) → (Nat → Value) → World → Prop) (h1 : dstsApart ops = true) (h2 : backBind md ops = true)
    (each : ∀ (i : Nat) (o : Oper), ops[i]? = some o → ∀ (listed : Array Bool) (val : Nat → Value) (a : Act) (w : World), Sat ops a0 val listed a → listed.getD i false = false → (∀ e ∈ o.after, Region.binds md e = true → listed.getD e.on false = true) → I (fun k => listed.getD k false) val w → o.wp P a w (fun a' w' => ∃ v, a' = a.put o.dst v ∧ I (fun k => if k = i then true else listed.getD k false) (fun k => if k = i then v else val k) w') Q)
    (w : World) (val0 : Nat → Value) (hI : I (fun _ => false) val0 w) (hQ : ∀ val w, I (fun k => decide (k < ops.size)) val w → Q .normal (runFrom val ops.toList 0 a0) w) : wpAny P md ops Q ops.size (Array.replicate ops.size false) a0 w := by
  have hinj := dst_inj h1
  have hback := bind_of h2
  have hf : ∀ i, (Array.replicate ops.size false).getD i false = false := by
    intro i
    simp only [Array.getD]
    split
    · simp
    · rfl
  have hall : ∀ (listed : Array Bool) (val : Nat → Value) (a : Act) (w : World), listed.size = ops.size → (∀ i, i < ops.size → listed.getD i false = true) → Sat ops a0 val listed a → I (fun k => listed.getD k false) val w → Q .normal a w := by
    intro listed val a w hs hl hsat hS
    have : listed = Array.replicate ops.size true := by
      apply Array.ext
      · simp [hs]
      · intro i h1 h2
        have := hl i (by omega)
        simp only [Array.getD, h1, dif_pos] at this
        simpa using this
    subst this
    have he : (fun k => (Array.replicate ops.size true).getD k false) = fun k => decide (k < ops.size) := by
      funext k
      simp only [Array.getD]
      split
      · rename_i h; rw [decide_eq_true (by simpa using h)]; simp
      · rename_i h; rw [decide_eq_false (by simpa using h)]
    rw [he] at hS
    rw [hsat.same (Sat.all hinj ops.toList [] (Array.replicate ops.size false) a0 rfl (by simp) (fun i => by rw [hf]; exact (decide_eq_false (Nat.not_lt_zero _)).symm) (Sat.start ops a0 val ops.size))]
    exact hQ val w hS
  have hready : ∀ (listed : Array Bool), listed.size = ops.size → Region.ready md ops listed = [] → ∀ i, i < ops.size → listed.getD i false = true := by
    intro listed hs hr
    have key : ∀ n i, i < n → i < ops.size → listed.getD i false = true := by
      intro n
      induction n with
      | zero => intro i h; omega
      | succ n ih =>
        intro i hin hi
        by_cases hd : listed.getD i false = true
        · exact hd
        · exfalso
          have hmem : i ∈ Region.ready md ops listed := by
            unfold Region.ready
            rw [List.mem_filter]
            refine ⟨List.mem_range.2 hi, ?_⟩
            have h1 : listed.getD i true = false := by
              simp only [Array.getD, show i < listed.size by omega, dif_pos] at hd ⊢
              simpa using hd
            rw [h1, Array.getElem?_eq_getElem hi]
            simp only [Bool.not_false, Option.map_some, Option.getD_some, Bool.true_and]
            rw [Array.all_eq_true']
            intro e he
            cases hb : Region.binds md e with
            | false => rfl
            | true =>
              have q1 := (hback i ops[i] (Array.getElem?_eq_getElem hi)).2 e he hb
              rw [ih e.on (by omega) (by omega)]
              rfl
          rw [hr] at hmem
          cases hmem
    exact fun i hi => key (i + 1) i (by omega) hi
  have main : ∀ (fuel : Nat) (listed : Array Bool) (val : Nat → Value) (a : Act) (w : World), listed.size = ops.size → left_ listed ≤ fuel → Sat ops a0 val listed a → I (fun k => listed.getD k false) val w → wpAny P md ops Q fuel listed a w := by
    intro fuel
    induction fuel with
    | zero =>
      intro listed val a w hs hl hsat hS
      have hnone : ∀ i, i < ops.size → listed.getD i false = true := by
        intro i hi
        by_cases h : listed.getD i false = true
        · exact h
        · exfalso
          have := left_set (listed := listed) (i := i) (by omega) (by simpa using h)
          omega
      refine ⟨?_, hall listed val a w hs hnone hsat hS⟩
      unfold Region.ready
      rw [List.filter_eq_nil_iff]
      intro i hi
      have h1 : listed.getD i true = true := by
        have h2 := hnone i (List.mem_range.1 hi)
        simp only [Array.getD] at h2 ⊢
        split
        · rename_i hk
          simpa [hk] using h2
        · rfl
      rw [h1]
      simp
    | succ fuel ih =>
      intro listed val a w hs hl hsat hS
      refine ⟨fun hr => hall listed val a w hs (hready listed hs hr) hsat hS, fun i hi => ?_⟩
      unfold Region.ready at hi
      rw [List.mem_filter] at hi
      obtain ⟨hi1, hi2⟩ := hi
      have hio := List.mem_range.1 hi1
      have ho : ops[i]? = some ops[i] := Array.getElem?_eq_getElem hio
      rw [ho] at hi2
      simp only [Option.map_some, Option.getD_some, Bool.and_eq_true, Bool.not_eq_true'] at hi2
      obtain ⟨h1, h2⟩ := hi2
      have hnew : listed.getD i false = false := by
        simp only [Array.getD, show i < listed.size by omega, dif_pos] at h1 ⊢
        exact h1
      have hdeps : ∀ e ∈ ops[i].after, Region.binds md e = true → listed.getD e.on false = true := by
        intro e he hb
        have := (Array.all_eq_true'.1 h2) e he
        rw [hb] at this
        simpa using this
      unfold wpOp
      rw [ho]
      simp only
      have hw : Region.wanted ops[i] (yielded ops a.tmps) = true := by simp [Region.wanted, (hback i _ ho).1]
      rw [if_pos hw]
      refine .inl (Oper.wp_mono ?_ (each i _ ho listed val a w hsat hnew hdeps hS))
      rintro a' w' ⟨v, rfl, hS'⟩
      have := left_set (listed := listed) (i := i) (by omega) hnew
      have hsat' : Sat ops a0 (fun k => if k = i then v else val k) listed a := hsat.congr fun k hk => by
        rw [if_neg (fun e => by rw [e, hnew] at hk; cases hk)]
      have hput := hsat'.put ho (by omega) hnew hinj
      rw [if_pos rfl] at hput
      have he : (fun k => (listed.setIfInBounds i true).getD k false) = fun k => if k = i then true else listed.getD k false := by
        funext k
        exact listed_set (by omega) k
      exact ih _ _ _ w' (by simp [hs]) (by omega) hput (by rw [he]; exact hS')
  refine main ops.size _ val0 a0 w (by simp) ?_ (Sat.start ops a0 val0 ops.size) ?_
  · unfold left_
    simp
  · have he : (fun k => (Array.replicate ops.size false).getD k false) = fun _ => false := by funext k; exact hf k
    rw [he]
    exact hI
end
theorem vals_step {vf : Nat → Option Value} {d : Nat → Bool} {v : Nat → Value} (h : ∀ i x, vf i = some x → d i = true → v i = x) {i : Nat} {x : Value} (hi : vf i = some x) : ∀ j y, vf j = some y → (fun k => if k = i then true else d k) j = true → (fun k => if k = i then x else v k) j = y := fun j y hj hd => by
  by_cases e : j = i
  · subst e
    rw [hi] at hj
    cases hj
    simp
  · simp only [if_neg e] at hd ⊢
    exact h j y hj hd
/-- An operation whose value is not told ahead. -/
theorem vals_free {vf : Nat → Option Value} {d : Nat → Bool} {v : Nat → Value} (h : ∀ i x, vf i = some x → d i = true → v i = x) {i : Nat} {x : Value} (hi : vf i = none) : ∀ j y, vf j = some y → (fun k => if k = i then true else d k) j = true → (fun k => if k = i then x else v k) j = y := fun j y hj hd => by
  by_cases e : j = i
  · subst e
    rw [hi] at hj
    cases hj
  · simp only [if_neg e] at hd ⊢
    exact h j y hj hd
end Go.Proofs.YtjiikjpnlgogfaaGreatDoor
