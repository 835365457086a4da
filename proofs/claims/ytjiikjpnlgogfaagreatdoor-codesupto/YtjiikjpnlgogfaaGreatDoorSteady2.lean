/-
  A region that draws its order, with stores: what holds of the world may hang on which operations came up.
-/
import Derived.Test.YtjiikjpnlgogfaaGreatDoorSteady
namespace Go.Proofs.YtjiikjpnlgogfaaGreatDoor
open Go.RowKit

section
variable {P : Program} {md : Region.Mode} {ops : Array Oper} {Q : Exit → Act → World → Prop}

/-- WHATEVER THE ORDER, with guarded operations: one that is not wanted yields nothing. -/
theorem wpAny_steadyS (a0 a1 : Act) (val : Nat → Value) (S : Array Bool → World → Prop) (hinj : ∀ i k j, dstOf ops i = some j → dstOf ops k = some j → i = k)
    (hback : ∀ (i : Nat) (o : Oper), ops[i]? = some o → ∀ e ∈ o.after, Region.binds md e = true → e.on < i)
    (each : ∀ (i : Nat) (o : Oper), ops[i]? = some o → ∀ (listed : Array Bool) (a : Act) (w : World), Sat ops a0 val listed a → (∀ e ∈ o.after, Region.binds md e = true → listed.getD e.on false = true) → listed.size = ops.size → listed.getD i false = false → S listed w → (Region.wanted o (yielded ops a.tmps) = true → o.wp P a w (fun a' w' => a' = a.put o.dst (val i) ∧ S (listed.setIfInBounds i true) w') Q) ∧ (Region.wanted o (yielded ops a.tmps) = false → val i = undef ∧ S (listed.setIfInBounds i true) w))
    (hend : Sat ops a0 val (Array.replicate ops.size true) a1) (hQ : ∀ w, S (Array.replicate ops.size true) w → Q .normal a1 w) :
    ∀ (fuel : Nat) (listed : Array Bool) (a : Act) (w : World), listed.size = ops.size → left_ listed ≤ fuel → Sat ops a0 val listed a → S listed w → wpAny P md ops Q fuel listed a w := by
  have hall : ∀ (listed : Array Bool) (a : Act) (w : World), listed.size = ops.size → (∀ i, i < ops.size → listed.getD i false = true) → Sat ops a0 val listed a → S listed w → Q .normal a w := by
    intro listed a w hs hl hsat hS
    have : listed = Array.replicate ops.size true := by
      apply Array.ext
      · simp [hs]
      · intro i h1 h2
        have := hl i (by omega)
        simp only [Array.getD, h1, dif_pos] at this
        simpa using this
    subst this
    rw [hsat.same hend]
    exact hQ w hS
  have hready : ∀ (listed : Array Bool), listed.size = ops.size → Region.ready md ops listed = [] → ∀ i, i < ops.size → listed.getD i false = true := by
    intro listed hs hr
    have key : ∀ n i, i < n → i < ops.size → listed.getD i false = true := by
      intro n
      induction n with
      | zero => intro i h; omega
      | succ n ih =>
        intro i hin hi
        by_cases hlt : i < n
        · exact ih i hlt hi
        · by_cases hd : listed.getD i false = true
          · exact hd
          · exfalso
            have hmem : i ∈ Region.ready md ops listed := by
              unfold Region.ready
              rw [List.mem_filter]
              refine ⟨List.mem_range.2 hi, ?_⟩
              have h1 : listed.getD i true = false := by
                simp only [Array.getD, show i < listed.size by omega, dif_pos] at hd ⊢
                simpa using hd
              rw [h1, Array.getElem?_eq_getElem hi]
              simp only [Bool.not_false, Option.map_some, Option.getD_some, Bool.true_and]
              rw [Array.all_eq_true']
              intro e he
              by_cases hbd : Region.binds md e = true
              · have := hback i ops[i] (Array.getElem?_eq_getElem hi) e he hbd
                rw [ih e.on (by omega) (by omega)]
                simp
              · simp [hbd]
            rw [hr] at hmem
            cases hmem
    exact fun i hi => key (i + 1) i (by omega) hi
  intro fuel
  induction fuel with
  | zero =>
    intro listed a w hs hl hsat hS
    have hnone : ∀ i, i < ops.size → listed.getD i false = true := by
      intro i hi
      by_cases h : listed.getD i false = true
      · exact h
      · exfalso
        have := left_set (listed := listed) (i := i) (by omega) (by simpa using h)
        omega
    refine ⟨?_, hall listed a w hs hnone hsat hS⟩
    unfold Region.ready
    rw [List.filter_eq_nil_iff]
    intro i hi
    have h1 : listed.getD i true = true := by
      have h2 := hnone i (List.mem_range.1 hi)
      simp only [Array.getD] at h2 ⊢
      split
      · rename_i hk
        simpa [hk] using h2
      · rfl
    rw [h1]
    simp
  | succ fuel ih =>
    intro listed a w hs hl hsat hS
    refine ⟨fun hr => hall listed a w hs (hready listed hs hr) hsat hS, fun i hi => ?_⟩
    unfold Region.ready at hi
    rw [List.mem_filter] at hi
    obtain ⟨hi1, hi2⟩ := hi
    have hio := List.mem_range.1 hi1
    have ho : ops[i]? = some ops[i] := Array.getElem?_eq_getElem hio
    rw [ho] at hi2
    simp only [Option.map_some, Option.getD_some, Bool.and_eq_true, Bool.not_eq_true'] at hi2
    obtain ⟨h1, h2⟩ := hi2
    have hnew : listed.getD i false = false := by
      simp only [Array.getD, show i < listed.size by omega, dif_pos] at h1 ⊢
      exact h1
    have hdeps : ∀ e ∈ ops[i].after, Region.binds md e = true → listed.getD e.on false = true := by
      intro e he hb
      have := (Array.all_eq_true'.1 h2) e he
      rw [hb] at this
      simpa using this
    unfold wpOp
    rw [ho]
    simp only
    have hE := each i _ ho listed a w hsat hdeps hs hnew hS
    have hleft := left_set (listed := listed) (i := i) (by omega) hnew
    cases hw : Region.wanted ops[i] (yielded ops a.tmps) with
    | true =>
      rw [if_pos rfl]
      refine .inl (Oper.wp_mono ?_ (hE.1 hw))
      rintro a' w' ⟨rfl, hS'⟩
      exact ih _ _ w' (by simp [hs]) (by omega) (hsat.put ho (by omega) hnew hinj) hS'
    | false =>
      rw [if_neg (by simp)]
      have hp := hsat.put ho (by omega) hnew hinj
      rw [(hE.2 hw).1] at hp
      exact ih _ _ w (by simp [hs]) (by omega) hp (hE.2 hw).2

def backOnlyS (md : Region.Mode) (ops : Array Oper) : Bool := (List.range ops.size).all fun i => match ops[i]? with | some o => o.after.all (fun e => !(Region.binds md e) || decide (e.on < i)) | none => true
theorem back_ofS (h : backOnlyS md ops = true) : ∀ (i : Nat) (o : Oper), ops[i]? = some o → ∀ e ∈ o.after, Region.binds md e = true → e.on < i := by
  intro i o ho e he hb
  have hl : i < ops.size := (Array.getElem?_eq_some_iff.1 ho).1
  have := List.all_eq_true.1 h i (List.mem_range.2 hl)
  rw [ho] at this
  have := (Array.all_eq_true'.1 this) e he
  rw [hb] at this
  simpa using this

/-- The same, with guarded operations. -/
theorem wpAny_all_steadyS (a0 a1 : Act) (val : Nat → Value) (S : Array Bool → World → Prop) (h1 : dstsApart ops = true) (h2 : backOnlyS md ops = true)
    (each : ∀ (i : Nat) (o : Oper), ops[i]? = some o → ∀ (listed : Array Bool) (a : Act) (w : World), Sat ops a0 val listed a → (∀ e ∈ o.after, Region.binds md e = true → listed.getD e.on false = true) → listed.size = ops.size → listed.getD i false = false → S listed w → (Region.wanted o (yielded ops a.tmps) = true → o.wp P a w (fun a' w' => a' = a.put o.dst (val i) ∧ S (listed.setIfInBounds i true) w') Q) ∧ (Region.wanted o (yielded ops a.tmps) = false → val i = undef ∧ S (listed.setIfInBounds i true) w))
    (w : World) (hS : S (Array.replicate ops.size false) w) (h3 : runFrom val ops.toList 0 a0 = a1) (hQ : ∀ w, S (Array.replicate ops.size true) w → Q .normal a1 w) : wpAny P md ops Q ops.size (Array.replicate ops.size false) a0 w := by
  subst h3
  have hf : ∀ i, (Array.replicate ops.size false).getD i false = false := by
    intro i
    simp only [Array.getD]
    split
    · simp
    · rfl
  refine wpAny_steadyS a0 _ val S (dst_inj h1) (back_ofS h2) each (Sat.all (dst_inj h1) ops.toList [] (Array.replicate ops.size false) a0 rfl (by simp) (fun i => by rw [hf]; exact (decide_eq_false (Nat.not_lt_zero _)).symm) (Sat.start ops a0 val ops.size)) hQ ops.size _ a0 w (by simp) ?_ (Sat.start ops a0 val ops.size) hS
  unfold left_
  simp
end
end Go.Proofs.YtjiikjpnlgogfaaGreatDoor
