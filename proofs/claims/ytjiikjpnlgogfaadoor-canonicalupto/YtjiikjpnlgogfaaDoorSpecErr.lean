/-
  Which faults reading gives. Plain facts.
-/
import Derived.Test.YtjiikjpnlgogfaaDoorTell
import Derived.Test.YtjiikjpnlgogfaaDoorSpec
namespace Go.Proofs.YtjiikjpnlgogfaaDoor
open Go.RowKit

theorem headF_err {l : List Nat} {e : Nat} (h : headF l = .error e) : e = 2 ∨ e = 3 := by
  unfold headF at h
  split at h
  · cases h; exact .inl rfl
  · split at h
    · cases h
    · split at h
      · cases hf : lenF l 128 with
        | error x =>
          rw [hf] at h
          cases h
          cases x <;> simp
        | ok p =>
          obtain ⟨a, b⟩ := p
          rw [hf] at h
          simp only at h
          split at h
          · cases h; exact .inr rfl
          · cases h
      · cases hf : lenF l 192 with
        | error x =>
          rw [hf] at h
          cases h
          cases x <;> simp
        | ok p =>
          obtain ⟨a, b⟩ := p
          rw [hf] at h
          cases h

def ErrAt (n : Nat) (er : Er) : Prop := ∃ k e, er = .place k (.base e) ∧ k ≤ n ∧ (e = 2 ∨ e = 3 ∨ e = 5)
theorem ErrAt.mono {m n : Nat} {er : Er} (h : ErrAt m er) (hmn : m ≤ n) : ErrAt n er := by
  obtain ⟨k, e, h1, h2, h3⟩ := h
  exact ⟨k, e, h1, by omega, h3⟩

theorem readIts_err {rd : Nat → Except Er It} {n m : Nat} (hr : ∀ fr er, fr ≤ n → rd fr = .error er → ErrAt m er) (ht : ∀ fr x, fr ≤ n → rd fr = .ok x → x.to ≤ n) : ∀ (k fr : Nat) (er : Er), fr ≤ n → readIts rd n k fr = .error er → ErrAt m er := by
  intro k
  induction k with
  | zero => intro fr er _ h; cases h
  | succ k ih =>
    intro fr er hfr h
    rw [readIts] at h
    split at h
    · cases h1 : rd fr with
      | error e => rw [h1] at h; cases h; exact hr fr _ hfr h1
      | ok x =>
        rw [h1] at h
        simp only at h
        cases h2 : readIts rd n k x.to with
        | error e => rw [h2] at h; cases h; exact ih x.to _ (ht fr x hfr h1) h2
        | ok l => rw [h2] at h; cases h
    · cases h

theorem readIt_err : ∀ (d : Nat) (l : List Nat) (fr : Nat) (er : Er), (∀ y ∈ l, y < 256) → fr ≤ l.length → readIt d l fr = .error er → ErrAt l.length er := by
  intro d
  induction d with
  | zero =>
    intro l fr er hl hfr h
    rw [readIt] at h
    cases h1 : headF (l.drop fr) with
    | error e =>
      rw [h1] at h
      cases h
      rcases headF_err h1 with rfl | rfl
      · exact ⟨fr, 2, rfl, hfr, .inl rfl⟩
      · exact ⟨fr, 3, rfl, hfr, .inr (.inl rfl)⟩
    | ok p =>
      obtain ⟨lst, a, b⟩ := p
      rw [h1] at h
      cases lst with
      | true => cases h; exact ⟨fr, 5, rfl, hfr, .inr (.inr rfl)⟩
      | false => cases h
  | succ d ih =>
    intro l fr er hl hfr h
    rw [readIt] at h
    cases h1 : headF (l.drop fr) with
    | error e =>
      rw [h1] at h
      cases h
      rcases headF_err h1 with rfl | rfl
      · exact ⟨fr, 2, rfl, hfr, .inl rfl⟩
      · exact ⟨fr, 3, rfl, hfr, .inr (.inl rfl)⟩
    | ok p =>
      obtain ⟨lst, a, b⟩ := p
      rw [h1] at h
      cases lst with
      | false => cases h
      | true =>
        simp only [if_true] at h
        obtain ⟨e1, _⟩ := headF_ok (bytes_drop hl fr) h1
        rw [List.length_drop] at e1
        have hlen : (l.take (fr + a + b)).length = fr + a + b := by rw [List.length_take]; omega
        cases h2 : readIts (readIt d (l.take (fr + a + b))) (fr + a + b) b (fr + a) with
        | error e =>
          rw [h2] at h
          cases h
          refine readIts_err (n := fr + a + b) (m := l.length) (fun fr' er' h1' h2' => ?_) (fun fr' x' h1' h2' => ?_) b (fr + a) _ (by omega) h2
          · exact (ih _ fr' er' (bytes_take hl _) (by omega) h2').mono (by omega)
          · have := (readIt_ok d _ fr' x' (bytes_take hl _) (by omega) h2').2.2.1
            omega
        | ok its => rw [h2] at h; cases h

/-- A fault of Decode: one place at most, within; told by its number. -/
theorem decF_err {l : List Nat} (hl : ∀ y ∈ l, y < 256) {er : Er} (h : decF l = .error er) : er.simple ∧ er.num ≠ 0 ∧ er.at_ ≤ l.length ∧ er.node = 0 ∧ er.proof = 0 := by
  have hp : ∀ k e, k ≤ l.length → (e = 2 ∨ e = 3 ∨ e = 4 ∨ e = 5) → (Er.place k (.base e)).simple ∧ (Er.place k (.base e)).num ≠ 0 ∧ (Er.place k (.base e)).at_ ≤ l.length ∧ (Er.place k (.base e)).node = 0 ∧ (Er.place k (.base e)).proof = 0 := by
    intro k e hk he
    refine ⟨?_, ?_, hk, rfl, rfl⟩
    · rcases he with rfl | rfl | rfl | rfl <;> (show _ ∈ nums; decide)
    · rcases he with rfl | rfl | rfl | rfl <;> simp [Er.num]
  unfold decF at h
  split at h
  · cases h
    exact ⟨(by decide : 1 ∈ nums), (by decide : ¬ 1 = 0), Nat.zero_le _, rfl, rfl⟩
  · cases h1 : readIt 6 l 0 with
    | error e =>
      rw [h1] at h
      cases h
      obtain ⟨k, e, rfl, hk, he⟩ := readIt_err 6 l 0 _ hl (Nat.zero_le _) h1
      exact hp k e hk (by omega)
    | ok x =>
      rw [h1] at h
      simp only at h
      split at h
      · cases h
        exact hp x.to 4 (by omega) (by omega)
      · cases h
end Go.Proofs.YtjiikjpnlgogfaaDoor
