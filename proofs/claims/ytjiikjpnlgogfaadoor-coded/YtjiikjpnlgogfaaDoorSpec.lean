/-
  What reading an item gives: a function of the bytes alone, with the places and the faults. What is accepted is the code; and a code is accepted. Plain facts on lists of bytes.
-/
import Derived.Test.YtjiikjpnlgogfaaDoorCanon
import Derived.Test.YtjiikjpnlgogfaaDoorErr
namespace Go.Proofs.YtjiikjpnlgogfaaDoor
open Go.RowKit

/-- An item, and where it stood. -/
inductive It where
  | text (fr to : Nat) (t : List Nat)
  | list (fr to : Nat) (l : List It)

def It.fr : It → Nat
  | .text a _ _ => a
  | .list a _ _ => a
def It.to : It → Nat
  | .text _ a _ => a
  | .list _ a _ => a

mutual
def It.code : It → List Nat
  | .text _ _ t => textCode t
  | .list _ _ l => listCode (codes l)
def codes : List It → List Nat
  | [] => []
  | x :: l => x.code ++ codes l
end
theorem codes_flat (l : List It) : codes l = l.flatMap It.code := by
  induction l with
  | nil => rfl
  | cons x l ih => rw [codes, ih, List.flatMap_cons]

/-- What readHead says: a list or not, how many bytes the head has, how many come behind it. -/
def headF (l : List Nat) : Except Nat (Bool × Nat × Nat) :=
  if l.length = 0 then .error 2
  else if l[0]! < 128 then .ok (false, 0, 1)
  else if l[0]! < 192 then
    match lenF l 128 with
    | .error x => .error (if x then 3 else 2)
    | .ok (a, b) => if b = 1 ∧ l[a]! < 128 then .error 3 else .ok (false, a, b)
  else
    match lenF l 192 with
    | .error x => .error (if x then 3 else 2)
    | .ok (a, b) => .ok (true, a, b)

def readIts (rd : Nat → Except Er It) (n : Nat) : Nat → Nat → Except Er (List It)
  | 0, _ => .ok []
  | k + 1, fr =>
    if fr < n then
      match rd fr with
      | .error e => .error e
      | .ok x =>
        match readIts rd n k x.to with
        | .error e => .error e
        | .ok l => .ok (x :: l)
    else .ok []

/-- What is read at a place, of at most d lists in one another. -/
def readIt : Nat → List Nat → Nat → Except Er It
  | 0, l, fr =>
    match headF (l.drop fr) with
    | .error e => .error (.place fr (.base e))
    | .ok (lst, a, b) => if lst then .error (.place fr (.base 5)) else .ok (.text fr (fr + a + b) ((l.drop (fr + a)).take b))
  | d + 1, l, fr =>
    match headF (l.drop fr) with
    | .error e => .error (.place fr (.base e))
    | .ok (lst, a, b) =>
      if lst then
        match readIts (readIt d (l.take (fr + a + b))) (fr + a + b) b (fr + a) with
        | .error e => .error e
        | .ok its => .ok (.list fr (fr + a + b) its)
      else .ok (.text fr (fr + a + b) ((l.drop (fr + a)).take b))

def decF (l : List Nat) : Except Er It :=
  if 2048 < l.length then .error (.base 1)
  else
    match readIt 6 l 0 with
    | .error e => .error e
    | .ok x => if x.to < l.length then .error (.place x.to (.base 4)) else .ok x

theorem headF_ok {l : List Nat} (hl : ∀ x ∈ l, x < 256) {lst : Bool} {a b : Nat} (h : headF l = .ok (lst, a, b)) : HeadOK l lst a b := by
  unfold headF at h
  by_cases h0 : l.length = 0
  · rw [if_pos h0] at h
    cases h
  · rw [if_neg h0] at h
    by_cases h1 : l[0]! < 128
    · rw [if_pos h1] at h
      cases h
      exact HeadOK.byte (by omega) h1
    · rw [if_neg h1] at h
      by_cases h2 : l[0]! < 192
      · rw [if_pos h2] at h
        cases hf : lenF l 128 with
        | error x => rw [hf] at h; cases h
        | ok p =>
          obtain ⟨a', b'⟩ := p
          rw [hf] at h
          simp only at h
          by_cases h3 : b' = 1 ∧ l[a']! < 128
          · rw [if_pos h3] at h
            cases h
          · rw [if_neg h3] at h
            cases h
            exact HeadOK.text hl (by omega) (by omega) h2 hf h3
      · rw [if_neg h2] at h
        cases hf : lenF l 192 with
        | error x => rw [hf] at h; cases h
        | ok p =>
          obtain ⟨a', b'⟩ := p
          rw [hf] at h
          cases h
          exact HeadOK.list hl (by omega) (by omega) hf

/-- What an item that was read is: it begins where it was asked for, ends within, and its code is what stands there. -/
def ReadOK (l : List Nat) (fr : Nat) (x : It) : Prop := x.fr = fr ∧ fr < x.to ∧ x.to ≤ l.length ∧ x.code = (l.drop fr).take (x.to - fr)

theorem readIts_ok {rd : Nat → Except Er It} {l : List Nat} {n : Nat} (hn : n = l.length) (hr : ∀ fr x, fr ≤ l.length → rd fr = .ok x → ReadOK l fr x) :
    ∀ (k fr : Nat) (its : List It), fr ≤ n → n - fr ≤ k → readIts rd n k fr = .ok its → codes its = l.drop fr := by
  intro k
  induction k with
  | zero =>
    intro fr its hfr hk h
    cases h
    rw [List.drop_of_length_le (by omega)]
    rfl
  | succ k ih =>
    intro fr its hfr hk h
    rw [readIts] at h
    by_cases hlt : fr < n
    · rw [if_pos hlt] at h
      cases h1 : rd fr with
      | error e => rw [h1] at h; cases h
      | ok x =>
        rw [h1] at h
        simp only at h
        obtain ⟨_, e2, e3, e4⟩ := hr fr x (by omega) h1
        cases h2 : readIts rd n k x.to with
        | error e => rw [h2] at h; cases h
        | ok its2 =>
          rw [h2] at h
          cases h
          rw [codes, e4, ih x.to its2 (by omega) (by omega) h2, show l.drop x.to = (l.drop fr).drop (x.to - fr) by rw [List.drop_drop]; congr 1; omega, List.take_append_drop]
    · rw [if_neg hlt] at h
      cases h
      rw [List.drop_of_length_le (by omega)]
      rfl

theorem bytes_drop {l : List Nat} (hl : ∀ x ∈ l, x < 256) (k : Nat) : ∀ x ∈ l.drop k, x < 256 := fun x hx => hl x (List.mem_of_mem_drop hx)
theorem bytes_take {l : List Nat} (hl : ∀ x ∈ l, x < 256) (k : Nat) : ∀ x ∈ l.take k, x < 256 := fun x hx => hl x (List.mem_of_mem_take hx)

theorem read_text {l : List Nat} (hl : ∀ x ∈ l, x < 256) {fr a b : Nat} (hfr : fr ≤ l.length) (h : headF (l.drop fr) = .ok (false, a, b)) : ReadOK l fr (.text fr (fr + a + b) ((l.drop (fr + a)).take b)) := by
  obtain ⟨h1, h2, _, _, h5⟩ := headF_ok (bytes_drop hl fr) h
  rw [List.length_drop] at h1
  refine ⟨rfl, by simp only [It.to]; omega, by simp only [It.to]; omega, ?_⟩
  simp only [It.to, It.code]
  rw [show fr + a + b - fr = a + b by omega, h5 rfl, List.drop_drop]

theorem readIt_ok : ∀ (d : Nat) (l : List Nat) (fr : Nat) (x : It), (∀ y ∈ l, y < 256) → fr ≤ l.length → readIt d l fr = .ok x → ReadOK l fr x := by
  intro d
  induction d with
  | zero =>
    intro l fr x hl hfr h
    rw [readIt] at h
    cases h1 : headF (l.drop fr) with
    | error e => rw [h1] at h; cases h
    | ok p =>
      obtain ⟨lst, a, b⟩ := p
      rw [h1] at h
      cases lst with
      | true => cases h
      | false =>
        cases h
        exact read_text hl hfr h1
  | succ d ih =>
    intro l fr x hl hfr h
    rw [readIt] at h
    cases h1 : headF (l.drop fr) with
    | error e => rw [h1] at h; cases h
    | ok p =>
      obtain ⟨lst, a, b⟩ := p
      rw [h1] at h
      cases lst with
      | false =>
        cases h
        exact read_text hl hfr h1
      | true =>
        simp only [if_true] at h
        cases h2 : readIts (readIt d (l.take (fr + a + b))) (fr + a + b) b (fr + a) with
        | error e => rw [h2] at h; cases h
        | ok its =>
          rw [h2] at h
          cases h
          obtain ⟨e1, e2, _, e4, _⟩ := headF_ok (bytes_drop hl fr) h1
          rw [List.length_drop] at e1
          have hlen : (l.take (fr + a + b)).length = fr + a + b := by rw [List.length_take]; omega
          have hc := readIts_ok hlen.symm (fun fr' x' h1' h2' => ih _ fr' x' (bytes_take hl _) h1' h2') b (fr + a) its (by omega) (by omega) h2
          refine ⟨rfl, by simp only [It.to]; omega, by simp only [It.to]; omega, ?_⟩
          simp only [It.to, It.code]
          have e5 : (l.take (fr + a + b)).drop (fr + a) = ((l.drop fr).drop a).take b := by rw [List.drop_take, List.drop_drop, show fr + a + b - (fr + a) = b by omega]
          rw [hc, e5]
          unfold listCode
          have hlen2 : (((l.drop fr).drop a).take b).length = b := by rw [List.length_take, List.length_drop, List.length_drop]; omega
          rw [hlen2, ← e4 rfl, show fr + a + b - fr = a + b by omega, List.take_add]

theorem decF_ok {l : List Nat} (hl : ∀ y ∈ l, y < 256) {x : It} (h : decF l = .ok x) : l.length ≤ 2048 ∧ x.fr = 0 ∧ x.to = l.length ∧ x.code = l := by
  unfold decF at h
  by_cases h0 : 2048 < l.length
  · rw [if_pos h0] at h
    cases h
  · rw [if_neg h0] at h
    cases h1 : readIt 6 l 0 with
    | error e => rw [h1] at h; cases h
    | ok y =>
      rw [h1] at h
      simp only at h
      obtain ⟨e1, e2, e3, e4⟩ := readIt_ok 6 l 0 y hl (by omega) h1
      by_cases h2 : y.to < l.length
      · rw [if_pos h2] at h
        cases h
      · rw [if_neg h2] at h
        cases h
        have e5 : x.to = l.length := by omega
        refine ⟨by omega, e1, e5, ?_⟩
        rw [e4, e5, List.drop_zero, Nat.sub_zero, List.take_of_length_le (Nat.le_refl _)]
end Go.Proofs.YtjiikjpnlgogfaaDoor
