/-
  Open of any text, beside what there is.
-/
import Derived.Test.YtakidhihbgfjlaaGreatDoorSxBvG
import Derived.Test.YtakidhihbgfjlaaGreatDoorSxTwG
import Derived.Test.YtakidhihbgfjlaaGreatDoorSxOdG
import Derived.Test.YtakidhihbgfjlaaGreatDoorSxRtG
import Derived.Test.YtakidhihbgfjlaaGreatDoorSxPhG
import Derived.Test.YtakidhihbgfjlaaGreatDoorSxSaG
import Derived.Test.YtakidhihbgfjlaaGreatDoorSxOaG
import Derived.Test.YtakidhihbgfjlaaGreatDoorSxWcG
namespace Go.Proofs.YtakidhihbgfjlaaGreatDoor
open Go.RowKit
set_option maxRecDepth 100000
set_option maxHeartbeats 25600000
def Er.flat : Er -> Prop
 | .base _ => True
 | .noNode (.base _) => True
 | _ => False
variable {er : Er}
theorem Qh5 {c m : Nat} {p : ByteArray} (h : wrRead c p m = .error er) : er.flat := by
 unfold wrRead at h
 split at h
 ·cases h; trivial
 ·split at h
  ·cases h; trivial
  ·cases h
variable {s : ByteArray}
theorem Qsv (h : opRd s = .error er) : er.flat := by
 unfold opRd at h
 split at h
 ·rename_i h1; cases h; rw [Qcb h1]; trivial
 ·cases h
 ·unfold opLeaf at h
  split at h
  ·rename_i h1; cases h; rw [Qcm h1]; trivial
  ·split at h
   ·rename_i h1; cases h; rw [Qhv h1]; trivial
   ·split at h
    ·rename_i h1; cases h; exact Qh5 h1
    ·split at h
     ·cases h; trivial
     ·cases h
 ·unfold opExt at h
  split at h
  ·rename_i h1; cases h; rw [Qcm h1]; trivial
  ·split at h
   ·rename_i h1; cases h; exact Qh5 h1
   ·split at h
    ·cases h; trivial
    ·cases h
 ·unfold opBr at h
  split at h
  ·rename_i h1; cases h; rw [(Qbp h1).1]; trivial
  ·split at h
   ·cases h; trivial
   ·cases h
 ·unfold opStub at h
  split at h
  ·rename_i h1; cases h; rw [(Qbp h1).1]; trivial
  ·cases h
 ·cases h; trivial
theorem Qsw {d : Od} {ks : List Nd} (h : d.make ks = .error er) : er.flat := by
 cases d with
 | gives t => cases h
 | ext p =>
  rw [Od.make] at h
  split at h
  ·cases h
  ·cases h; trivial
 | br f =>
  rw [Od.make] at h
  split at h
  ·cases h; trivial
  ·cases h
variable {ts : List Nd}
theorem Qr5 (h : stepO s ts = .error er) : er.flat := by
 unfold stepO at h
 split at h
 ·rename_i h1; cases h; exact Qsv h1
 ·split at h
  ·cases h; trivial
  ·split at h
   ·rename_i h2; cases h; exact Qsw h2
   ·cases h
theorem Qsx (L : Nat) : ∀ (n : Nat) (s : ByteArray) (ts : List Nd) (er : Er), s.size <= n -> s.size <= L -> runO L s.size s ts = .error er -> ∃ k e, er = .place k e /\ k <= L /\ e.flat := by
 intro n
 induction n with
 | zero =>
  intro s ts er d c h
  rw [Qch (by omega)] at h
  cases h
 | succ n ih =>
  intro s ts er d c h
  by_cases b : s.size = 0
  ·rw [Qch b] at h
   cases h
  ·cases hs : stepO s ts with
   | error e =>
    rw [Qlc (by omega) hs] at h
    cases h
    exact ⟨_, e, rfl, by omega, Qr5 hs⟩
   | ok x =>
    obtain ⟨a, f⟩ := x
    rw [Qfd (by omega) hs] at h
    have g := (Qeb hs).1
    exact ih f a er (by omega) (by omega) h
theorem Qzz {e : Er} (h : e.flat) : e.asP = none /\ e.asN = none /\ e.asQ = none := by
 cases e with
 | base n => exact ⟨rfl, rfl, rfl⟩
 | noNode e =>
  cases e with
  | base n => exact ⟨rfl, rfl, rfl⟩
  | _ => exact absurd h (by simp [Er.flat])
 | _ => exact absurd h (by simp [Er.flat])
variable {D : List Nat}
theorem Qr6 (h : treeF ts D = .error er) : er.flat := by
 unfold treeF at h
 split at h
 ·split at h
  ·cases h; trivial
  ·split at h
   ·cases h
   ·cases h; trivial
 ·cases h; trivial
theorem Qwp (h : openF D s = .error er) : er.num ≠ 0 /\ er.proof = 0 /\ er.node = 0 /\ er.at_ <= s.size := by
 refine ⟨Er.num_pos (Qgi h), ?_⟩
 have a : er = .base 1 \/ ∃ k e, er = .place k e /\ k <= s.size /\ e.flat := by
  unfold openF at h
  split at h
  ·cases h; exact .inl rfl
  ·split at h
   ·rename_i hr
    cases h
    exact .inr (Qsx s.size s.size s [] _ (Nat.le_refl _) (Nat.le_refl _) hr)
   ·split at h
    ·rename_i e he
     cases h
     exact .inr ⟨_, e, rfl, Nat.le_refl _, Qr6 he⟩
    ·cases h
 rcases a with rfl | ⟨k, e, rfl, hk, he⟩
 ·exact ⟨rfl, rfl, Nat.zero_le _⟩
 ·obtain ⟨d, b, c⟩ := Qzz he
  unfold Er.proof Er.node Er.at_
  rw [Er.asQ, Er.asN, Er.asP, b, c]
  exact ⟨rfl, rfl, hk⟩
variable {B : Nat} {w : World}
theorem Qje {S : Wood} (sent : Nat -> Addr) (s : ByteArray) (hf : Forest B S w) (hF : Faults w sent) (hB : Bru w) (hT : Tabs w) (hM : 15 <= w.heap.size) (hTy : typeAt w) (hD : D.length = 32) (hDb : ∀ x ∈ D, x < 256) :
  Calls Tryz.prog 7 #[.agg (D.map encB).toArray, .string s] w fun e w' => ((∃ er, openF D s = .error er /\ e = .returned (.tuple #[.pointer none, faultV er.num er.proof er.node er.at_])) /\ Below w.heap.size w w') \/ ∃ q b S', openF D s = .ok q /\ e = .returned (opV b) /\ TreeAt S' w' b q /\ w.heap.size <= b /\ FrX B (fun _ => False) S S' w w' /\ Below w.heap.size w w' := by
 refine (Qur sent s hF hB hT hM hTy hD hDb).mono ?_
 rintro e w' j
 cases ho : openF D s with
 | error er =>
  obtain ⟨c, d⟩ := j.bad er ho
  exact .inl ⟨⟨er, rfl, c⟩, d⟩
 | ok q =>
  obtain ⟨b, T, rfl, n, m, a⟩ := j.good q ho
  have f : ∀ k u, T k = some u -> Wood.join w.heap.size S T k = some u := fun k u g => by rw [Wood.join, if_neg (by have := a.forest.low k u g; omega)]; exact g
  have i : TreeAt (Wood.join w.heap.size S T) w' b q := by
   obtain ⟨c, v, d, l⟩ := n
   exact ⟨by rw [Wood.join, if_neg (by omega)]; exact c, v, ndV.sub f d, l⟩
  exact .inr ⟨q, b, Wood.join w.heap.size S T, rfl, rfl, i, m, FrX.join hf a, a.below (Qbk w) fun _ h => h.elim⟩
variable {U U' : Nat -> Prop}
theorem TwM.next {R W : World} {bt bp : Nat} {t a : Nd} {J : Wood} {n1 : Nat} {pk : Option Addr} {ck : Nat} {pv : Option Addr} {cv : Nat} {m : Mp} (h : TwM w n1 pk ck pv cv m R U) (hS : TwS w R U B bt bp t a J W) (hU : ∀ k, U k -> U' k) : TwM w n1 pk ck pv cv m W U' := ⟨(h.at hS).1, (h.at hS).2, hU _ h.u1, fun k hk => hU _ (h.ur k hk)⟩
theorem TwS.plus {R W : World} {bt bp : Nat} {t a : Nd} {J : Wood} {k : Nat} (h : TwS w R U B bt bp t a J W) (hk : k < W.heap.size) (hF : TwF w U bt bp J k) (hU : ∀ i, U' i -> U i \/ i = k) : TwS w W U' B bt bp t a J W := h.next fun i hx => by
 rcases hU i hx with hx | rfl
 ·have := h.uj i hx
  exact ⟨Nat.lt_of_lt_of_le this.1 h.q.size, this.2⟩
 ·exact ⟨hk, hF.1.2.1, hF.1.2.2.1, hF.2⟩
section
variable {P1 : World -> Prop} {F1 : Nat -> Prop} {P2 : Value -> Value -> Nd -> Wood -> World -> Prop} {F2 : Value -> Value -> Nd -> Wood -> Nat -> Prop} {d9 d10 d11 d13 d14 : Bool} {v9 v10 v11 v13 : Value} {W W' : World} {B : Nat} {J : Wood}
end
end Go.Proofs.YtakidhihbgfjlaaGreatDoor
