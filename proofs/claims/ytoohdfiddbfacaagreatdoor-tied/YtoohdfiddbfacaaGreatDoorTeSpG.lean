/-
  Sound: plain facts.
-/
import Derived.Test.YtoohdfiddbfacaaGreatDoorTeSbG
import Derived.Test.YtoohdfiddbfacaaGreatDoorTeStG
namespace Go.Proofs.YtoohdfiddbfacaaGreatDoor
open Go.RowKit
set_option maxRecDepth 100000
set_option maxHeartbeats 25600000
theorem shF_size {c h : List Nat} {dep : Nat} {t : Nd} (hs : shF c h dep = .ok t) : c.length <= 700 := by
 unfold shF at hs
 split at hs
 ·cases hs
 ·omega
theorem verL_size : ∀ (L : List (List Nat)) (h : List Nat) (r : ByteArray) (k : Nat) (o : Option ByteArray), verL L h r k = .ok o -> ∀ c ∈ L, c.length <= 700
 | [], _, _, _, _, _, _, hc => by cases hc
 | c :: L, h, r, k, o, hv, x, hx => by
  rw [verL] at hv
  cases hs : shF c h (64 - r.size) with
  | error e => rw [hs] at hv; cases hv
  | ok t =>
   rw [hs] at hv
   rcases List.mem_cons.1 hx with rfl | hx
   ·exact shF_size hs
   ·dsimp only at hv
    cases hst : stubAt (t.walk 64 r) with
    | some z => obtain ⟨h', r'⟩ := z; rw [hst] at hv; exact verL_size L h' r' (k + 1) o hv x hx
    | none =>
     rw [hst] at hv
     dsimp only at hv
     split at hv
     ·rename_i hL; rw [hL] at hx; cases hx
     ·cases hv
theorem verF_size {h : List Nat} {p : ByteArray} {L : List (List Nat)} {o : Option ByteArray} (hv : verF h p L = .ok o) : ∀ c ∈ L, c.length <= 700 := by
 rw [verF] at hv
 split at hv
 ·rename_i hL; intro c hc; rw [hL.1] at hc; cases hc
 ·exact verL_size _ _ _ _ _ hv
theorem nums_pos : ∀ n ∈ nums, n ≠ 0 := by decide
theorem Er.num_pos : ∀ {e : Er}, e.simple -> e.num ≠ 0
 | .base n, h => nums_pos n h
 | .place _ e, h => Er.num_pos (e := e) h
 | .noNode _, _ => (by show (8 : Nat) ≠ 0; omega)
 | .inNode _ e, h => Er.num_pos (e := e) h
 | .inProof _ e, h => Er.num_pos (e := e) h
theorem sound_pure {t : Nd} {p : ByteArray} (hc : t.can 64) (hp : p.size = 64) (hnb : nib (bytesOf p)) {l : List ByteArray} {o : Option ByteArray} (h : verF t.dig p (l.map bytesOf) = .ok o) {x y : ByteArray} {b : Bool} (hx : exV (exF (orE (t.prove p)) (orE (l.map bytesOf))) = .tuple #[.string x, .string y, .bool b]) :
  o = t.get (bytesOf p) \/ collB x y b = true := by
 rcases ver_sound hc hp hnb h with e | ⟨u, v, e1, e2, e3⟩
 ·exact .inl e
 ·right
  rw [e1] at hx
  have d : ∀ (M : List (List Nat)), (∀ c ∈ M, ∀ y ∈ c, y < 256) -> ∀ c ∈ orE M, ∀ y ∈ c, y < 256 := fun M k c hc y j => by
   rw [orE] at hc
   split at hc
   ·rw [List.mem_singleton] at hc
    subst hc
    exact textCode_byte (fun _ h => by cases h) y j
   ·exact k c hc y j
  have g : ∀ (A B : List (List Nat)) u v, exF A B = some (u, v) -> u ∈ A /\ v ∈ B := by
   intro A
   induction A with
   | nil => intro B u v h; cases B <;> cases h
   | cons a A ih =>
    intro B u v h
    cases B with
    | nil => cases h
    | cons b B =>
     by_cases f : a = b
     ·subst f
      rw [exF_eq] at h
      have := ih B u v h
      exact ⟨List.mem_cons_of_mem _ this.1, List.mem_cons_of_mem _ this.2⟩
     ·rw [exF_ne f] at h
      cases h
      exact ⟨List.mem_cons_self .., List.mem_cons_self ..⟩
  obtain ⟨r, s⟩ := g _ _ _ _ e1
  have n := d _ (prove_byte (by rw [hp]; exact hc) (by omega)) u r
  have q := d _ (bytes_all l) v s
  simp only [exV, Value.tuple.injEq] at hx
  simp only [Array.mk.injEq, List.cons.injEq, Value.string.injEq, Value.bool.injEq, and_true] at hx
  obtain ⟨rfl, rfl, rfl⟩ := hx
  have m : (digF (textB u)).toList = (digF (textB v)).toList := e3
  have i : textB u ≠ textB v := fun e => e2 (by rw [<- bytes_textB n, <- bytes_textB q, e])
  simp [collB, m, i, e3]
theorem prove_small {t : Nd} {p : ByteArray} (hc : t.can 64) (hp : p.size = 64) (hnb : nib (bytesOf p)) : ∀ s ∈ (t.prove p).map textB, s.size <= 9223372036854775806 := by
 intro s b
 obtain ⟨c, a, rfl⟩ := List.mem_map.1 b
 have := verF_size (ver_honest hc hp hnb) c a
 rw [textB_size]
 omega
theorem tied_pure {tt ts : Nd} {ow sl : List Nat} {p ps : ByteArray} (hct : tt.can 64) (hcs : ts.can 64) (hp : p.size = 64) (hnb : nib (bytesOf p)) (hps : ps.size = 64) (hnbs : nib (bytesOf ps)) (hpe : textB (nibs (digB ow)) = p) (hpse : textB (nibs (digB sl)) = ps) {a b : List ByteArray} {o : Option ByteArray} (h : storF tt.dig ow sl (a.map bytesOf) (b.map bytesOf) = .ok o) {x y x' y' : ByteArray} {f f' : Bool} (hx : exV (exF (orE (tt.prove p)) (orE (a.map bytesOf))) = .tuple #[.string x, .string y, .bool f]) (hx' : exV (exF (orE (ts.prove ps)) (orE (b.map bytesOf))) = .tuple #[.string x', .string y', .bool f']) :
  (∀ acc : Acc, tt.get (bytesOf p) = some (textB (encAcc acc)) -> acc.ok -> acc.root = ts.dig -> o = ts.get (bytesOf ps) \/ collB x y f = true \/ collB x' y' f' = true) /\ (tt.get (bytesOf p) = none -> o = none \/ collB x y f = true) := by
 unfold storF at h
 rw [hpe, hpse] at h
 cases hv : verF tt.dig p (a.map bytesOf) with
 | error e => rw [hv] at h; cases h
 | ok c =>
  have d := sound_pure hct hp hnb hv hx
  rw [hv] at h
  refine ⟨fun acc j i g => ?_, fun j => ?_⟩
  ·rcases d with d | d
   ·rw [j] at d
    subst d
    dsimp only at h
    rw [bytes_textB (encAcc_byte i), accF_full i] at h
    dsimp only at h
    rw [g] at h
    cases hv2 : verF ts.dig ps (b.map bytesOf) with
    | error e => rw [hv2] at h; cases h
    | ok o2 =>
     rw [hv2] at h
     cases h
     rcases sound_pure hcs hps hnbs hv2 hx' with h2 | h2
     ·exact .inl h2
     ·exact .inr (.inr h2)
   ·exact .inr (.inl d)
  ·rcases d with d | d
   ·rw [j] at d
    subst d
    dsimp only at h
    split at h
    ·cases h; exact .inl rfl
    ·cases h
   ·exact .inr d
theorem stor_size {root ow sl : List Nat} {L1 L2 : List (List Nat)} {o : Option ByteArray} (h : storF root ow sl L1 L2 = .ok o) : (∀ c ∈ L1, c.length <= 700) /\ ∀ c ∈ L2, c.length <= 700 := by
 unfold storF at h
 cases hv : verF root (textB (nibs (digB ow))) L1 with
 | error e => rw [hv] at h; cases h
 | ok c =>
  refine ⟨verF_size hv, ?_⟩
  rw [hv] at h
  cases c with
  | none =>
   dsimp only at h
   split at h
   ·rename_i h0; intro c hc; rw [h0] at hc; cases hc
   ·cases h
  | some c =>
   dsimp only at h
   cases ha : accF (bytesOf c) with
   | error e => rw [ha] at h; cases h
   | ok a =>
    rw [ha] at h
    dsimp only at h
    cases hv2 : verF a.root (textB (nibs (digB sl))) L2 with
    | error e => rw [hv2] at h; cases h
    | ok o2 => exact verF_size hv2
structure GenT (w : World) (R : World) (U : Nat -> Prop) (B : Nat) (S : Wood) (bt : Nat) (t : Nd) (bs : Nat) (s : Nd) (W : World) : Prop where
 q : GenQ w R U B S bt t W
 two : TreeAt S W bs s
def GenTF (w : World) (U : Nat -> Prop) (S : Wood) (bt bs : Nat) (k : Nat) : Prop := GenF w U S bt k /\ k ≠ bs
theorem GenT.kit {w R : World} {U : Nat -> Prop} {B : Nat} {S : Wood} {bt bs : Nat} {t s : Nd} (hB : w.heap.size <= B) (hU : ∀ k, U k -> k < R.heap.size /\ S k = none) : StKit (GenT w R U B S bt t bs s) (GenTF w U S bt bs) B S := by
 have k := GenQ.kit (w := w) (R := R) (U := U) (B := B) (S := S) (bt := bt) (t := t) hB hU
 exact ⟨fun W b h c => ⟨k.more _ _ h.q c, h.two.frame (Fr.of_below h.q.wood c)⟩, fun W b h d => ⟨k.fr _ _ h.q d, h.two.frame d⟩, fun W b f h a g => ⟨k.set _ _ f h.q a.1 g, h.two.only g a.2.symm⟩, fun j a => k.wood j a.1, fun W j h i => ⟨k.fresh W j h.q i, fun e => by have := h.two.lt; omega⟩⟩
theorem GenT.next {w R : World} {U U' : Nat -> Prop} {B : Nat} {S : Wood} {bt bs : Nat} {t s : Nd} {W : World} (h : GenT w R U B S bt t bs s W) : GenT w W U' B S bt t bs s W := ⟨h.q.next, h.two⟩
end Go.Proofs.YtoohdfiddbfacaaGreatDoor
