/-
  Decode of package item.
  Encode of package item, where nothing is too deep.
  Which faults reading gives. Plain facts.
  Decode and Encode of package twigs.
-/
import Derived.Test.YtoohdfiddbfacaaGreatDoorTeBarG
import Derived.Test.YtoohdfiddbfacaaGreatDoorTeEncG
import Derived.Test.YtoohdfiddbfacaaGreatDoorTeSmaG
import Derived.LaidEql
import Derived.Laws.StructEq
import Derived.MapKept
import Derived.Test.YtoohdfiddbfacaaGreatDoorTeReaG
namespace Go.Proofs.YtoohdfiddbfacaaGreatDoor
open Go.RowKit
set_option maxRecDepth 100000
set_option maxHeartbeats 25600000
def DecSaid (s : ByteArray) (sent : Nat -> Addr) (w : World) (e : Ending) (w' : World) : Prop :=
 Below w.heap.size w w' /\ (∀ er, decF (bytesOf s) = .error er -> ∃ t v, er.val sent = .iface t v /\ e = .returned (.tuple #[zeroP, .iface t v])) /\
  ∀ x, decF (bytesOf s) = .ok x -> ∃ (fr en : Nat) (l : Bool) (tx : ByteArray) (p : Option Addr) (m c : Nat), Tree encP kP 6 w' (fun k => w.heap.size <= k) ⟨fr, en, l, tx, .slice p m c⟩ x /\ e = .returned (.tuple #[valP ⟨fr, en, l, tx, .slice p m c⟩, .nilIface])
theorem DecSaid.err {s : ByteArray} {sent : Nat -> Addr} {w : World} {e : Ending} {w' : World} {er : Er} {t : TypeId} {v : Value} (h : decF (bytesOf s) = .error er) (hb : Below w.heap.size w w') (hv : er.val sent = .iface t v) (he : e = .returned (.tuple #[zeroP, .iface t v])) : DecSaid s sent w e w' :=
 ⟨hb, fun er' h' => (by rw [h] at h'; cases h'; exact ⟨t, v, hv, he⟩), fun x h' => by rw [h] at h'; cases h'⟩
theorem dec_long (s : ByteArray) (sent : Nat -> Addr) (w : World) (hF : Faults w sent) (hs : 2048 < s.size) :
  Calls Tryz.prog 64 #[.string s] w (DecSaid s sent w) := by
 have b : w.cell? ⟨0, 0, none⟩ = some (.iface 244 (.pointer (some (sent 1)))) := hF.var 1 (by decide)
 have a : 0 < w.heap.size := hF.low (n := 1) (by decide)
 have d := fun o => cell_past o b a
 have e : ¬ w.heap.size = 0 := by omega
 have c : ¬ 0 = w.heap.size := by omega
 have f : (2048 : Int) < (s.size : Int) := by omega
 have A : Aside (decF (bytesOf s) = .error (.base 1)) := by
  show decF (bytesOf s) = .error (.base 1)
  unfold decF
  rw [if_pos (by rw [bytesOf_length]; exact hs)]
 clear hF hs
 go_enter Tryz.func64, Tryz.ntmps64
 go_wp2
 go_region
 go_wp2
 refine bodyPost_ret (v := .tuple #[zeroP, .iface 244 (.pointer (some (sent 1)))]) (by simp [results, Tryz.results64, go_sem]) rfl ?_
 exact .err A.out ((Below.refl _ _).alloc (Nat.le_refl _) _).drew rfl rfl
theorem dec_any (s : ByteArray) (sent : Nat -> Addr) (w : World) (hF : Faults w sent) :
  Calls Tryz.prog 64 #[.string s] w (DecSaid s sent w) := by
 by_cases f : 2048 < s.size
 ·exact dec_long s sent w hF f
 ·have Y : (s.size : Int) <= 2048 := by omega
  have g : decF (bytesOf s) = (match readIt 6 (bytesOf s) 0 with | .error e => .error e | .ok x => if x.to < (bytesOf s).length then .error (.place x.to (.base 4)) else .ok x) := by
   unfold decF
   rw [if_neg (by rw [bytesOf_length]; exact f)]
   cases readIt 6 (bytesOf s) 0 <;> rfl
  rw [bytesOf_length] at g
  have S : Hid (∀ W, Below w.heap.size w W -> Calls Tryz.prog 80 #[.string s, .int .i64 0, .int .i64 0] W (ItemSaid 6 s 0 sent W)) := fun W V => item_any sent 6 0 s 0 W rfl (by omega) (by omega) (hF.below V)
  have M := Hid.hide hF
  have F := Hid.hide g
  clear hF g f
  go_enter Tryz.func64, Tryz.ntmps64
  go_wp2_with fail
  refine (S.out _ ((Below.refl _ _).alloc (Nat.le_refl _) _)).mono ?_
  rintro e b ⟨a, h, i⟩
  obtain ⟨G, Z⟩ := newCell a 0 (v := .int .i64 0) rfl
  obtain ⟨H, f1⟩ := newCell a 1 (v := .int .i64 0) rfl
  obtain ⟨I, f2⟩ := newCell a 2 (v := .bool false) rfl
  obtain ⟨J, f3⟩ := newCell a 3 (v := .string ⟨#[]⟩) rfl
  obtain ⟨K, f4⟩ := newCell a 4 (v := .slice none 0 0) rfl
  have r : Aside (Below w.heap.size w b) := Below.up a
  have j : w.heap.size < b.heap.size := by have := a.size; simp at this; omega
  have X : w.heap.size ≠ b.heap.size := Nat.ne_of_lt j
  rcases hr : readIt 6 (bytesOf s) 0 with u | x
  ·obtain ⟨t, v, P, rfl⟩ := h u hr
   have d : Aside (decF (bytesOf s) = .error u /\ u.val sent = .iface t v) := ⟨by rw [F.out, hr], P⟩
   clear a h i hr P
   go_wp2
   refine bodyPost_ret (v := .tuple #[zeroP, .iface t v]) (by simp [results, Tryz.results64, go_sem, j, G, H, I, J, K]) rfl ?_
   refine .err d.out.1 ?_ d.out.2 rfl
   exact (((((r.out.setCell (Nat.le_refl _) _).setCell (Nat.le_refl _) _).setCell (Nat.le_refl _) _).setCell (Nat.le_refl _) _).setCell (Nat.le_refl _) _).alloc (by simp; omega) _
  ·obtain ⟨l, C, p, m, c, z, rfl⟩ := i x hr
   obtain ⟨h0, T, U⟩ := readIt_to (by omega) hr
   obtain ⟨en, q⟩ : ∃ en, x.to = en := ⟨_, rfl⟩
   rw [q] at z T U ⊢
   by_cases E : en < s.size
   ·have L : (en : Int) < (s.size : Int) := by omega
    have d : Aside (decF (bytesOf s) = .error (.place en (.base 4))) := by
     show decF (bytesOf s) = .error (.place en (.base 4))
     rw [F.out, hr]
     simp only
     rw [q, if_pos E]
    have o := M.out.below r.out
    have g0 : b.cell? ⟨2, 0, none⟩ = some (.iface 244 (.pointer (some (sent 4)))) := o.var 4 (by decide)
    have g1 : 2 < b.heap.size := o.low (n := 4) (by decide)
    have g3 : 2 < w.heap.size := M.out.low (n := 4) (by decide)
    have g2 : ¬ 2 = w.heap.size := by omega
    have g4 : ¬ 2 = b.heap.size := by omega
    clear a h i hr z o
    go_wp2
    go_region
    go_wp2
    refine bodyPost_ret (v := .tuple #[zeroP, placeV en (.iface 244 (.pointer (some (sent 4))))]) (by simp [results, Tryz.results64, go_sem, j, G, H, I, J, K]) rfl ?_
    refine .err d.out ?_ rfl rfl
    exact ((((((r.out.setCell (Nat.le_refl _) _).setCell (Nat.le_refl _) _).setCell (Nat.le_refl _) _).setCell (Nat.le_refl _) _).setCell (Nat.le_refl _) _).alloc (by simp; omega) _).drew
   ·have L : (s.size : Int) <= (en : Int) := by omega
    have d : Aside (decF (bytesOf s) = .ok x) := by
     show decF (bytesOf s) = .ok x
     rw [F.out, hr]
     simp only
     rw [q, if_neg E]
    have D : Tree encP kP 6 b (fun k => w.heap.size < k) ⟨0, en, l, C, .slice p m c⟩ x := Tree.keep (fun k B => by simp at B; omega) (Nat.le_refl _) (fun _ _ _ => rfl) 6 z
    have R : Aside (Tree encP kP 6 b (fun k => w.heap.size < k) ⟨0, en, l, C, .slice p m c⟩ x) := D
    clear a h i hr z D
    go_wp2
    refine bodyPost_ret (v := .tuple #[valP ⟨0, en, l, C, .slice p m c⟩, .nilIface]) (by simp [results, Tryz.results64, go_sem, j, G, H, I, J, K]) rfl ?_
    refine ⟨(((((r.out.setCell (Nat.le_refl _) _).setCell (Nat.le_refl _) _).setCell (Nat.le_refl _) _).setCell (Nat.le_refl _) _).setCell (Nat.le_refl _) _).alloc (by simp; omega) _, fun u N => ?_, fun y Q => ?_⟩
    ·rw [d.out] at N
     cases N
    ·rw [d.out] at Q
     cases Q
     refine ⟨0, en, l, C, p, m, c, ?_, rfl⟩
     refine Tree.keep (fun k B => Nat.le_of_lt B) (by simp) (fun k B O => ?_) 6 R.out
     rw [Below.heap_alloc _ _ _ (by simpa using O), Below.heap_setCell _ _ _ _ (by simp only; omega), Below.heap_setCell _ _ _ _ (by simp only; omega), Below.heap_setCell _ _ _ _ (by simp only; omega), Below.heap_setCell _ _ _ _ (by simp only; omega), Below.heap_setCell _ _ _ _ (by simp only; omega)]
theorem headF_err {l : List Nat} {e : Nat} (h : headF l = .error e) : e = 2 \/ e = 3 := by
 unfold headF at h
 split at h
 ·cases h; exact .inl rfl
 ·split at h
  ·cases h
  ·split at h
   ·cases hf : lenF l 128 with
    | error x =>
     rw [hf] at h
     cases h
     cases x <;> simp
    | ok p =>
     obtain ⟨a, b⟩ := p
     rw [hf] at h
     simp only at h
     split at h
     ·cases h; exact .inr rfl
     ·cases h
   ·cases hf : lenF l 192 with
    | error x =>
     rw [hf] at h
     cases h
     cases x <;> simp
    | ok p =>
     obtain ⟨a, b⟩ := p
     rw [hf] at h
     cases h
def ErrAt (n : Nat) (er : Er) : Prop := ∃ k e, er = .place k (.base e) /\ k <= n /\ (e = 2 \/ e = 3 \/ e = 5)
theorem ErrAt.mono {m n : Nat} {er : Er} (h : ErrAt m er) (hmn : m <= n) : ErrAt n er := by
 obtain ⟨k, e, a, c, b⟩ := h
 exact ⟨k, e, a, by omega, b⟩
theorem readIts_err {rd : Nat -> Except Er It} {n m : Nat} (hr : ∀ fr er, fr <= n -> rd fr = .error er -> ErrAt m er) (ht : ∀ fr x, fr <= n -> rd fr = .ok x -> x.to <= n) : ∀ (k fr : Nat) (er : Er), fr <= n -> readIts rd n k fr = .error er -> ErrAt m er := by
 intro k
 induction k with
 | zero => intro fr er _ h; cases h
 | succ k ih =>
  intro fr er a h
  rw [readIts] at h
  split at h
  ·cases h1 : rd fr with
   | error e => rw [h1] at h; cases h; exact hr fr _ a h1
   | ok x =>
    rw [h1] at h
    simp only at h
    cases h2 : readIts rd n k x.to with
    | error e => rw [h2] at h; cases h; exact ih x.to _ (ht fr x a h1) h2
    | ok l => rw [h2] at h; cases h
  ·cases h
theorem readIt_err : ∀ (d : Nat) (l : List Nat) (fr : Nat) (er : Er), (∀ y ∈ l, y < 256) -> fr <= l.length -> readIt d l fr = .error er -> ErrAt l.length er := by
 intro d
 induction d with
 | zero =>
  intro l fr er j c h
  rw [readIt] at h
  cases h1 : headF (l.drop fr) with
  | error e =>
   rw [h1] at h
   cases h
   rcases headF_err h1 with rfl | rfl
   ·exact ⟨fr, 2, rfl, c, .inl rfl⟩
   ·exact ⟨fr, 3, rfl, c, .inr (.inl rfl)⟩
  | ok p =>
   obtain ⟨i, a, b⟩ := p
   rw [h1] at h
   cases i with
   | true => cases h; exact ⟨fr, 5, rfl, c, .inr (.inr rfl)⟩
   | false => cases h
 | succ d ih =>
  intro l fr er j c h
  rw [readIt] at h
  cases h1 : headF (l.drop fr) with
  | error e =>
   rw [h1] at h
   cases h
   rcases headF_err h1 with rfl | rfl
   ·exact ⟨fr, 2, rfl, c, .inl rfl⟩
   ·exact ⟨fr, 3, rfl, c, .inr (.inl rfl)⟩
  | ok p =>
   obtain ⟨i, a, b⟩ := p
   rw [h1] at h
   cases i with
   | false => cases h
   | true =>
    simp only [if_true] at h
    obtain ⟨q, _⟩ := headF_ok (bytes_drop j fr) h1
    rw [List.length_drop] at q
    have r : (l.take (fr + a + b)).length = fr + a + b := by rw [List.length_take]; omega
    cases h2 : readIts (readIt d (l.take (fr + a + b))) (fr + a + b) b (fr + a) with
    | error e =>
     rw [h2] at h
     cases h
     refine readIts_err (n := fr + a + b) (m := l.length) (fun f k o g => ?_) (fun f s o g => ?_) b (fr + a) _ (by omega) h2
     ·exact (ih _ f k (bytes_take j _) (by omega) g).mono (by omega)
     ·have := (readIt_ok d _ f s (bytes_take j _) (by omega) g).2.2.1
      omega
    | ok its => rw [h2] at h; cases h
theorem decF_err {l : List Nat} (hl : ∀ y ∈ l, y < 256) {er : Er} (h : decF l = .error er) : er.simple /\ er.num ≠ 0 /\ er.at_ <= l.length /\ er.node = 0 /\ er.proof = 0 := by
 have c : ∀ k e, k <= l.length -> (e = 2 \/ e = 3 \/ e = 4 \/ e = 5) -> (Er.place k (.base e)).simple /\ (Er.place k (.base e)).num ≠ 0 /\ (Er.place k (.base e)).at_ <= l.length /\ (Er.place k (.base e)).node = 0 /\ (Er.place k (.base e)).proof = 0 := by
  intro k e b a
  refine ⟨?_, ?_, b, rfl, rfl⟩
  ·rcases a with rfl | rfl | rfl | rfl <;> (show _ ∈ nums; decide)
  ·rcases a with rfl | rfl | rfl | rfl <;> simp [Er.num]
 unfold decF at h
 split at h
 ·cases h
  exact ⟨(by decide : 1 ∈ nums), (by decide : ¬ 1 = 0), Nat.zero_le _, rfl, rfl⟩
 ·cases h1 : readIt 6 l 0 with
  | error e =>
   rw [h1] at h
   cases h
   obtain ⟨k, e, rfl, b, a⟩ := readIt_err 6 l 0 _ hl (Nat.zero_le _) h1
   exact c k e b (by omega)
  | ok x =>
   rw [h1] at h
   simp only at h
   split at h
   ·cases h
    exact c x.to 4 (by omega) (by omega)
   ·cases h
end Go.Proofs.YtoohdfiddbfacaaGreatDoor
