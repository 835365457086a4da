/-
  Decode of package item.
  Encode of package item, where nothing is too deep.
  Which faults reading gives. Plain facts.
  Decode and Encode of package twigs.
-/
import Derived.Test.YtjiikjpnlgogfaaGreatDoorSdBarG
import Derived.Test.YtjiikjpnlgogfaaGreatDoorSdEncG
import Derived.Test.YtjiikjpnlgogfaaGreatDoorSdSmaG
import Derived.LaidEql
import Derived.Laws.StructEq
import Derived.MapKept
import Derived.Test.YtjiikjpnlgogfaaGreatDoorSdReaG
namespace Go.Proofs.YtjiikjpnlgogfaaGreatDoor
open Go.RowKit
def DecSaid (s : ByteArray) (sent : Nat → Addr) (w : World) (e : Ending) (w' : World) : Prop :=
 Below w.heap.size w w' ∧ (∀ er, decF (bytesOf s) = .error er → ∃ t v, er.val sent = .iface t v ∧ e = .returned (.tuple #[zeroP, .iface t v])) ∧
  ∀ x, decF (bytesOf s) = .ok x → ∃ (fr en : Nat) (l : Bool) (tx : ByteArray) (p : Option Addr) (m c : Nat), Tree encP kP 6 w' (fun k => w.heap.size ≤ k) ⟨fr, en, l, tx, .slice p m c⟩ x ∧ e = .returned (.tuple #[valP ⟨fr, en, l, tx, .slice p m c⟩, .nilIface])
theorem DecSaid.err {s : ByteArray} {sent : Nat → Addr} {w : World} {e : Ending} {w' : World} {er : Er} {t : TypeId} {v : Value} (h : decF (bytesOf s) = .error er) (hb : Below w.heap.size w w') (hv : er.val sent = .iface t v) (he : e = .returned (.tuple #[zeroP, .iface t v])) : DecSaid s sent w e w' :=
 ⟨hb, fun er' h' => (by rw [h] at h'; cases h'; exact ⟨t, v, hv, he⟩), fun x h' => by rw [h] at h'; cases h'⟩
set_option maxRecDepth 100000 in
set_option maxHeartbeats 1600000 in
theorem dec_long (s : ByteArray) (sent : Nat → Addr) (w : World) (hF : Faults w sent) (hs : 2048 < s.size) :
  Calls Tryz.prog 88 #[.string s] w (DecSaid s sent w) := by
 have hg : w.cell? ⟨0, 0, none⟩ = some (.iface 423 (.pointer (some (sent 1)))) := hF.var 1 (by decide)
 have hgl : 0 < w.heap.size := hF.low (n := 1) (by decide)
 have hg2 := fun o => cell_past o hg hgl
 have hne : ¬ w.heap.size = 0 := by omega
 have hne2 : ¬ 0 = w.heap.size := by omega
 have hsi : (2048 : Int) < (s.size : Int) := by omega
 have A : Aside (decF (bytesOf s) = .error (.base 1)) := by
  show decF (bytesOf s) = .error (.base 1)
  unfold decF
  rw [if_pos (by rw [bytesOf_length]; exact hs)]
 clear hF hs
 go_enter Tryz.func88, Tryz.ntmps88
 go_wp2
 go_region
 go_wp2
 refine bodyPost_ret (v := .tuple #[zeroP, .iface 423 (.pointer (some (sent 1)))]) (by simp [results, Tryz.results88, go_sem]) rfl ?_
 exact .err A.out ((Below.refl _ _).alloc (Nat.le_refl _) _).drew rfl rfl
set_option maxRecDepth 100000 in
set_option maxHeartbeats 3200000 in
theorem dec_any (s : ByteArray) (sent : Nat → Addr) (w : World) (hF : Faults w sent) :
  Calls Tryz.prog 88 #[.string s] w (DecSaid s sent w) := by
 by_cases hbig : 2048 < s.size
 ·exact dec_long s sent w hF hbig
 ·have hsi : (s.size : Int) ≤ 2048 := by omega
  have hdec : decF (bytesOf s) = (match readIt 6 (bytesOf s) 0 with | .error e => .error e | .ok x => if x.to < (bytesOf s).length then .error (.place x.to (.base 4)) else .ok x) := by
   unfold decF
   rw [if_neg (by rw [bytesOf_length]; exact hbig)]
   cases readIt 6 (bytesOf s) 0 <;> rfl
  rw [bytesOf_length] at hdec
  have HI : Hid (∀ W, Below w.heap.size w W → Calls Tryz.prog 150 #[.string s, .int .i64 0, .int .i64 0] W (ItemSaid 6 s 0 sent W)) := fun W hW => item_any sent 6 0 s 0 W rfl (by omega) (by omega) (hF.below hW)
  have HF := Hid.hide hF
  have HD := Hid.hide hdec
  clear hF hdec hbig
  go_enter Tryz.func88, Tryz.ntmps88
  go_wp2_with fail
  refine (HI.out _ ((Below.refl _ _).alloc (Nat.le_refl _) _)).mono ?_
  rintro e w1 ⟨hb1, hd1, hd2⟩
  obtain ⟨c0, f0⟩ := newCell hb1 0 (v := .int .i64 0) rfl
  obtain ⟨c1, f1⟩ := newCell hb1 1 (v := .int .i64 0) rfl
  obtain ⟨c2, f2⟩ := newCell hb1 2 (v := .bool false) rfl
  obtain ⟨c3, f3⟩ := newCell hb1 3 (v := .string ⟨#[]⟩) rfl
  obtain ⟨c4, f4⟩ := newCell hb1 4 (v := .slice none 0 0) rfl
  have AS : Aside (Below w.heap.size w w1) := Below.up hb1
  have hs1 : w.heap.size < w1.heap.size := by have := hb1.size; simp at this; omega
  have hs0 : w.heap.size ≠ w1.heap.size := Nat.ne_of_lt hs1
  rcases hr : readIt 6 (bytesOf s) 0 with er | x
  ·obtain ⟨t, v, hv, rfl⟩ := hd1 er hr
   have A1 : Aside (decF (bytesOf s) = .error er ∧ er.val sent = .iface t v) := ⟨by rw [HD.out, hr], hv⟩
   clear hb1 hd1 hd2 hr hv
   go_wp2
   refine bodyPost_ret (v := .tuple #[zeroP, .iface t v]) (by simp [results, Tryz.results88, go_sem, hs1, c0, c1, c2, c3, c4]) rfl ?_
   refine .err A1.out.1 ?_ A1.out.2 rfl
   exact (((((AS.out.setCell (Nat.le_refl _) _).setCell (Nat.le_refl _) _).setCell (Nat.le_refl _) _).setCell (Nat.le_refl _) _).setCell (Nat.le_refl _) _).alloc (by simp; omega) _
  ·obtain ⟨l, tx, p, m, c, hT, rfl⟩ := hd2 x hr
   obtain ⟨h0, h1, h2⟩ := readIt_to (by omega) hr
   obtain ⟨en, hen⟩ : ∃ en, x.to = en := ⟨_, rfl⟩
   rw [hen] at hT h1 h2 ⊢
   by_cases hlt : en < s.size
   ·have hlti : (en : Int) < (s.size : Int) := by omega
    have A1 : Aside (decF (bytesOf s) = .error (.place en (.base 4))) := by
     show decF (bytesOf s) = .error (.place en (.base 4))
     rw [HD.out, hr]
     simp only
     rw [hen, if_pos hlt]
    have hFr := HF.out.below AS.out
    have g0 : w1.cell? ⟨2, 0, none⟩ = some (.iface 423 (.pointer (some (sent 4)))) := hFr.var 4 (by decide)
    have g1 : 2 < w1.heap.size := hFr.low (n := 4) (by decide)
    have g3 : 2 < w.heap.size := HF.out.low (n := 4) (by decide)
    have g2 : ¬ 2 = w.heap.size := by omega
    have g4 : ¬ 2 = w1.heap.size := by omega
    clear hb1 hd1 hd2 hr hT hFr
    go_wp2
    go_region
    go_wp2
    refine bodyPost_ret (v := .tuple #[zeroP, placeV en (.iface 423 (.pointer (some (sent 4))))]) (by simp [results, Tryz.results88, go_sem, hs1, c0, c1, c2, c3, c4]) rfl ?_
    refine .err A1.out ?_ rfl rfl
    exact ((((((AS.out.setCell (Nat.le_refl _) _).setCell (Nat.le_refl _) _).setCell (Nat.le_refl _) _).setCell (Nat.le_refl _) _).setCell (Nat.le_refl _) _).alloc (by simp; omega) _).drew
   ·have hlti : (s.size : Int) ≤ (en : Int) := by omega
    have A1 : Aside (decF (bytesOf s) = .ok x) := by
     show decF (bytesOf s) = .ok x
     rw [HD.out, hr]
     simp only
     rw [hen, if_neg hlt]
    have hT2 : Tree encP kP 6 w1 (fun k => w.heap.size < k) ⟨0, en, l, tx, .slice p m c⟩ x := Tree.keep (fun k hk => by simp at hk; omega) (Nat.le_refl _) (fun _ _ _ => rfl) 6 hT
    have A2 : Aside (Tree encP kP 6 w1 (fun k => w.heap.size < k) ⟨0, en, l, tx, .slice p m c⟩ x) := hT2
    clear hb1 hd1 hd2 hr hT hT2
    go_wp2
    refine bodyPost_ret (v := .tuple #[valP ⟨0, en, l, tx, .slice p m c⟩, .nilIface]) (by simp [results, Tryz.results88, go_sem, hs1, c0, c1, c2, c3, c4]) rfl ?_
    refine ⟨(((((AS.out.setCell (Nat.le_refl _) _).setCell (Nat.le_refl _) _).setCell (Nat.le_refl _) _).setCell (Nat.le_refl _) _).setCell (Nat.le_refl _) _).alloc (by simp; omega) _, fun er he => ?_, fun y hy => ?_⟩
    ·rw [A1.out] at he
     cases he
    ·rw [A1.out] at hy
     cases hy
     refine ⟨0, en, l, tx, p, m, c, ?_, rfl⟩
     refine Tree.keep (fun k hk => Nat.le_of_lt hk) (by simp) (fun k hk hks => ?_) 6 A2.out
     rw [Below.heap_alloc _ _ _ (by simpa using hks), Below.heap_setCell _ _ _ _ (by simp only; omega), Below.heap_setCell _ _ _ _ (by simp only; omega), Below.heap_setCell _ _ _ _ (by simp only; omega), Below.heap_setCell _ _ _ _ (by simp only; omega), Below.heap_setCell _ _ _ _ (by simp only; omega)]
end Go.Proofs.YtjiikjpnlgogfaaGreatDoor
namespace Go.Proofs.YtjiikjpnlgogfaaGreatDoor
open Go.RowKit
end Go.Proofs.YtjiikjpnlgogfaaGreatDoor
namespace Go.Proofs.YtjiikjpnlgogfaaGreatDoor
open Go.RowKit
theorem headF_err {l : List Nat} {e : Nat} (h : headF l = .error e) : e = 2 ∨ e = 3 := by
 unfold headF at h
 split at h
 ·cases h; exact .inl rfl
 ·split at h
  ·cases h
  ·split at h
   ·cases hf : lenF l 128 with
    | error x =>
     rw [hf] at h
     cases h
     cases x <;> simp
    | ok p =>
     obtain ⟨a, b⟩ := p
     rw [hf] at h
     simp only at h
     split at h
     ·cases h; exact .inr rfl
     ·cases h
   ·cases hf : lenF l 192 with
    | error x =>
     rw [hf] at h
     cases h
     cases x <;> simp
    | ok p =>
     obtain ⟨a, b⟩ := p
     rw [hf] at h
     cases h
def ErrAt (n : Nat) (er : Er) : Prop := ∃ k e, er = .place k (.base e) ∧ k ≤ n ∧ (e = 2 ∨ e = 3 ∨ e = 5)
theorem ErrAt.mono {m n : Nat} {er : Er} (h : ErrAt m er) (hmn : m ≤ n) : ErrAt n er := by
 obtain ⟨k, e, h1, h2, h3⟩ := h
 exact ⟨k, e, h1, by omega, h3⟩
theorem readIts_err {rd : Nat → Except Er It} {n m : Nat} (hr : ∀ fr er, fr ≤ n → rd fr = .error er → ErrAt m er) (ht : ∀ fr x, fr ≤ n → rd fr = .ok x → x.to ≤ n) : ∀ (k fr : Nat) (er : Er), fr ≤ n → readIts rd n k fr = .error er → ErrAt m er := by
 intro k
 induction k with
 | zero => intro fr er _ h; cases h
 | succ k ih =>
  intro fr er hfr h
  rw [readIts] at h
  split at h
  ·cases h1 : rd fr with
   | error e => rw [h1] at h; cases h; exact hr fr _ hfr h1
   | ok x =>
    rw [h1] at h
    simp only at h
    cases h2 : readIts rd n k x.to with
    | error e => rw [h2] at h; cases h; exact ih x.to _ (ht fr x hfr h1) h2
    | ok l => rw [h2] at h; cases h
  ·cases h
theorem readIt_err : ∀ (d : Nat) (l : List Nat) (fr : Nat) (er : Er), (∀ y ∈ l, y < 256) → fr ≤ l.length → readIt d l fr = .error er → ErrAt l.length er := by
 intro d
 induction d with
 | zero =>
  intro l fr er hl hfr h
  rw [readIt] at h
  cases h1 : headF (l.drop fr) with
  | error e =>
   rw [h1] at h
   cases h
   rcases headF_err h1 with rfl | rfl
   ·exact ⟨fr, 2, rfl, hfr, .inl rfl⟩
   ·exact ⟨fr, 3, rfl, hfr, .inr (.inl rfl)⟩
  | ok p =>
   obtain ⟨lst, a, b⟩ := p
   rw [h1] at h
   cases lst with
   | true => cases h; exact ⟨fr, 5, rfl, hfr, .inr (.inr rfl)⟩
   | false => cases h
 | succ d ih =>
  intro l fr er hl hfr h
  rw [readIt] at h
  cases h1 : headF (l.drop fr) with
  | error e =>
   rw [h1] at h
   cases h
   rcases headF_err h1 with rfl | rfl
   ·exact ⟨fr, 2, rfl, hfr, .inl rfl⟩
   ·exact ⟨fr, 3, rfl, hfr, .inr (.inl rfl)⟩
  | ok p =>
   obtain ⟨lst, a, b⟩ := p
   rw [h1] at h
   cases lst with
   | false => cases h
   | true =>
    simp only [if_true] at h
    obtain ⟨e1, _⟩ := headF_ok (bytes_drop hl fr) h1
    rw [List.length_drop] at e1
    have hlen : (l.take (fr + a + b)).length = fr + a + b := by rw [List.length_take]; omega
    cases h2 : readIts (readIt d (l.take (fr + a + b))) (fr + a + b) b (fr + a) with
    | error e =>
     rw [h2] at h
     cases h
     refine readIts_err (n := fr + a + b) (m := l.length) (fun fr' er' h1' h2' => ?_) (fun fr' x' h1' h2' => ?_) b (fr + a) _ (by omega) h2
     ·exact (ih _ fr' er' (bytes_take hl _) (by omega) h2').mono (by omega)
     ·have := (readIt_ok d _ fr' x' (bytes_take hl _) (by omega) h2').2.2.1
      omega
    | ok its => rw [h2] at h; cases h
theorem decF_err {l : List Nat} (hl : ∀ y ∈ l, y < 256) {er : Er} (h : decF l = .error er) : er.simple ∧ er.num ≠ 0 ∧ er.at_ ≤ l.length ∧ er.node = 0 ∧ er.proof = 0 := by
 have hp : ∀ k e, k ≤ l.length → (e = 2 ∨ e = 3 ∨ e = 4 ∨ e = 5) → (Er.place k (.base e)).simple ∧ (Er.place k (.base e)).num ≠ 0 ∧ (Er.place k (.base e)).at_ ≤ l.length ∧ (Er.place k (.base e)).node = 0 ∧ (Er.place k (.base e)).proof = 0 := by
  intro k e hk he
  refine ⟨?_, ?_, hk, rfl, rfl⟩
  ·rcases he with rfl | rfl | rfl | rfl <;> (show _ ∈ nums; decide)
  ·rcases he with rfl | rfl | rfl | rfl <;> simp [Er.num]
 unfold decF at h
 split at h
 ·cases h
  exact ⟨(by decide : 1 ∈ nums), (by decide : ¬ 1 = 0), Nat.zero_le _, rfl, rfl⟩
 ·cases h1 : readIt 6 l 0 with
  | error e =>
   rw [h1] at h
   cases h
   obtain ⟨k, e, rfl, hk, he⟩ := readIt_err 6 l 0 _ hl (Nat.zero_le _) h1
   exact hp k e hk (by omega)
  | ok x =>
   rw [h1] at h
   simp only at h
   split at h
   ·cases h
    exact hp x.to 4 (by omega) (by omega)
   ·cases h
end Go.Proofs.YtjiikjpnlgogfaaGreatDoor
namespace Go.Proofs.YtjiikjpnlgogfaaGreatDoor
open Go.RowKit
end Go.Proofs.YtjiikjpnlgogfaaGreatDoor
