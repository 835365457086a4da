/-
  Decode of package item.
-/
import Derived.Test.YtjiikjpnlgogfaaDoorBare2
namespace Go.Proofs.YtjiikjpnlgogfaaDoor
open Go.RowKit

/-- What Decode answers. -/
def DecSaid (s : ByteArray) (sent : Nat → Addr) (w : World) (e : Ending) (w' : World) : Prop :=
  Below w.heap.size w w' ∧ (∀ er, decF (bytesOf s) = .error er → ∃ t v, er.val sent = .iface t v ∧ e = .returned (.tuple #[zeroP, .iface t v])) ∧
    ∀ x, decF (bytesOf s) = .ok x → ∃ (fr en : Nat) (l : Bool) (tx : ByteArray) (p : Option Addr) (m c : Nat), Tree encP kP 6 w' (fun k => w.heap.size ≤ k) ⟨fr, en, l, tx, .slice p m c⟩ x ∧ e = .returned (.tuple #[valP ⟨fr, en, l, tx, .slice p m c⟩, .nilIface])

theorem DecSaid.err {s : ByteArray} {sent : Nat → Addr} {w : World} {e : Ending} {w' : World} {er : Er} {t : TypeId} {v : Value} (h : decF (bytesOf s) = .error er) (hb : Below w.heap.size w w') (hv : er.val sent = .iface t v) (he : e = .returned (.tuple #[zeroP, .iface t v])) : DecSaid s sent w e w' :=
  ⟨hb, fun er' h' => (by rw [h] at h'; cases h'; exact ⟨t, v, hv, he⟩), fun x h' => by rw [h] at h'; cases h'⟩

set_option maxRecDepth 100000 in
set_option maxHeartbeats 1600000 in
theorem dec_long (s : ByteArray) (sent : Nat → Addr) (w : World) (hF : Faults w sent) (hs : 2048 < s.size) :
    Calls Tryd.prog 29 #[.string s] w (DecSaid s sent w) := by
  have hg : w.cell? ⟨1, 0, none⟩ = some (.iface 174 (.pointer (some (sent 1)))) := hF.var 1 (by decide)
  have hgl : 1 < w.heap.size := hF.low (n := 1) (by decide)
  have hg2 := fun o => cell_past o hg hgl
  have hne : ¬ w.heap.size = 1 := by omega
  have hne2 : ¬ 1 = w.heap.size := by omega
  have hsi : (2048 : Int) < (s.size : Int) := by omega
  have A : Aside (decF (bytesOf s) = .error (.base 1)) := by
    show decF (bytesOf s) = .error (.base 1)
    unfold decF
    rw [if_pos (by rw [bytesOf_length]; exact hs)]
  clear hF hs
  go_enter Tryd.func29, Tryd.ntmps29
  go_wp2
  go_region
  go_wp2
  refine bodyPost_ret (v := .tuple #[zeroP, .iface 174 (.pointer (some (sent 1)))]) (by simp [results, Tryd.results29, go_sem]) rfl ?_
  exact .err A.out ((Below.refl _ _).alloc (Nat.le_refl _) _).drew rfl rfl

set_option maxRecDepth 100000 in
set_option maxHeartbeats 3200000 in
theorem dec_any (s : ByteArray) (sent : Nat → Addr) (w : World) (hF : Faults w sent) :
    Calls Tryd.prog 29 #[.string s] w (DecSaid s sent w) := by
  by_cases hbig : 2048 < s.size
  · exact dec_long s sent w hF hbig
  · have hsi : (s.size : Int) ≤ 2048 := by omega
    have hdec : decF (bytesOf s) = (match readIt 6 (bytesOf s) 0 with | .error e => .error e | .ok x => if x.to < (bytesOf s).length then .error (.place x.to (.base 4)) else .ok x) := by
      unfold decF
      rw [if_neg (by rw [bytesOf_length]; exact hbig)]
      cases readIt 6 (bytesOf s) 0 <;> rfl
    rw [bytesOf_length] at hdec
    have HI : Hid (∀ W, Below w.heap.size w W → Calls Tryd.prog 41 #[.string s, .int .i64 0, .int .i64 0] W (ItemSaid 6 s 0 sent W)) := fun W hW => item_any sent 6 0 s 0 W rfl (by omega) (by omega) (hF.below hW)
    have HF := Hid.hide hF
    have HD := Hid.hide hdec
    clear hF hdec hbig
    go_enter Tryd.func29, Tryd.ntmps29
    go_wp2_with fail
    refine (HI.out _ ((Below.refl _ _).alloc (Nat.le_refl _) _)).mono ?_
    rintro e w1 ⟨hb1, hd1, hd2⟩
    obtain ⟨c0, f0⟩ := newCell hb1 0 (v := .int .i64 0) rfl
    obtain ⟨c1, f1⟩ := newCell hb1 1 (v := .int .i64 0) rfl
    obtain ⟨c2, f2⟩ := newCell hb1 2 (v := .bool false) rfl
    obtain ⟨c3, f3⟩ := newCell hb1 3 (v := .string ⟨#[]⟩) rfl
    obtain ⟨c4, f4⟩ := newCell hb1 4 (v := .slice none 0 0) rfl
    have AS : Aside (Below w.heap.size w w1) := Below.up hb1
    have hs1 : w.heap.size < w1.heap.size := by have := hb1.size; simp at this; omega
    have hs0 : w.heap.size ≠ w1.heap.size := Nat.ne_of_lt hs1
    rcases hr : readIt 6 (bytesOf s) 0 with er | x
    · obtain ⟨t, v, hv, rfl⟩ := hd1 er hr
      have A1 : Aside (decF (bytesOf s) = .error er ∧ er.val sent = .iface t v) := ⟨by rw [HD.out, hr], hv⟩
      clear hb1 hd1 hd2 hr hv
      go_wp2
      refine bodyPost_ret (v := .tuple #[zeroP, .iface t v]) (by simp [results, Tryd.results29, go_sem, hs1, c0, c1, c2, c3, c4]) rfl ?_
      refine .err A1.out.1 ?_ A1.out.2 rfl
      exact (((((AS.out.setCell (Nat.le_refl _) _).setCell (Nat.le_refl _) _).setCell (Nat.le_refl _) _).setCell (Nat.le_refl _) _).setCell (Nat.le_refl _) _).alloc (by simp; omega) _
    · obtain ⟨l, tx, p, m, c, hT, rfl⟩ := hd2 x hr
      obtain ⟨h0, h1, h2⟩ := readIt_to (by omega) hr
      obtain ⟨en, hen⟩ : ∃ en, x.to = en := ⟨_, rfl⟩
      rw [hen] at hT h1 h2 ⊢
      by_cases hlt : en < s.size
      · have hlti : (en : Int) < (s.size : Int) := by omega
        have A1 : Aside (decF (bytesOf s) = .error (.place en (.base 4))) := by
          show decF (bytesOf s) = .error (.place en (.base 4))
          rw [HD.out, hr]
          simp only
          rw [hen, if_pos hlt]
        have hFr := HF.out.below AS.out
        have g0 : w1.cell? ⟨3, 0, none⟩ = some (.iface 174 (.pointer (some (sent 4)))) := hFr.var 4 (by decide)
        have g1 : 3 < w1.heap.size := hFr.low (n := 4) (by decide)
        have g3 : 3 < w.heap.size := HF.out.low (n := 4) (by decide)
        have g2 : ¬ 3 = w.heap.size := by omega
        have g4 : ¬ 3 = w1.heap.size := by omega
        clear hb1 hd1 hd2 hr hT hFr
        go_wp2
        go_region
        go_wp2
        refine bodyPost_ret (v := .tuple #[zeroP, placeV en (.iface 174 (.pointer (some (sent 4))))]) (by simp [results, Tryd.results29, go_sem, hs1, c0, c1, c2, c3, c4]) rfl ?_
        refine .err A1.out ?_ rfl rfl
        exact ((((((AS.out.setCell (Nat.le_refl _) _).setCell (Nat.le_refl _) _).setCell (Nat.le_refl _) _).setCell (Nat.le_refl _) _).setCell (Nat.le_refl _) _).alloc (by simp; omega) _).drew
      · have hlti : (s.size : Int) ≤ (en : Int) := by omega
        have A1 : Aside (decF (bytesOf s) = .ok x) := by
          show decF (bytesOf s) = .ok x
          rw [HD.out, hr]
          simp only
          rw [hen, if_neg hlt]
        have hT2 : Tree encP kP 6 w1 (fun k => w.heap.size < k) ⟨0, en, l, tx, .slice p m c⟩ x := Tree.keep (fun k hk => by simp at hk; omega) (Nat.le_refl _) (fun _ _ _ => rfl) 6 hT
        have A2 : Aside (Tree encP kP 6 w1 (fun k => w.heap.size < k) ⟨0, en, l, tx, .slice p m c⟩ x) := hT2
        clear hb1 hd1 hd2 hr hT hT2
        go_wp2
        refine bodyPost_ret (v := .tuple #[valP ⟨0, en, l, tx, .slice p m c⟩, .nilIface]) (by simp [results, Tryd.results29, go_sem, hs1, c0, c1, c2, c3, c4]) rfl ?_
        refine ⟨(((((AS.out.setCell (Nat.le_refl _) _).setCell (Nat.le_refl _) _).setCell (Nat.le_refl _) _).setCell (Nat.le_refl _) _).setCell (Nat.le_refl _) _).alloc (by simp; omega) _, fun er he => ?_, fun y hy => ?_⟩
        · rw [A1.out] at he
          cases he
        · rw [A1.out] at hy
          cases hy
          refine ⟨0, en, l, tx, p, m, c, ?_, rfl⟩
          refine Tree.keep (fun k hk => Nat.le_of_lt hk) (by simp) (fun k hk hks => ?_) 6 A2.out
          rw [Below.heap_alloc _ _ _ (by simpa using hks), Below.heap_setCell _ _ _ _ (by simp only; omega), Below.heap_setCell _ _ _ _ (by simp only; omega), Below.heap_setCell _ _ _ _ (by simp only; omega), Below.heap_setCell _ _ _ _ (by simp only; omega), Below.heap_setCell _ _ _ _ (by simp only; omega)]
end Go.Proofs.YtjiikjpnlgogfaaDoor
