/-
  Decode and Encode of package twigs.
-/
import Derived.Test.YtjiikjpnlgogfaaDoorDecode
import Derived.Test.YtjiikjpnlgogfaaDoorEncode
import Derived.Test.YtjiikjpnlgogfaaDoorSpecErr
namespace Go.Proofs.YtjiikjpnlgogfaaDoor
open Go.RowKit

theorem bare_zero (w : World) : Calls Tryd.prog 30 #[zeroP] w fun e w' => e = .returned zeroI ∧ Below w.heap.size w w' := by
  refine (bare_body 0 0 0 false ⟨#[]⟩ none 0 0 [] (fun _ => False) w (by decide) rfl (by omega) (.inl ⟨rfl, rfl, rfl⟩) (by simp) (by simp)).mono ?_
  rintro e w' ⟨hb, p', m', c', qs, rfl, _, _, _, hq⟩
  refine ⟨?_, hb⟩
  have := hq rfl
  simp only [Value.slice.injEq] at this
  obtain ⟨rfl, rfl, rfl⟩ := this
  rfl

/-- What Decode answers: the item by its code, or what is wrong. -/
def TDecSaid (s : ByteArray) (w : World) (e : Ending) (w' : World) : Prop :=
  Below w.heap.size w w' ∧ (∀ er, decF (bytesOf s) = .error er → e = .returned (.tuple #[zeroI, faultV er.num 0 0 er.at_])) ∧
    ∀ x, decF (bytesOf s) = .ok x → ∃ (l : Bool) (tx : ByteArray) (p : Option Addr) (m c : Nat), Tree encI kB 6 w' (fun k => w.heap.size ≤ k) ⟨0, 0, l, tx, .slice p m c⟩ x.bare ∧ e = .returned (.tuple #[valI ⟨0, 0, l, tx, .slice p m c⟩, faultV 0 0 0 0])

set_option maxRecDepth 100000 in
set_option maxHeartbeats 3200000 in
theorem tdec_any (s : ByteArray) (sent : Nat → Addr) (w : World) (hF : Faults w sent) (hT : typeAt w) :
    Calls Tryd.prog 14 #[.string s] w (TDecSaid s w) := by
  have HD : Hid (∀ W, Below w.heap.size w W → Calls Tryd.prog 29 #[.string s] W (DecSaid s sent W)) := fun W hW => dec_any s sent W (hF.below hW)
  have hlg : 14 < w.heap.size := World.block_lt_of_cell? w _ hT
  have HB := Hid.hide (fun W => bare_zero W)
  cases hd : decF (bytesOf s) with
  | error er =>
    obtain ⟨q1, q2, q3, q4, q5⟩ := decF_err (byte_lt s) hd
    obtain ⟨t, v, hv⟩ := er.shape sent
    have HT : Hid (∀ W, Below w.heap.size w W → Calls Tryd.prog 31 #[.iface t v] W fun e w' => e = .returned (faultV er.num 0 0 er.at_) ∧ Below W.heap.size W w') := fun W hW => by
      have := tell_any sent er q1 W (hF.below hW) ((hW.cell hlg).trans hT)
      rw [hv, q4, q5] at this
      exact this
    have HD2 : Hid (∀ W, Below w.heap.size w W → Calls Tryd.prog 29 #[.string s] W fun e w' => Below W.heap.size W w' ∧ e = .returned (.tuple #[zeroP, .iface t v])) := fun W hW => (HD.out W hW).mono fun e w' h => by
      obtain ⟨hb, h1, _⟩ := h
      obtain ⟨t', v', hv', he⟩ := h1 er hd
      rw [hv] at hv'
      cases hv'
      exact ⟨hb, he⟩
    have A : Aside (decF (bytesOf s) = .error er) := hd
    clear HD hv hF hT hlg hd q1 q2 q3 q4 q5
    go_enter Tryd.func14, Tryd.ntmps14
    go_wp2_with fail
    refine (HD2.out _ (((Below.refl _ _).alloc (Nat.le_refl _) _).alloc (by simp) _)).mono ?_
    rintro e w1 ⟨hb1, rfl⟩
    have B1 : Aside (Below w.heap.size w w1) := Below.behind (((Below.refl _ _).alloc (Nat.le_refl _) _).alloc (by simp) _) hb1
    have H1 : Aside (Held w1 w.heap.size [.bool false, .string ⟨#[]⟩, .slice none 0 0] ∧ Held w1 (w.heap.size + 1) [.int .i64 0, .int .i64 0, .int .i64 0, .int .i64 0]) := by
      refine ⟨((Held.fresh w [.bool false, .string ⟨#[]⟩, .slice none 0 0] _).alloc _).below hb1, ?_⟩
      have := (Held.fresh (w.alloc (.cells #[.bool false, .string ⟨#[]⟩, .slice none 0 0] 38)) [.int .i64 0, .int .i64 0, .int .i64 0, .int .i64 0] 45).below hb1
      simpa using this
    clear hb1
    go_wp2_with fail
    refine (HB.out _).mono ?_
    rintro e w2 ⟨rfl, hb2⟩
    have B2 : Aside (Below w.heap.size w w2) := B1.out.trans ((Below.up hb2).mono B1.out.size)
    have H2 : Aside (Held w2 w.heap.size [.bool false, .string ⟨#[]⟩, .slice none 0 0] ∧ Held w2 (w.heap.size + 1) [.int .i64 0, .int .i64 0, .int .i64 0, .int .i64 0]) := ⟨H1.out.1.below (Below.up hb2), H1.out.2.below (Below.up hb2)⟩
    clear hb2
    go_wp2_with fail
    refine (HT.out _ B2.out).mono ?_
    rintro e w3 ⟨rfl, hb3⟩
    have B3 : Aside (Below w.heap.size w w3) := Below.behind B2.out hb3
    obtain ⟨a0, f0⟩ := (H2.out.1.below hb3).2 0 _ rfl
    obtain ⟨a1, f1⟩ := (H2.out.1.below hb3).2 1 _ rfl
    obtain ⟨a2, f2⟩ := (H2.out.1.below hb3).2 2 _ rfl
    obtain ⟨b0, g0⟩ := (H2.out.2.below hb3).2 0 _ rfl
    obtain ⟨b1, g1⟩ := (H2.out.2.below hb3).2 1 _ rfl
    obtain ⟨b2, g2⟩ := (H2.out.2.below hb3).2 2 _ rfl
    obtain ⟨b3, g3⟩ := (H2.out.2.below hb3).2 3 _ rfl
    clear hb3
    go_wp2
    refine bodyPost_ret (v := .tuple #[zeroI, faultV er.num 0 0 er.at_]) (by simp [results, Tryd.results14, go_sem, a0, a1, a2, b0, b1, b2, b3]) rfl ?_
    refine ⟨?_, fun er' he => ?_, fun x he => ?_⟩
    · exact ((((((B3.out.setCell (Nat.le_refl _) _).setCell (Nat.le_refl _) _).setCell (Nat.le_refl _) _).setCell (by simp) _).setCell (by simp) _).setCell (by simp) _).setCell (by simp) _
    · rw [A.out] at he
      cases he
      rfl
    · rw [A.out] at he
      cases he
  | ok x =>
    obtain ⟨q1, q2, q3, q4⟩ := decF_ok (byte_lt s) hd
    have A : Aside (decF (bytesOf s) = .ok x ∧ x.code = bytesOf s) := ⟨hd, q4⟩
    have HBx : Hid (∀ (e : El) (W : World) (F : Nat → Prop), Tree encP kP 6 W F e x → Calls Tryd.prog 30 #[valP e] W (BareSaid 6 x W)) := fun e W F h => bare_any 6 x e W F h (by rw [q4]; exact q1)
    clear hd hF hT hlg HB q1 q2 q3 q4
    go_enter Tryd.func14, Tryd.ntmps14
    go_wp2_with fail
    refine (HD.out _ (((Below.refl _ _).alloc (Nat.le_refl _) _).alloc (by simp) _)).mono ?_
    rintro e w1 ⟨hb1, _, hd2⟩
    obtain ⟨fr, en, l, tx, p, m, c, hTr, rfl⟩ := hd2 x A.out.1
    have B1 : Aside (Below w.heap.size w w1) := Below.behind (((Below.refl _ _).alloc (Nat.le_refl _) _).alloc (by simp) _) hb1
    have H1 : Aside (Held w1 w.heap.size [.bool false, .string ⟨#[]⟩, .slice none 0 0] ∧ Held w1 (w.heap.size + 1) [.int .i64 0, .int .i64 0, .int .i64 0, .int .i64 0]) := by
      refine ⟨((Held.fresh w [.bool false, .string ⟨#[]⟩, .slice none 0 0] _).alloc _).below hb1, ?_⟩
      have := (Held.fresh (w.alloc (.cells #[.bool false, .string ⟨#[]⟩, .slice none 0 0] 38)) [.int .i64 0, .int .i64 0, .int .i64 0, .int .i64 0] 45).below hb1
      simpa using this
    have T1 : Aside (Tree encP kP 6 w1 (fun _ => True) ⟨fr, en, l, tx, .slice p m c⟩ x) := Tree.keep (fun _ _ => trivial) (Nat.le_refl _) (fun _ _ _ => rfl) 6 hTr
    clear hb1 hd2 hTr
    go_wp2_with fail
    refine (HBx.out _ _ (fun _ => True) (T1.out.below ((Below.refl _ _).alloc (Nat.le_refl _) _))).mono ?_
    rintro e w2 ⟨hb2, l2, tx2, p2, m2, c2, rfl, hT2⟩
    have B2 : Aside (Below w.heap.size w w2) := B1.out.trans ((Below.up hb2).mono B1.out.size)
    have H2 : Aside (Held w2 w.heap.size [.bool false, .string ⟨#[]⟩, .slice none 0 0] ∧ Held w2 (w.heap.size + 1) [.int .i64 0, .int .i64 0, .int .i64 0, .int .i64 0]) := ⟨H1.out.1.below (Below.up hb2), H1.out.2.below (Below.up hb2)⟩
    have T2 : Aside (Tree encI kB 6 w2 (fun k => w.heap.size + 2 ≤ k) ⟨0, 0, l2, tx2, .slice p2 m2 c2⟩ x.bare) := Tree.keep (fun k hk => by have := H1.out.2.1; simp at hk; omega) (Nat.le_refl _) (fun _ _ _ => rfl) 6 hT2
    clear hb2 hT2 T1
    go_wp2_with fail
    refine (tell_nil _).mono ?_
    rintro e w3 ⟨rfl, hb3⟩
    have B3 : Aside (Below w.heap.size w w3) := Below.behind B2.out hb3
    have T3 : Aside (Tree encI kB 6 w3 (fun k => w.heap.size + 2 ≤ k) ⟨0, 0, l2, tx2, .slice p2 m2 c2⟩ x.bare) := T2.out.below hb3
    obtain ⟨a0, f0⟩ := (H2.out.1.below hb3).2 0 _ rfl
    obtain ⟨a1, f1⟩ := (H2.out.1.below hb3).2 1 _ rfl
    obtain ⟨a2, f2⟩ := (H2.out.1.below hb3).2 2 _ rfl
    obtain ⟨b0, g0⟩ := (H2.out.2.below hb3).2 0 _ rfl
    obtain ⟨b1, g1⟩ := (H2.out.2.below hb3).2 1 _ rfl
    obtain ⟨b2, g2⟩ := (H2.out.2.below hb3).2 2 _ rfl
    obtain ⟨b3, g3⟩ := (H2.out.2.below hb3).2 3 _ rfl
    clear hb3
    go_wp2
    refine bodyPost_ret (v := .tuple #[valI ⟨0, 0, l2, tx2, .slice p2 m2 c2⟩, faultV 0 0 0 0]) (by simp [results, Tryd.results14, go_sem, a0, a1, a2, b0, b1, b2, b3]) rfl ?_
    refine ⟨?_, fun er' he => ?_, fun y he => ?_⟩
    · exact ((((((B3.out.setCell (Nat.le_refl _) _).setCell (Nat.le_refl _) _).setCell (Nat.le_refl _) _).setCell (by simp) _).setCell (by simp) _).setCell (by simp) _).setCell (by simp) _
    · rw [A.out.1] at he
      cases he
    · refine ⟨l2, tx2, p2, m2, c2, ?_, rfl⟩
      have := T3.out
      rw [A.out.1] at he
      cases he
      refine Tree.keep (fun k hk => by omega) (by simp) (fun k hk _ => ?_) 6 this
      rw [Below.heap_setCell _ _ _ _ (by simp only; omega), Below.heap_setCell _ _ _ _ (by simp only; omega), Below.heap_setCell _ _ _ _ (by simp only; omega), Below.heap_setCell _ _ _ _ (by simp only; omega), Below.heap_setCell _ _ _ _ (by simp only; omega), Below.heap_setCell _ _ _ _ (by simp only; omega), Below.heap_setCell _ _ _ _ (by simp only; omega)]

/-- What Encode answers. -/
def TEncSaid (c : List Nat) (w : World) (e : Ending) (w' : World) : Prop :=
  Below w.heap.size w w' ∧ ((c.length ≤ 2048 ∧ e = .returned (.tuple #[.string (textB c), .int .i64 0])) ∨ (2048 < c.length ∧ e = .returned (.tuple #[.string ⟨#[]⟩, .int .i64 1])))

set_option maxRecDepth 100000 in
theorem tenc_any (n : Nat) (hn : n ≤ 5) (fr en : Nat) (l : Bool) (tx : ByteArray) (p : Option Addr) (m c : Nat) (cd : List Nat) (sent : Nat → Addr) (w : World) (F : Nat → Prop) (h : Tree encI kC (n + 1) w F ⟨fr, en, l, tx, .slice p m c⟩ cd) (hl : cd.length ≤ 1048576) (hF : Faults w sent) :
    Calls Tryd.prog 12 #[.agg #[.bool l, .string tx, .slice p m c]] w (TEncSaid cd w) := by
  have HE : Hid (∀ W, Below w.heap.size w W → Calls Tryd.prog 27 #[.agg #[.bool l, .string tx, .slice p m c]] W (EncSaid cd sent W)) := fun W hW => encode_any n hn ⟨fr, en, l, tx, .slice p m c⟩ cd sent W F (h.below hW) hl (hF.below hW)
  have HN : Hid (∀ W, Below w.heap.size w W → Calls Tryd.prog 28 #[.iface 174 (.pointer (some (sent 1)))] W fun e w' => e = .returned (.int .i64 1) ∧ Below W.heap.size W w') := fun W hW => errno_any sent (.base 1) (by show 1 ∈ nums; decide) W (hF.below hW)
  clear h hF
  go_enter Tryd.func12, Tryd.ntmps12
  go_wp2_with fail
  refine (HE.out _ ((Below.refl _ _).alloc (Nat.le_refl _) _)).mono ?_
  rintro e w1 ⟨hb1, hd⟩
  have B1 : Aside (Below w.heap.size w w1) := Below.up hb1
  clear hb1
  rcases hd with ⟨h1, rfl⟩ | ⟨h1, rfl⟩
  · have A1 : Aside (cd.length ≤ 2048) := h1
    clear h1
    go_wp2_with (go_at_call 28; refine (errno_nil _).mono ?_; rintro e w1 ⟨rfl, rfl⟩)
    go_ret2
    exact ⟨B1.out, .inl ⟨A1.out, rfl⟩⟩
  · have A1 : Aside (2048 < cd.length) := h1
    clear h1
    go_wp2_with fail
    refine (HN.out _ B1.out).mono ?_
    rintro e w2 ⟨rfl, hb2⟩
    go_wp2
    go_ret2
    exact ⟨Below.behind B1.out hb2, .inr ⟨A1.out, rfl⟩⟩
end Go.Proofs.YtjiikjpnlgogfaaDoor
