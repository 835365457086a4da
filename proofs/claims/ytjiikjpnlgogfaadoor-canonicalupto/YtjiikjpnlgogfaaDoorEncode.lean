/-
  Encode of package item, where nothing is too deep.
-/
import Derived.Test.YtjiikjpnlgogfaaDoorDeepG
namespace Go.Proofs.YtjiikjpnlgogfaaDoor
open Go.RowKit

def EncSaid (c : List Nat) (sent : Nat → Addr) (w : World) (e : Ending) (w' : World) : Prop :=
  Below w.heap.size w w' ∧ ((c.length ≤ 2048 ∧ e = .returned (.tuple #[.string (textB c), .nilIface])) ∨ (2048 < c.length ∧ e = .returned (.tuple #[.string ⟨#[]⟩, .iface 174 (.pointer (some (sent 1)))])))

set_option maxRecDepth 100000 in
set_option maxHeartbeats 3200000 in
theorem encode_body (l : Bool) (tx : ByteArray) (q : Option Addr) (m c : Nat) (cd : List Nat) (sent : Nat → Addr) (w : World)
    (hD : l = true → ∀ W mb, Below w.heap.size w W → MapOK W mb → w.heap.size ≤ mb → Calls Tryd.prog 38 #[.map (some mb), .slice q m c, .int .i64 1] W (DeepSaid mb W))
    (hA : ∀ W, Below w.heap.size w W → Calls Tryd.prog 39 #[.slice none 0 0, .agg #[.bool l, .string tx, .slice q m c]] W (AppSaid w.heap.size (.slice none 0 0) [] cd sent W)) :
    Calls Tryd.prog 27 #[.agg #[.bool l, .string tx, .slice q m c]] w (EncSaid cd sent w) := by
  have HA := Hid.hide hA
  have hend : ∀ w2 W, Below w.heap.size w W → ∀ p n k, Grew W w2 w.heap.size (.slice none 0 0) (.slice p n k) cd → (convert 73 9 (.slice p n k)).run Tryd.prog w2 = .ok (.string (textB cd)) w2 ∧ Below w.heap.size w w2 := fun w2 W hW p n k hg => ⟨run_own_text w2 _ _ _ Tryd.underlying73 Tryd.underlying5 Tryd.underlying9 hg.own, hg.below (Own.nil _ _) hW hW.size⟩
  have HE := Hid.hide hend
  clear hA hend
  cases l with
  | true =>
    have HD := Hid.hide (hD rfl)
    have hmk := fun W : World => run_makeMap (P := Tryd.prog) 94 W
    clear hD
    go_enter Tryd.func27, Tryd.ntmps27
    go_wp2_with fail
    refine (HD.out _ _ (((Below.refl _ _).alloc (Nat.le_refl _) _).alloc (by simp) _) ⟨#[], 0, ?mk, by simp⟩ (by simp)).mono ?_
    case mk =>
      have := heap_alloc_new (w.alloc (.cells #[.bool true, .string tx, .slice q m c] 38)) (.map #[] 0)
      simpa using this
    rintro e w1 ⟨rfl, hO, _⟩
    have hB : Below w.heap.size w w1 := hO.below (((Below.refl _ _).alloc (Nat.le_refl _) _).alloc (by simp) _) (by omega) (by simp; omega)
    have hbl : w1.heap[w.heap.size]? = some (.cells #[.bool true, .string tx, .slice q m c] 38) := (hO.block w.heap.size (by simp; omega) (by omega)).trans ((Below.heap_alloc _ _ _ (by simp)).trans (heap_alloc_new _ _))
    have k0 : w1.cell? ⟨w.heap.size, 0, none⟩ = some (.bool true) := by rw [World.cell?, hbl]; rfl
    have k1 : w1.cell? ⟨w.heap.size, 1, none⟩ = some (.string tx) := by rw [World.cell?, hbl]; rfl
    have k2 : w1.cell? ⟨w.heap.size, 2, none⟩ = some (.slice q m c) := by rw [World.cell?, hbl]; rfl
    have B1 : Aside (Below w.heap.size w w1) := hB
    clear hO hB hbl
    go_wp2_with fail
    refine (HA.out _ B1.out).mono ?_
    rintro e w2 hd
    rcases hd with ⟨h1, p2, c2, rfl, hg⟩ | ⟨h1, hg, rfl⟩
    · simp only [List.length_nil, Nat.zero_add, List.nil_append] at h1 hg ⊢
      obtain ⟨hcv, hb⟩ := HE.out w2 _ B1.out _ _ _ hg
      have A1 : Aside (cd.length ≤ 2048 ∧ Below w.heap.size w w2) := ⟨h1, hb⟩
      clear hg h1 hb
      go_wp2
      go_ret2
      exact ⟨A1.out.2, .inl ⟨A1.out.1, rfl⟩⟩
    · have A1 : Aside (2048 < cd.length ∧ Below w.heap.size w w2) := ⟨by simpa using h1, (Own.nil _ _).grown hg B1.out B1.out.size⟩
      clear hg h1
      go_wp2
      go_ret2
      exact ⟨A1.out.2, .inr ⟨A1.out.1, rfl⟩⟩
  | false =>
    clear hD
    go_enter Tryd.func27, Tryd.ntmps27
    go_wp2_with fail
    refine (HA.out _ ((Below.refl _ _).alloc (Nat.le_refl _) _)).mono ?_
    rintro e w1 hd
    rcases hd with ⟨h1, p2, c2, rfl, hg⟩ | ⟨h1, hg, rfl⟩
    · simp only [List.length_nil, Nat.zero_add, List.nil_append] at h1 hg ⊢
      obtain ⟨hcv, hb⟩ := HE.out w1 _ ((Below.refl _ _).alloc (Nat.le_refl _) _) _ _ _ hg
      have A1 : Aside (cd.length ≤ 2048 ∧ Below w.heap.size w w1) := ⟨h1, hb⟩
      clear hg h1 hb
      go_wp2
      go_ret2
      exact ⟨A1.out.2, .inl ⟨A1.out.1, rfl⟩⟩
    · have A1 : Aside (2048 < cd.length ∧ Below w.heap.size w w1) := ⟨by simpa using h1, Below.up ((Own.nil _ _).grown hg (Below.refl _ _) (Nat.le_refl _))⟩
      clear hg h1
      go_wp2
      go_ret2
      exact ⟨A1.out.2, .inr ⟨A1.out.1, rfl⟩⟩

set_option maxRecDepth 100000 in
/-- Encode, of at most six lists in one another. -/
theorem encode_any (n : Nat) (hn : n ≤ 5) (e : El) (cd : List Nat) (sent : Nat → Addr) (w : World) (F : Nat → Prop) (h : Tree encI kC (n + 1) w F e cd) (hl : cd.length ≤ 1048576) (hF : Faults w sent) : Calls Tryd.prog 27 #[valI e] w (EncSaid cd sent w) := by
  obtain ⟨q, m, c, hs⟩ := h.sub
  obtain ⟨fr, en, l, tx, sub⟩ := e
  simp only at hs
  subst hs
  refine encode_body l tx q m c cd sent w (fun hlt W mb hW hM hmb => ?_) (fun W hW => ai_any sent (n + 1) ⟨fr, en, l, tx, .slice q m c⟩ cd w W F none 0 0 [] h hl hF hW rfl (Own.nil _ _) (by omega))
  subst hlt
  rcases h with h | ⟨_, ps, h2, h3, h4, h5⟩
  · have := h.1.1
    cases this
  · have h5 : cd = listCode (flatCodes ps) := by rw [h5]; unfold flatCodes; rw [List.flatMap_def]
    have h7 := listCode_le (flatCodes ps)
    have hm : m = ps.length := by
      rcases h2 with ⟨h, h', _⟩ | ⟨g, cap, h, _⟩
      · simp only [Value.slice.injEq] at h
        omega
      · simp only [Value.slice.injEq] at h
        exact h.2.1
    rw [show (1 : Int) = ((1 : Nat) : Int) from rfl]
    exact deep_any n 1 mb q m c ps F w W (by omega) hm h3 (by rw [h5] at hl; omega) h2 hW hM hmb
end Go.Proofs.YtjiikjpnlgogfaaDoor
