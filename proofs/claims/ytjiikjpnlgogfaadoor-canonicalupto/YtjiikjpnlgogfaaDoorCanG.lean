/-
  Canonical: what its calls say, as it needs it.
  Canonical: small facts for the walk.
-/
import Derived.Test.YtjiikjpnlgogfaaDoorAccT
import Derived.Test.YtjiikjpnlgogfaaDoorUnpack
import Derived.Test.YtjiikjpnlgogfaaDoorTDecode
namespace Go.Proofs.YtjiikjpnlgogfaaDoor
open Go.RowKit

theorem first_tree (w : World) (t : TypeId) : Tree encI kC 2 (w.alloc (.cells #[.bool false, .string ⟨#[99, 97, 116]⟩, .slice none 0 0, .bool true, .string ⟨#[]⟩, .slice none 0 0] t)) (fun _ => True) ⟨0, 0, true, ⟨#[]⟩, .slice (some ⟨w.heap.size, 0, none⟩) 2 2⟩ [197, 131, 99, 97, 116, 192] := by
  have e0 : (⟨#[]⟩ : ByteArray) = textB [] := by decide +kernel
  have e1 : ([131, 99, 97, 116] : List Nat) = textCode (bytesOf ⟨#[99, 97, 116]⟩) := by decide +kernel
  have e2 : ([197, 131, 99, 97, 116, 192] : List Nat) = listCode [131, 99, 97, 116, 192] := by decide +kernel
  have e3 : ([192] : List Nat) = listCode [] := by decide +kernel
  have hh : (w.alloc (.cells #[.bool false, .string ⟨#[99, 97, 116]⟩, .slice none 0 0, .bool true, .string ⟨#[]⟩, .slice none 0 0] t)).heap[w.heap.size]? = some (.cells #[.bool false, .string ⟨#[99, 97, 116]⟩, .slice none 0 0, .bool true, .string ⟨#[]⟩, .slice none 0 0] t (0, 0)) := by show (w.heap.push _)[w.heap.size]? = _; rw [Array.getElem?_push_size]
  refine .inr ⟨rfl, [(⟨0, 0, false, ⟨#[99, 97, 116]⟩, .slice none 0 0⟩, [131, 99, 97, 116]), (⟨0, 0, true, ⟨#[]⟩, .slice none 0 0⟩, [192])], .inr ⟨w.heap.size, 2, rfl, Nat.le_refl _, trivial, by simp, ⟨_, t, hh⟩, ?_⟩, ?_, e0, e2⟩
  · intro j u hu
    rw [Nat.zero_add, World.cell?_alloc_new, ← hu]
    simp
  · intro p hp
    rcases List.mem_cons.1 hp with rfl | hp
    · exact .inl ⟨⟨rfl, rfl⟩, e1⟩
    · rcases List.mem_cons.1 hp with rfl | hp
      · exact .inr ⟨rfl, [], .inl ⟨rfl, rfl, rfl⟩, ⟨fun p hp => by simp at hp, ⟨e0, e3⟩⟩⟩
      · simp at hp

theorem textB_bytesOf (s : ByteArray) : textB (bytesOf s) = s := bytesOf_inj (bytesOf_textB (byte_lt s))

theorem first_any (w : World) (t : TypeId) (sent : Nat → Addr) (hF : Faults w sent) :
    Calls Tryd.prog 12 #[.agg #[.bool true, .string ⟨#[]⟩, .slice (some ⟨w.heap.size, 0, none⟩) 2 2]] (w.alloc (.cells #[.bool false, .string ⟨#[99, 97, 116]⟩, .slice none 0 0, .bool true, .string ⟨#[]⟩, .slice none 0 0] t)) fun e w' =>
      Below w.heap.size w w' ∧ e = .returned (.tuple #[.string ⟨#[197, 131, 99, 97, 116, 192]⟩, .int .i64 0]) := by
  refine (tenc_any 1 (by omega) 0 0 true ⟨#[]⟩ _ 2 2 [197, 131, 99, 97, 116, 192] sent _ _ (first_tree w t) (by decide) (hF.below ((Below.refl _ _).alloc (Nat.le_refl _) _))).mono ?_
  rintro e w' ⟨hb, h⟩
  refine ⟨Below.up hb, ?_⟩
  rcases h with ⟨_, rfl⟩ | ⟨h, _⟩
  · have : textB [197, 131, 99, 97, 116, 192] = ⟨#[197, 131, 99, 97, 116, 192]⟩ := by decide +kernel
    rw [this]
  · simp at h

/-- What Decode gives, and what Encode makes of it. -/
def DecSoft (s : ByteArray) (W : World) (e : Ending) (w' : World) : Prop :=
  Below W.heap.size W w' ∧ ∃ (l : Bool) (tx : ByteArray) (p : Option Addr) (m c n k : Nat), e = .returned (.tuple #[.agg #[.bool l, .string tx, .slice p m c], faultV n 0 0 k]) ∧
    (∀ W', Below w'.heap.size w' W' → Calls Tryd.prog 12 #[.agg #[.bool l, .string tx, .slice p m c]] W' fun e w'' => Below W'.heap.size W' w'' ∧ ∃ (t : ByteArray) (g : Nat), e = .returned (.tuple #[.string t, .int .i64 (g : Int)]) ∧ (n = 0 → g = 0 ∧ t = s)) ∧
    (n ≠ 0 → l = false ∧ tx = ⟨#[]⟩ ∧ m = 0 ∧ k ≤ s.size)

theorem dec_soft (s : ByteArray) (sent : Nat → Addr) (w : World) (hF : Faults w sent) (hT : typeAt w) : Calls Tryd.prog 14 #[.string s] w (DecSoft s w) := by
  refine (tdec_any s sent w hF hT).mono ?_
  rintro e w' ⟨hb, h1, h2⟩
  have hF' := hF.below hb
  refine ⟨hb, ?_⟩
  cases hd : decF (bytesOf s) with
  | error er =>
    obtain ⟨q1, q2, q3, q4, q5⟩ := decF_err (byte_lt s) hd
    refine ⟨false, ⟨#[]⟩, none, 0, 0, er.num, er.at_, h1 er hd, fun W' hW' => ?_, fun _ => ⟨rfl, rfl, rfl, by rw [bytesOf_length] at q3; exact q3⟩⟩
    refine (tenc_any 0 (by omega) 0 0 false ⟨#[]⟩ none 0 0 _ sent W' (fun _ => True) (Tree.text ⟨⟨rfl, rfl⟩, rfl⟩ 1) (by decide +kernel) (hF'.below hW')).mono ?_
    rintro e w'' ⟨hb2, h⟩
    refine ⟨hb2, ?_⟩
    rcases h with ⟨_, rfl⟩ | ⟨_, rfl⟩
    · exact ⟨_, 0, rfl, fun h => absurd h q2⟩
    · exact ⟨_, 1, rfl, fun h => absurd h q2⟩
  | ok x =>
    obtain ⟨k1, _, _, k4⟩ := decF_ok (byte_lt s) hd
    obtain ⟨l, tx, p, m, c, hTr0, rfl⟩ := h2 x hd
    have hTr := hTr0.codeB
    rw [bare_code, k4] at hTr
    refine ⟨l, tx, p, m, c, 0, 0, rfl, fun W' hW' => ?_, fun h => absurd rfl h⟩
    refine (tenc_any 5 (by omega) 0 0 l tx p m c _ sent W' _ (hTr.below hW') (by omega) (hF'.below hW')).mono ?_
    rintro e w'' ⟨hb2, h⟩
    refine ⟨hb2, ?_⟩
    rcases h with ⟨_, rfl⟩ | ⟨h, _⟩
    · exact ⟨_, 0, rfl, fun _ => ⟨rfl, textB_bytesOf s⟩⟩
    · omega

/-- What Unpack gives, and what Pack makes of it. -/
def UnpSoft (s : ByteArray) (W : World) (e : Ending) (w' : World) : Prop :=
  Below W.heap.size W w' ∧ ∃ (p : ByteArray) (leaf : Bool) (h : Nat), e = .returned (.tuple #[.string p, .bool leaf, .int .i64 (h : Int)]) ∧
    (∀ W', Calls Tryd.prog 19 #[.string p, .bool leaf] W' fun e w'' => Below W'.heap.size W' w'' ∧ ∃ (t : ByteArray) (g : Nat), e = .returned (.tuple #[.string t, .int .i64 (g : Int)]) ∧ (h = 0 → g = 0 ∧ t = s)) ∧
    (h ≠ 0 → p = ⟨#[]⟩ ∧ leaf = false)

theorem unp_soft (s : ByteArray) (sent : Nat → Addr) (w : World) (hF : Faults w sent) (hs : s.size ≤ 2097152) : Calls Tryd.prog 20 #[.string s] w (UnpSoft s w) := by
  cases hu : unpackF (bytesOf s) with
  | none =>
    refine (tunpack_none s sent w hF hu).mono ?_
    rintro e w' ⟨rfl, hb⟩
    refine ⟨hb, ⟨#[]⟩, false, 3, rfl, fun W' => ?_, fun _ => ⟨rfl, rfl⟩⟩
    refine (tpack_ok ⟨#[]⟩ false W' (by decide) (by intro x hx; cases hx)).mono ?_
    rintro e w'' ⟨rfl, hb⟩
    exact ⟨hb, _, 0, rfl, fun h => by omega⟩
  | some q =>
    obtain ⟨p, leaf⟩ := q
    obtain ⟨b1, b2, b3⟩ := unpackF_back (byte_lt s) hu
    have hp : bytesOf (textB p) = p := bytesOf_textB (fun x hx => by have := b1 x hx; omega)
    refine (tunpack_some s w (by omega) p leaf hu).mono ?_
    rintro e w' ⟨rfl, hb⟩
    refine ⟨hb, textB p, leaf, 0, rfl, fun W' => ?_, fun h => absurd rfl h⟩
    have hsz : (textB p).size ≤ 4194304 := by
      have h1 := bytesOf_length (textB p)
      rw [hp] at h1
      rw [bytesOf_length] at b3
      omega
    refine (tpack_ok (textB p) leaf W' hsz (by rw [hp]; exact b1)).mono ?_
    rintro e w'' ⟨rfl, hb⟩
    refine ⟨hb, _, 0, rfl, fun _ => ⟨rfl, ?_⟩⟩
    rw [hp, b2, textB_bytesOf]
end Go.Proofs.YtjiikjpnlgogfaaDoor

namespace Go.Proofs.YtjiikjpnlgogfaaDoor
open Go.RowKit

set_option maxRecDepth 100000 in
theorem zeroA_eq (W : World) : Sem.run Tryd.prog (Op.equalIn 10000 57 (.agg (accL zeroAcc).toArray) (.agg (accL zeroAcc).toArray)) W = .ok true W := by
  kernel_rfl

theorem zeroA_lit : Tryd.zeroCells57 = (accL zeroAcc).toArray := by kernel_rfl

theorem zeroA_eq2 (W : World) : Sem.run Tryd.prog (Op.equalIn 10000 57 (.agg (accL zeroAcc).toArray) (.agg Tryd.zeroCells57)) W = .ok true W := by
  rw [zeroA_lit]
  exact zeroA_eq W

theorem range_set4 {w : World} {b c : Nat} {L : List Value} (h : w.rangeAt b 0 L) (hne : b ≠ c) (v0 v1 v2 v3 : Value) : ((((w.setCell ⟨c, 0, none⟩ v0).setCell ⟨c, 1, none⟩ v1).setCell ⟨c, 2, none⟩ v2).setCell ⟨c, 3, none⟩ v3).rangeAt b 0 L :=
  fun j u hu => (World.cell?_of_block ((((Below.heap_setCell _ _ _ _ hne).trans (Below.heap_setCell _ _ _ _ hne)).trans (Below.heap_setCell _ _ _ _ hne)).trans (Below.heap_setCell _ _ _ _ hne))).trans (h j u hu)
theorem below_set4 {w w7 : World} {c : Nat} (h : Below w.heap.size w w7) (hc : w.heap.size ≤ c) (v0 v1 v2 v3 : Value) : Below w.heap.size w ((((w7.setCell ⟨c, 0, none⟩ v0).setCell ⟨c, 1, none⟩ v1).setCell ⟨c, 2, none⟩ v2).setCell ⟨c, 3, none⟩ v3) :=
  (((h.setCell hc _).setCell hc _).setCell hc _).setCell hc _

theorem typeAt_below {w W : World} (hT : typeAt w) (hW : Below w.heap.size w W) : typeAt W := (hW.cell (p := ⟨14, 0, none⟩) (World.block_lt_of_cell? w _ hT)).trans hT
end Go.Proofs.YtjiikjpnlgogfaaDoor
