/-
  Package twigsref: Read: where it stands, its head read.
  Package twigsref: Read: a head that is wrong.
  Package twigsref: Read: a length beyond the room.
  Package twigsref: Read: a text that would be written otherwise.
-/
import Derived.Test.YtjiikjpnlgogfaaGreatDoorRawG
import Derived.Test.YtjiikjpnlgogfaaGreatDoorSamG
import Derived.Test.YtjiikjpnlgogfaaGreatDoorHeadEq
import Derived.Test.YtjiikjpnlgogfaaGreatDoorSteady
import Derived.Test.YtjiikjpnlgogfaaGreatDoorWriG
import Derived.Test.YtjiikjpnlgogfaaGreatDoorEndG
namespace Go.Proofs.YtjiikjpnlgogfaaGreatDoor
open Go.RowKit

abbrev zeroR : Value := .agg #[.bool false, .string ⟨#[]⟩, .slice none 0 0, .int .i64 0, .int .i64 0]

/-- Where Read stands, its head read: its results' cells, its item, its head. -/
structure RdAt (w : World) (at_ hb : Nat) (l : Bool) (N Z : Nat) (w2 : World) : Prop where
  below : Below w.heap.size w w2
  r0 : Held w2 w.heap.size [.bool false, .string ⟨#[]⟩, .slice none 0 0, .int .i64 0, .int .i64 0]
  r1 : Held w2 (w.heap.size + 1) [.int .i64 0, .int .i64 0, .int .i64 0, .int .i64 0]
  x : Held w2 (w.heap.size + 2) [.bool false, .string ⟨#[]⟩, .slice none 0 0, .int .i64 (at_ : Int), .int .i64 0]
  h : Held w2 hb [.bool l, .int .i64 (N : Int), .int .i64 (Z : Int)]
  hb : w.heap.size + 3 ≤ hb
theorem RdAt.step {w : World} {at_ hb : Nat} {l : Bool} {N Z : Nat} {w2 w3 : World} (h : RdAt w at_ hb l N Z w2) (hB : Below w2.heap.size w2 w3) : RdAt w at_ hb l N Z w3 :=
  ⟨Below.behind h.below hB, h.r0.below hB, h.r1.below hB, h.x.below hB, h.h.below hB, h.hb⟩
theorem RdAt.start {w w1 : World} {at_ : Nat} {l : Bool} {N Z : Nat} (hb1 : Below (((w.alloc (.cells #[.bool false, .string ⟨#[]⟩, .slice none 0 0, .int .i64 0, .int .i64 0] 288)).alloc (.cells #[.int .i64 0, .int .i64 0, .int .i64 0, .int .i64 0] 66)).alloc (.cells #[.bool false, .string ⟨#[]⟩, .slice none 0 0, .int .i64 (at_ : Int), .int .i64 0] 288)).heap.size (((w.alloc (.cells #[.bool false, .string ⟨#[]⟩, .slice none 0 0, .int .i64 0, .int .i64 0] 288)).alloc (.cells #[.int .i64 0, .int .i64 0, .int .i64 0, .int .i64 0] 66)).alloc (.cells #[.bool false, .string ⟨#[]⟩, .slice none 0 0, .int .i64 (at_ : Int), .int .i64 0] 288)) w1) :
    RdAt w at_ w1.heap.size l N Z (w1.alloc (.cells #[.bool l, .int .i64 (N : Int), .int .i64 (Z : Int)] 374)) := by
  have hs1 := hb1.size
  simp only [World.size_alloc] at hs1
  have hb2 : Below w1.heap.size w1 (w1.alloc (.cells #[.bool l, .int .i64 (N : Int), .int .i64 (Z : Int)] 374)) := (Below.refl _ _).alloc (Nat.le_refl _) _
  refine ⟨Below.behind (Below.behind ((((Below.refl _ _).alloc (Nat.le_refl _) _).alloc (by simp) _).alloc (by simp; omega) _) hb1) hb2, ((((Held.fresh w [.bool false, .string ⟨#[]⟩, .slice none 0 0, .int .i64 0, .int .i64 0] _).alloc _).alloc _).below hb1).below hb2, ?_, ?_, ?_, by omega⟩
  · have := (((Held.fresh (w.alloc (.cells #[.bool false, .string ⟨#[]⟩, .slice none 0 0, .int .i64 0, .int .i64 0] 288)) [.int .i64 0, .int .i64 0, .int .i64 0, .int .i64 0] 66).alloc _).below hb1).below hb2
    simpa using this
  · have := ((Held.fresh ((w.alloc (.cells #[.bool false, .string ⟨#[]⟩, .slice none 0 0, .int .i64 0, .int .i64 0] 288)).alloc (.cells #[.int .i64 0, .int .i64 0, .int .i64 0, .int .i64 0] 66)) [.bool false, .string ⟨#[]⟩, .slice none 0 0, .int .i64 (at_ : Int), .int .i64 0] 288).below hb1).below hb2
    simpa using this
  · exact Held.fresh w1 [.bool l, .int .i64 (N : Int), .int .i64 (Z : Int)] _

end Go.Proofs.YtjiikjpnlgogfaaGreatDoor

namespace Go.Proofs.YtjiikjpnlgogfaaGreatDoor
open Go.RowKit

set_option maxRecDepth 100000 in
set_option maxHeartbeats 12800000 in
theorem rr_head (s : ByteArray) (at_ end_ deep : Nat) (w : World) (l : Bool) (N Z E : Nat) (hE : 0 < E)
    (hH : ∀ W, Calls Tryz.prog 231 #[.string s, .int .i64 (at_ : Int), .int .i64 (end_ : Int)] W fun e w' => e = .returned (hdV l N Z E) ∧ Below W.heap.size W w') :
    Calls Tryz.prog 212 #[.string s, .int .i64 (at_ : Int), .int .i64 (end_ : Int), .int .i64 (deep : Int)] w (LookSaid (.tuple #[zeroR, faultV E 0 0 at_]) w) := by
  have hE0 : ((E : Int) == 0) = false := by simp; omega
  have hE1 : ((E : Int) != 0) = true := by simp; omega
  have HH := Hid.hide hH
  clear hH hE
  go_enter Tryz.func212, Tryz.ntmps212
  go_wp2_with fail
  refine (HH.out _).mono ?_
  rintro e w1 ⟨rfl, hb1⟩
  have R1 := RdAt.start (l := l) (N := N) (Z := Z) hb1
  clear hb1
  go_wp2_with fail
  refine wp_region_any (by kernel_rfl) ?_
  change wpAny _ _ _ _ _ _ _ (World.drew _)
  obtain ⟨hb, hhb⟩ : ∃ hb, w1.heap.size = hb := ⟨_, rfl⟩
  generalize w1.alloc (.cells #[.bool l, .int .i64 (N : Int), .int .i64 (Z : Int)] 374) = w2 at R1 ⊢
  rw [hhb] at R1 ⊢
  have R0 := Hid.hide R1
  clear R1 hhb
  obtain ⟨f, hf⟩ : ∃ f : Nat → Value, f = fun i => ([.int .i64 (E : Int), .bool false, .bool false, undef, undef, undef, .bool false, .bool false, undef, undef, undef, undef, undef, undef, undef, undef, undef, undef, undef, undef, undef, undef, undef, undef, .bool false] : List Value).getD i undef := ⟨_, rfl⟩
  refine wpAny_all_steadyG _ { tmps := #[Value.string s, Value.int IntKind.i64 ↑at_, Value.int IntKind.i64 ↑end_, Value.int IntKind.i64 ↑deep, undef, undef, undef, undef, Value.pointer (some { block := w.heap.size, off := 0 }), Value.pointer (some { block := w.heap.size + 1, off := 0 }), Value.pointer (some { block := w.heap.size + 1 + 1, off := 0 }), Value.pointer (some { block := hb, off := 0 }), Value.int IntKind.i64 ↑E, Value.int IntKind.i64 (wrap64 (↑at_ + ↑Z)), undef, undef, Value.int IntKind.i64 ↑at_, Value.agg #[Value.bool false, Value.string { data := #[] }, Value.slice none 0 0, Value.int IntKind.i64 ↑at_, Value.int IntKind.i64 0], hdV l N Z E, Value.string s, Value.int IntKind.i64 ↑at_, Value.int IntKind.i64 ↑end_, hdV l N Z E, Value.agg #[Value.bool l, Value.int IntKind.i64 ↑N, Value.int IntKind.i64 ↑Z], Value.int IntKind.i64 ↑E, Value.int IntKind.i64 ↑at_, Value.pointer (some { block := hb, off := 2 }), Value.int IntKind.i64 ↑Z, Value.int IntKind.i64 (wrap64 (↑at_ + ↑Z)), Value.int IntKind.i64 ↑E, Value.bool false, Value.bool false, undef, undef, undef, undef, undef, undef, Value.bool false, f 0, f 1, f 2, f 3, f 4, f 5, f 6, f 7, f 8, f 9, f 10, f 11, f 12, f 13, f 14, f 15, f 16, f 17, f 18, f 19, f 20, f 21, f 22, f 23, f 24, undef, undef, undef, undef, undef, undef, undef, undef, undef, undef, undef, undef, undef, undef, undef, undef, undef, undef, undef, undef, undef, undef, undef, undef, undef, undef, undef, undef, undef, undef, undef, undef, undef, undef, undef, undef, undef, undef, undef, undef, undef, undef, undef, undef, undef, undef, undef, undef, undef, undef, undef, undef, undef, undef, undef, undef, undef, undef, undef, undef, undef, undef, undef, undef], defers := [] } f (fun W => Below w2.heap.size w2 W) (by kernel_rfl) (by kernel_rfl) ?_ _ ?_ (by kernel_rfl) ?_
  · intro i o ho listed b W hsat hdeps hS
    have hi : i < 25 := (Array.getElem?_eq_some_iff.1 ho).1
    match i, hi with
    | 0, _ =>
      obtain rfl := Option.some.inj ho
      have hv : f 0 = .int .i64 (E : Int) := by rw [hf]; rfl
      have t12 : b.tmps[12]? = some (.int .i64 (E : Int)) := (hsat.rest 12 (fun i _ => noDst_of (by kernel_rfl) i)).trans rfl
      rw [hv]
      refine ⟨fun _ => ?_, fun hno => absurd hno (by simp [Region.wanted])⟩
      clear ho hf hdeps hsat
      go_simp
    | 1, _ =>
      obtain rfl := Option.some.inj ho
      have hv : f 1 = .bool false := by rw [hf]; rfl
      have v0 : f 0 = .int .i64 (E : Int) := by rw [hf]; rfl
      have t39 : b.tmps[39]? = some (.int .i64 (E : Int)) := (hsat.done 0 39 (hdeps ⟨0, .data⟩ (by simp) rfl) rfl (by simp)).trans (congrArg some v0)
      rw [hv]
      refine ⟨fun _ => ?_, fun hno => absurd hno (by simp [Region.wanted])⟩
      clear ho hf hdeps hsat
      go_simp
    | 2, _ =>
      obtain rfl := Option.some.inj ho
      have hv : f 2 = .bool false := by rw [hf]; rfl
      have v1 : f 1 = .bool false := by rw [hf]; rfl
      have t40 : b.tmps[40]? = some (.bool false) := (hsat.done 1 40 (hdeps ⟨1, .data⟩ (by simp) rfl) rfl (by simp)).trans (congrArg some v1)
      rw [hv]
      refine ⟨fun _ => ?_, fun hno => absurd hno (by simp [Region.wanted])⟩
      clear ho hf hdeps hsat
      go_simp
    | 3, _ =>
      obtain rfl := Option.some.inj ho
      have hv : f 3 = undef := by rw [hf]; rfl
      rw [hv]
      have vg : f 2 = .bool false := by rw [hf]; rfl
      have tg : b.tmps[41]? = some (.bool false) := (hsat.done 2 41 (hdeps ⟨2, .guard⟩ (by simp) rfl) rfl (by simp)).trans (congrArg some vg)
      exact ⟨fun hyes => absurd hyes (by simp [Region.wanted, yielded, tg]), fun _ => rfl⟩
    | 4, _ =>
      obtain rfl := Option.some.inj ho
      have hv : f 4 = undef := by rw [hf]; rfl
      rw [hv]
      have vg : f 2 = .bool false := by rw [hf]; rfl
      have tg : b.tmps[41]? = some (.bool false) := (hsat.done 2 41 (hdeps ⟨2, .guard⟩ (by simp) rfl) rfl (by simp)).trans (congrArg some vg)
      exact ⟨fun hyes => absurd hyes (by simp [Region.wanted, yielded, tg]), fun _ => rfl⟩
    | 5, _ =>
      obtain rfl := Option.some.inj ho
      have hv : f 5 = undef := by rw [hf]; rfl
      rw [hv]
      have vg : f 2 = .bool false := by rw [hf]; rfl
      have tg : b.tmps[41]? = some (.bool false) := (hsat.done 2 41 (hdeps ⟨2, .guard⟩ (by simp) rfl) rfl (by simp)).trans (congrArg some vg)
      exact ⟨fun hyes => absurd hyes (by simp [Region.wanted, yielded, tg]), fun _ => rfl⟩
    | 6, _ =>
      obtain rfl := Option.some.inj ho
      have hv : f 6 = .bool false := by rw [hf]; rfl
      have v2 : f 2 = .bool false := by rw [hf]; rfl
      have t41 : b.tmps[41]? = some (.bool false) := (hsat.done 2 41 (hdeps ⟨2, .data⟩ (by simp) rfl) rfl (by simp)).trans (congrArg some v2)
      have v5 : f 5 = undef := by rw [hf]; rfl
      have t44 : b.tmps[44]? = some (undef) := (hsat.done 5 44 (hdeps ⟨5, .data⟩ (by simp) rfl) rfl (by simp)).trans (congrArg some v5)
      rw [hv]
      refine ⟨fun _ => ?_, fun hno => absurd hno (by simp [Region.wanted])⟩
      clear ho hf hdeps hsat
      go_simp
    | 7, _ =>
      obtain rfl := Option.some.inj ho
      have hv : f 7 = .bool false := by rw [hf]; rfl
      have v6 : f 6 = .bool false := by rw [hf]; rfl
      have t45 : b.tmps[45]? = some (.bool false) := (hsat.done 6 45 (hdeps ⟨6, .data⟩ (by simp) rfl) rfl (by simp)).trans (congrArg some v6)
      rw [hv]
      refine ⟨fun _ => ?_, fun hno => absurd hno (by simp [Region.wanted])⟩
      clear ho hf hdeps hsat
      go_simp
    | 8, _ =>
      obtain rfl := Option.some.inj ho
      have hv : f 8 = undef := by rw [hf]; rfl
      rw [hv]
      have vg : f 7 = .bool false := by rw [hf]; rfl
      have tg : b.tmps[46]? = some (.bool false) := (hsat.done 7 46 (hdeps ⟨7, .guard⟩ (by simp) rfl) rfl (by simp)).trans (congrArg some vg)
      exact ⟨fun hyes => absurd hyes (by simp [Region.wanted, yielded, tg]), fun _ => rfl⟩
    | 9, _ =>
      obtain rfl := Option.some.inj ho
      have hv : f 9 = undef := by rw [hf]; rfl
      rw [hv]
      have vg : f 7 = .bool false := by rw [hf]; rfl
      have tg : b.tmps[46]? = some (.bool false) := (hsat.done 7 46 (hdeps ⟨7, .guard⟩ (by simp) rfl) rfl (by simp)).trans (congrArg some vg)
      exact ⟨fun hyes => absurd hyes (by simp [Region.wanted, yielded, tg]), fun _ => rfl⟩
    | 10, _ =>
      obtain rfl := Option.some.inj ho
      have hv : f 10 = undef := by rw [hf]; rfl
      rw [hv]
      have vg : f 7 = .bool false := by rw [hf]; rfl
      have tg : b.tmps[46]? = some (.bool false) := (hsat.done 7 46 (hdeps ⟨7, .guard⟩ (by simp) rfl) rfl (by simp)).trans (congrArg some vg)
      exact ⟨fun hyes => absurd hyes (by simp [Region.wanted, yielded, tg]), fun _ => rfl⟩
    | 11, _ =>
      obtain rfl := Option.some.inj ho
      have hv : f 11 = undef := by rw [hf]; rfl
      rw [hv]
      have vg : f 7 = .bool false := by rw [hf]; rfl
      have tg : b.tmps[46]? = some (.bool false) := (hsat.done 7 46 (hdeps ⟨7, .guard⟩ (by simp) rfl) rfl (by simp)).trans (congrArg some vg)
      exact ⟨fun hyes => absurd hyes (by simp [Region.wanted, yielded, tg]), fun _ => rfl⟩
    | 12, _ =>
      obtain rfl := Option.some.inj ho
      have hv : f 12 = undef := by rw [hf]; rfl
      rw [hv]
      have vg : f 7 = .bool false := by rw [hf]; rfl
      have tg : b.tmps[46]? = some (.bool false) := (hsat.done 7 46 (hdeps ⟨7, .guard⟩ (by simp) rfl) rfl (by simp)).trans (congrArg some vg)
      exact ⟨fun hyes => absurd hyes (by simp [Region.wanted, yielded, tg]), fun _ => rfl⟩
    | 13, _ =>
      obtain rfl := Option.some.inj ho
      have hv : f 13 = undef := by rw [hf]; rfl
      rw [hv]
      have vg : f 7 = .bool false := by rw [hf]; rfl
      have tg : b.tmps[46]? = some (.bool false) := (hsat.done 7 46 (hdeps ⟨7, .guard⟩ (by simp) rfl) rfl (by simp)).trans (congrArg some vg)
      exact ⟨fun hyes => absurd hyes (by simp [Region.wanted, yielded, tg]), fun _ => rfl⟩
    | 14, _ =>
      obtain rfl := Option.some.inj ho
      have hv : f 14 = undef := by rw [hf]; rfl
      rw [hv]
      have vg : f 7 = .bool false := by rw [hf]; rfl
      have tg : b.tmps[46]? = some (.bool false) := (hsat.done 7 46 (hdeps ⟨7, .guard⟩ (by simp) rfl) rfl (by simp)).trans (congrArg some vg)
      exact ⟨fun hyes => absurd hyes (by simp [Region.wanted, yielded, tg]), fun _ => rfl⟩
    | 15, _ =>
      obtain rfl := Option.some.inj ho
      have hv : f 15 = undef := by rw [hf]; rfl
      rw [hv]
      have vg : f 7 = .bool false := by rw [hf]; rfl
      have tg : b.tmps[46]? = some (.bool false) := (hsat.done 7 46 (hdeps ⟨7, .guard⟩ (by simp) rfl) rfl (by simp)).trans (congrArg some vg)
      exact ⟨fun hyes => absurd hyes (by simp [Region.wanted, yielded, tg]), fun _ => rfl⟩
    | 16, _ =>
      obtain rfl := Option.some.inj ho
      have hv : f 16 = undef := by rw [hf]; rfl
      rw [hv]
      have vg : f 7 = .bool false := by rw [hf]; rfl
      have tg : b.tmps[46]? = some (.bool false) := (hsat.done 7 46 (hdeps ⟨7, .guard⟩ (by simp) rfl) rfl (by simp)).trans (congrArg some vg)
      exact ⟨fun hyes => absurd hyes (by simp [Region.wanted, yielded, tg]), fun _ => rfl⟩
    | 17, _ =>
      obtain rfl := Option.some.inj ho
      have hv : f 17 = undef := by rw [hf]; rfl
      rw [hv]
      have vg : f 7 = .bool false := by rw [hf]; rfl
      have tg : b.tmps[46]? = some (.bool false) := (hsat.done 7 46 (hdeps ⟨7, .guard⟩ (by simp) rfl) rfl (by simp)).trans (congrArg some vg)
      exact ⟨fun hyes => absurd hyes (by simp [Region.wanted, yielded, tg]), fun _ => rfl⟩
    | 18, _ =>
      obtain rfl := Option.some.inj ho
      have hv : f 18 = undef := by rw [hf]; rfl
      rw [hv]
      have vg : f 7 = .bool false := by rw [hf]; rfl
      have tg : b.tmps[46]? = some (.bool false) := (hsat.done 7 46 (hdeps ⟨7, .guard⟩ (by simp) rfl) rfl (by simp)).trans (congrArg some vg)
      exact ⟨fun hyes => absurd hyes (by simp [Region.wanted, yielded, tg]), fun _ => rfl⟩
    | 19, _ =>
      obtain rfl := Option.some.inj ho
      have hv : f 19 = undef := by rw [hf]; rfl
      rw [hv]
      have vg : f 7 = .bool false := by rw [hf]; rfl
      have tg : b.tmps[46]? = some (.bool false) := (hsat.done 7 46 (hdeps ⟨7, .guard⟩ (by simp) rfl) rfl (by simp)).trans (congrArg some vg)
      exact ⟨fun hyes => absurd hyes (by simp [Region.wanted, yielded, tg]), fun _ => rfl⟩
    | 20, _ =>
      obtain rfl := Option.some.inj ho
      have hv : f 20 = undef := by rw [hf]; rfl
      rw [hv]
      have vg : f 7 = .bool false := by rw [hf]; rfl
      have tg : b.tmps[46]? = some (.bool false) := (hsat.done 7 46 (hdeps ⟨7, .guard⟩ (by simp) rfl) rfl (by simp)).trans (congrArg some vg)
      exact ⟨fun hyes => absurd hyes (by simp [Region.wanted, yielded, tg]), fun _ => rfl⟩
    | 21, _ =>
      obtain rfl := Option.some.inj ho
      have hv : f 21 = undef := by rw [hf]; rfl
      rw [hv]
      have vg : f 7 = .bool false := by rw [hf]; rfl
      have tg : b.tmps[46]? = some (.bool false) := (hsat.done 7 46 (hdeps ⟨7, .guard⟩ (by simp) rfl) rfl (by simp)).trans (congrArg some vg)
      exact ⟨fun hyes => absurd hyes (by simp [Region.wanted, yielded, tg]), fun _ => rfl⟩
    | 22, _ =>
      obtain rfl := Option.some.inj ho
      have hv : f 22 = undef := by rw [hf]; rfl
      rw [hv]
      have vg : f 7 = .bool false := by rw [hf]; rfl
      have tg : b.tmps[46]? = some (.bool false) := (hsat.done 7 46 (hdeps ⟨7, .guard⟩ (by simp) rfl) rfl (by simp)).trans (congrArg some vg)
      exact ⟨fun hyes => absurd hyes (by simp [Region.wanted, yielded, tg]), fun _ => rfl⟩
    | 23, _ =>
      obtain rfl := Option.some.inj ho
      have hv : f 23 = undef := by rw [hf]; rfl
      rw [hv]
      have vg : f 7 = .bool false := by rw [hf]; rfl
      have tg : b.tmps[46]? = some (.bool false) := (hsat.done 7 46 (hdeps ⟨7, .guard⟩ (by simp) rfl) rfl (by simp)).trans (congrArg some vg)
      exact ⟨fun hyes => absurd hyes (by simp [Region.wanted, yielded, tg]), fun _ => rfl⟩
    | 24, _ =>
      obtain rfl := Option.some.inj ho
      have hv : f 24 = .bool false := by rw [hf]; rfl
      have v7 : f 7 = .bool false := by rw [hf]; rfl
      have t46 : b.tmps[46]? = some (.bool false) := (hsat.done 7 46 (hdeps ⟨7, .data⟩ (by simp) rfl) rfl (by simp)).trans (congrArg some v7)
      have v23 : f 23 = undef := by rw [hf]; rfl
      have t62 : b.tmps[62]? = some (undef) := (hsat.done 23 62 (hdeps ⟨23, .data⟩ (by simp) rfl) rfl (by simp)).trans (congrArg some v23)
      rw [hv]
      refine ⟨fun _ => ?_, fun hno => absurd hno (by simp [Region.wanted])⟩
      clear ho hf hdeps hsat
      go_simp
  · exact (Below.refl _ _).drew
  · intro W hS
    have hv : f 24 = .bool false := by rw [hf]; rfl
    have A2 : Aside (RdAt w at_ hb l N Z W) := R0.out.step hS
    have r0 := A2.out.r0.1
    have hxb := A2.out.x.1
    have hhb := A2.out.h.1
    obtain ⟨a0, f0⟩ := A2.out.r0.2 0 _ rfl
    obtain ⟨a1, f1⟩ := A2.out.r0.2 1 _ rfl
    obtain ⟨a2, f2⟩ := A2.out.r0.2 2 _ rfl
    obtain ⟨a3, f3⟩ := A2.out.r0.2 3 _ rfl
    obtain ⟨a4, f4⟩ := A2.out.r0.2 4 _ rfl
    obtain ⟨b0, g0⟩ := A2.out.r1.2 0 _ rfl
    obtain ⟨b1, g1⟩ := A2.out.r1.2 1 _ rfl
    obtain ⟨b2, g2⟩ := A2.out.r1.2 2 _ rfl
    obtain ⟨b3, g3⟩ := A2.out.r1.2 3 _ rfl
    obtain ⟨x0, y0⟩ := A2.out.x.2 0 _ rfl
    obtain ⟨x1, y1⟩ := A2.out.x.2 1 _ rfl
    obtain ⟨x2, y2⟩ := A2.out.x.2 2 _ rfl
    obtain ⟨x3, y3⟩ := A2.out.x.2 3 _ rfl
    obtain ⟨x4, y4⟩ := A2.out.x.2 4 _ rfl
    obtain ⟨h0, z0⟩ := A2.out.h.2 0 _ rfl
    obtain ⟨h1, z1⟩ := A2.out.h.2 1 _ rfl
    have n1 : ¬ hb = w.heap.size := by have := A2.out.hb; omega
    have n2 : ¬ hb = w.heap.size + 1 := by have := A2.out.hb; omega
    have n3 : ¬ hb = w.heap.size + 2 := by have := A2.out.hb; omega
    rw [hv]
    clear hS hf hv
    go_wp2
    refine bodyPost_ret (v := .tuple #[zeroR, faultV E 0 0 at_]) (by simp [results, Tryz.results212, go_sem, a0, a1, a2, a3, a4, b0, b1, b2, b3]) rfl ⟨rfl, ?_⟩
    refine Below.setCell (Below.setCell (Below.setCell (Below.setCell (Below.setCell (Below.setCell (Below.setCell (Below.setCell (Below.setCell A2.out.below ?_ _) ?_ _) ?_ _) ?_ _) ?_ _) ?_ _) ?_ _) ?_ _) ?_ _ <;> (simp only; omega)
end Go.Proofs.YtjiikjpnlgogfaaGreatDoor

namespace Go.Proofs.YtjiikjpnlgogfaaGreatDoor
open Go.RowKit

set_option maxRecDepth 100000 in
set_option maxHeartbeats 12800000 in
theorem rr_room (s : ByteArray) (at_ end_ deep : Nat) (w : World) (l : Bool) (N Z fr rm : Nat) (hfr : wrap64 ((at_ : Int) + (Z : Int)) = (fr : Int)) (hrm : wrap64 ((end_ : Int) - (fr : Int)) = (rm : Int)) (hN : (rm : Int) < (N : Int))
    (hH : ∀ W, Calls Tryz.prog 231 #[.string s, .int .i64 (at_ : Int), .int .i64 (end_ : Int)] W fun e w' => e = .returned (hdV l N Z 0) ∧ Below W.heap.size W w') :
    Calls Tryz.prog 212 #[.string s, .int .i64 (at_ : Int), .int .i64 (end_ : Int), .int .i64 (deep : Int)] w (LookSaid (.tuple #[zeroR, faultV 2 0 0 at_]) w) := by
  have HH := Hid.hide hH
  clear hH
  go_enter Tryz.func212, Tryz.ntmps212
  go_wp2_with fail
  refine (HH.out _).mono ?_
  rintro e w1 ⟨rfl, hb1⟩
  have R1 := RdAt.start (l := l) (N := N) (Z := Z) hb1
  clear hb1
  go_wp2_with fail
  refine wp_region_any (by kernel_rfl) ?_
  change wpAny _ _ _ _ _ _ _ (World.drew _)
  obtain ⟨hb, hhb⟩ : ∃ hb, w1.heap.size = hb := ⟨_, rfl⟩
  generalize w1.alloc (.cells #[.bool l, .int .i64 (N : Int), .int .i64 (Z : Int)] 374) = w2 at R1 ⊢
  rw [hhb] at R1 ⊢
  have R0 := Hid.hide R1
  clear R1 hhb
  obtain ⟨f, hf⟩ : ∃ f : Nat → Value, f = fun i => ([.int .i64 2, .bool false, .bool false, undef, undef, undef, .bool false, .bool false, undef, undef, undef, undef, undef, undef, undef, undef, undef, undef, undef, undef, undef, undef, undef, undef, .bool false] : List Value).getD i undef := ⟨_, rfl⟩
  refine wpAny_all_steadyG _ { tmps := #[Value.string s, Value.int IntKind.i64 ↑at_, Value.int IntKind.i64 ↑end_, Value.int IntKind.i64 ↑deep, undef, undef, undef, undef, Value.pointer (some { block := w.heap.size, off := 0 }), Value.pointer (some { block := w.heap.size + 1, off := 0 }), Value.pointer (some { block := w.heap.size + 1 + 1, off := 0 }), Value.pointer (some { block := hb, off := 0 }), Value.int IntKind.i64 2, Value.int IntKind.i64 (wrap64 (↑at_ + ↑Z)), undef, undef, Value.int IntKind.i64 ↑at_, Value.agg #[Value.bool false, Value.string { data := #[] }, Value.slice none 0 0, Value.int IntKind.i64 ↑at_, Value.int IntKind.i64 0], hdV l N Z 0, Value.string s, Value.int IntKind.i64 ↑at_, Value.int IntKind.i64 ↑end_, hdV l N Z 0, Value.agg #[Value.bool l, Value.int IntKind.i64 ↑N, Value.int IntKind.i64 ↑Z], Value.int IntKind.i64 0, Value.int IntKind.i64 ↑at_, Value.pointer (some { block := hb, off := 2 }), Value.int IntKind.i64 ↑Z, Value.int IntKind.i64 (wrap64 (↑at_ + ↑Z)), Value.int IntKind.i64 0, Value.bool true, Value.bool true, Value.pointer (some { block := hb, off := 1 }), Value.int IntKind.i64 ↑N, Value.int IntKind.i64 ↑end_, Value.int IntKind.i64 (wrap64 (↑at_ + ↑Z)), Value.int IntKind.i64 (wrap64 (↑end_ - ↑fr)), Value.bool true, Value.bool true, f 0, f 1, f 2, f 3, f 4, f 5, f 6, f 7, f 8, f 9, f 10, f 11, f 12, f 13, f 14, f 15, f 16, f 17, f 18, f 19, f 20, f 21, f 22, f 23, f 24, undef, undef, undef, undef, undef, undef, undef, undef, undef, undef, undef, undef, undef, undef, undef, undef, undef, undef, undef, undef, undef, undef, undef, undef, undef, undef, undef, undef, undef, undef, undef, undef, undef, undef, undef, undef, undef, undef, undef, undef, undef, undef, undef, undef, undef, undef, undef, undef, undef, undef, undef, undef, undef, undef, undef, undef, undef, undef, undef, undef, undef, undef, undef, undef], defers := [] } f (fun W => Below w2.heap.size w2 W) (by kernel_rfl) (by kernel_rfl) ?_ _ ?_ (by kernel_rfl) ?_
  · intro i o ho listed b W hsat hdeps hS
    have hi : i < 25 := (Array.getElem?_eq_some_iff.1 ho).1
    match i, hi with
    | 0, _ =>
      obtain rfl := Option.some.inj ho
      have hv : f 0 = .int .i64 2 := by rw [hf]; rfl
      have t12 : b.tmps[12]? = some (.int .i64 2) := (hsat.rest 12 (fun i _ => noDst_of (by kernel_rfl) i)).trans rfl
      rw [hv]
      refine ⟨fun _ => ?_, fun hno => absurd hno (by simp [Region.wanted])⟩
      clear ho hf hdeps hsat
      go_simp
    | 1, _ =>
      obtain rfl := Option.some.inj ho
      have hv : f 1 = .bool false := by rw [hf]; rfl
      have v0 : f 0 = .int .i64 2 := by rw [hf]; rfl
      have t39 : b.tmps[39]? = some (.int .i64 2) := (hsat.done 0 39 (hdeps ⟨0, .data⟩ (by simp) rfl) rfl (by simp)).trans (congrArg some v0)
      rw [hv]
      refine ⟨fun _ => ?_, fun hno => absurd hno (by simp [Region.wanted])⟩
      clear ho hf hdeps hsat
      go_simp
    | 2, _ =>
      obtain rfl := Option.some.inj ho
      have hv : f 2 = .bool false := by rw [hf]; rfl
      have v1 : f 1 = .bool false := by rw [hf]; rfl
      have t40 : b.tmps[40]? = some (.bool false) := (hsat.done 1 40 (hdeps ⟨1, .data⟩ (by simp) rfl) rfl (by simp)).trans (congrArg some v1)
      rw [hv]
      refine ⟨fun _ => ?_, fun hno => absurd hno (by simp [Region.wanted])⟩
      clear ho hf hdeps hsat
      go_simp
    | 3, _ =>
      obtain rfl := Option.some.inj ho
      have hv : f 3 = undef := by rw [hf]; rfl
      rw [hv]
      have vg : f 2 = .bool false := by rw [hf]; rfl
      have tg : b.tmps[41]? = some (.bool false) := (hsat.done 2 41 (hdeps ⟨2, .guard⟩ (by simp) rfl) rfl (by simp)).trans (congrArg some vg)
      exact ⟨fun hyes => absurd hyes (by simp [Region.wanted, yielded, tg]), fun _ => rfl⟩
    | 4, _ =>
      obtain rfl := Option.some.inj ho
      have hv : f 4 = undef := by rw [hf]; rfl
      rw [hv]
      have vg : f 2 = .bool false := by rw [hf]; rfl
      have tg : b.tmps[41]? = some (.bool false) := (hsat.done 2 41 (hdeps ⟨2, .guard⟩ (by simp) rfl) rfl (by simp)).trans (congrArg some vg)
      exact ⟨fun hyes => absurd hyes (by simp [Region.wanted, yielded, tg]), fun _ => rfl⟩
    | 5, _ =>
      obtain rfl := Option.some.inj ho
      have hv : f 5 = undef := by rw [hf]; rfl
      rw [hv]
      have vg : f 2 = .bool false := by rw [hf]; rfl
      have tg : b.tmps[41]? = some (.bool false) := (hsat.done 2 41 (hdeps ⟨2, .guard⟩ (by simp) rfl) rfl (by simp)).trans (congrArg some vg)
      exact ⟨fun hyes => absurd hyes (by simp [Region.wanted, yielded, tg]), fun _ => rfl⟩
    | 6, _ =>
      obtain rfl := Option.some.inj ho
      have hv : f 6 = .bool false := by rw [hf]; rfl
      have v2 : f 2 = .bool false := by rw [hf]; rfl
      have t41 : b.tmps[41]? = some (.bool false) := (hsat.done 2 41 (hdeps ⟨2, .data⟩ (by simp) rfl) rfl (by simp)).trans (congrArg some v2)
      have v5 : f 5 = undef := by rw [hf]; rfl
      have t44 : b.tmps[44]? = some (undef) := (hsat.done 5 44 (hdeps ⟨5, .data⟩ (by simp) rfl) rfl (by simp)).trans (congrArg some v5)
      rw [hv]
      refine ⟨fun _ => ?_, fun hno => absurd hno (by simp [Region.wanted])⟩
      clear ho hf hdeps hsat
      go_simp
    | 7, _ =>
      obtain rfl := Option.some.inj ho
      have hv : f 7 = .bool false := by rw [hf]; rfl
      have v6 : f 6 = .bool false := by rw [hf]; rfl
      have t45 : b.tmps[45]? = some (.bool false) := (hsat.done 6 45 (hdeps ⟨6, .data⟩ (by simp) rfl) rfl (by simp)).trans (congrArg some v6)
      rw [hv]
      refine ⟨fun _ => ?_, fun hno => absurd hno (by simp [Region.wanted])⟩
      clear ho hf hdeps hsat
      go_simp
    | 8, _ =>
      obtain rfl := Option.some.inj ho
      have hv : f 8 = undef := by rw [hf]; rfl
      rw [hv]
      have vg : f 7 = .bool false := by rw [hf]; rfl
      have tg : b.tmps[46]? = some (.bool false) := (hsat.done 7 46 (hdeps ⟨7, .guard⟩ (by simp) rfl) rfl (by simp)).trans (congrArg some vg)
      exact ⟨fun hyes => absurd hyes (by simp [Region.wanted, yielded, tg]), fun _ => rfl⟩
    | 9, _ =>
      obtain rfl := Option.some.inj ho
      have hv : f 9 = undef := by rw [hf]; rfl
      rw [hv]
      have vg : f 7 = .bool false := by rw [hf]; rfl
      have tg : b.tmps[46]? = some (.bool false) := (hsat.done 7 46 (hdeps ⟨7, .guard⟩ (by simp) rfl) rfl (by simp)).trans (congrArg some vg)
      exact ⟨fun hyes => absurd hyes (by simp [Region.wanted, yielded, tg]), fun _ => rfl⟩
    | 10, _ =>
      obtain rfl := Option.some.inj ho
      have hv : f 10 = undef := by rw [hf]; rfl
      rw [hv]
      have vg : f 7 = .bool false := by rw [hf]; rfl
      have tg : b.tmps[46]? = some (.bool false) := (hsat.done 7 46 (hdeps ⟨7, .guard⟩ (by simp) rfl) rfl (by simp)).trans (congrArg some vg)
      exact ⟨fun hyes => absurd hyes (by simp [Region.wanted, yielded, tg]), fun _ => rfl⟩
    | 11, _ =>
      obtain rfl := Option.some.inj ho
      have hv : f 11 = undef := by rw [hf]; rfl
      rw [hv]
      have vg : f 7 = .bool false := by rw [hf]; rfl
      have tg : b.tmps[46]? = some (.bool false) := (hsat.done 7 46 (hdeps ⟨7, .guard⟩ (by simp) rfl) rfl (by simp)).trans (congrArg some vg)
      exact ⟨fun hyes => absurd hyes (by simp [Region.wanted, yielded, tg]), fun _ => rfl⟩
    | 12, _ =>
      obtain rfl := Option.some.inj ho
      have hv : f 12 = undef := by rw [hf]; rfl
      rw [hv]
      have vg : f 7 = .bool false := by rw [hf]; rfl
      have tg : b.tmps[46]? = some (.bool false) := (hsat.done 7 46 (hdeps ⟨7, .guard⟩ (by simp) rfl) rfl (by simp)).trans (congrArg some vg)
      exact ⟨fun hyes => absurd hyes (by simp [Region.wanted, yielded, tg]), fun _ => rfl⟩
    | 13, _ =>
      obtain rfl := Option.some.inj ho
      have hv : f 13 = undef := by rw [hf]; rfl
      rw [hv]
      have vg : f 7 = .bool false := by rw [hf]; rfl
      have tg : b.tmps[46]? = some (.bool false) := (hsat.done 7 46 (hdeps ⟨7, .guard⟩ (by simp) rfl) rfl (by simp)).trans (congrArg some vg)
      exact ⟨fun hyes => absurd hyes (by simp [Region.wanted, yielded, tg]), fun _ => rfl⟩
    | 14, _ =>
      obtain rfl := Option.some.inj ho
      have hv : f 14 = undef := by rw [hf]; rfl
      rw [hv]
      have vg : f 7 = .bool false := by rw [hf]; rfl
      have tg : b.tmps[46]? = some (.bool false) := (hsat.done 7 46 (hdeps ⟨7, .guard⟩ (by simp) rfl) rfl (by simp)).trans (congrArg some vg)
      exact ⟨fun hyes => absurd hyes (by simp [Region.wanted, yielded, tg]), fun _ => rfl⟩
    | 15, _ =>
      obtain rfl := Option.some.inj ho
      have hv : f 15 = undef := by rw [hf]; rfl
      rw [hv]
      have vg : f 7 = .bool false := by rw [hf]; rfl
      have tg : b.tmps[46]? = some (.bool false) := (hsat.done 7 46 (hdeps ⟨7, .guard⟩ (by simp) rfl) rfl (by simp)).trans (congrArg some vg)
      exact ⟨fun hyes => absurd hyes (by simp [Region.wanted, yielded, tg]), fun _ => rfl⟩
    | 16, _ =>
      obtain rfl := Option.some.inj ho
      have hv : f 16 = undef := by rw [hf]; rfl
      rw [hv]
      have vg : f 7 = .bool false := by rw [hf]; rfl
      have tg : b.tmps[46]? = some (.bool false) := (hsat.done 7 46 (hdeps ⟨7, .guard⟩ (by simp) rfl) rfl (by simp)).trans (congrArg some vg)
      exact ⟨fun hyes => absurd hyes (by simp [Region.wanted, yielded, tg]), fun _ => rfl⟩
    | 17, _ =>
      obtain rfl := Option.some.inj ho
      have hv : f 17 = undef := by rw [hf]; rfl
      rw [hv]
      have vg : f 7 = .bool false := by rw [hf]; rfl
      have tg : b.tmps[46]? = some (.bool false) := (hsat.done 7 46 (hdeps ⟨7, .guard⟩ (by simp) rfl) rfl (by simp)).trans (congrArg some vg)
      exact ⟨fun hyes => absurd hyes (by simp [Region.wanted, yielded, tg]), fun _ => rfl⟩
    | 18, _ =>
      obtain rfl := Option.some.inj ho
      have hv : f 18 = undef := by rw [hf]; rfl
      rw [hv]
      have vg : f 7 = .bool false := by rw [hf]; rfl
      have tg : b.tmps[46]? = some (.bool false) := (hsat.done 7 46 (hdeps ⟨7, .guard⟩ (by simp) rfl) rfl (by simp)).trans (congrArg some vg)
      exact ⟨fun hyes => absurd hyes (by simp [Region.wanted, yielded, tg]), fun _ => rfl⟩
    | 19, _ =>
      obtain rfl := Option.some.inj ho
      have hv : f 19 = undef := by rw [hf]; rfl
      rw [hv]
      have vg : f 7 = .bool false := by rw [hf]; rfl
      have tg : b.tmps[46]? = some (.bool false) := (hsat.done 7 46 (hdeps ⟨7, .guard⟩ (by simp) rfl) rfl (by simp)).trans (congrArg some vg)
      exact ⟨fun hyes => absurd hyes (by simp [Region.wanted, yielded, tg]), fun _ => rfl⟩
    | 20, _ =>
      obtain rfl := Option.some.inj ho
      have hv : f 20 = undef := by rw [hf]; rfl
      rw [hv]
      have vg : f 7 = .bool false := by rw [hf]; rfl
      have tg : b.tmps[46]? = some (.bool false) := (hsat.done 7 46 (hdeps ⟨7, .guard⟩ (by simp) rfl) rfl (by simp)).trans (congrArg some vg)
      exact ⟨fun hyes => absurd hyes (by simp [Region.wanted, yielded, tg]), fun _ => rfl⟩
    | 21, _ =>
      obtain rfl := Option.some.inj ho
      have hv : f 21 = undef := by rw [hf]; rfl
      rw [hv]
      have vg : f 7 = .bool false := by rw [hf]; rfl
      have tg : b.tmps[46]? = some (.bool false) := (hsat.done 7 46 (hdeps ⟨7, .guard⟩ (by simp) rfl) rfl (by simp)).trans (congrArg some vg)
      exact ⟨fun hyes => absurd hyes (by simp [Region.wanted, yielded, tg]), fun _ => rfl⟩
    | 22, _ =>
      obtain rfl := Option.some.inj ho
      have hv : f 22 = undef := by rw [hf]; rfl
      rw [hv]
      have vg : f 7 = .bool false := by rw [hf]; rfl
      have tg : b.tmps[46]? = some (.bool false) := (hsat.done 7 46 (hdeps ⟨7, .guard⟩ (by simp) rfl) rfl (by simp)).trans (congrArg some vg)
      exact ⟨fun hyes => absurd hyes (by simp [Region.wanted, yielded, tg]), fun _ => rfl⟩
    | 23, _ =>
      obtain rfl := Option.some.inj ho
      have hv : f 23 = undef := by rw [hf]; rfl
      rw [hv]
      have vg : f 7 = .bool false := by rw [hf]; rfl
      have tg : b.tmps[46]? = some (.bool false) := (hsat.done 7 46 (hdeps ⟨7, .guard⟩ (by simp) rfl) rfl (by simp)).trans (congrArg some vg)
      exact ⟨fun hyes => absurd hyes (by simp [Region.wanted, yielded, tg]), fun _ => rfl⟩
    | 24, _ =>
      obtain rfl := Option.some.inj ho
      have hv : f 24 = .bool false := by rw [hf]; rfl
      have v7 : f 7 = .bool false := by rw [hf]; rfl
      have t46 : b.tmps[46]? = some (.bool false) := (hsat.done 7 46 (hdeps ⟨7, .data⟩ (by simp) rfl) rfl (by simp)).trans (congrArg some v7)
      have v23 : f 23 = undef := by rw [hf]; rfl
      have t62 : b.tmps[62]? = some (undef) := (hsat.done 23 62 (hdeps ⟨23, .data⟩ (by simp) rfl) rfl (by simp)).trans (congrArg some v23)
      rw [hv]
      refine ⟨fun _ => ?_, fun hno => absurd hno (by simp [Region.wanted])⟩
      clear ho hf hdeps hsat
      go_simp
  · exact (Below.refl _ _).drew
  · intro W hS
    have hv : f 24 = .bool false := by rw [hf]; rfl
    have A2 : Aside (RdAt w at_ hb l N Z W) := R0.out.step hS
    have r0 := A2.out.r0.1
    have hxb := A2.out.x.1
    have hhb := A2.out.h.1
    obtain ⟨a0, f0⟩ := A2.out.r0.2 0 _ rfl
    obtain ⟨a1, f1⟩ := A2.out.r0.2 1 _ rfl
    obtain ⟨a2, f2⟩ := A2.out.r0.2 2 _ rfl
    obtain ⟨a3, f3⟩ := A2.out.r0.2 3 _ rfl
    obtain ⟨a4, f4⟩ := A2.out.r0.2 4 _ rfl
    obtain ⟨b0, g0⟩ := A2.out.r1.2 0 _ rfl
    obtain ⟨b1, g1⟩ := A2.out.r1.2 1 _ rfl
    obtain ⟨b2, g2⟩ := A2.out.r1.2 2 _ rfl
    obtain ⟨b3, g3⟩ := A2.out.r1.2 3 _ rfl
    obtain ⟨x0, y0⟩ := A2.out.x.2 0 _ rfl
    obtain ⟨x1, y1⟩ := A2.out.x.2 1 _ rfl
    obtain ⟨x2, y2⟩ := A2.out.x.2 2 _ rfl
    obtain ⟨x3, y3⟩ := A2.out.x.2 3 _ rfl
    obtain ⟨x4, y4⟩ := A2.out.x.2 4 _ rfl
    obtain ⟨h0, z0⟩ := A2.out.h.2 0 _ rfl
    obtain ⟨h1, z1⟩ := A2.out.h.2 1 _ rfl
    have n1 : ¬ hb = w.heap.size := by have := A2.out.hb; omega
    have n2 : ¬ hb = w.heap.size + 1 := by have := A2.out.hb; omega
    have n3 : ¬ hb = w.heap.size + 2 := by have := A2.out.hb; omega
    rw [hv]
    clear hS hf hv
    go_wp2
    refine bodyPost_ret (v := .tuple #[zeroR, faultV 2 0 0 at_]) (by simp [results, Tryz.results212, go_sem, a0, a1, a2, a3, a4, b0, b1, b2, b3]) rfl ⟨rfl, ?_⟩
    refine Below.setCell (Below.setCell (Below.setCell (Below.setCell (Below.setCell (Below.setCell (Below.setCell (Below.setCell (Below.setCell A2.out.below ?_ _) ?_ _) ?_ _) ?_ _) ?_ _) ?_ _) ?_ _) ?_ _) ?_ _ <;> (simp only; omega)
end Go.Proofs.YtjiikjpnlgogfaaGreatDoor

namespace Go.Proofs.YtjiikjpnlgogfaaGreatDoor
open Go.RowKit

set_option maxRecDepth 100000 in
set_option maxHeartbeats 12800000 in
theorem rr_form (s : ByteArray) (at_ end_ deep : Nat) (w : World) (N Z fr rm T : Nat) (hfr : wrap64 ((at_ : Int) + (Z : Int)) = (fr : Int)) (hrm : wrap64 ((end_ : Int) - (fr : Int)) = (rm : Int)) (hN : (N : Int) ≤ (rm : Int)) (cut cut2 tc : ByteArray) (hT : IntKind.i64.wrap ((fr : Int) + (N : Int)) = (T : Int)) (hI : (fr : Int) ≤ (T : Int) ∧ (T : Int) ≤ (s.size : Int) ∧ (at_ : Int) ≤ (T : Int)) (hx : s.extract fr T = cut) (hx2 : s.extract at_ T = cut2) (hne : (tc.toList == cut2.toList) = false)
    (hH : ∀ W, Calls Tryz.prog 231 #[.string s, .int .i64 (at_ : Int), .int .i64 (end_ : Int)] W fun e w' => e = .returned (hdV false N Z 0) ∧ Below W.heap.size W w')
    (hC : ∀ W, Calls Tryz.prog 174 #[.string cut] W fun e w' => e = .returned (.string tc) ∧ Below W.heap.size W w') :
    Calls Tryz.prog 212 #[.string s, .int .i64 (at_ : Int), .int .i64 (end_ : Int), .int .i64 (deep : Int)] w (LookSaid (.tuple #[zeroR, faultV 3 0 0 at_]) w) := by
  have HH := Hid.hide hH
  have HC := Hid.hide hC
  have HT := Hid.hide hT
  have HI := Hid.hide hI
  have HX := Hid.hide hx
  have HX2 := Hid.hide hx2
  have HNE := Hid.hide hne
  clear hH hC hT hI hx hx2 hne
  go_enter Tryz.func212, Tryz.ntmps212
  go_wp2_with fail
  refine (HH.out _).mono ?_
  rintro e w1 ⟨rfl, hb1⟩
  have R1 := RdAt.start (l := false) (N := N) (Z := Z) hb1
  clear hb1
  go_wp2_with fail
  refine wp_region_any (by kernel_rfl) ?_
  change wpAny _ _ _ _ _ _ _ (World.drew _)
  obtain ⟨hb, hhb⟩ : ∃ hb, w1.heap.size = hb := ⟨_, rfl⟩
  generalize w1.alloc (.cells #[.bool false, .int .i64 (N : Int), .int .i64 (Z : Int)] 374) = w2 at R1 ⊢
  rw [hhb] at R1 ⊢
  have R0 := Hid.hide R1
  clear R1 hhb
  rw [hfr]
  obtain ⟨f, hf⟩ : ∃ f : Nat → Value, f = fun i => ([.int .i64 0, .bool true, .bool true, .pointer (some ⟨hb, 0, none⟩), .bool false, .bool true, .bool true, .bool true, .string s, .int .i64 (fr : Int), .int .i64 (fr : Int), .pointer (some ⟨hb, 1, none⟩), .int .i64 (N : Int), .int .i64 (T : Int), .string cut, .string tc, .string s, .int .i64 (at_ : Int), .int .i64 (fr : Int), .pointer (some ⟨hb, 1, none⟩), .int .i64 (N : Int), .int .i64 (T : Int), .string cut2, .bool true, .bool true] : List Value).getD i undef := ⟨_, rfl⟩
  refine wpAny_all_steadyG _ { tmps := #[Value.string s, Value.int IntKind.i64 ↑at_, Value.int IntKind.i64 ↑end_, Value.int IntKind.i64 ↑deep, undef, undef, undef, undef, Value.pointer (some { block := w.heap.size, off := 0 }), Value.pointer (some { block := w.heap.size + 1, off := 0 }), Value.pointer (some { block := w.heap.size + 1 + 1, off := 0 }), Value.pointer (some { block := hb, off := 0 }), Value.int IntKind.i64 0, Value.int IntKind.i64 ↑fr, undef, undef, Value.int IntKind.i64 ↑at_, Value.agg #[Value.bool false, Value.string { data := #[] }, Value.slice none 0 0, Value.int IntKind.i64 ↑at_, Value.int IntKind.i64 0], hdV false N Z 0, Value.string s, Value.int IntKind.i64 ↑at_, Value.int IntKind.i64 ↑end_, hdV false N Z 0, Value.agg #[Value.bool false, Value.int IntKind.i64 ↑N, Value.int IntKind.i64 ↑Z], Value.int IntKind.i64 0, Value.int IntKind.i64 ↑at_, Value.pointer (some { block := hb, off := 2 }), Value.int IntKind.i64 ↑Z, Value.int IntKind.i64 ↑fr, Value.int IntKind.i64 0, Value.bool true, Value.bool true, Value.pointer (some { block := hb, off := 1 }), Value.int IntKind.i64 ↑N, Value.int IntKind.i64 ↑end_, Value.int IntKind.i64 ↑fr, Value.int IntKind.i64 (wrap64 (↑end_ - ↑fr)), Value.bool (decide (rm < N)), Value.bool (decide (rm < N)), f 0, f 1, f 2, f 3, f 4, f 5, f 6, f 7, f 8, f 9, f 10, f 11, f 12, f 13, f 14, f 15, f 16, f 17, f 18, f 19, f 20, f 21, f 22, f 23, f 24, undef, undef, undef, undef, undef, undef, undef, undef, undef, undef, undef, undef, undef, undef, undef, undef, undef, undef, undef, undef, undef, undef, undef, undef, undef, undef, undef, undef, undef, undef, undef, undef, undef, undef, undef, undef, undef, undef, undef, undef, undef, undef, undef, undef, undef, undef, undef, undef, undef, undef, undef, undef, undef, undef, undef, undef, undef, undef, undef, undef, undef, undef, undef, undef], defers := [] } f (fun W => Below w2.heap.size w2 W) (by kernel_rfl) (by kernel_rfl) ?_ _ ?_ (by kernel_rfl) ?_
  · intro i o ho listed b W hsat hdeps hS
    have hi : i < 25 := (Array.getElem?_eq_some_iff.1 ho).1
    match i, hi with
    | 0, _ =>
      obtain rfl := Option.some.inj ho
      have hv : f 0 = .int .i64 0 := by rw [hf]; rfl
      have t12 : b.tmps[12]? = some (.int .i64 0) := (hsat.rest 12 (fun i _ => noDst_of (by kernel_rfl) i)).trans rfl
      rw [hv]
      refine ⟨fun _ => ?_, fun hno => absurd hno (by simp [Region.wanted])⟩
      clear ho hf hdeps hsat
      go_simp
    | 1, _ =>
      obtain rfl := Option.some.inj ho
      have hv : f 1 = .bool true := by rw [hf]; rfl
      have v0 : f 0 = .int .i64 0 := by rw [hf]; rfl
      have t39 : b.tmps[39]? = some (.int .i64 0) := (hsat.done 0 39 (hdeps ⟨0, .data⟩ (by simp) rfl) rfl (by simp)).trans (congrArg some v0)
      rw [hv]
      refine ⟨fun _ => ?_, fun hno => absurd hno (by simp [Region.wanted])⟩
      clear ho hf hdeps hsat
      go_simp
    | 2, _ =>
      obtain rfl := Option.some.inj ho
      have hv : f 2 = .bool true := by rw [hf]; rfl
      have v1 : f 1 = .bool true := by rw [hf]; rfl
      have t40 : b.tmps[40]? = some (.bool true) := (hsat.done 1 40 (hdeps ⟨1, .data⟩ (by simp) rfl) rfl (by simp)).trans (congrArg some v1)
      rw [hv]
      refine ⟨fun _ => ?_, fun hno => absurd hno (by simp [Region.wanted])⟩
      clear ho hf hdeps hsat
      go_simp
    | 3, _ =>
      obtain rfl := Option.some.inj ho
      have hv : f 3 = .pointer (some ⟨hb, 0, none⟩) := by rw [hf]; rfl
      have t11 : b.tmps[11]? = some (.pointer (some ⟨hb, 0, none⟩)) := (hsat.rest 11 (fun i _ => noDst_of (by kernel_rfl) i)).trans rfl
      rw [hv]
      have vg : f 2 = .bool true := by rw [hf]; rfl
      have tg : b.tmps[41]? = some (.bool true) := (hsat.done 2 41 (hdeps ⟨2, .guard⟩ (by simp) rfl) rfl (by simp)).trans (congrArg some vg)
      refine ⟨fun _ => ?_, fun hno => absurd hno (by simp [Region.wanted, yielded, tg])⟩
      clear ho hf hdeps hsat tg vg
      go_simp
    | 4, _ =>
      obtain rfl := Option.some.inj ho
      have hv : f 4 = .bool false := by rw [hf]; rfl
      have v3 : f 3 = .pointer (some ⟨hb, 0, none⟩) := by rw [hf]; rfl
      have t42 : b.tmps[42]? = some (.pointer (some ⟨hb, 0, none⟩)) := (hsat.done 3 42 (hdeps ⟨3, .data⟩ (by simp) rfl) rfl (by simp)).trans (congrArg some v3)
      rw [hv]
      have vg : f 2 = .bool true := by rw [hf]; rfl
      have tg : b.tmps[41]? = some (.bool true) := (hsat.done 2 41 (hdeps ⟨2, .guard⟩ (by simp) rfl) rfl (by simp)).trans (congrArg some vg)
      refine ⟨fun _ => ?_, fun hno => absurd hno (by simp [Region.wanted, yielded, tg])⟩
      clear ho hf hdeps hsat tg vg
      have c0 := (hS.cell (p := ⟨hb, 0, none⟩) R0.out.h.1).trans (R0.out.h.2 0 _ rfl).1
      go_simp
    | 5, _ =>
      obtain rfl := Option.some.inj ho
      have hv : f 5 = .bool true := by rw [hf]; rfl
      have v4 : f 4 = .bool false := by rw [hf]; rfl
      have t43 : b.tmps[43]? = some (.bool false) := (hsat.done 4 43 (hdeps ⟨4, .data⟩ (by simp) rfl) rfl (by simp)).trans (congrArg some v4)
      rw [hv]
      have vg : f 2 = .bool true := by rw [hf]; rfl
      have tg : b.tmps[41]? = some (.bool true) := (hsat.done 2 41 (hdeps ⟨2, .guard⟩ (by simp) rfl) rfl (by simp)).trans (congrArg some vg)
      refine ⟨fun _ => ?_, fun hno => absurd hno (by simp [Region.wanted, yielded, tg])⟩
      clear ho hf hdeps hsat tg vg
      go_simp
    | 6, _ =>
      obtain rfl := Option.some.inj ho
      have hv : f 6 = .bool true := by rw [hf]; rfl
      have v2 : f 2 = .bool true := by rw [hf]; rfl
      have t41 : b.tmps[41]? = some (.bool true) := (hsat.done 2 41 (hdeps ⟨2, .data⟩ (by simp) rfl) rfl (by simp)).trans (congrArg some v2)
      have v5 : f 5 = .bool true := by rw [hf]; rfl
      have t44 : b.tmps[44]? = some (.bool true) := (hsat.done 5 44 (hdeps ⟨5, .data⟩ (by simp) rfl) rfl (by simp)).trans (congrArg some v5)
      rw [hv]
      refine ⟨fun _ => ?_, fun hno => absurd hno (by simp [Region.wanted])⟩
      clear ho hf hdeps hsat
      go_simp
    | 7, _ =>
      obtain rfl := Option.some.inj ho
      have hv : f 7 = .bool true := by rw [hf]; rfl
      have v6 : f 6 = .bool true := by rw [hf]; rfl
      have t45 : b.tmps[45]? = some (.bool true) := (hsat.done 6 45 (hdeps ⟨6, .data⟩ (by simp) rfl) rfl (by simp)).trans (congrArg some v6)
      rw [hv]
      refine ⟨fun _ => ?_, fun hno => absurd hno (by simp [Region.wanted])⟩
      clear ho hf hdeps hsat
      go_simp
    | 8, _ =>
      obtain rfl := Option.some.inj ho
      have hv : f 8 = .string s := by rw [hf]; rfl
      have t0 : b.tmps[0]? = some (.string s) := (hsat.rest 0 (fun i _ => noDst_of (by kernel_rfl) i)).trans rfl
      rw [hv]
      have vg : f 7 = .bool true := by rw [hf]; rfl
      have tg : b.tmps[46]? = some (.bool true) := (hsat.done 7 46 (hdeps ⟨7, .guard⟩ (by simp) rfl) rfl (by simp)).trans (congrArg some vg)
      refine ⟨fun _ => ?_, fun hno => absurd hno (by simp [Region.wanted, yielded, tg])⟩
      clear ho hf hdeps hsat tg vg
      go_simp
    | 9, _ =>
      obtain rfl := Option.some.inj ho
      have hv : f 9 = .int .i64 (fr : Int) := by rw [hf]; rfl
      have t13 : b.tmps[13]? = some (.int .i64 (fr : Int)) := (hsat.rest 13 (fun i _ => noDst_of (by kernel_rfl) i)).trans rfl
      rw [hv]
      have vg : f 7 = .bool true := by rw [hf]; rfl
      have tg : b.tmps[46]? = some (.bool true) := (hsat.done 7 46 (hdeps ⟨7, .guard⟩ (by simp) rfl) rfl (by simp)).trans (congrArg some vg)
      refine ⟨fun _ => ?_, fun hno => absurd hno (by simp [Region.wanted, yielded, tg])⟩
      clear ho hf hdeps hsat tg vg
      go_simp
    | 10, _ =>
      obtain rfl := Option.some.inj ho
      have hv : f 10 = .int .i64 (fr : Int) := by rw [hf]; rfl
      have t13 : b.tmps[13]? = some (.int .i64 (fr : Int)) := (hsat.rest 13 (fun i _ => noDst_of (by kernel_rfl) i)).trans rfl
      rw [hv]
      have vg : f 7 = .bool true := by rw [hf]; rfl
      have tg : b.tmps[46]? = some (.bool true) := (hsat.done 7 46 (hdeps ⟨7, .guard⟩ (by simp) rfl) rfl (by simp)).trans (congrArg some vg)
      refine ⟨fun _ => ?_, fun hno => absurd hno (by simp [Region.wanted, yielded, tg])⟩
      clear ho hf hdeps hsat tg vg
      go_simp
    | 11, _ =>
      obtain rfl := Option.some.inj ho
      have hv : f 11 = .pointer (some ⟨hb, 1, none⟩) := by rw [hf]; rfl
      have t11 : b.tmps[11]? = some (.pointer (some ⟨hb, 0, none⟩)) := (hsat.rest 11 (fun i _ => noDst_of (by kernel_rfl) i)).trans rfl
      rw [hv]
      have vg : f 7 = .bool true := by rw [hf]; rfl
      have tg : b.tmps[46]? = some (.bool true) := (hsat.done 7 46 (hdeps ⟨7, .guard⟩ (by simp) rfl) rfl (by simp)).trans (congrArg some vg)
      refine ⟨fun _ => ?_, fun hno => absurd hno (by simp [Region.wanted, yielded, tg])⟩
      clear ho hf hdeps hsat tg vg
      go_simp
    | 12, _ =>
      obtain rfl := Option.some.inj ho
      have hv : f 12 = .int .i64 (N : Int) := by rw [hf]; rfl
      have v11 : f 11 = .pointer (some ⟨hb, 1, none⟩) := by rw [hf]; rfl
      have t50 : b.tmps[50]? = some (.pointer (some ⟨hb, 1, none⟩)) := (hsat.done 11 50 (hdeps ⟨11, .data⟩ (by simp) rfl) rfl (by simp)).trans (congrArg some v11)
      rw [hv]
      have vg : f 7 = .bool true := by rw [hf]; rfl
      have tg : b.tmps[46]? = some (.bool true) := (hsat.done 7 46 (hdeps ⟨7, .guard⟩ (by simp) rfl) rfl (by simp)).trans (congrArg some vg)
      refine ⟨fun _ => ?_, fun hno => absurd hno (by simp [Region.wanted, yielded, tg])⟩
      clear ho hf hdeps hsat tg vg
      have c0 := (hS.cell (p := ⟨hb, 1, none⟩) R0.out.h.1).trans (R0.out.h.2 1 _ rfl).1
      go_simp
    | 13, _ =>
      obtain rfl := Option.some.inj ho
      have hv : f 13 = .int .i64 (T : Int) := by rw [hf]; rfl
      have v10 : f 10 = .int .i64 (fr : Int) := by rw [hf]; rfl
      have t49 : b.tmps[49]? = some (.int .i64 (fr : Int)) := (hsat.done 10 49 (hdeps ⟨10, .data⟩ (by simp) rfl) rfl (by simp)).trans (congrArg some v10)
      have v12 : f 12 = .int .i64 (N : Int) := by rw [hf]; rfl
      have t51 : b.tmps[51]? = some (.int .i64 (N : Int)) := (hsat.done 12 51 (hdeps ⟨12, .data⟩ (by simp) rfl) rfl (by simp)).trans (congrArg some v12)
      rw [hv]
      have vg : f 7 = .bool true := by rw [hf]; rfl
      have tg : b.tmps[46]? = some (.bool true) := (hsat.done 7 46 (hdeps ⟨7, .guard⟩ (by simp) rfl) rfl (by simp)).trans (congrArg some vg)
      refine ⟨fun _ => ?_, fun hno => absurd hno (by simp [Region.wanted, yielded, tg])⟩
      clear ho hf hdeps hsat tg vg
      have hT := HT.out
      go_simp
    | 14, _ =>
      obtain rfl := Option.some.inj ho
      have hv : f 14 = .string cut := by rw [hf]; rfl
      have v8 : f 8 = .string s := by rw [hf]; rfl
      have t47 : b.tmps[47]? = some (.string s) := (hsat.done 8 47 (hdeps ⟨8, .data⟩ (by simp) rfl) rfl (by simp)).trans (congrArg some v8)
      have v9 : f 9 = .int .i64 (fr : Int) := by rw [hf]; rfl
      have t48 : b.tmps[48]? = some (.int .i64 (fr : Int)) := (hsat.done 9 48 (hdeps ⟨9, .data⟩ (by simp) rfl) rfl (by simp)).trans (congrArg some v9)
      have v13 : f 13 = .int .i64 (T : Int) := by rw [hf]; rfl
      have t52 : b.tmps[52]? = some (.int .i64 (T : Int)) := (hsat.done 13 52 (hdeps ⟨13, .data⟩ (by simp) rfl) rfl (by simp)).trans (congrArg some v13)
      rw [hv]
      have vg : f 7 = .bool true := by rw [hf]; rfl
      have tg : b.tmps[46]? = some (.bool true) := (hsat.done 7 46 (hdeps ⟨7, .guard⟩ (by simp) rfl) rfl (by simp)).trans (congrArg some vg)
      refine ⟨fun _ => ?_, fun hno => absurd hno (by simp [Region.wanted, yielded, tg])⟩
      clear ho hf hdeps hsat tg vg
      have hx := HX.out
      have i1 := HI.out.1
      have i2 := HI.out.2.1
      go_simp
    | 15, _ =>
      obtain rfl := Option.some.inj ho
      have hv : f 15 = .string tc := by rw [hf]; rfl
      have v14 : f 14 = .string cut := by rw [hf]; rfl
      have t53 : b.tmps[53]? = some (.string cut) := (hsat.done 14 53 (hdeps ⟨14, .data⟩ (by simp) rfl) rfl (by simp)).trans (congrArg some v14)
      rw [hv]
      have vg : f 7 = .bool true := by rw [hf]; rfl
      have tg : b.tmps[46]? = some (.bool true) := (hsat.done 7 46 (hdeps ⟨7, .guard⟩ (by simp) rfl) rfl (by simp)).trans (congrArg some vg)
      refine ⟨fun _ => ?_, fun hno => absurd hno (by simp [Region.wanted, yielded, tg])⟩
      clear ho hf hdeps hsat tg vg
      go_simp
      go_at_call 174
      refine (HC.out W).mono ?_
      rintro e w1 ⟨rfl, hb1⟩
      exact ⟨rfl, Below.behind hS hb1⟩
    | 16, _ =>
      obtain rfl := Option.some.inj ho
      have hv : f 16 = .string s := by rw [hf]; rfl
      have t0 : b.tmps[0]? = some (.string s) := (hsat.rest 0 (fun i _ => noDst_of (by kernel_rfl) i)).trans rfl
      rw [hv]
      have vg : f 7 = .bool true := by rw [hf]; rfl
      have tg : b.tmps[46]? = some (.bool true) := (hsat.done 7 46 (hdeps ⟨7, .guard⟩ (by simp) rfl) rfl (by simp)).trans (congrArg some vg)
      refine ⟨fun _ => ?_, fun hno => absurd hno (by simp [Region.wanted, yielded, tg])⟩
      clear ho hf hdeps hsat tg vg
      go_simp
    | 17, _ =>
      obtain rfl := Option.some.inj ho
      have hv : f 17 = .int .i64 (at_ : Int) := by rw [hf]; rfl
      have t1 : b.tmps[1]? = some (.int .i64 (at_ : Int)) := (hsat.rest 1 (fun i _ => noDst_of (by kernel_rfl) i)).trans rfl
      rw [hv]
      have vg : f 7 = .bool true := by rw [hf]; rfl
      have tg : b.tmps[46]? = some (.bool true) := (hsat.done 7 46 (hdeps ⟨7, .guard⟩ (by simp) rfl) rfl (by simp)).trans (congrArg some vg)
      refine ⟨fun _ => ?_, fun hno => absurd hno (by simp [Region.wanted, yielded, tg])⟩
      clear ho hf hdeps hsat tg vg
      go_simp
    | 18, _ =>
      obtain rfl := Option.some.inj ho
      have hv : f 18 = .int .i64 (fr : Int) := by rw [hf]; rfl
      have t13 : b.tmps[13]? = some (.int .i64 (fr : Int)) := (hsat.rest 13 (fun i _ => noDst_of (by kernel_rfl) i)).trans rfl
      rw [hv]
      have vg : f 7 = .bool true := by rw [hf]; rfl
      have tg : b.tmps[46]? = some (.bool true) := (hsat.done 7 46 (hdeps ⟨7, .guard⟩ (by simp) rfl) rfl (by simp)).trans (congrArg some vg)
      refine ⟨fun _ => ?_, fun hno => absurd hno (by simp [Region.wanted, yielded, tg])⟩
      clear ho hf hdeps hsat tg vg
      go_simp
    | 19, _ =>
      obtain rfl := Option.some.inj ho
      have hv : f 19 = .pointer (some ⟨hb, 1, none⟩) := by rw [hf]; rfl
      have t11 : b.tmps[11]? = some (.pointer (some ⟨hb, 0, none⟩)) := (hsat.rest 11 (fun i _ => noDst_of (by kernel_rfl) i)).trans rfl
      rw [hv]
      have vg : f 7 = .bool true := by rw [hf]; rfl
      have tg : b.tmps[46]? = some (.bool true) := (hsat.done 7 46 (hdeps ⟨7, .guard⟩ (by simp) rfl) rfl (by simp)).trans (congrArg some vg)
      refine ⟨fun _ => ?_, fun hno => absurd hno (by simp [Region.wanted, yielded, tg])⟩
      clear ho hf hdeps hsat tg vg
      go_simp
    | 20, _ =>
      obtain rfl := Option.some.inj ho
      have hv : f 20 = .int .i64 (N : Int) := by rw [hf]; rfl
      have v19 : f 19 = .pointer (some ⟨hb, 1, none⟩) := by rw [hf]; rfl
      have t58 : b.tmps[58]? = some (.pointer (some ⟨hb, 1, none⟩)) := (hsat.done 19 58 (hdeps ⟨19, .data⟩ (by simp) rfl) rfl (by simp)).trans (congrArg some v19)
      rw [hv]
      have vg : f 7 = .bool true := by rw [hf]; rfl
      have tg : b.tmps[46]? = some (.bool true) := (hsat.done 7 46 (hdeps ⟨7, .guard⟩ (by simp) rfl) rfl (by simp)).trans (congrArg some vg)
      refine ⟨fun _ => ?_, fun hno => absurd hno (by simp [Region.wanted, yielded, tg])⟩
      clear ho hf hdeps hsat tg vg
      have c0 := (hS.cell (p := ⟨hb, 1, none⟩) R0.out.h.1).trans (R0.out.h.2 1 _ rfl).1
      go_simp
    | 21, _ =>
      obtain rfl := Option.some.inj ho
      have hv : f 21 = .int .i64 (T : Int) := by rw [hf]; rfl
      have v18 : f 18 = .int .i64 (fr : Int) := by rw [hf]; rfl
      have t57 : b.tmps[57]? = some (.int .i64 (fr : Int)) := (hsat.done 18 57 (hdeps ⟨18, .data⟩ (by simp) rfl) rfl (by simp)).trans (congrArg some v18)
      have v20 : f 20 = .int .i64 (N : Int) := by rw [hf]; rfl
      have t59 : b.tmps[59]? = some (.int .i64 (N : Int)) := (hsat.done 20 59 (hdeps ⟨20, .data⟩ (by simp) rfl) rfl (by simp)).trans (congrArg some v20)
      rw [hv]
      have vg : f 7 = .bool true := by rw [hf]; rfl
      have tg : b.tmps[46]? = some (.bool true) := (hsat.done 7 46 (hdeps ⟨7, .guard⟩ (by simp) rfl) rfl (by simp)).trans (congrArg some vg)
      refine ⟨fun _ => ?_, fun hno => absurd hno (by simp [Region.wanted, yielded, tg])⟩
      clear ho hf hdeps hsat tg vg
      have hT := HT.out
      go_simp
    | 22, _ =>
      obtain rfl := Option.some.inj ho
      have hv : f 22 = .string cut2 := by rw [hf]; rfl
      have v16 : f 16 = .string s := by rw [hf]; rfl
      have t55 : b.tmps[55]? = some (.string s) := (hsat.done 16 55 (hdeps ⟨16, .data⟩ (by simp) rfl) rfl (by simp)).trans (congrArg some v16)
      have v17 : f 17 = .int .i64 (at_ : Int) := by rw [hf]; rfl
      have t56 : b.tmps[56]? = some (.int .i64 (at_ : Int)) := (hsat.done 17 56 (hdeps ⟨17, .data⟩ (by simp) rfl) rfl (by simp)).trans (congrArg some v17)
      have v21 : f 21 = .int .i64 (T : Int) := by rw [hf]; rfl
      have t60 : b.tmps[60]? = some (.int .i64 (T : Int)) := (hsat.done 21 60 (hdeps ⟨21, .data⟩ (by simp) rfl) rfl (by simp)).trans (congrArg some v21)
      rw [hv]
      have vg : f 7 = .bool true := by rw [hf]; rfl
      have tg : b.tmps[46]? = some (.bool true) := (hsat.done 7 46 (hdeps ⟨7, .guard⟩ (by simp) rfl) rfl (by simp)).trans (congrArg some vg)
      refine ⟨fun _ => ?_, fun hno => absurd hno (by simp [Region.wanted, yielded, tg])⟩
      clear ho hf hdeps hsat tg vg
      have hx := HX2.out
      have i1 := HI.out.2.2
      have i2 := HI.out.2.1
      go_simp
    | 23, _ =>
      obtain rfl := Option.some.inj ho
      have hv : f 23 = .bool true := by rw [hf]; rfl
      have v15 : f 15 = .string tc := by rw [hf]; rfl
      have t54 : b.tmps[54]? = some (.string tc) := (hsat.done 15 54 (hdeps ⟨15, .data⟩ (by simp) rfl) rfl (by simp)).trans (congrArg some v15)
      have v22 : f 22 = .string cut2 := by rw [hf]; rfl
      have t61 : b.tmps[61]? = some (.string cut2) := (hsat.done 22 61 (hdeps ⟨22, .data⟩ (by simp) rfl) rfl (by simp)).trans (congrArg some v22)
      rw [hv]
      have vg : f 7 = .bool true := by rw [hf]; rfl
      have tg : b.tmps[46]? = some (.bool true) := (hsat.done 7 46 (hdeps ⟨7, .guard⟩ (by simp) rfl) rfl (by simp)).trans (congrArg some vg)
      refine ⟨fun _ => ?_, fun hno => absurd hno (by simp [Region.wanted, yielded, tg])⟩
      clear ho hf hdeps hsat tg vg
      have hne := HNE.out
      go_simp
    | 24, _ =>
      obtain rfl := Option.some.inj ho
      have hv : f 24 = .bool true := by rw [hf]; rfl
      have v7 : f 7 = .bool true := by rw [hf]; rfl
      have t46 : b.tmps[46]? = some (.bool true) := (hsat.done 7 46 (hdeps ⟨7, .data⟩ (by simp) rfl) rfl (by simp)).trans (congrArg some v7)
      have v23 : f 23 = .bool true := by rw [hf]; rfl
      have t62 : b.tmps[62]? = some (.bool true) := (hsat.done 23 62 (hdeps ⟨23, .data⟩ (by simp) rfl) rfl (by simp)).trans (congrArg some v23)
      rw [hv]
      refine ⟨fun _ => ?_, fun hno => absurd hno (by simp [Region.wanted])⟩
      clear ho hf hdeps hsat
      go_simp
  · exact (Below.refl _ _).drew
  · intro W hS
    have hv : f 24 = .bool true := by rw [hf]; rfl
    have A2 : Aside (RdAt w at_ hb false N Z W) := R0.out.step hS
    have r0 := A2.out.r0.1
    have hxb := A2.out.x.1
    have hhb := A2.out.h.1
    obtain ⟨a0, f0⟩ := A2.out.r0.2 0 _ rfl
    obtain ⟨a1, f1⟩ := A2.out.r0.2 1 _ rfl
    obtain ⟨a2, f2⟩ := A2.out.r0.2 2 _ rfl
    obtain ⟨a3, f3⟩ := A2.out.r0.2 3 _ rfl
    obtain ⟨a4, f4⟩ := A2.out.r0.2 4 _ rfl
    obtain ⟨b0, g0⟩ := A2.out.r1.2 0 _ rfl
    obtain ⟨b1, g1⟩ := A2.out.r1.2 1 _ rfl
    obtain ⟨b2, g2⟩ := A2.out.r1.2 2 _ rfl
    obtain ⟨b3, g3⟩ := A2.out.r1.2 3 _ rfl
    obtain ⟨x0, y0⟩ := A2.out.x.2 0 _ rfl
    obtain ⟨x1, y1⟩ := A2.out.x.2 1 _ rfl
    obtain ⟨x2, y2⟩ := A2.out.x.2 2 _ rfl
    obtain ⟨x3, y3⟩ := A2.out.x.2 3 _ rfl
    obtain ⟨x4, y4⟩ := A2.out.x.2 4 _ rfl
    obtain ⟨h0, z0⟩ := A2.out.h.2 0 _ rfl
    obtain ⟨h1, z1⟩ := A2.out.h.2 1 _ rfl
    have n1 : ¬ hb = w.heap.size := by have := A2.out.hb; omega
    have n2 : ¬ hb = w.heap.size + 1 := by have := A2.out.hb; omega
    have n3 : ¬ hb = w.heap.size + 2 := by have := A2.out.hb; omega
    rw [hv]
    clear hS hf hv
    go_wp2
    refine bodyPost_ret (v := .tuple #[zeroR, faultV 3 0 0 at_]) (by simp [results, Tryz.results212, go_sem, a0, a1, a2, a3, a4, b0, b1, b2, b3]) rfl ⟨rfl, ?_⟩
    refine Below.setCell (Below.setCell (Below.setCell (Below.setCell (Below.setCell (Below.setCell (Below.setCell (Below.setCell (Below.setCell A2.out.below ?_ _) ?_ _) ?_ _) ?_ _) ?_ _) ?_ _) ?_ _) ?_ _) ?_ _ <;> (simp only; omega)
end Go.Proofs.YtjiikjpnlgogfaaGreatDoor
