/-
  Package twigsref: Read: a list too deep.
  Package twigsref: Read: a text.
  Package twigsref: Read: the items of a list, read so far.
  Package twigsref: Read: a list.
-/
import Derived.Test.YtjiikjpnlgogfaaGreatDoorRdA
namespace Go.Proofs.YtjiikjpnlgogfaaGreatDoor
open Go.RowKit

set_option maxRecDepth 100000 in
set_option maxHeartbeats 12800000 in
theorem rr_deep (s : ByteArray) (at_ end_ deep : Nat) (w : World) (N Z fr rm : Nat) (hfr : wrap64 ((at_ : Int) + (Z : Int)) = (fr : Int)) (hrm : wrap64 ((end_ : Int) - (fr : Int)) = (rm : Int)) (hN : (N : Int) ≤ (rm : Int)) (hd : (6 : Int) ≤ (deep : Int))
    (hH : ∀ W, Calls Tryz.prog 231 #[.string s, .int .i64 (at_ : Int), .int .i64 (end_ : Int)] W fun e w' => e = .returned (hdV true N Z 0) ∧ Below W.heap.size W w') :
    Calls Tryz.prog 212 #[.string s, .int .i64 (at_ : Int), .int .i64 (end_ : Int), .int .i64 (deep : Int)] w (LookSaid (.tuple #[zeroR, faultV 5 0 0 at_]) w) := by
  have HH := Hid.hide hH
  clear hH
  go_enter Tryz.func212, Tryz.ntmps212
  go_wp2_with fail
  refine (HH.out _).mono ?_
  rintro e w1 ⟨rfl, hb1⟩
  have R1 := RdAt.start (l := true) (N := N) (Z := Z) hb1
  clear hb1
  go_wp2_with fail
  refine wp_region_any (by kernel_rfl) ?_
  change wpAny _ _ _ _ _ _ _ (World.drew _)
  obtain ⟨hb, hhb⟩ : ∃ hb, w1.heap.size = hb := ⟨_, rfl⟩
  generalize w1.alloc (.cells #[.bool true, .int .i64 (N : Int), .int .i64 (Z : Int)] 374) = w2 at R1 ⊢
  rw [hhb] at R1 ⊢
  have R0 := Hid.hide R1
  clear R1 hhb
  obtain ⟨f, hf⟩ : ∃ f : Nat → Value, f = fun i => ([.int .i64 0, .bool true, .bool true, .pointer (some ⟨hb, 0, none⟩), .bool true, .bool false, .bool false, .bool false, undef, undef, undef, undef, undef, undef, undef, undef, undef, undef, undef, undef, undef, undef, undef, undef, .bool false] : List Value).getD i undef := ⟨_, rfl⟩
  refine wpAny_all_steadyG _ { tmps := #[Value.string s, Value.int IntKind.i64 ↑at_, Value.int IntKind.i64 ↑end_, Value.int IntKind.i64 ↑deep, undef, undef, undef, undef, Value.pointer (some { block := w.heap.size, off := 0 }), Value.pointer (some { block := w.heap.size + 1, off := 0 }), Value.pointer (some { block := w.heap.size + 1 + 1, off := 0 }), Value.pointer (some { block := hb, off := 0 }), Value.int IntKind.i64 0, Value.int IntKind.i64 (wrap64 (↑at_ + ↑Z)), undef, undef, Value.int IntKind.i64 ↑at_, Value.agg #[Value.bool false, Value.string { data := #[] }, Value.slice none 0 0, Value.int IntKind.i64 ↑at_, Value.int IntKind.i64 0], hdV true N Z 0, Value.string s, Value.int IntKind.i64 ↑at_, Value.int IntKind.i64 ↑end_, hdV true N Z 0, Value.agg #[Value.bool true, Value.int IntKind.i64 ↑N, Value.int IntKind.i64 ↑Z], Value.int IntKind.i64 0, Value.int IntKind.i64 ↑at_, Value.pointer (some { block := hb, off := 2 }), Value.int IntKind.i64 ↑Z, Value.int IntKind.i64 (wrap64 (↑at_ + ↑Z)), Value.int IntKind.i64 0, Value.bool true, Value.bool true, Value.pointer (some { block := hb, off := 1 }), Value.int IntKind.i64 ↑N, Value.int IntKind.i64 ↑end_, Value.int IntKind.i64 (wrap64 (↑at_ + ↑Z)), Value.int IntKind.i64 (wrap64 (↑end_ - ↑fr)), Value.bool (decide (rm < N)), Value.bool (decide (rm < N)), f 0, f 1, f 2, f 3, f 4, f 5, f 6, f 7, f 8, f 9, f 10, f 11, f 12, f 13, f 14, f 15, f 16, f 17, f 18, f 19, f 20, f 21, f 22, f 23, f 24, undef, undef, undef, undef, undef, undef, undef, undef, undef, undef, undef, undef, undef, undef, undef, undef, undef, undef, undef, undef, undef, undef, undef, undef, undef, undef, undef, undef, undef, undef, undef, undef, undef, undef, undef, undef, undef, undef, undef, undef, undef, undef, undef, undef, undef, undef, undef, undef, undef, undef, undef, undef, undef, undef, undef, undef, undef, undef, undef, undef, undef, undef, undef, undef], defers := [] } f (fun W => Below w2.heap.size w2 W) (by kernel_rfl) (by kernel_rfl) ?_ _ ?_ (by kernel_rfl) ?_
  · intro i o ho listed b W hsat hdeps hS
    have hi : i < 25 := (Array.getElem?_eq_some_iff.1 ho).1
    match i, hi with
    | 0, _ =>
      obtain rfl := Option.some.inj ho
      have hv : f 0 = .int .i64 0 := by rw [hf]; rfl
      have t12 : b.tmps[12]? = some (.int .i64 0) := (hsat.rest 12 (fun i _ => noDst_of (by kernel_rfl) i)).trans rfl
      rw [hv]
      refine ⟨fun _ => ?_, fun hno => absurd hno (by simp [Region.wanted])⟩
      clear ho hf hdeps hsat
      go_simp
    | 1, _ =>
      obtain rfl := Option.some.inj ho
      have hv : f 1 = .bool true := by rw [hf]; rfl
      have v0 : f 0 = .int .i64 0 := by rw [hf]; rfl
      have t39 : b.tmps[39]? = some (.int .i64 0) := (hsat.done 0 39 (hdeps ⟨0, .data⟩ (by simp) rfl) rfl (by simp)).trans (congrArg some v0)
      rw [hv]
      refine ⟨fun _ => ?_, fun hno => absurd hno (by simp [Region.wanted])⟩
      clear ho hf hdeps hsat
      go_simp
    | 2, _ =>
      obtain rfl := Option.some.inj ho
      have hv : f 2 = .bool true := by rw [hf]; rfl
      have v1 : f 1 = .bool true := by rw [hf]; rfl
      have t40 : b.tmps[40]? = some (.bool true) := (hsat.done 1 40 (hdeps ⟨1, .data⟩ (by simp) rfl) rfl (by simp)).trans (congrArg some v1)
      rw [hv]
      refine ⟨fun _ => ?_, fun hno => absurd hno (by simp [Region.wanted])⟩
      clear ho hf hdeps hsat
      go_simp
    | 3, _ =>
      obtain rfl := Option.some.inj ho
      have hv : f 3 = .pointer (some ⟨hb, 0, none⟩) := by rw [hf]; rfl
      have t11 : b.tmps[11]? = some (.pointer (some ⟨hb, 0, none⟩)) := (hsat.rest 11 (fun i _ => noDst_of (by kernel_rfl) i)).trans rfl
      rw [hv]
      have vg : f 2 = .bool true := by rw [hf]; rfl
      have tg : b.tmps[41]? = some (.bool true) := (hsat.done 2 41 (hdeps ⟨2, .guard⟩ (by simp) rfl) rfl (by simp)).trans (congrArg some vg)
      refine ⟨fun _ => ?_, fun hno => absurd hno (by simp [Region.wanted, yielded, tg])⟩
      clear ho hf hdeps hsat tg vg
      go_simp
    | 4, _ =>
      obtain rfl := Option.some.inj ho
      have hv : f 4 = .bool true := by rw [hf]; rfl
      have v3 : f 3 = .pointer (some ⟨hb, 0, none⟩) := by rw [hf]; rfl
      have t42 : b.tmps[42]? = some (.pointer (some ⟨hb, 0, none⟩)) := (hsat.done 3 42 (hdeps ⟨3, .data⟩ (by simp) rfl) rfl (by simp)).trans (congrArg some v3)
      rw [hv]
      have vg : f 2 = .bool true := by rw [hf]; rfl
      have tg : b.tmps[41]? = some (.bool true) := (hsat.done 2 41 (hdeps ⟨2, .guard⟩ (by simp) rfl) rfl (by simp)).trans (congrArg some vg)
      refine ⟨fun _ => ?_, fun hno => absurd hno (by simp [Region.wanted, yielded, tg])⟩
      clear ho hf hdeps hsat tg vg
      have c0 := (hS.cell (p := ⟨hb, 0, none⟩) R0.out.h.1).trans (R0.out.h.2 0 _ rfl).1
      go_simp
    | 5, _ =>
      obtain rfl := Option.some.inj ho
      have hv : f 5 = .bool false := by rw [hf]; rfl
      have v4 : f 4 = .bool true := by rw [hf]; rfl
      have t43 : b.tmps[43]? = some (.bool true) := (hsat.done 4 43 (hdeps ⟨4, .data⟩ (by simp) rfl) rfl (by simp)).trans (congrArg some v4)
      rw [hv]
      have vg : f 2 = .bool true := by rw [hf]; rfl
      have tg : b.tmps[41]? = some (.bool true) := (hsat.done 2 41 (hdeps ⟨2, .guard⟩ (by simp) rfl) rfl (by simp)).trans (congrArg some vg)
      refine ⟨fun _ => ?_, fun hno => absurd hno (by simp [Region.wanted, yielded, tg])⟩
      clear ho hf hdeps hsat tg vg
      go_simp
    | 6, _ =>
      obtain rfl := Option.some.inj ho
      have hv : f 6 = .bool false := by rw [hf]; rfl
      have v2 : f 2 = .bool true := by rw [hf]; rfl
      have t41 : b.tmps[41]? = some (.bool true) := (hsat.done 2 41 (hdeps ⟨2, .data⟩ (by simp) rfl) rfl (by simp)).trans (congrArg some v2)
      have v5 : f 5 = .bool false := by rw [hf]; rfl
      have t44 : b.tmps[44]? = some (.bool false) := (hsat.done 5 44 (hdeps ⟨5, .data⟩ (by simp) rfl) rfl (by simp)).trans (congrArg some v5)
      rw [hv]
      refine ⟨fun _ => ?_, fun hno => absurd hno (by simp [Region.wanted])⟩
      clear ho hf hdeps hsat
      go_simp
    | 7, _ =>
      obtain rfl := Option.some.inj ho
      have hv : f 7 = .bool false := by rw [hf]; rfl
      have v6 : f 6 = .bool false := by rw [hf]; rfl
      have t45 : b.tmps[45]? = some (.bool false) := (hsat.done 6 45 (hdeps ⟨6, .data⟩ (by simp) rfl) rfl (by simp)).trans (congrArg some v6)
      rw [hv]
      refine ⟨fun _ => ?_, fun hno => absurd hno (by simp [Region.wanted])⟩
      clear ho hf hdeps hsat
      go_simp
    | 8, _ =>
      obtain rfl := Option.some.inj ho
      have hv : f 8 = undef := by rw [hf]; rfl
      rw [hv]
      have vg : f 7 = .bool false := by rw [hf]; rfl
      have tg : b.tmps[46]? = some (.bool false) := (hsat.done 7 46 (hdeps ⟨7, .guard⟩ (by simp) rfl) rfl (by simp)).trans (congrArg some vg)
      exact ⟨fun hyes => absurd hyes (by simp [Region.wanted, yielded, tg]), fun _ => rfl⟩
    | 9, _ =>
      obtain rfl := Option.some.inj ho
      have hv : f 9 = undef := by rw [hf]; rfl
      rw [hv]
      have vg : f 7 = .bool false := by rw [hf]; rfl
      have tg : b.tmps[46]? = some (.bool false) := (hsat.done 7 46 (hdeps ⟨7, .guard⟩ (by simp) rfl) rfl (by simp)).trans (congrArg some vg)
      exact ⟨fun hyes => absurd hyes (by simp [Region.wanted, yielded, tg]), fun _ => rfl⟩
    | 10, _ =>
      obtain rfl := Option.some.inj ho
      have hv : f 10 = undef := by rw [hf]; rfl
      rw [hv]
      have vg : f 7 = .bool false := by rw [hf]; rfl
      have tg : b.tmps[46]? = some (.bool false) := (hsat.done 7 46 (hdeps ⟨7, .guard⟩ (by simp) rfl) rfl (by simp)).trans (congrArg some vg)
      exact ⟨fun hyes => absurd hyes (by simp [Region.wanted, yielded, tg]), fun _ => rfl⟩
    | 11, _ =>
      obtain rfl := Option.some.inj ho
      have hv : f 11 = undef := by rw [hf]; rfl
      rw [hv]
      have vg : f 7 = .bool false := by rw [hf]; rfl
      have tg : b.tmps[46]? = some (.bool false) := (hsat.done 7 46 (hdeps ⟨7, .guard⟩ (by simp) rfl) rfl (by simp)).trans (congrArg some vg)
      exact ⟨fun hyes => absurd hyes (by simp [Region.wanted, yielded, tg]), fun _ => rfl⟩
    | 12, _ =>
      obtain rfl := Option.some.inj ho
      have hv : f 12 = undef := by rw [hf]; rfl
      rw [hv]
      have vg : f 7 = .bool false := by rw [hf]; rfl
      have tg : b.tmps[46]? = some (.bool false) := (hsat.done 7 46 (hdeps ⟨7, .guard⟩ (by simp) rfl) rfl (by simp)).trans (congrArg some vg)
      exact ⟨fun hyes => absurd hyes (by simp [Region.wanted, yielded, tg]), fun _ => rfl⟩
    | 13, _ =>
      obtain rfl := Option.some.inj ho
      have hv : f 13 = undef := by rw [hf]; rfl
      rw [hv]
      have vg : f 7 = .bool false := by rw [hf]; rfl
      have tg : b.tmps[46]? = some (.bool false) := (hsat.done 7 46 (hdeps ⟨7, .guard⟩ (by simp) rfl) rfl (by simp)).trans (congrArg some vg)
      exact ⟨fun hyes => absurd hyes (by simp [Region.wanted, yielded, tg]), fun _ => rfl⟩
    | 14, _ =>
      obtain rfl := Option.some.inj ho
      have hv : f 14 = undef := by rw [hf]; rfl
      rw [hv]
      have vg : f 7 = .bool false := by rw [hf]; rfl
      have tg : b.tmps[46]? = some (.bool false) := (hsat.done 7 46 (hdeps ⟨7, .guard⟩ (by simp) rfl) rfl (by simp)).trans (congrArg some vg)
      exact ⟨fun hyes => absurd hyes (by simp [Region.wanted, yielded, tg]), fun _ => rfl⟩
    | 15, _ =>
      obtain rfl := Option.some.inj ho
      have hv : f 15 = undef := by rw [hf]; rfl
      rw [hv]
      have vg : f 7 = .bool false := by rw [hf]; rfl
      have tg : b.tmps[46]? = some (.bool false) := (hsat.done 7 46 (hdeps ⟨7, .guard⟩ (by simp) rfl) rfl (by simp)).trans (congrArg some vg)
      exact ⟨fun hyes => absurd hyes (by simp [Region.wanted, yielded, tg]), fun _ => rfl⟩
    | 16, _ =>
      obtain rfl := Option.some.inj ho
      have hv : f 16 = undef := by rw [hf]; rfl
      rw [hv]
      have vg : f 7 = .bool false := by rw [hf]; rfl
      have tg : b.tmps[46]? = some (.bool false) := (hsat.done 7 46 (hdeps ⟨7, .guard⟩ (by simp) rfl) rfl (by simp)).trans (congrArg some vg)
      exact ⟨fun hyes => absurd hyes (by simp [Region.wanted, yielded, tg]), fun _ => rfl⟩
    | 17, _ =>
      obtain rfl := Option.some.inj ho
      have hv : f 17 = undef := by rw [hf]; rfl
      rw [hv]
      have vg : f 7 = .bool false := by rw [hf]; rfl
      have tg : b.tmps[46]? = some (.bool false) := (hsat.done 7 46 (hdeps ⟨7, .guard⟩ (by simp) rfl) rfl (by simp)).trans (congrArg some vg)
      exact ⟨fun hyes => absurd hyes (by simp [Region.wanted, yielded, tg]), fun _ => rfl⟩
    | 18, _ =>
      obtain rfl := Option.some.inj ho
      have hv : f 18 = undef := by rw [hf]; rfl
      rw [hv]
      have vg : f 7 = .bool false := by rw [hf]; rfl
      have tg : b.tmps[46]? = some (.bool false) := (hsat.done 7 46 (hdeps ⟨7, .guard⟩ (by simp) rfl) rfl (by simp)).trans (congrArg some vg)
      exact ⟨fun hyes => absurd hyes (by simp [Region.wanted, yielded, tg]), fun _ => rfl⟩
    | 19, _ =>
      obtain rfl := Option.some.inj ho
      have hv : f 19 = undef := by rw [hf]; rfl
      rw [hv]
      have vg : f 7 = .bool false := by rw [hf]; rfl
      have tg : b.tmps[46]? = some (.bool false) := (hsat.done 7 46 (hdeps ⟨7, .guard⟩ (by simp) rfl) rfl (by simp)).trans (congrArg some vg)
      exact ⟨fun hyes => absurd hyes (by simp [Region.wanted, yielded, tg]), fun _ => rfl⟩
    | 20, _ =>
      obtain rfl := Option.some.inj ho
      have hv : f 20 = undef := by rw [hf]; rfl
      rw [hv]
      have vg : f 7 = .bool false := by rw [hf]; rfl
      have tg : b.tmps[46]? = some (.bool false) := (hsat.done 7 46 (hdeps ⟨7, .guard⟩ (by simp) rfl) rfl (by simp)).trans (congrArg some vg)
      exact ⟨fun hyes => absurd hyes (by simp [Region.wanted, yielded, tg]), fun _ => rfl⟩
    | 21, _ =>
      obtain rfl := Option.some.inj ho
      have hv : f 21 = undef := by rw [hf]; rfl
      rw [hv]
      have vg : f 7 = .bool false := by rw [hf]; rfl
      have tg : b.tmps[46]? = some (.bool false) := (hsat.done 7 46 (hdeps ⟨7, .guard⟩ (by simp) rfl) rfl (by simp)).trans (congrArg some vg)
      exact ⟨fun hyes => absurd hyes (by simp [Region.wanted, yielded, tg]), fun _ => rfl⟩
    | 22, _ =>
      obtain rfl := Option.some.inj ho
      have hv : f 22 = undef := by rw [hf]; rfl
      rw [hv]
      have vg : f 7 = .bool false := by rw [hf]; rfl
      have tg : b.tmps[46]? = some (.bool false) := (hsat.done 7 46 (hdeps ⟨7, .guard⟩ (by simp) rfl) rfl (by simp)).trans (congrArg some vg)
      exact ⟨fun hyes => absurd hyes (by simp [Region.wanted, yielded, tg]), fun _ => rfl⟩
    | 23, _ =>
      obtain rfl := Option.some.inj ho
      have hv : f 23 = undef := by rw [hf]; rfl
      rw [hv]
      have vg : f 7 = .bool false := by rw [hf]; rfl
      have tg : b.tmps[46]? = some (.bool false) := (hsat.done 7 46 (hdeps ⟨7, .guard⟩ (by simp) rfl) rfl (by simp)).trans (congrArg some vg)
      exact ⟨fun hyes => absurd hyes (by simp [Region.wanted, yielded, tg]), fun _ => rfl⟩
    | 24, _ =>
      obtain rfl := Option.some.inj ho
      have hv : f 24 = .bool false := by rw [hf]; rfl
      have v7 : f 7 = .bool false := by rw [hf]; rfl
      have t46 : b.tmps[46]? = some (.bool false) := (hsat.done 7 46 (hdeps ⟨7, .data⟩ (by simp) rfl) rfl (by simp)).trans (congrArg some v7)
      have v23 : f 23 = undef := by rw [hf]; rfl
      have t62 : b.tmps[62]? = some (undef) := (hsat.done 23 62 (hdeps ⟨23, .data⟩ (by simp) rfl) rfl (by simp)).trans (congrArg some v23)
      rw [hv]
      refine ⟨fun _ => ?_, fun hno => absurd hno (by simp [Region.wanted])⟩
      clear ho hf hdeps hsat
      go_simp
  · exact (Below.refl _ _).drew
  · intro W hS
    have hv : f 24 = .bool false := by rw [hf]; rfl
    have A2 : Aside (RdAt w at_ hb true N Z W) := R0.out.step hS
    have r0 := A2.out.r0.1
    have hxb := A2.out.x.1
    have hhb := A2.out.h.1
    obtain ⟨a0, f0⟩ := A2.out.r0.2 0 _ rfl
    obtain ⟨a1, f1⟩ := A2.out.r0.2 1 _ rfl
    obtain ⟨a2, f2⟩ := A2.out.r0.2 2 _ rfl
    obtain ⟨a3, f3⟩ := A2.out.r0.2 3 _ rfl
    obtain ⟨a4, f4⟩ := A2.out.r0.2 4 _ rfl
    obtain ⟨b0, g0⟩ := A2.out.r1.2 0 _ rfl
    obtain ⟨b1, g1⟩ := A2.out.r1.2 1 _ rfl
    obtain ⟨b2, g2⟩ := A2.out.r1.2 2 _ rfl
    obtain ⟨b3, g3⟩ := A2.out.r1.2 3 _ rfl
    obtain ⟨x0, y0⟩ := A2.out.x.2 0 _ rfl
    obtain ⟨x1, y1⟩ := A2.out.x.2 1 _ rfl
    obtain ⟨x2, y2⟩ := A2.out.x.2 2 _ rfl
    obtain ⟨x3, y3⟩ := A2.out.x.2 3 _ rfl
    obtain ⟨x4, y4⟩ := A2.out.x.2 4 _ rfl
    obtain ⟨h0, z0⟩ := A2.out.h.2 0 _ rfl
    obtain ⟨h1, z1⟩ := A2.out.h.2 1 _ rfl
    have n1 : ¬ hb = w.heap.size := by have := A2.out.hb; omega
    have n2 : ¬ hb = w.heap.size + 1 := by have := A2.out.hb; omega
    have n3 : ¬ hb = w.heap.size + 2 := by have := A2.out.hb; omega
    rw [hv]
    clear hS hf hv
    go_wp2
    refine bodyPost_ret (v := .tuple #[zeroR, faultV 5 0 0 at_]) (by simp [results, Tryz.results212, go_sem, a0, a1, a2, a3, a4, b0, b1, b2, b3]) rfl ⟨rfl, ?_⟩
    refine Below.setCell (Below.setCell (Below.setCell (Below.setCell (Below.setCell (Below.setCell (Below.setCell (Below.setCell (Below.setCell A2.out.below ?_ _) ?_ _) ?_ _) ?_ _) ?_ _) ?_ _) ?_ _) ?_ _) ?_ _ <;> (simp only; omega)
end Go.Proofs.YtjiikjpnlgogfaaGreatDoor

namespace Go.Proofs.YtjiikjpnlgogfaaGreatDoor
open Go.RowKit

set_option maxRecDepth 100000 in
set_option maxHeartbeats 12800000 in
theorem rr_text (s : ByteArray) (at_ end_ deep : Nat) (w : World) (N Z fr rm T : Nat) (hfr : wrap64 ((at_ : Int) + (Z : Int)) = (fr : Int)) (hrm : wrap64 ((end_ : Int) - (fr : Int)) = (rm : Int)) (hN : (N : Int) ≤ (rm : Int)) (cut cut2 tc : ByteArray) (hT : IntKind.i64.wrap ((fr : Int) + (N : Int)) = (T : Int)) (hI : (fr : Int) ≤ (T : Int) ∧ (T : Int) ≤ (s.size : Int) ∧ (at_ : Int) ≤ (T : Int)) (hx : s.extract fr T = cut) (hx2 : s.extract at_ T = cut2) (hne : (tc.toList == cut2.toList) = true) (hT2 : wrap64 ((fr : Int) + (N : Int)) = (T : Int))
    (hH : ∀ W, Calls Tryz.prog 231 #[.string s, .int .i64 (at_ : Int), .int .i64 (end_ : Int)] W fun e w' => e = .returned (hdV false N Z 0) ∧ Below W.heap.size W w')
    (hC : ∀ W, Calls Tryz.prog 174 #[.string cut] W fun e w' => e = .returned (.string tc) ∧ Below W.heap.size W w') :
    Calls Tryz.prog 212 #[.string s, .int .i64 (at_ : Int), .int .i64 (end_ : Int), .int .i64 (deep : Int)] w (LookSaid (.tuple #[valR ⟨at_, T, false, cut, .slice none 0 0⟩, faultV 0 0 0 0]) w) := by
  have HH := Hid.hide hH
  have HC := Hid.hide hC
  have HT := Hid.hide hT
  have HI := Hid.hide hI
  have HX := Hid.hide hx
  have HX2 := Hid.hide hx2
  have HNE := Hid.hide hne
  clear hH hC hT hI hx hx2 hne
  go_enter Tryz.func212, Tryz.ntmps212
  go_wp2_with fail
  refine (HH.out _).mono ?_
  rintro e w1 ⟨rfl, hb1⟩
  have R1 := RdAt.start (l := false) (N := N) (Z := Z) hb1
  clear hb1
  go_wp2_with fail
  refine wp_region_any (by kernel_rfl) ?_
  change wpAny _ _ _ _ _ _ _ (World.drew _)
  obtain ⟨hb, hhb⟩ : ∃ hb, w1.heap.size = hb := ⟨_, rfl⟩
  generalize w1.alloc (.cells #[.bool false, .int .i64 (N : Int), .int .i64 (Z : Int)] 374) = w2 at R1 ⊢
  rw [hhb] at R1 ⊢
  have R0 := Hid.hide R1
  clear R1 hhb
  rw [hfr]
  obtain ⟨f, hf⟩ : ∃ f : Nat → Value, f = fun i => ([.int .i64 0, .bool true, .bool true, .pointer (some ⟨hb, 0, none⟩), .bool false, .bool true, .bool true, .bool true, .string s, .int .i64 (fr : Int), .int .i64 (fr : Int), .pointer (some ⟨hb, 1, none⟩), .int .i64 (N : Int), .int .i64 (T : Int), .string cut, .string tc, .string s, .int .i64 (at_ : Int), .int .i64 (fr : Int), .pointer (some ⟨hb, 1, none⟩), .int .i64 (N : Int), .int .i64 (T : Int), .string cut2, .bool false, .bool false] : List Value).getD i undef := ⟨_, rfl⟩
  refine wpAny_all_steadyG _ { tmps := #[Value.string s, Value.int IntKind.i64 ↑at_, Value.int IntKind.i64 ↑end_, Value.int IntKind.i64 ↑deep, undef, undef, undef, undef, Value.pointer (some { block := w.heap.size, off := 0 }), Value.pointer (some { block := w.heap.size + 1, off := 0 }), Value.pointer (some { block := w.heap.size + 1 + 1, off := 0 }), Value.pointer (some { block := hb, off := 0 }), Value.int IntKind.i64 0, Value.int IntKind.i64 ↑fr, undef, undef, Value.int IntKind.i64 ↑at_, Value.agg #[Value.bool false, Value.string { data := #[] }, Value.slice none 0 0, Value.int IntKind.i64 ↑at_, Value.int IntKind.i64 0], hdV false N Z 0, Value.string s, Value.int IntKind.i64 ↑at_, Value.int IntKind.i64 ↑end_, hdV false N Z 0, Value.agg #[Value.bool false, Value.int IntKind.i64 ↑N, Value.int IntKind.i64 ↑Z], Value.int IntKind.i64 0, Value.int IntKind.i64 ↑at_, Value.pointer (some { block := hb, off := 2 }), Value.int IntKind.i64 ↑Z, Value.int IntKind.i64 ↑fr, Value.int IntKind.i64 0, Value.bool true, Value.bool true, Value.pointer (some { block := hb, off := 1 }), Value.int IntKind.i64 ↑N, Value.int IntKind.i64 ↑end_, Value.int IntKind.i64 ↑fr, Value.int IntKind.i64 (wrap64 (↑end_ - ↑fr)), Value.bool (decide (rm < N)), Value.bool (decide (rm < N)), f 0, f 1, f 2, f 3, f 4, f 5, f 6, f 7, f 8, f 9, f 10, f 11, f 12, f 13, f 14, f 15, f 16, f 17, f 18, f 19, f 20, f 21, f 22, f 23, f 24, undef, undef, undef, undef, undef, undef, undef, undef, undef, undef, undef, undef, undef, undef, undef, undef, undef, undef, undef, undef, undef, undef, undef, undef, undef, undef, undef, undef, undef, undef, undef, undef, undef, undef, undef, undef, undef, undef, undef, undef, undef, undef, undef, undef, undef, undef, undef, undef, undef, undef, undef, undef, undef, undef, undef, undef, undef, undef, undef, undef, undef, undef, undef, undef], defers := [] } f (fun W => Below w2.heap.size w2 W) (by kernel_rfl) (by kernel_rfl) ?_ _ ?_ (by kernel_rfl) ?_
  · intro i o ho listed b W hsat hdeps hS
    have hi : i < 25 := (Array.getElem?_eq_some_iff.1 ho).1
    match i, hi with
    | 0, _ =>
      obtain rfl := Option.some.inj ho
      have hv : f 0 = .int .i64 0 := by rw [hf]; rfl
      have t12 : b.tmps[12]? = some (.int .i64 0) := (hsat.rest 12 (fun i _ => noDst_of (by kernel_rfl) i)).trans rfl
      rw [hv]
      refine ⟨fun _ => ?_, fun hno => absurd hno (by simp [Region.wanted])⟩
      clear ho hf hdeps hsat
      go_simp
    | 1, _ =>
      obtain rfl := Option.some.inj ho
      have hv : f 1 = .bool true := by rw [hf]; rfl
      have v0 : f 0 = .int .i64 0 := by rw [hf]; rfl
      have t39 : b.tmps[39]? = some (.int .i64 0) := (hsat.done 0 39 (hdeps ⟨0, .data⟩ (by simp) rfl) rfl (by simp)).trans (congrArg some v0)
      rw [hv]
      refine ⟨fun _ => ?_, fun hno => absurd hno (by simp [Region.wanted])⟩
      clear ho hf hdeps hsat
      go_simp
    | 2, _ =>
      obtain rfl := Option.some.inj ho
      have hv : f 2 = .bool true := by rw [hf]; rfl
      have v1 : f 1 = .bool true := by rw [hf]; rfl
      have t40 : b.tmps[40]? = some (.bool true) := (hsat.done 1 40 (hdeps ⟨1, .data⟩ (by simp) rfl) rfl (by simp)).trans (congrArg some v1)
      rw [hv]
      refine ⟨fun _ => ?_, fun hno => absurd hno (by simp [Region.wanted])⟩
      clear ho hf hdeps hsat
      go_simp
    | 3, _ =>
      obtain rfl := Option.some.inj ho
      have hv : f 3 = .pointer (some ⟨hb, 0, none⟩) := by rw [hf]; rfl
      have t11 : b.tmps[11]? = some (.pointer (some ⟨hb, 0, none⟩)) := (hsat.rest 11 (fun i _ => noDst_of (by kernel_rfl) i)).trans rfl
      rw [hv]
      have vg : f 2 = .bool true := by rw [hf]; rfl
      have tg : b.tmps[41]? = some (.bool true) := (hsat.done 2 41 (hdeps ⟨2, .guard⟩ (by simp) rfl) rfl (by simp)).trans (congrArg some vg)
      refine ⟨fun _ => ?_, fun hno => absurd hno (by simp [Region.wanted, yielded, tg])⟩
      clear ho hf hdeps hsat tg vg
      go_simp
    | 4, _ =>
      obtain rfl := Option.some.inj ho
      have hv : f 4 = .bool false := by rw [hf]; rfl
      have v3 : f 3 = .pointer (some ⟨hb, 0, none⟩) := by rw [hf]; rfl
      have t42 : b.tmps[42]? = some (.pointer (some ⟨hb, 0, none⟩)) := (hsat.done 3 42 (hdeps ⟨3, .data⟩ (by simp) rfl) rfl (by simp)).trans (congrArg some v3)
      rw [hv]
      have vg : f 2 = .bool true := by rw [hf]; rfl
      have tg : b.tmps[41]? = some (.bool true) := (hsat.done 2 41 (hdeps ⟨2, .guard⟩ (by simp) rfl) rfl (by simp)).trans (congrArg some vg)
      refine ⟨fun _ => ?_, fun hno => absurd hno (by simp [Region.wanted, yielded, tg])⟩
      clear ho hf hdeps hsat tg vg
      have c0 := (hS.cell (p := ⟨hb, 0, none⟩) R0.out.h.1).trans (R0.out.h.2 0 _ rfl).1
      go_simp
    | 5, _ =>
      obtain rfl := Option.some.inj ho
      have hv : f 5 = .bool true := by rw [hf]; rfl
      have v4 : f 4 = .bool false := by rw [hf]; rfl
      have t43 : b.tmps[43]? = some (.bool false) := (hsat.done 4 43 (hdeps ⟨4, .data⟩ (by simp) rfl) rfl (by simp)).trans (congrArg some v4)
      rw [hv]
      have vg : f 2 = .bool true := by rw [hf]; rfl
      have tg : b.tmps[41]? = some (.bool true) := (hsat.done 2 41 (hdeps ⟨2, .guard⟩ (by simp) rfl) rfl (by simp)).trans (congrArg some vg)
      refine ⟨fun _ => ?_, fun hno => absurd hno (by simp [Region.wanted, yielded, tg])⟩
      clear ho hf hdeps hsat tg vg
      go_simp
    | 6, _ =>
      obtain rfl := Option.some.inj ho
      have hv : f 6 = .bool true := by rw [hf]; rfl
      have v2 : f 2 = .bool true := by rw [hf]; rfl
      have t41 : b.tmps[41]? = some (.bool true) := (hsat.done 2 41 (hdeps ⟨2, .data⟩ (by simp) rfl) rfl (by simp)).trans (congrArg some v2)
      have v5 : f 5 = .bool true := by rw [hf]; rfl
      have t44 : b.tmps[44]? = some (.bool true) := (hsat.done 5 44 (hdeps ⟨5, .data⟩ (by simp) rfl) rfl (by simp)).trans (congrArg some v5)
      rw [hv]
      refine ⟨fun _ => ?_, fun hno => absurd hno (by simp [Region.wanted])⟩
      clear ho hf hdeps hsat
      go_simp
    | 7, _ =>
      obtain rfl := Option.some.inj ho
      have hv : f 7 = .bool true := by rw [hf]; rfl
      have v6 : f 6 = .bool true := by rw [hf]; rfl
      have t45 : b.tmps[45]? = some (.bool true) := (hsat.done 6 45 (hdeps ⟨6, .data⟩ (by simp) rfl) rfl (by simp)).trans (congrArg some v6)
      rw [hv]
      refine ⟨fun _ => ?_, fun hno => absurd hno (by simp [Region.wanted])⟩
      clear ho hf hdeps hsat
      go_simp
    | 8, _ =>
      obtain rfl := Option.some.inj ho
      have hv : f 8 = .string s := by rw [hf]; rfl
      have t0 : b.tmps[0]? = some (.string s) := (hsat.rest 0 (fun i _ => noDst_of (by kernel_rfl) i)).trans rfl
      rw [hv]
      have vg : f 7 = .bool true := by rw [hf]; rfl
      have tg : b.tmps[46]? = some (.bool true) := (hsat.done 7 46 (hdeps ⟨7, .guard⟩ (by simp) rfl) rfl (by simp)).trans (congrArg some vg)
      refine ⟨fun _ => ?_, fun hno => absurd hno (by simp [Region.wanted, yielded, tg])⟩
      clear ho hf hdeps hsat tg vg
      go_simp
    | 9, _ =>
      obtain rfl := Option.some.inj ho
      have hv : f 9 = .int .i64 (fr : Int) := by rw [hf]; rfl
      have t13 : b.tmps[13]? = some (.int .i64 (fr : Int)) := (hsat.rest 13 (fun i _ => noDst_of (by kernel_rfl) i)).trans rfl
      rw [hv]
      have vg : f 7 = .bool true := by rw [hf]; rfl
      have tg : b.tmps[46]? = some (.bool true) := (hsat.done 7 46 (hdeps ⟨7, .guard⟩ (by simp) rfl) rfl (by simp)).trans (congrArg some vg)
      refine ⟨fun _ => ?_, fun hno => absurd hno (by simp [Region.wanted, yielded, tg])⟩
      clear ho hf hdeps hsat tg vg
      go_simp
    | 10, _ =>
      obtain rfl := Option.some.inj ho
      have hv : f 10 = .int .i64 (fr : Int) := by rw [hf]; rfl
      have t13 : b.tmps[13]? = some (.int .i64 (fr : Int)) := (hsat.rest 13 (fun i _ => noDst_of (by kernel_rfl) i)).trans rfl
      rw [hv]
      have vg : f 7 = .bool true := by rw [hf]; rfl
      have tg : b.tmps[46]? = some (.bool true) := (hsat.done 7 46 (hdeps ⟨7, .guard⟩ (by simp) rfl) rfl (by simp)).trans (congrArg some vg)
      refine ⟨fun _ => ?_, fun hno => absurd hno (by simp [Region.wanted, yielded, tg])⟩
      clear ho hf hdeps hsat tg vg
      go_simp
    | 11, _ =>
      obtain rfl := Option.some.inj ho
      have hv : f 11 = .pointer (some ⟨hb, 1, none⟩) := by rw [hf]; rfl
      have t11 : b.tmps[11]? = some (.pointer (some ⟨hb, 0, none⟩)) := (hsat.rest 11 (fun i _ => noDst_of (by kernel_rfl) i)).trans rfl
      rw [hv]
      have vg : f 7 = .bool true := by rw [hf]; rfl
      have tg : b.tmps[46]? = some (.bool true) := (hsat.done 7 46 (hdeps ⟨7, .guard⟩ (by simp) rfl) rfl (by simp)).trans (congrArg some vg)
      refine ⟨fun _ => ?_, fun hno => absurd hno (by simp [Region.wanted, yielded, tg])⟩
      clear ho hf hdeps hsat tg vg
      go_simp
    | 12, _ =>
      obtain rfl := Option.some.inj ho
      have hv : f 12 = .int .i64 (N : Int) := by rw [hf]; rfl
      have v11 : f 11 = .pointer (some ⟨hb, 1, none⟩) := by rw [hf]; rfl
      have t50 : b.tmps[50]? = some (.pointer (some ⟨hb, 1, none⟩)) := (hsat.done 11 50 (hdeps ⟨11, .data⟩ (by simp) rfl) rfl (by simp)).trans (congrArg some v11)
      rw [hv]
      have vg : f 7 = .bool true := by rw [hf]; rfl
      have tg : b.tmps[46]? = some (.bool true) := (hsat.done 7 46 (hdeps ⟨7, .guard⟩ (by simp) rfl) rfl (by simp)).trans (congrArg some vg)
      refine ⟨fun _ => ?_, fun hno => absurd hno (by simp [Region.wanted, yielded, tg])⟩
      clear ho hf hdeps hsat tg vg
      have c0 := (hS.cell (p := ⟨hb, 1, none⟩) R0.out.h.1).trans (R0.out.h.2 1 _ rfl).1
      go_simp
    | 13, _ =>
      obtain rfl := Option.some.inj ho
      have hv : f 13 = .int .i64 (T : Int) := by rw [hf]; rfl
      have v10 : f 10 = .int .i64 (fr : Int) := by rw [hf]; rfl
      have t49 : b.tmps[49]? = some (.int .i64 (fr : Int)) := (hsat.done 10 49 (hdeps ⟨10, .data⟩ (by simp) rfl) rfl (by simp)).trans (congrArg some v10)
      have v12 : f 12 = .int .i64 (N : Int) := by rw [hf]; rfl
      have t51 : b.tmps[51]? = some (.int .i64 (N : Int)) := (hsat.done 12 51 (hdeps ⟨12, .data⟩ (by simp) rfl) rfl (by simp)).trans (congrArg some v12)
      rw [hv]
      have vg : f 7 = .bool true := by rw [hf]; rfl
      have tg : b.tmps[46]? = some (.bool true) := (hsat.done 7 46 (hdeps ⟨7, .guard⟩ (by simp) rfl) rfl (by simp)).trans (congrArg some vg)
      refine ⟨fun _ => ?_, fun hno => absurd hno (by simp [Region.wanted, yielded, tg])⟩
      clear ho hf hdeps hsat tg vg
      have hT := HT.out
      go_simp
    | 14, _ =>
      obtain rfl := Option.some.inj ho
      have hv : f 14 = .string cut := by rw [hf]; rfl
      have v8 : f 8 = .string s := by rw [hf]; rfl
      have t47 : b.tmps[47]? = some (.string s) := (hsat.done 8 47 (hdeps ⟨8, .data⟩ (by simp) rfl) rfl (by simp)).trans (congrArg some v8)
      have v9 : f 9 = .int .i64 (fr : Int) := by rw [hf]; rfl
      have t48 : b.tmps[48]? = some (.int .i64 (fr : Int)) := (hsat.done 9 48 (hdeps ⟨9, .data⟩ (by simp) rfl) rfl (by simp)).trans (congrArg some v9)
      have v13 : f 13 = .int .i64 (T : Int) := by rw [hf]; rfl
      have t52 : b.tmps[52]? = some (.int .i64 (T : Int)) := (hsat.done 13 52 (hdeps ⟨13, .data⟩ (by simp) rfl) rfl (by simp)).trans (congrArg some v13)
      rw [hv]
      have vg : f 7 = .bool true := by rw [hf]; rfl
      have tg : b.tmps[46]? = some (.bool true) := (hsat.done 7 46 (hdeps ⟨7, .guard⟩ (by simp) rfl) rfl (by simp)).trans (congrArg some vg)
      refine ⟨fun _ => ?_, fun hno => absurd hno (by simp [Region.wanted, yielded, tg])⟩
      clear ho hf hdeps hsat tg vg
      have hx := HX.out
      have i1 := HI.out.1
      have i2 := HI.out.2.1
      go_simp
    | 15, _ =>
      obtain rfl := Option.some.inj ho
      have hv : f 15 = .string tc := by rw [hf]; rfl
      have v14 : f 14 = .string cut := by rw [hf]; rfl
      have t53 : b.tmps[53]? = some (.string cut) := (hsat.done 14 53 (hdeps ⟨14, .data⟩ (by simp) rfl) rfl (by simp)).trans (congrArg some v14)
      rw [hv]
      have vg : f 7 = .bool true := by rw [hf]; rfl
      have tg : b.tmps[46]? = some (.bool true) := (hsat.done 7 46 (hdeps ⟨7, .guard⟩ (by simp) rfl) rfl (by simp)).trans (congrArg some vg)
      refine ⟨fun _ => ?_, fun hno => absurd hno (by simp [Region.wanted, yielded, tg])⟩
      clear ho hf hdeps hsat tg vg
      go_simp
      go_at_call 174
      refine (HC.out W).mono ?_
      rintro e w1 ⟨rfl, hb1⟩
      exact ⟨rfl, Below.behind hS hb1⟩
    | 16, _ =>
      obtain rfl := Option.some.inj ho
      have hv : f 16 = .string s := by rw [hf]; rfl
      have t0 : b.tmps[0]? = some (.string s) := (hsat.rest 0 (fun i _ => noDst_of (by kernel_rfl) i)).trans rfl
      rw [hv]
      have vg : f 7 = .bool true := by rw [hf]; rfl
      have tg : b.tmps[46]? = some (.bool true) := (hsat.done 7 46 (hdeps ⟨7, .guard⟩ (by simp) rfl) rfl (by simp)).trans (congrArg some vg)
      refine ⟨fun _ => ?_, fun hno => absurd hno (by simp [Region.wanted, yielded, tg])⟩
      clear ho hf hdeps hsat tg vg
      go_simp
    | 17, _ =>
      obtain rfl := Option.some.inj ho
      have hv : f 17 = .int .i64 (at_ : Int) := by rw [hf]; rfl
      have t1 : b.tmps[1]? = some (.int .i64 (at_ : Int)) := (hsat.rest 1 (fun i _ => noDst_of (by kernel_rfl) i)).trans rfl
      rw [hv]
      have vg : f 7 = .bool true := by rw [hf]; rfl
      have tg : b.tmps[46]? = some (.bool true) := (hsat.done 7 46 (hdeps ⟨7, .guard⟩ (by simp) rfl) rfl (by simp)).trans (congrArg some vg)
      refine ⟨fun _ => ?_, fun hno => absurd hno (by simp [Region.wanted, yielded, tg])⟩
      clear ho hf hdeps hsat tg vg
      go_simp
    | 18, _ =>
      obtain rfl := Option.some.inj ho
      have hv : f 18 = .int .i64 (fr : Int) := by rw [hf]; rfl
      have t13 : b.tmps[13]? = some (.int .i64 (fr : Int)) := (hsat.rest 13 (fun i _ => noDst_of (by kernel_rfl) i)).trans rfl
      rw [hv]
      have vg : f 7 = .bool true := by rw [hf]; rfl
      have tg : b.tmps[46]? = some (.bool true) := (hsat.done 7 46 (hdeps ⟨7, .guard⟩ (by simp) rfl) rfl (by simp)).trans (congrArg some vg)
      refine ⟨fun _ => ?_, fun hno => absurd hno (by simp [Region.wanted, yielded, tg])⟩
      clear ho hf hdeps hsat tg vg
      go_simp
    | 19, _ =>
      obtain rfl := Option.some.inj ho
      have hv : f 19 = .pointer (some ⟨hb, 1, none⟩) := by rw [hf]; rfl
      have t11 : b.tmps[11]? = some (.pointer (some ⟨hb, 0, none⟩)) := (hsat.rest 11 (fun i _ => noDst_of (by kernel_rfl) i)).trans rfl
      rw [hv]
      have vg : f 7 = .bool true := by rw [hf]; rfl
      have tg : b.tmps[46]? = some (.bool true) := (hsat.done 7 46 (hdeps ⟨7, .guard⟩ (by simp) rfl) rfl (by simp)).trans (congrArg some vg)
      refine ⟨fun _ => ?_, fun hno => absurd hno (by simp [Region.wanted, yielded, tg])⟩
      clear ho hf hdeps hsat tg vg
      go_simp
    | 20, _ =>
      obtain rfl := Option.some.inj ho
      have hv : f 20 = .int .i64 (N : Int) := by rw [hf]; rfl
      have v19 : f 19 = .pointer (some ⟨hb, 1, none⟩) := by rw [hf]; rfl
      have t58 : b.tmps[58]? = some (.pointer (some ⟨hb, 1, none⟩)) := (hsat.done 19 58 (hdeps ⟨19, .data⟩ (by simp) rfl) rfl (by simp)).trans (congrArg some v19)
      rw [hv]
      have vg : f 7 = .bool true := by rw [hf]; rfl
      have tg : b.tmps[46]? = some (.bool true) := (hsat.done 7 46 (hdeps ⟨7, .guard⟩ (by simp) rfl) rfl (by simp)).trans (congrArg some vg)
      refine ⟨fun _ => ?_, fun hno => absurd hno (by simp [Region.wanted, yielded, tg])⟩
      clear ho hf hdeps hsat tg vg
      have c0 := (hS.cell (p := ⟨hb, 1, none⟩) R0.out.h.1).trans (R0.out.h.2 1 _ rfl).1
      go_simp
    | 21, _ =>
      obtain rfl := Option.some.inj ho
      have hv : f 21 = .int .i64 (T : Int) := by rw [hf]; rfl
      have v18 : f 18 = .int .i64 (fr : Int) := by rw [hf]; rfl
      have t57 : b.tmps[57]? = some (.int .i64 (fr : Int)) := (hsat.done 18 57 (hdeps ⟨18, .data⟩ (by simp) rfl) rfl (by simp)).trans (congrArg some v18)
      have v20 : f 20 = .int .i64 (N : Int) := by rw [hf]; rfl
      have t59 : b.tmps[59]? = some (.int .i64 (N : Int)) := (hsat.done 20 59 (hdeps ⟨20, .data⟩ (by simp) rfl) rfl (by simp)).trans (congrArg some v20)
      rw [hv]
      have vg : f 7 = .bool true := by rw [hf]; rfl
      have tg : b.tmps[46]? = some (.bool true) := (hsat.done 7 46 (hdeps ⟨7, .guard⟩ (by simp) rfl) rfl (by simp)).trans (congrArg some vg)
      refine ⟨fun _ => ?_, fun hno => absurd hno (by simp [Region.wanted, yielded, tg])⟩
      clear ho hf hdeps hsat tg vg
      have hT := HT.out
      go_simp
    | 22, _ =>
      obtain rfl := Option.some.inj ho
      have hv : f 22 = .string cut2 := by rw [hf]; rfl
      have v16 : f 16 = .string s := by rw [hf]; rfl
      have t55 : b.tmps[55]? = some (.string s) := (hsat.done 16 55 (hdeps ⟨16, .data⟩ (by simp) rfl) rfl (by simp)).trans (congrArg some v16)
      have v17 : f 17 = .int .i64 (at_ : Int) := by rw [hf]; rfl
      have t56 : b.tmps[56]? = some (.int .i64 (at_ : Int)) := (hsat.done 17 56 (hdeps ⟨17, .data⟩ (by simp) rfl) rfl (by simp)).trans (congrArg some v17)
      have v21 : f 21 = .int .i64 (T : Int) := by rw [hf]; rfl
      have t60 : b.tmps[60]? = some (.int .i64 (T : Int)) := (hsat.done 21 60 (hdeps ⟨21, .data⟩ (by simp) rfl) rfl (by simp)).trans (congrArg some v21)
      rw [hv]
      have vg : f 7 = .bool true := by rw [hf]; rfl
      have tg : b.tmps[46]? = some (.bool true) := (hsat.done 7 46 (hdeps ⟨7, .guard⟩ (by simp) rfl) rfl (by simp)).trans (congrArg some vg)
      refine ⟨fun _ => ?_, fun hno => absurd hno (by simp [Region.wanted, yielded, tg])⟩
      clear ho hf hdeps hsat tg vg
      have hx := HX2.out
      have i1 := HI.out.2.2
      have i2 := HI.out.2.1
      go_simp
    | 23, _ =>
      obtain rfl := Option.some.inj ho
      have hv : f 23 = .bool false := by rw [hf]; rfl
      have v15 : f 15 = .string tc := by rw [hf]; rfl
      have t54 : b.tmps[54]? = some (.string tc) := (hsat.done 15 54 (hdeps ⟨15, .data⟩ (by simp) rfl) rfl (by simp)).trans (congrArg some v15)
      have v22 : f 22 = .string cut2 := by rw [hf]; rfl
      have t61 : b.tmps[61]? = some (.string cut2) := (hsat.done 22 61 (hdeps ⟨22, .data⟩ (by simp) rfl) rfl (by simp)).trans (congrArg some v22)
      rw [hv]
      have vg : f 7 = .bool true := by rw [hf]; rfl
      have tg : b.tmps[46]? = some (.bool true) := (hsat.done 7 46 (hdeps ⟨7, .guard⟩ (by simp) rfl) rfl (by simp)).trans (congrArg some vg)
      refine ⟨fun _ => ?_, fun hno => absurd hno (by simp [Region.wanted, yielded, tg])⟩
      clear ho hf hdeps hsat tg vg
      have hne := HNE.out
      go_simp
    | 24, _ =>
      obtain rfl := Option.some.inj ho
      have hv : f 24 = .bool false := by rw [hf]; rfl
      have v7 : f 7 = .bool true := by rw [hf]; rfl
      have t46 : b.tmps[46]? = some (.bool true) := (hsat.done 7 46 (hdeps ⟨7, .data⟩ (by simp) rfl) rfl (by simp)).trans (congrArg some v7)
      have v23 : f 23 = .bool false := by rw [hf]; rfl
      have t62 : b.tmps[62]? = some (.bool false) := (hsat.done 23 62 (hdeps ⟨23, .data⟩ (by simp) rfl) rfl (by simp)).trans (congrArg some v23)
      rw [hv]
      refine ⟨fun _ => ?_, fun hno => absurd hno (by simp [Region.wanted])⟩
      clear ho hf hdeps hsat
      go_simp
  · exact (Below.refl _ _).drew
  · intro W hS
    have hv : f 24 = .bool false := by rw [hf]; rfl
    have A2 : Aside (RdAt w at_ hb false N Z W) := R0.out.step hS
    have r0 := A2.out.r0.1
    have hxb := A2.out.x.1
    have hhb := A2.out.h.1
    obtain ⟨a0, f0⟩ := A2.out.r0.2 0 _ rfl
    obtain ⟨a1, f1⟩ := A2.out.r0.2 1 _ rfl
    obtain ⟨a2, f2⟩ := A2.out.r0.2 2 _ rfl
    obtain ⟨a3, f3⟩ := A2.out.r0.2 3 _ rfl
    obtain ⟨a4, f4⟩ := A2.out.r0.2 4 _ rfl
    obtain ⟨b0, g0⟩ := A2.out.r1.2 0 _ rfl
    obtain ⟨b1, g1⟩ := A2.out.r1.2 1 _ rfl
    obtain ⟨b2, g2⟩ := A2.out.r1.2 2 _ rfl
    obtain ⟨b3, g3⟩ := A2.out.r1.2 3 _ rfl
    obtain ⟨x0, y0⟩ := A2.out.x.2 0 _ rfl
    obtain ⟨x1, y1⟩ := A2.out.x.2 1 _ rfl
    obtain ⟨x2, y2⟩ := A2.out.x.2 2 _ rfl
    obtain ⟨x3, y3⟩ := A2.out.x.2 3 _ rfl
    obtain ⟨x4, y4⟩ := A2.out.x.2 4 _ rfl
    obtain ⟨h0, z0⟩ := A2.out.h.2 0 _ rfl
    obtain ⟨h1, z1⟩ := A2.out.h.2 1 _ rfl
    have n1 : ¬ hb = w.heap.size := by have := A2.out.hb; omega
    have n2 : ¬ hb = w.heap.size + 1 := by have := A2.out.hb; omega
    have n3 : ¬ hb = w.heap.size + 2 := by have := A2.out.hb; omega
    have hx := HX.out
    have i1 := HI.out.1
    have i2 := HI.out.2.1
    rw [hv]
    clear hS hf hv
    go_wp2
    refine bodyPost_ret (v := .tuple #[valR ⟨at_, T, false, cut, .slice none 0 0⟩, faultV 0 0 0 0]) (by simp [results, Tryz.results212, go_sem, a0, a1, a2, a3, a4, b0, b1, b2, b3]) rfl ⟨rfl, ?_⟩
    repeat' (refine Below.setCell ?_ (by simp only; omega) _)
    exact A2.out.below
end Go.Proofs.YtjiikjpnlgogfaaGreatDoor

namespace Go.Proofs.YtjiikjpnlgogfaaGreatDoor
open Go.RowKit

theorem infoR : (Tryz.prog.info? 288).map (fun i => (i.zero, i.size, i.bytes)) = some (some zeroR, 5, 64) := by kernel_rfl

theorem encR_oneCell (fr to_ : Nat) (l : Bool) (tx : ByteArray) (p : Option Addr) (m c : Nat) : ∀ u ∈ encR ⟨fr, to_, l, tx, .slice p m c⟩, u.oneCell' = true := by
  intro u hu
  simp only [List.mem_cons, List.not_mem_nil, or_false] at hu
  rcases hu with rfl | rfl | rfl | rfl | rfl <;> rfl

/-- What Read answers. -/
def RSaid (d : Nat) (l : List Nat) (at_ : Nat) (W : World) (e : Ending) (w' : World) : Prop :=
  Below W.heap.size W w' ∧ (∀ er, readIt d l at_ = .error er → 0 < er.num ∧ e = .returned (.tuple #[zeroR, faultV er.num 0 0 er.at_])) ∧
    ∀ x, readIt d l at_ = .ok x → ∃ (b : Bool) (tx : ByteArray) (p : Option Addr) (m c : Nat), Tree encR kP d w' (fun k => W.heap.size ≤ k) ⟨at_, x.to, b, tx, .slice p m c⟩ x ∧ e = .returned (.tuple #[valR ⟨at_, x.to, b, tx, .slice p m c⟩, faultV 0 0 0 0])

structure RHalf (d : Nat) (c : ByteArray) (fr x at_ T xb : Nat) (W0 wr : World) (v : Value) (ps : List (El × It)) : Prop where
  only : Only xb W0 wr
  xh : Held wr xb [.bool true, .string ⟨#[]⟩, v, .int .i64 (at_ : Int), .int .i64 (T : Int)]
  own : OwnC wr W0.heap.size 5 v ps.length (ps.flatMap fun p => encR p.1)
  plain : ∀ k, v.ownBlock = some k → Plain wr k
  trees : ∀ p ∈ ps, Tree encR kP d wr (fun k => (W0.heap.size ≤ k ∧ v.ownBlock ≠ some k) ∧ k < wr.heap.size) p.1 p.2
  eqn : itemsF d c fr = ahead (ps.map (·.2)) (itemsF d c x)
  len : ps.length ≤ x - fr

theorem RHalf.nil {d : Nat} {c : ByteArray} {fr at_ T xb : Nat} {W0 : World} (h : Held W0 xb [.bool true, .string ⟨#[]⟩, .slice none 0 0, .int .i64 (at_ : Int), .int .i64 (T : Int)]) : RHalf d c fr fr at_ T xb W0 W0 (.slice none 0 0) [] :=
  ⟨Only.refl _ _, h, OwnC.nil _ _ _, by simp [Value.ownBlock], by simp, by rw [List.map_nil, ahead_nil], by simp⟩

theorem Held.set2 {w : World} {b : Nat} {x y z r s : Value} (h : Held w b [x, y, z, r, s]) (u : Value) : Held (w.setCell ⟨b, 2, none⟩ u) b [x, y, u, r, s] := by
  refine ⟨by simpa using h.1, fun j v hv => ?_⟩
  match j, hv with
  | 0, hv => exact ⟨(World.cell?_setCell_other _ _ _ _ (by simp)).trans (h.2 0 v hv).1, by rw [World.frozen?_setCell]; exact (h.2 0 v hv).2⟩
  | 1, hv => exact ⟨(World.cell?_setCell_other _ _ _ _ (by simp)).trans (h.2 1 v hv).1, by rw [World.frozen?_setCell]; exact (h.2 1 v hv).2⟩
  | 2, hv =>
    cases hv
    exact ⟨World.cell?_setCell_same _ _ _ (h.2 2 _ rfl).1, by rw [World.frozen?_setCell]; exact (h.2 2 _ rfl).2⟩
  | 3, hv => exact ⟨(World.cell?_setCell_other _ _ _ _ (by simp)).trans (h.2 3 v hv).1, by rw [World.frozen?_setCell]; exact (h.2 3 v hv).2⟩
  | 4, hv => exact ⟨(World.cell?_setCell_other _ _ _ _ (by simp)).trans (h.2 4 v hv).1, by rw [World.frozen?_setCell]; exact (h.2 4 v hv).2⟩

theorem RHalf.more {d : Nat} {c : ByteArray} {fr x at_ T xb : Nat} {W0 wr w1 w2 : World} {v v2 : Value} {qs : List (El × It)} {o1 o2 o3 : Obj} {e : El} {y : It}
    (h : RHalf d c fr x at_ T xb W0 wr v qs) (hxb : xb < W0.heap.size) (hb1 : Below wr.heap.size wr w1) (hT : Tree encR kP d w1 (fun k => wr.heap.size ≤ k) e y) (hx : fr ≤ x) (hxs : x < c.size) (hy : readIt d (bytesOf c) x = .ok y)
    (hO : OwnC w2 W0.heap.size 5 v2 (qs.length + 1) ((qs.flatMap fun p => encR p.1) ++ encR e)) (hg : (((w1.alloc o1).alloc o2).alloc o3).grownBy w2 v.ownBlock) (hf : ∀ k, v2.ownBlock = some k → v.ownBlock = some k ∨ (((w1.alloc o1).alloc o2).alloc o3).heap.size ≤ k) (hP : (∀ k, v.ownBlock = some k → Plain (((w1.alloc o1).alloc o2).alloc o3) k) → ∀ k, v2.ownBlock = some k → Plain w2 k) :
    ∃ p m c', v2 = .slice p m c' ∧ w2.cell? ⟨xb, 2, none⟩ = some v ∧ w2.frozen? ⟨xb, 2, none⟩ = false ∧ xb < w2.heap.size ∧ (∀ k j, w1.heap.size ≤ k → k < w1.heap.size + 3 → w2.cell? ⟨k, j, none⟩ = (((w1.alloc o1).alloc o2).alloc o3).cell? ⟨k, j, none⟩) ∧ RHalf d c fr y.to at_ T xb W0 (w2.setCell ⟨xb, 2, none⟩ (.slice p m c')) (.slice p m c') (qs ++ [(e, y)]) := by
  obtain ⟨p, m, c', rfl⟩ := hO.shape
  have hs0 := h.only.size
  have hs1 := hb1.size
  have hs2 := hg.size
  have hto := (readIt_to (Nat.le_of_lt hxs) hy).2.1
  simp only [World.size_alloc] at hs2 hf
  have hv := h.own.block
  have hall : ∀ k, k < w1.heap.size → (((w1.alloc o1).alloc o2).alloc o3).heap[k]? = w1.heap[k]? := fun k hk => (Below.heap_alloc _ _ _ (by simp; omega)).trans ((Below.heap_alloc _ _ _ (by simp; omega)).trans (Below.heap_alloc _ _ _ hk))
  have hblk : ∀ k, k < w1.heap.size → v.ownBlock ≠ some k → w2.heap[k]? = w1.heap[k]? := fun k hk hne => (hg.block k (by simp; omega) (fun e => hne e.symm)).trans (hall k hk)
  have hxo : v.ownBlock ≠ some xb := fun e1 => by have := (hv xb e1).1; omega
  have hxo2 : (Value.slice p m c').ownBlock ≠ some xb := fun e1 => by
    rcases hf xb e1 with e2 | e2
    · exact hxo e2
    · omega
  have hxe : w2.heap[xb]? = wr.heap[xb]? := (hblk xb (by omega) hxo).trans (hb1.block xb (by omega))
  have hset : ∀ k, k ≠ xb → (w2.setCell ⟨xb, 2, none⟩ (.slice p m c')).heap[k]? = w2.heap[k]? := fun k hk => Below.heap_setCell _ _ _ _ hk
  have hX : Held w2 xb [.bool true, .string ⟨#[]⟩, v, .int .i64 (at_ : Int), .int .i64 (T : Int)] := h.xh.keep hxe (by omega)
  refine ⟨p, m, c', rfl, (hX.2 2 _ rfl).1, (hX.2 2 _ rfl).2, by omega, fun k j k1 k2 => ?_, ⟨?_, hX.set2 _, ?_, fun k hk => ?_, fun q hq => ?_, ?_, ?_⟩⟩
  · exact World.cell?_of_block (hg.block k (by simp; omega) (fun e1 => by have := (hv k e1.symm).2; omega))
  · have o := h.only
    exact ⟨(hg.os.trans hb1.os : w2.os = wr.os).trans o.os, (hg.tape.trans hb1.tape : w2.tape = wr.tape).trans o.tape, (hg.output.trans hb1.output : w2.output = wr.output).trans o.output, by simp; omega, fun k hk hne => (hset k hne).trans ((hblk k (by omega) (fun e1 => by have := (hv k e1).1; omega)).trans ((hb1.block k (by omega)).trans (o.block k hk hne)))⟩
  · have := hO.keep (w' := w2.setCell ⟨xb, 2, none⟩ (.slice p m c')) (by simp) (fun k _ hk => hset k (fun e1 => hxo2 (e1 ▸ hk)))
    simpa using this
  · exact (hP (fun k hk => (h.plain k hk).keep (by have hk2 := (hv k hk).2; rw [hall k (by omega), hb1.block k hk2])) k hk).setCell _ _
  · rcases List.mem_append.1 hq with hq | hq
    · refine Tree.keep (fun k hk => ?_) (by simp; omega) (fun k hk hks => (hset k (by have := hk.1.1; omega)).trans ((hblk k (by omega) hk.1.2).trans (hb1.block k hks))) d (h.trees q hq)
      refine ⟨⟨hk.1.1, fun e2 => ?_⟩, by simp; omega⟩
      rcases hf k e2 with e3 | e3
      · exact hk.1.2 e3
      · omega
    · obtain rfl := List.mem_singleton.1 hq
      refine Tree.keep (fun k hk => ?_) (by simp; omega) (fun k hk hks => (hset k (by have := hk.1; omega)).trans (hblk k hks (fun e2 => by have := (hv k e2).2; have := hk.1; omega))) d hT.bound
      have k1 := hk.1
      have k2 := hk.2
      refine ⟨⟨by omega, fun e2 => ?_⟩, by simp; omega⟩
      rcases hf k e2 with e3 | e3
      · have := (hv k e3).2; omega
      · omega
  · rw [h.eqn, itemsF_step hxs hy, ahead_ahead, List.map_append]
    rfl
  · have := h.len
    simp only [List.length_append, List.length_cons, List.length_nil]
    omega
end Go.Proofs.YtjiikjpnlgogfaaGreatDoor

namespace Go.Proofs.YtjiikjpnlgogfaaGreatDoor
open Go.RowKit

set_option maxRecDepth 100000 in
set_option maxHeartbeats 12800000 in
theorem rr_list (d : Nat) (s : ByteArray) (at_ end_ deep : Nat) (w : World) (N Z fr rm T : Nat) (c : ByteArray) (hc : c.size = T) (hT1 : T ≤ 2048) (hft : fr ≤ T) (hfr : wrap64 ((at_ : Int) + (Z : Int)) = (fr : Int)) (hrm : wrap64 ((end_ : Int) - (fr : Int)) = (rm : Int)) (hN : (N : Int) ≤ (rm : Int)) (hd : (deep : Int) < 6) (hT2 : wrap64 ((fr : Int) + (N : Int)) = (T : Int))
    (hH : ∀ W, Calls Tryz.prog 231 #[.string s, .int .i64 (at_ : Int), .int .i64 (end_ : Int)] W fun e w' => e = .returned (hdV true N Z 0) ∧ Below W.heap.size W w')
    (hR : ∀ W x, Below w.heap.size w W → x ≤ T → Calls Tryz.prog 212 #[.string s, .int .i64 (x : Int), .int .i64 (T : Int), .int .i64 ((deep + 1 : Nat) : Int)] W (RSaid d (bytesOf c) x W)) :
    Calls Tryz.prog 212 #[.string s, .int .i64 (at_ : Int), .int .i64 (end_ : Int), .int .i64 (deep : Int)] w fun e w' => Below w.heap.size w w' ∧ (∀ er, itemsF d c fr = .error er → 0 < er.num ∧ e = .returned (.tuple #[zeroR, faultV er.num 0 0 er.at_])) ∧
      ∀ its, itemsF d c fr = .ok its → ∃ (p : Option Addr) (m k : Nat) (ps : List (El × It)), RowAt w' (fun k => w.heap.size ≤ k) (.slice p m k) ps.length (ps.flatMap fun q => encR q.1) ∧ (∀ q ∈ ps, Tree encR kP d w' (fun k => w.heap.size ≤ k) q.1 q.2) ∧ ps.map (·.2) = its ∧ e = .returned (.tuple #[valR ⟨at_, T, true, ⟨#[]⟩, .slice p m k⟩, faultV 0 0 0 0]) := by
  obtain ⟨i0, hi, hz0, hz1, hz2⟩ := info_parts infoR
  have HZ : Hid (c.size = T ∧ T ≤ 2048 ∧ fr ≤ T) := ⟨hc, hT1, hft⟩
  have hNb : decide (rm < N) = false := decide_eq_false (by omega)
  have HDW : Hid (wrap64 ((deep : Int) + 1) = ((deep + 1 : Nat) : Int)) := wrap64_succ deep (by omega)
  have HH := Hid.hide hH
  have HR := Hid.hide hR
  clear hH hR hc hT1 hft
  go_enter Tryz.func212, Tryz.ntmps212
  go_wp2_with fail
  refine (HH.out _).mono ?_
  rintro e w1 ⟨rfl, hb1⟩
  have R1 := RdAt.start (l := true) (N := N) (Z := Z) hb1
  clear hb1
  go_wp2_with fail
  refine wp_region_any (by kernel_rfl) ?_
  change wpAny _ _ _ _ _ _ _ (World.drew _)
  obtain ⟨hb, hhb⟩ : ∃ hb, w1.heap.size = hb := ⟨_, rfl⟩
  generalize w1.alloc (.cells #[.bool true, .int .i64 (N : Int), .int .i64 (Z : Int)] 374) = w2 at R1 ⊢
  rw [hhb] at R1 ⊢
  have R0 := Hid.hide R1
  clear R1 hhb
  rw [hfr]
  obtain ⟨f, hf⟩ : ∃ f : Nat → Value, f = fun i => ([.int .i64 0, .bool true, .bool true, .pointer (some ⟨hb, 0, none⟩), .bool true, .bool false, .bool false, .bool false, undef, undef, undef, undef, undef, undef, undef, undef, undef, undef, undef, undef, undef, undef, undef, undef, .bool false] : List Value).getD i undef := ⟨_, rfl⟩
  refine wpAny_all_steadyG _ { tmps := #[Value.string s, Value.int IntKind.i64 ↑at_, Value.int IntKind.i64 ↑end_, Value.int IntKind.i64 ↑deep, undef, undef, undef, undef, Value.pointer (some { block := w.heap.size, off := 0 }), Value.pointer (some { block := w.heap.size + 1, off := 0 }), Value.pointer (some { block := w.heap.size + 1 + 1, off := 0 }), Value.pointer (some { block := hb, off := 0 }), Value.int IntKind.i64 0, Value.int IntKind.i64 ↑fr, undef, undef, Value.int IntKind.i64 ↑at_, Value.agg #[Value.bool false, Value.string { data := #[] }, Value.slice none 0 0, Value.int IntKind.i64 ↑at_, Value.int IntKind.i64 0], hdV true N Z 0, Value.string s, Value.int IntKind.i64 ↑at_, Value.int IntKind.i64 ↑end_, hdV true N Z 0, Value.agg #[Value.bool true, Value.int IntKind.i64 ↑N, Value.int IntKind.i64 ↑Z], Value.int IntKind.i64 0, Value.int IntKind.i64 ↑at_, Value.pointer (some { block := hb, off := 2 }), Value.int IntKind.i64 ↑Z, Value.int IntKind.i64 ↑fr, Value.int IntKind.i64 0, Value.bool true, Value.bool true, Value.pointer (some { block := hb, off := 1 }), Value.int IntKind.i64 ↑N, Value.int IntKind.i64 ↑end_, Value.int IntKind.i64 ↑fr, Value.int IntKind.i64 (wrap64 (↑end_ - ↑fr)), Value.bool false, Value.bool false, f 0, f 1, f 2, f 3, f 4, f 5, f 6, f 7, f 8, f 9, f 10, f 11, f 12, f 13, f 14, f 15, f 16, f 17, f 18, f 19, f 20, f 21, f 22, f 23, f 24, undef, undef, undef, undef, undef, undef, undef, undef, undef, undef, undef, undef, undef, undef, undef, undef, undef, undef, undef, undef, undef, undef, undef, undef, undef, undef, undef, undef, undef, undef, undef, undef, undef, undef, undef, undef, undef, undef, undef, undef, undef, undef, undef, undef, undef, undef, undef, undef, undef, undef, undef, undef, undef, undef, undef, undef, undef, undef, undef, undef, undef, undef, undef, undef], defers := [] } f (fun W => Below w2.heap.size w2 W) (by kernel_rfl) (by kernel_rfl) ?_ _ ?_ (by kernel_rfl) ?_
  · intro i o ho listed b W hsat hdeps hS
    have hi : i < 25 := (Array.getElem?_eq_some_iff.1 ho).1
    match i, hi with
    | 0, _ =>
      obtain rfl := Option.some.inj ho
      have hv : f 0 = .int .i64 0 := by rw [hf]; rfl
      have t12 : b.tmps[12]? = some (.int .i64 0) := (hsat.rest 12 (fun i _ => noDst_of (by kernel_rfl) i)).trans rfl
      rw [hv]
      refine ⟨fun _ => ?_, fun hno => absurd hno (by simp [Region.wanted])⟩
      clear ho hf hdeps hsat
      go_simp
    | 1, _ =>
      obtain rfl := Option.some.inj ho
      have hv : f 1 = .bool true := by rw [hf]; rfl
      have v0 : f 0 = .int .i64 0 := by rw [hf]; rfl
      have t39 : b.tmps[39]? = some (.int .i64 0) := (hsat.done 0 39 (hdeps ⟨0, .data⟩ (by simp) rfl) rfl (by simp)).trans (congrArg some v0)
      rw [hv]
      refine ⟨fun _ => ?_, fun hno => absurd hno (by simp [Region.wanted])⟩
      clear ho hf hdeps hsat
      go_simp
    | 2, _ =>
      obtain rfl := Option.some.inj ho
      have hv : f 2 = .bool true := by rw [hf]; rfl
      have v1 : f 1 = .bool true := by rw [hf]; rfl
      have t40 : b.tmps[40]? = some (.bool true) := (hsat.done 1 40 (hdeps ⟨1, .data⟩ (by simp) rfl) rfl (by simp)).trans (congrArg some v1)
      rw [hv]
      refine ⟨fun _ => ?_, fun hno => absurd hno (by simp [Region.wanted])⟩
      clear ho hf hdeps hsat
      go_simp
    | 3, _ =>
      obtain rfl := Option.some.inj ho
      have hv : f 3 = .pointer (some ⟨hb, 0, none⟩) := by rw [hf]; rfl
      have t11 : b.tmps[11]? = some (.pointer (some ⟨hb, 0, none⟩)) := (hsat.rest 11 (fun i _ => noDst_of (by kernel_rfl) i)).trans rfl
      rw [hv]
      have vg : f 2 = .bool true := by rw [hf]; rfl
      have tg : b.tmps[41]? = some (.bool true) := (hsat.done 2 41 (hdeps ⟨2, .guard⟩ (by simp) rfl) rfl (by simp)).trans (congrArg some vg)
      refine ⟨fun _ => ?_, fun hno => absurd hno (by simp [Region.wanted, yielded, tg])⟩
      clear ho hf hdeps hsat tg vg
      go_simp
    | 4, _ =>
      obtain rfl := Option.some.inj ho
      have hv : f 4 = .bool true := by rw [hf]; rfl
      have v3 : f 3 = .pointer (some ⟨hb, 0, none⟩) := by rw [hf]; rfl
      have t42 : b.tmps[42]? = some (.pointer (some ⟨hb, 0, none⟩)) := (hsat.done 3 42 (hdeps ⟨3, .data⟩ (by simp) rfl) rfl (by simp)).trans (congrArg some v3)
      rw [hv]
      have vg : f 2 = .bool true := by rw [hf]; rfl
      have tg : b.tmps[41]? = some (.bool true) := (hsat.done 2 41 (hdeps ⟨2, .guard⟩ (by simp) rfl) rfl (by simp)).trans (congrArg some vg)
      refine ⟨fun _ => ?_, fun hno => absurd hno (by simp [Region.wanted, yielded, tg])⟩
      clear ho hf hdeps hsat tg vg
      have c0 := (hS.cell (p := ⟨hb, 0, none⟩) R0.out.h.1).trans (R0.out.h.2 0 _ rfl).1
      go_simp
    | 5, _ =>
      obtain rfl := Option.some.inj ho
      have hv : f 5 = .bool false := by rw [hf]; rfl
      have v4 : f 4 = .bool true := by rw [hf]; rfl
      have t43 : b.tmps[43]? = some (.bool true) := (hsat.done 4 43 (hdeps ⟨4, .data⟩ (by simp) rfl) rfl (by simp)).trans (congrArg some v4)
      rw [hv]
      have vg : f 2 = .bool true := by rw [hf]; rfl
      have tg : b.tmps[41]? = some (.bool true) := (hsat.done 2 41 (hdeps ⟨2, .guard⟩ (by simp) rfl) rfl (by simp)).trans (congrArg some vg)
      refine ⟨fun _ => ?_, fun hno => absurd hno (by simp [Region.wanted, yielded, tg])⟩
      clear ho hf hdeps hsat tg vg
      go_simp
    | 6, _ =>
      obtain rfl := Option.some.inj ho
      have hv : f 6 = .bool false := by rw [hf]; rfl
      have v2 : f 2 = .bool true := by rw [hf]; rfl
      have t41 : b.tmps[41]? = some (.bool true) := (hsat.done 2 41 (hdeps ⟨2, .data⟩ (by simp) rfl) rfl (by simp)).trans (congrArg some v2)
      have v5 : f 5 = .bool false := by rw [hf]; rfl
      have t44 : b.tmps[44]? = some (.bool false) := (hsat.done 5 44 (hdeps ⟨5, .data⟩ (by simp) rfl) rfl (by simp)).trans (congrArg some v5)
      rw [hv]
      refine ⟨fun _ => ?_, fun hno => absurd hno (by simp [Region.wanted])⟩
      clear ho hf hdeps hsat
      go_simp
    | 7, _ =>
      obtain rfl := Option.some.inj ho
      have hv : f 7 = .bool false := by rw [hf]; rfl
      have v6 : f 6 = .bool false := by rw [hf]; rfl
      have t45 : b.tmps[45]? = some (.bool false) := (hsat.done 6 45 (hdeps ⟨6, .data⟩ (by simp) rfl) rfl (by simp)).trans (congrArg some v6)
      rw [hv]
      refine ⟨fun _ => ?_, fun hno => absurd hno (by simp [Region.wanted])⟩
      clear ho hf hdeps hsat
      go_simp
    | 8, _ =>
      obtain rfl := Option.some.inj ho
      have hv : f 8 = undef := by rw [hf]; rfl
      rw [hv]
      have vg : f 7 = .bool false := by rw [hf]; rfl
      have tg : b.tmps[46]? = some (.bool false) := (hsat.done 7 46 (hdeps ⟨7, .guard⟩ (by simp) rfl) rfl (by simp)).trans (congrArg some vg)
      exact ⟨fun hyes => absurd hyes (by simp [Region.wanted, yielded, tg]), fun _ => rfl⟩
    | 9, _ =>
      obtain rfl := Option.some.inj ho
      have hv : f 9 = undef := by rw [hf]; rfl
      rw [hv]
      have vg : f 7 = .bool false := by rw [hf]; rfl
      have tg : b.tmps[46]? = some (.bool false) := (hsat.done 7 46 (hdeps ⟨7, .guard⟩ (by simp) rfl) rfl (by simp)).trans (congrArg some vg)
      exact ⟨fun hyes => absurd hyes (by simp [Region.wanted, yielded, tg]), fun _ => rfl⟩
    | 10, _ =>
      obtain rfl := Option.some.inj ho
      have hv : f 10 = undef := by rw [hf]; rfl
      rw [hv]
      have vg : f 7 = .bool false := by rw [hf]; rfl
      have tg : b.tmps[46]? = some (.bool false) := (hsat.done 7 46 (hdeps ⟨7, .guard⟩ (by simp) rfl) rfl (by simp)).trans (congrArg some vg)
      exact ⟨fun hyes => absurd hyes (by simp [Region.wanted, yielded, tg]), fun _ => rfl⟩
    | 11, _ =>
      obtain rfl := Option.some.inj ho
      have hv : f 11 = undef := by rw [hf]; rfl
      rw [hv]
      have vg : f 7 = .bool false := by rw [hf]; rfl
      have tg : b.tmps[46]? = some (.bool false) := (hsat.done 7 46 (hdeps ⟨7, .guard⟩ (by simp) rfl) rfl (by simp)).trans (congrArg some vg)
      exact ⟨fun hyes => absurd hyes (by simp [Region.wanted, yielded, tg]), fun _ => rfl⟩
    | 12, _ =>
      obtain rfl := Option.some.inj ho
      have hv : f 12 = undef := by rw [hf]; rfl
      rw [hv]
      have vg : f 7 = .bool false := by rw [hf]; rfl
      have tg : b.tmps[46]? = some (.bool false) := (hsat.done 7 46 (hdeps ⟨7, .guard⟩ (by simp) rfl) rfl (by simp)).trans (congrArg some vg)
      exact ⟨fun hyes => absurd hyes (by simp [Region.wanted, yielded, tg]), fun _ => rfl⟩
    | 13, _ =>
      obtain rfl := Option.some.inj ho
      have hv : f 13 = undef := by rw [hf]; rfl
      rw [hv]
      have vg : f 7 = .bool false := by rw [hf]; rfl
      have tg : b.tmps[46]? = some (.bool false) := (hsat.done 7 46 (hdeps ⟨7, .guard⟩ (by simp) rfl) rfl (by simp)).trans (congrArg some vg)
      exact ⟨fun hyes => absurd hyes (by simp [Region.wanted, yielded, tg]), fun _ => rfl⟩
    | 14, _ =>
      obtain rfl := Option.some.inj ho
      have hv : f 14 = undef := by rw [hf]; rfl
      rw [hv]
      have vg : f 7 = .bool false := by rw [hf]; rfl
      have tg : b.tmps[46]? = some (.bool false) := (hsat.done 7 46 (hdeps ⟨7, .guard⟩ (by simp) rfl) rfl (by simp)).trans (congrArg some vg)
      exact ⟨fun hyes => absurd hyes (by simp [Region.wanted, yielded, tg]), fun _ => rfl⟩
    | 15, _ =>
      obtain rfl := Option.some.inj ho
      have hv : f 15 = undef := by rw [hf]; rfl
      rw [hv]
      have vg : f 7 = .bool false := by rw [hf]; rfl
      have tg : b.tmps[46]? = some (.bool false) := (hsat.done 7 46 (hdeps ⟨7, .guard⟩ (by simp) rfl) rfl (by simp)).trans (congrArg some vg)
      exact ⟨fun hyes => absurd hyes (by simp [Region.wanted, yielded, tg]), fun _ => rfl⟩
    | 16, _ =>
      obtain rfl := Option.some.inj ho
      have hv : f 16 = undef := by rw [hf]; rfl
      rw [hv]
      have vg : f 7 = .bool false := by rw [hf]; rfl
      have tg : b.tmps[46]? = some (.bool false) := (hsat.done 7 46 (hdeps ⟨7, .guard⟩ (by simp) rfl) rfl (by simp)).trans (congrArg some vg)
      exact ⟨fun hyes => absurd hyes (by simp [Region.wanted, yielded, tg]), fun _ => rfl⟩
    | 17, _ =>
      obtain rfl := Option.some.inj ho
      have hv : f 17 = undef := by rw [hf]; rfl
      rw [hv]
      have vg : f 7 = .bool false := by rw [hf]; rfl
      have tg : b.tmps[46]? = some (.bool false) := (hsat.done 7 46 (hdeps ⟨7, .guard⟩ (by simp) rfl) rfl (by simp)).trans (congrArg some vg)
      exact ⟨fun hyes => absurd hyes (by simp [Region.wanted, yielded, tg]), fun _ => rfl⟩
    | 18, _ =>
      obtain rfl := Option.some.inj ho
      have hv : f 18 = undef := by rw [hf]; rfl
      rw [hv]
      have vg : f 7 = .bool false := by rw [hf]; rfl
      have tg : b.tmps[46]? = some (.bool false) := (hsat.done 7 46 (hdeps ⟨7, .guard⟩ (by simp) rfl) rfl (by simp)).trans (congrArg some vg)
      exact ⟨fun hyes => absurd hyes (by simp [Region.wanted, yielded, tg]), fun _ => rfl⟩
    | 19, _ =>
      obtain rfl := Option.some.inj ho
      have hv : f 19 = undef := by rw [hf]; rfl
      rw [hv]
      have vg : f 7 = .bool false := by rw [hf]; rfl
      have tg : b.tmps[46]? = some (.bool false) := (hsat.done 7 46 (hdeps ⟨7, .guard⟩ (by simp) rfl) rfl (by simp)).trans (congrArg some vg)
      exact ⟨fun hyes => absurd hyes (by simp [Region.wanted, yielded, tg]), fun _ => rfl⟩
    | 20, _ =>
      obtain rfl := Option.some.inj ho
      have hv : f 20 = undef := by rw [hf]; rfl
      rw [hv]
      have vg : f 7 = .bool false := by rw [hf]; rfl
      have tg : b.tmps[46]? = some (.bool false) := (hsat.done 7 46 (hdeps ⟨7, .guard⟩ (by simp) rfl) rfl (by simp)).trans (congrArg some vg)
      exact ⟨fun hyes => absurd hyes (by simp [Region.wanted, yielded, tg]), fun _ => rfl⟩
    | 21, _ =>
      obtain rfl := Option.some.inj ho
      have hv : f 21 = undef := by rw [hf]; rfl
      rw [hv]
      have vg : f 7 = .bool false := by rw [hf]; rfl
      have tg : b.tmps[46]? = some (.bool false) := (hsat.done 7 46 (hdeps ⟨7, .guard⟩ (by simp) rfl) rfl (by simp)).trans (congrArg some vg)
      exact ⟨fun hyes => absurd hyes (by simp [Region.wanted, yielded, tg]), fun _ => rfl⟩
    | 22, _ =>
      obtain rfl := Option.some.inj ho
      have hv : f 22 = undef := by rw [hf]; rfl
      rw [hv]
      have vg : f 7 = .bool false := by rw [hf]; rfl
      have tg : b.tmps[46]? = some (.bool false) := (hsat.done 7 46 (hdeps ⟨7, .guard⟩ (by simp) rfl) rfl (by simp)).trans (congrArg some vg)
      exact ⟨fun hyes => absurd hyes (by simp [Region.wanted, yielded, tg]), fun _ => rfl⟩
    | 23, _ =>
      obtain rfl := Option.some.inj ho
      have hv : f 23 = undef := by rw [hf]; rfl
      rw [hv]
      have vg : f 7 = .bool false := by rw [hf]; rfl
      have tg : b.tmps[46]? = some (.bool false) := (hsat.done 7 46 (hdeps ⟨7, .guard⟩ (by simp) rfl) rfl (by simp)).trans (congrArg some vg)
      exact ⟨fun hyes => absurd hyes (by simp [Region.wanted, yielded, tg]), fun _ => rfl⟩
    | 24, _ =>
      obtain rfl := Option.some.inj ho
      have hv : f 24 = .bool false := by rw [hf]; rfl
      have v7 : f 7 = .bool false := by rw [hf]; rfl
      have t46 : b.tmps[46]? = some (.bool false) := (hsat.done 7 46 (hdeps ⟨7, .data⟩ (by simp) rfl) rfl (by simp)).trans (congrArg some v7)
      have v23 : f 23 = undef := by rw [hf]; rfl
      have t62 : b.tmps[62]? = some (undef) := (hsat.done 23 62 (hdeps ⟨23, .data⟩ (by simp) rfl) rfl (by simp)).trans (congrArg some v23)
      rw [hv]
      refine ⟨fun _ => ?_, fun hno => absurd hno (by simp [Region.wanted])⟩
      clear ho hf hdeps hsat
      go_simp
  · exact (Below.refl _ _).drew
  · intro W hS
    have hv : f 24 = .bool false := by rw [hf]; rfl
    have A2 : Aside (RdAt w at_ hb true N Z W) := R0.out.step hS
    have r0 := A2.out.r0.1
    have hxb := A2.out.x.1
    have hhb := A2.out.h.1
    obtain ⟨a0, f0⟩ := A2.out.r0.2 0 _ rfl
    obtain ⟨a1, f1⟩ := A2.out.r0.2 1 _ rfl
    obtain ⟨a2, f2⟩ := A2.out.r0.2 2 _ rfl
    obtain ⟨a3, f3⟩ := A2.out.r0.2 3 _ rfl
    obtain ⟨a4, f4⟩ := A2.out.r0.2 4 _ rfl
    obtain ⟨b0, g0⟩ := A2.out.r1.2 0 _ rfl
    obtain ⟨b1, g1⟩ := A2.out.r1.2 1 _ rfl
    obtain ⟨b2, g2⟩ := A2.out.r1.2 2 _ rfl
    obtain ⟨b3, g3⟩ := A2.out.r1.2 3 _ rfl
    obtain ⟨x0, y0⟩ := A2.out.x.2 0 _ rfl
    obtain ⟨x1, y1⟩ := A2.out.x.2 1 _ rfl
    obtain ⟨x2, y2⟩ := A2.out.x.2 2 _ rfl
    obtain ⟨x3, y3⟩ := A2.out.x.2 3 _ rfl
    obtain ⟨x4, y4⟩ := A2.out.x.2 4 _ rfl
    obtain ⟨h0, z0⟩ := A2.out.h.2 0 _ rfl
    obtain ⟨h1, z1⟩ := A2.out.h.2 1 _ rfl
    have n1 : ¬ hb = w.heap.size := by have := A2.out.hb; omega
    have n2 : ¬ hb = w.heap.size + 1 := by have := A2.out.hb; omega
    have n3 : ¬ hb = w.heap.size + 2 := by have := A2.out.hb; omega
    rw [hv]
    clear hS hf hv
    go_wp2
    obtain ⟨W0, hW0⟩ : ∃ W0, W0 = (W.setCell ⟨w.heap.size + 1 + 1, 0, none⟩ (.bool true)).setCell ⟨w.heap.size + 1 + 1, 4, none⟩ (.int .i64 (T : Int)) := ⟨_, rfl⟩
    have hX : Held W0 (w.heap.size + 2) [.bool true, .string ⟨#[]⟩, .slice none 0 0, .int .i64 (at_ : Int), .int .i64 (T : Int)] := by
      rw [hW0]
      refine ⟨by simpa using hxb, fun j v hv => ?_⟩
      match j, hv with
      | 0, hv => cases hv; exact ⟨(World.cell?_setCell_other _ _ _ _ (by simp)).trans (World.cell?_setCell_same _ _ _ x0), by rw [World.frozen?_setCell, World.frozen?_setCell]; exact y0⟩
      | 1, hv => cases hv; exact ⟨(World.cell?_setCell_other _ _ _ _ (by simp)).trans ((World.cell?_setCell_other _ _ _ _ (by simp)).trans x1), by rw [World.frozen?_setCell, World.frozen?_setCell]; exact y1⟩
      | 2, hv => cases hv; exact ⟨(World.cell?_setCell_other _ _ _ _ (by simp)).trans ((World.cell?_setCell_other _ _ _ _ (by simp)).trans x2), by rw [World.frozen?_setCell, World.frozen?_setCell]; exact y2⟩
      | 3, hv => cases hv; exact ⟨(World.cell?_setCell_other _ _ _ _ (by simp)).trans ((World.cell?_setCell_other _ _ _ _ (by simp)).trans x3), by rw [World.frozen?_setCell, World.frozen?_setCell]; exact y3⟩
      | 4, hv => cases hv; exact ⟨World.cell?_setCell_same _ _ _ ((World.cell?_setCell_other _ _ _ _ (by simp)).trans x4), by rw [World.frozen?_setCell, World.frozen?_setCell]; exact y4⟩
    have A3 : Aside (Below w.heap.size w W0 ∧ Held W0 w.heap.size [.bool false, .string ⟨#[]⟩, .slice none 0 0, .int .i64 0, .int .i64 0] ∧ Held W0 (w.heap.size + 1) [.int .i64 0, .int .i64 0, .int .i64 0, .int .i64 0] ∧ Held W0 (w.heap.size + 2) [.bool true, .string ⟨#[]⟩, .slice none 0 0, .int .i64 (at_ : Int), .int .i64 (T : Int)]) := by
      refine ⟨?_, ?_, ?_, hX⟩
      · rw [hW0]
        exact (A2.out.below.setCell (by simp only; omega) _).setCell (by simp only; omega) _
      · rw [hW0]
        exact (A2.out.r0.otherB (by simp only; omega) _).otherB (by simp only; omega) _
      · rw [hW0]
        exact (A2.out.r1.otherB (by simp only; omega) _).otherB (by simp only; omega) _
    rw [← hW0]
    have HW0 : Hid (w.heap.size + 2 < W0.heap.size) := hX.1
    have hdw := HDW.out
    clear hfr hrm hT2 HDW hW0 hX A2 r0 hxb hhb a0 f0 a1 f1 a2 f2 a3 f3 a4 f4 b0 g0 b1 g1 b2 g2 b3 g3 x0 y0 x1 y1 x2 y2 x3 y3 x4 y4 h0 z0 h1 z1 n1 n2 n3
    go_loopg [13] (T - fr) (fun g f wr => ∃ x v ps, fr ≤ x ∧ x ≤ T ∧ g = T - x ∧ f = .int .i64 (x : Int) ∧ RHalf d c fr x at_ T (w.heap.size + 2) W0 wr v ps)
    case atStart => exact ⟨fr, _, _, Nat.le_refl _, HZ.out.2.2, rfl, rfl, RHalf.nil A3.out.2.2.2⟩
    case round =>
      obtain ⟨x, v, ps, hx0, hx, rfl, rfl, hH⟩ := hrel
      obtain ⟨p0, m0, c0, rfl⟩ := hH.own.shape
      have hsw := hH.only.size
      have hbw : Below w.heap.size w wr := hH.only.below A3.out.1 (by omega) A3.out.1.size
      have hx2 := (hH.xh.2 2 _ rfl).1
      have hx4 := (hH.xh.2 4 _ rfl).1
      have hxl := hH.xh.1
      have q0 := A3.out.2.1.only hH.only (by omega)
      have q1 := A3.out.2.2.1.only hH.only (by omega)
      by_cases hlt : x < T
      · have hxi : (x : Int) < (T : Int) := by omega
        have HC := Hid.hide (HR.out wr x hbw hx)
        have A4 : Aside (RHalf d c fr x at_ T (w.heap.size + 2) W0 wr (.slice p0 m0 c0) ps ∧ Below w.heap.size w wr ∧ Held wr w.heap.size [.bool false, .string ⟨#[]⟩, .slice none 0 0, .int .i64 0, .int .i64 0] ∧ Held wr (w.heap.size + 1) [.int .i64 0, .int .i64 0, .int .i64 0, .int .i64 0]) := ⟨hH, hbw, q0, q1⟩
        clear hH hbw q0 q1
        go_wp2_with fail
        refine HC.out.mono ?_
        rintro e w1 ⟨hb1, hd1, hd2⟩
        have hw1 := hb1.size
        rcases hr : readIt d (bytesOf c) x with er | y
        · obtain ⟨hpos, rfl⟩ := hd1 er hr
          obtain ⟨en, hen⟩ : ∃ en, er.num = en := ⟨_, rfl⟩
          obtain ⟨ea, hea⟩ : ∃ ea, er.at_ = ea := ⟨_, rfl⟩
          have A5 : Aside (itemsF d c fr = .error er ∧ er.num = en ∧ er.at_ = ea ∧ 0 < en ∧ Below w.heap.size w w1) := ⟨by rw [A4.out.1.eqn, itemsF_wrong (by rw [HZ.out.1]; exact hlt) hr]; rfl, hen, hea, by rw [← hen]; exact hpos, Below.behind A4.out.2.1 hb1⟩
          rw [hen, hea]
          have hE0 : ((en : Int) == 0) = false := by have := A5.out.2.2.2.1; simp; omega
          have hE1 : ((en : Int) != 0) = true := by have := A5.out.2.2.2.1; simp; omega
          have k0 := A4.out.2.2.1.below hb1
          have k1 := A4.out.2.2.2.below hb1
          have s0 := k0.1
          have s1 := k1.1
          obtain ⟨a0, f0⟩ := k0.2 0 _ rfl
          obtain ⟨a1, f1⟩ := k0.2 1 _ rfl
          obtain ⟨a2, f2⟩ := k0.2 2 _ rfl
          obtain ⟨a3, f3⟩ := k0.2 3 _ rfl
          obtain ⟨a4, f4⟩ := k0.2 4 _ rfl
          obtain ⟨b0, g0⟩ := k1.2 0 _ rfl
          obtain ⟨b1, g1⟩ := k1.2 1 _ rfl
          obtain ⟨b2, g2⟩ := k1.2 2 _ rfl
          obtain ⟨b3, g3⟩ := k1.2 3 _ rfl
          have n1 : ¬ w.heap.size = w1.heap.size := by omega
          have n2 : ¬ w.heap.size + 1 = w1.heap.size := by omega
          have n3 : ¬ w.heap.size = w1.heap.size + 1 := by omega
          have n4 : ¬ w.heap.size + 1 = w1.heap.size + 1 := by omega
          clear k0 k1 hb1 hd1 hd2 hr hen hea hpos HC
          go_wp2
          go_region
          all_goals go_wp2
          all_goals
            refine bodyPost_ret (v := .tuple #[zeroR, faultV en 0 0 ea]) (by simp [results, Tryz.results212, go_sem, a0, a1, a2, a3, a4, b0, b1, b2, b3, s0, s1]) rfl ⟨?_, fun er' he => ?_, fun its he => ?_⟩
          all_goals first
            | (rw [A5.out.1] at he; cases he; done)
            | (rw [A5.out.1] at he; cases he; rw [A5.out.2.1, A5.out.2.2.1]; exact ⟨A5.out.2.2.2.1, rfl⟩)
            | skip
          all_goals first
            | refine Below.drew (Below.alloc (Below.alloc ?_ ?_ _) ?_ _)
            | refine Below.alloc (Below.alloc ?_ ?_ _) ?_ _
          all_goals repeat' (refine Below.setCell ?_ ?_ _)
          all_goals first
            | exact A5.out.2.2.2.2
            | (simp only; omega)
            | (simp; omega)
        · obtain ⟨l, tx, p, m, cc, hT, rfl⟩ := hd2 y hr
          obtain ⟨_, hto1, hto2⟩ := readIt_to (s := c) (by rw [HZ.out.1]; exact hx) hr
          obtain ⟨to_, hto⟩ : ∃ to_, y.to = to_ := ⟨_, rfl⟩
          rw [hto] at hT hto1 hto2 ⊢
          rw [show faultV 0 0 0 0 = Value.agg #[.int .i64 0, .int .i64 0, .int .i64 0, .int .i64 0] from rfl]
          have hO := A4.out.1.own
          have HO : Hid (∀ o1 o2 o3, OwnC (((w1.alloc o1).alloc o2).alloc o3) W0.heap.size 5 (.slice p0 m0 c0) ps.length (ps.flatMap fun p => encR p.1)) := fun o1 o2 o3 => (((hO.below hb1).alloc o1).alloc o2).alloc o3
          have t2 : w1.cell? ⟨w.heap.size + 2, 2, none⟩ = some (.slice p0 m0 c0) := (hb1.cell (p := ⟨w.heap.size + 2, 2, none⟩) hxl).trans hx2
          have A5 : Aside (Below wr.heap.size wr w1 ∧ Tree encR kP d w1 (fun k => wr.heap.size ≤ k) ⟨x, to_, l, tx, .slice p m cc⟩ y ∧ readIt d (bytesOf c) x = .ok y ∧ y.to = to_ ∧ x < to_ ∧ to_ ≤ T ∧ ps.length ≤ 2048 ∧ W0.heap.size ≤ w1.heap.size) := ⟨hb1, hT, hr, hto, hto1, by have := HZ.out.1; omega, by have := A4.out.1.len; have := HZ.out.2.1; omega, by omega⟩
          have t2' : w1.cell? ⟨w.heap.size + 1 + 1, 2, none⟩ = some (.slice p0 m0 c0) := t2
          have s0 : w.heap.size + 2 < w1.heap.size := by omega
          have s0' : w.heap.size + 1 + 1 < w1.heap.size := by omega
          have s1' : w.heap.size + 1 + 1 < w1.heap.size + 1 := by omega
          have n1' : ¬ w.heap.size + 1 + 1 = w1.heap.size := by omega
          have n1 : ¬ w.heap.size + 2 = w1.heap.size := by omega
          have n2 : ¬ w.heap.size + 2 = w1.heap.size + 1 := by omega
          have n3 : ¬ w.heap.size + 2 = w1.heap.size + 1 + 1 := by omega
          clear hO hb1 hd1 hd2 hr hto hT hto1 hto2 HC hw1 hx2 hx4
          go_wp2_with (at_builtin; refine wpList_append_ownp _ rfl _ _ 286 rfl 288 i0 zeroR 5 64 Tryz.underlying286 hi hz0 hz1 hz2 rfl (by decide) W0.heap.size _ ps.length _ rfl (HO.out _ _ _) (w1.heap.size + 1 + 1) 0 1 1 (encR ⟨x, to_, l, tx, .slice p m cc⟩) rfl rfl ?c1 ?c5 ?c2 ?c3 ?c4 ?_)
          case c1 =>
            have := rangeAt_new ((w1.alloc (.cells (encR ⟨x, to_, l, tx, .slice p m cc⟩).toArray 288)).alloc (.cells #[.int .i64 0, .int .i64 0, .int .i64 0, .int .i64 0] 66)) (encR ⟨x, to_, l, tx, .slice p m cc⟩) 288
            simpa using this
          case c5 => exact encR_oneCell _ _ _ _ _ _ _
          case c2 => have := A5.out.2.2.2.2.2.2.1; unfold maxLen; omega
          case c3 => have := A5.out.2.2.2.2.2.2.1; omega
          case c4 => have := A5.out.2.2.2.2.2.2.2; simp; omega
          intro v2 w2 hO2 hg2 hf2 hp2
          obtain ⟨p2, m2, c2, rfl, u1, u2, u3, u4, hM⟩ := A4.out.1.more HW0.out A5.out.1 A5.out.2.1 hx0 (by rw [HZ.out.1]; exact hlt) A5.out.2.2.1 hO2 hg2 (by simpa using hf2) hp2
          have d4 : w2.cell? ⟨w1.heap.size, 4, none⟩ = some (.int .i64 (to_ : Int)) := by
            rw [u4 _ _ (Nat.le_refl _) (by omega), World.cell?_alloc_past _ _ _ (by simp; omega), World.cell?_alloc_past _ _ _ (by simp), World.cell?_alloc_new]
            rfl
          have A6 : Aside (RHalf d c fr to_ at_ T (w.heap.size + 2) W0 (w2.setCell ⟨w.heap.size + 2, 2, none⟩ (.slice p2 m2 c2)) (.slice p2 m2 c2) (ps ++ [(⟨x, to_, l, tx, .slice p m cc⟩, y)])) := by
            have := A5.out.2.2.2.1
            subst this
            exact hM
          have n4 : ¬ w1.heap.size = w.heap.size + 2 := by omega
          have n4' : ¬ w1.heap.size = w.heap.size + 1 + 1 := by omega
          have u1' : w2.cell? ⟨w.heap.size + 1 + 1, 2, none⟩ = some (.slice p0 m0 c0) := u1
          have u2' : w2.frozen? ⟨w.heap.size + 1 + 1, 2, none⟩ = false := u2
          have u3' : w.heap.size + 1 + 1 < w2.heap.size := u3
          clear hO2 hg2 hf2 hp2 HO t2 t2' hM u4
          go_wp2
          go_roundg (T - to_)
          case measure => have := A5.out; omega
          case rel => exact ⟨to_, _, _, by have := A5.out; omega, A5.out.2.2.2.2.2.1, rfl, rfl, A6.out⟩
      · have hxi : (T : Int) ≤ (x : Int) := by omega
        have hxe : x = T := by omega
        have A4 : Aside (RHalf d c fr x at_ T (w.heap.size + 2) W0 wr (.slice p0 m0 c0) ps ∧ Below w.heap.size w wr ∧ x = T) := ⟨hH, hbw, hxe⟩
        have hx0' := (hH.xh.2 0 _ rfl).1
        have hx1 := (hH.xh.2 1 _ rfl).1
        have hx3 := (hH.xh.2 3 _ rfl).1
        obtain ⟨a0, f0⟩ := q0.2 0 _ rfl
        obtain ⟨a1, f1⟩ := q0.2 1 _ rfl
        obtain ⟨a2, f2⟩ := q0.2 2 _ rfl
        obtain ⟨a3, f3⟩ := q0.2 3 _ rfl
        obtain ⟨a4, f4⟩ := q0.2 4 _ rfl
        obtain ⟨b0, g0⟩ := q1.2 0 _ rfl
        obtain ⟨b1, g1⟩ := q1.2 1 _ rfl
        obtain ⟨b2, g2⟩ := q1.2 2 _ rfl
        obtain ⟨b3, g3⟩ := q1.2 3 _ rfl
        clear hH hbw q0 q1 hlt hxe
        go_wp2
        refine bodyPost_ret (v := .tuple #[valR ⟨at_, T, true, ⟨#[]⟩, .slice p0 m0 c0⟩, faultV 0 0 0 0]) (by simp [results, Tryz.results212, go_sem, a0, a1, a2, a3, a4, b0, b1, b2, b3]) rfl ?_
        obtain ⟨hh, hb, he⟩ := A4.out
        have hsz := hh.only.size
        have hw0 := HW0.out
        have hit : itemsF d c fr = .ok (ps.map (·.2)) := by
          rw [hh.eqn, itemsF_end (by rw [HZ.out.1, he]; exact Nat.le_refl _)]
          simp [ahead]
        refine ⟨?_, fun er he => ?_, fun its he => ?_⟩
        · repeat' (refine Below.setCell ?_ ?_ _)
          all_goals first
            | exact hb
            | (simp only; omega)
        · rw [hit] at he
          cases he
        · rw [hit] at he
          cases he
          refine ⟨p0, m0, c0, ps, ?_, fun q hq => ?_, rfl, rfl⟩
          · refine (hh.own.rowAt (F := fun k => W0.heap.size ≤ k) (fun k hk => (hh.own.block k hk).1) hh.plain).keep (fun k hk => by omega) (by simp) (fun k hk _ => ?_)
            rw [Below.heap_setCell _ _ _ _ (by simp only; omega), Below.heap_setCell _ _ _ _ (by simp only; omega), Below.heap_setCell _ _ _ _ (by simp only; omega), Below.heap_setCell _ _ _ _ (by simp only; omega), Below.heap_setCell _ _ _ _ (by simp only; omega), Below.heap_setCell _ _ _ _ (by simp only; omega), Below.heap_setCell _ _ _ _ (by simp only; omega), Below.heap_setCell _ _ _ _ (by simp only; omega), Below.heap_setCell _ _ _ _ (by simp only; omega)]
          · refine Tree.keep (fun k hk => by have := hk.1.1; omega) (by simp) (fun k hk _ => ?_) d (hh.trees q hq)
            have hk1 := hk.1.1
            rw [Below.heap_setCell _ _ _ _ (by simp only; omega), Below.heap_setCell _ _ _ _ (by simp only; omega), Below.heap_setCell _ _ _ _ (by simp only; omega), Below.heap_setCell _ _ _ _ (by simp only; omega), Below.heap_setCell _ _ _ _ (by simp only; omega), Below.heap_setCell _ _ _ _ (by simp only; omega), Below.heap_setCell _ _ _ _ (by simp only; omega), Below.heap_setCell _ _ _ _ (by simp only; omega), Below.heap_setCell _ _ _ _ (by simp only; omega)]
end Go.Proofs.YtjiikjpnlgogfaaGreatDoor
