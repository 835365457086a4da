/-
  twigslaw: one step on hashers: a piece more for one of them.
-/
import Derived.Test.YtjiikjpnlgogfaaGreatDoorHashLaw
import Derived.Deep.RegionWith
namespace Go.Proofs.YtjiikjpnlgogfaaGreatDoor
open Go.RowKit

set_option maxRecDepth 100000 in
set_option maxHeartbeats 3200000 in
theorem hashes3 {C : Array Value} {a : Int} {s : ByteArray} {w : World} {bw : Nat} {ps : List Pr} {vh : Value} (hC : OpC C 3 a s) (hw : Hw w bw ps vh) (hp : 0 < ps.length) (ha1 : -9223372036854775808 ≤ a) (ha2 : a < 9223372036854775808) (hT : Tabs w) (hsz : ∀ i (hi : i < ps.length), ps[i].2.size + s.size ≤ 70368744177664) :
    Calls Tryz.prog 63 #[.pointer (some ⟨bw, 0, none⟩), .agg C] w fun e w' => e = .returned (.bool true) ∧ Below bw w w' ∧ ∃ k, ∃ hk : k < ps.length, Hw w' bw (ps.set k (ps[k].1, ps[k].2 ++ s)) vh := by
  have k0 := OpC.cell hC.k w 102
  have k1 := OpC.cell hC.a w 102
  have k5 := OpC.cell hC.s w 102
  obtain ⟨g, cap, rfl, hjk⟩ := hw.row.full hp
  clear hjk
  have c0 := (hw.alloc (.cells C 102)).c0
  have hh0 := hw.alloc (.cells C 102)
  have hb0 : Below bw w (w.alloc (.cells C 102)) := (Below.refl _ _).alloc (Nat.le_of_lt hw.lt) _
  have hT0 : Tabs (w.alloc (.cells C 102)) := hT.below ((Below.refl _ _).alloc (Nat.le_refl _) _) (by have := hw.low; have := hw.lt; omega)
  have hwlt := hw.lt
  have hgw := (hw.row.block g rfl).2
  have hew : ∀ i (hi : i < ps.length), ps[i].1 < w.heap.size := fun i hi => (hw.each i hi).2.1
  have A1 : Aside (Hw (w.alloc (.cells C 102)) bw ps (.slice (some ⟨g, 0, none⟩) ps.length cap) ∧ Below bw w (w.alloc (.cells C 102)) ∧ Tabs (w.alloc (.cells C 102)) ∧ (∀ i (hi : i < ps.length), ps[i].2.size + s.size ≤ 70368744177664) ∧ bw < w.heap.size ∧ g < w.heap.size ∧ (∀ i (hi : i < ps.length), ps[i].1 < w.heap.size)) := ⟨hh0, hb0, hT0, hsz, hwlt, hgw, hew⟩
  have HPk : Hid (∀ W, Calls Tryz.prog 69 #[.int .i64 a, .int .i64 (ps.length : Int)] W fun e w' => (∃ k : Nat, k < ps.length ∧ e = .returned (.int .i64 (k : Int))) ∧ w' = W) := fun W => pick_any a ps.length W ha1 ha2 hp
  have hpne : ¬ ps.length = 0 := by omega
  clear hw hC hT hT0 hh0 hb0 ha1 ha2 hsz hp hwlt hgw hew
  go_enter Tryz.func63, Tryz.ntmps63
  go_wp2
  go_region_with (go_at_call 69; refine (HPk.out _).mono ?_; rintro e w' ⟨⟨k, hk, rfl⟩, rfl⟩)
  all_goals
    have hfg := flat_get ps k hk
    obtain ⟨hh0, hb0, hT0, hsz, hwlt, hgw, hew⟩ := A1.out
    obtain ⟨p1, p2, p3, p4⟩ := hh0.each k hk
    have hszk := hsz k hk
    have hHw := hew k hk
    have r0 := hh0.row.cellAt (2 * k) _ hfg.1
    have r1 := hh0.row.cellAt (2 * k + 1) _ hfg.2
    have hgp : g ≠ ps[k].1 := fun e => p3 (by simp [Value.ownBlock, e])
    have ws0 : w.heap.size < (w.alloc (.cells C 102)).heap.size := by simp
    have hlo := hh0.low
    have hfin := fun (W W1 : World) (hW : W.heap = (w.alloc (.cells C 102)).heap) (st : Step ps[k].1 0 162 W W1) hH => Hw.write (w := W) (w1 := W1) hk (hh0.keep (by rw [hW]; exact Nat.le_refl _) (fun i _ _ => by rw [hW])) s st hH
    obtain ⟨H, hHe⟩ : ∃ H, ps[k].1 = H := ⟨_, rfl⟩
    obtain ⟨t, hte⟩ : ∃ t, ps[k].2 = t := ⟨_, rfl⟩
    rw [hHe] at p1 p2 p4 r0 hHw hgp hfin
    rw [hte] at p4 r1 hszk hfin
    have hki : (k : Int) < (ps.length : Int) := by omega
    have hadd : ∀ W : World, Sem.run Tryz.prog (Op.stringOp .add t s) W = .ok (.string (t ++ s)) W := fun W => run_string_add_sum W t s (by omega)
    have hold : ∀ b : Nat, b < w.heap.size → b < (w.alloc (.cells C 102)).heap.size := fun b hb => by omega
    have hcall : ∀ W : World, W.heap = (w.alloc (.cells C 102)).heap → Calls Tryz.prog 111 #[.pointer (some ⟨H, 0, none⟩), .string s] W fun e w' => e = .returned (.tuple #[]) ∧ Step H 0 162 W w' ∧ Hs w' H ((bytesOf (t ++ s)).foldl push1 init) := fun W hW => by
      have := twrite_any H s ((bytesOf t).foldl push1 init) W (by rw [hW]; exact p2) (p4.block (by rw [hW])) (hT0.of_blocks (by rw [hW]) (by rw [hW])) (by omega)
      rw [← List.foldl_append, ← bytesOf_append] at this
      exact this
    generalize w.alloc (.cells C 102) = w0 at *
    rw [Nat.mul_comm 2 k] at r0 r1
    obtain ⟨q0, _⟩ := r0
    obtain ⟨q1, q2⟩ := r1
    have HC : Hid (∀ W : World, W.heap = w0.heap → Calls Tryz.prog 111 #[.pointer (some ⟨H, 0, none⟩), .string s] W fun e w' => e = .returned (.tuple #[]) ∧ Step H 0 162 W w' ∧ Hs w' H ((bytesOf (t ++ s)).foldl push1 init)) := hcall
    have A2 : Aside (Hw w0 bw ps (.slice (some ⟨g, 0, none⟩) ps.length cap) ∧ Below bw w w0 ∧ bw < w.heap.size ∧ g < w.heap.size ∧ H < w.heap.size ∧ g ≠ H ∧ bw < H ∧ w.heap.size < w0.heap.size ∧ w0.cell? ⟨g, k * 2 + 1, none⟩ = some (.string t) ∧ w0.frozen? ⟨g, k * 2 + 1, none⟩ = false ∧ w0.cell? ⟨bw, 0, none⟩ = some (.slice (some ⟨g, 0, none⟩) ps.length cap) ∧ w0.cell? ⟨w.heap.size, 67, none⟩ = some (.string s)) := ⟨hh0, hb0, hwlt, hgw, hHw, hgp, p1, ws0, q1, q2, c0, k5⟩
    have A3 : Aside (∀ (W W1 : World), W.heap = w0.heap → Step H 0 162 W W1 → Hs W1 H ((bytesOf (t ++ s)).foldl push1 init) → Hw (W1.setCell ⟨g, 2 * k + 1, none⟩ (.string (t ++ s))) bw (ps.set k (H, t ++ s)) (.slice (some ⟨g, 0, none⟩) ps.length cap)) := hfin
    have HE : Hid (ps[k].1 = H ∧ ps[k].2 = t) := ⟨hHe, hte⟩
    clear hh0 hb0 hT0 p1 p2 p3 p4 hszk A1 ws0 k1 HPk hfg hsz hew hwlt hgw hHw hgp hlo hfin hHe hte hold hcall q1 q2
    go_wp2
    go_region_with (go_at_call 111; refine (HC.out _ (by rfl)).mono ?_; rintro e w1 ⟨rfl, st, hH1⟩)
    all_goals
      obtain ⟨hh0, hb0, hwlt, hgw, hHw, hgp, p1, ws0, q1, q2, c0', k5'⟩ := A2.out
      have d0 := (World.cell?_of_block (a := ⟨bw, 0, none⟩) (st.block bw (Nat.lt_trans hwlt ws0) (by omega))).trans c0'
      have d1 := (World.cell?_of_block (a := ⟨g, k * 2 + 1, none⟩) (st.block g (Nat.lt_trans hgw ws0) hgp)).trans q1
      have d2 := (World.frozen?_of_block (a := ⟨g, k * 2 + 1, none⟩) (st.block g (Nat.lt_trans hgw ws0) hgp)).trans q2
      have d5 := (World.cell?_of_block (a := ⟨w.heap.size, 67, none⟩) (st.block w.heap.size ws0 (by omega))).trans k5'
      have hfin := A3.out _ w1 (by rfl) st hH1
      have hb1 : Below bw w w1 := hb0.trans ⟨st.os, st.tape, st.output, st.size, fun i hi => st.block i (by simp; omega) (by omega)⟩
      rw [Nat.mul_comm 2 k] at hfin
      have A4 : Aside (Hw (w1.setCell ⟨g, k * 2 + 1, none⟩ (.string (t ++ s))) bw (ps.set k (H, t ++ s)) (.slice (some ⟨g, 0, none⟩) ps.length cap) ∧ Below bw w w1 ∧ bw ≤ g) := ⟨hfin, hb1, by have := (hh0.row.block g rfl).1; omega⟩
      clear hh0 hb0 hwlt hgw hHw hgp p1 ws0 q1 q2 c0' k5' st hH1 hfin hb1 A2 A3 HC c0 k0 k5 q0
      go_wp2
      go_region
      clear d0 d1 d2 d5 hadd hki
      go_wp2
      go_ret
      refine ⟨rfl, (A4.out.2.1.setCell (by simp only; exact A4.out.2.2) _).drew, k, hk, ?_⟩
      rw [HE.out.1, HE.out.2]
      exact A4.out.1.drew
end Go.Proofs.YtjiikjpnlgogfaaGreatDoor
