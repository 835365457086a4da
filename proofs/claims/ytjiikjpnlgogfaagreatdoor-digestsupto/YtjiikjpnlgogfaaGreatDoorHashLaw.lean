/-
  twigslaw: one step on hashers (hashes): its answer is true, and the state is kept.
-/
import Derived.Test.YtjiikjpnlgogfaaGreatDoorHw
import Derived.Test.YtjiikjpnlgogfaaGreatDoorRefDig
import Derived.Deep.RegionWith
namespace Go.Proofs.YtjiikjpnlgogfaaGreatDoor
open Go.RowKit
attribute [local go_sem ↓] wp_load_cells28

/-- The cells of a step. -/
structure OpC (C : Array Value) (kind a : Int) (s : ByteArray) : Prop where
  size : C.size = 160
  k : C[0]? = some (.int .i64 kind)
  a : C[1]? = some (.int .i64 a)
  s : C[67]? = some (.string s)

theorem OpC.cell {C : Array Value} {j : Nat} {v : Value} (h : C[j]? = some v) (w : World) (t : TypeId) : (w.alloc (.cells C t)).cell? ⟨w.heap.size, j, none⟩ = some v := by
  rw [World.cell?_alloc_new]
  exact h

theorem pick_val (c : Int) (h1 : -9223372036854775808 ≤ c) (h2 : c < 9223372036854775808) (h0 : c < 0) : wrap64 (-wrap64 (c + 1)) = -(c + 1) := by
  unfold wrap64
  omega
theorem pick_mod (c : Int) (n : Nat) (h : 0 ≤ c) (hn : 0 < n) : ∃ k : Nat, k < n ∧ c.tmod (n : Int) = (k : Int) := by
  refine ⟨(c % (n : Int)).toNat, ?_, ?_⟩
  · have := Int.emod_lt_of_pos c (show (0 : Int) < n by omega)
    have := Int.emod_nonneg c (show (n : Int) ≠ 0 by omega)
    omega
  · rw [Int.tmod_eq_emod_of_nonneg h]
    have := Int.emod_nonneg c (show (n : Int) ≠ 0 by omega)
    omega

set_option maxHeartbeats 800000 in
theorem pick_any (c : Int) (n : Nat) (w : World) (h1 : -9223372036854775808 ≤ c) (h2 : c < 9223372036854775808) (hn : 0 < n) :
    Calls Tryz.prog 69 #[.int .i64 c, .int .i64 (n : Int)] w fun e w' => (∃ k : Nat, k < n ∧ e = .returned (.int .i64 (k : Int))) ∧ w' = w := by
  have hn0 : ¬ n = 0 := by omega
  by_cases h0 : c < 0
  · have e := pick_val c h1 h2 h0
    obtain ⟨k, hk, ek⟩ := pick_mod (-(c + 1)) n (by omega) hn
    have HK : Hid (k < n) := hk
    clear h1 h2 hn hk
    go_enter Tryz.func69, Tryz.ntmps69
    go_wp2
    go_ret
    exact ⟨⟨k, HK.out, rfl⟩, rfl⟩
  · obtain ⟨k, hk, ek⟩ := pick_mod c n (by omega) hn
    have HK : Hid (k < n) := hk
    have h0' : (0 : Int) ≤ c := by omega
    clear h1 h2 hn hk h0
    go_enter Tryz.func69, Tryz.ntmps69
    go_wp2
    go_ret
    exact ⟨⟨k, HK.out, rfl⟩, rfl⟩

set_option maxRecDepth 100000 in
set_option maxHeartbeats 3200000 in
theorem hashes1 {C : Array Value} {a : Int} {s : ByteArray} {w : World} {bw : Nat} (hC : OpC C 1 a s) (hT : Tabs w) (hM : 16 ≤ w.heap.size) (hs : s.size ≤ 70368744177664) :
    Calls Tryz.prog 63 #[.pointer (some ⟨bw, 0, none⟩), .agg C] w fun e w' => e = .returned (.bool true) ∧ Below w.heap.size w w' := by
  have k0 := OpC.cell hC.k w 102
  have k5 := OpC.cell hC.s w 102
  have HS : Hid (s.size ≤ 70368744177664) := hs
  clear hs
  go_enter Tryz.func63, Tryz.ntmps63
  go_wp2_with fail
  generalize hw0 : w.alloc (.cells C 102) = w0 at k0 k5 ⊢
  have hb0 : Below w.heap.size w w0 ∧ w.heap.size < w0.heap.size := by rw [← hw0]; exact ⟨(Below.refl _ _).alloc (Nat.le_refl _) _, by simp⟩
  clear hw0
  refine (digest_any s w0 (hT.below hb0.1 hM) (by omega)).mono ?_
  rintro e w1 ⟨rfl, hb1⟩
  have hDs : (digF s).size = 32 := sumF_size _
  have hDb : Bytes (digF s) := sqzAt_bytes _ _
  obtain ⟨D, hD⟩ : ∃ D, digF s = D := ⟨_, rfl⟩
  rw [hD] at hDs hDb ⊢
  obtain ⟨t1, z1, z1', o1, b1, r1, s1⟩ := laid_hash w1 D hDs
  have heq := fun W => same_hash D hDs hDb W
  have hs01 := hb1.size
  have HD : Hid (∀ u : Unit, digF s = D) := fun _ => hD
  have A1 : Aside (Below w.heap.size w w1 ∧ D.size = 32 ∧ w1.cell? ⟨w.heap.size, 67, none⟩ = some (.string s) ∧ w.heap.size < w1.heap.size) := ⟨hb0.1.trans (hb1.mono (by omega)), hDs, (hb1.cell (by simp only; omega)).trans k5, by omega⟩
  clear hb0 hb1 hDs hDb hD hs01 k0 k5 hT hM hC
  go_wp2_with (refine wpList_store_mid rfl 34 _ _ rfl w1.heap.size 0 (D.toList.map encB).toArray rfl rfl t1 z1 o1 ?_; rw [List.toList_toArray]; generalize (w1.alloc (.cells _ 34)).setCells w1.heap.size 0 (D.toList.map encB) = w2 at b1 r1 s1 ⊢; have k2 : w2.cell? ⟨w.heap.size, 67, none⟩ = some (.string s) := (b1.cell (by simp only; exact A1.out.2.2.2)).trans A1.out.2.2.1)
  obtain ⟨hb1, hDs, _, hs1⟩ := A1.out
  have hb2 : Below w.heap.size w w2 := hb1.trans (b1.mono hb1.size)
  refine (refdig_any s w2 HS.out).mono ?_
  rintro e w3 ⟨rfl, hb3⟩
  rw [HD.out ()]
  obtain ⟨t3, z3, z3', o3, b3, r3, s3⟩ := laid_hash w3 D hDs
  have hs23 := hb3.size
  have r13 := range_below r1 (hb3.block w1.heap.size (by omega))
  have A3 : Aside (Below w.heap.size w w3 ∧ w3.rangeAt w1.heap.size 0 (D.toList.map encB) ∧ w1.heap.size < w3.heap.size) := ⟨hb2.trans (hb3.mono hb2.size), r13, by omega⟩
  clear A1 hb1 hDs hs1 hb2 hb3 hs23 r13 r1 b1 s1 k2 t1 z1 o1 HD HS
  go_wp2_with (first
    | (refine wpList_store_mid rfl 34 _ _ rfl w3.heap.size 0 (D.toList.map encB).toArray rfl rfl t3 z3 o3 ?_; rw [List.toList_toArray]; generalize (w3.alloc (.cells _ 34)).setCells w3.heap.size 0 (D.toList.map encB) = w4 at b3 r3 s3 ⊢; have r14 := range_below A3.out.2.1 (b3.block w1.heap.size A3.out.2.2))
    | (refine wpList_load_mid rfl 34 _ rfl w1.heap.size 0 rfl (D.toList.map encB) _ r14 Tryz.underlying34 rfl z1' ?_)
    | (refine wpList_load_mid rfl 34 _ rfl w3.heap.size 0 rfl (D.toList.map encB) _ r3 Tryz.underlying34 rfl z1' ?_))
  go_ret
  exact ⟨rfl, A3.out.1.trans (b3.mono A3.out.1.size)⟩

theorem infoPair : (Tryz.prog.info? 216).map (fun i => (i.zero, i.size, i.bytes)) = some (some (.agg #[.pointer none, .string ⟨#[]⟩]), 2, 24) := by kernel_rfl

set_option maxRecDepth 100000 in
set_option maxHeartbeats 3200000 in
theorem hashes2 {C : Array Value} {a : Int} {s : ByteArray} {w : World} {bw : Nat} {ps : List Pr} {vh : Value} (hC : OpC C 2 a s) (hw : Hw w bw ps vh) (hn : ps.length ≤ 1048576) :
    Calls Tryz.prog 63 #[.pointer (some ⟨bw, 0, none⟩), .agg C] w fun e w' => e = .returned (.bool true) ∧ Below bw w w' ∧ ∃ H vh', Hw w' bw (ps ++ [(H, ⟨#[]⟩)]) vh' := by
  have k0 := OpC.cell hC.k w 102
  obtain ⟨iP, hiP, hzP, hsP, hbP⟩ := info_parts infoPair
  go_enter Tryz.func63, Tryz.ntmps63
  go_wp2_with fail
  generalize hw0 : w.alloc (.cells C 102) = w0 at k0 ⊢
  have hh0 : Hw w0 bw ps vh := by rw [← hw0]; exact hw.alloc _
  have hb0 : Below bw w w0 := by rw [← hw0]; exact (Below.refl _ _).alloc (Nat.le_of_lt hw.lt) _
  refine (new_any w0).mono ?_
  rintro e w1 ⟨rfl, rfl⟩
  have hlt0 := hh0.lt
  have hH1 : Hs (w0.alloc (.cells Tryz.zeroCells283 283)) w0.heap.size init := Hs.zero w0 _ 283 zero72_init
  have hh1 : Hw (w0.alloc (.cells Tryz.zeroCells283 283)) bw ps vh := hh0.alloc _
  have hb1 : Below bw w (w0.alloc (.cells Tryz.zeroCells283 283)) := hb0.trans ((Below.refl _ _).alloc (by omega) _)
  have hs1 : (w0.alloc (.cells Tryz.zeroCells283 283)).heap.size = w0.heap.size + 1 := by simp
  have hold : ∀ i (hi : i < ps.length), ps[i].1 < w0.heap.size := fun i hi => (hh0.each i hi).2.1
  have hvold : ∀ k, vh.ownBlock = some k → k < w0.heap.size := fun k hk => (hh0.row.block k hk).2
  generalize w0.alloc (.cells Tryz.zeroCells283 283) = w1 at hH1 hh1 hb1 hs1 ⊢
  obtain ⟨H, hHe⟩ : ∃ H, w0.heap.size = H := ⟨_, rfl⟩
  rw [hHe] at hH1 hs1 hold hvold hlt0 ⊢
  have c1 := hh1.c0
  have A1 : Aside (Hw w1 bw ps vh ∧ Hs w1 H init ∧ Below bw w w1 ∧ w1.heap.size = H + 1 ∧ (∀ i (hi : i < ps.length), ps[i].1 < H) ∧ (∀ k, vh.ownBlock = some k → k < H) ∧ bw < H) := ⟨hh1, hH1, hb1, hs1, hold, hvold, hlt0⟩
  have hnl : ps.length + 1 ≤ 1048577 := by omega
  have c2 : ∀ o, (w1.alloc o).cell? ⟨bw, 0, none⟩ = some vh := fun o => (hh1.alloc o).c0
  have HO : Hid (∀ o, OwnC (w1.alloc o) (bw + 1) 2 vh ps.length (ps.flatMap pc)) := fun o => hh1.row.alloc o
  clear hw hC k0 hw0 hh0 hb0 hh1 hH1 hb1 hs1 hold hvold hHe hn
  go_wp2_with (at_builtin; refine wpList_append_ownc _ rfl _ _ 91 rfl 216 iP _ 2 24 Tryz.underlying91 hiP hzP hsP hbP rfl (by decide) (bw + 1) vh ps.length (ps.flatMap pc) rfl (HO.out _) w1.heap.size 0 1 1 (pc (H, ⟨#[]⟩)) rfl rfl ?c1 ?c2 ?c3 ?c4 ?c5 ?_)
  case c1 =>
    intro j u hu
    rw [Nat.zero_add, World.cell?_alloc_new]
    simpa [pc] using hu
  case c2 =>
    intro u hu
    rcases List.mem_cons.1 hu with rfl | hu
    · rfl
    · rcases List.mem_cons.1 hu with rfl | hu
      · rfl
      · cases hu
  case c3 => unfold maxLen; omega
  case c4 => omega
  case c5 => have := A1.out.1.lt; simp; omega
  intro v2 w2 ho hg hv
  obtain ⟨g2, cap2, rfl, hjk⟩ := ho.full (Nat.succ_pos _)
  clear hjk
  obtain ⟨hh1, hH1, hb1, hs1, hold, hvold, hbH⟩ := A1.out
  have hh2 : Hw (w1.alloc (.cells #[.pointer (some ⟨H, 0, none⟩), .string ⟨#[]⟩] 216)) bw ps vh := hh1.alloc _
  have hne : vh.ownBlock ≠ some bw := fun e => by have := (hh1.row.block bw e).1; omega
  have eb : w2.heap[bw]? = (w1.alloc (.cells #[.pointer (some ⟨H, 0, none⟩), .string ⟨#[]⟩] 216)).heap[bw]? := hg.block bw hh2.lt (fun e => hne e.symm)
  have c3 : w2.cell? ⟨bw, 0, none⟩ = some vh := (World.cell?_of_block eb).trans hh2.c0
  have f3 : w2.frozen? ⟨bw, 0, none⟩ = false := (World.frozen?_of_block eb).trans hh2.f0
  have hfin := hh2.push hbH (by simp; omega) (hH1.block (Below.heap_alloc _ _ _ (by omega))) (fun i hi e => by have := hold i hi; omega) (fun e => by have := hvold H e; omega) ho hg (fun k hk => by have := hv k hk; simpa using this)
  have hb2 : Below bw w w2 := (hb1.trans ((Below.refl _ _).alloc (Nat.le_of_lt hh1.lt) _)).trans ⟨hg.os, hg.tape, hg.output, hg.size, fun k hk => hg.block k (Nat.lt_trans hk hh2.lt) (fun e => by have := (hh2.row.block k e.symm).1; omega)⟩
  have A2 : Aside (Hw (w2.setCell ⟨bw, 0, none⟩ (.slice (some ⟨g2, 0, none⟩) (ps.length + 1) cap2)) bw (ps ++ [(H, ⟨#[]⟩)]) (.slice (some ⟨g2, 0, none⟩) (ps.length + 1) cap2) ∧ Below bw w w2) := ⟨hfin, hb2⟩
  clear hh1 hH1 hb1 hs1 hold hvold hbH hh2 hne eb hfin hb2 ho hg hv A1 c2 c1 HO
  go_wp2
  go_ret
  exact ⟨rfl, A2.out.2.setCell (by simp) _, H, _, A2.out.1⟩

set_option maxRecDepth 100000 in
set_option maxHeartbeats 3200000 in
theorem hashes0 {C : Array Value} {kd a : Int} {s : ByteArray} {w : World} {bw : Nat} {vh : Value} (hC : OpC C kd a s) (h3 : kd ≠ 1) (h4 : kd ≠ 2) (hw : Hw w bw [] vh) :
    Calls Tryz.prog 63 #[.pointer (some ⟨bw, 0, none⟩), .agg C] w fun e w' => e = .returned (.bool true) ∧ Below bw w w' ∧ Hw w' bw [] vh := by
  have k0 := OpC.cell hC.k w 102
  have hvh : vh = .slice none 0 0 ∨ ∃ g cap, vh = .slice (some ⟨g, 0, none⟩) 0 cap := by
    rcases hw.row.2 with h | ⟨g, cap, h, _⟩
    · exact .inl h.1
    · exact .inr ⟨g, cap, h⟩
  have c0 := (hw.alloc (.cells C 102)).c0
  have A1 : Aside (Hw (w.alloc (.cells C 102)) bw [] vh ∧ Below bw w (w.alloc (.cells C 102))) := ⟨hw.alloc _, (Below.refl _ _).alloc (Nat.le_of_lt hw.lt) _⟩
  clear hw hC
  go_enter Tryz.func63, Tryz.ntmps63
  rcases hvh with rfl | ⟨g, cap, rfl⟩
  · go_wp2
    go_ret
    exact ⟨rfl, A1.out.2, A1.out.1⟩
  · go_wp2
    go_ret
    exact ⟨rfl, A1.out.2, A1.out.1⟩

set_option maxRecDepth 100000 in
set_option maxHeartbeats 3200000 in
theorem hashes4 {C : Array Value} {a : Int} {s : ByteArray} {w : World} {bw : Nat} {ps : List Pr} {vh : Value} (hC : OpC C 4 a s) (hw : Hw w bw ps vh) (hp : 0 < ps.length) (ha1 : -9223372036854775808 ≤ a) (ha2 : a < 9223372036854775808) (hT : Tabs w) (hsz : ∀ i (hi : i < ps.length), ps[i].2.size ≤ 70368744177664) :
    Calls Tryz.prog 63 #[.pointer (some ⟨bw, 0, none⟩), .agg C] w fun e w' => e = .returned (.bool true) ∧ Below bw w w' ∧ Hw w' bw ps vh := by
  have k0 := OpC.cell hC.k w 102
  have k1 := OpC.cell hC.a w 102
  obtain ⟨g, cap, rfl, hjk⟩ := hw.row.full hp
  clear hjk
  have c0 := (hw.alloc (.cells C 102)).c0
  have hh0 := hw.alloc (.cells C 102)
  have hb0 : Below bw w (w.alloc (.cells C 102)) := (Below.refl _ _).alloc (Nat.le_of_lt hw.lt) _
  have hT0 : Tabs (w.alloc (.cells C 102)) := hT.below ((Below.refl _ _).alloc (Nat.le_refl _) _) (by have := hw.low; have := hw.lt; omega)
  have A1 : Aside (Hw (w.alloc (.cells C 102)) bw ps (.slice (some ⟨g, 0, none⟩) ps.length cap) ∧ Below bw w (w.alloc (.cells C 102)) ∧ Tabs (w.alloc (.cells C 102)) ∧ (∀ i (hi : i < ps.length), ps[i].2.size ≤ 70368744177664)) := ⟨hh0, hb0, hT0, hsz⟩
  have HPk : Hid (∀ W, Calls Tryz.prog 69 #[.int .i64 a, .int .i64 (ps.length : Int)] W fun e w' => (∃ k : Nat, k < ps.length ∧ e = .returned (.int .i64 (k : Int))) ∧ w' = W) := fun W => pick_any a ps.length W ha1 ha2 hp
  have hpne : ¬ ps.length = 0 := by omega
  clear hw hC hT hT0 hh0 hb0 ha1 ha2 hsz hp
  go_enter Tryz.func63, Tryz.ntmps63
  go_wp2
  go_region_with (go_at_call 69; refine (HPk.out _).mono ?_; rintro e w' ⟨⟨k, hk, rfl⟩, rfl⟩)
  all_goals
    have hfg := flat_get ps k hk
    obtain ⟨hh0, hb0, hT0, hsz⟩ := A1.out
    obtain ⟨p1, p2, p3, p4⟩ := hh0.each k hk
    have hszk := hsz k hk
    have r0 := hh0.row.cellAt (2 * k) _ hfg.1
    have r1 := hh0.row.cellAt (2 * k + 1) _ hfg.2
    obtain ⟨pk, hpk⟩ : ∃ pk, ps[k] = pk := ⟨_, rfl⟩
    rw [hpk] at p1 p2 p4 r0 r1 hszk
    obtain ⟨H, t⟩ := pk
    simp only at p1 p2 p4 r0 r1 hszk
    clear HPk hfg hsz p3 hpk
    have hki : (k : Int) < (ps.length : Int) := by omega
    have ws0 : w.heap.size < (w.alloc (.cells C 102)).heap.size := by simp
    generalize w.alloc (.cells C 102) = w0 at *
    rw [Nat.mul_comm 2 k] at r0 r1
    have q0 := r0.1
    have q1 := r1.1
    have HT : Hid (t.size ≤ 70368744177664) := hszk
    have A2 : Aside (Hw w0 bw ps (.slice (some ⟨g, 0, none⟩) ps.length cap) ∧ Below bw w w0 ∧ Tabs w0 ∧ Hs w0 H ((bytesOf t).foldl push1 init) ∧ H < w0.heap.size ∧ w0.cell? ⟨g, k * 2 + 1, none⟩ = some (.string t) ∧ w0.cell? ⟨bw, 0, none⟩ = some (.slice (some ⟨g, 0, none⟩) ps.length cap)) := ⟨hh0, hb0, hT0, p4, p2, q1, c0⟩
    clear hh0 hb0 hT0 p1 p2 p4 r0 r1 hszk A1 ws0 k1
    go_wp2_with fail
    obtain ⟨hh0, hb0, hT0, p4, p2, q1, c0⟩ := A2.out
    have hlo := hh0.low
    have hlt := hh0.lt
    refine (tsum_any H _ w0.drew (p4.block rfl) p2 (hT0.below (Below.refl _ _).drew (by omega)) (by simp; omega)).mono ?_
    rintro e w1 ⟨rfl, hb1⟩
    have hDs := sumF_size ((bytesOf t).foldl push1 init)
    have hDb : Bytes (sumF ((bytesOf t).foldl push1 init)) := sqzAt_bytes _ _
    have hdig : digF t = sumF ((bytesOf t).foldl push1 init) := rfl
    obtain ⟨D, hD⟩ : ∃ D, sumF ((bytesOf t).foldl push1 init) = D := ⟨_, rfl⟩
    rw [hD] at hDs hDb hdig ⊢
    have hb01 : Below w0.heap.size w0 w1 := (Below.refl _ _).drew.trans hb1
    have hs01 := hb01.size
    have hgb := hh0.row.block g rfl
    obtain ⟨t1, z1, z1', o1, b1, r1, s1⟩ := laid_hash w1 D hDs
    have heq := fun W => same_hash D hDs hDb W
    have HD : Hid (∀ u : Unit, digF t = D) := fun _ => hdig
    have A3 : Aside (Below w0.heap.size w0 w1 ∧ w1.cell? ⟨g, k * 2 + 1, none⟩ = some (.string t) ∧ w1.cell? ⟨bw, 0, none⟩ = some (.slice (some ⟨g, 0, none⟩) ps.length cap) ∧ g < w1.heap.size ∧ bw < w1.heap.size ∧ D.size = 32) := ⟨hb01, (hb01.cell hgb.2).trans q1, (hb01.cell hlt).trans c0, by omega, by omega, hDs⟩
    clear hb1 hDs hDb hdig hD hb01 hs01 hgb hh0 hb0 hT0 p4 p2 q1 c0 hlo hlt k0 q0
    go_wp2_with (refine wpList_store_mid rfl 34 _ _ rfl w1.heap.size 0 (D.toList.map encB).toArray rfl rfl t1 z1 o1 ?_; rw [List.toList_toArray]; generalize (w1.alloc (.cells _ 34)).setCells w1.heap.size 0 (D.toList.map encB) = w2 at b1 r1 s1 ⊢; have d1 : w2.cell? ⟨g, k * 2 + 1, none⟩ = some (.string t) := (b1.cell A3.out.2.2.2.1).trans A3.out.2.1; have d0 : w2.cell? ⟨bw, 0, none⟩ = some (.slice (some ⟨g, 0, none⟩) ps.length cap) := (b1.cell A3.out.2.2.2.2.1).trans A3.out.2.2.1)
    obtain ⟨hb01, _, _, _, _, hDs⟩ := A3.out
    have hb02 : Below w0.heap.size w0 w2 := hb01.trans (b1.mono hb01.size)
    refine (refdig_any t w2 HT.out).mono ?_
    rintro e w3 ⟨rfl, hb3⟩
    rw [HD.out ()]
    obtain ⟨t3, z3, z3', o3, b3, r3, s3⟩ := laid_hash w3 D hDs
    have hs23 := hb3.size
    have r13 := range_below r1 (hb3.block w1.heap.size (by omega))
    have A4 : Aside (Below w0.heap.size w0 w3 ∧ w3.rangeAt w1.heap.size 0 (D.toList.map encB) ∧ w1.heap.size < w3.heap.size) := ⟨hb02.trans (hb3.mono hb02.size), r13, by omega⟩
    clear hb01 hDs hb02 hb3 hs23 r13 r1 b1 s1 d0 d1 t1 z1 o1 HD HT A3
    go_wp2_with (first
      | (refine wpList_store_mid rfl 34 _ _ rfl w3.heap.size 0 (D.toList.map encB).toArray rfl rfl t3 z3 o3 ?_; rw [List.toList_toArray]; generalize (w3.alloc (.cells _ 34)).setCells w3.heap.size 0 (D.toList.map encB) = w4 at b3 r3 s3 ⊢; have r14 := range_below A4.out.2.1 (b3.block w1.heap.size A4.out.2.2))
      | (refine wpList_load_mid rfl 34 _ rfl w1.heap.size 0 rfl (D.toList.map encB) _ r14 Tryz.underlying34 rfl z1' ?_)
      | (refine wpList_load_mid rfl 34 _ rfl w3.heap.size 0 rfl (D.toList.map encB) _ r3 Tryz.underlying34 rfl z1' ?_))
    go_ret
    have hb04 : Below w0.heap.size w0 w4 := A4.out.1.trans (b3.mono A4.out.1.size)
    exact ⟨rfl, A2.out.2.1.trans (hb04.mono (Nat.le_of_lt A2.out.1.lt)), A2.out.1.below hb04⟩

end Go.Proofs.YtjiikjpnlgogfaaGreatDoor
