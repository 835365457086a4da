/-
  twigslaw: decoded.
-/
import Derived.Test.YtjiikjpnlgogfaaGreatDoorBaS
import Derived.Test.YtjiikjpnlgogfaaGreatDoorBooE
import Derived.Test.YtjiikjpnlgogfaaGreatDoorSmaG
import Derived.Test.YtjiikjpnlgogfaaGreatDoorSamG
import Derived.Test.YtjiikjpnlgogfaaGreatDoorRawG
import Derived.Deep.RegionLaw
import Derived.Deep.DeepCutAuto
namespace Go.Proofs.YtjiikjpnlgogfaaGreatDoor
open Go.RowKit

theorem KeepSaid.after {bw : Nat} {T U : Nat → Prop} {es : List Ent} {v : Value} {N K L : Nat} {w W w' : World} (hb : Below w.heap.size w W) (hbw : bw < w.heap.size) (h : KeepSaid bw T es v N K W w') (h1 : ∀ k, T k → U k) (h2 : K ≤ L) : KeepSaid bw U es v N L w w' := by
  obtain ⟨a, es', v', N', b1, b2, b3, b4, b5⟩ := h
  have hs := hb.size
  refine ⟨(Kept.of_below hbw hb).trans a (fun _ h => h.elim) (fun k _ hk => hk.imp (h1 k) id), es', v', N', b1, by omega, by omega, fun k hk => (b4 k hk).imp id (fun h => by omega), fun e he k hk => (b5 e he k hk).imp (h1 k) (fun h => by omega)⟩

set_option maxRecDepth 100000 in
set_option maxHeartbeats 6400000 in
theorem decoded_any (bw : Nat) (s : ByteArray) (sent : Nat → Addr) (es : List Ent) (v : Value) (N : Nat) (w : World) (hF : Faults w sent) (hT : typeAt w) (hB : Bk w bw es v N) (hN : N + 4096 ≤ 8589934592) (hE : es.length + 4096 ≤ 8589934592) :
    Calls Tryz.prog 116 #[.pointer (some ⟨bw, 0, none⟩), .string s] w fun e w' => e = .returned (.bool true) ∧ KeepSaid bw (fun k => w.heap.size ≤ k) es v N 4096 w w' := by
  have hsz := decR_size (bytesOf s) (byte_lt s)
  obtain ⟨R, hRe⟩ : ∃ R, decR (bytesOf s) = R := ⟨_, rfl⟩
  obtain ⟨⟨E, A⟩, hEA⟩ : ∃ x, decE (bytesOf s) = x := ⟨_, rfl⟩
  have HD := Hid.hide (tdecX s sent w hF hT)
  have HR := Hid.hide (fun W => rdecX s W)
  rw [hRe] at hsz
  rw [hRe, hEA] at HD
  simp only [hRe, hEA] at HR
  have HB : Hid (Bk w bw es v N ∧ N + 4096 ≤ 8589934592 ∧ es.length + 4096 ≤ 8589934592 ∧ R.size ≤ 4096) := ⟨hB, hN, hE, hsz⟩
  have hbl := hB.lt
  clear hF hT hB hN hE hsz hRe hEA
  go_enter Tryz.func116, Tryz.ntmps116
  go_wp2_with fail
  refine HD.out.mono ?_
  rintro e w1 ⟨hb1, l, tx, p, m, c, hTr, rfl⟩
  have A1 : Aside (Below w.heap.size w w1 ∧ TreeS 7 w1 w.heap.size w1.heap.size ⟨0, 0, l, tx, .slice p m c⟩ R) := ⟨hb1, hTr⟩
  clear hb1 hTr HD
  go_wp2_with fail
  refine (HR.out _).mono ?_
  rintro e w2 ⟨hb2, fr', en', l', tx', p', m', c', hTr, rfl⟩
  have x0 := ((Held.fresh w1 [.bool l, .string tx, .slice p m c] 45).alloc (.cells #[.int .i64 (E : Int), .int .i64 ((0 : Nat) : Int), .int .i64 ((0 : Nat) : Int), .int .i64 (A : Int)] 66)).below hb2
  have f0 := (Held.fresh (w1.alloc (.cells #[.bool l, .string tx, .slice p m c] 45)) [.int .i64 (E : Int), .int .i64 ((0 : Nat) : Int), .int .i64 ((0 : Nat) : Int), .int .i64 (A : Int)] 66).below hb2
  have A2 : Aside (Below w1.heap.size w1 w2 ∧ RTree encR 7 w2 ⟨fr', en', l', tx', .slice p' m' c'⟩ R ∧ Held w2 w1.heap.size [.bool l, .string tx, .slice p m c] ∧ w1.heap.size + 2 ≤ w2.heap.size) := ⟨Below.behind (((Below.refl _ _).alloc (Nat.le_refl _) _).alloc (by simp) _) hb2, hTr, x0, by have := hb2.size; simp at this; omega⟩
  simp only [World.size_alloc] at f0
  have HS : Hid (∀ W, Calls Tryz.prog 123 #[.agg #[.int .i64 (E : Int), .int .i64 0, .int .i64 0, .int .i64 (A : Int)], .agg #[.int .i64 (E : Int), .int .i64 0, .int .i64 0, .int .i64 (A : Int)]] W fun r w' => r = .returned (.bool true) ∧ Below W.heap.size W w') := fun W => sameFault_same E 0 0 A W
  have a0 := (f0.2 0 _ rfl).1
  have a1 : w2.cell? ⟨w1.heap.size + 1, 1, none⟩ = some (.int .i64 0) := (f0.2 1 _ rfl).1
  have a2 : w2.cell? ⟨w1.heap.size + 1, 2, none⟩ = some (.int .i64 0) := (f0.2 2 _ rfl).1
  have a3 := (f0.2 3 _ rfl).1
  have al := f0.1
  have al2 : w1.heap.size + 1 < w2.heap.size + 1 := by omega
  have al3 : w1.heap.size < w2.heap.size := by omega
  have an3 : ¬ w1.heap.size = w2.heap.size := by omega
  have an1 : ¬ w1.heap.size + 1 = w2.heap.size := by omega
  clear hb2 hTr x0 f0
  rw [show faultV E 0 0 A = Value.agg #[.int .i64 (E : Int), .int .i64 0, .int .i64 0, .int .i64 (A : Int)] from rfl]
  go_wp2_with fail
  refine (HS.out _).mono ?_
  rintro e w3 ⟨rfl, hb3⟩
  have hw3 := hb3.size
  simp only [World.size_alloc] at hw3
  have hb23 : Below w2.heap.size w2 w3 := Below.behind (((Below.refl _ _).alloc (Nat.le_refl _) _).alloc (by simp) _) hb3
  have y0 := ((Held.fresh w2 [.bool l', .string tx', .slice p' m' c', .int .i64 (fr' : Int), .int .i64 (en' : Int)] 288).alloc (.cells #[.int .i64 (E : Int), .int .i64 0, .int .i64 0, .int .i64 (A : Int)] 66)).below hb3
  have A3 : Aside (Below w1.heap.size w1 w3 ∧ RTree encR 7 w3 ⟨fr', en', l', tx', .slice p' m' c'⟩ R ∧ Held w3 w1.heap.size [.bool l, .string tx, .slice p m c] ∧ w1.heap.size < w3.heap.size) := ⟨Below.behind A2.out.1 hb23, A2.out.2.1.below hb23, A2.out.2.2.1.below hb23, by have := A2.out.2.2.2; omega⟩
  have HPl : Hid (∀ W, Below w3.heap.size w3 W → Calls Tryz.prog 168 #[.agg #[.bool l', .string tx', .slice p' m' c', .int .i64 (fr' : Int), .int .i64 (en' : Int)]] W (MadeSaid 7 R W)) := fun W hW => plain_any 7 ⟨fr', en', l', tx', .slice p' m' c'⟩ R W (A3.out.2.1.below hW) (by have := HB.out.2.2.2; omega)
  have HSI : Hid (∀ W l2 tx2 p2 m2 c2, Below w3.heap.size w3 W → RTree encI 7 W ⟨0, 0, l2, tx2, .slice p2 m2 c2⟩ R → Calls Tryz.prog 115 #[.agg #[.bool l, .string tx, .slice p m c], .agg #[.bool l2, .string tx2, .slice p2 m2 c2]] W (TrueSaid W)) := fun W l2 tx2 p2 m2 c2 hW hr => same_any 7 7 ⟨0, 0, l, tx, .slice p m c⟩ ⟨0, 0, l2, tx2, .slice p2 m2 c2⟩ R W ((A1.out.2.below (Below.behind A3.out.1 hW)).read) hr (by have := HB.out.2.2.2; omega)
  have x0 := (A3.out.2.2.1.2 0 _ rfl).1
  have x1 := (A3.out.2.2.1.2 1 _ rfl).1
  have x2 := (A3.out.2.2.1.2 2 _ rfl).1
  have xl := A3.out.2.2.2
  have z0 := (y0.2 0 _ rfl).1
  have z1 := (y0.2 1 _ rfl).1
  have z2 := (y0.2 2 _ rfl).1
  have z3 := (y0.2 3 _ rfl).1
  have z4 := (y0.2 4 _ rfl).1
  have zl := y0.1
  clear hb3 hb23 y0 a0 a1 a2 a3 al al2 al3 an1 an3 A2
  go_upto_region 4 with fail
  go_cut [10] (fun v wc => v = .bool true ∧ Below w3.heap.size w3 wc)
  case first =>
    go_region_law
      (first
        | (go_simp; go_at_call 168; refine (HPl.out _ ?_).mono ?_; exact (Below.refl _ _).drew; rintro e w4 ⟨hb4, l2, tx2, p2, m2, c2, rfl, hT4⟩; have AP : Aside (Below w3.heap.size w3 w4 ∧ RTree encI 7 w4 ⟨0, 0, l2, tx2, .slice p2 m2 c2⟩ R) := ⟨Below.undrew hb4, hT4.read⟩; have v0 := (AP.out.1.cell (p := ⟨w1.heap.size, 0, none⟩) xl).trans x0; have v1 := (AP.out.1.cell (p := ⟨w1.heap.size, 1, none⟩) xl).trans x1; have v2 := (AP.out.1.cell (p := ⟨w1.heap.size, 2, none⟩) xl).trans x2; clear hb4 hT4; go_simp)
        | (go_simp; go_at_call 115; refine (HSI.out _ _ _ _ _ _ AP.out.1 AP.out.2).mono ?_; rintro e w5 ⟨rfl, hb5⟩; have AS : Aside (Below w3.heap.size w3 w5) := Below.behind AP.out.1 hb5; clear hb5; go_simp))
    all_goals (try go_wp2)
    all_goals go_meet
    all_goals exact ⟨rfl, AS.out⟩
  case rest =>
    obtain ⟨rfl, hbc⟩ := hcut
    have AB : Aside (Below w.heap.size w wc ∧ w1.heap.size ≤ wc.heap.size) := ⟨Below.behind A1.out.1 (Below.behind A3.out.1 hbc), Nat.le_trans A3.out.1.size hbc.size⟩
    have c2 := (hbc.cell (p := ⟨w1.heap.size, 2, none⟩) xl).trans x2
    have HK : Hid (∀ W, Below wc.heap.size wc W → Calls Tryz.prog 169 #[.pointer (some ⟨bw, 3, none⟩), .slice p m c] W fun e w' => e = .returned (.tuple #[]) ∧ KeepSaid bw (fun k => w.heap.size ≤ k) es v N 4096 w w') := fun W hW => by
      have hwW : Below w.heap.size w W := Below.behind AB.out.1 hW
      have h1 := HB.out
      have h2 := hW.size
      have h3 := AB.out.2
      refine (keep_any bw 7 w.heap.size w1.heap.size ⟨0, 0, l, tx, .slice p m c⟩ R es v N W (A1.out.2.below (Below.behind A3.out.1 (Below.behind hbc hW))) ⟨h1.1.below hwW, hbl, by omega, fun k hk h => by have := (h1.1.own.block k hk).2; omega, fun e he k hk h => by have := ((h1.1.ents e he).ap k hk).2.1; omega⟩ A1.out.1.size (by omega) (by omega) (by omega)).mono ?_
      rintro e w' ⟨he, hk⟩
      exact ⟨he, KeepSaid.after hwW hbl hk (fun k h => h.1) h1.2.2.2⟩
    clear hbc
    go_wp2_with fail
    go_region_law
      (go_simp; go_at_call 169; refine (HK.out _ ?_).mono ?_; exact (Below.refl _ _).drew; rintro e w5 ⟨rfl, hk5⟩; have AK : Aside (KeepSaid bw (fun k => w.heap.size ≤ k) es v N 4096 w w5) := hk5; clear hk5; go_simp)
    all_goals (try go_wp2)
    all_goals go_ret
    all_goals exact ⟨rfl, AK.out⟩
end Go.Proofs.YtjiikjpnlgogfaaGreatDoor
