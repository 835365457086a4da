/-
  twigslaw: codes: a step's answer is the document's: Pack, Unpack, EncodeAccount.
  twigslaw: codes: DecodeAccount.
  twigslaw.Codes: every step on codes answers as the document says: the walk.
-/
import Derived.Test.YtjiikjpnlgogfaaGreatDoorPackBad
import Derived.Test.YtjiikjpnlgogfaaGreatDoorRefAccW
import Derived.Test.YtjiikjpnlgogfaaGreatDoorRefAcc
import Derived.Test.YtjiikjpnlgogfaaGreatDoorDecoded
import Derived.Test.YtjiikjpnlgogfaaGreatDoorDeRG
import Derived.Test.YtjiikjpnlgogfaaGreatDoorSamG
import Derived.Stop.BytesEq
namespace Go.Proofs.YtjiikjpnlgogfaaGreatDoor
open Go.RowKit

/-- A step, as it is handed in: its kind, text, flag, item, account. -/
structure OpX (C : Array Value) (kd : Int) (s : ByteArray) (fl : Bool) (x : El) (a : Acc) : Prop where
  size : C.size = 160
  k : C[0]? = some (.int .i64 kd)
  tx : C[67]? = some (.string s)
  fg : C[68]? = some (.bool fl)
  x0 : C[71]? = some (.bool x.lst)
  x1 : C[72]? = some (.string x.text)
  x2 : C[73]? = some x.sub
  ac : ∀ j v, (accL a)[j]? = some v → C[74 + j]? = some v
  ok : a.ok

theorem opCell {C : Array Value} {j : Nat} {v : Value} (h : C[j]? = some v) (w : World) (t : TypeId) : (w.alloc (.cells C t)).cell? ⟨w.heap.size, j, none⟩ = some v := by
  rw [World.cell?_alloc_new]
  exact h
theorem opLater {C : Array Value} {j : Nat} {v : Value} (h : C[j]? = some v) {w w1 : World} {t : TypeId} (hb : Below (w.alloc (.cells C t)).heap.size (w.alloc (.cells C t)) w1) : w1.cell? ⟨w.heap.size, j, none⟩ = some v := (newCell hb j h).1

set_option maxRecDepth 100000 in
set_option maxHeartbeats 3200000 in
theorem codes7 {C : Array Value} {s : ByteArray} {fl : Bool} {x : El} {a : Acc} (bw : Nat) (sent : Nat → Addr) (w : World) (hC : OpX C 7 s fl x a) (hF : Faults w sent) (hs : s.size ≤ 1048576) :
    Calls Tryz.prog 64 #[.pointer (some ⟨bw, 0, none⟩), .agg C] w (TrueSaid w) := by
  have k0 := opCell hC.k w 102
  have k1 := opCell hC.tx w 102
  have k2 := opCell hC.fg w 102
  have H1 : Hid (∀ W, Below w.heap.size w W → Calls Tryz.prog 51 #[.string s, .bool fl] W fun e w' => e = .returned (.tuple #[.string (textB (packF (bytesOf s) fl).1), .int .i64 (((packF (bytesOf s) fl).2 : Nat) : Int)]) ∧ Below W.heap.size W w') := fun W hW => tpack_any s fl sent W (hF.below hW) (by omega)
  have H2 : Hid (∀ W, Calls Tryz.prog 117 #[.string s, .bool fl] W fun e w' => e = .returned (.tuple #[.string (textB (packF (bytesOf s) fl).1), .int .i64 (((packF (bytesOf s) fl).2 : Nat) : Int)]) ∧ Below W.heap.size W w') := fun W => rpack_any s fl W (by omega)
  obtain ⟨t, ht⟩ : ∃ t, textB (packF (bytesOf s) fl).1 = t := ⟨_, rfl⟩
  obtain ⟨n, hn⟩ : ∃ n, (((packF (bytesOf s) fl).2 : Nat) : Int) = n := ⟨_, rfl⟩
  rw [ht, hn] at H1
  simp only [ht, hn] at H2
  have HC := Hid.hide hC
  clear ht hn hC hF hs
  go_enter Tryz.func64, Tryz.ntmps64
  go_wp2_with fail
  refine (H1.out _ ((Below.refl _ _).alloc (Nat.le_refl _) _)).mono ?_
  rintro e w1 ⟨rfl, hb1⟩
  have m1 := opLater HC.out.tx hb1
  have m2 := opLater HC.out.fg hb1
  have A1 : Aside (Below w.heap.size w w1) := Below.up hb1
  clear hb1
  go_wp2_with fail
  refine (H2.out _).mono ?_
  rintro e w2 ⟨rfl, hb2⟩
  have A2 : Aside (Below w.heap.size w w2) := Below.behind A1.out hb2
  clear hb2
  go_wp2
  go_ret
  exact ⟨rfl, A2.out⟩

set_option maxRecDepth 100000 in
set_option maxHeartbeats 3200000 in
theorem codes8 {C : Array Value} {s : ByteArray} {fl : Bool} {x : El} {a : Acc} (bw : Nat) (sent : Nat → Addr) (w : World) (hC : OpX C 8 s fl x a) (hF : Faults w sent) (hs : s.size ≤ 1048576) :
    Calls Tryz.prog 64 #[.pointer (some ⟨bw, 0, none⟩), .agg C] w (TrueSaid w) := by
  have k0 := opCell hC.k w 102
  have k1 := opCell hC.tx w 102
  obtain ⟨t, b, n, H1, H2⟩ : ∃ (t : ByteArray) (b : Bool) (n : Int), Hid (∀ W, Below w.heap.size w W → Calls Tryz.prog 118 #[.string s] W fun e w' => e = .returned (.tuple #[.string t, .bool b, .int .i64 n]) ∧ Below W.heap.size W w') ∧ Hid (∀ W, Calls Tryz.prog 119 #[.string s] W fun e w' => e = .returned (.tuple #[.string t, .bool b, .int .i64 n]) ∧ Below W.heap.size W w') := by
    cases hu : unpackF (bytesOf s) with
    | none => exact ⟨⟨#[]⟩, false, 3, fun W hW => tunpack_none s sent W (hF.below hW) hu, fun W => (runpack_any s W (by omega)).mono fun e w' h => ⟨h.1.2 hu, h.2⟩⟩
    | some q =>
      obtain ⟨q, lf⟩ := q
      exact ⟨textB q, lf, 0, fun W _ => tunpack_some s W (by omega) q lf hu, fun W => (runpack_any s W (by omega)).mono fun e w' h => ⟨h.1.1 q lf hu, h.2⟩⟩
  have HC := Hid.hide hC
  clear hC hF hs
  go_enter Tryz.func64, Tryz.ntmps64
  go_wp2_with fail
  refine (H1.out _ ((Below.refl _ _).alloc (Nat.le_refl _) _)).mono ?_
  rintro e w1 ⟨rfl, hb1⟩
  have m1 := opLater HC.out.tx hb1
  have A1 : Aside (Below w.heap.size w w1) := Below.up hb1
  clear hb1
  go_wp2_with fail
  refine (H2.out _).mono ?_
  rintro e w2 ⟨rfl, hb2⟩
  have A2 : Aside (Below w.heap.size w w2) := Below.behind A1.out hb2
  clear hb2
  go_wp2
  go_ret
  exact ⟨rfl, A2.out⟩

set_option maxRecDepth 100000 in
set_option maxHeartbeats 3200000 in
theorem codes9 {C : Array Value} {s : ByteArray} {fl : Bool} {x : El} {a : Acc} (bw : Nat) (w : World) (hC : OpX C 9 s fl x a) :
    Calls Tryz.prog 64 #[.pointer (some ⟨bw, 0, none⟩), .agg C] w (TrueSaid w) := by
  have k0 := opCell hC.k w 102
  have H1 := Hid.hide (fun W => tencacc a hC.ok W)
  have H2 := Hid.hide (fun W => rencacc_any a hC.ok W)
  have hr : (w.alloc (.cells C 102)).rangeAt w.heap.size 74 (accL a) := fun j v hv => opCell (hC.ac j v hv) w _
  have HR : Hid (∀ w1, Below (w.alloc (.cells C 102)).heap.size (w.alloc (.cells C 102)) w1 → w1.rangeAt w.heap.size 74 (accL a)) := fun w1 hb j v hv => opLater (hC.ac j v hv) hb
  have hzL : (Tryz.prog.info? 85).map (·.size) = some (accL a).length := by rw [accL_length hC.ok.2.2.1 hC.ok.2.2.2.1]; exact zeroA_size
  obtain ⟨t, ht⟩ : ∃ t, textB (encAcc a) = t := ⟨_, rfl⟩
  simp only [ht] at H1 H2
  obtain ⟨L, hL⟩ : ∃ L, accL a = L := ⟨_, rfl⟩
  simp only [hL] at H1 H2 HR
  rw [hL] at hr hzL
  clear ht hC hL
  go_enter Tryz.func64, Tryz.ntmps64
  go_wp2_with (refine wpList_load_mid rfl 85 _ rfl w.heap.size 74 rfl L _ hr Tryz.underlying85 rfl hzL ?_)
  refine (H1.out _).mono ?_
  rintro e w1 ⟨rfl, hb1⟩
  have hr1 := HR.out w1 hb1
  have A1 : Aside (Below w.heap.size w w1) := Below.up hb1
  clear hb1
  go_wp2_with (refine wpList_load_mid rfl 85 _ rfl w.heap.size 74 rfl L _ hr1 Tryz.underlying85 rfl hzL ?_)
  refine (H2.out _).mono ?_
  rintro e w2 ⟨rfl, hb2⟩
  have A2 : Aside (Below w.heap.size w w2) := Below.behind A1.out hb2
  clear hb2 hr1
  go_wp2
  go_ret
  exact ⟨rfl, A2.out⟩

set_option maxRecDepth 100000 in
set_option maxHeartbeats 3200000 in
theorem codes6 {C : Array Value} {s : ByteArray} {fl : Bool} {x : El} {a : Acc} (bw : Nat) (w : World) (Q : World → Prop) (hC : OpX C 6 s fl x a)
    (hD : Calls Tryz.prog 116 #[.pointer (some ⟨bw, 0, none⟩), .string s] (w.alloc (.cells C 102)) fun e w' => e = .returned (.bool true) ∧ Q w') :
    Calls Tryz.prog 64 #[.pointer (some ⟨bw, 0, none⟩), .agg C] w fun e w' => e = .returned (.bool true) ∧ Q w' := by
  have k0 := opCell hC.k w 102
  have k1 := opCell hC.tx w 102
  have HD := Hid.hide hD
  clear hC hD
  go_enter Tryz.func64, Tryz.ntmps64
  go_wp2_with fail
  refine HD.out.mono ?_
  rintro e w1 ⟨rfl, hq⟩
  have HQ := Hid.hide hq
  clear hq
  go_wp2
  go_ret
  exact ⟨rfl, HQ.out⟩

set_option maxRecDepth 100000 in
set_option maxHeartbeats 3200000 in
theorem codes5 {C : Array Value} {s : ByteArray} {fl : Bool} {x : El} {a : Acc} (bw n : Nat) (r : Raw) (sent : Nat → Addr) (w : World) (hC : OpX C 5 s fl x a) (hF : Faults w sent) (hx : RTree encI n w x r) (hr : r.size ≤ 1048576) :
    Calls Tryz.prog 64 #[.pointer (some ⟨bw, 0, none⟩), .agg C] w (TrueSaid w) := by
  obtain ⟨p, m, c, hs⟩ := hx.shape
  obtain ⟨fr, en, l, tx, sub⟩ := x
  simp only at hs
  subst hs
  have k0 := opCell hC.k w 102
  have k1 := opCell hC.x0 w 102
  have k2 := opCell hC.x1 w 102
  have k3 := opCell hC.x2 w 102
  simp only at k1 k2 k3
  have H1 : Hid (∀ W, Below w.heap.size w W → Calls Tryz.prog 113 #[.agg #[.bool l, .string tx, .slice p m c]] W (MadeSaid n r W)) := fun W hW => copied_any n ⟨fr, en, l, tx, .slice p m c⟩ r W (hx.below hW) hr
  have H2 : Hid (∀ W lo hi l2 tx2 p2 m2 c2, Below w.heap.size w W → TreeS n W lo hi ⟨0, 0, l2, tx2, .slice p2 m2 c2⟩ r → Calls Tryz.prog 23 #[.agg #[.bool l2, .string tx2, .slice p2 m2 c2]] W (LookSaid (.tuple #[.string (textB (encR' r).1), .int .i64 ((encR' r).2 : Int)]) W)) := fun W lo hi l2 tx2 p2 m2 c2 hW ht => tencR_any n lo hi ⟨0, 0, l2, tx2, .slice p2 m2 c2⟩ r sent W ht hr (hF.below hW)
  have H3 : Hid (∀ W, Below w.heap.size w W → Calls Tryz.prog 114 #[.agg #[.bool l, .string tx, .slice p m c]] W (LookSaid (.tuple #[.string (textB (encR' r).1), .int .i64 ((encR' r).2 : Int)]) W)) := fun W hW => rencode_any n ⟨fr, en, l, tx, .slice p m c⟩ r W (hx.below hW) hr
  have H4 : Hid (∀ W lo hi l2 tx2 p2 m2 c2, Below w.heap.size w W → TreeS n W lo hi ⟨0, 0, l2, tx2, .slice p2 m2 c2⟩ r → Calls Tryz.prog 115 #[.agg #[.bool l2, .string tx2, .slice p2 m2 c2], .agg #[.bool l, .string tx, .slice p m c]] W (TrueSaid W)) := fun W lo hi l2 tx2 p2 m2 c2 hW ht => same_any n n ⟨0, 0, l2, tx2, .slice p2 m2 c2⟩ ⟨fr, en, l, tx, .slice p m c⟩ r W ht.read (hx.below hW) hr
  obtain ⟨t, ht⟩ : ∃ t, textB (encR' r).1 = t := ⟨_, rfl⟩
  obtain ⟨q, hq⟩ : ∃ q, ((encR' r).2 : Int) = q := ⟨_, rfl⟩
  simp only [ht, hq] at H2 H3
  have HC := Hid.hide hC
  clear ht hq hC hF hx hr
  go_enter Tryz.func64, Tryz.ntmps64
  go_wp2_with fail
  refine (H1.out _ ((Below.refl _ _).alloc (Nat.le_refl _) _)).mono ?_
  rintro e w1 ⟨hb1, l2, tx2, p2, m2, c2, rfl, hT⟩
  have hc1 := opLater HC.out.x0 hb1
  have hc2 := opLater HC.out.x1 hb1
  have hc3 := opLater HC.out.x2 hb1
  simp only at hc1 hc2 hc3
  have hs1 := hb1.size
  rw [World.size_alloc] at hs1
  have A1 : Aside (Below w.heap.size w w1 ∧ TreeS n w1 (w.alloc (.cells C 102)).heap.size w1.heap.size ⟨0, 0, l2, tx2, .slice p2 m2 c2⟩ r) := ⟨Below.up hb1, hT⟩
  have bl : w.heap.size < w1.heap.size := by omega
  clear hb1 hT hs1
  go_wp2_with fail
  refine (H2.out _ _ _ _ _ _ _ _ (A1.out.1.alloc A1.out.1.size _) (A1.out.2.below ((Below.refl _ _).alloc (Nat.le_refl _) _))).mono ?_
  rintro e w2 ⟨rfl, hb2⟩
  have d1 := ((hb2.cell (p := ⟨w.heap.size, 71, none⟩) (by simp; omega)).trans (World.cell?_alloc_past _ _ _ bl)).trans hc1
  have d2 := ((hb2.cell (p := ⟨w.heap.size, 72, none⟩) (by simp; omega)).trans (World.cell?_alloc_past _ _ _ bl)).trans hc2
  have d3 := ((hb2.cell (p := ⟨w.heap.size, 73, none⟩) (by simp; omega)).trans (World.cell?_alloc_past _ _ _ bl)).trans hc3
  obtain ⟨y0, _⟩ := newCell hb2 0 (v := .bool l2) rfl
  obtain ⟨y1, _⟩ := newCell hb2 1 (v := .string tx2) rfl
  obtain ⟨y2, _⟩ := newCell hb2 2 (v := .slice p2 m2 c2) rfl
  have hs2 := hb2.size
  rw [World.size_alloc] at hs2
  have A2 : Aside (Below w1.heap.size w1 w2) := Below.up hb2
  have bl2 : w.heap.size < w2.heap.size := by omega
  have yl2 : w1.heap.size < w2.heap.size := by omega
  clear hb2 hc1 hc2 hc3 hs2
  go_wp2_with fail
  refine (H3.out _ (Below.behind A1.out.1 A2.out)).mono ?_
  rintro e w3 ⟨rfl, hb3⟩
  have f1 := (hb3.cell (p := ⟨w.heap.size, 71, none⟩) bl2).trans d1
  have f2 := (hb3.cell (p := ⟨w.heap.size, 72, none⟩) bl2).trans d2
  have f3 := (hb3.cell (p := ⟨w.heap.size, 73, none⟩) bl2).trans d3
  have g0 := (hb3.cell (p := ⟨w1.heap.size, 0, none⟩) yl2).trans y0
  have g1 := (hb3.cell (p := ⟨w1.heap.size, 1, none⟩) yl2).trans y1
  have g2 := (hb3.cell (p := ⟨w1.heap.size, 2, none⟩) yl2).trans y2
  have A3 : Aside (Below w1.heap.size w1 w3) := Below.behind A2.out hb3
  clear hb3 d1 d2 d3 y0 y1 y2
  go_wp2_with fail
  refine (H4.out _ _ _ _ _ _ _ _ (Below.behind A1.out.1 A3.out) (A1.out.2.below A3.out)).mono ?_
  rintro e w4 ⟨rfl, hb4⟩
  have A4 : Aside (Below w.heap.size w w4) := Below.behind (Below.behind A1.out.1 A3.out) hb4
  clear hb4
  go_wp2
  go_ret
  exact ⟨rfl, A4.out⟩
end Go.Proofs.YtjiikjpnlgogfaaGreatDoor

namespace Go.Proofs.YtjiikjpnlgogfaaGreatDoor
open Go.RowKit

def offOf : Value → Nat
  | .pointer (some p) => p.off
  | _ => 0
@[simp] theorem offOf_pointer (b o : Nat) : offOf (.pointer (some ⟨b, o, none⟩)) = o := rfl
/-- So many cells from there on, one behind the other. -/
def cellsFrom (w : World) (b o n : Nat) : Array Value := ((List.range n).map fun j => (w.cell? ⟨b, o + j, none⟩).getD undef).toArray
def HasFrom (w : World) (b o n : Nat) : Prop := ∀ j, j < n → (w.cell? ⟨b, o + j, none⟩).isSome = true

theorem wp_load_hashFrom (dst : Option Tmp) (x : Operand) (type : TypeId) (pos : String) (af : Array Edge) (gd : Option (Nat × Bool)) (a : Act) (w : World) (K : Act → World → Prop) (Q : Exit → Act → World → Prop)
    (hx : a.eval x = .pointer (some ⟨blockOf (a.eval x), offOf (a.eval x), none⟩)) (hall : HasFrom w (blockOf (a.eval x)) (offOf (a.eval x)) 32) :
    Oper.wp Tryz.prog { dst := dst, op := .load 34 x, type := type, pos := pos, after := af, guard := gd } a w K Q = K (a.put dst (.agg (cellsFrom w (blockOf (a.eval x)) (offOf (a.eval x)) 32))) w := by
  generalize blockOf (a.eval x) = b at hx hall ⊢
  generalize offOf (a.eval x) = o at hx hall ⊢
  have hr : w.rangeAt b o ((List.range 32).map fun j => (w.cell? ⟨b, o + j, none⟩).getD undef) := by
    intro j v hv
    have hj : j < 32 := by
      have := (List.getElem?_eq_some_iff.1 hv).1
      simpa using this
    obtain ⟨u, hu⟩ := Option.isSome_iff_exists.1 (hall j hj)
    simp only [List.getElem?_map, List.getElem?_range hj, Option.map_some, Option.some.injEq] at hv
    rw [hu, ← hv, hu]
    rfl
  unfold Oper.wp execOp
  simp only [hx, Instr.loadAt, Instr.sureAddr, Sem.run_bind, Sem.run_pure, Result.andThen_ok, run_loadVar_mid w b o 34 _ _ hr Tryz.underlying34 rfl (by rw [size28]; simp)]
  rfl
theorem from_range {w : World} {b o : Nat} {l : List Value} (h : w.rangeAt b o l) (hl : l.length = 32) : cellsFrom w b o 32 = l.toArray ∧ HasFrom w b o 32 := by
  refine ⟨?_, fun j hj => by rw [h j _ (List.getElem?_eq_getElem (by omega))]; rfl⟩
  unfold cellsFrom
  congr 1
  refine List.ext_getElem (by simp [hl]) fun i h1 h2 => ?_
  have := h i _ (List.getElem?_eq_getElem h2)
  simp [this]
theorem acc_quarters {W : World} {b : Nat} {a : Acc} (h : W.rangeAt b 0 (accL a)) (ha : a.ok) : W.cell? ⟨b, 0, none⟩ = some (.int .u64 (a.nonce : Int)) ∧ W.cell? ⟨b, 1, none⟩ = some (.int .u64 (a.bal : Int)) ∧ W.rangeAt b 2 (a.root.map encB) ∧ W.rangeAt b 34 (a.code.map encB) := by
  obtain ⟨h2, h3⟩ := ra_rng h ha
  have h0 := h 0 _ rfl
  have h1 := h 1 _ rfl
  rw [Nat.zero_add] at h0 h1
  exact ⟨h0, h1, h2, h3⟩

/-- An account and a fault, each laid into a block of its own. -/
theorem pair_laid {w1 w2 : World} {C D : Array Value} {L M : List Value} {t u : TypeId} (h : (((w1.alloc (.cells C t)).alloc (.cells D u)).setCells w1.heap.size 0 L).setCells (w1.heap.size + 1) 0 M = w2) (hC : L.length = C.size) (hD : M.length = D.size) : Below w1.heap.size w1 w2 ∧ w2.rangeAt w1.heap.size 0 L ∧ w2.rangeAt (w1.heap.size + 1) 0 M ∧ w2.heap.size = w1.heap.size + 2 := by
  have t1 : ((w1.alloc (.cells C t)).alloc (.cells D u)).there w1.heap.size 0 L.length := there_block (there_new _ _ _ _ hC) (Below.heap_alloc _ _ _ (by simp))
  have t2 : ((w1.alloc (.cells C t)).alloc (.cells D u)).there (w1.heap.size + 1) 0 M.length := by
    have := there_new (w1.alloc (.cells C t)) D u M.length hD
    rw [World.size_alloc] at this
    exact this
  have hb : Below w1.heap.size w1 ((w1.alloc (.cells C t)).alloc (.cells D u)) := ((Below.refl _ _).alloc (Nat.le_refl _) _).alloc (by simp) _
  rw [← h]
  refine ⟨below_setCells (below_setCells hb (Nat.le_refl _) _ _) (Nat.le_succ _) _ _, fun j v hv => ?_, World.rangeAt_setCells_same _ _ _ _ (World.there_setCells t2 _ _ _), ?_⟩
  · exact (World.cell?_of_block (heap_setCells _ _ _ _ _ (show w1.heap.size ≠ w1.heap.size + 1 by omega))).trans (World.rangeAt_setCells_same _ _ _ _ t1 j v hv)
  · rw [(size_setCells _ _ _ _).1, (size_setCells _ _ _ _).1]
    simp

theorem hash_same (d : Nat) (l : List Nat) (hl : l.length = 32) (hb : ∀ x ∈ l, x < 256) (w : World) : (Op.equalIn (d + 2) 34 (.agg (l.map encB).toArray) (.agg (l.map encB).toArray)).run Tryz.prog w = .ok true w := by
  have e : l.map encB = (l.map UInt8.ofNat).map Extern.Stop.cell := by
    rw [List.map_map]
    apply List.map_congr_left
    intro x hx
    have hlt := hb x hx
    show Value.int .u8 _ = Value.int .u8 _
    congr 1
    simp
    omega
  have hs5 : ∀ w, (sizeOf 5).run Tryz.prog w = .ok 1 w := fun w => by
    have h := size5
    cases hq : Tryz.prog.info? 5 with
    | none => rw [hq] at h; cases h
    | some i =>
      rw [hq] at h
      have hi : i.size = 1 := by simpa using h
      simp [sizeOf, typeInfo, hq, hi]
  have h := run_equalIn_bytes (P := Tryz.prog) w d 34 5 32 Tryz.underlying34 Tryz.underlying5 hs5 (l.map UInt8.ofNat) (l.map UInt8.ofNat) (by simp [hl]) (by simp [hl])
  rw [← e] at h
  rw [h]
  simp

theorem zeroAcc_ok : zeroAcc.ok := ⟨by decide, by decide, by decide, by decide, by decide, by decide⟩

/-- Both packages' DecodeAccount, told as one. -/
theorem both_acc (s : ByteArray) (sent : Nat → Addr) (w : World) (hF : Faults w sent) (hT : typeAt w) : ∃ (A : Acc) (E T : Nat), A.ok ∧ (∀ W, Below w.heap.size w W → Calls Tryz.prog 121 #[.string s] W fun e w' => Below W.heap.size W w' ∧ e = .returned (.tuple #[.agg (accL A).toArray, faultV E 0 0 T])) ∧ ∀ W, Calls Tryz.prog 122 #[.string s] W fun e w' => Below W.heap.size W w' ∧ e = .returned (.tuple #[.agg (accL A).toArray, faultV E 0 0 T]) := by
  cases h : accF (bytesOf s) with
  | error er =>
    obtain ⟨_, _, q3, q4⟩ := accF_error (byte_lt s) h
    have hlg : 12 < w.heap.size := World.block_lt_of_cell? w _ hT
    refine ⟨zeroAcc, er.num, er.at_, zeroAcc_ok, fun W hW => ?_, fun W => (rdecacc_any s W).mono fun e w' h1 => ⟨h1.2, h1.1.1 er h⟩⟩
    have := tdecacc_err s sent W (hF.below hW) ((hW.cell (p := ⟨12, 0, none⟩) hlg).trans hT) h
    rw [q3, q4] at this
    exact this
  | ok a =>
    obtain ⟨ha, _⟩ := accF_ok (byte_lt s) h
    exact ⟨a, 0, 0, ha, fun W hW => tdecacc_ok s sent W (hF.below hW) h, fun W => (rdecacc_any s W).mono fun e w' h1 => ⟨h1.2, h1.1.2 a h⟩⟩

attribute [local go_sem ↓] wp_load_hashFrom

set_option maxRecDepth 100000 in
set_option maxHeartbeats 12800000 in
theorem codes10 {C : Array Value} {s : ByteArray} {fl : Bool} {x : El} {a : Acc} (bw : Nat) (sent : Nat → Addr) (w : World) (hC : OpX C 10 s fl x a) (hF : Faults w sent) (hT : typeAt w) :
    Calls Tryz.prog 64 #[.pointer (some ⟨bw, 0, none⟩), .agg C] w (TrueSaid w) := by
  have k0 := opCell hC.k w 102
  have k1 := opCell hC.tx w 102
  obtain ⟨A, E, T, hok, h1, h2⟩ := both_acc s sent w hF hT
  have H1 := Hid.hide h1
  have H2 := Hid.hide h2
  have hl66 : (accL A).length = 66 := accL_length hok.2.2.1 hok.2.2.2.1
  have HA : Hid (∀ (W : World) (b : Nat), W.rangeAt b 0 (accL A) → W.cell? ⟨b, 0, none⟩ = some (.int .u64 (A.nonce : Int)) ∧ W.cell? ⟨b, 1, none⟩ = some (.int .u64 (A.bal : Int)) ∧ W.rangeAt b 2 (A.root.map encB) ∧ W.rangeAt b 34 (A.code.map encB)) := fun W b h => acc_quarters h hok
  have HE : Hid ((∀ W, Sem.run Tryz.prog (Op.equalIn 10000 34 (.agg (A.root.map encB).toArray) (.agg (A.root.map encB).toArray)) W = .ok true W) ∧ ∀ W, Sem.run Tryz.prog (Op.equalIn 10000 34 (.agg (A.code.map encB).toArray) (.agg (A.code.map encB).toArray)) W = .ok true W) := ⟨fun W => hash_same 9998 A.root hok.2.2.1 hok.2.2.2.2.1 W, fun W => hash_same 9998 A.code hok.2.2.2.1 hok.2.2.2.2.2 W⟩
  have HL : Hid ((A.root.map encB).length = 32 ∧ (A.code.map encB).length = 32) := ⟨by rw [List.length_map]; exact hok.2.2.1, by rw [List.length_map]; exact hok.2.2.2.1⟩
  have hAo := accL_one A
  have HSF : Hid (∀ W, Calls Tryz.prog 123 #[.agg #[.int .i64 (E : Int), .int .i64 0, .int .i64 0, .int .i64 (T : Int)], .agg #[.int .i64 (E : Int), .int .i64 0, .int .i64 0, .int .i64 (T : Int)]] W fun r w' => r = .returned (.bool true) ∧ Below W.heap.size W w') := fun W => sameFault_same E 0 0 T W
  obtain ⟨L, hL⟩ : ∃ L, accL A = L := ⟨_, rfl⟩
  obtain ⟨nn, hnn⟩ : ∃ nn, (A.nonce : Int) = nn := ⟨_, rfl⟩
  obtain ⟨nb, hnb⟩ : ∃ nb, (A.bal : Int) = nb := ⟨_, rfl⟩
  obtain ⟨Lr, hLr⟩ : ∃ Lr, A.root.map encB = Lr := ⟨_, rfl⟩
  obtain ⟨Lc, hLc⟩ : ∃ Lc, A.code.map encB = Lc := ⟨_, rfl⟩
  simp only [hL] at H1 H2
  simp only [hL, hnn, hnb, hLr, hLc] at HA HE HL
  rw [hL] at hl66 hAo
  have hzA : (Tryz.prog.info? 85).map (·.size) = some L.toArray.size := by rw [List.size_toArray, hl66]; exact zeroA_size
  have HC := Hid.hide hC
  clear hC hF hT h1 h2 hok hL hnn hnb hLr hLc
  go_enter Tryz.func64, Tryz.ntmps64
  go_wp2_with fail
  refine (H1.out _ ((Below.refl _ _).alloc (Nat.le_refl _) _)).mono ?_
  rintro e w1 ⟨hb1, rfl⟩
  have m1 := opLater HC.out.tx hb1
  have A1 : Aside (Below w.heap.size w w1) := Below.up hb1
  have ob1 : w.heap.size < w1.heap.size := by have := hb1.size; simp at this; omega
  have t1 : ∀ C D : Array Value, 66 = C.size → ((w1.alloc (.cells C 85)).alloc (.cells D 66)).there w1.heap.size 0 L.toArray.size := fun C D hC => there_block (there_new _ _ _ _ (by rw [List.size_toArray, hl66]; exact hC)) (Below.heap_alloc _ _ _ (by simp))
  have t2 : ∀ C D : Array Value, 4 = D.size → (((w1.alloc (.cells C 85)).alloc (.cells D 66)).setCells w1.heap.size 0 L).there (w1.heap.size + 1) 0 (faultL E T).toArray.size := fun C D hD => World.there_setCells (by
    have := there_new (w1.alloc (.cells C 85)) D 66 4 hD
    rw [World.size_alloc] at this
    exact this) _ _ _
  clear hb1
  rw [faultV_eq]
  go_upto_region 23 with (first
    | (refine wpList_store_mid rfl 85 _ _ rfl w1.heap.size 0 L.toArray rfl rfl (t1 _ _ rfl) hzA hAo ?_)
    | (refine wpList_store_mid rfl 66 _ _ rfl (w1.heap.size + 1) 0 (faultL E T).toArray rfl rfl (t2 _ _ rfl) faultSize (faultL_one E T) ?_))
  generalize hX : World.setCells (World.setCells _ w1.heap.size 0 L) (w1.heap.size + 1) 0 _ = w2
  obtain ⟨p1, p2, p3, p4⟩ := pair_laid hX (by rw [hl66]; rfl) rfl
  have n1 : w2.cell? ⟨w.heap.size, 67, none⟩ = some (.string s) := (p1.cell (p := ⟨w.heap.size, 67, none⟩) ob1).trans m1
  have A2 : Aside (Below w.heap.size w w2 ∧ w2.rangeAt w1.heap.size 0 L ∧ w2.rangeAt (w1.heap.size + 1) 0 (faultL E T) ∧ w2.heap.size = w1.heap.size + 2) := ⟨Below.behind A1.out p1, p2, p3, p4⟩
  clear hX p1 p2 p3 p4 t1 t2 m1
  go_wp2_with fail
  refine (H2.out _).mono ?_
  rintro e w3 ⟨hb3, rfl⟩
  have hs3 := hb3.size
  have q1 : w3.rangeAt w1.heap.size 0 L := range_below A2.out.2.1 (hb3.block _ (by have := A2.out.2.2.2; omega))
  have q2 : w3.rangeAt (w1.heap.size + 1) 0 (faultL E T) := range_below A2.out.2.2.1 (hb3.block _ (by have := A2.out.2.2.2; omega))
  have A3 : Aside (Below w.heap.size w w3 ∧ w3.rangeAt w1.heap.size 0 L ∧ w3.rangeAt (w1.heap.size + 1) 0 (faultL E T) ∧ w1.heap.size + 2 ≤ w3.heap.size) := ⟨Below.behind A2.out.1 hb3, q1, q2, by have := A2.out.2.2.2; omega⟩
  have t1 : ∀ C D : Array Value, 66 = C.size → ((w3.alloc (.cells C 85)).alloc (.cells D 66)).there w3.heap.size 0 L.toArray.size := fun C D hC => there_block (there_new _ _ _ _ (by rw [List.size_toArray, hl66]; exact hC)) (Below.heap_alloc _ _ _ (by simp))
  have t2 : ∀ C D : Array Value, 4 = D.size → (((w3.alloc (.cells C 85)).alloc (.cells D 66)).setCells w3.heap.size 0 L).there (w3.heap.size + 1) 0 (faultL E T).toArray.size := fun C D hD => World.there_setCells (by
    have := there_new (w3.alloc (.cells C 85)) D 66 4 hD
    rw [World.size_alloc] at this
    exact this) _ _ _
  clear hb3 hs3 q1 q2 n1
  rw [faultV_eq]
  go_upto_region 24 with (first
    | (refine wpList_store_mid rfl 85 _ _ rfl w3.heap.size 0 L.toArray rfl rfl (t1 _ _ rfl) hzA hAo ?_)
    | (refine wpList_store_mid rfl 66 _ _ rfl (w3.heap.size + 1) 0 (faultL E T).toArray rfl rfl (t2 _ _ rfl) faultSize (faultL_one E T) ?_))
  generalize hX : World.setCells (World.setCells _ w3.heap.size 0 L) (w3.heap.size + 1) 0 _ = w4
  obtain ⟨p1, p2, p3, p4⟩ := pair_laid hX (by rw [hl66]; rfl) rfl
  have r1 : w4.rangeAt w1.heap.size 0 L := range_below A3.out.2.1 (p1.block _ (by have := A3.out.2.2.2; omega))
  have r2 : w4.rangeAt (w1.heap.size + 1) 0 (faultL E T) := range_below A3.out.2.2.1 (p1.block _ (by have := A3.out.2.2.2; omega))
  have A4 : Aside (Below w.heap.size w w4 ∧ w4.rangeAt w1.heap.size 0 L ∧ w4.rangeAt w3.heap.size 0 L ∧ w1.heap.size < w4.heap.size ∧ w3.heap.size < w4.heap.size) := ⟨Below.behind A3.out.1 p1, r1, p2, by have := A3.out.2.2.2; omega, by omega⟩
  have fc : ∀ b, w4.rangeAt b 0 (faultL E T) → w4.cell? ⟨b, 0, none⟩ = some (.int .i64 (E : Int)) ∧ w4.cell? ⟨b, 1, none⟩ = some (.int .i64 0) ∧ w4.cell? ⟨b, 2, none⟩ = some (.int .i64 0) ∧ w4.cell? ⟨b, 3, none⟩ = some (.int .i64 (T : Int)) := fun b h => ⟨by simpa using h 0 _ rfl, by simpa using h 1 _ rfl, by simpa using h 2 _ rfl, by simpa using h 3 _ rfl⟩
  obtain ⟨c0, c1, c2, c3⟩ := fc _ r2
  obtain ⟨d0, d1, d2, d3⟩ := fc _ p3
  clear hX p1 p2 p3 p4 t1 t2 r1 r2 fc
  go_wp2_with fail
  refine (HSF.out _).mono ?_
  rintro e w5 ⟨rfl, hb5⟩
  obtain ⟨g0, g1, g2, g3⟩ := HA.out w5 _ (range_below A4.out.2.1 (hb5.block _ A4.out.2.2.2.1))
  obtain ⟨e0, e1, e2, e3⟩ := HA.out w5 _ (range_below A4.out.2.2.1 (hb5.block _ A4.out.2.2.2.2))
  obtain ⟨i0, j0⟩ := from_range g2 HL.out.1
  obtain ⟨i1, j1⟩ := from_range g3 HL.out.2
  obtain ⟨i2, j2⟩ := from_range e2 HL.out.1
  obtain ⟨i3, j3⟩ := from_range e3 HL.out.2
  have u1 := HE.out.1
  have u2 := HE.out.2
  have A5 : Aside (Below w.heap.size w w5) := Below.behind A4.out.1 hb5
  clear hb5 c0 c1 c2 c3 d0 d1 d2 d3 g2 g3 e2 e3
  go_wp2
  go_ret
  exact ⟨rfl, A5.out⟩
end Go.Proofs.YtjiikjpnlgogfaaGreatDoor

namespace Go.Proofs.YtjiikjpnlgogfaaGreatDoor
open Go.RowKit

theorem opSize : (Tryz.prog.info? 102).map (·.size) = some 160 := by kernel_rfl

theorem within_codes (k : Int) (w : World) :
    Calls Tryz.prog 44 #[.int .i64 k, .int .i64 5, .int .i64 10] w fun e w' => e = .returned (.bool (decide (5 ≤ k) && decide (k ≤ 10))) ∧ w' = w := by
  go_enter Tryz.func44, Tryz.ntmps44
  by_cases h1 : 5 ≤ k
  · by_cases h2 : k ≤ 10
    · go_wp2
      go_ret
      exact ⟨by simp [h1, h2], rfl⟩
    · go_wp2
      go_ret
      exact ⟨by simp [h2], rfl⟩
  · go_wp2
    go_ret
    exact ⟨by have hn : ¬ 5 ≤ k := by omega
              simp [hn], rfl⟩

set_option maxRecDepth 100000 in
set_option maxHeartbeats 3200000 in
theorem step_codes {C : Array Value} {kd : Int} {w : World} {bw : Nat} {R : World → Prop} (hs : C.size = 160) (hk : C[0]? = some (.int .i64 kd)) (h1 : 5 ≤ kd) (h4 : kd ≤ 10)
    (hcall : Calls Tryz.prog 64 #[.pointer (some ⟨bw, 0, none⟩), .agg C] (w.alloc (.cells C 102)) fun e w' => e = .returned (.bool true) ∧ R w') :
    Calls Tryz.prog 43 #[.pointer (some ⟨bw, 0, none⟩), .agg C] w fun e w' => e = .returned (.bool true) ∧ R w' := by
  have k0 := opCell hk w 102
  have hrg : (w.alloc (.cells C 102)).rangeAt w.heap.size 0 C.toList := fun j v hv => by
    rw [Nat.zero_add, World.cell?_alloc_new, ← hv]
    simp
  have hz : (Tryz.prog.info? 102).map (·.size) = some C.toList.length := by rw [opSize, Array.length_toList, hs]
  have HC : Hid (Calls Tryz.prog 64 #[.pointer (some ⟨bw, 0, none⟩), .agg C] (w.alloc (.cells C 102)) fun e w' => e = .returned (.bool true) ∧ R w') := hcall
  have h24 : kd ≤ 24 := by omega
  have h11 : ¬ kd ≤ 4 := by omega
  have h0 : 1 ≤ kd := by omega
  have h00 : ¬ kd < 1 := by omega
  clear hcall hk hs
  go_enter Tryz.func43, Tryz.ntmps43
  go_wp2_with (refine wpList_load_mid rfl 102 _ rfl w.heap.size 0 rfl C.toList _ hrg Tryz.underlying102 rfl hz ?_)
  refine HC.out.mono ?_
  rintro e w1 ⟨rfl, hR⟩
  have HR : Hid (R w1) := hR
  clear hR HC hrg
  go_wp2
  go_ret
  exact ⟨rfl, HR.out⟩

theorem keep_of_below {bw : Nat} {es : List Ent} {v : Value} {N : Nat} {w w' : World} (hB : Bk w bw es v N) (hb : Below w.heap.size w w') : KeepSaid bw (fun k => w.heap.size ≤ k) es v N 4096 w w' :=
  ⟨(Kept.of_below hB.lt hb).mono fun _ h => h.elim, [], v, N, by rw [List.append_nil]; exact hB.below hb, by omega, by simp, fun k hk => .inl hk, fun e he => by cases he⟩

/-- A STEP ON CODES: true, and the book is kept. -/
theorem code_step {C : Array Value} {kd : Int} {s : ByteArray} {fl : Bool} {x : El} {a : Acc} {n : Nat} {r : Raw} {w : World} {bw : Nat} {es : List Ent} {v : Value} {N : Nat} {sent : Nat → Addr} (hC : OpX C kd s fl x a) (h5 : 5 ≤ kd) (h10 : kd ≤ 10) (hF : Faults w sent) (hT : typeAt w) (hs : s.size ≤ 1048576) (hx : RTree encI n w x r) (hr : r.size ≤ 1048576) (hB : Bk w bw es v N) (hN : N + 4096 ≤ 8589934592) (hE : es.length + 4096 ≤ 8589934592) :
    Calls Tryz.prog 43 #[.pointer (some ⟨bw, 0, none⟩), .agg C] w fun e w' => e = .returned (.bool true) ∧ KeepSaid bw (fun k => w.heap.size ≤ k) es v N 4096 w w' := by
  refine step_codes hC.size hC.k h5 h10 ?_
  have hb0 : Below w.heap.size w (w.alloc (.cells C 102)) := (Below.refl _ _).alloc (Nat.le_refl _) _
  have hlg : 12 < w.heap.size := World.block_lt_of_cell? w _ hT
  have tyB : ∀ W, Below w.heap.size w W → typeAt W := fun W hW => (hW.cell (p := ⟨12, 0, none⟩) hlg).trans hT
  generalize w.alloc (.cells C 102) = w0 at hb0 ⊢
  have hF0 := hF.below hb0
  have hT0 := tyB w0 hb0
  have hx0 := hx.below hb0
  have hB0 := hB.below hb0
  have soft : Calls Tryz.prog 64 #[.pointer (some ⟨bw, 0, none⟩), .agg C] w0 (TrueSaid w0) → Calls Tryz.prog 64 #[.pointer (some ⟨bw, 0, none⟩), .agg C] w0 fun e w' => e = .returned (.bool true) ∧ KeepSaid bw (fun k => w.heap.size ≤ k) es v N 4096 w w' := fun h => h.mono fun e w' ⟨h1, h2⟩ => ⟨h1, keep_of_below hB (Below.behind hb0 h2)⟩
  by_cases e5 : kd = 5
  · subst e5
    exact soft (codes5 bw n r sent w0 hC hF0 hx0 hr)
  by_cases e6 : kd = 6
  · subst e6
    have hb1 : Below w.heap.size w (w0.alloc (.cells C 102)) := Below.behind hb0 ((Below.refl _ _).alloc (Nat.le_refl _) _)
    refine codes6 bw w0 _ hC ((decoded_any bw s sent es v N _ (hF.below hb1) (tyB _ hb1) (hB.below hb1) hN hE).mono fun e w' ⟨h1, h2⟩ => ⟨h1, ?_⟩)
    have hsz := hb1.size
    exact KeepSaid.after hb1 hB.lt h2 (fun k hk => Nat.le_trans hsz hk) (Nat.le_refl _)
  by_cases e7 : kd = 7
  · subst e7
    exact soft (codes7 bw sent w0 hC hF0 hs)
  by_cases e8 : kd = 8
  · subst e8
    exact soft (codes8 bw sent w0 hC hF0 hs)
  by_cases e9 : kd = 9
  · subst e9
    exact soft (codes9 bw w0 hC)
  · obtain rfl : kd = 10 := by omega
    exact soft (codes10 bw sent w0 hC hF0 hT0)

/-- The script as it lies in memory: n steps from the slice's address on. -/
def ScriptX (w : World) (adr : Option Addr) (n : Nat) : Prop :=
  ∀ i, i < n → ∃ sb so C kd s fl x a m r, adr = some ⟨sb, so, none⟩ ∧ sb < w.heap.size ∧ OpX C kd s fl x a ∧ s.size ≤ 1048576 ∧ RTree encI m w x r ∧ r.size ≤ 1048576 ∧ w.rangeAt sb (so + i * 160) C.toList

/-- What the steps keep. -/
structure Run (w wr : World) (x : Nat) : Prop where
  below : Below w.heap.size w wr
  c1 : wr.cell? ⟨w.heap.size, 1, none⟩ = some (.slice none 0 0)
  c3 : wr.cell? ⟨w.heap.size, 3, none⟩ = some (.slice none 0 0)
  bk : ∃ es v N, Bk wr w.heap.size es v N ∧ N ≤ x * 4096 ∧ es.length ≤ x * 4096

theorem Run.start (w : World) (t : TypeId) : Run w (w.alloc (.cells #[.slice none 0 0, .slice none 0 0, .slice none 0 0, .slice none 0 0, .slice none 0 0, .int .i64 0] t)) 0 :=
  ⟨(Below.refl _ _).alloc (Nat.le_refl _) _, by rw [World.cell?_alloc_new]; rfl, by rw [World.cell?_alloc_new]; rfl, [], .slice none 0 0, 0,
    ⟨⟨by rw [World.cell?_alloc_new]; rfl, World.frozen?_alloc_new _ _ _ _⟩, ⟨by rw [World.cell?_alloc_new]; rfl, World.frozen?_alloc_new _ _ _ _⟩, OwnC.nil _ _ _, fun e he => by cases he⟩, Nat.zero_le _, Nat.zero_le _⟩
theorem Run.mono {w wr : World} {x y : Nat} (h : Run w wr x) (hy : x ≤ y) : Run w wr y := by
  obtain ⟨h1, h2, h3, es, v, N, h4, h5, h6⟩ := h
  have := Nat.mul_le_mul_right 4096 hy
  exact ⟨h1, h2, h3, es, v, N, h4, Nat.le_trans h5 this, Nat.le_trans h6 this⟩
theorem Run.lt {w wr : World} {x : Nat} (h : Run w wr x) : w.heap.size < wr.heap.size := World.block_lt_of_cell? wr _ h.c1
theorem Run.later {w wr w' : World} {x : Nat} (h : Run w wr x) (hb : Below wr.heap.size wr w') : Run w w' x := by
  have hl := h.lt
  obtain ⟨h1, h2, h3, es, v, N, h4, h5, h6⟩ := h
  exact ⟨Below.behind h1 hb, (hb.cell (p := ⟨w.heap.size, 1, none⟩) hl).trans h2, (hb.cell (p := ⟨w.heap.size, 3, none⟩) hl).trans h3, es, v, N, h4.below hb, h5, h6⟩
theorem Run.step {w wr w' : World} {x : Nat} {es : List Ent} {v : Value} {N : Nat} (h : Run w wr x) (hB : Bk wr w.heap.size es v N) (hN : N ≤ x * 4096) (hE : es.length ≤ x * 4096) (hk : KeepSaid w.heap.size (fun k => wr.heap.size ≤ k) es v N 4096 wr w') : Run w w' (x + 1) := by
  have hl := h.lt
  obtain ⟨h1, h2, h3, _⟩ := h
  obtain ⟨k, es', v', N', b1, b2, b3, _, _⟩ := hk
  refine ⟨⟨k.os.trans h1.os, k.tape.trans h1.tape, k.output.trans h1.output, Nat.le_trans h1.size k.size, fun b hb => (k.block b (by omega) (by omega) ?_).trans (h1.block b hb)⟩, (k.cells 1 (by omega) (by omega)).1.trans h2, (k.cells 3 (by omega) (by omega)).1.trans h3, _, v', N', b1, by omega, by rw [List.length_append]; omega⟩
  rintro (hc | hc)
  · omega
  · have := (hB.own.block b hc).1
    omega

set_option maxRecDepth 100000 in
set_option maxHeartbeats 3200000 in
theorem playsX_any (adr : Option Addr) (n cap : Nat) (w : World) (sent : Nat → Addr) (hF : Faults w sent) (hT : typeAt w) (hn : n ≤ 1048576) (hS : ScriptX w adr n) :
    Calls Tryz.prog 12 #[.slice adr n cap, .int .i64 5, .int .i64 10] w fun e w' => e = .returned (.bool true) ∧ Below w.heap.size w w' := by
  have hlg : 12 < w.heap.size := World.block_lt_of_cell? w _ hT
  go_enter Tryz.func12, Tryz.ntmps12
  go_wp2
  have hh0 := Run.start w 99
  generalize w.alloc (.cells #[.slice none 0 0, .slice none 0 0, .slice none 0 0, .slice none 0 0, .slice none 0 0, .int .i64 0] 99) = w0 at hh0 ⊢
  go_loopg [9] n (fun g i wr => ∃ x : Nat, x ≤ n ∧ g = n - x ∧ i = .int .i64 (x : Int) ∧ Run w wr x)
  case atStart => exact ⟨0, by omega, rfl, rfl, hh0⟩
  case round =>
    obtain ⟨x, hx, rfl, rfl, hR⟩ := hrel
    clear hh0
    by_cases hlt : x < n
    · obtain ⟨sb, so, C, kd, s, fl, xi, a, m, r, rfl, hsb, hC, hss, hxi, hrr, hrg⟩ := hS x hlt
      have hrg1 : wr.rangeAt sb (so + x * 160) C.toList := range_below hrg (hR.below.block sb hsb)
      have c0 : wr.cell? ⟨sb, so + x * 160, none⟩ = some (.int .i64 kd) := by
        have := hrg1 0 (.int .i64 kd) (by have := hC.k; simpa using this)
        rwa [Nat.add_zero] at this
      have hz : (Tryz.prog.info? 102).map (·.size) = some C.toList.length := by rw [opSize, Array.length_toList, hC.size]
      have hxi2 : (x : Int) < (n : Int) := by omega
      by_cases hwi : 5 ≤ kd ∧ kd ≤ 10
      · have HW : Hid (∀ W, Calls Tryz.prog 44 #[.int .i64 kd, .int .i64 5, .int .i64 10] W fun e w' => e = .returned (.bool true) ∧ w' = W) := fun W => by
          have := within_codes kd W
          simpa [hwi.1, hwi.2] using this
        have HS : Hid (Calls Tryz.prog 43 #[.pointer (some ⟨w.heap.size, 0, none⟩), .agg C] wr fun e w' => e = .returned (.bool true) ∧ Run w w' (x + 1)) := by
          obtain ⟨es, v, N, hB, hN, hE⟩ := hR.bk
          refine (code_step hC hwi.1 hwi.2 (hF.below hR.below) ((hR.below.cell (p := ⟨12, 0, none⟩) hlg).trans hT) hss (hxi.below hR.below) hrr hB (by omega) (by omega)).mono fun e w' ⟨h1, h2⟩ => ⟨h1, hR.step hB hN hE h2⟩
        have A1 : Aside (Faults w sent ∧ typeAt w ∧ ScriptX w (some ⟨sb, so, none⟩) n) := ⟨hF, hT, hS⟩
        clear hT hF hS hR hss hC hxi hrr hrg hwi hsb
        go_wp2_with (first
          | (go_at_call 44; refine (HW.out _).mono ?_; rintro e w' ⟨rfl, rfl⟩)
          | (refine wpList_load_mid rfl 102 _ rfl sb (so + x * 160) rfl C.toList _ hrg1 Tryz.underlying102 rfl hz ?_))
        refine HS.out.mono ?_
        rintro e w1 ⟨rfl, hR1⟩
        have HL : Hid (Calls Tryz.prog 45 #[.pointer (some ⟨w.heap.size, 3, none⟩)] w1 fun e w' => e = .returned (.bool true) ∧ Run w w' (x + 1)) := by
          obtain ⟨es, v, N, hB, hN, hE⟩ := hR1.bk
          exact (looksB_any w.heap.size es v N w1 hB hR1.c3 (by omega)).mono fun e w' ⟨h1, h2⟩ => ⟨h1, hR1.later h2⟩
        clear hR1 HS hrg1 c0 hz HW
        go_wp2_with fail
        refine HL.out.mono ?_
        rintro e w2 ⟨rfl, hR2⟩
        have A2 : Aside (Run w w2 (x + 1)) := hR2
        clear hR2 HL
        go_wp2
        obtain ⟨hF, hT, hS⟩ := A1.out
        go_roundg (n - (x + 1))
        case measure => omega
        case rel => exact ⟨x + 1, by omega, rfl, by go_num, A2.out⟩
      · have HW : Hid (∀ W, Calls Tryz.prog 44 #[.int .i64 kd, .int .i64 5, .int .i64 10] W fun e w' => e = .returned (.bool false) ∧ w' = W) := fun W => by
          have := within_codes kd W
          have e : (decide (5 ≤ kd) && decide (kd ≤ 10)) = false := by
            by_cases h1 : 5 ≤ kd
            · have h2 : ¬ kd ≤ 10 := fun h => hwi ⟨h1, h⟩
              simp [h2]
            · simp [h1]
          rw [e] at this
          exact this
        have A1 : Aside (Faults w sent ∧ typeAt w ∧ ScriptX w (some ⟨sb, so, none⟩) n ∧ Run w wr (x + 1)) := ⟨hF, hT, hS, hR.mono (Nat.le_succ x)⟩
        clear hT hF hS hR hss hC hxi hrr hrg hwi hsb hz hrg1
        go_wp2_with (go_at_call 44; refine (HW.out _).mono ?_; rintro e w' ⟨rfl, rfl⟩)
        obtain ⟨hF, hT, hS, hRn⟩ := A1.out
        go_roundg (n - (x + 1))
        case measure => omega
        case rel => exact ⟨x + 1, by omega, rfl, by go_num, hRn⟩
    · have hxn : (n : Int) ≤ (x : Int) := by omega
      have c1 := hR.c1
      have A1 : Aside (Below w.heap.size w wr) := hR.below
      clear hT hF hS hR hlt
      go_wp2
      go_loopg [12] 0 (fun g i W => g = 0 ∧ i = .int .i64 0 ∧ W = wr)
      case atStart => exact ⟨rfl, rfl, rfl⟩
      case round =>
        obtain ⟨rfl, rfl, rfl⟩ := hrel
        go_wp2
        go_ret
        exact ⟨rfl, A1.out⟩

set_option maxHeartbeats 800000 in
theorem codes_any (adr : Option Addr) (n cap : Nat) (w : World) (sent : Nat → Addr) (hF : Faults w sent) (hT : typeAt w) (hn : n ≤ 1048576) (hS : ScriptX w adr n) :
    Calls Tryz.prog 4 #[.slice adr n cap] w fun e w' => e = .returned (.bool true) ∧ Below w.heap.size w w' := by
  have HP := Hid.hide (playsX_any adr n cap w sent hF hT hn hS)
  clear hT hF hn hS
  go_enter Tryz.func4, Tryz.ntmps4
  go_wp2_with fail
  refine HP.out.mono ?_
  rintro e w1 ⟨rfl, hb⟩
  have HB : Hid (Below w.heap.size w w1) := hb
  clear hb
  go_wp2
  go_ret
  exact ⟨rfl, HB.out⟩
end Go.Proofs.YtjiikjpnlgogfaaGreatDoor
