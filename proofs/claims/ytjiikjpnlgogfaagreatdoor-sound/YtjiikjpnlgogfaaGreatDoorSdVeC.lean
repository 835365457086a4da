/-
  Showing the node of a proof: show.
  A way goes on through the next node of a proof: open.
  Where a way begins: the stub that stands for a root, the path of a key, in whichever order they come.
  Verify: the way through the nodes of a proof.
-/
import Derived.Test.YtjiikjpnlgogfaaGreatDoorSdVeB
import Derived.Test.YtjiikjpnlgogfaaGreatDoorSdOrdA
import Derived.Test.YtjiikjpnlgogfaaGreatDoorSdVaG
import Derived.Test.YtjiikjpnlgogfaaGreatDoorSdTreB
namespace Go.Proofs.YtjiikjpnlgogfaaGreatDoor
open Go.RowKit
theorem hash_cmp (K L : List Nat) (hK : K.length = 32) (hL : L.length = 32) (hKb : ∀ x ∈ K, x < 256) (hLb : ∀ x ∈ L, x < 256) (w : World) : (Op.equalIn 10000 34 (.agg (K.map encB).toArray) (.agg (L.map encB).toArray)).run Tryz.prog w = .ok (decide (K = L)) w := by
 have hs5 : ∀ w, (sizeOf 5).run Tryz.prog w = .ok 1 w := fun w => by kernel_rfl
 have hc : ∀ (A : List Nat), (∀ x ∈ A, x < 256) → A.map encB = (A.map UInt8.ofNat).map Extern.Stop.cell := fun A hA => by
  rw [List.map_map]
  apply List.map_congr_left
  intro x hx
  have hlt := hA x hx
  show Value.int .u8 _ = Value.int .u8 _
  congr 1
  simp
  omega
 have h := run_equalIn_bytes (P := Tryz.prog) w 9998 34 5 32 Tryz.underlying34 Tryz.underlying5 hs5 (K.map UInt8.ofNat) (L.map UInt8.ofNat) (by simp [hK]) (by simp [hL])
 rw [← hc K hKb, ← hc L hLb] at h
 rw [h]
 by_cases e : K = L
 ·rw [e, decide_eq_true rfl]
  simp
 ·have hne : K.map UInt8.ofNat ≠ L.map UInt8.ofNat := fun he => e (by
   have h1 := congrArg (List.map Extern.Stop.cell) he
   rw [← hc K hKb, ← hc L hLb] at h1
   have hinj : ∀ x y : Nat, encB x = encB y → x = y := fun x y hxy => by
    simp only [encB, Value.int.injEq] at hxy
    omega
   exact (List.map_inj_right (fun {x y} => hinj x y)).1 h1)
  rw [decide_eq_false e, beq_eq_false_iff_ne.2 hne]
theorem Tabs.up {w w' : World} (h : Tabs w) (hM : 16 ≤ w.heap.size) (hb : Below w.heap.size w w') : Tabs w' := h.below hb hM
set_option maxRecDepth 100000 in
set_option maxHeartbeats 3200000 in
theorem show_any {B : Nat} {S : Wood} {w : World} (sent : Nat → Addr) (s : ByteArray) (h : List Nat) (dep : Nat) (hf : Forest B S w) (hF : Faults w sent) (hT : Tabs w) (hM : 16 ≤ w.heap.size) (hh : h.length = 32) (hhb : ∀ x ∈ h, x < 256) (hd : dep ≤ 64) :
  Calls Tryz.prog 155 #[.string s, .agg (h.map encB).toArray, .int .i64 (dep : Int)] w (RdSaid sent B S w (shF (bytesOf s) h dep)) := by
 obtain ⟨A, hA⟩ : ∃ A, (h.map encB).toArray = A := ⟨_, rfl⟩
 obtain ⟨W0, hW0⟩ : ∃ W0, w.alloc (.cells A 34) = W0 := ⟨_, rfl⟩
 have hrow : W0.rangeAt w.heap.size 0 (h.map encB) := fun j u hu => by
  rw [← hW0, Nat.zero_add, World.cell?_alloc_new, ← hA]
  simpa using hu
 have hb0 : Below w.heap.size w W0 := by rw [← hW0]; exact (Below.refl _ _).alloc (Nat.le_refl _) _
 have hs0 : w.heap.size < W0.heap.size := by rw [← hW0]; simp
 have g1 := (hF.below hb0).var 1 (by decide)
 rw [show gOf 1 = 0 from rfl] at g1
 have HF := Hid.hide hf
 have HFa := Hid.hide hF
 have HB0 := Hid.hide hb0
 have HBd : Hid (Below w.heap.size w W0.drew) := hb0.drew
 by_cases h7 : 700 < (bytesOf s).length
 ·have hi : (700 : Int) < (s.size : Int) := by rw [bytesOf_length] at h7; omega
  have hq : shF (bytesOf s) h dep = .error (.base 1) := by unfold shF; rw [if_pos h7]
  rw [hq]
  clear hf hF hT hM hh hhb hd h7 hq hrow hb0 hs0
  rw [hA]
  go_enter Tryz.func155, Tryz.ntmps155
  go_upto_region 2 with fail
  clear hW0
  go_region
  all_goals (try go_wp2)
  all_goals go_ret2
  all_goals exact .inl ⟨_, rfl, rfl, Below.drewN HB0.out 1⟩
 ·have hi : (s.size : Int) ≤ 700 := by rw [bytesOf_length] at h7; omega
  obtain ⟨D, hD⟩ : ∃ D, digB (bytesOf s) = D := ⟨_, rfl⟩
  have hDe : (digF s).toList = D := by rw [← hD, digB, textB_bytesOf]
  have hDl : D.length = 32 := by rw [← hD]; exact digB_length _
  have hDb : ∀ x ∈ D, x < 256 := by rw [← hD]; exact digB_byte _
  have hcmp := fun W => hash_cmp D h hDl hh hDb hhb W
  have HO : Hid (∀ W, Below w.heap.size w W → Calls Tryz.prog 48 #[.string s] W fun e w' => e = .returned (.agg (D.map encB).toArray) ∧ Below W.heap.size W w') := fun W hW => by
   have := of_any s W (hT.up hM hW) (Nat.le_trans hM hW.size)
   rw [hDe] at this
   exact this
  have g7 := fun W (hW : Below w.heap.size w W) => (hF.below hW).var 7 (by decide)
  rw [show gOf 7 = 5 from rfl] at g7
  have HG7 := Hid.hide g7
  have hz : (Tryz.prog.info? 34).map (·.size) = some (h.map encB).length := by rw [List.length_map, hh]; kernel_rfl
  have hu34 := Tryz.underlying34
  have HDec : Hid (∀ W, Below w.heap.size w W → Calls Tryz.prog 88 #[.string s] W (DecSaid s sent W)) := fun W hW => dec_any s sent W (hF.below hW)
  have HX : Hid (dep ≤ 64) := hd
  by_cases hne : D = h
  ·rw [decide_eq_true hne] at hcmp
   have hq : shF (bytesOf s) h dep = match decF (bytesOf s) with | .error e => .error e | .ok x => rdF 6 x dep := by
    unfold shF
    rw [if_neg h7, if_neg (by rw [hD]; simpa using hne)]
    cases decF (bytesOf s) <;> rfl
   have HQ := Hid.hide hq
   clear hf hF hT hM hh hhb hd h7 hb0 hD hDe hDl hDb g1 g7 hne hq
   rw [hA]
   clear hA
   go_enter Tryz.func155, Tryz.ntmps155
   go_upto_region 3 with fail
   clear hW0
   go_region_held3 (fun w' => w'.rangeAt w.heap.size 0 (h.map encB)) (first | exact hrow | exact h1)
    (first | (go_at_call 48; refine (HO.out _ HBd.out).mono ?_; rintro x w1 ⟨rfl, hb1⟩; have h1 : w1.rangeAt w.heap.size 0 (h.map encB) := rangeAt_block hrow (hb1.block w.heap.size hs0); have HE : Hid (Below w.heap.size w w1) := HBd.out.behind' hb1; clear hb1))
   all_goals go_wp2_with fail
   all_goals refine (HDec.out _ HE.out).mono ?_
   all_goals intro e2 w2 hdec
   all_goals cases hx : decF (bytesOf s) with
    | error er =>
     obtain ⟨t, v, hv, rfl⟩ := hdec.2.1 er hx
     have HY : Hid (shF (bytesOf s) h dep = .error er ∧ er.val sent = .iface t v ∧ Below w.heap.size w w2) := ⟨by rw [HQ.out, hx], hv, HE.out.behind' hdec.1⟩
     clear hdec hx hv
     go_wp2
     go_ret2
     rw [HY.out.1]
     exact .inl ⟨er, rfl, by rw [HY.out.2.1]; rfl, Below.alloc HY.out.2.2 HY.out.2.2.size _⟩
    | ok x =>
     obtain ⟨fr, en, l, tx, p, m, c, hTr, rfl⟩ := hdec.2.2 x hx
     have hb2 : Below w.heap.size w (w2.alloc (.cells #[.int .i64 (fr : Int), .int .i64 (en : Int), .bool l, .string tx, .slice p m c] 174)) := (HE.out.behind' hdec.1).alloc (HE.out.behind' hdec.1).size _
     have hb3 : Below w2.heap.size w2 (w2.alloc (.cells #[.int .i64 (fr : Int), .int .i64 (en : Int), .bool l, .string tx, .slice p m c] 174)) := (Below.refl _ _).alloc (Nat.le_refl _) _
     have HR := Hid.hide (read_any sent B 6 S _ _ _ x dep (HF.out.below hb2) (HFa.out.below hb2) (hTr.below hb3) (decF_good (bytesOf_lt s) hx) HX.out)
     have HY : Hid (shF (bytesOf s) h dep = rdF 6 x dep ∧ Below w.heap.size w (w2.alloc (.cells #[.int .i64 (fr : Int), .int .i64 (en : Int), .bool l, .string tx, .slice p m c] 174))) := ⟨by rw [HQ.out, hx], hb2⟩
     clear hdec hx hTr hb2 hb3
     go_wp2_with fail
     refine HR.out.mono ?_
     intro e3 w3 h3
     rcases (RdSaid.after HF.out HY.out.2 h3) with ⟨er, k1, rfl, hb⟩ | ⟨t, v, S', k1, rfl, k3, k4, k5⟩
     ·obtain ⟨et, ev, hev⟩ := er.shape sent
      have HZ : Hid (rdF 6 x dep = .error er ∧ er.val sent = .iface et ev ∧ Below w.heap.size w w3) := ⟨k1, hev, hb⟩
      rw [hev]
      clear h3 k1 hb hev
      go_wp2
      go_ret2
      rw [HY.out.1, HZ.out.1]
      exact .inl ⟨er, rfl, by rw [HZ.out.2.1]; rfl, HZ.out.2.2⟩
     ·have HZ : Hid (rdF 6 x dep = .ok t ∧ t ≠ .no ∧ ndV S' v t ∧ Gr B S S' w w3) := ⟨k1, k3, k4, k5⟩
      clear h3 k1 k3 k4 k5
      go_wp2
      go_ret2
      rw [HY.out.1, HZ.out.1]
      exact .inr ⟨t, v, S', rfl, rfl, HZ.out.2.1, HZ.out.2.2.1, HZ.out.2.2.2⟩
  ·rw [decide_eq_false hne] at hcmp
   have hq : shF (bytesOf s) h dep = .error (.base 7) := by
    unfold shF
    rw [if_neg h7, if_pos (by rw [hD]; exact hne)]
   rw [hq]
   clear hf hF hT hM hh hhb hd h7 hb0 hD hDe hDl hDb g1 g7 hne hq
   rw [hA]
   clear hA
   go_enter Tryz.func155, Tryz.ntmps155
   go_upto_region 3 with fail
   clear hW0
   go_region_held3 (fun w' => w'.rangeAt w.heap.size 0 (h.map encB)) (first | exact hrow | exact h1)
    (first | (go_at_call 48; refine (HO.out _ HBd.out).mono ?_; rintro x w1 ⟨rfl, hb1⟩; have h1 : w1.rangeAt w.heap.size 0 (h.map encB) := rangeAt_block hrow (hb1.block w.heap.size hs0); have HE : Hid (Below w.heap.size w w1) := HBd.out.behind' hb1; have gg := HG7.out _ HE.out; clear hb1))
   all_goals go_wp2_with fail
   all_goals go_region
   all_goals (try go_wp2)
   all_goals go_ret2
   all_goals exact .inl ⟨_, rfl, rfl, Below.drewN HE.out 1⟩
end Go.Proofs.YtjiikjpnlgogfaaGreatDoor
namespace Go.Proofs.YtjiikjpnlgogfaaGreatDoor
open Go.RowKit
structure Env (B : Nat) (sent : Nat → Addr) (w : World) : Prop where
 faults : Faults w sent
 tabs : Tabs w
 low : 16 ≤ B
 vars : ∀ n ∈ nums, gOf n < B
 sents : ∀ n ∈ nums, (sent n).block < B
theorem Env.below {B : Nat} {sent : Nat → Addr} {w w' : World} (h : Env B sent w) (hb : Below B w w') : Env B sent w' :=
 ⟨h.faults.keep hb h.vars h.sents, h.tabs.of_blocks (hb.block 13 (by have := h.low; omega)) (hb.block 15 (by have := h.low; omega)), h.low, h.vars, h.sents⟩
theorem Env.raise {B B' : Nat} {sent : Nat → Addr} {w : World} (h : Env B sent w) (hb : B ≤ B') : Env B' sent w :=
 ⟨h.faults, h.tabs, Nat.le_trans h.low hb, fun n hn => Nat.lt_of_lt_of_le (h.vars n hn) hb, fun n hn => Nat.lt_of_lt_of_le (h.sents n hn) hb⟩
def WayS (B : Nat) (w : World) (bw : Nat) (t : Nd) (r : ByteArray) : Prop :=
 ∃ S l thr v cs, Forest B S w ∧ Way S B w bw l t r thr v cs ∧ S bw = none ∧ (∀ k, thr.ownBlock = some k → S k = none) ∧ l.length + r.size ≤ 64 ∧ t.fits r.size ∧ nib (bytesOf r)
theorem dig_stub {h : List Nat} (hl : h.length = 32) : (Nd.stub h).dig = h := by
 have e : (Nd.stub h).ref = 160 :: h := textCode_big hl
 rw [Nd.dig, e, if_neg (by simp; omega)]
 rfl
theorem WayTo.len {t : Nd} {r : ByteArray} {l : List (Nd × ByteArray)} {e : Nd} {r' : ByteArray} (h : WayTo t r l e r') : t.fits r.size → l.length + r'.size ≤ r.size ∧ e.fits r'.size := by
 induction h with
 | stop h => intro hf; simp; exact hf
 | go hn _ ih =>
  intro hf
  obtain ⟨k1, k2, k3⟩ := Nd.next_fits hf hn
  obtain ⟨i1, i2⟩ := ih (by rw [extract_size]; exact k3)
  rw [extract_size] at i1
  exact ⟨by simp; omega, i2⟩
theorem WayTo.nib {t : Nd} {r : ByteArray} {l : List (Nd × ByteArray)} {e : Nd} {r' : ByteArray} (h : WayTo t r l e r') : nib (bytesOf r) → nib (bytesOf r') := by
 induction h with
 | stop h => exact id
 | go hn _ ih => intro hf; exact ih (nib_tail hf _)
theorem Way.grow {B : Nat} {S S' : Wood} {w w' : World} {bw : Nat} {l : List (Nd × ByteArray)} {t : Nd} {r : ByteArray} {thr v : Value} {cs : List Value} (h : Way S B w bw l t r thr v cs) (hg : Fr B S S' w w') (hbw : S bw = none) (hth : ∀ k, thr.ownBlock = some k → S k = none) : Way S' B w' bw l t r thr v cs ∧ S' bw = none ∧ ∀ k, thr.ownBlock = some k → S' k = none := by
 refine ⟨⟨(hg.other bw h.lt hbw).trans h.blk, h.lo, h.node.sub hg.sub, h.own.keep hg.size fun k hk2 hk => hg.other k hk2 (hth k hk), h.apart, h.turns.sub hg.sub⟩, hg.new bw h.lt hbw, fun k hk => hg.new k ?_ (hth k hk)⟩
 exact (h.own.block k hk).2
set_option maxRecDepth 100000 in
set_option maxHeartbeats 1600000 in
theorem open_none {B : Nat} {sent : Nat → Addr} {w : World} (bw : Nat) (p : Option Addr) (c : Nat) (hE : Env B sent w) :
  Calls Tryz.prog 99 #[.pointer (some ⟨bw, 0, none⟩), .slice p 0 c] w fun e w' => e = .returned ((Er.base 2).val sent) ∧ Below w.heap.size w w' := by
 have g2 := hE.faults.var 2 (by decide)
 rw [show gOf 2 = 1 from rfl] at g2
 clear hE
 go_enter Tryz.func99, Tryz.ntmps99
 go_wp2
 go_ret
 exact ⟨rfl, Below.refl _ _⟩
def OpSaid (sent : Nat → Addr) (B bw : Nat) (w : World) (q : Except Er Nd) (r : ByteArray) (e : Ending) (w' : World) : Prop :=
 Below B w w' ∧ ((∃ er : Er, q = .error er ∧ e = .returned (er.val sent)) ∨ ∃ t, q = .ok t ∧ e = .returned .nilIface ∧ WayS B w' bw (t.walk 64 r).1 (t.walk 64 r).2)
set_option maxRecDepth 100000 in
set_option maxHeartbeats 800000 in
theorem open_some {B : Nat} {sent : Nat → Addr} {w : World} {bw g o m c : Nat} {h : List Nat} {r s : ByteArray} (hE : Env B sent w) (hS : WayS B w bw (.stub h) r) (hg : g < B) (hc : w.cell? ⟨g, o, none⟩ = some (.string s)) (hm : 0 < m) :
  Calls Tryz.prog 99 #[.pointer (some ⟨bw, 0, none⟩), .slice (some ⟨g, o, none⟩) m c] w (OpSaid sent B bw w (shF (bytesOf s) h (64 - r.size)) r) := by
 obtain ⟨S, l, thr, v, cs, hf, hW, hbw, hth, hl, hfit, hn⟩ := hS
 obtain ⟨d, hv, hd⟩ := hW.node.full (by simp)
 have hv' : v = .iface 191 (.pointer (some ⟨d, 0, none⟩)) := hv
 clear hv
 subst hv'
 obtain ⟨Q, hQ⟩ : ∃ Q, shF (bytesOf s) h (64 - r.size) = Q := ⟨_, rfl⟩
 rw [hQ]
 have hok := hf.ok d _ hd
 rw [Nd.ok] at hok
 have hgn : S g = none := hf.nothing hg
 have hgs : g < w.heap.size := Nat.lt_of_lt_of_le hg hf.le
 obtain ⟨c0, c1, c2, f0, f1, f2⟩ := hW.cell
 have hbs := hW.lt
 have hm1 : (0 : Int) < (m : Int) := by omega
 have hm2 : ¬ ((m : Int) = 0) := by omega
 have hm3 : ((m : Int) == 0) = false := by simp; omega
 have hr64 : r.size ≤ 64 := by omega
 have hsub : wrap64 ((64 : Int) - (r.size : Int)) = ((64 - r.size : Nat) : Int) := by
  rw [show (64 : Int) - (r.size : Int) = ((64 - r.size : Nat) : Int) by omega]
  exact wrap64_few _ (by omega)
 obtain ⟨dep, hdep⟩ : ∃ dep, 64 - r.size = dep := ⟨_, rfl⟩
 rw [hdep] at hsub hQ
 have hsub2 : IntKind.i64.wrap ((64 : Int) - (r.size : Int)) = (dep : Int) := by
  clear hsub
  rw [IntKind.wrap_i64]
  omega
 have HX : Hid (Forest B S w ∧ Way S B w bw l (.stub h) r thr (.iface 191 (.pointer (some ⟨d, 0, none⟩))) cs ∧ S bw = none ∧ (∀ k, thr.ownBlock = some k → S k = none) ∧ l.length + r.size ≤ 64 ∧ nib (bytesOf r) ∧ Env B sent w ∧ h.length = 32 ∧ (∀ x ∈ h, x < 256) ∧ 64 - r.size = dep ∧ shF (bytesOf s) h dep = Q) := ⟨hf, hW, hbw, hth, hl, hn, hE, hok.1, hok.2, hdep, hQ⟩
 have HD : Hid (∀ W, Below w.heap.size w W → Calls Tryz.prog 78 #[.iface 191 (.pointer (some ⟨d, 0, none⟩))] W fun e w' => e = .returned (.agg (h.map encB).toArray) ∧ Fr B S S w w') := fun W hW' => by
  have := digNode_any (hf.below hW') (hE.tabs.up (Nat.le_trans hE.low hf.le) hW') hE.low hd (by simp)
  rw [dig_stub hok.1] at this
  exact this.mono fun e w' h => ⟨h.1, (Fr.of_below hf hW').trans h.2⟩
 have HS : Hid (∀ W, Fr B S S w W → Calls Tryz.prog 155 #[.string s, .agg (h.map encB).toArray, .int .i64 (dep : Int)] W fun e w' => ∃ a b, e = .returned (.tuple #[a, b]) ∧ ((∃ er : Er, ∃ et ev, Q = .error er ∧ a = .nilIface ∧ b = er.val sent ∧ er.val sent = .iface et ev ∧ Fr B S S w w') ∨ ∃ t S', Q = .ok t ∧ t ≠ .no ∧ ndV S' a t ∧ b = .nilIface ∧ Fr B S S' w w')) := fun W hW' => by
  have := show_any sent s h dep hW'.forest (hE.below (hW'.below hf)).faults (hE.below (hW'.below hf)).tabs (Nat.le_trans hE.low hW'.forest.le) hok.1 hok.2 (by omega)
  rw [hQ] at this
  refine this.mono ?_
  rintro e w' (⟨er, h1, h2, h3⟩ | ⟨t, v, S', h1, h2, h3, h4, h5⟩)
  ·obtain ⟨et, ev, hev⟩ := er.shape sent
   exact ⟨_, _, h2, .inl ⟨er, et, ev, h1, rfl, rfl, hev, hW'.behind h3⟩⟩
  ·exact ⟨_, _, h2, .inr ⟨t, S', h1, h3, h4, rfl, hW'.trans h5.2⟩⟩
 have HC : Hid (∀ (S' : Wood) (W : World), Fr B S S' w W → W.cell? ⟨g, o, none⟩ = some (.string s) ∧ W.cell? ⟨bw, 1, none⟩ = some (.iface 191 (.pointer (some ⟨d, 0, none⟩))) ∧ W.cell? ⟨bw, 2, none⟩ = some (.string r)) := fun S' W hW' => ⟨(hW'.cell (a := ⟨g, o, none⟩) hgs hgn).trans hc, (hW'.cell (a := ⟨bw, 1, none⟩) hbs hbw).trans c1, (hW'.cell (a := ⟨bw, 2, none⟩) hbs hbw).trans c2⟩
 have HB : Hid (Below w.heap.size w w.drew) := (Below.refl _ _).drew
 clear hE hf hW hbw hth hl hfit hn hd hok hgn hg hdep hQ f0 f1 f2 c0 hr64
 go_enter Tryz.func99, Tryz.ntmps99
 go_upto_region 3 with fail
 go_region_held3 (fun w' => w'.cell? ⟨g, o, none⟩ = some (.string s) ∧ w'.cell? ⟨bw, 1, none⟩ = some (.iface 191 (.pointer (some ⟨d, 0, none⟩))) ∧ w'.cell? ⟨bw, 2, none⟩ = some (.string r)) (first | exact ⟨hc, c1, c2⟩ | exact k1 | exact k2)
  (first | (go_at_call 78; refine (HD.out _ HB.out).mono ?_; rintro e w1 ⟨rfl, hf1⟩; have k1 := HC.out _ w1 hf1; have HF1 := Hid.hide hf1; clear hf1) | (go_at_call 155; refine (HS.out _ HF1.out).mono ?_; rintro e w2 ⟨a, b, rfl, hab⟩; have k2 : w2.cell? ⟨g, o, none⟩ = some (.string s) ∧ w2.cell? ⟨bw, 1, none⟩ = some (.iface 191 (.pointer (some ⟨d, 0, none⟩))) ∧ w2.cell? ⟨bw, 2, none⟩ = some (.string r) := (by rcases hab with ⟨_, _, _, _, _, _, _, h⟩ | ⟨_, _, _, _, _, _, h⟩ <;> exact HC.out _ w2 h); have HAB := Hid.hide hab; clear hab))
 rcases HAB.out with ⟨er, et, ev, hq, rfl, hb', hev, hf2⟩ | ⟨t, S', hq, hne, hv, rfl, hf2⟩
 ·rw [hev] at hb'
  subst hb'
  have HY : Hid (Q = .error er ∧ er.val sent = .iface et ev ∧ Below B w w2) := ⟨hq, hev, hf2.below HX.out.1⟩
  clear hq hev hf2 HAB
  go_wp2
  go_ret
  rw [HY.out.1]
  exact ⟨HY.out.2.2, .inl ⟨er, rfl, by rw [HY.out.2.1]; rfl⟩⟩
 ·obtain ⟨hf, hW, hbw, hth, hl, hn, hE, hh1, hh2, hdep, hQ⟩ := HX.out
  obtain ⟨hW2, hbw2, hth2⟩ := hW.grow hf2 hbw hth
  obtain ⟨da, rfl, hda⟩ := hv.full hne
  obtain ⟨b0, b1, b2, f0, f1, f2⟩ := hW2.cell
  have hbl := hW2.lt
  have hW3 : Way S' B (w2.setCell ⟨bw, 1, none⟩ (.iface (ndTy t) (.pointer (some ⟨da, 0, none⟩)))) bw l t r thr (.iface (ndTy t) (.pointer (some ⟨da, 0, none⟩))) cs :=
   ⟨heap_setCell_list (cs := [thr, .iface 191 (.pointer (some ⟨d, 0, none⟩)), .string r]) hW2.blk 1 _, hW2.lo, hv, hW2.own.keep (by simp) fun k hk hk2 => Below.heap_setCell _ _ _ _ (fun e => hW2.apart (by rw [hk2, e])), hW2.apart, hW2.turns⟩
  have hf3 : Forest B S' (w2.setCell ⟨bw, 1, none⟩ (.iface (ndTy t) (.pointer (some ⟨da, 0, none⟩)))) := hf2.forest.keep (by simp) fun k u hk => Below.heap_setCell _ _ _ _ (by rintro rfl; rw [hbw2] at hk; cases hk)
  have hb3 : Below B w (w2.setCell ⟨bw, 1, none⟩ (.iface (ndTy t) (.pointer (some ⟨da, 0, none⟩)))) := by
   have hb := hf2.below hf
   have hlo := hW.lo
   exact ⟨hb.os, hb.tape, hb.output, by simpa using hb.size, fun k hk => (Below.heap_setCell _ _ _ _ (by simp; omega)).trans (hb.block k hk)⟩
  have hfit : t.fits r.size := by
   have := (shF_ok (bytesOf_lt s) (by omega) (hQ.trans hq)).2.1
   rw [show 64 - dep = r.size by omega] at this
   exact this
  obtain ⟨l', hT, hl', _, _⟩ := walk_to 64 t r hfit (by omega)
  have HG := Hid.hide (goon2_any hf3 hW3 hbw2 hth2 hfit hn hT (by omega))
  have HY : Hid (Q = .ok t ∧ Below B w (w2.setCell ⟨bw, 1, none⟩ (.iface (ndTy t) (.pointer (some ⟨da, 0, none⟩)))) ∧ (∀ k, thr.ownBlock = some k → B ≤ k) ∧ Forest B S' (w2.setCell ⟨bw, 1, none⟩ (.iface (ndTy t) (.pointer (some ⟨da, 0, none⟩)))) ∧ S' bw = none ∧ (∀ k, thr.ownBlock = some k → S' k = none) ∧ B ≤ bw ∧ l.length + l'.length + (t.walk 64 r).2.size ≤ 64 ∧ (t.walk 64 r).1.fits (t.walk 64 r).2.size ∧ nib (bytesOf (t.walk 64 r).2)) :=
   ⟨hq, hb3, fun k hk => (hW.own.block k hk).1, hf3, hbw2, hth2, hW.lo, by have := (hT.len hfit).1; omega, (hT.len hfit).2, hT.nib hn⟩
  clear hf hW hbw hth hl hn hE hh1 hh2 hdep hQ hW2 hbw2 hth2 hda hv hW3 hf3 hb3 hfit hT hl' hq hne hf2 HAB HX HD HS HC b0 b2 f0 f2
  go_wp2_with fail
  refine HG.out.mono ?_
  rintro e w3 ⟨rfl, thr', v', cs', hwf, hW4⟩
  obtain ⟨y1, y2, y3, y4, y5, y6, y7, y8, y9, y10⟩ := HY.out
  have HZ : Hid (Below B w w3 ∧ WayS B w3 bw (t.walk 64 r).1 (t.walk 64 r).2) := ⟨y2.trans (hwf.below y7 y3 y4.le), S', _, thr', v', cs', y4.wayfr hwf y5 y6, hW4, y5, hwf.none y4 y6, by rw [List.length_append]; omega, y9, y10⟩
  clear hwf hW4 y1 y2 y3 y4 y5 y6 y7 y8 y9 y10
  go_wp2
  go_ret
  exact ⟨HZ.out.1, .inr ⟨t, HY.out.1, rfl, HZ.out.2⟩⟩
end Go.Proofs.YtjiikjpnlgogfaaGreatDoor
namespace Go.Proofs.YtjiikjpnlgogfaaGreatDoor
open Go.RowKit
def stubCells (h : List Nat) : Obj := .cells [.string (textB (textCode h))].toArray 258 (0, 0)
def StubAt (h : List Nat) (B : Nat) (w : World) (b : Nat) : Prop := B ≤ b ∧ w.heap[b]? = some (stubCells h)
theorem StubAt.lt {h : List Nat} {B : Nat} {w : World} {b : Nat} (k : StubAt h B w b) : b < w.heap.size := (Array.getElem?_eq_some_iff.1 k.2).1
theorem StubAt.below {h : List Nat} {B : Nat} {w w' : World} {b : Nat} (k : StubAt h B w b) (hb : Below w.heap.size w w') : StubAt h B w' b := ⟨k.1, (hb.block b k.lt).trans k.2⟩
structure Beg (B : Nat) (W0 : World) (A K : Value) (h : List Nat) (p : ByteArray) (d : Nat → Bool) (v : Nat → Value) (w : World) : Prop where
 below : Below B W0 w
 o0 : d 0 = true → v 0 = A
 o1 : d 1 = true → ∃ b, v 1 = .pointer (some ⟨b, 0, none⟩) ∧ StubAt h B w b ∧ (d 6 = true → v 6 ≠ .pointer (some ⟨b, 0, none⟩))
 o2 : d 2 = true → ∃ b, v 2 = .iface 191 (.pointer (some ⟨b, 0, none⟩)) ∧ StubAt h B w b ∧ (d 6 = true → v 6 ≠ .pointer (some ⟨b, 0, none⟩))
 o3 : d 3 = true → v 3 = K
 o4 : d 4 = true → v 4 = .string p
 o5 : d 5 = true → ∃ b thr, v 5 = .agg #[thr, .iface 191 (.pointer (some ⟨b, 0, none⟩)), .string p] ∧ StubAt h B w b ∧ OwnC w B 2 thr 0 [] ∧ thr.ownBlock ≠ some b ∧ (d 6 = true → v 6 ≠ .pointer (some ⟨b, 0, none⟩)) ∧ (d 6 = true → ∀ k, thr.ownBlock = some k → v 6 ≠ .pointer (some ⟨k, 0, none⟩))
 o6 : d 6 = true → ∃ g, v 6 = .pointer (some ⟨g, 0, none⟩) ∧ B ≤ g ∧ g < w.heap.size ∧ (d 7 = false → w.heap[g]? = some (.cells #[.slice none 0 0, .nilIface, .string ⟨#[]⟩] 165 (0, 0))) ∧ (d 7 = true → ∃ x y z, v 5 = .agg #[x, y, z] ∧ w.heap[g]? = some (.cells #[x, y, z] 165 (0, 0)))
 o7 : d 7 = true → d 5 = true ∧ d 6 = true
theorem ptr_ne {a b : Nat} (h : a ≠ b) : Value.pointer (some ⟨a, 0, none⟩) ≠ .pointer (some ⟨b, 0, none⟩) := fun e => h (by cases e; rfl)
section
variable {B : Nat} {W0 : World} {A K : Value} {h : List Nat} {p : ByteArray} {d : Nat → Bool} {v : Nat → Value} {w w' : World}
def upd (d : Nat → Bool) (i : Nat) : Nat → Bool := fun k => if k = i then true else d k
def upv (v : Nat → Value) (i : Nat) (x : Value) : Nat → Value := fun k => if k = i then x else v k
theorem Beg.step (i : Nat) (x : Value) (hi : i < 6) (H : Beg B W0 A K h p d v w) (hn : d i = false) (hb : Below w.heap.size w w') (hBw : B ≤ w.heap.size)
  (h0 : i = 0 → x = A) (h1 : i = 1 → ∃ b, x = .pointer (some ⟨b, 0, none⟩) ∧ StubAt h B w' b ∧ (d 6 = true → v 6 ≠ .pointer (some ⟨b, 0, none⟩)))
  (h2 : i = 2 → ∃ b, x = .iface 191 (.pointer (some ⟨b, 0, none⟩)) ∧ StubAt h B w' b ∧ (d 6 = true → v 6 ≠ .pointer (some ⟨b, 0, none⟩)))
  (h3 : i = 3 → x = K) (h4 : i = 4 → x = .string p)
  (h5 : i = 5 → ∃ b thr, x = .agg #[thr, .iface 191 (.pointer (some ⟨b, 0, none⟩)), .string p] ∧ StubAt h B w' b ∧ OwnC w' B 2 thr 0 [] ∧ thr.ownBlock ≠ some b ∧ (d 6 = true → v 6 ≠ .pointer (some ⟨b, 0, none⟩)) ∧ (d 6 = true → ∀ k, thr.ownBlock = some k → v 6 ≠ .pointer (some ⟨k, 0, none⟩))) :
  Beg B W0 A K h p (upd d i) (upv v i x) w' := by
 have e6 : upd d i 6 = d 6 := by simp [upd]; omega
 have e7 : upd d i 7 = d 7 := by simp [upd]; omega
 have f6 : upv v i x 6 = v 6 := by simp [upv]; omega
 refine ⟨H.below.trans (hb.mono hBw), ?_, ?_, ?_, ?_, ?_, ?_, ?_, ?_⟩
 ·intro k
  by_cases e : 0 = i
  ·simp only [upv, if_pos e]; exact h0 e.symm
  ·simp only [upv, upd, if_neg e] at k ⊢; exact H.o0 k
 ·intro k
  rw [e6, f6]
  by_cases e : 1 = i
  ·simp only [upv, if_pos e]; exact h1 e.symm
  ·simp only [upv, upd, if_neg e] at k ⊢
   obtain ⟨b, k1, k2, k3⟩ := H.o1 k
   exact ⟨b, k1, k2.below hb, k3⟩
 ·intro k
  rw [e6, f6]
  by_cases e : 2 = i
  ·simp only [upv, if_pos e]; exact h2 e.symm
  ·simp only [upv, upd, if_neg e] at k ⊢
   obtain ⟨b, k1, k2, k3⟩ := H.o2 k
   exact ⟨b, k1, k2.below hb, k3⟩
 ·intro k
  by_cases e : 3 = i
  ·simp only [upv, if_pos e]; exact h3 e.symm
  ·simp only [upv, upd, if_neg e] at k ⊢; exact H.o3 k
 ·intro k
  by_cases e : 4 = i
  ·simp only [upv, if_pos e]; exact h4 e.symm
  ·simp only [upv, upd, if_neg e] at k ⊢; exact H.o4 k
 ·intro k
  rw [e6, f6]
  by_cases e : 5 = i
  ·simp only [upv, if_pos e]; exact h5 e.symm
  ·simp only [upv, upd, if_neg e] at k ⊢
   obtain ⟨b, thr, k1, k2, k3, k4, k5⟩ := H.o5 k
   exact ⟨b, thr, k1, k2.below hb, k3.below hb, k4, k5⟩
 ·intro k
  rw [e6] at k
  rw [f6, e7]
  obtain ⟨g, k1, k2, k3, k4, k5⟩ := H.o6 k
  refine ⟨g, k1, k2, Nat.lt_of_lt_of_le k3 hb.size, fun q => (hb.block g k3).trans (k4 q), fun q => ?_⟩
  obtain ⟨x1, y1, z1, q1, q2⟩ := k5 q
  have e5 : 5 ≠ i := fun e => by
   have := (H.o7 q).1
   rw [e, hn] at this
   cases this
  exact ⟨x1, y1, z1, by simp only [upv, if_neg e5]; exact q1, (hb.block g k3).trans q2⟩
 ·intro k
  rw [e7] at k
  rw [e6]
  obtain ⟨q1, q2⟩ := H.o7 k
  exact ⟨by simp only [upd]; split <;> first | rfl | exact q1, q2⟩
theorem Beg.made (H : Beg B W0 A K h p d v w) (hn : d 6 = false) (hBw : B ≤ w.heap.size) :
  Beg B W0 A K h p (upd d 6) (upv v 6 (.pointer (some ⟨w.heap.size, 0, none⟩))) (w.alloc (.cells #[.slice none 0 0, .nilIface, .string ⟨#[]⟩] 165)) := by
 have hb : Below w.heap.size w (w.alloc (.cells #[.slice none 0 0, .nilIface, .string ⟨#[]⟩] 165)) := (Below.refl _ _).alloc (Nat.le_refl _) _
 have h7 : d 7 = false := by
  cases e : d 7 with
  | false => rfl
  | true => have := (H.o7 e).2; rw [hn] at this; cases this
 refine ⟨H.below.trans (hb.mono hBw), H.o0, fun k => ?_, fun k => ?_, H.o3, H.o4, fun k => ?_, fun _ => ?_, fun k => ?_⟩
 ·obtain ⟨b, k1, k2, _⟩ := H.o1 k
  exact ⟨b, k1, k2.below hb, fun _ => ptr_ne (by have := k2.lt; omega)⟩
 ·obtain ⟨b, k1, k2, _⟩ := H.o2 k
  exact ⟨b, k1, k2.below hb, fun _ => ptr_ne (by have := k2.lt; omega)⟩
 ·obtain ⟨b, thr, k1, k2, k3, k4, _, _⟩ := H.o5 k
  exact ⟨b, thr, k1, k2.below hb, k3.below hb, k4, fun _ => ptr_ne (by have := k2.lt; omega), fun _ k hk => ptr_ne (by have := (k3.block k hk).2; omega)⟩
 ·refine ⟨w.heap.size, rfl, hBw, by simp, fun _ => Array.getElem?_push_size, fun q => ?_⟩
  have q' : d 7 = true := q
  rw [h7] at q'
  cases q'
 ·have k' : d 7 = true := k
  rw [h7] at k'
  cases k'
theorem Beg.wrote (H : Beg B W0 A K h p d v w) (h5 : d 5 = true) (h6 : d 6 = true) (x : Value) {g : Nat} (hg : v 6 = .pointer (some ⟨g, 0, none⟩)) {a b c : Value} (hv : v 5 = .agg #[a, b, c]) (hh : w'.heap = (((w.setCell ⟨g, 0, none⟩ a).setCell ⟨g, 1, none⟩ b).setCell ⟨g, 2, none⟩ c).heap) (ho : w'.os = w.os) (ht : w'.tape = w.tape) (hu : w'.output = w.output) :
  Beg B W0 A K h p (upd d 7) (upv v 7 x) w' := by
 obtain ⟨g', e1, e2, e3, e4, e5⟩ := H.o6 h6
 obtain rfl : g' = g := by rw [hg] at e1; simpa using e1.symm
 have hne : ∀ k, k ≠ g' → w'.heap[k]? = w.heap[k]? := fun k hk => by
  rw [hh]
  exact (Below.heap_setCell _ _ _ _ hk).trans ((Below.heap_setCell _ _ _ _ hk).trans (Below.heap_setCell _ _ _ _ hk))
 have hs : w'.heap.size = w.heap.size := by rw [hh]; simp
 have hcell : ∃ x0 y0 z0, w.heap[g']? = some (.cells [x0, y0, z0].toArray 165 (0, 0)) := by
  cases e : d 7 with
  | false => exact ⟨_, _, _, e4 e⟩
  | true => obtain ⟨x0, y0, z0, _, q⟩ := e5 e; exact ⟨x0, y0, z0, q⟩
 obtain ⟨x0, y0, z0, hc⟩ := hcell
 have hnew : w'.heap[g']? = some (.cells #[a, b, c] 165 (0, 0)) := by
  rw [hh]
  have k1 := heap_setCell_list hc 0 a
  have k2 := heap_setCell_list k1 1 b
  exact heap_setCell_list k2 2 c
 have kS : ∀ {b}, StubAt h B w b → v 6 ≠ .pointer (some ⟨b, 0, none⟩) → StubAt h B w' b := fun {b} k q => ⟨k.1, (hne b (fun e => q (by rw [hg, e]))).trans k.2⟩
 refine ⟨⟨ho.trans H.below.os, ht.trans H.below.tape, hu.trans H.below.output, by rw [hs]; exact H.below.size, fun k hk => (hne k (by omega)).trans (H.below.block k hk)⟩, H.o0, fun k => ?_, fun k => ?_, H.o3, H.o4, fun k => ?_, fun _ => ?_, fun _ => ⟨h5, h6⟩⟩
 ·obtain ⟨b, k1, k2, k3⟩ := H.o1 k
  exact ⟨b, k1, kS k2 (k3 h6), k3⟩
 ·obtain ⟨b, k1, k2, k3⟩ := H.o2 k
  exact ⟨b, k1, kS k2 (k3 h6), k3⟩
 ·obtain ⟨b, thr, k1, k2, k3, k4, k5, k6⟩ := H.o5 k
  exact ⟨b, thr, k1, kS k2 (k5 h6), k3.keep (by omega) fun k _ hk => hne k (fun e => k6 h6 k hk (by rw [hg, e])), k4, k5, k6⟩
 ·exact ⟨g', hg, e2, by omega, fun q => by simp [upd] at q, fun _ => ⟨a, b, c, hv, hnew⟩⟩
end
end Go.Proofs.YtjiikjpnlgogfaaGreatDoor
namespace Go.Proofs.YtjiikjpnlgogfaaGreatDoor
open Go.RowKit
def StrRow (w : World) (p : Option Addr) (l : List ByteArray) (c : Nat) : Prop :=
 (p = none ∧ l = [] ∧ c = 0) ∨ ∃ g o, p = some ⟨g, o, none⟩ ∧ l.length ≤ c ∧ (0 < l.length → g < w.heap.size) ∧ w.rangeAt g o (l.map Value.string)
def VerSaid (sent : Nat → Addr) (q : Except Er (Option ByteArray)) (e : Ending) : Prop :=
 (∃ er : Er, q = .error er ∧ e = .returned (.tuple #[.string ⟨#[]⟩, .bool false, er.val sent])) ∨ ∃ o : Option ByteArray, q = .ok o ∧ e = .returned (.tuple #[.string (o.getD ⟨#[]⟩), .bool o.isSome, .nilIface])
def verT (L : List (List Nat)) (t : Nd) (r : ByteArray) (k : Nat) : Except Er (Option ByteArray) :=
 match t with
 | .stub h => verL L h r k
 | _ => if L = [] then .ok (valAt t r) else .error (.inNode k (.base 4))
theorem verT_end {t : Nd} (h : ∀ g, t ≠ .stub g) (L : List (List Nat)) (r : ByteArray) (k : Nat) : verT L t r k = if L = [] then .ok (valAt t r) else .error (.inNode k (.base 4)) := by
 cases t with
 | stub g => exact absurd rfl (h g)
 | _ => rfl
theorem verL_cons (c : List Nat) (L : List (List Nat)) (h : List Nat) (r : ByteArray) (k : Nat) {t : Nd} (hs : shF c h (64 - r.size) = .ok t) : verL (c :: L) h r k = verT L (t.walk 64 r).1 (t.walk 64 r).2 (k + 1) := by
 rw [verL, hs]
 simp only
 obtain ⟨e, r'⟩ := t.walk 64 r
 cases e <;> rfl
theorem verL_err (c : List Nat) (L : List (List Nat)) (h : List Nat) (r : ByteArray) (k : Nat) {er : Er} (hs : shF c h (64 - r.size) = .error er) : verL (c :: L) h r k = .error (.inNode k er) := by
 rw [verL, hs]
theorem taStubYes (h : List Nat) (a : Addr) (w : World) : (Instr.typeAssert (.iface (ndTy (.stub h)) (.pointer (some a))) 106 191 true).run Tryz.prog w = .ok (.tuple #[.pointer (some a), .bool true]) w := by kernel_rfl
set_option maxRecDepth 100000 in
set_option maxHeartbeats 1600000 in
theorem met_stub {w : World} (h : List Nat) (r : ByteArray) (p : Option Addr) (m c d : Nat) :
  Calls Tryz.prog 98 #[.agg #[.slice p m c, .iface (ndTy (.stub h)) (.pointer (some ⟨d, 0, none⟩)), .string r]] w fun x w' => x = .returned (.pointer (some ⟨d, 0, none⟩)) ∧ Below w.heap.size w w' := by
 have ht := fun W => taStubYes h ⟨d, 0, none⟩ W
 obtain ⟨T, hT⟩ : ∃ T, ndTy (.stub h) = T := ⟨_, rfl⟩
 rw [hT] at ht ⊢
 clear hT
 go_enter Tryz.func98, Tryz.ntmps98
 go_wp2
 go_ret
 exact ⟨rfl, (Below.refl _ _).alloc (Nat.le_refl _) _⟩
end Go.Proofs.YtjiikjpnlgogfaaGreatDoor
