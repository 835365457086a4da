/-
  Reading nodes out of items: references, extensions, leaves.
  Reading extensions and leaves.
  Reading leaves and extensions: readPath whole.
  Reading branches: hasForks.
  Reading branches, and any node.
  Reading branches, the walk.
  Reading a node: read whole.
-/
import Derived.Test.YtjiikjpnlgogfaaGreatDoorSdVeA
import Derived.Test.YtjiikjpnlgogfaaGreatDoorSdTreA
namespace Go.Proofs.YtjiikjpnlgogfaaGreatDoor
open Go.RowKit
def Gr (B : Nat) (S S' : Wood) (w w' : World) : Prop := Below w.heap.size w w' ∧ Fr B S S' w w'
theorem Gr.of_below {B : Nat} {S : Wood} {w w' : World} (hf : Forest B S w) (hb : Below w.heap.size w w') : Gr B S S w w' := ⟨hb, Fr.of_below hf hb⟩
theorem Gr.trans {B : Nat} {S S1 S2 : Wood} {w w1 w2 : World} (h : Gr B S S1 w w1) (k : Gr B S1 S2 w1 w2) : Gr B S S2 w w2 := ⟨Below.behind h.1 k.1, h.2.trans k.2⟩
theorem Gr.after {B : Nat} {S S' : Wood} {w w1 w2 : World} (hf : Forest B S w) (hb : Below w.heap.size w w1) (h : Gr B S S' w1 w2) : Gr B S S' w w2 := (Gr.of_below hf hb).trans h
theorem Gr.alloc {B : Nat} {S : Wood} {w : World} (hf : Forest B S w) {t : Nd} {h : ByteArray} {r : List Value} (hh : heldOK t h) (hr : NdRest S t r) (ht : t.ok) : Gr B S (S.put w.heap.size t) w (w.alloc (.cells (.string h :: r).toArray (ndObj t))) :=
 ⟨(Below.refl _ _).alloc (Nat.le_refl _) _, Fr.alloc hf hh hr ht⟩
def RdSaid (sent : Nat → Addr) (B : Nat) (S : Wood) (w : World) (q : Except Er Nd) (e : Ending) (w' : World) : Prop :=
 (∃ er : Er, q = .error er ∧ e = .returned (.tuple #[.nilIface, er.val sent]) ∧ Below w.heap.size w w') ∨ ∃ t v S', q = .ok t ∧ e = .returned (.tuple #[v, .nilIface]) ∧ t ≠ .no ∧ ndV S' v t ∧ Gr B S S' w w'
theorem RdSaid.after {sent : Nat → Addr} {B : Nat} {S : Wood} {w w1 : World} {q : Except Er Nd} (hf : Forest B S w) (hb : Below w.heap.size w w1) {e : Ending} {w' : World} (h : RdSaid sent B S w1 q e w') : RdSaid sent B S w q e w' := by
 rcases h with ⟨er, h1, h2, h3⟩ | ⟨t, v, S', h1, h2, h3, h4, h5⟩
 ·exact .inl ⟨er, h1, h2, Below.behind hb h3⟩
 ·exact .inr ⟨t, v, S', h1, h2, h3, h4, h5.after hf hb⟩
set_option maxRecDepth 100000 in
set_option maxHeartbeats 1600000 in
theorem readref_text {B : Nat} {S : Wood} {w : World} (sent : Nat → Addr) (fr en : Nat) (tx : ByteArray) (p : Option Addr) (m c : Nat) (dep : Nat) (hf : Forest B S w) (h32 : tx.size = 32) :
  Calls Tryz.prog 244 #[.agg #[.int .i64 (fr : Int), .int .i64 (en : Int), .bool false, .string tx, .slice p m c], .int .i64 (dep : Int)] w (RdSaid sent B S w (.ok (.stub (bytesOf tx)))) := by
 obtain ⟨o, ho⟩ : ∃ o : Obj, o = .cells #[.int .i64 (fr : Int), .int .i64 (en : Int), .bool false, .string tx, .slice p m c] 174 := ⟨_, rfl⟩
 obtain ⟨D, hD⟩ : ∃ D, bytesOf tx = D := ⟨_, rfl⟩
 rw [hD]
 have hDl : D.length = 32 := by rw [← hD, bytesOf_length, h32]
 have hDb : ∀ x ∈ D, x < 256 := by rw [← hD]; exact bytesOf_lt tx
 have hsz : (w.alloc o).heap.size = w.heap.size + 1 := by simp
 have qc := Lib.run_convert_string_bytes (P := Tryz.prog) (w.alloc o) 9 111 5 tx Tryz.underlying9 Tryz.underlying111 Tryz.underlying5
 rw [h32, hsz] at qc
 obtain ⟨cap, hcap⟩ : ∃ cap, grownCap (w.alloc o) 32 0 5 = cap := ⟨_, rfl⟩
 rw [hcap] at qc
 have qa := fun W => run_arrayH ⟨w.heap.size + 1, 0, none⟩ cap W
 have hrow := bytes_row (w.alloc o) tx
 rw [hD, hsz] at hrow
 have hbw : Below (w.alloc o).heap.size (w.alloc o) (Lib.bytesWorld (w.alloc o) 5 tx) := ⟨rfl, rfl, rfl, by rw [Lib.bytesWorld_size]; omega, fun k hk => Lib.bytesWorld_at_old (w.alloc o) 5 tx k hk⟩
 generalize Lib.bytesWorld (w.alloc o) 5 tx = w2 at qc hrow hbw
 have hz1 : (Tryz.prog.info? 34).map (·.size) = some (D.map encB).length := by rw [List.length_map, hDl]; kernel_rfl
 have HB : Hid (Below w.heap.size w w2) := Below.up hbw
 have HH : Hid (∀ W, Calls Tryz.prog 96 #[.agg (D.map encB).toArray] W fun e w' => ∃ b, e = .returned (.pointer (some ⟨b, 0, none⟩)) ∧ W.heap.size ≤ b ∧ Below W.heap.size W w' ∧ w'.heap[b]? = some (.cells [.string (textB (textCode D))].toArray 258 (0, 0))) := fun W => hide_any D hDl hDb W
 have HD : Hid (D.length = 32 ∧ ∀ x ∈ D, x < 256) := ⟨hDl, hDb⟩
 have HF := Hid.hide hf
 subst ho
 clear hf hcap hsz hbw hD hDl hDb h32
 go_enter Tryz.func244, Tryz.ntmps244
 go_wp2_with (first | (refine wpList_load_mid rfl 34 _ rfl (w.heap.size + 1) 0 rfl (D.map encB) _ hrow Tryz.underlying34 rfl hz1 ?_) | (go_at_call 96; refine (HH.out _).mono ?_; rintro e w3 ⟨b, rfl, hlo, hb3, hcell⟩; have HB3 : Hid (w2.heap.size ≤ b ∧ Below w2.heap.size w2 w3 ∧ w3.heap[b]? = some (.cells [.string (textB (textCode D))].toArray 258 (0, 0))) := ⟨hlo, hb3, hcell⟩; clear hlo hb3 hcell))
 go_ret2
 have hb := Below.behind HB.out HB3.out.2.1
 have hlo : w.heap.size ≤ b := Nat.le_trans HB.out.size HB3.out.1
 refine .inr ⟨.stub D, _, S.put b (.stub D), rfl, rfl, by simp, .inr ⟨by simp, b, rfl, Wood.put_same _ _ _⟩, hb, Fr.fresh HF.out hb hlo (t := .stub D) (h := textB (textCode D)) (r := []) (.inl rfl) rfl (by rw [Nd.ok]; exact HD.out) HB3.out.2.2⟩
set_option maxRecDepth 100000 in
set_option maxHeartbeats 1600000 in
theorem readref_list {B : Nat} {S : Wood} {w : World} (sent : Nat → Addr) (fr en : Nat) (tx : ByteArray) (p : Option Addr) (m c : Nat) (dep : Nat) (hf : Forest B S w) (q : Except Er Nd) (hN : ∀ W, Below w.heap.size w W → Calls Tryz.prog 206 #[.agg #[.int .i64 (fr : Int), .int .i64 (en : Int), .bool true, .string tx, .slice p m c], .int .i64 (dep : Int)] W (RdSaid sent B S W q)) :
  Calls Tryz.prog 244 #[.agg #[.int .i64 (fr : Int), .int .i64 (en : Int), .bool true, .string tx, .slice p m c], .int .i64 (dep : Int)] w (RdSaid sent B S w q) := by
 have HF := Hid.hide hf
 have HN := Hid.hide hN
 clear hf hN
 go_enter Tryz.func244, Tryz.ntmps244
 go_wp2_with fail
 have hb0 : Below w.heap.size w (w.alloc (.cells #[.int .i64 (fr : Int), .int .i64 (en : Int), .bool true, .string tx, .slice p m c] 174)) := (Below.refl _ _).alloc (Nat.le_refl _) _
 refine (HN.out _ hb0).mono ?_
 rintro e w1 (⟨er, rfl, rfl, hb⟩ | ⟨t, v, S', rfl, rfl, h3, h4, h5⟩)
 ·obtain ⟨et, ev, hev⟩ := er.shape sent
  have HX : Hid (er.val sent = .iface et ev ∧ Below w.heap.size w w1) := ⟨hev, Below.behind hb0 hb⟩
  rw [hev]
  clear hb hb0 hev
  go_wp2
  go_ret2
  exact .inl ⟨er, rfl, by rw [HX.out.1]; rfl, HX.out.2⟩
 ·have HX : Hid (t ≠ .no ∧ ndV S' v t ∧ Gr B S S' w w1) := ⟨h3, h4, h5.after HF.out hb0⟩
  clear h3 h4 h5 hb0
  go_wp2
  go_ret2
  exact .inr ⟨t, v, S', rfl, rfl, HX.out.1, HX.out.2.1, HX.out.2.2⟩
end Go.Proofs.YtjiikjpnlgogfaaGreatDoor
namespace Go.Proofs.YtjiikjpnlgogfaaGreatDoor
open Go.RowKit
theorem plc5 {w : World} {b : Nat} {a0 a1 a2 a3 a4 : Value} {t : TypeId} (h : w.heap[b]? = some (.cells #[a0, a1, a2, a3, a4] t (0, 0))) : w.cell? ⟨b, 0, none⟩ = some a0 ∧ w.cell? ⟨b, 1, none⟩ = some a1 ∧ w.cell? ⟨b, 2, none⟩ = some a2 ∧ w.cell? ⟨b, 3, none⟩ = some a3 ∧ w.cell? ⟨b, 4, none⟩ = some a4 := by
 refine ⟨?_, ?_, ?_, ?_, ?_⟩ <;> simp [World.cell?, h]
theorem two_new {w w1 : World} {a b : Array Value} (hb : Below ((w.alloc (.cells a 174)).alloc (.cells b 174)).heap.size ((w.alloc (.cells a 174)).alloc (.cells b 174)) w1) :
  w1.heap[w.heap.size]? = some (.cells a 174 (0, 0)) ∧ w1.heap[w.heap.size + 1]? = some (.cells b 174 (0, 0)) ∧ w.heap.size + 2 ≤ w1.heap.size ∧ Below w.heap.size w w1 := by
 have hs := hb.size
 simp at hs
 refine ⟨?_, ?_, by omega, Below.up (Below.up hb)⟩
 ·rw [hb.block _ (by simp; omega)]
  show ((w.heap.push _).push _)[w.heap.size]? = _
  rw [Array.getElem?_push_lt (by simp), Array.getElem_push_eq]
 ·rw [hb.block _ (by simp)]
  show ((w.heap.push _).push _)[w.heap.size + 1]? = _
  rw [show w.heap.size + 1 = (w.heap.push (Obj.cells a 174)).size by simp]
  exact Array.getElem?_push_size
theorem two_below (w : World) (a b : Obj) : Below w.heap.size w ((w.alloc a).alloc b) := ((Below.refl _ _).alloc (Nat.le_refl _) _).alloc (by simp) _
def tail17 (l : Bool) (fr en m : Nat) (tx : ByteArray) : Bool := if l = true then decide (en - fr < 32) && decide (m = 17) else decide (tx.size = 32)
section
variable {B : Nat} {S : Wood} {w : World} (sent : Nat → Addr) (fr en : Nat) (tx0 : ByteArray) (g cap : Nat) (fr' en' : Nat) (l' : Bool) (tx' : ByteArray) (p' : Option Addr) (m' c' : Nat) (p : ByteArray) (dep : Nat)
set_option maxRecDepth 100000 in
set_option maxHeartbeats 1600000 in
theorem readext_bad (hF : Faults w sent) (hgs : g < w.heap.size) (hrow : w.rangeAt g 5 [.int .i64 (fr' : Int), .int .i64 (en' : Int), .bool l', .string tx', .slice p' m' c']) (hdep : dep ≤ 10000) (h1 : fr' ≤ en') (h2 : en' ≤ 2048) (h : p.size = 0 ∨ 64 ≤ dep ∨ tail17 l' fr' en' m' tx' = false) :
  Calls Tryz.prog 241 #[.agg #[.int .i64 (fr : Int), .int .i64 (en : Int), .bool true, .string tx0, .slice (some ⟨g, 0, none⟩) 2 cap], .string p, .int .i64 (dep : Int)] w (RdSaid sent B S w (.error (noN fr))) := by
 have r0 := hrow 0 _ rfl
 have r1 := hrow 1 _ rfl
 have r2 := hrow 2 _ rfl
 have r3 := hrow 3 _ rfl
 have r4 := hrow 4 _ rfl
 have hgn : ¬ g = w.heap.size := by omega
 have hgn1 : ¬ g = w.heap.size + 1 := by omega
 have HNo : Hid (∀ W, Below w.heap.size w W → Calls Tryz.prog 228 #[.agg #[.int .i64 (fr : Int), .int .i64 (en : Int), .bool true, .string tx0, .slice (some ⟨g, 0, none⟩) 2 cap]] W fun e w' => e = .returned ((noN fr).val sent) ∧ Below W.heap.size W w') := fun W hW => nonode_any fr en true tx0 _ 2 cap sent W (hF.below hW)
 obtain ⟨et, ev, hev⟩ := (noN fr).shape sent
 have HE : Hid ((noN fr).val sent = .iface et ev) := hev
 rw [hev] at HNo
 have HR : Hid (∀ W, Calls Tryz.prog 257 #[.agg #[.int .i64 (fr' : Int), .int .i64 (en' : Int), .bool l', .string tx', .slice p' m' c']] W fun e w' => e = .returned (.bool (if l' = true then decide (en' - fr' < 32) else decide (tx'.size = 32))) ∧ Below W.heap.size W w') := fun W => isref_any fr' en' l' tx' p' m' c' W h1 h2
 have HT : Hid (tail17 l' fr' en' m' tx' = if l' = true then decide (en' - fr' < 32) && decide (m' = 17) else decide (tx'.size = 32)) := rfl
 clear hrow hF h1 h2 hev
 by_cases h0 : p.size = 0
 ·have hs := no_text p h0
  clear h h0
  go_enter Tryz.func241, Tryz.ntmps241
  go_wp2_with (go_at_call 228; refine (HNo.out _ (two_below _ _ _)).mono ?_; rintro e w1 ⟨rfl, hb1⟩; have HB : Hid (Below w.heap.size w w1) := (two_new hb1).2.2.2; clear hb1)
  go_ret2
  exact .inl ⟨_, rfl, by rw [HE.out]; rfl, HB.out⟩
 ·have hs := some_text p (by omega)
  by_cases h64 : 64 ≤ dep
  ·have hi : (64 : Int) ≤ (dep : Int) := by omega
   clear h h0 h64
   go_enter Tryz.func241, Tryz.ntmps241
   go_wp2_with (go_at_call 228; refine (HNo.out _ (two_below _ _ _)).mono ?_; rintro e w1 ⟨rfl, hb1⟩; have HB : Hid (Below w.heap.size w w1) := (two_new hb1).2.2.2; clear hb1)
   go_ret2
   exact .inl ⟨_, rfl, by rw [HE.out]; rfl, HB.out⟩
  ·have hi : (dep : Int) < 64 := by omega
   have ht : tail17 l' fr' en' m' tx' = false := by
    rcases h with h | h | h
    ·exact absurd h h0
    ·exact absurd h h64
    ·exact h
   rw [HT.out] at ht
   generalize hR : (if l' = true then decide (en' - fr' < 32) else decide (tx'.size = 32)) = rr at HR
   have HX : Hid (rr = true → l' = true ∧ m' ≠ 17) := fun e => by
    subst e
    cases l' with
    | true => simp at hR ht; exact ⟨rfl, ht (by omega)⟩
    | false => simp at hR ht; omega
   clear h h0 h64 ht hR
   go_enter Tryz.func241, Tryz.ntmps241
   go_wp2_with fail
   refine (HR.out _).mono ?_
   rintro e w1 ⟨rfl, hb1⟩
   obtain ⟨n1, n2, n3, n4⟩ := two_new hb1
   obtain ⟨x0, x1, x2, x3, x4⟩ := plc5 n1
   obtain ⟨y0, y1, y2, y3, y4⟩ := plc5 n2
   have HB : Hid (Below w.heap.size w w1) := n4
   clear n1 n2 n3 n4 hb1
   cases rr with
   | false =>
    go_wp2_with (go_at_call 228; refine (HNo.out _ HB.out).mono ?_; rintro e w2 ⟨rfl, hb2⟩; have HB2 : Hid (Below w.heap.size w w2) := Below.behind HB.out hb2; clear hb2)
    go_ret2
    exact .inl ⟨_, rfl, by rw [HE.out]; rfl, HB2.out⟩
   | true =>
    obtain ⟨rfl, hm⟩ := HX.out rfl
    have hi17 : ((m' : Int) == 17) = false := by simp; omega
    clear hm
    go_wp2_with (go_at_call 228; refine (HNo.out _ HB.out).mono ?_; rintro e w2 ⟨rfl, hb2⟩; have HB2 : Hid (Below w.heap.size w w2) := Below.behind HB.out hb2; clear hb2)
    go_ret2
    exact .inl ⟨_, rfl, by rw [HE.out]; rfl, HB2.out⟩
def extQ (p : ByteArray) : Except Er Nd → Except Er Nd
 | .error e => .error e
 | .ok t => .ok (.ext p t)
set_option maxRecDepth 100000 in
set_option maxHeartbeats 1600000 in
theorem readext_ok (hf : Forest B S w) (hgs : g < w.heap.size) (hrow : w.rangeAt g 5 [.int .i64 (fr' : Int), .int .i64 (en' : Int), .bool l', .string tx', .slice p' m' c']) (hp : nibOK p) (h1 : fr' ≤ en') (h2 : en' ≤ 2048) (h0 : 0 < p.size) (h64 : dep < 64) (ht : tail17 l' fr' en' m' tx' = true) (q : Except Er Nd)
  (hN : ∀ W, Below w.heap.size w W → Calls Tryz.prog 244 #[.agg #[.int .i64 (fr' : Int), .int .i64 (en' : Int), .bool l', .string tx', .slice p' m' c'], .int .i64 (dep : Int)] W (RdSaid sent B S W q)) :
  Calls Tryz.prog 241 #[.agg #[.int .i64 (fr : Int), .int .i64 (en : Int), .bool true, .string tx0, .slice (some ⟨g, 0, none⟩) 2 cap], .string p, .int .i64 (dep : Int)] w (RdSaid sent B S w (extQ p q)) := by
 have r0 := hrow 0 _ rfl
 have r1 := hrow 1 _ rfl
 have r2 := hrow 2 _ rfl
 have r3 := hrow 3 _ rfl
 have r4 := hrow 4 _ rfl
 have hgn : ¬ g = w.heap.size := by omega
 have hgn1 : ¬ g = w.heap.size + 1 := by omega
 have hs := some_text p h0
 have hi : (dep : Int) < 64 := by omega
 have HN := Hid.hide hN
 have HF := Hid.hide hf
 have HP := Hid.hide hp
 have hR : (if l' = true then decide (en' - fr' < 32) else decide (tx'.size = 32)) = true := by
  unfold tail17 at ht
  cases l' <;> simp at ht ⊢ <;> omega
 have HR : Hid (∀ W, Calls Tryz.prog 257 #[.agg #[.int .i64 (fr' : Int), .int .i64 (en' : Int), .bool l', .string tx', .slice p' m' c']] W fun e w' => e = .returned (.bool true) ∧ Below W.heap.size W w') := fun W => by
  have := isref_any fr' en' l' tx' p' m' c' W h1 h2
  rw [hR] at this
  exact this
 have hl : (l' = true ∧ m' = 17) ∨ l' = false := by
  unfold tail17 at ht
  cases l' <;> simp at ht ⊢
  exact ht.2
 clear hrow hf h1 h2 hR hN hp ht h0 h64
 go_enter Tryz.func241, Tryz.ntmps241
 go_wp2_with fail
 refine (HR.out _).mono ?_
 rintro e w1 ⟨rfl, hb1⟩
 obtain ⟨n1, n2, n3, n4⟩ := two_new hb1
 obtain ⟨x0, x1, x2, x3, x4⟩ := plc5 n1
 obtain ⟨y0, y1, y2, y3, y4⟩ := plc5 n2
 have HB : Hid (Below w.heap.size w w1) := n4
 clear n1 n2 n3 n4 hb1
 have K : ∀ e w2, RdSaid sent B S w1 q e w2 → (∃ er et ev, q = .error er ∧ er.val sent = .iface et ev ∧ e = .returned (.tuple #[.nilIface, .iface et ev]) ∧ Below w.heap.size w w2) ∨ ∃ t d S', q = .ok t ∧ t ≠ .no ∧ e = .returned (.tuple #[.iface (ndTy t) (.pointer (some ⟨d, 0, none⟩)), .nilIface]) ∧ S' d = some t ∧ Gr B S S' w w2 := by
  rintro e w2 (⟨er, h1, h2, h3⟩ | ⟨t, v, S', h1, h2, h3, h4, h5⟩)
  ·obtain ⟨et, ev, hev⟩ := er.shape sent
   exact .inl ⟨er, et, ev, h1, hev, by rw [h2, hev], Below.behind HB.out h3⟩
  ·obtain ⟨d, rfl, hd⟩ := h4.full h3
   exact .inr ⟨t, d, S', h1, h3, h2, hd, h5.after HF.out HB.out⟩
 have HK := Hid.hide K
 clear K
 rcases hl with ⟨rfl, rfl⟩ | rfl
 all_goals
  go_wp2_with fail
  refine (HN.out _ HB.out).mono ?_
  intro e w2 h
  rcases HK.out e w2 h with ⟨er, et, ev, rfl, hev, rfl, hb2⟩ | ⟨t, d, S', rfl, hne, rfl, hd, hg⟩
  ·have HX : Hid (er.val sent = .iface et ev ∧ Below w.heap.size w w2) := ⟨hev, hb2⟩
   clear h hev hb2
   go_wp2
   go_ret2
   exact .inl ⟨er, rfl, by rw [HX.out.1]; rfl, HX.out.2⟩
  ·have hok : (Nd.ext p t).ok := by
    rw [Nd.ok]
    exact ⟨HP.out, hg.2.forest.ok d t hd, hne⟩
   have HX : Hid (Gr B S (S'.put w2.heap.size (.ext p t)) w (w2.alloc (.cells #[.string ⟨#[]⟩, .string p, .iface (ndTy t) (.pointer (some ⟨d, 0, none⟩))] 411))) :=
    hg.trans (Gr.alloc hg.2.forest (t := .ext p t) (h := ⟨#[]⟩) (r := [.string p, .iface (ndTy t) (.pointer (some ⟨d, 0, none⟩))]) (heldOK.empty (by simp)) ⟨_, rfl, .inr ⟨hne, d, rfl, hd⟩⟩ hok)
   clear h hne hd hg hok
   go_wp2
   go_ret2
   exact .inr ⟨.ext p t, _, _, rfl, rfl, by simp, .inr ⟨by simp, w2.heap.size, rfl, Wood.put_same _ _ _⟩, HX.out⟩
end
end Go.Proofs.YtjiikjpnlgogfaaGreatDoor
namespace Go.Proofs.YtjiikjpnlgogfaaGreatDoor
open Go.RowKit
def Cut3 (w : World) (ax a1 a2 : Array Value) (ga gb : Nat) (wc : World) : Prop :=
 wc.heap[w.heap.size]? = some (.cells ax 174 (0, 0)) ∧ wc.heap[ga]? = some (.cells a1 174 (0, 0)) ∧ wc.heap[gb]? = some (.cells a2 174 (0, 0)) ∧ Below w.heap.size w wc
theorem three_new (w : World) (a b c : Obj) : ((((w.alloc a).alloc b).alloc c).drew).heap[w.heap.size]? = some a ∧ ((((w.alloc a).alloc b).alloc c).drew).heap[w.heap.size + 1]? = some b ∧ ((((w.alloc a).alloc b).alloc c).drew).heap[w.heap.size + 1 + 1]? = some c ∧ Below w.heap.size w (((w.alloc a).alloc b).alloc c).drew := by
 have hb : Below w.heap.size w (((w.alloc a).alloc b).alloc c) := (((Below.refl _ _).alloc (Nat.le_refl _) _).alloc (by simp) _).alloc (by simp; omega) _
 refine ⟨?_, ?_, ?_, hb.os, hb.tape, hb.output, hb.size, hb.block⟩
 ·show (((w.heap.push a).push b).push c)[w.heap.size]? = _
  rw [Array.getElem?_push_lt (by simp; omega), Array.getElem_push_lt (by simp), Array.getElem_push_eq]
 ·show (((w.heap.push a).push b).push c)[w.heap.size + 1]? = _
  rw [Array.getElem?_push_lt (by simp), Array.getElem_push]
  simp
 ·show (((w.heap.push a).push b).push c)[w.heap.size + 1 + 1]? = _
  rw [show w.heap.size + 1 + 1 = ((w.heap.push a).push b).size by simp]
  exact Array.getElem?_push_size
theorem Cut3.keep {w : World} {ax a1 a2 : Array Value} {ga gb : Nat} {wc w1 : World} (h : Cut3 w ax a1 a2 ga gb wc) (hb : Below wc.heap.size wc w1) : Cut3 w ax a1 a2 ga gb w1 := by
 obtain ⟨h1, h2, h3, h4⟩ := h
 have k : ∀ {i o}, wc.heap[i]? = some o → w1.heap[i]? = some o := fun {i o} e => (hb.block i (Array.getElem?_eq_some_iff.1 e).1).trans e
 exact ⟨k h1, k h2, k h3, Below.behind h4 hb⟩
def pathQ (fr dep : Nat) (l1 : Bool) (tx1 : ByteArray) (l2 : Bool) (f2 e2 m2 : Nat) (tx2 : ByteArray) (q : Nat → Except Er Nd) : Except Er Nd :=
 if l1 = true then .error (noN fr)
 else
  match unpackF (bytesOf tx1) with
  | none => .error (.place fr (.noNode (.base 3)))
  | some (p, leaf) =>
   if leaf = true then
    if dep + p.length ≠ 64 ∨ l2 = true ∨ (decide (0 < tx2.size) && decide (tx2.size ≤ 100)) = false then .error (noN fr) else .ok (.leaf (textB p) tx2)
   else if p.length = 0 ∨ 64 ≤ dep + p.length ∨ tail17 l2 f2 e2 m2 tx2 = false then .error (noN fr) else extQ (textB p) (q (dep + p.length))
set_option maxRecDepth 100000 in
set_option maxHeartbeats 3200000 in
theorem readpath_any {B : Nat} {S : Wood} {w : World} (sent : Nat → Addr) (fr en : Nat) (tx0 : ByteArray) (g cap : Nat) (f1 e1 : Nat) (l1 : Bool) (tx1 : ByteArray) (p1 : Option Addr) (m1 c1 : Nat) (f2 e2 : Nat) (l2 : Bool) (tx2 : ByteArray) (p2 : Option Addr) (m2 c2 : Nat) (dep : Nat) (hf : Forest B S w) (hF : Faults w sent) (hgs : g < w.heap.size) (hrow1 : w.rangeAt g 0 [.int .i64 (f1 : Int), .int .i64 (e1 : Int), .bool l1, .string tx1, .slice p1 m1 c1]) (hrow : w.rangeAt g 5 [.int .i64 (f2 : Int), .int .i64 (e2 : Int), .bool l2, .string tx2, .slice p2 m2 c2]) (ht1 : tx1.size ≤ 2048) (hdep : dep ≤ 64) (h1 : f2 ≤ e2) (h2 : e2 ≤ 2048) (q : Nat → Except Er Nd)
  (hN : ∀ (d : Nat) W, d < 64 → tail17 l2 f2 e2 m2 tx2 = true → Below w.heap.size w W → Calls Tryz.prog 244 #[.agg #[.int .i64 (f2 : Int), .int .i64 (e2 : Int), .bool l2, .string tx2, .slice p2 m2 c2], .int .i64 (d : Int)] W (RdSaid sent B S W (q d))) :
  Calls Tryz.prog 226 #[.agg #[.int .i64 (fr : Int), .int .i64 (en : Int), .bool true, .string tx0, .slice (some ⟨g, 0, none⟩) 2 cap], .int .i64 (dep : Int)] w (RdSaid sent B S w (pathQ fr dep l1 tx1 l2 f2 e2 m2 tx2 q)) := by
 have r0 : w.cell? ⟨g, 5, none⟩ = some (.int .i64 (f2 : Int)) := hrow 0 _ rfl
 have r1 : w.cell? ⟨g, 6, none⟩ = some (.int .i64 (e2 : Int)) := hrow 1 _ rfl
 have r2 : w.cell? ⟨g, 7, none⟩ = some (.bool l2) := hrow 2 _ rfl
 have r3 : w.cell? ⟨g, 8, none⟩ = some (.string tx2) := hrow 3 _ rfl
 have r4 : w.cell? ⟨g, 9, none⟩ = some (.slice p2 m2 c2) := hrow 4 _ rfl
 have s0 : w.cell? ⟨g, 0, none⟩ = some (.int .i64 (f1 : Int)) := hrow1 0 _ rfl
 have s1 : w.cell? ⟨g, 1, none⟩ = some (.int .i64 (e1 : Int)) := hrow1 1 _ rfl
 have s2 : w.cell? ⟨g, 2, none⟩ = some (.bool l1) := hrow1 2 _ rfl
 have s3 : w.cell? ⟨g, 3, none⟩ = some (.string tx1) := hrow1 3 _ rfl
 have s4 : w.cell? ⟨g, 4, none⟩ = some (.slice p1 m1 c1) := hrow1 4 _ rfl
 have hgn : ¬ g = w.heap.size := by omega
 have hgn1 : ¬ g = w.heap.size + 1 := by omega
 have hgn2 : ¬ g = w.heap.size + 1 + 1 := by omega
 have hgn3 : ¬ g = w.heap.size + 2 := by omega
 have hgs1 : g < w.heap.size + 1 := by omega
 have hgs2 : g < w.heap.size + 1 + 1 := by omega
 have hgs3 : g < w.heap.size + 2 := by omega
 have HNo : Hid (∀ W, Below w.heap.size w W → Calls Tryz.prog 228 #[.agg #[.int .i64 (fr : Int), .int .i64 (en : Int), .bool true, .string tx0, .slice (some ⟨g, 0, none⟩) 2 cap]] W fun e w' => e = .returned ((noN fr).val sent) ∧ Below W.heap.size W w') := fun W hW => nonode_any fr en true tx0 _ 2 cap sent W (hF.below hW)
 obtain ⟨et, ev, hev⟩ := (noN fr).shape sent
 have HE : Hid ((noN fr).val sent = .iface et ev) := hev
 rw [hev] at HNo
 have HF := Hid.hide hf
 have HFa := Hid.hide hF
 have HN := Hid.hide hN
 have HX : Hid (tx1.size ≤ 2048 ∧ dep ≤ 64 ∧ f2 ≤ e2 ∧ e2 ≤ 2048 ∧ w.rangeAt g 5 [.int .i64 (f2 : Int), .int .i64 (e2 : Int), .bool l2, .string tx2, .slice p2 m2 c2] ∧ g < w.heap.size) := ⟨ht1, hdep, h1, h2, hrow, hgs⟩
 clear hrow hrow1 hf hF hN ht1 hdep h1 h2 hev
 go_enter Tryz.func226, Tryz.ntmps226
 go_upto_region 1 with fail
 go_cut [6, 7] (fun a b wc => ∃ ga gb, a = .pointer (some ⟨ga, 0, none⟩) ∧ b = .pointer (some ⟨gb, 0, none⟩) ∧ Cut3 w #[.int .i64 (fr : Int), .int .i64 (en : Int), .bool true, .string tx0, .slice (some ⟨g, 0, none⟩) 2 cap] #[.int .i64 (f1 : Int), .int .i64 (e1 : Int), .bool l1, .string tx1, .slice p1 m1 c1] #[.int .i64 (f2 : Int), .int .i64 (e2 : Int), .bool l2, .string tx2, .slice p2 m2 c2] ga gb wc)
 case first =>
  go_region
  all_goals (try go_wp2)
  all_goals go_meet
  ·obtain ⟨a1, a2, a3, a4⟩ := three_new w (.cells #[.int .i64 (fr : Int), .int .i64 (en : Int), .bool true, .string tx0, .slice (some ⟨g, 0, none⟩) 2 cap] 174) (.cells #[.int .i64 (f1 : Int), .int .i64 (e1 : Int), .bool l1, .string tx1, .slice p1 m1 c1] 174) (.cells #[.int .i64 (f2 : Int), .int .i64 (e2 : Int), .bool l2, .string tx2, .slice p2 m2 c2] 174)
   exact ⟨_, _, rfl, rfl, a1, a2, a3, a4⟩
  ·obtain ⟨a1, a2, a3, a4⟩ := three_new w (.cells #[.int .i64 (fr : Int), .int .i64 (en : Int), .bool true, .string tx0, .slice (some ⟨g, 0, none⟩) 2 cap] 174) (.cells #[.int .i64 (f2 : Int), .int .i64 (e2 : Int), .bool l2, .string tx2, .slice p2 m2 c2] 174) (.cells #[.int .i64 (f1 : Int), .int .i64 (e1 : Int), .bool l1, .string tx1, .slice p1 m1 c1] 174)
   exact ⟨_, _, rfl, rfl, a1, a3, a2, a4⟩
 case rest =>
  obtain ⟨ga, gb, rfl, rfl, hC⟩ := hcut
  clear r0 r1 r2 r3 r4 s0 s1 s2 s3 s4 hgn hgn1 hgn2 hgn3 hgs1 hgs2 hgs3 hgs
  have HC := Hid.hide hC
  obtain ⟨k1, k2, k3, k4⟩ := hC
  obtain ⟨x0, x1, x2, x3, x4⟩ := plc5 k1
  obtain ⟨y0, y1, y2, y3, y4⟩ := plc5 k2
  have HB : Hid (Below w.heap.size w wc) := k4
  clear k1 k2 k3 k4
  cases l1 with
  | true =>
   have HQ : Hid (pathQ fr dep true tx1 l2 f2 e2 m2 tx2 q = .error (noN fr)) := by unfold pathQ; rw [if_pos rfl]; exact rfl
   go_wp2_with (go_at_call 228; refine (HNo.out _ HB.out).mono ?_; rintro e w2 ⟨rfl, hb2⟩; have HB2 : Hid (Below w.heap.size w w2) := Below.behind HB.out hb2; clear hb2)
   go_ret2
   rw [HQ.out]
   exact .inl ⟨_, rfl, by rw [HE.out]; rfl, HB2.out⟩
  | false =>
   cases hu : unpackF (bytesOf tx1) with
   | none =>
    have HQ : Hid (pathQ fr dep false tx1 l2 f2 e2 m2 tx2 q = .error (.place fr (.noNode (.base 3)))) := by unfold pathQ; rw [if_neg (by simp), hu]; exact rfl
    have HU : Hid (∀ W, Below w.heap.size w W → Calls Tryz.prog 171 #[.string tx1] W fun e w' => e = .returned (.tuple #[.string ⟨#[]⟩, .bool false, .iface 423 (.pointer (some (sent 3)))]) ∧ Below W.heap.size W w') := fun W hW => unpack_none tx1 sent W (HFa.out.below hW) hu
    clear hu
    go_wp2_with fail
    refine (HU.out _ HB.out).mono ?_
    rintro e w1 ⟨rfl, hb1⟩
    have hC1 := HC.out.keep hb1
    obtain ⟨k1, k2, k3, k4⟩ := hC1
    obtain ⟨x0, x1, x2, x3, x4⟩ := plc5 k1
    have HB1 : Hid (Below w.heap.size w w1) := k4
    clear k1 k2 k3 k4 hb1
    go_wp2
    go_region
    all_goals (try go_wp2)
    all_goals go_ret2
    all_goals rw [HQ.out]
    all_goals exact .inl ⟨_, rfl, rfl, Below.drewN HB1.out 1⟩
   | some pl =>
    obtain ⟨p, leaf⟩ := pl
    have hq0 : pathQ fr dep false tx1 l2 f2 e2 m2 tx2 q = if leaf = true then if dep + p.length ≠ 64 ∨ l2 = true ∨ (decide (0 < tx2.size) && decide (tx2.size ≤ 100)) = false then .error (noN fr) else .ok (.leaf (textB p) tx2) else if p.length = 0 ∨ 64 ≤ dep + p.length ∨ tail17 l2 f2 e2 m2 tx2 = false then .error (noN fr) else extQ (textB p) (q (dep + p.length)) := by unfold pathQ; rw [if_neg (by simp), hu]
    have HU : Hid (∀ W, Below w.heap.size w W → Calls Tryz.prog 171 #[.string tx1] W fun e w' => e = .returned (.tuple #[.string (textB p), .bool leaf, .nilIface]) ∧ Below W.heap.size W w') := fun W _ => unpack_ok tx1 W (by have := HX.out; omega) p leaf hu
    obtain ⟨hp1, _, hp2⟩ := unpackF_back (bytesOf_lt tx1) hu
    rw [bytesOf_length] at hp2
    have HP : Hid (∀ y ∈ p, y < 16) := hp1
    obtain ⟨P, hP⟩ : ∃ P, textB p = P := ⟨_, rfl⟩
    have hPs : P.size = p.length := by rw [← hP, textB_size]
    have HPn : Hid (p.length ≤ 64 → nibOK P) := fun h => ⟨by omega, by rw [← hP, bytesOf_textB (fun y hy => by have := hp1 y hy; omega)]; exact hp1⟩
    rw [hP] at HU hq0
    have hlen : p.length ≤ 4096 := by have := HX.out; omega
    have hsum : wrap64 ((dep : Int) + (P.size : Int)) = ((dep + p.length : Nat) : Int) := by rw [hPs]; exact sum_few dep p.length (by have := HX.out; omega)
    obtain ⟨D, hD⟩ : ∃ D, dep + p.length = D := ⟨_, rfl⟩
    rw [hD] at hsum hq0
    have HD : Hid (dep + p.length = D ∧ P.size = p.length ∧ D ≤ 5000) := ⟨hD, hPs, by have := HX.out; omega⟩
    have HQ0 := Hid.hide hq0
    clear hq0
    clear hu hp1 hp2 hP hPs hlen hD
    go_wp2_with fail
    refine (HU.out _ HB.out).mono ?_
    rintro e w1 ⟨rfl, hb1⟩
    have HC1 := Hid.hide (HC.out.keep hb1)
    obtain ⟨k1, k2, k3, k4⟩ := HC.out.keep hb1
    obtain ⟨x0, x1, x2, x3, x4⟩ := plc5 k1
    obtain ⟨z0, z1, z2, z3, z4⟩ := plc5 k3
    have HB1 : Hid (Below w.heap.size w w1) := k4
    clear k1 k2 k3 k4 hb1 HU
    cases leaf with
    | false =>
     have hq1 := HQ0.out
     rw [if_neg (by simp)] at hq1
     have HExt : Hid (Calls Tryz.prog 241 #[.agg #[.int .i64 (fr : Int), .int .i64 (en : Int), .bool true, .string tx0, .slice (some ⟨g, 0, none⟩) 2 cap], .string P, .int .i64 (D : Int)] w1 (RdSaid sent B S w1 (if p.length = 0 ∨ 64 ≤ D ∨ tail17 l2 f2 e2 m2 tx2 = false then .error (noN fr) else extQ P (q D)))) := by
      obtain ⟨q1, q2, q3, q4, q5, q6⟩ := HX.out
      obtain ⟨d1, d2, d3⟩ := HD.out
      have hg1 : w1.rangeAt g 5 [.int .i64 (f2 : Int), .int .i64 (e2 : Int), .bool l2, .string tx2, .slice p2 m2 c2] := fun j u hu => (World.cell?_of_block (HB1.out.block g q6)).trans (q5 j u hu)
      have hg2 : g < w1.heap.size := Nat.lt_of_lt_of_le q6 HB1.out.size
      split
      ·rename_i h
       exact readext_bad sent fr en tx0 g cap f2 e2 l2 tx2 p2 m2 c2 P D (HFa.out.below HB1.out) hg2 hg1 (by omega) q3 q4 (by rw [d2]; exact h)
      ·rename_i h
       have a1 : 0 < p.length := by
        rcases Nat.eq_zero_or_pos p.length with e | e
        ·exact absurd (.inl e) h
        ·exact e
       have a2 : D < 64 := by
        rcases Nat.lt_or_ge D 64 with e | e
        ·exact e
        ·exact absurd (.inr (.inl e)) h
       have a3 : tail17 l2 f2 e2 m2 tx2 = true := by
        cases hv : tail17 l2 f2 e2 m2 tx2 with
        | true => rfl
        | false => exact absurd (.inr (.inr hv)) h
       exact readext_ok sent fr en tx0 g cap f2 e2 l2 tx2 p2 m2 c2 P D (HF.out.below HB1.out) hg2 hg1 (HPn.out (by omega)) q3 q4 (by omega) a2 a3 (q D) (fun W hW => HN.out D W a2 a3 (Below.behind HB1.out hW))
     generalize (if p.length = 0 ∨ 64 ≤ D ∨ tail17 l2 f2 e2 m2 tx2 = false then Except.error (noN fr) else extQ P (q D)) = res at HExt hq1
     have HQ := Hid.hide hq1
     clear hq1
     go_wp2_with fail
     refine HExt.out.mono ?_
     rintro e w2 (⟨er, rfl, rfl, hb⟩ | ⟨t, v, S', rfl, rfl, h3, h4, h5⟩)
     ·obtain ⟨et', ev', hev'⟩ := er.shape sent
      have HY : Hid (er.val sent = .iface et' ev' ∧ Below w.heap.size w w2) := ⟨hev', Below.behind HB1.out hb⟩
      rw [hev']
      clear hb hev'
      go_wp2
      go_ret2
      rw [HQ.out]
      exact .inl ⟨er, rfl, by rw [HY.out.1]; rfl, HY.out.2⟩
     ·have HY : Hid (t ≠ .no ∧ ndV S' v t ∧ Gr B S S' w w2) := ⟨h3, h4, h5.after HF.out HB1.out⟩
      clear h3 h4 h5
      go_wp2
      go_ret2
      rw [HQ.out]
      exact .inr ⟨t, v, S', rfl, rfl, HY.out.1, HY.out.2.1, HY.out.2.2⟩
    | true =>
     have hq1 := HQ0.out
     rw [if_pos rfl] at hq1
     have HV : Hid (∀ W, Calls Tryz.prog 82 #[.string tx2] W fun e w' => e = .returned (.bool (decide (0 < tx2.size) && decide (tx2.size ≤ 100))) ∧ w' = W) := fun W => isval_any tx2 W
     by_cases hd : D = 64
     ·subst hd
      cases l2 with
      | true =>
       rw [if_pos (.inr (.inl rfl))] at hq1
       have HQ := Hid.hide hq1
       clear hq1
       go_wp2_with (go_at_call 228; refine (HNo.out _ HB1.out).mono ?_; rintro e w2 ⟨rfl, hb2⟩; have HB2 : Hid (Below w.heap.size w w2) := Below.behind HB1.out hb2; clear hb2)
       go_ret2
       rw [HQ.out]
       exact .inl ⟨_, rfl, by rw [HE.out]; rfl, HB2.out⟩
      | false =>
       cases hv : (decide (0 < tx2.size) && decide (tx2.size ≤ 100)) with
       | false =>
        rw [if_pos (.inr (.inr hv))] at hq1
        have HQ := Hid.hide hq1
        clear hq1
        rw [hv] at HV
        clear hv
        go_wp2_with (first | (go_at_call 82; refine (HV.out _).mono ?_; rintro e w2 ⟨rfl, rfl⟩) | (go_at_call 228; refine (HNo.out _ HB1.out).mono ?_; rintro e w2 ⟨rfl, hb2⟩; have HB2 : Hid (Below w.heap.size w w2) := Below.behind HB1.out hb2; clear hb2))
        go_ret2
        rw [HQ.out]
        exact .inl ⟨_, rfl, by rw [HE.out]; rfl, HB2.out⟩
       | true =>
        rw [if_neg (by rw [hv]; simp)] at hq1
        have HQ := Hid.hide hq1
        clear hq1
        rw [hv] at HV
        have hv2 : tx2.size ≤ 100 := by simp at hv; omega
        have HY : Hid (Gr B S (S.put w1.heap.size (.leaf P tx2)) w (w1.alloc (.cells #[.string ⟨#[]⟩, .string P, .string tx2] 245))) := Gr.after HF.out HB1.out ⟨(Below.refl _ _).alloc (Nat.le_refl _) _, Fr.leaf (HF.out.below HB1.out) (HPn.out (by have := HD.out; omega)) (by omega)⟩
        clear hv hv2
        go_wp2_with (first | (go_at_call 82; refine (HV.out _).mono ?_; rintro e w2 ⟨rfl, rfl⟩))
        go_ret2
        rw [HQ.out]
        exact .inr ⟨.leaf P tx2, _, _, rfl, rfl, by simp, .inr ⟨by simp, _, rfl, Wood.put_same _ _ _⟩, HY.out⟩
     ·have hdi : ¬ ((D : Int) = 64) := by omega
      have hdj : ((D : Int) == 64) = false := by simp; omega
      rw [if_pos (.inl hd)] at hq1
      have HQ := Hid.hide hq1
      clear hq1
      go_wp2_with (go_at_call 228; refine (HNo.out _ HB1.out).mono ?_; rintro e w2 ⟨rfl, hb2⟩; have HB2 : Hid (Below w.heap.size w w2) := Below.behind HB1.out hb2; clear hb2)
      go_ret2
      rw [HQ.out]
      exact .inl ⟨_, rfl, by rw [HE.out]; rfl, HB2.out⟩
end Go.Proofs.YtjiikjpnlgogfaaGreatDoor
namespace Go.Proofs.YtjiikjpnlgogfaaGreatDoor
open Go.RowKit
def Row5 (w : World) (g : Nat) (es : List El) : Prop := g < w.heap.size ∧ ∀ i (hi : i < es.length), w.rangeAt g (i * 5) (encP es[i]) ∧ ∃ p m c, es[i].sub = .slice p m c
theorem Row5.below {w w' : World} {g : Nat} {es : List El} (h : Row5 w g es) (hb : Below w.heap.size w w') : Row5 w' g es :=
 ⟨Nat.lt_of_lt_of_le h.1 hb.size, fun i hi => ⟨fun j u hu => (World.cell?_of_block (hb.block g h.1)).trans ((h.2 i hi).1 j u hu), (h.2 i hi).2⟩⟩
theorem Row5.at {w : World} {g : Nat} {es : List El} (h : Row5 w g es) {i : Nat} (hi : i < es.length) : ∃ f e l tx p m c, es[i] = ⟨f, e, l, tx, .slice p m c⟩ ∧ w.cell? ⟨g, i * 5, none⟩ = some (.int .i64 (f : Int)) ∧ w.cell? ⟨g, i * 5 + 1, none⟩ = some (.int .i64 (e : Int)) ∧ w.cell? ⟨g, i * 5 + 2, none⟩ = some (.bool l) ∧ w.cell? ⟨g, i * 5 + 3, none⟩ = some (.string tx) ∧ w.cell? ⟨g, i * 5 + 4, none⟩ = some (.slice p m c) := by
 obtain ⟨h1, p, m, c, h2⟩ := h.2 i hi
 generalize es[i] = x at h1 h2
 obtain ⟨f, e, l, tx, sub⟩ := x
 simp only at h2
 subst h2
 exact ⟨f, e, l, tx, p, m, c, rfl, h1 0 _ rfl, h1 1 _ rfl, h1 2 _ rfl, h1 3 _ rfl, h1 4 _ rfl⟩
def El.ref (x : El) : Bool := if x.lst = true then decide (x.to - x.fr < 32) else decide (x.text.size = 32)
def El.emp (x : El) : Bool := !x.lst && decide (x.text.size = 0)
def refCnt (es : List El) (k : Nat) : Nat := ((es.take k).filter El.ref).length
theorem refCnt_succ {es : List El} {k : Nat} (hk : k < es.length) : refCnt es (k + 1) = refCnt es k + if es[k].ref = true then 1 else 0 := by
 unfold refCnt
 rw [List.take_add_one, List.getElem?_eq_getElem hk]
 simp only [Option.toList_some, List.filter_append, List.length_append]
 cases h : es[k].ref <;> simp [h]
theorem refCnt_le (es : List El) (k : Nat) : refCnt es k ≤ k := by
 unfold refCnt
 exact Nat.le_trans (List.length_filter_le _ _) (by rw [List.length_take]; omega)
theorem take_more (es : List El) (k : Nat) (h : k < 16) : es.take 16 = es.take (k + 1) ++ (es.take 16).drop (k + 1) := by
 have := List.take_append_drop (k + 1) (es.take 16)
 rw [List.take_take, show min (k + 1) 16 = k + 1 by omega] at this
 exact this.symm
def forksE (es : List El) : Bool := (es.take 16).all (fun x => x.ref || x.emp) && (decide (2 ≤ refCnt es 16) && (es.drop 16).all El.emp)
set_option maxRecDepth 100000 in
set_option maxHeartbeats 3200000 in
theorem forks_any {w : World} (g cap : Nat) (es : List El) (hl : es.length = 17) (hcap : 17 ≤ cap) (hr : Row5 w g es) (hb : ∀ i (hi : i < es.length), es[i].fr ≤ es[i].to ∧ es[i].to ≤ 2048) :
  Calls Tryz.prog 242 #[.slice (some ⟨g, 0, none⟩) 17 cap] w fun e w' => e = .returned (.bool (forksE es)) ∧ Below w.heap.size w w' := by
 have HR : Hid (Row5 w g es ∧ es.length = 17 ∧ ∀ i (hi : i < es.length), es[i].fr ≤ es[i].to ∧ es[i].to ≤ 2048) := ⟨hr, hl, hb⟩
 have hci : (17 : Int) ≤ (cap : Int) := by omega
 have hci2 : (16 : Int) ≤ (cap : Int) := by omega
 clear hl hr hb
 go_enter Tryz.func242, Tryz.ntmps242
 go_wp2_with fail
 go_loopg [14, 4] 16 (fun gh i n wr => ∃ k, k ≤ 16 ∧ gh = 16 - k ∧ i = .int .i64 (k : Int) ∧ n = .int .i64 (refCnt es k : Int) ∧ Below w.heap.size w wr ∧ (es.take k).all (fun x => x.ref || x.emp) = true)
 case atStart => exact ⟨0, Nat.zero_le _, rfl, rfl, by simp [refCnt], Below.refl _ _, by simp⟩
 case round =>
  obtain ⟨k, hk, rfl, rfl, rfl, hB, hA⟩ := hrel
  obtain ⟨hrow, hlen, hbd⟩ := HR.out
  have hrk := hrow.below hB
  by_cases hlt : k < 16
  ·have hkl : k < es.length := by omega
   have i1 : (k : Int) < 16 := by omega
   obtain ⟨f, e, l, tx, p, m, c, he, r0, r1, r2, r3, r4⟩ := hrk.at hkl
   have hgs := hrk.1
   have hgn : ¬ g = wr.heap.size := by omega
   have hbk := hbd k hkl
   rw [he] at hbk
   have hs1 := refCnt_succ hkl
   rw [he] at hs1
   have hle := refCnt_le es k
   have hall : ∀ b, (El.ref ⟨f, e, l, tx, .slice p m c⟩ || El.emp ⟨f, e, l, tx, .slice p m c⟩) = b → (es.take (k + 1)).all (fun x => x.ref || x.emp) = b := fun b hb => by
    rw [List.take_add_one, List.getElem?_eq_getElem hkl, List.all_append, hA, he]
    simpa using hb
   have hw1 : wrap64 ((k : Int) + 1) = ((k + 1 : Nat) : Int) := sum_few k 1 (by omega)
   obtain ⟨n, hn⟩ : ∃ n, refCnt es k = n := ⟨_, rfl⟩
   rw [hn] at hs1 hle ⊢
   have hw2 : wrap64 ((n : Int) + 1) = ((n + 1 : Nat) : Int) := sum_few n 1 (by omega)
   have HW : Hid (wrap64 ((k : Int) + 1) = ((k + 1 : Nat) : Int) ∧ wrap64 ((n : Int) + 1) = ((n + 1 : Nat) : Int)) := ⟨hw1, hw2⟩
   have HRf : Hid (∀ W, Calls Tryz.prog 257 #[.agg #[.int .i64 (f : Int), .int .i64 (e : Int), .bool l, .string tx, .slice p m c]] W fun r w' => r = .returned (.bool (El.ref ⟨f, e, l, tx, .slice p m c⟩)) ∧ Below W.heap.size W w') := fun W => isref_any f e l tx p m c W hbk.1 hbk.2
   have HEm : Hid (∀ W, Calls Tryz.prog 243 #[.agg #[.int .i64 (f : Int), .int .i64 (e : Int), .bool l, .string tx, .slice p m c]] W fun r w' => r = .returned (.bool (El.emp ⟨f, e, l, tx, .slice p m c⟩)) ∧ Below W.heap.size W w') := fun W => isemp_any f e l tx p m c W
   have HB := Hid.hide hB
   have HAll := Hid.hide hall
   have HS1 := Hid.hide hs1
   have HF2 : Hid ((es.take (k + 1)).all (fun x => x.ref || x.emp) = false → forksE es = false) := fun h => by
    unfold forksE
    rw [show es.take 16 = es.take (k + 1) ++ (es.take 16).drop (k + 1) from take_more es k hlt, List.all_append, h]
    rfl
   clear hrow hlen hbd hrk hA hk hlt hkl he hbk hs1 hle hall hw1 hw2 hB hn
   go_wp2_with fail
   refine (HRf.out _).mono ?_
   rintro r w1 ⟨rfl, hb1⟩
   have hnew := hb1.block wr.heap.size (by simp)
   rw [show (wr.alloc (.cells #[.int .i64 (f : Int), .int .i64 (e : Int), .bool l, .string tx, .slice p m c] 174)).heap[wr.heap.size]? = some (.cells #[.int .i64 (f : Int), .int .i64 (e : Int), .bool l, .string tx, .slice p m c] 174 (0, 0)) from Array.getElem?_push_size] at hnew
   obtain ⟨x0, x1, x2, x3, x4⟩ := plc5 hnew
   have HB1 : Hid (Below w.heap.size w w1) := Below.behind HB.out (Below.up hb1)
   clear hnew hb1
   cases hrf : El.ref ⟨f, e, l, tx, .slice p m c⟩ with
   | true =>
    have HS2 : Hid (refCnt es (k + 1) = n + 1) := by rw [HS1.out, if_pos hrf]; exact rfl
    have HA2 : Hid ((es.take (k + 1)).all (fun x => x.ref || x.emp) = true) := HAll.out true (by rw [hrf]; rfl)
    clear hrf
    go_wp2
    go_roundg (16 - (k + 1))
    case measure => omega
    case rel => exact ⟨k + 1, by omega, rfl, rfl, by rw [HS2.out, HW.out.2], HB1.out, HA2.out⟩
   | false =>
    go_wp2_with fail
    refine (HEm.out _).mono ?_
    rintro r w2 ⟨rfl, hb2⟩
    have HB2 : Hid (Below w.heap.size w w2) := Below.behind HB1.out hb2
    have HS2 : Hid (refCnt es (k + 1) = n) := by rw [HS1.out, if_neg (by rw [hrf]; simp)]; exact rfl
    have HA2 := Hid.hide (HAll.out _ rfl)
    rw [hrf] at HA2
    clear hrf hb2
    cases hem : El.emp ⟨f, e, l, tx, .slice p m c⟩ with
    | true =>
     rw [hem] at HA2
     clear hem
     go_wp2
     go_roundg (16 - (k + 1))
     case measure => omega
     case rel => exact ⟨k + 1, by omega, rfl, rfl, by rw [HS2.out], HB2.out, HA2.out⟩
    | false =>
     rw [hem] at HA2
     clear hem
     go_wp2
     go_ret
     exact ⟨by rw [HF2.out HA2.out]; rfl, HB2.out⟩
  ·obtain rfl : k = 16 := by omega
   have i1 : ¬ ((16 : Nat) : Int) < 16 := by omega
   have hkl : 16 < es.length := by omega
   obtain ⟨f, e, l, tx, p, m, c, he, r0, r1, r2, r3, r4⟩ := hrk.at hkl
   have HEm : Hid (∀ W, Calls Tryz.prog 243 #[.agg #[.int .i64 (f : Int), .int .i64 (e : Int), .bool l, .string tx, .slice p m c]] W fun r w' => r = .returned (.bool (El.emp ⟨f, e, l, tx, .slice p m c⟩)) ∧ Below W.heap.size W w') := fun W => isemp_any f e l tx p m c W
   have hd : es.drop 16 = [es[16]] := by
    rw [List.drop_eq_getElem_cons hkl, List.drop_eq_nil_of_le (by omega)]
   have HFk : Hid (forksE es = (decide (2 ≤ refCnt es 16) && El.emp ⟨f, e, l, tx, .slice p m c⟩)) := by
    show forksE es = _
    unfold forksE
    rw [hA, hd, he]
    simp
   have HB := Hid.hide hB
   have hle := refCnt_le es 16
   obtain ⟨n, hn⟩ : ∃ n, refCnt es 16 = n := ⟨_, rfl⟩
   rw [hn] at HFk hle ⊢
   by_cases h2 : 2 ≤ n
   ·have j1 : (2 : Int) ≤ (n : Int) := by omega
    rw [decide_eq_true h2, Bool.true_and] at HFk
    clear hrow hlen hbd hrk hA hk hlt hkl he hd hB hn hle h2
    go_wp2_with (first | (go_at_call 243; refine (HEm.out _).mono ?_; rintro r w2 ⟨rfl, hb2⟩; have HB2 : Hid (Below w.heap.size w w2) := Below.behind HB.out hb2; clear hb2))
    go_ret
    exact ⟨by rw [HFk.out]; rfl, HB2.out⟩
   ·have j1 : (n : Int) < 2 := by omega
    rw [decide_eq_false h2, Bool.false_and] at HFk
    clear hrow hlen hbd hrk hA hk hlt hkl he hd hB hn hle h2
    go_wp2
    go_ret
    exact ⟨by rw [HFk.out]; rfl, HB.out⟩
end Go.Proofs.YtjiikjpnlgogfaaGreatDoor
namespace Go.Proofs.YtjiikjpnlgogfaaGreatDoor
open Go.RowKit
theorem Gr.put {B : Nat} {S S1 : Wood} {w Y : World} (hg : Gr B S S1 w Y) {c : Nat} (hc : w.heap.size ≤ c) (hn : S1 c = none) (hBw : B ≤ w.heap.size) {t : Nd} {h : ByteArray} {r : List Value} (hh : heldOK t h) (hr : NdRest S1 t r) (ht : t.ok) (hY : Y.heap[c]? = some (.cells (.string h :: r).toArray (ndObj t) (0, 0))) : Gr B S (S1.put c t) w Y := by
 have hf := hg.2.forest
 have hsub : ∀ b u, S1 b = some u → S1.put c t b = some u := fun b u hb => by
  by_cases e : b = c
  ·subst e; rw [hn] at hb; cases hb
  ·rw [Wood.put_other _ _ _ e]; exact hb
 refine ⟨hg.1, hg.2.os, hg.2.tape, hg.2.output, hg.2.size, hg.2.other, ⟨fun k u hk => ?_, fun k u hk => ?_, fun k u hk => ?_, hf.le⟩, fun b u hb => hsub b u (hg.2.sub b u hb), fun k hk h => by rw [Wood.put_other _ _ _ (by omega)]; exact hg.2.new k hk h, hg.2.kids⟩
 ·by_cases e : k = c
  ·subst e
   rw [Wood.put_same] at hk
   obtain rfl := Option.some.inj hk
   exact ⟨h, r, hh, hr.sub hsub, hY⟩
  ·rw [Wood.put_other _ _ _ e] at hk
   obtain ⟨g, r', h1, h2, h3⟩ := hf.node k u hk
   exact ⟨g, r', h1, h2.sub hsub, h3⟩
 ·by_cases e : k = c
  ·subst e
   rw [Wood.put_same] at hk
   obtain rfl := Option.some.inj hk
   exact ht
  ·rw [Wood.put_other _ _ _ e] at hk
   exact hf.ok k u hk
 ·by_cases e : k = c
  ·subst e
   rw [Wood.put_same] at hk
   omega
  ·rw [Wood.put_other _ _ _ e] at hk
   exact hf.low k u hk
def thenK (ns : List Nd) : Except Er (List Nd) → Except Er (List Nd)
 | .error e => .error e
 | .ok ms => .ok (ns ++ ms)
def brQ : Except Er (List Nd) → Except Er Nd
 | .error e => .error e
 | .ok ns => .ok (.br ns)
theorem rdKids_emp {rd : It → Nat → Except Er Nd} {dep : Nat} {x : It} {xs : List It} {ns : List Nd} (h : x.emp = true) : thenK ns (rdKids rd dep (x :: xs)) = thenK (ns ++ [.no]) (rdKids rd dep xs) := by
 rw [rdKids, if_pos h]
 cases rdKids rd dep xs with
 | error e => rfl
 | ok ms => simp [thenK]
theorem rdKids_err {rd : It → Nat → Except Er Nd} {dep : Nat} {x : It} {xs : List It} {ns : List Nd} {e : Er} (h : x.emp = false) (hr : rdRef rd x dep = .error e) : thenK ns (rdKids rd dep (x :: xs)) = .error e := by
 rw [rdKids, if_neg (by rw [h]; simp), hr]
 rfl
theorem rdKids_ok1 {rd : It → Nat → Except Er Nd} {dep : Nat} {x : It} {xs : List It} {ns : List Nd} {t : Nd} (h : x.emp = false) (hr : rdRef rd x dep = .ok t) : thenK ns (rdKids rd dep (x :: xs)) = thenK (ns ++ [t]) (rdKids rd dep xs) := by
 rw [rdKids, if_neg (by rw [h]; simp), hr]
 simp only
 cases rdKids rd dep xs with
 | error e => rfl
 | ok ms => simp [thenK]
structure BrInv (B : Nat) (S : Wood) (w : World) (ax : Array Value) (gb : Nat) (R : Except Er (List Nd)) (rest : Nat → Except Er (List Nd)) (k : Nat) (wr : World) (ns : List Nd) (vs : List Value) (S1 : Wood) : Prop where
 len : ns.length = k
 len16 : vs.length = 16
 kids : ∀ i (h : i < vs.length), ndV S1 vs[i] (ns.getD i .no)
 cell : wr.heap[gb]? = some (.cells (.string ⟨#[]⟩ :: vs).toArray 397 (0, 0))
 off : S1 gb = none
 gr : Gr B S S1 w wr
 box : wr.heap[w.heap.size]? = some (.cells ax 174 (0, 0))
 eq : R = thenK ns (rest k)
theorem BrInv.lt {B : Nat} {S : Wood} {w : World} {ax : Array Value} {gb : Nat} {R : Except Er (List Nd)} {rest : Nat → Except Er (List Nd)} {k : Nat} {wr : World} {ns : List Nd} {vs : List Value} {S1 : Wood} (h : BrInv B S w ax gb R rest k wr ns vs S1) : gb < wr.heap.size := (Array.getElem?_eq_some_iff.1 h.cell).1
theorem BrInv.keep {B : Nat} {S : Wood} {w : World} {ax : Array Value} {gb : Nat} {R : Except Er (List Nd)} {rest : Nat → Except Er (List Nd)} {k : Nat} {wr w1 : World} {ns : List Nd} {vs : List Value} {S1 S2 : Wood} (h : BrInv B S w ax gb R rest k wr ns vs S1) (hg : Gr B S1 S2 wr w1) : BrInv B S w ax gb R rest k w1 ns vs S2 := by
 refine ⟨h.len, h.len16, fun i hi => (h.kids i hi).sub hg.2.sub, (hg.1.block gb h.lt).trans h.cell, hg.2.new gb h.lt h.off, h.gr.trans hg, (hg.1.block _ (Array.getElem?_eq_some_iff.1 h.box).1).trans h.box, h.eq⟩
theorem getD_more (ns : List Nd) (t : Nd) (i : Nat) : (ns ++ [t]).getD i .no = if i = ns.length then t else ns.getD i .no := by
 by_cases h : i = ns.length
 ·subst h; simp
 ·rw [if_neg h]
  rcases Nat.lt_or_ge i ns.length with h1 | h1
  ·simp [List.getD_eq_getElem?_getD, List.getElem?_append_left h1]
  ·rw [List.getD_eq_getElem?_getD, List.getD_eq_getElem?_getD, List.getElem?_eq_none (by simp; omega), List.getElem?_eq_none h1]
theorem BrInv.skip {B : Nat} {S : Wood} {w : World} {ax : Array Value} {gb : Nat} {R : Except Er (List Nd)} {rest : Nat → Except Er (List Nd)} {k : Nat} {wr : World} {ns : List Nd} {vs : List Value} {S1 : Wood} (h : BrInv B S w ax gb R rest k wr ns vs S1) (he : ∀ ns, thenK ns (rest k) = thenK (ns ++ [.no]) (rest (k + 1))) : BrInv B S w ax gb R rest (k + 1) wr (ns ++ [.no]) vs S1 := by
 refine ⟨by simp [h.len], h.len16, fun i hi => ?_, h.cell, h.off, h.gr, h.box, by rw [h.eq, he]⟩
 rw [getD_more]
 split
 ·rename_i e
  have := h.kids i hi
  rw [List.getD_eq_getElem?_getD, List.getElem?_eq_none (by omega)] at this
  exact this
 ·exact h.kids i hi
theorem BrInv.more {B : Nat} {S : Wood} {w : World} {ax : Array Value} {gb : Nat} {R : Except Er (List Nd)} {rest : Nat → Except Er (List Nd)} {k : Nat} {wr : World} {ns : List Nd} {vs : List Value} {S1 : Wood} (h : BrInv B S w ax gb R rest k wr ns vs S1) (hgb : w.heap.size < gb) {v : Value} {t : Nd} (hv : ndV S1 v t) (he : ∀ ns, thenK ns (rest k) = thenK (ns ++ [t]) (rest (k + 1))) : BrInv B S w ax gb R rest (k + 1) (wr.setCell ⟨gb, 1 + k, none⟩ v) (ns ++ [t]) (vs.set k v) S1 := by
 have hb : Below w.heap.size w (wr.setCell ⟨gb, 1 + k, none⟩ v) := by
  have hb := h.gr.1
  exact ⟨hb.os, hb.tape, hb.output, by simpa using hb.size, fun j hj => (Below.heap_setCell _ _ _ _ (by simp; omega)).trans (hb.block j hj)⟩
 refine ⟨by simp [h.len], by simpa using h.len16, fun i hi => ?_, ?_, h.off, ⟨hb, ?_⟩, (Below.heap_setCell _ _ _ _ (by simp; omega)).trans h.box, by rw [h.eq, he]⟩
 ·rw [getD_more, List.getElem_set, h.len]
  by_cases e : k = i
  ·rw [if_pos e, if_pos e.symm]; exact hv
  ·rw [if_neg e, if_neg (fun e' => e e'.symm)]
   exact h.kids i (by simpa using hi)
 ·have := heap_setCell_list h.cell (1 + k) v
  rw [this, Nat.add_comm 1 k, List.set_cons_succ]
 ·have hf := h.gr.2
  refine ⟨hf.os, hf.tape, hf.output, by simpa using hf.size, fun j hj hn => hb.block j hj, ?_, hf.sub, hf.new, fun b u hb' j hj => ?_⟩
  ·exact hf.forest.keep (by simp) fun j u hj => Below.heap_setCell _ _ _ _ (by
    rintro rfl
    rw [h.off] at hj
    cases hj)
  ·have hne : b ≠ gb := by
    rintro rfl
    have := hf.sub b u hb'
    rw [h.off] at this
    cases this
   exact (World.cell?_of_block (Below.heap_setCell _ _ _ _ hne)).trans (hf.kids b u hb' j hj)
end Go.Proofs.YtjiikjpnlgogfaaGreatDoor
namespace Go.Proofs.YtjiikjpnlgogfaaGreatDoor
open Go.RowKit
set_option maxRecDepth 100000 in
set_option maxHeartbeats 1600000 in
theorem readbr_bad {B : Nat} {S : Wood} {w : World} (sent : Nat → Addr) (fr en : Nat) (tx0 : ByteArray) (g cap : Nat) (es : List El) (dep : Nat) (hF : Faults w sent) (hl : es.length = 17) (hcap : 17 ≤ cap) (hr : Row5 w g es) (hb : ∀ i (hi : i < es.length), es[i].fr ≤ es[i].to ∧ es[i].to ≤ 2048) (h : 64 ≤ dep ∨ forksE es = false) :
  Calls Tryz.prog 227 #[.agg #[.int .i64 (fr : Int), .int .i64 (en : Int), .bool true, .string tx0, .slice (some ⟨g, 0, none⟩) 17 cap], .int .i64 (dep : Int)] w (RdSaid sent B S w (.error (noN fr))) := by
 have HNo : Hid (∀ W, Below w.heap.size w W → Calls Tryz.prog 228 #[.agg #[.int .i64 (fr : Int), .int .i64 (en : Int), .bool true, .string tx0, .slice (some ⟨g, 0, none⟩) 17 cap]] W fun e w' => e = .returned ((noN fr).val sent) ∧ Below W.heap.size W w') := fun W hW => nonode_any fr en true tx0 _ 17 cap sent W (hF.below hW)
 obtain ⟨et, ev, hev⟩ := (noN fr).shape sent
 have HE : Hid ((noN fr).val sent = .iface et ev) := hev
 rw [hev] at HNo
 have HK : Hid (∀ W, Below w.heap.size w W → Calls Tryz.prog 242 #[.slice (some ⟨g, 0, none⟩) 17 cap] W fun e w' => e = .returned (.bool (forksE es)) ∧ Below W.heap.size W w') := fun W hW => forks_any g cap es hl hcap (hr.below hW) hb
 have hb0 : Below w.heap.size w (w.alloc (.cells #[.int .i64 (fr : Int), .int .i64 (en : Int), .bool true, .string tx0, .slice (some ⟨g, 0, none⟩) 17 cap] 174)) := (Below.refl _ _).alloc (Nat.le_refl _) _
 have HB0 := Hid.hide hb0
 clear hF hl hcap hr hb hev hb0
 by_cases h64 : 64 ≤ dep
 ·have hi : (64 : Int) ≤ (dep : Int) := by omega
  clear h h64
  go_enter Tryz.func227, Tryz.ntmps227
  go_wp2_with (go_at_call 228; refine (HNo.out _ HB0.out).mono ?_; rintro e w1 ⟨rfl, hb1⟩; have HB : Hid (Below w.heap.size w w1) := Below.behind HB0.out hb1; clear hb1)
  go_ret2
  exact .inl ⟨_, rfl, by rw [HE.out]; rfl, HB.out⟩
 ·have hi : (dep : Int) < 64 := by omega
  have hfk : forksE es = false := h.resolve_left h64
  rw [hfk] at HK
  clear h h64 hfk
  go_enter Tryz.func227, Tryz.ntmps227
  go_wp2_with fail
  refine (HK.out _ HB0.out).mono ?_
  rintro e w1 ⟨rfl, hb1⟩
  have hnew := hb1.block w.heap.size (by simp)
  rw [show (w.alloc (.cells #[.int .i64 (fr : Int), .int .i64 (en : Int), .bool true, .string tx0, .slice (some ⟨g, 0, none⟩) 17 cap] 174)).heap[w.heap.size]? = some (.cells #[.int .i64 (fr : Int), .int .i64 (en : Int), .bool true, .string tx0, .slice (some ⟨g, 0, none⟩) 17 cap] 174 (0, 0)) from Array.getElem?_push_size] at hnew
  obtain ⟨x0, x1, x2, x3, x4⟩ := plc5 hnew
  have HB1 : Hid (Below w.heap.size w w1) := Below.behind HB0.out hb1
  clear hnew hb1
  go_wp2_with (go_at_call 228; refine (HNo.out _ HB1.out).mono ?_; rintro e w2 ⟨rfl, hb2⟩; have HB : Hid (Below w.heap.size w w2) := Below.behind HB1.out hb2; clear hb2)
  go_ret2
  exact .inl ⟨_, rfl, by rw [HE.out]; rfl, HB.out⟩
theorem drop16 {its : List It} {k : Nat} (hl : its.length = 17) (hk : k < 16) : (its.take 16).drop k = its[k] :: (its.take 16).drop (k + 1) := by
 have h : k < (its.take 16).length := by rw [List.length_take]; omega
 rw [List.drop_eq_getElem_cons h, List.getElem_take]
set_option maxRecDepth 100000 in
set_option maxHeartbeats 3200000 in
theorem readbr_ok {B : Nat} {S : Wood} {w : World} (sent : Nat → Addr) (fr en : Nat) (tx0 : ByteArray) (g cap : Nat) (es : List El) (its : List It) (dep : Nat) (rd : It → Nat → Except Er Nd) (hf : Forest B S w) (hl : es.length = 17) (hcap : 17 ≤ cap) (hr : Row5 w g es) (hb : ∀ i (hi : i < es.length), es[i].fr ≤ es[i].to ∧ es[i].to ≤ 2048) (h64 : dep < 64) (hfk : forksE es = true) (hli : its.length = 17)
  (hemp : ∀ i (h1 : i < es.length) (h2 : i < its.length), es[i].emp = its[i].emp)
  (hN : ∀ i (h1 : i < es.length) (h2 : i < its.length) (S1 : Wood) (W : World), i < 16 → Forest B S1 W → Below w.heap.size w W → es[i].ref = true → Calls Tryz.prog 244 #[valP es[i], .int .i64 ((dep + 1 : Nat) : Int)] W (RdSaid sent B S1 W (rdRef rd its[i] (dep + 1)))) :
  Calls Tryz.prog 227 #[.agg #[.int .i64 (fr : Int), .int .i64 (en : Int), .bool true, .string tx0, .slice (some ⟨g, 0, none⟩) 17 cap], .int .i64 (dep : Int)] w (RdSaid sent B S w (brQ (rdKids rd (dep + 1) (its.take 16)))) := by
 have HK : Hid (∀ W, Below w.heap.size w W → Calls Tryz.prog 242 #[.slice (some ⟨g, 0, none⟩) 17 cap] W fun e w' => e = .returned (.bool true) ∧ Below W.heap.size W w') := fun W hW => by
  have := forks_any g cap es hl hcap (hr.below hW) hb
  rw [hfk] at this
  exact this
 have hall : ∀ i (h : i < es.length), i < 16 → (es[i].ref || es[i].emp) = true := fun i h h16 => by
  unfold forksE at hfk
  rw [Bool.and_eq_true] at hfk
  refine List.all_eq_true.1 hfk.1 _ ?_
  exact List.mem_take_iff_getElem.2 ⟨i, by omega, rfl⟩
 have hb0 : Below w.heap.size w (w.alloc (.cells #[.int .i64 (fr : Int), .int .i64 (en : Int), .bool true, .string tx0, .slice (some ⟨g, 0, none⟩) 17 cap] 174)) := (Below.refl _ _).alloc (Nat.le_refl _) _
 have HB0 := Hid.hide hb0
 have HX : Hid (Row5 w g es ∧ es.length = 17 ∧ its.length = 17 ∧ (∀ i (h : i < es.length), i < 16 → (es[i].ref || es[i].emp) = true) ∧ (∀ i (h1 : i < es.length) (h2 : i < its.length), es[i].emp = its[i].emp) ∧ dep < 64) := ⟨hr, hl, hli, hall, hemp, h64⟩
 have HN := Hid.hide hN
 have HF := Hid.hide hf
 have hi : (dep : Int) < 64 := by omega
 have hci : (17 : Int) ≤ (cap : Int) := by omega
 obtain ⟨R, hR⟩ : ∃ R, rdKids rd (dep + 1) (its.take 16) = R := ⟨_, rfl⟩
 have HRR := Hid.hide hR
 rw [hR]
 clear hf hl hcap hr hb h64 hfk hli hemp hN hall hb0 hR
 go_enter Tryz.func227, Tryz.ntmps227
 go_wp2_with fail
 refine (HK.out _ HB0.out).mono ?_
 rintro e w1 ⟨rfl, hb1⟩
 have hnew := hb1.block w.heap.size (by simp)
 rw [show (w.alloc (.cells #[.int .i64 (fr : Int), .int .i64 (en : Int), .bool true, .string tx0, .slice (some ⟨g, 0, none⟩) 17 cap] 174)).heap[w.heap.size]? = some (.cells #[.int .i64 (fr : Int), .int .i64 (en : Int), .bool true, .string tx0, .slice (some ⟨g, 0, none⟩) 17 cap] 174 (0, 0)) from Array.getElem?_push_size] at hnew
 have hs1 : w.heap.size < w1.heap.size := by have := hb1.size; simp at this; omega
 have hB1 : Below w.heap.size w w1 := Below.behind HB0.out hb1
 obtain ⟨x0, x1, x2, x3, x4⟩ := plc5 hnew
 have A0 : Aside (BrInv B S w #[.int .i64 (fr : Int), .int .i64 (en : Int), .bool true, .string tx0, .slice (some ⟨g, 0, none⟩) 17 cap] w1.heap.size R (fun k => rdKids rd (dep + 1) ((its.take 16).drop k)) 0 (w1.alloc (.cells z17.toArray 397)) [] (z17.drop 1) S) := by
  have hba := hB1.alloc (Nat.le_of_lt hs1) (.cells z17.toArray 397)
  refine ⟨rfl, rfl, fun i hi => .inl ⟨by simp, ?_⟩, ?_, HF.out.fresh (Nat.le_of_lt hs1), .of_below HF.out hba, ?_, ?_⟩
  ·have : (z17.drop 1)[i] ∈ List.replicate 16 Value.nilIface := List.getElem_mem hi
   exact List.eq_of_mem_replicate this
  ·exact Array.getElem?_push_size
  ·exact (Below.heap_alloc _ _ _ hs1).trans hnew
  ·rw [List.drop_zero, HRR.out]
   cases R <;> rfl
 have HS1 : Hid (w.heap.size < w1.heap.size) := hs1
 clear hnew hb1 hB1 hs1
 go_wp2_with fail
 go_loopg [21] 16 (fun gh i wr => ∃ k ns vs S1, k ≤ 16 ∧ gh = 16 - k ∧ i = .int .i64 (k : Int) ∧ BrInv B S w #[.int .i64 (fr : Int), .int .i64 (en : Int), .bool true, .string tx0, .slice (some ⟨g, 0, none⟩) 17 cap] w1.heap.size R (fun k => rdKids rd (dep + 1) ((its.take 16).drop k)) k wr ns vs S1)
 case atStart => exact ⟨0, [], _, S, Nat.zero_le _, rfl, rfl, A0.out⟩
 case round =>
  obtain ⟨k, ns, vs, S1, hk, rfl, rfl, hI⟩ := hrel
  clear A0 x0 x1 x2 x3 x4
  have HI := Hid.hide hI
  obtain ⟨x0, x1, x2, x3, x4⟩ := plc5 hI.box
  by_cases hlt : k < 16
  ·have i1 : (k : Int) < 16 := by omega
   obtain ⟨hrow, hle, hli, hall, hemp, hd⟩ := HX.out
   have hkl : k < es.length := by omega
   have hki : k < its.length := by omega
   have hrk := hrow.below hI.gr.1
   obtain ⟨f, e, l, tx, p, m, c, he, r0, r1, r2, r3, r4⟩ := hrk.at hkl
   have hgs := hrk.1
   have hgn : ¬ g = wr.heap.size := by omega
   have HEm : Hid (∀ W, Calls Tryz.prog 243 #[.agg #[.int .i64 (f : Int), .int .i64 (e : Int), .bool l, .string tx, .slice p m c]] W fun r w' => r = .returned (.bool (El.emp ⟨f, e, l, tx, .slice p m c⟩)) ∧ Below W.heap.size W w') := fun W => isemp_any f e l tx p m c W
   have hem := hemp k hkl hki
   rw [he] at hem
   have ha := hall k hkl hlt
   rw [he] at ha
   have HA := Hid.hide ha
   have hN := HN.out k hkl hki
   rw [he] at hN
   have hdr := drop16 hli hlt
   obtain ⟨x, hx⟩ : ∃ x, its[k] = x := ⟨_, rfl⟩
   rw [hx] at hem hN hdr
   have HEQ : Hid (El.emp ⟨f, e, l, tx, .slice p m c⟩ = x.emp) := hem
   have HNk : Hid (∀ (S1 : Wood) (W : World), Forest B S1 W → Below w.heap.size w W → El.ref ⟨f, e, l, tx, .slice p m c⟩ = true → Calls Tryz.prog 244 #[.agg #[.int .i64 (f : Int), .int .i64 (e : Int), .bool l, .string tx, .slice p m c], .int .i64 ((dep + 1 : Nat) : Int)] W (RdSaid sent B S1 W (rdRef rd x (dep + 1)))) := fun S1 W h1 h2 h3 => hN S1 W hlt h1 h2 h3
   have HDr : Hid ((its.take 16).drop k = x :: (its.take 16).drop (k + 1)) := hdr
   have hw2 : wrap64 ((dep : Int) + 1) = ((dep + 1 : Nat) : Int) := sum_few dep 1 (by omega)
   clear hrow hle hli hall hemp hd hkl hki hrk he hI hk hem ha hN hdr hx
   go_wp2_with fail
   refine (HEm.out _).mono ?_
   rintro r w2 ⟨rfl, hb2⟩
   have hnew := hb2.block wr.heap.size (by simp)
   rw [show (wr.alloc (.cells #[.int .i64 (f : Int), .int .i64 (e : Int), .bool l, .string tx, .slice p m c] 174)).heap[wr.heap.size]? = some (.cells #[.int .i64 (f : Int), .int .i64 (e : Int), .bool l, .string tx, .slice p m c] 174 (0, 0)) from Array.getElem?_push_size] at hnew
   obtain ⟨y0, y1, y2, y3, y4⟩ := plc5 hnew
   have HI2 := Hid.hide (HI.out.keep (.of_below HI.out.gr.2.forest (Below.up hb2)))
   clear hnew hb2
   cases hem : El.emp ⟨f, e, l, tx, .slice p m c⟩ with
   | true =>
    have HI3 := Hid.hide (HI2.out.skip (fun ns => by rw [HDr.out]; exact rdKids_emp (by rw [← HEQ.out, hem])))
    clear hem
    go_wp2
    go_roundg (16 - (k + 1))
    case measure => omega
    case rel => exact ⟨k + 1, _, _, S1, by omega, rfl, rfl, HI3.out⟩
   | false =>
    have hrf : El.ref ⟨f, e, l, tx, .slice p m c⟩ = true := by
     have := HA.out
     rw [hem, Bool.or_false] at this
     exact this
    have hxe : x.emp = false := by rw [← HEQ.out, hem]
    have HXe := Hid.hide hxe
    have HCall := Hid.hide (HNk.out S1 w2 HI2.out.gr.2.forest HI2.out.gr.1 hrf)
    clear hem hrf hxe
    go_wp2_with fail
    refine HCall.out.mono ?_
    rintro r w3 (⟨er, hq, rfl, hb3⟩ | ⟨t, v, S2, hq, rfl, h3, h4, h5⟩)
    ·obtain ⟨et, ev, hev⟩ := er.shape sent
     have HY : Hid (R = .error er ∧ er.val sent = .iface et ev ∧ Below w.heap.size w w3) := ⟨by rw [HI2.out.eq, HDr.out]; exact rdKids_err HXe.out hq, hev, Below.behind HI2.out.gr.1 hb3⟩
     rw [hev]
     clear hb3 hev hq
     go_wp2
     go_ret2
     rw [HY.out.1]
     exact .inl ⟨er, rfl, by rw [HY.out.2.1]; rfl, HY.out.2.2⟩
    ·obtain ⟨d, rfl, hd⟩ := h4.full h3
     have hI3 := HI2.out.keep h5
     have hcell : w3.cell? ⟨w1.heap.size, 1 + k, none⟩ = some vs[k]! := by
      have := with_cell (n := k) hI3.cell (by rw [hI3.len16]; exact hlt) trivial
      rw [this, getElem!_pos vs k (by rw [hI3.len16]; exact hlt)]
     have hfree : w3.frozen? ⟨w1.heap.size, 1 + k, none⟩ = false := with_free (n := k) hI3.cell trivial
     have HI4 := Hid.hide (hI3.more HS1.out h4 (fun ns => by rw [HDr.out]; exact rdKids_ok1 HXe.out hq))
     clear h3 h4 h5 hq hI3 hd
     go_wp2
     go_roundg (16 - (k + 1))
     case measure => omega
     case rel => exact ⟨k + 1, _, _, S2, by omega, rfl, rfl, HI4.out⟩
  ·obtain rfl : k = 16 := by omega
   have i1 : ¬ ((16 : Nat) : Int) < 16 := by omega
   have hend : R = .ok ns := by
    rw [hI.eq, List.drop_eq_nil_of_le (by rw [List.length_take]; omega), rdKids]
    simp [thenK]
   have hok : (Nd.br ns).ok := by
    rw [Nd.ok]
    refine ⟨hI.len, oks_of fun t ht => ?_⟩
    obtain ⟨i, hi, rfl⟩ := List.getElem_of_mem ht
    have hl := hI.len
    have hk := hI.kids i (by rw [hI.len16]; omega)
    rw [List.getD_eq_getElem?_getD, List.getElem?_eq_getElem hi] at hk
    rcases hk with ⟨e, _⟩ | ⟨_, b, _, hb⟩
    ·simp only [Option.getD_some] at e
     rw [e, Nd.ok]; trivial
    ·exact hI.gr.2.forest.ok b _ hb
   have hG := hI.gr.put (c := w1.heap.size) (Nat.le_of_lt HS1.out) hI.off HF.out.le (t := .br ns) (h := ⟨#[]⟩) (r := vs) (heldOK.empty (by simp)) ⟨hI.len16, fun i h1 h2 => by
    have := hI.kids i h1
    rw [List.getD_eq_getElem?_getD, List.getElem?_eq_getElem h2] at this
    exact this⟩ hok hI.cell
   have HG : Hid (R = .ok ns ∧ Gr B S (S1.put w1.heap.size (.br ns)) w wr) := ⟨hend, hG⟩
   clear hI hend hok hG hk hlt
   go_wp2
   go_ret2
   rw [HG.out.1]
   exact .inr ⟨.br ns, _, _, rfl, rfl, by simp, .inr ⟨by simp, w1.heap.size, rfl, Wood.put_same _ _ _⟩, HG.out.2⟩
end Go.Proofs.YtjiikjpnlgogfaaGreatDoor
namespace Go.Proofs.YtjiikjpnlgogfaaGreatDoor
open Go.RowKit
section
variable {B : Nat} {S : Wood} {w : World} (sent : Nat → Addr) (fr en : Nat) (tx : ByteArray) (dep : Nat)
set_option maxRecDepth 100000 in
set_option maxHeartbeats 1600000 in
theorem read_no (l : Bool) (p : Option Addr) (m c : Nat) (hF : Faults w sent) (h : l = true → m ≠ 2 ∧ m ≠ 17) :
  Calls Tryz.prog 206 #[.agg #[.int .i64 (fr : Int), .int .i64 (en : Int), .bool l, .string tx, .slice p m c], .int .i64 (dep : Int)] w (RdSaid sent B S w (.error (noN fr))) := by
 have HNo : Hid (∀ W, Below w.heap.size w W → Calls Tryz.prog 228 #[.agg #[.int .i64 (fr : Int), .int .i64 (en : Int), .bool l, .string tx, .slice p m c]] W fun e w' => e = .returned ((noN fr).val sent) ∧ Below W.heap.size W w') := fun W hW => nonode_any fr en l tx p m c sent W (hF.below hW)
 obtain ⟨et, ev, hev⟩ := (noN fr).shape sent
 have HE : Hid ((noN fr).val sent = .iface et ev) := hev
 rw [hev] at HNo
 have HB0 : Hid (Below w.heap.size w (w.alloc (.cells #[.int .i64 (fr : Int), .int .i64 (en : Int), .bool l, .string tx, .slice p m c] 174))) := (Below.refl _ _).alloc (Nat.le_refl _) _
 clear hF hev
 cases l with
 | false =>
  clear h
  go_enter Tryz.func206, Tryz.ntmps206
  go_wp2_with (go_at_call 228; refine (HNo.out _ HB0.out).mono ?_; rintro e w1 ⟨rfl, hb1⟩; have HB : Hid (Below w.heap.size w w1) := Below.behind HB0.out hb1; clear hb1)
  go_ret2
  exact .inl ⟨_, rfl, by rw [HE.out]; rfl, HB.out⟩
 | true =>
  obtain ⟨h2, h17⟩ := h rfl
  have i2 : ((m : Int) == 2) = false := by simp; omega
  have i17 : ((m : Int) == 17) = false := by simp; omega
  clear h h2 h17
  go_enter Tryz.func206, Tryz.ntmps206
  go_wp2_with (go_at_call 228; refine (HNo.out _ HB0.out).mono ?_; rintro e w1 ⟨rfl, hb1⟩; have HB : Hid (Below w.heap.size w w1) := Below.behind HB0.out hb1; clear hb1)
  go_ret2
  exact .inl ⟨_, rfl, by rw [HE.out]; rfl, HB.out⟩
set_option maxRecDepth 100000 in
set_option maxHeartbeats 1600000 in
theorem read_two (g c : Nat) (q : Except Er Nd) (hf : Forest B S w) (hN : ∀ W, Below w.heap.size w W → Calls Tryz.prog 226 #[.agg #[.int .i64 (fr : Int), .int .i64 (en : Int), .bool true, .string tx, .slice (some ⟨g, 0, none⟩) 2 c], .int .i64 (dep : Int)] W (RdSaid sent B S W q)) :
  Calls Tryz.prog 206 #[.agg #[.int .i64 (fr : Int), .int .i64 (en : Int), .bool true, .string tx, .slice (some ⟨g, 0, none⟩) 2 c], .int .i64 (dep : Int)] w (RdSaid sent B S w q) := by
 have HN := Hid.hide hN
 have HF := Hid.hide hf
 have HB0 : Hid (Below w.heap.size w (w.alloc (.cells #[.int .i64 (fr : Int), .int .i64 (en : Int), .bool true, .string tx, .slice (some ⟨g, 0, none⟩) 2 c] 174))) := (Below.refl _ _).alloc (Nat.le_refl _) _
 clear hN hf
 go_enter Tryz.func206, Tryz.ntmps206
 go_wp2_with fail
 refine (HN.out _ HB0.out).mono ?_
 rintro e w1 (⟨er, rfl, rfl, hb⟩ | ⟨t, v, S', rfl, rfl, h3, h4, h5⟩)
 ·obtain ⟨et, ev, hev⟩ := er.shape sent
  have HX : Hid (er.val sent = .iface et ev ∧ Below w.heap.size w w1) := ⟨hev, Below.behind HB0.out hb⟩
  rw [hev]
  clear hb hev
  go_wp2
  go_ret2
  exact .inl ⟨er, rfl, by rw [HX.out.1]; rfl, HX.out.2⟩
 ·have HX : Hid (t ≠ .no ∧ ndV S' v t ∧ Gr B S S' w w1) := ⟨h3, h4, h5.after HF.out HB0.out⟩
  clear h3 h4 h5
  go_wp2
  go_ret2
  exact .inr ⟨t, v, S', rfl, rfl, HX.out.1, HX.out.2.1, HX.out.2.2⟩
set_option maxRecDepth 100000 in
set_option maxHeartbeats 1600000 in
theorem read_17 (g c : Nat) (q : Except Er Nd) (hf : Forest B S w) (hN : ∀ W, Below w.heap.size w W → Calls Tryz.prog 227 #[.agg #[.int .i64 (fr : Int), .int .i64 (en : Int), .bool true, .string tx, .slice (some ⟨g, 0, none⟩) 17 c], .int .i64 (dep : Int)] W (RdSaid sent B S W q)) :
  Calls Tryz.prog 206 #[.agg #[.int .i64 (fr : Int), .int .i64 (en : Int), .bool true, .string tx, .slice (some ⟨g, 0, none⟩) 17 c], .int .i64 (dep : Int)] w (RdSaid sent B S w q) := by
 have HN := Hid.hide hN
 have HF := Hid.hide hf
 have HB0 : Hid (Below w.heap.size w (w.alloc (.cells #[.int .i64 (fr : Int), .int .i64 (en : Int), .bool true, .string tx, .slice (some ⟨g, 0, none⟩) 17 c] 174))) := (Below.refl _ _).alloc (Nat.le_refl _) _
 clear hN hf
 go_enter Tryz.func206, Tryz.ntmps206
 go_wp2_with fail
 refine (HN.out _ HB0.out).mono ?_
 rintro e w1 (⟨er, rfl, rfl, hb⟩ | ⟨t, v, S', rfl, rfl, h3, h4, h5⟩)
 ·obtain ⟨et, ev, hev⟩ := er.shape sent
  have HX : Hid (er.val sent = .iface et ev ∧ Below w.heap.size w w1) := ⟨hev, Below.behind HB0.out hb⟩
  rw [hev]
  clear hb hev
  go_wp2
  go_ret2
  exact .inl ⟨er, rfl, by rw [HX.out.1]; rfl, HX.out.2⟩
 ·have HX : Hid (t ≠ .no ∧ ndV S' v t ∧ Gr B S S' w w1) := ⟨h3, h4, h5.after HF.out HB0.out⟩
  clear h3 h4 h5
  go_wp2
  go_ret2
  exact .inr ⟨t, v, S', rfl, rfl, HX.out.1, HX.out.2.1, HX.out.2.2⟩
end
theorem tree_cases {n : Nat} {w : World} {F : Nat → Prop} {e : El} {x : It} (h : Tree encP kP n w F e x) : (e.lst = false ∧ e.sub = .slice none 0 0 ∧ x = .text e.fr e.to (bytesOf e.text)) ∨ (e.lst = true ∧ ∃ p c, ∃ l : List It, e.sub = .slice p l.length c ∧ x = .list e.fr e.to l) := by
 cases n with
 | zero => exact .inl ⟨h.1.1, h.1.2, h.2⟩
 | succ n =>
  rcases h with h | ⟨h1, ps, h2, h3, h4, h5⟩
  ·exact .inl ⟨h.1.1, h.1.2, h.2⟩
  ·refine .inr ⟨h1, ?_⟩
   rcases h2 with ⟨e1, e2, _⟩ | ⟨g, cap, e1, _⟩
   ·exact ⟨none, 0, _, by rw [e1, List.length_map, e2], h5⟩
   ·exact ⟨_, cap, _, by rw [e1, List.length_map], h5⟩
theorem tree_emp {n : Nat} {w : World} {F : Nat → Prop} {e : El} {x : It} (h : Tree encP kP n w F e x) : e.emp = x.emp := by
 rcases tree_cases h with ⟨h1, _, rfl⟩ | ⟨h1, _, _, l, _, rfl⟩
 ·simp [El.emp, It.emp, h1, bytesOf_length]
 ·simp [El.emp, It.emp, h1]
theorem tree_ref {n : Nat} {w : World} {F : Nat → Prop} {e : El} {x : It} (h : Tree encP kP n w F e x) : e.ref = x.isRef := by
 rcases tree_cases h with ⟨h1, _, rfl⟩ | ⟨h1, _, _, l, _, rfl⟩
 ·simp [El.ref, It.isRef, h1, bytesOf_length]
 ·simp [El.ref, It.isRef, h1]
theorem tree_tail {n : Nat} {w : World} {F : Nat → Prop} {e : El} {x : It} (h : Tree encP kP n w F e x) {p : Option Addr} {m c : Nat} (hs : e.sub = .slice p m c) : tail17 e.lst e.fr e.to m e.text = x.tail17 := by
 rcases tree_cases h with ⟨h1, _, rfl⟩ | ⟨h1, _, _, l, h2, rfl⟩
 ·simp [tail17, It.tail17, h1, bytesOf_length]
 ·rw [h2] at hs
  simp only [Value.slice.injEq] at hs
  simp [tail17, It.tail17, h1, hs.2.1]
theorem textB_bytesOf (s : ByteArray) : textB (bytesOf s) = s := bytesOf_inj (by rw [bytesOf_textB (bytesOf_lt s)])
theorem path_eq {n1 n2 : Nat} {w : World} {F : Nat → Prop} {e1 e2 : El} {a b : It} (ha : Tree encP kP n1 w F e1 a) (hb : Tree encP kP n2 w F e2 b) {p : Option Addr} {m c : Nat} (hs : e2.sub = .slice p m c) (rd : It → Nat → Except Er Nd) (fr dep : Nat) : pathQ fr dep e1.lst e1.text e2.lst e2.fr e2.to m e2.text (fun d => rdRef rd b d) = rdPath rd fr a b dep := by
 have ht := tree_tail hb hs
 unfold pathQ rdPath
 rcases tree_cases ha with ⟨h1, _, rfl⟩ | ⟨h1, _, _, l, h2, rfl⟩
 ·rw [if_neg (by rw [h1]; simp)]
  simp only
  cases unpackF (bytesOf e1.text) with
  | none => rfl
  | some q =>
   obtain ⟨p, leaf⟩ := q
   simp only
   cases leaf with
   | false =>
    rw [if_neg (show ¬ (false = true) by simp), if_neg (show ¬ (false = true) by simp), ht]
    unfold rdExt
    split
    ·rfl
    ·cases rdRef rd b (dep + p.length) <;> rfl
   | true =>
    rw [if_pos rfl, if_pos rfl]
    rcases tree_cases hb with ⟨k1, _, rfl⟩ | ⟨k1, _, _, l, k2, rfl⟩
    ·rw [k1]
     simp [It.val?, It.bytes, bytesOf_length, textB_bytesOf]
    ·rw [k1]
     simp [It.val?]
 ·rw [if_pos h1]
theorem forks_eq {ps : List (El × It)} {n : Nat} {w : World} {F : Nat → Prop} (h : ∀ p ∈ ps, Tree encP kP n w F p.1 p.2) : forksE (ps.map (·.1)) = forks (ps.map (·.2)) := by
 have k : ∀ (l : List (El × It)), (∀ p ∈ l, Tree encP kP n w F p.1 p.2) → (l.map (·.1)).all (fun x => x.ref || x.emp) = (l.map (·.2)).all (fun x => x.isRef || x.emp) ∧ ((l.map (·.1)).filter El.ref).length = ((l.map (·.2)).filter It.isRef).length ∧ (l.map (·.1)).all El.emp = (l.map (·.2)).all It.emp := by
  intro l
  induction l with
  | nil => intro _; simp
  | cons q l ih =>
   intro h
   obtain ⟨i1, i2, i3⟩ := ih fun p hp => h p (List.mem_cons_of_mem _ hp)
   have h1 := tree_emp (h q (List.mem_cons_self ..))
   have h2 := tree_ref (h q (List.mem_cons_self ..))
   refine ⟨by simp only [List.map_cons, List.all_cons, h1, h2, i1], ?_, by simp only [List.map_cons, List.all_cons, h1, i3]⟩
   simp only [List.map_cons, List.filter_cons, h2]
   split <;> simp [i2]
 unfold forksE forks refCnt
 rw [← List.map_take, ← List.map_take, ← List.map_drop, ← List.map_drop]
 obtain ⟨a1, a2, _⟩ := k (ps.take 16) fun p hp => h p (List.mem_of_mem_take hp)
 obtain ⟨_, _, a3⟩ := k (ps.drop 16) fun p hp => h p (List.mem_of_mem_drop hp)
 rw [a1, a2, a3]
theorem row5_of {w : World} {F : Nat → Prop} {v : Value} {ps : List (El × It)} {n : Nat} (h : RowAt w F v ps.length (ps.flatMap fun p => encP p.1)) (hp : 0 < ps.length) (hT : ∀ p ∈ ps, Tree encP kP n w F p.1 p.2) : ∃ g cap, v = .slice (some ⟨g, 0, none⟩) ps.length cap ∧ ps.length ≤ cap ∧ Row5 w g (ps.map (·.1)) := by
 obtain ⟨g, cap, h1, h2, h3, h4, h5, h6⟩ := h.cells (size := 5) (fun _ => rfl) hp
 refine ⟨g, cap, h1, h2, h4, fun i hi => ?_⟩
 rw [List.length_map] at hi
 simp only [List.getElem_map]
 refine ⟨h6 i hi, ?_⟩
 rcases tree_cases (hT _ (List.getElem_mem hi)) with ⟨_, h, _⟩ | ⟨_, p, c, l, h, _⟩
 ·exact ⟨_, _, _, h⟩
 ·exact ⟨_, _, _, h⟩
theorem tree_good {n : Nat} {w : World} {F : Nat → Prop} {e : El} {x : It} (h : Tree encP kP n w F e x) {N : Nat} (hg : x.good N) : e.fr ≤ e.to ∧ e.to ≤ N ∧ (e.lst = false → e.text.size ≤ N) := by
 rcases tree_cases h with ⟨h1, _, rfl⟩ | ⟨h1, _, _, l, h2, rfl⟩
 ·rw [It.good] at hg
  refine ⟨hg.1, hg.2.1, fun _ => ?_⟩
  have := (textCode_pos (bytesOf e.text)).2
  rw [bytesOf_length] at this
  omega
 ·rw [It.good] at hg
  exact ⟨hg.1, hg.2.1, fun e' => by rw [h1] at e'; cases e'⟩
theorem val_of (e : El) {p : Option Addr} {m c : Nat} (h : e.sub = .slice p m c) : valP e = .agg #[.int .i64 (e.fr : Int), .int .i64 (e.to : Int), .bool e.lst, .string e.text, .slice p m c] := by
 unfold valP
 rw [h]
theorem read_any (sent : Nat → Addr) (B : Nat) : ∀ (n : Nat) (S : Wood) (w : World) (F : Nat → Prop) (e : El) (x : It) (dep : Nat), Forest B S w → Faults w sent → Tree encP kP n w F e x → x.good 2048 → dep ≤ 64 → Calls Tryz.prog 206 #[valP e, .int .i64 (dep : Int)] w (RdSaid sent B S w (rdF n x dep))
 | 0, S, w, F, e, x, dep, hf, hF, hT, hg, hd => by
  rcases tree_cases hT with ⟨h1, h2, rfl⟩ | ⟨h1, p, c, l, h2, rfl⟩
  ·rw [val_of e h2, h1]
   exact read_no sent e.fr e.to e.text dep false none 0 0 hF (by simp)
  ·have := hT.1.1
   rw [h1] at this
   cases this
 | n + 1, S, w, F, e, x, dep, hf, hF, hT, hg, hd => by
  have ih := read_any sent B n
  rcases hT with ⟨⟨h1, h2⟩, h3⟩ | ⟨h1, ps, hrow, hsub, h4, rfl⟩
  ·have h3' : x = .text e.fr e.to (bytesOf e.text) := h3
   subst h3'
   rw [val_of e h2, h1, rdF]
   exact read_no sent e.fr e.to e.text dep false none 0 0 hF (by simp)
  ·rw [rdF]
   rw [It.good] at hg
   obtain ⟨_, _, _, hgs⟩ := hg
   have hgi : ∀ q ∈ ps, q.2.good 2048 := fun q hq => goods_iff.1 hgs _ (List.mem_map_of_mem hq)
   have hRef : ∀ q ∈ ps, ∀ (p : Option Addr) (m c : Nat), q.1.sub = .slice p m c → ∀ (S1 : Wood) (W : World) (d : Nat), Forest B S1 W → Below w.heap.size w W → d ≤ 64 → q.1.ref = true → Calls Tryz.prog 244 #[valP q.1, .int .i64 (d : Int)] W (RdSaid sent B S1 W (rdRef (rdF n) q.2 d)) := fun q hq p m c hs S1 W d hf1 hb1 hd1 hr1 => by
    have hTq := hsub q hq
    rcases tree_cases hTq with ⟨k1, k2, k3⟩ | ⟨k1, p', c', l, k2, k3⟩
    ·rw [val_of q.1 k2, k1, k3]
     rw [El.ref, if_neg (by rw [k1]; simp)] at hr1
     exact readref_text sent q.1.fr q.1.to q.1.text none 0 0 d hf1 (by simpa using hr1)
    ·have hI := fun W' (hW' : Below W.heap.size W W') => ih S1 W' F q.1 q.2 d (hf1.below hW') (hF.below (Below.behind hb1 hW')) (hTq.below (Below.behind hb1 hW')) (hgi q hq) hd1
     rw [val_of q.1 k2, k1] at hI ⊢
     have e3 : rdRef (rdF n) q.2 d = rdF n q.2 d := by rw [k3]; rfl
     rw [e3]
     exact readref_list sent q.1.fr q.1.to q.1.text p' l.length c' d hf1 _ hI
   by_cases h2 : ps.length = 2
   ·obtain ⟨g, cap, e1, e2, hr5⟩ := row5_of hrow (by omega) hsub
    match ps, h2 with
    | [a, b], _ =>
     rw [val_of e e1, h1]
     show Calls _ _ _ _ (RdSaid sent B S w (rdPath (rdF n) e.fr a.2 b.2 dep))
     refine read_two sent e.fr e.to e.text dep g cap _ hf fun W hW => ?_
     have hrW := hr5.below hW
     obtain ⟨r1, p1, m1, c1, s1⟩ := hrW.2 0 (by simp)
     obtain ⟨r2, p2, m2, c2, s2⟩ := hrW.2 1 (by simp)
     have hTa := hsub a (by simp)
     have hTb := hsub b (by simp)
     have hga := tree_good hTa (hgi a (by simp))
     have hgb := tree_good hTb (hgi b (by simp))
     have s2' : b.1.sub = .slice p2 m2 c2 := s2
     have s1' : a.1.sub = .slice p1 m1 c1 := s1
     rw [← path_eq hTa hTb s2' (rdF n) e.fr dep]
     have r1' : W.rangeAt g 0 [.int .i64 (a.1.fr : Int), .int .i64 (a.1.to : Int), .bool a.1.lst, .string a.1.text, .slice p1 m1 c1] := by
      have r1'' : W.rangeAt g 0 (encP a.1) := r1
      unfold encP at r1''
      rw [s1'] at r1''
      exact r1''
     have r2' : W.rangeAt g 5 [.int .i64 (b.1.fr : Int), .int .i64 (b.1.to : Int), .bool b.1.lst, .string b.1.text, .slice p2 m2 c2] := by
      have r2'' : W.rangeAt g 5 (encP b.1) := r2
      unfold encP at r2''
      rw [s2'] at r2''
      exact r2''
     by_cases hta : a.1.lst = true
     ·have hq : ∀ q : Nat → Except Er Nd, pathQ e.fr dep a.1.lst a.1.text b.1.lst b.1.fr b.1.to m2 b.1.text q = pathQ e.fr dep a.1.lst ⟨#[]⟩ b.1.lst b.1.fr b.1.to m2 b.1.text q := fun q => by unfold pathQ; rw [if_pos hta, if_pos hta]
      have htx : a.1.text.size ≤ 2048 := by
       cases n with
       | zero => have := hTa.1.1; rw [hta] at this; cases this
       | succ n =>
        rcases hTa with h | ⟨_, _, _, _, h, _⟩
        ·have := h.1.1; rw [hta] at this; cases this
        ·rw [h, textB_size]; simp
      exact readpath_any sent e.fr e.to e.text g cap a.1.fr a.1.to a.1.lst a.1.text p1 m1 c1 b.1.fr b.1.to b.1.lst b.1.text p2 m2 c2 dep (hf.below hW) (hF.below hW) hrW.1 r1' r2' htx hd hgb.1 hgb.2.1 _ fun d W' hd' ht' hW' => by
       have := hRef b (by simp) p2 m2 c2 s2' S W' d (hf.below (Below.behind hW hW')) (Below.behind hW hW') (by omega) (by unfold tail17 at ht'; unfold El.ref; split at ht' <;> simp_all)
       rw [val_of b.1 s2'] at this
       exact this
     ·exact readpath_any sent e.fr e.to e.text g cap a.1.fr a.1.to a.1.lst a.1.text p1 m1 c1 b.1.fr b.1.to b.1.lst b.1.text p2 m2 c2 dep (hf.below hW) (hF.below hW) hrW.1 r1' r2' (hga.2.2 (by simpa using hta)) hd hgb.1 hgb.2.1 _ fun d W' hd' ht' hW' => by
       have := hRef b (by simp) p2 m2 c2 s2' S W' d (hf.below (Below.behind hW hW')) (Below.behind hW hW') (by omega) (by unfold tail17 at ht'; unfold El.ref; split at ht' <;> simp_all)
       rw [val_of b.1 s2'] at this
       exact this
   ·rw [rdL_more (by rw [List.length_map]; exact h2), List.length_map]
    by_cases h17 : ps.length = 17
    ·rw [if_pos h17]
     obtain ⟨g, cap, e1, e2, hr5⟩ := row5_of hrow (by omega) hsub
     rw [h17] at e1 e2
     rw [val_of e e1, h1]
     have hle : (ps.map (·.1)).length = 17 := by rw [List.length_map, h17]
     have hli : (ps.map (·.2)).length = 17 := by rw [List.length_map, h17]
     have hbd : ∀ i (hi : i < (ps.map (fun p : El × It => p.1)).length), (ps.map (fun p : El × It => p.1))[i].fr ≤ (ps.map (fun p : El × It => p.1))[i].to ∧ (ps.map (fun p : El × It => p.1))[i].to ≤ 2048 := fun i hi => by
      rw [List.length_map] at hi
      simp only [List.getElem_map]
      have := tree_good (hsub _ (List.getElem_mem hi)) (hgi _ (List.getElem_mem hi))
      exact ⟨this.1, this.2.1⟩
     refine read_17 sent e.fr e.to e.text dep g cap _ hf fun W hW => ?_
     unfold rdBr
     rw [← forks_eq hsub]
     split
     ·rename_i h
      exact readbr_bad sent e.fr e.to e.text g cap _ dep (hF.below hW) hle e2 (hr5.below hW) hbd h
     ·rename_i h
      have a1 : dep < 64 := by
       rcases Nat.lt_or_ge dep 64 with e | e
       ·exact e
       ·exact absurd (.inl e) h
      have a2 : forksE (ps.map (·.1)) = true := by
       cases hv : forksE (ps.map (·.1)) with
       | true => rfl
       | false => exact absurd (.inr hv) h
      have := readbr_ok sent e.fr e.to e.text g cap (ps.map (·.1)) (ps.map (·.2)) dep (rdF n) (hf.below hW) hle e2 (hr5.below hW) hbd a1 a2 hli (fun i k1 k2 => by
       rw [List.length_map] at k1
       simp only [List.getElem_map]
       exact tree_emp (hsub _ (List.getElem_mem k1))) (fun i k1 k2 S1 W' _ hf1 hb1 hr1 => by
       rw [List.length_map] at k1
       simp only [List.getElem_map] at hr1 ⊢
       obtain ⟨_, p, m, c, hs⟩ := hr5.2 i (by rw [List.length_map]; exact k1)
       simp only [List.getElem_map] at hs
       exact hRef _ (List.getElem_mem k1) p m c hs S1 W' (dep + 1) hf1 (Below.behind hW hb1) (by omega) hr1)
      cases hk : rdKids (rdF n) (dep + 1) ((ps.map (·.2)).take 16) with
      | error er => rw [hk] at this; exact this
      | ok ns => rw [hk] at this; exact this
    ·rw [if_neg h17]
     rcases hrow with ⟨k1, k2, _⟩ | ⟨g, cap, k1, _⟩
     ·rw [val_of e k1, h1]
      exact read_no sent e.fr e.to e.text dep true none 0 0 hF (by simp)
     ·rw [val_of e k1, h1]
      exact read_no sent e.fr e.to e.text dep true _ ps.length cap hF (fun _ => ⟨h2, h17⟩)
end Go.Proofs.YtjiikjpnlgogfaaGreatDoor
