/-
  Reading nodes out of items: references, extensions, leaves.
  Reading extensions and leaves.
  Reading leaves and extensions: readPath whole.
  Reading branches: hasForks.
  Reading branches, and any node.
  Reading branches, the walk.
  Reading a node: read whole.
-/
import Derived.Test.YthbgepmpdphigaaGreatDoorAxVeA
import Derived.Test.YthbgepmpdphigaaGreatDoorAxTreA
namespace Go.Proofs.YthbgepmpdphigaaGreatDoor
open Go.RowKit
set_option maxRecDepth 100000
set_option maxHeartbeats 25600000
def Gr (B : Nat) (S S' : Wood) (w w' : World) : Prop := Below w.heap.size w w' /\ Fr B S S' w w'
theorem Gr.of_below {B : Nat} {S : Wood} {w w' : World} (hf : Forest B S w) (hb : Below w.heap.size w w') : Gr B S S w w' := ⟨hb, Fr.of_below hf hb⟩
theorem Gr.trans {B : Nat} {S S1 S2 : Wood} {w w1 w2 : World} (h : Gr B S S1 w w1) (k : Gr B S1 S2 w1 w2) : Gr B S S2 w w2 := ⟨Below.behind h.1 k.1, h.2.trans k.2⟩
variable {B : Nat} {S : Wood} {w w1 : World}
theorem Gr.after {S' : Wood} {w2 : World} (hf : Forest B S w) (hb : Below w.heap.size w w1) (h : Gr B S S' w1 w2) : Gr B S S' w w2 := (Gr.of_below hf hb).trans h
theorem Gr.alloc {B : Nat} {S : Wood} {w : World} (hf : Forest B S w) {t : Nd} {h : ByteArray} {r : List Value} (hh : heldOK t h) (hr : NdRest S t r) (ht : t.ok) : Gr B S (S.put w.heap.size t) w (w.alloc (.cells (.string h :: r).toArray (ndObj t))) :=
 ⟨(Below.refl _ _).alloc (Nat.le_refl _) _, Fr.alloc hf hh hr ht⟩
def RdSaid (sent : Nat -> Addr) (B : Nat) (S : Wood) (w : World) (q : Except Er Nd) (e : Ending) (w' : World) : Prop :=
 (∃ er : Er, q = .error er /\ e = .returned (.tuple #[.nilIface, er.val sent]) /\ Below w.heap.size w w') \/ ∃ t v S', q = .ok t /\ e = .returned (.tuple #[v, .nilIface]) /\ t ≠ .no /\ ndV S' v t /\ Gr B S S' w w'
theorem RdSaid.after {sent : Nat -> Addr} {B : Nat} {S : Wood} {w w1 : World} {q : Except Er Nd} (hf : Forest B S w) (hb : Below w.heap.size w w1) {e : Ending} {w' : World} (h : RdSaid sent B S w1 q e w') : RdSaid sent B S w q e w' := by
 rcases h with ⟨er, h1, h2, h3⟩ | ⟨t, v, S', h1, h2, h3, h4, h5⟩
 ·exact .inl ⟨er, h1, h2, Below.behind hb h3⟩
 ·exact .inr ⟨t, v, S', h1, h2, h3, h4, h5.after hf hb⟩
theorem Qmr (sent : Nat -> Addr) (fr en : Nat) (tx : ByteArray) (p : Option Addr) (m c : Nat) (dep : Nat) (hf : Forest B S w) (h32 : tx.size = 32) :
  Calls Tryz.prog 122 #[.agg #[.int .i64 (fr : Int), .int .i64 (en : Int), .bool false, .string tx, .slice p m c], .int .i64 (dep : Int)] w (RdSaid sent B S w (.ok (.stub (bytesOf tx)))) := by
 obtain ⟨o, K⟩ : ∃ o : Obj, o = .cells #[.int .i64 (fr : Int), .int .i64 (en : Int), .bool false, .string tx, .slice p m c] 225 := ⟨_, rfl⟩
 obtain ⟨D, j⟩ : ∃ D, bytesOf tx = D := ⟨_, rfl⟩
 rw [j]
 have d : D.length = 32 := by rw [<- j, bytesOf_length, h32]
 have l : ∀ x ∈ D, x < 256 := by rw [<- j]; exact Qar tx
 have s : (w.alloc o).heap.size = w.heap.size + 1 := by simp
 have v := Lib.run_convert_string_bytes (P := Tryz.prog) (w.alloc o) 9 95 5 tx Tryz.underlying9 Tryz.underlying95 Tryz.underlying5
 rw [h32, s] at v
 obtain ⟨cap, q⟩ : ∃ cap, grownCap (w.alloc o) 32 0 5 = cap := ⟨_, rfl⟩
 rw [q] at v
 have L := fun W => Qfl ⟨w.heap.size + 1, 0, none⟩ cap W
 have a := Qgx (w.alloc o) tx
 rw [j, s] at a
 have n : Below (w.alloc o).heap.size (w.alloc o) (Lib.bytesWorld (w.alloc o) 5 tx) := ⟨rfl, rfl, rfl, by rw [Lib.bytesWorld_size]; omega, fun k J => Lib.bytesWorld_at_old (w.alloc o) 5 tx k J⟩
 generalize Lib.bytesWorld (w.alloc o) 5 tx = w2 at v a n
 have C : (Tryz.prog.info? 31).map (·.size) = some (D.map encB).length := by rw [List.length_map, d]; kernel_rfl
 have y : Hid (Below w.heap.size w w2) := Below.up n
 have I : Hid (∀ W, Calls Tryz.prog 54 #[.agg (D.map encB).toArray] W fun e E => ∃ b, e = .returned (.pointer (some ⟨b, 0, none⟩)) /\ W.heap.size <= b /\ Below W.heap.size W E /\ E.heap[b]? = some (.cells [.string (textB (textCode D))].toArray 189 (0, 0))) := fun W => Qgi D d l W
 have G : Hid (D.length = 32 /\ ∀ x ∈ D, x < 256) := ⟨d, l⟩
 have H := Hid.hide hf
 subst K
 clear hf q s n j d l h32
 go_enter Tryz.func122, Tryz.ntmps122
 go_wp2_with (first | (refine wpList_load_mid rfl 31 _ rfl (w.heap.size + 1) 0 rfl (D.map encB) _ a Tryz.underlying31 rfl C ?_) | (go_at_call 54; refine (I.out _).mono ?_; rintro e F ⟨b, rfl, g, u, f⟩; have i : Hid (w2.heap.size <= b /\ Below w2.heap.size w2 F /\ F.heap[b]? = some (.cells [.string (textB (textCode D))].toArray 189 (0, 0))) := ⟨g, u, f⟩; clear g u f))
 go_ret2
 have z := Below.behind y.out i.out.2.1
 have g : w.heap.size <= b := Nat.le_trans y.out.size i.out.1
 refine .inr ⟨.stub D, _, S.put b (.stub D), rfl, rfl, by simp, .inr ⟨by simp, b, rfl, Wood.put_same _ _ _⟩, z, Fr.fresh H.out z g (t := .stub D) (h := textB (textCode D)) (r := []) (.inl rfl) rfl (by rw [Nd.ok]; exact G.out) i.out.2.2⟩
theorem Qms (sent : Nat -> Addr) (fr en : Nat) (tx : ByteArray) (p : Option Addr) (m c : Nat) (dep : Nat) (hf : Forest B S w) (q : Except Er Nd) (hN : ∀ W, Below w.heap.size w W -> Calls Tryz.prog 96 #[.agg #[.int .i64 (fr : Int), .int .i64 (en : Int), .bool true, .string tx, .slice p m c], .int .i64 (dep : Int)] W (RdSaid sent B S W q)) :
  Calls Tryz.prog 122 #[.agg #[.int .i64 (fr : Int), .int .i64 (en : Int), .bool true, .string tx, .slice p m c], .int .i64 (dep : Int)] w (RdSaid sent B S w q) := by
 have n := Hid.hide hf
 have o := Hid.hide hN
 clear hf hN
 go_enter Tryz.func122, Tryz.ntmps122
 go_wp2_with fail
 have a : Below w.heap.size w (w.alloc (.cells #[.int .i64 (fr : Int), .int .i64 (en : Int), .bool true, .string tx, .slice p m c] 225)) := (Below.refl _ _).alloc (Nat.le_refl _) _
 refine (o.out _ a).mono ?_
 rintro e l (⟨g, rfl, rfl, k⟩ | ⟨t, v, f, rfl, rfl, h, i, j⟩)
 ·obtain ⟨r, s, d⟩ := g.shape sent
  have b : Hid (g.val sent = .iface r s /\ Below w.heap.size w l) := ⟨d, Below.behind a k⟩
  rw [d]
  clear k a d
  go_wp2
  go_ret2
  exact .inl ⟨g, rfl, by rw [b.out.1]; rfl, b.out.2⟩
 ·have b : Hid (t ≠ .no /\ ndV f v t /\ Gr B S f w l) := ⟨h, i, j.after n.out a⟩
  clear h i j a
  go_wp2
  go_ret2
  exact .inr ⟨t, v, f, rfl, rfl, b.out.1, b.out.2.1, b.out.2.2⟩
theorem plc5 {b : Nat} {a0 a1 a2 a3 a4 : Value} {t : TypeId} (h : w.heap[b]? = some (.cells #[a0, a1, a2, a3, a4] t (0, 0))) : w.cell? ⟨b, 0, none⟩ = some a0 /\ w.cell? ⟨b, 1, none⟩ = some a1 /\ w.cell? ⟨b, 2, none⟩ = some a2 /\ w.cell? ⟨b, 3, none⟩ = some a3 /\ w.cell? ⟨b, 4, none⟩ = some a4 := by
 refine ⟨?_, ?_, ?_, ?_, ?_⟩ <;> simp [World.cell?, h]
theorem Qkw {a b : Array Value} (hb : Below ((w.alloc (.cells a 225)).alloc (.cells b 225)).heap.size ((w.alloc (.cells a 225)).alloc (.cells b 225)) w1) :
  w1.heap[w.heap.size]? = some (.cells a 225 (0, 0)) /\ w1.heap[w.heap.size + 1]? = some (.cells b 225 (0, 0)) /\ w.heap.size + 2 <= w1.heap.size /\ Below w.heap.size w w1 := by
 have c := hb.size
 simp at c
 refine ⟨?_, ?_, by omega, Below.up (Below.up hb)⟩
 ·rw [hb.block _ (by simp; omega)]
  show ((w.heap.push _).push _)[w.heap.size]? = _
  rw [Array.getElem?_push_lt (by simp), Array.getElem_push_eq]
 ·rw [hb.block _ (by simp)]
  show ((w.heap.push _).push _)[w.heap.size + 1]? = _
  rw [show w.heap.size + 1 = (w.heap.push (Obj.cells a 225)).size by simp]
  exact Array.getElem?_push_size
theorem Qfa (w : World) (a b : Obj) : Below w.heap.size w ((w.alloc a).alloc b) := ((Below.refl _ _).alloc (Nat.le_refl _) _).alloc (by simp) _
def tail17 (l : Bool) (fr en m : Nat) (tx : ByteArray) : Bool := if l = true then decide (en - fr < 32) && decide (m = 17) else decide (tx.size = 32)
section
variable {B : Nat} {S : Wood} {w : World} (sent : Nat -> Addr) (fr en : Nat) (tx0 : ByteArray) (g cap : Nat) (fr' en' : Nat) (l' : Bool) (tx' : ByteArray) (p' : Option Addr) (m' c' : Nat) (p : ByteArray) (dep : Nat)
theorem Qok (hF : Faults w sent) (hgs : g < w.heap.size) (hrow : w.rangeAt g 5 [.int .i64 (fr' : Int), .int .i64 (en' : Int), .bool l', .string tx', .slice p' m' c']) (hdep : dep <= 10000) (h1 : fr' <= en') (h2 : en' <= 2048) (h : p.size = 0 \/ 64 <= dep \/ tail17 l' fr' en' m' tx' = false) :
  Calls Tryz.prog 119 #[.agg #[.int .i64 (fr : Int), .int .i64 (en : Int), .bool true, .string tx0, .slice (some ⟨g, 0, none⟩) 2 cap], .string p, .int .i64 (dep : Int)] w (RdSaid sent B S w (.error (noN fr))) := by
 have K := hrow 0 _ rfl
 have L := hrow 1 _ rfl
 have M := hrow 2 _ rfl
 have N := hrow 3 _ rfl
 have O := hrow 4 _ rfl
 have J : ¬ g = w.heap.size := by omega
 have D : ¬ g = w.heap.size + 1 := by omega
 have c : Hid (∀ W, Below w.heap.size w W -> Calls Tryz.prog 112 #[.agg #[.int .i64 (fr : Int), .int .i64 (en : Int), .bool true, .string tx0, .slice (some ⟨g, 0, none⟩) 2 cap]] W fun e o => e = .returned ((noN fr).val sent) /\ Below W.heap.size W o) := fun W C => Qec fr en true tx0 _ 2 cap sent W (hF.below C)
 obtain ⟨y, z, k⟩ := (noN fr).shape sent
 have n : Hid ((noN fr).val sent = .iface y z) := k
 rw [k] at c
 have r : Hid (∀ W, Calls Tryz.prog 125 #[.agg #[.int .i64 (fr' : Int), .int .i64 (en' : Int), .bool l', .string tx', .slice p' m' c']] W fun e o => e = .returned (.bool (if l' = true then decide (en' - fr' < 32) else decide (tx'.size = 32))) /\ Below W.heap.size W o) := fun W => Qi3 fr' en' l' tx' p' m' c' W h1 h2
 have v : Hid (tail17 l' fr' en' m' tx' = if l' = true then decide (en' - fr' < 32) && decide (m' = 17) else decide (tx'.size = 32)) := rfl
 clear hrow hF h1 h2 k
 by_cases i : p.size = 0
 ·have H := Qkv p i
  clear h i
  go_enter Tryz.func119, Tryz.ntmps119
  go_wp2_with (go_at_call 112; refine (c.out _ (Qfa _ _ _)).mono ?_; rintro e m ⟨rfl, a⟩; have b : Hid (Below w.heap.size w m) := (Qkw a).2.2.2; clear a)
  go_ret2
  exact .inl ⟨_, rfl, by rw [n.out]; rfl, b.out⟩
 ·have H := Qas p (by omega)
  by_cases j : 64 <= dep
  ·have E : (64 : Int) <= (dep : Int) := by omega
   clear h i j
   go_enter Tryz.func119, Tryz.ntmps119
   go_wp2_with (go_at_call 112; refine (c.out _ (Qfa _ _ _)).mono ?_; rintro e m ⟨rfl, a⟩; have b : Hid (Below w.heap.size w m) := (Qkw a).2.2.2; clear a)
   go_ret2
   exact .inl ⟨_, rfl, by rw [n.out]; rfl, b.out⟩
  ·have E : (dep : Int) < 64 := by omega
   have l : tail17 l' fr' en' m' tx' = false := by
    rcases h with h | h | h
    ·exact absurd h i
    ·exact absurd h j
    ·exact h
   rw [v.out] at l
   generalize hR : (if l' = true then decide (en' - fr' < 32) else decide (tx'.size = 32)) = rr at r
   have x : Hid (rr = true -> l' = true /\ m' ≠ 17) := fun e => by
    subst e
    cases l' with
    | true => simp at hR l; exact ⟨rfl, l (by omega)⟩
    | false => simp at hR l; omega
   clear h i j l hR
   go_enter Tryz.func119, Tryz.ntmps119
   go_wp2_with fail
   refine (r.out _).mono ?_
   rintro e m ⟨rfl, a⟩
   obtain ⟨s, t, I, u⟩ := Qkw a
   obtain ⟨P, Q, R, T, U⟩ := plc5 s
   obtain ⟨V, X, Y, Z, y4⟩ := plc5 t
   have b : Hid (Below w.heap.size w m) := u
   clear s t I u a
   cases rr with
   | false =>
    go_wp2_with (go_at_call 112; refine (c.out _ b.out).mono ?_; rintro e q ⟨rfl, d⟩; have f : Hid (Below w.heap.size w q) := Below.behind b.out d; clear d)
    go_ret2
    exact .inl ⟨_, rfl, by rw [n.out]; rfl, f.out⟩
   | true =>
    obtain ⟨rfl, G⟩ := x.out rfl
    have F : ((m' : Int) == 17) = false := by simp; omega
    clear G
    go_wp2_with (go_at_call 112; refine (c.out _ b.out).mono ?_; rintro e q ⟨rfl, d⟩; have f : Hid (Below w.heap.size w q) := Below.behind b.out d; clear d)
    go_ret2
    exact .inl ⟨_, rfl, by rw [n.out]; rfl, f.out⟩
def extQ (p : ByteArray) : Except Er Nd -> Except Er Nd
 | .error e => .error e
 | .ok t => .ok (.ext p t)
theorem Qr3 (hf : Forest B S w) (hgs : g < w.heap.size) (hrow : w.rangeAt g 5 [.int .i64 (fr' : Int), .int .i64 (en' : Int), .bool l', .string tx', .slice p' m' c']) (hp : nibOK p) (h1 : fr' <= en') (h2 : en' <= 2048) (h0 : 0 < p.size) (h64 : dep < 64) (ht : tail17 l' fr' en' m' tx' = true) (q : Except Er Nd)
  (hN : ∀ W, Below w.heap.size w W -> Calls Tryz.prog 122 #[.agg #[.int .i64 (fr' : Int), .int .i64 (en' : Int), .bool l', .string tx', .slice p' m' c'], .int .i64 (dep : Int)] W (RdSaid sent B S W q)) :
  Calls Tryz.prog 119 #[.agg #[.int .i64 (fr : Int), .int .i64 (en : Int), .bool true, .string tx0, .slice (some ⟨g, 0, none⟩) 2 cap], .string p, .int .i64 (dep : Int)] w (RdSaid sent B S w (extQ p q)) := by
 have R := hrow 0 _ rfl
 have T := hrow 1 _ rfl
 have U := hrow 2 _ rfl
 have V := hrow 3 _ rfl
 have X := hrow 4 _ rfl
 have O : ¬ g = w.heap.size := by omega
 have J : ¬ g = w.heap.size + 1 := by omega
 have Q := Qas p h0
 have P : (dep : Int) < 64 := by omega
 have E := Hid.hide hN
 have C := Hid.hide hf
 have F := Hid.hide hp
 have s : (if l' = true then decide (en' - fr' < 32) else decide (tx'.size = 32)) = true := by
  unfold tail17 at ht
  cases l' <;> simp at ht ⊢ <;> omega
 have G : Hid (∀ W, Calls Tryz.prog 125 #[.agg #[.int .i64 (fr' : Int), .int .i64 (en' : Int), .bool l', .string tx', .slice p' m' c']] W fun e N => e = .returned (.bool true) /\ Below W.heap.size W N) := fun W => by
  have := Qi3 fr' en' l' tx' p' m' c' W h1 h2
  rw [s] at this
  exact this
 have L : (l' = true /\ m' = 17) \/ l' = false := by
  unfold tail17 at ht
  cases l' <;> simp at ht ⊢
  exact ht.2
 clear hrow hf h1 h2 s hN hp ht h0 h64
 go_enter Tryz.func119, Tryz.ntmps119
 go_wp2_with fail
 refine (G.out _).mono ?_
 rintro e z ⟨rfl, m⟩
 obtain ⟨u, x, M, y⟩ := Qkw m
 obtain ⟨Y, Z, x2, x3, x4⟩ := plc5 u
 obtain ⟨y0, y1, y2, y3, y4⟩ := plc5 x
 have o : Hid (Below w.heap.size w z) := y
 clear u x M y m
 have K : ∀ e w2, RdSaid sent B S z q e w2 -> (∃ a f i, q = .error a /\ a.val sent = .iface f i /\ e = .returned (.tuple #[.nilIface, .iface f i]) /\ Below w.heap.size w w2) \/ ∃ t d c, q = .ok t /\ t ≠ .no /\ e = .returned (.tuple #[.iface (ndTy t) (.pointer (some ⟨d, 0, none⟩)), .nilIface]) /\ c d = some t /\ Gr B S c w w2 := by
  rintro e w2 (⟨a, h1, h2, l⟩ | ⟨t, v, c, h1, h2, l, H, I⟩)
  ·obtain ⟨f, i, b⟩ := a.shape sent
   exact .inl ⟨a, f, i, h1, b, by rw [h2, b], Below.behind o.out l⟩
  ·obtain ⟨d, rfl, j⟩ := H.full l
   exact .inr ⟨t, d, c, h1, l, h2, j, I.after C.out o.out⟩
 have D := Hid.hide K
 clear K
 rcases L with ⟨rfl, rfl⟩ | rfl
 all_goals
  go_wp2_with fail
  refine (E.out _ o.out).mono ?_
  intro e w2 h
  rcases D.out e w2 h with ⟨a, f, i, rfl, b, rfl, hb2⟩ | ⟨t, d, c, rfl, hne, rfl, j, hg⟩
  ·have k : Hid (a.val sent = .iface f i /\ Below w.heap.size w w2) := ⟨b, hb2⟩
   clear h b hb2
   go_wp2
   go_ret2
   exact .inl ⟨a, rfl, by rw [k.out.1]; rfl, k.out.2⟩
  ·have n : (Nd.ext p t).ok := by
    rw [Nd.ok]
    exact ⟨F.out, hg.2.forest.ok d t j, hne⟩
   have k : Hid (Gr B S (c.put w2.heap.size (.ext p t)) w (w2.alloc (.cells #[.string ⟨#[]⟩, .string p, .iface (ndTy t) (.pointer (some ⟨d, 0, none⟩))] 253))) :=
    hg.trans (Gr.alloc hg.2.forest (t := .ext p t) (h := ⟨#[]⟩) (r := [.string p, .iface (ndTy t) (.pointer (some ⟨d, 0, none⟩))]) (heldOK.empty (by simp)) ⟨_, rfl, .inr ⟨hne, d, rfl, j⟩⟩ n)
   clear h hne j hg n
   go_wp2
   go_ret2
   exact .inr ⟨.ext p t, _, _, rfl, rfl, by simp, .inr ⟨by simp, w2.heap.size, rfl, Wood.put_same _ _ _⟩, k.out⟩
end
def Cut3 (w : World) (ax a1 a2 : Array Value) (ga gb : Nat) (wc : World) : Prop :=
 wc.heap[w.heap.size]? = some (.cells ax 225 (0, 0)) /\ wc.heap[ga]? = some (.cells a1 225 (0, 0)) /\ wc.heap[gb]? = some (.cells a2 225 (0, 0)) /\ Below w.heap.size w wc
theorem Qmt (w : World) (a b c : Obj) : ((((w.alloc a).alloc b).alloc c).drew).heap[w.heap.size]? = some a /\ ((((w.alloc a).alloc b).alloc c).drew).heap[w.heap.size + 1]? = some b /\ ((((w.alloc a).alloc b).alloc c).drew).heap[w.heap.size + 1 + 1]? = some c /\ Below w.heap.size w (((w.alloc a).alloc b).alloc c).drew := by
 have d : Below w.heap.size w (((w.alloc a).alloc b).alloc c) := (((Below.refl _ _).alloc (Nat.le_refl _) _).alloc (by simp) _).alloc (by simp; omega) _
 refine ⟨?_, ?_, ?_, d.os, d.tape, d.output, d.size, d.block⟩
 ·show (((w.heap.push a).push b).push c)[w.heap.size]? = _
  rw [Array.getElem?_push_lt (by simp; omega), Array.getElem_push_lt (by simp), Array.getElem_push_eq]
 ·show (((w.heap.push a).push b).push c)[w.heap.size + 1]? = _
  rw [Array.getElem?_push_lt (by simp), Array.getElem_push]
  simp
 ·show (((w.heap.push a).push b).push c)[w.heap.size + 1 + 1]? = _
  rw [show w.heap.size + 1 + 1 = ((w.heap.push a).push b).size by simp]
  exact Array.getElem?_push_size
variable {ax : Array Value} {gb : Nat}
theorem Cut3.keep {a1 a2 : Array Value} {ga : Nat} {wc : World} (h : Cut3 w ax a1 a2 ga gb wc) (hb : Below wc.heap.size wc w1) : Cut3 w ax a1 a2 ga gb w1 := by
 obtain ⟨a, b, c, d⟩ := h
 have k : ∀ {i o}, wc.heap[i]? = some o -> w1.heap[i]? = some o := fun {i o} e => (hb.block i (Array.getElem?_eq_some_iff.1 e).1).trans e
 exact ⟨k a, k b, k c, Below.behind d hb⟩
def pathQ (fr dep : Nat) (l1 : Bool) (tx1 : ByteArray) (l2 : Bool) (f2 e2 m2 : Nat) (tx2 : ByteArray) (q : Nat -> Except Er Nd) : Except Er Nd :=
 if l1 = true then .error (noN fr)
 else
  match unpackF (bytesOf tx1) with
  | none => .error (.place fr (.noNode (.base 3)))
  | some (p, leaf) =>
   if leaf = true then
    if dep + p.length ≠ 64 \/ l2 = true \/ (decide (0 < tx2.size) && decide (tx2.size <= 100)) = false then .error (noN fr) else .ok (.leaf (textB p) tx2)
   else if p.length = 0 \/ 64 <= dep + p.length \/ tail17 l2 f2 e2 m2 tx2 = false then .error (noN fr) else extQ (textB p) (q (dep + p.length))
theorem Qgb (sent : Nat -> Addr) (fr en : Nat) (tx0 : ByteArray) (g cap : Nat) (f1 e1 : Nat) (l1 : Bool) (tx1 : ByteArray) (p1 : Option Addr) (m1 c1 : Nat) (f2 e2 : Nat) (l2 : Bool) (tx2 : ByteArray) (p2 : Option Addr) (m2 c2 : Nat) (dep : Nat) (hf : Forest B S w) (hF : Faults w sent) (hgs : g < w.heap.size) (hrow1 : w.rangeAt g 0 [.int .i64 (f1 : Int), .int .i64 (e1 : Int), .bool l1, .string tx1, .slice p1 m1 c1]) (hrow : w.rangeAt g 5 [.int .i64 (f2 : Int), .int .i64 (e2 : Int), .bool l2, .string tx2, .slice p2 m2 c2]) (ht1 : tx1.size <= 2048) (hdep : dep <= 64) (h1 : f2 <= e2) (h2 : e2 <= 2048) (q : Nat -> Except Er Nd)
  (hN : ∀ (d : Nat) W, d < 64 -> tail17 l2 f2 e2 m2 tx2 = true -> Below w.heap.size w W -> Calls Tryz.prog 122 #[.agg #[.int .i64 (f2 : Int), .int .i64 (e2 : Int), .bool l2, .string tx2, .slice p2 m2 c2], .int .i64 (d : Int)] W (RdSaid sent B S W (q d))) :
  Calls Tryz.prog 110 #[.agg #[.int .i64 (fr : Int), .int .i64 (en : Int), .bool true, .string tx0, .slice (some ⟨g, 0, none⟩) 2 cap], .int .i64 (dep : Int)] w (RdSaid sent B S w (pathQ fr dep l1 tx1 l2 f2 e2 m2 tx2 q)) := by
 have r0 : w.cell? ⟨g, 5, none⟩ = some (.int .i64 (f2 : Int)) := hrow 0 _ rfl
 have r1 : w.cell? ⟨g, 6, none⟩ = some (.int .i64 (e2 : Int)) := hrow 1 _ rfl
 have r2 : w.cell? ⟨g, 7, none⟩ = some (.bool l2) := hrow 2 _ rfl
 have r3 : w.cell? ⟨g, 8, none⟩ = some (.string tx2) := hrow 3 _ rfl
 have r4 : w.cell? ⟨g, 9, none⟩ = some (.slice p2 m2 c2) := hrow 4 _ rfl
 have s0 : w.cell? ⟨g, 0, none⟩ = some (.int .i64 (f1 : Int)) := hrow1 0 _ rfl
 have s1 : w.cell? ⟨g, 1, none⟩ = some (.int .i64 (e1 : Int)) := hrow1 1 _ rfl
 have s2 : w.cell? ⟨g, 2, none⟩ = some (.bool l1) := hrow1 2 _ rfl
 have s3 : w.cell? ⟨g, 3, none⟩ = some (.string tx1) := hrow1 3 _ rfl
 have s4 : w.cell? ⟨g, 4, none⟩ = some (.slice p1 m1 c1) := hrow1 4 _ rfl
 have ay : ¬ g = w.heap.size := by omega
 have ai : ¬ g = w.heap.size + 1 := by omega
 have aj : ¬ g = w.heap.size + 1 + 1 := by omega
 have ak : ¬ g = w.heap.size + 2 := by omega
 have al : g < w.heap.size + 1 := by omega
 have am : g < w.heap.size + 1 + 1 := by omega
 have ao : g < w.heap.size + 2 := by omega
 have x : Hid (∀ W, Below w.heap.size w W -> Calls Tryz.prog 112 #[.agg #[.int .i64 (fr : Int), .int .i64 (en : Int), .bool true, .string tx0, .slice (some ⟨g, 0, none⟩) 2 cap]] W fun e G => e = .returned ((noN fr).val sent) /\ Below W.heap.size W G) := fun W T => Qec fr en true tx0 _ 2 cap sent W (hF.below T)
 obtain ⟨et, ev, U⟩ := (noN fr).shape sent
 have X : Hid ((noN fr).val sent = .iface et ev) := U
 rw [U] at x
 have Y := Hid.hide hf
 have aa := Hid.hide hF
 have HN := Hid.hide hN
 have Q : Hid (tx1.size <= 2048 /\ dep <= 64 /\ f2 <= e2 /\ e2 <= 2048 /\ w.rangeAt g 5 [.int .i64 (f2 : Int), .int .i64 (e2 : Int), .bool l2, .string tx2, .slice p2 m2 c2] /\ g < w.heap.size) := ⟨ht1, hdep, h1, h2, hrow, hgs⟩
 clear hrow hrow1 hf hF hN ht1 hdep h1 h2 U
 go_enter Tryz.func110, Tryz.ntmps110
 go_upto_region 1 with fail
 go_cut [6, 7] (fun a b wc => ∃ ga gb, a = .pointer (some ⟨ga, 0, none⟩) /\ b = .pointer (some ⟨gb, 0, none⟩) /\ Cut3 w #[.int .i64 (fr : Int), .int .i64 (en : Int), .bool true, .string tx0, .slice (some ⟨g, 0, none⟩) 2 cap] #[.int .i64 (f1 : Int), .int .i64 (e1 : Int), .bool l1, .string tx1, .slice p1 m1 c1] #[.int .i64 (f2 : Int), .int .i64 (e2 : Int), .bool l2, .string tx2, .slice p2 m2 c2] ga gb wc)
 case first =>
  go_region
  all_goals (try go_wp2)
  all_goals go_meet
  ·obtain ⟨a1, J, K, a4⟩ := Qmt w (.cells #[.int .i64 (fr : Int), .int .i64 (en : Int), .bool true, .string tx0, .slice (some ⟨g, 0, none⟩) 2 cap] 225) (.cells #[.int .i64 (f1 : Int), .int .i64 (e1 : Int), .bool l1, .string tx1, .slice p1 m1 c1] 225) (.cells #[.int .i64 (f2 : Int), .int .i64 (e2 : Int), .bool l2, .string tx2, .slice p2 m2 c2] 225)
   exact ⟨_, _, rfl, rfl, a1, J, K, a4⟩
  ·obtain ⟨a1, J, K, a4⟩ := Qmt w (.cells #[.int .i64 (fr : Int), .int .i64 (en : Int), .bool true, .string tx0, .slice (some ⟨g, 0, none⟩) 2 cap] 225) (.cells #[.int .i64 (f2 : Int), .int .i64 (e2 : Int), .bool l2, .string tx2, .slice p2 m2 c2] 225) (.cells #[.int .i64 (f1 : Int), .int .i64 (e1 : Int), .bool l1, .string tx1, .slice p1 m1 c1] 225)
   exact ⟨_, _, rfl, rfl, a1, K, J, a4⟩
 case rest =>
  obtain ⟨ga, gb, rfl, rfl, hC⟩ := hcut
  clear r0 r1 r2 r3 r4 s0 s1 s2 s3 s4 ay ai aj ak al am ao hgs
  have HC := Hid.hide hC
  obtain ⟨C, L, M, E⟩ := hC
  obtain ⟨x0, x1, x2, x3, x4⟩ := plc5 C
  obtain ⟨y0, y1, y2, y3, y4⟩ := plc5 L
  have V : Hid (Below w.heap.size w wc) := E
  clear C L M E
  cases l1 with
  | true =>
   have k : Hid (pathQ fr dep true tx1 l2 f2 e2 m2 tx2 q = .error (noN fr)) := by unfold pathQ; rw [if_pos rfl]; exact rfl
   go_wp2_with (go_at_call 112; refine (x.out _ V.out).mono ?_; rintro e l ⟨rfl, i⟩; have m : Hid (Below w.heap.size w l) := Below.behind V.out i; clear i)
   go_ret2
   rw [k.out]
   exact .inl ⟨_, rfl, by rw [X.out]; rfl, m.out⟩
  | false =>
   cases o : unpackF (bytesOf tx1) with
   | none =>
    have k : Hid (pathQ fr dep false tx1 l2 f2 e2 m2 tx2 q = .error (.place fr (.noNode (.base 3)))) := by unfold pathQ; rw [if_neg (by simp), o]; exact rfl
    have O : Hid (∀ W, Below w.heap.size w W -> Calls Tryz.prog 118 #[.string tx1] W fun e G => e = .returned (.tuple #[.string ⟨#[]⟩, .bool false, .iface 271 (.pointer (some (sent 3)))]) /\ Below W.heap.size W G) := fun W T => Qna tx1 sent W (aa.out.below T) o
    clear o
    go_wp2_with fail
    refine (O.out _ V.out).mono ?_
    rintro e s ⟨rfl, n⟩
    have aw := HC.out.keep n
    obtain ⟨C, L, M, E⟩ := aw
    obtain ⟨x0, x1, x2, x3, x4⟩ := plc5 C
    have f : Hid (Below w.heap.size w s) := E
    clear C L M E n
    go_wp2
    go_region
    all_goals (try go_wp2)
    all_goals go_ret2
    all_goals rw [k.out]
    all_goals exact .inl ⟨_, rfl, rfl, Below.drewN f.out 1⟩
   | some pl =>
    obtain ⟨p, r⟩ := pl
    have I : pathQ fr dep false tx1 l2 f2 e2 m2 tx2 q = if r = true then if dep + p.length ≠ 64 \/ l2 = true \/ (decide (0 < tx2.size) && decide (tx2.size <= 100)) = false then .error (noN fr) else .ok (.leaf (textB p) tx2) else if p.length = 0 \/ 64 <= dep + p.length \/ tail17 l2 f2 e2 m2 tx2 = false then .error (noN fr) else extQ (textB p) (q (dep + p.length)) := by unfold pathQ; rw [if_neg (by simp), o]
    have O : Hid (∀ W, Below w.heap.size w W -> Calls Tryz.prog 118 #[.string tx1] W fun e G => e = .returned (.tuple #[.string (textB p), .bool r, .nilIface]) /\ Below W.heap.size W G) := fun W _ => Qsd tx1 W (by have := Q.out; omega) p r o
    obtain ⟨H, _, ah⟩ := Qfw (Qar tx1) o
    rw [bytesOf_length] at ah
    have HP : Hid (∀ y ∈ p, y < 16) := H
    obtain ⟨P, hP⟩ : ∃ P, textB p = P := ⟨_, rfl⟩
    have R : P.size = p.length := by rw [<- hP, Qaa]
    have ab : Hid (p.length <= 64 -> nibOK P) := fun h => ⟨by omega, by rw [<- hP, Qa7 (fun y hy => by have := H y hy; omega)]; exact H⟩
    rw [hP] at O I
    have ap : p.length <= 4096 := by have := Q.out; omega
    have aq : wrap64 ((dep : Int) + (P.size : Int)) = ((dep + p.length : Nat) : Int) := by rw [R]; exact Qbg dep p.length (by have := Q.out; omega)
    obtain ⟨D, hD⟩ : ∃ D, dep + p.length = D := ⟨_, rfl⟩
    rw [hD] at aq I
    have HD : Hid (dep + p.length = D /\ P.size = p.length /\ D <= 5000) := ⟨hD, R, by have := Q.out; omega⟩
    have ac := Hid.hide I
    clear I
    clear o H ah hP R ap hD
    go_wp2_with fail
    refine (O.out _ V.out).mono ?_
    rintro e s ⟨rfl, n⟩
    have b7 := Hid.hide (HC.out.keep n)
    obtain ⟨C, L, M, E⟩ := HC.out.keep n
    obtain ⟨x0, x1, x2, x3, x4⟩ := plc5 C
    obtain ⟨z0, z1, z2, z3, z4⟩ := plc5 M
    have f : Hid (Below w.heap.size w s) := E
    clear C L M E n O
    cases r with
    | false =>
     have c := ac.out
     rw [if_neg (by simp)] at c
     have N : Hid (Calls Tryz.prog 119 #[.agg #[.int .i64 (fr : Int), .int .i64 (en : Int), .bool true, .string tx0, .slice (some ⟨g, 0, none⟩) 2 cap], .string P, .int .i64 (D : Int)] s (RdSaid sent B S s (if p.length = 0 \/ 64 <= D \/ tail17 l2 f2 e2 m2 tx2 = false then .error (noN fr) else extQ P (q D)))) := by
      obtain ⟨q1, q2, q3, q4, q5, q6⟩ := Q.out
      obtain ⟨d1, d2, d3⟩ := HD.out
      have ae : s.rangeAt g 5 [.int .i64 (f2 : Int), .int .i64 (e2 : Int), .bool l2, .string tx2, .slice p2 m2 c2] := fun j u o => (World.cell?_of_block (f.out.block g q6)).trans (q5 j u o)
      have ag : g < s.heap.size := Nat.lt_of_lt_of_le q6 f.out.size
      split
      ·rename_i h
       exact Qok sent fr en tx0 g cap f2 e2 l2 tx2 p2 m2 c2 P D (aa.out.below f.out) ag ae (by omega) q3 q4 (by rw [d2]; exact h)
      ·rename_i h
       have a1 : 0 < p.length := by
        rcases Nat.eq_zero_or_pos p.length with e | e
        ·exact absurd (.inl e) h
        ·exact e
       have J : D < 64 := by
        rcases Nat.lt_or_ge D 64 with e | e
        ·exact e
        ·exact absurd (.inr (.inl e)) h
       have K : tail17 l2 f2 e2 m2 tx2 = true := by
        cases hv : tail17 l2 f2 e2 m2 tx2 with
        | true => rfl
        | false => exact absurd (.inr (.inr hv)) h
       exact Qr3 sent fr en tx0 g cap f2 e2 l2 tx2 p2 m2 c2 P D (Y.out.below f.out) ag ae (ab.out (by omega)) q3 q4 (by omega) J K (q D) (fun W T => HN.out D W J K (Below.behind f.out T))
     generalize (if p.length = 0 \/ 64 <= D \/ tail17 l2 f2 e2 m2 tx2 = false then Except.error (noN fr) else extQ P (q D)) = res at N c
     have k := Hid.hide c
     clear c
     go_wp2_with fail
     refine N.out.mono ?_
     rintro e l (⟨er, rfl, rfl, hb⟩ | ⟨t, v, S', rfl, rfl, h3, h4, h5⟩)
     ·obtain ⟨ar, au, F⟩ := er.shape sent
      have z : Hid (er.val sent = .iface ar au /\ Below w.heap.size w l) := ⟨F, Below.behind f.out hb⟩
      rw [F]
      clear hb F
      go_wp2
      go_ret2
      rw [k.out]
      exact .inl ⟨er, rfl, by rw [z.out.1]; rfl, z.out.2⟩
     ·have z : Hid (t ≠ .no /\ ndV S' v t /\ Gr B S S' w l) := ⟨h3, h4, h5.after Y.out f.out⟩
      clear h3 h4 h5
      go_wp2
      go_ret2
      rw [k.out]
      exact .inr ⟨t, v, S', rfl, rfl, z.out.1, z.out.2.1, z.out.2.2⟩
    | true =>
     have c := ac.out
     rw [if_pos rfl] at c
     have Z : Hid (∀ W, Calls Tryz.prog 60 #[.string tx2] W fun e G => e = .returned (.bool (decide (0 < tx2.size) && decide (tx2.size <= 100))) /\ G = W) := fun W => Qu8 tx2 W
     by_cases hd : D = 64
     ·subst hd
      cases l2 with
      | true =>
       rw [if_pos (.inr (.inl rfl))] at c
       have k := Hid.hide c
       clear c
       go_wp2_with (go_at_call 112; refine (x.out _ f.out).mono ?_; rintro e l ⟨rfl, i⟩; have m : Hid (Below w.heap.size w l) := Below.behind f.out i; clear i)
       go_ret2
       rw [k.out]
       exact .inl ⟨_, rfl, by rw [X.out]; rfl, m.out⟩
      | false =>
       cases hv : (decide (0 < tx2.size) && decide (tx2.size <= 100)) with
       | false =>
        rw [if_pos (.inr (.inr hv))] at c
        have k := Hid.hide c
        clear c
        rw [hv] at Z
        clear hv
        go_wp2_with (first | (go_at_call 60; refine (Z.out _).mono ?_; rintro e l ⟨rfl, rfl⟩) | (go_at_call 112; refine (x.out _ f.out).mono ?_; rintro e l ⟨rfl, i⟩; have m : Hid (Below w.heap.size w l) := Below.behind f.out i; clear i))
        go_ret2
        rw [k.out]
        exact .inl ⟨_, rfl, by rw [X.out]; rfl, m.out⟩
       | true =>
        rw [if_neg (by rw [hv]; simp)] at c
        have k := Hid.hide c
        clear c
        rw [hv] at Z
        have az : tx2.size <= 100 := by simp at hv; omega
        have z : Hid (Gr B S (S.put s.heap.size (.leaf P tx2)) w (s.alloc (.cells #[.string ⟨#[]⟩, .string P, .string tx2] 185))) := Gr.after Y.out f.out ⟨(Below.refl _ _).alloc (Nat.le_refl _) _, Fr.leaf (Y.out.below f.out) (ab.out (by have := HD.out; omega)) (by omega)⟩
        clear hv az
        go_wp2_with (first | (go_at_call 60; refine (Z.out _).mono ?_; rintro e l ⟨rfl, rfl⟩))
        go_ret2
        rw [k.out]
        exact .inr ⟨.leaf P tx2, _, _, rfl, rfl, by simp, .inr ⟨by simp, _, rfl, Wood.put_same _ _ _⟩, z.out⟩
     ·have ba : ¬ ((D : Int) = 64) := by omega
      have bc : ((D : Int) == 64) = false := by simp; omega
      rw [if_pos (.inl hd)] at c
      have k := Hid.hide c
      clear c
      go_wp2_with (go_at_call 112; refine (x.out _ f.out).mono ?_; rintro e l ⟨rfl, i⟩; have m : Hid (Below w.heap.size w l) := Below.behind f.out i; clear i)
      go_ret2
      rw [k.out]
      exact .inl ⟨_, rfl, by rw [X.out]; rfl, m.out⟩
def Row5 (w : World) (g : Nat) (es : List El) : Prop := g < w.heap.size /\ ∀ i (hi : i < es.length), w.rangeAt g (i * 5) (encP es[i]) /\ ∃ p m c, es[i].sub = .slice p m c
variable {es : List El}
theorem Row5.below {w' : World} {g : Nat} (h : Row5 w g es) (hb : Below w.heap.size w w') : Row5 w' g es :=
 ⟨Nat.lt_of_lt_of_le h.1 hb.size, fun i hi => ⟨fun j u hu => (World.cell?_of_block (hb.block g h.1)).trans ((h.2 i hi).1 j u hu), (h.2 i hi).2⟩⟩
theorem Row5.at {w : World} {g : Nat} {es : List El} (h : Row5 w g es) {i : Nat} (hi : i < es.length) : ∃ f e l tx p m c, es[i] = ⟨f, e, l, tx, .slice p m c⟩ /\ w.cell? ⟨g, i * 5, none⟩ = some (.int .i64 (f : Int)) /\ w.cell? ⟨g, i * 5 + 1, none⟩ = some (.int .i64 (e : Int)) /\ w.cell? ⟨g, i * 5 + 2, none⟩ = some (.bool l) /\ w.cell? ⟨g, i * 5 + 3, none⟩ = some (.string tx) /\ w.cell? ⟨g, i * 5 + 4, none⟩ = some (.slice p m c) := by
 obtain ⟨a, p, m, c, b⟩ := h.2 i hi
 generalize es[i] = x at a b
 obtain ⟨f, e, l, tx, d⟩ := x
 simp only at b
 subst b
 exact ⟨f, e, l, tx, p, m, c, rfl, a 0 _ rfl, a 1 _ rfl, a 2 _ rfl, a 3 _ rfl, a 4 _ rfl⟩
def El.ref (x : El) : Bool := if x.lst = true then decide (x.to - x.fr < 32) else decide (x.text.size = 32)
def El.emp (x : El) : Bool := !x.lst && decide (x.text.size = 0)
def refCnt (es : List El) (k : Nat) : Nat := ((es.take k).filter El.ref).length
variable {k : Nat}
theorem Qol (hk : k < es.length) : refCnt es (k + 1) = refCnt es k + if es[k].ref = true then 1 else 0 := by
 unfold refCnt
 rw [List.take_add_one, List.getElem?_eq_getElem hk]
 simp only [Option.toList_some, List.filter_append, List.length_append]
 cases h : es[k].ref <;> simp [h]
theorem Qmu (es : List El) (k : Nat) : refCnt es k <= k := by
 unfold refCnt
 exact Nat.le_trans (List.length_filter_le _ _) (by rw [List.length_take]; omega)
theorem Qu9 (es : List El) (k : Nat) (h : k < 16) : es.take 16 = es.take (k + 1) ++ (es.take 16).drop (k + 1) := by
 have := List.take_append_drop (k + 1) (es.take 16)
 rw [List.take_take, show min (k + 1) 16 = k + 1 by omega] at this
 exact this.symm
def forksE (es : List El) : Bool := (es.take 16).all (fun x => x.ref || x.emp) && (decide (2 <= refCnt es 16) && (es.drop 16).all El.emp)
theorem Qmv (g cap : Nat) (es : List El) (hl : es.length = 17) (hcap : 17 <= cap) (hr : Row5 w g es) (hb : ∀ i (hi : i < es.length), es[i].fr <= es[i].to /\ es[i].to <= 2048) :
  Calls Tryz.prog 120 #[.slice (some ⟨g, 0, none⟩) 17 cap] w fun e w' => e = .returned (.bool (forksE es)) /\ Below w.heap.size w w' := by
 have HR : Hid (Row5 w g es /\ es.length = 17 /\ ∀ i (hi : i < es.length), es[i].fr <= es[i].to /\ es[i].to <= 2048) := ⟨hr, hl, hb⟩
 have ab : (17 : Int) <= (cap : Int) := by omega
 have aa : (16 : Int) <= (cap : Int) := by omega
 clear hl hr hb
 go_enter Tryz.func120, Tryz.ntmps120
 go_wp2_with fail
 go_loopg [14, 4] 16 (fun gh i n wr => ∃ k, k <= 16 /\ gh = 16 - k /\ i = .int .i64 (k : Int) /\ n = .int .i64 (refCnt es k : Int) /\ Below w.heap.size w wr /\ (es.take k).all (fun x => x.ref || x.emp) = true)
 case atStart => exact ⟨0, Nat.zero_le _, rfl, rfl, by simp [refCnt], Below.refl _ _, by simp⟩
 case round =>
  obtain ⟨k, V, rfl, rfl, rfl, G, L⟩ := hrel
  obtain ⟨s, y, C⟩ := HR.out
  have q := s.below G
  by_cases E : k < 16
  ·have d : k < es.length := by omega
   have i1 : (k : Int) < 16 := by omega
   obtain ⟨f, e, l, a, p, m, c, v, r0, r1, r2, r3, r4⟩ := q.at d
   have ae := q.1
   have ac : ¬ g = wr.heap.size := by omega
   have D := C k d
   rw [v] at D
   have F := Qol d
   rw [v] at F
   have o := Qmu es k
   have M : ∀ b, (El.ref ⟨f, e, l, a, .slice p m c⟩ || El.emp ⟨f, e, l, a, .slice p m c⟩) = b -> (es.take (k + 1)).all (fun x => x.ref || x.emp) = b := fun b hb => by
    rw [List.take_add_one, List.getElem?_eq_getElem d, List.all_append, L, v]
    simpa using hb
   have S : wrap64 ((k : Int) + 1) = ((k + 1 : Nat) : Int) := Qbg k 1 (by omega)
   obtain ⟨n, H⟩ : ∃ n, refCnt es k = n := ⟨_, rfl⟩
   rw [H] at F o ⊢
   have T : wrap64 ((n : Int) + 1) = ((n + 1 : Nat) : Int) := Qbg n 1 (by omega)
   have HW : Hid (wrap64 ((k : Int) + 1) = ((k + 1 : Nat) : Int) /\ wrap64 ((n : Int) + 1) = ((n + 1 : Nat) : Int)) := ⟨S, T⟩
   have Z : Hid (∀ W, Calls Tryz.prog 125 #[.agg #[.int .i64 (f : Int), .int .i64 (e : Int), .bool l, .string a, .slice p m c]] W fun r w' => r = .returned (.bool (El.ref ⟨f, e, l, a, .slice p m c⟩)) /\ Below W.heap.size W w') := fun W => Qi3 f e l a p m c W D.1 D.2
   have J : Hid (∀ W, Calls Tryz.prog 121 #[.agg #[.int .i64 (f : Int), .int .i64 (e : Int), .bool l, .string a, .slice p m c]] W fun r w' => r = .returned (.bool (El.emp ⟨f, e, l, a, .slice p m c⟩)) /\ Below W.heap.size W w') := fun W => Qi2 f e l a p m c W
   have O := Hid.hide G
   have I := Hid.hide M
   have R := Hid.hide F
   have Y : Hid ((es.take (k + 1)).all (fun x => x.ref || x.emp) = false -> forksE es = false) := fun h => by
    unfold forksE
    rw [show es.take 16 = es.take (k + 1) ++ (es.take 16).drop (k + 1) from Qu9 es k E, List.all_append, h]
    rfl
   clear s y C q L V E d v D F o M S T G H
   go_wp2_with fail
   refine (Z.out _).mono ?_
   rintro r w1 ⟨rfl, N⟩
   have z := N.block wr.heap.size (by simp)
   rw [show (wr.alloc (.cells #[.int .i64 (f : Int), .int .i64 (e : Int), .bool l, .string a, .slice p m c] 225)).heap[wr.heap.size]? = some (.cells #[.int .i64 (f : Int), .int .i64 (e : Int), .bool l, .string a, .slice p m c] 225 (0, 0)) from Array.getElem?_push_size] at z
   obtain ⟨x0, x1, x2, x3, x4⟩ := plc5 z
   have Q : Hid (Below w.heap.size w w1) := Below.behind O.out (Below.up N)
   clear z N
   cases hrf : El.ref ⟨f, e, l, a, .slice p m c⟩ with
   | true =>
    have K : Hid (refCnt es (k + 1) = n + 1) := by rw [R.out, if_pos hrf]; exact rfl
    have j : Hid ((es.take (k + 1)).all (fun x => x.ref || x.emp) = true) := I.out true (by rw [hrf]; rfl)
    clear hrf
    go_wp2
    go_roundg (16 - (k + 1))
    case measure => omega
    case rel => exact ⟨k + 1, by omega, rfl, rfl, by rw [K.out, HW.out.2], Q.out, j.out⟩
   | false =>
    go_wp2_with fail
    refine (J.out _).mono ?_
    rintro r X ⟨rfl, u⟩
    have B : Hid (Below w.heap.size w X) := Below.behind Q.out u
    have K : Hid (refCnt es (k + 1) = n) := by rw [R.out, if_neg (by rw [hrf]; simp)]; exact rfl
    have j := Hid.hide (I.out _ rfl)
    rw [hrf] at j
    clear hrf u
    cases hem : El.emp ⟨f, e, l, a, .slice p m c⟩ with
    | true =>
     rw [hem] at j
     clear hem
     go_wp2
     go_roundg (16 - (k + 1))
     case measure => omega
     case rel => exact ⟨k + 1, by omega, rfl, rfl, by rw [K.out], B.out, j.out⟩
    | false =>
     rw [hem] at j
     clear hem
     go_wp2
     go_ret
     exact ⟨by rw [Y.out j.out]; rfl, B.out⟩
  ·obtain rfl : k = 16 := by omega
   have i1 : ¬ ((16 : Nat) : Int) < 16 := by omega
   have d : 16 < es.length := by omega
   obtain ⟨f, e, l, a, p, m, c, v, r0, r1, r2, r3, r4⟩ := q.at d
   have J : Hid (∀ W, Calls Tryz.prog 121 #[.agg #[.int .i64 (f : Int), .int .i64 (e : Int), .bool l, .string a, .slice p m c]] W fun r w' => r = .returned (.bool (El.emp ⟨f, e, l, a, .slice p m c⟩)) /\ Below W.heap.size W w') := fun W => Qi2 f e l a p m c W
   have U : es.drop 16 = [es[16]] := by
    rw [List.drop_eq_getElem_cons d, List.drop_eq_nil_of_le (by omega)]
   have t : Hid (forksE es = (decide (2 <= refCnt es 16) && El.emp ⟨f, e, l, a, .slice p m c⟩)) := by
    show forksE es = _
    unfold forksE
    rw [L, U, v]
    simp
   have O := Hid.hide G
   have o := Qmu es 16
   obtain ⟨n, H⟩ : ∃ n, refCnt es 16 = n := ⟨_, rfl⟩
   rw [H] at t o ⊢
   by_cases P : 2 <= n
   ·have j1 : (2 : Int) <= (n : Int) := by omega
    rw [decide_eq_true P, Bool.true_and] at t
    clear s y C q L V E d v U G H o P
    go_wp2_with (first | (go_at_call 121; refine (J.out _).mono ?_; rintro r X ⟨rfl, u⟩; have B : Hid (Below w.heap.size w X) := Below.behind O.out u; clear u))
    go_ret
    exact ⟨by rw [t.out]; rfl, B.out⟩
   ·have j1 : (n : Int) < 2 := by omega
    rw [decide_eq_false P, Bool.false_and] at t
    clear s y C q L V E d v U G H o P
    go_wp2
    go_ret
    exact ⟨by rw [t.out]; rfl, O.out⟩
theorem Gr.put {B : Nat} {S S1 : Wood} {w Y : World} (hg : Gr B S S1 w Y) {c : Nat} (hc : w.heap.size <= c) (hn : S1 c = none) (hBw : B <= w.heap.size) {t : Nd} {h : ByteArray} {r : List Value} (hh : heldOK t h) (hr : NdRest S1 t r) (ht : t.ok) (hY : Y.heap[c]? = some (.cells (.string h :: r).toArray (ndObj t) (0, 0))) : Gr B S (S1.put c t) w Y := by
 have i := hg.2.forest
 have d : ∀ b u, S1 b = some u -> S1.put c t b = some u := fun b u f => by
  by_cases e : b = c
  ·subst e; rw [hn] at f; cases f
  ·rw [Wood.put_other _ _ _ e]; exact f
 refine ⟨hg.1, hg.2.os, hg.2.tape, hg.2.output, hg.2.size, hg.2.other, ⟨fun k u a => ?_, fun k u a => ?_, fun k u a => ?_, i.le⟩, fun b u f => d b u (hg.2.sub b u f), fun k a h => by rw [Wood.put_other _ _ _ (by omega)]; exact hg.2.new k a h, hg.2.kids⟩
 ·by_cases e : k = c
  ·subst e
   rw [Wood.put_same] at a
   obtain rfl := Option.some.inj a
   exact ⟨h, r, hh, hr.sub d, hY⟩
  ·rw [Wood.put_other _ _ _ e] at a
   obtain ⟨g, n, j, l, m⟩ := i.node k u a
   exact ⟨g, n, j, l.sub d, m⟩
 ·by_cases e : k = c
  ·subst e
   rw [Wood.put_same] at a
   obtain rfl := Option.some.inj a
   exact ht
  ·rw [Wood.put_other _ _ _ e] at a
   exact i.ok k u a
 ·by_cases e : k = c
  ·subst e
   rw [Wood.put_same] at a
   omega
  ·rw [Wood.put_other _ _ _ e] at a
   exact i.low k u a
def thenK (ns : List Nd) : Except Er (List Nd) -> Except Er (List Nd)
 | .error e => .error e
 | .ok ms => .ok (ns ++ ms)
def brQ : Except Er (List Nd) -> Except Er Nd
 | .error e => .error e
 | .ok ns => .ok (.br ns)
variable {rd : It -> Nat -> Except Er Nd} {dep : Nat} {x : It} {xs : List It} {ns : List Nd}
theorem Qr4 (h : x.emp = true) : thenK ns (rdKids rd dep (x :: xs)) = thenK (ns ++ [.no]) (rdKids rd dep xs) := by
 rw [rdKids, if_pos h]
 cases rdKids rd dep xs with
 | error e => rfl
 | ok ms => simp [thenK]
theorem Qr5 {e : Er} (h : x.emp = false) (hr : rdRef rd x dep = .error e) : thenK ns (rdKids rd dep (x :: xs)) = .error e := by
 rw [rdKids, if_neg (by rw [h]; simp), hr]
 rfl
theorem Qr6 {t : Nd} (h : x.emp = false) (hr : rdRef rd x dep = .ok t) : thenK ns (rdKids rd dep (x :: xs)) = thenK (ns ++ [t]) (rdKids rd dep xs) := by
 rw [rdKids, if_neg (by rw [h]; simp), hr]
 simp only
 cases rdKids rd dep xs with
 | error e => rfl
 | ok ms => simp [thenK]
structure BrInv (B : Nat) (S : Wood) (w : World) (ax : Array Value) (gb : Nat) (R : Except Er (List Nd)) (rest : Nat -> Except Er (List Nd)) (k : Nat) (wr : World) (ns : List Nd) (vs : List Value) (S1 : Wood) : Prop where
 len : ns.length = k
 len16 : vs.length = 16
 kids : ∀ i (h : i < vs.length), ndV S1 vs[i] (ns.getD i .no)
 cell : wr.heap[gb]? = some (.cells (.string ⟨#[]⟩ :: vs).toArray 256 (0, 0))
 off : S1 gb = none
 gr : Gr B S S1 w wr
 box : wr.heap[w.heap.size]? = some (.cells ax 225 (0, 0))
 eq : R = thenK ns (rest k)
variable {R : Except Er (List Nd)} {rest : Nat -> Except Er (List Nd)} {wr : World} {vs : List Value} {S1 : Wood}
theorem BrInv.lt (h : BrInv B S w ax gb R rest k wr ns vs S1) : gb < wr.heap.size := (Array.getElem?_eq_some_iff.1 h.cell).1
theorem BrInv.keep {S2 : Wood} (h : BrInv B S w ax gb R rest k wr ns vs S1) (hg : Gr B S1 S2 wr w1) : BrInv B S w ax gb R rest k w1 ns vs S2 := by
 refine ⟨h.len, h.len16, fun i a => (h.kids i a).sub hg.2.sub, (hg.1.block gb h.lt).trans h.cell, hg.2.new gb h.lt h.off, h.gr.trans hg, (hg.1.block _ (Array.getElem?_eq_some_iff.1 h.box).1).trans h.box, h.eq⟩
theorem Qmw (ns : List Nd) (t : Nd) (i : Nat) : (ns ++ [t]).getD i .no = if i = ns.length then t else ns.getD i .no := by
 by_cases h : i = ns.length
 ·subst h; simp
 ·rw [if_neg h]
  rcases Nat.lt_or_ge i ns.length with h1 | h1
  ·simp [List.getD_eq_getElem?_getD, List.getElem?_append_left h1]
  ·rw [List.getD_eq_getElem?_getD, List.getD_eq_getElem?_getD, List.getElem?_eq_none (by simp; omega), List.getElem?_eq_none h1]
theorem BrInv.skip (h : BrInv B S w ax gb R rest k wr ns vs S1) (he : ∀ ns, thenK ns (rest k) = thenK (ns ++ [.no]) (rest (k + 1))) : BrInv B S w ax gb R rest (k + 1) wr (ns ++ [.no]) vs S1 := by
 refine ⟨by simp [h.len], h.len16, fun i a => ?_, h.cell, h.off, h.gr, h.box, by rw [h.eq, he]⟩
 rw [Qmw]
 split
 ·rename_i e
  have := h.kids i a
  rw [List.getD_eq_getElem?_getD, List.getElem?_eq_none (by omega)] at this
  exact this
 ·exact h.kids i a
theorem BrInv.more (h : BrInv B S w ax gb R rest k wr ns vs S1) (hgb : w.heap.size < gb) {v : Value} {t : Nd} (hv : ndV S1 v t) (he : ∀ ns, thenK ns (rest k) = thenK (ns ++ [t]) (rest (k + 1))) : BrInv B S w ax gb R rest (k + 1) (wr.setCell ⟨gb, 1 + k, none⟩ v) (ns ++ [t]) (vs.set k v) S1 := by
 have c : Below w.heap.size w (wr.setCell ⟨gb, 1 + k, none⟩ v) := by
  have c := h.gr.1
  exact ⟨c.os, c.tape, c.output, by simpa using c.size, fun j d => (Below.heap_setCell _ _ _ _ (by simp; omega)).trans (c.block j d)⟩
 refine ⟨by simp [h.len], by simpa using h.len16, fun i m => ?_, ?_, h.off, ⟨c, ?_⟩, (Below.heap_setCell _ _ _ _ (by simp; omega)).trans h.box, by rw [h.eq, he]⟩
 ·rw [Qmw, List.getElem_set, h.len]
  by_cases e : k = i
  ·rw [if_pos e, if_pos e.symm]; exact hv
  ·rw [if_neg e, if_neg (fun l => e l.symm)]
   exact h.kids i (by simpa using m)
 ·have := Qa0 h.cell (1 + k) v
  rw [this, Nat.add_comm 1 k, List.set_cons_succ]
 ·have a := h.gr.2
  refine ⟨a.os, a.tape, a.output, by simpa using a.size, fun j d n => c.block j d, ?_, a.sub, a.new, fun b u f j d => ?_⟩
  ·exact a.forest.keep (by simp) fun j u d => Below.heap_setCell _ _ _ _ (by
    rintro rfl
    rw [h.off] at d
    cases d)
  ·have g : b ≠ gb := by
    rintro rfl
    have := a.sub b u f
    rw [h.off] at this
    cases this
   exact (World.cell?_of_block (Below.heap_setCell _ _ _ _ g)).trans (a.kids b u f j d)
theorem Qr7 (sent : Nat -> Addr) (fr en : Nat) (tx0 : ByteArray) (g cap : Nat) (es : List El) (dep : Nat) (hF : Faults w sent) (hl : es.length = 17) (hcap : 17 <= cap) (hr : Row5 w g es) (hb : ∀ i (hi : i < es.length), es[i].fr <= es[i].to /\ es[i].to <= 2048) (h : 64 <= dep \/ forksE es = false) :
  Calls Tryz.prog 111 #[.agg #[.int .i64 (fr : Int), .int .i64 (en : Int), .bool true, .string tx0, .slice (some ⟨g, 0, none⟩) 17 cap], .int .i64 (dep : Int)] w (RdSaid sent B S w (.error (noN fr))) := by
 have d : Hid (∀ W, Below w.heap.size w W -> Calls Tryz.prog 112 #[.agg #[.int .i64 (fr : Int), .int .i64 (en : Int), .bool true, .string tx0, .slice (some ⟨g, 0, none⟩) 17 cap]] W fun e q => e = .returned ((noN fr).val sent) /\ Below W.heap.size W q) := fun W p => Qec fr en true tx0 _ 17 cap sent W (hF.below p)
 obtain ⟨u, v, j⟩ := (noN fr).shape sent
 have s : Hid ((noN fr).val sent = .iface u v) := j
 rw [j] at d
 have t : Hid (∀ W, Below w.heap.size w W -> Calls Tryz.prog 120 #[.slice (some ⟨g, 0, none⟩) 17 cap] W fun e q => e = .returned (.bool (forksE es)) /\ Below W.heap.size W q) := fun W p => Qmv g cap es hl hcap (hr.below p) hb
 have l : Below w.heap.size w (w.alloc (.cells #[.int .i64 (fr : Int), .int .i64 (en : Int), .bool true, .string tx0, .slice (some ⟨g, 0, none⟩) 17 cap] 225)) := (Below.refl _ _).alloc (Nat.le_refl _) _
 have c := Hid.hide l
 clear hF hl hcap hr hb j l
 by_cases f : 64 <= dep
 ·have hi : (64 : Int) <= (dep : Int) := by omega
  clear h f
  go_enter Tryz.func111, Tryz.ntmps111
  go_wp2_with (go_at_call 112; refine (d.out _ c.out).mono ?_; rintro e r ⟨rfl, a⟩; have o : Hid (Below w.heap.size w r) := Below.behind c.out a; clear a)
  go_ret2
  exact .inl ⟨_, rfl, by rw [s.out]; rfl, o.out⟩
 ·have hi : (dep : Int) < 64 := by omega
  have n : forksE es = false := h.resolve_left f
  rw [n] at t
  clear h f n
  go_enter Tryz.func111, Tryz.ntmps111
  go_wp2_with fail
  refine (t.out _ c.out).mono ?_
  rintro e r ⟨rfl, a⟩
  have b := a.block w.heap.size (by simp)
  rw [show (w.alloc (.cells #[.int .i64 (fr : Int), .int .i64 (en : Int), .bool true, .string tx0, .slice (some ⟨g, 0, none⟩) 17 cap] 225)).heap[w.heap.size]? = some (.cells #[.int .i64 (fr : Int), .int .i64 (en : Int), .bool true, .string tx0, .slice (some ⟨g, 0, none⟩) 17 cap] 225 (0, 0)) from Array.getElem?_push_size] at b
  obtain ⟨y, z, C, D, E⟩ := plc5 b
  have k : Hid (Below w.heap.size w r) := Below.behind c.out a
  clear b a
  go_wp2_with (go_at_call 112; refine (d.out _ k.out).mono ?_; rintro e x ⟨rfl, m⟩; have o : Hid (Below w.heap.size w x) := Below.behind k.out m; clear m)
  go_ret2
  exact .inl ⟨_, rfl, by rw [s.out]; rfl, o.out⟩
theorem QA3 {its : List It} (hl : its.length = 17) (hk : k < 16) : (its.take 16).drop k = its[k] :: (its.take 16).drop (k + 1) := by
 have h : k < (its.take 16).length := by rw [List.length_take]; omega
 rw [List.drop_eq_getElem_cons h, List.getElem_take]
theorem Qua (sent : Nat -> Addr) (fr en : Nat) (tx0 : ByteArray) (g cap : Nat) (es : List El) (its : List It) (dep : Nat) (rd : It -> Nat -> Except Er Nd) (hf : Forest B S w) (hl : es.length = 17) (hcap : 17 <= cap) (hr : Row5 w g es) (hb : ∀ i (hi : i < es.length), es[i].fr <= es[i].to /\ es[i].to <= 2048) (h64 : dep < 64) (hfk : forksE es = true) (hli : its.length = 17)
  (hemp : ∀ i (h1 : i < es.length) (h2 : i < its.length), es[i].emp = its[i].emp)
  (hN : ∀ i (h1 : i < es.length) (h2 : i < its.length) (S1 : Wood) (W : World), i < 16 -> Forest B S1 W -> Below w.heap.size w W -> es[i].ref = true -> Calls Tryz.prog 122 #[valP es[i], .int .i64 ((dep + 1 : Nat) : Int)] W (RdSaid sent B S1 W (rdRef rd its[i] (dep + 1)))) :
  Calls Tryz.prog 111 #[.agg #[.int .i64 (fr : Int), .int .i64 (en : Int), .bool true, .string tx0, .slice (some ⟨g, 0, none⟩) 17 cap], .int .i64 (dep : Int)] w (RdSaid sent B S w (brQ (rdKids rd (dep + 1) (its.take 16)))) := by
 have HK : Hid (∀ W, Below w.heap.size w W -> Calls Tryz.prog 120 #[.slice (some ⟨g, 0, none⟩) 17 cap] W fun e w' => e = .returned (.bool true) /\ Below W.heap.size W w') := fun W hW => by
  have := Qmv g cap es hl hcap (hr.below hW) hb
  rw [hfk] at this
  exact this
 have q : ∀ i (h : i < es.length), i < 16 -> (es[i].ref || es[i].emp) = true := fun i h aw => by
  unfold forksE at hfk
  rw [Bool.and_eq_true] at hfk
  refine List.all_eq_true.1 hfk.1 _ ?_
  exact List.mem_take_iff_getElem.2 ⟨i, by omega, rfl⟩
 have ac : Below w.heap.size w (w.alloc (.cells #[.int .i64 (fr : Int), .int .i64 (en : Int), .bool true, .string tx0, .slice (some ⟨g, 0, none⟩) 17 cap] 225)) := (Below.refl _ _).alloc (Nat.le_refl _) _
 have X := Hid.hide ac
 have HX : Hid (Row5 w g es /\ es.length = 17 /\ its.length = 17 /\ (∀ i (h : i < es.length), i < 16 -> (es[i].ref || es[i].emp) = true) /\ (∀ i (h1 : i < es.length) (h2 : i < its.length), es[i].emp = its[i].emp) /\ dep < 64) := ⟨hr, hl, hli, q, hemp, h64⟩
 have HN := Hid.hide hN
 have HF := Hid.hide hf
 have hi : (dep : Int) < 64 := by omega
 have ay : (17 : Int) <= (cap : Int) := by omega
 obtain ⟨R, hR⟩ : ∃ R, rdKids rd (dep + 1) (its.take 16) = R := ⟨_, rfl⟩
 have ao := Hid.hide hR
 rw [hR]
 clear hf hl hcap hr hb h64 hfk hli hemp hN q ac hR
 go_enter Tryz.func111, Tryz.ntmps111
 go_wp2_with fail
 refine (HK.out _ X.out).mono ?_
 rintro e w1 ⟨rfl, E⟩
 have a := E.block w.heap.size (by simp)
 rw [show (w.alloc (.cells #[.int .i64 (fr : Int), .int .i64 (en : Int), .bool true, .string tx0, .slice (some ⟨g, 0, none⟩) 17 cap] 225)).heap[w.heap.size]? = some (.cells #[.int .i64 (fr : Int), .int .i64 (en : Int), .bool true, .string tx0, .slice (some ⟨g, 0, none⟩) 17 cap] 225 (0, 0)) from Array.getElem?_push_size] at a
 have D : w.heap.size < w1.heap.size := by have := E.size; simp at this; omega
 have ab : Below w.heap.size w w1 := Below.behind X.out E
 obtain ⟨x0, x1, x2, x3, x4⟩ := plc5 a
 have A0 : Aside (BrInv B S w #[.int .i64 (fr : Int), .int .i64 (en : Int), .bool true, .string tx0, .slice (some ⟨g, 0, none⟩) 17 cap] w1.heap.size R (fun k => rdKids rd (dep + 1) ((its.take 16).drop k)) 0 (w1.alloc (.cells z17.toArray 256)) [] (z17.drop 1) S) := by
  have ap := ab.alloc (Nat.le_of_lt D) (.cells z17.toArray 256)
  refine ⟨rfl, rfl, fun i hi => .inl ⟨by simp, ?_⟩, ?_, HF.out.fresh (Nat.le_of_lt D), .of_below HF.out ap, ?_, ?_⟩
  ·have : (z17.drop 1)[i] ∈ List.replicate 16 Value.nilIface := List.getElem_mem hi
   exact List.eq_of_mem_replicate this
  ·exact Array.getElem?_push_size
  ·exact (Below.heap_alloc _ _ _ D).trans a
  ·rw [List.drop_zero, ao.out]
   cases R <;> rfl
 have Z : Hid (w.heap.size < w1.heap.size) := D
 clear a E ab D
 go_wp2_with fail
 go_loopg [21] 16 (fun gh i wr => ∃ k ns P S1, k <= 16 /\ gh = 16 - k /\ i = .int .i64 (k : Int) /\ BrInv B S w #[.int .i64 (fr : Int), .int .i64 (en : Int), .bool true, .string tx0, .slice (some ⟨g, 0, none⟩) 17 cap] w1.heap.size R (fun k => rdKids rd (dep + 1) ((its.take 16).drop k)) k wr ns P S1)
 case atStart => exact ⟨0, [], _, S, Nat.zero_le _, rfl, rfl, A0.out⟩
 case round =>
  obtain ⟨k, ns, P, S1, K, rfl, rfl, j⟩ := hrel
  clear A0 x0 x1 x2 x3 x4
  have HI := Hid.hide j
  obtain ⟨x0, x1, x2, x3, x4⟩ := plc5 j.box
  by_cases z : k < 16
  ·have i1 : (k : Int) < 16 := by omega
   obtain ⟨O, aq, hli, q, hemp, hd⟩ := HX.out
   have C : k < es.length := by omega
   have L : k < its.length := by omega
   have N := O.below j.gr.1
   obtain ⟨f, e, l, s, p, m, c, V, r0, r1, r2, r3, r4⟩ := N.at C
   have b7 := N.1
   have az : ¬ g = wr.heap.size := by omega
   have aj : Hid (∀ W, Calls Tryz.prog 121 #[.agg #[.int .i64 (f : Int), .int .i64 (e : Int), .bool l, .string s, .slice p m c]] W fun r w' => r = .returned (.bool (El.emp ⟨f, e, l, s, .slice p m c⟩)) /\ Below W.heap.size W w') := fun W => Qi2 f e l s p m c W
   have o := hemp k C L
   rw [V] at o
   have ha := q k C z
   rw [V] at ha
   have HA := Hid.hide ha
   have hN := HN.out k C L
   rw [V] at hN
   have H := QA3 hli z
   obtain ⟨x, hx⟩ : ∃ x, its[k] = x := ⟨_, rfl⟩
   rw [hx] at o hN H
   have Y : Hid (El.emp ⟨f, e, l, s, .slice p m c⟩ = x.emp) := o
   have am : Hid (∀ (S1 : Wood) (W : World), Forest B S1 W -> Below w.heap.size w W -> El.ref ⟨f, e, l, s, .slice p m c⟩ = true -> Calls Tryz.prog 122 #[.agg #[.int .i64 (f : Int), .int .i64 (e : Int), .bool l, .string s, .slice p m c], .int .i64 ((dep + 1 : Nat) : Int)] W (RdSaid sent B S1 W (rdRef rd x (dep + 1)))) := fun S1 W h1 h2 U => hN S1 W z h1 h2 U
   have F : Hid ((its.take 16).drop k = x :: (its.take 16).drop (k + 1)) := H
   have ba : wrap64 ((dep : Int) + 1) = ((dep + 1 : Nat) : Int) := Qbg dep 1 (by omega)
   clear O aq hli q hemp hd C L N V j K o ha hN H hx
   go_wp2_with fail
   refine (aj.out _).mono ?_
   rintro r w2 ⟨rfl, G⟩
   have a := G.block wr.heap.size (by simp)
   rw [show (wr.alloc (.cells #[.int .i64 (f : Int), .int .i64 (e : Int), .bool l, .string s, .slice p m c] 225)).heap[wr.heap.size]? = some (.cells #[.int .i64 (f : Int), .int .i64 (e : Int), .bool l, .string s, .slice p m c] 225 (0, 0)) from Array.getElem?_push_size] at a
   obtain ⟨y0, y1, y2, y3, y4⟩ := plc5 a
   have u := Hid.hide (HI.out.keep (.of_below HI.out.gr.2.forest (Below.up G)))
   clear a G
   cases o : El.emp ⟨f, e, l, s, .slice p m c⟩ with
   | true =>
    have ak := Hid.hide (u.out.skip (fun ns => by rw [F.out]; exact Qr4 (by rw [<- Y.out, o])))
    clear o
    go_wp2
    go_roundg (16 - (k + 1))
    case measure => omega
    case rel => exact ⟨k + 1, _, _, S1, by omega, rfl, rfl, ak.out⟩
   | false =>
    have ah : El.ref ⟨f, e, l, s, .slice p m c⟩ = true := by
     have := HA.out
     rw [o, Bool.or_false] at this
     exact this
    have ai : x.emp = false := by rw [<- Y.out, o]
    have aa := Hid.hide ai
    have Q := Hid.hide (am.out S1 w2 u.out.gr.2.forest u.out.gr.1 ah)
    clear o ah ai
    go_wp2_with fail
    refine Q.out.mono ?_
    rintro r w3 (⟨T, M, rfl, ae⟩ | ⟨t, v, S2, M, rfl, U, h4, h5⟩)
    ·obtain ⟨et, ev, J⟩ := T.shape sent
     have HY : Hid (R = .error T /\ T.val sent = .iface et ev /\ Below w.heap.size w w3) := ⟨by rw [u.out.eq, F.out]; exact Qr5 aa.out M, J, Below.behind u.out.gr.1 ae⟩
     rw [J]
     clear ae J M
     go_wp2
     go_ret2
     rw [HY.out.1]
     exact .inl ⟨T, rfl, by rw [HY.out.2.1]; rfl, HY.out.2.2⟩
    ·obtain ⟨d, rfl, hd⟩ := h4.full U
     have y := u.out.keep h5
     have ar : w3.cell? ⟨w1.heap.size, 1 + k, none⟩ = some P[k]! := by
      have := Qlo (n := k) y.cell (by rw [y.len16]; exact z) trivial
      rw [this, getElem!_pos P k (by rw [y.len16]; exact z)]
     have au : w3.frozen? ⟨w1.heap.size, 1 + k, none⟩ = false := Qlp (n := k) y.cell trivial
     have al := Hid.hide (y.more Z.out h4 (fun ns => by rw [F.out]; exact Qr6 aa.out M))
     clear U h4 h5 M y hd
     go_wp2
     go_roundg (16 - (k + 1))
     case measure => omega
     case rel => exact ⟨k + 1, _, _, S2, by omega, rfl, rfl, al.out⟩
  ·obtain rfl : k = 16 := by omega
   have i1 : ¬ ((16 : Nat) : Int) < 16 := by omega
   have I : R = .ok ns := by
    rw [j.eq, List.drop_eq_nil_of_le (by rw [List.length_take]; omega), rdKids]
    simp [thenK]
   have ag : (Nd.br ns).ok := by
    rw [Nd.ok]
    refine ⟨j.len, Qgr fun t ht => ?_⟩
    obtain ⟨i, hi, rfl⟩ := List.getElem_of_mem ht
    have hl := j.len
    have K := j.kids i (by rw [j.len16]; omega)
    rw [List.getD_eq_getElem?_getD, List.getElem?_eq_getElem hi] at K
    rcases K with ⟨e, _⟩ | ⟨_, b, _, hb⟩
    ·simp only [Option.getD_some] at e
     rw [e, Nd.ok]; trivial
    ·exact j.gr.2.forest.ok b _ hb
   have hG := j.gr.put (c := w1.heap.size) (Nat.le_of_lt Z.out) j.off HF.out.le (t := .br ns) (h := ⟨#[]⟩) (r := P) (heldOK.empty (by simp)) ⟨j.len16, fun i h1 h2 => by
    have := j.kids i h1
    rw [List.getD_eq_getElem?_getD, List.getElem?_eq_getElem h2] at this
    exact this⟩ ag j.cell
   have HG : Hid (R = .ok ns /\ Gr B S (S1.put w1.heap.size (.br ns)) w wr) := ⟨I, hG⟩
   clear j I ag hG K z
   go_wp2
   go_ret2
   rw [HG.out.1]
   exact .inr ⟨.br ns, _, _, rfl, rfl, by simp, .inr ⟨by simp, w1.heap.size, rfl, Wood.put_same _ _ _⟩, HG.out.2⟩
section
variable {B : Nat} {S : Wood} {w : World} (sent : Nat -> Addr) (fr en : Nat) (tx : ByteArray) (dep : Nat)
theorem Qkx (l : Bool) (p : Option Addr) (m c : Nat) (hF : Faults w sent) (h : l = true -> m ≠ 2 /\ m ≠ 17) :
  Calls Tryz.prog 96 #[.agg #[.int .i64 (fr : Int), .int .i64 (en : Int), .bool l, .string tx, .slice p m c], .int .i64 (dep : Int)] w (RdSaid sent B S w (.error (noN fr))) := by
 have d : Hid (∀ W, Below w.heap.size w W -> Calls Tryz.prog 112 #[.agg #[.int .i64 (fr : Int), .int .i64 (en : Int), .bool l, .string tx, .slice p m c]] W fun e s => e = .returned ((noN fr).val sent) /\ Below W.heap.size W s) := fun W r => Qec fr en l tx p m c sent W (hF.below r)
 obtain ⟨n, o, f⟩ := (noN fr).shape sent
 have j : Hid ((noN fr).val sent = .iface n o) := f
 rw [f] at d
 have b : Hid (Below w.heap.size w (w.alloc (.cells #[.int .i64 (fr : Int), .int .i64 (en : Int), .bool l, .string tx, .slice p m c] 225))) := (Below.refl _ _).alloc (Nat.le_refl _) _
 clear hF f
 cases l with
 | false =>
  clear h
  go_enter Tryz.func96, Tryz.ntmps96
  go_wp2_with (go_at_call 112; refine (d.out _ b.out).mono ?_; rintro e i ⟨rfl, a⟩; have g : Hid (Below w.heap.size w i) := Below.behind b.out a; clear a)
  go_ret2
  exact .inl ⟨_, rfl, by rw [j.out]; rfl, g.out⟩
 | true =>
  obtain ⟨q, k⟩ := h rfl
  have u : ((m : Int) == 2) = false := by simp; omega
  have t : ((m : Int) == 17) = false := by simp; omega
  clear h q k
  go_enter Tryz.func96, Tryz.ntmps96
  go_wp2_with (go_at_call 112; refine (d.out _ b.out).mono ?_; rintro e i ⟨rfl, a⟩; have g : Hid (Below w.heap.size w i) := Below.behind b.out a; clear a)
  go_ret2
  exact .inl ⟨_, rfl, by rw [j.out]; rfl, g.out⟩
theorem Qwz (g c : Nat) (q : Except Er Nd) (hf : Forest B S w) (hN : ∀ W, Below w.heap.size w W -> Calls Tryz.prog 110 #[.agg #[.int .i64 (fr : Int), .int .i64 (en : Int), .bool true, .string tx, .slice (some ⟨g, 0, none⟩) 2 c], .int .i64 (dep : Int)] W (RdSaid sent B S W q)) :
  Calls Tryz.prog 96 #[.agg #[.int .i64 (fr : Int), .int .i64 (en : Int), .bool true, .string tx, .slice (some ⟨g, 0, none⟩) 2 c], .int .i64 (dep : Int)] w (RdSaid sent B S w q) := by
 have o := Hid.hide hN
 have n := Hid.hide hf
 have b : Hid (Below w.heap.size w (w.alloc (.cells #[.int .i64 (fr : Int), .int .i64 (en : Int), .bool true, .string tx, .slice (some ⟨g, 0, none⟩) 2 c] 225))) := (Below.refl _ _).alloc (Nat.le_refl _) _
 clear hN hf
 go_enter Tryz.func96, Tryz.ntmps96
 go_wp2_with fail
 refine (o.out _ b.out).mono ?_
 rintro e m (⟨h, rfl, rfl, l⟩ | ⟨t, v, f, rfl, rfl, i, j, k⟩)
 ·obtain ⟨p, r, d⟩ := h.shape sent
  have a : Hid (h.val sent = .iface p r /\ Below w.heap.size w m) := ⟨d, Below.behind b.out l⟩
  rw [d]
  clear l d
  go_wp2
  go_ret2
  exact .inl ⟨h, rfl, by rw [a.out.1]; rfl, a.out.2⟩
 ·have a : Hid (t ≠ .no /\ ndV f v t /\ Gr B S f w m) := ⟨i, j, k.after n.out b.out⟩
  clear i j k
  go_wp2
  go_ret2
  exact .inr ⟨t, v, f, rfl, rfl, a.out.1, a.out.2.1, a.out.2.2⟩
theorem Qyu (g c : Nat) (q : Except Er Nd) (hf : Forest B S w) (hN : ∀ W, Below w.heap.size w W -> Calls Tryz.prog 111 #[.agg #[.int .i64 (fr : Int), .int .i64 (en : Int), .bool true, .string tx, .slice (some ⟨g, 0, none⟩) 17 c], .int .i64 (dep : Int)] W (RdSaid sent B S W q)) :
  Calls Tryz.prog 96 #[.agg #[.int .i64 (fr : Int), .int .i64 (en : Int), .bool true, .string tx, .slice (some ⟨g, 0, none⟩) 17 c], .int .i64 (dep : Int)] w (RdSaid sent B S w q) := by
 have o := Hid.hide hN
 have n := Hid.hide hf
 have b : Hid (Below w.heap.size w (w.alloc (.cells #[.int .i64 (fr : Int), .int .i64 (en : Int), .bool true, .string tx, .slice (some ⟨g, 0, none⟩) 17 c] 225))) := (Below.refl _ _).alloc (Nat.le_refl _) _
 clear hN hf
 go_enter Tryz.func96, Tryz.ntmps96
 go_wp2_with fail
 refine (o.out _ b.out).mono ?_
 rintro e m (⟨h, rfl, rfl, l⟩ | ⟨t, v, f, rfl, rfl, i, j, k⟩)
 ·obtain ⟨p, r, d⟩ := h.shape sent
  have a : Hid (h.val sent = .iface p r /\ Below w.heap.size w m) := ⟨d, Below.behind b.out l⟩
  rw [d]
  clear l d
  go_wp2
  go_ret2
  exact .inl ⟨h, rfl, by rw [a.out.1]; rfl, a.out.2⟩
 ·have a : Hid (t ≠ .no /\ ndV f v t /\ Gr B S f w m) := ⟨i, j, k.after n.out b.out⟩
  clear i j k
  go_wp2
  go_ret2
  exact .inr ⟨t, v, f, rfl, rfl, a.out.1, a.out.2.1, a.out.2.2⟩
end
variable {n : Nat} {F : Nat -> Prop} {e : El}
theorem Qbm (h : Tree encP kP n w F e x) : (e.lst = false /\ e.sub = .slice none 0 0 /\ x = .text e.fr e.to (bytesOf e.text)) \/ (e.lst = true /\ ∃ p c, ∃ l : List It, e.sub = .slice p l.length c /\ x = .list e.fr e.to l) := by
 cases n with
 | zero => exact .inl ⟨h.1.1, h.1.2, h.2⟩
 | succ n =>
  rcases h with h | ⟨h1, ps, h2, h3, h4, h5⟩
  ·exact .inl ⟨h.1.1, h.1.2, h.2⟩
  ·refine .inr ⟨h1, ?_⟩
   rcases h2 with ⟨e1, e2, _⟩ | ⟨g, cap, e1, _⟩
   ·exact ⟨none, 0, _, by rw [e1, List.length_map, e2], h5⟩
   ·exact ⟨_, cap, _, by rw [e1, List.length_map], h5⟩
theorem Qpp (h : Tree encP kP n w F e x) : e.emp = x.emp := by
 rcases Qbm h with ⟨h1, _, rfl⟩ | ⟨h1, _, _, l, _, rfl⟩
 ·simp [El.emp, It.emp, h1, bytesOf_length]
 ·simp [El.emp, It.emp, h1]
theorem Qx0 (h : Tree encP kP n w F e x) : e.ref = x.isRef := by
 rcases Qbm h with ⟨h1, _, rfl⟩ | ⟨h1, _, _, l, _, rfl⟩
 ·simp [El.ref, It.isRef, h1, bytesOf_length]
 ·simp [El.ref, It.isRef, h1]
variable {p : Option Addr} {m c : Nat}
theorem Qub (h : Tree encP kP n w F e x) (hs : e.sub = .slice p m c) : tail17 e.lst e.fr e.to m e.text = x.tail17 := by
 rcases Qbm h with ⟨h1, _, rfl⟩ | ⟨h1, _, _, l, h2, rfl⟩
 ·simp [tail17, It.tail17, h1, bytesOf_length]
 ·rw [h2] at hs
  simp only [Value.slice.injEq] at hs
  simp [tail17, It.tail17, h1, hs.2.1]
theorem Qc9 (s : ByteArray) : textB (bytesOf s) = s := Qbf (by rw [Qa7 (Qar s)])
theorem Qyv {n1 n2 : Nat} {e1 e2 : El} {a b : It} (ha : Tree encP kP n1 w F e1 a) (hb : Tree encP kP n2 w F e2 b) (hs : e2.sub = .slice p m c) (rd : It -> Nat -> Except Er Nd) (fr dep : Nat) : pathQ fr dep e1.lst e1.text e2.lst e2.fr e2.to m e2.text (fun d => rdRef rd b d) = rdPath rd fr a b dep := by
 have f := Qub hb hs
 unfold pathQ rdPath
 rcases Qbm ha with ⟨h1, _, rfl⟩ | ⟨h1, _, _, l, h2, rfl⟩
 ·rw [if_neg (by rw [h1]; simp)]
  simp only
  cases unpackF (bytesOf e1.text) with
  | none => rfl
  | some q =>
   obtain ⟨p, e⟩ := q
   simp only
   cases e with
   | false =>
    rw [if_neg (show ¬ (false = true) by simp), if_neg (show ¬ (false = true) by simp), f]
    unfold rdExt
    split
    ·rfl
    ·cases rdRef rd b (dep + p.length) <;> rfl
   | true =>
    rw [if_pos rfl, if_pos rfl]
    rcases Qbm hb with ⟨k1, _, rfl⟩ | ⟨k1, _, _, l, k2, rfl⟩
    ·rw [k1]
     simp [It.val?, It.bytes, bytesOf_length, Qc9]
    ·rw [k1]
     simp [It.val?]
 ·rw [if_pos h1]
variable {ps : List (El × It)}
theorem Qx1 (h : ∀ p ∈ ps, Tree encP kP n w F p.1 p.2) : forksE (ps.map (·.1)) = forks (ps.map (·.2)) := by
 have k : ∀ (l : List (El × It)), (∀ p ∈ l, Tree encP kP n w F p.1 p.2) -> (l.map (·.1)).all (fun x => x.ref || x.emp) = (l.map (·.2)).all (fun x => x.isRef || x.emp) /\ ((l.map (·.1)).filter El.ref).length = ((l.map (·.2)).filter It.isRef).length /\ (l.map (·.1)).all El.emp = (l.map (·.2)).all It.emp := by
  intro l
  induction l with
  | nil => intro _; simp
  | cons q l ih =>
   intro h
   obtain ⟨g, i, j⟩ := ih fun p a => h p (List.mem_cons_of_mem _ a)
   have b := Qpp (h q (List.mem_cons_self ..))
   have c := Qx0 (h q (List.mem_cons_self ..))
   refine ⟨by simp only [List.map_cons, List.all_cons, b, c, g], ?_, by simp only [List.map_cons, List.all_cons, b, j]⟩
   simp only [List.map_cons, List.filter_cons, c]
   split <;> simp [i]
 unfold forksE forks refCnt
 rw [<- List.map_take, <- List.map_take, <- List.map_drop, <- List.map_drop]
 obtain ⟨d, e, _⟩ := k (ps.take 16) fun p a => h p (List.mem_of_mem_take a)
 obtain ⟨_, _, f⟩ := k (ps.drop 16) fun p a => h p (List.mem_of_mem_drop a)
 rw [d, e, f]
theorem Quc {v : Value} (h : RowAt w F v ps.length (ps.flatMap fun p => encP p.1)) (hp : 0 < ps.length) (hT : ∀ p ∈ ps, Tree encP kP n w F p.1 p.2) : ∃ g cap, v = .slice (some ⟨g, 0, none⟩) ps.length cap /\ ps.length <= cap /\ Row5 w g (ps.map (·.1)) := by
 obtain ⟨g, cap, b, d, j, e, k, f⟩ := h.cells (size := 5) (fun _ => rfl) hp
 refine ⟨g, cap, b, d, e, fun i a => ?_⟩
 rw [List.length_map] at a
 simp only [List.getElem_map]
 refine ⟨f i a, ?_⟩
 rcases Qbm (hT _ (List.getElem_mem a)) with ⟨_, h, _⟩ | ⟨_, p, c, l, h, _⟩
 ·exact ⟨_, _, _, h⟩
 ·exact ⟨_, _, _, h⟩
theorem Qi4 (h : Tree encP kP n w F e x) {N : Nat} (hg : x.good N) : e.fr <= e.to /\ e.to <= N /\ (e.lst = false -> e.text.size <= N) := by
 rcases Qbm h with ⟨h1, _, rfl⟩ | ⟨h1, _, _, l, h2, rfl⟩
 ·rw [It.good] at hg
  refine ⟨hg.1, hg.2.1, fun _ => ?_⟩
  have := (Qb6 (bytesOf e.text)).2
  rw [bytesOf_length] at this
  omega
 ·rw [It.good] at hg
  exact ⟨hg.1, hg.2.1, fun a => by rw [h1] at a; cases a⟩
theorem Qeh (e : El) (h : e.sub = .slice p m c) : valP e = .agg #[.int .i64 (e.fr : Int), .int .i64 (e.to : Int), .bool e.lst, .string e.text, .slice p m c] := by
 unfold valP
 rw [h]
theorem Qpq (sent : Nat -> Addr) (B : Nat) : ∀ (n : Nat) (S : Wood) (w : World) (F : Nat -> Prop) (e : El) (x : It) (dep : Nat), Forest B S w -> Faults w sent -> Tree encP kP n w F e x -> x.good 2048 -> dep <= 64 -> Calls Tryz.prog 96 #[valP e, .int .i64 (dep : Int)] w (RdSaid sent B S w (rdF n x dep))
 | 0, S, w, F, e, x, dep, hf, hF, hT, hg, hd => by
  rcases Qbm hT with ⟨h1, h2, rfl⟩ | ⟨h1, p, c, l, h2, rfl⟩
  ·rw [Qeh e h2, h1]
   exact Qkx sent e.fr e.to e.text dep false none 0 0 hF (by simp)
  ·have := hT.1.1
   rw [h1] at this
   cases this
 | n + 1, S, w, F, e, x, dep, hf, hF, hT, hg, hd => by
  have ih := Qpq sent B n
  rcases hT with ⟨⟨h1, h2⟩, h3⟩ | ⟨h1, ps, hrow, hsub, h4, rfl⟩
  ·have h3' : x = .text e.fr e.to (bytesOf e.text) := h3
   subst h3'
   rw [Qeh e h2, h1, rdF]
   exact Qkx sent e.fr e.to e.text dep false none 0 0 hF (by simp)
  ·rw [rdF]
   rw [It.good] at hg
   obtain ⟨_, _, _, hgs⟩ := hg
   have hgi : ∀ q ∈ ps, q.2.good 2048 := fun q hq => goods_iff.1 hgs _ (List.mem_map_of_mem hq)
   have hRef : ∀ q ∈ ps, ∀ (p : Option Addr) (m c : Nat), q.1.sub = .slice p m c -> ∀ (S1 : Wood) (W : World) (d : Nat), Forest B S1 W -> Below w.heap.size w W -> d <= 64 -> q.1.ref = true -> Calls Tryz.prog 122 #[valP q.1, .int .i64 (d : Int)] W (RdSaid sent B S1 W (rdRef (rdF n) q.2 d)) := fun q hq p m c hs S1 W d hf1 hb1 hd1 hr1 => by
    have hTq := hsub q hq
    rcases Qbm hTq with ⟨k1, k2, k3⟩ | ⟨k1, p', c', l, k2, k3⟩
    ·rw [Qeh q.1 k2, k1, k3]
     rw [El.ref, if_neg (by rw [k1]; simp)] at hr1
     exact Qmr sent q.1.fr q.1.to q.1.text none 0 0 d hf1 (by simpa using hr1)
    ·have hI := fun W' (hW' : Below W.heap.size W W') => ih S1 W' F q.1 q.2 d (hf1.below hW') (hF.below (Below.behind hb1 hW')) (hTq.below (Below.behind hb1 hW')) (hgi q hq) hd1
     rw [Qeh q.1 k2, k1] at hI ⊢
     have e3 : rdRef (rdF n) q.2 d = rdF n q.2 d := by rw [k3]; rfl
     rw [e3]
     exact Qms sent q.1.fr q.1.to q.1.text p' l.length c' d hf1 _ hI
   by_cases h2 : ps.length = 2
   ·obtain ⟨g, cap, e1, e2, hr5⟩ := Quc hrow (by omega) hsub
    match ps, h2 with
    | [a, b], _ =>
     rw [Qeh e e1, h1]
     show Calls _ _ _ _ (RdSaid sent B S w (rdPath (rdF n) e.fr a.2 b.2 dep))
     refine Qwz sent e.fr e.to e.text dep g cap _ hf fun W hW => ?_
     have hrW := hr5.below hW
     obtain ⟨r1, p1, m1, c1, s1⟩ := hrW.2 0 (by simp)
     obtain ⟨r2, p2, m2, c2, s2⟩ := hrW.2 1 (by simp)
     have hTa := hsub a (by simp)
     have hTb := hsub b (by simp)
     have hga := Qi4 hTa (hgi a (by simp))
     have hgb := Qi4 hTb (hgi b (by simp))
     have s2' : b.1.sub = .slice p2 m2 c2 := s2
     have s1' : a.1.sub = .slice p1 m1 c1 := s1
     rw [<- Qyv hTa hTb s2' (rdF n) e.fr dep]
     have r1' : W.rangeAt g 0 [.int .i64 (a.1.fr : Int), .int .i64 (a.1.to : Int), .bool a.1.lst, .string a.1.text, .slice p1 m1 c1] := by
      have o : W.rangeAt g 0 (encP a.1) := r1
      unfold encP at o
      rw [s1'] at o
      exact o
     have v : W.rangeAt g 5 [.int .i64 (b.1.fr : Int), .int .i64 (b.1.to : Int), .bool b.1.lst, .string b.1.text, .slice p2 m2 c2] := by
      have r : W.rangeAt g 5 (encP b.1) := r2
      unfold encP at r
      rw [s2'] at r
      exact r
     by_cases k : a.1.lst = true
     ·have hq : ∀ q : Nat -> Except Er Nd, pathQ e.fr dep a.1.lst a.1.text b.1.lst b.1.fr b.1.to m2 b.1.text q = pathQ e.fr dep a.1.lst ⟨#[]⟩ b.1.lst b.1.fr b.1.to m2 b.1.text q := fun q => by unfold pathQ; rw [if_pos k, if_pos k]
      have C : a.1.text.size <= 2048 := by
       cases n with
       | zero => have := hTa.1.1; rw [k] at this; cases this
       | succ n =>
        rcases hTa with h | ⟨_, _, _, _, h, _⟩
        ·have := h.1.1; rw [k] at this; cases this
        ·rw [h, Qaa]; simp
      exact Qgb sent e.fr e.to e.text g cap a.1.fr a.1.to a.1.lst a.1.text p1 m1 c1 b.1.fr b.1.to b.1.lst b.1.text p2 m2 c2 dep (hf.below hW) (hF.below hW) hrW.1 r1' v C hd hgb.1 hgb.2.1 _ fun d W' y j hW' => by
       have := hRef b (by simp) p2 m2 c2 s2' S W' d (hf.below (Below.behind hW hW')) (Below.behind hW hW') (by omega) (by unfold tail17 at j; unfold El.ref; split at j <;> simp_all)
       rw [Qeh b.1 s2'] at this
       exact this
     ·exact Qgb sent e.fr e.to e.text g cap a.1.fr a.1.to a.1.lst a.1.text p1 m1 c1 b.1.fr b.1.to b.1.lst b.1.text p2 m2 c2 dep (hf.below hW) (hF.below hW) hrW.1 r1' v (hga.2.2 (by simpa using k)) hd hgb.1 hgb.2.1 _ fun d W' y j hW' => by
       have := hRef b (by simp) p2 m2 c2 s2' S W' d (hf.below (Below.behind hW hW')) (Below.behind hW hW') (by omega) (by unfold tail17 at j; unfold El.ref; split at j <;> simp_all)
       rw [Qeh b.1 s2'] at this
       exact this
   ·rw [Qkt (by rw [List.length_map]; exact h2), List.length_map]
    by_cases f : ps.length = 17
    ·rw [if_pos f]
     obtain ⟨g, cap, e1, e2, hr5⟩ := Quc hrow (by omega) hsub
     rw [f] at e1 e2
     rw [Qeh e e1, h1]
     have u : (ps.map (·.1)).length = 17 := by rw [List.length_map, f]
     have z : (ps.map (·.2)).length = 17 := by rw [List.length_map, f]
     have t : ∀ i (s : i < (ps.map (fun p : El × It => p.1)).length), (ps.map (fun p : El × It => p.1))[i].fr <= (ps.map (fun p : El × It => p.1))[i].to /\ (ps.map (fun p : El × It => p.1))[i].to <= 2048 := fun i s => by
      rw [List.length_map] at s
      simp only [List.getElem_map]
      have := Qi4 (hsub _ (List.getElem_mem s)) (hgi _ (List.getElem_mem s))
      exact ⟨this.1, this.2.1⟩
     refine Qyu sent e.fr e.to e.text dep g cap _ hf fun W hW => ?_
     unfold rdBr
     rw [<- Qx1 hsub]
     split
     ·rename_i h
      exact Qr7 sent e.fr e.to e.text g cap _ dep (hF.below hW) u e2 (hr5.below hW) t h
     ·rename_i h
      have D : dep < 64 := by
       rcases Nat.lt_or_ge dep 64 with e | e
       ·exact e
       ·exact absurd (.inl e) h
      have E : forksE (ps.map (·.1)) = true := by
       cases hv : forksE (ps.map (·.1)) with
       | true => rfl
       | false => exact absurd (.inr hv) h
      have := Qua sent e.fr e.to e.text g cap (ps.map (·.1)) (ps.map (·.2)) dep (rdF n) (hf.below hW) u e2 (hr5.below hW) t D E z (fun i k1 k2 => by
       rw [List.length_map] at k1
       simp only [List.getElem_map]
       exact Qpp (hsub _ (List.getElem_mem k1))) (fun i k1 k2 S1 W' _ hf1 hb1 hr1 => by
       rw [List.length_map] at k1
       simp only [List.getElem_map] at hr1 ⊢
       obtain ⟨_, p, m, c, hs⟩ := hr5.2 i (by rw [List.length_map]; exact k1)
       simp only [List.getElem_map] at hs
       exact hRef _ (List.getElem_mem k1) p m c hs S1 W' (dep + 1) hf1 (Below.behind hW hb1) (by omega) hr1)
      cases hk : rdKids (rdF n) (dep + 1) ((ps.map (·.2)).take 16) with
      | error er => rw [hk] at this; exact this
      | ok ns => rw [hk] at this; exact this
    ·rw [if_neg f]
     rcases hrow with ⟨k1, k2, _⟩ | ⟨g, cap, k1, _⟩
     ·rw [Qeh e k1, h1]
      exact Qkx sent e.fr e.to e.text dep true none 0 0 hF (by simp)
     ·rw [Qeh e k1, h1]
      exact Qkx sent e.fr e.to e.text dep true _ ps.length cap hF (fun _ => ⟨h2, f⟩)
end Go.Proofs.YthbgepmpdphigaaGreatDoor
