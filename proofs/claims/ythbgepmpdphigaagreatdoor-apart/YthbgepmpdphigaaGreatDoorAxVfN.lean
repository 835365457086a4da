/-
  Verify whole.
-/
import Derived.Test.YthbgepmpdphigaaGreatDoorAxVeC
namespace Go.Proofs.YthbgepmpdphigaaGreatDoor
open Go.RowKit
set_option maxRecDepth 100000
set_option maxHeartbeats 25600000
variable {h : List Nat}
theorem Qmy (hh : h.length = 32) : (Tryz.prog.info? 31).map (·.size) = some (h.map encB).length := by rw [List.length_map, hh]; kernel_rfl
variable {w : World}
theorem Qeq {g : Nat} {cs : Array Value} {t : TypeId} {n : Nat} (h : w.heap[g]? = some (.cells cs t (0, 0))) (hn : cs.size = n) : w.there g 0 n := by
 intro j a
 refine ⟨?_, ?_⟩
 ·simp only [World.cell?, h, Nat.zero_add]
  rw [Array.getElem?_eq_getElem (by omega)]
  rfl
 ·simp [World.frozen?, h]
theorem Qr8 {B : Nat} {b : Nat} {P : ByteArray} (hs : StubAt h B w b) (hh : h.length = 32) (hhb : ∀ x ∈ h, x < 256) (hn : nib (bytesOf P)) (hP : P.size = 64) (hB : B <= w.heap.size) :
  Calls Tryz.prog 53 #[.iface 138 (.pointer (some ⟨b, 0, none⟩)), .string P] w fun x w' => Below w.heap.size w w' /\ ∃ thr, x = .returned (.agg #[thr, .iface 138 (.pointer (some ⟨b, 0, none⟩)), .string P]) /\ StubAt h B w' b /\ OwnC w' B 2 thr 0 [] /\ thr.ownBlock ≠ some b /\ ∀ k, thr.ownBlock = some k -> w.heap.size <= k := by
 have o : Forest B (Wood.put (fun _ => none) b (.stub h)) w := by
  refine ⟨fun k t a => ?_, fun k t a => ?_, fun k t a => ?_, hB⟩
  all_goals
   by_cases e : k = b
   ·subst e
    rw [Wood.put_same] at a
    obtain rfl := Option.some.inj a
    first | exact ⟨_, [], .inl rfl, rfl, hs.2⟩ | (rw [Nd.ok]; exact ⟨hh, hhb⟩) | exact hs.1
   ·rw [Wood.put_other _ _ _ e] at a; cases a
 have p : ndV (Wood.put (fun _ => none) b (.stub h)) (.iface 138 (.pointer (some ⟨b, 0, none⟩))) (.stub h) := .inr ⟨by simp, b, rfl, Wood.put_same _ _ _⟩
 refine (Qix o p (by rw [Nd.fits]; trivial) hn (by omega) (.stop rfl)).mono ?_
 rintro e w' ⟨g, thr, r, rfl, ⟨l, d, n⟩, j⟩
 obtain ⟨f, rfl, c⟩ := j.full (by simp)
 have m : f = b := by
  by_cases e : f = b
  ·exact e
  ·rw [Wood.put_other _ _ _ e] at c; cases c
 subst m
 have i : l = [] := n
 subst i
 have q := hs.lt
 refine ⟨g, thr, rfl, hs.below g, d.mono hB, fun e => by have := (d.block _ e).1; omega, fun k a => (d.block k a).1⟩
theorem Qr9 (sent : Nat -> Addr) (h : List Nat) (K : Array Nat) (l : List ByteArray) (p : Option Addr) (c : Nat) (hE : Env w.heap.size sent w) (hh : h.length = 32) (hhb : ∀ x ∈ h, x < 256) (hK : K.size = 32) (hKb : Bytes K) (hr : StrRow w p l c) (hl : l.length <= 9223372036854775807) :
  Calls Tryz.prog 35 #[.agg (h.map encB).toArray, .agg (K.toList.map encB).toArray, .slice p l.length c] w fun e w' => Below w.heap.size w w' /\ VerSaid sent (verF h (textB (nibs K.toList)) (l.map bytesOf)) e := by
 obtain ⟨A, hA⟩ : ∃ A, (h.map encB).toArray = A := ⟨_, rfl⟩
 obtain ⟨Kc, bx⟩ : ∃ Kc, (K.toList.map encB).toArray = Kc := ⟨_, rfl⟩
 obtain ⟨W0, Z⟩ : ∃ W0, (w.alloc (.cells A 31)).alloc (.cells Kc 45) = W0 := ⟨_, rfl⟩
 have ag : W0.rangeAt w.heap.size 0 (h.map encB) := fun j u hu => by
  rw [<- Z, World.cell?_alloc_past _ _ _ (by simp), Nat.zero_add, World.cell?_alloc_new, <- hA]
  simpa using hu
 have bg : W0.rangeAt (w.heap.size + 1) 0 (K.toList.map encB) := fun j u hu => by
  rw [<- Z, show w.heap.size + 1 = (w.alloc (.cells A 31)).heap.size by simp, Nat.zero_add, World.cell?_alloc_new, <- bx]
  simpa using hu
 have au : Below w.heap.size w W0 := by rw [<- Z]; exact ((Below.refl _ _).alloc (Nat.le_refl _) _).alloc (by simp) _
 have bi : W0.heap.size = w.heap.size + 2 := by rw [<- Z]; simp
 obtain ⟨P, hP⟩ : ∃ P, textB (nibs K.toList) = P := ⟨_, rfl⟩
 obtain ⟨cq, dz, ay⟩ := Qdb hK hKb
 rw [hP] at cq ay ⊢
 obtain ⟨E, Y⟩ : ∃ E, digB (textCode []) = E := ⟨_, rfl⟩
 obtain ⟨R, hR⟩ : ∃ R, verF h P (l.map bytesOf) = R := ⟨_, rfl⟩
 have ar : R = if l = [] /\ h = E then .ok none else verL (l.map bytesOf) h P 0 := by
  rw [<- hR, verF, Y]
  simp
 rw [hR]
 have s : Hid (Env w.heap.size sent w /\ h.length = 32 /\ (∀ x ∈ h, x < 256) /\ K.size = 32 /\ Bytes K /\ StrRow w p l c /\ l.length <= 9223372036854775807 /\ Below w.heap.size w W0 /\ W0.heap.size = w.heap.size + 2 /\ P.size = 64 /\ nib (bytesOf P) /\ textB (nibs K.toList) = P /\ digB (textCode []) = E) := ⟨hE, hh, hhb, hK, hKb, hr, hl, au, bi, ay, by rw [cq]; exact dz, hP, Y⟩
 have HR := Hid.hide ar
 have hz := Qmy hh
 have cw := Tryz.underlying31
 clear hE hh hhb hK hKb hr hl au bi hP cq dz ay hR ar Y
 rw [hA, bx]
 clear hA bx
 go_enter Tryz.func35, Tryz.ntmps35
 go_upto_region 1 with fail
 clear Z
 go_cut [22] (fun v wc => ∃ b, v = .bool b /\ (b = true ↔ (l = [] /\ h = E)) /\ Below W0.heap.size W0 wc)
 case first =>
  by_cases ak : l = []
  ·have hm : ((l.length : Int) == 0) = true := by rw [ak]; rfl
   obtain ⟨hE, hh, hhb, hK, hKb, hr, hl, au, bi, ay, fe, hP, Y⟩ := s.out
   have dq : E.length = 32 := by rw [<- Y]; exact Qan _
   have dp : ∀ x ∈ E, x < 256 := by rw [<- Y]; exact Qdl _
   have ej := fun W => Qky h E hh dq hhb dp W
   have dj : Below W0.heap.size W0 W0.drew := (Below.refl _ _).drew
   obtain ⟨ec, ce⟩ : ∃ ec, textB (textCode []) = ec := ⟨_, rfl⟩
   have eu : Hid (∀ W, Calls Tryz.prog 40 #[] W fun e w' => e = .returned (.string ec) /\ Below W.heap.size W w') := fun W => by
    have := Qgy W
    rw [ce] at this
    exact this
   have ez : Hid (∀ W, Below W0.heap.size W0 W -> Calls Tryz.prog 37 #[.string ec] W fun e w' => e = .returned (.agg (E.map encB).toArray) /\ Below W.heap.size W w') := fun W L => by
    have h1 := Below.behind au L
    have := Qif ec W (hE.tabs.up hE.low h1) (Nat.le_trans hE.low h1.size)
    rw [show (digF ec).toList = E by rw [<- Y, digB, ce]] at this
    exact this
   have bo : Hid (w.heap.size < W0.heap.size /\ Below W0.heap.size W0 W0.drew) := ⟨by omega, dj⟩
   obtain ⟨bb, c9⟩ : ∃ bb, decide (h = E) = bb := ⟨_, rfl⟩
   rw [c9] at ej
   have d7 : Hid (l = [] /\ decide (h = E) = bb) := ⟨ak, c9⟩
   clear hE hh hhb hK hKb hr hl au bi ay fe hP Y dq dp ak ce dj c9
   go_region_held3 (fun w' => w'.rangeAt w.heap.size 0 (h.map encB)) (first | exact ag | exact k1 | exact k2)
    (first | (go_at_call 40; refine (eu.out _).mono ?_; rintro x w1 ⟨rfl, bz⟩; have k1 : w1.rangeAt w.heap.size 0 (h.map encB) := Qa3 ag (bz.block w.heap.size bo.out.1); have bl : Hid (Below W0.heap.size W0 w1) := bo.out.2.trans bz; clear bz) | (go_at_call 37; refine (ez.out _ bl.out).mono ?_; rintro x w2 ⟨rfl, m⟩; have dc : Hid (Below W0.heap.size W0 w2) := bl.out.trans (m.mono bl.out.size); have k2 : w2.rangeAt w.heap.size 0 (h.map encB) := Qa3 ag (dc.out.block w.heap.size bo.out.1); clear m))
   all_goals (try go_wp2)
   all_goals go_meet
   all_goals exact ⟨bb, rfl, by rw [<- d7.out.2]; simp [d7.out.1], dc.out⟩
  ·have hm : ((l.length : Int) == 0) = false := by
    have : l.length ≠ 0 := fun e => ak (List.eq_nil_of_length_eq_zero e)
    simp
    omega
   have HL := Hid.hide ak
   clear ak
   go_region
   all_goals (try go_wp2)
   all_goals go_meet
   all_goals exact ⟨false, rfl, by simp [HL.out], (Below.refl _ _).drew⟩
 case rest =>
  obtain ⟨b, rfl, J, bc⟩ := hcut
  cases b with
  | true =>
   have D : Hid (R = .ok none /\ Below w.heap.size w wc) := ⟨by rw [HR.out, if_pos (J.1 rfl)], s.out.2.2.2.2.2.2.2.1.behind' bc⟩
   clear J bc
   go_wp2
   go_ret3
   rw [D.out.1]
   exact ⟨D.out.2, .inr ⟨none, rfl, rfl⟩⟩
  | false =>
   have ar : R = verL (l.map bytesOf) h P 0 := by rw [HR.out, if_neg (fun e => by have := J.2 e; cases this)]
   have dg := Hid.hide ar
   have ap := Hid.hide bc
   clear J ar bc
   go_upto_region 3 with fail
   go_cut [9] (fun v wd => ∃ g, v = .pointer (some ⟨g, 0, none⟩) /\ WayS w.heap.size wd g (.stub h) P /\ Below w.heap.size w wd)
   case first =>
    refine wp_region_any (by kernel_rfl) ?_
    change wpAny _ _ _ _ _ _ _ (World.drew _)
    have cu : w.heap.size + 2 <= wc.heap.size := by have := s.out.2.2.2.2.2.2.2.2.1; have := ap.out.size; omega
    have dh : Hid (∀ W, Below wc.heap.size wc W -> W.rangeAt w.heap.size 0 (h.map encB) /\ W.rangeAt (w.heap.size + 1) 0 (K.toList.map encB)) := fun W L => ⟨fun j u hu => (World.cell?_of_block (L.block w.heap.size (by omega))).trans ((World.cell?_of_block (ap.out.block w.heap.size (by have := s.out.2.2.2.2.2.2.2.2.1; omega))).trans (ag j u hu)), fun j u hu => (World.cell?_of_block (L.block (w.heap.size + 1) (by omega))).trans ((World.cell?_of_block (ap.out.block (w.heap.size + 1) (by have := s.out.2.2.2.2.2.2.2.2.1; omega))).trans (bg j u hu))⟩
    refine Qat _ (Beg wc.heap.size wc (.agg (h.map encB).toArray) (.agg (K.toList.map encB).toArray) h P) (by kernel_rfl) (by kernel_rfl) ?_ _ (fun _ => undef) ?_ ?_
    ·intro i o X I aa b W n B d f
     have hi : i < 8 := (Array.getElem?_eq_some_iff.1 X).1
     have U := f.below.size
     match i, hi with
     | 0, _ =>
      obtain rfl := Option.some.inj X
      have t3 : b.tmps[3]? = some (.pointer (some ⟨w.heap.size, 0, none⟩)) := (n.rest 3 (fun i _ => Qa5 (by kernel_rfl) i)).trans rfl
      refine wp_load_mid 31 (.tmp 3) rfl w.heap.size 0 (by simp only [Act.eval, Array.getD_eq_getD_getElem?, t3, Option.getD_some]) (h.map encB) _ (dh.out W f.below).1 cw rfl hz ?_
      exact ⟨_, rfl, f.step 0 _ (by decide) B (Below.refl _ _) U (fun _ => rfl) (by simp) (by simp) (by simp) (by simp) (by simp)⟩
     | 1, _ =>
      obtain rfl := Option.some.inj X
      have fh : b.tmps[23]? = some (.agg (h.map encB).toArray) := (n.done 0 23 (d ⟨0, .data⟩ (by simp) rfl) rfl (by simp)).trans (congrArg some (f.o0 (d ⟨0, .data⟩ (by simp) rfl)))
      have C := Qgi h s.out.2.1 s.out.2.2.1 W
      have cf := f.o6
      obtain ⟨G, hG⟩ : ∃ G : Value -> World -> Prop, ∀ x w', G x w' ↔ Beg wc.heap.size wc (.agg (h.map encB).toArray) (.agg (K.toList.map encB).toArray) h P (upd (fun k => I.getD k false) 1) (upv aa 1 x) w' := ⟨fun x w' => Beg wc.heap.size wc (.agg (h.map encB).toArray) (.agg (K.toList.map encB).toArray) h P (upd (fun k => I.getD k false) 1) (upv aa 1 x) w', fun _ _ => Iff.rfl⟩
      refine Oper.wp_mono (K := fun Q w' => ∃ v, Q = b.put (some 24) v /\ G v w') (by rintro Q w' ⟨v, rfl, hv⟩; exact ⟨v, rfl, (hG v w').1 hv⟩) ?_
      have HG := Hid.hide hG
      have HI := Hid.hide f
      have HN := Hid.hide B
      have HC := Hid.hide C
      clear hG X d n f C B
      go_simp
      go_at_call 54
      refine HC.out.mono ?_
      rintro e w9 ⟨bb, rfl, fd, aw, cz⟩
      refine ⟨_, rfl, (HG.out _ _).2 (HI.out.step 1 _ (by decide) HN.out aw U (by simp) (fun _ => ⟨bb, rfl, ⟨Nat.le_trans U fd, cz⟩, fun q => ?_⟩) (by simp) (by simp) (by simp) (by simp))⟩
      obtain ⟨g, O, _, e3, _⟩ := cf q
      rw [O]
      exact Qjj (by omega)
     | 2, _ =>
      obtain rfl := Option.some.inj X
      obtain ⟨bb, O, e2, e3⟩ := f.o1 (d ⟨1, .data⟩ (by simp) rfl)
      have fi : b.tmps[24]? = some (.pointer (some ⟨bb, 0, none⟩)) := (n.done 1 24 (d ⟨1, .data⟩ (by simp) rfl) rfl (by simp)).trans (congrArg some O)
      have D := Hid.hide (f.step 2 (.iface 138 (.pointer (some ⟨bb, 0, none⟩))) (by decide) B (Below.refl _ _) U (by simp) (by simp) (fun _ => ⟨bb, rfl, e2, e3⟩) (by simp) (by simp) (by simp))
      refine Oper.wp_mono (K := fun Q w' => Q = b.put (some 25) (.iface 138 (.pointer (some ⟨bb, 0, none⟩))) /\ w' = W) (by rintro Q w' ⟨rfl, rfl⟩; exact ⟨_, rfl, D.out⟩) ?_
      clear X d n f O e2 e3 B D
      go_simp
     | 3, _ =>
      obtain rfl := Option.some.inj X
      have t4 : b.tmps[4]? = some (.pointer (some ⟨w.heap.size + 1, 0, none⟩)) := (n.rest 4 (fun i _ => Qa5 (by kernel_rfl) i)).trans rfl
      refine wp_load_mid 45 (.tmp 4) rfl (w.heap.size + 1) 0 (by simp only [Act.eval, Array.getD_eq_getD_getElem?, t4, Option.getD_some]) (K.toList.map encB) _ (dh.out W f.below).2 Tryz.underlying45 rfl (by rw [Qbc]; simp [s.out.2.2.2.1]) ?_
      exact ⟨_, rfl, f.step 3 _ (by decide) B (Below.refl _ _) U (by simp) (by simp) (by simp) (fun _ => rfl) (by simp) (by simp)⟩
     | 4, _ =>
      obtain rfl := Option.some.inj X
      have fk : b.tmps[26]? = some (.agg (K.toList.map encB).toArray) := (n.done 3 26 (d ⟨3, .data⟩ (by simp) rfl) rfl (by simp)).trans (congrArg some (f.o3 (d ⟨3, .data⟩ (by simp) rfl)))
      have C := Qlt K W s.out.2.2.2.1 s.out.2.2.2.2.1
      rw [s.out.2.2.2.2.2.2.2.2.2.2.2.1] at C
      obtain ⟨G, hG⟩ : ∃ G : Value -> World -> Prop, ∀ x w', G x w' ↔ Beg wc.heap.size wc (.agg (h.map encB).toArray) (.agg (K.toList.map encB).toArray) h P (upd (fun k => I.getD k false) 4) (upv aa 4 x) w' := ⟨fun x w' => Beg wc.heap.size wc (.agg (h.map encB).toArray) (.agg (K.toList.map encB).toArray) h P (upd (fun k => I.getD k false) 4) (upv aa 4 x) w', fun _ _ => Iff.rfl⟩
      refine Oper.wp_mono (K := fun Q w' => ∃ v, Q = b.put (some 27) v /\ G v w') (by rintro Q w' ⟨v, rfl, hv⟩; exact ⟨v, rfl, (hG v w').1 hv⟩) ?_
      have HG := Hid.hide hG
      have HI := Hid.hide f
      have HN := Hid.hide B
      have HC := Hid.hide C
      clear hG X d n f C B
      go_simp
      go_at_call 55
      refine HC.out.mono ?_
      rintro e w9 ⟨rfl, aw⟩
      exact ⟨_, rfl, (HG.out _ _).2 (HI.out.step 4 _ (by decide) HN.out aw U (by simp) (by simp) (by simp) (by simp) (fun _ => rfl) (by simp))⟩
     | 5, _ =>
      obtain rfl := Option.some.inj X
      obtain ⟨bb, O, e2, e3⟩ := f.o2 (d ⟨2, .data⟩ (by simp) rfl)
      have fj : b.tmps[25]? = some (.iface 138 (.pointer (some ⟨bb, 0, none⟩))) := (n.done 2 25 (d ⟨2, .data⟩ (by simp) rfl) rfl (by simp)).trans (congrArg some O)
      have fl : b.tmps[27]? = some (.string P) := (n.done 4 27 (d ⟨4, .data⟩ (by simp) rfl) rfl (by simp)).trans (congrArg some (f.o4 (d ⟨4, .data⟩ (by simp) rfl)))
      have C := Qr8 e2 s.out.2.1 s.out.2.2.1 s.out.2.2.2.2.2.2.2.2.2.2.1 s.out.2.2.2.2.2.2.2.2.2.1 U
      have cf := f.o6
      obtain ⟨G, hG⟩ : ∃ G : Value -> World -> Prop, ∀ x w', G x w' ↔ Beg wc.heap.size wc (.agg (h.map encB).toArray) (.agg (K.toList.map encB).toArray) h P (upd (fun k => I.getD k false) 5) (upv aa 5 x) w' := ⟨fun x w' => Beg wc.heap.size wc (.agg (h.map encB).toArray) (.agg (K.toList.map encB).toArray) h P (upd (fun k => I.getD k false) 5) (upv aa 5 x) w', fun _ _ => Iff.rfl⟩
      refine Oper.wp_mono (K := fun Q w' => ∃ v, Q = b.put (some 28) v /\ G v w') (by rintro Q w' ⟨v, rfl, hv⟩; exact ⟨v, rfl, (hG v w').1 hv⟩) ?_
      have HG := Hid.hide hG
      have HI := Hid.hide f
      have HN := Hid.hide B
      have HC := Hid.hide C
      have eo := Hid.hide e3
      clear hG X d n f C B O e2 e3
      go_simp
      go_at_call 53
      refine HC.out.mono ?_
      rintro e w9 ⟨aw, al, rfl, k1, k2, k3, k4⟩
      refine ⟨_, rfl, (HG.out _ _).2 (HI.out.step 5 _ (by decide) HN.out aw U (by simp) (by simp) (by simp) (by simp) (by simp) (fun _ => ⟨bb, al, rfl, k1, k2, k3, eo.out, fun q k hk => ?_⟩))⟩
      obtain ⟨g, O, _, e3, _⟩ := cf q
      rw [O]
      exact Qjj (by have := k4 k hk; omega)
     | 6, _ =>
      obtain rfl := Option.some.inj X
      have D := Hid.hide (f.made B U)
      refine Oper.wp_mono (K := fun Q w' => Q = b.put (some 9) (.pointer (some ⟨W.heap.size, 0, none⟩)) /\ w' = W.alloc (.cells #[.slice none 0 0, .nilIface, .string ⟨#[]⟩] 125)) (by rintro Q w' ⟨rfl, rfl⟩; exact ⟨_, rfl, D.out⟩) ?_
      clear X d n f B D
      go_simp
     | 7, _ =>
      obtain rfl := Option.some.inj X
      have d5 := d ⟨5, .data⟩ (by simp) rfl
      have d6 := d ⟨6, .data⟩ (by simp) rfl
      obtain ⟨bb, al, O, e2, e3, e4, e5⟩ := f.o5 d5
      obtain ⟨g, q1, q2, q3, q4, _⟩ := f.o6 d6
      have t9 : b.tmps[9]? = some (.pointer (some ⟨g, 0, none⟩)) := (n.done 6 9 d6 rfl (by simp)).trans (congrArg some q1)
      have fg : b.tmps[28]? = some (.agg #[al, .iface 138 (.pointer (some ⟨bb, 0, none⟩)), .string P]) := (n.done 5 28 d5 rfl (by simp)).trans (congrArg some O)
      obtain ⟨pv, mv, cv, rfl⟩ := e3.shape
      refine wp_store_mid 125 (.tmp 9) (.tmp 28) rfl g 0 #[.slice pv mv cv, .iface 138 (.pointer (some ⟨bb, 0, none⟩)), .string P] (by simp only [Act.eval, Array.getD_eq_getD_getElem?, t9, Option.getD_some]) (by simp only [Act.eval, Array.getD_eq_getD_getElem?, fg, Option.getD_some]) (Qeq (q4 B) rfl) Qaz (Qh0 (S := Wood.put (fun _ => none) bb (.stub h)) (t := .stub h) (.inr ⟨by simp, bb, rfl, Wood.put_same _ _ _⟩) pv mv cv P) ?_
      exact ⟨_, rfl, f.wrote d5 d6 _ q1 O rfl rfl rfl rfl⟩
    ·exact ⟨(Below.refl _ _).drew, by simp, by simp, by simp, by simp, by simp, by simp, by simp, by simp⟩
    ·intro aa W f
     obtain ⟨g, q1, q2, q3, _, q5⟩ := f.o6 rfl
     obtain ⟨bb, al, O, e2, e3, e4, e5, e6⟩ := f.o5 rfl
     obtain ⟨x, y, z, r1, r2⟩ := q5 rfl
     have HW : Hid (∃ g, aa 6 = .pointer (some ⟨g, 0, none⟩) /\ WayS w.heap.size W g (.stub h) P /\ Below w.heap.size w W) := by
      rw [O] at r1
      simp only [Value.agg.injEq] at r1
      obtain ⟨rfl, rfl, rfl⟩ : x = al /\ y = .iface 138 (.pointer (some ⟨bb, 0, none⟩)) /\ z = .string P := by simpa using r1.symm
      have ab : Below w.heap.size w W := (s.out.2.2.2.2.2.2.2.1.behind' ap.out).behind' f.below
      have cu : w.heap.size <= wc.heap.size := by omega
      refine ⟨g, q1, ⟨Wood.put (fun _ => none) bb (.stub h), [], _, _, [], ?_, ⟨r2, by omega, .inr ⟨by simp, bb, rfl, Wood.put_same _ _ _⟩, e3.mono cu, fun e => e6 rfl g e q1, rfl⟩, ?_, fun k hk => ?_, by have := s.out.2.2.2.2.2.2.2.2.2.1; simp; omega, by rw [Nd.fits]; trivial, s.out.2.2.2.2.2.2.2.2.2.2.1⟩, ab⟩
      ·refine ⟨fun k t hk => ?_, fun k t hk => ?_, fun k t hk => ?_, ab.size⟩
       all_goals
        by_cases e : k = bb
        ·subst e
         rw [Wood.put_same] at hk
         obtain rfl := Option.some.inj hk
         first | exact ⟨_, [], .inl rfl, rfl, e2.2⟩ | (rw [Nd.ok]; exact ⟨s.out.2.1, s.out.2.2.1⟩) | exact Nat.le_trans cu e2.1
        ·rw [Wood.put_other _ _ _ e] at hk; cases hk
      ·rw [Wood.put_other _ _ _ (fun e => e5 rfl (by rw [q1, e]))]
      ·rw [Wood.put_other _ _ _ (fun e => e4 (by rw [hk, e]))]
     clear f q1 q2 q3 q5 O e2 e3 e4 e5 e6 r1 r2
     simp only [runFrom, Act.put]
     (try go_wp2)
     go_meet
     exact HW.out
   case rest =>
    obtain ⟨g, rfl, Z, dn⟩ := hcut
    have az : R = verT ((l.drop 0).map bytesOf) (.stub h) P 0 := by rw [dg.out]; rfl
    have A0 : Aside (WayS w.heap.size wc g (.stub h) P /\ Below w.heap.size w wc /\ R = verT ((l.drop 0).map bytesOf) (.stub h) P 0) := ⟨Z, dn, az⟩
    clear Z dn az ag bg hz cw ap HR dg
    go_wp2_with fail
    go_loopg [10] l.length (fun gh i wr => ∃ k t r, k <= l.length /\ gh = l.length - k /\ i = .int .i64 (k : Int) /\ WayS w.heap.size wr g t r /\ Below w.heap.size w wr /\ R = verT ((l.drop k).map bytesOf) t r k)
    case atStart => exact ⟨0, _, _, Nat.zero_le _, rfl, rfl, A0.out⟩
    case round =>
     obtain ⟨k, t, r, hk, rfl, rfl, f9, aj, M⟩ := hrel
     clear A0
     obtain ⟨S, lw, al, v, cs, hf, L, ab, bk, bf, am, hn⟩ := f9
     obtain ⟨pv, mv, cv, rfl⟩ := L.own.shape
     have ae := Qls L.blk
     have bv := s.out.1.below aj
     by_cases bj : ∃ g', t = .stub g'
     ·obtain ⟨h', rfl⟩ := bj
      obtain ⟨dd, rfl, fa⟩ := L.node.full (by simp)
      have N := Hid.hide (fun W => Qx4 (w := W) h' r pv mv cv dd)
      have ai : Hid (∀ W, Below wr.heap.size wr W -> WayS w.heap.size W g (.stub h') r /\ Below w.heap.size w W) := fun W J => by
       obtain ⟨q1, q2, q3⟩ := L.grow (Fr.of_below hf J) ab bk
       exact ⟨⟨S, lw, _, _, cs, hf.below J, q1, q2, q3, bf, am, hn⟩, aj.behind' J⟩
      have bn : Hid (R = verL ((l.drop k).map bytesOf) h' r k) := M
      obtain ⟨T, hT⟩ : ∃ T, ndTy (.stub h') = T := ⟨_, rfl⟩
      rw [hT] at ae N
      have ch := s.out.2.2.2.2.2.2.1
      have eh : k < l.length -> wrap64 ((k : Int) + 1) = ((k + 1 : Nat) : Int) := fun _ => by unfold wrap64; omega
      have ei := Hid.hide eh
      clear hf L ab bk bf am hn bv M fa hT eh
      by_cases V : k < l.length
      ·have dt : (k : Int) <= (l.length : Int) := by omega
       have ba : Hid (∃ gp o, p = some ⟨gp, o, none⟩ /\ (l.length : Int) <= (c : Int) /\ ∀ W, Below wr.heap.size wr W -> Calls Tryz.prog 57 #[.pointer (some ⟨g, 0, none⟩), .slice (some ⟨gp, o + k, none⟩) (l.length - k) (c - k)] W (OpSaid sent w.heap.size g W (shF (bytesOf l[k]) h' (64 - r.size)) r)) := by
        rcases s.out.2.2.2.2.2.1 with ⟨_, e, _⟩ | ⟨gp, o, rfl, hc, hg, hro⟩
        ·rw [e] at V; cases V
        ·refine ⟨gp, o, rfl, by omega, fun W J => ?_⟩
         obtain ⟨q1, q2⟩ := ai.out W J
         exact Que (s.out.1.below q2) q1 (hg (by omega)) ((q2.cell (p := ⟨gp, o + k, none⟩) (hg (by omega))).trans (hro k _ (by rw [List.getElem?_map, List.getElem?_eq_getElem V]; rfl))) (by omega)
       obtain ⟨gp, o, rfl, fc, dw⟩ := ba.out
       have ah := Hid.hide dw
       have bm : Hid (k < l.length /\ l.length <= 9223372036854775807 /\ (l.drop k).map bytesOf = bytesOf l[k] :: (l.drop (k + 1)).map bytesOf) := ⟨V, ch, by rw [List.drop_eq_getElem_cons V]; rfl⟩
       obtain ⟨q, hq⟩ : ∃ q, shF (bytesOf l[k]) h' (64 - r.size) = q := ⟨_, rfl⟩
       rw [hq] at ah
       have HQ := Hid.hide hq
       clear dw ba ch hq
       go_wp2_with (first | (refine wpList_load_mid rfl 125 _ rfl g 0 rfl _ _ ae Tryz.underlying125 rfl Qaz ?_) | (go_at_call 56; refine (N.out _).mono ?_; rintro x w2 ⟨rfl, m⟩; have F := Hid.hide m; clear m))
       refine (ah.out _ F.out).mono ?_
       rintro x w3 ⟨H, (⟨er, rfl, rfl⟩ | ⟨t', rfl, rfl, dr⟩)⟩
       ·obtain ⟨et, ev, ac⟩ := er.shape sent
        have D : Hid (R = .error (.inNode k er) /\ er.val sent = .iface et ev /\ Below w.heap.size w w3) := ⟨by rw [bn.out, bm.out.2.2]; exact Qx3 _ _ _ _ _ HQ.out, ac, (ai.out _ F.out).2.trans H⟩
        rw [ac]
        clear H ac
        go_wp2
        go_ret3
        rw [D.out.1]
        exact ⟨D.out.2.2, .inl ⟨_, rfl, by rw [Er.val, D.out.2.1]; rfl⟩⟩
       ·have D : Hid (R = verT ((l.drop (k + 1)).map bytesOf) (t'.walk 64 r).1 (t'.walk 64 r).2 (k + 1) /\ WayS w.heap.size w3 g (t'.walk 64 r).1 (t'.walk 64 r).2 /\ Below w.heap.size w w3) := ⟨by rw [bn.out, bm.out.2.2]; exact Qmx _ _ _ _ _ HQ.out, dr, (ai.out _ F.out).2.trans H⟩
        clear H dr
        go_wp2
        go_roundg (l.length - (k + 1))
        case measure => omega
        case rel => exact ⟨k + 1, _, _, by omega, rfl, by first | rfl | rw [ei.out bm.out.1], D.out.2.1, D.out.2.2, D.out.1⟩
      ·obtain rfl : k = l.length := by omega
       have di : Hid (R = .error (.inNode l.length (.base 2))) := by
        show R = _
        rw [bn.out, List.drop_length, List.map_nil, verL]
       have ah : Hid (∀ W (p' : Option Addr) (c' : Nat), Below wr.heap.size wr W -> Calls Tryz.prog 57 #[.pointer (some ⟨g, 0, none⟩), .slice p' 0 c'] W fun e w' => e = .returned ((Er.base 2).val sent) /\ Below W.heap.size W w') := fun W p' c' J => Qud g p' c' (s.out.1.below (ai.out W J).2)
       obtain ⟨et, ev, ac⟩ := (Er.base 2).shape sent
       rw [ac] at ah
       have de : Hid ((Er.base 2).val sent = .iface et ev) := ac
       clear ch V ac
       rcases s.out.2.2.2.2.2.1 with ⟨rfl, rfl, rfl⟩ | ⟨gp, o, rfl, hc, hg, hro⟩
       ·go_wp2_with (first | (refine wpList_load_mid rfl 125 _ rfl g 0 rfl _ _ ae Tryz.underlying125 rfl Qaz ?_) | (go_at_call 56; refine (N.out _).mono ?_; rintro x w2 ⟨rfl, m⟩; have F := Hid.hide m; clear m) | (go_at_call 57; refine (ah.out _ _ _ F.out).mono ?_; rintro x w3 ⟨rfl, H⟩; have aq := Hid.hide H; clear H))
        go_ret3
        rw [di.out]
        exact ⟨((ai.out _ F.out).2).behind' aq.out, .inl ⟨_, rfl, by rw [Er.val, de.out]; rfl⟩⟩
       ·have fc : (l.length : Int) <= (c : Int) := by omega
        clear hc hg hro
        all_goals go_wp2_with (first | (refine wpList_load_mid rfl 125 _ rfl g 0 rfl _ _ ae Tryz.underlying125 rfl Qaz ?_) | (go_at_call 56; refine (N.out _).mono ?_; rintro x w2 ⟨rfl, m⟩; have F := Hid.hide m; clear m) | (go_at_call 57; refine (ah.out _ _ _ F.out).mono ?_; rintro x w3 ⟨rfl, H⟩; have aq := Hid.hide H; clear H))
        all_goals go_ret3
        all_goals rw [di.out]
        all_goals exact ⟨((ai.out _ F.out).2).behind' aq.out, .inl ⟨_, rfl, by rw [Er.val, de.out]; rfl⟩⟩
     ·have ao : ∀ g', t ≠ .stub g' := fun g' e => bj ⟨g', e⟩
      rw [Qps ao] at M
      have N := Hid.hide (fun W => Qnv (w := W) (r := r) pv mv cv L.node ao)
      have ee := L.node.shape
      have b7 := L.lt
      have f7 : Hid (∀ W, Below wr.heap.size wr W -> W.rangeAt g 0 [.slice pv mv cv, v, .string r]) := fun W J => Qa3 ae (J.block g b7)
      by_cases V : k < l.length
      ·have du : (l.drop k).map bytesOf ≠ [] := fun e => by
        have := congrArg List.length e
        simp at this
        omega
       rw [if_neg du] at M
       have dt : (k : Int) < (l.length : Int) := by omega
       have g4 := fun W (J : Below w.heap.size w W) => (s.out.1.below J).faults.var 4 (by decide)
       rw [show gOf 4 = 2 from rfl] at g4
       have ew := Hid.hide g4
       have D : Hid (R = .error (.inNode k (.base 4)) /\ Below w.heap.size w wr) := ⟨M, aj⟩
       clear hf L ab bk bf am hn bv M bj ao du V g4 aj b7
       rcases ee with rfl | ⟨T, a, rfl⟩
       all_goals go_wp2_with (first | (refine wpList_load_mid rfl 125 _ rfl g 0 rfl _ _ ae Tryz.underlying125 rfl Qaz ?_) | (go_at_call 56; refine (N.out _).mono ?_; rintro x w2 ⟨rfl, m⟩; have F := Hid.hide m; have g4 := ew.out _ (D.out.2.behind' m); clear m))
       all_goals go_region
       all_goals (try go_wp2)
       all_goals go_ret3
       all_goals rw [D.out.1]
       all_goals exact ⟨Below.drewN (D.out.2.behind' F.out) 1, .inl ⟨_, rfl, rfl⟩⟩
      ·have ci : (l.drop k).map bytesOf = [] := by rw [List.drop_eq_nil_of_le (by omega)]; rfl
       rw [if_pos ci] at M
       have dt : ¬ (k : Int) < (l.length : Int) := by omega
       obtain ⟨ov, cp⟩ : ∃ ov, valAt t r = ov := ⟨_, rfl⟩
       have cy : (ov = none /\ ∀ u, t ≠ .leaf r u) \/ ∃ u, ov = some u /\ t = .leaf r u := by
        rw [<- cp]
        unfold valAt
        cases t with
        | leaf p' v' =>
         simp only
         by_cases e : p' = r
         ·subst e; rw [if_pos rfl]; exact .inr ⟨v', rfl, rfl⟩
         ·rw [if_neg e]; exact .inl ⟨rfl, fun u e' => by cases e'; exact e rfl⟩
        | _ => exact .inl ⟨rfl, by simp⟩
       have bq : Hid (∀ W, Below wr.heap.size wr W -> Calls Tryz.prog 58 #[.agg #[.slice pv mv cv, v, .string r]] W fun x w' => x = .returned (.tuple #[.string (ov.getD ⟨#[]⟩), .bool ov.isSome]) /\ Below W.heap.size W w') := fun W J => Qji pv mv cv (hf.below J) L.node cy
       rw [cp] at M
       have D : Hid (R = .ok ov /\ Below w.heap.size w wr) := ⟨M, aj⟩
       obtain ⟨os, cm⟩ : ∃ os, ov.getD ⟨#[]⟩ = os := ⟨_, rfl⟩
       obtain ⟨ob, cj⟩ : ∃ ob, ov.isSome = ob := ⟨_, rfl⟩
       rw [cm, cj] at bq
       have df : Hid (ov.getD ⟨#[]⟩ = os /\ ov.isSome = ob) := ⟨cm, cj⟩
       clear hf L ab bk bf am hn bv M bj ao ci V aj b7 cy cp cm cj
       rcases ee with rfl | ⟨T, a, rfl⟩
       all_goals go_wp2_with (first | (refine wpList_load_mid rfl 125 _ rfl g 0 rfl _ _ ae Tryz.underlying125 rfl Qaz ?_) | (go_at_call 56; refine (N.out _).mono ?_; rintro x w2 ⟨rfl, m⟩; have F := Hid.hide m; have em := f7.out _ m; clear m) | (refine wpList_load_mid rfl 125 _ rfl g 0 rfl _ _ em Tryz.underlying125 rfl Qaz ?_) | (go_at_call 58; refine (bq.out _ F.out).mono ?_; rintro x w3 ⟨rfl, H⟩; have aq := Hid.hide H; clear H))
       all_goals go_ret3
       all_goals rw [D.out.1]
       all_goals exact ⟨(D.out.2.behind' F.out).behind' aq.out, .inr ⟨ov, rfl, by rw [df.out.1, df.out.2]; rfl⟩⟩
end Go.Proofs.YthbgepmpdphigaaGreatDoor
