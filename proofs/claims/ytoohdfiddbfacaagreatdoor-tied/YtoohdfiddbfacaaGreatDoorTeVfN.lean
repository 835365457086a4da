/-
  Verify whole.
-/
import Derived.Test.YtoohdfiddbfacaaGreatDoorTeVeC
namespace Go.Proofs.YtoohdfiddbfacaaGreatDoor
open Go.RowKit
set_option maxRecDepth 100000
set_option maxHeartbeats 25600000
theorem hash_size {h : List Nat} (hh : h.length = 32) : (Tryz.prog.info? 44).map (·.size) = some (h.map encB).length := by rw [List.length_map, hh]; kernel_rfl
theorem there_cells {w : World} {g : Nat} {cs : Array Value} {t : TypeId} {n : Nat} (h : w.heap[g]? = some (.cells cs t (0, 0))) (hn : cs.size = n) : w.there g 0 n := by
 intro j a
 refine ⟨?_, ?_⟩
 ·simp only [World.cell?, h, Nat.zero_add]
  rw [Array.getElem?_eq_getElem (by omega)]
  rfl
 ·simp [World.frozen?, h]
theorem beg_follow {h : List Nat} {B : Nat} {w : World} {b : Nat} {P : ByteArray} (hs : StubAt h B w b) (hh : h.length = 32) (hhb : ∀ x ∈ h, x < 256) (hn : nib (bytesOf P)) (hP : P.size = 64) (hB : B <= w.heap.size) :
  Calls Tryz.prog 56 #[.iface 133 (.pointer (some ⟨b, 0, none⟩)), .string P] w fun x w' => Below w.heap.size w w' /\ ∃ thr, x = .returned (.agg #[thr, .iface 133 (.pointer (some ⟨b, 0, none⟩)), .string P]) /\ StubAt h B w' b /\ OwnC w' B 2 thr 0 [] /\ thr.ownBlock ≠ some b /\ ∀ k, thr.ownBlock = some k -> w.heap.size <= k := by
 have o : Forest B (Wood.put (fun _ => none) b (.stub h)) w := by
  refine ⟨fun k t a => ?_, fun k t a => ?_, fun k t a => ?_, hB⟩
  all_goals
   by_cases e : k = b
   ·subst e
    rw [Wood.put_same] at a
    obtain rfl := Option.some.inj a
    first | exact ⟨_, [], .inl rfl, rfl, hs.2⟩ | (rw [Nd.ok]; exact ⟨hh, hhb⟩) | exact hs.1
   ·rw [Wood.put_other _ _ _ e] at a; cases a
 have p : ndV (Wood.put (fun _ => none) b (.stub h)) (.iface 133 (.pointer (some ⟨b, 0, none⟩))) (.stub h) := .inr ⟨by simp, b, rfl, Wood.put_same _ _ _⟩
 refine (follow_any o p (by rw [Nd.fits]; trivial) hn (by omega) (.stop rfl)).mono ?_
 rintro e w' ⟨g, thr, r, rfl, ⟨l, d, n⟩, j⟩
 obtain ⟨f, rfl, c⟩ := j.full (by simp)
 have m : f = b := by
  by_cases e : f = b
  ·exact e
  ·rw [Wood.put_other _ _ _ e] at c; cases c
 subst m
 have i : l = [] := n
 subst i
 have q := hs.lt
 refine ⟨g, thr, rfl, hs.below g, d.mono hB, fun e => by have := (d.block _ e).1; omega, fun k a => (d.block k a).1⟩
theorem verify_any {w : World} (sent : Nat -> Addr) (h : List Nat) (K : Array Nat) (l : List ByteArray) (p : Option Addr) (c : Nat) (hE : Env w.heap.size sent w) (hh : h.length = 32) (hhb : ∀ x ∈ h, x < 256) (hK : K.size = 32) (hKb : Bytes K) (hr : StrRow w p l c) (hl : l.length <= 9223372036854775807) :
  Calls Tryz.prog 43 #[.agg (h.map encB).toArray, .agg (K.toList.map encB).toArray, .slice p l.length c] w fun e w' => Below w.heap.size w w' /\ VerSaid sent (verF h (textB (nibs K.toList)) (l.map bytesOf)) e := by
 obtain ⟨A, hA⟩ : ∃ A, (h.map encB).toArray = A := ⟨_, rfl⟩
 obtain ⟨Kc, bz⟩ : ∃ Kc, (K.toList.map encB).toArray = Kc := ⟨_, rfl⟩
 obtain ⟨W0, Z⟩ : ∃ W0, (w.alloc (.cells A 44)).alloc (.cells Kc 34) = W0 := ⟨_, rfl⟩
 have ah : W0.rangeAt w.heap.size 0 (h.map encB) := fun j u hu => by
  rw [<- Z, World.cell?_alloc_past _ _ _ (by simp), Nat.zero_add, World.cell?_alloc_new, <- hA]
  simpa using hu
 have bi : W0.rangeAt (w.heap.size + 1) 0 (K.toList.map encB) := fun j u hu => by
  rw [<- Z, show w.heap.size + 1 = (w.alloc (.cells A 44)).heap.size by simp, Nat.zero_add, World.cell?_alloc_new, <- bz]
  simpa using hu
 have aw : Below w.heap.size w W0 := by rw [<- Z]; exact ((Below.refl _ _).alloc (Nat.le_refl _) _).alloc (by simp) _
 have bj : W0.heap.size = w.heap.size + 2 := by rw [<- Z]; simp
 obtain ⟨P, hP⟩ : ∃ P, textB (nibs K.toList) = P := ⟨_, rfl⟩
 obtain ⟨cu, eh, az⟩ := key_path hK hKb
 rw [hP] at cu az ⊢
 obtain ⟨E, Y⟩ : ∃ E, digB (textCode []) = E := ⟨_, rfl⟩
 obtain ⟨R, hR⟩ : ∃ R, verF h P (l.map bytesOf) = R := ⟨_, rfl⟩
 have au : R = if l = [] /\ h = E then .ok none else verL (l.map bytesOf) h P 0 := by
  rw [<- hR, verF, Y]
  simp
 rw [hR]
 have s : Hid (Env w.heap.size sent w /\ h.length = 32 /\ (∀ x ∈ h, x < 256) /\ K.size = 32 /\ Bytes K /\ StrRow w p l c /\ l.length <= 9223372036854775807 /\ Below w.heap.size w W0 /\ W0.heap.size = w.heap.size + 2 /\ P.size = 64 /\ nib (bytesOf P) /\ textB (nibs K.toList) = P /\ digB (textCode []) = E) := ⟨hE, hh, hhb, hK, hKb, hr, hl, aw, bj, az, by rw [cu]; exact eh, hP, Y⟩
 have HR := Hid.hide au
 have hz := hash_size hh
 have cz := Tryz.underlying44
 clear hE hh hhb hK hKb hr hl aw bj hP cu eh az hR au Y
 rw [hA, bz]
 clear hA bz
 go_enter Tryz.func43, Tryz.ntmps43
 go_upto_region 1 with fail
 clear Z
 go_cut [22] (fun v wc => ∃ b, v = .bool b /\ (b = true ↔ (l = [] /\ h = E)) /\ Below W0.heap.size W0 wc)
 case first =>
  by_cases al : l = []
  ·have hm : ((l.length : Int) == 0) = true := by rw [al]; rfl
   obtain ⟨hE, hh, hhb, hK, hKb, hr, hl, aw, bj, az, fj, hP, Y⟩ := s.out
   have dt : E.length = 32 := by rw [<- Y]; exact digB_length _
   have dr : ∀ x ∈ E, x < 256 := by rw [<- Y]; exact digB_byte _
   have eo := fun W => hash_cmp h E hh dt hhb dr W
   have dp : Below W0.heap.size W0 W0.drew := (Below.refl _ _).drew
   obtain ⟨ec, ch⟩ : ∃ ec, textB (textCode []) = ec := ⟨_, rfl⟩
   have ez : Hid (∀ W, Calls Tryz.prog 38 #[] W fun e w' => e = .returned (.string ec) /\ Below W.heap.size W w') := fun W => by
    have := empty_any W
    rw [ch] at this
    exact this
   have fc : Hid (∀ W, Below W0.heap.size W0 W -> Calls Tryz.prog 33 #[.string ec] W fun e w' => e = .returned (.agg (E.map encB).toArray) /\ Below W.heap.size W w') := fun W L => by
    have h1 := Below.behind aw L
    have := of_any ec W (hE.tabs.up hE.low h1) (Nat.le_trans hE.low h1.size)
    rw [show (digF ec).toList = E by rw [<- Y, digB, ch]] at this
    exact this
   have bp : Hid (w.heap.size < W0.heap.size /\ Below W0.heap.size W0 W0.drew) := ⟨by omega, dp⟩
   obtain ⟨bb, cf⟩ : ∃ bb, decide (h = E) = bb := ⟨_, rfl⟩
   rw [cf] at eo
   have df : Hid (l = [] /\ decide (h = E) = bb) := ⟨al, cf⟩
   clear hE hh hhb hK hKb hr hl aw bj az fj hP Y dt dr al ch dp cf
   go_region_held3 (fun w' => w'.rangeAt w.heap.size 0 (h.map encB)) (first | exact ah | exact k1 | exact k2)
    (first | (go_at_call 38; refine (ez.out _).mono ?_; rintro x w1 ⟨rfl, ce⟩; have k1 : w1.rangeAt w.heap.size 0 (h.map encB) := rangeAt_block ah (ce.block w.heap.size bp.out.1); have bm : Hid (Below W0.heap.size W0 w1) := bp.out.2.trans ce; clear ce) | (go_at_call 33; refine (fc.out _ bm.out).mono ?_; rintro x w2 ⟨rfl, m⟩; have dg : Hid (Below W0.heap.size W0 w2) := bm.out.trans (m.mono bm.out.size); have k2 : w2.rangeAt w.heap.size 0 (h.map encB) := rangeAt_block ah (dg.out.block w.heap.size bp.out.1); clear m))
   all_goals (try go_wp2)
   all_goals go_meet
   all_goals exact ⟨bb, rfl, by rw [<- df.out.2]; simp [df.out.1], dg.out⟩
  ·have hm : ((l.length : Int) == 0) = false := by
    have : l.length ≠ 0 := fun e => al (List.eq_nil_of_length_eq_zero e)
    simp
    omega
   have HL := Hid.hide al
   clear al
   go_region
   all_goals (try go_wp2)
   all_goals go_meet
   all_goals exact ⟨false, rfl, by simp [HL.out], (Below.refl _ _).drew⟩
 case rest =>
  obtain ⟨b, rfl, J, bf⟩ := hcut
  cases b with
  | true =>
   have D : Hid (R = .ok none /\ Below w.heap.size w wc) := ⟨by rw [HR.out, if_pos (J.1 rfl)], s.out.2.2.2.2.2.2.2.1.behind' bf⟩
   clear J bf
   go_wp2
   go_ret3
   rw [D.out.1]
   exact ⟨D.out.2, .inr ⟨none, rfl, rfl⟩⟩
  | false =>
   have au : R = verL (l.map bytesOf) h P 0 := by rw [HR.out, if_neg (fun e => by have := J.2 e; cases this)]
   have dj := Hid.hide au
   have aq := Hid.hide bf
   clear J au bf
   go_upto_region 3 with fail
   go_cut [9] (fun v wd => ∃ g, v = .pointer (some ⟨g, 0, none⟩) /\ WayS w.heap.size wd g (.stub h) P /\ Below w.heap.size w wd)
   case first =>
    refine wp_region_any (by kernel_rfl) ?_
    change wpAny _ _ _ _ _ _ _ (World.drew _)
    have cw : w.heap.size + 2 <= wc.heap.size := by have := s.out.2.2.2.2.2.2.2.2.1; have := aq.out.size; omega
    have dm : Hid (∀ W, Below wc.heap.size wc W -> W.rangeAt w.heap.size 0 (h.map encB) /\ W.rangeAt (w.heap.size + 1) 0 (K.toList.map encB)) := fun W L => ⟨fun j u hu => (World.cell?_of_block (L.block w.heap.size (by omega))).trans ((World.cell?_of_block (aq.out.block w.heap.size (by have := s.out.2.2.2.2.2.2.2.2.1; omega))).trans (ah j u hu)), fun j u hu => (World.cell?_of_block (L.block (w.heap.size + 1) (by omega))).trans ((World.cell?_of_block (aq.out.block (w.heap.size + 1) (by have := s.out.2.2.2.2.2.2.2.2.1; omega))).trans (bi j u hu))⟩
    refine wpAny_vary _ (Beg wc.heap.size wc (.agg (h.map encB).toArray) (.agg (K.toList.map encB).toArray) h P) (by kernel_rfl) (by kernel_rfl) ?_ _ (fun _ => undef) ?_ ?_
    ·intro i o X I aa b W n B d f
     have hi : i < 8 := (Array.getElem?_eq_some_iff.1 X).1
     have U := f.below.size
     match i, hi with
     | 0, _ =>
      obtain rfl := Option.some.inj X
      have t3 : b.tmps[3]? = some (.pointer (some ⟨w.heap.size, 0, none⟩)) := (n.rest 3 (fun i _ => noDst_of (by kernel_rfl) i)).trans rfl
      refine wp_load_mid 44 (.tmp 3) rfl w.heap.size 0 (by simp only [Act.eval, Array.getD_eq_getD_getElem?, t3, Option.getD_some]) (h.map encB) _ (dm.out W f.below).1 cz rfl hz ?_
      exact ⟨_, rfl, f.step 0 _ (by decide) B (Below.refl _ _) U (fun _ => rfl) (by simp) (by simp) (by simp) (by simp) (by simp)⟩
     | 1, _ =>
      obtain rfl := Option.some.inj X
      have fm : b.tmps[23]? = some (.agg (h.map encB).toArray) := (n.done 0 23 (d ⟨0, .data⟩ (by simp) rfl) rfl (by simp)).trans (congrArg some (f.o0 (d ⟨0, .data⟩ (by simp) rfl)))
      have C := hide_any h s.out.2.1 s.out.2.2.1 W
      have ci := f.o6
      obtain ⟨G, hG⟩ : ∃ G : Value -> World -> Prop, ∀ x w', G x w' ↔ Beg wc.heap.size wc (.agg (h.map encB).toArray) (.agg (K.toList.map encB).toArray) h P (upd (fun k => I.getD k false) 1) (upv aa 1 x) w' := ⟨fun x w' => Beg wc.heap.size wc (.agg (h.map encB).toArray) (.agg (K.toList.map encB).toArray) h P (upd (fun k => I.getD k false) 1) (upv aa 1 x) w', fun _ _ => Iff.rfl⟩
      refine Oper.wp_mono (K := fun Q w' => ∃ v, Q = b.put (some 24) v /\ G v w') (by rintro Q w' ⟨v, rfl, hv⟩; exact ⟨v, rfl, (hG v w').1 hv⟩) ?_
      have HG := Hid.hide hG
      have HI := Hid.hide f
      have HN := Hid.hide B
      have HC := Hid.hide C
      clear hG X d n f C B
      go_simp
      go_at_call 61
      refine HC.out.mono ?_
      rintro e w9 ⟨bb, rfl, fi, ay, de⟩
      refine ⟨_, rfl, (HG.out _ _).2 (HI.out.step 1 _ (by decide) HN.out ay U (by simp) (fun _ => ⟨bb, rfl, ⟨Nat.le_trans U fi, de⟩, fun q => ?_⟩) (by simp) (by simp) (by simp) (by simp))⟩
      obtain ⟨g, O, _, e3, _⟩ := ci q
      rw [O]
      exact ptr_ne (by omega)
     | 2, _ =>
      obtain rfl := Option.some.inj X
      obtain ⟨bb, O, e2, e3⟩ := f.o1 (d ⟨1, .data⟩ (by simp) rfl)
      have fo : b.tmps[24]? = some (.pointer (some ⟨bb, 0, none⟩)) := (n.done 1 24 (d ⟨1, .data⟩ (by simp) rfl) rfl (by simp)).trans (congrArg some O)
      have D := Hid.hide (f.step 2 (.iface 133 (.pointer (some ⟨bb, 0, none⟩))) (by decide) B (Below.refl _ _) U (by simp) (by simp) (fun _ => ⟨bb, rfl, e2, e3⟩) (by simp) (by simp) (by simp))
      refine Oper.wp_mono (K := fun Q w' => Q = b.put (some 25) (.iface 133 (.pointer (some ⟨bb, 0, none⟩))) /\ w' = W) (by rintro Q w' ⟨rfl, rfl⟩; exact ⟨_, rfl, D.out⟩) ?_
      clear X d n f O e2 e3 B D
      go_simp
     | 3, _ =>
      obtain rfl := Option.some.inj X
      have t4 : b.tmps[4]? = some (.pointer (some ⟨w.heap.size + 1, 0, none⟩)) := (n.rest 4 (fun i _ => noDst_of (by kernel_rfl) i)).trans rfl
      refine wp_load_mid 34 (.tmp 4) rfl (w.heap.size + 1) 0 (by simp only [Act.eval, Array.getD_eq_getD_getElem?, t4, Option.getD_some]) (K.toList.map encB) _ (dm.out W f.below).2 Tryz.underlying34 rfl (by rw [size51]; simp [s.out.2.2.2.1]) ?_
      exact ⟨_, rfl, f.step 3 _ (by decide) B (Below.refl _ _) U (by simp) (by simp) (by simp) (fun _ => rfl) (by simp) (by simp)⟩
     | 4, _ =>
      obtain rfl := Option.some.inj X
      have fq : b.tmps[26]? = some (.agg (K.toList.map encB).toArray) := (n.done 3 26 (d ⟨3, .data⟩ (by simp) rfl) rfl (by simp)).trans (congrArg some (f.o3 (d ⟨3, .data⟩ (by simp) rfl)))
      have C := ofkey_any K W s.out.2.2.2.1 s.out.2.2.2.2.1
      rw [s.out.2.2.2.2.2.2.2.2.2.2.2.1] at C
      obtain ⟨G, hG⟩ : ∃ G : Value -> World -> Prop, ∀ x w', G x w' ↔ Beg wc.heap.size wc (.agg (h.map encB).toArray) (.agg (K.toList.map encB).toArray) h P (upd (fun k => I.getD k false) 4) (upv aa 4 x) w' := ⟨fun x w' => Beg wc.heap.size wc (.agg (h.map encB).toArray) (.agg (K.toList.map encB).toArray) h P (upd (fun k => I.getD k false) 4) (upv aa 4 x) w', fun _ _ => Iff.rfl⟩
      refine Oper.wp_mono (K := fun Q w' => ∃ v, Q = b.put (some 27) v /\ G v w') (by rintro Q w' ⟨v, rfl, hv⟩; exact ⟨v, rfl, (hG v w').1 hv⟩) ?_
      have HG := Hid.hide hG
      have HI := Hid.hide f
      have HN := Hid.hide B
      have HC := Hid.hide C
      clear hG X d n f C B
      go_simp
      go_at_call 57
      refine HC.out.mono ?_
      rintro e w9 ⟨rfl, ay⟩
      exact ⟨_, rfl, (HG.out _ _).2 (HI.out.step 4 _ (by decide) HN.out ay U (by simp) (by simp) (by simp) (by simp) (fun _ => rfl) (by simp))⟩
     | 5, _ =>
      obtain rfl := Option.some.inj X
      obtain ⟨bb, O, e2, e3⟩ := f.o2 (d ⟨2, .data⟩ (by simp) rfl)
      have fp : b.tmps[25]? = some (.iface 133 (.pointer (some ⟨bb, 0, none⟩))) := (n.done 2 25 (d ⟨2, .data⟩ (by simp) rfl) rfl (by simp)).trans (congrArg some O)
      have fs : b.tmps[27]? = some (.string P) := (n.done 4 27 (d ⟨4, .data⟩ (by simp) rfl) rfl (by simp)).trans (congrArg some (f.o4 (d ⟨4, .data⟩ (by simp) rfl)))
      have C := beg_follow e2 s.out.2.1 s.out.2.2.1 s.out.2.2.2.2.2.2.2.2.2.2.1 s.out.2.2.2.2.2.2.2.2.2.1 U
      have ci := f.o6
      obtain ⟨G, hG⟩ : ∃ G : Value -> World -> Prop, ∀ x w', G x w' ↔ Beg wc.heap.size wc (.agg (h.map encB).toArray) (.agg (K.toList.map encB).toArray) h P (upd (fun k => I.getD k false) 5) (upv aa 5 x) w' := ⟨fun x w' => Beg wc.heap.size wc (.agg (h.map encB).toArray) (.agg (K.toList.map encB).toArray) h P (upd (fun k => I.getD k false) 5) (upv aa 5 x) w', fun _ _ => Iff.rfl⟩
      refine Oper.wp_mono (K := fun Q w' => ∃ v, Q = b.put (some 28) v /\ G v w') (by rintro Q w' ⟨v, rfl, hv⟩; exact ⟨v, rfl, (hG v w').1 hv⟩) ?_
      have HG := Hid.hide hG
      have HI := Hid.hide f
      have HN := Hid.hide B
      have HC := Hid.hide C
      have ew := Hid.hide e3
      clear hG X d n f C B O e2 e3
      go_simp
      go_at_call 56
      refine HC.out.mono ?_
      rintro e w9 ⟨ay, am, rfl, k1, k2, k3, k4⟩
      refine ⟨_, rfl, (HG.out _ _).2 (HI.out.step 5 _ (by decide) HN.out ay U (by simp) (by simp) (by simp) (by simp) (by simp) (fun _ => ⟨bb, am, rfl, k1, k2, k3, ew.out, fun q k hk => ?_⟩))⟩
      obtain ⟨g, O, _, e3, _⟩ := ci q
      rw [O]
      exact ptr_ne (by have := k4 k hk; omega)
     | 6, _ =>
      obtain rfl := Option.some.inj X
      have D := Hid.hide (f.made B U)
      refine Oper.wp_mono (K := fun Q w' => Q = b.put (some 9) (.pointer (some ⟨W.heap.size, 0, none⟩)) /\ w' = W.alloc (.cells #[.slice none 0 0, .nilIface, .string ⟨#[]⟩] 94)) (by rintro Q w' ⟨rfl, rfl⟩; exact ⟨_, rfl, D.out⟩) ?_
      clear X d n f B D
      go_simp
     | 7, _ =>
      obtain rfl := Option.some.inj X
      have d5 := d ⟨5, .data⟩ (by simp) rfl
      have d6 := d ⟨6, .data⟩ (by simp) rfl
      obtain ⟨bb, am, O, e2, e3, e4, e5⟩ := f.o5 d5
      obtain ⟨g, q1, q2, q3, q4, _⟩ := f.o6 d6
      have t9 : b.tmps[9]? = some (.pointer (some ⟨g, 0, none⟩)) := (n.done 6 9 d6 rfl (by simp)).trans (congrArg some q1)
      have fk : b.tmps[28]? = some (.agg #[am, .iface 133 (.pointer (some ⟨bb, 0, none⟩)), .string P]) := (n.done 5 28 d5 rfl (by simp)).trans (congrArg some O)
      obtain ⟨pv, mv, cv, rfl⟩ := e3.shape
      refine wp_store_mid 94 (.tmp 9) (.tmp 28) rfl g 0 #[.slice pv mv cv, .iface 133 (.pointer (some ⟨bb, 0, none⟩)), .string P] (by simp only [Act.eval, Array.getD_eq_getD_getElem?, t9, Option.getD_some]) (by simp only [Act.eval, Array.getD_eq_getD_getElem?, fk, Option.getD_some]) (there_cells (q4 B) rfl) way_size (way_one (S := Wood.put (fun _ => none) bb (.stub h)) (t := .stub h) (.inr ⟨by simp, bb, rfl, Wood.put_same _ _ _⟩) pv mv cv P) ?_
      exact ⟨_, rfl, f.wrote d5 d6 _ q1 O rfl rfl rfl rfl⟩
    ·exact ⟨(Below.refl _ _).drew, by simp, by simp, by simp, by simp, by simp, by simp, by simp, by simp⟩
    ·intro aa W f
     obtain ⟨g, q1, q2, q3, _, q5⟩ := f.o6 rfl
     obtain ⟨bb, am, O, e2, e3, e4, e5, e6⟩ := f.o5 rfl
     obtain ⟨x, y, z, r1, r2⟩ := q5 rfl
     have HW : Hid (∃ g, aa 6 = .pointer (some ⟨g, 0, none⟩) /\ WayS w.heap.size W g (.stub h) P /\ Below w.heap.size w W) := by
      rw [O] at r1
      simp only [Value.agg.injEq] at r1
      obtain ⟨rfl, rfl, rfl⟩ : x = am /\ y = .iface 133 (.pointer (some ⟨bb, 0, none⟩)) /\ z = .string P := by simpa using r1.symm
      have ac : Below w.heap.size w W := (s.out.2.2.2.2.2.2.2.1.behind' aq.out).behind' f.below
      have cw : w.heap.size <= wc.heap.size := by omega
      refine ⟨g, q1, ⟨Wood.put (fun _ => none) bb (.stub h), [], _, _, [], ?_, ⟨r2, by omega, .inr ⟨by simp, bb, rfl, Wood.put_same _ _ _⟩, e3.mono cw, fun e => e6 rfl g e q1, rfl⟩, ?_, fun k hk => ?_, by have := s.out.2.2.2.2.2.2.2.2.2.1; simp; omega, by rw [Nd.fits]; trivial, s.out.2.2.2.2.2.2.2.2.2.2.1⟩, ac⟩
      ·refine ⟨fun k t hk => ?_, fun k t hk => ?_, fun k t hk => ?_, ac.size⟩
       all_goals
        by_cases e : k = bb
        ·subst e
         rw [Wood.put_same] at hk
         obtain rfl := Option.some.inj hk
         first | exact ⟨_, [], .inl rfl, rfl, e2.2⟩ | (rw [Nd.ok]; exact ⟨s.out.2.1, s.out.2.2.1⟩) | exact Nat.le_trans cw e2.1
        ·rw [Wood.put_other _ _ _ e] at hk; cases hk
      ·rw [Wood.put_other _ _ _ (fun e => e5 rfl (by rw [q1, e]))]
      ·rw [Wood.put_other _ _ _ (fun e => e4 (by rw [hk, e]))]
     clear f q1 q2 q3 q5 O e2 e3 e4 e5 e6 r1 r2
     simp only [runFrom, Act.put]
     (try go_wp2)
     go_meet
     exact HW.out
   case rest =>
    obtain ⟨g, rfl, Z, dq⟩ := hcut
    have b9 : R = verT ((l.drop 0).map bytesOf) (.stub h) P 0 := by rw [dj.out]; rfl
    have A0 : Aside (WayS w.heap.size wc g (.stub h) P /\ Below w.heap.size w wc /\ R = verT ((l.drop 0).map bytesOf) (.stub h) P 0) := ⟨Z, dq, b9⟩
    clear Z dq b9 ah bi hz cz aq HR dj
    go_wp2_with fail
    go_loopg [10] l.length (fun gh i wr => ∃ k t r, k <= l.length /\ gh = l.length - k /\ i = .int .i64 (k : Int) /\ WayS w.heap.size wr g t r /\ Below w.heap.size w wr /\ R = verT ((l.drop k).map bytesOf) t r k)
    case atStart => exact ⟨0, _, _, Nat.zero_le _, rfl, rfl, A0.out⟩
    case round =>
     obtain ⟨k, t, r, hk, rfl, rfl, fe, ak, M⟩ := hrel
     clear A0
     obtain ⟨S, lw, am, v, cs, hf, L, ac, bl, bg, ao, hn⟩ := fe
     obtain ⟨pv, mv, cv, rfl⟩ := L.own.shape
     have ag := way_cells L.blk
     have bx := s.out.1.below ak
     by_cases bk : ∃ g', t = .stub g'
     ·obtain ⟨h', rfl⟩ := bk
      obtain ⟨dd, rfl, fg⟩ := L.node.full (by simp)
      have N := Hid.hide (fun W => met_stub (w := W) h' r pv mv cv dd)
      have aj : Hid (∀ W, Below wr.heap.size wr W -> WayS w.heap.size W g (.stub h') r /\ Below w.heap.size w W) := fun W J => by
       obtain ⟨q1, q2, q3⟩ := L.grow (Fr.of_below hf J) ac bl
       exact ⟨⟨S, lw, _, _, cs, hf.below J, q1, q2, q3, bg, ao, hn⟩, ak.behind' J⟩
      have bo : Hid (R = verL ((l.drop k).map bytesOf) h' r k) := M
      obtain ⟨T, hT⟩ : ∃ T, ndTy (.stub h') = T := ⟨_, rfl⟩
      rw [hT] at ag N
      have cj := s.out.2.2.2.2.2.2.1
      have ej : k < l.length -> wrap64 ((k : Int) + 1) = ((k + 1 : Nat) : Int) := fun _ => by unfold wrap64; omega
      have em := Hid.hide ej
      clear hf L ac bl bg ao hn bx M fg hT ej
      by_cases V : k < l.length
      ·have dw : (k : Int) <= (l.length : Int) := by omega
       have bc : Hid (∃ gp o, p = some ⟨gp, o, none⟩ /\ (l.length : Int) <= (c : Int) /\ ∀ W, Below wr.heap.size wr W -> Calls Tryz.prog 62 #[.pointer (some ⟨g, 0, none⟩), .slice (some ⟨gp, o + k, none⟩) (l.length - k) (c - k)] W (OpSaid sent w.heap.size g W (shF (bytesOf l[k]) h' (64 - r.size)) r)) := by
        rcases s.out.2.2.2.2.2.1 with ⟨_, e, _⟩ | ⟨gp, o, rfl, hc, hg, hro⟩
        ·rw [e] at V; cases V
        ·refine ⟨gp, o, rfl, by omega, fun W J => ?_⟩
         obtain ⟨q1, q2⟩ := aj.out W J
         exact open_some (s.out.1.below q2) q1 (hg (by omega)) ((q2.cell (p := ⟨gp, o + k, none⟩) (hg (by omega))).trans (hro k _ (by rw [List.getElem?_map, List.getElem?_eq_getElem V]; rfl))) (by omega)
       obtain ⟨gp, o, rfl, fh, ee⟩ := bc.out
       have ai := Hid.hide ee
       have bn : Hid (k < l.length /\ l.length <= 9223372036854775807 /\ (l.drop k).map bytesOf = bytesOf l[k] :: (l.drop (k + 1)).map bytesOf) := ⟨V, cj, by rw [List.drop_eq_getElem_cons V]; rfl⟩
       obtain ⟨q, hq⟩ : ∃ q, shF (bytesOf l[k]) h' (64 - r.size) = q := ⟨_, rfl⟩
       rw [hq] at ai
       have HQ := Hid.hide hq
       clear ee bc cj hq
       go_wp2_with (first | (refine wpList_load_mid rfl 94 _ rfl g 0 rfl _ _ ag Tryz.underlying94 rfl way_size ?_) | (go_at_call 58; refine (N.out _).mono ?_; rintro x w2 ⟨rfl, m⟩; have F := Hid.hide m; clear m))
       refine (ai.out _ F.out).mono ?_
       rintro x w3 ⟨H, (⟨er, rfl, rfl⟩ | ⟨t', rfl, rfl, du⟩)⟩
       ·obtain ⟨et, ev, ae⟩ := er.shape sent
        have D : Hid (R = .error (.inNode k er) /\ er.val sent = .iface et ev /\ Below w.heap.size w w3) := ⟨by rw [bo.out, bn.out.2.2]; exact verL_err _ _ _ _ _ HQ.out, ae, (aj.out _ F.out).2.trans H⟩
        rw [ae]
        clear H ae
        go_wp2
        go_ret3
        rw [D.out.1]
        exact ⟨D.out.2.2, .inl ⟨_, rfl, by rw [Er.val, D.out.2.1]; rfl⟩⟩
       ·have D : Hid (R = verT ((l.drop (k + 1)).map bytesOf) (t'.walk 64 r).1 (t'.walk 64 r).2 (k + 1) /\ WayS w.heap.size w3 g (t'.walk 64 r).1 (t'.walk 64 r).2 /\ Below w.heap.size w w3) := ⟨by rw [bo.out, bn.out.2.2]; exact verL_cons _ _ _ _ _ HQ.out, du, (aj.out _ F.out).2.trans H⟩
        clear H du
        go_wp2
        go_roundg (l.length - (k + 1))
        case measure => omega
        case rel => exact ⟨k + 1, _, _, by omega, rfl, by first | rfl | rw [em.out bn.out.1], D.out.2.1, D.out.2.2, D.out.1⟩
      ·obtain rfl : k = l.length := by omega
       have dn : Hid (R = .error (.inNode l.length (.base 2))) := by
        show R = _
        rw [bo.out, List.drop_length, List.map_nil, verL]
       have ai : Hid (∀ W (p' : Option Addr) (c' : Nat), Below wr.heap.size wr W -> Calls Tryz.prog 62 #[.pointer (some ⟨g, 0, none⟩), .slice p' 0 c'] W fun e w' => e = .returned ((Er.base 2).val sent) /\ Below W.heap.size W w') := fun W p' c' J => open_none g p' c' (s.out.1.below (aj.out W J).2)
       obtain ⟨et, ev, ae⟩ := (Er.base 2).shape sent
       rw [ae] at ai
       have dh : Hid ((Er.base 2).val sent = .iface et ev) := ae
       clear cj V ae
       rcases s.out.2.2.2.2.2.1 with ⟨rfl, rfl, rfl⟩ | ⟨gp, o, rfl, hc, hg, hro⟩
       ·go_wp2_with (first | (refine wpList_load_mid rfl 94 _ rfl g 0 rfl _ _ ag Tryz.underlying94 rfl way_size ?_) | (go_at_call 58; refine (N.out _).mono ?_; rintro x w2 ⟨rfl, m⟩; have F := Hid.hide m; clear m) | (go_at_call 62; refine (ai.out _ _ _ F.out).mono ?_; rintro x w3 ⟨rfl, H⟩; have ar := Hid.hide H; clear H))
        go_ret3
        rw [dn.out]
        exact ⟨((aj.out _ F.out).2).behind' ar.out, .inl ⟨_, rfl, by rw [Er.val, dh.out]; rfl⟩⟩
       ·have fh : (l.length : Int) <= (c : Int) := by omega
        clear hc hg hro
        all_goals go_wp2_with (first | (refine wpList_load_mid rfl 94 _ rfl g 0 rfl _ _ ag Tryz.underlying94 rfl way_size ?_) | (go_at_call 58; refine (N.out _).mono ?_; rintro x w2 ⟨rfl, m⟩; have F := Hid.hide m; clear m) | (go_at_call 62; refine (ai.out _ _ _ F.out).mono ?_; rintro x w3 ⟨rfl, H⟩; have ar := Hid.hide H; clear H))
        all_goals go_ret3
        all_goals rw [dn.out]
        all_goals exact ⟨((aj.out _ F.out).2).behind' ar.out, .inl ⟨_, rfl, by rw [Er.val, dh.out]; rfl⟩⟩
     ·have ap : ∀ g', t ≠ .stub g' := fun g' e => bk ⟨g', e⟩
      rw [verT_end ap] at M
      have N := Hid.hide (fun W => met_any (w := W) (r := r) pv mv cv L.node ap)
      have ei := L.node.shape
      have ba := L.lt
      have fd : Hid (∀ W, Below wr.heap.size wr W -> W.rangeAt g 0 [.slice pv mv cv, v, .string r]) := fun W J => rangeAt_block ag (J.block g ba)
      by_cases V : k < l.length
      ·have dz : (l.drop k).map bytesOf ≠ [] := fun e => by
        have := congrArg List.length e
        simp at this
        omega
       rw [if_neg dz] at M
       have dw : (k : Int) < (l.length : Int) := by omega
       have g4 := fun W (J : Below w.heap.size w W) => (s.out.1.below J).faults.var 4 (by decide)
       rw [show gOf 4 = 2 from rfl] at g4
       have f9 := Hid.hide g4
       have D : Hid (R = .error (.inNode k (.base 4)) /\ Below w.heap.size w wr) := ⟨M, ak⟩
       clear hf L ac bl bg ao hn bx M bk ap dz V g4 ak ba
       rcases ei with rfl | ⟨T, a, rfl⟩
       all_goals go_wp2_with (first | (refine wpList_load_mid rfl 94 _ rfl g 0 rfl _ _ ag Tryz.underlying94 rfl way_size ?_) | (go_at_call 58; refine (N.out _).mono ?_; rintro x w2 ⟨rfl, m⟩; have F := Hid.hide m; have g4 := f9.out _ (D.out.2.behind' m); clear m))
       all_goals go_region
       all_goals (try go_wp2)
       all_goals go_ret3
       all_goals rw [D.out.1]
       all_goals exact ⟨Below.drewN (D.out.2.behind' F.out) 1, .inl ⟨_, rfl, rfl⟩⟩
      ·have cl : (l.drop k).map bytesOf = [] := by rw [List.drop_eq_nil_of_le (by omega)]; rfl
       rw [if_pos cl] at M
       have dw : ¬ (k : Int) < (l.length : Int) := by omega
       obtain ⟨ov, cq⟩ : ∃ ov, valAt t r = ov := ⟨_, rfl⟩
       have dc : (ov = none /\ ∀ u, t ≠ .leaf r u) \/ ∃ u, ov = some u /\ t = .leaf r u := by
        rw [<- cq]
        unfold valAt
        cases t with
        | leaf p' v' =>
         simp only
         by_cases e : p' = r
         ·subst e; rw [if_pos rfl]; exact .inr ⟨v', rfl, rfl⟩
         ·rw [if_neg e]; exact .inl ⟨rfl, fun u e' => by cases e'; exact e rfl⟩
        | _ => exact .inl ⟨rfl, by simp⟩
       have bq : Hid (∀ W, Below wr.heap.size wr W -> Calls Tryz.prog 63 #[.agg #[.slice pv mv cv, v, .string r]] W fun x w' => x = .returned (.tuple #[.string (ov.getD ⟨#[]⟩), .bool ov.isSome]) /\ Below W.heap.size W w') := fun W J => wvalue_any pv mv cv (hf.below J) L.node dc
       rw [cq] at M
       have D : Hid (R = .ok ov /\ Below w.heap.size w wr) := ⟨M, ak⟩
       obtain ⟨os, cp⟩ : ∃ os, ov.getD ⟨#[]⟩ = os := ⟨_, rfl⟩
       obtain ⟨ob, cm⟩ : ∃ ob, ov.isSome = ob := ⟨_, rfl⟩
       rw [cp, cm] at bq
       have di : Hid (ov.getD ⟨#[]⟩ = os /\ ov.isSome = ob) := ⟨cp, cm⟩
       clear hf L ac bl bg ao hn bx M bk ap cl V ak ba dc cq cp cm
       rcases ei with rfl | ⟨T, a, rfl⟩
       all_goals go_wp2_with (first | (refine wpList_load_mid rfl 94 _ rfl g 0 rfl _ _ ag Tryz.underlying94 rfl way_size ?_) | (go_at_call 58; refine (N.out _).mono ?_; rintro x w2 ⟨rfl, m⟩; have F := Hid.hide m; have eu := fd.out _ m; clear m) | (refine wpList_load_mid rfl 94 _ rfl g 0 rfl _ _ eu Tryz.underlying94 rfl way_size ?_) | (go_at_call 63; refine (bq.out _ F.out).mono ?_; rintro x w3 ⟨rfl, H⟩; have ar := Hid.hide H; clear H))
       all_goals go_ret3
       all_goals rw [D.out.1]
       all_goals exact ⟨(D.out.2.behind' F.out).behind' ar.out, .inr ⟨ov, rfl, by rw [di.out.1, di.out.2]; rfl⟩⟩
end Go.Proofs.YtoohdfiddbfacaaGreatDoor
