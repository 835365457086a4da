/-
  Witnesses: (*leaf).operations.
-/
import Derived.Test.YtakidhihbgfjlaaGreatDoorSxWcG
namespace Go.Proofs.YtakidhihbgfjlaaGreatDoor
open Go.RowKit
set_option maxRecDepth 100000
set_option maxHeartbeats 25600000
theorem Qw4 (n : Nat) : IntKind.u8.wrap (n : Int) = ((n % 256 : Nat) : Int) := by
 unfold IntKind.wrap
 simp only [IntKind.signed, IntKind.bits]
 simp
attribute [-go_sem] Instr.buildSlice
variable {B nb C : Nat} {S : Wood} {w : World} {p : ByteArray} {u : Value} {l : List Nat}
theorem Qz4 {y : ByteArray} (hf : Forest B S w) (hb : S nb = some (.leaf p y)) (all : Bool) (pp : Option Addr) (n cc : Nat) (hu : Own w C u l) (hC : C <= w.heap.size) (hn : ∀ k, u.ownBlock = some k -> S k = none) (hl : l.length <= 900000) :
   Calls Tryz.prog 141 #[.pointer (some ⟨nb, 0, none⟩), u, .agg #[.bool all, .slice pp n cc]] w fun e w' => ∃ u', e = .returned u' /\ Grew w w' C u u' (l ++ 1 :: p.size :: (pairsU (bytesOf p) ++ y.size % 256 :: bytesOf y)) := by
 obtain ⟨i0, ac, ah, ai, aj⟩ := info_parts Qc8
 obtain ⟨g, r, _, hr, c0, rg, _, _⟩ := (hf.node nb _ hb).cell
 have hr : r = [.string p, .string y] := hr
 subst hr
 have U : w.cell? ⟨nb, 1, none⟩ = some (.string p) := rg 0 _ rfl
 have c2 : w.cell? ⟨nb, 2, none⟩ = some (.string y) := rg 1 _ rfl
 have aw := hf.lt hb
 have ae := hf.ok nb _ hb
 rw [Nd.ok] at ae
 have ay : u.ownBlock ≠ some nb := fun e => by have := hn nb e; rw [this] at hb; cases hb
 have X : Hid (nibOK p /\ y.size <= 1024) := ae
 have HW : Hid (Own w C u l /\ C <= w.heap.size /\ l.length <= 900000) := ⟨hu, hC, hl⟩
 have J : Hid (nb < w.heap.size /\ u.ownBlock ≠ some nb /\ w.cell? ⟨nb, 1, none⟩ = some (.string p) /\ w.cell? ⟨nb, 2, none⟩ = some (.string y)) := ⟨aw, ay, U, c2⟩
 clear hf hb hn rg ae c0 hu hC hl ay U c2 aw
 go_enter Tryz.func141, Tryz.ntmps141
 go_upto_region 1 with fail
 have H : Below w.heap.size w (w.alloc (.cells #[.bool all, .slice pp n cc] 80)) := (Below.refl _ _).alloc (Nat.le_refl _) _
 generalize World.alloc w _ = w0 at H ⊢
 have b7 := Hq H
 have F : Hid (Own w0 C u l /\ C <= w0.heap.size /\ l.length <= 900000) := ⟨HW.out.1.keep H.size fun k hk _ => H.block k hk, Nat.le_trans HW.out.2.1 H.size, HW.out.2.2⟩
 have E : Hid (nb < w0.heap.size /\ u.ownBlock ≠ some nb /\ w0.cell? ⟨nb, 1, none⟩ = some (.string p) /\ w0.cell? ⟨nb, 2, none⟩ = some (.string y)) := ⟨Nat.lt_of_lt_of_le J.out.1 H.size, J.out.2.1, (H.cell (p := ⟨nb, 1, none⟩) J.out.1).trans J.out.2.2.1, (H.cell (p := ⟨nb, 2, none⟩) J.out.1).trans J.out.2.2.2⟩
 have HP : Hid (nibOK p) := X.out.1
 have HSt : Hid (Below w0.heap.size w0 w0.drew) := (Below.refl _ _).drew
 clear H
 go_cut [1] (fun a wd => Grew w0 wd C u a (l ++ 1 :: (p.size :: pairsU (bytesOf p))))
 case first => as_aux_lemma =>
  refine wp_region_any (by kernel_rfl) ?_
  change wpAny _ _ _ _ _ _ _ (World.drew _)
  obtain ⟨R, f⟩ : ∃ R : Nat -> Option Value, R = fun i => ([some (u), none, none, some (.pointer (some ⟨nb, 0, none⟩)), some (.pointer (some ⟨nb, 0, none⟩)), some (.pointer (some ⟨nb, 1, none⟩)), some (.string p), none, none] : List (Option Value)).getD i none := ⟨_, rfl⟩
  refine Qam _ (fun d v w' => (∀ i x, R i = some x -> d i = true -> v i = x) /\ (fun d v w' => Ap w0 C u l 1 (p.size :: pairsU (bytesOf p)) (d 0) (d 1) (d 2) (d 7) (d 8) (v 1) (v 2) (v 7) (v 8) w') d v w') (by kernel_rfl) (by kernel_rfl) ?_ _ (fun _ => undef) ?_ ?_
  · intro i o z ak D b W s t q c
    have hi : i < 9 := (Array.getElem?_eq_some_iff.1 z).1
    match i, hi with
    | 0, _ =>
      obtain rfl := Option.some.inj z
      have n2 := c.2.no2 (.inl t)
      have n4 := c.2.no4 (c.2.no3 n2)
      have t1 : b.tmps[1]? = some u := (s.rest 1 (Qo8 (k := 8) (by kernel_rfl) n4)).trans rfl
      refine Qa1 (u) ⟨_, rfl, Qa0 c.1 (ve f rfl), c.2.m0⟩ ?_
      clear z q s c t f n2 n4
      go_simp
    | 1, _ =>
      obtain rfl := Option.some.inj z
      refine Qco (.const (.int .u8 1)) (1) rfl rfl ?_
      exact ⟨_, rfl, Qa3 c.1 (ve f rfl), c.2.mk1 t⟩
    | 2, _ =>
      obtain rfl := Option.some.inj z
      have t7 := s.vt 0 7 (u) (q ⟨0, .data⟩ (by simp) rfl) rfl (by simp) (ve f rfl) c.1
      have d0 := q ⟨0, .data⟩ (by simp) rfl
      have N := q ⟨1, .data⟩ (by simp) rfl
      obtain ⟨g, V, -, U⟩ := c.2.lay N t
      have t8 : b.tmps[8]? = some (.slice (some ⟨g, 0, none⟩) 1 1) := (s.done 1 8 N rfl (by simp)).trans (congrArg some V)
      refine Qbc W (.tmp 7) (.tmp 8) 41 rfl 5 i0 Tryz.underlying41 ac ah ai aj C u l (by simp only [Act.eval, Array.getD_eq_getD_getElem?, t7, Option.getD_some]) (c.2.own t F.out.1) g 0 1 [1] (by simp only [Act.eval, Array.getD_eq_getD_getElem?, t8, Option.getD_some] <;> rfl) (fun j hj => by obtain rfl : j = 0 := (by simpa using hj); exact U) (by have := F.out.2.2; simp; omega) (Nat.le_trans F.out.2.1 (c.2.one t).size) ?_
      intro v' w' K
      exact ⟨_, rfl, Qa3 c.1 (ve f rfl), c.2.app d0 N t K⟩
    | 3, _ =>
      obtain rfl := Option.some.inj z
      have t0 : b.tmps[0]? = some (.pointer (some ⟨nb, 0, none⟩)) := s.rs 0 (by kernel_rfl)
      refine Qa1 (.pointer (some ⟨nb, 0, none⟩)) ⟨_, rfl, Qa0 c.1 (ve f rfl), c.2⟩ ?_
      clear z q s c t f
      go_simp
    | 4, _ =>
      obtain rfl := Option.some.inj z
      have bm := s.vt 3 10 (.pointer (some ⟨nb, 0, none⟩)) (q ⟨3, .data⟩ (by simp) rfl) rfl (by simp) (ve f rfl) c.1
      refine Qa1 (.pointer (some ⟨nb, 0, none⟩)) ⟨_, rfl, Qa0 c.1 (ve f rfl), c.2⟩ ?_
      clear z q s c t f
      go_simp
    | 5, _ =>
      obtain rfl := Option.some.inj z
      have bn := s.vt 4 11 (.pointer (some ⟨nb, 0, none⟩)) (q ⟨4, .data⟩ (by simp) rfl) rfl (by simp) (ve f rfl) c.1
      refine Qa1 (.pointer (some ⟨nb, 1, none⟩)) ⟨_, rfl, Qa0 c.1 (ve f rfl), c.2⟩ ?_
      clear z q s c t f
      go_simp
    | 6, _ =>
      obtain rfl := Option.some.inj z
      have bo := s.vt 5 12 (.pointer (some ⟨nb, 1, none⟩)) (q ⟨5, .data⟩ (by simp) rfl) rfl (by simp) (ve f rfl) c.1
      have hq := (World.cell?_of_block (a := ⟨nb, 1, none⟩) (c.2.block E.out.1 E.out.2.1)).trans E.out.2.2.1
      refine Qa1 (.string p) ⟨_, rfl, Qa0 c.1 (ve f rfl), c.2⟩ ?_
      clear z q s c t f
      go_simp
    | 7, _ =>
      obtain rfl := Option.some.inj z
      have bv := s.vt 6 13 (.string p) (q ⟨6, .data⟩ (by simp) rfl) rfl (by simp) (ve f rfl) c.1
      have M := q ⟨2, .data⟩ (by simp) rfl
      have t9 : b.tmps[9]? = some (D 2) := s.done 2 9 M rfl (by simp)
      have P := c.2.two M t
      obtain ⟨x2, ag⟩ : ∃ x, D 2 = x := ⟨_, rfl⟩
      rw [ag] at t9 P
      have HC := Hq (Qkd p W P.own (Nat.le_trans F.out.2.1 P.grown.size) HP.out (by rw [List.length_append]; have := F.out.2.2; simp; omega))
      refine Qbl fun G ar => ?_
      have HG := Hq ar
      have al := Hq c
      have bc := Hq f
      have X := Hq t
      have ba := Hq M
      have bf := Hq ag
      clear ar z q s c t f P M ag
      go_simp
      go_at_call 146
      refine HC.out.mono ?_
      rintro e w9 ⟨v9, rfl, ax⟩
      rw [List.append_assoc] at ax
      exact ⟨_, rfl, (HG.out _ _).2 ⟨Qa3 al.out.1 (by rw [bc.out]; rfl), al.out.2.last ba.out X.out (by rw [bf.out]; exact ax)⟩⟩
    | 8, _ =>
      obtain rfl := Option.some.inj z
      have O := q ⟨7, .data⟩ (by simp) rfl
      have bx : b.tmps[14]? = some (D 7) := s.done 7 14 O rfl (by simp)
      refine Qa1 (D 7) ⟨_, rfl, Qa3 c.1 (ve f rfl), c.2.asg O⟩ ?_
      clear z q s c t f O
      go_simp
  · exact ⟨fun _ _ _ h => (by simp at h), Ap.start HSt.out (by simp) (by simp) (by simp) (by simp) (by simp)⟩
  · intro D W c
    have Y : D 0 = u := c.1 0 _ (ve f rfl) rfl
    have Z : D 3 = .pointer (some ⟨nb, 0, none⟩) := c.1 3 _ (ve f rfl) rfl
    have e4 : D 4 = .pointer (some ⟨nb, 0, none⟩) := c.1 4 _ (ve f rfl) rfl
    have e5 : D 5 = .pointer (some ⟨nb, 1, none⟩) := c.1 5 _ (ve f rfl) rfl
    have e6 : D 6 = .string p := c.1 6 _ (ve f rfl) rfl
    have hX := c.2
    simp only [runFrom, Act.put, Nat.zero_add, Nat.reduceAdd, List.setIfInBounds_toArray, List.set_cons_zero, List.set_cons_succ, Y, Z, e4, e5, e6]
    clear c f Y Z e4 e5 e6
    have HX : Hid (Grew w0 W C u (D 8) (l ++ 1 :: (p.size :: pairsU (bytesOf p)))) := hX.four rfl
    clear hX
    (try go_wp2)
    go_meet
    exact HX.out
 case rest => as_aux_lemma =>
  rename_i u1
  obtain ⟨I, rfl⟩ : ∃ x, x = wc := ⟨_, rfl⟩
  obtain ⟨Q, T⟩ : ∃ L, l ++ 1 :: (p.size :: pairsU (bytesOf p)) = L := ⟨_, rfl⟩
  obtain ⟨m, hm⟩ : ∃ m, y.size % 256 = m := ⟨_, rfl⟩
  have km := Qw4 y.size
  rw [hm] at km
  rw [T] at hcut
  have az : Hid (∀ W' u', Grew I W' C u1 u' (Q ++ m :: bytesOf y) -> Grew w W' C u u' (l ++ 1 :: p.size :: (pairsU (bytesOf p) ++ y.size % 256 :: bytesOf y))) := fun W' u' h => by
    have := (hcut.after b7.out).trans h
    rw [<- T, List.append_assoc] at this
    rw [hm]
    exact this
  have au : Own I C u1 Q /\ C <= I.heap.size /\ Q.length <= 1000000 := ⟨hcut.own, Nat.le_trans F.out.2.1 hcut.grown.size, by
    rw [<- T, List.length_append, List.length_cons, List.length_cons, Qb3, bytesOf_length]
    have := F.out.2.2
    have := X.out.1.1
    omega⟩
  have aq : nb < I.heap.size /\ u1.ownBlock ≠ some nb /\ I.cell? ⟨nb, 1, none⟩ = some (.string p) /\ I.cell? ⟨nb, 2, none⟩ = some (.string y) := by
    have aa := hcut.grown.block nb E.out.1 fun e => E.out.2.1 e.symm
    refine ⟨Nat.lt_of_lt_of_le E.out.1 hcut.grown.size, fun e => ?_, (World.cell?_of_block (a := ⟨nb, 1, none⟩) aa).trans E.out.2.2.1, (World.cell?_of_block (a := ⟨nb, 2, none⟩) aa).trans E.out.2.2.2⟩
    rcases hcut.fresh nb e with e' | e'
    · exact E.out.2.1 e'
    · have := E.out.1; omega
  clear F E HP HSt
  have F := Hq au
  have E := Hq aq
  have HP : Hid (y.size <= 1024) := X.out.2
  have HSt : Hid (Below I.heap.size I I.drew) := (Below.refl _ _).drew
  clear au aq hcut T hm
  go_upto_region 2 with fail
  go_cut [6] (fun a wd => Grew I wd C u1 a (Q ++ m :: bytesOf y))
  case first => as_aux_lemma =>
   refine wp_region_any (by kernel_rfl) ?_
   change wpAny _ _ _ _ _ _ _ (World.drew _)
   obtain ⟨R, f⟩ : ∃ R : Nat -> Option Value, R = fun i => ([some (u1), some (.pointer (some ⟨nb, 0, none⟩)), some (.pointer (some ⟨nb, 0, none⟩)), some (.pointer (some ⟨nb, 2, none⟩)), some (.string y), some (.int .i64 (y.size : Int)), some (.int .u8 (m : Int)), none, none, some (.pointer (some ⟨nb, 0, none⟩)), some (.pointer (some ⟨nb, 0, none⟩)), some (.pointer (some ⟨nb, 2, none⟩)), some (.string y), none, none] : List (Option Value)).getD i none := ⟨_, rfl⟩
   refine Qam _ (fun d v w' => (∀ i x, R i = some x -> d i = true -> v i = x) /\ (fun d v w' => Ap I C u1 Q m (bytesOf y) (d 0) (d 7) (d 8) (d 13) (d 14) (v 7) (v 8) (v 13) (v 14) w') d v w') (by kernel_rfl) (by kernel_rfl) ?_ _ (fun _ => undef) ?_ ?_
   · intro i o z ak D b W s t q c
     have hi : i < 15 := (Array.getElem?_eq_some_iff.1 z).1
     match i, hi with
     | 0, _ =>
       obtain rfl := Option.some.inj z
       have t1 : b.tmps[1]? = some (u1) := s.rs 1 (by kernel_rfl)
       refine Qa1 (u1) ⟨_, rfl, Qa0 c.1 (ve f rfl), c.2.m0⟩ ?_
       clear z q s c t f
       go_simp
     | 1, _ =>
       obtain rfl := Option.some.inj z
       have t0 : b.tmps[0]? = some (.pointer (some ⟨nb, 0, none⟩)) := s.rs 0 (by kernel_rfl)
       refine Qa1 (.pointer (some ⟨nb, 0, none⟩)) ⟨_, rfl, Qa0 c.1 (ve f rfl), c.2⟩ ?_
       clear z q s c t f
       go_simp
     | 2, _ =>
       obtain rfl := Option.some.inj z
       have bz := s.vt 1 16 (.pointer (some ⟨nb, 0, none⟩)) (q ⟨1, .data⟩ (by simp) rfl) rfl (by simp) (ve f rfl) c.1
       refine Qa1 (.pointer (some ⟨nb, 0, none⟩)) ⟨_, rfl, Qa0 c.1 (ve f rfl), c.2⟩ ?_
       clear z q s c t f
       go_simp
     | 3, _ =>
       obtain rfl := Option.some.inj z
       have ce := s.vt 2 17 (.pointer (some ⟨nb, 0, none⟩)) (q ⟨2, .data⟩ (by simp) rfl) rfl (by simp) (ve f rfl) c.1
       refine Qa1 (.pointer (some ⟨nb, 2, none⟩)) ⟨_, rfl, Qa0 c.1 (ve f rfl), c.2⟩ ?_
       clear z q s c t f
       go_simp
     | 4, _ =>
       obtain rfl := Option.some.inj z
       have cf := s.vt 3 18 (.pointer (some ⟨nb, 2, none⟩)) (q ⟨3, .data⟩ (by simp) rfl) rfl (by simp) (ve f rfl) c.1
       have hq := (World.cell?_of_block (a := ⟨nb, 2, none⟩) (c.2.block E.out.1 E.out.2.1)).trans E.out.2.2.2
       refine Qa1 (.string y) ⟨_, rfl, Qa0 c.1 (ve f rfl), c.2⟩ ?_
       clear z q s c t f
       go_simp
     | 5, _ =>
       obtain rfl := Option.some.inj z
       have cg := s.vt 4 19 (.string y) (q ⟨4, .data⟩ (by simp) rfl) rfl (by simp) (ve f rfl) c.1
       refine Qa1 (.int .i64 (y.size : Int)) ⟨_, rfl, Qa0 c.1 (ve f rfl), c.2⟩ ?_
       clear z q s c t f
       go_simp
     | 6, _ =>
       obtain rfl := Option.some.inj z
       have ch := s.vt 5 20 (.int .i64 (y.size : Int)) (q ⟨5, .data⟩ (by simp) rfl) rfl (by simp) (ve f rfl) c.1
       refine Qa1 (.int .u8 (m : Int)) ⟨_, rfl, Qa0 c.1 (ve f rfl), c.2⟩ ?_
       clear z q s c t f
       go_simp
     | 7, _ =>
       obtain rfl := Option.some.inj z
       have bh := s.vt 6 21 (.int .u8 (m : Int)) (q ⟨6, .data⟩ (by simp) rfl) rfl (by simp) (ve f rfl) c.1
       refine Qco (.tmp 21) (m) rfl (by simp only [Act.eval, Array.getD_eq_getD_getElem?, bh, Option.getD_some]) ?_
       exact ⟨_, rfl, Qa3 c.1 (ve f rfl), c.2.mk1 t⟩
     | 8, _ =>
       obtain rfl := Option.some.inj z
       have bg := s.vt 0 15 (u1) (q ⟨0, .data⟩ (by simp) rfl) rfl (by simp) (ve f rfl) c.1
       have d0 := q ⟨0, .data⟩ (by simp) rfl
       have N := q ⟨7, .data⟩ (by simp) rfl
       obtain ⟨g, V, -, U⟩ := c.2.lay N t
       have bi : b.tmps[22]? = some (.slice (some ⟨g, 0, none⟩) 1 1) := (s.done 7 22 N rfl (by simp)).trans (congrArg some V)
       refine Qbc W (.tmp 15) (.tmp 22) 41 rfl 5 i0 Tryz.underlying41 ac ah ai aj C u1 Q (by simp only [Act.eval, Array.getD_eq_getD_getElem?, bg, Option.getD_some]) (c.2.own t F.out.1) g 0 1 [m] (by simp only [Act.eval, Array.getD_eq_getD_getElem?, bi, Option.getD_some] <;> rfl) (fun j hj => by obtain rfl : j = 0 := (by simpa using hj); exact U) (by have := F.out.2.2; simp; omega) (Nat.le_trans F.out.2.1 (c.2.one t).size) ?_
       intro v' w' K
       exact ⟨_, rfl, Qa3 c.1 (ve f rfl), c.2.app d0 N t K⟩
     | 9, _ =>
       obtain rfl := Option.some.inj z
       have t0 : b.tmps[0]? = some (.pointer (some ⟨nb, 0, none⟩)) := s.rs 0 (by kernel_rfl)
       refine Qa1 (.pointer (some ⟨nb, 0, none⟩)) ⟨_, rfl, Qa0 c.1 (ve f rfl), c.2⟩ ?_
       clear z q s c t f
       go_simp
     | 10, _ =>
       obtain rfl := Option.some.inj z
       have ci := s.vt 9 24 (.pointer (some ⟨nb, 0, none⟩)) (q ⟨9, .data⟩ (by simp) rfl) rfl (by simp) (ve f rfl) c.1
       refine Qa1 (.pointer (some ⟨nb, 0, none⟩)) ⟨_, rfl, Qa0 c.1 (ve f rfl), c.2⟩ ?_
       clear z q s c t f
       go_simp
     | 11, _ =>
       obtain rfl := Option.some.inj z
       have cj := s.vt 10 25 (.pointer (some ⟨nb, 0, none⟩)) (q ⟨10, .data⟩ (by simp) rfl) rfl (by simp) (ve f rfl) c.1
       refine Qa1 (.pointer (some ⟨nb, 2, none⟩)) ⟨_, rfl, Qa0 c.1 (ve f rfl), c.2⟩ ?_
       clear z q s c t f
       go_simp
     | 12, _ =>
       obtain rfl := Option.some.inj z
       have cl := s.vt 11 26 (.pointer (some ⟨nb, 2, none⟩)) (q ⟨11, .data⟩ (by simp) rfl) rfl (by simp) (ve f rfl) c.1
       have hq := (World.cell?_of_block (a := ⟨nb, 2, none⟩) (c.2.block E.out.1 E.out.2.1)).trans E.out.2.2.2
       refine Qa1 (.string y) ⟨_, rfl, Qa0 c.1 (ve f rfl), c.2⟩ ?_
       clear z q s c t f
       go_simp
     | 13, _ =>
       obtain rfl := Option.some.inj z
       have bl := s.vt 12 27 (.string y) (q ⟨12, .data⟩ (by simp) rfl) rfl (by simp) (ve f rfl) c.1
       have M := q ⟨8, .data⟩ (by simp) rfl
       have bj : b.tmps[23]? = some (D 8) := s.done 8 23 M rfl (by simp)
       have P := c.2.two M t
       refine Qj0 W (.tmp 23) (.tmp 27) 41 9 rfl 5 i0 Tryz.underlying41 Tryz.underlying9 ac ah ai aj C (D 8) _ (by simp only [Act.eval, Array.getD_eq_getD_getElem?, bj, Option.getD_some]) P.own y (by simp only [Act.eval, Array.getD_eq_getD_getElem?, bl, Option.getD_some]) (by rw [List.length_append]; have := F.out.2.2; have := HP.out; simp; omega) (Nat.le_trans F.out.2.1 P.grown.size) ?_
       intro v' w' K
       rw [List.append_assoc] at K
       exact ⟨_, rfl, Qa3 c.1 (ve f rfl), c.2.last M t K⟩
     | 14, _ =>
       obtain rfl := Option.some.inj z
       have O := q ⟨13, .data⟩ (by simp) rfl
       have cm : b.tmps[28]? = some (D 13) := s.done 13 28 O rfl (by simp)
       refine Qa1 (D 13) ⟨_, rfl, Qa3 c.1 (ve f rfl), c.2.asg O⟩ ?_
       clear z q s c t f O
       go_simp
   · exact ⟨fun _ _ _ h => (by simp at h), Ap.start HSt.out (by simp) (by simp) (by simp) (by simp) (by simp)⟩
   · intro D W c
     have Y : D 0 = u1 := c.1 0 _ (ve f rfl) rfl
     have V : D 1 = .pointer (some ⟨nb, 0, none⟩) := c.1 1 _ (ve f rfl) rfl
     have e2 : D 2 = .pointer (some ⟨nb, 0, none⟩) := c.1 2 _ (ve f rfl) rfl
     have Z : D 3 = .pointer (some ⟨nb, 2, none⟩) := c.1 3 _ (ve f rfl) rfl
     have e4 : D 4 = .string y := c.1 4 _ (ve f rfl) rfl
     have e5 : D 5 = .int .i64 (y.size : Int) := c.1 5 _ (ve f rfl) rfl
     have e6 : D 6 = .int .u8 (m : Int) := c.1 6 _ (ve f rfl) rfl
     have e9 : D 9 = .pointer (some ⟨nb, 0, none⟩) := c.1 9 _ (ve f rfl) rfl
     have am : D 10 = .pointer (some ⟨nb, 0, none⟩) := c.1 10 _ (ve f rfl) rfl
     have ao : D 11 = .pointer (some ⟨nb, 2, none⟩) := c.1 11 _ (ve f rfl) rfl
     have ap : D 12 = .string y := c.1 12 _ (ve f rfl) rfl
     have hX := c.2
     simp only [runFrom, Act.put, Nat.zero_add, Nat.reduceAdd, List.setIfInBounds_toArray, List.set_cons_zero, List.set_cons_succ, Y, V, e2, Z, e4, e5, e6, e9, am, ao, ap]
     clear c f Y V e2 Z e4 e5 e6 e9 am ao ap
     have HX : Hid (Grew I W C u1 (D 14) (Q ++ m :: (bytesOf y))) := hX.four rfl
     clear hX
     (try go_wp2)
     go_meet
     exact HX.out
  case rest => as_aux_lemma =>
   rename_i u2
   have HE := Hq (az.out _ _ hcut)
   clear hcut
   go_wp2
   go_ret
   exact ⟨_, rfl, HE.out⟩
attribute [-go_sem] Instr.buildSlice
theorem Qqz {h : List Nat} (hf : Forest B S w) (hT : Tabs w) (hM : 15 <= B) (hb : S nb = some (.stub h)) (all : Bool) (pp : Option Addr) (n cc : Nat) (hu : Own w C u l) (hC : C <= w.heap.size) (hn : ∀ k, u.ownBlock = some k -> S k = none) (hl : l.length <= 900000) :
   Calls Tryz.prog 71 #[.pointer (some ⟨nb, 0, none⟩), u, .agg #[.bool all, .slice pp n cc]] w fun e w' => ∃ u' w1, e = .returned u' /\ Fr B S S w w1 /\ Grew w1 w' C u u' (l ++ 4 :: h) := by
 obtain ⟨i0, P, R, T, U⟩ := info_parts Qc8
 have F := hf.ok nb _ hb
 rw [Nd.ok] at F
 have z : Below w.heap.size w (w.alloc (.cells #[.bool all, .slice pp n cc] 80)) := (Below.refl _ _).alloc (Nat.le_refl _) _
 obtain ⟨wA, Q⟩ : ∃ x, w.alloc (.cells #[.bool all, .slice pp n cc] 80) = x := ⟨_, rfl⟩
 rw [Q] at z
 have V := Hq (Qdf (hf.below z) (hT.below z (Nat.le_trans hM hf.le)) hM hb (by simp))
 rw [Qyx F.1] at V
 have r : Hid (Forest B S w /\ Own w C u l /\ C <= w.heap.size /\ (∀ k, u.ownBlock = some k -> S k = none) /\ l.length <= 900000 /\ h.length = 32) := ⟨hf, hu, hC, hn, hl, F.1⟩
 have D := Hq z
 clear hf hT hM hb hu hC hn hl F z
 go_enter Tryz.func71, Tryz.ntmps71
 go_wp2_with fail
 refine V.out.mono ?_
 rintro e w1 ⟨rfl, t⟩
 obtain ⟨tt, z1, z2, o1, I, L, N⟩ := Qw9 w1 h.toArray (by simpa using r.out.2.2.2.2.2)
 dsimp only at tt z1 z2 o1 I L N
 go_upto_region 2 with (refine wpList_store_mid rfl 37 _ _ rfl w1.heap.size 0 (h.map encB).toArray rfl rfl tt z1 o1 ?_)
 generalize World.setCells _ w1.heap.size 0 _ = w0 at I L N ⊢
 have J : GrF B S w w0 C u u l := (GrF.of_below r.out.1 r.out.2.1 D.out r.out.2.2.2.1).trans ((GrF.of_fr (r.out.2.1.keep D.out.size fun k K _ => D.out.block k K) t r.out.2.2.2.1).trans (GrF.of_below t.forest ((r.out.2.1.keep D.out.size fun k K _ => D.out.block k K).keep t.size fun k K hv => t.other k K (r.out.2.2.2.1 k hv)) I r.out.2.2.2.1))
 have HG : Hid (Fr B S S w w0) := ((Fr.of_below r.out.1 D.out).trans t).behind I
 obtain ⟨hb, O⟩ : ∃ x, w1.heap.size = x := ⟨_, rfl⟩
 rw [O] at L N ⊢
 have aa := D.out.size
 have ac := t.size
 have H : Hid (Own w0 C u l /\ C <= w0.heap.size /\ l.length <= 900000) := ⟨J.own, Nat.le_trans r.out.2.2.1 J.fr.size, r.out.2.2.2.2.1⟩
 have HB : Hid (hb < w0.heap.size /\ u.ownBlock ≠ some hb) := ⟨N, fun e => by have := (r.out.2.1.block hb e).2; omega⟩
 have HP : Hid (h.length = 32) := r.out.2.2.2.2.2
 have HH : Hid (∀ W : World, W.heap[hb]? = w0.heap[hb]? -> ∀ j, j < h.length -> W.cell? ⟨hb, 0 + j, none⟩ = some (encB h[j]!)) := fun W hW j G => by
   rw [World.cell?_of_block (a := ⟨hb, 0 + j, none⟩) hW, getElem!_pos h j G]
   exact L j _ (by rw [List.getElem?_map, List.getElem?_eq_getElem G]; rfl)
 have HSt : Hid (Below w0.heap.size w0 w0.drew) := (Below.refl _ _).drew
 clear t tt z1 z2 o1 I L N J O aa ac Q V
 simp only [Act.put]
 go_cut [6] (fun a wd => Grew w0 wd C u a (l ++ 4 :: h))
 case first => as_aux_lemma =>
  refine wp_region_any (by kernel_rfl) ?_
  change wpAny _ _ _ _ _ _ _ (World.drew _)
  obtain ⟨vf, m⟩ : ∃ vf : Nat -> Option Value, vf = fun i => ([some (u), none, none, some (.slice (some ⟨hb, 0, none⟩) 32 32), none, none] : List (Option Value)).getD i none := ⟨_, rfl⟩
  refine Qam _ (fun d v w' => (∀ i x, vf i = some x -> d i = true -> v i = x) /\ (fun d v w' => Ap w0 C u l 4 h (d 0) (d 1) (d 2) (d 4) (d 5) (v 1) (v 2) (v 4) (v 5) w') d v w') (by kernel_rfl) (by kernel_rfl) ?_ _ (fun _ => undef) ?_ ?_
  · intro i o y ae s b W q p f c
    have hi : i < 6 := (Array.getElem?_eq_some_iff.1 y).1
    match i, hi with
    | 0, _ =>
     obtain rfl := Option.some.inj y
     have t1 : b.tmps[1]? = some (u) := q.rs 1 (by kernel_rfl)
     refine Qa1 (u) ⟨_, rfl, Qa0 c.1 (ve m rfl), c.2.m0⟩ ?_
     clear y f q c p m
     go_simp
    | 1, _ =>
     obtain rfl := Option.some.inj y
     refine Qco (.const (.int .u8 4)) (4) rfl rfl ?_
     exact ⟨_, rfl, Qa3 c.1 (ve m rfl), c.2.mk1 p⟩
    | 2, _ =>
     obtain rfl := Option.some.inj y
     have ag := q.vt 0 11 (u) (f ⟨0, .data⟩ (by simp) rfl) rfl (by simp) (ve m rfl) c.1
     have d0 := f ⟨0, .data⟩ (by simp) rfl
     have X := f ⟨1, .data⟩ (by simp) rfl
     obtain ⟨g, e1, -, c1⟩ := c.2.lay X p
     have ah : b.tmps[12]? = some (.slice (some ⟨g, 0, none⟩) 1 1) := (q.done 1 12 X rfl (by simp)).trans (congrArg some e1)
     refine Qbc W (.tmp 11) (.tmp 12) 41 rfl 5 i0 Tryz.underlying41 P R T U C u l (by simp only [Act.eval, Array.getD_eq_getD_getElem?, ag, Option.getD_some]) (c.2.own p H.out.1) g 0 1 [4] (by simp only [Act.eval, Array.getD_eq_getD_getElem?, ah, Option.getD_some] <;> rfl) (fun j G => by obtain rfl : j = 0 := (by simpa using G); exact c1) (by have := H.out.2.2; simp; omega) (Nat.le_trans H.out.2.1 (c.2.one p).size) ?_
     intro v' w' E
     exact ⟨_, rfl, Qa3 c.1 (ve m rfl), c.2.app d0 X p E⟩
    | 3, _ =>
     obtain rfl := Option.some.inj y
     have t7 : b.tmps[7]? = some (.pointer (some ⟨hb, 0, none⟩)) := q.rs 7 (by kernel_rfl)
     refine Qa1 (.slice (some ⟨hb, 0, none⟩) 32 32) ⟨_, rfl, Qa0 c.1 (ve m rfl), c.2⟩ ?_
     clear y f q c p m
     go_simp
    | 4, _ =>
     obtain rfl := Option.some.inj y
     have aj := q.vt 3 14 (.slice (some ⟨hb, 0, none⟩) 32 32) (f ⟨3, .data⟩ (by simp) rfl) rfl (by simp) (ve m rfl) c.1
     have Y := f ⟨2, .data⟩ (by simp) rfl
     have ai : b.tmps[13]? = some (s 2) := q.done 2 13 Y rfl (by simp)
     have hG := c.2.two Y p
     refine Qbc W (.tmp 13) (.tmp 14) 41 rfl 5 i0 Tryz.underlying41 P R T U C (s 2) _ (by simp only [Act.eval, Array.getD_eq_getD_getElem?, ai, Option.getD_some]) hG.own hb 0 32 h (by simp only [Act.eval, Array.getD_eq_getD_getElem?, aj, Option.getD_some, HP.out]) (fun j G => HH.out W (c.2.block HB.out.1 HB.out.2) j G) (by rw [List.length_append]; have := H.out.2.2; have := HP.out; simp; omega) (Nat.le_trans H.out.2.1 hG.grown.size) ?_
     intro v' w' E
     rw [List.append_assoc] at E
     exact ⟨_, rfl, Qa3 c.1 (ve m rfl), c.2.last Y p E⟩
    | 5, _ =>
     obtain rfl := Option.some.inj y
     have Z := f ⟨4, .data⟩ (by simp) rfl
     have ak : b.tmps[15]? = some (s 4) := q.done 4 15 Z rfl (by simp)
     refine Qa1 (s 4) ⟨_, rfl, Qa3 c.1 (ve m rfl), c.2.asg Z⟩ ?_
     clear y f q c p m Z
     go_simp
  · exact ⟨fun _ _ _ h => (by simp at h), Ap.start HSt.out (by simp) (by simp) (by simp) (by simp) (by simp)⟩
  · intro s W c
    have e0 : s 0 = u := c.1 0 _ (ve m rfl) rfl
    have e3 : s 3 = .slice (some ⟨hb, 0, none⟩) 32 32 := c.1 3 _ (ve m rfl) rfl
    have hX := c.2
    simp only [runFrom, Act.put, Nat.zero_add, Nat.reduceAdd, List.setIfInBounds_toArray, List.set_cons_zero, List.set_cons_succ, e0, e3]
    clear c m e0 e3
    have HX : Hid (Grew w0 W C u (s 5) (l ++ 4 :: h)) := hX.four rfl
    clear hX
    (try go_wp2)
    go_meet
    exact HX.out
 case rest => as_aux_lemma =>
  rename_i u2
  have HE := Hq hcut
  clear hcut
  go_wp2
  go_ret
  exact ⟨_, _, rfl, HG.out, HE.out⟩
def ShowC (B : Nat) (S : Wood) (t : Nd) : Prop := ∀ (w : World) (c : Nat) (all : Bool) (pp : Option Addr) (ps : List ByteArray) (cc C : Nat) (u : Value) (l : List Nat), Forest B S w -> Tabs w -> 15 <= B -> S c = some t -> StrRow w pp ps cc -> (∀ a, pp = some a -> S a.block = none /\ u.ownBlock ≠ some a.block) -> ps.length <= 1000000 -> Own w C u l -> C <= w.heap.size -> 15 <= C -> (∀ k, u.ownBlock = some k -> S k = none) -> l.length + (t.shw all ps).length <= 900000 ->
 Calls Tryz.prog 52 #[.agg #[.bool all, .slice pp ps.length cc], u, .iface (ndTy t) (.pointer (some ⟨c, 0, none⟩))] w fun e w' => ∃ u', e = .returned u' /\ GrF B S w w' C u u' (l ++ t.shw all ps)
structure Ex1 (B : Nat) (S : Wood) (w0 : World) (C : Nat) (u : Value) (l : List Nat) (all : Bool) (qs : List ByteArray) (L : List Nat) (b0 b4 b5 b6 b10 b11 b12 : Bool) (v5 v11 v12 : Value) (W : World) : Prop where
 d12 : b12 = true -> b11 = true
 d11 : b11 = true -> b0 = true /\ b4 = true /\ b5 = true /\ b6 = true /\ b10 = true
 d5 : b5 = true -> b0 = true /\ b4 = true
 one : b11 = false -> Below w0.heap.size w0 W
 beh : b5 = true -> b11 = false -> ∃ p' c', v5 = .agg #[.bool all, .slice p' qs.length c'] /\ StrRow W p' qs c' /\ ∀ a, p' = some a -> w0.heap.size <= a.block
 two : b11 = true -> GrF B S w0 W C u v11 (l ++ L)
 three : b12 = true -> GrF B S w0 W C u v12 (l ++ L)
section
variable {B : Nat} {S : Wood} {w0 : World} {C : Nat} {u : Value} {l : List Nat} {all : Bool} {qs : List ByteArray} {L : List Nat} {b0 b4 b5 b6 b10 b11 b12 : Bool} {v5 v11 v12 : Value} {W : World}
theorem Ex1.start (h : Below w0.heap.size w0 W) (h5 : b5 = false) (h11 : b11 = false) (h12 : b12 = false) : Ex1 B S w0 C u l all qs L b0 b4 b5 b6 b10 b11 b12 v5 v11 v12 W := by
 subst h5 h11 h12
 exact ⟨fun q => (by cases q), fun q => (by cases q), fun q => (by cases q), fun _ => h, fun q => (by cases q), fun q => (by cases q), fun q => (by cases q)⟩
theorem Ex1.no11 (h : Ex1 B S w0 C u l all qs L b0 b4 b5 b6 b10 b11 b12 v5 v11 v12 W) (h0 : b0 = false \/ b4 = false \/ b5 = false \/ b6 = false \/ b10 = false) : b11 = false := by
 cases hq : b11 with
 | false => rfl
 | true => have := h.d11 hq; rcases h0 with e | e | e | e | e <;> simp [e] at this
theorem Ex1.no12 (h : Ex1 B S w0 C u l all qs L b0 b4 b5 b6 b10 b11 b12 v5 v11 v12 W) (h0 : b11 = false) : b12 = false := by
 cases hq : b12 with
 | false => rfl
 | true => have := h.d12 hq; simp [h0] at this
theorem Ex1.m0 (h : Ex1 B S w0 C u l all qs L b0 b4 b5 b6 b10 b11 b12 v5 v11 v12 W) : Ex1 B S w0 C u l all qs L true b4 b5 b6 b10 b11 b12 v5 v11 v12 W := ⟨h.d12, fun q => ⟨rfl, (h.d11 q).2⟩, fun q => ⟨rfl, (h.d5 q).2⟩, h.one, h.beh, h.two, h.three⟩
theorem Ex1.m4 (h : Ex1 B S w0 C u l all qs L b0 b4 b5 b6 b10 b11 b12 v5 v11 v12 W) : Ex1 B S w0 C u l all qs L b0 true b5 b6 b10 b11 b12 v5 v11 v12 W := ⟨h.d12, fun q => ⟨(h.d11 q).1, rfl, (h.d11 q).2.2⟩, fun q => ⟨(h.d5 q).1, rfl⟩, h.one, h.beh, h.two, h.three⟩
theorem Ex1.m6 (h : Ex1 B S w0 C u l all qs L b0 b4 b5 b6 b10 b11 b12 v5 v11 v12 W) : Ex1 B S w0 C u l all qs L b0 b4 b5 true b10 b11 b12 v5 v11 v12 W := ⟨h.d12, fun q => ⟨(h.d11 q).1, (h.d11 q).2.1, (h.d11 q).2.2.1, rfl, (h.d11 q).2.2.2.2⟩, h.d5, h.one, h.beh, h.two, h.three⟩
theorem Ex1.m10 (h : Ex1 B S w0 C u l all qs L b0 b4 b5 b6 b10 b11 b12 v5 v11 v12 W) : Ex1 B S w0 C u l all qs L b0 b4 b5 b6 true b11 b12 v5 v11 v12 W := ⟨h.d12, fun q => ⟨(h.d11 q).1, (h.d11 q).2.1, (h.d11 q).2.2.1, (h.d11 q).2.2.2.1, rfl⟩, h.d5, h.one, h.beh, h.two, h.three⟩
theorem Ex1.m5 {W' : World} {p' : Option Addr} {c' : Nat} (h : Ex1 B S w0 C u l all qs L b0 b4 b5 b6 b10 b11 b12 v5 v11 v12 W) (h0 : b0 = true) (h4 : b4 = true) (h5 : b5 = false) (hb : Below W.heap.size W W') (hr : StrRow W' p' qs c') (hp : ∀ a, p' = some a -> W.heap.size <= a.block) : Ex1 B S w0 C u l all qs L b0 b4 true b6 b10 b11 b12 (.agg #[.bool all, .slice p' qs.length c']) v11 v12 W' := by
 have b := h.no11 (.inr (.inr (.inl h5)))
 subst b
 have c := h.no12 rfl
 subst c
 exact ⟨fun q => (by cases q), fun q => (by cases q), fun _ => ⟨h0, h4⟩, fun _ => (h.one rfl).behind' hb, fun _ _ => ⟨p', c', rfl, hr, fun a d => Nat.le_trans (h.one rfl).size (hp a d)⟩, fun q => (by cases q), fun q => (by cases q)⟩
theorem Ex1.m11 {W' : World} {v' : Value} (h : Ex1 B S w0 C u l all qs L b0 b4 b5 b6 b10 b11 b12 v5 v11 v12 W) (hd : b0 = true /\ b4 = true /\ b5 = true /\ b6 = true /\ b10 = true) (h11 : b11 = false) (hf : Forest B S w0) (ho : Own w0 C u l) (hn : ∀ k, u.ownBlock = some k -> S k = none) (g : GrF B S W W' C u v' (l ++ L)) : Ex1 B S w0 C u l all qs L b0 b4 b5 b6 b10 true b12 v5 v' v12 W' := by
 subst h11
 have a := h.no12 rfl
 subst a
 exact ⟨fun q => (by cases q), fun _ => hd, h.d5, fun q => (by cases q), fun _ q => (by cases q), fun _ => (GrF.of_below hf ho (h.one rfl) hn).trans g, fun q => (by cases q)⟩
theorem Ex1.m12 (h : Ex1 B S w0 C u l all qs L b0 b4 b5 b6 b10 b11 b12 v5 v11 v12 W) (h11 : b11 = true) : Ex1 B S w0 C u l all qs L b0 b4 b5 b6 b10 b11 true v5 v11 v11 W := ⟨fun _ => h11, h.d11, h.d5, h.one, h.beh, h.two, fun _ => h.two h11⟩
end
attribute [-go_sem] Instr.buildSlice
theorem QB7 {t : Nd} (hf : Forest B S w) (hT : Tabs w) (hM : 15 <= B) (hb : S nb = some (.ext p t)) (hS : ShowC B S t) (all : Bool) (pp : Option Addr) (ps : List ByteArray) (cc : Nat) (hr : StrRow w pp ps cc) (hps : ps.length <= 1000000) (hu : Own w C u l) (hC : C <= w.heap.size) (hCM : 15 <= C) (hn : ∀ k, u.ownBlock = some k -> S k = none) (hl : l.length + ((Nd.ext p t).wit all ps).length <= 900000) :
   Calls Tryz.prog 184 #[.pointer (some ⟨nb, 0, none⟩), u, .agg #[.bool all, .slice pp ps.length cc]] w fun e w' => ∃ u', e = .returned u' /\ GrF B S w w' C u u' (l ++ (Nd.ext p t).wit all ps) := by
 obtain ⟨i0, cf, cj, cl, cm⟩ := info_parts Qc8
 obtain ⟨g, r, _, ch, c0, rg, _, _⟩ := (hf.node nb _ hb).cell
 obtain ⟨tv, rfl, hv⟩ : ∃ v, r = [.string p, v] /\ ndV S v t := ch
 have c1 : w.cell? ⟨nb, 1, none⟩ = some (.string p) := rg 0 _ rfl
 have c2 : w.cell? ⟨nb, 2, none⟩ = some tv := rg 1 _ rfl
 have ba := hf.lt hb
 have ai := hf.ok nb _ hb
 rw [Nd.ok] at ai
 rcases hv with ⟨hv, _⟩ | ⟨hne, c, rfl, hc⟩
 · exact absurd hv ai.2.2
 have aq : u.ownBlock ≠ some nb := fun e => by have := hn nb e; rw [this] at hb; cases hb
 obtain ⟨V, aj⟩ : ∃ q, behP ps p = q := ⟨_, rfl⟩
 obtain ⟨L, hL⟩ : ∃ L, t.shw all V = L := ⟨_, rfl⟩
 have hW : (Nd.ext p t).wit all ps = L ++ 2 :: (p.size :: pairsU (bytesOf p)) := by rw [Nd.wit_ext, aj, hL]
 rw [hW] at hl ⊢
 have bc : l.length + L.length <= 899998 := by rw [List.length_append, List.length_cons, List.length_cons, Qb3, bytesOf_length] at hl; omega
 have ax : Hid (∀ (W : World) (U : Option Addr) (ac : Nat), Forest B S W -> Tabs W -> StrRow W U V ac -> (∀ a, U = some a -> S a.block = none /\ u.ownBlock ≠ some a.block) -> Own W C u l -> C <= W.heap.size -> Calls Tryz.prog 52 #[.agg #[.bool all, .slice U V.length ac], u, .iface (ndTy t) (.pointer (some ⟨c, 0, none⟩))] W fun e w' => ∃ u', e = .returned u' /\ GrF B S W w' C u u' (l ++ L)) := fun W U ac h1 h2 h3 h4 h5 h6 => by
   have := hS W c all U V ac C u l h1 h2 hM hc h3 h4 (by rw [<- aj]; exact Nat.le_trans (Qm5 _ _) hps) h5 h6 hCM hn (by rw [hL]; omega)
   rw [hL] at this
   exact this
 have aw : Hid (∀ W, StrRow W pp ps cc -> Calls Tryz.prog 125 #[.agg #[.bool all, .slice pp ps.length cc], .string p] W fun e w' => ∃ Y c', e = .returned (.agg #[.bool all, .slice Y V.length c']) /\ StrRow w' Y V c' /\ (∀ a, Y = some a -> W.heap.size <= a.block /\ a.block < w'.heap.size) /\ Below W.heap.size W w') := fun W h => by
   have := Qqy (all := all) p W h hps
   rw [aj] at this
   exact this
 have HN : Hid (nibOK p) := ai.1
 have I : Hid (Forest B S w /\ Tabs w /\ 15 <= B /\ Own w C u l /\ C <= w.heap.size /\ (∀ k, u.ownBlock = some k -> S k = none) /\ StrRow w pp ps cc /\ l.length + L.length <= 899998) := ⟨hf, hT, hM, hu, hC, hn, hr, bc⟩
 have O : Hid (nb < w.heap.size /\ u.ownBlock ≠ some nb /\ w.cell? ⟨nb, 1, none⟩ = some (.string p) /\ w.cell? ⟨nb, 2, none⟩ = some (.iface (ndTy t) (.pointer (some ⟨c, 0, none⟩))) /\ S nb = some (.ext p t)) := ⟨ba, aq, c1, c2, hb⟩
 clear hf hT hM hb hS hr hps hu hC hCM hn hl rg ai c0 c1 c2 ba hne hc aq aj hL hW bc
 go_enter Tryz.func184, Tryz.ntmps184
 go_upto_region 1 with fail
 have N : Below w.heap.size w (w.alloc (.cells #[.bool all, .slice pp ps.length cc] 80)) := (Below.refl _ _).alloc (Nat.le_refl _) _
 have ar := Qai w (.cells #[.bool all, .slice pp ps.length cc] 80)
 have bh : (w.alloc (.cells #[.bool all, .slice pp ps.length cc] 80)).heap.size = w.heap.size + 1 := by simp
 generalize World.alloc w _ = w0 at N ar bh ⊢
 obtain ⟨xb, ak⟩ : ∃ x, w.heap.size = x := ⟨_, rfl⟩
 have ay : Hid (Below w.heap.size w w0 /\ w0.heap[xb]? = some (.cells #[.bool all, .slice pp ps.length cc] 80 (0, 0)) /\ xb < w0.heap.size /\ w.heap.size = xb) := ⟨N, by rw [<- ak]; exact ar, by omega, ak⟩
 rw [ak]
 have ae := I.out.1.below N
 have H : Hid (Forest B S w0 /\ Own w0 C u l /\ C <= w0.heap.size /\ (∀ W, Below w0.heap.size w0 W -> Forest B S W /\ Tabs W /\ Own W C u l /\ C <= W.heap.size /\ StrRow W pp ps cc /\ W.cell? ⟨nb, 1, none⟩ = some (.string p) /\ W.cell? ⟨nb, 2, none⟩ = some (.iface (ndTy t) (.pointer (some ⟨c, 0, none⟩))) /\ W.cell? ⟨xb, 0, none⟩ = some (.bool all) /\ W.cell? ⟨xb, 1, none⟩ = some (.slice pp ps.length cc) /\ ∀ a : Addr, w0.heap.size <= a.block -> S a.block = none /\ u.ownBlock ≠ some a.block)) := by
   have ao : Own w0 C u l := I.out.2.2.2.1.keep N.size fun k hk _ => N.block k hk
   refine ⟨ae, ao, Nat.le_trans I.out.2.2.2.2.1 N.size, fun W hb => ?_⟩
   have T := N.behind' hb
   obtain ⟨q0, q1, -⟩ := Qa7 ((hb.block xb (by omega)).trans ay.out.2.1)
   refine ⟨ae.below hb, I.out.2.1.below T (Nat.le_trans I.out.2.2.1 I.out.1.le), ao.keep hb.size fun k hk _ => hb.block k hk, by have := I.out.2.2.2.2.1; have := T.size; omega, ?_, (T.cell (p := ⟨nb, 1, none⟩) O.out.1).trans O.out.2.2.1, (T.cell (p := ⟨nb, 2, none⟩) O.out.1).trans O.out.2.2.2.1, q0, q1, fun a ha => ⟨ae.fresh ha, fun e => by have := (ao.block _ e).2; omega⟩⟩
   exact I.out.2.2.2.2.2.2.1.below T
 have HSt : Hid (Below w0.heap.size w0 w0.drew) := (Below.refl _ _).drew
 clear N ar bh ak ae
 go_cut [1] (fun a wd => GrF B S w0 wd C u a (l ++ L))
 case first => as_aux_lemma =>
  refine wp_region_any (by kernel_rfl) ?_
  change wpAny _ _ _ _ _ _ _ (World.drew _)
  obtain ⟨Z, n⟩ : ∃ Z : Nat -> Option Value, Z = fun i => ([some (.agg #[.bool all, .slice pp ps.length cc]), some (.pointer (some ⟨nb, 0, none⟩)), some (.pointer (some ⟨nb, 0, none⟩)), some (.pointer (some ⟨nb, 1, none⟩)), some (.string p), none, some (u), some (.pointer (some ⟨nb, 0, none⟩)), some (.pointer (some ⟨nb, 0, none⟩)), some (.pointer (some ⟨nb, 2, none⟩)), some (.iface (ndTy t) (.pointer (some ⟨c, 0, none⟩))), none, none] : List (Option Value)).getD i none := ⟨_, rfl⟩
  refine Qam _ (fun d v w' => (∀ i x, Z i = some x -> d i = true -> v i = x) /\ (fun d v w' => Ex1 B S w0 C u l all V L (d 0) (d 4) (d 5) (d 6) (d 10) (d 11) (d 12) (v 5) (v 11) (v 12) w') d v w') (by kernel_rfl) (by kernel_rfl) ?_ _ (fun _ => undef) ?_ ?_
  · intro i o D F E b W s y f m
    have hi : i < 13 := (Array.getElem?_eq_some_iff.1 D).1
    match i, hi with
    | 0, _ =>
      obtain rfl := Option.some.inj D
      have t5 : b.tmps[5]? = some (.pointer (some ⟨xb, 0, none⟩)) := s.rs 5 (by kernel_rfl)
      have P := H.out.2.2.2 W (m.2.one (m.2.no11 (.inl y)))
      obtain ⟨-, -, -, -, -, -, -, q0, q1, -⟩ := P
      refine Qa1 (.agg #[.bool all, .slice pp ps.length cc]) ⟨_, rfl, Qa0 m.1 (ve n rfl), m.2.m0⟩ ?_
      clear D f s m y n
      go_simp
    | 1, _ =>
      obtain rfl := Option.some.inj D
      have t0 : b.tmps[0]? = some (.pointer (some ⟨nb, 0, none⟩)) := s.rs 0 (by kernel_rfl)
      refine Qa1 (.pointer (some ⟨nb, 0, none⟩)) ⟨_, rfl, Qa0 m.1 (ve n rfl), m.2⟩ ?_
      clear D f s m y n
      go_simp
    | 2, _ =>
      obtain rfl := Option.some.inj D
      have t8 := s.vt 1 8 (.pointer (some ⟨nb, 0, none⟩)) (f ⟨1, .data⟩ (by simp) rfl) rfl (by simp) (ve n rfl) m.1
      refine Qa1 (.pointer (some ⟨nb, 0, none⟩)) ⟨_, rfl, Qa0 m.1 (ve n rfl), m.2⟩ ?_
      clear D f s m y n
      go_simp
    | 3, _ =>
      obtain rfl := Option.some.inj D
      have t9 := s.vt 2 9 (.pointer (some ⟨nb, 0, none⟩)) (f ⟨2, .data⟩ (by simp) rfl) rfl (by simp) (ve n rfl) m.1
      refine Qa1 (.pointer (some ⟨nb, 1, none⟩)) ⟨_, rfl, Qa0 m.1 (ve n rfl), m.2⟩ ?_
      clear D f s m y n
      go_simp
    | 4, _ =>
      obtain rfl := Option.some.inj D
      have cz := s.vt 3 10 (.pointer (some ⟨nb, 1, none⟩)) (f ⟨3, .data⟩ (by simp) rfl) rfl (by simp) (ve n rfl) m.1
      have P := (H.out.2.2.2 W (m.2.one (m.2.no11 (.inr (.inl y))))).2.2.2.2.2.1
      refine Qa1 (.string p) ⟨_, rfl, Qa0 m.1 (ve n rfl), m.2.m4⟩ ?_
      clear D f s m y n
      go_simp
    | 5, _ =>
      obtain rfl := Option.some.inj D
      have t7 := s.vt 0 7 (.agg #[.bool all, .slice pp ps.length cc]) (f ⟨0, .data⟩ (by simp) rfl) rfl (by simp) (ve n rfl) m.1
      have dc := s.vt 4 11 (.string p) (f ⟨4, .data⟩ (by simp) rfl) rfl (by simp) (ve n rfl) m.1
      have d0 := f ⟨0, .data⟩ (by simp) rfl
      have d4 := f ⟨4, .data⟩ (by simp) rfl
      have aa : Hid (F.getD 0 false = true /\ F.getD 4 false = true) := ⟨d0, d4⟩
      have bv := Hq (H.out.2.2.2 W (m.2.one (m.2.no11 (.inr (.inr (.inl y)))))).2.2.2.2.1
      refine Qbl fun G K => ?_
      have HG := Hq K
      have J := Hq m
      have R := Hq n
      have al := Hq y
      clear K D f s m y n d0 d4
      go_simp
      go_at_call 125
      refine (aw.out W bv.out).mono ?_
      rintro e w9 ⟨Y, c', rfl, ci, cg, bz⟩
      exact ⟨_, rfl, (HG.out _ _).2 ⟨Qa3 J.out.1 (by rw [R.out]; rfl), J.out.2.m5 aa.out.1 aa.out.2 al.out bz ci (fun a ha => (cg a ha).1)⟩⟩
    | 6, _ =>
      obtain rfl := Option.some.inj D
      have bi := m.2.no11 (.inr (.inr (.inr (.inl y))))
      have bj := m.2.no12 bi
      have t1 : b.tmps[1]? = some u := (s.rest 1 (Qo8 (k := 12) (by kernel_rfl) bj)).trans rfl
      refine Qa1 (u) ⟨_, rfl, Qa0 m.1 (ve n rfl), m.2.m6⟩ ?_
      clear D f s m y n bi bj
      go_simp
    | 7, _ =>
      obtain rfl := Option.some.inj D
      have t0 : b.tmps[0]? = some (.pointer (some ⟨nb, 0, none⟩)) := s.rs 0 (by kernel_rfl)
      refine Qa1 (.pointer (some ⟨nb, 0, none⟩)) ⟨_, rfl, Qa0 m.1 (ve n rfl), m.2⟩ ?_
      clear D f s m y n
      go_simp
    | 8, _ =>
      obtain rfl := Option.some.inj D
      have dg := s.vt 7 14 (.pointer (some ⟨nb, 0, none⟩)) (f ⟨7, .data⟩ (by simp) rfl) rfl (by simp) (ve n rfl) m.1
      refine Qa1 (.pointer (some ⟨nb, 0, none⟩)) ⟨_, rfl, Qa0 m.1 (ve n rfl), m.2⟩ ?_
      clear D f s m y n
      go_simp
    | 9, _ =>
      obtain rfl := Option.some.inj D
      have dh := s.vt 8 15 (.pointer (some ⟨nb, 0, none⟩)) (f ⟨8, .data⟩ (by simp) rfl) rfl (by simp) (ve n rfl) m.1
      refine Qa1 (.pointer (some ⟨nb, 2, none⟩)) ⟨_, rfl, Qa0 m.1 (ve n rfl), m.2⟩ ?_
      clear D f s m y n
      go_simp
    | 10, _ =>
      obtain rfl := Option.some.inj D
      have di := s.vt 9 16 (.pointer (some ⟨nb, 2, none⟩)) (f ⟨9, .data⟩ (by simp) rfl) rfl (by simp) (ve n rfl) m.1
      have P := (H.out.2.2.2 W (m.2.one (m.2.no11 (.inr (.inr (.inr (.inr y))))))).2.2.2.2.2.2.1
      refine Qa1 (.iface (ndTy t) (.pointer (some ⟨c, 0, none⟩))) ⟨_, rfl, Qa0 m.1 (ve n rfl), m.2.m10⟩ ?_
      clear D f s m y n
      go_simp
    | 11, _ =>
      obtain rfl := Option.some.inj D
      have df := s.vt 6 13 (u) (f ⟨6, .data⟩ (by simp) rfl) rfl (by simp) (ve n rfl) m.1
      have dj := s.vt 10 17 (.iface (ndTy t) (.pointer (some ⟨c, 0, none⟩))) (f ⟨10, .data⟩ (by simp) rfl) rfl (by simp) (ve n rfl) m.1
      have d5 := f ⟨5, .data⟩ (by simp) rfl
      have d6 := f ⟨6, .data⟩ (by simp) rfl
      have az := f ⟨10, .data⟩ (by simp) rfl
      have dd := m.2.d5 d5
      have aa : Hid (F.getD 0 false = true /\ F.getD 4 false = true /\ F.getD 5 false = true /\ F.getD 6 false = true /\ F.getD 10 false = true) := ⟨dd.1, dd.2, d5, d6, az⟩
      obtain ⟨Y, c', e5, bg, bf⟩ := m.2.beh d5 y
      have de : b.tmps[12]? = some (.agg #[.bool all, .slice Y V.length c']) := (s.done 5 12 d5 rfl (by simp)).trans (congrArg some e5)
      have P := H.out.2.2.2 W (m.2.one y)
      have bn := Hq (ax.out W Y c' P.1 P.2.1 bg (fun a ha => P.2.2.2.2.2.2.2.2.2 a (bf a ha)) P.2.2.1 P.2.2.2.1)
      refine Qbl fun G K => ?_
      have HG := Hq K
      have J := Hq m
      have R := Hq n
      have al := Hq y
      clear K D f s m y n d5 d6 az dd P bg bf e5
      go_simp
      go_at_call 52
      refine (bn.out).mono ?_
      rintro e w9 ⟨u9, rfl, ag⟩
      exact ⟨_, rfl, (HG.out _ _).2 ⟨Qa3 J.out.1 (by rw [R.out]; rfl), J.out.2.m11 aa.out al.out H.out.1 H.out.2.1 I.out.2.2.2.2.2.1 ag⟩⟩
    | 12, _ =>
      obtain rfl := Option.some.inj D
      have am := f ⟨11, .data⟩ (by simp) rfl
      have dp : b.tmps[18]? = some (E 11) := s.done 11 18 am rfl (by simp)
      refine Qa1 (E 11) ⟨_, rfl, Qa3 m.1 (ve n rfl), m.2.m12 am⟩ ?_
      clear D f s m y n am
      go_simp
  · exact ⟨fun _ _ _ h => (by simp at h), Ex1.start HSt.out (by simp) (by simp) (by simp)⟩
  · intro E W m
    have e0 : E 0 = .agg #[.bool all, .slice pp ps.length cc] := m.1 0 _ (ve n rfl) rfl
    have e1 : E 1 = .pointer (some ⟨nb, 0, none⟩) := m.1 1 _ (ve n rfl) rfl
    have e2 : E 2 = .pointer (some ⟨nb, 0, none⟩) := m.1 2 _ (ve n rfl) rfl
    have e3 : E 3 = .pointer (some ⟨nb, 1, none⟩) := m.1 3 _ (ve n rfl) rfl
    have e4 : E 4 = .string p := m.1 4 _ (ve n rfl) rfl
    have e6 : E 6 = u := m.1 6 _ (ve n rfl) rfl
    have e7 : E 7 = .pointer (some ⟨nb, 0, none⟩) := m.1 7 _ (ve n rfl) rfl
    have e8 : E 8 = .pointer (some ⟨nb, 0, none⟩) := m.1 8 _ (ve n rfl) rfl
    have e9 : E 9 = .pointer (some ⟨nb, 2, none⟩) := m.1 9 _ (ve n rfl) rfl
    have b7 : E 10 = .iface (ndTy t) (.pointer (some ⟨c, 0, none⟩)) := m.1 10 _ (ve n rfl) rfl
    have hX := m.2
    simp only [runFrom, Act.put, Nat.zero_add, Nat.reduceAdd, List.setIfInBounds_toArray, List.set_cons_zero, List.set_cons_succ, e0, e1, e2, e3, e4, e6, e7, e8, e9, b7]
    clear m n e0 e1 e2 e3 e4 e6 e7 e8 e9 b7
    have HX : Hid (GrF B S w0 W C u (E 12) (l ++ L)) := hX.three rfl
    clear hX
    (try go_wp2)
    go_meet
    exact HX.out
 case rest => as_aux_lemma =>
  rename_i u1
  obtain ⟨Q, rfl⟩ : ∃ x, x = wc := ⟨_, rfl⟩
  obtain ⟨X, ah⟩ : ∃ z, l ++ L = z := ⟨_, rfl⟩
  rw [ah] at hcut
  have ap := hcut.away H.out.1 I.out.2.2.2.2.2.1
  have bl : Hid (∀ W' u', Grew Q W' C u1 u' (X ++ 2 :: (p.size :: pairsU (bytesOf p))) -> GrF B S w W' C u u' (l ++ (L ++ 2 :: (p.size :: pairsU (bytesOf p))))) := fun W' u' h => by
    have := ((GrF.of_below I.out.1 I.out.2.2.2.1 ay.out.1 I.out.2.2.2.2.2.1).trans hcut).trans (GrF.of_grew hcut.fr.forest h ap)
    rw [<- ah, List.append_assoc] at this
    exact this
  have HU : Hid (Own Q C u1 X /\ C <= Q.heap.size /\ X.length <= 900000) := ⟨hcut.own, Nat.le_trans H.out.2.2.1 hcut.fr.size, by rw [<- ah, List.length_append]; have := I.out.2.2.2.2.2.2.2; omega⟩
  have HB : Hid (nb < Q.heap.size /\ u1.ownBlock ≠ some nb /\ Q.cell? ⟨nb, 1, none⟩ = some (.string p)) := by
    obtain ⟨g', r', _, bm, _, cp, _, _⟩ := (hcut.fr.forest.node nb _ O.out.2.2.2.2).cell
    obtain ⟨dz, rfl, -⟩ : ∃ v, r' = [.string p, v] /\ ndV S v t := bm
    exact ⟨hcut.fr.forest.lt O.out.2.2.2.2, fun e => (by have := ap nb e; rw [O.out.2.2.2.2] at this; cases this), cp 0 _ rfl⟩
  have HP := HN
  clear HSt
  have HSt : Hid (Below Q.heap.size Q Q.drew) := (Below.refl _ _).drew
  clear hcut ap ah ax aw
  go_upto_region 2 with fail
  go_cut [6] (fun a wd => Grew Q wd C u1 a (X ++ 2 :: (p.size :: pairsU (bytesOf p))))
  case first => as_aux_lemma =>
   refine wp_region_any (by kernel_rfl) ?_
   change wpAny _ _ _ _ _ _ _ (World.drew _)
   obtain ⟨Z, n⟩ : ∃ Z : Nat -> Option Value, Z = fun i => ([some (u1), none, none, some (.pointer (some ⟨nb, 0, none⟩)), some (.pointer (some ⟨nb, 0, none⟩)), some (.pointer (some ⟨nb, 1, none⟩)), some (.string p), none, none] : List (Option Value)).getD i none := ⟨_, rfl⟩
   refine Qam _ (fun d v w' => (∀ i x, Z i = some x -> d i = true -> v i = x) /\ (fun d v w' => Ap Q C u1 X 2 (p.size :: pairsU (bytesOf p)) (d 0) (d 1) (d 2) (d 7) (d 8) (v 1) (v 2) (v 7) (v 8) w') d v w') (by kernel_rfl) (by kernel_rfl) ?_ _ (fun _ => undef) ?_ ?_
   · intro i o D F E b W s y f m
     have hi : i < 9 := (Array.getElem?_eq_some_iff.1 D).1
     match i, hi with
     | 0, _ =>
       obtain rfl := Option.some.inj D
       have t1 : b.tmps[1]? = some (u1) := s.rs 1 (by kernel_rfl)
       refine Qa1 (u1) ⟨_, rfl, Qa0 m.1 (ve n rfl), m.2.m0⟩ ?_
       clear D f s m y n
       go_simp
     | 1, _ =>
       obtain rfl := Option.some.inj D
       refine Qco (.const (.int .u8 2)) (2) rfl rfl ?_
       exact ⟨_, rfl, Qa3 m.1 (ve n rfl), m.2.mk1 y⟩
     | 2, _ =>
       obtain rfl := Option.some.inj D
       have cq := s.vt 0 19 (u1) (f ⟨0, .data⟩ (by simp) rfl) rfl (by simp) (ve n rfl) m.1
       have d0 := f ⟨0, .data⟩ (by simp) rfl
       have d1 := f ⟨1, .data⟩ (by simp) rfl
       obtain ⟨g, e1, -, c1⟩ := m.2.lay d1 y
       have cu : b.tmps[20]? = some (.slice (some ⟨g, 0, none⟩) 1 1) := (s.done 1 20 d1 rfl (by simp)).trans (congrArg some e1)
       refine Qbc W (.tmp 19) (.tmp 20) 41 rfl 5 i0 Tryz.underlying41 cf cj cl cm C u1 X (by simp only [Act.eval, Array.getD_eq_getD_getElem?, cq, Option.getD_some]) (m.2.own y HU.out.1) g 0 1 [2] (by simp only [Act.eval, Array.getD_eq_getD_getElem?, cu, Option.getD_some] <;> rfl) (fun j hj => by obtain rfl : j = 0 := (by simpa using hj); exact c1) (by have := HU.out.2.2; simp; omega) (Nat.le_trans HU.out.2.1 (m.2.one y).size) ?_
       intro v' w' ce
       exact ⟨_, rfl, Qa3 m.1 (ve n rfl), m.2.app d0 d1 y ce⟩
     | 3, _ =>
       obtain rfl := Option.some.inj D
       have t0 : b.tmps[0]? = some (.pointer (some ⟨nb, 0, none⟩)) := s.rs 0 (by kernel_rfl)
       refine Qa1 (.pointer (some ⟨nb, 0, none⟩)) ⟨_, rfl, Qa0 m.1 (ve n rfl), m.2⟩ ?_
       clear D f s m y n
       go_simp
     | 4, _ =>
       obtain rfl := Option.some.inj D
       have dq := s.vt 3 22 (.pointer (some ⟨nb, 0, none⟩)) (f ⟨3, .data⟩ (by simp) rfl) rfl (by simp) (ve n rfl) m.1
       refine Qa1 (.pointer (some ⟨nb, 0, none⟩)) ⟨_, rfl, Qa0 m.1 (ve n rfl), m.2⟩ ?_
       clear D f s m y n
       go_simp
     | 5, _ =>
       obtain rfl := Option.some.inj D
       have dr := s.vt 4 23 (.pointer (some ⟨nb, 0, none⟩)) (f ⟨4, .data⟩ (by simp) rfl) rfl (by simp) (ve n rfl) m.1
       refine Qa1 (.pointer (some ⟨nb, 1, none⟩)) ⟨_, rfl, Qa0 m.1 (ve n rfl), m.2⟩ ?_
       clear D f s m y n
       go_simp
     | 6, _ =>
       obtain rfl := Option.some.inj D
       have dt := s.vt 5 24 (.pointer (some ⟨nb, 1, none⟩)) (f ⟨5, .data⟩ (by simp) rfl) rfl (by simp) (ve n rfl) m.1
       have P := (World.cell?_of_block (a := ⟨nb, 1, none⟩) (m.2.block HB.out.1 HB.out.2.1)).trans HB.out.2.2
       refine Qa1 (.string p) ⟨_, rfl, Qa0 m.1 (ve n rfl), m.2⟩ ?_
       clear D f s m y n
       go_simp
     | 7, _ =>
       obtain rfl := Option.some.inj D
       have du := s.vt 6 25 (.string p) (f ⟨6, .data⟩ (by simp) rfl) rfl (by simp) (ve n rfl) m.1
       have d2 := f ⟨2, .data⟩ (by simp) rfl
       have cw : b.tmps[21]? = some (E 2) := s.done 2 21 d2 rfl (by simp)
       have hG := m.2.two d2 y
       obtain ⟨x2, au⟩ : ∃ x, E 2 = x := ⟨_, rfl⟩
       rw [au] at cw hG
       have HC := Hq (Qkd p W hG.own (Nat.le_trans HU.out.2.1 hG.grown.size) HP.out (by rw [List.length_append]; have := HU.out.2.2; simp; omega))
       refine Qbl fun G K => ?_
       have HG := Hq K
       have J := Hq m
       have R := Hq n
       have HN := Hq y
       have bo := Hq d2
       have bx := Hq au
       clear K D f s m y n hG d2 au
       go_simp
       go_at_call 146
       refine HC.out.mono ?_
       rintro e w9 ⟨v9, rfl, ag⟩
       rw [List.append_assoc] at ag
       exact ⟨_, rfl, (HG.out _ _).2 ⟨Qa3 J.out.1 (by rw [R.out]; rfl), J.out.2.last bo.out HN.out (by rw [bx.out]; exact ag)⟩⟩
     | 8, _ =>
       obtain rfl := Option.some.inj D
       have d3 := f ⟨7, .data⟩ (by simp) rfl
       have dw : b.tmps[26]? = some (E 7) := s.done 7 26 d3 rfl (by simp)
       refine Qa1 (E 7) ⟨_, rfl, Qa3 m.1 (ve n rfl), m.2.asg d3⟩ ?_
       clear D f s m y n d3
       go_simp
   · exact ⟨fun _ _ _ h => (by simp at h), Ap.start HSt.out (by simp) (by simp) (by simp) (by simp) (by simp)⟩
   · intro E W m
     have e0 : E 0 = u1 := m.1 0 _ (ve n rfl) rfl
     have e3 : E 3 = .pointer (some ⟨nb, 0, none⟩) := m.1 3 _ (ve n rfl) rfl
     have e4 : E 4 = .pointer (some ⟨nb, 0, none⟩) := m.1 4 _ (ve n rfl) rfl
     have e5 : E 5 = .pointer (some ⟨nb, 1, none⟩) := m.1 5 _ (ve n rfl) rfl
     have e6 : E 6 = .string p := m.1 6 _ (ve n rfl) rfl
     have hX := m.2
     simp only [runFrom, Act.put, Nat.zero_add, Nat.reduceAdd, List.setIfInBounds_toArray, List.set_cons_zero, List.set_cons_succ, e0, e3, e4, e5, e6]
     clear m n e0 e3 e4 e5 e6
     have HX : Hid (Grew Q W C u1 (E 8) (X ++ 2 :: (p.size :: pairsU (bytesOf p)))) := hX.four rfl
     clear hX
     (try go_wp2)
     go_meet
     exact HX.out
  case rest => as_aux_lemma =>
   rename_i u2
   have HE := Hq (bl.out _ _ hcut)
   clear hcut
   go_wp2
   go_ret
   exact ⟨_, rfl, HE.out⟩
def bit (t : Nd) (i : Nat) : Nat := match t with
 | .no => 0
 | _ => 2 ^ i
theorem Qbm (t : Nd) (ks : List Nd) (i : Nat) : forkB (t :: ks) i = bit t i + forkB ks (i + 1) := by
 cases t <;> simp [forkB, bit]
theorem Qo9 (a b : List Nd) (i : Nat) : forkB (a ++ b) i = forkB a i + forkB b (i + a.length) := by
 induction a generalizing i with
 | nil => simp [forkB]
 | cons x a ih => rw [List.cons_append, Qbm, Qbm, ih, List.length_cons, show i + 1 + a.length = i + (a.length + 1) by omega]; omega
theorem QD7 (t : Nd) (i : Nat) : bit t i <= 2 ^ i := by
 cases t <;> simp [bit]
theorem Qfo (ks : List Nd) (i : Nat) : forkB ks i + 2 ^ i <= 2 ^ (i + ks.length) := by
 induction ks generalizing i with
 | nil => simp [forkB]
 | cons t ks ih =>
  have a := ih (i + 1)
  have b := QD7 t i
  rw [Qbm, List.length_cons, show i + (ks.length + 1) = i + 1 + ks.length by omega]
  have : 2 ^ (i + 1) = 2 * 2 ^ i := by rw [Nat.pow_succ]; omega
  omega
theorem QB8 {f k : Nat} (hf : f < 2 ^ k) (hk : k < 16) : bits .or .u16 (f : Int) (IntKind.u16.wrap (2 ^ k)) = ((f + 2 ^ k : Nat) : Int) := by
 have a : 2 ^ k <= 2 ^ 15 := Nat.pow_le_pow_right (by omega) (by omega)
 have e : (2 : Int) ^ k = ((2 ^ k : Nat) : Int) := by simp
 have b : IntKind.u16.wrap ((2 ^ k : Nat) : Int) = ((2 ^ k : Nat) : Int) := by
  unfold IntKind.wrap
  simp only [IntKind.signed, IntKind.bits]
  generalize 2 ^ k = m at a
  simp
  omega
 rw [e, b, u16_or_nat _ _ (by omega) (by omega), Nat.or_comm, nat_join k (2 ^ k) f (Nat.mod_self _) hf]
 omega
theorem Qw5 (w : World) (k : Nat) : Own (w.alloc (.cells #[.int .u8 (k : Int)] 5)) w.heap.size (.slice (some ⟨w.heap.size, 0, none⟩) 1 1) [k] :=
 .inr ⟨w.heap.size, 1, rfl, Nat.le_refl _, by simp, Nat.le_refl _, by unfold maxLen; omega, Qac w _ 5 _ rfl, fun j hj => by
  obtain rfl : j = 0 := (by simpa using hj)
  exact World.cell?_alloc_new w #[.int .u8 (k : Int)] 5 0⟩
theorem Qj1 (w : World) (x y : Int) : (Instr.buildSlice 41 3 #[(0, .int .u8 3), (1, .int .u8 x), (2, .int .u8 y)]).run Tryz.prog w = .ok (.slice (some ⟨w.heap.size, 0, none⟩) 3 3) (w.alloc (.cells #[.int .u8 3, .int .u8 x, .int .u8 y] 5)) := by
 obtain ⟨i, b, c, a, d⟩ := info_parts Qc8
 refine run_buildSlice w _ 5 3 _ #[.int .u8 3, .int .u8 x, .int .u8 y] i (.int .u8 0) Tryz.underlying41 b c (by rw [a]; decide) (by rw [a]; decide) ?_
 rw [a]
 have := Great.fill_whole (s := 1) (by decide) [.int .u8 3, .int .u8 x, .int .u8 y] ((Array.range (3 * 1)).map ((Value.int .u8 0).cells[· % (Value.int .u8 0).cells.size]!)) (by simp [Value.cells]) (by simp)
 simpa [Value.cells] using this
attribute [-go_sem] Instr.buildSlice
theorem QD8 {ks : List Nd} (hf : Forest B S w) (hT : Tabs w) (hM : 15 <= B) (hb : S nb = some (.br ks)) (hS : ∀ x ∈ ks, x ≠ .no -> ShowC B S x) (all : Bool) (pp : Option Addr) (ps : List ByteArray) (cc : Nat) (hr : StrRow w pp ps cc) (hpp : ∀ a, pp = some a -> S a.block = none /\ u.ownBlock ≠ some a.block) (hps : ps.length <= 1000000) (hu : Own w C u l) (hC : C <= w.heap.size) (hCM : 15 <= C) (hn : ∀ k, u.ownBlock = some k -> S k = none) (hl : l.length + ((Nd.br ks).wit all ps).length <= 900000) :
  Calls Tryz.prog 173 #[.pointer (some ⟨nb, 0, none⟩), u, .agg #[.bool all, .slice pp ps.length cc]] w fun e w' => ∃ u', e = .returned u' /\ GrF B S w w' C u u' (l ++ (Nd.br ks).wit all ps) := by
 obtain ⟨i0, ce, cj, cl, cm⟩ := info_parts Qc8
 obtain ⟨g, r, _, cg, c0, rg, _, _⟩ := (hf.node nb _ hb).cell
 obtain ⟨K, ba⟩ : r.length = 16 /\ ∀ i (h1 : i < r.length) (h2 : i < ks.length), ndV S r[i] ks[i] := cg
 have I := hf.ok nb _ hb
 rw [Nd.ok] at I
 have ci : (Tryz.prog.info? 233).map (·.size) = some r.length := by rw [K]; kernel_rfl
 have bx := hf.lt hb
 obtain ⟨F, hF⟩ : ∃ F, forkB ks 0 = F := ⟨_, rfl⟩
 obtain ⟨L, hL⟩ : ∃ L, wits ks 0 all ps = L := ⟨_, rfl⟩
 have hW : (Nd.br ks).wit all ps = L ++ [3, F % 256, F / 256] := by rw [Nd.wit, hF, hL]
 rw [hW] at hl ⊢
 have ao : F < 65536 := by have := Qfo ks 0; rw [hF, I.1] at this; omega
 have p : Hid (ks.length = 16 /\ oks ks /\ r.length = 16 /\ forkB ks 0 = F /\ wits ks 0 all ps = L /\ F < 65536 /\ l.length + L.length <= 899997) := ⟨I.1, I.2, K, hF, hL, ao, by rw [List.length_append] at hl; simp at hl; omega⟩
 have HV : Hid (∀ i (h1 : i < r.length) (h2 : i < ks.length), ndV S r[i] ks[i]) := ba
 have HS := Hq hS
 have d : Hid (Forest B S w /\ Tabs w /\ 15 <= B /\ Own w C u l /\ C <= w.heap.size /\ (∀ k, u.ownBlock = some k -> S k = none) /\ StrRow w pp ps cc /\ (∀ a, pp = some a -> S a.block = none /\ u.ownBlock ≠ some a.block) /\ ps.length <= 1000000) := ⟨hf, hT, hM, hu, hC, hn, hr, hpp, hps⟩
 have al : Hid (15 <= C) := hCM
 clear hf hT hM hb hS hr hpp hps hu hC hCM hn hl K ba I c0 hF hL hW ao
 go_enter Tryz.func173, Tryz.ntmps173
 go_upto_region 2 with fail
 have y : Below w.heap.size w (w.alloc (.cells #[.bool all, .slice pp ps.length cc] 80)) := (Below.refl _ _).alloc (Nat.le_refl _) _
 have ai := Qai w (.cells #[.bool all, .slice pp ps.length cc] 80)
 have bf : (w.alloc (.cells #[.bool all, .slice pp ps.length cc] 80)).heap.size = w.heap.size + 1 := by simp
 generalize World.alloc w _ = w0 at y ai bf ⊢
 have bh : w0.rangeAt nb 1 r := Qa4 rg (y.block nb bx)
 obtain ⟨O, Y⟩ : ∃ x, w.heap.size = x := ⟨_, rfl⟩
 have ar : GrF B S w w0 C u u l := GrF.of_below d.out.1 d.out.2.2.2.1 y d.out.2.2.2.2.2.1
 have s : Hid (Below w.heap.size w w0 /\ w0.heap[O]? = some (.cells #[.bool all, .slice pp ps.length cc] 80 (0, 0)) /\ O < w0.heap.size /\ w.heap.size = O /\ GrF B S w w0 C u u l /\ S O = none /\ u.ownBlock ≠ some O /\ StrRow w0 pp ps cc) := ⟨y, by rw [<- Y]; exact ai, by omega, Y, ar, d.out.1.fresh (by omega), fun e => by have := (d.out.2.2.2.1.block O e).2; omega, d.out.2.2.2.2.2.2.1.below y⟩
 rw [Y]
 clear y ai bf Y ar rg
 go_wp2_with (refine wpList_load_mid rfl 233 _ rfl nb 1 rfl r _ bh Tryz.underlying233 rfl ci ?_)
 clear bh
 go_loopg [1, 7, 14] 16 (fun gh v f i wr => ∃ k b, k <= 16 /\ gh = 16 - k /\ i = .int .i64 (k : Int) /\ f = .int .u16 ((b : Nat) : Int) /\ b = forkB (ks.take k) 0 /\ GrF B S w0 wr C u v (l ++ wits (ks.take k) 0 all ps))
 case atStart => exact ⟨0, 0, Nat.zero_le _, rfl, rfl, rfl, by simp [forkB], by simpa [wits] using GrF.of_fr s.out.2.2.2.2.1.own (Fr.refl s.out.2.2.2.2.1.fr.forest) d.out.2.2.2.2.2.1⟩
 case round =>
  obtain ⟨k, b, hk, rfl, rfl, rfl, D, hG⟩ := hrel
  obtain ⟨R, o⟩ : ∃ R, l ++ wits (ks.take k) 0 all ps = R := ⟨_, rfl⟩
  rw [o] at hG
  have m := Hq hG
  by_cases cf : k < 16
  ·have cp : (k : Int) < 16 := by omega
   have ay : k < r.length := by have := p.out.2.2.1; omega
   have U : k < ks.length := by have := p.out.1; omega
   have hv := HV.out k ay U
   have q0 := fun w => Qde r k ay p.out.2.2.1 w
   have hx := List.getElem_mem U
   have V : l ++ wits (ks.take (k + 1)) 0 all ps = R ++ ks[k].shw all (behP ps (textB [k])) := by
    rw [List.take_add_one, Qiz, List.getElem?_eq_getElem U, Option.toList, Qe4, wits, List.append_nil, List.length_take, Nat.min_eq_left (by omega), <- o, List.append_assoc, Nat.zero_add]
   have ag : forkB (ks.take (k + 1)) 0 = b + bit ks[k] k := by
    rw [List.take_add_one, Qo9, List.getElem?_eq_getElem U, Option.toList, Qbm, forkB, List.length_take, Nat.min_eq_left (by omega), D, Nat.zero_add]
    omega
   obtain ⟨t, ht⟩ : ∃ t, ks[k] = t := ⟨_, rfl⟩
   rw [ht] at hv hx V ag
   obtain ⟨z, hz⟩ : ∃ z, r[k] = z := ⟨_, rfl⟩
   rw [hz] at hv
   simp only [hz] at q0
   have HN : Hid (l ++ wits (ks.take (k + 1)) 0 all ps = R ++ t.shw all (behP ps (textB [k])) /\ forkB (ks.take (k + 1)) 0 = b + bit t k /\ b < 2 ^ k /\ R.length + (t.shw all (behP ps (textB [k]))).length <= 899997) := by
    refine ⟨V, ag, ?_, ?_⟩
    ·have := Qfo (ks.take k) 0
     rw [<- D, List.length_take, Nat.min_eq_left (by omega), Nat.zero_add] at this
     omega
    ·have h1 := congrArg List.length V
     rw [List.length_append, List.length_append] at h1
     have h2 : (wits (ks.take (k + 1)) 0 all ps).length <= L.length := by
      rw [<- p.out.2.2.2.2.1]
      conv => rhs; rw [<- List.take_append_drop (k + 1) ks, Qiz, List.length_append]
      omega
     have := p.out.2.2.2.2.2.2
     omega
   clear V ag ht hz D hG o
   rcases hv with ⟨rfl, rfl⟩ | ⟨hne, c, rfl, hc⟩
   ·have HE : Hid (forkB (ks.take (k + 1)) 0 = b /\ l ++ wits (ks.take (k + 1)) 0 all ps = R) := by
     refine ⟨by rw [HN.out.2.1]; simp [bit], by rw [HN.out.1]; simp [Nd.shw, Nd.pick]⟩
    clear hx
    go_wp2
    go_roundg (16 - (k + 1))
    case measure => omega
    case rel => exact ⟨k + 1, b, by omega, rfl, by simp, rfl, HE.out.1.symm, by rw [HE.out.2]; exact m.out⟩
   ·obtain ⟨f1, ae⟩ : ∃ f, b + 2 ^ k = f := ⟨_, rfl⟩
    have bz := QB8 HN.out.2.2.1 cf
    rw [ae] at bz
    have HE : Hid (forkB (ks.take (k + 1)) 0 = f1) := by
     rw [HN.out.2.1, <- ae]
     cases t with
     | no => exact absurd rfl hne
     | _ => rfl
    have k8 : IntKind.u8.wrap (k : Int) = (k : Int) := Ql8 (by omega)
    have ap := Qe5 wr k
    have n := s.out
    have bg : wr.heap[O]? = some (.cells #[.bool all, .slice pp ps.length cc] 80 (0, 0)) := (m.out.block n.2.2.1 n.2.2.2.2.2.1 n.2.2.2.2.2.2.1).trans n.2.1
    obtain ⟨z0, z1, -⟩ := Qa7 bg
    have ac : Below wr.heap.size wr (wr.alloc (.cells #[.int .u8 (k : Int)] 5)) := (Below.refl _ _).alloc (Nat.le_refl _) _
    have bc : StrRow wr pp ps cc := m.out.row n.2.2.2.2.2.2.2 d.out.2.2.2.2.2.2.2.1
    have E := m.out.away n.2.2.2.2.1.fr.forest d.out.2.2.2.2.2.1
    obtain ⟨q, ah⟩ : ∃ q, textB [k] = q := ⟨_, rfl⟩
    obtain ⟨qs, X⟩ : ∃ x, behP ps q = x := ⟨_, rfl⟩
    have aq := Qag (P := Tryz.prog) (wr.alloc (.cells #[.int .u8 (k : Int)] 5)) 41 9 5 Tryz.underlying41 Tryz.underlying5 Tryz.underlying9 (Qw5 wr k)
    rw [ah] at aq
    have aa := Hq (Qqy (all := all) q (wr.alloc (.cells #[.int .u8 (k : Int)] 5)) (bc.below ac) d.out.2.2.2.2.2.2.2.2)
    rw [X] at aa
    obtain ⟨R2, T⟩ : ∃ x, t.shw all qs = x := ⟨_, rfl⟩
    have am : Hid (l ++ wits (ks.take (k + 1)) 0 all ps = R ++ R2 /\ R.length + R2.length <= 899997) := by
     have h := HN.out
     rw [ah, X, T] at h
     exact ⟨h.1, h.2.2.2⟩
    have bv : Hid (Tabs wr) := by
     have hM := d.out.2.2.1
     have cq := d.out.1.le
     have H := n.1
     have ax : ∀ i, i < 15 -> wr.heap[i]? = w.heap[i]? := fun i hi => by
      have h1 : S i = none := d.out.1.nothing (by omega)
      refine (m.out.block (by have := H.size; omega) h1 (fun e => ?_)).trans (H.block i (by omega))
      have := (d.out.2.2.2.1.block i e).1
      have := al.out
      omega
     exact d.out.2.1.of_blocks (ax _ (by decide)) (ax _ (by decide))
    have bo : Hid (∀ (W : World) (J : Option Addr) (Q : Nat), Below wr.heap.size wr W -> StrRow W J qs Q -> (∀ a, J = some a -> wr.heap.size <= a.block) -> Calls Tryz.prog 52 #[.agg #[.bool all, .slice J qs.length Q], u1, .iface (ndTy t) (.pointer (some ⟨c, 0, none⟩))] W fun e w' => ∃ u', e = .returned u' /\ GrF B S W w' C u1 u' (R ++ R2)) := fun W J Q hb ch hp => by
     have := HS.out t hx hne W c all J qs Q C u1 R (m.out.fr.forest.below hb) (bv.out.below hb (Nat.le_trans d.out.2.2.1 m.out.fr.forest.le)) d.out.2.2.1 hc ch (fun a ha => ⟨m.out.fr.forest.fresh (hp a ha), fun e => by have := (m.out.own.block _ e).2; have := hp a ha; omega⟩) (by rw [<- X]; exact Nat.le_trans (Qm5 _ _) d.out.2.2.2.2.2.2.2.2) (m.out.own.keep hb.size fun k hk _ => hb.block k hk) (by have := d.out.2.2.2.2.1; have := n.1.size; have := m.out.fr.size; have := hb.size; omega) al.out E (by rw [T]; have := am.out.2; omega)
     rw [T] at this
     exact this
    have aj := Hq ac
    have bn := Hq E
    clear hx hc hne n bg ac bc E ah X T ae
    go_wp2_with fail
    refine aa.out.mono ?_
    rintro e N ⟨p', c', rfl, b7, az, H⟩
    have ak : Hid (Below wr.heap.size wr N) := aj.out.behind' H
    have bl := Hq (bo.out N p' c' ak.out b7 (fun a ha => Nat.le_trans aj.out.size (az a ha).1))
    clear b7 az H aa ap aq z0 z1
    go_wp2_with fail
    refine bl.out.mono ?_
    rintro e w3 ⟨u3, rfl, au⟩
    have bm : Hid (GrF B S w0 w3 C u u3 (l ++ wits (ks.take (k + 1)) 0 all ps)) := by
     rw [am.out.1]
     exact (m.out.trans (GrF.of_below m.out.fr.forest m.out.own ak.out bn.out)).trans au
    clear au
    go_wp2
    go_roundg (16 - (k + 1))
    case measure => omega
    case rel => exact ⟨k + 1, f1, by omega, rfl, by simp, rfl, HE.out.symm, bm.out⟩
  ·obtain rfl : k = 16 := by omega
   have bi : ks.take 16 = ks := List.take_of_length_le (by have := p.out.1; omega)
   rw [bi] at D o
   rw [p.out.2.2.2.1] at D
   rw [p.out.2.2.2.2.1] at o
   subst D
   have ap := Qj1 wr ((b : Int) % 256) ((b : Int) / 256 % 256)
   have E := m.out.away s.out.2.2.2.2.1.fr.forest d.out.2.2.2.2.2.1
   have Z : Hid (∀ G, G = wr.alloc (.cells #[.int .u8 3, .int .u8 ((b : Int) % 256), .int .u8 ((b : Int) / 256 % 256)] 5) -> Own G C u1 R /\ (∀ j, j < [3, b % 256, b / 256].length -> G.cell? ⟨wr.heap.size, 0 + j, none⟩ = some (encB [3, b % 256, b / 256][j]!)) /\ R.length + [3, b % 256, b / 256].length <= 140737488355328 /\ C <= G.heap.size /\ ∀ v2 N, Grew G N C u1 v2 (R ++ [3, b % 256, b / 256]) -> GrF B S w N C u v2 (l ++ (L ++ [3, b % 256, b / 256]))) := by
    rintro G rfl
    have hF := p.out.2.2.2.2.2.1
    refine ⟨m.out.own.alloc _, fun j hj => ?_, ?_, ?_, fun v2 N h2 => ?_⟩
    ·rw [Nat.zero_add, World.cell?_alloc_new]
     match j, hj with
     | 0, _ => rfl
     | 1, _ => rfl
     | 2, _ =>
      show some (Value.int .u8 ((b : Int) / 256 % 256)) = some (.int .u8 ((b / 256 : Nat) : Int))
      congr 2
      omega
    ·have := p.out.2.2.2.2.2.2
     rw [<- o, List.length_append]
     simp
     omega
    ·have := d.out.2.2.2.2.1; have := s.out.1.size; have := m.out.fr.size; simp; omega
    ·have := (s.out.2.2.2.2.1.trans m.out).trans (GrF.of_grew m.out.fr.forest (h2.after ((Below.refl _ _).alloc (Nat.le_refl _) _)) E)
     rw [<- o, List.append_assoc] at this
     exact this
   clear E o hG
   go_wp2_with (at_builtin; refine Qal _ rfl _ _ 41 rfl 5 i0 Tryz.underlying41 ce cj cl cm C u1 _ rfl (Z.out _ rfl).1 wr.heap.size 0 3 [3, b % 256, b / 256] rfl (Z.out _ rfl).2.1 (Z.out _ rfl).2.2.1 (Z.out _ rfl).2.2.2.1 ?_; intro v2 N aw; have bj := Hq ((Z.out _ rfl).2.2.2.2 _ _ aw); clear aw Z)
   go_ret
   exact ⟨_, rfl, bj.out⟩
def opFn : Nd -> FuncId
 | .no => 0
 | .leaf _ _ => 141
 | .ext _ _ => 184
 | .br _ => 173
 | .stub _ => 71
theorem mOps (t : Nd) (ht : t ≠ .no) (a : Addr) (w : World) : (Go.method 386 (ndTy t) (.pointer (some a)) "twigs/tree.operations").run Tryz.prog w = .ok (opFn t, .pointer (some a)) w := by
 cases t with
 | no => exact absurd rfl ht
 | leaf _ _ => kernel_rfl
 | ext _ _ => kernel_rfl
 | br _ => kernel_rfl
 | stub _ => kernel_rfl
theorem QDt (t : Nd) (ht : t ≠ .no) (args : Array Value) (w : World) : (callFunc (opFn t) args).run Tryz.prog w = .ok (.enter (opFn t) args) w := by
 cases t with
 | no => exact absurd rfl ht
 | leaf _ _ => kernel_rfl
 | ext _ _ => kernel_rfl
 | br _ => kernel_rfl
 | stub _ => kernel_rfl
def OpsC (B : Nat) (S : Wood) (t : Nd) : Prop := ∀ (w : World) (c : Nat) (all : Bool) (pp : Option Addr) (ps : List ByteArray) (cc C : Nat) (u : Value) (l : List Nat), Forest B S w -> Tabs w -> 15 <= B -> S c = some t -> StrRow w pp ps cc -> (∀ a, pp = some a -> S a.block = none /\ u.ownBlock ≠ some a.block) -> ps.length <= 1000000 -> Own w C u l -> C <= w.heap.size -> 15 <= C -> (∀ k, u.ownBlock = some k -> S k = none) -> l.length + (t.wit all ps).length <= 900000 ->
 Calls Tryz.prog (opFn t) #[.pointer (some ⟨c, 0, none⟩), u, .agg #[.bool all, .slice pp ps.length cc]] w fun e w' => ∃ u', e = .returned u' /\ GrF B S w w' C u u' (l ++ t.wit all ps)
structure Sh3 (B : Nat) (S : Wood) (w0 : World) (C : Nat) (u : Value) (l D : List Nat) (b1 b2 b3 b4 b5 b6 : Bool) (v2 v5 v6 : Value) (W : World) : Prop where
 d6 : b6 = true -> b5 = true
 d5 : b5 = true -> b2 = true /\ b3 = true /\ b4 = true
 d2 : b2 = true -> b1 = true
 one : b2 = false -> Fr B S S w0 W
 two : b2 = true -> b5 = false -> ∃ hb, v2 = .pointer (some ⟨hb, 0, none⟩) /\ w0.heap.size <= hb /\ hb < W.heap.size /\ Fr B S (S.put hb (.stub D)) w0 W
 five : b5 = true -> GrF B S w0 W C u v5 (l ++ 4 :: D)
 six : b6 = true -> GrF B S w0 W C u v6 (l ++ 4 :: D)
section
variable {B : Nat} {S : Wood} {w0 : World} {C : Nat} {u : Value} {l D : List Nat} {b1 b2 b3 b4 b5 b6 : Bool} {v2 v5 v6 : Value} {W : World}
theorem Sh3.start (h : Fr B S S w0 W) (h2 : b2 = false) (h5 : b5 = false) (h6 : b6 = false) : Sh3 B S w0 C u l D b1 b2 b3 b4 b5 b6 v2 v5 v6 W := by
 subst h2 h5 h6
 exact ⟨fun q => (by cases q), fun q => (by cases q), fun q => (by cases q), fun _ => h, fun q => (by cases q), fun q => (by cases q), fun q => (by cases q)⟩
theorem Sh3.no5 (h : Sh3 B S w0 C u l D b1 b2 b3 b4 b5 b6 v2 v5 v6 W) (h0 : b2 = false \/ b3 = false \/ b4 = false) : b5 = false := by
 cases hq : b5 with
 | false => rfl
 | true => have := h.d5 hq; rcases h0 with e | e | e <;> simp [e] at this
theorem Sh3.no2 (h : Sh3 B S w0 C u l D b1 b2 b3 b4 b5 b6 v2 v5 v6 W) (h0 : b1 = false) : b2 = false := by
 cases hq : b2 with
 | false => rfl
 | true => have := h.d2 hq; simp [h0] at this
theorem Sh3.no6 (h : Sh3 B S w0 C u l D b1 b2 b3 b4 b5 b6 v2 v5 v6 W) (h0 : b5 = false) : b6 = false := by
 cases hq : b6 with
 | false => rfl
 | true => have := h.d6 hq; simp [h0] at this
theorem Sh3.fr (h : Sh3 B S w0 C u l D b1 b2 b3 b4 b5 b6 v2 v5 v6 W) (hf : Forest B S w0) (h5 : b5 = false) : Fr B S S w0 W := by
 cases hq : b2 with
 | false => exact h.one hq
 | true =>
  obtain ⟨b, -, -, -, a⟩ := h.two hq h5
  exact a.less hf
theorem Sh3.m3 (h : Sh3 B S w0 C u l D b1 b2 b3 b4 b5 b6 v2 v5 v6 W) : Sh3 B S w0 C u l D b1 b2 true b4 b5 b6 v2 v5 v6 W := ⟨h.d6, fun q => ⟨(h.d5 q).1, rfl, (h.d5 q).2.2⟩, h.d2, h.one, h.two, h.five, h.six⟩
theorem Sh3.m4 (h : Sh3 B S w0 C u l D b1 b2 b3 b4 b5 b6 v2 v5 v6 W) : Sh3 B S w0 C u l D b1 b2 b3 true b5 b6 v2 v5 v6 W := ⟨h.d6, fun q => ⟨(h.d5 q).1, (h.d5 q).2.1, rfl⟩, h.d2, h.one, h.two, h.five, h.six⟩
variable {W' : World}
theorem Sh3.m1 (h : Sh3 B S w0 C u l D b1 b2 b3 b4 b5 b6 v2 v5 v6 W) (h1 : b1 = false) (hf : Fr B S S W W') : Sh3 B S w0 C u l D true b2 b3 b4 b5 b6 v2 v5 v6 W' := by
 have a := h.no2 h1
 subst a
 have b := h.no5 (.inl rfl)
 subst b
 have c := h.no6 rfl
 subst c
 exact ⟨fun q => (by cases q), fun q => (by cases q), fun q => (by cases q), fun _ => (h.one rfl).trans hf, fun q => (by cases q), fun q => (by cases q), fun q => (by cases q)⟩
theorem Sh3.m2 {hb : Nat} (h : Sh3 B S w0 C u l D b1 b2 b3 b4 b5 b6 v2 v5 v6 W) (h1 : b1 = true) (h2 : b2 = false) (hD : D.length = 32 /\ ∀ x ∈ D, x < 256) (hh : W.heap.size <= hb) (hbl : Below W.heap.size W W') (hc : W'.heap[hb]? = some (.cells [.string (textB (textCode D))].toArray 208 (0, 0))) : Sh3 B S w0 C u l D b1 true b3 b4 b5 b6 (.pointer (some ⟨hb, 0, none⟩)) v5 v6 W' := by
 subst h2
 have b := h.no5 (.inl rfl)
 subst b
 have c := h.no6 rfl
 subst c
 have a := Fr.fresh (h.one rfl).forest hbl hh (t := .stub D) (h := textB (textCode D)) (r := []) (.inl rfl) rfl (by rw [Nd.ok]; exact hD) hc
 exact ⟨fun q => (by cases q), fun q => (by cases q), fun _ => h1, fun q => (by cases q), fun _ _ => ⟨hb, rfl, Nat.le_trans (h.one rfl).size hh, (Array.getElem?_eq_some_iff.1 hc).1, (h.one rfl).trans a⟩, fun q => (by cases q), fun q => (by cases q)⟩
theorem Sh3.m5 {v' : Value} (h : Sh3 B S w0 C u l D b1 b2 b3 b4 b5 b6 v2 v5 v6 W) (hd : b2 = true /\ b3 = true /\ b4 = true) (h5 : b5 = false) (g : GrF B S w0 W' C u v' (l ++ 4 :: D)) : Sh3 B S w0 C u l D b1 b2 b3 b4 true b6 v2 v' v6 W' := by
 subst h5
 have a := h.no6 rfl
 subst a
 exact ⟨fun q => (by cases q), fun _ => hd, h.d2, fun q => (by rw [hd.1] at q; cases q), fun _ q => (by cases q), fun _ => g, fun q => (by cases q)⟩
theorem Sh3.m6 (h : Sh3 B S w0 C u l D b1 b2 b3 b4 b5 b6 v2 v5 v6 W) (h5 : b5 = true) : Sh3 B S w0 C u l D b1 b2 b3 b4 b5 true v2 v5 v5 W := ⟨fun _ => h5, h.d5, h.d2, h.one, h.two, h.five, fun _ => h.five h5⟩
end
theorem Nd.dig_byte (t : Nd) (h : t.ok) : ∀ x ∈ t.dig, x < 256 := by
 unfold Nd.dig
 split
 ·exact Qdt _
 ·exact fun x a => t.ref_byte h x (List.mem_of_mem_drop a)
attribute [-go_sem] Instr.buildSlice
theorem Qpe {t : Nd} (hne : t ≠ .no) (hO : OpsC B S t) : ShowC B S t := by
 intro w c z K E N C u l I hT hM hc hr ao ar hu hC aq hn hl
 obtain ⟨L, hL⟩ : ∃ L, t.shw z E = L := ⟨_, rfl⟩
 rw [hL] at hl ⊢
 have bi := I.ok c t hc
 have hm := mOps t hne
 have cp := QDt t hne
 have cw := mRef t hne
 have bn := Qx6 t hne
 have p : Hid (Forest B S w /\ Tabs w /\ 15 <= B /\ S c = some t /\ StrRow w K E N /\ (∀ a, K = some a -> S a.block = none /\ u.ownBlock ≠ some a.block) /\ E.length <= 1000000 /\ Own w C u l /\ C <= w.heap.size /\ 15 <= C /\ (∀ k, u.ownBlock = some k -> S k = none) /\ l.length + L.length <= 900000) := ⟨I, hT, hM, hc, hr, ao, ar, hu, hC, aq, hn, hl⟩
 have HL : Hid (t.shw z E = L /\ t.ok) := ⟨hL, bi⟩
 have V : Hid (t.shw z E = t.wit z E -> ∀ W, GrF B S w W C u u l -> Calls Tryz.prog (opFn t) #[.pointer (some ⟨c, 0, none⟩), u, .agg #[.bool z, .slice K E.length N]] W fun e Y => ∃ u', e = .returned u' /\ GrF B S W Y C u u' (l ++ L)) := fun he W hg => by
  have O : ∀ i, i < 15 -> W.heap[i]? = w.heap[i]? := fun i hi => hg.block (by have := I.le; omega) (I.nothing (by omega)) fun e => by have := (hu.block i e).1; omega
  have := hO W c z K E N C u l hg.fr.forest (hT.of_blocks (O _ (by decide)) (O _ (by decide))) hM hc (hg.row hr ao) ao ar hg.own (Nat.le_trans hC hg.fr.size) aq hn (by rw [<- he, hL]; exact hl)
  rw [<- he, hL] at this
  exact this
 clear I hT hM hc hr ao ar hu hC aq hn hl hL bi hO
 go_enter Tryz.func52, Tryz.ntmps52
 go_upto_region 1 with fail
 have ak : Below w.heap.size w (w.alloc (.cells #[.bool z, .slice K E.length N] 80)) := (Below.refl _ _).alloc (Nat.le_refl _) _
 have ai := Qai w (.cells #[.bool z, .slice K E.length N] 80)
 have bl : (w.alloc (.cells #[.bool z, .slice K E.length N] 80)).heap.size = w.heap.size + 1 := by simp
 generalize World.alloc w _ = w0 at ak ai bl ⊢
 obtain ⟨U, ax⟩ : ∃ x, w.heap.size = x := ⟨_, rfl⟩
 rw [ax] at ai ⊢
 obtain ⟨z0, z1, -⟩ := Qa7 ai
 have bh : GrF B S w w0 C u u l := GrF.of_below p.out.1 p.out.2.2.2.2.2.2.2.1 ak p.out.2.2.2.2.2.2.2.2.2.2.1
 have r : Hid (Below w.heap.size w w0 /\ w0.heap[U]? = some (.cells #[.bool z, .slice K E.length N] 80 (0, 0)) /\ U < w0.heap.size /\ w.heap.size = U /\ GrF B S w w0 C u u l /\ S U = none /\ u.ownBlock ≠ some U) := ⟨ak, ai, by omega, ax, bh, p.out.1.fresh (by omega), fun e => by have := (p.out.2.2.2.2.2.2.2.1.block U e).2; omega⟩
 clear ak ai bl ax bh
 cases z with
 | true =>
  have R := V.out (by simp [Nd.shw, Nd.pick]) w0 r.out.2.2.2.2.1
  have HC := Hq R
  clear R V
  go_wp2_with fail
  refine HC.out.mono ?_
  rintro e F ⟨u1, rfl, H⟩
  have HE := Hq (r.out.2.2.2.2.1.trans H)
  clear H
  go_wp2
  go_ret
  exact ⟨_, rfl, HE.out⟩
 | false =>
  by_cases Z : E = []
  ·subst Z
   have ba : Tabs w0 := p.out.2.1.below r.out.1 (Nat.le_trans p.out.2.2.1 p.out.1.le)
   have HR := Hq (Qhk B S t hne w0 c r.out.2.2.2.2.1.fr.forest ba p.out.2.2.1 p.out.2.2.2.1)
   obtain ⟨rs, au⟩ : ∃ s, textB t.ref = s := ⟨_, rfl⟩
   have bm : rs.size = t.ref.length := by rw [<- au]; exact Qaa _
   rw [au] at HR
   clear ba au
   go_wp2_with fail
   refine HR.out.mono ?_
   rintro e F ⟨rfl, al⟩
   have H : GrF B S w F C u u l := r.out.2.2.2.2.1.trans (GrF.of_fr r.out.2.2.2.2.1.own al p.out.2.2.2.2.2.2.2.2.2.2.1)
   have ap : F.heap[U]? = some (.cells #[.bool false, .slice K 0 N] 80 (0, 0)) := (al.other U r.out.2.2.1 r.out.2.2.2.2.2.1).trans r.out.2.1
   obtain ⟨y0, y1, -⟩ := Qa7 ap
   have y := Hq H
   have ay := Hq ap
   by_cases aj : t.ref.length < 32
   ·have R := V.out (by simp [Nd.shw, Nd.pick, aj]) F H
    have HC := Hq R
    have i1 : (rs.size : Int) < 32 := by omega
    clear R V aj al H ap z0 z1 bm HR
    go_wp2_with fail
    refine HC.out.mono ?_
    rintro e w2 ⟨u1, rfl, am⟩
    have HE := Hq (y.out.trans am)
    clear am
    go_wp2
    go_ret
    exact ⟨_, rfl, HE.out⟩
   ·obtain ⟨D, hD⟩ : ∃ D, t.dig = D := ⟨_, rfl⟩
    have b7 : L = 4 :: D := by
      rw [<- HL.out.1, <- hD]
      cases t with
      | no => exact absurd rfl hne
      | _ => simp only [Nd.shw, Nd.pick]; simp [aj]
    have i1 : (32 : Int) <= (rs.size : Int) := by omega
    have aa : Hid (D.length = 32 /\ (∀ x ∈ D, x < 256) /\ L = 4 :: D) := ⟨by rw [<- hD]; exact t.dig_length HL.out.2, by rw [<- hD]; exact t.dig_byte HL.out.2, b7⟩
    clear hm cp cw bn V aj al H ap z0 z1 bm HR b7 y0 y1
    have bz : Hid (∀ W, Fr B S S F W -> Calls Tryz.prog 39 #[.iface (ndTy t) (.pointer (some ⟨c, 0, none⟩))] W fun e Y => e = .returned (.agg (D.map encB).toArray) /\ Fr B S S W Y) := fun W I => by
      have O : ∀ i, i < 15 -> W.heap[i]? = w.heap[i]? := fun i hi => by
        have cu := p.out.1.le
        have hM := p.out.2.2.1
        have h0 : S i = none := p.out.1.nothing (by omega)
        exact (I.other i (by have := y.out.fr.size; omega) h0).trans (y.out.block (by omega) h0 fun e => by have := (p.out.2.2.2.2.2.2.2.1.block i e).1; have := p.out.2.2.2.2.2.2.2.2.2.1; omega)
      have := Qdf I.forest (p.out.2.1.of_blocks (O _ (by decide)) (O _ (by decide))) p.out.2.2.1 p.out.2.2.2.1 hne
      rw [hD] at this
      exact this
    have az : Hid (U < F.heap.size /\ S U = none) := ⟨(Array.getElem?_eq_some_iff.1 ay.out).1, r.out.2.2.2.2.2.1⟩
    have cf : Hid (∀ W O, F.heap.size <= O -> Fr B S (S.put O (.stub D)) F W -> Calls Tryz.prog 71 #[.pointer (some ⟨O, 0, none⟩), u, .agg #[.bool false, .slice K 0 N]] W fun e Y => ∃ u', e = .returned u' /\ GrF B S F Y C u u' (l ++ 4 :: D)) := fun W O hh I => by
      have aw := y.out.own
      have ah : ∀ k, u.ownBlock = some k -> S k = none /\ k < F.heap.size := fun k e => ⟨p.out.2.2.2.2.2.2.2.2.2.2.1 k e, (aw.block k e).2⟩
      have cu := p.out.1.le
      have hM := p.out.2.2.1
      have bf : ∀ i, i < 15 -> W.heap[i]? = w.heap[i]? := fun i hi => by
        have h0 : S i = none := p.out.1.nothing (by omega)
        exact (I.other i (by have := y.out.fr.size; omega) h0).trans (y.out.block (by omega) h0 fun e => by have := (p.out.2.2.2.2.2.2.2.1.block i e).1; have := p.out.2.2.2.2.2.2.2.2.2.1; omega)
      have dc : Own W C u l := aw.keep I.size fun k hk e => I.other k hk (ah k e).1
      refine (Qqz I.forest (p.out.2.1.of_blocks (bf _ (by decide)) (bf _ (by decide))) hM (Wood.put_same _ _ _) false K 0 N dc (by have := p.out.2.2.2.2.2.2.2.2.1; have := y.out.fr.size; have := I.size; omega) (fun k e => by rw [Wood.put_other _ _ _ (by have := (ah k e).2; omega)]; exact (ah k e).1) (by have := p.out.2.2.2.2.2.2.2.2.2.2.2; omega)).mono ?_
      rintro e Y ⟨u', w2, rfl, cl, am⟩
      have bg := (I.trans cl).less y.out.fr.forest
      exact ⟨u', rfl, (GrF.of_fr aw bg fun k e => (ah k e).1).trans (GrF.of_grew bg.forest am fun k e => (ah k e).1)⟩
    have HSt : Hid (Fr B S S F F.drew) := Fr.of_below y.out.fr.forest (Below.refl _ _).drew
    clear hD
    go_upto_region 3 with fail
    go_cut [6] (fun a wd => GrF B S F wd C u a (l ++ 4 :: D))
    case first => as_aux_lemma =>
     refine wp_region_any (by kernel_rfl) ?_
     change wpAny _ _ _ _ _ _ _ (World.drew _)
     obtain ⟨vf, g⟩ : ∃ vf : Nat -> Option Value, vf = fun i => ([some (.iface (ndTy t) (.pointer (some ⟨c, 0, none⟩))), some (.agg (D.map encB).toArray), none, some (u), some (.agg #[.bool false, .slice K 0 N]), none, none] : List (Option Value)).getD i none := ⟨_, rfl⟩
     refine Qam _ (fun d v Y => (∀ i x, vf i = some x -> d i = true -> v i = x) /\ (fun d v Y => Sh3 B S F C u l D (d 1) (d 2) (d 3) (d 4) (d 5) (d 6) (v 2) (v 5) (v 6) Y) d v Y) (by kernel_rfl) (by kernel_rfl) ?_ _ (fun _ => undef) ?_ ?_
     · intro i o J X T b W m q f j
       have hi : i < 7 := (Array.getElem?_eq_some_iff.1 J).1
       match i, hi with
       | 0, _ =>
         obtain rfl := Option.some.inj J
         have t2 : b.tmps[2]? = some (.iface (ndTy t) (.pointer (some ⟨c, 0, none⟩))) := m.rs 2 (by kernel_rfl)
         refine Qa1 (.iface (ndTy t) (.pointer (some ⟨c, 0, none⟩))) ⟨_, rfl, Qa0 j.1 (ve g rfl), j.2⟩ ?_
         clear J f m j q g
         go_simp
       | 1, _ =>
         obtain rfl := Option.some.inj J
         have df := m.vt 0 25 (.iface (ndTy t) (.pointer (some ⟨c, 0, none⟩))) (f ⟨0, .data⟩ (by simp) rfl) rfl (by simp) (ve g rfl) j.1
         have ce := Hq (j.2.one (j.2.no2 q))
         refine Qbl fun G Q => ?_
         have HG := Hq Q
         have P := Hq j
         have ae := Hq g
         have ac := Hq q
         clear Q J f m j q g
         go_simp
         go_at_call 39
         refine (bz.out W ce.out).mono ?_
         rintro e w9 ⟨rfl, cm⟩
         exact ⟨_, rfl, (HG.out _ _).2 ⟨Qa0 P.out.1 (by rw [ae.out]; rfl), P.out.2.m1 ac.out cm⟩⟩
       | 2, _ =>
         obtain rfl := Option.some.inj J
         have dg := m.vt 1 26 (.agg (D.map encB).toArray) (f ⟨1, .data⟩ (by simp) rfl) rfl (by simp) (ve g rfl) j.1
         have d1 := f ⟨1, .data⟩ (by simp) rfl
         have bv := Hq d1
         refine Qbl fun G Q => ?_
         have HG := Hq Q
         have P := Hq j
         have ae := Hq g
         have ac := Hq q
         clear Q J f m j q g d1
         go_simp
         go_at_call 70
         refine (Qqr D aa.out.1 aa.out.2.1 W).mono ?_
         rintro e w9 ⟨de, rfl, cg, ch, ci⟩
         exact ⟨_, rfl, (HG.out _ _).2 ⟨Qa3 P.out.1 (by rw [ae.out]; rfl), P.out.2.m2 bv.out ac.out ⟨aa.out.1, aa.out.2.1⟩ cg ch ci⟩⟩
       | 3, _ =>
         obtain rfl := Option.some.inj J
         have t1 : b.tmps[1]? = some (u) := m.rs 1 (by kernel_rfl)
         refine Qa1 (u) ⟨_, rfl, Qa0 j.1 (ve g rfl), j.2.m3⟩ ?_
         clear J f m j q g
         go_simp
       | 4, _ =>
         obtain rfl := Option.some.inj J
         have t3 : b.tmps[3]? = some (.pointer (some ⟨U, 0, none⟩)) := m.rs 3 (by kernel_rfl)
         have ag := j.2.fr y.out.fr.forest (j.2.no5 (.inr (.inr q)))
         obtain ⟨q0, q1, -⟩ := Qa7 ((ag.other U az.out.1 az.out.2).trans ay.out)
         refine Qa1 (.agg #[.bool false, .slice K 0 N]) ⟨_, rfl, Qa0 j.1 (ve g rfl), j.2.m4⟩ ?_
         clear J f m j q g ag
         go_simp
       | 5, _ =>
         obtain rfl := Option.some.inj J
         have di := m.vt 3 28 (u) (f ⟨3, .data⟩ (by simp) rfl) rfl (by simp) (ve g rfl) j.1
         have dj := m.vt 4 29 (.agg #[.bool false, .slice K 0 N]) (f ⟨4, .data⟩ (by simp) rfl) rfl (by simp) (ve g rfl) j.1
         have d2 := f ⟨2, .data⟩ (by simp) rfl
         have d3 := f ⟨3, .data⟩ (by simp) rfl
         have d4 := f ⟨4, .data⟩ (by simp) rfl
         obtain ⟨O, e2, bc, cj, ag⟩ := j.2.two d2 q
         have dh : b.tmps[27]? = some (.pointer (some ⟨O, 0, none⟩)) := (m.done 2 27 d2 rfl (by simp)).trans (congrArg some e2)
         have bo := Hq (cf.out W O bc ag)
         have bx : Hid (X.getD 2 false = true /\ X.getD 3 false = true /\ X.getD 4 false = true) := ⟨d2, d3, d4⟩
         refine Qbl fun G Q => ?_
         have HG := Hq Q
         have P := Hq j
         have ae := Hq g
         have ac := Hq q
         clear Q J f m j q g d2 d3 d4 e2 bc cj ag
         go_simp
         go_at_call 71
         refine (bo.out).mono ?_
         rintro e w9 ⟨u9, rfl, cq⟩
         exact ⟨_, rfl, (HG.out _ _).2 ⟨Qa3 P.out.1 (by rw [ae.out]; rfl), P.out.2.m5 bx.out ac.out cq⟩⟩
       | 6, _ =>
         obtain rfl := Option.some.inj J
         have d5 := f ⟨5, .data⟩ (by simp) rfl
         have dp : b.tmps[30]? = some (T 5) := m.done 5 30 d5 rfl (by simp)
         refine Qa1 (T 5) ⟨_, rfl, Qa3 j.1 (ve g rfl), j.2.m6 d5⟩ ?_
         clear J f m j q g d5
         go_simp
     · exact ⟨fun _ _ _ h => (by simp at h), Sh3.start HSt.out (by simp) (by simp) (by simp)⟩
     · intro T W j
       have e0 : T 0 = .iface (ndTy t) (.pointer (some ⟨c, 0, none⟩)) := j.1 0 _ (ve g rfl) rfl
       have e1 : T 1 = .agg (D.map encB).toArray := j.1 1 _ (ve g rfl) rfl
       have e3 : T 3 = u := j.1 3 _ (ve g rfl) rfl
       have e4 : T 4 = .agg #[.bool false, .slice K 0 N] := j.1 4 _ (ve g rfl) rfl
       have hX := j.2
       simp only [runFrom, Act.put, Nat.zero_add, Nat.reduceAdd, List.setIfInBounds_toArray, List.set_cons_zero, List.set_cons_succ, e0, e1, e3, e4]
       clear j g e0 e1 e3 e4
       have HX : Hid (GrF B S F W C u (T 6) (l ++ 4 :: D)) := hX.six rfl
       clear hX
       (try go_wp2)
       go_meet
       exact HX.out
    case rest => as_aux_lemma =>
     have HE : Hid _ := y.out.trans hcut
     rw [<- aa.out.2.2] at HE
     clear hcut
     go_wp2
     go_ret
     exact ⟨_, rfl, HE.out⟩
  ·have R := V.out (by simp [Nd.shw, Nd.pick, Z]) w0 r.out.2.2.2.2.1
   have HC := Hq R
   have cz : (0 : Int) < (E.length : Int) := by have := List.length_pos_iff.mpr Z; omega
   obtain ⟨n, bj⟩ : ∃ n, E.length = n + 1 := ⟨E.length - 1, by omega⟩
   rw [bj] at HC z1 ⊢
   clear R V Z cz bj
   go_wp2_with fail
   refine HC.out.mono ?_
   rintro e F ⟨u1, rfl, H⟩
   have HE := Hq (r.out.2.2.2.2.1.trans H)
   clear H
   go_wp2
   go_ret
   exact ⟨_, rfl, HE.out⟩
mutual
theorem Qpf (B : Nat) (S : Wood) : ∀ t : Nd, t ≠ .no -> OpsC B S t
 | .no, h => absurd rfl h
 | .leaf p v, _ => fun w c all pp ps cc C u l hf _ _ hc _ _ _ hu hC _ hn hl => (Qz4 hf hc all pp ps.length cc hu hC hn (by omega)).mono fun e w' ⟨u', he, hg⟩ => ⟨u', he, by rw [Nd.wit]; exact GrF.of_grew hf hg hn⟩
 | .ext p t, _ => fun w c all pp ps cc C u l hf hT hM hc hr _ hps hu hC hCM hn hl => by
  have hok := hf.ok c _ hc
  rw [Nd.ok] at hok
  exact QB7 hf hT hM hc (Qpe hok.2.2 (Qpf B S t hok.2.2)) all pp ps cc hr hps hu hC hCM hn hl
 | .br ks, _ => fun w c all pp ps cc C u l hf hT hM hc hr hpp hps hu hC hCM hn hl => QD8 hf hT hM hc (fun x hx hne => Qpe hne (Qr0 B S ks x hx hne)) all pp ps cc hr hpp hps hu hC hCM hn hl
 | .stub h, _ => fun w c all pp ps cc C u l hf hT hM hc _ _ _ hu hC _ hn hl => (Qqz hf hT hM hc all pp ps.length cc hu hC hn (by omega)).mono fun e w' ⟨u', w1, he, hf1, hg⟩ => ⟨u', he, by
  rw [Nd.wit]
  exact (GrF.of_fr hu hf1 hn).trans (GrF.of_grew hf1.forest hg hn)⟩
theorem Qr0 (B : Nat) (S : Wood) : ∀ ks : List Nd, ∀ x ∈ ks, x ≠ .no -> OpsC B S x
 | [], _, h, _ => by cases h
 | t :: ks, x, h, hn => by
  rcases List.mem_cons.1 h with e | h
  ·rw [e] at hn ⊢
   exact Qpf B S t hn
  ·exact Qr0 B S ks x h hn
end
theorem Qw6 {t : Nd} (h : t ≠ .no) : ShowC B S t := Qpe h (Qpf B S t h)
attribute [-go_sem] Instr.buildSlice
theorem Qj2 {tb : Nat} {t : Nd} (hf : Forest B S w) (hT : Tabs w) (hM : 15 <= B) (ht : TreeAt S w tb t) (all : Bool) (pp : Option Addr) (ps : List ByteArray) (cc : Nat) (hr : StrRow w pp ps cc) (hpp : ∀ a, pp = some a -> S a.block = none) (hps : ps.length <= 1000000) (hl : (t.witness all ps).length <= 900000) :
  Calls Tryz.prog 33 #[.pointer (some ⟨tb, 0, none⟩), .agg #[.bool all, .slice pp ps.length cc]] w fun e w' => e = .returned (.string (textB (t.witness all ps))) /\ Fr B S S w w' := by
 have ai := ht.lt
 obtain ⟨v, hv, c0, -⟩ := ht.cell
 have s : Below w.heap.size w (w.alloc (.cells #[.bool all, .slice pp ps.length cc] 80)) := (Below.refl _ _).alloc (Nat.le_refl _) _
 have E := Qai w (.cells #[.bool all, .slice pp ps.length cc] 80)
 obtain ⟨n, aj⟩ : ∃ x, w.alloc (.cells #[.bool all, .slice pp ps.length cc] 80) = x := ⟨_, rfl⟩
 rw [aj] at s E
 obtain ⟨z0, z1, -⟩ := Qa7 E
 have I := (s.cell (p := ⟨tb, 0, none⟩) ai).trans c0
 have ak := Hq s
 have HF := Hq hf
 rcases hv with ⟨rfl, rfl⟩ | ⟨hne, c, rfl, hc⟩
 ·have al : (Instr.buildSlice 41 1 #[(0, .int .u8 0)]).run Tryz.prog n = .ok (.slice (some ⟨n.heap.size, 0, none⟩) 1 1) (n.alloc (.cells #[.int .u8 0] 5)) := Qe5 n 0
  have K := Qag (P := Tryz.prog) (n.alloc (.cells #[.int .u8 0] 5)) 41 9 5 Tryz.underlying41 Tryz.underlying5 Tryz.underlying9 (Qw5 n 0)
  have Z : Hid (Fr B S S w (n.alloc (.cells #[.int .u8 0] 5))) := Fr.of_below hf (s.alloc s.size _)
  obtain ⟨q, z⟩ : ∃ q, textB (Nd.no.witness all ps) = q := ⟨_, rfl⟩
  have Y : textB [0] = q := z
  rw [Y] at K
  rw [z]
  clear hf hT hM ht hr hpp hps hl c0 s E z Y
  go_enter Tryz.func33, Tryz.ntmps33
  go_wp2
  go_ret
  exact ⟨rfl, Z.out⟩
 ·obtain ⟨L, O⟩ : ∃ L, t.shw all ps = L := ⟨_, rfl⟩
  have U : t.witness all ps = L := by
    cases t with
    | no => exact absurd rfl hne
    | _ => exact O
  rw [U] at hl ⊢
  obtain ⟨q, z⟩ : ∃ q, textB L = q := ⟨_, rfl⟩
  rw [z]
  have ag : Hid (∀ W, Below n.heap.size n W -> Calls Tryz.prog 52 #[.agg #[.bool all, .slice pp ps.length cc], .slice none 0 0, .iface (ndTy t) (.pointer (some ⟨c, 0, none⟩))] W fun e w' => ∃ u', e = .returned u' /\ GrF B S W w' W.heap.size (.slice none 0 0) u' L) := fun W J => by
    have H := s.behind' J
    have := Qw6 (B := B) (S := S) hne W c all pp ps cc W.heap.size (.slice none 0 0) [] (hf.below H) (hT.below H (Nat.le_trans hM hf.le)) hM hc (hr.below H) (fun a ha => ⟨hpp a ha, by simp [Value.ownBlock]⟩) hps (Own.nil _ _) (Nat.le_refl _) (Nat.le_trans hM (Nat.le_trans hf.le H.size)) (by simp [Value.ownBlock]) (by rw [O]; simpa using hl)
    rw [O] at this
    exact this
  have Q : Hid (∀ W, Below n.heap.size n W -> W.cell? ⟨tb, 0, none⟩ = some (.iface (ndTy t) (.pointer (some ⟨c, 0, none⟩))) /\ W.cell? ⟨w.heap.size, 0, none⟩ = some (.bool all) /\ W.cell? ⟨w.heap.size, 1, none⟩ = some (.slice pp ps.length cc)) := fun W J => by
    have hs : w.heap.size < n.heap.size := (Array.getElem?_eq_some_iff.1 E).1
    exact ⟨(J.cell (p := ⟨tb, 0, none⟩) (by simp only; omega)).trans I, (J.cell (p := ⟨w.heap.size, 0, none⟩) hs).trans z0, (J.cell (p := ⟨w.heap.size, 1, none⟩) hs).trans z1⟩
  have HQ : Hid (textB L = q /\ Below w.heap.size w n) := ⟨z, s⟩
  clear hf hT hM ht hr hpp hps hl c0 s E O U z
  go_enter Tryz.func33, Tryz.ntmps33
  go_upto_region 3 with fail
  have HSt : Hid (Below n.heap.size n n.drew) := (Below.refl _ _).drew
  clear z0 z1 I
  go_cut [4] (fun a wd => a = .string q /\ Fr B S S w wd)
  case first => as_aux_lemma =>
   refine wp_region_any (by kernel_rfl) ?_
   change wpAny _ _ _ _ _ _ _ (World.drew _)
   obtain ⟨vf, g⟩ : ∃ vf : Nat -> Option Value, vf = fun i => ([some (.agg #[.bool all, .slice pp ps.length cc]), some (.pointer (some ⟨tb, 0, none⟩)), some (.pointer (some ⟨tb, 0, none⟩)), some (.pointer (some ⟨tb, 0, none⟩)), some (.iface (ndTy t) (.pointer (some ⟨c, 0, none⟩))), none, some (.string q), some (.string q)] : List (Option Value)).getD i none := ⟨_, rfl⟩
   refine Qam _ (fun d v w' => (∀ i x, vf i = some x -> d i = true -> v i = x) /\ (fun d v w' => ((d 5 = false -> Below n.heap.size n w') /\ (d 5 = true -> d 0 = true /\ d 4 = true /\ ∃ C u, v 5 = u /\ Own w' C u L /\ Fr B S S w w'))) d v w') (by kernel_rfl) (by kernel_rfl) ?_ _ (fun _ => undef) ?_ ?_
   · intro i o r l y b W k m j f
     have hi : i < 8 := (Array.getElem?_eq_some_iff.1 r).1
     match i, hi with
     | 0, _ =>
      obtain rfl := Option.some.inj r
      have t3 : b.tmps[3]? = some (.pointer (some ⟨w.heap.size, 0, none⟩)) := k.rs 3 (by kernel_rfl)
      have F : l.getD 5 false = false := by
       cases z : l.getD 5 false with
       | false => rfl
       | true => exact absurd (f.2.2 z).1 (by show ¬ l.getD 0 false = true; rw [m]; simp)
      obtain ⟨q0, q1, q2⟩ := Q.out W (f.2.1 F)
      refine Qa1 (.agg #[.bool all, .slice pp ps.length cc]) ⟨_, rfl, Qa0 f.1 (ve g rfl), f.2.1, fun q => (by have N : l.getD 5 false = true := q; rw [F] at N; cases N)⟩ ?_
      clear r j k f m g F
      go_simp
     | 1, _ =>
      obtain rfl := Option.some.inj r
      have t0 : b.tmps[0]? = some (.pointer (some ⟨tb, 0, none⟩)) := k.rs 0 (by kernel_rfl)
      refine Qa1 (.pointer (some ⟨tb, 0, none⟩)) ⟨_, rfl, Qa0 f.1 (ve g rfl), f.2⟩ ?_
      clear r j k f m g
      go_simp
     | 2, _ =>
      obtain rfl := Option.some.inj r
      have ao := k.vt 1 13 (.pointer (some ⟨tb, 0, none⟩)) (j ⟨1, .data⟩ (by simp) rfl) rfl (by simp) (ve g rfl) f.1
      refine Qa1 (.pointer (some ⟨tb, 0, none⟩)) ⟨_, rfl, Qa0 f.1 (ve g rfl), f.2⟩ ?_
      clear r j k f m g
      go_simp
     | 3, _ =>
      obtain rfl := Option.some.inj r
      have ap := k.vt 2 14 (.pointer (some ⟨tb, 0, none⟩)) (j ⟨2, .data⟩ (by simp) rfl) rfl (by simp) (ve g rfl) f.1
      refine Qa1 (.pointer (some ⟨tb, 0, none⟩)) ⟨_, rfl, Qa0 f.1 (ve g rfl), f.2⟩ ?_
      clear r j k f m g
      go_simp
     | 4, _ =>
      obtain rfl := Option.some.inj r
      have aq := k.vt 3 15 (.pointer (some ⟨tb, 0, none⟩)) (j ⟨3, .data⟩ (by simp) rfl) rfl (by simp) (ve g rfl) f.1
      have F : l.getD 5 false = false := by
       cases z : l.getD 5 false with
       | false => rfl
       | true => exact absurd (f.2.2 z).2.1 (by show ¬ l.getD 4 false = true; rw [m]; simp)
      obtain ⟨q0, q1, q2⟩ := Q.out W (f.2.1 F)
      refine Qa1 (.iface (ndTy t) (.pointer (some ⟨c, 0, none⟩))) ⟨_, rfl, Qa0 f.1 (ve g rfl), f.2.1, fun q => (by have N : l.getD 5 false = true := q; rw [F] at N; cases N)⟩ ?_
      clear r j k f m g F
      go_simp
     | 5, _ =>
      obtain rfl := Option.some.inj r
      have am := k.vt 0 12 (.agg #[.bool all, .slice pp ps.length cc]) (j ⟨0, .data⟩ (by simp) rfl) rfl (by simp) (ve g rfl) f.1
      have ar := k.vt 4 16 (.iface (ndTy t) (.pointer (some ⟨c, 0, none⟩))) (j ⟨4, .data⟩ (by simp) rfl) rfl (by simp) (ve g rfl) f.1
      have I := j ⟨0, .data⟩ (by simp) rfl
      have d4 := j ⟨4, .data⟩ (by simp) rfl
      have R : Hid (l.getD 0 false = true /\ l.getD 4 false = true) := ⟨I, d4⟩
      have ac := Hq (ag.out W (f.2.1 m))
      have aa := Hq (f.2.1 m)
      refine Qbl fun G T => ?_
      have HG := Hq T
      have ae := Hq f
      have ah := Hq g
      clear T r j k f m g I d4
      go_simp
      go_at_call 52
      refine ac.out.mono ?_
      rintro e w9 ⟨u9, rfl, X⟩
      exact ⟨_, rfl, (HG.out _ _).2 ⟨Qa3 ae.out.1 (by rw [ah.out]; rfl), fun q => (by cases q), fun _ => ⟨R.out.1, R.out.2, _, _, rfl, X.own, (Fr.of_below HF.out (HQ.out.2.behind' aa.out)).trans (X.plain rfl)⟩⟩⟩
     | 6, _ =>
      obtain rfl := Option.some.inj r
      have d5 := j ⟨5, .data⟩ (by simp) rfl
      obtain ⟨-, -, C5, u5, e5, V, -⟩ := f.2.2 d5
      have au : b.tmps[17]? = some u5 := (k.done 5 17 d5 rfl (by simp)).trans (congrArg some e5)
      have K := Qag (P := Tryz.prog) W 41 9 5 Tryz.underlying41 Tryz.underlying5 Tryz.underlying9 V
      rw [HQ.out.1] at K
      refine Qa1 (.string q) ⟨_, rfl, Qa0 f.1 (ve g rfl), f.2⟩ ?_
      clear r j k f m g d5 e5 V
      go_simp
     | 7, _ =>
      obtain rfl := Option.some.inj r
      have aw := k.vt 6 18 (.string q) (j ⟨6, .data⟩ (by simp) rfl) rfl (by simp) (ve g rfl) f.1
      refine Qa1 (.string q) ⟨_, rfl, Qa0 f.1 (ve g rfl), f.2⟩ ?_
      clear r j k f m g
      go_simp
   · exact ⟨fun _ _ _ h => (by simp at h), fun _ => HSt.out, fun q => (by simp at q)⟩
   · intro y W f
     have e0 : y 0 = .agg #[.bool all, .slice pp ps.length cc] := f.1 0 _ (ve g rfl) rfl
     have e1 : y 1 = .pointer (some ⟨tb, 0, none⟩) := f.1 1 _ (ve g rfl) rfl
     have e2 : y 2 = .pointer (some ⟨tb, 0, none⟩) := f.1 2 _ (ve g rfl) rfl
     have e3 : y 3 = .pointer (some ⟨tb, 0, none⟩) := f.1 3 _ (ve g rfl) rfl
     have e4 : y 4 = .iface (ndTy t) (.pointer (some ⟨c, 0, none⟩)) := f.1 4 _ (ve g rfl) rfl
     have e6 : y 6 = .string q := f.1 6 _ (ve g rfl) rfl
     have e7 : y 7 = .string q := f.1 7 _ (ve g rfl) rfl
     have hX := f.2
     simp only [runFrom, Act.put, Nat.zero_add, Nat.reduceAdd, List.setIfInBounds_toArray, List.set_cons_zero, List.set_cons_succ, e0, e1, e2, e3, e4, e6, e7]
     clear f g e0 e1 e2 e3 e4 e6 e7
     obtain ⟨-, -, C5, u5, -, -, D⟩ := hX.2 rfl
     have HX := Hq D
     clear hX D
     (try go_wp2)
     go_meet
     exact ⟨rfl, HX.out⟩
  case rest => as_aux_lemma =>
   obtain ⟨rfl, D⟩ := hcut
   have Z := Hq D
   clear D
   go_wp2
   go_ret
   exact ⟨rfl, Z.out⟩
theorem Qs7 {b : Nat} {t : Nd} (hf : Forest B S w) (hT : Tabs w) (hM : 15 <= B) (ht : TreeAt S w b t) (hl : (t.witness true []).length <= 900000) :
  Calls Tryz.prog 23 #[.pointer (some ⟨b, 0, none⟩)] w fun e w' => e = .returned (.string (textB (t.witness true []))) /\ Fr B S S w w' := by
 have d := Hq (Qj2 hf hT hM ht true none [] 0 (.inl ⟨rfl, rfl, rfl⟩) (fun a h => (by cases h)) (by simp) hl)
 obtain ⟨q, f⟩ : ∃ q, textB (t.witness true []) = q := ⟨_, rfl⟩
 rw [f] at d ⊢
 clear hf hT hM ht hl f
 go_enter Tryz.func23, Tryz.ntmps23
 go_wp2_with fail
 refine d.out.mono ?_
 rintro e i ⟨rfl, c⟩
 have g := Hq c
 clear c
 go_wp2
 go_ret
 exact ⟨rfl, g.out⟩
theorem Qke {b : Nat} {t : Nd} (hf : Forest B S w) (hT : Tabs w) (hM : 15 <= B) (ht : TreeAt S w b t) (hl : (t.witness true []).length <= 900000) :
  Calls Tryz.prog 11 #[.pointer (some ⟨b, 0, none⟩)] w fun e w' => e = .returned (.string (textB (t.witness true []))) /\ Fr B S S w w' := by
 have c := Hq (Qs7 hf hT hM ht hl)
 obtain ⟨q, d⟩ : ∃ q, textB (t.witness true []) = q := ⟨_, rfl⟩
 rw [d] at c ⊢
 clear hf hT hM ht hl d
 go_enter Tryz.func11, Tryz.ntmps11
 go_wp2_with fail
 refine c.out.mono ?_
 rintro e g ⟨rfl, a⟩
 have f := Hq a
 clear a
 go_wp2
 go_ret
 exact ⟨rfl, f.out⟩
end Go.Proofs.YtakidhihbgfjlaaGreatDoor
