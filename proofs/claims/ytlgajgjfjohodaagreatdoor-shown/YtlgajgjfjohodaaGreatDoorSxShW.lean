/-
  Shown: the walk.
-/
import Derived.Test.YtlgajgjfjohodaaGreatDoorSxTwG
import Derived.Test.YtlgajgjfjohodaaGreatDoorSxSaG
namespace Go.Proofs.YtlgajgjfjohodaaGreatDoor
open Go.RowKit
set_option maxRecDepth 100000
set_option maxHeartbeats 25600000
theorem StKit.both {P : World -> Prop} {F : Nat -> Prop} {B : Nat} {J : Wood} (k : StKit P F B J) (p : Prop) : StKit (fun W => P W /\ p) F B J :=
 ⟨fun _ _ h hb => ⟨k.more _ _ h.1 hb, h.2⟩, fun _ _ h hf => ⟨k.fr _ _ h.1 hf, h.2⟩, fun _ _ _ h hF ho => ⟨k.set _ _ _ h.1 hF ho, h.2⟩, k.wood, fun _ _ h hk => k.fresh _ _ h.1 hk⟩
theorem wrap_range (x : Int) : -9223372036854775808 <= IntKind.i64.wrap x /\ IntKind.i64.wrap x < 9223372036854775808 := by
 rw [IntKind.wrap_i64]
 omega
theorem bytes_list {l : List Nat} (h : ∀ x ∈ l, x < 256) : Bytes l.toArray := fun j => by
 by_cases hj : j < l.length
 ·rw [getElem!_pos l.toArray j (by simpa using hj)]
  exact h _ (by simp)
 ·rw [getElem!_neg l.toArray j (by simpa using hj)]
  decide
theorem covers_keys {t : Nd} {m : Mp} (hg : ∀ s, s.length = 64 -> t.get s = getN m s) (hK : ∀ x ∈ m, x.1.size = 32 /\ Bytes x.1) : Covers t 64 ((m.map (·.1)).map keyP) := fun s hs hn => by
 rw [hg s hs] at hn
 cases hx : getN m s with
 | none => exact absurd hx hn
 | some u =>
  obtain ⟨x, hm, hp, -⟩ := getN_some hx
  refine ⟨keyP x.1, List.mem_map.2 ⟨x.1, List.mem_map.2 ⟨x, hm, rfl⟩, rfl⟩, ?_⟩
  obtain ⟨h1, -, -⟩ := key_path (hK x hm).1 (hK x hm).2
  exact h1.trans hp
theorem shown_walk (raw : ByteArray) (n : Int) (w : World) (sent : Nat -> Addr) (hE : Env w.heap.size sent w) (hB : Bru w) (hTy : typeAt w) (hTl : 12 < w.heap.size) (hr : raw.size <= 9223372036854775807) (hn : -9223372036854775808 <= n /\ n <= 9223372036854775807) :
  Calls Tryz.prog 3 #[.string raw, .int .i64 n] w fun e w' => e = .returned (.bool true) /\ Below w.heap.size w w' := by
 have j7 := Hid.hide (known_any raw w hr)
 have HE : Hid (Env w.heap.size sent w /\ typeAt w /\ 12 < w.heap.size /\ Bru w) := ⟨hE, hTy, hTl, hB⟩
 have HN := Hid.hide hn
 have HT : Hid (∀ W, Below w.heap.size w W -> Tabs W /\ 15 <= W.heap.size) := fun W hW => ⟨(HE.out.1.below hW).tabs, Nat.le_trans HE.out.1.low hW.size⟩
 have au := Tryz.underlying41
 clear hE hTy hTl hr hB hn
 go_enter Tryz.func3, Tryz.ntmps3
 go_wp2_with fail
 refine j7.out.mono ?_
 rintro e w1 ⟨gr, ks, vs, m, rfl, dp, id, l6⟩
 obtain ⟨pk, mk, ck, rfl⟩ := dp.keys.shape
 obtain ⟨pv, mv, cv, rfl⟩ := dp.vals.shape
 obtain ⟨rfl, rfl⟩ := dp.len
 obtain ⟨eu, -, -, fd⟩ := laid_map w1 (.slice pk m.length ck) (.slice pv m.length cv)
 have bn : (World.alloc w1 (.cells #[.slice pk m.length ck, .slice pv m.length cv] 25)).heap[w1.heap.size]? = some (.cells #[.slice pk m.length ck, .slice pv m.length cv] 25 (0, 0)) := Array.getElem?_push_size
 obtain ⟨w2, lm⟩ : ∃ x, World.alloc w1 (.cells #[.slice pk m.length ck, .slice pv m.length cv] 25) = x := ⟨_, rfl⟩
 rw [lm] at eu fd bn
 obtain ⟨n1, l8⟩ : ∃ n, w1.heap.size = n := ⟨_, rfl⟩
 rw [l8] at bn fd
 obtain ⟨z0, z1, -⟩ := box_cells' bn
 have i7 : Below w.heap.size w w2 := gr.behind' eu
 have ik : Kn w2 w.heap.size (.slice pk m.length ck) (.slice pv m.length cv) m := dp.below eu
 have H2 : Hid (Below w.heap.size w w2 /\ w2.heap[n1]? = some (.cells #[.slice pk m.length ck, .slice pv m.length cv] 25 (0, 0)) /\ Kn w2 w.heap.size (.slice pk m.length ck) (.slice pv m.length cv) m /\ (m.map (·.1)).Nodup /\ m.length <= 12 /\ w2.heap.size = n1 + 1 /\ w.heap.size <= n1) := ⟨i7, bn, ik, id, l6, fd, by have := gr.size; omega⟩
 have jh := Hid.hide (ktree_any ik (Nat.le_refl _) (Below.refl _ _) (forest_none w2) (by omega) (pth_dup id) false)
 clear gr dp id l6 eu fd bn i7 ik j7
 go_wp2_with fail
 clear lm l8
 refine jh.out.mono ?_
 rintro e w3 ⟨bt, gz, rfl, S1, dz, cf⟩
 obtain ⟨t, li, ia, ij⟩ := dz.ex
 have gw : Below w2.heap.size w2 w3 := cf.below (forest_none w2) fun _ h => h.elim
 have H3 : Hid (w2.heap.size <= bt /\ TreeAt S1 w3 bt t /\ Forest w2.heap.size S1 w3 /\ Below w2.heap.size w2 w3) := ⟨gz, li, cf.forest, gw⟩
 have HM : Hid (t.can 64 /\ ∀ s, s.length = 64 -> t.get s = getN m s) := ⟨ia, ij⟩
 have eb : Below w.heap.size w w3 := H2.out.1.behind' gw
 have j6 := Hid.hide (fixed_any w3 (HT.out _ eb).1 (HT.out _ eb).2)
 clear gz dz li ia ij cf gw eb jh z0 z1
 go_wp2_with fail
 refine j6.out.mono ?_
 rintro e w4 ⟨rfl, gx⟩
 obtain ⟨B, fm⟩ : ∃ B, w2.heap.size = B := ⟨_, rfl⟩
 have h2 := H2.out
 have h3 := H3.out
 rw [fm] at h2 h3
 have bo : Fr B S1 S1 w3 w4 := Fr.of_below h3.2.2.1 gx
 have ch : Below B w2 w4 := h3.2.2.2.trans (gx.mono (by have := h3.2.2.1.le; omega))
 have i8 : Below w.heap.size w w4 := h2.1.trans (ch.mono (by have := h2.1.size; omega))
 obtain ⟨U, hU⟩ : ∃ U : Nat -> Prop, U = fun k => w.heap.size <= k /\ k < B := ⟨_, rfl⟩
 have hX : w.heap.size <= B /\ B <= bt /\ 15 <= B /\ w.heap.size <= n1 /\ n1 < B := ⟨by have := h2.1.size; omega, h3.1, Nat.le_trans HE.out.1.low (by have := h2.1.size; omega), h2.2.2.2.2.2.2, by omega⟩
 have hQ : GenQ w w4 U B S1 bt t w4 := ⟨i8, Nat.le_refl _, fun _ _ => rfl, bo.forest, h3.2.1.frame bo⟩
 have cw : TwM w n1 pk ck pv cv m w4 U := by
  have nd : Kn w4 w.heap.size (.slice pk m.length ck) (.slice pv m.length cv) m := h2.2.2.1.below (fm ▸ ch)
  refine ⟨(ch.block n1 hX.2.2.2.2).trans h2.2.1, nd, by rw [hU]; exact ⟨hX.2.2.2.1, hX.2.2.2.2⟩, fun k L => ?_⟩
  rw [hU]
  have := h2.2.2.1.lo L
  exact ⟨this.1, by omega⟩
 have gm : ∀ k, U k -> k < w4.heap.size /\ S1 k = none := fun k L => by
  rw [hU] at L
  exact ⟨Nat.lt_of_lt_of_le L.2 bo.forest.le, bo.forest.nothing L.2⟩
 have O := Hid.hide hX
 have ac := Hid.hide cw
 have HQ := Hid.hide hQ
 have cj : Hid (∀ k, U k -> k < w4.heap.size /\ S1 k = none /\ k < B) := fun k L => ⟨(gm k L).1, (gm k L).2, by rw [hU] at L; exact L.2⟩
 have aw : Hid ((m.map (·.1)).Nodup /\ m.length <= 12) := ⟨h2.2.2.2.1, h2.2.2.2.2.1⟩
 clear gx h2 h3 bo ch i8 hU hX hQ cw gm fm H2 H3 j6
 obtain ⟨P1, bj⟩ : ∃ P : World -> Prop, P = GenQ w w4 U B S1 bt t := ⟨_, rfl⟩
 obtain ⟨F1, fq⟩ : ∃ F : Nat -> Prop, F = GenF w U S1 bt := ⟨_, rfl⟩
 obtain ⟨P2, cq⟩ : ∃ P : Nat -> Wood -> World -> Prop, P = fun bp J W => TwS w w4 U B bt bp t t J W /\ w4.heap.size <= bp := ⟨_, rfl⟩
 obtain ⟨F2, em⟩ : ∃ F : Nat -> Wood -> Nat -> Prop, F = fun bp J => TwF w U bt bp J := ⟨_, rfl⟩
 obtain ⟨Dt, ak⟩ : ∃ D, t.dig = D := ⟨_, rfl⟩
 obtain ⟨Wt, gq⟩ : ∃ s, textB (t.witness false ((m.map (·.1)).map keyP)) = s := ⟨_, rfl⟩
 have lq : (t.witness false ((m.map (·.1)).map keyP)).length <= 8000 := by
  have h1 := witness_len (can_cs t 64 (by omega) HM.out.1) false ((m.map (·.1)).map keyP)
  have h2 := leaves_le HM.out.1 HM.out.2
  have := aw.out.2
  omega
 have fc : ∀ x ∈ m, x.1.size = 32 /\ Bytes x.1 := fun x I => ⟨(ac.out.kn.ok x I).1, (ac.out.kn.ok x I).2.1⟩
 have iu := prs_keys HM.out.1 (covers_keys HM.out.2 fc)
 have ci : Hid (StKit P1 F1 B S1) := by rw [bj, fq]; exact GenQ.kit O.out.1 fun k L => ⟨(cj.out k L).1, (cj.out k L).2.1⟩
 have fj : Hid (∀ bp Z, StKit (P2 bp Z) (F2 bp Z) B Z) := fun bp Z => by rw [cq, em]; exact (TwS.kit O.out.1).both _
 have jb : Hid (P1 (w4.drew)) := ci.out.more _ _ (by rw [bj]; exact HQ.out) (Below.refl _ _).drew
 have ay : Hid (∀ W, P1 W -> Calls Tryz.prog 8 #[.pointer (some ⟨bt, 0, none⟩)] W fun e w' => e = .returned (.agg (Dt.map encB).toArray) /\ Fr B S1 S1 W w') := fun W h => by
  rw [bj] at h
  have := xroot_any h.wood (HT.out _ h.below).1 O.out.2.2.1 h.tree
  rw [ak] at this
  exact this
 have ji : Hid (∀ W, P1 W -> Calls Tryz.prog 9 #[.pointer (some ⟨bt, 0, none⟩), .slice pk m.length ck] W fun e w' => e = .returned (.string Wt) /\ Fr B S1 S1 W w') := fun W h => by
  rw [bj] at h
  have ne : KeyRow W pk (m.map (·.1)) ck := (h.kn ac.out.kn ac.out.ur).keyRow
  have := xwitness_any h.wood (HT.out _ h.below).1 O.out.2.2.1 h.tree ne (by rw [List.length_map]; have := aw.out.2; omega) (by omega)
  rw [gq, List.length_map] at this
  exact this
 have eh : Hid (∀ W, P1 W -> Calls Tryz.prog 7 #[.agg (Dt.map encB).toArray, .string Wt] W fun e w' => ∃ bp Z, e = .returned (opV bp) /\ Below W.heap.size W w' /\ P2 bp Z w' /\ ∀ k, F1 k -> k < W.heap.size -> F2 bp Z k) := fun W h => by
  rw [bj] at h
  have dg := h.below
  have := xopen_part (B := B) (S := S1) sent h.wood HM.out.1 lq ((HE.out.1.below dg).faults) (HE.out.2.2.2.below dg) (HT.out _ dg).1 (HT.out _ dg).2
  rw [ak, gq, iu] at this
  refine this.mono ?_
  rintro e w' ⟨bp, Z, rfl, ht, ny, ao, am⟩
  have hs := h.size
  refine ⟨bp, Z, rfl, am, ?_, fun k L hl => ?_⟩
  ·rw [cq]
   refine ⟨⟨⟨dg.behind' am, Nat.le_trans hs am.size, fun k L => (am.block k (Nat.lt_of_lt_of_le (cj.out k L).1 hs)).trans (h.keep k L), ao.forest, h.tree.framex ao (fun h => h)⟩, ht, fun k L => ?_⟩, by omega⟩
   obtain ⟨u1, u2, u3⟩ := cj.out k L
   have I := O.out
   exact ⟨u1, ao.new k (by omega) u2, by omega, by omega⟩
  ·rw [fq] at L
   rw [em]
   exact ⟨⟨L.1, ao.new k hl L.2.1, L.2.2.1, L.2.2.2⟩, by omega⟩
 have av : Hid ((∀ W, P1 W -> W.heap[n1]? = some (.cells #[.slice pk m.length ck, .slice pv m.length cv] 25 (0, 0))) /\ ∀ bp J W, P2 bp J W -> W.heap[n1]? = some (.cells #[.slice pk m.length ck, .slice pv m.length cv] 25 (0, 0))) := by
  rw [bj, cq]
  exact ⟨fun W h => (h.keep n1 ac.out.u1).trans ac.out.box, fun bp J W h => (ac.out.at h.1).1⟩
 have jc : Hid (P2 = fun bp J W => TwS w w4 U B bt bp t t J W /\ w4.heap.size <= bp) := cq
 have j5 : Hid (F2 = fun bp J => TwF w U bt bp J) := em
 have ai : Hid (t.dig = Dt) := ak
 clear bj fq cq em ak gq lq fc iu
 go_upto_region 6 with fail
 go_cut [9, 10] (fun v9 v10 wc => ∃ bp J f, v9 = .pointer (some ⟨bp, 0, none⟩) /\ v10 = .pointer (some ⟨f, 0, none⟩) /\ P2 bp J wc /\ F2 bp J f /\ wc.heap[f]? = some (.cells #[.int .i64 0, .int .i64 0, .int .i64 0, .int .i64 0] 33 (0, 0)))
 case first =>
  refine wp_region_any (by kernel_rfl) ?_
  change wpAny _ _ _ _ _ _ _ (World.drew _)
  obtain ⟨vf, y⟩ : ∃ vf : Nat -> Option Value, vf = fun i => ([some (.pointer (some ⟨bt, 0, none⟩)), some (.agg (Dt.map encB).toArray), some (.pointer (some ⟨bt, 0, none⟩)), some (.pointer (some ⟨n1, 0, none⟩)), some (.slice pk m.length ck), some (.string Wt), none, none, none, some (.agg #[.int .i64 0, .int .i64 0, .int .i64 0, .int .i64 0]), none, none, none] : List (Option Value)).getD i none := ⟨_, rfl⟩
  refine wpAny_vary _ (fun d v w' => (∀ i x, vf i = some x -> d i = true -> v i = x) /\ (fun d v w' => ShX P1 F1 P2 F2 (d 1) (d 5) (d 6) (d 7) (d 8) (d 9) (d 10) (d 11) (d 12) (v 6) (v 7) (v 8) (v 10) (v 11) w') d v w') (by kernel_rfl) (by kernel_rfl) ?_ _ (fun _ => undef) ?_ ?_
  ·intro i o H ar T b W C E z r
   have hi : i < 13 := (Array.getElem?_eq_some_iff.1 H).1
   match i, hi with
   | 0, _ =>
    obtain rfl := Option.some.inj H
    have t6 : b.tmps[6]? = some (.pointer (some ⟨bt, 0, none⟩)) := (C.rest 6 (fun i _ => noDst_of (by kernel_rfl) i)).trans rfl
    refine opPlain r.1 (by rw [y]; rfl) r.2 ?_
    clear H z C r E y
    go_simp
   | 1, _ =>
    obtain rfl := Option.some.inj H
    have od : b.tmps[40]? = some (.pointer (some ⟨bt, 0, none⟩)) := tDone C r.1 (z ⟨0, .data⟩ (by simp) rfl) rfl (by simp) (by rw [y]; rfl)
    refine opHide fun G hG => ?_
    have HG := Hid.hide hG
    have ah := Hid.hide r
    have cl := Hid.hide y
    have ax := Hid.hide E
    clear hG H z C r E y
    go_simp
    go_at_call 8
    refine (ay.out W (ah.out.2.pre (ah.out.2.no6 (.inl ax.out))).all).mono ?_
    rintro e w9 ⟨rfl, de⟩
    exact ⟨_, rfl, (HG.out _ _).2 ⟨vals_step ah.out.1 (by rw [cl.out]; rfl), ah.out.2.fr1 ci.out ax.out de⟩⟩
   | 2, _ =>
    obtain rfl := Option.some.inj H
    have t6 : b.tmps[6]? = some (.pointer (some ⟨bt, 0, none⟩)) := (C.rest 6 (fun i _ => noDst_of (by kernel_rfl) i)).trans rfl
    refine opPlain r.1 (by rw [y]; rfl) r.2 ?_
    clear H z C r E y
    go_simp
   | 3, _ =>
    obtain rfl := Option.some.inj H
    have t5 : b.tmps[5]? = some (.pointer (some ⟨n1, 0, none⟩)) := (C.rest 5 (fun i _ => noDst_of (by kernel_rfl) i)).trans rfl
    refine opPlain r.1 (by rw [y]; rfl) r.2 ?_
    clear H z C r E y
    go_simp
   | 4, _ =>
    obtain rfl := Option.some.inj H
    have oh : b.tmps[43]? = some (.pointer (some ⟨n1, 0, none⟩)) := tDone C r.1 (z ⟨3, .data⟩ (by simp) rfl) rfl (by simp) (by rw [y]; rfl)
    have z0 := (box_cells' (r.2.any (Q := fun W => W.heap[n1]? = some (.cells #[.slice pk m.length ck, .slice pv m.length cv] 25 (0, 0))) av.out.1 av.out.2)).1
    refine opPlain r.1 (by rw [y]; rfl) r.2 ?_
    clear H z C r E y
    go_simp
   | 5, _ =>
    obtain rfl := Option.some.inj H
    have og : b.tmps[42]? = some (.pointer (some ⟨bt, 0, none⟩)) := tDone C r.1 (z ⟨2, .data⟩ (by simp) rfl) rfl (by simp) (by rw [y]; rfl)
    have oi : b.tmps[44]? = some (.slice pk m.length ck) := tDone C r.1 (z ⟨4, .data⟩ (by simp) rfl) rfl (by simp) (by rw [y]; rfl)
    refine opHide fun G hG => ?_
    have HG := Hid.hide hG
    have ah := Hid.hide r
    have cl := Hid.hide y
    have ax := Hid.hide E
    clear hG H z C r E y
    go_simp
    go_at_call 9
    refine (ji.out W (ah.out.2.pre (ah.out.2.no6 (.inr ax.out))).all).mono ?_
    rintro e w9 ⟨rfl, de⟩
    exact ⟨_, rfl, (HG.out _ _).2 ⟨vals_step ah.out.1 (by rw [cl.out]; rfl), ah.out.2.fr5 ci.out ax.out de⟩⟩
   | 6, _ =>
    obtain rfl := Option.some.inj H
    have oe : b.tmps[41]? = some (.agg (Dt.map encB).toArray) := tDone C r.1 (z ⟨1, .data⟩ (by simp) rfl) rfl (by simp) (by rw [y]; rfl)
    have oj : b.tmps[45]? = some (.string Wt) := tDone C r.1 (z ⟨5, .data⟩ (by simp) rfl) rfl (by simp) (by rw [y]; rfl)
    refine opHide fun G hG => ?_
    have HG := Hid.hide hG
    have ah := Hid.hide r
    have cl := Hid.hide y
    have ax := Hid.hide E
    have aw := Hid.hide (z ⟨1, .data⟩ (by simp) rfl)
    have lx := Hid.hide (z ⟨5, .data⟩ (by simp) rfl)
    clear hG H z C r E y
    go_simp
    go_at_call 7
    refine (eh.out W (ah.out.2.pre ax.out).all).mono ?_
    rintro e w9 ⟨nu, J9, rfl, de, ng, nc⟩
    exact ⟨_, rfl, (HG.out _ _).2 ⟨vals_free ah.out.1 (by rw [cl.out]; rfl), ah.out.2.open6 ax.out aw.out lx.out de ng nc⟩⟩
   | 7, _ =>
    obtain rfl := Option.some.inj H
    have d6 := z ⟨6, .data⟩ (by simp) rfl
    obtain ⟨jk, e7, jv⟩ := r.2.s7 d6
    have ol : b.tmps[46]? = some (opV jk) := (C.done 6 46 d6 rfl (by simp)).trans (congrArg some e7)
    refine Oper.wp_mono (K := fun a' w' => a' = b.put (some 39) (opV jk) /\ w' = W) (by rintro a' w' ⟨rfl, rfl⟩; exact ⟨_, rfl, vals_free r.1 (by rw [y]; rfl), jv⟩) ?_
    clear H z C r E y jv d6 e7
    go_simp
   | 8, _ =>
    obtain rfl := Option.some.inj H
    have d7 := z ⟨7, .data⟩ (by simp) rfl
    obtain ⟨bh, e8, dc⟩ := r.2.at7 d7
    have nl : b.tmps[39]? = some (.tuple #[.pointer (some ⟨bh, 0, none⟩), .agg #[.int .i64 0, .int .i64 0, .int .i64 0, .int .i64 0]]) := (C.done 7 39 d7 rfl (by simp)).trans (congrArg some e8)
    refine Oper.wp_mono (K := fun a' w' => a' = b.put (some 47) (.pointer (some ⟨bh, 0, none⟩)) /\ w' = W) (by rintro a' w' ⟨rfl, rfl⟩; exact ⟨_, rfl, vals_free r.1 (by rw [y]; rfl), dc⟩) ?_
    clear H z C r E y dc d7 e8
    go_simp
   | 9, _ =>
    obtain rfl := Option.some.inj H
    have d7 := z ⟨7, .data⟩ (by simp) rfl
    obtain ⟨bh, e8, -⟩ := r.2.at7 d7
    have nl : b.tmps[39]? = some (.tuple #[.pointer (some ⟨bh, 0, none⟩), .agg #[.int .i64 0, .int .i64 0, .int .i64 0, .int .i64 0]]) := (C.done 7 39 d7 rfl (by simp)).trans (congrArg some e8)
    refine opPlain r.1 (by rw [y]; rfl) (r.2.s9 d7) ?_
    clear H z C r E y d7 e8
    go_simp
   | 10, _ =>
    obtain rfl := Option.some.inj H
    have cm := r.2.no10 E
    refine Oper.wp_mono (K := fun a' w' => a' = b.put (some 10) (.pointer (some ⟨W.heap.size, 0, none⟩)) /\ w' = W.alloc (.cells #[.int .i64 0, .int .i64 0, .int .i64 0, .int .i64 0] 33)) (by rintro a' w' ⟨rfl, rfl⟩; exact ⟨_, rfl, vals_free r.1 (by rw [y]; rfl), r.2.alloc ci.out fj.out cm⟩) ?_
    clear H z C r E y cm
    go_simp
   | 11, _ =>
    obtain rfl := Option.some.inj H
    have d8 := z ⟨8, .data⟩ (by simp) rfl
    obtain ⟨bh, e8, dc⟩ := r.2.at8 d8
    have om : b.tmps[47]? = some (.pointer (some ⟨bh, 0, none⟩)) := (C.done 8 47 d8 rfl (by simp)).trans (congrArg some e8)
    refine Oper.wp_mono (K := fun a' w' => a' = b.put (some 9) (.pointer (some ⟨bh, 0, none⟩)) /\ w' = W) (by rintro a' w' ⟨rfl, rfl⟩; exact ⟨_, rfl, vals_free r.1 (by rw [y]; rfl), dc⟩) ?_
    clear H z C r E y dc d8 e8
    go_simp
   | 12, _ =>
    obtain rfl := Option.some.inj H
    have nn : b.tmps[48]? = some (.agg #[.int .i64 0, .int .i64 0, .int .i64 0, .int .i64 0]) := tDone C r.1 (z ⟨9, .data⟩ (by simp) rfl) rfl (by simp) (by rw [y]; rfl)
    have fk := z ⟨10, .data⟩ (by simp) rfl
    have d9 := z ⟨9, .data⟩ (by simp) rfl
    have d7 := r.2.o9 d9
    obtain ⟨f, x0, x1, x2, x3, f1, f3⟩ := r.2.ft d7 fk
    have ni : b.tmps[10]? = some (.pointer (some ⟨f, 0, none⟩)) := (C.done 10 10 fk rfl (by simp)).trans (congrArg some f1)
    refine wp_store_mid 33 (.tmp 10) (.tmp 48) rfl f 0 #[.int .i64 0, .int .i64 0, .int .i64 0, .int .i64 0] (by simp only [Act.eval, Array.getD_eq_getD_getElem?, ni, Option.getD_some]) (by simp only [Act.eval, Array.getD_eq_getD_getElem?, nn, Option.getD_some]) (there_cells f3 rfl) (by kernel_rfl) (by simp [Value.oneCell']) ?_
    exact ⟨undef, rfl, vals_free r.1 (by rw [y]; rfl), r.2.put fj.out d7 fk f1⟩
  ·exact ⟨fun _ _ _ h => (by simp at h), ShX.start jb.out (by simp) (by simp) (by simp) (by simp) (by simp) (by simp) (by simp) (by simp) (by simp)⟩
  ·intro T W r
   have e0 : T 0 = .pointer (some ⟨bt, 0, none⟩) := r.1 0 _ (by rw [y]; rfl) rfl
   have e1 : T 1 = .agg (Dt.map encB).toArray := r.1 1 _ (by rw [y]; rfl) rfl
   have e2 : T 2 = .pointer (some ⟨bt, 0, none⟩) := r.1 2 _ (by rw [y]; rfl) rfl
   have e3 : T 3 = .pointer (some ⟨n1, 0, none⟩) := r.1 3 _ (by rw [y]; rfl) rfl
   have e4 : T 4 = .slice pk m.length ck := r.1 4 _ (by rw [y]; rfl) rfl
   have e5 : T 5 = .string Wt := r.1 5 _ (by rw [y]; rfl) rfl
   have e9 : T 9 = .agg #[.int .i64 0, .int .i64 0, .int .i64 0, .int .i64 0] := r.1 9 _ (by rw [y]; rfl) rfl
   have hX := r.2
   simp only [runFrom, Act.put, Nat.zero_add, Nat.reduceAdd, List.setIfInBounds_toArray, List.set_cons_zero, List.set_cons_succ, e0, e1, e2, e3, e4, e5, e9]
   clear r y e0 e1 e2 e3 e4 e5 e9
   obtain ⟨bp, J, q1, q2, q3, q4, q5⟩ := hX.post rfl
   obtain ⟨f, f1, f2, f3⟩ := q5.fault
   have HY : Hid (T 11 = .pointer (some ⟨bp, 0, none⟩) /\ T 10 = .pointer (some ⟨f, 0, none⟩) /\ P2 bp J W /\ F2 bp J f /\ W.heap[f]? = some (.cells #[.int .i64 0, .int .i64 0, .int .i64 0, .int .i64 0] 33 (0, 0))) := ⟨q4 rfl, f1, q5.all, f2, f3⟩
   clear hX q1 q2 q3 q4 q5 f1 f2 f3
   (try go_wp2)
   go_meet
   exact ⟨bp, J, f, HY.out⟩
 case rest =>
  obtain ⟨bp, J0, f, rfl, rfl, hp, hf, f7⟩ := hcut
  rw [jc.out] at hp
  rw [j5.out] at hf
  obtain ⟨wB, rfl⟩ : ∃ x, x = wc := ⟨_, rfl⟩
  obtain ⟨U1, cy⟩ : ∃ V : Nat -> Prop, V = fun k => U k \/ k = f := ⟨_, rfl⟩
  have ky := (Array.getElem?_eq_some_iff.1 f7).1
  have ct : TwS w wB U1 B bt bp t t J0 wB := hp.1.next fun k L => by
   rw [cy] at L
   rcases L with L | rfl
   ·have := hp.1.uj k L
    exact ⟨Nat.lt_of_lt_of_le this.1 hp.1.q.size, this.2⟩
   ·exact ⟨ky, hf.1.2.1, hf.1.2.2.1, hf.2⟩
  have gi : TwM w n1 pk ck pv cv m wB U1 := ⟨(ac.out.at hp.1).1, (ac.out.at hp.1).2, by rw [cy]; exact .inl ac.out.u1, fun k L => by rw [cy]; exact .inl (ac.out.ur k L)⟩
  have al : Hid (ShI w B n1 bt bp f m.length m t J0 wB U1 pk ck pv cv wB) := ⟨ct, gi, by rw [cy]; exact .inr rfl, f7, HM.out.1, HM.out.2, aw.out.1, rfl, fun i I e => hf.1.2.2.2 (e ▸ ac.out.ur i I)⟩
  have b7 : Hid (B <= bp /\ bt ≠ bp /\ n1 ≠ bt /\ n1 ≠ bp /\ w.heap.size <= f /\ f ≠ n1) := by
   have I := O.out
   have h4 := hp.2
   have hl := HQ.out.wood.le
   have gz := HQ.out.tree.lt
   refine ⟨by omega, by omega, by omega, by omega, hf.1.1, fun e => hf.1.2.2.2 (e ▸ ac.out.u1)⟩
  obtain ⟨c0, c1, c2, c3, -⟩ := fault_cells f7
  clear hp hf f7 cy ky ct gi ci fj jb ay ji eh av jc j5 ac HQ cj
  go_wp2_with fail
  refine (fine_zero wB).mono ?_
  rintro e w5 ⟨rfl, jw⟩
  have fi : Hid (ShI w B n1 bt bp f m.length m t J0 wB U1 pk ck pv cv w5) := ⟨al.out.s.more O.out.1 jw, al.out.k, al.out.uf, al.out.ft, al.out.can, al.out.get, al.out.dup, al.out.len, al.out.rf⟩
  clear jw c0 c1 c2 c3 al HM ai
  go_wp2
  go_loopg [12] m.length (fun gh i wr => ∃ k J l N R V fg ck2 bv bi, k <= m.length /\ gh = m.length - k /\ i = .int .i64 ((k : Nat) : Int) /\ ShI w B n1 bt bp f m.length l N J R V fg ck2 bv bi wr)
  case atStart => exact ⟨0, J0, m, t, wB, U1, pk, ck, pv, cv, Nat.zero_le _, rfl, rfl, fi.out⟩
  case round =>
   obtain ⟨k, J, l, N, R, V, fg, ck2, bv, bi, L, rfl, rfl, r⟩ := hrel
   obtain ⟨aa, Y⟩ := r.k.at r.s
   obtain ⟨z0, z1, -⟩ := box_cells' aa
   by_cases io : k < m.length
   ·have dt := r.len
    have i1 : (k : Int) < (l.length : Int) := by omega
    obtain ⟨c, hc⟩ : ∃ c, IntKind.i64.wrap (n + (k : Int)) = c := ⟨_, rfl⟩
    have HC : Hid (IntKind.i64.wrap (n + (k : Int)) = c /\ wrap64 (n + (k : Int)) = c) := ⟨hc, (Go.IntWalk.i64_left _).symm.trans hc⟩
    have ic : -9223372036854775808 <= c /\ c < 9223372036854775808 := by rw [<- hc]; exact wrap_range _
    obtain ⟨j, hj, ld⟩ := kpick_ex c l.length ic.1 ic.2 (by omega)
    have jd := Hid.hide ld
    have i2 : (j : Int) < (l.length : Int) := by omega
    obtain ⟨g, jl, ek, dn, aq⟩ := Y.key hj
    simp only [Value.slice.injEq] at ek
    obtain ⟨rfl, -, rfl⟩ := ek
    obtain ⟨K, ae⟩ : ∃ K, l[j].1 = K := ⟨_, rfl⟩
    have jo : K ∈ l.map (·.1) := List.mem_map.2 ⟨l[j], List.getElem_mem hj, ae⟩
    have eo : K.size = 32 /\ Bytes K := by
     have := Y.ok l[j] (List.getElem_mem hj)
     rw [ae] at this
     exact ⟨this.1, this.2.1⟩
    have bg : (Tryz.prog.info? 41).map (·.size) = some (K.toList.map encB).length := by rw [size51]; simp [eo.1]
    obtain ⟨P, hP⟩ : ∃ P : World -> Prop, P = TwS w R V B bt bp N N J := ⟨_, rfl⟩
    obtain ⟨F, hF⟩ : ∃ F : Nat -> Prop, F = TwF w V bt bp J := ⟨_, rfl⟩
    have ef : Hid (StKit P F B J) := by rw [hP, hF]; exact TwS.kit O.out.1
    have ja : Hid (P wr.drew) := ef.out.more _ _ (by rw [hP]; exact r.s) (Below.refl _ _).drew
    have av : Hid (∀ W, P W -> W.cell? ⟨n1, 0, none⟩ = some (.slice (some ⟨g, 0, none⟩) l.length ck2) /\ W.rangeAt g (j * 32) (K.toList.map encB)) := fun W h => by
     rw [hP] at h
     obtain ⟨h1, h2⟩ := r.k.at h
     obtain ⟨g', ns, ek, -, lf⟩ := h2.key hj
     simp only [Value.slice.injEq, Option.some.injEq, Addr.mk.injEq, and_true, true_and] at ek
     obtain ⟨rfl, -⟩ := ek
     rw [ae] at lf
     exact ⟨(box_cells' h1).1, lf⟩
    have ab : Hid (K.size = 32 /\ Bytes K /\ K ∈ l.map (·.1) /\ k < m.length /\ l.length = m.length) := ⟨eo.1, eo.2, jo, io, dt⟩
    have X := Hid.hide r
    have HP : Hid (P = TwS w R V B bt bp N N J /\ F = TwF w V bt bp J) := ⟨hP, hF⟩
    clear aa Y dt hc ic ld dn aq ae jo eo hP hF r L io hj fi
    go_upto_region 13 with fail
    go_cut [13] (fun v13 wc => ∃ kb, v13 = .pointer (some ⟨kb, 0, none⟩) /\ P wc /\ F kb /\ kb < wc.heap.size /\ wc.rangeAt kb 0 (K.toList.map encB))
    case first =>
     refine wp_region_any (by kernel_rfl) ?_
     change wpAny _ _ _ _ _ _ _ (World.drew _)
     obtain ⟨vf, y⟩ : ∃ vf : Nat -> Option Value, vf = fun i => ([some (.pointer (some ⟨n1, 0, none⟩)), some (.slice (some ⟨g, 0, none⟩) l.length ck2), some (.int .i64 n), some (.int .i64 (k : Int)), some (.int .i64 c), some (.pointer (some ⟨n1, 0, none⟩)), some (.slice (some ⟨g, 0, none⟩) l.length ck2), some (.int .i64 (l.length : Int)), some (.int .i64 (j : Int)), some (.pointer (some ⟨g, j * 32, none⟩)), some (.agg (K.toList.map encB).toArray), none, none] : List (Option Value)).getD i none := ⟨_, rfl⟩
     refine wpAny_vary _ (fun d v w' => (∀ i x, vf i = some x -> d i = true -> v i = x) /\ (fun d v w' => KyY P F 32 (K.toList.map encB) (d 11) (v 11) (d 12) w') d v w') (by kernel_rfl) (by kernel_rfl) ?_ _ (fun _ => undef) ?_ ?_
     ·intro i o H ar T b W C E z r
      have hi : i < 13 := (Array.getElem?_eq_some_iff.1 H).1
      match i, hi with
      | 0, _ =>
       obtain rfl := Option.some.inj H
       have t5 : b.tmps[5]? = some (.pointer (some ⟨n1, 0, none⟩)) := (C.rest 5 (fun i _ => noDst_of (by kernel_rfl) i)).trans rfl
       refine opPlain r.1 (by rw [y]; rfl) r.2 ?_
       clear H z C r E y
       go_simp
      | 1, _ =>
       obtain rfl := Option.some.inj H
       have oo : b.tmps[64]? = some (.pointer (some ⟨n1, 0, none⟩)) := tDone C r.1 (z ⟨0, .data⟩ (by simp) rfl) rfl (by simp) (by rw [y]; rfl)
       have z0 := (av.out W r.2.all).1
       refine opPlain r.1 (by rw [y]; rfl) r.2 ?_
       clear H z C r E y
       go_simp
      | 2, _ =>
       obtain rfl := Option.some.inj H
       have t1 : b.tmps[1]? = some (.int .i64 n) := (C.rest 1 (fun i _ => noDst_of (by kernel_rfl) i)).trans rfl
       refine opPlain r.1 (by rw [y]; rfl) r.2 ?_
       clear H z C r E y
       go_simp
      | 3, _ =>
       obtain rfl := Option.some.inj H
       have oc : b.tmps[12]? = some (.int .i64 (k : Int)) := (C.rest 12 (fun i _ => noDst_of (by kernel_rfl) i)).trans rfl
       refine opPlain r.1 (by rw [y]; rfl) r.2 ?_
       clear H z C r E y
       go_simp
      | 4, _ =>
       obtain rfl := Option.some.inj H
       have ot : b.tmps[66]? = some (.int .i64 n) := tDone C r.1 (z ⟨2, .data⟩ (by simp) rfl) rfl (by simp) (by rw [y]; rfl)
       have ou : b.tmps[67]? = some (.int .i64 (k : Int)) := tDone C r.1 (z ⟨3, .data⟩ (by simp) rfl) rfl (by simp) (by rw [y]; rfl)
       have nz := HC.out.1
       have ce := HC.out.2
       refine opPlain r.1 (by rw [y]; rfl) r.2 ?_
       clear H z C r E y
       go_simp
      | 5, _ =>
       obtain rfl := Option.some.inj H
       have t5 : b.tmps[5]? = some (.pointer (some ⟨n1, 0, none⟩)) := (C.rest 5 (fun i _ => noDst_of (by kernel_rfl) i)).trans rfl
       refine opPlain r.1 (by rw [y]; rfl) r.2 ?_
       clear H z C r E y
       go_simp
      | 6, _ =>
       obtain rfl := Option.some.inj H
       have ox : b.tmps[69]? = some (.pointer (some ⟨n1, 0, none⟩)) := tDone C r.1 (z ⟨5, .data⟩ (by simp) rfl) rfl (by simp) (by rw [y]; rfl)
       have z0 := (av.out W r.2.all).1
       refine opPlain r.1 (by rw [y]; rfl) r.2 ?_
       clear H z C r E y
       go_simp
      | 7, _ =>
       obtain rfl := Option.some.inj H
       have oy : b.tmps[70]? = some (.slice (some ⟨g, 0, none⟩) l.length ck2) := tDone C r.1 (z ⟨6, .data⟩ (by simp) rfl) rfl (by simp) (by rw [y]; rfl)
       refine opPlain r.1 (by rw [y]; rfl) r.2 ?_
       clear H z C r E y
       go_simp
      | 8, _ =>
       obtain rfl := Option.some.inj H
       have ow : b.tmps[68]? = some (.int .i64 c) := tDone C r.1 (z ⟨4, .data⟩ (by simp) rfl) rfl (by simp) (by rw [y]; rfl)
       have oz : b.tmps[71]? = some (.int .i64 (l.length : Int)) := tDone C r.1 (z ⟨7, .data⟩ (by simp) rfl) rfl (by simp) (by rw [y]; rfl)
       refine opPlain r.1 (by rw [y]; rfl) r.2 ?_
       clear H z C r E y
       go_simp
       go_at_call 11
       refine (jd.out W).mono ?_
       rintro e w9 ⟨rfl, rfl⟩
       exact ⟨rfl, rfl⟩
      | 9, _ =>
       obtain rfl := Option.some.inj H
       have oq : b.tmps[65]? = some (.slice (some ⟨g, 0, none⟩) l.length ck2) := tDone C r.1 (z ⟨1, .data⟩ (by simp) rfl) rfl (by simp) (by rw [y]; rfl)
       have p6 : b.tmps[72]? = some (.int .i64 (j : Int)) := tDone C r.1 (z ⟨8, .data⟩ (by simp) rfl) rfl (by simp) (by rw [y]; rfl)
       refine opPlain r.1 (by rw [y]; rfl) r.2 ?_
       clear H z C r E y
       go_simp
      | 10, _ =>
       obtain rfl := Option.some.inj H
       have np : b.tmps[73]? = some (.pointer (some ⟨g, j * 32, none⟩)) := tDone C r.1 (z ⟨9, .data⟩ (by simp) rfl) rfl (by simp) (by rw [y]; rfl)
       refine wp_load_mid 41 (.tmp 73) rfl g (j * 32) (by simp only [Act.eval, Array.getD_eq_getD_getElem?, np, Option.getD_some]) (K.toList.map encB) _ (av.out W r.2.all).2 au rfl bg ?_
       exact ⟨_, rfl, vals_step r.1 (by rw [y]; rfl), r.2⟩
      | 11, _ =>
       obtain rfl := Option.some.inj H
       have cm : ar.getD 12 false = false := by
        cases hq : ar.getD 12 false with
        | false => rfl
        | true => exact absurd (r.2.dep hq) (by show ¬ ar.getD 11 false = true; rw [E]; simp)
       refine Oper.wp_mono (K := fun a' w' => a' = b.put (some 13) (.pointer (some ⟨W.heap.size, 0, none⟩)) /\ w' = W.alloc (.cells z32 41)) (by rintro a' w' ⟨rfl, rfl⟩; exact ⟨_, rfl, vals_free r.1 (by rw [y]; rfl), r.2.alloc ef.out cm rfl⟩) ?_
       clear H z C r E y cm
       go_simp
      | 12, _ =>
       obtain rfl := Option.some.inj H
       have nr : b.tmps[74]? = some (.agg (K.toList.map encB).toArray) := tDone C r.1 (z ⟨10, .data⟩ (by simp) rfl) rfl (by simp) (by rw [y]; rfl)
       have fl := z ⟨11, .data⟩ (by simp) rfl
       obtain ⟨f9, f1, f2, f3, f4, -⟩ := r.2.bx fl
       have nj : b.tmps[13]? = some (.pointer (some ⟨f9, 0, none⟩)) := (C.done 11 13 fl rfl (by simp)).trans (congrArg some f1)
       refine wp_store_mid 41 (.tmp 13) (.tmp 74) rfl f9 0 (K.toList.map encB).toArray (by simp only [Act.eval, Array.getD_eq_getD_getElem?, nj, Option.getD_some]) (by simp only [Act.eval, Array.getD_eq_getD_getElem?, nr, Option.getD_some]) (by simpa [ab.out.1] using f4) (by rw [size51]; simp [ab.out.1]) (all_oneCell_toArray (oneCell_enc K .u8)) ?_
       exact ⟨undef, rfl, vals_free r.1 (by rw [y]; rfl), r.2.put ef.out fl f1 (by simp [ab.out.1])⟩
     ·exact ⟨fun _ _ _ h => (by simp at h), KyY.start ja.out (by simp) (by simp)⟩
     ·intro T W r
      have e0 : T 0 = .pointer (some ⟨n1, 0, none⟩) := r.1 0 _ (by rw [y]; rfl) rfl
      have e1 : T 1 = .slice (some ⟨g, 0, none⟩) l.length ck2 := r.1 1 _ (by rw [y]; rfl) rfl
      have e2 : T 2 = .int .i64 n := r.1 2 _ (by rw [y]; rfl) rfl
      have e3 : T 3 = .int .i64 (k : Int) := r.1 3 _ (by rw [y]; rfl) rfl
      have e4 : T 4 = .int .i64 c := r.1 4 _ (by rw [y]; rfl) rfl
      have e5 : T 5 = .pointer (some ⟨n1, 0, none⟩) := r.1 5 _ (by rw [y]; rfl) rfl
      have e6 : T 6 = .slice (some ⟨g, 0, none⟩) l.length ck2 := r.1 6 _ (by rw [y]; rfl) rfl
      have e7 : T 7 = .int .i64 (l.length : Int) := r.1 7 _ (by rw [y]; rfl) rfl
      have e8 : T 8 = .int .i64 (j : Int) := r.1 8 _ (by rw [y]; rfl) rfl
      have e9 : T 9 = .pointer (some ⟨g, j * 32, none⟩) := r.1 9 _ (by rw [y]; rfl) rfl
      have jm : T 10 = .agg (K.toList.map encB).toArray := r.1 10 _ (by rw [y]; rfl) rfl
      have hX := r.2
      simp only [runFrom, Act.put, Nat.zero_add, Nat.reduceAdd, List.setIfInBounds_toArray, List.set_cons_zero, List.set_cons_succ, e0, e1, e2, e3, e4, e5, e6, e7, e8, e9, jm]
      clear r y e0 e1 e2 e3 e4 e5 e6 e7 e8 e9 jm
      obtain ⟨kb, e1, e2, e3, -, e5⟩ := hX.bx rfl
      have HY : Hid (T 11 = .pointer (some ⟨kb, 0, none⟩) /\ P W /\ F kb /\ kb < W.heap.size /\ W.rangeAt kb 0 (K.toList.map encB)) := ⟨e1, hX.all, e2, e3, e5 rfl⟩
      clear hX e1 e2 e3 e5
      (try go_wp2)
      go_meet
      exact ⟨kb, HY.out⟩
    case rest =>
     obtain ⟨kb, rfl, hp, hf, l5, iv⟩ := hcut
     rw [HP.out.1] at hp
     rw [HP.out.2] at hf
     obtain ⟨wC, rfl⟩ : ∃ x, x = wc := ⟨_, rfl⟩
     obtain ⟨V1, cd⟩ : ∃ V1 : Nat -> Prop, V1 = fun i => V i \/ i = kb := ⟨_, rfl⟩
     have hi := X.out
     have ct : TwS w wC V1 B bt bp N N J wC := hp.next fun i I => by
      rw [cd] at I
      rcases I with I | rfl
      ·have := hp.uj i I
       exact ⟨Nat.lt_of_lt_of_le this.1 hp.q.size, this.2⟩
      ·exact ⟨l5, hf.1.2.1, hf.1.2.2.1, hf.2⟩
     obtain ⟨aa, Y⟩ := hi.k.at hp
     obtain ⟨z0, z1, -⟩ := box_cells' aa
     have ec : l.length <= 1000 := by have := ab.out; have := aw.out.2; omega
     have jg := Hid.hide (says_any (g := getN l) ⟨N, hp.p, hi.can, hi.get⟩ hp.q.wood Y ec (pth_dup hi.dup) ab.out.1 ab.out.2.1 rfl)
     have cw : TwM w n1 (some ⟨g, 0, none⟩) ck2 bv bi l wC V1 := ⟨aa, Y, by rw [cd]; exact .inl hi.k.u1, fun i I => by rw [cd]; exact .inl (hi.k.ur i I)⟩
     have H1 : Hid (TwS w wC V1 B bt bp N N J wC /\ V1 kb /\ wC.rangeAt kb 0 (K.toList.map encB) /\ TwM w n1 (some ⟨g, 0, none⟩) ck2 bv bi l wC V1 /\ V1 f /\ wC.heap[f]? = some (.cells #[.int .i64 0, .int .i64 0, .int .i64 0, .int .i64 0] 33 (0, 0)) /\ kb ≠ n1 /\ l.length <= 1000) := ⟨ct, by rw [cd]; exact .inr rfl, iv, cw, by rw [cd]; exact .inl hi.uf, (hp.q.keep f hi.uf).trans hi.ft, fun e => hf.1.2.2.2 (e ▸ hi.k.u1), ec⟩
     clear hp hf l5 cd ct aa Y cw ec hi HP av jd HC ja ef
     go_wp2_with (refine wpList_load_mid rfl 41 _ rfl kb 0 rfl (K.toList.map encB) _ iv au rfl bg ?_)
     refine jg.out.mono ?_
     rintro e wD ⟨rfl, jx⟩
     have ba := H1.out.1.more O.out.1 jx
     have ee : wD.rangeAt kb 0 (K.toList.map encB) := rangeAt_block H1.out.2.2.1 (ba.q.keep kb H1.out.2.1)
     obtain ⟨i9, il⟩ := H1.out.2.2.2.1.at ba
     obtain ⟨y0, y1, -⟩ := box_cells' i9
     have j9 := Hid.hide (moved_put (g := getN l) (u := ⟨#[111, 116, 104, 101, 114]⟩) ⟨N, ba.q.tree, X.out.can, X.out.get⟩ ba.q.wood il (fun i I => ⟨(H1.out.2.2.2.1.rows ba i I).1, (H1.out.2.2.2.1.rows ba i I).2.1⟩) H1.out.2.2.2.2.2.2.2 ab.out.1 ab.out.2.1 (by decide) (by decide))
     have az := Hid.hide ba
     clear jx ba i9 il iv z0 z1 jg
     go_wp2_with (refine wpList_load_mid rfl 41 _ rfl kb 0 rfl (K.toList.map encB) _ ee au rfl bg ?_)
     refine j9.out.mono ?_
     rintro e wE ⟨oa, p7, Z, rfl, lh, kj, ap, lg⟩
     obtain ⟨t2, dw, ce, di⟩ := lh.ex
     obtain ⟨qk, nk, dk, rfl⟩ := ap.keys.shape
     obtain ⟨qv, nv, dv, rfl⟩ := ap.vals.shape
     obtain ⟨l2, dq⟩ : ∃ l2, wiN l K ⟨#[111, 116, 104, 101, 114]⟩ = l2 := ⟨_, rfl⟩
     rw [dq] at ap
     obtain ⟨rfl, rfl⟩ := ap.len
     have bz : Hid (t2.can 64 /\ (∀ s, s.length = 64 -> t2.get s = if s = nibs K.toList then some ⟨#[111, 116, 104, 101, 114]⟩ else getN l s) /\ (∀ s, getN l2 s = if s = nibs K.toList then some ⟨#[111, 116, 104, 101, 114]⟩ else getN l s) /\ (l2.map (·.1)).Nodup /\ l2.length = m.length) := ⟨ce, di, fun s => by rw [<- dq]; exact getN_wi' _ _ _ _, by rw [<- dq]; exact wi_dup X.out.dup K _, by rw [<- dq, wi_same X.out.dup ab.out.2.2.1]; exact ab.out.2.2.2.2⟩
     have bm := az.out.turnT O.out.1 O.out.2.1 b7.out.2.1 kj dw
     obtain ⟨V2, ag⟩ : ∃ V2 : Nat -> Prop, V2 = fun i => i = f \/ i = kb \/ ((Value.slice qk l2.length dk).ownBlock = some i \/ (Value.slice qv l2.length dv).ownBlock = some i) := ⟨_, rfl⟩
     have dr : ∀ i, V1 i -> i < wE.heap.size /\ Z i = none /\ i ≠ bt /\ i ≠ bp := fun i I => by
      have := bm.uj i I
      exact ⟨Nat.lt_of_lt_of_le this.1 bm.q.size, this.2⟩
     have jr : TwS w wE V2 B bt bp t2 N Z wE := bm.next fun i I => by
      rw [ag] at I
      rcases I with rfl | rfl | I
      ·exact dr _ H1.out.2.2.2.2.1
      ·exact dr _ H1.out.2.1
      ·have h1 := ap.lo I
       have h2 := az.out.q.tree.lt
       have h3 := az.out.p.lt
       exact ⟨h1.2, lg i I, by omega, by omega⟩
     have l9 : wE.heap[n1]? = some (.cells #[.slice (some ⟨g, 0, none⟩) l.length ck2, .slice bv l.length bi] 25 (0, 0)) := (bm.q.keep n1 H1.out.2.2.2.1.u1).trans H1.out.2.2.2.1.box
     obtain ⟨wF, ix⟩ : ∃ x, World.alloc wE (.cells #[.slice qk l2.length dk, .slice qv l2.length dv] 25) = x := ⟨_, rfl⟩
     have gy : Below wE.heap.size wE wF := by rw [<- ix]; exact (Below.refl _ _).alloc (Nat.le_refl _) _
     have lr : wF.heap[wE.heap.size]? = some (.cells #[.slice qk l2.length dk, .slice qv l2.length dv] 25 (0, 0)) := by rw [<- ix]; exact Array.getElem?_push_size
     obtain ⟨x0, x1, -⟩ := box_cells' lr
     have ip := (gy.block n1 (dr n1 H1.out.2.2.2.1.u1).1).trans l9
     obtain ⟨d0, d1, g0, g1⟩ := box_cells' ip
     obtain ⟨q1, q2⟩ := box_set2 ip (.slice qk l2.length dk) (.slice qv l2.length dv)
     obtain ⟨wG, ln⟩ : ∃ x, (wF.setCell ⟨n1, 0, none⟩ (.slice qk l2.length dk)).setCell ⟨n1, 1, none⟩ (.slice qv l2.length dv) = x := ⟨_, rfl⟩
     rw [ln] at q1 q2
     have cp : TwF w V2 bt bp Z n1 := by
      have hn := dr n1 H1.out.2.2.2.1.u1
      refine ⟨⟨O.out.2.2.2.1, hn.2.1, hn.2.2.1, fun I => ?_⟩, hn.2.2.2⟩
      rw [ag] at I
      rcases I with e | e | I
      ·exact b7.out.2.2.2.2.2 e.symm
      ·exact H1.out.2.2.2.2.2.2.1 e.symm
      ·have h1 := (ap.lo I).1
       have h2 := az.out.q.size
       have h3 := (H1.out.1.uj n1 H1.out.2.2.2.1.u1).1
       omega
     have bl := (jr.more O.out.1 gy).only O.out.1 cp q2
     obtain ⟨V3, cz⟩ : ∃ V3 : Nat -> Prop, V3 = fun i => V2 i \/ i = n1 := ⟨_, rfl⟩
     have es : TwS w wG V3 B bt bp t2 N Z wG := bl.next fun i I => by
      rw [cz] at I
      rcases I with I | rfl
      ·have := bl.uj i I
       exact ⟨Nat.lt_of_lt_of_le this.1 bl.q.size, this.2⟩
      ·exact ⟨(Array.getElem?_eq_some_iff.1 q1).1, cp.1.2.1, cp.1.2.2.1, cp.2⟩
     have gj : TwM w n1 qk dk qv dv l2 wG V3 := ⟨q1, bl.q.kn (ap.mono az.out.q.below.size) fun i I => by rw [ag]; exact .inr (.inr I), by rw [cz]; exact .inr rfl, fun i I => by rw [cz, ag]; exact .inl (.inr (.inr I))⟩
     have iw : wG.rangeAt kb 0 (K.toList.map encB) := rangeAt_block (rangeAt_block ee ((bm.q.keep kb H1.out.2.1).trans (az.out.q.keep kb H1.out.2.1).symm)) (bl.q.keep kb (by rw [ag]; exact .inr (.inl rfl)))
     have ii : wG.heap[f]? = some (.cells #[.int .i64 0, .int .i64 0, .int .i64 0, .int .i64 0] 33 (0, 0)) := (bl.q.keep f (by rw [ag]; exact .inl rfl)).trans ((bm.q.keep f H1.out.2.2.2.2.1).trans H1.out.2.2.2.2.2.1)
     have je := Hid.hide (map_put (u := ⟨#[111, 116, 104, 101, 114]⟩) es.q.wood es.p X.out.can ab.out.1 ab.out.2.1 (by decide) (by decide))
     have H5 : Hid (TwS w wG V3 B bt bp t2 N Z wG /\ TwM w n1 qk dk qv dv l2 wG V3 /\ V3 f /\ wG.heap[f]? = some (.cells #[.int .i64 0, .int .i64 0, .int .i64 0, .int .i64 0] 33 (0, 0)) /\ ∀ i, ((Value.slice qk l2.length dk).ownBlock = some i \/ (Value.slice qv l2.length dv).ownBlock = some i) -> i ≠ f) := ⟨es, gj, by rw [cz, ag]; exact .inl (.inl rfl), ii, fun i I e => by have h1 := (ap.lo I).1; have h2 := az.out.q.size; have h3 := (H1.out.1.uj f H1.out.2.2.2.2.1).1; omega⟩
     clear lh kj ap lg dw ce di dq bm ag dr jr l9 gy lr ip q1 q2 cp bl cz es gj ii ee y0 y1 j9 az H1
     go_wp2_with (refine wpList_load_mid rfl 41 _ rfl kb 0 rfl (K.toList.map encB) _ iw au rfl bg ?_)
     clear ix ln
     refine je.out.mono ?_
     rintro e wH ⟨rfl, J3, t3, dz, ev, kz, cf⟩
     have e3 : t3 = t2 := can_unique 64 64 t3 t2 (Nat.le_refl _) ev bz.out.1 fun s hs _ => by rw [kz s hs, bz.out.2.1 s hs, X.out.get s hs]
     subst e3
     have aj : Hid (ShI w B n1 bt bp f m.length l2 t3 J3 wG V3 qk dk qv dv wH) := ⟨H5.out.1.turnP O.out.1 b7.out.1 b7.out.2.1 cf dz, H5.out.2.1, H5.out.2.2.1, H5.out.2.2.2.1, ev, fun s hs => by rw [bz.out.2.1 s hs, bz.out.2.2.1 s], bz.out.2.2.2.1, bz.out.2.2.2.2, H5.out.2.2.2.2⟩
     obtain ⟨D3, fp⟩ : ∃ D, t3.dig = D := ⟨_, rfl⟩
     have bk := xroot_any aj.out.s.q.wood (HT.out _ aj.out.s.q.below).1 O.out.2.2.1 aj.out.s.p
     rw [fp] at bk
     have ej := Hid.hide bk
     have fh : Hid (t3.dig = D3 /\ D3.length = 32 /\ ∀ x ∈ D3, x < 256) := by
      have cg := t3.cs_ok (can_cs t3 64 (by omega) ev)
      rw [<- fp]
      exact ⟨rfl, t3.dig_length cg, t3.dig_byte cg⟩
     clear dz ev kz cf fp bk iw d0 d1 g0 g1 x0 x1 je
     go_wp2_with fail
     refine ej.out.mono ?_
     rintro e wI ⟨rfl, kk⟩
     have du := aj.out.s.fr O.out.1 kk
     have fx := xroot_any du.q.wood (HT.out _ du.q.below).1 O.out.2.2.1 du.q.tree
     rw [fh.out.1] at fx
     have ay := Hid.hide fx
     have n8 := Hid.hide du
     clear kk du fx
     go_wp2_with fail
     refine ay.out.mono ?_
     rintro e wJ ⟨rfl, kl⟩
     have n9 : Hid (TwS w wG V3 B bt bp t3 t3 J3 wJ) := n8.out.fr O.out.1 kl
     have kg := hash_refl D3 fh.out.2.1 fh.out.2.2
     clear kl
     go_wp2
     go_roundg (m.length - (k + 1))
     case measure => have := ab.out.2.2.2.1; omega
     case rel => exact ⟨k + 1, J3, l2, t3, wG, V3, qk, dk, qv, dv, by have := ab.out.2.2.2.1; omega, rfl, val_int (sum_few k 1 (by have := ab.out.2.2.2.1; have := aw.out.2; omega)), n9.out, aj.out.k, aj.out.uf, aj.out.ft, aj.out.can, aj.out.get, aj.out.dup, aj.out.len, aj.out.rf⟩
   ·obtain rfl : k = m.length := by omega
    have X := Hid.hide r
    have dt := r.len
    have i1 : ¬ (m.length : Int) < (l.length : Int) := by omega
    have j8 : Hid (l.length = m.length /\ l.length <= 12) := ⟨dt, by have := aw.out.2; omega⟩
    clear aa Y r L io fi dt
    go_wp2
    clear z0 z1 i1
    go_loopg [18] l.length (fun gh i wr => ∃ x J' a, x <= l.length /\ gh = l.length - x /\ i = .int .i64 ((x : Nat) : Int) /\ TwS w R V B bt bp N a J' wr /\ a.can 64 /\ ∀ s, s.length = 64 -> a.get s = back l x (fun _ => none) (getN l) s)
    case atStart => exact ⟨0, J, N, Nat.zero_le _, rfl, rfl, X.out.s, X.out.can, fun s hs => (X.out.get s hs).trans (back_zero l (fun _ => none) (getN l) s)⟩
    case round =>
     rename_i wo _
     obtain ⟨x, J', a, I, rfl, rfl, hS, ew, dj⟩ := hrel
     obtain ⟨aa, Y⟩ := X.out.k.at hS
     obtain ⟨z0, z1, -⟩ := box_cells' aa
     have ez := pth_dup X.out.dup
     by_cases bf : x < l.length
     ·have i2 : (x : Int) < (l.length : Int) := by omega
      obtain ⟨g, jl, ek, dn, aq⟩ := Y.key bf
      simp only [Value.slice.injEq] at ek
      obtain ⟨rfl, -, rfl⟩ := ek
      obtain ⟨K, ae⟩ : ∃ K, l[x].1 = K := ⟨_, rfl⟩
      rw [ae] at aq
      have hK : K.size = 32 /\ Bytes K := by
       have := Y.ok l[x] (List.getElem_mem bf)
       rw [ae] at this
       exact ⟨this.1, this.2.1⟩
      have bg : (Tryz.prog.info? 41).map (·.size) = some (K.toList.map encB).length := by rw [size51]; simp [hK.1]
      obtain ⟨lv, l7⟩ : ∃ v, l[x].2 = v := ⟨_, rfl⟩
      have l4 : a.get (nibs K.toList) = some lv := by
       rw [dj _ (key_len hK.1), <- ae, back_at ez bf, <- l7]
       exact getN_mem ez (List.getElem_mem bf)
      have j4 := Hid.hide (map_del hS.q.wood hS.p ew hK.1 hK.2 l4)
      have HG : Hid (x < l.length /\ TwS w R V B bt bp N a J' wr /\ (∀ s, s.length = 64 -> (if s = nibs K.toList then none else a.get s) = back l (x + 1) (fun _ => none) (getN l) s)) := ⟨bf, hS, fun s hs => by rw [dj s hs, <- ae]; exact back_step bf (fun _ => none) (getN l) none rfl s⟩
      clear aa Y ez I bf hS ew dj dn ae hK l4 l7
      go_wp2_with (refine wpList_load_mid rfl 41 _ rfl g (x * 32) rfl (K.toList.map encB) _ aq au rfl bg ?_)
      refine j4.out.mono ?_
      rintro e wK ⟨rfl, Z, a2, dw, ce, di, ki⟩
      have m9 : Hid (TwS w R V B bt bp N a2 Z wK /\ a2.can 64 /\ ∀ s, s.length = 64 -> a2.get s = back l (x + 1) (fun _ => none) (getN l) s) := ⟨HG.out.2.1.turnP O.out.1 b7.out.1 b7.out.2.1 ki dw, ce, fun s hs => (di s hs).trans (HG.out.2.2 s hs)⟩
      clear dw ce di ki aq z0 z1 j4
      go_wp2
      go_roundg (l.length - (x + 1))
      case measure => have := HG.out.1; omega
      case rel => exact ⟨x + 1, Z, a2, by have := HG.out.1; omega, rfl, val_int (sum_few x 1 (by have := HG.out.1; have := j8.out.2; omega)), m9.out⟩
     ·obtain rfl : x = l.length := by omega
      have i3 : ¬ (l.length : Int) < (l.length : Int) := by omega
      have nf : a = .no := none_no ew fun s hs _ => by rw [dj s hs, back_none, get_no]
      subst nf
      obtain ⟨D0, cn⟩ : ∃ D, (digF ⟨#[128]⟩).toList = D := ⟨_, rfl⟩
      have ke : Nd.no.dig = D0 := by
       rw [<- cn]
       exact root_none fun u hu hg => by rw [none_no hu fun s hs _ => by rw [hg s hs, get_no]]
      have bk := xroot_any hS.q.wood (HT.out _ hS.q.below).1 O.out.2.2.1 hS.p
      rw [ke] at bk
      have ej := Hid.hide bk
      have HS := Hid.hide hS
      have ly : Hid (∀ W, Below w.heap.size w W -> Calls Tryz.prog 16 #[.string ⟨#[128]⟩] W fun e w' => e = .returned (.agg (D0.map encB).toArray) /\ Below W.heap.size W w') := fun W hW => by
       have := digest_any ⟨#[128]⟩ W (HT.out _ hW).1 (HT.out _ hW).2
       rw [cn] at this
       exact this
      have iy : Hid (D0.length = 32 /\ ∀ x ∈ D0, x < 256) := ⟨by rw [<- cn, Array.length_toList]; exact sumF_size _, by rw [<- cn]; exact digF_lt _⟩
      clear aa Y ez I bf hS ew dj cn ke bk
      go_wp2_with fail
      clear z0 z1
      refine ej.out.mono ?_
      rintro e wK ⟨rfl, kp⟩
      have fy := HS.out.fr O.out.1 kp
      have iz := Hid.hide (ly.out wK fy.q.below)
      have jf := Hid.hide fy
      clear kp fy
      go_wp2_with fail
      refine iz.out.mono ?_
      rintro e wL ⟨rfl, jy⟩
      have ga := jf.out.more O.out.1 jy
      obtain ⟨aa, Y⟩ := X.out.k.at ga
      obtain ⟨z0, z1, -⟩ := box_cells' aa
      have kg := hash_refl D0 iy.out.1 iy.out.2
      have el := Hid.hide ga
      clear jy ga aa Y iz ej jf HS
      have fa : ∀ W (R : World) (V : Nat -> Prop) (bq : Nat) J' a', TwS w R V B bt bq N a' J' W -> Calls Tryz.prog 9 #[.pointer (some ⟨bt, 0, none⟩), .slice none 0 0] W fun e w' => e = .returned (.string (textB (N.witness false []))) /\ Fr B J' J' W w' := fun W R V bq J' a' h => by
       have hl : (N.witness false []).length <= 900000 := by
        have h1 := witness_len (can_cs N 64 (by omega) X.out.can) false []
        have h2 := leaves_le X.out.can X.out.get
        have := j8.out.2
        omega
       exact xwitness_any (ps := []) (cc := 0) (pp := none) h.q.wood (HT.out _ h.q.below).1 O.out.2.2.1 h.q.tree ⟨fun K hK => (by cases hK), .inl rfl⟩ (by simp) hl
      by_cases im : l.length = 0
      ·have lj : N = .no := none_no X.out.can fun s hs _ => by
        rw [X.out.get s hs, List.eq_nil_of_length_eq_zero im, getN_nil, get_no]
       have hW := fa wL R V bp J' .no el.out
       rw [lj] at hW
       have ll : textB (Nd.no.witness false []) = ⟨#[0]⟩ := by decide
       rw [ll] at hW
       have HW := Hid.hide hW
       have i4 : (l.length : Int) = 0 := by omega
       clear hW ll lj fa im
       go_wp2_with fail
       refine HW.out.mono ?_
       rintro e wM ⟨rfl, dh⟩
       have lz : Hid (Below w.heap.size w wM) := (el.out.fr O.out.1 dh).q.below
       clear dh z0 z1
       go_wp2
       go_ret
       exact ⟨rfl, lz.out⟩
      ·have la : N ≠ .no := fun e => by
        have h0 : 0 < l.length := by omega
        have h1 := getN_mem (pth_dup X.out.dup) (List.getElem_mem h0)
        have h2 := X.out.get (pth l[0]) (key_len (X.out.k.kn.ok _ (List.getElem_mem h0)).1)
        rw [h1, e, get_no] at h2
        cases h2
       obtain ⟨fe, ir⟩ := witness_none X.out.can la
       obtain ⟨Dt, ak⟩ : ∃ D, N.dig = D := ⟨_, rfl⟩
       rw [ak] at fe ir
       obtain ⟨Wn, gn⟩ : ∃ s, textB (4 :: Dt) = s := ⟨_, rfl⟩
       have cg := N.cs_ok (can_cs N 64 (by omega) X.out.can)
       have ai : Hid (N.dig = Dt /\ Dt.length = 32 /\ (∀ x ∈ Dt, x < 256) /\ textB (4 :: Dt) = Wn) := ⟨ak, by rw [<- ak]; exact N.dig_length cg, by rw [<- ak]; exact N.dig_byte cg, gn⟩
       have jj : Hid (∀ W (R : World) (V : Nat -> Prop) (bq : Nat) J' a', TwS w R V B bt bq N a' J' W -> Calls Tryz.prog 9 #[.pointer (some ⟨bt, 0, none⟩), .slice none 0 0] W fun e w' => e = .returned (.string Wn) /\ Fr B J' J' W w') := fun W R V bq J' a' h => by
        have := fa W R V bq J' a' h
        rw [fe, gn] at this
        exact this
       have ay : Hid (∀ W (R : World) (V : Nat -> Prop) (bq : Nat) J' a', TwS w R V B bt bq N a' J' W -> Calls Tryz.prog 8 #[.pointer (some ⟨bt, 0, none⟩)] W fun e w' => e = .returned (.agg (Dt.map encB).toArray) /\ Fr B J' J' W w') := fun W R V bq J' a' h => by
        have := xroot_any h.q.wood (HT.out _ h.q.below).1 O.out.2.2.1 h.q.tree
        rw [ak] at this
        exact this
       have ei : Hid (N.prs false [] = .stub Dt /\ N.witness false [] = 4 :: Dt) := ⟨ir, fe⟩
       have i4 : ¬ (l.length : Int) = 0 := by omega
       have me := Hid.hide (ay.out wL R V bp J' .no el.out)
       have jp : 0 < l.length := by omega
       clear la fe ir ak gn cg fa im
       go_wp2_with fail
       refine me.out.mono ?_
       rintro e wM ⟨rfl, dh⟩
       have gb := el.out.fr O.out.1 dh
       have n6 := Hid.hide (jj.out wM R V bp J' .no gb)
       have mi := Hid.hide gb
       clear dh gb z0 z1 i4
       go_wp2_with fail
       refine n6.out.mono ?_
       rintro e wO ⟨rfl, kq⟩
       have et := mi.out.fr O.out.1 kq
       have df := et.q.below
       have fu := xopen_part (B := B) (S := J') (ps := []) sent et.q.wood X.out.can (by rw [ei.out.2, List.length_cons, ai.out.2.1]; omega) ((HE.out.1.below df).faults) (HE.out.2.2.2.below df) (HT.out _ df).1 (HT.out _ df).2
       rw [ei.out.1, ei.out.2, ai.out.1, ai.out.2.2.2] at fu
       have eh := Hid.hide fu
       have mj := Hid.hide et
       clear kq et df fu
       go_wp2_with fail
       refine eh.out.mono ?_
       rintro e wP ⟨bq, Z, rfl, lk, na, ao, am⟩
       have bc : TwS w R V B bt bq N (.stub Dt) Z wP := by
        have h := mj.out
        have hs := h.q.size
        refine ⟨⟨h.q.below.behind' am, Nat.le_trans hs am.size, fun k L => (am.block k (Nat.lt_of_lt_of_le (h.uj k L).1 hs)).trans (h.q.keep k L), ao.forest, h.q.tree.framex ao (fun h => h)⟩, lk, fun k L => ?_⟩
        have hu := h.uj k L
        exact ⟨hu.1, ao.new k (Nat.lt_of_lt_of_le hu.1 hs) hu.2.1, hu.2.2.1, by omega⟩
       have ie : wP.heap[f]? = some (.cells #[.int .i64 0, .int .i64 0, .int .i64 0, .int .i64 0] 33 (0, 0)) := (bc.q.keep f X.out.uf).trans X.out.ft
       obtain ⟨c0, c1, c2, c3, f0, f1, f2, f3⟩ := fault_cells ie
       have ig := fault_set ie (.int .i64 0) (.int .i64 0) (.int .i64 0) (.int .i64 0)
       have iq := fault_only (w := wP) (b := f) (.int .i64 0) (.int .i64 0) (.int .i64 0) (.int .i64 0)
       obtain ⟨wQ, lp⟩ : ∃ x, ((((wP.setCell ⟨f, 0, none⟩ (.int .i64 0)).setCell ⟨f, 1, none⟩ (.int .i64 0)).setCell ⟨f, 2, none⟩ (.int .i64 0)).setCell ⟨f, 3, none⟩ (.int .i64 0)) = x := ⟨_, rfl⟩
       rw [lp] at ig iq
       obtain ⟨d0, d1, d2, d3, -⟩ := fault_cells ig
       obtain ⟨V2, ag⟩ : ∃ V2 : Nat -> Prop, V2 = fun i => V i /\ i ≠ f := ⟨_, rfl⟩
       have js : TwS w wP V2 B bt bq N (.stub Dt) Z wP := bc.next fun i I => by
        rw [ag] at I
        have := bc.uj i I.1
        exact ⟨Nat.lt_of_lt_of_le this.1 bc.q.size, this.2⟩
       have jn : TwF w V2 bt bq Z f := by
        have hu := bc.uj f X.out.uf
        exact ⟨⟨b7.out.2.2.2.2.1, hu.2.1, hu.2.2.1, fun h => by rw [ag] at h; exact h.2 rfl⟩, hu.2.2.2⟩
       have jt := js.only O.out.1 jn iq
       have gl : TwM w n1 fg ck2 bv bi l wP V2 := ⟨(X.out.k.at bc).1, (X.out.k.at bc).2, by rw [ag]; exact ⟨X.out.k.u1, b7.out.2.2.2.2.2.symm⟩, fun i I => by rw [ag]; exact ⟨X.out.k.ur i I, X.out.rf i I⟩⟩
       have HQ : Hid (TwS w wP V2 B bt bq N (.stub Dt) Z wQ /\ TwM w n1 fg ck2 bv bi l wP V2) := ⟨jt, gl⟩
       have lc : opV bq = .tuple #[.pointer (some ⟨bq, 0, none⟩), .agg #[.int .i64 0, .int .i64 0, .int .i64 0, .int .i64 0]] := rfl
       rw [lc]
       clear lc lk na ao am bc ie ig iq ag js jn jt gl
       go_wp2_with fail
       clear lp
       refine (fine_zero wQ).mono ?_
       rintro e wR ⟨rfl, jz⟩
       have gc := HQ.out.1.more O.out.1 jz
       have n7 := Hid.hide (jj.out wR wP V2 bq Z _ gc)
       have ml := Hid.hide gc
       clear jz gc c0 c1 c2 c3 f0 f1 f2 f3 d0 d1 d2 d3
       go_wp2_with fail
       refine n7.out.mono ?_
       rintro e wS ⟨rfl, kr⟩
       have ge := ml.out.fr O.out.1 kr
       have mf := Hid.hide (ay.out wS wP V2 bq Z _ ge)
       have mn := Hid.hide ge
       clear kr ge
       go_wp2_with fail
       refine mf.out.mono ?_
       rintro e wT ⟨rfl, kt⟩
       have ju := mn.out.fr O.out.1 kt
       have jq := letters_any Dt.toArray wT (by simpa using ai.out.2.1) (bytes_list ai.out.2.2.1)
       have ib : (⟨#[4]⟩ : ByteArray) ++ textOf Dt = Wn := by
        rw [<- ai.out.2.2.2]
        exact textOf_append [4] Dt
       obtain ⟨Lt, eq⟩ : ∃ s, textOf Dt = s := ⟨_, rfl⟩
       rw [eq] at ib
       have nx : Lt.size = 32 := by rw [<- eq, textOf_size]; exact ai.out.2.1
       have fs : Calls Tryz.prog 17 #[.agg (Dt.map encB).toArray] wT fun e w' => e = .returned (.string Lt) /\ Below wT.heap.size wT w' := by
        rw [<- eq]
        exact jq
       have m8 := Hid.hide fs
       have mt := Hid.hide ju
       clear kt ju jq fs eq
       go_wp2_with fail
       refine m8.out.mono ?_
       rintro e wU ⟨rfl, k9⟩
       have c9 := mt.out.more O.out.1 k9
       obtain ⟨aa, Y⟩ := HQ.out.2.at c9
       obtain ⟨z0, z1, -⟩ := box_cells' aa
       obtain ⟨g, jl, ek, dn, aq⟩ := Y.key jp
       simp only [Value.slice.injEq] at ek
       obtain ⟨rfl, -, rfl⟩ := ek
       obtain ⟨K, ae⟩ : ∃ K, l[0].1 = K := ⟨_, rfl⟩
       rw [ae, Nat.zero_mul] at aq
       have hK : K.size = 32 /\ Bytes K := by
        have := Y.ok l[0] (List.getElem_mem jp)
        rw [ae] at this
        exact ⟨this.1, this.2.1⟩
       have bg : (Tryz.prog.info? 41).map (·.size) = some (K.toList.map encB).length := by rw [size51]; simp [hK.1]
       obtain ⟨ls, lu, nh⟩ := key_path hK.1 hK.2
       have m7 := Hid.hide (xget_stub sent ((HE.out.1.below c9.q.below).faults) c9.q.wood c9.p hK.1 hK.2 rfl (by rw [Nd.fits]; trivial) (by rw [ls]; exact lu) (by omega) (WayTo.stop rfl))
       have i5 : (0 : Int) < (l.length : Int) := by omega
       have mu := Hid.hide c9
       clear k9 c9 aa Y dn ae hK ls lu nh
       go_wp2_with (refine wpList_load_mid rfl 41 _ rfl g 0 rfl (K.toList.map encB) _ aq au rfl bg ?_)
       refine m7.out.mono ?_
       rintro e wV ⟨rfl, ka⟩
       have cu := mu.out.more O.out.1 ka
       have fw := xroot_any cu.q.wood (HT.out _ cu.q.below).1 O.out.2.2.1 cu.p
       have kf : (Nd.stub Dt).dig = Dt := by
        have := prs_dig (can_cs N 64 (by omega) X.out.can) false []
        rw [ei.out.1, ai.out.1] at this
        exact this
       rw [kf] at fw
       have mh := Hid.hide fw
       have mw := Hid.hide cu
       clear ka cu fw kf aq z0 z1 ib
       go_wp2_with fail
       refine mh.out.mono ?_
       rintro e wX ⟨rfl, ku⟩
       have gg := mw.out.fr O.out.1 ku
       have mg := Hid.hide (ay.out wX wP V2 bq Z _ gg)
       have mz := Hid.hide gg
       clear ku gg
       go_wp2_with fail
       refine mg.out.mono ?_
       rintro e wY ⟨rfl, kv⟩
       have lw : Hid (Below w.heap.size w wY) := (mz.out.fr O.out.1 kv).q.below
       have nt := hash_refl Dt ai.out.2.1 ai.out.2.2.1
       clear kv kg
       go_wp2
       go_ret
       exact ⟨rfl, lw.out⟩
end Go.Proofs.YtlgajgjfjohodaaGreatDoor
