/-
  Apart: the walk.
-/
import Derived.Test.YthbgepmpdphigaaGreatDoorAxGqG
import Derived.Test.YthbgepmpdphigaaGreatDoorAxSaG
namespace Go.Proofs.YthbgepmpdphigaaGreatDoor
open Go.RowKit
set_option maxRecDepth 100000
set_option maxHeartbeats 25600000
theorem Qq3 (raw other piece : ByteArray) (w : World) (sent : Nat -> Addr) (hE : Env w.heap.size sent w) (hB : Bru w) (hTy : typeAt w) (hTl : 12 < w.heap.size) (hr : raw.size <= 9223372036854775807) (ho : other.size <= 9223372036854775807) :
  Calls Tryz.prog 3 #[.string raw, .string other, .string piece] w fun e w' => e = .returned (.bool true) /\ Below w.heap.size w w' := by
 have ju := Hid.hide (Qlc raw w hr)
 have jv := Hid.hide (fun W => Qlc other W ho)
 have HE : Hid (Env w.heap.size sent w /\ typeAt w /\ 12 < w.heap.size /\ Bru w) := ⟨hE, hTy, hTl, hB⟩
 have au := Tryz.underlying45
 clear hE hTy hTl hr ho hB
 go_enter Tryz.func3, Tryz.ntmps3
 go_wp2_with fail
 refine ju.out.mono ?_
 rintro e w1 ⟨kr, ks, vs, m, rfl, az, ky, la⟩
 obtain ⟨pk, mk, ck, rfl⟩ := az.keys.shape
 obtain ⟨Y, mv, X, rfl⟩ := az.vals.shape
 obtain ⟨rfl, rfl⟩ := az.len
 have H1 : Hid (Below w.heap.size w w1 /\ Kn w1 w.heap.size (.slice pk m.length ck) (.slice Y m.length X) m /\ (m.map pth).Nodup /\ m.length <= 12) := ⟨kr, az, Qtd ky, la⟩
 clear kr az ky la ju
 go_wp2_with fail
 obtain ⟨ij, -, -, jh⟩ := Qpi w1 (.slice pk m.length ck) (.slice Y m.length X)
 have eu : (World.alloc w1 (.cells #[.slice pk m.length ck, .slice Y m.length X] 25)).heap[w1.heap.size]? = some (.cells #[.slice pk m.length ck, .slice Y m.length X] 25 (0, 0)) := Array.getElem?_push_size
 generalize World.alloc w1 _ = w2 at ij jh eu ⊢
 have H2 : Hid (Below w1.heap.size w1 w2 /\ w2.heap.size = w1.heap.size + 1 /\ w2.heap[w1.heap.size]? = some (.cells #[.slice pk m.length ck, .slice Y m.length X] 25 (0, 0))) := ⟨ij, jh, eu⟩
 clear ij jh eu
 refine (jv.out w2).mono ?_
 rintro e w3 ⟨fh, ks, vs, o, rfl, dz, kz, lc⟩
 obtain ⟨qk, nk, dk, rfl⟩ := dz.keys.shape
 obtain ⟨qv, nv, dv, rfl⟩ := dz.vals.shape
 obtain ⟨rfl, rfl⟩ := dz.len
 have H3 : Hid (Below w2.heap.size w2 w3 /\ Kn w3 w2.heap.size (.slice qk o.length dk) (.slice qv o.length dv) o /\ (o.map pth).Nodup /\ o.length <= 12) := ⟨fh, dz, Qtd kz, lc⟩
 obtain ⟨R, fs⟩ : ∃ n, w1.heap.size = n := ⟨_, rfl⟩
 rw [fs] at H2 ⊢
 have j9 : R < w3.heap.size := by have := H2.out.2.1; have := fh.size; omega
 have ip : w3.heap[R]? = some (.cells #[.slice pk m.length ck, .slice Y m.length X] 25 (0, 0)) := (fh.block R (by have := H2.out.2.1; omega)).trans H2.out.2.2
 clear fh dz kz lc jv
 obtain ⟨bo, -, -, fx⟩ := Qpi w3 (.slice qk o.length dk) (.slice qv o.length dv)
 have ay : (World.alloc w3 (.cells #[.slice qk o.length dk, .slice qv o.length dv] 25)).heap[w3.heap.size]? = some (.cells #[.slice qk o.length dk, .slice qv o.length dv] 25 (0, 0)) := Array.getElem?_push_size
 obtain ⟨w4, ln⟩ : ∃ x, World.alloc w3 (.cells #[.slice qk o.length dk, .slice qv o.length dv] 25) = x := ⟨_, rfl⟩
 rw [ln] at bo fx ay
 have ez := (bo.block R j9).trans ip
 obtain ⟨n2, nn⟩ : ∃ n, w3.heap.size = n := ⟨_, rfl⟩
 rw [nn] at ay fx
 obtain ⟨z0, z1, -⟩ := Qa6 ez
 obtain ⟨y0, y1, -⟩ := Qa6 ay
 have il : Below w.heap.size w w3 := (H1.out.1.behind' (by rw [fs]; exact H2.out.1)).behind' H3.out.1
 have im : Below w.heap.size w w4 := il.behind' bo
 have az : Kn w4 w.heap.size (.slice pk m.length ck) (.slice Y m.length X) m := ((H1.out.2.1.below (by rw [fs]; exact H2.out.1)).below H3.out.1).below bo
 have l9 : Kn w4 w2.heap.size (.slice qk o.length dk) (.slice qv o.length dv) o := H3.out.2.1.below bo
 have H4 : Hid (Below w.heap.size w w4 /\ w4.heap[R]? = some (.cells #[.slice pk m.length ck, .slice Y m.length X] 25 (0, 0)) /\ w4.heap[n2]? = some (.cells #[.slice qk o.length dk, .slice qv o.length dv] 25 (0, 0)) /\ Kn w4 w.heap.size (.slice pk m.length ck) (.slice Y m.length X) m /\ Kn w4 w2.heap.size (.slice qk o.length dk) (.slice qv o.length dv) o /\ (m.map pth).Nodup /\ m.length <= 12 /\ (o.map pth).Nodup /\ o.length <= 12 /\ R < n2 /\ w4.heap.size = n2 + 1 /\ w.heap.size <= R) := ⟨im, ez, ay, az, l9, H1.out.2.2.1, H1.out.2.2.2, H3.out.2.2.1, H3.out.2.2.2, by omega, fx, by have := H1.out.1.size; omega⟩
 have jz := Hid.hide (Qh7 az (Nat.le_refl _) (Below.refl _ _) (Qbu w4) (by have := H1.out; omega) H1.out.2.2.1 false)
 clear bo fx ay ez il im az l9 j9 ip H1 H2 H3 fs
 go_wp2_with fail
 clear ln
 refine jz.out.mono ?_
 rintro e w5 ⟨N, ku, rfl, S1, lj, fm⟩
 obtain ⟨t, lm, iq, bv⟩ := lj.ex
 have dp : Below w4.heap.size w4 w5 := fm.below (Qbu w4) fun _ h => h.elim
 have H5 : Hid (w4.heap.size <= N /\ TreeAt S1 w5 N t /\ t.can 64 /\ (∀ s, s.length = 64 -> t.get s = getN m s) /\ FrX w4.heap.size (fun _ => False) (fun _ => none) S1 w4 w5 /\ Below w4.heap.size w4 w5) := ⟨ku, lm, iq, bv, fm, dp⟩
 have k9 := Hid.hide (Qh7 H4.out.2.2.2.1 (Nat.le_refl _) dp fm.forest (by have := H4.out; omega) H4.out.2.2.2.2.2.1 false)
 have oj := (dp.cell (p := ⟨R, 0, none⟩) (by have := H4.out; show R < _; omega)).trans z0
 have ol := (dp.cell (p := ⟨R, 1, none⟩) (by have := H4.out; show R < _; omega)).trans z1
 clear ku lj lm iq bv fm dp jz z0 z1
 go_wp2_with fail
 refine k9.out.mono ?_
 rintro e w6 ⟨Z, kv, rfl, S2, lk, fp⟩
 have dq : Below w4.heap.size w4 w6 := H5.out.2.2.2.2.2.trans (fp.below H5.out.2.2.2.2.1.forest fun _ h => h.elim)
 have H6 : Hid (w5.heap.size <= Z /\ Tells S2 w6 Z (getN m) /\ FrX w4.heap.size (fun _ => False) S1 S2 w5 w6 /\ Below w4.heap.size w4 w6) := ⟨kv, lk, fp, dq⟩
 have ka := Hid.hide (Qh7 H4.out.2.2.2.2.1 (Nat.le_refl _) dq fp.forest (by have := H4.out; omega) H4.out.2.2.2.2.2.2.2.1 false)
 have oh := (dq.cell (p := ⟨n2, 0, none⟩) (by have := H4.out; show n2 < _; omega)).trans y0
 have oi := (dq.cell (p := ⟨n2, 1, none⟩) (by have := H4.out; show n2 < _; omega)).trans y1
 clear kv lk fp dq k9 oj ol y0 y1
 go_wp2_with fail
 refine ka.out.mono ?_
 rintro e w7 ⟨V, dr, rfl, S3, ll, du⟩
 obtain ⟨ww, lp, fy, jp⟩ := ll.ex
 have kt : Below w4.heap.size w4 w7 := H6.out.2.2.2.trans (du.below H6.out.2.2.1.forest fun _ h => h.elim)
 have H7 : Hid (w6.heap.size <= V /\ TreeAt S3 w7 V ww /\ ww.can 64 /\ Tells S3 w7 Z (getN m) /\ TreeAt S3 w7 N t /\ Forest w4.heap.size S3 w7 /\ Below w4.heap.size w4 w7 /\ N < Z /\ Z < V /\ w4.heap.size <= N) := by
  have f6 := H6.out.2.2.1
  refine ⟨dr, lp, fy, H6.out.2.1.framex du (fun h => h), (H5.out.2.1.framex f6 (fun h => h)).framex du (fun h => h), du.forest, kt, ?_, ?_, H5.out.1⟩
  ·have := H5.out.2.1.lt; have := H6.out.1; omega
  ·obtain ⟨tu, hu, -⟩ := H6.out.2.1.ex
   have := hu.lt
   omega
 have HM : Hid (t.can 64 /\ (∀ s, s.length = 64 -> t.get s = getN m s)) := ⟨H5.out.2.2.1, H5.out.2.2.2.1⟩
 have HT : Hid (∀ W, Below w.heap.size w W -> Tabs W /\ 15 <= W.heap.size) := fun W hW => ⟨(HE.out.1.below hW).tabs, Nat.le_trans HE.out.1.low hW.size⟩
 clear dr ll du lp fy jp kt ka oh oi H5 H6
 have io : Below w.heap.size w w7 := H4.out.1.behind' H7.out.2.2.2.2.2.2.1
 have bj : 15 <= w4.heap.size := (HT.out _ H4.out.1).2
 have d7 := Hid.hide (Qcq H7.out.2.2.2.2.2.1 (HT.out _ io).1 bj H7.out.2.1)
 obtain ⟨Dw, i7⟩ : ∃ D, ww.dig = D := ⟨_, rfl⟩
 rw [i7] at d7
 have cw : Hid (ww.dig = Dw /\ Dw.length = 32 /\ ∀ x ∈ Dw, x < 256) := by
  have cf := ww.cs_ok (Qf9 ww 64 (by omega) H7.out.2.2.1)
  rw [<- i7]
  exact ⟨rfl, ww.dig_length cf, ww.dig_byte cf⟩
 clear io bj i7
 go_wp2_with fail
 refine d7.out.mono ?_
 rintro e w8 ⟨rfl, dw⟩
 obtain ⟨tt, jn, lr, o1, b9, r9, s9⟩ := Qn8 w8 Dw.toArray (by simpa using cw.out.2.1)
 dsimp only at tt jn lr o1 b9 r9 s9
 go_wp2_with (refine wpList_store_mid rfl 31 _ _ rfl w8.heap.size 0 (Dw.map encB).toArray rfl rfl tt jn o1 ?_; generalize World.setCells _ w8.heap.size 0 _ = w9 at b9 r9 s9 ⊢)
 have c9 : Fr w4.heap.size S3 S3 w7 w9 := dw.trans (Fr.of_below dw.forest b9)
 obtain ⟨ab, lh⟩ : ∃ x, w8.heap.size = x := ⟨_, rfl⟩
 rw [lh] at r9 s9 ⊢
 have eo : Below w4.heap.size w7 w9 := (c9.x (fun _ => False)).below H7.out.2.2.2.2.2.1 fun _ h => h.elim
 have ew : Below w.heap.size w w9 := (H4.out.1.behind' H7.out.2.2.2.2.2.2.1).trans (eo.mono H4.out.1.size)
 have H9 : Hid (TreeAt S3 w9 V ww /\ Tells S3 w9 Z (getN m) /\ TreeAt S3 w9 N t /\ Forest w4.heap.size S3 w9 /\ Below w4.heap.size w4 w9 /\ N < Z /\ Z < V /\ w4.heap.size <= N /\ w9.rangeAt ab 0 (Dw.map encB) /\ ab < w9.heap.size /\ V < ab /\ Below w.heap.size w w9 /\ S3 ab = none) := ⟨H7.out.2.1.frame c9, H7.out.2.2.2.1.framex (c9.x fun _ => False) (fun h => h), H7.out.2.2.2.2.1.frame c9, c9.forest, H7.out.2.2.2.2.2.2.1.trans eo, H7.out.2.2.2.2.2.2.2.1, H7.out.2.2.2.2.2.2.2.2.1, H7.out.2.2.2.2.2.2.2.2.2, r9, s9, by have := H7.out.2.1.lt; have := dw.size; omega, ew, dw.forest.fresh (by omega)⟩
 have bj : 15 <= w4.heap.size := (HT.out _ H4.out.1).2
 have cz := Hid.hide (Qcq H9.out.2.2.2.1 (HT.out _ ew).1 bj H9.out.2.2.1)
 clear dw tt jn lr o1 b9 r9 s9 c9 lh eo ew d7 H7
 refine cz.out.mono ?_
 rintro e w10 ⟨rfl, bq⟩
 have fk : Below w.heap.size w w10 := H9.out.2.2.2.2.2.2.2.2.2.2.2.1.trans (((bq.x (fun _ => False)).below H9.out.2.2.2.1 fun _ h => h.elim).mono H4.out.1.size)
 have fu := Qjf HM.out.1 HM.out.2 (by have := H4.out.2.2.2.2.2.2.1; omega)
 have gn := Hid.hide (Qre bq.forest (HT.out _ fk).1 bj (H9.out.2.2.1.frame bq) (by have := fu.2; omega))
 obtain ⟨Wt, ib⟩ : ∃ s, textB (t.witness true []) = s := ⟨_, rfl⟩
 rw [ib] at gn
 obtain ⟨Dt, gz⟩ : ∃ D, t.dig = D := ⟨_, rfl⟩
 have ao : Hid (t.dig = Dt /\ textB (t.witness true []) = Wt /\ 15 <= w4.heap.size) := ⟨gz, ib, bj⟩
 have jq : Hid (Fr w4.heap.size S3 S3 w9 w10) := bq
 rw [gz]
 clear bq fk fu ib gz cz bj
 go_wp2_with fail
 refine gn.out.mono ?_
 rintro e w11 ⟨rfl, f7⟩
 have ci := jq.out.trans f7
 have ic : Below w4.heap.size w9 w11 := (ci.x (fun _ => False)).below H9.out.2.2.2.1 fun _ h => h.elim
 have aq : Below w.heap.size w w11 := H9.out.2.2.2.2.2.2.2.2.2.2.2.1.trans (ic.mono H4.out.1.size)
 have nj := HE.out.1.below aq
 have i9 := Qoh (B := w4.heap.size) (S := S3) sent f7.forest HM.out.1 HM.out.2 (by have := H4.out.2.2.2.2.2.2.1; omega) (HE.out.1.faults.below aq) (HE.out.2.2.2.below aq) (HT.out _ aq).1 (HT.out _ aq).2
 rw [ao.out.1, ao.out.2.1] at i9
 have jw := Hid.hide i9
 have ba : Hid (Fr w4.heap.size S3 S3 w9 w11) := ci
 clear f7 ci ic aq nj i9 gn jq
 go_wp2_with fail
 refine jw.out.mono ?_
 rintro e w12 ⟨T, S4, rfl, hp, -, fj, al⟩
 have l7 : faultV 0 0 0 0 = .agg #[.int .i64 0, .int .i64 0, .int .i64 0, .int .i64 0] := rfl
 rw [l7]
 have aw : Hid (TreeAt S4 w12 T t /\ w11.heap.size <= T /\ FrX w4.heap.size (fun _ => False) S3 S4 w11 w12) := ⟨hp, fj, al⟩
 clear hp fj al jw l7
 go_wp2_with fail
 have em : Below w12.heap.size w12 (w12.alloc (.cells #[.int .i64 0, .int .i64 0, .int .i64 0, .int .i64 0] 35)) := (Below.refl _ _).alloc (Nat.le_refl _) _
 generalize World.alloc w12 _ = w13 at em ⊢
 refine (Qmi w13).mono ?_
 rintro e ap ⟨rfl, ie⟩
 have g9 : Hid (Below w12.heap.size w12 ap) := em.behind' ie
 clear em ie
 go_wp2_with fail
 refine (Qus ap).mono ?_
 rintro e w15 ⟨rfl, cj⟩
 have f9 := Hs.zero ap _ 83 Qig
 have ig : Below ap.heap.size ap w15 := by rw [cj]; exact (Below.refl _ _).alloc (Nat.le_refl _) _
 have jf : w15.heap.size = ap.heap.size + 1 := by rw [cj]; simp
 rw [<- cj] at f9
 have cp : Hid (Hs w15 ap.heap.size init /\ Below ap.heap.size ap w15 /\ w15.heap.size = ap.heap.size + 1) := ⟨f9, ig, jf⟩
 clear cj f9 ig jf
 go_wp2_with fail
 refine (Qus w15).mono ?_
 rintro e w16 ⟨rfl, cm⟩
 have fa := Hs.zero w15 _ 83 Qig
 have ii : Below w15.heap.size w15 w16 := by rw [cm]; exact (Below.refl _ _).alloc (Nat.le_refl _) _
 have jg : w16.heap.size = w15.heap.size + 1 := by rw [cm]; simp
 rw [<- cm] at fa
 have bg : Hid (Hs w16 w15.heap.size init /\ Below w15.heap.size w15 w16 /\ w16.heap.size = w15.heap.size + 1) := ⟨fa, ii, jg⟩
 clear cm fa ii jg
 obtain ⟨hb_, j8⟩ : ∃ x, ap.heap.size = x := ⟨_, rfl⟩
 obtain ⟨gb, j5⟩ : ∃ x, w15.heap.size = x := ⟨_, rfl⟩
 rw [j8] at cp ⊢
 rw [j5] at bg ⊢
 have bc : Below w4.heap.size w4 w12 := (H9.out.2.2.2.2.1.trans ((ba.out.x (fun _ => False)).below H9.out.2.2.2.1 fun _ h => h.elim)).trans (aw.out.2.2.below ba.out.forest fun _ h => h.elim)
 have bn : Below w12.heap.size w12 w16 := (g9.out.behind' (by rw [j8]; exact cp.out.2.1)).behind' (by rw [j5]; exact bg.out.2.1)
 have ch : Below w.heap.size w w16 := (H4.out.1.behind' bc).behind' bn
 have m9 := g9.out.size
 have li : gb = hb_ + 1 := by have := cp.out.2.2; omega
 have l8 : Hs w16 hb_ init := cp.out.1.block (bg.out.2.1.block hb_ (by omega))
 have kf := Hid.hide (Qjr hb_ ⟨#[97]⟩ init w16 (by have := bg.out.2.2; omega) l8 (HT.out _ ch).1 (by have := (HT.out _ ch).2; have := ao.out.2.2; have := bc.size; omega))
 have gj : Hid (Below w4.heap.size w4 w12 /\ Below w12.heap.size w12 w16 /\ w12.heap.size <= hb_ /\ gb = hb_ + 1 /\ w16.heap.size = gb + 1 /\ Hs w16 gb init) := ⟨bc, bn, by omega, li, bg.out.2.2, bg.out.1⟩
 clear bc bn ch m9 li l8 j8 j5 cp
 go_wp2_with fail
 refine kf.out.mono ?_
 rintro e w17 ⟨rfl, ar, fc⟩
 obtain ⟨g8, fd⟩ : ∃ x, (bytesOf ⟨#[97]⟩).foldl push1 init = x := ⟨_, rfl⟩
 rw [fd] at fc
 obtain ⟨U, hU⟩ : ∃ U : Nat -> Prop, U = fun k => (w.heap.size <= k /\ k < w4.heap.size) \/ k = ab \/ k = hb_ := ⟨_, rfl⟩
 have hs := gj.out
 have aj : Below w12.heap.size w12 w17 := ar.only.below hs.2.1 hs.2.2.1 hs.2.1.size
 have m8 := aw.out.2.2.size
 have nr := ba.out.size
 have fj := aw.out.2.1
 have lz := aw.out.1.lt
 have lg := H9.out.2.2.2.2.2.2.2.2.2.1
 have ce : Fr w4.heap.size S4 S4 w12 w17 := Fr.of_below aw.out.2.2.forest aj
 have hX : ApX w U w4.heap.size N Z V T gb := by
  have h9 := H9.out
  have ni := H4.out.1.size
  have bo := hs.1.size
  refine ⟨ni, by omega, by omega, by omega, by omega, by omega, by omega, by omega, by omega, by omega, ?_, ?_⟩
  ·rw [hU]; rintro (h | h | h) <;> omega
  ·rw [hU]; rintro (h | h | h) <;> omega
 have hA : ApS w w17 U w4.heap.size N Z V T gb t ww (getN m) S4 w17 := by
  have h9 := H9.out
  have al := aw.out.2.2
  have jo : Below w.heap.size w w17 := (H4.out.1.behind' hs.1).behind' aj
  refine ⟨⟨jo, Nat.le_refl _, fun _ _ => rfl, ce.forest, ((h9.2.2.1.frame ba.out).framex al (fun h => h)).frame ce⟩, ((h9.2.1.framex (ba.out.x fun _ => False) (fun h => h)).framex al (fun h => h)).framex (ce.x fun _ => False) (fun h => h), ((h9.1.frame ba.out).framex al (fun h => h)).frame ce, aw.out.1.frame ce, ⟨init, hs.2.2.2.2.2.block (ar.only.block gb (by omega) (by omega))⟩, ⟨by have := ar.size; omega, al.forest.fresh (by omega)⟩, fun k hk => ?_⟩
  have hz := aj.size
  have ri := ar.size
  have rf := hs.1.size
  rw [hU] at hk
  rcases hk with hk | rfl | rfl
  ·exact ⟨by omega, al.forest.nothing hk.2⟩
  ·exact ⟨by omega, al.new _ (by omega) h9.2.2.2.2.2.2.2.2.2.2.2.2⟩
  ·exact ⟨by omega, al.forest.fresh (by omega)⟩
 have HX := Hid.hide hX
 have HU : Hid (∀ k, U k ↔ ((w.heap.size <= k /\ k < w4.heap.size) \/ k = ab \/ k = hb_)) := fun k => by rw [hU]
 have HA := Hid.hide hA
 have HR : Hid (w17.heap[R]? = some (.cells #[.slice pk m.length ck, .slice Y m.length X] 25 (0, 0)) /\ Kn w17 w.heap.size (.slice pk m.length ck) (.slice Y m.length X) m /\ w17.rangeAt ab 0 (Dw.map encB) /\ Hs w17 hb_ g8 /\ ab < w17.heap.size /\ hb_ < w17.heap.size) := by
  have fi : Below w4.heap.size w4 w17 := hs.1.trans (aj.mono hs.1.size)
  have h4 := H4.out
  have hz := ar.size
  refine ⟨(fi.block R (by omega)).trans h4.2.1, h4.2.2.2.1.below fi, ?_, fc, by have := aj.size; omega, by omega⟩
  have ng : w11.heap[ab]? = w9.heap[ab]? := ba.out.other ab lg H9.out.2.2.2.2.2.2.2.2.2.2.2.2
  have nh : w12.heap[ab]? = w11.heap[ab]? := aw.out.2.2.other ab (by omega) H9.out.2.2.2.2.2.2.2.2.2.2.2.2 (fun h => h)
  exact Qa3 (Qa3 (Qa3 H9.out.2.2.2.2.2.2.2.2.1 ng) nh) (aj.block ab (by omega))
 have HSt : Hid ((bytesOf ⟨#[97]⟩).foldl push1 init = g8) := fd
 have O : Hid (15 <= w4.heap.size /\ R < w4.heap.size /\ w.heap.size <= R /\ (m.map pth).Nodup /\ m.length <= 12 /\ Kn w4 w.heap.size (.slice pk m.length ck) (.slice Y m.length X) m) := by
  have h4 := H4.out
  exact ⟨ao.out.2.2, by omega, by omega, h4.2.2.2.2.2.1, h4.2.2.2.2.2.2.1, h4.2.2.2.1⟩
 clear hs aj m8 nr fj lz lg ce hX hA hU ar fc fd kf gj g9 bg aw ba H9 H4
 go_wp2
 go_loopg [21] m.length (fun gh i wr => ∃ k J gu, k <= m.length /\ gh = m.length - k /\ i = .int .i64 ((k : Nat) : Int) /\ ApS w w17 U w4.heap.size N Z V T gb t ww gu J wr /\ ∀ j (hj : j < m.length), k <= j -> gu (pth m[j]) = getN m (pth m[j]))
 case atStart => exact ⟨0, S4, getN m, Nat.zero_le _, rfl, rfl, HA.out, fun _ _ _ => rfl⟩
 case round =>
  obtain ⟨k, J, gu, hk, rfl, rfl, C, j6⟩ := hrel
  have dt : wr.heap[R]? = some (.cells #[.slice pk m.length ck, .slice Y m.length X] 25 (0, 0)) := (C.q.keep R ((HU.out R).2 (.inl ⟨O.out.2.2.1, O.out.2.1⟩))).trans HR.out.1
  have bx : Kn wr w.heap.size (.slice pk m.length ck) (.slice Y m.length X) m := C.q.kn HR.out.2.1 fun j hj => (HU.out j).2 (.inl (by
   rcases hj with e | e
   ·exact O.out.2.2.2.2.2.keys.block j e
   ·exact O.out.2.2.2.2.2.vals.block j e))
  obtain ⟨z0, z1, -⟩ := Qa6 dt
  by_cases fq : k < m.length
  ·have i1 : (k : Int) < (m.length : Int) := by omega
   obtain ⟨g, re, ek, nl, jd⟩ := bx.key fq
   simp only [Value.slice.injEq] at ek
   obtain ⟨rfl, -, rfl⟩ := ek
   obtain ⟨K, dn⟩ : ∃ K, m[k].1 = K := ⟨_, rfl⟩
   rw [dn] at jd
   have hK : K.size = 32 /\ Bytes K := by
    have := bx.ok m[k] (List.getElem_mem fq)
    rw [dn] at this
    exact ⟨this.1, this.2.1⟩
   have bz : (Tryz.prog.info? 45).map (·.size) = some (K.toList.map encB).length := by rw [Qbc]; simp [hK.1]
   have dr : Below w.heap.size w wr := C.q.below
   obtain ⟨L, hL⟩ : ∃ L, t.prove (textB (nibs K.toList)) = L := ⟨_, rfl⟩
   have HP := Hid.hide (Qjl C.q.wood (HT.out _ dr).1 O.out.1 C.q.tree HM.out.1 hK.1 hK.2 (L := L) hL)
   have HK : Hid (K.size = 32 /\ Bytes K /\ m[k].1 = K /\ t.prove (textB (nibs K.toList)) = L /\ k < m.length) := ⟨hK.1, hK.2, dn, hL, fq⟩
   have ag : Hid (∀ W J gu, ApS w w17 U w4.heap.size N Z V T gb t ww gu J W -> W.rangeAt g (k * 32) (K.toList.map encB) /\ W.cell? ⟨R, 0, none⟩ = some (.slice (some ⟨g, 0, none⟩) m.length ck) /\ W.cell? ⟨R, 1, none⟩ = some (.slice Y m.length X) /\ Kn W w.heap.size (.slice (some ⟨g, 0, none⟩) m.length ck) (.slice Y m.length X) m) := fun W J gu h => by
    have dt : W.heap[R]? = some (.cells #[.slice (some ⟨g, 0, none⟩) m.length ck, .slice Y m.length X] 25 (0, 0)) := (h.q.keep R ((HU.out R).2 (.inl ⟨O.out.2.2.1, O.out.2.1⟩))).trans HR.out.1
    have bx : Kn W w.heap.size (.slice (some ⟨g, 0, none⟩) m.length ck) (.slice Y m.length X) m := h.q.kn HR.out.2.1 fun j hj => (HU.out j).2 (.inl (by
     rcases hj with e | e
     ·exact O.out.2.2.2.2.2.keys.block j e
     ·exact O.out.2.2.2.2.2.vals.block j e))
    obtain ⟨x0, x1, -⟩ := Qa6 dt
    obtain ⟨g', om, ek, -, je⟩ := bx.key fq
    simp only [Value.slice.injEq, Option.some.injEq, Addr.mk.injEq, and_true, true_and] at ek
    obtain ⟨rfl, -⟩ := ek
    rw [dn] at je
    exact ⟨je, x0, x1, bx⟩
   obtain ⟨C1, kk⟩ : ∃ x, wr.heap.size = x := ⟨_, rfl⟩
   have lu : Hid (∀ j, C1 <= j -> ApF w U N Z V T gb J j) := fun j hj => (ApS.kit HX.out).fresh wr j C (by omega)
   have HS := Hid.hide C
   have HG := Hid.hide j6
   clear dt bx nl dn hK dr hL C j6 hk
   go_wp2_with (refine wpList_load_mid rfl 45 _ rfl g (k * 32) rfl (K.toList.map encB) _ jd au rfl bz ?_)
   refine HP.out.mono ?_
   rintro e jl ⟨rj, rfl, iv, ei⟩
   obtain ⟨pl, cl, rfl, ir⟩ := ei.cap
   have bl := HS.out.fr HX.out.base iv
   obtain ⟨nt, iz⟩ := bl.g
   have ke := Hid.hide (Qjr gb piece nt jl bl.gl.1 iz (HT.out _ bl.q.below).1 (Nat.le_trans O.out.1 HX.out.gB))
   have i8 : L.length <= 65 := by rw [<- HK.out.2.2.2.1]; exact Qty t _
   have cq : Hid (ApS w w17 U w4.heap.size N Z V T gb t ww gu J jl /\ OwnC jl wr.heap.size 1 (.slice pl L.length cl) L.length (strs L) /\ L.length <= 65) := ⟨bl, ei, i8⟩
   clear iv ei ir bl iz HP i8
   go_wp2_with fail
   refine ke.out.mono ?_
   rintro e jm ⟨rfl, bf, j4⟩
   have ej : OwnC jm wr.heap.size 1 (.slice pl L.length cl) L.length (strs L) := cq.out.2.1.keep bf.size fun j hj e => bf.block j hj (fun e2 => by have := (cq.out.2.1.block j e).1; have := HS.out.gl.1; omega)
   rw [kk] at ej
   have fg : Hid (ApS w w17 U w4.heap.size N Z V T gb t ww gu J jm /\ OwnC jm C1 1 (.slice pl L.length cl) L.length (strs L) /\ L.length <= 65) := ⟨cq.out.1.wrote HX.out bf.only j4, ej, cq.out.2.2⟩
   clear bf j4 ej ke cq kk jd z0 z1 i1
   go_wp2
   go_loopg [24] L.length (fun gh i wi => ∃ x cs, x <= L.length /\ gh = L.length - x /\ i = .int .i64 ((x : Nat) : Int) /\ ApS w w17 U w4.heap.size N Z V T gb t ww gu J wi /\ OwnC wi C1 1 (.slice pl L.length cl) L.length cs)
   case atStart => exact ⟨0, _, Nat.zero_le _, rfl, rfl, fg.out.1, fg.out.2.1⟩
   case round =>
    rename_i wo _
    obtain ⟨x, cs, hx, rfl, rfl, bm, bk⟩ := hrel
    by_cases ja : x < L.length
    ·have i2 : (x : Int) < (L.length : Int) := by omega
     obtain ⟨gl, oo, el, -, m7, -, -, -, -⟩ := bk.full (by omega)
     have ir : cs.length = L.length := by have := bk.1; omega
     cases el
     obtain ⟨y, hy⟩ : ∃ y, cs[x]? = some y := ⟨_, List.getElem?_eq_getElem (by omega)⟩
     obtain ⟨b0, b1⟩ := bk.cellAt x y hy
     have ld : Only gl wr (wr.setCell ⟨gl, x, none⟩ (.string ⟨#[109, 105, 110, 101]⟩)) := ⟨rfl, rfl, rfl, by simp, fun j _ np => Below.heap_setCell _ _ _ _ np⟩
     have HN : Hid (ApS w w17 U w4.heap.size N Z V T gb t ww gu J (wr.setCell ⟨gl, x, none⟩ (.string ⟨#[109, 105, 110, 101]⟩)) /\ OwnC (wr.setCell ⟨gl, x, none⟩ (.string ⟨#[109, 105, 110, 101]⟩)) C1 1 (.slice (some ⟨gl, 0, none⟩) L.length cl) L.length (cs.set x (.string ⟨#[109, 105, 110, 101]⟩)) /\ x < L.length /\ L.length <= 65) := ⟨bm.only HX.out.base (lu.out gl (bk.block gl rfl).1) ld, bk.set x (by omega) _, ja, fg.out.2.2⟩
     clear bm bk ir ld hx ja m7 hy
     go_wp2
     go_roundg (L.length - (x + 1))
     case measure => have := HN.out.2.2.1; omega
     case rel => exact ⟨x + 1, _, by have := HN.out.2.2.1; omega, rfl, Qav (Qbg x 1 (by have := HN.out.2.2.2; have := HN.out.2.2.1; omega)), HN.out.1, HN.out.2.1⟩
    ·obtain rfl : x = L.length := by omega
     obtain ⟨q0, q1, q2, q3⟩ := ag.out wr J gu bm
     have l4 := bm.u.del bm.q.wood HK.out.1 HK.out.2.1 (o := some m[k].2) (by
      have h1 := HG.out k HK.out.2.2.2.2 (Nat.le_refl _)
      rw [Qd7 O.out.2.2.2.1 (List.getElem_mem HK.out.2.2.2.2)] at h1
      have h2 : pth m[k] = nibs K.toList := congrArg (fun a : Array Nat => nibs a.toList) HK.out.2.2.1
      rw [h2] at h1
      exact h1)
     have HD := Hid.hide l4
     have jy := Hid.hide bm
     clear bm bk hx ja l4 q3
     go_wp2_with (refine wpList_load_mid rfl 45 _ rfl g (k * 32) rfl (K.toList.map encB) _ q0 au rfl bz ?_)
     refine HD.out.mono ?_
     rintro e rp ⟨rfl, J', fe, iw⟩
     obtain ⟨gv, j7⟩ : ∃ g : List Nat -> Option ByteArray, (fun s => if s = nibs K.toList then none else gu s) = g := ⟨_, rfl⟩
     rw [j7] at fe
     have jr := Hid.hide (jy.out.turn HX.out iw fe)
     have n7 : Hid ((fun s => if s = nibs K.toList then none else gu s) = gv) := j7
     have dc : Hid (∀ W, ApS w w17 U w4.heap.size N Z V T gb t ww gv J' W -> Calls Tryz.prog 14 #[.agg #[.slice (some ⟨g, 0, none⟩) m.length ck, .slice Y m.length X], .pointer (some ⟨N, 0, none⟩), .agg (K.toList.map encB).toArray] W fun e w' => e = .returned (.bool true) /\ Below W.heap.size W w') := fun W h => Qp6 (g := getN m) ⟨t, h.q.tree, HM.out.1, HM.out.2⟩ h.q.wood (ag.out W J' gv h).2.2.2 (by have := O.out.2.2.2.2.1; omega) O.out.2.2.2.1 HK.out.1 HK.out.2.1 rfl
     have de : Hid (∀ W, ApS w w17 U w4.heap.size N Z V T gb t ww gv J' W -> Calls Tryz.prog 14 #[.agg #[.slice (some ⟨g, 0, none⟩) m.length ck, .slice Y m.length X], .pointer (some ⟨T, 0, none⟩), .agg (K.toList.map encB).toArray] W fun e w' => e = .returned (.bool true) /\ Below W.heap.size W w') := fun W h => Qp6 (g := getN m) ⟨t, h.p, HM.out.1, HM.out.2⟩ h.q.wood (ag.out W J' gv h).2.2.2 (by have := O.out.2.2.2.2.1; omega) O.out.2.2.2.1 HK.out.1 HK.out.2.1 rfl
     have i3 : (k : Int) < (m.length : Int) := by have := HK.out.2.2.2.2; omega
     clear fe iw HD jy q0 q1 q2 j7
     go_upto_region 30 with fail
     refine wp_region_any (by kernel_rfl) ?_
     change wpAny _ _ _ _ _ _ _ (World.drew _)
     obtain ⟨f, z⟩ : ∃ f : Nat -> Value, f = fun i => ([.agg #[.slice (some ⟨g, 0, none⟩) m.length ck, .slice Y m.length X], .pointer (some ⟨N, 0, none⟩), .pointer (some ⟨R, 0, none⟩), .slice (some ⟨g, 0, none⟩) m.length ck, .int .i64 (k : Int), .pointer (some ⟨g, k * 32, none⟩), .agg (K.toList.map encB).toArray, .bool true, .bool true] : List Value).getD i undef := ⟨_, rfl⟩
     refine Qbq _ _ f (fun W => ApS w w17 U w4.heap.size N Z V T gb t ww gv J' W) (by kernel_rfl) (by kernel_rfl) ?_ _ ?_ rfl ?_
     ·intro i o ho ak b W r l C
      have hi : i < 9 := (Array.getElem?_eq_some_iff.1 ho).1
      match i, hi with
      | 0, _ =>
       obtain rfl := Option.some.inj ho
       have H : f 0 = .agg #[.slice (some ⟨g, 0, none⟩) m.length ck, .slice Y m.length X] := by rw [z]; rfl
       have t7 : b.tmps[7]? = some (.pointer (some ⟨R, 0, none⟩)) := (r.rest 7 (fun i _ => Qa5 (by kernel_rfl) i)).trans rfl
       rw [H]
       clear ho z l r
       obtain ⟨-, q1, q2, -⟩ := ag.out W J' gv C
       refine Qam C ?_
       clear C
       go_simp
      | 1, _ =>
       obtain rfl := Option.some.inj ho
       have H : f 1 = .pointer (some ⟨N, 0, none⟩) := by rw [z]; rfl
       have t9 : b.tmps[9]? = some (.pointer (some ⟨N, 0, none⟩)) := (r.rest 9 (fun i _ => Qa5 (by kernel_rfl) i)).trans rfl
       rw [H]
       clear ho z l r
       refine Qam C ?_
       clear C
       go_simp
      | 2, _ =>
       obtain rfl := Option.some.inj ho
       have H : f 2 = .pointer (some ⟨R, 0, none⟩) := by rw [z]; rfl
       have t7 : b.tmps[7]? = some (.pointer (some ⟨R, 0, none⟩)) := (r.rest 7 (fun i _ => Qa5 (by kernel_rfl) i)).trans rfl
       rw [H]
       clear ho z l r
       refine Qam C ?_
       clear C
       go_simp
      | 3, _ =>
       obtain rfl := Option.some.inj ho
       have H : f 3 = .slice (some ⟨g, 0, none⟩) m.length ck := by rw [z]; rfl
       have v2 : f 2 = .pointer (some ⟨R, 0, none⟩) := by rw [z]; rfl
       have ou : b.tmps[134]? = some (.pointer (some ⟨R, 0, none⟩)) := (r.done 2 134 (l ⟨2, .data⟩ (by simp) rfl) rfl (by simp)).trans (congrArg some v2)
       rw [H]
       clear ho z l r
       obtain ⟨-, q1, -, -⟩ := ag.out W J' gv C
       refine Qam C ?_
       clear C
       go_simp
      | 4, _ =>
       obtain rfl := Option.some.inj ho
       have H : f 4 = .int .i64 (k : Int) := by rw [z]; rfl
       have jk : b.tmps[21]? = some (.int .i64 (k : Int)) := (r.rest 21 (fun i _ => Qa5 (by kernel_rfl) i)).trans rfl
       rw [H]
       clear ho z l r
       refine Qam C ?_
       clear C
       go_simp
      | 5, _ =>
       obtain rfl := Option.some.inj ho
       have H : f 5 = .pointer (some ⟨g, k * 32, none⟩) := by rw [z]; rfl
       have v3 : f 3 = .slice (some ⟨g, 0, none⟩) m.length ck := by rw [z]; rfl
       have ow : b.tmps[135]? = some (.slice (some ⟨g, 0, none⟩) m.length ck) := (r.done 3 135 (l ⟨3, .data⟩ (by simp) rfl) rfl (by simp)).trans (congrArg some v3)
       have v4 : f 4 = .int .i64 (k : Int) := by rw [z]; rfl
       have ox : b.tmps[136]? = some (.int .i64 (k : Int)) := (r.done 4 136 (l ⟨4, .data⟩ (by simp) rfl) rfl (by simp)).trans (congrArg some v4)
       rw [H]
       clear ho z l r
       refine Qam C ?_
       clear C
       go_simp
      | 6, _ =>
       obtain rfl := Option.some.inj ho
       have H : f 6 = .agg (K.toList.map encB).toArray := by rw [z]; rfl
       have v5 : f 5 = .pointer (some ⟨g, k * 32, none⟩) := by rw [z]; rfl
       have mg : b.tmps[137]? = some (.pointer (some ⟨g, k * 32, none⟩)) := (r.done 5 137 (l ⟨5, .data⟩ (by simp) rfl) rfl (by simp)).trans (congrArg some v5)
       rw [H]
       clear ho z l r
       obtain ⟨q0, -, -, -⟩ := ag.out W J' gv C
       refine wp_load_mid 45 (.tmp 137) rfl g (k * 32) (Qq9 mg) (K.toList.map encB) _ q0 au rfl bz ?_
       exact ⟨rfl, C⟩
      | 7, _ =>
       obtain rfl := Option.some.inj ho
       have H : f 7 = .bool true := by rw [z]; rfl
       have v0 : f 0 = .agg #[.slice (some ⟨g, 0, none⟩) m.length ck, .slice Y m.length X] := by rw [z]; rfl
       have oq : b.tmps[132]? = some (.agg #[.slice (some ⟨g, 0, none⟩) m.length ck, .slice Y m.length X]) := (r.done 0 132 (l ⟨0, .data⟩ (by simp) rfl) rfl (by simp)).trans (congrArg some v0)
       have v1 : f 1 = .pointer (some ⟨N, 0, none⟩) := by rw [z]; rfl
       have ot : b.tmps[133]? = some (.pointer (some ⟨N, 0, none⟩)) := (r.done 1 133 (l ⟨1, .data⟩ (by simp) rfl) rfl (by simp)).trans (congrArg some v1)
       have v6 : f 6 = .agg (K.toList.map encB).toArray := by rw [z]; rfl
       have oy : b.tmps[138]? = some (.agg (K.toList.map encB).toArray) := (r.done 6 138 (l ⟨6, .data⟩ (by simp) rfl) rfl (by simp)).trans (congrArg some v6)
       rw [H]
       clear ho z l r
       have ah := Hid.hide (dc.out W C)
       have ai := Hid.hide C
       clear C
       go_simp
       refine ah.out.mono ?_
       rintro e w9 ⟨rfl, ac⟩
       exact ⟨rfl, ai.out.more HX.out.base ac⟩
      | 8, _ =>
       obtain rfl := Option.some.inj ho
       have H : f 8 = .bool true := by rw [z]; rfl
       have v7 : f 7 = .bool true := by rw [z]; rfl
       have oz : b.tmps[139]? = some (.bool true) := (r.done 7 139 (l ⟨7, .data⟩ (by simp) rfl) rfl (by simp)).trans (congrArg some v7)
       rw [H]
       clear ho z l r
       refine Qam C ?_
       clear C
       go_simp
     ·exact jr.out.more HX.out.base (Below.refl _ _).drew
     ·intro W C
      have e0 : f 0 = .agg #[.slice (some ⟨g, 0, none⟩) m.length ck, .slice Y m.length X] := by rw [z]; rfl
      have e1 : f 1 = .pointer (some ⟨N, 0, none⟩) := by rw [z]; rfl
      have e2 : f 2 = .pointer (some ⟨R, 0, none⟩) := by rw [z]; rfl
      have e3 : f 3 = .slice (some ⟨g, 0, none⟩) m.length ck := by rw [z]; rfl
      have e4 : f 4 = .int .i64 (k : Int) := by rw [z]; rfl
      have e5 : f 5 = .pointer (some ⟨g, k * 32, none⟩) := by rw [z]; rfl
      have e6 : f 6 = .agg (K.toList.map encB).toArray := by rw [z]; rfl
      have e7 : f 7 = .bool true := by rw [z]; rfl
      have e8 : f 8 = .bool true := by rw [z]; rfl
      simp only [runFrom, Act.put, Nat.zero_add, Nat.reduceAdd, List.setIfInBounds_toArray, List.set_cons_zero, List.set_cons_succ, e0, e1, e2, e3, e4, e5, e6, e7, e8]
      clear z e0 e1 e2 e3 e4 e5 e6 e7 e8
      have js := Hid.hide C
      clear C
      go_upto_region 31 with fail
      refine wp_region_any (by kernel_rfl) ?_
      change wpAny _ _ _ _ _ _ _ (World.drew _)
      obtain ⟨f, z⟩ : ∃ f : Nat -> Value, f = fun i => ([.agg #[.slice (some ⟨g, 0, none⟩) m.length ck, .slice Y m.length X], .pointer (some ⟨T, 0, none⟩), .pointer (some ⟨R, 0, none⟩), .slice (some ⟨g, 0, none⟩) m.length ck, .int .i64 (k : Int), .pointer (some ⟨g, k * 32, none⟩), .agg (K.toList.map encB).toArray, .bool true, .bool true] : List Value).getD i undef := ⟨_, rfl⟩
      refine Qbq _ _ f (fun W => ApS w w17 U w4.heap.size N Z V T gb t ww gv J' W) (by kernel_rfl) (by kernel_rfl) ?_ _ ?_ rfl ?_
      ·intro i o ho ak b W r l C
       have hi : i < 9 := (Array.getElem?_eq_some_iff.1 ho).1
       match i, hi with
       | 0, _ =>
        obtain rfl := Option.some.inj ho
        have H : f 0 = .agg #[.slice (some ⟨g, 0, none⟩) m.length ck, .slice Y m.length X] := by rw [z]; rfl
        have t7 : b.tmps[7]? = some (.pointer (some ⟨R, 0, none⟩)) := (r.rest 7 (fun i _ => Qa5 (by kernel_rfl) i)).trans rfl
        rw [H]
        clear ho z l r
        obtain ⟨-, q1, q2, -⟩ := ag.out W J' gv C
        refine Qam C ?_
        clear C
        go_simp
       | 1, _ =>
        obtain rfl := Option.some.inj ho
        have H : f 1 = .pointer (some ⟨T, 0, none⟩) := by rw [z]; rfl
        have nx : b.tmps[16]? = some (.pointer (some ⟨T, 0, none⟩)) := (r.rest 16 (fun i _ => Qa5 (by kernel_rfl) i)).trans rfl
        rw [H]
        clear ho z l r
        refine Qam C ?_
        clear C
        go_simp
       | 2, _ =>
        obtain rfl := Option.some.inj ho
        have H : f 2 = .pointer (some ⟨R, 0, none⟩) := by rw [z]; rfl
        have t7 : b.tmps[7]? = some (.pointer (some ⟨R, 0, none⟩)) := (r.rest 7 (fun i _ => Qa5 (by kernel_rfl) i)).trans rfl
        rw [H]
        clear ho z l r
        refine Qam C ?_
        clear C
        go_simp
       | 3, _ =>
        obtain rfl := Option.some.inj ho
        have H : f 3 = .slice (some ⟨g, 0, none⟩) m.length ck := by rw [z]; rfl
        have v2 : f 2 = .pointer (some ⟨R, 0, none⟩) := by rw [z]; rfl
        have p8 : b.tmps[142]? = some (.pointer (some ⟨R, 0, none⟩)) := (r.done 2 142 (l ⟨2, .data⟩ (by simp) rfl) rfl (by simp)).trans (congrArg some v2)
        rw [H]
        clear ho z l r
        obtain ⟨-, q1, -, -⟩ := ag.out W J' gv C
        refine Qam C ?_
        clear C
        go_simp
       | 4, _ =>
        obtain rfl := Option.some.inj ho
        have H : f 4 = .int .i64 (k : Int) := by rw [z]; rfl
        have jk : b.tmps[21]? = some (.int .i64 (k : Int)) := (r.rest 21 (fun i _ => Qa5 (by kernel_rfl) i)).trans rfl
        rw [H]
        clear ho z l r
        refine Qam C ?_
        clear C
        go_simp
       | 5, _ =>
        obtain rfl := Option.some.inj ho
        have H : f 5 = .pointer (some ⟨g, k * 32, none⟩) := by rw [z]; rfl
        have v3 : f 3 = .slice (some ⟨g, 0, none⟩) m.length ck := by rw [z]; rfl
        have p9 : b.tmps[143]? = some (.slice (some ⟨g, 0, none⟩) m.length ck) := (r.done 3 143 (l ⟨3, .data⟩ (by simp) rfl) rfl (by simp)).trans (congrArg some v3)
        have v4 : f 4 = .int .i64 (k : Int) := by rw [z]; rfl
        have pc : b.tmps[144]? = some (.int .i64 (k : Int)) := (r.done 4 144 (l ⟨4, .data⟩ (by simp) rfl) rfl (by simp)).trans (congrArg some v4)
        rw [H]
        clear ho z l r
        refine Qam C ?_
        clear C
        go_simp
       | 6, _ =>
        obtain rfl := Option.some.inj ho
        have H : f 6 = .agg (K.toList.map encB).toArray := by rw [z]; rfl
        have v5 : f 5 = .pointer (some ⟨g, k * 32, none⟩) := by rw [z]; rfl
        have mh : b.tmps[145]? = some (.pointer (some ⟨g, k * 32, none⟩)) := (r.done 5 145 (l ⟨5, .data⟩ (by simp) rfl) rfl (by simp)).trans (congrArg some v5)
        rw [H]
        clear ho z l r
        obtain ⟨q0, -, -, -⟩ := ag.out W J' gv C
        refine wp_load_mid 45 (.tmp 145) rfl g (k * 32) (Qq9 mh) (K.toList.map encB) _ q0 au rfl bz ?_
        exact ⟨rfl, C⟩
       | 7, _ =>
        obtain rfl := Option.some.inj ho
        have H : f 7 = .bool true := by rw [z]; rfl
        have v0 : f 0 = .agg #[.slice (some ⟨g, 0, none⟩) m.length ck, .slice Y m.length X] := by rw [z]; rfl
        have p6 : b.tmps[140]? = some (.agg #[.slice (some ⟨g, 0, none⟩) m.length ck, .slice Y m.length X]) := (r.done 0 140 (l ⟨0, .data⟩ (by simp) rfl) rfl (by simp)).trans (congrArg some v0)
        have v1 : f 1 = .pointer (some ⟨T, 0, none⟩) := by rw [z]; rfl
        have p7 : b.tmps[141]? = some (.pointer (some ⟨T, 0, none⟩)) := (r.done 1 141 (l ⟨1, .data⟩ (by simp) rfl) rfl (by simp)).trans (congrArg some v1)
        have v6 : f 6 = .agg (K.toList.map encB).toArray := by rw [z]; rfl
        have pd : b.tmps[146]? = some (.agg (K.toList.map encB).toArray) := (r.done 6 146 (l ⟨6, .data⟩ (by simp) rfl) rfl (by simp)).trans (congrArg some v6)
        rw [H]
        clear ho z l r
        have ah := Hid.hide (de.out W C)
        have ai := Hid.hide C
        clear C
        go_simp
        refine ah.out.mono ?_
        rintro e w9 ⟨rfl, ac⟩
        exact ⟨rfl, ai.out.more HX.out.base ac⟩
       | 8, _ =>
        obtain rfl := Option.some.inj ho
        have H : f 8 = .bool true := by rw [z]; rfl
        have v7 : f 7 = .bool true := by rw [z]; rfl
        have pg : b.tmps[147]? = some (.bool true) := (r.done 7 147 (l ⟨7, .data⟩ (by simp) rfl) rfl (by simp)).trans (congrArg some v7)
        rw [H]
        clear ho z l r
        refine Qam C ?_
        clear C
        go_simp
      ·exact js.out.more HX.out.base (Below.refl _ _).drew
      ·intro W C
       have e0 : f 0 = .agg #[.slice (some ⟨g, 0, none⟩) m.length ck, .slice Y m.length X] := by rw [z]; rfl
       have e1 : f 1 = .pointer (some ⟨T, 0, none⟩) := by rw [z]; rfl
       have e2 : f 2 = .pointer (some ⟨R, 0, none⟩) := by rw [z]; rfl
       have e3 : f 3 = .slice (some ⟨g, 0, none⟩) m.length ck := by rw [z]; rfl
       have e4 : f 4 = .int .i64 (k : Int) := by rw [z]; rfl
       have e5 : f 5 = .pointer (some ⟨g, k * 32, none⟩) := by rw [z]; rfl
       have e6 : f 6 = .agg (K.toList.map encB).toArray := by rw [z]; rfl
       have e7 : f 7 = .bool true := by rw [z]; rfl
       have e8 : f 8 = .bool true := by rw [z]; rfl
       simp only [runFrom, Act.put, Nat.zero_add, Nat.reduceAdd, List.setIfInBounds_toArray, List.set_cons_zero, List.set_cons_succ, e0, e1, e2, e3, e4, e5, e6, e7, e8]
       clear z e0 e1 e2 e3 e4 e5 e6 e7 e8
       have gc := Hid.hide C
       obtain ⟨q0, q1, q2, -⟩ := ag.out W J' gv C
       have jx := Hid.hide (Qq8 C.q.wood (HT.out _ C.q.below).1 O.out.1 C.q.tree HM.out.1 HK.out.1 HK.out.2.1 (L := L) HK.out.2.2.2.1)
       clear C
       go_wp2_with (refine wpList_load_mid rfl 45 _ rfl g (k * 32) rfl (K.toList.map encB) _ q0 au rfl bz ?_)
       refine jx.out.mono ?_
       rintro e eh ⟨am, cl2, rfl, ix, ee, fw⟩
       have cu : Hid (ApS w w17 U w4.heap.size N Z V T gb t ww gv J' eh /\ StrRow eh am (L.map textB) cl2 /\ ∀ a, am = some a -> W.heap.size <= a.block /\ a.block < eh.heap.size) := ⟨gc.out.fr HX.out.base ix, ee, fw⟩
       clear ix ee fw jx q0 q1 q2 jr js dc de
       go_upto_region 35 with fail
       obtain ⟨P, ia⟩ : ∃ P : World -> Prop, P = fun W => ApS w w17 U w4.heap.size N Z V T gb t ww gv J' W /\ StrRow W am (L.map textB) cl2 /\ ∀ a, am = some a -> a.block < W.heap.size := ⟨_, rfl⟩
       obtain ⟨F, kl⟩ : ∃ F : Nat -> Prop, F = fun f => ApF w U N Z V T gb J' f /\ ∀ a, am = some a -> f ≠ a.block := ⟨_, rfl⟩
       have b7 : Hid (StKit P F w4.heap.size J') := by
        rw [ia, kl]
        exact ApS.rowKit HX.out fun a ha => gc.out.q.wood.fresh (cu.out.2.2 a ha).1
       have cy : Hid (∀ W, P W ↔ (ApS w w17 U w4.heap.size N Z V T gb t ww gv J' W /\ StrRow W am (L.map textB) cl2 /\ ∀ a, am = some a -> a.block < W.heap.size)) := fun W => by rw [ia]
       have ly : Hid (P eh.drew) := b7.out.more _ _ ((cy.out eh).2 ⟨cu.out.1, cu.out.2.1, fun a ha => (cu.out.2.2 a ha).2⟩) (Below.refl _ _).drew
       have gi : Hid (∀ W, P W -> W.rangeAt g (k * 32) (K.toList.map encB) /\ W.cell? ⟨R, 0, none⟩ = some (.slice (some ⟨g, 0, none⟩) m.length ck) /\ W.cell? ⟨R, 1, none⟩ = some (.slice Y m.length X) /\ Kn W w.heap.size (.slice (some ⟨g, 0, none⟩) m.length ck) (.slice Y m.length X) m) := fun W h => ag.out W J' gv ((cy.out W).1 h).1
       have cz : Hid (∀ W, P W -> Calls Tryz.prog 6 #[.pointer (some ⟨N, 0, none⟩)] W fun e w' => e = .returned (.agg (Dt.map encB).toArray) /\ Fr w4.heap.size J' J' W w') := fun W h => by
        have h1 := ((cy.out W).1 h).1
        have := Qcq h1.q.wood (HT.out _ h1.q.below).1 O.out.1 h1.q.tree
        rw [ao.out.1] at this
        exact this
       obtain ⟨os, jc⟩ : ∃ s, m[k].2 = s := ⟨_, rfl⟩
       have cf := t.cs_ok (Qf9 t 64 (by omega) HM.out.1)
       obtain ⟨g5, lq, g6⟩ := Qdb HK.out.1 HK.out.2.1
       have bv : t.get (bytesOf (textB (nibs K.toList))) = some os := by
        have h2 : pth m[k] = nibs K.toList := congrArg (fun a : Array Nat => nibs a.toList) HK.out.2.2.1
        have h3 := Qd7 O.out.2.2.2.1 (List.getElem_mem HK.out.2.2.2.2)
        rw [h2, jc] at h3
        rw [g5, HM.out.2 _ (by rw [<- g5, bytesOf_length, g6]), h3]
       have ji : verF Dt (textB (nibs K.toList)) L = .ok (some os) := by
        have := Qrc HM.out.1 g6 (by rw [g5]; exact lq)
        rw [ao.out.1, HK.out.2.2.2.1, bv] at this
        exact this
       have kq : ∀ c ∈ L, ∀ y ∈ c, y < 256 := by
        rw [<- HK.out.2.2.2.1]
        exact Qqy (by rw [g6]; exact HM.out.1) (by omega)
       have gy : Dt.length = 32 /\ ∀ x ∈ Dt, x < 256 := by rw [<- ao.out.1]; exact ⟨t.dig_length cf, t.dig_byte cf⟩
       have kb : Hid (∀ W, P W -> Calls Tryz.prog 15 #[.agg (Dt.map encB).toArray, .agg (K.toList.map encB).toArray, .slice am L.length cl2] W fun e w' => e = .returned (.tuple #[.string os, .bool true, faultV 0 0 0 0]) /\ Below W.heap.size W w') := fun W h => by
        have h1 := (cy.out W).1 h
        exact Qyi sent HE.out.1 h1.1.q.below Dt K L am cl2 gy.1 gy.2 HK.out.1 HK.out.2.1 h1.2.1 (by have := fg.out.2.2; omega) kq ji
       have n8 : Hid (m[k].2 = os) := jc
       clear ia kl cf g5 lq g6 bv ji kq gy jc
       refine wp_region_any (by kernel_rfl) ?_
       change wpAny _ _ _ _ _ _ _ (World.drew _)
       obtain ⟨vf, E⟩ : ∃ vf : Nat -> Option Value, vf = fun i => ([some (.pointer (some ⟨N, 0, none⟩)), some (.agg (Dt.map encB).toArray), some (.pointer (some ⟨R, 0, none⟩)), some (.slice (some ⟨g, 0, none⟩) m.length ck), some (.int .i64 (k : Int)), some (.pointer (some ⟨g, k * 32, none⟩)), some (.agg (K.toList.map encB).toArray), some (.slice am L.length cl2), some (.tuple #[.string os, .bool true, faultV 0 0 0 0]), some (.tuple #[.string os, .bool true, faultV 0 0 0 0]), some (.string os), some (.bool true), some (faultV 0 0 0 0), none, some (.string os), some (.bool true), none] : List (Option Value)).getD i none := ⟨_, rfl⟩
       refine Qat _ (fun d v w' => (∀ i x, vf i = some x -> d i = true -> v i = x) /\ (fun d v w' => FtY P F (.int .i64 0) (.int .i64 0) (.int .i64 0) (.int .i64 0) false undef (d 13) (v 13) (d 16) w') d v w') (by kernel_rfl) (by kernel_rfl) ?_ _ (fun _ => undef) ?_ ?_
       ·intro i o ho ak ae b W r aa l I
        have hi : i < 17 := (Array.getElem?_eq_some_iff.1 ho).1
        match i, hi with
        | 0, _ =>
         obtain rfl := Option.some.inj ho
         have t9 : b.tmps[9]? = some (.pointer (some ⟨N, 0, none⟩)) := (r.rest 9 (fun i _ => Qa5 (by kernel_rfl) i)).trans rfl
         refine Qa2 I.1 (by rw [E]; rfl) I.2 ?_
         clear ho l r I aa E
         go_simp
        | 1, _ =>
         obtain rfl := Option.some.inj ho
         have ph : b.tmps[173]? = some (.pointer (some ⟨N, 0, none⟩)) := Qai r I.1 (l ⟨0, .data⟩ (by simp) rfl) rfl (by simp) (by rw [E]; rfl)
         refine Qdd fun G hG => ?_
         have ge := Hid.hide hG
         have bi := Hid.hide I
         have gm := Hid.hide E
         clear hG ho l r I aa E
         go_simp
         go_at_call 6
         refine (cz.out W bi.out.2.all).mono ?_
         rintro e w9 ⟨rfl, ac⟩
         exact ⟨_, rfl, (ge.out _ _).2 ⟨Qdw bi.out.1 (by rw [gm.out]; rfl), bi.out.2.fr b7.out ac⟩⟩
        | 2, _ =>
         obtain rfl := Option.some.inj ho
         have t7 : b.tmps[7]? = some (.pointer (some ⟨R, 0, none⟩)) := (r.rest 7 (fun i _ => Qa5 (by kernel_rfl) i)).trans rfl
         refine Qa2 I.1 (by rw [E]; rfl) I.2 ?_
         clear ho l r I aa E
         go_simp
        | 3, _ =>
         obtain rfl := Option.some.inj ho
         have pj : b.tmps[175]? = some (.pointer (some ⟨R, 0, none⟩)) := Qai r I.1 (l ⟨2, .data⟩ (by simp) rfl) rfl (by simp) (by rw [E]; rfl)
         obtain ⟨-, q1, -, -⟩ := gi.out W I.2.all
         refine Qa2 I.1 (by rw [E]; rfl) I.2 ?_
         clear ho l r I aa E
         go_simp
        | 4, _ =>
         obtain rfl := Option.some.inj ho
         have jk : b.tmps[21]? = some (.int .i64 (k : Int)) := (r.rest 21 (fun i _ => Qa5 (by kernel_rfl) i)).trans rfl
         refine Qa2 I.1 (by rw [E]; rfl) I.2 ?_
         clear ho l r I aa E
         go_simp
        | 5, _ =>
         obtain rfl := Option.some.inj ho
         have pm : b.tmps[176]? = some (.slice (some ⟨g, 0, none⟩) m.length ck) := Qai r I.1 (l ⟨3, .data⟩ (by simp) rfl) rfl (by simp) (by rw [E]; rfl)
         have pq : b.tmps[177]? = some (.int .i64 (k : Int)) := Qai r I.1 (l ⟨4, .data⟩ (by simp) rfl) rfl (by simp) (by rw [E]; rfl)
         refine Qa2 I.1 (by rw [E]; rfl) I.2 ?_
         clear ho l r I aa E
         go_simp
        | 6, _ =>
         obtain rfl := Option.some.inj ho
         have mi : b.tmps[178]? = some (.pointer (some ⟨g, k * 32, none⟩)) := Qai r I.1 (l ⟨5, .data⟩ (by simp) rfl) rfl (by simp) (by rw [E]; rfl)
         obtain ⟨q0, -, -, -⟩ := gi.out W I.2.all
         refine wp_load_mid 45 (.tmp 178) rfl g (k * 32) (Qq9 mi) (K.toList.map encB) _ q0 au rfl bz ?_
         exact ⟨_, rfl, Qdw I.1 (by rw [E]; rfl), I.2⟩
        | 7, _ =>
         obtain rfl := Option.some.inj ho
         have rm : b.tmps[28]? = some (.slice am L.length cl2) := (r.rest 28 (fun i _ => Qa5 (by kernel_rfl) i)).trans rfl
         refine Qa2 I.1 (by rw [E]; rfl) I.2 ?_
         clear ho l r I aa E
         go_simp
        | 8, _ =>
         obtain rfl := Option.some.inj ho
         have pi : b.tmps[174]? = some (.agg (Dt.map encB).toArray) := Qai r I.1 (l ⟨1, .data⟩ (by simp) rfl) rfl (by simp) (by rw [E]; rfl)
         have pu : b.tmps[179]? = some (.agg (K.toList.map encB).toArray) := Qai r I.1 (l ⟨6, .data⟩ (by simp) rfl) rfl (by simp) (by rw [E]; rfl)
         have pw : b.tmps[180]? = some (.slice am L.length cl2) := Qai r I.1 (l ⟨7, .data⟩ (by simp) rfl) rfl (by simp) (by rw [E]; rfl)
         refine Qdd fun G hG => ?_
         have ge := Hid.hide hG
         have bi := Hid.hide I
         have gm := Hid.hide E
         clear hG ho l r I aa E
         go_simp
         go_at_call 15
         refine (kb.out W bi.out.2.all).mono ?_
         rintro e w9 ⟨rfl, ac⟩
         exact ⟨_, rfl, (ge.out _ _).2 ⟨Qdw bi.out.1 (by rw [gm.out]; rfl), bi.out.2.more b7.out ac⟩⟩
        | 9, _ =>
         obtain rfl := Option.some.inj ho
         have py : b.tmps[181]? = some (.tuple #[.string os, .bool true, faultV 0 0 0 0]) := Qai r I.1 (l ⟨8, .data⟩ (by simp) rfl) rfl (by simp) (by rw [E]; rfl)
         refine Qa2 I.1 (by rw [E]; rfl) I.2 ?_
         clear ho l r I aa E
         go_simp
        | 10, _ =>
         obtain rfl := Option.some.inj ho
         have jj : b.tmps[172]? = some (.tuple #[.string os, .bool true, faultV 0 0 0 0]) := Qai r I.1 (l ⟨9, .data⟩ (by simp) rfl) rfl (by simp) (by rw [E]; rfl)
         refine Qa2 I.1 (by rw [E]; rfl) I.2 ?_
         clear ho l r I aa E
         go_simp
        | 11, _ =>
         obtain rfl := Option.some.inj ho
         have jj : b.tmps[172]? = some (.tuple #[.string os, .bool true, faultV 0 0 0 0]) := Qai r I.1 (l ⟨9, .data⟩ (by simp) rfl) rfl (by simp) (by rw [E]; rfl)
         refine Qa2 I.1 (by rw [E]; rfl) I.2 ?_
         clear ho l r I aa E
         go_simp
        | 12, _ =>
         obtain rfl := Option.some.inj ho
         have jj : b.tmps[172]? = some (.tuple #[.string os, .bool true, faultV 0 0 0 0]) := Qai r I.1 (l ⟨9, .data⟩ (by simp) rfl) rfl (by simp) (by rw [E]; rfl)
         refine Qa2 I.1 (by rw [E]; rfl) I.2 ?_
         clear ho l r I aa E
         go_simp
        | 13, _ =>
         obtain rfl := Option.some.inj ho
         have iu : ak.getD 16 false = false := by
          cases hq : ak.getD 16 false with
          | false => rfl
          | true => exact absurd (I.2.ft14 hq) (by show ¬ ak.getD 13 false = true; rw [aa]; simp)
         refine Oper.wp_mono (K := fun a' w' => a' = b.put (some 31) (.pointer (some ⟨W.heap.size, 0, none⟩)) /\ w' = W.alloc (.cells #[.int .i64 0, .int .i64 0, .int .i64 0, .int .i64 0] 35)) (by rintro a' w' ⟨rfl, rfl⟩; exact ⟨_, rfl, Qa9 I.1 (by rw [E]; rfl), I.2.alloc b7.out iu⟩) ?_
         clear ho l r I aa E iu
         go_simp
        | 14, _ =>
         obtain rfl := Option.some.inj ho
         have pz : b.tmps[182]? = some (.string os) := Qai r I.1 (l ⟨10, .data⟩ (by simp) rfl) rfl (by simp) (by rw [E]; rfl)
         refine Qa2 I.1 (by rw [E]; rfl) I.2 ?_
         clear ho l r I aa E
         go_simp
        | 15, _ =>
         obtain rfl := Option.some.inj ho
         have q8 : b.tmps[183]? = some (.bool true) := Qai r I.1 (l ⟨11, .data⟩ (by simp) rfl) rfl (by simp) (by rw [E]; rfl)
         refine Qa2 I.1 (by rw [E]; rfl) I.2 ?_
         clear ho l r I aa E
         go_simp
        | 16, _ =>
         obtain rfl := Option.some.inj ho
         have mj : b.tmps[184]? = some (faultV 0 0 0 0) := Qai r I.1 (l ⟨12, .data⟩ (by simp) rfl) rfl (by simp) (by rw [E]; rfl)
         have gq := l ⟨13, .data⟩ (by simp) rfl
         obtain ⟨f, x0, x1, x2, x3, f1, f2, f3, -⟩ := I.2.ft gq
         have ny : b.tmps[31]? = some (.pointer (some ⟨f, 0, none⟩)) := (r.done 13 31 gq rfl (by simp)).trans (congrArg some f1)
         refine wp_store_mid 35 (.tmp 31) (.tmp 184) rfl f 0 #[.int .i64 0, .int .i64 0, .int .i64 0, .int .i64 0] (Qq9 ny) (by simp only [Act.eval, Array.getD_eq_getD_getElem?, mj, Option.getD_some] <;> rfl) (Qeq f3 rfl) (by kernel_rfl) (by simp [Value.oneCell']) ?_
         exact ⟨_, rfl, Qa9 I.1 (by rw [E]; rfl), FtY.put b7.out I.2 gq f1⟩
       ·exact ⟨fun _ _ _ h => (by simp at h), FtY.start ly.out (by simp) (by simp) (by simp)⟩
       ·intro ae W I
        have e0 : ae 0 = .pointer (some ⟨N, 0, none⟩) := I.1 0 _ (by rw [E]; rfl) rfl
        have e1 : ae 1 = .agg (Dt.map encB).toArray := I.1 1 _ (by rw [E]; rfl) rfl
        have e2 : ae 2 = .pointer (some ⟨R, 0, none⟩) := I.1 2 _ (by rw [E]; rfl) rfl
        have e3 : ae 3 = .slice (some ⟨g, 0, none⟩) m.length ck := I.1 3 _ (by rw [E]; rfl) rfl
        have e4 : ae 4 = .int .i64 (k : Int) := I.1 4 _ (by rw [E]; rfl) rfl
        have e5 : ae 5 = .pointer (some ⟨g, k * 32, none⟩) := I.1 5 _ (by rw [E]; rfl) rfl
        have e6 : ae 6 = .agg (K.toList.map encB).toArray := I.1 6 _ (by rw [E]; rfl) rfl
        have e7 : ae 7 = .slice am L.length cl2 := I.1 7 _ (by rw [E]; rfl) rfl
        have e8 : ae 8 = .tuple #[.string os, .bool true, faultV 0 0 0 0] := I.1 8 _ (by rw [E]; rfl) rfl
        have e9 : ae 9 = .tuple #[.string os, .bool true, faultV 0 0 0 0] := I.1 9 _ (by rw [E]; rfl) rfl
        have df : ae 10 = .string os := I.1 10 _ (by rw [E]; rfl) rfl
        have dg : ae 11 = .bool true := I.1 11 _ (by rw [E]; rfl) rfl
        have dh : ae 12 = faultV 0 0 0 0 := I.1 12 _ (by rw [E]; rfl) rfl
        have di : ae 14 = .string os := I.1 14 _ (by rw [E]; rfl) rfl
        have dj : ae 15 = .bool true := I.1 15 _ (by rw [E]; rfl) rfl
        have hX := I.2
        simp only [runFrom, Act.put, Nat.zero_add, Nat.reduceAdd, List.setIfInBounds_toArray, List.set_cons_zero, List.set_cons_succ, e0, e1, e2, e3, e4, e5, e6, e7, e8, e9, df, dg, dh, di, dj]
        clear I E e0 e1 e2 e3 e4 e5 e6 e7 e8 e9 df dg dh di dj
        obtain ⟨ff, l6, kp, iy⟩ := FtY.fault hX
        have jt : Hid (P W /\ F ff /\ W.heap[ff]? = some (.cells #[.int .i64 0, .int .i64 0, .int .i64 0, .int .i64 0] 35 (0, 0))) := ⟨hX.all, kp, iy⟩
        rw [l6]
        obtain ⟨u0, u1, u2, u3, -⟩ := Qbw iy
        clear hX l6 kp iy
        go_wp2_with fail
        refine (Qmi W).mono ?_
        rintro e og ⟨rfl, ik⟩
        have mu : Hid (ApS w w17 U w4.heap.size N Z V T gb t ww gv J' og) := ((cy.out W).1 jt.out.1).1.more HX.out.base ik
        have mz : Hid (∀ W, ApS w w17 U w4.heap.size N Z V T gb t ww gv J' W -> Calls Tryz.prog 16 #[.agg #[.slice (some ⟨g, 0, none⟩) m.length ck, .slice Y m.length X], .agg (K.toList.map encB).toArray, .string os, .bool true] W fun e w' => e = .returned (.bool true) /\ Below W.heap.size W w') := fun W h => by
         have h2 : pth m[k] = nibs K.toList := congrArg (fun a : Array Nat => nibs a.toList) HK.out.2.2.1
         have h3 := Qd7 O.out.2.2.2.1 (List.getElem_mem HK.out.2.2.2.2)
         rw [h2, n8.out] at h3
         have := Qmj (ag.out W J' gv h).2.2.2 (by have := O.out.2.2.2.2.1; omega) O.out.2.2.2.1 HK.out.1 HK.out.2.1 os true h3
         rw [show ansB (some os) os true = true by simp [ansB]] at this
         exact this
        clear ik u0 u1 u2 u3 kb cz gi b7 cu jt gc
        go_upto_region 37 with fail
        refine wp_region_any (by kernel_rfl) ?_
        change wpAny _ _ _ _ _ _ _ (World.drew _)
        obtain ⟨f, z⟩ : ∃ f : Nat -> Value, f = fun i => ([.agg #[.slice (some ⟨g, 0, none⟩) m.length ck, .slice Y m.length X], .pointer (some ⟨R, 0, none⟩), .slice (some ⟨g, 0, none⟩) m.length ck, .int .i64 (k : Int), .pointer (some ⟨g, k * 32, none⟩), .agg (K.toList.map encB).toArray, .string os, .bool true, .bool true, .bool true] : List Value).getD i undef := ⟨_, rfl⟩
        refine Qbq _ _ f (fun W => ApS w w17 U w4.heap.size N Z V T gb t ww gv J' W) (by kernel_rfl) (by kernel_rfl) ?_ _ ?_ rfl ?_
        ·intro i o ho ak b W r l C
         have hi : i < 10 := (Array.getElem?_eq_some_iff.1 ho).1
         match i, hi with
         | 0, _ =>
          obtain rfl := Option.some.inj ho
          have H : f 0 = .agg #[.slice (some ⟨g, 0, none⟩) m.length ck, .slice Y m.length X] := by rw [z]; rfl
          have t7 : b.tmps[7]? = some (.pointer (some ⟨R, 0, none⟩)) := (r.rest 7 (fun i _ => Qa5 (by kernel_rfl) i)).trans rfl
          rw [H]
          clear ho z l r
          obtain ⟨-, q1, q2, -⟩ := ag.out W J' gv C
          refine Qam C ?_
          clear C
          go_simp
         | 1, _ =>
          obtain rfl := Option.some.inj ho
          have H : f 1 = .pointer (some ⟨R, 0, none⟩) := by rw [z]; rfl
          have t7 : b.tmps[7]? = some (.pointer (some ⟨R, 0, none⟩)) := (r.rest 7 (fun i _ => Qa5 (by kernel_rfl) i)).trans rfl
          rw [H]
          clear ho z l r
          refine Qam C ?_
          clear C
          go_simp
         | 2, _ =>
          obtain rfl := Option.some.inj ho
          have H : f 2 = .slice (some ⟨g, 0, none⟩) m.length ck := by rw [z]; rfl
          have v1 : f 1 = .pointer (some ⟨R, 0, none⟩) := by rw [z]; rfl
          have qb : b.tmps[188]? = some (.pointer (some ⟨R, 0, none⟩)) := (r.done 1 188 (l ⟨1, .data⟩ (by simp) rfl) rfl (by simp)).trans (congrArg some v1)
          rw [H]
          clear ho z l r
          obtain ⟨-, q1, -, -⟩ := ag.out W J' gv C
          refine Qam C ?_
          clear C
          go_simp
         | 3, _ =>
          obtain rfl := Option.some.inj ho
          have H : f 3 = .int .i64 (k : Int) := by rw [z]; rfl
          have jk : b.tmps[21]? = some (.int .i64 (k : Int)) := (r.rest 21 (fun i _ => Qa5 (by kernel_rfl) i)).trans rfl
          rw [H]
          clear ho z l r
          refine Qam C ?_
          clear C
          go_simp
         | 4, _ =>
          obtain rfl := Option.some.inj ho
          have H : f 4 = .pointer (some ⟨g, k * 32, none⟩) := by rw [z]; rfl
          have v2 : f 2 = .slice (some ⟨g, 0, none⟩) m.length ck := by rw [z]; rfl
          have qd : b.tmps[189]? = some (.slice (some ⟨g, 0, none⟩) m.length ck) := (r.done 2 189 (l ⟨2, .data⟩ (by simp) rfl) rfl (by simp)).trans (congrArg some v2)
          have v3 : f 3 = .int .i64 (k : Int) := by rw [z]; rfl
          have qe : b.tmps[190]? = some (.int .i64 (k : Int)) := (r.done 3 190 (l ⟨3, .data⟩ (by simp) rfl) rfl (by simp)).trans (congrArg some v3)
          rw [H]
          clear ho z l r
          refine Qam C ?_
          clear C
          go_simp
         | 5, _ =>
          obtain rfl := Option.some.inj ho
          have H : f 5 = .agg (K.toList.map encB).toArray := by rw [z]; rfl
          have v4 : f 4 = .pointer (some ⟨g, k * 32, none⟩) := by rw [z]; rfl
          have ml : b.tmps[191]? = some (.pointer (some ⟨g, k * 32, none⟩)) := (r.done 4 191 (l ⟨4, .data⟩ (by simp) rfl) rfl (by simp)).trans (congrArg some v4)
          rw [H]
          clear ho z l r
          obtain ⟨q0, -, -, -⟩ := ag.out W J' gv C
          refine wp_load_mid 45 (.tmp 191) rfl g (k * 32) (Qq9 ml) (K.toList.map encB) _ q0 au rfl bz ?_
          exact ⟨rfl, C⟩
         | 6, _ =>
          obtain rfl := Option.some.inj ho
          have H : f 6 = .string os := by rw [z]; rfl
          have rn : b.tmps[29]? = some (.string os) := (r.rest 29 (fun i _ => Qa5 (by kernel_rfl) i)).trans rfl
          rw [H]
          clear ho z l r
          refine Qam C ?_
          clear C
          go_simp
         | 7, _ =>
          obtain rfl := Option.some.inj ho
          have H : f 7 = .bool true := by rw [z]; rfl
          have ro : b.tmps[30]? = some (.bool true) := (r.rest 30 (fun i _ => Qa5 (by kernel_rfl) i)).trans rfl
          rw [H]
          clear ho z l r
          refine Qam C ?_
          clear C
          go_simp
         | 8, _ =>
          obtain rfl := Option.some.inj ho
          have H : f 8 = .bool true := by rw [z]; rfl
          have v0 : f 0 = .agg #[.slice (some ⟨g, 0, none⟩) m.length ck, .slice Y m.length X] := by rw [z]; rfl
          have q9 : b.tmps[187]? = some (.agg #[.slice (some ⟨g, 0, none⟩) m.length ck, .slice Y m.length X]) := (r.done 0 187 (l ⟨0, .data⟩ (by simp) rfl) rfl (by simp)).trans (congrArg some v0)
          have v5 : f 5 = .agg (K.toList.map encB).toArray := by rw [z]; rfl
          have qf : b.tmps[192]? = some (.agg (K.toList.map encB).toArray) := (r.done 5 192 (l ⟨5, .data⟩ (by simp) rfl) rfl (by simp)).trans (congrArg some v5)
          have v6 : f 6 = .string os := by rw [z]; rfl
          have qg : b.tmps[193]? = some (.string os) := (r.done 6 193 (l ⟨6, .data⟩ (by simp) rfl) rfl (by simp)).trans (congrArg some v6)
          have v7 : f 7 = .bool true := by rw [z]; rfl
          have qh : b.tmps[194]? = some (.bool true) := (r.done 7 194 (l ⟨7, .data⟩ (by simp) rfl) rfl (by simp)).trans (congrArg some v7)
          rw [H]
          clear ho z l r
          have ah := Hid.hide (mz.out W C)
          have ai := Hid.hide C
          clear C
          go_simp
          refine ah.out.mono ?_
          rintro e w9 ⟨rfl, ac⟩
          exact ⟨rfl, ai.out.more HX.out.base ac⟩
         | 9, _ =>
          obtain rfl := Option.some.inj ho
          have H : f 9 = .bool true := by rw [z]; rfl
          have v8 : f 8 = .bool true := by rw [z]; rfl
          have qi : b.tmps[195]? = some (.bool true) := (r.done 8 195 (l ⟨8, .data⟩ (by simp) rfl) rfl (by simp)).trans (congrArg some v8)
          rw [H]
          clear ho z l r
          refine Qam C ?_
          clear C
          go_simp
        ·exact mu.out.more HX.out.base (Below.refl _ _).drew
        ·intro W C
         have e0 : f 0 = .agg #[.slice (some ⟨g, 0, none⟩) m.length ck, .slice Y m.length X] := by rw [z]; rfl
         have e1 : f 1 = .pointer (some ⟨R, 0, none⟩) := by rw [z]; rfl
         have e2 : f 2 = .slice (some ⟨g, 0, none⟩) m.length ck := by rw [z]; rfl
         have e3 : f 3 = .int .i64 (k : Int) := by rw [z]; rfl
         have e4 : f 4 = .pointer (some ⟨g, k * 32, none⟩) := by rw [z]; rfl
         have e5 : f 5 = .agg (K.toList.map encB).toArray := by rw [z]; rfl
         have e6 : f 6 = .string os := by rw [z]; rfl
         have e7 : f 7 = .bool true := by rw [z]; rfl
         have e8 : f 8 = .bool true := by rw [z]; rfl
         have e9 : f 9 = .bool true := by rw [z]; rfl
         simp only [runFrom, Act.put, Nat.zero_add, Nat.reduceAdd, List.setIfInBounds_toArray, List.set_cons_zero, List.set_cons_succ, e0, e1, e2, e3, e4, e5, e6, e7, e8, e9]
         clear z e0 e1 e2 e3 e4 e5 e6 e7 e8 e9
         have mw := Hid.hide C
         clear C
         go_wp2
         go_roundg (m.length - (k + 1))
         case measure => have := HK.out.2.2.2.2; omega
         case rel =>
          refine ⟨k + 1, J', gv, by have := HK.out.2.2.2.2; omega, rfl, Qav (Qbg k 1 (by have := HK.out.2.2.2.2; have := O.out.2.2.2.2.1; omega)), mw.out, fun j hj rh => ?_⟩
          have h1 := HG.out j hj (by omega)
          rw [<- n7.out]
          have h2 : pth m[k] = nibs K.toList := congrArg (fun a : Array Nat => nibs a.toList) HK.out.2.2.1
          have h3 : pth m[j] ≠ nibs K.toList := fun e => by
           have h4 := (List.pairwise_iff_getElem.1 O.out.2.2.2.1) k j (by simpa using HK.out.2.2.2.2) (by simpa using hj) (by omega)
           simp only [List.getElem_map] at h4
           exact h4 (h2.trans e.symm)
          show (if pth m[j] = nibs K.toList then none else gu (pth m[j])) = _
          rw [if_neg h3]
          exact h1
  ·obtain rfl : k = m.length := by omega
   have ne := Hid.hide C
   have lv : Hid (∀ W, ApS w w17 U w4.heap.size N Z V T gb t ww gu J W -> W.rangeAt ab 0 (Dw.map encB)) := fun W h => Qa3 HR.out.2.2.1 (h.q.keep ab ((HU.out ab).2 (.inr (.inl rfl))))
   obtain ⟨Da, gx⟩ : ∃ D, (sumF g8).toList = D := ⟨_, rfl⟩
   have fl : (digF ⟨#[97]⟩).toList = Da := by rw [<- gx, <- HSt.out]; rfl
   have nf : Hid (∀ W, ApS w w17 U w4.heap.size N Z V T gb t ww gu J W -> Calls Tryz.prog 17 #[.pointer (some ⟨hb_, 0, none⟩)] W fun e w' => e = .returned (.agg (Da.map encB).toArray) /\ Below W.heap.size W w') := fun W h => by
    have hk := h.q.keep hb_ ((HU.out hb_).2 (.inr (.inr rfl)))
    have := Qxd hb_ g8 W (HR.out.2.2.2.1.block hk) (Nat.lt_of_lt_of_le HR.out.2.2.2.2.2 h.q.size) (HT.out _ h.q.below).1 (HT.out _ h.q.below).2
    rw [gx] at this
    exact this
   have n6 : Hid (∀ W, ApS w w17 U w4.heap.size N Z V T gb t ww gu J W -> Calls Tryz.prog 18 #[.string ⟨#[97]⟩] W fun e w' => e = .returned (.agg (Da.map encB).toArray) /\ Below W.heap.size W w') := fun W h => by
    have := Qri ⟨#[97]⟩ W (HT.out _ h.q.below).1 (HT.out _ h.q.below).2
    rw [fl] at this
    exact this
   have d7 : Hid (∀ W, ApS w w17 U w4.heap.size N Z V T gb t ww gu J W -> Calls Tryz.prog 6 #[.pointer (some ⟨V, 0, none⟩)] W fun e w' => e = .returned (.agg (Dw.map encB).toArray) /\ Fr w4.heap.size J J W w') := fun W h => by
    have := Qcq h.q.wood (HT.out _ h.q.below).1 O.out.1 h.two
    rw [cw.out.1] at this
    exact this
   have nd : Hid (∀ W, ApS w w17 U w4.heap.size N Z V T gb t ww gu J W -> Calls Tryz.prog 6 #[.pointer (some ⟨T, 0, none⟩)] W fun e w' => e = .returned (.agg (Dt.map encB).toArray) /\ Fr w4.heap.size J J W w') := fun W h => by
    have := Qcq h.q.wood (HT.out _ h.q.below).1 O.out.1 h.p
    rw [ao.out.1] at this
    exact this
   have lx : Hid (∀ W, ApS w w17 U w4.heap.size N Z V T gb t ww gu J W -> Calls Tryz.prog 6 #[.pointer (some ⟨N, 0, none⟩)] W fun e w' => e = .returned (.agg (Dt.map encB).toArray) /\ Fr w4.heap.size J J W w') := fun W h => by
    have := Qcq h.q.wood (HT.out _ h.q.below).1 O.out.1 h.q.tree
    rw [ao.out.1] at this
    exact this
   have jb := t.cs_ok (Qf9 t 64 (by omega) HM.out.1)
   have nc := Hid.hide (Qh8 Dw cw.out.2.1 cw.out.2.2)
   have na := Hid.hide (Qh8 Dt (by rw [<- ao.out.1]; exact t.dig_length jb) (by rw [<- ao.out.1]; exact t.dig_byte jb))
   have n9 := Hid.hide (Qh8 Da (by rw [<- fl, Array.length_toList]; exact Qcy _) (by rw [<- fl]; exact Qnq _))
   have me := Tryz.underlying31
   have mf : (Tryz.prog.info? 31).map (·.size) = some (Dw.map encB).length := by rw [Qgl]; simp [cw.out.2.1]
   clear gx fl jb dt bx C j6 hk
   go_upto_region 40 with fail
   refine wp_region_any (by kernel_rfl) ?_
   change wpAny _ _ _ _ _ _ _ (World.drew _)
   obtain ⟨f, z⟩ : ∃ f : Nat -> Value, f = fun i => ([.pointer (some ⟨V, 0, none⟩), .agg (Dw.map encB).toArray, .agg (Dw.map encB).toArray, .bool true, .bool true, .pointer (some ⟨T, 0, none⟩), .agg (Dt.map encB).toArray, .pointer (some ⟨N, 0, none⟩), .agg (Dt.map encB).toArray, .bool true, .bool true, .bool true, .pointer (some ⟨hb_, 0, none⟩), .agg (Da.map encB).toArray, .agg (Da.map encB).toArray, .bool true, .bool true, .bool true] : List Value).getD i undef := ⟨_, rfl⟩
   refine Qft _ _ f (fun W => ApS w w17 U w4.heap.size N Z V T gb t ww gu J W) (by kernel_rfl) (by kernel_rfl) ?_ _ ?_ rfl ?_
   ·intro i o ho ak b W r l C
    have hi : i < 18 := (Array.getElem?_eq_some_iff.1 ho).1
    match i, hi with
    | 0, _ =>
     obtain rfl := Option.some.inj ho
     have H : f 0 = .pointer (some ⟨V, 0, none⟩) := by rw [z]; rfl
     have rk : b.tmps[13]? = some (.pointer (some ⟨V, 0, none⟩)) := (r.rest 13 (fun i _ => Qa5 (by kernel_rfl) i)).trans rfl
     rw [H]
     refine ⟨fun _ => ?_, fun Q => absurd Q (by simp [Region.wanted])⟩
     clear ho z l r
     refine Qam C ?_
     clear C
     go_simp
    | 1, _ =>
     obtain rfl := Option.some.inj ho
     have H : f 1 = .agg (Dw.map encB).toArray := by rw [z]; rfl
     have v0 : f 0 = .pointer (some ⟨V, 0, none⟩) := by rw [z]; rfl
     have qj : b.tmps[206]? = some (.pointer (some ⟨V, 0, none⟩)) := (r.done 0 206 (l ⟨0, .data⟩ (by simp) rfl) rfl (by simp)).trans (congrArg some v0)
     rw [H]
     refine ⟨fun _ => ?_, fun Q => absurd Q (by simp [Region.wanted])⟩
     clear ho z l r
     have ah := Hid.hide (d7.out W C)
     have ai := Hid.hide C
     clear C
     go_simp
     go_at_call 6
     refine ah.out.mono ?_
     rintro e w9 ⟨rfl, ac⟩
     exact ⟨rfl, ai.out.fr HX.out.base ac⟩
    | 2, _ =>
     obtain rfl := Option.some.inj ho
     have H : f 2 = .agg (Dw.map encB).toArray := by rw [z]; rfl
     have nu : b.tmps[15]? = some (.pointer (some ⟨ab, 0, none⟩)) := (r.rest 15 (fun i _ => Qa5 (by kernel_rfl) i)).trans rfl
     rw [H]
     refine ⟨fun _ => ?_, fun Q => absurd Q (by simp [Region.wanted])⟩
     clear ho z l r
     refine wp_load_mid 31 (.tmp 15) rfl ab 0 (Qq9 nu) (Dw.map encB) _ (lv.out W C) me rfl mf ?_
     exact ⟨rfl, C⟩
    | 3, _ =>
     obtain rfl := Option.some.inj ho
     have H : f 3 = .bool true := by rw [z]; rfl
     have v1 : f 1 = .agg (Dw.map encB).toArray := by rw [z]; rfl
     have ql : b.tmps[207]? = some (.agg (Dw.map encB).toArray) := (r.done 1 207 (l ⟨1, .data⟩ (by simp) rfl) rfl (by simp)).trans (congrArg some v1)
     have v2 : f 2 = .agg (Dw.map encB).toArray := by rw [z]; rfl
     have qm : b.tmps[208]? = some (.agg (Dw.map encB).toArray) := (r.done 2 208 (l ⟨2, .data⟩ (by simp) rfl) rfl (by simp)).trans (congrArg some v2)
     rw [H]
     refine ⟨fun _ => ?_, fun Q => absurd Q (by simp [Region.wanted])⟩
     clear ho z l r
     have l5 := nc.out
     refine Qam C ?_
     clear C
     go_simp
    | 4, _ =>
     obtain rfl := Option.some.inj ho
     have H : f 4 = .bool true := by rw [z]; rfl
     have v3 : f 3 = .bool true := by rw [z]; rfl
     have qn : b.tmps[209]? = some (.bool true) := (r.done 3 209 (l ⟨3, .data⟩ (by simp) rfl) rfl (by simp)).trans (congrArg some v3)
     rw [H]
     refine ⟨fun _ => ?_, fun Q => absurd Q (by simp [Region.wanted])⟩
     clear ho z l r
     refine Qam C ?_
     clear C
     go_simp
    | 5, _ =>
     obtain rfl := Option.some.inj ho
     have H : f 5 = .pointer (some ⟨T, 0, none⟩) := by rw [z]; rfl
     have nx : b.tmps[16]? = some (.pointer (some ⟨T, 0, none⟩)) := (r.rest 16 (fun i _ => Qa5 (by kernel_rfl) i)).trans rfl
     rw [H]
     have vg : f 4 = .bool true := by rw [z]; rfl
     have tg : b.tmps[210]? = some (.bool true) := (r.done 4 210 (l ⟨4, .guard⟩ (by simp) rfl) rfl (by simp)).trans (congrArg some vg)
     refine ⟨fun _ => ?_, fun Q => absurd Q (by simp [Region.wanted, yielded, tg])⟩
     clear ho z l r tg vg
     refine Qam C ?_
     clear C
     go_simp
    | 6, _ =>
     obtain rfl := Option.some.inj ho
     have H : f 6 = .agg (Dt.map encB).toArray := by rw [z]; rfl
     have v5 : f 5 = .pointer (some ⟨T, 0, none⟩) := by rw [z]; rfl
     have qp : b.tmps[211]? = some (.pointer (some ⟨T, 0, none⟩)) := (r.done 5 211 (l ⟨5, .data⟩ (by simp) rfl) rfl (by simp)).trans (congrArg some v5)
     rw [H]
     have vg : f 4 = .bool true := by rw [z]; rfl
     have tg : b.tmps[210]? = some (.bool true) := (r.done 4 210 (l ⟨4, .guard⟩ (by simp) rfl) rfl (by simp)).trans (congrArg some vg)
     refine ⟨fun _ => ?_, fun Q => absurd Q (by simp [Region.wanted, yielded, tg])⟩
     clear ho z l r tg vg
     have ah := Hid.hide (nd.out W C)
     have ai := Hid.hide C
     clear C
     go_simp
     go_at_call 6
     refine ah.out.mono ?_
     rintro e w9 ⟨rfl, ac⟩
     exact ⟨rfl, ai.out.fr HX.out.base ac⟩
    | 7, _ =>
     obtain rfl := Option.some.inj ho
     have H : f 7 = .pointer (some ⟨N, 0, none⟩) := by rw [z]; rfl
     have t9 : b.tmps[9]? = some (.pointer (some ⟨N, 0, none⟩)) := (r.rest 9 (fun i _ => Qa5 (by kernel_rfl) i)).trans rfl
     rw [H]
     have vg : f 4 = .bool true := by rw [z]; rfl
     have tg : b.tmps[210]? = some (.bool true) := (r.done 4 210 (l ⟨4, .guard⟩ (by simp) rfl) rfl (by simp)).trans (congrArg some vg)
     refine ⟨fun _ => ?_, fun Q => absurd Q (by simp [Region.wanted, yielded, tg])⟩
     clear ho z l r tg vg
     refine Qam C ?_
     clear C
     go_simp
    | 8, _ =>
     obtain rfl := Option.some.inj ho
     have H : f 8 = .agg (Dt.map encB).toArray := by rw [z]; rfl
     have v7 : f 7 = .pointer (some ⟨N, 0, none⟩) := by rw [z]; rfl
     have qr : b.tmps[213]? = some (.pointer (some ⟨N, 0, none⟩)) := (r.done 7 213 (l ⟨7, .data⟩ (by simp) rfl) rfl (by simp)).trans (congrArg some v7)
     rw [H]
     have vg : f 4 = .bool true := by rw [z]; rfl
     have tg : b.tmps[210]? = some (.bool true) := (r.done 4 210 (l ⟨4, .guard⟩ (by simp) rfl) rfl (by simp)).trans (congrArg some vg)
     refine ⟨fun _ => ?_, fun Q => absurd Q (by simp [Region.wanted, yielded, tg])⟩
     clear ho z l r tg vg
     have ah := Hid.hide (lx.out W C)
     have ai := Hid.hide C
     clear C
     go_simp
     go_at_call 6
     refine ah.out.mono ?_
     rintro e w9 ⟨rfl, ac⟩
     exact ⟨rfl, ai.out.fr HX.out.base ac⟩
    | 9, _ =>
     obtain rfl := Option.some.inj ho
     have H : f 9 = .bool true := by rw [z]; rfl
     have v6 : f 6 = .agg (Dt.map encB).toArray := by rw [z]; rfl
     have qq : b.tmps[212]? = some (.agg (Dt.map encB).toArray) := (r.done 6 212 (l ⟨6, .data⟩ (by simp) rfl) rfl (by simp)).trans (congrArg some v6)
     have v8 : f 8 = .agg (Dt.map encB).toArray := by rw [z]; rfl
     have qt : b.tmps[214]? = some (.agg (Dt.map encB).toArray) := (r.done 8 214 (l ⟨8, .data⟩ (by simp) rfl) rfl (by simp)).trans (congrArg some v8)
     rw [H]
     have vg : f 4 = .bool true := by rw [z]; rfl
     have tg : b.tmps[210]? = some (.bool true) := (r.done 4 210 (l ⟨4, .guard⟩ (by simp) rfl) rfl (by simp)).trans (congrArg some vg)
     refine ⟨fun _ => ?_, fun Q => absurd Q (by simp [Region.wanted, yielded, tg])⟩
     clear ho z l r tg vg
     have l5 := na.out
     refine Qam C ?_
     clear C
     go_simp
    | 10, _ =>
     obtain rfl := Option.some.inj ho
     have H : f 10 = .bool true := by rw [z]; rfl
     have v4 : f 4 = .bool true := by rw [z]; rfl
     have qo : b.tmps[210]? = some (.bool true) := (r.done 4 210 (l ⟨4, .data⟩ (by simp) rfl) rfl (by simp)).trans (congrArg some v4)
     have v9 : f 9 = .bool true := by rw [z]; rfl
     have qu : b.tmps[215]? = some (.bool true) := (r.done 9 215 (l ⟨9, .data⟩ (by simp) rfl) rfl (by simp)).trans (congrArg some v9)
     rw [H]
     refine ⟨fun _ => ?_, fun Q => absurd Q (by simp [Region.wanted])⟩
     clear ho z l r
     refine Qam C ?_
     clear C
     go_simp
    | 11, _ =>
     obtain rfl := Option.some.inj ho
     have H : f 11 = .bool true := by rw [z]; rfl
     have nz : f 10 = .bool true := by rw [z]; rfl
     have qw : b.tmps[216]? = some (.bool true) := (r.done 10 216 (l ⟨10, .data⟩ (by simp) rfl) rfl (by simp)).trans (congrArg some nz)
     rw [H]
     refine ⟨fun _ => ?_, fun Q => absurd Q (by simp [Region.wanted])⟩
     clear ho z l r
     refine Qam C ?_
     clear C
     go_simp
    | 12, _ =>
     obtain rfl := Option.some.inj ho
     have H : f 12 = .pointer (some ⟨hb_, 0, none⟩) := by rw [z]; rfl
     have rl : b.tmps[19]? = some (.pointer (some ⟨hb_, 0, none⟩)) := (r.rest 19 (fun i _ => Qa5 (by kernel_rfl) i)).trans rfl
     rw [H]
     have vg : f 11 = .bool true := by rw [z]; rfl
     have tg : b.tmps[217]? = some (.bool true) := (r.done 11 217 (l ⟨11, .guard⟩ (by simp) rfl) rfl (by simp)).trans (congrArg some vg)
     refine ⟨fun _ => ?_, fun Q => absurd Q (by simp [Region.wanted, yielded, tg])⟩
     clear ho z l r tg vg
     refine Qam C ?_
     clear C
     go_simp
    | 13, _ =>
     obtain rfl := Option.some.inj ho
     have H : f 13 = .agg (Da.map encB).toArray := by rw [z]; rfl
     have o9 : f 12 = .pointer (some ⟨hb_, 0, none⟩) := by rw [z]; rfl
     have qy : b.tmps[218]? = some (.pointer (some ⟨hb_, 0, none⟩)) := (r.done 12 218 (l ⟨12, .data⟩ (by simp) rfl) rfl (by simp)).trans (congrArg some o9)
     rw [H]
     have vg : f 11 = .bool true := by rw [z]; rfl
     have tg : b.tmps[217]? = some (.bool true) := (r.done 11 217 (l ⟨11, .guard⟩ (by simp) rfl) rfl (by simp)).trans (congrArg some vg)
     refine ⟨fun _ => ?_, fun Q => absurd Q (by simp [Region.wanted, yielded, tg])⟩
     clear ho z l r tg vg
     have ah := Hid.hide (nf.out W C)
     have ai := Hid.hide C
     clear C
     go_simp
     go_at_call 17
     refine ah.out.mono ?_
     rintro e w9 ⟨rfl, ac⟩
     exact ⟨rfl, ai.out.more HX.out.base ac⟩
    | 14, _ =>
     obtain rfl := Option.some.inj ho
     have H : f 14 = .agg (Da.map encB).toArray := by rw [z]; rfl
     rw [H]
     have vg : f 11 = .bool true := by rw [z]; rfl
     have tg : b.tmps[217]? = some (.bool true) := (r.done 11 217 (l ⟨11, .guard⟩ (by simp) rfl) rfl (by simp)).trans (congrArg some vg)
     refine ⟨fun _ => ?_, fun Q => absurd Q (by simp [Region.wanted, yielded, tg])⟩
     clear ho z l r tg vg
     have ah := Hid.hide (n6.out W C)
     have ai := Hid.hide C
     clear C
     go_simp
     go_at_call 18
     refine ah.out.mono ?_
     rintro e w9 ⟨rfl, ac⟩
     exact ⟨rfl, ai.out.more HX.out.base ac⟩
    | 15, _ =>
     obtain rfl := Option.some.inj ho
     have H : f 15 = .bool true := by rw [z]; rfl
     have oa : f 13 = .agg (Da.map encB).toArray := by rw [z]; rfl
     have qz : b.tmps[219]? = some (.agg (Da.map encB).toArray) := (r.done 13 219 (l ⟨13, .data⟩ (by simp) rfl) rfl (by simp)).trans (congrArg some oa)
     have oc : f 14 = .agg (Da.map encB).toArray := by rw [z]; rfl
     have r6 : b.tmps[220]? = some (.agg (Da.map encB).toArray) := (r.done 14 220 (l ⟨14, .data⟩ (by simp) rfl) rfl (by simp)).trans (congrArg some oc)
     rw [H]
     have vg : f 11 = .bool true := by rw [z]; rfl
     have tg : b.tmps[217]? = some (.bool true) := (r.done 11 217 (l ⟨11, .guard⟩ (by simp) rfl) rfl (by simp)).trans (congrArg some vg)
     refine ⟨fun _ => ?_, fun Q => absurd Q (by simp [Region.wanted, yielded, tg])⟩
     clear ho z l r tg vg
     have l5 := n9.out
     refine Qam C ?_
     clear C
     go_simp
    | 16, _ =>
     obtain rfl := Option.some.inj ho
     have H : f 16 = .bool true := by rw [z]; rfl
     have o8 : f 11 = .bool true := by rw [z]; rfl
     have qx : b.tmps[217]? = some (.bool true) := (r.done 11 217 (l ⟨11, .data⟩ (by simp) rfl) rfl (by simp)).trans (congrArg some o8)
     have od : f 15 = .bool true := by rw [z]; rfl
     have r7 : b.tmps[221]? = some (.bool true) := (r.done 15 221 (l ⟨15, .data⟩ (by simp) rfl) rfl (by simp)).trans (congrArg some od)
     rw [H]
     refine ⟨fun _ => ?_, fun Q => absurd Q (by simp [Region.wanted])⟩
     clear ho z l r
     refine Qam C ?_
     clear C
     go_simp
    | 17, _ =>
     obtain rfl := Option.some.inj ho
     have H : f 17 = .bool true := by rw [z]; rfl
     have oe : f 16 = .bool true := by rw [z]; rfl
     have ra : b.tmps[222]? = some (.bool true) := (r.done 16 222 (l ⟨16, .data⟩ (by simp) rfl) rfl (by simp)).trans (congrArg some oe)
     rw [H]
     refine ⟨fun _ => ?_, fun Q => absurd Q (by simp [Region.wanted])⟩
     clear ho z l r
     refine Qam C ?_
     clear C
     go_simp
   ·exact ne.out.more HX.out.base (Below.refl _ _).drew
   ·intro W C
    have e0 : f 0 = .pointer (some ⟨V, 0, none⟩) := by rw [z]; rfl
    have e1 : f 1 = .agg (Dw.map encB).toArray := by rw [z]; rfl
    have e2 : f 2 = .agg (Dw.map encB).toArray := by rw [z]; rfl
    have e3 : f 3 = .bool true := by rw [z]; rfl
    have e4 : f 4 = .bool true := by rw [z]; rfl
    have e5 : f 5 = .pointer (some ⟨T, 0, none⟩) := by rw [z]; rfl
    have e6 : f 6 = .agg (Dt.map encB).toArray := by rw [z]; rfl
    have e7 : f 7 = .pointer (some ⟨N, 0, none⟩) := by rw [z]; rfl
    have e8 : f 8 = .agg (Dt.map encB).toArray := by rw [z]; rfl
    have e9 : f 9 = .bool true := by rw [z]; rfl
    have df : f 10 = .bool true := by rw [z]; rfl
    have dg : f 11 = .bool true := by rw [z]; rfl
    have dh : f 12 = .pointer (some ⟨hb_, 0, none⟩) := by rw [z]; rfl
    have kg : f 13 = .agg (Da.map encB).toArray := by rw [z]; rfl
    have di : f 14 = .agg (Da.map encB).toArray := by rw [z]; rfl
    have dj : f 15 = .bool true := by rw [z]; rfl
    have ki : f 16 = .bool true := by rw [z]; rfl
    have kj : f 17 = .bool true := by rw [z]; rfl
    simp only [runFrom, Act.put, Nat.zero_add, Nat.reduceAdd, List.setIfInBounds_toArray, List.set_cons_zero, List.set_cons_succ, e0, e1, e2, e3, e4, e5, e6, e7, e8, e9, df, dg, dh, kg, di, dj, ki, kj]
    clear z e0 e1 e2 e3 e4 e5 e6 e7 e8 e9 df dg dh kg di dj ki kj
    have HE := Hid.hide C
    clear C
    go_wp2
    go_ret
    exact ⟨rfl, HE.out.q.below⟩
   -- A40 END
end Go.Proofs.YthbgepmpdphigaaGreatDoor
