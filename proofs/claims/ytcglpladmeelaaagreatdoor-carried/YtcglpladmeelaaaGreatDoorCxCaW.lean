/-
  Carried: the walk.
-/
import Derived.Test.YtcglpladmeelaaaGreatDoorCxCaG
import Derived.Test.YtcglpladmeelaaaGreatDoorCxSaG
namespace Go.Proofs.YtcglpladmeelaaaGreatDoor
open Go.RowKit
set_option maxRecDepth 100000
set_option maxHeartbeats 25600000
def MvRow (w : World) (p : Option Addr) (l : List (ByteArray × Bool)) : Prop := (∀ x ∈ l, x.1.size <= 9223372036854775807) /\ l.length <= 9223372036854775807 /\ (l = [] \/ ∃ g o, p = some ⟨g, o, none⟩ /\ g < w.heap.size /\ ∀ j (h : j < l.length), w.cell? ⟨g, o + j * 2, none⟩ = some (.string l[j].1) /\ w.cell? ⟨g, o + j * 2 + 1, none⟩ = some (.bool l[j].2))
theorem carried_walk (raw shown : ByteArray) (pm : Option Addr) (ml : List (ByteArray × Bool)) (cm : Nat) (w : World) (sent : Nat -> Addr) (hE : Env w.heap.size sent w) (hB : Bru w) (hTy : typeAt w) (hTl : 12 < w.heap.size) (hr : raw.size <= 9223372036854775807) (hsh : shown.size <= 9223372036854775807) (hml : MvRow w pm ml) :
  Calls Tryz.prog 3 #[.string raw, .string shown, .slice pm ml.length cm] w fun e w' => e = .returned (.bool true) /\ Below w.heap.size w w' := by
 have l4 := Hid.hide (known_few raw w hr)
 have dg := Hid.hide (fun W => known_few shown W hsh)
 have HE : Hid (Env w.heap.size sent w /\ typeAt w /\ 12 < w.heap.size /\ Bru w) := ⟨hE, hTy, hTl, hB⟩
 have fq := Hid.hide hml
 have HT : Hid (∀ W, Below w.heap.size w W -> Tabs W /\ 15 <= W.heap.size) := fun W hW => ⟨(HE.out.1.below hW).tabs, Nat.le_trans HE.out.1.low hW.size⟩
 have bg := Tryz.underlying43
 clear hE hTy hTl hr hB hsh hml
 go_enter Tryz.func3, Tryz.ntmps3
 go_wp2_with fail
 refine l4.out.mono ?_
 rintro e w1 ⟨jj, ks, vs, m, rfl, fa, jo, ni, o6⟩
 obtain ⟨pk, mk, ck, rfl⟩ := fa.keys.shape
 obtain ⟨pv, mv, cv, rfl⟩ := fa.vals.shape
 obtain ⟨rfl, rfl⟩ := fa.len
 obtain ⟨gj, -, -, gy⟩ := laid_map w1 (.slice pk m.length ck) (.slice pv m.length cv)
 have ae : (World.alloc w1 (.cells #[.slice pk m.length ck, .slice pv m.length cv] 26)).heap[w1.heap.size]? = some (.cells #[.slice pk m.length ck, .slice pv m.length cv] 26 (0, 0)) := Array.getElem?_push_size
 obtain ⟨w2, o8⟩ : ∃ x, World.alloc w1 (.cells #[.slice pk m.length ck, .slice pv m.length cv] 26) = x := ⟨_, rfl⟩
 rw [o8] at gj gy ae
 obtain ⟨n1, de⟩ : ∃ n, w1.heap.size = n := ⟨_, rfl⟩
 rw [de] at ae gy
 obtain ⟨z0, z1, -⟩ := box_cells' ae
 have jm : Below w.heap.size w w2 := jj.behind' gj
 have jw : Kn w2 w.heap.size (.slice pk m.length ck) (.slice pv m.length cv) m := fa.below gj
 have H2 : Hid (Below w.heap.size w w2 /\ w2.heap[n1]? = some (.cells #[.slice pk m.length ck, .slice pv m.length cv] 26 (0, 0)) /\ Kn w2 w.heap.size (.slice pk m.length ck) (.slice pv m.length cv) m /\ w2.heap.size = n1 + 1 /\ w.heap.size <= n1) := ⟨jm, ae, jw, gy, by have := jj.size; omega⟩
 have bv : Hid ((m.map (·.1)).Nodup /\ m.length <= 12 /\ ∀ x ∈ m, KeyFew x.1) := ⟨jo, ni, o6⟩
 have li := Hid.hide (ktree_any jw (Nat.le_refl _) (Below.refl _ _) (forest_none w2) (by omega) (pth_dup jo) false)
 clear jj fa jo ni o6 gj gy ae jm jw l4
 go_wp2_with fail
 clear o8 de
 refine li.out.mono ?_
 rintro e w3 ⟨bt, mi, rfl, S1, ci, bk⟩
 obtain ⟨t, nt, jn, ju⟩ := ci.ex
 have m9 : Below w2.heap.size w2 w3 := bk.below (forest_none w2) fun _ h => h.elim
 have H3 : Hid (w2.heap.size <= bt /\ TreeAt S1 w3 bt t /\ Forest w2.heap.size S1 w3 /\ Below w2.heap.size w2 w3) := ⟨mi, nt, bk.forest, m9⟩
 have HM : Hid (t.can 64 /\ ∀ s, s.length = 64 -> t.get s = getN m s) := ⟨jn, ju⟩
 clear mi ci nt jn ju bk m9 li z0 z1
 go_wp2_with fail
 refine (dg.out w3).mono ?_
 rintro e w4 ⟨ew, ks, vs, o, rfl, ab, mj, nj, o9⟩
 obtain ⟨qk, nk, dk, rfl⟩ := ab.keys.shape
 obtain ⟨qv, nv, dv, rfl⟩ := ab.vals.shape
 obtain ⟨rfl, rfl⟩ := ab.len
 obtain ⟨gl, -, -, kk⟩ := laid_map w4 (.slice qk o.length dk) (.slice qv o.length dv)
 have ae : (World.alloc w4 (.cells #[.slice qk o.length dk, .slice qv o.length dv] 26)).heap[w4.heap.size]? = some (.cells #[.slice qk o.length dk, .slice qv o.length dv] 26 (0, 0)) := Array.getElem?_push_size
 obtain ⟨w5, oa⟩ : ∃ x, World.alloc w4 (.cells #[.slice qk o.length dk, .slice qv o.length dv] 26) = x := ⟨_, rfl⟩
 rw [oa] at gl kk ae
 obtain ⟨n2, nn⟩ : ∃ n, w4.heap.size = n := ⟨_, rfl⟩
 rw [nn] at ae kk
 obtain ⟨y0, y1, -⟩ := box_cells' ae
 obtain ⟨B, iw⟩ : ∃ B, w2.heap.size = B := ⟨_, rfl⟩
 have h2 := H2.out
 have h3 := H3.out
 rw [iw] at h2 h3
 have fh : Below w3.heap.size w3 w5 := ew.behind' gl
 have dc : Fr B S1 S1 w3 w5 := Fr.of_below h3.2.2.1 fh
 have eb : Below B w2 w5 := h3.2.2.2.trans (fh.mono (by have := h3.2.2.1.le; omega))
 have fi : Below w.heap.size w w5 := h2.1.trans (eb.mono (by have := h2.1.size; omega))
 have hX : w.heap.size <= B /\ B <= bt /\ 15 <= B /\ w.heap.size <= n1 /\ n1 < B /\ B <= n2 /\ bt < n2 := ⟨by have := h2.1.size; omega, h3.1, Nat.le_trans HE.out.1.low (by have := h2.1.size; omega), h2.2.2.2.2, by omega, by have := h3.2.2.1.le; have := ew.size; omega, by have := h3.2.1.lt; have := ew.size; omega⟩
 obtain ⟨U, hU⟩ : ∃ U : Nat -> Prop, U = fun k => (w.heap.size <= k /\ k < B) \/ (w3.heap.size <= k /\ k < w5.heap.size) := ⟨_, rfl⟩
 have hQ : GenQ w w5 U B S1 bt t w5 := ⟨fi, Nat.le_refl _, fun _ _ => rfl, dc.forest, h3.2.1.frame dc⟩
 have dq : TwM w n1 pk ck pv cv m w5 U := by
  have pj : Kn w5 w.heap.size (.slice pk m.length ck) (.slice pv m.length cv) m := h2.2.2.1.below (iw ▸ eb)
  refine ⟨(eb.block n1 hX.2.2.2.2.1).trans h2.2.1, pj, by rw [hU]; exact .inl ⟨hX.2.2.2.1, hX.2.2.2.2.1⟩, fun k hk => ?_⟩
  rw [hU]
  have := h2.2.2.1.lo hk
  exact .inl ⟨this.1, by omega⟩
 have dr : TwM w n2 qk dk qv dv o w5 U := by
  have bn := fi.size
  have pg : w.heap.size <= w3.heap.size := by have := h3.2.2.1.le; omega
  have rj := ew.size
  refine ⟨ae, (ab.below gl).mono pg, by rw [hU]; exact .inr ⟨by omega, by omega⟩, fun k hk => ?_⟩
  rw [hU]
  have := ab.lo hk
  exact .inr ⟨this.1, by omega⟩
 have m8 : ∀ k, U k -> k < w5.heap.size /\ S1 k = none /\ k ≠ bt := fun k hk => by
  rw [hU] at hk
  have Z := h3.2.1.lt
  rcases hk with hk | hk
  ·exact ⟨Nat.lt_of_lt_of_le hk.2 dc.forest.le, dc.forest.nothing hk.2, by omega⟩
  ·exact ⟨hk.2, h3.2.2.1.fresh hk.1, by omega⟩
 have Y := Hid.hide hX
 have di := Hid.hide dq
 have ir := Hid.hide dr
 have HQ := Hid.hide hQ
 have ft := Hid.hide m8
 have ol : Hid (∀ i, ((Value.slice qk o.length dk).ownBlock = some i \/ (Value.slice qv o.length dv).ownBlock = some i) -> i ≠ n1) := fun i hx => by
  have h1 := (ab.lo hx).1
  have h2 := h3.2.2.1.le
  have h4 := hX.2.2.2.2.1
  omega
 have i8 : Hid ((o.map (·.1)).Nodup /\ o.length <= 12 /\ ∀ x ∈ o, KeyFew x.1) := ⟨mj, nj, o9⟩
 obtain ⟨ps, gw⟩ : ∃ ps, (o.map (·.1)).map keyP = ps := ⟨_, rfl⟩
 obtain ⟨a, ha⟩ : ∃ a, t.prs false ps = a := ⟨_, rfl⟩
 obtain ⟨Wt, ji⟩ : ∃ s, textB (t.witness false ps) = s := ⟨_, rfl⟩
 obtain ⟨Dt, fu⟩ : ∃ D, t.dig = D := ⟨_, rfl⟩
 have fd : (t.witness false ps).length <= 8000 := by
  have h1 := witness_len (can_cs t 64 (by omega) HM.out.1) false ps
  have h2 := leaves_le HM.out.1 HM.out.2
  have := bv.out.2.1
  omega
 have jh := xwitness_any (w := w5) hQ.wood (HT.out _ hQ.below).1 hX.2.2.1 hQ.tree dr.kn.keyRow (by rw [List.length_map]; omega) (by rw [gw]; omega)
 rw [gw, ji, List.length_map] at jh
 have lm := Hid.hide jh
 have bm := t.cs_ok (can_cs t 64 (by omega) HM.out.1)
 have HA : Hid ((o.map (·.1)).map keyP = ps /\ t.prs false ps = a /\ textB (t.witness false ps) = Wt /\ t.dig = Dt /\ (t.witness false ps).length <= 8000 /\ Dt.length = 32 /\ ∀ x ∈ Dt, x < 256) := ⟨gw, ha, ji, fu, fd, by rw [<- fu]; exact t.dig_length bm, by rw [<- fu]; exact t.dig_byte bm⟩
 clear ew ab mj nj o9 gl kk ae h2 h3 fh dc eb fi hU hX hQ dq dr m8 iw gw ha ji fu fd jh bm H2 H3 dg
 go_wp2_with fail
 clear oa nn y0 y1
 refine lm.out.mono ?_
 rintro e w6 ⟨rfl, mw⟩
 have fl : StKit (GenQ w w5 U B S1 bt t) (GenF w U S1 bt) B S1 := GenQ.kit Y.out.1 fun k hk => ⟨(ft.out k hk).1, (ft.out k hk).2.1⟩
 have eo := fl.fr _ _ HQ.out mw
 have ar := xroot_any eo.wood (HT.out _ eo.below).1 Y.out.2.2.1 eo.tree
 rw [HA.out.2.2.2.1] at ar
 have bz := Hid.hide ar
 have ld := Hid.hide eo
 have id := Hid.hide fl
 clear mw fl eo ar lm
 go_wp2_with fail
 refine bz.out.mono ?_
 rintro e w7 ⟨rfl, mz⟩
 have cp := id.out.fr _ _ ld.out mz
 have ja := xopen_part (B := B) (S := S1) (ps := ps) sent cp.wood HM.out.1 HA.out.2.2.2.2.1 ((HE.out.1.below cp.below).faults) (HE.out.2.2.2.below cp.below) (HT.out _ cp.below).1 (HT.out _ cp.below).2
 rw [HA.out.2.1, HA.out.2.2.1, HA.out.2.2.2.1] at ja
 have l9 := Hid.hide ja
 have fs := Hid.hide cp
 clear mz cp ja bz ld
 go_wp2_with fail
 refine l9.out.mono ?_
 rintro e w8 ⟨bp, J2, rfl, nu, ph, gr, gm⟩
 have nr : opV bp = .tuple #[.pointer (some ⟨bp, 0, none⟩), .agg #[.int .i64 0, .int .i64 0, .int .i64 0, .int .i64 0]] := rfl
 rw [nr]
 have lz : TwS w w5 U B bt bp t a J2 w8 := by
  have h := fs.out
  have hs := h.size
  refine ⟨⟨h.below.behind' gm, Nat.le_trans hs gm.size, fun k hk => (gm.block k (Nat.lt_of_lt_of_le (ft.out k hk).1 hs)).trans (h.keep k hk), gr.forest, h.tree.framex gr (fun h => h)⟩, nu, fun k hk => ?_⟩
  obtain ⟨u1, u2, u3⟩ := ft.out k hk
  exact ⟨u1, gr.new k (by omega) u2, u3, by omega⟩
 have dj : Hid (B <= bp /\ bt ≠ bp /\ n1 ≠ bt /\ n1 ≠ bp /\ n2 ≠ n1) := by
  have hx := Y.out
  have hl := fs.out.wood.le
  have du := fs.out.tree.lt
  exact ⟨by omega, by omega, by omega, by omega, by omega⟩
 have p8 : Hid (∀ i, ((Value.slice qk o.length dk).ownBlock = some i \/ (Value.slice qv o.length dv).ownBlock = some i) -> i ≠ n1) := ol
 have ij : Hid (Prt a t) := by rw [<- HA.out.2.1]; exact prs_prt HM.out.1 false ps
 have lf := Hid.hide lz
 clear nr nu ph gr gm lz l9 fs id HQ
 go_wp2_with fail
 have bj : Below w8.heap.size w8 (w8.alloc (.cells #[.int .i64 0, .int .i64 0, .int .i64 0, .int .i64 0] 34)) := (Below.refl _ _).alloc (Nat.le_refl _) _
 generalize World.alloc w8 _ = w9 at bj ⊢
 refine (fine_zero w9).mono ?_
 rintro e sm ⟨rfl, jk⟩
 have cq := lf.out.more Y.out.1 (bj.behind' jk)
 have jg := xwhole_any cq.q.wood (HT.out _ cq.q.below).1 Y.out.2.2.1 cq.p (by rw [<- HA.out.2.1, witness_prs]; have := HA.out.2.2.2.2.1; omega)
 rw [<- HA.out.2.1, witness_prs, HA.out.2.2.1] at jg
 have ll := Hid.hide jg
 have ik := Hid.hide cq
 clear bj jk cq jg lf
 go_wp2_with fail
 refine ll.out.mono ?_
 rintro e sn ⟨rfl, jq⟩
 have ct := ik.out.fr Y.out.1 jq
 have aq := xroot_any ct.q.wood (HT.out _ ct.q.below).1 Y.out.2.2.1 ct.p
 have mt : a.dig = Dt := by rw [<- HA.out.2.1, prs_dig (can_cs t 64 (by omega) HM.out.1), HA.out.2.2.2.1]
 rw [mt] at aq
 have av := Hid.hide aq
 have il := Hid.hide ct
 clear jq ct aq mt ll ik
 go_wp2_with fail
 refine av.out.mono ?_
 rintro e sq ⟨rfl, jr⟩
 have cu := il.out.fr Y.out.1 jr
 have ar := xroot_any cu.q.wood (HT.out _ cu.q.below).1 Y.out.2.2.1 cu.q.tree
 rw [HA.out.2.2.2.1] at ar
 have bz := Hid.hide ar
 have im := Hid.hide cu
 clear jr cu ar av il
 go_wp2_with fail
 refine bz.out.mono ?_
 rintro e pz ⟨rfl, js⟩
 have fe : Hid (TwS w w5 U B bt bp t a J2 pz) := im.out.fr Y.out.1 js
 have jp := hash_refl Dt HA.out.2.2.2.2.2.1 HA.out.2.2.2.2.2.2
 clear js bz im
 go_wp2
 clear jp
 go_loopg [15] o.length (fun gh i wr => ∃ k, k <= o.length /\ gh = o.length - k /\ i = .int .i64 ((k : Nat) : Int) /\ TwS w w5 U B bt bp t a J2 wr)
 case atStart => exact ⟨0, Nat.zero_le _, rfl, rfl, fe.out⟩
 case round =>
  obtain ⟨k, hk, rfl, rfl, N⟩ := hrel
  obtain ⟨cz, ak⟩ := ir.out.at N
  obtain ⟨z0, z1, -⟩ := box_cells' cz
  by_cases Z : k < o.length
  ·have i1 : (k : Int) < (o.length : Int) := by omega
   obtain ⟨g, ln, ek, jv, kj⟩ := ak.key Z
   simp only [Value.slice.injEq] at ek
   obtain ⟨rfl, -, rfl⟩ := ek
   obtain ⟨K, cd⟩ : ∃ K, o[k].1 = K := ⟨_, rfl⟩
   have ac : K.size = 32 /\ Bytes K := by
    have := ak.ok o[k] (List.getElem_mem Z)
    rw [cd] at this
    exact ⟨this.1, this.2.1⟩
   have cj : (Tryz.prog.info? 43).map (·.size) = some (K.toList.map encB).length := by rw [size51]; simp [ac.1]
   have cl : Hid (∀ W, TwS w w5 U B bt bp t a J2 W -> W.cell? ⟨n1, 0, none⟩ = some (.slice pk m.length ck) /\ W.cell? ⟨n1, 1, none⟩ = some (.slice pv m.length cv) /\ W.cell? ⟨n2, 0, none⟩ = some (.slice (some ⟨g, 0, none⟩) o.length dk) /\ W.rangeAt g (k * 32) (K.toList.map encB)) := fun W h => by
    obtain ⟨h1, h2⟩ := di.out.at h
    obtain ⟨h3, h4⟩ := ir.out.at h
    obtain ⟨g', iv, ek, -, df⟩ := h4.key Z
    simp only [Value.slice.injEq, Option.some.injEq, Addr.mk.injEq, and_true, true_and] at ek
    obtain ⟨rfl, -⟩ := ek
    rw [cd] at df
    exact ⟨(box_cells' h1).1, (box_cells' h1).2.1, (box_cells' h3).1, df⟩
   have kl : a.sees (nibs K.toList) := by
    obtain ⟨og, pq, pt⟩ := key_path ac.1 ac.2
    rw [<- HA.out.2.1, <- og]
    refine prt_sees 64 t 64 (Nat.le_refl _) HM.out.1 ps _ ?_ pt (by rw [og]; exact pq)
    rw [<- HA.out.1]
    exact List.mem_map.2 ⟨K, List.mem_map.2 ⟨o[k], List.getElem_mem Z, cd⟩, rfl⟩
   have dh : Hid (∀ W, TwS w w5 U B bt bp t a J2 W -> Calls Tryz.prog 11 #[.agg #[.slice pk m.length ck, .slice pv m.length cv], .pointer (some ⟨bp, 0, none⟩), .agg (K.toList.map encB).toArray] W fun e w' => e = .returned (.bool true) /\ Below W.heap.size W w') := fun W h => psays_any sent ((HE.out.1.below h.q.below).faults) h.q.wood h.p ij.out HM.out.1 kl (HM.out.2 _ (key_len ac.1)) (di.out.at h).2 (by have := bv.out.2.1; omega) (pth_dup bv.out.1) ac.1 ac.2
   have HK : Hid (K.size = 32 /\ Bytes K /\ k < o.length) := ⟨ac.1, ac.2, Z⟩
   have HL : Hid (o.length <= 12) := i8.out.2.1
   have HS := Hid.hide N
   clear cz ak jv kj cd ac kl N hk Z fe
   go_upto_region 14 with fail
   clear z0 z1
   refine wp_region_any (by kernel_rfl) ?_
   change wpAny _ _ _ _ _ _ _ (World.drew _)
   obtain ⟨f, H⟩ : ∃ f : Nat -> Value, f = fun i => ([.agg #[.slice pk m.length ck, .slice pv m.length cv], .pointer (some ⟨bp, 0, none⟩), .pointer (some ⟨n2, 0, none⟩), .slice (some ⟨g, 0, none⟩) o.length dk, .int .i64 (k : Int), .pointer (some ⟨g, k * 32, none⟩), .agg (K.toList.map encB).toArray, .bool true, .bool true] : List Value).getD i undef := ⟨_, rfl⟩
   refine wpAny_all_steady _ _ f (fun W => TwS w w5 U B bt bp t a J2 W) (by kernel_rfl) (by kernel_rfl) ?_ _ ?_ rfl ?_
   ·intro i o I ah b W z r N
    have hi : i < 9 := (Array.getElem?_eq_some_iff.1 I).1
    match i, hi with
    | 0, _ =>
     obtain rfl := Option.some.inj I
     have X : f 0 = .agg #[.slice pk m.length ck, .slice pv m.length cv] := by rw [H]; rfl
     have t7 : b.tmps[7]? = some (.pointer (some ⟨n1, 0, none⟩)) := (z.rest 7 (fun i _ => noDst_of (by kernel_rfl) i)).trans rfl
     rw [X]
     clear I H r z
     obtain ⟨q0, q1, -⟩ := cl.out W N
     refine Oper.wp_mono (K := fun L w' => L = b.put (some 78) (.agg #[.slice pk m.length ck, .slice pv m.length cv]) /\ w' = W) (by rintro L w' ⟨rfl, rfl⟩; exact ⟨rfl, N⟩) ?_
     clear N
     go_simp
    | 1, _ =>
     obtain rfl := Option.some.inj I
     have X : f 1 = .pointer (some ⟨bp, 0, none⟩) := by rw [H]; rfl
     have oi : b.tmps[12]? = some (.pointer (some ⟨bp, 0, none⟩)) := (z.rest 12 (fun i _ => noDst_of (by kernel_rfl) i)).trans rfl
     rw [X]
     clear I H r z
     refine Oper.wp_mono (K := fun L w' => L = b.put (some 79) (.pointer (some ⟨bp, 0, none⟩)) /\ w' = W) (by rintro L w' ⟨rfl, rfl⟩; exact ⟨rfl, N⟩) ?_
     clear N
     go_simp
    | 2, _ =>
     obtain rfl := Option.some.inj I
     have X : f 2 = .pointer (some ⟨n2, 0, none⟩) := by rw [H]; rfl
     have oh : b.tmps[10]? = some (.pointer (some ⟨n2, 0, none⟩)) := (z.rest 10 (fun i _ => noDst_of (by kernel_rfl) i)).trans rfl
     rw [X]
     clear I H r z
     refine Oper.wp_mono (K := fun L w' => L = b.put (some 80) (.pointer (some ⟨n2, 0, none⟩)) /\ w' = W) (by rintro L w' ⟨rfl, rfl⟩; exact ⟨rfl, N⟩) ?_
     clear N
     go_simp
    | 3, _ =>
     obtain rfl := Option.some.inj I
     have X : f 3 = .slice (some ⟨g, 0, none⟩) o.length dk := by rw [H]; rfl
     have v2 : f 2 = .pointer (some ⟨n2, 0, none⟩) := by rw [H]; rfl
     have s6 : b.tmps[80]? = some (.pointer (some ⟨n2, 0, none⟩)) := (z.done 2 80 (r ⟨2, .data⟩ (by simp) rfl) rfl (by simp)).trans (congrArg some v2)
     rw [X]
     clear I H r z
     obtain ⟨-, -, q2, -⟩ := cl.out W N
     refine Oper.wp_mono (K := fun L w' => L = b.put (some 81) (.slice (some ⟨g, 0, none⟩) o.length dk) /\ w' = W) (by rintro L w' ⟨rfl, rfl⟩; exact ⟨rfl, N⟩) ?_
     clear N
     go_simp
    | 4, _ =>
     obtain rfl := Option.some.inj I
     have X : f 4 = .int .i64 (k : Int) := by rw [H]; rfl
     have rl : b.tmps[15]? = some (.int .i64 (k : Int)) := (z.rest 15 (fun i _ => noDst_of (by kernel_rfl) i)).trans rfl
     rw [X]
     clear I H r z
     refine Oper.wp_mono (K := fun L w' => L = b.put (some 82) (.int .i64 (k : Int)) /\ w' = W) (by rintro L w' ⟨rfl, rfl⟩; exact ⟨rfl, N⟩) ?_
     clear N
     go_simp
    | 5, _ =>
     obtain rfl := Option.some.inj I
     have X : f 5 = .pointer (some ⟨g, k * 32, none⟩) := by rw [H]; rfl
     have v3 : f 3 = .slice (some ⟨g, 0, none⟩) o.length dk := by rw [H]; rfl
     have sa : b.tmps[81]? = some (.slice (some ⟨g, 0, none⟩) o.length dk) := (z.done 3 81 (r ⟨3, .data⟩ (by simp) rfl) rfl (by simp)).trans (congrArg some v3)
     have v4 : f 4 = .int .i64 (k : Int) := by rw [H]; rfl
     have sd : b.tmps[82]? = some (.int .i64 (k : Int)) := (z.done 4 82 (r ⟨4, .data⟩ (by simp) rfl) rfl (by simp)).trans (congrArg some v4)
     rw [X]
     clear I H r z
     refine Oper.wp_mono (K := fun L w' => L = b.put (some 83) (.pointer (some ⟨g, k * 32, none⟩)) /\ w' = W) (by rintro L w' ⟨rfl, rfl⟩; exact ⟨rfl, N⟩) ?_
     clear N
     go_simp
    | 6, _ =>
     obtain rfl := Option.some.inj I
     have X : f 6 = .agg (K.toList.map encB).toArray := by rw [H]; rfl
     have v5 : f 5 = .pointer (some ⟨g, k * 32, none⟩) := by rw [H]; rfl
     have py : b.tmps[83]? = some (.pointer (some ⟨g, k * 32, none⟩)) := (z.done 5 83 (r ⟨5, .data⟩ (by simp) rfl) rfl (by simp)).trans (congrArg some v5)
     rw [X]
     clear I H r z
     obtain ⟨-, -, -, q3⟩ := cl.out W N
     refine wp_load_mid 43 (.tmp 83) rfl g (k * 32) (by simp only [Act.eval, Array.getD_eq_getD_getElem?, py, Option.getD_some]) (K.toList.map encB) _ q3 bg rfl cj ?_
     exact ⟨rfl, N⟩
    | 7, _ =>
     obtain rfl := Option.some.inj I
     have X : f 7 = .bool true := by rw [H]; rfl
     have v0 : f 0 = .agg #[.slice pk m.length ck, .slice pv m.length cv] := by rw [H]; rfl
     have ry : b.tmps[78]? = some (.agg #[.slice pk m.length ck, .slice pv m.length cv]) := (z.done 0 78 (r ⟨0, .data⟩ (by simp) rfl) rfl (by simp)).trans (congrArg some v0)
     have v1 : f 1 = .pointer (some ⟨bp, 0, none⟩) := by rw [H]; rfl
     have rz : b.tmps[79]? = some (.pointer (some ⟨bp, 0, none⟩)) := (z.done 1 79 (r ⟨1, .data⟩ (by simp) rfl) rfl (by simp)).trans (congrArg some v1)
     have v6 : f 6 = .agg (K.toList.map encB).toArray := by rw [H]; rfl
     have se : b.tmps[84]? = some (.agg (K.toList.map encB).toArray) := (z.done 6 84 (r ⟨6, .data⟩ (by simp) rfl) rfl (by simp)).trans (congrArg some v6)
     rw [X]
     clear I H r z
     have eh := Hid.hide (dh.out W N)
     have el := Hid.hide N
     clear N
     go_simp
     refine eh.out.mono ?_
     rintro e w9 ⟨rfl, bj⟩
     exact ⟨rfl, el.out.more Y.out.1 bj⟩
    | 8, _ =>
     obtain rfl := Option.some.inj I
     have X : f 8 = .bool true := by rw [H]; rfl
     have v7 : f 7 = .bool true := by rw [H]; rfl
     have sf : b.tmps[85]? = some (.bool true) := (z.done 7 85 (r ⟨7, .data⟩ (by simp) rfl) rfl (by simp)).trans (congrArg some v7)
     rw [X]
     clear I H r z
     refine Oper.wp_mono (K := fun L w' => L = b.put (some 16) (.bool true) /\ w' = W) (by rintro L w' ⟨rfl, rfl⟩; exact ⟨rfl, N⟩) ?_
     clear N
     go_simp
   ·exact HS.out.more Y.out.1 (Below.refl _ _).drew
   ·intro W N
    have e0 : f 0 = .agg #[.slice pk m.length ck, .slice pv m.length cv] := by rw [H]; rfl
    have e1 : f 1 = .pointer (some ⟨bp, 0, none⟩) := by rw [H]; rfl
    have e2 : f 2 = .pointer (some ⟨n2, 0, none⟩) := by rw [H]; rfl
    have e3 : f 3 = .slice (some ⟨g, 0, none⟩) o.length dk := by rw [H]; rfl
    have e4 : f 4 = .int .i64 (k : Int) := by rw [H]; rfl
    have e5 : f 5 = .pointer (some ⟨g, k * 32, none⟩) := by rw [H]; rfl
    have e6 : f 6 = .agg (K.toList.map encB).toArray := by rw [H]; rfl
    have e7 : f 7 = .bool true := by rw [H]; rfl
    have e8 : f 8 = .bool true := by rw [H]; rfl
    simp only [runFrom, Act.put, Nat.zero_add, Nat.reduceAdd, List.setIfInBounds_toArray, List.set_cons_zero, List.set_cons_succ, e0, e1, e2, e3, e4, e5, e6, e7, e8]
    clear H e0 e1 e2 e3 e4 e5 e6 e7 e8
    have io := Hid.hide N
    clear N
    go_wp2
    go_roundg (o.length - (k + 1))
    case measure => have := HK.out.2.2; omega
    case rel => exact ⟨k + 1, by have := HK.out.2.2; omega, rfl, val_int (sum_few k 1 (by have := HK.out.2.2; have := HL.out; omega)), io.out⟩
  ·obtain rfl : k = o.length := by omega
   have fg := Hid.hide N
   clear cz ak N hk Z fe
   go_wp2
   clear z0 z1
   go_loopg [17] m.length (fun gh i wr => ∃ k, k <= m.length /\ gh = m.length - k /\ i = .int .i64 ((k : Nat) : Int) /\ TwS w w5 U B bt bp t a J2 wr)
   case atStart => exact ⟨0, Nat.zero_le _, rfl, rfl, fg.out⟩
   case round =>
    rename_i wo _
    obtain ⟨k, hk, rfl, rfl, N⟩ := hrel
    obtain ⟨cz, ak⟩ := di.out.at N
    obtain ⟨z0, z1, -⟩ := box_cells' cz
    by_cases Z : k < m.length
    ·have i1 : (k : Int) < (m.length : Int) := by omega
     obtain ⟨g, ln, ek, jv, kj⟩ := ak.key Z
     simp only [Value.slice.injEq] at ek
     obtain ⟨rfl, -, rfl⟩ := ek
     obtain ⟨K, cd⟩ : ∃ K, m[k].1 = K := ⟨_, rfl⟩
     have ac : K.size = 32 /\ Bytes K := by
      have := ak.ok m[k] (List.getElem_mem Z)
      rw [cd] at this
      exact ⟨this.1, this.2.1⟩
     have cj : (Tryz.prog.info? 43).map (·.size) = some (K.toList.map encB).length := by rw [size51]; simp [ac.1]
     have cl : Hid (∀ W, TwS w w5 U B bt bp t a J2 W -> W.cell? ⟨n1, 0, none⟩ = some (.slice (some ⟨g, 0, none⟩) m.length ck) /\ W.cell? ⟨n1, 1, none⟩ = some (.slice pv m.length cv) /\ W.cell? ⟨n1, 0, none⟩ = some (.slice (some ⟨g, 0, none⟩) m.length ck) /\ W.rangeAt g (k * 32) (K.toList.map encB)) := fun W h => by
      obtain ⟨h1, h2⟩ := di.out.at h
      obtain ⟨g', iv, ek, -, df⟩ := h2.key Z
      simp only [Value.slice.injEq, Option.some.injEq, Addr.mk.injEq, and_true, true_and] at ek
      obtain ⟨rfl, -⟩ := ek
      rw [cd] at df
      exact ⟨(box_cells' h1).1, (box_cells' h1).2.1, (box_cells' h1).1, df⟩
     have dh : Hid (∀ W, TwS w w5 U B bt bp t a J2 W -> Calls Tryz.prog 12 #[.agg #[.slice (some ⟨g, 0, none⟩) m.length ck, .slice pv m.length cv], .pointer (some ⟨bp, 0, none⟩), .agg (K.toList.map encB).toArray] W fun e w' => e = .returned (.bool true) /\ Below W.heap.size W w') := fun W h => panswers_any sent ((HE.out.1.below h.q.below).faults) h.q.wood h.p ij.out HM.out.1 (HM.out.2 _ (key_len ac.1)) (di.out.at h).2 (by have := bv.out.2.1; omega) (pth_dup bv.out.1) ac.1 ac.2
     have HK : Hid (K.size = 32 /\ Bytes K /\ k < m.length) := ⟨ac.1, ac.2, Z⟩
     have HL : Hid (m.length <= 12) := bv.out.2.1
     have HS := Hid.hide N
     clear cz ak jv kj cd ac N hk Z fg
     go_upto_region 20 with fail
     clear z0 z1
     refine wp_region_any (by kernel_rfl) ?_
     change wpAny _ _ _ _ _ _ _ (World.drew _)
     obtain ⟨f, H⟩ : ∃ f : Nat -> Value, f = fun i => ([.agg #[.slice (some ⟨g, 0, none⟩) m.length ck, .slice pv m.length cv], .pointer (some ⟨bp, 0, none⟩), .pointer (some ⟨n1, 0, none⟩), .slice (some ⟨g, 0, none⟩) m.length ck, .int .i64 (k : Int), .pointer (some ⟨g, k * 32, none⟩), .agg (K.toList.map encB).toArray, .bool true, .bool true] : List Value).getD i undef := ⟨_, rfl⟩
     refine wpAny_all_steady _ _ f (fun W => TwS w w5 U B bt bp t a J2 W) (by kernel_rfl) (by kernel_rfl) ?_ _ ?_ rfl ?_
     ·intro i o I ah b W z r N
      have hi : i < 9 := (Array.getElem?_eq_some_iff.1 I).1
      match i, hi with
      | 0, _ =>
       obtain rfl := Option.some.inj I
       have X : f 0 = .agg #[.slice (some ⟨g, 0, none⟩) m.length ck, .slice pv m.length cv] := by rw [H]; rfl
       have t7 : b.tmps[7]? = some (.pointer (some ⟨n1, 0, none⟩)) := (z.rest 7 (fun i _ => noDst_of (by kernel_rfl) i)).trans rfl
       rw [X]
       clear I H r z
       obtain ⟨q0, q1, -⟩ := cl.out W N
       refine Oper.wp_mono (K := fun L w' => L = b.put (some 95) (.agg #[.slice (some ⟨g, 0, none⟩) m.length ck, .slice pv m.length cv]) /\ w' = W) (by rintro L w' ⟨rfl, rfl⟩; exact ⟨rfl, N⟩) ?_
       clear N
       go_simp
      | 1, _ =>
       obtain rfl := Option.some.inj I
       have X : f 1 = .pointer (some ⟨bp, 0, none⟩) := by rw [H]; rfl
       have oi : b.tmps[12]? = some (.pointer (some ⟨bp, 0, none⟩)) := (z.rest 12 (fun i _ => noDst_of (by kernel_rfl) i)).trans rfl
       rw [X]
       clear I H r z
       refine Oper.wp_mono (K := fun L w' => L = b.put (some 96) (.pointer (some ⟨bp, 0, none⟩)) /\ w' = W) (by rintro L w' ⟨rfl, rfl⟩; exact ⟨rfl, N⟩) ?_
       clear N
       go_simp
      | 2, _ =>
       obtain rfl := Option.some.inj I
       have X : f 2 = .pointer (some ⟨n1, 0, none⟩) := by rw [H]; rfl
       have t7 : b.tmps[7]? = some (.pointer (some ⟨n1, 0, none⟩)) := (z.rest 7 (fun i _ => noDst_of (by kernel_rfl) i)).trans rfl
       rw [X]
       clear I H r z
       refine Oper.wp_mono (K := fun L w' => L = b.put (some 97) (.pointer (some ⟨n1, 0, none⟩)) /\ w' = W) (by rintro L w' ⟨rfl, rfl⟩; exact ⟨rfl, N⟩) ?_
       clear N
       go_simp
      | 3, _ =>
       obtain rfl := Option.some.inj I
       have X : f 3 = .slice (some ⟨g, 0, none⟩) m.length ck := by rw [H]; rfl
       have v2 : f 2 = .pointer (some ⟨n1, 0, none⟩) := by rw [H]; rfl
       have si : b.tmps[97]? = some (.pointer (some ⟨n1, 0, none⟩)) := (z.done 2 97 (r ⟨2, .data⟩ (by simp) rfl) rfl (by simp)).trans (congrArg some v2)
       rw [X]
       clear I H r z
       obtain ⟨-, -, q2, -⟩ := cl.out W N
       refine Oper.wp_mono (K := fun L w' => L = b.put (some 98) (.slice (some ⟨g, 0, none⟩) m.length ck) /\ w' = W) (by rintro L w' ⟨rfl, rfl⟩; exact ⟨rfl, N⟩) ?_
       clear N
       go_simp
      | 4, _ =>
       obtain rfl := Option.some.inj I
       have X : f 4 = .int .i64 (k : Int) := by rw [H]; rfl
       have rp : b.tmps[17]? = some (.int .i64 (k : Int)) := (z.rest 17 (fun i _ => noDst_of (by kernel_rfl) i)).trans rfl
       rw [X]
       clear I H r z
       refine Oper.wp_mono (K := fun L w' => L = b.put (some 99) (.int .i64 (k : Int)) /\ w' = W) (by rintro L w' ⟨rfl, rfl⟩; exact ⟨rfl, N⟩) ?_
       clear N
       go_simp
      | 5, _ =>
       obtain rfl := Option.some.inj I
       have X : f 5 = .pointer (some ⟨g, k * 32, none⟩) := by rw [H]; rfl
       have v3 : f 3 = .slice (some ⟨g, 0, none⟩) m.length ck := by rw [H]; rfl
       have sj : b.tmps[98]? = some (.slice (some ⟨g, 0, none⟩) m.length ck) := (z.done 3 98 (r ⟨3, .data⟩ (by simp) rfl) rfl (by simp)).trans (congrArg some v3)
       have v4 : f 4 = .int .i64 (k : Int) := by rw [H]; rfl
       have sk : b.tmps[99]? = some (.int .i64 (k : Int)) := (z.done 4 99 (r ⟨4, .data⟩ (by simp) rfl) rfl (by simp)).trans (congrArg some v4)
       rw [X]
       clear I H r z
       refine Oper.wp_mono (K := fun L w' => L = b.put (some 100) (.pointer (some ⟨g, k * 32, none⟩)) /\ w' = W) (by rintro L w' ⟨rfl, rfl⟩; exact ⟨rfl, N⟩) ?_
       clear N
       go_simp
      | 6, _ =>
       obtain rfl := Option.some.inj I
       have X : f 6 = .agg (K.toList.map encB).toArray := by rw [H]; rfl
       have v5 : f 5 = .pointer (some ⟨g, k * 32, none⟩) := by rw [H]; rfl
       have oq : b.tmps[100]? = some (.pointer (some ⟨g, k * 32, none⟩)) := (z.done 5 100 (r ⟨5, .data⟩ (by simp) rfl) rfl (by simp)).trans (congrArg some v5)
       rw [X]
       clear I H r z
       obtain ⟨-, -, -, q3⟩ := cl.out W N
       refine wp_load_mid 43 (.tmp 100) rfl g (k * 32) (by simp only [Act.eval, Array.getD_eq_getD_getElem?, oq, Option.getD_some]) (K.toList.map encB) _ q3 bg rfl cj ?_
       exact ⟨rfl, N⟩
      | 7, _ =>
       obtain rfl := Option.some.inj I
       have X : f 7 = .bool true := by rw [H]; rfl
       have v0 : f 0 = .agg #[.slice (some ⟨g, 0, none⟩) m.length ck, .slice pv m.length cv] := by rw [H]; rfl
       have sg : b.tmps[95]? = some (.agg #[.slice (some ⟨g, 0, none⟩) m.length ck, .slice pv m.length cv]) := (z.done 0 95 (r ⟨0, .data⟩ (by simp) rfl) rfl (by simp)).trans (congrArg some v0)
       have v1 : f 1 = .pointer (some ⟨bp, 0, none⟩) := by rw [H]; rfl
       have sh : b.tmps[96]? = some (.pointer (some ⟨bp, 0, none⟩)) := (z.done 1 96 (r ⟨1, .data⟩ (by simp) rfl) rfl (by simp)).trans (congrArg some v1)
       have v6 : f 6 = .agg (K.toList.map encB).toArray := by rw [H]; rfl
       have qb : b.tmps[101]? = some (.agg (K.toList.map encB).toArray) := (z.done 6 101 (r ⟨6, .data⟩ (by simp) rfl) rfl (by simp)).trans (congrArg some v6)
       rw [X]
       clear I H r z
       have eh := Hid.hide (dh.out W N)
       have el := Hid.hide N
       clear N
       go_simp
       refine eh.out.mono ?_
       rintro e w9 ⟨rfl, bj⟩
       exact ⟨rfl, el.out.more Y.out.1 bj⟩
      | 8, _ =>
       obtain rfl := Option.some.inj I
       have X : f 8 = .bool true := by rw [H]; rfl
       have v7 : f 7 = .bool true := by rw [H]; rfl
       have qd : b.tmps[102]? = some (.bool true) := (z.done 7 102 (r ⟨7, .data⟩ (by simp) rfl) rfl (by simp)).trans (congrArg some v7)
       rw [X]
       clear I H r z
       refine Oper.wp_mono (K := fun L w' => L = b.put (some 18) (.bool true) /\ w' = W) (by rintro L w' ⟨rfl, rfl⟩; exact ⟨rfl, N⟩) ?_
       clear N
       go_simp
     ·exact HS.out.more Y.out.1 (Below.refl _ _).drew
     ·intro W N
      have e0 : f 0 = .agg #[.slice (some ⟨g, 0, none⟩) m.length ck, .slice pv m.length cv] := by rw [H]; rfl
      have e1 : f 1 = .pointer (some ⟨bp, 0, none⟩) := by rw [H]; rfl
      have e2 : f 2 = .pointer (some ⟨n1, 0, none⟩) := by rw [H]; rfl
      have e3 : f 3 = .slice (some ⟨g, 0, none⟩) m.length ck := by rw [H]; rfl
      have e4 : f 4 = .int .i64 (k : Int) := by rw [H]; rfl
      have e5 : f 5 = .pointer (some ⟨g, k * 32, none⟩) := by rw [H]; rfl
      have e6 : f 6 = .agg (K.toList.map encB).toArray := by rw [H]; rfl
      have e7 : f 7 = .bool true := by rw [H]; rfl
      have e8 : f 8 = .bool true := by rw [H]; rfl
      simp only [runFrom, Act.put, Nat.zero_add, Nat.reduceAdd, List.setIfInBounds_toArray, List.set_cons_zero, List.set_cons_succ, e0, e1, e2, e3, e4, e5, e6, e7, e8]
      clear H e0 e1 e2 e3 e4 e5 e6 e7 e8
      have io := Hid.hide N
      clear N
      go_wp2
      go_roundg (m.length - (k + 1))
      case measure => have := HK.out.2.2; omega
      case rel => exact ⟨k + 1, by have := HK.out.2.2; omega, rfl, val_int (sum_few k 1 (by have := HK.out.2.2; have := HL.out; omega)), io.out⟩
    ·obtain rfl : k = m.length := by omega
     have ip := Hid.hide N
     clear cz ak N hk Z fg
     have ib : Hid (CaI w B n1 n2 bt bp qk dk qv dv o m t a J2 w5 U pk ck pv cv wr) := ⟨ip.out, di.out, ir.out, p8.out, ij.out, HM.out.1, HM.out.2, bv.out.1, bv.out.2.2⟩
     clear ip
     go_wp2
     clear z0 z1
     go_loopg [19] ml.length (fun gh i wr => ∃ k J l t' L R V ba aw bc ay, k <= ml.length /\ gh = ml.length - k /\ i = .int .i64 ((k : Nat) : Int) /\ CaI w B n1 n2 bt bp qk dk qv dv o l t' L J R V ba aw bc ay wr)
     case atStart => exact ⟨0, J2, m, t, a, w5, U, pk, ck, pv, cv, Nat.zero_le _, rfl, rfl, ib.out⟩
     case round =>
      rename_i wo2 _
      obtain ⟨k, J, l, t', L, R, V, ba, aw, bc, ay, hk, rfl, rfl, C⟩ := hrel
      by_cases Z : k < ml.length
      ·have i1 : (k : Int) < (ml.length : Int) := by omega
       obtain ⟨mg, mo, rfl, ke, nl⟩ : ∃ mg mo, pm = some ⟨mg, mo, none⟩ /\ mg < w.heap.size /\ ∀ j (h : j < ml.length), w.cell? ⟨mg, mo + j * 2, none⟩ = some (.string ml[j].1) /\ w.cell? ⟨mg, mo + j * 2 + 1, none⟩ = some (.bool ml[j].2) := by
        rcases fq.out.2.2 with h | h
        ·rw [h] at Z; simp at Z
        ·exact h
       obtain ⟨jz, k9⟩ := nl k Z
       obtain ⟨ky, jx⟩ : ∃ y, ml[k].1 = y := ⟨_, rfl⟩
       obtain ⟨gs, nc⟩ : ∃ y, ml[k].2 = y := ⟨_, rfl⟩
       have ee : ky.size <= 9223372036854775807 := by rw [<- jx]; exact fq.out.1 _ (List.getElem_mem Z)
       rw [jx] at jz
       rw [nc] at k9
       have fp : Hid (∀ W, Below w.heap.size w W -> W.cell? ⟨mg, mo + k * 2, none⟩ = some (.string ky) /\ W.cell? ⟨mg, mo + k * 2 + 1, none⟩ = some (.bool gs)) := fun W hW => ⟨(hW.cell (p := ⟨mg, mo + k * 2, none⟩) ke).trans jz, (hW.cell (p := ⟨mg, mo + k * 2 + 1, none⟩) ke).trans k9⟩
       obtain ⟨c0, -⟩ := fp.out wr C.s.q.below
       obtain ⟨wF, oc⟩ : ∃ x, World.alloc wr (.cells #[.string ky, .int .i64 0] 48) = x := ⟨_, rfl⟩
       have ez := feed_new wr ky
       have jl : Below wr.heap.size wr (World.alloc wr (.cells #[.string ky, .int .i64 0] 48)) := (Below.refl _ _).alloc (Nat.le_refl _) _
       rw [oc] at ez jl
       obtain ⟨fb, n9⟩ : ∃ x, wr.heap.size = x := ⟨_, rfl⟩
       rw [n9] at ez
       have l6 := Hid.hide (key_few fb ky wF ez ee)
       have ie := Hid.hide (value_loop fb ky ee)
       have lj := Hid.hide (fun W h => value_any fb ky W h ee)
       have j5 : TwF w V bt bp J fb := C.s.fresh Y.out.1 (by omega)
       have HF : Hid (TwS w R V B bt bp t' L J wF /\ TwF w V bt bp J fb /\ fb < wF.heap.size) := ⟨C.s.more Y.out.1 jl, j5, ez.lt⟩
       have HI := Hid.hide C
       have bx : Hid (k < ml.length) := Z
       clear nl jz k9 jx nc ee ke ez jl j5 C hk Z ib
       go_wp2_with fail
       clear oc n9 c0
       refine l6.out.mono ?_
       rintro e wG ⟨K0, gb, j8, j9, rfl, gn⟩
       obtain ⟨tt, dw, q7, o1, b8, r8, s8⟩ := laid_key wG K0 gb
       have gz := World.there_setCells tt wG.heap.size 0 (K0.toList.map encB)
       have jd := HF.out.1.only Y.out.1 HF.out.2.1 gn.1
       go_upto_region 28 with (refine wpList_store_mid rfl 43 _ _ rfl wG.heap.size 0 (K0.toList.map encB).toArray rfl rfl tt dw o1 ?_; generalize World.setCells _ wG.heap.size 0 _ = wH at b8 r8 s8 gz ⊢)
       obtain ⟨kb, ng⟩ : ∃ x, wG.heap.size = x := ⟨_, rfl⟩
       rw [ng] at r8 s8 gz ⊢
       have j6 : TwF w V bt bp J kb := jd.fresh Y.out.1 (by omega)
       have je := jd.more Y.out.1 b8
       have H8 : Hid (TwS w R V B bt bp t' L J wH /\ TwF w V bt bp J kb /\ FeedAt wH fb ky /\ K0.size = 32 /\ Bytes K0 /\ KeyFew K0 /\ wH.rangeAt kb 0 (K0.toList.map encB) /\ fb ≠ kb /\ kb < wH.heap.size /\ wH.there kb 0 32) := ⟨je, j6, gn.2.below b8, gb, j8, j9, r8, by have := gn.2.lt; omega, s8, by simpa [gb] using gz⟩
       obtain ⟨z0, z1, -⟩ := box_cells' (HI.out.ko.at je).1
       clear tt dw q7 o1 b8 r8 s8 gz gn jd je j6 ng gb j8 j9 l6
       simp only [Act.put]
       go_cut [128] (fun x wd => ∃ y : Bool, x = .bool y /\ (y = true -> 0 < o.length) /\ Fed fb ky wH wd)
       case first => as_aux_lemma =>
        by_cases kg : o.length = 0
        ·have pn : ¬ (0 : Int) < (o.length : Int) := by omega
         clear kg
         have i9 : Hid (Fed fb ky wH wH) := ⟨.refl _ _, H8.out.2.2.1⟩
         go_wp2
         go_meet
         exact ⟨false, rfl, fun q => (by cases q), i9.out⟩
        ·have pn : (0 : Int) < (o.length : Int) := by omega
         go_wp2_with fail
         refine (ie.out 4 wH H8.out.2.2.1 (by omega) (by omega)).mono ?_
         rintro e wd ⟨c, hc, rfl, H⟩
         have i9 := Hid.hide H
         clear H hc
         go_wp2
         go_meet
         exact ⟨_, rfl, fun _ => by omega, i9.out⟩
       case rest => as_aux_lemma =>
        obtain ⟨y, rfl, oe, bl⟩ := hcut
        obtain ⟨w9, rfl⟩ : ∃ x, x = wc := ⟨_, rfl⟩
        have H9 : Hid (TwS w R V B bt bp t' L J w9 /\ FeedAt w9 fb ky /\ w9.rangeAt kb 0 (K0.toList.map encB) /\ kb < w9.heap.size /\ w9.there kb 0 32 /\ (y = true -> 0 < o.length)) := by
         have mh := bl.1.block kb H8.out.2.2.2.2.2.2.2.2.1 H8.out.2.2.2.2.2.2.2.1.symm
         exact ⟨H8.out.1.only Y.out.1 HF.out.2.1 bl.1, bl.2, rangeAt_block H8.out.2.2.2.2.2.2.1 mh, Nat.lt_of_lt_of_le H8.out.2.2.2.2.2.2.2.2.1 bl.1.size, there_block H8.out.2.2.2.2.2.2.2.2.2 mh, oe⟩
        clear bl oe z0 z1
        apply_assumption
        go_cut [] (fun wd => ∃ K : Array Nat, K.size = 32 /\ Bytes K /\ KeyFew K /\ wd.rangeAt kb 0 (K.toList.map encB) /\ (TwS w R V B bt bp t' L J wd /\ kb < wd.heap.size) /\ FeedAt wd fb ky)
        case first => as_aux_lemma =>
         cases y with
         | false =>
          go_wp2
          go_meet
          exact ⟨K0, H8.out.2.2.2.1, H8.out.2.2.2.2.1, H8.out.2.2.2.2.2.1, H9.out.2.2.1, ⟨H9.out.1, H9.out.2.2.2.1⟩, H9.out.2.1⟩
         | true =>
          go_upto_region 29 with fail
          have kg : 0 < o.length := H9.out.2.2.2.2.2 rfl
          have q9 : o.length <= 12 := i8.out.2.1
          obtain ⟨gk, ln, ek, -, -⟩ := HI.out.ko.kn.key kg
          simp only [Value.slice.injEq] at ek
          obtain ⟨rfl, -, rfl⟩ := ek
          obtain ⟨G9, ga⟩ : ∃ G : World -> Prop, G = fun W => TwS w R V B bt bp t' L J W /\ kb < W.heap.size := ⟨_, rfl⟩
          have np := H8.out.2.2.2.2.2.2.2.1
          have kz : Hid (N9K G9 fb kb) := by
           rw [ga]
           exact ⟨fun W W' h I => ⟨h.1.only Y.out.1 HF.out.2.1 I, Nat.lt_of_lt_of_le h.2 I.size⟩, fun W W' h I => ⟨h.1.only Y.out.1 H8.out.2.1 I, Nat.lt_of_lt_of_le h.2 I.size⟩, np⟩
          have ia : Hid (∀ W, G9 W -> TwS w R V B bt bp t' L J W /\ kb < W.heap.size) := fun W h => by rw [ga] at h; exact h
          have i7 : Hid (∀ W, G9 W -> W.cell? ⟨n2, 0, none⟩ = some (.slice (some ⟨gk, 0, none⟩) o.length dk)) := fun W h => (box_cells' (HI.out.ko.at (ia.out W h).1).1).1
          have p6 : Hid (∀ W, G9 W -> ∀ iy, iy < o.length -> ∃ K : Array Nat, K.size = 32 /\ Bytes K /\ KeyFew K /\ W.rangeAt gk (iy * 32) (K.toList.map encB)) := fun W h iy dt => by
           have ak := (HI.out.ko.at (ia.out W h).1).2
           obtain ⟨g', iv, ek, -, df⟩ := ak.key dt
           simp only [Value.slice.injEq, Option.some.injEq, Addr.mk.injEq, and_true, true_and] at ek
           obtain ⟨rfl, -⟩ := ek
           have bm := ak.ok o[iy] (List.getElem_mem dt)
           exact ⟨o[iy].1, bm.1, bm.2.1, i8.out.2.2 _ (List.getElem_mem dt), df⟩
          have om : Hid (∀ v6 v7 v8, Nf9 G9 fb kb ky o.length gk false v6 false v7 false v8 false w9.drew) := fun v6 v7 v8 => by
           have hb := (Below.refl w9.heap.size w9).drew
           refine ⟨by rw [ga]; exact ⟨H9.out.1.more Y.out.1 hb, H9.out.2.2.2.1⟩, H9.out.2.1.below hb, H9.out.2.2.2.2.1, fun q => (by cases q), fun q => (by cases q), fun q => (by cases q), fun q => (by cases q)⟩
          clear ga np
          refine wp_region_any (by kernel_rfl) ?_
          change wpAny _ _ _ _ _ _ _ (World.drew _)
          obtain ⟨vf, E⟩ : ∃ vf : Nat -> Option Value, vf = fun i => ([some (.pointer (some ⟨n2, 0, none⟩)), some (.slice (some ⟨gk, 0, none⟩) o.length dk), some (.pointer (some ⟨fb, 0, none⟩)), some (.pointer (some ⟨n2, 0, none⟩)), some (.slice (some ⟨gk, 0, none⟩) o.length dk), some (.int .i64 (o.length : Int)), none, none, none, none] : List (Option Value)).getD i none := ⟨_, rfl⟩
          refine wpAny_vary _ (fun d v w' => (∀ i x, vf i = some x -> d i = true -> v i = x) /\ (fun d v w' => Nf9 G9 fb kb ky o.length gk (d 6) (v 6) (d 7) (v 7) (d 8) (v 8) (d 9) w') d v w') (by kernel_rfl) (by kernel_rfl) ?_ _ (fun _ => undef) ?_ ?_
          ·intro i o I ah aa b W z T r C
           have hi : i < 10 := (Array.getElem?_eq_some_iff.1 I).1
           match i, hi with
           | 0, _ =>
            obtain rfl := Option.some.inj I
            have oh : b.tmps[10]? = some (.pointer (some ⟨n2, 0, none⟩)) := (z.rest 10 (fun i _ => noDst_of (by kernel_rfl) i)).trans rfl
            refine opPlain C.1 (by rw [E]; rfl) C.2 ?_
            clear I r z C T E
            go_simp
           | 1, _ =>
            obtain rfl := Option.some.inj I
            have qe : b.tmps[129]? = some (.pointer (some ⟨n2, 0, none⟩)) := tDone z C.1 (r ⟨0, .data⟩ (by simp) rfl) rfl (by simp) (by rw [E]; rfl)
            have z0 := i7.out W C.2.all
            refine opPlain C.1 (by rw [E]; rfl) C.2 ?_
            clear I r z C T E
            go_simp
           | 2, _ =>
            obtain rfl := Option.some.inj I
            have rt : b.tmps[20]? = some (.pointer (some ⟨fb, 0, none⟩)) := (z.rest 20 (fun i _ => noDst_of (by kernel_rfl) i)).trans rfl
            refine opPlain C.1 (by rw [E]; rfl) C.2 ?_
            clear I r z C T E
            go_simp
           | 3, _ =>
            obtain rfl := Option.some.inj I
            have oh : b.tmps[10]? = some (.pointer (some ⟨n2, 0, none⟩)) := (z.rest 10 (fun i _ => noDst_of (by kernel_rfl) i)).trans rfl
            refine opPlain C.1 (by rw [E]; rfl) C.2 ?_
            clear I r z C T E
            go_simp
           | 4, _ =>
            obtain rfl := Option.some.inj I
            have qh : b.tmps[132]? = some (.pointer (some ⟨n2, 0, none⟩)) := tDone z C.1 (r ⟨3, .data⟩ (by simp) rfl) rfl (by simp) (by rw [E]; rfl)
            have z0 := i7.out W C.2.all
            refine opPlain C.1 (by rw [E]; rfl) C.2 ?_
            clear I r z C T E
            go_simp
           | 5, _ =>
            obtain rfl := Option.some.inj I
            have qi : b.tmps[133]? = some (.slice (some ⟨gk, 0, none⟩) o.length dk) := tDone z C.1 (r ⟨4, .data⟩ (by simp) rfl) rfl (by simp) (by rw [E]; rfl)
            refine opPlain C.1 (by rw [E]; rfl) C.2 ?_
            clear I r z C T E
            go_simp
           | 6, _ =>
            obtain rfl := Option.some.inj I
            have qg : b.tmps[131]? = some (.pointer (some ⟨fb, 0, none⟩)) := tDone z C.1 (r ⟨2, .data⟩ (by simp) rfl) rfl (by simp) (by rw [E]; rfl)
            have qj : b.tmps[134]? = some (.int .i64 (o.length : Int)) := tDone z C.1 (r ⟨5, .data⟩ (by simp) rfl) rfl (by simp) (by rw [E]; rfl)
            have mn : ah.getD 7 false = false := by
             cases hq : ah.getD 7 false with
             | false => rfl
             | true => exact absurd (C.2.dep hq) (by show ¬ ah.getD 6 false = true; rw [T]; simp)
            refine opHide fun G hG => ?_
            have HG := Hid.hide hG
            have O := Hid.hide C
            have iu := Hid.hide E
            have oy := Hid.hide mn
            clear hG I r z C T E mn
            go_simp
            go_at_call 14
            refine (ie.out o.length W O.out.2.feed (by omega) (by omega)).mono ?_
            rintro e w9 ⟨c9, pi, rfl, bl⟩
            exact ⟨_, rfl, (HG.out _ _).2 ⟨vals_free O.out.1 (by rw [iu.out]; rfl), O.out.2.next kz.out pi bl oy.out⟩⟩
           | 7, _ =>
            obtain rfl := Option.some.inj I
            have qf : b.tmps[130]? = some (.slice (some ⟨gk, 0, none⟩) o.length dk) := tDone z C.1 (r ⟨1, .data⟩ (by simp) rfl) rfl (by simp) (by rw [E]; rfl)
            have d6 := r ⟨6, .data⟩ (by simp) rfl
            obtain ⟨iy, dt, e6, -⟩ := C.2.pos d6
            have ql : b.tmps[135]? = some (.int .i64 (iy : Int)) := (z.done 6 135 d6 rfl (by simp)).trans (congrArg some e6)
            refine Oper.wp_mono (K := fun L w' => L = b.put (some 136) (.pointer (some ⟨gk, iy * 32, none⟩)) /\ w' = W) (by rintro L w' ⟨rfl, rfl⟩; exact ⟨_, rfl, vals_free C.1 (by rw [E]; rfl), C.2.index d6 e6⟩) ?_
            have q8 : (iy : Int) < (o.length : Int) := by omega
            clear I r z C T E d6 e6
            go_simp
           | 8, _ =>
            obtain rfl := Option.some.inj I
            have d7 := r ⟨7, .data⟩ (by simp) rfl
            obtain ⟨iy, dt, e7⟩ := C.2.at7 d7
            have ot : b.tmps[136]? = some (.pointer (some ⟨gk, iy * 32, none⟩)) := (z.done 7 136 d7 rfl (by simp)).trans (congrArg some e7)
            obtain ⟨K9, bi, bo, bq, gx⟩ := p6.out W C.2.all iy dt
            refine wp_load_mid 43 (.tmp 136) rfl gk (iy * 32) (by simp only [Act.eval, Array.getD_eq_getD_getElem?, ot, Option.getD_some]) (K9.toList.map encB) _ gx bg rfl (by rw [size51]; simp [bi]) ?_
            exact ⟨_, rfl, vals_free C.1 (by rw [E]; rfl), C.2.load bi bo bq⟩
           | 9, _ =>
            obtain rfl := Option.some.inj I
            have kv : b.tmps[21]? = some (.pointer (some ⟨kb, 0, none⟩)) := (z.rest 21 (fun i _ => noDst_of (by kernel_rfl) i)).trans rfl
            have d8 := r ⟨8, .data⟩ (by simp) rfl
            obtain ⟨K9, bi, bo, bq, e8⟩ := C.2.key d8
            have ou : b.tmps[137]? = some (.agg (K9.toList.map encB).toArray) := (z.done 8 137 d8 rfl (by simp)).trans (congrArg some e8)
            refine wp_store_mid 43 (.tmp 21) (.tmp 137) rfl kb 0 (K9.toList.map encB).toArray (by simp only [Act.eval, Array.getD_eq_getD_getElem?, kv, Option.getD_some]) (by simp only [Act.eval, Array.getD_eq_getD_getElem?, ou, Option.getD_some]) (by simpa [bi] using C.2.there) (by rw [size51]; simp [bi]) (all_oneCell_toArray (oneCell_enc K9 .u8)) ?_
            exact ⟨undef, rfl, vals_free C.1 (by rw [E]; rfl), C.2.store kz.out bi bo bq⟩
          ·exact ⟨fun _ _ _ h => (by simp at h), om.out _ _ _⟩
          ·intro aa W C
           have e0 : aa 0 = .pointer (some ⟨n2, 0, none⟩) := C.1 0 _ (by rw [E]; rfl) rfl
           have e1 : aa 1 = .slice (some ⟨gk, 0, none⟩) o.length dk := C.1 1 _ (by rw [E]; rfl) rfl
           have e2 : aa 2 = .pointer (some ⟨fb, 0, none⟩) := C.1 2 _ (by rw [E]; rfl) rfl
           have e3 : aa 3 = .pointer (some ⟨n2, 0, none⟩) := C.1 3 _ (by rw [E]; rfl) rfl
           have e4 : aa 4 = .slice (some ⟨gk, 0, none⟩) o.length dk := C.1 4 _ (by rw [E]; rfl) rfl
           have e5 : aa 5 = .int .i64 (o.length : Int) := C.1 5 _ (by rw [E]; rfl) rfl
           have hX := C.2
           simp only [runFrom, Act.put, Nat.zero_add, Nat.reduceAdd, List.setIfInBounds_toArray, List.set_cons_zero, List.set_cons_succ, e0, e1, e2, e3, e4, e5]
           clear C E e0 e1 e2 e3 e4 e5
           obtain ⟨K9, bi, bo, bq, gx⟩ := hX.done rfl
           have HY : Hid (G9 W /\ FeedAt W fb ky /\ K9.size = 32 /\ Bytes K9 /\ KeyFew K9 /\ W.rangeAt kb 0 (K9.toList.map encB)) := ⟨hX.all, hX.feed, bi, bo, bq, gx⟩
           clear hX bi bo bq gx
           (try go_wp2)
           go_meet
           exact ⟨K9, HY.out.2.2.1, HY.out.2.2.2.1, HY.out.2.2.2.2.1, HY.out.2.2.2.2.2, ia.out W HY.out.1, HY.out.2.1⟩
        case rest => as_aux_lemma =>
         obtain ⟨K, hK, lw, lx, al, ⟨m7, nh⟩, na⟩ := hcut
         obtain ⟨wI, rfl⟩ : ∃ x, x = wc := ⟨_, rfl⟩
         have au : Hid (K.size = 32 /\ Bytes K /\ KeyFew K) := ⟨hK, lw, lx⟩
         have ei : Hid (TwS w R V B bt bp t' L J wI /\ wI.rangeAt kb 0 (K.toList.map encB) /\ kb < wI.heap.size) := ⟨m7, al, nh⟩
         have lk := Hid.hide (lj.out wI na)
         have cj : (Tryz.prog.info? 43).map (·.size) = some (K.toList.map encB).length := by rw [size51]; simp [hK]
         clear hK lw lx al m7 nh na H9 ie lj
         go_wp2_with fail
         refine lk.out.mono ?_
         rintro e wJ ⟨v, ny, nz, rfl, gq⟩
         have gc := ei.out.1.only Y.out.1 HF.out.2.1 gq.1
         have ns := rangeAt_block ei.out.2.1 (gq.1.block kb ei.out.2.2 H8.out.2.2.2.2.2.2.2.1.symm)
         have nf : kb < wJ.heap.size := Nat.lt_of_lt_of_le ei.out.2.2 gq.1.size
         obtain ⟨V1, ge⟩ : ∃ V1 : Nat -> Prop, V1 = fun i => V i \/ i = kb := ⟨_, rfl⟩
         have eq : TwS w wJ V1 B bt bp t' L J wJ := gc.plus nf H8.out.2.1 (by rw [ge]; exact fun i h => h)
         have aj : ∀ i, V i -> V1 i := by rw [ge]; exact fun i h => .inl h
         have H1 : Hid (TwS w wJ V1 B bt bp t' L J wJ /\ TwM w n1 ba aw bc ay l wJ V1 /\ TwM w n2 qk dk qv dv o wJ V1 /\ wJ.rangeAt kb 0 (K.toList.map encB) /\ V1 kb /\ kb ≠ n1) := ⟨eq, HI.out.k.next gc aj, HI.out.ko.next gc aj, ns, by rw [ge]; exact .inr rfl, fun e => H8.out.2.1.1.2.2.2 (e ▸ HI.out.k.u1)⟩
         obtain ⟨Dp, iz⟩ : ∃ D, t'.dig = D := ⟨_, rfl⟩
         have aq := xroot_any eq.q.wood (HT.out _ eq.q.below).1 Y.out.2.2.1 eq.p
         rw [HI.out.pr.dig (t'.cs_ok (can_cs t' 64 (by omega) HI.out.can)), iz] at aq
         have av := Hid.hide aq
         have ej : Hid (t'.dig = Dp /\ Dp.length = 32 /\ ∀ x ∈ Dp, x < 256) := by
          have bm := t'.cs_ok (can_cs t' 64 (by omega) HI.out.can)
          rw [<- iz]
          exact ⟨rfl, t'.dig_length bm, t'.dig_byte bm⟩
         have HV : Hid (0 < v.size /\ v.size <= 100) := ⟨ny, nz⟩
         clear ny nz gq gc ns nf ge eq aj iz aq ei lk
         go_wp2_with fail
         refine av.out.mono ?_
         rintro e wK ⟨rfl, n6⟩
         have jf := H1.out.1.fr Y.out.1 n6
         obtain ⟨tt, dw, ku, o1, b9, r9, s9⟩ := laid_hash wK Dp.toArray (by simpa using ej.out.2.1)
         dsimp only at tt dw ku o1 b9 r9 s9
         go_upto_region 33 with (refine wpList_store_mid rfl 38 _ _ rfl wK.heap.size 0 (Dp.map encB).toArray rfl rfl tt dw o1 ?_; generalize World.setCells _ wK.heap.size 0 _ = wL at b9 r9 s9 ⊢)
         obtain ⟨hb, nd⟩ : ∃ x, wK.heap.size = x := ⟨_, rfl⟩
         rw [nd] at r9 s9 ⊢
         have et := jf.more Y.out.1 b9
         have lv : TwF w V1 bt bp J hb := jf.fresh Y.out.1 (by omega)
         obtain ⟨V2, gg⟩ : ∃ V2 : Nat -> Prop, V2 = fun i => V1 i \/ i = hb := ⟨_, rfl⟩
         have ai : TwS w wL V2 B bt bp t' L J wL := et.plus s9 lv (by rw [gg]; exact fun i h => h)
         have aj : ∀ i, V1 i -> V2 i := by rw [gg]; exact fun i h => .inl h
         have H2 : Hid (TwS w wL V2 B bt bp t' L J wL /\ wL.rangeAt hb 0 (Dp.map encB) /\ V2 hb /\ wL.rangeAt kb 0 (K.toList.map encB) /\ V2 kb /\ kb ≠ n1) := ⟨ai, r9, by rw [gg]; exact .inr rfl, rangeAt_block H1.out.2.2.2.1 (et.q.keep kb H1.out.2.2.2.2.1), aj _ H1.out.2.2.2.2.1, H1.out.2.2.2.2.2⟩
         have O : Hid (CaI w B n1 n2 bt bp qk dk qv dv o l t' L J wL V2 ba aw bc ay wL) := ⟨ai, H1.out.2.1.next et aj, H1.out.2.2.1.next et aj, HI.out.ro, HI.out.pr, HI.out.can, HI.out.get, HI.out.dup, HI.out.few⟩
         clear n6 jf tt dw o1 b9 r9 s9 nd et lv gg ai aj av H1 H8 HF HI
         go_cut [146] (fun x wd => x = .bool gs /\ wd = wL)
         case first => as_aux_lemma =>
          obtain ⟨-, c1⟩ := fp.out wL H2.out.1.q.below
          have i1 : (k : Int) < (ml.length : Int) := by have := bx.out; omega
          go_wp2
          go_meet
          exact ⟨rfl, rfl⟩
         case rest => as_aux_lemma =>
          obtain ⟨rfl, pf⟩ := hcut
          obtain rfl := pf.symm
          apply_assumption
          go_cut [24] (fun x wd => (x = .int .i64 12 /\ TwS w wL V2 B bt bp t' L J wd) \/ (x = .int .i64 0 /\ ∃ J3 a3 t3, TwS w wL V2 B bt bp t' a3 J3 wd /\ Prt a3 t3 /\ t3.can 64 /\ (∀ s, s.length = 64 -> t3.get s = if s = nibs K.toList then mvO gs v else t'.get s) /\ a3.sees (nibs K.toList)))
          case first => as_aux_lemma =>
           have ai := H2.out.1
           have al := H2.out.2.2.2.1
           have fy := (HE.out.1.below ai.q.below).faults
           have fx : ∀ W, Fr B J J wL W -> Faults W sent := fun W H => (HE.out.1.below (ai.fr Y.out.1 H).q.below).faults
           cases gs with
           | true =>
            have ix := part_xdel sent fy fx (ai.q.wood.nothing (Nat.lt_of_lt_of_le (by decide) Y.out.2.2.1)) ai.q.wood ai.p O.out.pr O.out.can au.out.1 au.out.2.1
            generalize (t'.get (nibs K.toList)).isSome = bb at ix
            have oz := Hid.hide ix
            clear ai fy fx ix
            go_wp2_with (refine wpList_load_mid rfl 43 _ rfl kb 0 rfl (K.toList.map encB) _ al bg rfl cj ?_)
            refine oz.out.mono ?_
            rintro e wM (⟨rfl, f7⟩ | ⟨rfl, J3, a3, t3, ci, ch, cf, cg, bn, bk⟩)
            ·have iq := Hid.hide (H2.out.1.fr Y.out.1 f7)
             clear f7 al
             go_wp2
             go_meet
             exact .inl ⟨rfl, iq.out⟩
            ·have ap : Hid (TwS w wL V2 B bt bp t' a3 J3 wM /\ Prt a3 t3 /\ t3.can 64 /\ (∀ s, s.length = 64 -> t3.get s = if s = nibs K.toList then none else t'.get s) /\ a3.sees (nibs K.toList)) := ⟨H2.out.1.turnP Y.out.1 dj.out.1 dj.out.2.1 bk ci, ch, cf, cg, bn⟩
             clear ci ch cf cg bn bk al
             go_wp2
             go_meet
             exact .inr ⟨rfl, J3, a3, t3, ap.out⟩
           | false =>
            have p7 := Hid.hide (part_xput (u := v) sent fy fx ai.q.wood ai.p O.out.pr O.out.can au.out.1 au.out.2.1 HV.out.1 HV.out.2)
            clear ai fy fx
            go_wp2_with (refine wpList_load_mid rfl 43 _ rfl kb 0 rfl (K.toList.map encB) _ al bg rfl cj ?_)
            refine p7.out.mono ?_
            rintro e wM (⟨rfl, f7⟩ | ⟨rfl, J3, a3, t3, ci, ch, cf, cg, bn, bk⟩)
            ·have iq := Hid.hide (H2.out.1.fr Y.out.1 f7)
             clear f7 al
             go_wp2
             go_meet
             exact .inl ⟨rfl, iq.out⟩
            ·have ap : Hid (TwS w wL V2 B bt bp t' a3 J3 wM /\ Prt a3 t3 /\ t3.can 64 /\ (∀ s, s.length = 64 -> t3.get s = if s = nibs K.toList then some v else t'.get s) /\ a3.sees (nibs K.toList)) := ⟨H2.out.1.turnP Y.out.1 dj.out.1 dj.out.2.1 bk ci, ch, cf, cg, bn⟩
             clear ci ch cf cg bn bk al
             go_wp2
             go_meet
             exact .inr ⟨rfl, J3, a3, t3, ap.out⟩
          case rest => as_aux_lemma =>
           obtain ⟨wM, rfl⟩ : ∃ x, x = wc := ⟨_, rfl⟩
           have kq := Tryz.underlying38
           rcases hcut with ⟨rfl, hSa⟩ | ⟨rfl, J3, a3, t3, hS3, ch, cf, cg, bn⟩
           ·have HQ : Hid (∀ w : World, (Op.equalIn 10000 38 (.agg (Dp.map encB).toArray) (.agg (Dp.map encB).toArray)).run Tryz.prog w = .ok true w) := hash_refl Dp ej.out.2.1 ej.out.2.2
            have av : Hid (∀ W, TwS w wL V2 B bt bp t' L J W -> Calls Tryz.prog 8 #[.pointer (some ⟨bp, 0, none⟩)] W fun e w' => e = .returned (.agg (Dp.map encB).toArray) /\ Fr B J J W w') := fun W h => by
             have hR := xroot_any h.q.wood (HT.out _ h.q.below).1 Y.out.2.2.1 h.p
             rw [O.out.pr.dig (t'.cs_ok (can_cs t' 64 (by omega) O.out.can)), ej.out.1] at hR
             exact hR
            go_upto_region 37 with fail
            refine wp_region_any (by kernel_rfl) ?_
            change wpAny _ _ _ _ _ _ _ (World.drew _)
            obtain ⟨f, H⟩ : ∃ f : Nat -> Value, f = fun i => ([.int .i64 12, .bool false, .bool false, .pointer (some ⟨bp, 0, none⟩), .agg (Dp.map encB).toArray, .agg (Dp.map encB).toArray, .bool false, .bool false] : List Value).getD i undef := ⟨_, rfl⟩
            refine wpAny_all_steadyG _ _ f (fun W => TwS w wL V2 B bt bp t' L J W) (by kernel_rfl) (by kernel_rfl) ?_ _ ?_ rfl ?_
            ·intro i o I ah b W z r N
             have hi : i < 8 := (Array.getElem?_eq_some_iff.1 I).1
             match i, hi with
             | 0, _ =>
              obtain rfl := Option.some.inj I
              have X : f 0 = .int .i64 12 := by rw [H]; rfl
              have rx : b.tmps[24]? = some (.int .i64 12) := (z.rest 24 (fun i _ => noDst_of (by kernel_rfl) i)).trans rfl
              rw [X]
              refine ⟨fun _ => ?_, fun ag => absurd ag (by simp [Region.wanted])⟩
              clear I H r z
              refine Oper.wp_mono (K := fun L w' => L = b.put (some 159) (.int .i64 12) /\ w' = W) (by rintro L w' ⟨rfl, rfl⟩; exact ⟨rfl, N⟩) ?_
              clear N
              go_simp
             | 1, _ =>
              obtain rfl := Option.some.inj I
              have X : f 1 = .bool false := by rw [H]; rfl
              have v0 : f 0 = .int .i64 12 := by rw [H]; rfl
              have qm : b.tmps[159]? = some (.int .i64 12) := (z.done 0 159 (r ⟨0, .data⟩ (by simp) rfl) rfl (by simp)).trans (congrArg some v0)
              rw [X]
              refine ⟨fun _ => ?_, fun ag => absurd ag (by simp [Region.wanted])⟩
              clear I H r z
              refine Oper.wp_mono (K := fun L w' => L = b.put (some 160) (.bool false) /\ w' = W) (by rintro L w' ⟨rfl, rfl⟩; exact ⟨rfl, N⟩) ?_
              clear N
              go_simp
             | 2, _ =>
              obtain rfl := Option.some.inj I
              have X : f 2 = .bool false := by rw [H]; rfl
              have v1 : f 1 = .bool false := by rw [H]; rfl
              have qn : b.tmps[160]? = some (.bool false) := (z.done 1 160 (r ⟨1, .data⟩ (by simp) rfl) rfl (by simp)).trans (congrArg some v1)
              rw [X]
              refine ⟨fun _ => ?_, fun ag => absurd ag (by simp [Region.wanted])⟩
              clear I H r z
              refine Oper.wp_mono (K := fun L w' => L = b.put (some 161) (.bool false) /\ w' = W) (by rintro L w' ⟨rfl, rfl⟩; exact ⟨rfl, N⟩) ?_
              clear N
              go_simp
             | 3, _ =>
              obtain rfl := Option.some.inj I
              have X : f 3 = .pointer (some ⟨bp, 0, none⟩) := by rw [H]; rfl
              have oi : b.tmps[12]? = some (.pointer (some ⟨bp, 0, none⟩)) := (z.rest 12 (fun i _ => noDst_of (by kernel_rfl) i)).trans rfl
              rw [X]
              have vg : f 2 = .bool false := by rw [H]; rfl
              have tg : b.tmps[161]? = some (.bool false) := (z.done 2 161 (r ⟨2, .guard⟩ (by simp) rfl) rfl (by simp)).trans (congrArg some vg)
              refine ⟨fun _ => ?_, fun ag => absurd ag (by simp [Region.wanted, yielded, tg])⟩
              clear I H r z tg vg
              refine Oper.wp_mono (K := fun L w' => L = b.put (some 162) (.pointer (some ⟨bp, 0, none⟩)) /\ w' = W) (by rintro L w' ⟨rfl, rfl⟩; exact ⟨rfl, N⟩) ?_
              clear N
              go_simp
             | 4, _ =>
              obtain rfl := Option.some.inj I
              have X : f 4 = .agg (Dp.map encB).toArray := by rw [H]; rfl
              have v3 : f 3 = .pointer (some ⟨bp, 0, none⟩) := by rw [H]; rfl
              have qp : b.tmps[162]? = some (.pointer (some ⟨bp, 0, none⟩)) := (z.done 3 162 (r ⟨3, .data⟩ (by simp) rfl) rfl (by simp)).trans (congrArg some v3)
              rw [X]
              have vg : f 2 = .bool false := by rw [H]; rfl
              have tg : b.tmps[161]? = some (.bool false) := (z.done 2 161 (r ⟨2, .guard⟩ (by simp) rfl) rfl (by simp)).trans (congrArg some vg)
              refine ⟨fun _ => ?_, fun ag => absurd ag (by simp [Region.wanted, yielded, tg])⟩
              clear I H r z tg vg
              have eh := Hid.hide (av.out W N)
              have el := Hid.hide N
              clear N
              go_simp
              go_at_call 8
              refine eh.out.mono ?_
              rintro e w9 ⟨rfl, bj⟩
              exact ⟨rfl, el.out.fr Y.out.1 bj⟩
             | 5, _ =>
              obtain rfl := Option.some.inj I
              have X : f 5 = .agg (Dp.map encB).toArray := by rw [H]; rfl
              have pu : b.tmps[23]? = some (.pointer (some ⟨hb, 0, none⟩)) := (z.rest 23 (fun i _ => noDst_of (by kernel_rfl) i)).trans rfl
              rw [X]
              have vg : f 2 = .bool false := by rw [H]; rfl
              have tg : b.tmps[161]? = some (.bool false) := (z.done 2 161 (r ⟨2, .guard⟩ (by simp) rfl) rfl (by simp)).trans (congrArg some vg)
              refine ⟨fun _ => ?_, fun ag => absurd ag (by simp [Region.wanted, yielded, tg])⟩
              clear I H r z tg vg
              refine wp_load_mid 38 (.tmp 23) rfl hb 0 (by simp only [Act.eval, Array.getD_eq_getD_getElem?, pu, Option.getD_some]) (Dp.map encB) _ (rangeAt_block H2.out.2.1 (N.q.keep hb H2.out.2.2.1)) kq rfl ku ?_
              exact ⟨rfl, N⟩
             | 6, _ =>
              obtain rfl := Option.some.inj I
              have X : f 6 = .bool false := by rw [H]; rfl
              have v4 : f 4 = .agg (Dp.map encB).toArray := by rw [H]; rfl
              have qr : b.tmps[163]? = some (.agg (Dp.map encB).toArray) := (z.done 4 163 (r ⟨4, .data⟩ (by simp) rfl) rfl (by simp)).trans (congrArg some v4)
              have v5 : f 5 = .agg (Dp.map encB).toArray := by rw [H]; rfl
              have qt : b.tmps[164]? = some (.agg (Dp.map encB).toArray) := (z.done 5 164 (r ⟨5, .data⟩ (by simp) rfl) rfl (by simp)).trans (congrArg some v5)
              rw [X]
              have vg : f 2 = .bool false := by rw [H]; rfl
              have tg : b.tmps[161]? = some (.bool false) := (z.done 2 161 (r ⟨2, .guard⟩ (by simp) rfl) rfl (by simp)).trans (congrArg some vg)
              refine ⟨fun _ => ?_, fun ag => absurd ag (by simp [Region.wanted, yielded, tg])⟩
              clear I H r z tg vg
              have jp := HQ.out
              refine Oper.wp_mono (K := fun L w' => L = b.put (some 165) (.bool false) /\ w' = W) (by rintro L w' ⟨rfl, rfl⟩; exact ⟨rfl, N⟩) ?_
              clear N
              go_simp
             | 7, _ =>
              obtain rfl := Option.some.inj I
              have X : f 7 = .bool false := by rw [H]; rfl
              have v2 : f 2 = .bool false := by rw [H]; rfl
              have qo : b.tmps[161]? = some (.bool false) := (z.done 2 161 (r ⟨2, .data⟩ (by simp) rfl) rfl (by simp)).trans (congrArg some v2)
              have v6 : f 6 = .bool false := by rw [H]; rfl
              have qu : b.tmps[165]? = some (.bool false) := (z.done 6 165 (r ⟨6, .data⟩ (by simp) rfl) rfl (by simp)).trans (congrArg some v6)
              rw [X]
              refine ⟨fun _ => ?_, fun ag => absurd ag (by simp [Region.wanted])⟩
              clear I H r z
              refine Oper.wp_mono (K := fun L w' => L = b.put (some 166) (.bool false) /\ w' = W) (by rintro L w' ⟨rfl, rfl⟩; exact ⟨rfl, N⟩) ?_
              clear N
              go_simp
            ·exact hSa.more Y.out.1 (Below.refl _ _).drew
            ·intro W N
             have e0 : f 0 = .int .i64 12 := by rw [H]; rfl
             have e1 : f 1 = .bool false := by rw [H]; rfl
             have e2 : f 2 = .bool false := by rw [H]; rfl
             have e3 : f 3 = .pointer (some ⟨bp, 0, none⟩) := by rw [H]; rfl
             have e4 : f 4 = .agg (Dp.map encB).toArray := by rw [H]; rfl
             have e5 : f 5 = .agg (Dp.map encB).toArray := by rw [H]; rfl
             have e6 : f 6 = .bool false := by rw [H]; rfl
             have e7 : f 7 = .bool false := by rw [H]; rfl
             simp only [runFrom, Act.put, Nat.zero_add, Nat.reduceAdd, List.setIfInBounds_toArray, List.set_cons_zero, List.set_cons_succ, e0, e1, e2, e3, e4, e5, e6, e7]
             clear H e0 e1 e2 e3 e4 e5 e6 e7
             have p9 := Hid.hide N
             clear N hSa
             go_wp2
             go_roundg (ml.length - (k + 1))
             case measure => have := bx.out; omega
             case rel => exact ⟨k + 1, J, l, t', L, wL, V2, ba, aw, bc, ay, by have := bx.out; omega, rfl, val_int (sum_big k (by have := bx.out; have := fq.out.2.1; omega)), p9.out, O.out.k, O.out.ko, O.out.ro, O.out.pr, O.out.can, O.out.get, O.out.dup, O.out.few⟩
           ·clear kq
            obtain ⟨P1, em⟩ : ∃ P : World -> Prop, P = TwS w wL V2 B bt bp t' a3 J3 := ⟨_, rfl⟩
            obtain ⟨F1, j4⟩ : ∃ F : Nat -> Prop, F = TwF w V2 bt bp J3 := ⟨_, rfl⟩
            obtain ⟨P2, dn⟩ : ∃ P : Value -> Value -> Nd -> Wood -> World -> Prop, P = MvP w wL V2 B bt bp a3 gs l K v t' := ⟨_, rfl⟩
            obtain ⟨F2, fw⟩ : ∃ F : Value -> Value -> Nd -> Wood -> Nat -> Prop, F = fun ks vs _ J4 => MvF w V2 bt bp ks vs J4 := ⟨_, rfl⟩
            obtain ⟨Q9, jc⟩ : ∃ Q : World -> Prop, Q = fun W => ∃ tx ax Jx, TwS w wL V2 B bt bp tx ax Jx W := ⟨_, rfl⟩
            have ii : Hid (P2 = MvP w wL V2 B bt bp a3 gs l K v t' /\ F2 = fun ks vs _ J4 => MvF w V2 bt bp ks vs J4) := ⟨dn, fw⟩
            have ap : Hid (Prt a3 t3 /\ t3.can 64 /\ (∀ s, s.length = 64 -> t3.get s = if s = nibs K.toList then mvO gs v else t'.get s) /\ a3.sees (nibs K.toList)) := ⟨ch, cf, cg, bn⟩
            have bf : Hid ((∀ W, P1 W -> Q9 W) /\ ∀ ks vs t4 J4 W, P2 ks vs t4 J4 W -> Q9 W) := by
             rw [em, dn, jc]
             exact ⟨fun W h => ⟨_, _, _, h⟩, fun ks vs t4 J4 W h => ⟨_, _, _, h.s⟩⟩
            have dz : Hid (∀ W, Q9 W -> W.cell? ⟨n1, 0, none⟩ = some (.slice ba l.length aw) /\ W.cell? ⟨n1, 1, none⟩ = some (.slice bc l.length ay) /\ W.rangeAt kb 0 (K.toList.map encB) /\ W.cell? ⟨mg, mo + k * 2 + 1, none⟩ = some (.bool gs)) := by
             rw [jc]
             rintro W ⟨tx, ax, Jx, h⟩
             obtain ⟨q0, q1, -⟩ := box_cells' (O.out.k.at h).1
             exact ⟨q0, q1, rangeAt_block H2.out.2.2.2.1 (h.q.keep kb H2.out.2.2.2.2.1), (fp.out W h.q.below).2⟩
            have l5 : Hid (StKit P1 F1 B J3) := by
             rw [em, j4]
             exact TwS.kit Y.out.1
            have dg : Hid (∀ ks vs t4 J4, StKit (P2 ks vs t4 J4) (F2 ks vs t4 J4) B J4) := by
             rw [dn, fw]
             exact fun ks vs t4 J4 => MvP.kit Y.out.1
            have l7 : Hid (∀ W, P1 W -> Calls Tryz.prog 18 #[.agg #[.slice ba l.length aw, .slice bc l.length ay], .pointer (some ⟨bt, 0, none⟩), .agg (K.toList.map encB).toArray, .bool gs, .string v] W fun e w9 => ∃ ks vs t4 J4, e = .returned (mvV ks vs) /\ P2 ks vs t4 J4 w9 /\ ∀ k, F1 k -> k < W.heap.size -> F2 ks vs t4 J4 k /\ w9.heap[k]? = W.heap[k]?) := by
             rw [em, j4, dn, fw]
             exact fun W h => mv_call gs h Y.out.1 Y.out.2.1 dj.out.2.1 O.out.k O.out.can O.out.get O.out.dup O.out.few au.out.1 au.out.2.1 HV.out.1 HV.out.2
            have ig : Hid (∀ ks vs t4 J4 W, P2 ks vs t4 J4 W -> (#[ks, vs] : Array Value).all (·.oneCell') = true) := by
             rw [dn]
             intro ks vs t4 J4 W h
             obtain ⟨p1, m1, c1, rfl⟩ := h.kn.keys.shape
             obtain ⟨p2, m2, c2, rfl⟩ := h.kn.vals.shape
             simp [Value.oneCell']
            have lc : Hid (P1 wM.drew) := by
             rw [em]
             exact hS3.more Y.out.1 (Below.refl _ _).drew
            clear em j4 dn fw jc hS3 ch cf cg bn
            go_upto_region 39 with fail
            go_cut [25, 26] (fun x y wd => ∃ f9 x9 y9 t4 J4, x = .pointer (some ⟨f9, 0, none⟩) /\ y = .bool true /\ P2 x9 y9 t4 J4 wd /\ F2 x9 y9 t4 J4 f9 /\ wd.heap[f9]? = some (.cells #[x9, y9] 26 (0, 0)))
            case first => as_aux_lemma =>
             have i1 : (k : Int) < (ml.length : Int) := by have := bx.out; omega
             refine wp_region_any (by kernel_rfl) ?_
             change wpAny _ _ _ _ _ _ _ (World.drew _)
             obtain ⟨vf, E⟩ : ∃ vf : Nat -> Option Value, vf = fun i => ([some (.agg #[.slice ba l.length aw, .slice bc l.length ay]), some (.pointer (some ⟨bt, 0, none⟩)), some (.agg (K.toList.map encB).toArray), some (.slice (some ⟨mg, mo, none⟩) ml.length cm), some (.int .i64 (k : Int)), some (.pointer (some ⟨mg, mo + k * 2, none⟩)), some (.pointer (some ⟨mg, mo + k * 2 + 1, none⟩)), some (.bool gs), some (.string v), none, none, none, some (.bool true), none, none, some (.bool true)] : List (Option Value)).getD i none := ⟨_, rfl⟩
             refine wpAny_vary _ (fun d v w' => (∀ i x, vf i = some x -> d i = true -> v i = x) /\ (fun d v w' => MvX P1 F1 P2 F2 (d 9) (d 10) (d 11) (d 13) (d 14) (v 9) (v 10) (v 11) (v 13) w') d v w') (by kernel_rfl) (by kernel_rfl) ?_ _ (fun _ => undef) ?_ ?_
             ·intro i o I ah aa b W z T r C
              have hi : i < 16 := (Array.getElem?_eq_some_iff.1 I).1
              match i, hi with
              | 0, _ =>
               obtain rfl := Option.some.inj I
               have t7 : b.tmps[7]? = some (.pointer (some ⟨n1, 0, none⟩)) := (z.rest 7 (fun i _ => noDst_of (by kernel_rfl) i)).trans rfl
               obtain ⟨q0, q1, -⟩ := dz.out W (C.2.both bf.out.1 bf.out.2)
               refine opPlain C.1 (by rw [E]; rfl) C.2 ?_
               clear I r z C T E
               go_simp
              | 1, _ =>
               obtain rfl := Option.some.inj I
               have t8 : b.tmps[8]? = some (.pointer (some ⟨bt, 0, none⟩)) := (z.rest 8 (fun i _ => noDst_of (by kernel_rfl) i)).trans rfl
               refine opPlain C.1 (by rw [E]; rfl) C.2 ?_
               clear I r z C T E
               go_simp
              | 2, _ =>
               obtain rfl := Option.some.inj I
               have kv : b.tmps[21]? = some (.pointer (some ⟨kb, 0, none⟩)) := (z.rest 21 (fun i _ => noDst_of (by kernel_rfl) i)).trans rfl
               refine wp_load_mid 43 (.tmp 21) rfl kb 0 (by simp only [Act.eval, Array.getD_eq_getD_getElem?, kv, Option.getD_some]) (K.toList.map encB) _ (dz.out W (C.2.both bf.out.1 bf.out.2)).2.2.1 bg rfl cj ?_
               exact ⟨_, rfl, vals_step C.1 (by rw [E]; rfl), C.2⟩
              | 3, _ =>
               obtain rfl := Option.some.inj I
               have t2 : b.tmps[2]? = some (.slice (some ⟨mg, mo, none⟩) ml.length cm) := (z.rest 2 (fun i _ => noDst_of (by kernel_rfl) i)).trans rfl
               refine opPlain C.1 (by rw [E]; rfl) C.2 ?_
               clear I r z C T E
               go_simp
              | 4, _ =>
               obtain rfl := Option.some.inj I
               have rq : b.tmps[19]? = some (.int .i64 (k : Int)) := (z.rest 19 (fun i _ => noDst_of (by kernel_rfl) i)).trans rfl
               refine opPlain C.1 (by rw [E]; rfl) C.2 ?_
               clear I r z C T E
               go_simp
              | 5, _ =>
               obtain rfl := Option.some.inj I
               have qz : b.tmps[171]? = some (.slice (some ⟨mg, mo, none⟩) ml.length cm) := tDone z C.1 (r ⟨3, .data⟩ (by simp) rfl) rfl (by simp) (by rw [E]; rfl)
               have r6 : b.tmps[172]? = some (.int .i64 (k : Int)) := tDone z C.1 (r ⟨4, .data⟩ (by simp) rfl) rfl (by simp) (by rw [E]; rfl)
               refine opPlain C.1 (by rw [E]; rfl) C.2 ?_
               clear I r z C T E
               go_simp
              | 6, _ =>
               obtain rfl := Option.some.inj I
               have r7 : b.tmps[173]? = some (.pointer (some ⟨mg, mo + k * 2, none⟩)) := tDone z C.1 (r ⟨5, .data⟩ (by simp) rfl) rfl (by simp) (by rw [E]; rfl)
               refine opPlain C.1 (by rw [E]; rfl) C.2 ?_
               clear I r z C T E
               go_simp
              | 7, _ =>
               obtain rfl := Option.some.inj I
               have ra : b.tmps[174]? = some (.pointer (some ⟨mg, mo + k * 2 + 1, none⟩)) := tDone z C.1 (r ⟨6, .data⟩ (by simp) rfl) rfl (by simp) (by rw [E]; rfl)
               obtain ⟨-, -, -, q3⟩ := dz.out W (C.2.both bf.out.1 bf.out.2)
               refine opPlain C.1 (by rw [E]; rfl) C.2 ?_
               clear I r z C T E
               go_simp
              | 8, _ =>
               obtain rfl := Option.some.inj I
               have ru : b.tmps[22]? = some (.string v) := (z.rest 22 (fun i _ => noDst_of (by kernel_rfl) i)).trans rfl
               refine opPlain C.1 (by rw [E]; rfl) C.2 ?_
               clear I r z C T E
               go_simp
              | 9, _ =>
               obtain rfl := Option.some.inj I
               have qw : b.tmps[168]? = some (.agg #[.slice ba l.length aw, .slice bc l.length ay]) := tDone z C.1 (r ⟨0, .data⟩ (by simp) rfl) rfl (by simp) (by rw [E]; rfl)
               have qx : b.tmps[169]? = some (.pointer (some ⟨bt, 0, none⟩)) := tDone z C.1 (r ⟨1, .data⟩ (by simp) rfl) rfl (by simp) (by rw [E]; rfl)
               have qy : b.tmps[170]? = some (.agg (K.toList.map encB).toArray) := tDone z C.1 (r ⟨2, .data⟩ (by simp) rfl) rfl (by simp) (by rw [E]; rfl)
               have re : b.tmps[175]? = some (.bool gs) := tDone z C.1 (r ⟨7, .data⟩ (by simp) rfl) rfl (by simp) (by rw [E]; rfl)
               have rf : b.tmps[176]? = some (.string v) := tDone z C.1 (r ⟨8, .data⟩ (by simp) rfl) rfl (by simp) (by rw [E]; rfl)
               refine opHide fun G hG => ?_
               have HG := Hid.hide hG
               have ic := Hid.hide C
               have iu := Hid.hide E
               have l8 := Hid.hide T
               clear hG I r z C T E
               go_simp
               go_at_call 18
               refine (l7.out W (ic.out.2.pre l8.out).1).mono ?_
               rintro e w9 ⟨am, ao, t9, J9, rfl, ki, bl⟩
               exact ⟨_, rfl, (HG.out _ _).2 ⟨vals_free ic.out.1 (by rw [iu.out]; rfl), ic.out.2.moved l8.out ki bl⟩⟩
              | 10, _ =>
               obtain rfl := Option.some.inj I
               have d9 := r ⟨9, .data⟩ (by simp) rfl
               obtain ⟨am, ao, e9, cy⟩ := C.2.s10 d9
               have rh : b.tmps[177]? = some (mvV am ao) := (z.done 9 177 d9 rfl (by simp)).trans (congrArg some e9)
               refine Oper.wp_mono (K := fun L w' => L = b.put (some 167) (mvV am ao) /\ w' = W) (by rintro L w' ⟨rfl, rfl⟩; exact ⟨_, rfl, vals_free C.1 (by rw [E]; rfl), cy⟩) ?_
               clear I r z C T E cy d9 e9
               go_simp
              | 11, _ =>
               obtain rfl := Option.some.inj I
               have cn := r ⟨10, .data⟩ (by simp) rfl
               obtain ⟨am, ao, e9, cy⟩ := C.2.s11 cn
               have ow : b.tmps[167]? = some (.tuple #[.agg #[am, ao], .bool true]) := (z.done 10 167 cn rfl (by simp)).trans (congrArg some e9)
               refine Oper.wp_mono (K := fun L w' => L = b.put (some 178) (.agg #[am, ao]) /\ w' = W) (by rintro L w' ⟨rfl, rfl⟩; exact ⟨_, rfl, vals_free C.1 (by rw [E]; rfl), cy⟩) ?_
               clear I r z C T E cy cn e9
               go_simp
              | 12, _ =>
               obtain rfl := Option.some.inj I
               have cn := r ⟨10, .data⟩ (by simp) rfl
               obtain ⟨am, ao, e9, -⟩ := C.2.s11 cn
               have ow : b.tmps[167]? = some (.tuple #[.agg #[am, ao], .bool true]) := (z.done 10 167 cn rfl (by simp)).trans (congrArg some e9)
               refine opPlain C.1 (by rw [E]; rfl) C.2 ?_
               clear I r z C T E cn e9
               go_simp
              | 13, _ =>
               obtain rfl := Option.some.inj I
               refine Oper.wp_mono (K := fun L w' => L = b.put (some 25) (.pointer (some ⟨W.heap.size, 0, none⟩)) /\ w' = W.alloc (.cells #[.slice none 0 0, .slice none 0 0] 26)) (by rintro L w' ⟨rfl, rfl⟩; exact ⟨_, rfl, vals_free C.1 (by rw [E]; rfl), C.2.alloc l5.out dg.out T⟩) ?_
               clear I r z C T E
               go_simp
              | 14, _ =>
               obtain rfl := Option.some.inj I
               have lq := r ⟨13, .data⟩ (by simp) rfl
               have lp := r ⟨11, .data⟩ (by simp) rfl
               obtain ⟨am, ao, f9, x9, y9, ⟨t9, J9, ki⟩, pd, pe, f3, cy⟩ := C.2.put dg.out lp lq
               have pw : b.tmps[25]? = some (.pointer (some ⟨f9, 0, none⟩)) := (z.done 13 25 lq rfl (by simp)).trans (congrArg some pe)
               have ox : b.tmps[178]? = some (.agg #[am, ao]) := (z.done 11 178 lp rfl (by simp)).trans (congrArg some pd)
               refine wp_store_mid 26 (.tmp 25) (.tmp 178) rfl f9 0 #[am, ao] (by simp only [Act.eval, Array.getD_eq_getD_getElem?, pw, Option.getD_some]) (by simp only [Act.eval, Array.getD_eq_getD_getElem?, ox, Option.getD_some]) (there_cells f3 rfl) (by kernel_rfl) (ig.out _ _ _ _ _ ki) ?_
               exact ⟨undef, rfl, vals_free C.1 (by rw [E]; rfl), cy⟩
              | 15, _ =>
               obtain rfl := Option.some.inj I
               have ri : b.tmps[179]? = some (.bool true) := tDone z C.1 (r ⟨12, .data⟩ (by simp) rfl) rfl (by simp) (by rw [E]; rfl)
               refine opPlain C.1 (by rw [E]; rfl) C.2 ?_
               clear I r z C T E
               go_simp
             ·exact ⟨fun _ _ _ h => (by simp at h), MvX.start lc.out (by simp) (by simp) (by simp) (by simp) (by simp)⟩
             ·intro aa W C
              have e0 : aa 0 = .agg #[.slice ba l.length aw, .slice bc l.length ay] := C.1 0 _ (by rw [E]; rfl) rfl
              have e1 : aa 1 = .pointer (some ⟨bt, 0, none⟩) := C.1 1 _ (by rw [E]; rfl) rfl
              have e2 : aa 2 = .agg (K.toList.map encB).toArray := C.1 2 _ (by rw [E]; rfl) rfl
              have e3 : aa 3 = .slice (some ⟨mg, mo, none⟩) ml.length cm := C.1 3 _ (by rw [E]; rfl) rfl
              have e4 : aa 4 = .int .i64 (k : Int) := C.1 4 _ (by rw [E]; rfl) rfl
              have e5 : aa 5 = .pointer (some ⟨mg, mo + k * 2, none⟩) := C.1 5 _ (by rw [E]; rfl) rfl
              have e6 : aa 6 = .pointer (some ⟨mg, mo + k * 2 + 1, none⟩) := C.1 6 _ (by rw [E]; rfl) rfl
              have e7 : aa 7 = .bool gs := C.1 7 _ (by rw [E]; rfl) rfl
              have e8 : aa 8 = .string v := C.1 8 _ (by rw [E]; rfl) rfl
              have lr : aa 12 = .bool true := C.1 12 _ (by rw [E]; rfl) rfl
              have ls : aa 15 = .bool true := C.1 15 _ (by rw [E]; rfl) rfl
              have hX := C.2
              simp only [runFrom, Act.put, Nat.zero_add, Nat.reduceAdd, List.setIfInBounds_toArray, List.set_cons_zero, List.set_cons_succ, e0, e1, e2, e3, e4, e5, e6, e7, e8, lr, ls]
              clear C E e0 e1 e2 e3 e4 e5 e6 e7 e8 lr ls
              obtain ⟨am, ao, t4, J4, q1, q2, q3, q4, q5⟩ := hX.post rfl
              obtain ⟨f9, x9, y9, f1, f2, f3, f4⟩ := q5 rfl
              obtain ⟨rfl, rfl⟩ := f4 rfl
              have HY : Hid (aa 13 = .pointer (some ⟨f9, 0, none⟩) /\ P2 x9 y9 t4 J4 W /\ F2 x9 y9 t4 J4 f9 /\ W.heap[f9]? = some (.cells #[x9, y9] 26 (0, 0))) := ⟨f1, q4, f2, f3⟩
              clear hX q1 q2 q3 q4 q5 f1 f2 f3 f4
              (try go_wp2)
              go_meet
              exact ⟨f9, x9, y9, t4, J4, HY.out.1, rfl, HY.out.2⟩
            case rest => as_aux_lemma =>
             obtain ⟨f9, x9, y9, t4, J4, rfl, rfl, az, mu, mf⟩ := hcut
             obtain ⟨wN, rfl⟩ : ∃ x, x = wc := ⟨_, rfl⟩
             rw [ii.out.1] at az
             rw [ii.out.2] at mu
             have jt := az.get
             have e4 : t4 = t3 := can_unique 64 64 t4 t3 (Nat.le_refl _) az.can ap.out.2.1 fun s hs _ => by rw [jt s hs, ap.out.2.2.1 s hs]
             subst e4
             have ab := az.kn
             obtain ⟨rk, rm, rc, rfl⟩ := ab.keys.shape
             obtain ⟨rv, rn, rd, rfl⟩ := ab.vals.shape
             obtain ⟨l2, du⟩ : ∃ l2, mvM gs l K v = l2 := ⟨_, rfl⟩
             rw [du] at ab
             obtain ⟨rfl, rfl⟩ := ab.len
             have ce := az.s
             have ec : (l2.map (·.1)).Nodup := by rw [<- du]; exact mv_dup O.out.dup gs K v
             have fj : ∀ x ∈ l2, KeyFew x.1 := by rw [<- du]; exact mv_few O.out.few au.out.2.2 gs v
             have fk : ∀ s, s.length = 64 -> t4.get s = getN l2 s := fun s hs => by rw [jt s hs, <- du, mv_get, O.out.get s hs]
             have jy : l2.length <= 2199023255552 := by
              have := few_len ec fun x hx => ⟨(ab.ok x hx).1, (ab.ok x hx).2.1, fj x hx⟩
              omega
             have fc : ∀ i, V2 i -> i < wL.heap.size /\ i < wN.heap.size /\ J4 i = none /\ i ≠ bt /\ i ≠ bp := fun i hx => by
              have := ce.uj i hx
              exact ⟨this.1, Nat.lt_of_lt_of_le this.1 ce.q.size, this.2⟩
             obtain ⟨V3, cw⟩ : ∃ V3 : Nat -> Prop, V3 = fun i => i = kb \/ i = n2 \/ ((Value.slice qk o.length dk).ownBlock = some i \/ (Value.slice qv o.length dv).ownBlock = some i) \/ ((Value.slice rk l2.length rc).ownBlock = some i \/ (Value.slice rv l2.length rd).ownBlock = some i) := ⟨_, rfl⟩
             have ly : TwS w wN V3 B bt bp t4 a3 J4 wN := ce.next fun i hx => by
              rw [cw] at hx
              rcases hx with rfl | rfl | hx | hx
              ·exact (fc _ H2.out.2.2.2.2.1).2
              ·exact (fc _ O.out.ko.u1).2
              ·exact (fc _ (O.out.ko.ur i hx)).2
              ·exact ⟨(ab.lo hx).2, az.row i hx⟩
             have de := fc n1 O.out.k.u1
             have j7 : TwF w V3 bt bp J4 n1 := by
              refine ⟨⟨Y.out.2.2.2.1, de.2.2.1, de.2.2.2.1, fun hx => ?_⟩, de.2.2.2.2⟩
              rw [cw] at hx
              rcases hx with e | e | hx | hx
              ·exact H2.out.2.2.2.2.2 e.symm
              ·exact dj.out.2.2.2.2 e.symm
              ·exact O.out.ro n1 hx rfl
              ·have h1 := (ab.lo hx).1
               omega
             obtain ⟨x0, x1, -⟩ := box_cells' mf
             have kf := (O.out.k.at ce).1
             obtain ⟨d0, d1, g0, g1⟩ := box_cells' kf
             obtain ⟨q1, q2⟩ := box_set2 kf (.slice rk l2.length rc) (.slice rv l2.length rd)
             obtain ⟨wO, od⟩ : ∃ x, (wN.setCell ⟨n1, 0, none⟩ (.slice rk l2.length rc)).setCell ⟨n1, 1, none⟩ (.slice rv l2.length rd) = x := ⟨_, rfl⟩
             rw [od] at q1 q2
             have dp := ly.only Y.out.1 j7 q2
             obtain ⟨V4, gi⟩ : ∃ V4 : Nat -> Prop, V4 = fun i => V3 i \/ i = n1 := ⟨_, rfl⟩
             have es : TwS w wO V4 B bt bp t4 a3 J4 wO := dp.plus (Array.getElem?_eq_some_iff.1 q1).1 j7 (by rw [gi]; exact fun i h => h)
             have aj : ∀ i, V3 i -> V4 i := by rw [gi]; exact fun i h => .inl h
             have fd : w.heap.size <= wL.heap.size := H2.out.1.q.below.size
             have kt : ∀ i, ((Value.slice rk l2.length rc).ownBlock = some i \/ (Value.slice rv l2.length rd).ownBlock = some i) -> V3 i := by rw [cw]; exact fun i hx => .inr (.inr (.inr hx))
             have kr : ∀ i, ((Value.slice qk o.length dk).ownBlock = some i \/ (Value.slice qv o.length dv).ownBlock = some i) -> V3 i := by rw [cw]; exact fun i hx => .inr (.inr (.inl hx))
             have kp : V3 n2 := by rw [cw]; exact .inr (.inl rfl)
             have nx : V3 kb := by rw [cw]; exact .inl rfl
             have dq : TwM w n1 rk rc rv rd l2 wO V4 := ⟨q1, dp.q.kn (ab.mono fd) kt, by rw [gi]; exact .inr rfl, fun i hx => aj i (kt i hx)⟩
             have dr : TwM w n2 qk dk qv dv o wO V4 := ⟨(dp.q.keep n2 kp).trans (O.out.ko.at ce).1, dp.q.kn (O.out.ko.at ce).2 kr, aj _ kp, fun i hx => aj i (kr i hx)⟩
             have al : wO.rangeAt kb 0 (K.toList.map encB) := rangeAt_block (rangeAt_block H2.out.2.2.2.1 (ce.q.keep kb H2.out.2.2.2.2.1)) (dp.q.keep kb nx)
             obtain ⟨y0, y1, -⟩ := box_cells' q1
             have bh : Hid (CaI w B n1 n2 bt bp qk dk qv dv o l2 t4 a3 J4 wO V4 rk rc rv rd wO) := ⟨es, dq, dr, O.out.ro, ap.out.1, az.can, fk, ec, fj⟩
             have dh := Hid.hide (psays_any sent ((HE.out.1.below es.q.below).faults) es.q.wood es.p ap.out.1 az.can ap.out.2.2.2 (fk _ (key_len au.out.1)) dq.kn jy (pth_dup ec) au.out.1 au.out.2.1)
             obtain ⟨D4, lu⟩ : ∃ D, t4.dig = D := ⟨_, rfl⟩
             have ef := t4.cs_ok (can_cs t4 64 (by omega) az.can)
             have fm : Hid (t4.dig = D4 /\ a3.dig = D4 /\ D4.length = 32 /\ ∀ x ∈ D4, x < 256) := by
              rw [<- lu]
              exact ⟨rfl, ap.out.1.dig ef, t4.dig_length ef, t4.dig_byte ef⟩
             clear az mu mf jt ab du ce ec fj fk jy fc cw ly de j7 kf q1 q2 dp gi es aj fd kt kr kp nx dq dr lu ef ii bf dz l5 dg l7 ig lc ap H2 O ej fp
             go_wp2_with (refine wpList_load_mid rfl 43 _ rfl kb 0 rfl (K.toList.map encB) _ al bg rfl cj ?_)
             clear od
             refine dh.out.mono ?_
             rintro e wP ⟨rfl, me⟩
             have eu := bh.out.s.more Y.out.1 me
             have aq := xroot_any eu.q.wood (HT.out _ eu.q.below).1 Y.out.2.2.1 eu.p
             rw [fm.out.2.1] at aq
             have av := Hid.hide aq
             have lg := Hid.hide eu
             clear me eu aq al x0 x1 y0 y1 d0 d1 g0 g1 dh
             go_wp2_with fail
             refine av.out.mono ?_
             rintro e wQ ⟨rfl, n7⟩
             have ev := lg.out.fr Y.out.1 n7
             have ar := xroot_any ev.q.wood (HT.out _ ev.q.below).1 Y.out.2.2.1 ev.q.tree
             rw [fm.out.1] at ar
             have bz := Hid.hide ar
             have lh := Hid.hide ev
             clear n7 ev ar av lg
             go_wp2_with fail
             refine bz.out.mono ?_
             rintro e wS ⟨rfl, n8⟩
             have pc := Hid.hide (lh.out.fr Y.out.1 n8)
             have jp := hash_refl D4 fm.out.2.2.1 fm.out.2.2.2
             clear n8 bz lh
             go_wp2
             go_roundg (ml.length - (k + 1))
             case measure => have := bx.out; omega
             case rel => exact ⟨k + 1, J4, l2, t4, a3, wO, V4, rk, rc, rv, rd, by have := bx.out; omega, rfl, val_int (sum_big k (by have := bx.out; have := fq.out.2.1; omega)), pc.out, bh.out.k, bh.out.ko, bh.out.ro, bh.out.pr, bh.out.can, bh.out.get, bh.out.dup, bh.out.few⟩
      ·obtain rfl : k = ml.length := by omega
       have oj : Hid (Below w.heap.size w wr) := C.s.q.below
       clear C hk Z ib
       go_wp2
       go_ret
       exact ⟨rfl, oj.out⟩
end Go.Proofs.YtcglpladmeelaaaGreatDoor
