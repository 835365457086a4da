/-
  Spoilt: the walk.
-/
import Derived.Test.YtakidhihbgfjlaaGreatDoorSxSpG
namespace Go.Proofs.YtakidhihbgfjlaaGreatDoor
open Go.RowKit
set_option maxRecDepth 100000
set_option maxHeartbeats 25600000
theorem Only.of_grown {w w' : World} {o : Option Nat} {f : Nat} (g : w.grownBy w' o) (hf : o = some f \/ o = none) : Only f w w' := by
 refine ⟨g.os, g.tape, g.output, g.size, fun k b a => g.block k b fun e => ?_⟩
 rcases hf with h | h
 ·rw [h] at e
  exact a (Option.some.inj e)
 ·rw [h] at e
  cases e
theorem Qqp {w : World} {C : Nat} {ks vs : Value} {m : Mp} (h : Kn w C ks vs m) : OwnC w C 32 ks m.length (kRow (m.map (·.1))) := by
 have e : (m.flatMap fun x => x.1.toList.map encB) = kRow (m.map (·.1)) := by unfold kRow; rw [List.flatMap_map]
 have := h.keys
 rw [e] at this
 exact this
structure Sp12 (P : World -> Prop) (z : Nat) (b11 : Bool) (v11 : Value) (W : World) : Prop where
 all : P W
 row : b11 = true -> ∃ gg, v11 = .slice (some ⟨gg, 0, none⟩) 1 1 /\ W.rangeAt gg 0 ([z].map encB)
theorem Sp12.lay {P : World -> Prop} {z : Nat} {b11 : Bool} {v11 : Value} {W : World} (h : Sp12 P z b11 v11 W) (hP : ∀ W W', P W -> Below W.heap.size W W' -> P W') : Sp12 P z true (.slice (some ⟨W.heap.size, 0, none⟩) 1 1) (W.alloc (.cells #[.int .u8 (z : Int)] 5)) :=
 ⟨hP _ _ h.all ((Below.refl _ _).alloc (Nat.le_refl _) _), fun _ => ⟨_, rfl, fun j u hu => by rw [Nat.zero_add, World.cell?_alloc_new]; simpa using hu⟩⟩
theorem Qpa (t : Nd) (all : Bool) (ps : List ByteArray) : 0 < (t.witness all ps).length := by
 cases t with
 | no => simp [Nd.witness]
 | leaf p v => simp only [Nd.witness, Nd.shw, Nd.pick, Nd.wit]; split <;> simp
 | ext p t => simp only [Nd.witness, Nd.shw, Nd.pick, Nd.wit]; split <;> (simp; try omega)
 | br ks => simp only [Nd.witness, Nd.shw, Nd.pick, Nd.wit]; split <;> simp
 | stub g => simp only [Nd.witness, Nd.shw, Nd.pick, Nd.wit]; split <;> simp
attribute [-go_sem] Instr.build Instr.fill
attribute [local go_sem ↓] Qjc in
theorem Qpb (raw shown : ByteArray) (at_ by_ : Int) (any : ByteArray) (w : World) (sent : Nat -> Addr) (hE : Env w.heap.size sent w) (hB : Bru w) (hTy : typeAt w) (hTl : 12 < w.heap.size) (hr : raw.size <= 9223372036854775807) (hsh : shown.size <= 9223372036854775807) (hany : any.size <= 1048576) (hat : -9223372036854775808 <= at_ /\ at_ <= 9223372036854775807) (hby : -9223372036854775808 <= by_ /\ by_ <= 9223372036854775807) :
  Calls Tryz.prog 3 #[.string raw, .string shown, .int .i64 at_, .int .i64 by_, .string any] w fun e w' => e = .returned (.bool true) /\ Below w.heap.size w w' := by
 have ji := Hq (Qmj raw w hr)
 have bf := Hq (fun W => Qmj shown W hsh)
 have HE : Hid (Env w.heap.size sent w /\ typeAt w /\ 12 < w.heap.size /\ Bru w) := ⟨hE, hTy, hTl, hB⟩
 have b7 : Hid (any.size <= 1048576 /\ (-9223372036854775808 <= at_ /\ at_ <= 9223372036854775807) /\ (-9223372036854775808 <= by_ /\ by_ <= 9223372036854775807)) := ⟨hany, hat, hby⟩
 have HT : Hid (∀ W, Below w.heap.size w W -> Tabs W /\ 15 <= W.heap.size) := fun W hW => ⟨(HE.out.1.below hW).tabs, Nat.le_trans HE.out.1.low hW.size⟩
 have ls := Tryz.underlying42
 clear hE hTy hTl hr hB hsh hany hat hby
 go_enter Tryz.func3, Tryz.ntmps3
 go_wp2_with fail
 refine ji.out.mono ?_
 rintro e w1 ⟨ig, ks, vs, m, rfl, bj, io, kz⟩
 obtain ⟨pk, mk, ck, rfl⟩ := bj.keys.shape
 obtain ⟨pv, mv, cv, rfl⟩ := bj.vals.shape
 obtain ⟨rfl, rfl⟩ := bj.len
 obtain ⟨f9, -, -, fp⟩ := Qqk w1 (.slice pk m.length ck) (.slice pv m.length cv)
 have ac : (World.alloc w1 (.cells #[.slice pk m.length ck, .slice pv m.length cv] 25)).heap[w1.heap.size]? = some (.cells #[.slice pk m.length ck, .slice pv m.length cv] 25 (0, 0)) := Array.getElem?_push_size
 obtain ⟨w2, j9⟩ : ∃ x, World.alloc w1 (.cells #[.slice pk m.length ck, .slice pv m.length cv] 25) = x := ⟨_, rfl⟩
 rw [j9] at f9 fp ac
 obtain ⟨n1, l6⟩ : ∃ n, w1.heap.size = n := ⟨_, rfl⟩
 rw [l6] at ac fp
 obtain ⟨z0, z1, -⟩ := Qa7 ac
 have ik : Below w.heap.size w w2 := ig.behind' f9
 have ix : Kn w2 w.heap.size (.slice pk m.length ck) (.slice pv m.length cv) m := bj.below f9
 have H2 : Hid (Below w.heap.size w w2 /\ w2.heap[n1]? = some (.cells #[.slice pk m.length ck, .slice pv m.length cv] 25 (0, 0)) /\ Kn w2 w.heap.size (.slice pk m.length ck) (.slice pv m.length cv) m /\ w2.heap.size = n1 + 1 /\ w.heap.size <= n1) := ⟨ik, ac, ix, fp, by have := ig.size; omega⟩
 have bc : Hid ((m.map (·.1)).Nodup /\ m.length <= 12 /\ True) := ⟨io, kz, trivial⟩
 have jq := Hq (Quw ix (Nat.le_refl _) (Below.refl _ _) (Qbk w2) (by omega) (Quv io) false)
 clear ig bj io kz f9 fp ac ik ix ji
 go_wp2_with fail
 clear j9 l6
 refine jq.out.mono ?_
 rintro e w3 ⟨bt, kq, rfl, S1, lg, ir⟩
 obtain ⟨t, lh, il, iw⟩ := lg.ex
 have kj : Below w2.heap.size w2 w3 := ir.below (Qbk w2) fun _ h => h.elim
 have H3 : Hid (w2.heap.size <= bt /\ TreeAt S1 w3 bt t /\ Forest w2.heap.size S1 w3 /\ Below w2.heap.size w2 w3) := ⟨kq, lh, ir.forest, kj⟩
 have HM : Hid (t.can 64 /\ ∀ s, s.length = 64 -> t.get s = getN m s) := ⟨il, iw⟩
 clear kq lg lh il iw ir kj jq z0 z1
 go_wp2_with fail
 refine (bf.out w3).mono ?_
 rintro e w4 ⟨df, ks, vs, o, rfl, bl, kr, l4⟩
 obtain ⟨qk, nk, dk, rfl⟩ := bl.keys.shape
 obtain ⟨qv, nv, dv, rfl⟩ := bl.vals.shape
 obtain ⟨rfl, rfl⟩ := bl.len
 obtain ⟨fa, -, -, j8⟩ := Qqk w4 (.slice qk o.length dk) (.slice qv o.length dv)
 have ac : (World.alloc w4 (.cells #[.slice qk o.length dk, .slice qv o.length dv] 25)).heap[w4.heap.size]? = some (.cells #[.slice qk o.length dk, .slice qv o.length dv] 25 (0, 0)) := Array.getElem?_push_size
 obtain ⟨w5, lj⟩ : ∃ x, World.alloc w4 (.cells #[.slice qk o.length dk, .slice qv o.length dv] 25) = x := ⟨_, rfl⟩
 rw [lj] at fa j8 ac
 obtain ⟨n2, l7⟩ : ∃ n, w4.heap.size = n := ⟨_, rfl⟩
 rw [l7] at ac j8
 obtain ⟨y0, y1, -⟩ := Qa7 ac
 obtain ⟨B, ge⟩ : ∃ B, w2.heap.size = B := ⟨_, rfl⟩
 have h2 := H2.out
 have h3 := H3.out
 rw [ge] at h2 h3
 have dp : Below w3.heap.size w3 w5 := df.behind' fa
 have bi : Fr B S1 S1 w3 w5 := Fr.of_below h3.2.2.1 dp
 have bx : Below B w2 w5 := h3.2.2.2.trans (dp.mono (by have := h3.2.2.1.le; omega))
 have dq : Below w.heap.size w w5 := h2.1.trans (bx.mono (by have := h2.1.size; omega))
 have hX : w.heap.size <= B /\ B <= bt /\ 15 <= B /\ w.heap.size <= n1 /\ n1 < B /\ B <= n2 /\ bt < n2 := ⟨by have := h2.1.size; omega, h3.1, Nat.le_trans HE.out.1.low (by have := h2.1.size; omega), h2.2.2.2.2, by omega, by have := h3.2.2.1.le; have := df.size; omega, by have := h3.2.1.lt; have := df.size; omega⟩
 obtain ⟨U, hU⟩ : ∃ U : Nat -> Prop, U = fun k => (w.heap.size <= k /\ k < B) \/ (w3.heap.size <= k /\ k < w5.heap.size) := ⟨_, rfl⟩
 have hQ : GenQ w w5 U B S1 bt t w5 := ⟨dq, Nat.le_refl _, fun _ _ => rfl, bi.forest, h3.2.1.frame bi⟩
 have kg : TwM w n1 pk ck pv cv m w5 U := by
  have nl : Kn w5 w.heap.size (.slice pk m.length ck) (.slice pv m.length cv) m := h2.2.2.1.below (ge ▸ bx)
  refine ⟨(bx.block n1 hX.2.2.2.2.1).trans h2.2.1, nl, by rw [hU]; exact .inl ⟨hX.2.2.2.1, hX.2.2.2.2.1⟩, fun k Z => ?_⟩
  rw [hU]
  have := h2.2.2.1.lo Z
  exact .inl ⟨this.1, by omega⟩
 have i8 : TwM w n2 qk dk qv dv o w5 U := by
  have sn := dq.size
  have nf : w.heap.size <= w3.heap.size := by have := h3.2.2.1.le; omega
  have sd := df.size
  refine ⟨ac, (bl.below fa).mono nf, by rw [hU]; exact .inr ⟨by omega, by omega⟩, fun k Z => ?_⟩
  rw [hU]
  have := bl.lo Z
  exact .inr ⟨this.1, by omega⟩
 have ki : ∀ k, U k -> k < w5.heap.size /\ S1 k = none /\ k ≠ bt := fun k Z => by
  rw [hU] at Z
  have bv := h3.2.1.lt
  rcases Z with Z | Z
  ·exact ⟨Nat.lt_of_lt_of_le Z.2 bi.forest.le, bi.forest.nothing Z.2, by omega⟩
  ·exact ⟨Z.2, h3.2.2.1.fresh Z.1, by omega⟩
 have T := Hq hX
 have eb := Hq kg
 have ga := Hq i8
 have HQ := Hq hQ
 have ec := Hq ki
 have ln : Hid (∀ i, ((Value.slice qk o.length dk).ownBlock = some i \/ (Value.slice qv o.length dv).ownBlock = some i) -> B <= i) := fun i hx => by
  have h1 := (bl.lo hx).1
  have h2 := h3.2.2.1.le
  omega
 have mz : Hid (∀ i, ((Value.slice pk m.length ck).ownBlock = some i \/ (Value.slice pv m.length cv).ownBlock = some i) -> i < B) := fun i hx => by
  have h1 := (h2.2.2.1.lo hx).2
  omega
 have mi : Hid ((o.map (·.1)).Nodup /\ o.length <= 12 /\ True) := ⟨kr, l4, trivial⟩
 obtain ⟨ps, fm⟩ : ∃ ps, (o.map (·.1)).map keyP = ps := ⟨_, rfl⟩
 obtain ⟨a, ha⟩ : ∃ a, t.prs false ps = a := ⟨_, rfl⟩
 obtain ⟨Wt, ic⟩ : ∃ s, textB (t.witness false ps) = s := ⟨_, rfl⟩
 obtain ⟨Dt, eh⟩ : ∃ D, t.dig = D := ⟨_, rfl⟩
 have lk : (t.witness false ps).length <= 8000 := by
  have h1 := Qii (Qfm t 64 (by omega) HM.out.1) false ps
  have h2 := Qnq HM.out.1 HM.out.2
  have := bc.out.2.1
  omega
 have ib := Qgq (w := w5) hQ.wood (HT.out _ hQ.below).1 hX.2.2.1 hQ.tree i8.kn.keyRow (by rw [List.length_map]; omega) (by rw [fm]; omega)
 rw [fm, ic, List.length_map] at ib
 have jr := Hq ib
 have j6 := t.cs_ok (Qfm t 64 (by omega) HM.out.1)
 have HA : Hid ((o.map (·.1)).map keyP = ps /\ t.prs false ps = a /\ textB (t.witness false ps) = Wt /\ t.dig = Dt /\ (t.witness false ps).length <= 8000 /\ Dt.length = 32 /\ ∀ x ∈ Dt, x < 256) := ⟨fm, ha, ic, eh, lk, by rw [<- eh]; exact t.dig_length j6, by rw [<- eh]; exact t.dig_byte j6⟩
 clear df bl kr l4 fa j8 ac h2 h3 dp bi bx dq hU hX hQ kg i8 ki ge fm ha ic eh lk ib j6 H2 H3 bf
 go_wp2_with fail
 clear lj l7 y0 y1
 refine jr.out.mono ?_
 rintro e w6 ⟨rfl, kt⟩
 have dt : StKit (GenQ w w5 U B S1 bt t) (GenF w U S1 bt) B S1 := GenQ.kit T.out.1 fun k Z => ⟨(ec.out k Z).1, (ec.out k Z).2.1⟩
 have cz := dt.fr _ _ HQ.out kt
 have gw := Qf7 cz.wood (HT.out _ cz.below).1 T.out.2.2.1 cz.tree
 rw [HA.out.2.2.2.1] at gw
 have bn := Hq gw
 have jm := Hq cz
 have fs := Hq dt
 clear kt dt cz gw jr
 go_wp2_with fail
 refine bn.out.mono ?_
 rintro e w7 ⟨rfl, ku⟩
 have az := fs.out.fr _ _ jm.out ku
 have gr := Qvm (B := B) (S := S1) (ps := ps) sent az.wood HM.out.1 HA.out.2.2.2.2.1 ((HE.out.1.below az.below).faults) (HE.out.2.2.2.below az.below) (HT.out _ az.below).1 (HT.out _ az.below).2 ((az.below.cell (p := ⟨12, 0, none⟩) HE.out.2.2.1).trans HE.out.2.1)
 rw [HA.out.2.1, HA.out.2.2.1, HA.out.2.2.2.1] at gr
 have bm := Hq gr
 have dz := Hq az
 clear ku az gr bn jm
 go_wp2_with fail
 refine bm.out.mono ?_
 rintro e w8 ⟨X, Y, rfl, li, ni, fi, fd⟩
 have l8 : opV X = .tuple #[.pointer (some ⟨X, 0, none⟩), .agg #[.int .i64 0, .int .i64 0, .int .i64 0, .int .i64 0]] := rfl
 rw [l8]
 have ke : TwS w w5 U B bt X t a Y w8 := by
  have h := dz.out
  have hs := h.size
  refine ⟨⟨h.below.behind' fd, Nat.le_trans hs fd.size, fun k Z => (fd.block k (Nat.lt_of_lt_of_le (ec.out k Z).1 hs)).trans (h.keep k Z), fi.forest, h.tree.framex fi (fun h => h)⟩, li, fun k Z => ?_⟩
  obtain ⟨u1, u2, u3⟩ := ec.out k Z
  exact ⟨u1, fi.new k (by omega) u2, u3, by omega⟩
 have nd : Hid (B <= X /\ bt ≠ X /\ n1 ≠ bt /\ n1 ≠ X /\ n2 ≠ n1) := by
  have hx := T.out
  have hl := dz.out.wood.le
  have sk := dz.out.tree.lt
  exact ⟨by omega, by omega, by omega, by omega, by omega⟩
 have jl : Hid (Prt a t) := by rw [<- HA.out.2.1]; exact QA3 HM.out.1 false ps
 have jo := Hq ke
 clear l8 li ni fi fd ke bm dz fs HQ
 go_wp2_with fail
 have aa : Below w8.heap.size w8 (w8.alloc (.cells #[.int .i64 0, .int .i64 0, .int .i64 0, .int .i64 0] 33)) := (Below.refl _ _).alloc (Nat.le_refl _) _
 generalize World.alloc w8 _ = w9 at aa ⊢
 refine (Qvf w9).mono ?_
 rintro e ug ⟨rfl, ii⟩
 have gx := jo.out.more T.out.1 (aa.behind' ii)
 have lq := Hq gx
 clear aa ii gx jo
 have ez : 0 < Wt.size /\ Wt.size <= 8000 := by
  rw [<- HA.out.2.2.1, Qaa]
  exact ⟨Qpa _ _ _, HA.out.2.2.2.2.1⟩
 obtain ⟨kk, dh, la⟩ := Qlw at_ Wt.size b7.out.2.1.1 (by have := b7.out.2.1.2; omega) ez.1
 have mu := Hq la
 have HW : Hid (0 < Wt.size /\ Wt.size <= 8000 /\ kk < Wt.size) := ⟨ez.1, ez.2, dh⟩
 clear ez la dh
 go_wp2_with fail
 refine (mu.out _).mono ?_
 rintro e w2 ⟨rfl, rfl⟩
 go_upto_region 12 with fail
 go_cut [20] (fun x wd => ∃ z : ByteArray, x = .string z /\ z.size <= 8000 /\ TwS w w5 U B bt X t a Y wd)
 case first => as_aux_lemma =>
  have dh := HW.out.2.2
  have ie := HW.out.2.1
  obtain ⟨z4, je⟩ : ∃ z, Wt.extract 0 kk = z := ⟨_, rfl⟩
  obtain ⟨z7, od⟩ : ∃ z, (Wt[kk]'dh).toNat = z := ⟨_, rfl⟩
  obtain ⟨z20, lv⟩ : ∃ z, Wt.extract (kk + 1) Wt.size = z := ⟨_, rfl⟩
  obtain ⟨r, hr, lc⟩ := Qlw by_ 255 b7.out.2.2.1 (by have := b7.out.2.2.2; omega) (by omega)
  have jl := Hq lc
  obtain ⟨sq, j9⟩ := Qz3 r hr
  obtain ⟨au, ne, lu⟩ := xor8 z7 (1 + r) (by rw [<- od]; exact UInt8.toNat_lt _) (by omega)
  rw [show ((1 + r : Nat) : Int) = 1 + (r : Int) by simp] at lu
  obtain ⟨z15, jc⟩ : ∃ z, textB [au] = z := ⟨_, rfl⟩
  have s4 : z4.size = kk := by rw [<- je]; simp; omega
  have og : z15.size = 1 := by rw [<- jc, Qaa]; rfl
  have oh : z20.size = Wt.size - (kk + 1) := by rw [<- lv]; simp
  have hA : ¬ 9223372036854775807 < z4.size + z15.size := by omega
  have ng : ¬ 9223372036854775807 < z4.size + z15.size + z20.size := by omega
  have ow := Qo7 kk (by omega)
  have oo : (0 : Int) <= (kk : Int) + 1 := by omega
  have oq : (kk : Int) + 1 <= (Wt.size : Int) := by omega
  have bj : kk <= Wt.size := by omega
  have jp : Hid ((z4 ++ z15 ++ z20).size <= 8000) := by
   show (z4 ++ z15 ++ z20).size <= 8000
   rw [ByteArray.size_append, ByteArray.size_append]
   omega
  clear lc s4 og oh ne hr ie
  refine wp_region_any (by kernel_rfl) ?_
  change wpAny _ _ _ _ _ _ _ (World.drew _)
  obtain ⟨vf, y⟩ : ∃ vf : Nat -> Option Value, vf = fun i => ([some (.string Wt), some (.int .i64 (kk : Int)), some (.string z4), some (.string Wt), some (.int .i64 (kk : Int)), some (.int .u8 (z7 : Int)), some (.int .i64 by_), some (.int .i64 (r : Int)), some (.int .i64 (1 + (r : Int))), some (.int .u8 (1 + (r : Int))), some (.int .u8 (au : Int)), none, some (.string z15), some (.string (z4 ++ z15)), some (.string Wt), some (.int .i64 (kk : Int)), some (.int .i64 ((kk : Int) + 1)), some (.string z20), some (.string (z4 ++ z15 ++ z20)), some (.string (z4 ++ z15 ++ z20))] : List (Option Value)).getD i none := ⟨_, rfl⟩
  refine Qam _ (fun d v w' => (∀ i x, vf i = some x -> d i = true -> v i = x) /\ (fun d v w' => Sp12 (TwS w w5 U B bt X t a Y) au (d 11) (v 11) w') d v w') (by kernel_rfl) (by kernel_rfl) ?_ _ (fun _ => undef) ?_ ?_
  ·intro i o H aq L b W u O c C
   have hi : i < 20 := (Array.getElem?_eq_some_iff.1 H).1
   match i, hi with
   | 0, _ =>
    obtain rfl := Option.some.inj H
    exact Qay (.string Wt) 15 rfl (u.rs 15 (by kernel_rfl)) ⟨_, rfl, Qa0 C.1 (ve y rfl), C.2⟩
   | 1, _ =>
    obtain rfl := Option.some.inj H
    exact Qay (.int .i64 (kk : Int)) 19 rfl (u.rs 19 (by kernel_rfl)) ⟨_, rfl, Qa0 C.1 (ve y rfl), C.2⟩
   | 2, _ =>
    obtain rfl := Option.some.inj H
    have ss := u.vt 0 62 (.string Wt) (c ⟨0, .data⟩ (by simp) rfl) rfl (by simp) (ve y rfl) C.1
    have su := u.vt 1 63 (.int .i64 (kk : Int)) (c ⟨1, .data⟩ (by simp) rfl) rfl (by simp) (ve y rfl) C.1
    refine Qa1 (.string z4) ⟨_, rfl, Qa0 C.1 (ve y rfl), C.2⟩ ?_
    clear H c u C O y
    go_simp
   | 3, _ =>
    obtain rfl := Option.some.inj H
    exact Qay (.string Wt) 15 rfl (u.rs 15 (by kernel_rfl)) ⟨_, rfl, Qa0 C.1 (ve y rfl), C.2⟩
   | 4, _ =>
    obtain rfl := Option.some.inj H
    exact Qay (.int .i64 (kk : Int)) 19 rfl (u.rs 19 (by kernel_rfl)) ⟨_, rfl, Qa0 C.1 (ve y rfl), C.2⟩
   | 5, _ =>
    obtain rfl := Option.some.inj H
    have sw := u.vt 3 65 (.string Wt) (c ⟨3, .data⟩ (by simp) rfl) rfl (by simp) (ve y rfl) C.1
    have sx := u.vt 4 66 (.int .i64 (kk : Int)) (c ⟨4, .data⟩ (by simp) rfl) rfl (by simp) (ve y rfl) C.1
    refine Qa1 (.int .u8 (z7 : Int)) ⟨_, rfl, Qa0 C.1 (ve y rfl), C.2⟩ ?_
    clear H c u C O y
    go_simp
   | 6, _ =>
    obtain rfl := Option.some.inj H
    exact Qay (.int .i64 by_) 3 rfl (u.rs 3 (by kernel_rfl)) ⟨_, rfl, Qa0 C.1 (ve y rfl), C.2⟩
   | 7, _ =>
    obtain rfl := Option.some.inj H
    have sz := u.vt 6 68 (.int .i64 by_) (c ⟨6, .data⟩ (by simp) rfl) rfl (by simp) (ve y rfl) C.1
    refine Qbl fun G hG => ?_
    have HG := Hq hG
    have V := Hq C
    have ah := Hq y
    clear hG H c u C O y
    go_simp
    go_at_call 10
    refine (jl.out W).mono ?_
    rintro e w9 ⟨rfl, rfl⟩
    exact ⟨_, rfl, (HG.out _ _).2 ⟨Qa0 V.out.1 (by rw [ah.out]; rfl), V.out.2⟩⟩
   | 8, _ =>
    obtain rfl := Option.some.inj H
    have tc := u.vt 7 69 (.int .i64 (r : Int)) (c ⟨7, .data⟩ (by simp) rfl) rfl (by simp) (ve y rfl) C.1
    refine Qa1 (.int .i64 (1 + (r : Int))) ⟨_, rfl, Qa0 C.1 (ve y rfl), C.2⟩ ?_
    clear H c u C O y
    go_simp
   | 9, _ =>
    obtain rfl := Option.some.inj H
    have tf := u.vt 8 70 (.int .i64 (1 + (r : Int))) (c ⟨8, .data⟩ (by simp) rfl) rfl (by simp) (ve y rfl) C.1
    refine Qa1 (.int .u8 (1 + (r : Int))) ⟨_, rfl, Qa0 C.1 (ve y rfl), C.2⟩ ?_
    clear H c u C O y
    go_simp
   | 10, _ =>
    obtain rfl := Option.some.inj H
    have sy := u.vt 5 67 (.int .u8 (z7 : Int)) (c ⟨5, .data⟩ (by simp) rfl) rfl (by simp) (ve y rfl) C.1
    have th := u.vt 9 71 (.int .u8 (1 + (r : Int))) (c ⟨9, .data⟩ (by simp) rfl) rfl (by simp) (ve y rfl) C.1
    refine Qa1 (.int .u8 (au : Int)) ⟨_, rfl, Qa0 C.1 (ve y rfl), C.2⟩ ?_
    clear H c u C O y
    go_simp
   | 11, _ =>
    obtain rfl := Option.some.inj H
    have tj := u.vt 10 72 (.int .u8 (au : Int)) (c ⟨10, .data⟩ (by simp) rfl) rfl (by simp) (ve y rfl) C.1
    have ot : Instr.fill (fun i => some (i, 1)) #[Value.int IntKind.u8 0] [(0, Value.int IntKind.u8 (au : Int))] = some #[.int .u8 (au : Int)] := rfl
    refine Oper.wp_mono (K := fun a' w' => a' = b.put (some 73) (.slice (some ⟨W.heap.size, 0, none⟩) 1 1) /\ w' = W.alloc (.cells #[.int .u8 (au : Int)] 5)) (by rintro a' w' ⟨rfl, rfl⟩; exact ⟨_, rfl, Qa3 C.1 (ve y rfl), C.2.lay (fun W W' h hb => h.more T.out.1 hb)⟩) ?_
    clear H c u C O y
    go_simp
   | 12, _ =>
    obtain rfl := Option.some.inj H
    have gc := c ⟨11, .data⟩ (by simp) rfl
    obtain ⟨gg, g1, g4⟩ := C.2.row gc
    have tk : b.tmps[73]? = some (.slice (some ⟨gg, 0, none⟩) 1 1) := (u.done 11 73 gc rfl (by simp)).trans (congrArg some g1)
    have nj := Qs6 (W := W) (b := gg) (n := 1) (l := [au]) g4 rfl
    rw [jc] at nj
    refine Qa1 (.string z15) ⟨_, rfl, Qa0 C.1 (ve y rfl), C.2⟩ ?_
    clear H c u C O y g1 g4 gc
    go_simp
   | 13, _ =>
    obtain rfl := Option.some.inj H
    have sv := u.vt 2 64 (.string z4) (c ⟨2, .data⟩ (by simp) rfl) rfl (by simp) (ve y rfl) C.1
    have tn := u.vt 12 74 (.string z15) (c ⟨12, .data⟩ (by simp) rfl) rfl (by simp) (ve y rfl) C.1
    refine Qa1 (.string (z4 ++ z15)) ⟨_, rfl, Qa0 C.1 (ve y rfl), C.2⟩ ?_
    clear H c u C O y
    go_simp
   | 14, _ =>
    obtain rfl := Option.some.inj H
    exact Qay (.string Wt) 15 rfl (u.rs 15 (by kernel_rfl)) ⟨_, rfl, Qa0 C.1 (ve y rfl), C.2⟩
   | 15, _ =>
    obtain rfl := Option.some.inj H
    exact Qay (.int .i64 (kk : Int)) 19 rfl (u.rs 19 (by kernel_rfl)) ⟨_, rfl, Qa0 C.1 (ve y rfl), C.2⟩
   | 16, _ =>
    obtain rfl := Option.some.inj H
    have tw := u.vt 15 77 (.int .i64 (kk : Int)) (c ⟨15, .data⟩ (by simp) rfl) rfl (by simp) (ve y rfl) C.1
    refine Qa1 (.int .i64 ((kk : Int) + 1)) ⟨_, rfl, Qa0 C.1 (ve y rfl), C.2⟩ ?_
    clear H c u C O y
    go_simp
   | 17, _ =>
    obtain rfl := Option.some.inj H
    have tr := u.vt 14 76 (.string Wt) (c ⟨14, .data⟩ (by simp) rfl) rfl (by simp) (ve y rfl) C.1
    have tz := u.vt 16 78 (.int .i64 ((kk : Int) + 1)) (c ⟨16, .data⟩ (by simp) rfl) rfl (by simp) (ve y rfl) C.1
    refine Qa1 (.string z20) ⟨_, rfl, Qa0 C.1 (ve y rfl), C.2⟩ ?_
    clear H c u C O y
    go_simp
   | 18, _ =>
    obtain rfl := Option.some.inj H
    have tq := u.vt 13 75 (.string (z4 ++ z15)) (c ⟨13, .data⟩ (by simp) rfl) rfl (by simp) (ve y rfl) C.1
    have ua := u.vt 17 79 (.string z20) (c ⟨17, .data⟩ (by simp) rfl) rfl (by simp) (ve y rfl) C.1
    refine Qa1 (.string (z4 ++ z15 ++ z20)) ⟨_, rfl, Qa0 C.1 (ve y rfl), C.2⟩ ?_
    clear H c u C O y
    go_simp
   | 19, _ =>
    obtain rfl := Option.some.inj H
    exact QD0 (.string (z4 ++ z15 ++ z20)) 80 rfl (u.vt 18 80 (.string (z4 ++ z15 ++ z20)) (c ⟨18, .data⟩ (by simp) rfl) rfl (by simp) (ve y rfl) C.1) ⟨_, rfl, Qa0 C.1 (ve y rfl), C.2⟩
  ·exact ⟨fun _ _ _ h => (by simp at h), ⟨lq.out.more T.out.1 (Below.refl _ _).drew, fun q => (by simp at q)⟩⟩
  ·intro L W C
   have e0 : L 0 = .string Wt := C.1 0 _ (ve y rfl) rfl
   have e1 : L 1 = .int .i64 (kk : Int) := C.1 1 _ (ve y rfl) rfl
   have e2 : L 2 = .string z4 := C.1 2 _ (ve y rfl) rfl
   have e3 : L 3 = .string Wt := C.1 3 _ (ve y rfl) rfl
   have e4 : L 4 = .int .i64 (kk : Int) := C.1 4 _ (ve y rfl) rfl
   have e5 : L 5 = .int .u8 (z7 : Int) := C.1 5 _ (ve y rfl) rfl
   have e6 : L 6 = .int .i64 by_ := C.1 6 _ (ve y rfl) rfl
   have e7 : L 7 = .int .i64 (r : Int) := C.1 7 _ (ve y rfl) rfl
   have e8 : L 8 = .int .i64 (1 + (r : Int)) := C.1 8 _ (ve y rfl) rfl
   have e9 : L 9 = .int .u8 (1 + (r : Int)) := C.1 9 _ (ve y rfl) rfl
   have ai : L 10 = .int .u8 (au : Int) := C.1 10 _ (ve y rfl) rfl
   have aj : L 12 = .string z15 := C.1 12 _ (ve y rfl) rfl
   have ak : L 13 = .string (z4 ++ z15) := C.1 13 _ (ve y rfl) rfl
   have al : L 14 = .string Wt := C.1 14 _ (ve y rfl) rfl
   have am : L 15 = .int .i64 (kk : Int) := C.1 15 _ (ve y rfl) rfl
   have ao : L 16 = .int .i64 ((kk : Int) + 1) := C.1 16 _ (ve y rfl) rfl
   have ap : L 17 = .string z20 := C.1 17 _ (ve y rfl) rfl
   have ax : L 18 = .string (z4 ++ z15 ++ z20) := C.1 18 _ (ve y rfl) rfl
   have ay : L 19 = .string (z4 ++ z15 ++ z20) := C.1 19 _ (ve y rfl) rfl
   have hX := C.2
   simp only [runFrom, Act.put, Nat.zero_add, Nat.reduceAdd, List.setIfInBounds_toArray, List.set_cons_zero, List.set_cons_succ, e0, e1, e2, e3, e4, e5, e6, e7, e8, e9, ai, aj, ak, al, am, ao, ap, ax, ay]
   clear C y e0 e1 e2 e3 e4 e5 e6 e7 e8 e9 ai aj ak al am ao ap ax ay
   have HY : Hid (TwS w w5 U B bt X t a Y W) := hX.all
   clear hX
   (try go_wp2)
   go_meet
   exact ⟨_, rfl, jp.out, HY.out⟩
 case rest => as_aux_lemma =>
  obtain ⟨oth, rfl, l9, I⟩ := hcut
  obtain ⟨wC, rfl⟩ : ∃ x, x = wc := ⟨_, rfl⟩
  obtain ⟨kp, ky⟩ := ga.out.at I
  obtain ⟨ij, iz⟩ := eb.out.at I
  obtain ⟨y0, y1, -⟩ := Qa7 kp
  obtain ⟨z0, z1, -⟩ := Qa7 ij
  obtain ⟨i0, hi, ja, jb, jd⟩ := info_parts keyZ
  obtain ⟨U1, dc⟩ : ∃ U1 : Nat -> Prop, U1 = fun i => U i /\ i < B := ⟨_, rfl⟩
  have bh : TwS w wC U1 B bt X t a Y wC := I.next fun i hx => by
   rw [dc] at hx
   have := I.uj i hx.1
   exact ⟨Nat.lt_of_lt_of_le this.1 I.q.size, this.2⟩
  have gy : TwM w n1 pk ck pv cv m wC U1 := ⟨ij, iz, by rw [dc]; exact ⟨eb.out.u1, T.out.2.2.2.2.1⟩, fun i hx => by rw [dc]; exact ⟨eb.out.ur i hx, mz.out i hx⟩⟩
  have jw : ∀ k, (Value.slice qk o.length dk).ownBlock = some k -> TwF w U1 bt X Y k := fun k Z => by
   have hu := I.uj k (ga.out.ur k (.inl Z))
   have hB := ln.out k (.inl Z)
   exact ⟨⟨by have := T.out.1; omega, hu.2.1, hu.2.2.1, fun hx => by rw [dc] at hx; omega⟩, hu.2.2.2⟩
  have HO : Hid (OwnC wC w.heap.size 32 (.slice qk o.length dk) o.length (kRow (o.map (·.1)))) := Qqp ky
  have jj : Hid (OwnC wC w.heap.size 32 (.slice pk m.length ck) m.length (kRow (m.map (·.1)))) := Qqp iz
  have ag : Hid (TwS w wC U1 B bt X t a Y wC /\ TwM w n1 pk ck pv cv m wC U1 /\ (∀ k, (Value.slice qk o.length dk).ownBlock = some k -> TwF w U1 bt X Y k) /\ m.length <= 12 /\ o.length <= 12 /\ oth.size <= 8000 /\ w.heap.size <= wC.heap.size) := ⟨bh, gy, jw, bc.out.2.1, mi.out.2.1, l9, I.q.below.size⟩
  clear l9 I kp ky ij iz dc bh gy jw
  go_upto_region 14 with (at_builtin; refine Qg7 _ rfl _ _ 22 rfl 42 i0 (.agg (zero32.map encB)) 32 32 Tryz.underlying22 hi ja jb jd Qx1 (by decide) w.heap.size (.slice qk o.length dk) _ _ rfl HO.out w.heap.size (.slice pk m.length ck) m.length _ rfl jj.out (Qql _) (by have := ag.out; unfold maxLen; omega) (by have := ag.out; omega) ag.out.2.2.2.2.2.2 ?_)
  intro v9 wD gn iv ar
  have em : TwS w wC U1 B bt X t a Y wD /\ ∀ k, v9.ownBlock = some k -> TwF w U1 bt X Y k := by
   have h1 := ag.out.1
   refine ⟨?_, fun k Z => ?_⟩
   ·cases hq : (Value.slice qk o.length dk).ownBlock with
    | none => exact h1.only T.out.1 (h1.fresh T.out.1 (Nat.le_refl _)) (Only.of_grown iv (.inr hq))
    | some k => exact h1.only T.out.1 (ag.out.2.2.1 k hq) (Only.of_grown iv (.inl hq))
   ·rcases ar k Z with h | h
    ·exact ag.out.2.2.1 k h
    ·exact h1.fresh T.out.1 h
  obtain ⟨p9, m9, c9, rfl⟩ := gn.shape
  have gq : OwnC wD w.heap.size 32 (.slice p9 m9 c9) (o.length + m.length) (kRow (o.map (·.1) ++ m.map (·.1))) := by rw [Qqm]; exact gn
  obtain ⟨wE, fq⟩ : ∃ x, World.alloc wD (.cells ((one32.toList.map encB).toArray.toList ++ (zero32.toList.map encB).toArray.toList).toArray 42) = x := ⟨_, rfl⟩
  have nz := Qvl wD
  have oa := Qs2 wD
  have nr : (one32.toList.map encB).toArray.size = 32 := rfl
  have nt : (zero32.toList.map encB).toArray.size = 32 := by simp [zero32]
  have nu : (Value.agg (one32.toList.map encB).toArray).cells = (one32.toList.map encB).toArray := rfl
  have nx : (Value.agg (zero32.toList.map encB).toArray).cells = (zero32.toList.map encB).toArray := rfl
  have fc : Below wD.heap.size wD wE := by rw [<- fq]; exact (Below.refl _ _).alloc (Nat.le_refl _) _
  have iy : wE.rangeAt wD.heap.size 0 (kRow [one32, zero32]) := by
   rw [<- fq]
   have e : (one32.toList.map encB).toArray.toList ++ (zero32.toList.map encB).toArray.toList = kRow [one32, zero32] := by unfold kRow; simp
   rw [e]
   exact Qap wD (kRow [one32, zero32]) 42
  have nn : wE.heap.size = wD.heap.size + 1 := by rw [<- fq]; simp
  obtain ⟨bk, kl⟩ : ∃ x, wD.heap.size = x := ⟨_, rfl⟩
  rw [kl] at iy
  have HD : Hid (TwS w wC U1 B bt X t a Y wE /\ (∀ k, (Value.slice p9 m9 c9).ownBlock = some k -> TwF w U1 bt X Y k) /\ OwnC wE w.heap.size 32 (.slice p9 m9 c9) (o.length + m.length) (kRow (o.map (·.1) ++ m.map (·.1))) /\ wE.rangeAt bk 0 (kRow [one32, zero32]) /\ bk < wE.heap.size /\ w.heap.size <= wE.heap.size) := ⟨em.1.more T.out.1 fc, em.2, gq.below fc, iy, by omega, (em.1.more T.out.1 fc).q.below.size⟩
  clear gn iv ar em gq fc iy nn y0 y1 z0 z1 HO jj
  go_upto_region 15 with (at_builtin; refine Qah _ rfl _ _ 22 rfl 42 i0 (.agg (zero32.map encB)) 32 32 Tryz.underlying22 hi ja jb jd Qx1 (by decide) w.heap.size (.slice p9 m9 c9) _ _ rfl HD.out.2.2.1 bk 0 2 2 (kRow [one32, zero32]) rfl (by rfl) HD.out.2.2.2.1 (Qql _) (by have := ag.out; unfold maxLen; omega) (by have := ag.out; omega) HD.out.2.2.2.2.2 ?_)
  intro jf wF gm dr iq _
  clear fq kl nz oa nr nt nu nx
  have eo : TwS w wC U1 B bt X t a Y wF /\ ∀ k, jf.ownBlock = some k -> TwF w U1 bt X Y k := by
   have h1 := HD.out.1
   refine ⟨?_, fun k Z => ?_⟩
   ·cases hq : (Value.slice p9 m9 c9).ownBlock with
    | none => exact h1.only T.out.1 (h1.fresh T.out.1 (Nat.le_refl _)) (Only.of_grown dr (.inr hq))
    | some k => exact h1.only T.out.1 (HD.out.2.1 k hq) (Only.of_grown dr (.inl hq))
   ·rcases iq k Z with h | h
    ·exact HD.out.2.1 k h
    ·exact h1.fresh T.out.1 h
  obtain ⟨Ks, ej⟩ : ∃ Ks, o.map (·.1) ++ m.map (·.1) ++ [one32, zero32] = Ks := ⟨_, rfl⟩
  have jx : Ks.length = o.length + m.length + 2 := by rw [<- ej]; simp; omega
  have gl : ∀ K ∈ Ks, K.size = 32 /\ Bytes K := by
   rw [<- ej]
   intro K hK
   rcases List.mem_append.1 hK with hK | hK
   ·rcases List.mem_append.1 hK with hK | hK
    ·obtain ⟨x, hx, rfl⟩ := List.mem_map.1 hK
     have := ga.out.kn.ok x hx
     exact ⟨this.1, this.2.1⟩
    ·obtain ⟨x, hx, rfl⟩ := List.mem_map.1 hK
     have := eb.out.kn.ok x hx
     exact ⟨this.1, this.2.1⟩
   ·simp only [List.mem_cons, List.not_mem_nil, or_false] at hK
    rcases hK with rfl | rfl
    ·exact Qyl
    ·exact ⟨by simp [zero32], Qgd⟩
  have hO : OwnC wF w.heap.size 32 jf Ks.length (kRow Ks) := by rw [jx, <- ej, Qqm]; exact gm
  obtain ⟨gk, c10, rfl, fj, kv, im⟩ : ∃ gk c10, jf = .slice (some ⟨gk, 0, none⟩) Ks.length c10 /\ w.heap.size <= gk /\ gk < wF.heap.size /\ Ks.length <= c10 := by
   rcases hO.2 with ⟨_, e⟩ | ⟨g, cap, e1, e2, e3, e4, _⟩
   ·omega
   ·exact ⟨g, cap, e1, e2, e3, e4⟩
  have kf := eo.2 gk rfl
  obtain ⟨U2, ew⟩ : ∃ U2 : Nat -> Prop, U2 = fun i => U1 i \/ i = gk := ⟨_, rfl⟩
  have k9 : TwS w wF U2 B bt X t a Y wF := eo.1.plus kv kf (by rw [ew]; exact fun i h => h)
  have fy : Hid (TwS w wF U2 B bt X t a Y wF) := k9
  have HF : Hid (TwM w n1 pk ck pv cv m wF U2 /\ U2 gk /\ OwnC wF w.heap.size 32 (.slice (some ⟨gk, 0, none⟩) Ks.length c10) Ks.length (kRow Ks) /\ (∀ K ∈ Ks, K.size = 32 /\ Bytes K) /\ 0 < Ks.length /\ Ks.length <= 26 /\ Ks.length <= c10 /\ oth.size <= 8000) := ⟨ag.out.2.1.next eo.1 (by rw [ew]; exact fun i h => .inl h), by rw [ew]; exact .inr rfl, hO, gl, by omega, by have := ag.out; omega, im, ag.out.2.2.2.2.2.1⟩
  clear gm dr iq eo ej jx gl hO fj kv im kf ew k9 HD ag hi ja jb jd
  go_upto_region 15 with fail
  go_cut [22] (fun x wd => ∃ gg LT, x = .slice (some ⟨gg, 0, none⟩) 10 10 /\ (∃ l : List ByteArray, LT = l.map Value.string /\ l.length = 10 /\ ∀ z ∈ l, z.size <= 1100000) /\ TwF w U2 bt X Y gg /\ gg < wd.heap.size /\ wd.rangeAt gg 0 LT /\ TwS w wF U2 B bt X t a Y wd)
  case first => as_aux_lemma =>
   have dh := HW.out.2.2
   have ie := HW.out.2.1
   have nh := b7.out.1
   obtain ⟨f1, f2, f3, f4, f5, f6, f7, f8⟩ := HF.out
   obtain ⟨z4, je⟩ : ∃ z, Wt.extract 0 kk = z := ⟨_, rfl⟩
   obtain ⟨z5, oc⟩ : ∃ z, Wt.extract kk Wt.size = z := ⟨_, rfl⟩
   obtain ⟨Wh, ia⟩ : ∃ s, textB (t.witness true []) = s := ⟨_, rfl⟩
   obtain ⟨kx, sj, ld⟩ := Qlw at_ Ks.length b7.out.2.1.1 (by have := b7.out.2.1.2; omega) f5
   have mw := Hq ld
   obtain ⟨Wx, id⟩ : ∃ s, textB (t.witness false ((Ks.drop kx).map keyP)) = s := ⟨_, rfl⟩
   have di : ∀ gb ps, (t.witness gb ps).length <= 8000 := fun gb ps => by
    have h1 := Qii (Qfm t 64 (by omega) HM.out.1) gb ps
    have h2 := Qnq HM.out.1 HM.out.2
    have := bc.out.2.1
    omega
   have n9 : Hid (∀ W, TwS w wF U2 B bt X t a Y W -> Calls Tryz.prog 11 #[.pointer (some ⟨bt, 0, none⟩)] W fun e w' => e = .returned (.string Wh) /\ Fr B Y Y W w') := fun W h => by
    have := Qke h.q.wood (HT.out _ h.q.below).1 T.out.2.2.1 h.q.tree (by have := di true []; omega)
    rw [ia] at this
    exact this
   have nc : Hid (∀ W, TwS w wF U2 B bt X t a Y W -> Calls Tryz.prog 6 #[.pointer (some ⟨bt, 0, none⟩), .slice (some ⟨gk, kx * 32, none⟩) (Ks.length - kx) (c10 - kx)] W fun e w' => e = .returned (.string Wx) /\ Fr B Y Y W w') := fun W h => by
    have hr : KeyRow W (some ⟨gk, kx * 32, none⟩) (Ks.drop kx) (c10 - kx) := by
     refine ⟨fun K hK => f4 K (List.mem_of_mem_drop hK), .inr ⟨gk, kx * 32, rfl, by rw [List.length_drop]; omega, ?_, fun j hj => ?_⟩⟩
     ·have := (h.uj gk f2).1
      exact Nat.lt_of_lt_of_le this h.q.size
     ·rw [List.length_drop] at hj
      obtain ⟨g', lr, e', -, -, j7⟩ := Qvi f3 (fun K hK => (f4 K hK).1) (k := kx + j) (by omega)
      simp only [Value.slice.injEq, Option.some.injEq, Addr.mk.injEq, and_true, true_and] at e'
      obtain ⟨rfl, -⟩ := e'
      rw [List.getElem_drop, <- Nat.add_mul]
      exact Qa4 j7 (h.q.keep gk f2)
    have := Qgq h.q.wood (HT.out _ h.q.below).1 T.out.2.2.1 h.q.tree hr (by rw [List.length_drop]; omega) (by have := di false ((Ks.drop kx).map keyP); omega)
    rw [List.length_drop, id] at this
    exact this
   have lm : Hid (∀ W, (Instr.sliceAt 22 (.slice (some ⟨gk, 0, none⟩) Ks.length c10) (some (.int .i64 (kx : Int))) none none).run Tryz.prog W = .ok (.slice (some ⟨gk, kx * 32, none⟩) (Ks.length - kx) (c10 - kx)) W) := fun W => by
    have := Qnw (some ⟨gk, 0, none⟩) Ks.length c10 kx (by omega) W
    rw [if_neg (by omega), Option.map_some, Addr.add_mid, Nat.zero_add] at this
    exact this
   obtain ⟨LT, jz⟩ : ∃ LT, [oth, z4, Wt ++ any, any, z5, Wt ++ Wt, Wt ++ ⟨#[2, 1, 16]⟩, Wt, Wh, Wx].map Value.string = LT := ⟨_, rfl⟩
   have ml : Hid (∃ l : List ByteArray, LT = l.map Value.string /\ l.length = 10 /\ ∀ z ∈ l, z.size <= 1100000) := by
    refine ⟨_, jz.symm, rfl, fun z hz => ?_⟩
    have s4 : z4.size <= 8000 := by rw [<- je]; simp; omega
    have s5 : z5.size <= 8000 := by rw [<- oc]; simp; omega
    have s6 : Wh.size <= 8000 := by rw [<- ia, Qaa]; exact di _ _
    have s7 : Wx.size <= 8000 := by rw [<- id, Qaa]; exact di _ _
    have s8 : (⟨#[2, 1, 16]⟩ : ByteArray).size = 3 := rfl
    simp only [List.mem_cons, List.not_mem_nil, or_false] at hz
    rcases hz with rfl | rfl | rfl | rfl | rfl | rfl | rfl | rfl | rfl | rfl
    all_goals first | omega | (rw [ByteArray.size_append]; omega)
   have se : ¬ 9223372036854775807 < Wt.size + any.size := by omega
   have ng : ¬ 9223372036854775807 < Wt.size + Wt.size := by omega
   have sf : ¬ 9223372036854775807 < Wt.size + 3 := by omega
   have bj : kk <= Wt.size := by omega
   clear f1 f2 f3 f4 f5 f6 f7 f8 ld di ia id nh ie
   refine wp_region_any (by kernel_rfl) ?_
   change wpAny _ _ _ _ _ _ _ (World.drew _)
   obtain ⟨vf, y⟩ : ∃ vf : Nat -> Option Value, vf = fun i => ([some (.string oth), some (.string Wt), some (.int .i64 (kk : Int)), some (.string z4), some (.string Wt), some (.string any), some (.string (Wt ++ any)), some (.string any), some (.string Wt), some (.int .i64 (kk : Int)), some (.string z5), some (.string Wt), some (.string Wt), some (.string (Wt ++ Wt)), some (.string Wt), some (.string (Wt ++ ⟨#[2, 1, 16]⟩)), some (.string Wt), some (.pointer (some ⟨bt, 0, none⟩)), some (.string Wh), some (.pointer (some ⟨bt, 0, none⟩)), some (.slice (some ⟨gk, 0, none⟩) Ks.length c10), some (.int .i64 at_), some (.slice (some ⟨gk, 0, none⟩) Ks.length c10), some (.int .i64 (Ks.length : Int)), some (.int .i64 (kx : Int)), some (.slice (some ⟨gk, kx * 32, none⟩) (Ks.length - kx) (c10 - kx)), some (.string Wx), none, none] : List (Option Value)).getD i none := ⟨_, rfl⟩
   refine Qam _ (fun d v w' => (∀ i x, vf i = some x -> d i = true -> v i = x) /\ (fun d v w' => SpL (TwS w wF U2 B bt X t a Y) (TwF w U2 bt X Y) LT (d 27) (v 27) (d 28) (v 28) w') d v w') (by kernel_rfl) (by kernel_rfl) ?_ _ (fun _ => undef) ?_ ?_
   ·intro i o H aq L b W u O c C
    have hi : i < 29 := (Array.getElem?_eq_some_iff.1 H).1
    match i, hi with
    | 0, _ =>
     obtain rfl := Option.some.inj H
     exact Qay (.string oth) 20 rfl (u.rs 20 (by kernel_rfl)) ⟨_, rfl, Qa0 C.1 (ve y rfl), C.2⟩
    | 1, _ =>
     obtain rfl := Option.some.inj H
     exact Qay (.string Wt) 15 rfl (u.rs 15 (by kernel_rfl)) ⟨_, rfl, Qa0 C.1 (ve y rfl), C.2⟩
    | 2, _ =>
     obtain rfl := Option.some.inj H
     exact Qay (.int .i64 (kk : Int)) 19 rfl (u.rs 19 (by kernel_rfl)) ⟨_, rfl, Qa0 C.1 (ve y rfl), C.2⟩
    | 3, _ =>
     obtain rfl := Option.some.inj H
     have ub := u.vt 1 92 (.string Wt) (c ⟨1, .data⟩ (by simp) rfl) rfl (by simp) (ve y rfl) C.1
     have uc := u.vt 2 93 (.int .i64 (kk : Int)) (c ⟨2, .data⟩ (by simp) rfl) rfl (by simp) (ve y rfl) C.1
     refine Qa1 (.string z4) ⟨_, rfl, Qa0 C.1 (ve y rfl), C.2⟩ ?_
     clear H c u C O y
     go_simp
    | 4, _ =>
     obtain rfl := Option.some.inj H
     exact Qay (.string Wt) 15 rfl (u.rs 15 (by kernel_rfl)) ⟨_, rfl, Qa0 C.1 (ve y rfl), C.2⟩
    | 5, _ =>
     obtain rfl := Option.some.inj H
     exact Qay (.string any) 4 rfl (u.rs 4 (by kernel_rfl)) ⟨_, rfl, Qa0 C.1 (ve y rfl), C.2⟩
    | 6, _ =>
     obtain rfl := Option.some.inj H
     have ud := u.vt 4 95 (.string Wt) (c ⟨4, .data⟩ (by simp) rfl) rfl (by simp) (ve y rfl) C.1
     have ue := u.vt 5 96 (.string any) (c ⟨5, .data⟩ (by simp) rfl) rfl (by simp) (ve y rfl) C.1
     refine Qa1 (.string (Wt ++ any)) ⟨_, rfl, Qa0 C.1 (ve y rfl), C.2⟩ ?_
     clear H c u C O y
     go_simp
    | 7, _ =>
     obtain rfl := Option.some.inj H
     exact Qay (.string any) 4 rfl (u.rs 4 (by kernel_rfl)) ⟨_, rfl, Qa0 C.1 (ve y rfl), C.2⟩
    | 8, _ =>
     obtain rfl := Option.some.inj H
     exact Qay (.string Wt) 15 rfl (u.rs 15 (by kernel_rfl)) ⟨_, rfl, Qa0 C.1 (ve y rfl), C.2⟩
    | 9, _ =>
     obtain rfl := Option.some.inj H
     exact Qay (.int .i64 (kk : Int)) 19 rfl (u.rs 19 (by kernel_rfl)) ⟨_, rfl, Qa0 C.1 (ve y rfl), C.2⟩
    | 10, _ =>
     obtain rfl := Option.some.inj H
     have uf := u.vt 8 99 (.string Wt) (c ⟨8, .data⟩ (by simp) rfl) rfl (by simp) (ve y rfl) C.1
     have ox := u.vt 9 100 (.int .i64 (kk : Int)) (c ⟨9, .data⟩ (by simp) rfl) rfl (by simp) (ve y rfl) C.1
     refine Qa1 (.string z5) ⟨_, rfl, Qa0 C.1 (ve y rfl), C.2⟩ ?_
     clear H c u C O y
     go_simp
    | 11, _ =>
     obtain rfl := Option.some.inj H
     exact Qay (.string Wt) 15 rfl (u.rs 15 (by kernel_rfl)) ⟨_, rfl, Qa0 C.1 (ve y rfl), C.2⟩
    | 12, _ =>
     obtain rfl := Option.some.inj H
     exact Qay (.string Wt) 15 rfl (u.rs 15 (by kernel_rfl)) ⟨_, rfl, Qa0 C.1 (ve y rfl), C.2⟩
    | 13, _ =>
     obtain rfl := Option.some.inj H
     have oy := u.vt 11 102 (.string Wt) (c ⟨11, .data⟩ (by simp) rfl) rfl (by simp) (ve y rfl) C.1
     have oz := u.vt 12 103 (.string Wt) (c ⟨12, .data⟩ (by simp) rfl) rfl (by simp) (ve y rfl) C.1
     refine Qa1 (.string (Wt ++ Wt)) ⟨_, rfl, Qa0 C.1 (ve y rfl), C.2⟩ ?_
     clear H c u C O y
     go_simp
    | 14, _ =>
     obtain rfl := Option.some.inj H
     exact Qay (.string Wt) 15 rfl (u.rs 15 (by kernel_rfl)) ⟨_, rfl, Qa0 C.1 (ve y rfl), C.2⟩
    | 15, _ =>
     obtain rfl := Option.some.inj H
     have p6 := u.vt 14 105 (.string Wt) (c ⟨14, .data⟩ (by simp) rfl) rfl (by simp) (ve y rfl) C.1
     refine Qa1 (.string (Wt ++ ⟨#[2, 1, 16]⟩)) ⟨_, rfl, Qa0 C.1 (ve y rfl), C.2⟩ ?_
     clear H c u C O y
     go_simp
    | 16, _ =>
     obtain rfl := Option.some.inj H
     exact Qay (.string Wt) 15 rfl (u.rs 15 (by kernel_rfl)) ⟨_, rfl, Qa0 C.1 (ve y rfl), C.2⟩
    | 17, _ =>
     obtain rfl := Option.some.inj H
     exact Qay (.pointer (some ⟨bt, 0, none⟩)) 12 rfl (u.rs 12 (by kernel_rfl)) ⟨_, rfl, Qa0 C.1 (ve y rfl), C.2⟩
    | 18, _ =>
     obtain rfl := Option.some.inj H
     have p7 := u.vt 17 108 (.pointer (some ⟨bt, 0, none⟩)) (c ⟨17, .data⟩ (by simp) rfl) rfl (by simp) (ve y rfl) C.1
     refine Qbl fun G hG => ?_
     have HG := Hq hG
     have V := Hq C
     have ah := Hq y
     clear hG H c u C O y
     go_simp
     go_at_call 11
     refine (n9.out W V.out.2.all).mono ?_
     rintro e w9 ⟨rfl, ar⟩
     exact ⟨_, rfl, (HG.out _ _).2 ⟨Qa0 V.out.1 (by rw [ah.out]; rfl), V.out.2.fr (fun h => h.fr T.out.1 ar) (fun _ hF => hF.1.2.1) ar⟩⟩
    | 19, _ =>
     obtain rfl := Option.some.inj H
     exact Qay (.pointer (some ⟨bt, 0, none⟩)) 12 rfl (u.rs 12 (by kernel_rfl)) ⟨_, rfl, Qa0 C.1 (ve y rfl), C.2⟩
    | 20, _ =>
     obtain rfl := Option.some.inj H
     exact Qay (.slice (some ⟨gk, 0, none⟩) Ks.length c10) 21 rfl (u.rs 21 (by kernel_rfl)) ⟨_, rfl, Qa0 C.1 (ve y rfl), C.2⟩
    | 21, _ =>
     obtain rfl := Option.some.inj H
     exact Qay (.int .i64 at_) 2 rfl (u.rs 2 (by kernel_rfl)) ⟨_, rfl, Qa0 C.1 (ve y rfl), C.2⟩
    | 22, _ =>
     obtain rfl := Option.some.inj H
     exact Qay (.slice (some ⟨gk, 0, none⟩) Ks.length c10) 21 rfl (u.rs 21 (by kernel_rfl)) ⟨_, rfl, Qa0 C.1 (ve y rfl), C.2⟩
    | 23, _ =>
     obtain rfl := Option.some.inj H
     have pe := u.vt 22 113 (.slice (some ⟨gk, 0, none⟩) Ks.length c10) (c ⟨22, .data⟩ (by simp) rfl) rfl (by simp) (ve y rfl) C.1
     refine Qa1 (.int .i64 (Ks.length : Int)) ⟨_, rfl, Qa0 C.1 (ve y rfl), C.2⟩ ?_
     clear H c u C O y
     go_simp
    | 24, _ =>
     obtain rfl := Option.some.inj H
     have pd := u.vt 21 112 (.int .i64 at_) (c ⟨21, .data⟩ (by simp) rfl) rfl (by simp) (ve y rfl) C.1
     have pf := u.vt 23 114 (.int .i64 (Ks.length : Int)) (c ⟨23, .data⟩ (by simp) rfl) rfl (by simp) (ve y rfl) C.1
     refine Qbl fun G hG => ?_
     have HG := Hq hG
     have V := Hq C
     have ah := Hq y
     clear hG H c u C O y
     go_simp
     go_at_call 10
     refine (mw.out W).mono ?_
     rintro e w9 ⟨rfl, rfl⟩
     exact ⟨_, rfl, (HG.out _ _).2 ⟨Qa0 V.out.1 (by rw [ah.out]; rfl), V.out.2⟩⟩
    | 25, _ =>
     obtain rfl := Option.some.inj H
     have pc := u.vt 20 111 (.slice (some ⟨gk, 0, none⟩) Ks.length c10) (c ⟨20, .data⟩ (by simp) rfl) rfl (by simp) (ve y rfl) C.1
     have pg := u.vt 24 115 (.int .i64 (kx : Int)) (c ⟨24, .data⟩ (by simp) rfl) rfl (by simp) (ve y rfl) C.1
     have ou := lm.out W
     refine Qa1 (.slice (some ⟨gk, kx * 32, none⟩) (Ks.length - kx) (c10 - kx)) ⟨_, rfl, Qa0 C.1 (ve y rfl), C.2⟩ ?_
     clear H c u C O y
     go_simp
    | 26, _ =>
     obtain rfl := Option.some.inj H
     have p8 := u.vt 19 110 (.pointer (some ⟨bt, 0, none⟩)) (c ⟨19, .data⟩ (by simp) rfl) rfl (by simp) (ve y rfl) C.1
     have ph := u.vt 25 116 (.slice (some ⟨gk, kx * 32, none⟩) (Ks.length - kx) (c10 - kx)) (c ⟨25, .data⟩ (by simp) rfl) rfl (by simp) (ve y rfl) C.1
     refine Qbl fun G hG => ?_
     have HG := Hq hG
     have V := Hq C
     have ah := Hq y
     clear hG H c u C O y
     go_simp
     go_at_call 6
     refine (nc.out W V.out.2.all).mono ?_
     rintro e w9 ⟨rfl, ar⟩
     exact ⟨_, rfl, (HG.out _ _).2 ⟨Qa0 V.out.1 (by rw [ah.out]; rfl), V.out.2.fr (fun h => h.fr T.out.1 ar) (fun _ hF => hF.1.2.1) ar⟩⟩
    | 27, _ =>
     obtain rfl := Option.some.inj H
     have oi := u.vt 0 91 (.string oth) (c ⟨0, .data⟩ (by simp) rfl) rfl (by simp) (ve y rfl) C.1
     have oj := u.vt 3 94 (.string z4) (c ⟨3, .data⟩ (by simp) rfl) rfl (by simp) (ve y rfl) C.1
     have ol := u.vt 6 97 (.string (Wt ++ any)) (c ⟨6, .data⟩ (by simp) rfl) rfl (by simp) (ve y rfl) C.1
     have om := u.vt 7 98 (.string any) (c ⟨7, .data⟩ (by simp) rfl) rfl (by simp) (ve y rfl) C.1
     have lw := u.vt 10 101 (.string z5) (c ⟨10, .data⟩ (by simp) rfl) rfl (by simp) (ve y rfl) C.1
     have lx := u.vt 13 104 (.string (Wt ++ Wt)) (c ⟨13, .data⟩ (by simp) rfl) rfl (by simp) (ve y rfl) C.1
     have ly := u.vt 15 106 (.string (Wt ++ ⟨#[2, 1, 16]⟩)) (c ⟨15, .data⟩ (by simp) rfl) rfl (by simp) (ve y rfl) C.1
     have lz := u.vt 16 107 (.string Wt) (c ⟨16, .data⟩ (by simp) rfl) rfl (by simp) (ve y rfl) C.1
     have m7 := u.vt 18 109 (.string Wh) (c ⟨18, .data⟩ (by simp) rfl) rfl (by simp) (ve y rfl) C.1
     have m8 := u.vt 26 117 (.string Wx) (c ⟨26, .data⟩ (by simp) rfl) rfl (by simp) (ve y rfl) C.1
     refine Qjd W (.tmp 91) (.tmp 94) (.tmp 97) (.tmp 98) (.tmp 101) (.tmp 104) (.tmp 106) (.tmp 107) (.tmp 109) (.tmp 117) rfl oth z4 (Wt ++ any) any z5 (Wt ++ Wt) (Wt ++ ⟨#[2, 1, 16]⟩) Wt Wh Wx (by simp only [Act.eval, Array.getD_eq_getD_getElem?, oi, Option.getD_some]) (by simp only [Act.eval, Array.getD_eq_getD_getElem?, oj, Option.getD_some]) (by simp only [Act.eval, Array.getD_eq_getD_getElem?, ol, Option.getD_some]) (by simp only [Act.eval, Array.getD_eq_getD_getElem?, om, Option.getD_some]) (by simp only [Act.eval, Array.getD_eq_getD_getElem?, lw, Option.getD_some]) (by simp only [Act.eval, Array.getD_eq_getD_getElem?, lx, Option.getD_some]) (by simp only [Act.eval, Array.getD_eq_getD_getElem?, ly, Option.getD_some]) (by simp only [Act.eval, Array.getD_eq_getD_getElem?, lz, Option.getD_some]) (by simp only [Act.eval, Array.getD_eq_getD_getElem?, m7, Option.getD_some]) (by simp only [Act.eval, Array.getD_eq_getD_getElem?, m8, Option.getD_some]) ?_
     rw [jz]
     exact ⟨_, rfl, Qa3 C.1 (ve y rfl), C.2.lay O (fun W' h hb => h.more T.out.1 hb) (fun h => h.fresh T.out.1 (Nat.le_refl _))⟩
    | 28, _ =>
     obtain rfl := Option.some.inj H
     have ef := c ⟨27, .data⟩ (by simp) rfl
     obtain ⟨gg, g1, -⟩ := C.2.row ef
     have pi : b.tmps[118]? = some (.slice (some ⟨gg, 0, none⟩) 10 10) := (u.done 27 118 ef rfl (by simp)).trans (congrArg some g1)
     refine Qa1 (.slice (some ⟨gg, 0, none⟩) 10 10) ⟨_, rfl, Qa3 C.1 (ve y rfl), C.2.asg ef g1⟩ ?_
     clear H c u C O y g1 ef
     go_simp
   ·exact ⟨fun _ _ _ h => (by simp at h), ⟨fy.out.more T.out.1 (Below.refl _ _).drew, fun q => (by simp at q), fun q => (by simp at q), fun q => (by simp at q)⟩⟩
   ·intro L W C
    have e0 : L 0 = .string oth := C.1 0 _ (ve y rfl) rfl
    have e1 : L 1 = .string Wt := C.1 1 _ (ve y rfl) rfl
    have e2 : L 2 = .int .i64 (kk : Int) := C.1 2 _ (ve y rfl) rfl
    have e3 : L 3 = .string z4 := C.1 3 _ (ve y rfl) rfl
    have e4 : L 4 = .string Wt := C.1 4 _ (ve y rfl) rfl
    have e5 : L 5 = .string any := C.1 5 _ (ve y rfl) rfl
    have e6 : L 6 = .string (Wt ++ any) := C.1 6 _ (ve y rfl) rfl
    have e7 : L 7 = .string any := C.1 7 _ (ve y rfl) rfl
    have e8 : L 8 = .string Wt := C.1 8 _ (ve y rfl) rfl
    have e9 : L 9 = .int .i64 (kk : Int) := C.1 9 _ (ve y rfl) rfl
    have ai : L 10 = .string z5 := C.1 10 _ (ve y rfl) rfl
    have aw : L 11 = .string Wt := C.1 11 _ (ve y rfl) rfl
    have aj : L 12 = .string Wt := C.1 12 _ (ve y rfl) rfl
    have ak : L 13 = .string (Wt ++ Wt) := C.1 13 _ (ve y rfl) rfl
    have al : L 14 = .string Wt := C.1 14 _ (ve y rfl) rfl
    have am : L 15 = .string (Wt ++ ⟨#[2, 1, 16]⟩) := C.1 15 _ (ve y rfl) rfl
    have ao : L 16 = .string Wt := C.1 16 _ (ve y rfl) rfl
    have ap : L 17 = .pointer (some ⟨bt, 0, none⟩) := C.1 17 _ (ve y rfl) rfl
    have ax : L 18 = .string Wh := C.1 18 _ (ve y rfl) rfl
    have ay : L 19 = .pointer (some ⟨bt, 0, none⟩) := C.1 19 _ (ve y rfl) rfl
    have cg : L 20 = .slice (some ⟨gk, 0, none⟩) Ks.length c10 := C.1 20 _ (ve y rfl) rfl
    have ch : L 21 = .int .i64 at_ := C.1 21 _ (ve y rfl) rfl
    have ci : L 22 = .slice (some ⟨gk, 0, none⟩) Ks.length c10 := C.1 22 _ (ve y rfl) rfl
    have cj : L 23 = .int .i64 (Ks.length : Int) := C.1 23 _ (ve y rfl) rfl
    have cl : L 24 = .int .i64 (kx : Int) := C.1 24 _ (ve y rfl) rfl
    have cm : L 25 = .slice (some ⟨gk, kx * 32, none⟩) (Ks.length - kx) (c10 - kx) := C.1 25 _ (ve y rfl) rfl
    have cp : L 26 = .string Wx := C.1 26 _ (ve y rfl) rfl
    have hX := C.2
    simp only [runFrom, Act.put, Nat.zero_add, Nat.reduceAdd, List.setIfInBounds_toArray, List.set_cons_zero, List.set_cons_succ, e0, e1, e2, e3, e4, e5, e6, e7, e8, e9, ai, aw, aj, ak, al, am, ao, ap, ax, ay, cg, ch, ci, cj, cl, cm, cp]
    clear C y e0 e1 e2 e3 e4 e5 e6 e7 e8 e9 ai aw aj ak al am ao ap ax ay cg ch ci cj cl cm cp
    obtain ⟨gg, g1, g2, g3, g4⟩ := hX.row rfl
    have g5 := (hX.same rfl).trans g1
    have HY : Hid (L 28 = .slice (some ⟨gg, 0, none⟩) 10 10 /\ TwF w U2 bt X Y gg /\ gg < W.heap.size /\ W.rangeAt gg 0 LT /\ TwS w wF U2 B bt X t a Y W) := ⟨g5, g2, g3, g4, hX.all⟩
    clear hX g1 g2 g3 g4 g5
    (try go_wp2)
    go_meet
    exact ⟨gg, LT, HY.out.1, ml.out, HY.out.2⟩
  case rest => as_aux_lemma =>
   obtain ⟨gg, LT, rfl, ⟨l, rfl, j4, l5⟩, jv, fj, lf, eq⟩ := hcut
   obtain ⟨wG, rfl⟩ : ∃ x, x = wc := ⟨_, rfl⟩
   obtain ⟨U3, de⟩ : ∃ U3 : Nat -> Prop, U3 = fun i => U2 i \/ i = gg := ⟨_, rfl⟩
   have ka : TwS w wG U3 B bt X t a Y wG := eq.plus fj jv (by rw [de]; exact fun i h => h)
   have gz : TwM w n1 pk ck pv cv m wG U3 := HF.out.1.next eq (by rw [de]; exact fun i h => .inl h)
   have jy : ∀ j (hj : j < Ks.length), wG.rangeAt gk (j * 32) (Ks[j].toList.map encB) := fun j hj => by
    obtain ⟨g', lr, e', -, -, j7⟩ := Qvi HF.out.2.2.1 (fun K hK => (HF.out.2.2.2.1 K hK).1) hj
    simp only [Value.slice.injEq, Option.some.injEq, Addr.mk.injEq, and_true, true_and] at e'
    obtain ⟨rfl, -⟩ := e'
    exact Qa4 j7 (eq.q.keep gk HF.out.2.1)
   have HG : Hid (TwS w wG U3 B bt X t a Y wG /\ TwM w n1 pk ck pv cv m wG U3 /\ U3 gk /\ U3 gg /\ (∀ j (hj : j < Ks.length), wG.rangeAt gk (j * 32) (Ks[j].toList.map encB)) /\ wG.rangeAt gg 0 (l.map Value.string) /\ (∀ z ∈ l, z.size <= 1100000) /\ (∀ K ∈ Ks, K.size = 32 /\ Bytes K) /\ Ks.length <= 26) :=
    ⟨ka, gz, by rw [de]; exact .inl HF.out.2.1, by rw [de]; exact .inr rfl, jy, lf, l5, HF.out.2.2.2.1, HF.out.2.2.2.2.2.1⟩
   have fu : Hid (l.length = 10) := j4
   clear j4 l5 jv fj lf eq de ka gz jy HF fy
   go_wp2
   go_loopg [23] 10 (fun gh i wr => ∃ k R q Jq, k <= 10 /\ gh = 10 - k /\ i = .int .i64 ((k : Nat) : Int) /\ bt ≠ R /\ TwS w wG U3 B bt R t q Jq wr)
   case atStart => exact ⟨0, X, a, Y, Nat.zero_le _, rfl, rfl, nd.out.2.1, HG.out.1⟩
   case round =>
    obtain ⟨k, js, a1, J1, Z, rfl, rfl, j5, bh⟩ := hrel
    by_cases bv : k < 10
    ·have i1 : (k : Int) < 10 := by omega
     obtain ⟨s, hs⟩ : ∃ s, l[k]'(by rw [fu.out]; exact bv) = s := ⟨_, rfl⟩
     have jp : Hid (s.size <= 1100000) := by rw [<- hs]; exact HG.out.2.2.2.2.2.2.1 _ (List.getElem_mem _)
     have hc : wG.cell? ⟨gg, k, none⟩ = some (.string s) := by
      have := HG.out.2.2.2.2.2.1 k (.string s) (by rw [List.getElem?_map, List.getElem?_eq_getElem (by rw [fu.out]; exact bv), hs]; rfl)
      rw [Nat.zero_add] at this
      exact this
     have dw : Hid (∀ {R q Jq} W, TwS w wG U3 B bt R t q Jq W -> W.cell? ⟨gg, k, none⟩ = some (.string s)) := fun {R q Jq} W h => by
      exact (World.cell?_of_block (h.q.keep gg HG.out.2.2.2.1)).trans hc
     obtain ⟨P1, bo⟩ : ∃ P : World -> Prop, P = TwS w wG U3 B bt js t a1 J1 := ⟨_, rfl⟩
     obtain ⟨F1, gi⟩ : ∃ F : Nat -> Prop, F = TwF w U3 bt js J1 := ⟨_, rfl⟩
     obtain ⟨P2, cw⟩ : ∃ P : SpIx -> World -> Prop, P = fun i W => TwS w wG U3 B bt i.bp t i.a i.J W /\ bt ≠ i.bp /\ i.said Dt s := ⟨_, rfl⟩
     obtain ⟨F2, ei⟩ : ∃ F : SpIx -> Nat -> Prop, F = fun i => TwF w U3 bt i.bp i.J := ⟨_, rfl⟩
     have bz : Hid (StKit P1 F1 B J1) := by rw [bo, gi]; exact TwS.kit T.out.1
     have bf : Hid (∀ i, StKit (P2 i) (F2 i) B i.J) := fun i => by rw [cw, ei]; exact (TwS.kit T.out.1).and_ _
     have fw : Hid (P1 wr.drew) := bz.out.more _ _ (by rw [bo]; exact bh) (Below.refl _ _).drew
     have HL : Hid ((∀ W, P1 W -> W.cell? ⟨gg, k, none⟩ = some (.string s)) /\ ∀ i W, P2 i W -> W.cell? ⟨gg, k, none⟩ = some (.string s)) := by
      rw [bo, cw]
      exact ⟨fun W h => dw.out W h, fun i W h => dw.out W h.1⟩
     have bn : Hid (∀ W, P1 W -> Calls Tryz.prog 8 #[.pointer (some ⟨bt, 0, none⟩)] W fun e w' => e = .returned (.agg (Dt.map encB).toArray) /\ Fr B J1 J1 W w') := fun W h => by
      rw [bo] at h
      have := Qf7 h.q.wood (HT.out _ h.q.below).1 T.out.2.2.1 h.q.tree
      rw [HA.out.2.2.2.1] at this
      exact this
     have bm : Hid (∀ W, P1 W -> Calls Tryz.prog 7 #[.agg (Dt.map encB).toArray, .string s] W fun e w' => ∃ i : SpIx, e = .returned (spO.ov i) /\ Below W.heap.size W w' /\ P2 i w' /\ ∀ k, F1 k -> k < W.heap.size -> F2 i k) := fun W h => by
      rw [bo] at h
      rw [cw, gi, ei]
      have dg := h.q.below
      exact Qym sent s h T.out.1 j5 ((HE.out.1.below dg).faults) (HE.out.2.2.2.below dg) (HT.out _ dg).1 (HT.out _ dg).2 ((dg.cell (p := ⟨12, 0, none⟩) HE.out.2.2.1).trans HE.out.2.1) HA.out.2.2.2.2.2.1 HA.out.2.2.2.2.2.2
     have fx : Hid (P2 = fun i W => TwS w wG U3 B bt i.bp t i.a i.J W /\ bt ≠ i.bp /\ i.said Dt s) := cw
     have jh : Hid (F2 = fun i => TwF w U3 bt i.bp i.J) := ei
     have du : Hid (k < 10) := bv
     clear bo gi cw ei hs hc Z bv j5 bh
     go_upto_region 19 with fail
     go_cut [24, 25] (fun v24 v25 wd => ∃ i f, v24 = spO.pt i /\ v25 = .pointer (some ⟨f, 0, none⟩) /\ P2 i wd /\ F2 i f /\ wd.heap[f]? = some (.cells #[spO.y0 i, spO.y1 i, spO.y2 i, spO.y3 i] 33 (0, 0)))
     case first => as_aux_lemma =>
      refine wp_region_any (by kernel_rfl) ?_
      change wpAny _ _ _ _ _ _ _ (World.drew _)
      obtain ⟨vf, y⟩ : ∃ vf : Nat -> Option Value, vf = fun i => ([some (.pointer (some ⟨bt, 0, none⟩)), some (.agg (Dt.map encB).toArray), some (.slice (some ⟨gg, 0, none⟩) 10 10), some (.int .i64 (k : Int)), some (.pointer (some ⟨gg, k, none⟩)), some (.string s), none, none, none, none, none, none, none] : List (Option Value)).getD i none := ⟨_, rfl⟩
      refine Qam _ (fun d v w' => (∀ i x, vf i = some x -> d i = true -> v i = x) /\ (fun d v w' => SpX spO P1 F1 P2 F2 (d 1) (d 6) (d 7) (d 8) (d 9) (d 10) (d 11) (d 12) (v 6) (v 7) (v 8) (v 9) (v 10) (v 11) w') d v w') (by kernel_rfl) (by kernel_rfl) ?_ _ (fun _ => undef) ?_ ?_
      ·intro i o H aq L b W u O c C
       have hi : i < 13 := (Array.getElem?_eq_some_iff.1 H).1
       match i, hi with
       | 0, _ =>
        obtain rfl := Option.some.inj H
        exact Qay (.pointer (some ⟨bt, 0, none⟩)) 12 rfl (u.rs 12 (by kernel_rfl)) ⟨_, rfl, Qa0 C.1 (ve y rfl), C.2⟩
       | 1, _ =>
        obtain rfl := Option.some.inj H
        have pj := u.vt 0 126 (.pointer (some ⟨bt, 0, none⟩)) (c ⟨0, .data⟩ (by simp) rfl) rfl (by simp) (ve y rfl) C.1
        refine Qbl fun G hG => ?_
        have HG := Hq hG
        have V := Hq C
        have ah := Hq y
        have ce := Hq O
        clear hG H c u C O y
        go_simp
        go_at_call 8
        refine (bn.out W (V.out.2.pre (V.out.2.no6 ce.out)).all).mono ?_
        rintro e w9 ⟨rfl, aa⟩
        exact ⟨_, rfl, (HG.out _ _).2 ⟨Qa0 V.out.1 (by rw [ah.out]; rfl), V.out.2.fr1 bz.out ce.out aa⟩⟩
       | 2, _ =>
        obtain rfl := Option.some.inj H
        exact Qay (.slice (some ⟨gg, 0, none⟩) 10 10) 22 rfl (u.rs 22 (by kernel_rfl)) ⟨_, rfl, Qa0 C.1 (ve y rfl), C.2⟩
       | 3, _ =>
        obtain rfl := Option.some.inj H
        exact Qay (.int .i64 (k : Int)) 23 rfl (u.rs 23 (by kernel_rfl)) ⟨_, rfl, Qa0 C.1 (ve y rfl), C.2⟩
       | 4, _ =>
        obtain rfl := Option.some.inj H
        have pq := u.vt 2 128 (.slice (some ⟨gg, 0, none⟩) 10 10) (c ⟨2, .data⟩ (by simp) rfl) rfl (by simp) (ve y rfl) C.1
        have pu := u.vt 3 129 (.int .i64 (k : Int)) (c ⟨3, .data⟩ (by simp) rfl) rfl (by simp) (ve y rfl) C.1
        refine Qa1 (.pointer (some ⟨gg, k, none⟩)) ⟨_, rfl, Qa0 C.1 (ve y rfl), C.2⟩ ?_
        clear H c u C O y
        go_simp
       | 5, _ =>
        obtain rfl := Option.some.inj H
        have pw := u.vt 4 130 (.pointer (some ⟨gg, k, none⟩)) (c ⟨4, .data⟩ (by simp) rfl) rfl (by simp) (ve y rfl) C.1
        have z5 := C.2.any (Q := fun W => W.cell? ⟨gg, k, none⟩ = some (.string s)) HL.out.1 HL.out.2
        refine Qa1 (.string s) ⟨_, rfl, Qa0 C.1 (ve y rfl), C.2⟩ ?_
        clear H c u C O y
        go_simp
       | 6, _ =>
        obtain rfl := Option.some.inj H
        have pm := u.vt 1 127 (.agg (Dt.map encB).toArray) (c ⟨1, .data⟩ (by simp) rfl) rfl (by simp) (ve y rfl) C.1
        have py := u.vt 5 131 (.string s) (c ⟨5, .data⟩ (by simp) rfl) rfl (by simp) (ve y rfl) C.1
        refine Qbl fun G hG => ?_
        have HG := Hq hG
        have V := Hq C
        have ah := Hq y
        have ce := Hq O
        have bc := Hq (c ⟨1, .data⟩ (by simp) rfl)
        clear hG H c u C O y
        go_simp
        go_at_call 7
        refine (bm.out W (V.out.2.pre ce.out).all).mono ?_
        rintro e w9 ⟨i9, rfl, aa, np, ar⟩
        exact ⟨_, rfl, (HG.out _ _).2 ⟨Qa3 V.out.1 (by rw [ah.out]; rfl), V.out.2.open6 ce.out bc.out aa np ar⟩⟩
       | 7, _ =>
        obtain rfl := Option.some.inj H
        have d6 := c ⟨6, .data⟩ (by simp) rfl
        obtain ⟨i7, e7, ae⟩ := C.2.s7 d6
        have pz : b.tmps[132]? = some (spO.ov i7) := (u.done 6 132 d6 rfl (by simp)).trans (congrArg some e7)
        refine Qa1 (spO.ov i7) ⟨_, rfl, Qa3 C.1 (ve y rfl), ae⟩ ?_
        clear H c u C O y ae d6 e7
        go_simp
       | 8, _ =>
        obtain rfl := Option.some.inj H
        have d7 := c ⟨7, .data⟩ (by simp) rfl
        obtain ⟨i7, e7, ae⟩ := C.2.at7 d7
        have me : b.tmps[125]? = some (.tuple #[spO.pt i7, spO.fv i7]) := (u.done 7 125 d7 rfl (by simp)).trans (congrArg some e7)
        refine Qa1 (spO.pt i7) ⟨_, rfl, Qa3 C.1 (ve y rfl), ae⟩ ?_
        clear H c u C O y ae d7 e7
        go_simp
       | 9, _ =>
        obtain rfl := Option.some.inj H
        have d7 := c ⟨7, .data⟩ (by simp) rfl
        obtain ⟨i7, e7, ae⟩ := C.2.at9 d7
        have me : b.tmps[125]? = some (.tuple #[spO.pt i7, spO.fv i7]) := (u.done 7 125 d7 rfl (by simp)).trans (congrArg some e7)
        refine Qa1 (spO.fv i7) ⟨_, rfl, Qa3 C.1 (ve y rfl), ae⟩ ?_
        clear H c u C O y ae d7 e7
        go_simp
       | 10, _ =>
        obtain rfl := Option.some.inj H
        have ju := C.2.no10 O
        refine Oper.wp_mono (K := fun a' w' => a' = b.put (some 25) (.pointer (some ⟨W.heap.size, 0, none⟩)) /\ w' = W.alloc (.cells #[.int .i64 0, .int .i64 0, .int .i64 0, .int .i64 0] 33)) (by rintro a' w' ⟨rfl, rfl⟩; exact ⟨_, rfl, Qa3 C.1 (ve y rfl), C.2.alloc bz.out bf.out ju⟩) ?_
        clear H c u C O y ju
        go_simp
       | 11, _ =>
        obtain rfl := Option.some.inj H
        have d8 := c ⟨8, .data⟩ (by simp) rfl
        obtain ⟨i7, e7, ae⟩ := C.2.at8 d8
        have q8 : b.tmps[133]? = some (spO.pt i7) := (u.done 8 133 d8 rfl (by simp)).trans (congrArg some e7)
        refine Qa1 (spO.pt i7) ⟨_, rfl, Qa3 C.1 (ve y rfl), ae⟩ ?_
        clear H c u C O y ae d8 e7
        go_simp
       | 12, _ =>
        obtain rfl := Option.some.inj H
        have jt := c ⟨10, .data⟩ (by simp) rfl
        have d9 := c ⟨9, .data⟩ (by simp) rfl
        obtain ⟨i7, f, e9, f1, ⟨x0, x1, x2, x3, f3⟩, -, ae⟩ := C.2.put bf.out d9 jt
        have dj : b.tmps[25]? = some (.pointer (some ⟨f, 0, none⟩)) := (u.done 10 25 jt rfl (by simp)).trans (congrArg some f1)
        have mf : b.tmps[134]? = some (spO.fv i7) := (u.done 9 134 d9 rfl (by simp)).trans (congrArg some e9)
        refine wp_store_mid 33 (.tmp 25) (.tmp 134) rfl f 0 #[spO.y0 i7, spO.y1 i7, spO.y2 i7, spO.y3 i7] (by simp only [Act.eval, Array.getD_eq_getD_getElem?, dj, Option.getD_some]) (by simp only [Act.eval, Array.getD_eq_getD_getElem?, mf, Option.getD_some]) (Qiv f3 rfl) (by kernel_rfl) (QAy i7) ?_
        exact ⟨undef, rfl, Qa3 C.1 (ve y rfl), ae⟩
      ·exact ⟨fun _ _ _ h => (by simp at h), SpX.start fw.out (by simp) (by simp) (by simp) (by simp) (by simp) (by simp) (by simp) (by simp)⟩
      ·intro L W C
       have e0 : L 0 = .pointer (some ⟨bt, 0, none⟩) := C.1 0 _ (ve y rfl) rfl
       have e1 : L 1 = .agg (Dt.map encB).toArray := C.1 1 _ (ve y rfl) rfl
       have e2 : L 2 = .slice (some ⟨gg, 0, none⟩) 10 10 := C.1 2 _ (ve y rfl) rfl
       have e3 : L 3 = .int .i64 (k : Int) := C.1 3 _ (ve y rfl) rfl
       have e4 : L 4 = .pointer (some ⟨gg, k, none⟩) := C.1 4 _ (ve y rfl) rfl
       have e5 : L 5 = .string s := C.1 5 _ (ve y rfl) rfl
       have hX := C.2
       simp only [runFrom, Act.put, Nat.zero_add, Nat.reduceAdd, List.setIfInBounds_toArray, List.set_cons_zero, List.set_cons_succ, e0, e1, e2, e3, e4, e5]
       clear C y e0 e1 e2 e3 e4 e5
       obtain ⟨i9, q1, q2, q3, q4, q5, q6⟩ := hX.post rfl
       obtain ⟨f, f1, f2, f3⟩ := q6.fault
       have HY : Hid (L 11 = spO.pt i9 /\ L 10 = .pointer (some ⟨f, 0, none⟩) /\ P2 i9 W /\ F2 i9 f /\ W.heap[f]? = some (.cells #[spO.y0 i9, spO.y1 i9, spO.y2 i9, spO.y3 i9] 33 (0, 0))) := ⟨q5 rfl, f1, q6.all, f2, f3⟩
       clear hX q1 q2 q3 q4 q5 q6 f1 f2 f3
       (try go_wp2)
       go_meet
       exact ⟨i9, f, HY.out⟩
     case rest => as_aux_lemma =>
      obtain ⟨⟨R, q, Jq, er⟩, fb, rfl, rfl, hp, E, fh⟩ := hcut
      obtain ⟨wH, rfl⟩ : ∃ x, x = wc := ⟨_, rfl⟩
      rw [fx.out] at hp
      have jk : Hid (bt ≠ R) := hp.2.1
      have es : TwS w wG U3 B bt R t q Jq wH := hp.1
      cases er with
      | none =>
       have H : openF Dt s = .ok q := hp.2.2
       obtain ⟨c0, -⟩ := Qax (x0 := .int .i64 0) (x1 := .int .i64 0) (x2 := .int .i64 0) (x3 := .int .i64 0) (b := fb) (w := wH) fh
       have cq : spO.pt ⟨R, q, Jq, none⟩ = .pointer (some ⟨R, 0, none⟩) := rfl
       rw [cq]
       obtain ⟨o1, o2, o3, o4, o5⟩ := QAn H
       have jn : Hid (q.cn 64 /\ q.dig = Dt) := ⟨Qy6 q 0 (by omega) o1 o2, o3⟩
       have ny : (q.witness true []).length <= 8000 := by rw [<- Qaa, o4]; exact o5
       have na : Hid (∀ W, TwS w wG U3 B bt R t q Jq W -> Calls Tryz.prog 11 #[.pointer (some ⟨R, 0, none⟩)] W fun e w' => e = .returned (.string s) /\ Fr B Jq Jq W w') := fun W h => by
        have := Qke h.q.wood (HT.out _ h.q.below).1 T.out.2.2.1 h.p (by omega)
        rw [o4] at this
        exact this
       have n6 : Hid (∀ W, TwS w wG U3 B bt R t q Jq W -> Calls Tryz.prog 8 #[.pointer (some ⟨R, 0, none⟩)] W fun e w' => e = .returned (.agg (Dt.map encB).toArray) /\ Fr B Jq Jq W w') := fun W h => by
        have := Qf7 h.q.wood (HT.out _ h.q.below).1 T.out.2.2.1 h.p
        rw [o3] at this
        exact this
       have lp : Hid (∀ W, TwS w wG U3 B bt R t q Jq W -> Calls Tryz.prog 8 #[.pointer (some ⟨bt, 0, none⟩)] W fun e w' => e = .returned (.agg (Dt.map encB).toArray) /\ Fr B Jq Jq W w') := fun W h => by
        have := Qf7 h.q.wood (HT.out _ h.q.below).1 T.out.2.2.1 h.q.tree
        rw [HA.out.2.2.2.1] at this
        exact this
       have HQ : Hid (∀ w : World, (Op.equalIn 10000 37 (.agg (Dt.map encB).toArray) (.agg (Dt.map encB).toArray)).run Tryz.prog w = .ok true w) := Qux Dt HA.out.2.2.2.2.2.1 HA.out.2.2.2.2.2.2
       clear hp E fh H cq o1 o2 o3 o4 o5 ny bz bf fw HL bn bm fx jh
       go_upto_region 21 with fail
       refine wp_region_any (by kernel_rfl) ?_
       change wpAny _ _ _ _ _ _ _ (World.drew _)
       obtain ⟨f, E⟩ : ∃ f : Nat -> Value, f = fun i => ([.pointer (some ⟨R, 0, none⟩), .bool false, .bool false, .pointer (some ⟨R, 0, none⟩), .string s, .slice (some ⟨gg, 0, none⟩) 10 10, .int .i64 (k : Int), .pointer (some ⟨gg, k, none⟩), .string s, .bool false, .bool false, .bool false, .pointer (some ⟨R, 0, none⟩), .agg (Dt.map encB).toArray, .pointer (some ⟨bt, 0, none⟩), .agg (Dt.map encB).toArray, .bool false, .bool false] : List Value).getD i undef := ⟨_, rfl⟩
       refine Qd2 _ _ f (fun W => TwS w wG U3 B bt R t q Jq W) (by kernel_rfl) (by kernel_rfl) ?_ _ ?_ rfl ?_
       ·intro i o H aq b W u c I
        have hi : i < 18 := (Array.getElem?_eq_some_iff.1 H).1
        match i, hi with
        | 0, _ =>
         obtain rfl := Option.some.inj H
         rw [show f 0 = .pointer (some ⟨R, 0, none⟩) from fe E rfl]
         exact ⟨fun _ => Qay (.pointer (some ⟨R, 0, none⟩)) 24 rfl (u.rs 24 (by kernel_rfl)) ⟨rfl, I⟩, by simp [Region.wanted]⟩
        | 1, _ =>
         obtain rfl := Option.some.inj H
         have q9 := u.dn 0 138 (.pointer (some ⟨R, 0, none⟩)) (c ⟨0, .data⟩ (by simp) rfl) rfl (by simp) (fe E rfl)
         rw [show f 1 = .bool false from fe E rfl]
         refine ⟨fun _ => ?_, by simp [Region.wanted]⟩
         clear H E c u
         refine Qa1 (.bool false) ⟨rfl, I⟩ ?_
         clear I
         go_simp
        | 2, _ =>
         obtain rfl := Option.some.inj H
         rw [show f 2 = .bool false from fe E rfl]
         exact ⟨fun _ => Qay (.bool false) 139 rfl (u.dn 1 139 (.bool false) (c ⟨1, .data⟩ (by simp) rfl) rfl (by simp) (fe E rfl)) ⟨rfl, I⟩, by simp [Region.wanted]⟩
        | 3, _ =>
         obtain rfl := Option.some.inj H
         rw [show f 3 = .pointer (some ⟨R, 0, none⟩) from fe E rfl]
         have N := u.dn 2 140 (.bool false) (c ⟨2, .guard⟩ (by simp) rfl) rfl (by simp) (fe E rfl)
         exact ⟨fun _ => Qay (.pointer (some ⟨R, 0, none⟩)) 24 rfl (u.rs 24 (by kernel_rfl)) ⟨rfl, I⟩, by simp [Region.wanted, yielded, N]⟩
        | 4, _ =>
         obtain rfl := Option.some.inj H
         have qd := u.dn 3 141 (.pointer (some ⟨R, 0, none⟩)) (c ⟨3, .data⟩ (by simp) rfl) rfl (by simp) (fe E rfl)
         rw [show f 4 = .string s from fe E rfl]
         have N := u.dn 2 140 (.bool false) (c ⟨2, .guard⟩ (by simp) rfl) rfl (by simp) (fe E rfl)
         refine ⟨fun _ => ?_, by simp [Region.wanted, yielded, N]⟩
         clear H E c u N
         have ba := Hq (na.out W I)
         have bg := Hq I
         clear I
         go_simp
         go_at_call 11
         refine ba.out.mono ?_
         rintro e w9 ⟨rfl, aa⟩
         exact ⟨rfl, bg.out.fr T.out.1 aa⟩
        | 5, _ =>
         obtain rfl := Option.some.inj H
         rw [show f 5 = .slice (some ⟨gg, 0, none⟩) 10 10 from fe E rfl]
         have N := u.dn 2 140 (.bool false) (c ⟨2, .guard⟩ (by simp) rfl) rfl (by simp) (fe E rfl)
         exact ⟨fun _ => Qay (.slice (some ⟨gg, 0, none⟩) 10 10) 22 rfl (u.rs 22 (by kernel_rfl)) ⟨rfl, I⟩, by simp [Region.wanted, yielded, N]⟩
        | 6, _ =>
         obtain rfl := Option.some.inj H
         rw [show f 6 = .int .i64 (k : Int) from fe E rfl]
         have N := u.dn 2 140 (.bool false) (c ⟨2, .guard⟩ (by simp) rfl) rfl (by simp) (fe E rfl)
         exact ⟨fun _ => Qay (.int .i64 (k : Int)) 23 rfl (u.rs 23 (by kernel_rfl)) ⟨rfl, I⟩, by simp [Region.wanted, yielded, N]⟩
        | 7, _ =>
         obtain rfl := Option.some.inj H
         have qf := u.dn 5 143 (.slice (some ⟨gg, 0, none⟩) 10 10) (c ⟨5, .data⟩ (by simp) rfl) rfl (by simp) (fe E rfl)
         have qg := u.dn 6 144 (.int .i64 (k : Int)) (c ⟨6, .data⟩ (by simp) rfl) rfl (by simp) (fe E rfl)
         rw [show f 7 = .pointer (some ⟨gg, k, none⟩) from fe E rfl]
         have N := u.dn 2 140 (.bool false) (c ⟨2, .guard⟩ (by simp) rfl) rfl (by simp) (fe E rfl)
         refine ⟨fun _ => ?_, by simp [Region.wanted, yielded, N]⟩
         clear H E c u N
         refine Qa1 (.pointer (some ⟨gg, k, none⟩)) ⟨rfl, I⟩ ?_
         clear I
         go_simp
        | 8, _ =>
         obtain rfl := Option.some.inj H
         have qh := u.dn 7 145 (.pointer (some ⟨gg, k, none⟩)) (c ⟨7, .data⟩ (by simp) rfl) rfl (by simp) (fe E rfl)
         rw [show f 8 = .string s from fe E rfl]
         have N := u.dn 2 140 (.bool false) (c ⟨2, .guard⟩ (by simp) rfl) rfl (by simp) (fe E rfl)
         refine ⟨fun _ => ?_, by simp [Region.wanted, yielded, N]⟩
         clear H E c u N
         have z5 := dw.out W I
         refine Qa1 (.string s) ⟨rfl, I⟩ ?_
         clear I
         go_simp
        | 9, _ =>
         obtain rfl := Option.some.inj H
         have qe := u.dn 4 142 (.string s) (c ⟨4, .data⟩ (by simp) rfl) rfl (by simp) (fe E rfl)
         have qi := u.dn 8 146 (.string s) (c ⟨8, .data⟩ (by simp) rfl) rfl (by simp) (fe E rfl)
         rw [show f 9 = .bool false from fe E rfl]
         have N := u.dn 2 140 (.bool false) (c ⟨2, .guard⟩ (by simp) rfl) rfl (by simp) (fe E rfl)
         refine ⟨fun _ => ?_, by simp [Region.wanted, yielded, N]⟩
         clear H E c u N
         refine Qa1 (.bool false) ⟨rfl, I⟩ ?_
         clear I
         go_simp
        | 10, _ =>
         obtain rfl := Option.some.inj H
         have qb := u.dn 2 140 (.bool false) (c ⟨2, .data⟩ (by simp) rfl) rfl (by simp) (fe E rfl)
         have qj := u.dn 9 147 (.bool false) (c ⟨9, .data⟩ (by simp) rfl) rfl (by simp) (fe E rfl)
         rw [show f 10 = .bool false from fe E rfl]
         refine ⟨fun _ => ?_, by simp [Region.wanted]⟩
         clear H E c u
         refine Qa1 (.bool false) ⟨rfl, I⟩ ?_
         clear I
         go_simp
        | 11, _ =>
         obtain rfl := Option.some.inj H
         rw [show f 11 = .bool false from fe E rfl]
         exact ⟨fun _ => Qay (.bool false) 148 rfl (u.dn 10 148 (.bool false) (c ⟨10, .data⟩ (by simp) rfl) rfl (by simp) (fe E rfl)) ⟨rfl, I⟩, by simp [Region.wanted]⟩
        | 12, _ =>
         obtain rfl := Option.some.inj H
         rw [show f 12 = .pointer (some ⟨R, 0, none⟩) from fe E rfl]
         have N := u.dn 11 149 (.bool false) (c ⟨11, .guard⟩ (by simp) rfl) rfl (by simp) (fe E rfl)
         exact ⟨fun _ => Qay (.pointer (some ⟨R, 0, none⟩)) 24 rfl (u.rs 24 (by kernel_rfl)) ⟨rfl, I⟩, by simp [Region.wanted, yielded, N]⟩
        | 13, _ =>
         obtain rfl := Option.some.inj H
         have qm := u.dn 12 150 (.pointer (some ⟨R, 0, none⟩)) (c ⟨12, .data⟩ (by simp) rfl) rfl (by simp) (fe E rfl)
         rw [show f 13 = .agg (Dt.map encB).toArray from fe E rfl]
         have N := u.dn 11 149 (.bool false) (c ⟨11, .guard⟩ (by simp) rfl) rfl (by simp) (fe E rfl)
         refine ⟨fun _ => ?_, by simp [Region.wanted, yielded, N]⟩
         clear H E c u N
         have ba := Hq (n6.out W I)
         have bg := Hq I
         clear I
         go_simp
         go_at_call 8
         refine ba.out.mono ?_
         rintro e w9 ⟨rfl, aa⟩
         exact ⟨rfl, bg.out.fr T.out.1 aa⟩
        | 14, _ =>
         obtain rfl := Option.some.inj H
         rw [show f 14 = .pointer (some ⟨bt, 0, none⟩) from fe E rfl]
         have N := u.dn 11 149 (.bool false) (c ⟨11, .guard⟩ (by simp) rfl) rfl (by simp) (fe E rfl)
         exact ⟨fun _ => Qay (.pointer (some ⟨bt, 0, none⟩)) 12 rfl (u.rs 12 (by kernel_rfl)) ⟨rfl, I⟩, by simp [Region.wanted, yielded, N]⟩
        | 15, _ =>
         obtain rfl := Option.some.inj H
         have qo := u.dn 14 152 (.pointer (some ⟨bt, 0, none⟩)) (c ⟨14, .data⟩ (by simp) rfl) rfl (by simp) (fe E rfl)
         rw [show f 15 = .agg (Dt.map encB).toArray from fe E rfl]
         have N := u.dn 11 149 (.bool false) (c ⟨11, .guard⟩ (by simp) rfl) rfl (by simp) (fe E rfl)
         refine ⟨fun _ => ?_, by simp [Region.wanted, yielded, N]⟩
         clear H E c u N
         have ba := Hq (lp.out W I)
         have bg := Hq I
         clear I
         go_simp
         go_at_call 8
         refine ba.out.mono ?_
         rintro e w9 ⟨rfl, aa⟩
         exact ⟨rfl, bg.out.fr T.out.1 aa⟩
        | 16, _ =>
         obtain rfl := Option.some.inj H
         have qn := u.dn 13 151 (.agg (Dt.map encB).toArray) (c ⟨13, .data⟩ (by simp) rfl) rfl (by simp) (fe E rfl)
         have qp := u.dn 15 153 (.agg (Dt.map encB).toArray) (c ⟨15, .data⟩ (by simp) rfl) rfl (by simp) (fe E rfl)
         rw [show f 16 = .bool false from fe E rfl]
         have N := u.dn 11 149 (.bool false) (c ⟨11, .guard⟩ (by simp) rfl) rfl (by simp) (fe E rfl)
         refine ⟨fun _ => ?_, by simp [Region.wanted, yielded, N]⟩
         clear H E c u N
         have si := HQ.out
         refine Qa1 (.bool false) ⟨rfl, I⟩ ?_
         clear I
         go_simp
        | 17, _ =>
         obtain rfl := Option.some.inj H
         have ql := u.dn 11 149 (.bool false) (c ⟨11, .data⟩ (by simp) rfl) rfl (by simp) (fe E rfl)
         have qr := u.dn 16 154 (.bool false) (c ⟨16, .data⟩ (by simp) rfl) rfl (by simp) (fe E rfl)
         rw [show f 17 = .bool false from fe E rfl]
         refine ⟨fun _ => ?_, by simp [Region.wanted]⟩
         clear H E c u
         refine Qa1 (.bool false) ⟨rfl, I⟩ ?_
         clear I
         go_simp
       ·exact es.more T.out.1 (Below.refl _ _).drew
       ·intro W I
        have e0 : f 0 = .pointer (some ⟨R, 0, none⟩) := by rw [E]; rfl
        have e1 : f 1 = .bool false := by rw [E]; rfl
        have e2 : f 2 = .bool false := by rw [E]; rfl
        have e3 : f 3 = .pointer (some ⟨R, 0, none⟩) := by rw [E]; rfl
        have e4 : f 4 = .string s := by rw [E]; rfl
        have e5 : f 5 = .slice (some ⟨gg, 0, none⟩) 10 10 := by rw [E]; rfl
        have e6 : f 6 = .int .i64 (k : Int) := by rw [E]; rfl
        have e7 : f 7 = .pointer (some ⟨gg, k, none⟩) := by rw [E]; rfl
        have e8 : f 8 = .string s := by rw [E]; rfl
        have e9 : f 9 = .bool false := by rw [E]; rfl
        have ai : f 10 = .bool false := by rw [E]; rfl
        have aw : f 11 = .bool false := by rw [E]; rfl
        have aj : f 12 = .pointer (some ⟨R, 0, none⟩) := by rw [E]; rfl
        have ak : f 13 = .agg (Dt.map encB).toArray := by rw [E]; rfl
        have al : f 14 = .pointer (some ⟨bt, 0, none⟩) := by rw [E]; rfl
        have am : f 15 = .agg (Dt.map encB).toArray := by rw [E]; rfl
        have ao : f 16 = .bool false := by rw [E]; rfl
        have ap : f 17 = .bool false := by rw [E]; rfl
        simp only [runFrom, Act.put, Nat.zero_add, Nat.reduceAdd, List.setIfInBounds_toArray, List.set_cons_zero, List.set_cons_succ, e0, e1, e2, e3, e4, e5, e6, e7, e8, e9, ai, aw, aj, ak, al, am, ao, ap]
        clear E e0 e1 e2 e3 e4 e5 e6 e7 e8 e9 ai aw aj ak al am ao ap
        have cf := Hq I
        clear I es
        go_wp2
        go_loopg [26] Ks.length (fun gh i wz => ∃ j, j <= Ks.length /\ gh = Ks.length - j /\ i = .int .i64 ((j : Nat) : Int) /\ TwS w wG U3 B bt R t q Jq wz)
        case atStart => exact ⟨0, Nat.zero_le _, rfl, rfl, cf.out⟩
        case round =>
         obtain ⟨j, hj, rfl, rfl, eu⟩ := hrel
         by_cases fk : j < Ks.length
         ·have i2 : (j : Int) < (Ks.length : Int) := by omega
          obtain ⟨K, gj⟩ : ∃ K, Ks[j] = K := ⟨_, rfl⟩
          have cu : K.size = 32 /\ Bytes K := by rw [<- gj]; exact HG.out.2.2.2.2.2.2.2.1 _ (List.getElem_mem _)
          have oe : (Tryz.prog.info? 42).map (·.size) = some (K.toList.map encB).length := by rw [Qb4]; simp [cu.1]
          have mj : Hid (∀ W, TwS w wG U3 B bt R t q Jq W -> W.rangeAt gk (j * 32) (K.toList.map encB)) := fun W h => by rw [<- gj]; exact Qa4 (HG.out.2.2.2.2.1 j fk) (h.q.keep gk HG.out.2.2.1)
          have mh : Hid (∀ W, TwS w wG U3 B bt R t q Jq W -> Calls Tryz.prog 12 #[.agg #[.slice pk m.length ck, .slice pv m.length cv], .pointer (some ⟨bt, 0, none⟩), .pointer (some ⟨R, 0, none⟩), .agg (K.toList.map encB).toArray] W fun e w' => e = .returned (.bool true) /\ Fr B Jq Jq W w') := fun W h =>
           Qsu sent ((HE.out.1.below h.q.below).faults) (fun W' E => (HT.out _ ((h.fr T.out.1 E).q.below)).1) T.out.2.2.1 h.q.wood h.q.tree h.p HM.out.1 jn.out.1 (jn.out.2.trans HA.out.2.2.2.1.symm) (HM.out.2 _ (QAm cu.1)) (HG.out.2.1.at h).2 (fun i hx => (HG.out.2.1.rows h i hx).1) (by have := bc.out.2.1; omega) (Quv bc.out.1) cu.1 cu.2
          have HJ : Hid (j < Ks.length) := fk
          clear gj cu hj fk cf
          go_upto_region 26 with fail
          refine wp_region_any (by kernel_rfl) ?_
          change wpAny _ _ _ _ _ _ _ (World.drew _)
          obtain ⟨f, E⟩ : ∃ f : Nat -> Value, f = fun i => ([.agg #[.slice pk m.length ck, .slice pv m.length cv], .pointer (some ⟨bt, 0, none⟩), .pointer (some ⟨R, 0, none⟩), .slice (some ⟨gk, 0, none⟩) Ks.length c10, .int .i64 (j : Int), .pointer (some ⟨gk, j * 32, none⟩), .agg (K.toList.map encB).toArray, .bool true, .bool true] : List Value).getD i undef := ⟨_, rfl⟩
          refine Qdl _ _ f (fun W => TwS w wG U3 B bt R t q Jq W) (by kernel_rfl) (by kernel_rfl) ?_ _ ?_ rfl ?_
          ·intro i o H aq b W u c I
           have hi : i < 9 := (Array.getElem?_eq_some_iff.1 H).1
           match i, hi with
           | 0, _ =>
            obtain rfl := Option.some.inj H
            have sr : b.tmps[11]? = some (.pointer (some ⟨n1, 0, none⟩)) := u.rs 11 (by kernel_rfl)
            rw [show f 0 = .agg #[.slice pk m.length ck, .slice pv m.length cv] from fe E rfl]
            clear H E c u
            obtain ⟨z0, z1, -⟩ := Qa7 (HG.out.2.1.at I).1
            refine Qa1 (.agg #[.slice pk m.length ck, .slice pv m.length cv]) ⟨rfl, I⟩ ?_
            clear I
            go_simp
           | 1, _ =>
            obtain rfl := Option.some.inj H
            rw [show f 1 = .pointer (some ⟨bt, 0, none⟩) from fe E rfl]
            exact Qay (.pointer (some ⟨bt, 0, none⟩)) 12 rfl (u.rs 12 (by kernel_rfl)) ⟨rfl, I⟩
           | 2, _ =>
            obtain rfl := Option.some.inj H
            rw [show f 2 = .pointer (some ⟨R, 0, none⟩) from fe E rfl]
            exact Qay (.pointer (some ⟨R, 0, none⟩)) 24 rfl (u.rs 24 (by kernel_rfl)) ⟨rfl, I⟩
           | 3, _ =>
            obtain rfl := Option.some.inj H
            rw [show f 3 = .slice (some ⟨gk, 0, none⟩) Ks.length c10 from fe E rfl]
            exact Qay (.slice (some ⟨gk, 0, none⟩) Ks.length c10) 21 rfl (u.rs 21 (by kernel_rfl)) ⟨rfl, I⟩
           | 4, _ =>
            obtain rfl := Option.some.inj H
            rw [show f 4 = .int .i64 (j : Int) from fe E rfl]
            exact Qay (.int .i64 (j : Int)) 26 rfl (u.rs 26 (by kernel_rfl)) ⟨rfl, I⟩
           | 5, _ =>
            obtain rfl := Option.some.inj H
            have qx := u.dn 3 165 (.slice (some ⟨gk, 0, none⟩) Ks.length c10) (c ⟨3, .data⟩ (by simp) rfl) rfl (by simp) (fe E rfl)
            have qy := u.dn 4 166 (.int .i64 (j : Int)) (c ⟨4, .data⟩ (by simp) rfl) rfl (by simp) (fe E rfl)
            rw [show f 5 = .pointer (some ⟨gk, j * 32, none⟩) from fe E rfl]
            clear H E c u
            refine Qa1 (.pointer (some ⟨gk, j * 32, none⟩)) ⟨rfl, I⟩ ?_
            clear I
            go_simp
           | 6, _ =>
            obtain rfl := Option.some.inj H
            have mg := u.dn 5 167 (.pointer (some ⟨gk, j * 32, none⟩)) (c ⟨5, .data⟩ (by simp) rfl) rfl (by simp) (fe E rfl)
            rw [show f 6 = .agg (K.toList.map encB).toArray from fe E rfl]
            clear H E c u
            refine wp_load_mid 42 (.tmp 167) rfl gk (j * 32) (by simp only [Act.eval, Array.getD_eq_getD_getElem?, mg, Option.getD_some]) (K.toList.map encB) _ (mj.out W I) ls rfl oe ?_
            exact ⟨rfl, I⟩
           | 7, _ =>
            obtain rfl := Option.some.inj H
            have qt := u.dn 0 162 (.agg #[.slice pk m.length ck, .slice pv m.length cv]) (c ⟨0, .data⟩ (by simp) rfl) rfl (by simp) (fe E rfl)
            have qu := u.dn 1 163 (.pointer (some ⟨bt, 0, none⟩)) (c ⟨1, .data⟩ (by simp) rfl) rfl (by simp) (fe E rfl)
            have qw := u.dn 2 164 (.pointer (some ⟨R, 0, none⟩)) (c ⟨2, .data⟩ (by simp) rfl) rfl (by simp) (fe E rfl)
            have qz := u.dn 6 168 (.agg (K.toList.map encB).toArray) (c ⟨6, .data⟩ (by simp) rfl) rfl (by simp) (fe E rfl)
            rw [show f 7 = .bool true from fe E rfl]
            clear H E c u
            have ba := Hq (mh.out W I)
            have bg := Hq I
            clear I
            go_simp
            go_at_call 12
            refine ba.out.mono ?_
            rintro e w9 ⟨rfl, aa⟩
            exact ⟨rfl, bg.out.fr T.out.1 aa⟩
           | 8, _ =>
            obtain rfl := Option.some.inj H
            rw [show f 8 = .bool true from fe E rfl]
            exact QD0 (.bool true) 169 rfl (u.dn 7 169 (.bool true) (c ⟨7, .data⟩ (by simp) rfl) rfl (by simp) (fe E rfl)) ⟨rfl, I⟩
          ·exact eu.more T.out.1 (Below.refl _ _).drew
          ·intro W I
           have e0 : f 0 = .agg #[.slice pk m.length ck, .slice pv m.length cv] := by rw [E]; rfl
           have e1 : f 1 = .pointer (some ⟨bt, 0, none⟩) := by rw [E]; rfl
           have e2 : f 2 = .pointer (some ⟨R, 0, none⟩) := by rw [E]; rfl
           have e3 : f 3 = .slice (some ⟨gk, 0, none⟩) Ks.length c10 := by rw [E]; rfl
           have e4 : f 4 = .int .i64 (j : Int) := by rw [E]; rfl
           have e5 : f 5 = .pointer (some ⟨gk, j * 32, none⟩) := by rw [E]; rfl
           have e6 : f 6 = .agg (K.toList.map encB).toArray := by rw [E]; rfl
           have e7 : f 7 = .bool true := by rw [E]; rfl
           have e8 : f 8 = .bool true := by rw [E]; rfl
           simp only [runFrom, Act.put, Nat.zero_add, Nat.reduceAdd, List.setIfInBounds_toArray, List.set_cons_zero, List.set_cons_succ, e0, e1, e2, e3, e4, e5, e6, e7, e8]
           clear E e0 e1 e2 e3 e4 e5 e6 e7 e8
           have n7 := Hq I
           clear I eu
           go_wp2
           go_roundg (Ks.length - (j + 1))
           case measure => have := HJ.out; omega
           case rel => exact ⟨j + 1, by have := HJ.out; omega, rfl, Qas (Qeu j 1 (by have := HJ.out; have := HG.out.2.2.2.2.2.2.2.2; omega)), n7.out⟩
         ·obtain rfl : j = Ks.length := by omega
          have n8 := Hq eu
          clear eu hj fk cf
          go_wp2
          go_roundg (10 - (k + 1))
          case measure => have := du.out; omega
          case rel => exact ⟨k + 1, R, q, Jq, by have := du.out; omega, rfl, rfl, jk.out, n8.out⟩
      | some er =>
       have H : openF Dt s = .error er := hp.2.2
       obtain ⟨e1, e2, e3, e4⟩ := Qwp H
       obtain ⟨en, fg⟩ : ∃ n, er.num = n := ⟨_, rfl⟩
       obtain ⟨ea, ip⟩ : ∃ n, er.at_ = n := ⟨_, rfl⟩
       have iu : wH.heap[fb]? = some (.cells #[.int .i64 (en : Int), .int .i64 0, .int .i64 0, .int .i64 (ea : Int)] 33 (0, 0)) := by
        rw [fh]
        simp only [spO, erI, e2, e3, fg, ip]
        rfl
       obtain ⟨c0, -⟩ := Qax iu
       have cq : spO.pt ⟨R, q, Jq, some er⟩ = .pointer none := rfl
       rw [cq]
       have sm : ¬ ((en : Int) = 0) := by rw [fg] at e1; omega
       have jg : Hid (en ≠ 0 /\ ¬ ((ea : Int) < 0) /\ ¬ ((s.size : Int) < (ea : Int))) := ⟨by rw [<- fg]; exact e1, by omega, by rw [ip] at e4; omega⟩
       clear hp E fh H cq e1 e2 e3 e4 fg ip bz bf fw HL bn bm fx jh
       go_upto_region 29 with fail
       refine wp_region_any (by kernel_rfl) ?_
       change wpAny _ _ _ _ _ _ _ (World.drew _)
       obtain ⟨f, E⟩ : ∃ f : Nat -> Value, f = fun i => ([.pointer none, .bool false, .bool false, .pointer (some ⟨fb, 1, none⟩), .int .i64 0, .bool false, .bool false, .bool false, .pointer (some ⟨fb, 2, none⟩), .int .i64 0, .bool false, .bool false, .bool false, .pointer (some ⟨fb, 3, none⟩), .int .i64 (ea : Int), .bool false, .bool false, .bool false, .pointer (some ⟨fb, 3, none⟩), .int .i64 (ea : Int), .slice (some ⟨gg, 0, none⟩) 10 10, .int .i64 (k : Int), .pointer (some ⟨gg, k, none⟩), .string s, .int .i64 (s.size : Int), .bool false, .bool false] : List Value).getD i undef := ⟨_, rfl⟩
       refine Qd2 _ _ f (fun W => TwS w wG U3 B bt R t q Jq W /\ W.heap[fb]? = some (.cells #[.int .i64 (en : Int), .int .i64 0, .int .i64 0, .int .i64 (ea : Int)] 33 (0, 0))) (by kernel_rfl) (by kernel_rfl) ?_ _ ?_ rfl ?_
       ·intro i o H aq b W u c I
        have hi : i < 27 := (Array.getElem?_eq_some_iff.1 H).1
        match i, hi with
        | 0, _ =>
         obtain rfl := Option.some.inj H
         rw [show f 0 = .pointer none from fe E rfl]
         exact ⟨fun _ => Qay (.pointer none) 24 rfl (u.rs 24 (by kernel_rfl)) ⟨rfl, I⟩, by simp [Region.wanted]⟩
        | 1, _ =>
         obtain rfl := Option.some.inj H
         have r6 := u.dn 0 172 (.pointer none) (c ⟨0, .data⟩ (by simp) rfl) rfl (by simp) (fe E rfl)
         rw [show f 1 = .bool false from fe E rfl]
         refine ⟨fun _ => ?_, by simp [Region.wanted]⟩
         clear H E c u
         refine Qa1 (.bool false) ⟨rfl, I⟩ ?_
         clear I
         go_simp
        | 2, _ =>
         obtain rfl := Option.some.inj H
         rw [show f 2 = .bool false from fe E rfl]
         exact ⟨fun _ => Qay (.bool false) 173 rfl (u.dn 1 173 (.bool false) (c ⟨1, .data⟩ (by simp) rfl) rfl (by simp) (fe E rfl)) ⟨rfl, I⟩, by simp [Region.wanted]⟩
        | 3, _ =>
         obtain rfl := Option.some.inj H
         have dj : b.tmps[25]? = some (.pointer (some ⟨fb, 0, none⟩)) := u.rs 25 (by kernel_rfl)
         rw [show f 3 = .pointer (some ⟨fb, 1, none⟩) from fe E rfl]
         have N := u.dn 2 174 (.bool false) (c ⟨2, .guard⟩ (by simp) rfl) rfl (by simp) (fe E rfl)
         refine ⟨fun _ => ?_, by simp [Region.wanted, yielded, N]⟩
         clear H E c u N
         refine Qa1 (.pointer (some ⟨fb, 1, none⟩)) ⟨rfl, I⟩ ?_
         clear I
         go_simp
        | 4, _ =>
         obtain rfl := Option.some.inj H
         have ra := u.dn 3 175 (.pointer (some ⟨fb, 1, none⟩)) (c ⟨3, .data⟩ (by simp) rfl) rfl (by simp) (fe E rfl)
         rw [show f 4 = .int .i64 0 from fe E rfl]
         have N := u.dn 2 174 (.bool false) (c ⟨2, .guard⟩ (by simp) rfl) rfl (by simp) (fe E rfl)
         refine ⟨fun _ => ?_, by simp [Region.wanted, yielded, N]⟩
         clear H E c u N
         obtain ⟨c0, c1, c2, c3, -⟩ := Qax I.2
         refine Qa1 (.int .i64 0) ⟨rfl, I⟩ ?_
         clear I
         go_simp
        | 5, _ =>
         obtain rfl := Option.some.inj H
         have re := u.dn 4 176 (.int .i64 0) (c ⟨4, .data⟩ (by simp) rfl) rfl (by simp) (fe E rfl)
         rw [show f 5 = .bool false from fe E rfl]
         have N := u.dn 2 174 (.bool false) (c ⟨2, .guard⟩ (by simp) rfl) rfl (by simp) (fe E rfl)
         refine ⟨fun _ => ?_, by simp [Region.wanted, yielded, N]⟩
         clear H E c u N
         refine Qa1 (.bool false) ⟨rfl, I⟩ ?_
         clear I
         go_simp
        | 6, _ =>
         obtain rfl := Option.some.inj H
         have r7 := u.dn 2 174 (.bool false) (c ⟨2, .data⟩ (by simp) rfl) rfl (by simp) (fe E rfl)
         have rf := u.dn 5 177 (.bool false) (c ⟨5, .data⟩ (by simp) rfl) rfl (by simp) (fe E rfl)
         rw [show f 6 = .bool false from fe E rfl]
         refine ⟨fun _ => ?_, by simp [Region.wanted]⟩
         clear H E c u
         refine Qa1 (.bool false) ⟨rfl, I⟩ ?_
         clear I
         go_simp
        | 7, _ =>
         obtain rfl := Option.some.inj H
         rw [show f 7 = .bool false from fe E rfl]
         exact ⟨fun _ => Qay (.bool false) 178 rfl (u.dn 6 178 (.bool false) (c ⟨6, .data⟩ (by simp) rfl) rfl (by simp) (fe E rfl)) ⟨rfl, I⟩, by simp [Region.wanted]⟩
        | 8, _ =>
         obtain rfl := Option.some.inj H
         have dj : b.tmps[25]? = some (.pointer (some ⟨fb, 0, none⟩)) := u.rs 25 (by kernel_rfl)
         rw [show f 8 = .pointer (some ⟨fb, 2, none⟩) from fe E rfl]
         have N := u.dn 7 179 (.bool false) (c ⟨7, .guard⟩ (by simp) rfl) rfl (by simp) (fe E rfl)
         refine ⟨fun _ => ?_, by simp [Region.wanted, yielded, N]⟩
         clear H E c u N
         refine Qa1 (.pointer (some ⟨fb, 2, none⟩)) ⟨rfl, I⟩ ?_
         clear I
         go_simp
        | 9, _ =>
         obtain rfl := Option.some.inj H
         have ri := u.dn 8 180 (.pointer (some ⟨fb, 2, none⟩)) (c ⟨8, .data⟩ (by simp) rfl) rfl (by simp) (fe E rfl)
         rw [show f 9 = .int .i64 0 from fe E rfl]
         have N := u.dn 7 179 (.bool false) (c ⟨7, .guard⟩ (by simp) rfl) rfl (by simp) (fe E rfl)
         refine ⟨fun _ => ?_, by simp [Region.wanted, yielded, N]⟩
         clear H E c u N
         obtain ⟨c0, c1, c2, c3, -⟩ := Qax I.2
         refine Qa1 (.int .i64 0) ⟨rfl, I⟩ ?_
         clear I
         go_simp
        | 10, _ =>
         obtain rfl := Option.some.inj H
         have rj := u.dn 9 181 (.int .i64 0) (c ⟨9, .data⟩ (by simp) rfl) rfl (by simp) (fe E rfl)
         rw [show f 10 = .bool false from fe E rfl]
         have N := u.dn 7 179 (.bool false) (c ⟨7, .guard⟩ (by simp) rfl) rfl (by simp) (fe E rfl)
         refine ⟨fun _ => ?_, by simp [Region.wanted, yielded, N]⟩
         clear H E c u N
         refine Qa1 (.bool false) ⟨rfl, I⟩ ?_
         clear I
         go_simp
        | 11, _ =>
         obtain rfl := Option.some.inj H
         have rh := u.dn 7 179 (.bool false) (c ⟨7, .data⟩ (by simp) rfl) rfl (by simp) (fe E rfl)
         have rk := u.dn 10 182 (.bool false) (c ⟨10, .data⟩ (by simp) rfl) rfl (by simp) (fe E rfl)
         rw [show f 11 = .bool false from fe E rfl]
         refine ⟨fun _ => ?_, by simp [Region.wanted]⟩
         clear H E c u
         refine Qa1 (.bool false) ⟨rfl, I⟩ ?_
         clear I
         go_simp
        | 12, _ =>
         obtain rfl := Option.some.inj H
         rw [show f 12 = .bool false from fe E rfl]
         exact ⟨fun _ => Qay (.bool false) 183 rfl (u.dn 11 183 (.bool false) (c ⟨11, .data⟩ (by simp) rfl) rfl (by simp) (fe E rfl)) ⟨rfl, I⟩, by simp [Region.wanted]⟩
        | 13, _ =>
         obtain rfl := Option.some.inj H
         have dj : b.tmps[25]? = some (.pointer (some ⟨fb, 0, none⟩)) := u.rs 25 (by kernel_rfl)
         rw [show f 13 = .pointer (some ⟨fb, 3, none⟩) from fe E rfl]
         have N := u.dn 12 184 (.bool false) (c ⟨12, .guard⟩ (by simp) rfl) rfl (by simp) (fe E rfl)
         refine ⟨fun _ => ?_, by simp [Region.wanted, yielded, N]⟩
         clear H E c u N
         refine Qa1 (.pointer (some ⟨fb, 3, none⟩)) ⟨rfl, I⟩ ?_
         clear I
         go_simp
        | 14, _ =>
         obtain rfl := Option.some.inj H
         have rm := u.dn 13 185 (.pointer (some ⟨fb, 3, none⟩)) (c ⟨13, .data⟩ (by simp) rfl) rfl (by simp) (fe E rfl)
         rw [show f 14 = .int .i64 (ea : Int) from fe E rfl]
         have N := u.dn 12 184 (.bool false) (c ⟨12, .guard⟩ (by simp) rfl) rfl (by simp) (fe E rfl)
         refine ⟨fun _ => ?_, by simp [Region.wanted, yielded, N]⟩
         clear H E c u N
         obtain ⟨c0, c1, c2, c3, -⟩ := Qax I.2
         refine Qa1 (.int .i64 (ea : Int)) ⟨rfl, I⟩ ?_
         clear I
         go_simp
        | 15, _ =>
         obtain rfl := Option.some.inj H
         have rn := u.dn 14 186 (.int .i64 (ea : Int)) (c ⟨14, .data⟩ (by simp) rfl) rfl (by simp) (fe E rfl)
         rw [show f 15 = .bool false from fe E rfl]
         have N := u.dn 12 184 (.bool false) (c ⟨12, .guard⟩ (by simp) rfl) rfl (by simp) (fe E rfl)
         refine ⟨fun _ => ?_, by simp [Region.wanted, yielded, N]⟩
         clear H E c u N
         have sg := jg.out.2.1
         refine Qa1 (.bool false) ⟨rfl, I⟩ ?_
         clear I
         go_simp
        | 16, _ =>
         obtain rfl := Option.some.inj H
         have rl := u.dn 12 184 (.bool false) (c ⟨12, .data⟩ (by simp) rfl) rfl (by simp) (fe E rfl)
         have ro := u.dn 15 187 (.bool false) (c ⟨15, .data⟩ (by simp) rfl) rfl (by simp) (fe E rfl)
         rw [show f 16 = .bool false from fe E rfl]
         refine ⟨fun _ => ?_, by simp [Region.wanted]⟩
         clear H E c u
         refine Qa1 (.bool false) ⟨rfl, I⟩ ?_
         clear I
         go_simp
        | 17, _ =>
         obtain rfl := Option.some.inj H
         rw [show f 17 = .bool false from fe E rfl]
         exact ⟨fun _ => Qay (.bool false) 188 rfl (u.dn 16 188 (.bool false) (c ⟨16, .data⟩ (by simp) rfl) rfl (by simp) (fe E rfl)) ⟨rfl, I⟩, by simp [Region.wanted]⟩
        | 18, _ =>
         obtain rfl := Option.some.inj H
         have dj : b.tmps[25]? = some (.pointer (some ⟨fb, 0, none⟩)) := u.rs 25 (by kernel_rfl)
         rw [show f 18 = .pointer (some ⟨fb, 3, none⟩) from fe E rfl]
         have N := u.dn 17 189 (.bool false) (c ⟨17, .guard⟩ (by simp) rfl) rfl (by simp) (fe E rfl)
         refine ⟨fun _ => ?_, by simp [Region.wanted, yielded, N]⟩
         clear H E c u N
         refine Qa1 (.pointer (some ⟨fb, 3, none⟩)) ⟨rfl, I⟩ ?_
         clear I
         go_simp
        | 19, _ =>
         obtain rfl := Option.some.inj H
         have rq := u.dn 18 190 (.pointer (some ⟨fb, 3, none⟩)) (c ⟨18, .data⟩ (by simp) rfl) rfl (by simp) (fe E rfl)
         rw [show f 19 = .int .i64 (ea : Int) from fe E rfl]
         have N := u.dn 17 189 (.bool false) (c ⟨17, .guard⟩ (by simp) rfl) rfl (by simp) (fe E rfl)
         refine ⟨fun _ => ?_, by simp [Region.wanted, yielded, N]⟩
         clear H E c u N
         obtain ⟨c0, c1, c2, c3, -⟩ := Qax I.2
         refine Qa1 (.int .i64 (ea : Int)) ⟨rfl, I⟩ ?_
         clear I
         go_simp
        | 20, _ =>
         obtain rfl := Option.some.inj H
         rw [show f 20 = .slice (some ⟨gg, 0, none⟩) 10 10 from fe E rfl]
         have N := u.dn 17 189 (.bool false) (c ⟨17, .guard⟩ (by simp) rfl) rfl (by simp) (fe E rfl)
         exact ⟨fun _ => Qay (.slice (some ⟨gg, 0, none⟩) 10 10) 22 rfl (u.rs 22 (by kernel_rfl)) ⟨rfl, I⟩, by simp [Region.wanted, yielded, N]⟩
        | 21, _ =>
         obtain rfl := Option.some.inj H
         rw [show f 21 = .int .i64 (k : Int) from fe E rfl]
         have N := u.dn 17 189 (.bool false) (c ⟨17, .guard⟩ (by simp) rfl) rfl (by simp) (fe E rfl)
         exact ⟨fun _ => Qay (.int .i64 (k : Int)) 23 rfl (u.rs 23 (by kernel_rfl)) ⟨rfl, I⟩, by simp [Region.wanted, yielded, N]⟩
        | 22, _ =>
         obtain rfl := Option.some.inj H
         have ru := u.dn 20 192 (.slice (some ⟨gg, 0, none⟩) 10 10) (c ⟨20, .data⟩ (by simp) rfl) rfl (by simp) (fe E rfl)
         have rv := u.dn 21 193 (.int .i64 (k : Int)) (c ⟨21, .data⟩ (by simp) rfl) rfl (by simp) (fe E rfl)
         rw [show f 22 = .pointer (some ⟨gg, k, none⟩) from fe E rfl]
         have N := u.dn 17 189 (.bool false) (c ⟨17, .guard⟩ (by simp) rfl) rfl (by simp) (fe E rfl)
         refine ⟨fun _ => ?_, by simp [Region.wanted, yielded, N]⟩
         clear H E c u N
         refine Qa1 (.pointer (some ⟨gg, k, none⟩)) ⟨rfl, I⟩ ?_
         clear I
         go_simp
        | 23, _ =>
         obtain rfl := Option.some.inj H
         have rx := u.dn 22 194 (.pointer (some ⟨gg, k, none⟩)) (c ⟨22, .data⟩ (by simp) rfl) rfl (by simp) (fe E rfl)
         rw [show f 23 = .string s from fe E rfl]
         have N := u.dn 17 189 (.bool false) (c ⟨17, .guard⟩ (by simp) rfl) rfl (by simp) (fe E rfl)
         refine ⟨fun _ => ?_, by simp [Region.wanted, yielded, N]⟩
         clear H E c u N
         have z5 := dw.out W I.1
         refine Qa1 (.string s) ⟨rfl, I⟩ ?_
         clear I
         go_simp
        | 24, _ =>
         obtain rfl := Option.some.inj H
         have ry := u.dn 23 195 (.string s) (c ⟨23, .data⟩ (by simp) rfl) rfl (by simp) (fe E rfl)
         rw [show f 24 = .int .i64 (s.size : Int) from fe E rfl]
         have N := u.dn 17 189 (.bool false) (c ⟨17, .guard⟩ (by simp) rfl) rfl (by simp) (fe E rfl)
         refine ⟨fun _ => ?_, by simp [Region.wanted, yielded, N]⟩
         clear H E c u N
         refine Qa1 (.int .i64 (s.size : Int)) ⟨rfl, I⟩ ?_
         clear I
         go_simp
        | 25, _ =>
         obtain rfl := Option.some.inj H
         have rt := u.dn 19 191 (.int .i64 (ea : Int)) (c ⟨19, .data⟩ (by simp) rfl) rfl (by simp) (fe E rfl)
         have rz := u.dn 24 196 (.int .i64 (s.size : Int)) (c ⟨24, .data⟩ (by simp) rfl) rfl (by simp) (fe E rfl)
         rw [show f 25 = .bool false from fe E rfl]
         have N := u.dn 17 189 (.bool false) (c ⟨17, .guard⟩ (by simp) rfl) rfl (by simp) (fe E rfl)
         refine ⟨fun _ => ?_, by simp [Region.wanted, yielded, N]⟩
         clear H E c u N
         have sh := jg.out.2.2
         refine Qa1 (.bool false) ⟨rfl, I⟩ ?_
         clear I
         go_simp
        | 26, _ =>
         obtain rfl := Option.some.inj H
         have rp := u.dn 17 189 (.bool false) (c ⟨17, .data⟩ (by simp) rfl) rfl (by simp) (fe E rfl)
         have sa := u.dn 25 197 (.bool false) (c ⟨25, .data⟩ (by simp) rfl) rfl (by simp) (fe E rfl)
         rw [show f 26 = .bool false from fe E rfl]
         refine ⟨fun _ => ?_, by simp [Region.wanted]⟩
         clear H E c u
         refine Qa1 (.bool false) ⟨rfl, I⟩ ?_
         clear I
         go_simp
       ·exact ⟨es.more T.out.1 (Below.refl _ _).drew, iu⟩
       ·intro W I
        have e0 : f 0 = .pointer none := by rw [E]; rfl
        have e1 : f 1 = .bool false := by rw [E]; rfl
        have e2 : f 2 = .bool false := by rw [E]; rfl
        have e3 : f 3 = .pointer (some ⟨fb, 1, none⟩) := by rw [E]; rfl
        have e4 : f 4 = .int .i64 0 := by rw [E]; rfl
        have e5 : f 5 = .bool false := by rw [E]; rfl
        have e6 : f 6 = .bool false := by rw [E]; rfl
        have e7 : f 7 = .bool false := by rw [E]; rfl
        have e8 : f 8 = .pointer (some ⟨fb, 2, none⟩) := by rw [E]; rfl
        have e9 : f 9 = .int .i64 0 := by rw [E]; rfl
        have ai : f 10 = .bool false := by rw [E]; rfl
        have aw : f 11 = .bool false := by rw [E]; rfl
        have aj : f 12 = .bool false := by rw [E]; rfl
        have ak : f 13 = .pointer (some ⟨fb, 3, none⟩) := by rw [E]; rfl
        have al : f 14 = .int .i64 (ea : Int) := by rw [E]; rfl
        have am : f 15 = .bool false := by rw [E]; rfl
        have ao : f 16 = .bool false := by rw [E]; rfl
        have ap : f 17 = .bool false := by rw [E]; rfl
        have ax : f 18 = .pointer (some ⟨fb, 3, none⟩) := by rw [E]; rfl
        have ay : f 19 = .int .i64 (ea : Int) := by rw [E]; rfl
        have cg : f 20 = .slice (some ⟨gg, 0, none⟩) 10 10 := by rw [E]; rfl
        have ch : f 21 = .int .i64 (k : Int) := by rw [E]; rfl
        have ci : f 22 = .pointer (some ⟨gg, k, none⟩) := by rw [E]; rfl
        have cj : f 23 = .string s := by rw [E]; rfl
        have cl : f 24 = .int .i64 (s.size : Int) := by rw [E]; rfl
        have cm : f 25 = .bool false := by rw [E]; rfl
        have cp : f 26 = .bool false := by rw [E]; rfl
        simp only [runFrom, Act.put, Nat.zero_add, Nat.reduceAdd, List.setIfInBounds_toArray, List.set_cons_zero, List.set_cons_succ, e0, e1, e2, e3, e4, e5, e6, e7, e8, e9, ai, aw, aj, ak, al, am, ao, ap, ax, ay, cg, ch, ci, cj, cl, cm, cp]
        clear E e0 e1 e2 e3 e4 e5 e6 e7 e8 e9 ai aw aj ak al am ao ap ax ay cg ch ci cj cl cm cp
        have cf := Hq I.1
        clear I es iu
        go_wp2
        go_roundg (10 - (k + 1))
        case measure => have := du.out; omega
        case rel => exact ⟨k + 1, R, q, Jq, by have := du.out; omega, rfl, rfl, jk.out, cf.out⟩
    ·obtain rfl : k = 10 := by omega
     have ll : Hid (Below w.heap.size w wr) := bh.q.below
     clear bh Z bv j5 HG
     go_wp2
     go_ret
     exact ⟨rfl, ll.out⟩
end Go.Proofs.YtakidhihbgfjlaaGreatDoor
