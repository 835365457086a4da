/-
  Package twigskeep: Tied, the walk.
-/
import Derived.Test.YtoohdfiddbfacaaGreatDoorTeTiG
import Derived.Test.YtoohdfiddbfacaaGreatDoorTeVaG
namespace Go.Proofs.YtoohdfiddbfacaaGreatDoor
open Go.RowKit
set_option maxRecDepth 100000
set_option maxHeartbeats 25600000
attribute [-go_sem] Instr.build Instr.fill Instr.buildSlice
theorem tied_walk (raw more : ByteArray) (ow : List Nat) (asked : ByteArray) (how at_ by_ : Int) (pa : Option Addr) (la : List ByteArray) (ca : Nat) (w : World) (sent : Nat -> Addr) (hE : Env w.heap.size sent w) (hTy : typeAt w) (hTl : 12 < w.heap.size) (hr : raw.size <= 9223372036854775807) (hmo : more.size <= 9223372036854775807) (has : asked.size <= 9223372036854775807) (how' : ow.length = 20) (h1 : -9223372036854775808 <= how /\ how < 9223372036854775808) (h2 : -9223372036854775808 <= at_ /\ at_ < 9223372036854775808) (h3 : -9223372036854775808 <= by_ /\ by_ < 9223372036854775808) (hrow : StrRow w pa la ca) (hpa : ∀ a, pa = some a -> a.block < w.heap.size) (hla : la.length <= 9223372036854775807) :
  Calls Tryz.prog 3 #[.string raw, .string more, .agg (ow.map encB).toArray, .string asked, .int .i64 how, .int .i64 at_, .int .i64 by_, .slice pa la.length ca] w fun e w' => e = .returned (.bool true) /\ Below w.heap.size w w' := by
 obtain ⟨Oc, lj⟩ : ∃ A, (ow.map encB).toArray = A := ⟨_, rfl⟩
 obtain ⟨W0, jl⟩ : ∃ W0, w.alloc (.cells Oc 23) = W0 := ⟨_, rfl⟩
 have jr : W0.rangeAt w.heap.size 0 (ow.map encB) := fun j u hu => by
  rw [<- jl, Nat.zero_add, World.cell?_alloc_new, <- lj]
  simpa using hu
 have qu : Below w.heap.size w W0 := by rw [<- jl]; exact (Below.refl _ _).alloc (Nat.le_refl _) _
 have js : W0.heap.size = w.heap.size + 1 := by rw [<- jl]; simp
 have HA : Hid (StrRow w pa la ca /\ (∀ a, pa = some a -> a.block < w.heap.size) /\ la.length <= 9223372036854775807) := ⟨hrow, hpa, hla⟩
 have HI : Hid ((-9223372036854775808 <= how /\ how < 9223372036854775808) /\ (-9223372036854775808 <= at_ /\ at_ < 9223372036854775808) /\ (-9223372036854775808 <= by_ /\ by_ < 9223372036854775808)) := ⟨h1, h2, h3⟩
 clear h1 h2 h3 hrow hpa hla
 have fm := Hid.hide (known_any raw W0 hr)
 have pj := Hid.hide (fun W => known_any more W hmo)
 have km := Hid.hide (fun fb => value_loop fb asked has)
 have ub := Hid.hide (fun fb W h => value_any fb asked W h has)
 have HE : Hid (Env w.heap.size sent w /\ typeAt w /\ 12 < w.heap.size) := ⟨hE, hTy, hTl⟩
 have HT : Hid (∀ W, Below w.heap.size w W -> Tabs W /\ 15 <= W.heap.size) := fun W hW => ⟨(hE.below hW).tabs, Nat.le_trans hE.low hW.size⟩
 have HL : Hid (ow.length = 20) := how'
 have H0 : Hid (Below w.heap.size w W0 /\ W0.heap.size = w.heap.size + 1 /\ W0.rangeAt w.heap.size 0 (ow.map encB)) := ⟨qu, js, jr⟩
 have cz := Tryz.underlying34
 clear hE hTy hTl hr hmo has how' qu js jr
 rw [lj]
 go_enter Tryz.func3, Tryz.ntmps3
 go_wp2_with fail
 clear jl lj
 refine fm.out.mono ?_
 rintro e w1 ⟨fo, ks, vs, m, rfl, fu, ri, rt⟩
 obtain ⟨pk, mk, ck, rfl⟩ := fu.keys.shape
 obtain ⟨pv, mv, cv, rfl⟩ := fu.vals.shape
 obtain ⟨rfl, rfl⟩ := fu.len
 have H1 : Hid (Below W0.heap.size W0 w1 /\ Kn w1 W0.heap.size (.slice pk m.length ck) (.slice pv m.length cv) m /\ (m.map (·.1)).Nodup /\ m.length <= 12) := ⟨fo, fu, ri, rt⟩
 clear fo fu ri rt fm
 go_wp2_with fail
 obtain ⟨ei, -, -, di⟩ := laid_map w1 (.slice pk m.length ck) (.slice pv m.length cv)
 have ci : (World.alloc w1 (.cells #[.slice pk m.length ck, .slice pv m.length cv] 27)).heap[w1.heap.size]? = some (.cells #[.slice pk m.length ck, .slice pv m.length cv] 27 (0, 0)) := Array.getElem?_push_size
 generalize World.alloc w1 _ = w2 at ei di ci ⊢
 have H2 : Hid (Below w1.heap.size w1 w2 /\ w2.heap.size = w1.heap.size + 1 /\ w2.heap[w1.heap.size]? = some (.cells #[.slice pk m.length ck, .slice pv m.length cv] 27 (0, 0))) := ⟨ei, di, ci⟩
 clear ei di ci
 refine (pj.out w2).mono ?_
 rintro e V ⟨qw, ks, vs, o, rfl, ii, rj, mw⟩
 obtain ⟨qk, nk, dk, rfl⟩ := ii.keys.shape
 obtain ⟨qv, nv, dv, rfl⟩ := ii.vals.shape
 obtain ⟨rfl, rfl⟩ := ii.len
 have H3 : Hid (Below w2.heap.size w2 V /\ Kn V w2.heap.size (.slice qk o.length dk) (.slice qv o.length dv) o /\ (o.map (·.1)).Nodup /\ o.length <= 12) := ⟨qw, ii, rj, mw⟩
 clear qw ii rj mw pj
 go_wp2_with (refine wpList_buildTo rfl 31 _ rfl _ rfl #[.string asked, .int .i64 0] (by kernel_rfl) ?_)
 obtain ⟨lv, -, -, fw⟩ := laid_map V (.slice qk o.length dk) (.slice qv o.length dv)
 have gl : (World.alloc V (.cells #[.slice qk o.length dk, .slice qv o.length dv] 27)).heap[V.heap.size]? = some (.cells #[.slice qk o.length dk, .slice qv o.length dv] 27 (0, 0)) := Array.getElem?_push_size
 generalize World.alloc V (.cells #[.slice qk o.length dk, .slice qv o.length dv] 27) = w4 at lv fw gl ⊢
 have aj := laid_feed w4 asked
 have lx : Below w4.heap.size w4 (World.alloc w4 (.cells #[.string asked, .int .i64 0] 31)) := (Below.refl _ _).alloc (Nat.le_refl _) _
 have im : (World.alloc w4 (.cells #[.string asked, .int .i64 0] 31)).heap.size = w4.heap.size + 1 := by simp
 rw [fw] at aj
 generalize World.alloc w4 _ = w5 at aj lx im ⊢
 have H5 : Hid (Below V.heap.size V w4 /\ w4.heap.size = V.heap.size + 1 /\ w4.heap[V.heap.size]? = some (.cells #[.slice qk o.length dk, .slice qv o.length dv] 27 (0, 0)) /\ Below w4.heap.size w4 w5 /\ w5.heap.size = w4.heap.size + 1 /\ FeedAt w5 (V.heap.size + 1) asked) := ⟨lv, fw, gl, lx, im, aj⟩
 clear lv fw gl lx im aj
 go_wp2_with fail
 refine (km.out _ 4 w5 H5.out.2.2.2.2.2 (by omega) (by omega)).mono ?_
 rintro e w7 ⟨a0, ui, rfl, rl⟩
 have H7 : Hid (Fed (V.heap.size + 1) asked w5 w7 /\ a0 < 256) := ⟨rl, by omega⟩
 have xe : IntKind.u8.wrap (a0 : Int) = (a0 : Int) := wrap8 (by omega)
 clear rl ui
 obtain ⟨sl, fc⟩ : ∃ sl, slotL a0 0 = sl := ⟨_, rfl⟩
 have my : sl.length = 32 := by rw [<- fc]; rfl
 have fp : Tryz.prog.built 34 [(0, .int .u8 (a0 : Int))] = some (sl.map encB).toArray := by rw [<- fc]; kernel_rfl
 have rv : ∀ x ∈ sl, x < 256 := by
  rw [<- fc]
  intro x hx
  simp only [slotL, List.mem_cons, List.not_mem_nil, or_false] at hx
  have := H7.out.2
  omega
 have tf := run_build (P := Tryz.prog) w7 34 #[(0, .int .u8 (a0 : Int))] _ fp
 obtain ⟨tt, z1, z2, o1, b8, r8, s8⟩ := laid_keyl w7 sl my
 have HS : Hid (sl.length = 32 /\ ∀ x ∈ sl, x < 256) := ⟨my, rv⟩
 have lz : Below w.heap.size w w7 := by
  have c := (((((H0.out.1.behind' H1.out.1).behind' H2.out.1).behind' H3.out.1).behind' H5.out.1).behind' H5.out.2.2.2.1)
  exact H7.out.1.1.below c (by have := H0.out.2.1; have := H1.out.1.size; have := H2.out.2.1; have := H3.out.1.size; omega) c.size
 have ot := Hid.hide lz
 clear fc my rv lz fp
 go_wp2_with (first | (refine wpList_store_mid rfl 34 _ _ rfl w7.heap.size 0 (sl.map encB).toArray rfl rfl tt z1 o1 ?_; generalize World.setCells _ w7.heap.size 0 _ = w8 at b8 r8 s8 ⊢) | (refine wpList_load_mid rfl 34 _ rfl w7.heap.size 0 rfl (sl.map encB) _ r8 cz rfl z2 ?_))
 have fk : Hid (Below w7.heap.size w7 w8 /\ w8.rangeAt w7.heap.size 0 (sl.map encB) /\ w7.heap.size < w8.heap.size) := ⟨b8, r8, s8⟩
 obtain ⟨q1, q2⟩ := HT.out w8 (ot.out.behind' b8)
 refine (hashed_l sl HS.out.1 q1 q2).mono ?_
 rintro e w9 ⟨rfl, ah⟩
 obtain ⟨D, hD⟩ : ∃ D, digB sl = D := ⟨_, rfl⟩
 have ee : D.length = 32 := by rw [<- hD]; exact digB_length _
 rw [hD]
 obtain ⟨sw, t7, vk, sk, je, o9, oc⟩ := laid_keyl w9 D ee
 have H9 : Hid (Below w8.heap.size w8 w9 /\ digB sl = D) := ⟨ah, hD⟩
 clear q1 q2 ah b8 r8 s8 tt z1 z2 o1 tf hD ee
 go_upto_region 6 with (refine wpList_store_mid rfl 34 _ _ rfl w9.heap.size 0 (D.map encB).toArray rfl rfl sw t7 sk ?_)
 generalize World.setCells _ w9.heap.size 0 _ = w10 at je o9 oc ⊢
 obtain ⟨sb, ju⟩ : ∃ sb, w7.heap.size = sb := ⟨_, rfl⟩
 obtain ⟨ab, jm⟩ : ∃ ab, w9.heap.size = ab := ⟨_, rfl⟩
 obtain ⟨wA, bl⟩ : ∃ wA, w10 = wA := ⟨_, rfl⟩
 have sa : wA.rangeAt sb 0 (sl.map encB) := by
  rw [<- ju, <- bl]
  exact rangeAt_block (rangeAt_block fk.out.2.1 (H9.out.1.block _ fk.out.2.2)) (je.block _ (by have := H9.out.1.size; have := fk.out.2.2; omega))
 have f9 : wA.rangeAt ab 0 ((digB sl).map encB) := by rw [<- jm, <- bl, H9.out.2]; exact o9
 have aj : Fed (V.heap.size + 1) asked w5 wA := by
  have c : Below w7.heap.size w7 w10 := Below.behind (Below.behind fk.out.1 H9.out.1) je
  rw [<- bl]
  exact ⟨H7.out.1.1.trans (.of_below c), H7.out.1.2.below c⟩
 have q1 : w5.heap.size <= sb := by rw [<- ju]; exact H7.out.1.1.size
 have q2 : sb < ab := by have := H9.out.1.size; have := fk.out.2.2; omega
 have q3 : ab < wA.heap.size := by rw [<- bl, <- jm]; exact oc
 have fc := HS.out.1
 have na := HS.out.2
 clear fk H9 H7 ot HS je o9 oc sw t7 vk sk
 rw [ju, jm, bl]
 clear ju jm bl
 have jt := H1.out.1.size
 have di := H2.out.2.1
 have um := H3.out.1.size
 have fw := H5.out.2.1
 have im := H5.out.2.2.2.2.1
 have js := H0.out.2.1
 have un := aj.1.size
 have l7 : Below V.heap.size V w5 := Below.behind H5.out.1 H5.out.2.2.2.1
 have l6 : Below w2.heap.size w2 w5 := Below.behind H3.out.1 l7
 have l5 : Below w1.heap.size w1 w5 := Below.behind H2.out.1 l6
 have kz : Below W0.heap.size W0 w5 := Below.behind H1.out.1 l5
 have l8 : Below w.heap.size w w5 := Below.behind H0.out.1 kz
 have kt : ∀ k, k < W0.heap.size -> wA.heap[k]? = W0.heap[k]? := fun k hk => (aj.1.block k (by omega) (by omega)).trans (kz.block k hk)
 have ku : ∀ k, k < w1.heap.size -> wA.heap[k]? = w1.heap[k]? := fun k hk => (aj.1.block k (by omega) (by omega)).trans (l5.block k hk)
 have kv : ∀ k, k < w2.heap.size -> wA.heap[k]? = w2.heap[k]? := fun k hk => (aj.1.block k (by omega) (by omega)).trans (l6.block k hk)
 have kw : ∀ k, k < V.heap.size -> wA.heap[k]? = V.heap[k]? := fun k hk => (aj.1.block k (by omega) (by omega)).trans (l7.block k hk)
 have ky : ∀ k, k < w4.heap.size -> k ≠ V.heap.size + 1 -> wA.heap[k]? = w4.heap[k]? := fun k hk ik => (aj.1.block k (by omega) ik).trans (H5.out.2.2.2.1.block k hk)
 have io : ∀ j, Value.ownBlock (.slice pk m.length ck) = some j \/ Value.ownBlock (.slice pv m.length cv) = some j -> W0.heap.size <= j /\ j < w1.heap.size := fun j hj => hj.elim (H1.out.2.1.keys.block j) (H1.out.2.1.vals.block j)
 have ip : ∀ j, Value.ownBlock (.slice qk o.length dk) = some j \/ Value.ownBlock (.slice qv o.length dv) = some j -> w2.heap.size <= j /\ j < V.heap.size := fun j hj => hj.elim (H3.out.2.1.keys.block j) (H3.out.2.1.vals.block j)
 have hU : ∀ k, TiU w w1.heap.size V.heap.size sb ab (.slice pk m.length ck) (.slice pv m.length cv) (.slice qk o.length dk) (.slice qv o.length dv) k -> (k < wA.heap.size /\ w.heap.size <= k) /\ k ≠ V.heap.size + 1 := by
  rintro k (rfl | rfl | rfl | rfl | rfl | e | e | e | e)
  ·omega
  ·omega
  ·omega
  ·omega
  ·omega
  ·have := io k (.inl e); omega
  ·have := io k (.inr e); omega
  ·have := ip k (.inl e); omega
  ·have := ip k (.inr e); omega
 have hM : TiM w ow w1.heap.size V.heap.size sb ab (.slice pk m.length ck) (.slice pv m.length cv) (.slice qk o.length dk) (.slice qv o.length dv) m o sl (digB sl) wA := by
  refine ⟨aj.1.below l8 (by omega) l8.size, rangeAt_block H0.out.2.2 (kt _ (by omega)), (kv _ (by omega)).trans H2.out.2.2, (ky _ (by omega) (by omega)).trans H5.out.2.2.1, ?_, ?_, sa, f9, fun k hk => (hU k hk).1⟩
  ·have := H1.out.2.1.keep2 (w' := wA) (by omega) fun j hj => ku j (io j hj).2
   exact ⟨this.keys.mono (by omega), this.vals.mono (by omega), this.ok, this.apart⟩
  ·have := H3.out.2.1.keep2 (w' := wA) (by omega) fun j hj => kw j (ip j hj).2
   exact ⟨this.keys.mono (by omega), this.vals.mono (by omega), this.ok, this.apart⟩
 have H8 : Hid (TiM w ow w1.heap.size V.heap.size sb ab (.slice pk m.length ck) (.slice pv m.length cv) (.slice qk o.length dk) (.slice qv o.length dv) m o sl (digB sl) wA /\ FeedAt wA (V.heap.size + 1) asked /\ ¬ TiU w w1.heap.size V.heap.size sb ab (.slice pk m.length ck) (.slice pv m.length cv) (.slice qk o.length dk) (.slice qv o.length dv) (V.heap.size + 1)) := ⟨hM, aj.2, fun h => (hU _ h).2 rfl⟩
 have HN : Hid (w.heap.size + 1 <= w1.heap.size /\ w1.heap.size < V.heap.size /\ V.heap.size + 1 < sb /\ sb < ab /\ (∀ j, Value.ownBlock (.slice qk o.length dk) = some j \/ Value.ownBlock (.slice qv o.length dv) = some j -> w1.heap.size < j /\ j < V.heap.size) /\ (∀ j, Value.ownBlock (.slice pk m.length ck) = some j \/ Value.ownBlock (.slice pv m.length cv) = some j -> j < w1.heap.size)) := ⟨by omega, by omega, by omega, q2, fun j hj => (by have := ip j hj; omega), fun j hj => (io j hj).2⟩
 have HD : Hid ((m.map (·.1)).Nodup /\ m.length <= 12 /\ (o.map (·.1)).Nodup /\ o.length <= 12 /\ sl.length = 32 /\ ∀ x ∈ sl, x < 256) := ⟨H1.out.2.2.1, H1.out.2.2.2, H3.out.2.2.1, H3.out.2.2.2, fc, na⟩
 clear js jt di um fw im un l7 l6 l5 kz l8 kt ku kv kw ky io ip hU hM fc na sa f9 aj q1 q2 q3 H0 H1 H2 H3 H5
 simp only [Act.put]
 go_cut [57] (fun a wd => ∃ b : Bool, a = .bool b /\ Fed (V.heap.size + 1) asked wA wd)
 case first =>
  go_wp2_with fail
  refine (km.out _ 2 wA H8.out.2.1 (by omega) (by omega)).mono ?_
  rintro e wd ⟨c, hc, rfl, Q⟩
  have HF := Hid.hide Q
  clear Q hc
  go_wp2
  go_meet
  exact ⟨_, rfl, HF.out⟩
 case rest =>
  obtain ⟨b, rfl, aj⟩ := hcut
  have qn := H8.out.1.only aj.1 (by have := HN.out; omega) H8.out.2.2
  have H9 : Hid (TiM w ow w1.heap.size V.heap.size sb ab (.slice pk m.length ck) (.slice pv m.length cv) (.slice qk o.length dk) (.slice qv o.length dv) m o sl (digB sl) wc /\ FeedAt wc (V.heap.size + 1) asked /\ ¬ TiU w w1.heap.size V.heap.size sb ab (.slice pk m.length ck) (.slice pv m.length cv) (.slice qk o.length dk) (.slice qv o.length dv) (V.heap.size + 1)) := ⟨qn, aj.2, H8.out.2.2⟩
  clear H8 aj qn
  apply_assumption
  go_cut [] (fun wd => ∃ ks vs m, (∃ p1 c1 p2 c2, ks = .slice p1 m.length c1 /\ vs = .slice p2 m.length c2) /\ (∀ j, ks.ownBlock = some j \/ vs.ownBlock = some j -> j ≠ V.heap.size) /\ TiM w ow w1.heap.size V.heap.size sb ab ks vs (.slice qk o.length dk) (.slice qv o.length dv) m o sl (digB sl) wd /\ FeedAt wd (V.heap.size + 1) asked /\ ¬ TiU w w1.heap.size V.heap.size sb ab ks vs (.slice qk o.length dk) (.slice qv o.length dv) (V.heap.size + 1) /\ (m.map (·.1)).Nodup /\ m.length <= 13)
  case first =>
   cases b with
   | false =>
     go_wp2
     go_meet
     exact ⟨_, _, m, ⟨_, _, _, _, rfl, rfl⟩, fun j hj => (by have := HN.out.2.2.2.2.2 j hj; have := HN.out.2.1; omega), H9.out.1, H9.out.2.1, H9.out.2.2, HD.out.1, by have := HD.out.2.1; omega⟩
   | true => as_aux_lemma =>
     go_upto_region 7 with fail
     obtain ⟨DK, jg⟩ : ∃ D, digB sl = D := ⟨_, rfl⟩
     have p8 : Hid (DK.toArray.size = 32 /\ Bytes DK.toArray) := by rw [<- jg]; exact digB_key sl
     have uo : (Tryz.prog.info? 34).map (·.size) = some (DK.map encB).length := by rw [size51, <- jg]; simp [digB_length]
     rw [jg] at H9
     obtain ⟨P0, am⟩ : ∃ P0 : World -> Prop, ∀ w', P0 w' ↔ (TiM w ow w1.heap.size V.heap.size sb ab (.slice pk m.length ck) (.slice pv m.length cv) (.slice qk o.length dk) (.slice qv o.length dv) m o sl DK w' /\ FeedAt w' (V.heap.size + 1) asked) := ⟨_, fun _ => Iff.rfl⟩
     obtain ⟨P4, ic⟩ : ∃ P4 : Value -> World -> Prop, ∀ v w', P4 v w' ↔ (∃ ks vs m', v = .agg #[ks, vs] /\ ∃ C, Kn w' C ks vs m' /\ ab < C /\ (m'.map (·.1)).Nodup /\ m'.length <= 13) := ⟨_, fun _ _ => Iff.rfl⟩
     obtain ⟨P5, ie⟩ : ∃ P5 : World -> Prop, ∀ wd, P5 wd ↔ (∃ ks vs m, (∃ p1 c1 p2 c2, ks = .slice p1 m.length c1 /\ vs = .slice p2 m.length c2) /\ (∀ j, ks.ownBlock = some j \/ vs.ownBlock = some j -> j ≠ V.heap.size) /\ TiM w ow w1.heap.size V.heap.size sb ab ks vs (.slice qk o.length dk) (.slice qv o.length dv) m o sl (digB sl) wd /\ FeedAt wd (V.heap.size + 1) asked /\ ¬ TiU w w1.heap.size V.heap.size sb ab ks vs (.slice qk o.length dk) (.slice qv o.length dv) (V.heap.size + 1) /\ (m.map (·.1)).Nodup /\ m.length <= 13) := ⟨_, fun _ => Iff.rfl⟩
     have HSt : Hid (TiM w ow w1.heap.size V.heap.size sb ab (.slice pk m.length ck) (.slice pv m.length cv) (.slice qk o.length dk) (.slice qv o.length dv) m o sl DK wc.drew /\ FeedAt wc.drew (V.heap.size + 1) asked) := ⟨H9.out.1.more (Below.refl _ _).drew, H9.out.2.1.below (Below.refl _ _).drew⟩
     refine wp_region_any (by kernel_rfl) ?_
     change wpAny _ _ _ _ _ _ _ (World.drew _)
     obtain ⟨vf, E⟩ : ∃ vf : Nat -> Option Value, vf = fun i => ([some (.agg #[.slice pk m.length ck, .slice pv m.length cv]), some (.agg (DK.map encB).toArray), some (.pointer (some ⟨V.heap.size + 1, 0, none⟩)), none, none, none] : List (Option Value)).getD i none := ⟨_, rfl⟩
     refine wpAny_vary _ (fun d v w' => (∀ i x, vf i = some x -> d i = true -> v i = x) /\ (fun d v w' => Dn7 (d 0) (d 1) (d 2) (d 3) (d 4) (d 5) /\ X7 P0 P4 P5 (d 3) (d 4) (d 5) (v 3) (v 4) w') d v w') (by kernel_rfl) (by kernel_rfl) ?_ _ (fun _ => undef) ?_ ?_
     · intro i o I Z O b W l N g H
       have hi : i < 6 := (Array.getElem?_eq_some_iff.1 I).1
       match i, hi with
       | 0, _ =>
         obtain rfl := Option.some.inj I
         have ut : b.tmps[17]? = some (.pointer (some ⟨w1.heap.size, 0, none⟩)) := (l.rest 17 (fun i _ => noDst_of (by kernel_rfl) i)).trans rfl
         obtain ⟨z5, Y⟩ := dn0 H.2.1 N
         have hP := (am W).1 (H.2.2.old z5)
         obtain ⟨z0, z1, _⟩ := box_cells hP.1.box1
         refine opPlain H.1 (by rw [E]; rfl) ⟨Y, H.2.2⟩ ?_
         clear I g l H N E hP Y z5
         go_simp
       | 1, _ =>
         obtain rfl := Option.some.inj I
         have oh : b.tmps[21]? = some (.pointer (some ⟨ab, 0, none⟩)) := (l.rest 21 (fun i _ => noDst_of (by kernel_rfl) i)).trans rfl
         obtain ⟨z5, Y⟩ := dn1 H.2.1 N
         have hP := (am W).1 (H.2.2.old z5)
         refine wp_load_mid 34 (.tmp 21) rfl ab 0 (by simp only [Act.eval, Array.getD_eq_getD_getElem?, oh, Option.getD_some]) (DK.map encB) _ hP.1.at_ cz rfl uo ?_
         exact ⟨_, rfl, vals_step H.1 (by rw [E]; rfl), Y, H.2.2⟩
       | 2, _ =>
         obtain rfl := Option.some.inj I
         have xf : b.tmps[19]? = some (.pointer (some ⟨V.heap.size + 1, 0, none⟩)) := (l.rest 19 (fun i _ => noDst_of (by kernel_rfl) i)).trans rfl
         obtain ⟨z5, Y⟩ := dn2 H.2.1 N
         refine opPlain H.1 (by rw [E]; rfl) ⟨Y, H.2.2⟩ ?_
         clear I g l H N E Y z5
         go_simp
       | 3, _ =>
         obtain rfl := Option.some.inj I
         have xi : b.tmps[60]? = some (.pointer (some ⟨V.heap.size + 1, 0, none⟩)) := tDone l H.1 (g ⟨2, .data⟩ (by simp) rfl) rfl (by simp) (by rw [E]; rfl)
         have d2 := g ⟨2, .data⟩ (by simp) rfl
         obtain ⟨⟨z5, z4⟩, Y⟩ := dn3 H.2.1 N d2
         refine opHide fun G hG => ?_
         have HG := Hid.hide hG
         have HI := Hid.hide H
         have ak := Hid.hide E
         have dt := Hid.hide Y
         have HP := Hid.hide ((am W).1 (H.2.2.old z5))
         have HZ : Hid (Z.getD 5 false = false /\ Z.getD 4 false = false) := ⟨z5, z4⟩
         clear hG I g l H N E Y z5 z4 d2
         go_simp
         go_at_call 8
         refine (ub.out _ W HP.out.2).mono ?_
         rintro e w9 ⟨u, nu, nx, rfl, rm⟩
         refine ⟨_, rfl, (HG.out _ _).2 ⟨vals_free HI.out.1 (by rw [ak.out]; rfl), dt.out, ⟨fun _ => (am w9).2 ⟨HP.out.1.only rm.1 (by have := HN.out; omega) H9.out.2.2, rm.2⟩, fun _ => ⟨u, rfl, nu, nx⟩, fun q => ?_, fun q => ?_⟩⟩⟩
         · cases HZ.out.2.symm.trans q
         · cases HZ.out.1.symm.trans q
       | 4, _ =>
         obtain rfl := Option.some.inj I
         have xg : b.tmps[58]? = some (.agg #[.slice pk m.length ck, .slice pv m.length cv]) := tDone l H.1 (g ⟨0, .data⟩ (by simp) rfl) rfl (by simp) (by rw [E]; rfl)
         have xh : b.tmps[59]? = some (.agg (DK.map encB).toArray) := tDone l H.1 (g ⟨1, .data⟩ (by simp) rfl) rfl (by simp) (by rw [E]; rfl)
         have d0 := g ⟨0, .data⟩ (by simp) rfl
         have d1 := g ⟨1, .data⟩ (by simp) rfl
         have d3 := g ⟨3, .data⟩ (by simp) rfl
         obtain ⟨z5, Y⟩ := dn4 H.2.1 N d0 d1 d3
         obtain ⟨u, hu, nu, nx⟩ := H.2.2.str d3
         have xj : b.tmps[61]? = some (.string u) := (l.done 3 61 d3 rfl (by simp)).trans (congrArg some hu)
         refine opHide fun G hG => ?_
         have HG := Hid.hide hG
         have HI := Hid.hide H
         have ak := Hid.hide E
         have kf := Hid.hide Y
         have HP := Hid.hide ((am W).1 (H.2.2.old z5))
         have HZ : Hid (Z.getD 5 false = false) := z5
         have HW := Hid.hide (kwith_any (K := DK.toArray) HP.out.1.kn1 (by have := HD.out.2.1; omega) p8.out.1 p8.out.2 nu nx)
         dsimp only at HW
         clear hG I g l H N E Y z5 d0 d1 d3 hu
         go_simp
         go_at_call 7
         refine HW.out.mono ?_
         rintro e w9 ⟨ah, iq, iv, rfl, mq⟩
         have uh := HP.out.1.more ah
         refine ⟨_, rfl, (HG.out _ _).2 ⟨vals_free HI.out.1 (by rw [ak.out]; rfl), kf.out, ⟨fun _ => (am w9).2 ⟨uh, HP.out.2.below ah⟩, HI.out.2.2.str, fun _ _ => (ic _ _).2 ⟨iq, iv, _, rfl, _, mq, (HP.out.1.lt ab (by simp [TiU])).1, wi_dup HD.out.1 _ _, Nat.le_trans (wi_len _ _ _) (by have := HD.out.2.1; omega)⟩, fun q => ?_⟩⟩⟩
         cases HZ.out.symm.trans q
       | 5, _ =>
         obtain rfl := Option.some.inj I
         have ut : b.tmps[17]? = some (.pointer (some ⟨w1.heap.size, 0, none⟩)) := (l.rest 17 (fun i _ => noDst_of (by kernel_rfl) i)).trans rfl
         have d4 := g ⟨4, .data⟩ (by simp) rfl
         have Y := dn5 H.2.1 d4
         have hP := (am W).1 (H.2.2.old N)
         obtain ⟨iq, iv, m', sg, C4, eu, uf, rk, ru⟩ := (ic _ _).1 (H.2.2.kn d4 N)
         obtain ⟨a1, b1, aa, rfl⟩ := eu.keys.shape
         obtain ⟨a2, b2, ac, rfl⟩ := eu.vals.shape
         obtain ⟨rfl, rfl⟩ := eu.len
         have xk : b.tmps[62]? = some (.agg #[.slice a1 m'.length aa, .slice a2 m'.length ac]) := (l.done 4 62 d4 rfl (by simp)).trans (congrArg some sg)
         obtain ⟨z0, z1, f0, f1⟩ := box_cells hP.1.box1
         obtain ⟨em, b9⟩ := box_set hP.1.box1 (.slice a1 m'.length aa) (.slice a2 m'.length ac)
         have eo : P5 ((W.setCell ⟨w1.heap.size, 0, none⟩ (.slice a1 m'.length aa)).setCell ⟨w1.heap.size, 1, none⟩ (.slice a2 m'.length ac)) := by
           have bz : ∀ j, Value.ownBlock (.slice a1 m'.length aa) = some j \/ Value.ownBlock (.slice a2 m'.length ac) = some j -> C4 <= j /\ j < W.heap.size := fun j hj => hj.elim (eu.keys.block j) (eu.vals.block j)
           have ik := HN.out
           have cq := eu.keep2 b9.size fun j hj => b9.block j (bz j hj).2 (by have := (bz j hj).1; omega)
           have hq := hP.1.set1 b9 ⟨by omega, by omega, by omega, by omega, fun e => (by have := ik.2.2.2.2.1 _ (.inl e); omega), fun e => (by have := ik.2.2.2.2.1 _ (.inr e); omega)⟩ (⟨cq.keys.mono (by omega), cq.vals.mono (by omega), cq.ok, cq.apart⟩ : Kn _ w.heap.size _ _ m') em
           rw [<- jg] at hq
           refine (ie _).2 ⟨_, _, m', ⟨_, _, _, _, rfl, rfl⟩, fun j hj => (by have := (bz j hj).1; omega), hq, hP.2.keep (b9.block _ hP.2.lt (by omega)) b9.size, ?_, rk, ru⟩
           have ae := H9.out.2.2
           rintro (e | e | e | e | e | e | e | e | e)
           · exact ae (.inl e)
           · exact ae (.inr (.inl e))
           · exact ae (.inr (.inr (.inl e)))
           · exact ae (.inr (.inr (.inr (.inl e))))
           · exact ae (.inr (.inr (.inr (.inr (.inl e)))))
           · have := (bz _ (.inl e)).1; omega
           · have := (bz _ (.inr e)).1; omega
           · exact ae (by simp [TiU, e])
           · exact ae (by simp [TiU, e])
         refine Oper.wp_mono (K := fun a' w' => a' = b /\ w' = (W.setCell ⟨w1.heap.size, 0, none⟩ (.slice a1 m'.length aa)).setCell ⟨w1.heap.size, 1, none⟩ (.slice a2 m'.length ac)) (by rintro a' w' ⟨rfl, rfl⟩; exact ⟨undef, rfl, vals_free H.1 (by rw [E]; rfl), Y, ⟨fun q => (by cases q), H.2.2.str, fun _ q => (by cases q), fun _ => eo⟩⟩) ?_
         clear I g l H N E hP Y eo em b9 eu uf rk ru sg
         go_simp
     · exact ⟨fun _ _ _ h => (by simp at h), by decide, ⟨fun _ => (am _).2 HSt.out, fun q => (by simp at q), fun q => (by simp at q), fun q => (by simp at q)⟩⟩
     · intro O W H
       have e0 : O 0 = .agg #[.slice pk m.length ck, .slice pv m.length cv] := H.1 0 _ (by rw [E]; rfl) rfl
       have e1 : O 1 = .agg (DK.map encB).toArray := H.1 1 _ (by rw [E]; rfl) rfl
       have e2 : O 2 = .pointer (some ⟨V.heap.size + 1, 0, none⟩) := H.1 2 _ (by rw [E]; rfl) rfl
       have hX := H.2
       simp only [runFrom, Act.put, Nat.zero_add, Nat.reduceAdd, List.setIfInBounds_toArray, List.set_cons_zero, List.set_cons_succ, e0, e1, e2]
       clear H E e0 e1 e2
       have HY : Hid (P5 W) := hX.2.fin rfl
       clear hX
       (try go_wp2)
       go_meet
       exact (ie W).1 HY.out
  case rest =>
   obtain ⟨ks, vs, mm, ⟨p1, c1, p2, c2, rfl, rfl⟩, qy, hM, aj, hn, n7, rx⟩ := hcut
   obtain ⟨wB, rfl⟩ : ∃ x, x = wc := ⟨_, rfl⟩
   have ou := Hid.hide qy
   clear qy
   obtain ⟨z0, z1, -⟩ := box_cells hM.box1
   have i8 := Hid.hide (ktree_any hM.kn1 (Nat.le_refl _) (Below.refl _ _) (forest_none wB) (by omega) (pth_dup n7) false)
   obtain ⟨fb, ig⟩ : ∃ fb, V.heap.size + 1 = fb := ⟨_, rfl⟩
   rw [ig] at aj hn ⊢
   have pm : Hid (w.heap.size + 1 <= w1.heap.size /\ w1.heap.size < V.heap.size /\ V.heap.size < fb /\ fb < sb /\ sb < ab) := ⟨HN.out.1, HN.out.2.1, by omega, by have := HN.out; omega, HN.out.2.2.2.1⟩
   have HC : Hid (TiM w ow w1.heap.size V.heap.size sb ab (.slice p1 mm.length c1) (.slice p2 mm.length c2) (.slice qk o.length dk) (.slice qv o.length dv) mm o sl (digB sl) wB /\ FeedAt wB fb asked /\ ¬ TiU w w1.heap.size V.heap.size sb ab (.slice p1 mm.length c1) (.slice p2 mm.length c2) (.slice qk o.length dk) (.slice qv o.length dv) fb /\ (mm.map (·.1)).Nodup /\ mm.length <= 13) := ⟨hM, aj, hn, n7, rx⟩
   clear hM aj hn n7 rx H9 ig
   go_wp2_with fail
   refine i8.out.mono ?_
   rintro e fy ⟨bs, fq, rfl, S, ht, Q⟩
   obtain ⟨ts, dj, m7, ml⟩ := ht.ex
   have qo : ∀ k, k < wB.heap.size -> S k = none := fun k hk => Q.new k hk rfl
   have au : Hid (FrX wB.heap.size (fun _ => False) (fun _ => none) S wB fy /\ TreeAt S fy bs ts /\ ts.can 64 /\ (∀ s, s.length = 64 -> ts.get s = getN mm s) /\ TiM w ow w1.heap.size V.heap.size sb ab (.slice p1 mm.length c1) (.slice p2 mm.length c2) (.slice qk o.length dk) (.slice qv o.length dv) mm o sl (digB sl) fy /\ FeedAt fy fb asked /\ (∀ k, k < wB.heap.size -> S k = none)) :=
     ⟨Q, dj, m7, ml, HC.out.1.fr (forest_none wB) HC.out.1.below.size Q fun _ _ => rfl, HC.out.2.1.fr Q rfl, qo⟩
   clear ht dj m7 ml Q qo i8 z0 z1
   have qx : bs ≠ fb := by have := HC.out.2.1.lt; omega
   have ox : Hid (bs ≠ fb /\ wB.heap.size <= bs) := ⟨qx, fq⟩
   clear fq qx
   go_upto_region 11 with fail
   go_cut [24] (fun a wd => ∃ b : Bool, a = .bool b /\ Fed fb asked fy wd)
   case first =>
     go_wp2_with fail
     refine (km.out _ 4 fy au.out.2.2.2.2.2.1 (by omega) (by omega)).mono ?_
     rintro e wd ⟨c4, uj, rfl, Q⟩
     have HF := Hid.hide Q
     clear Q uj
     go_wp2
     go_meet
     exact ⟨_, rfl, HF.out⟩
   case rest => as_aux_lemma =>
    obtain ⟨th, rfl, gw⟩ := hcut
    obtain ⟨bq, rfl⟩ : ∃ x, x = wc := ⟨_, rfl⟩
    have mj : S fb = none := au.out.2.2.2.2.2.2 fb HC.out.2.1.lt
    have lh := au.out.2.2.2.2.1.only gw.1 (by have := pm.out; omega) HC.out.2.2.1
    have aw : Hid (TiM w ow w1.heap.size V.heap.size sb ab (.slice p1 mm.length c1) (.slice p2 mm.length c2) (.slice qk o.length dk) (.slice qv o.length dv) mm o sl (digB sl) bq /\ Forest wB.heap.size S bq /\ TreeAt S bq bs ts /\ (∀ k, TiU w w1.heap.size V.heap.size sb ab (.slice p1 mm.length c1) (.slice p2 mm.length c2) (.slice qk o.length dk) (.slice qv o.length dv) k -> S k = none)) := ⟨lh, forest_only au.out.1.forest gw.1 mj, au.out.2.1.only gw.1 ox.out.1, fun k hk => au.out.2.2.2.2.2.2 k (HC.out.1.lt k hk).1⟩
    obtain ⟨DO, ld⟩ : ∃ D, digB ow = D := ⟨_, rfl⟩
    obtain ⟨D, hD⟩ : ∃ D, ts.dig = D := ⟨_, rfl⟩
    have ee := dig_ok au.out.2.2.1 hD
    obtain ⟨dz, gi⟩ : ∃ a : Acc, a = ⟨1, 0, D, List.replicate 32 0⟩ := ⟨_, rfl⟩
    have jp : dz.ok := by
      rw [gi]
      exact ⟨by show (1 : Nat) < _; omega, by show (0 : Nat) < _; omega, ee.1, by show (List.replicate 32 0).length = 32; rfl, ee.2, fun x hx => by have := (List.mem_replicate.1 hx).2; omega⟩
    obtain ⟨AA, lc⟩ : ∃ A, (accL dz).toArray = A := ⟨_, rfl⟩
    have fp := built_acc2 ee.1
    rw [<- gi, lc] at fp
    obtain ⟨EA, jh⟩ : ∃ s, textB (encAcc dz) = s := ⟨_, rfl⟩
    have pc : Hid (0 < EA.size /\ EA.size <= 100) := by rw [<- jh, textB_size]; exact acc_small jp
    have kg : Hid (∀ W, Calls Tryz.prog 11 #[.agg AA] W fun e w' => e = .returned (.string EA) /\ Below W.heap.size W w') := fun W => by
      have := tencacc dz jp W
      rw [lc, jh] at this
      exact this
    have oy : Hid (∀ W, (Instr.build 47 #[(0, .int .u64 1), (2, .agg (D.map encB).toArray)]).run Tryz.prog W = .ok (.agg AA) W) := fun W => run_build (P := Tryz.prog) W 47 #[(0, .int .u64 1), (2, .agg (D.map encB).toArray)] _ fp
    have bk : Hid (DO.toArray.size = 32 /\ Bytes DO.toArray) := by rw [<- ld]; exact digB_key ow
    have aq : Hid (dz.ok /\ textB (encAcc dz) = EA /\ digB ow = DO /\ ts.dig = dz.root /\ ts.dig = D) := ⟨jp, jh, ld, by rw [gi]; exact hD, hD⟩
    have fd := Tryz.underlying23
    have fe : (Tryz.prog.info? 23).map (·.size) = some (ow.map encB).length := by rw [size80]; simp [HL.out]
    obtain ⟨o', ry⟩ : ∃ o', wiN o DO.toArray EA = o' := ⟨_, rfl⟩
    have i7 := Hid.hide ry
    clear mj lh gw hD ee gi jp lc fp jh ld ry
    go_upto_region 12 with fail
    go_cut [73] (fun a wd => a = .bool th /\ wd = bq)
    case first =>
      go_wp2
      go_meet
      exact ⟨rfl, rfl⟩
    case rest => as_aux_lemma =>
    obtain ⟨rfl, bl⟩ := hcut
    subst bl
    obtain ⟨bq, rfl⟩ : ∃ x, x = wc := ⟨_, rfl⟩
    apply_assumption
    go_cut [] (fun wd => ∃ (X : Mp) (a1 a2 : Option Addr) (aa ac : Nat), TiM w ow w1.heap.size V.heap.size sb ab (.slice p1 mm.length c1) (.slice p2 mm.length c2) (.slice a1 X.length aa) (.slice a2 X.length ac) mm X sl (digB sl) wd /\ Forest wB.heap.size S wd /\ TreeAt S wd bs ts /\ (∀ k, TiU w w1.heap.size V.heap.size sb ab (.slice p1 mm.length c1) (.slice p2 mm.length c2) (.slice a1 X.length aa) (.slice a2 X.length ac) k -> S k = none) /\ (X.map (·.1)).Nodup /\ X.length <= 13 /\ (th = true -> X = o') /\ (th = false -> X = o))
    case first => as_aux_lemma =>
      cases th with
      | false =>
        go_wp2
        go_meet
        exact ⟨o, _, _, _, _, aw.out.1, aw.out.2.1, aw.out.2.2.1, aw.out.2.2.2, HD.out.2.2.1, by have := HD.out.2.2.2.1; omega, fun q => (by cases q), fun _ => rfl⟩
      | true =>
        go_upto_region 13 with fail
        obtain ⟨P0, am⟩ : ∃ P0 : World -> Prop, ∀ W, P0 W ↔ (TiM w ow w1.heap.size V.heap.size sb ab (.slice p1 mm.length c1) (.slice p2 mm.length c2) (.slice qk o.length dk) (.slice qv o.length dv) mm o sl (digB sl) W /\ Forest wB.heap.size S W /\ TreeAt S W bs ts /\ bq.heap.size <= W.heap.size) := ⟨_, fun _ => Iff.rfl⟩
        obtain ⟨P4, ic⟩ : ∃ P4 : Value -> World -> Prop, ∀ v W, P4 v W ↔ (∃ ks vs, v = .agg #[ks, vs] /\ ∃ C, Kn W C ks vs o' /\ bq.heap.size <= C) := ⟨_, fun _ _ => Iff.rfl⟩
        obtain ⟨P5, ie⟩ : ∃ P5 : World -> Prop, ∀ wd, P5 wd ↔ (∃ (X : Mp) (a1 a2 : Option Addr) (aa ac : Nat), TiM w ow w1.heap.size V.heap.size sb ab (.slice p1 mm.length c1) (.slice p2 mm.length c2) (.slice a1 X.length aa) (.slice a2 X.length ac) mm X sl (digB sl) wd /\ Forest wB.heap.size S wd /\ TreeAt S wd bs ts /\ (∀ k, TiU w w1.heap.size V.heap.size sb ab (.slice p1 mm.length c1) (.slice p2 mm.length c2) (.slice a1 X.length aa) (.slice a2 X.length ac) k -> S k = none) /\ (X.map (·.1)).Nodup /\ X.length <= 13 /\ (true = true -> X = o') /\ (true = false -> X = o)) := ⟨_, fun _ => Iff.rfl⟩
        have jc : Hid (∀ W, P0 W -> (TiM w ow w1.heap.size V.heap.size sb ab (.slice p1 mm.length c1) (.slice p2 mm.length c2) (.slice qk o.length dk) (.slice qv o.length dv) mm o sl (digB sl) W /\ Forest wB.heap.size S W /\ TreeAt S W bs ts /\ bq.heap.size <= W.heap.size)) := fun W h => (am W).1 h
        have hB : w.heap.size <= wB.heap.size := HC.out.1.below.size
        have pu : Hid (∀ W W', P0 W -> Fr wB.heap.size S S W W' -> P0 W') := fun W W' h Q => by
          obtain ⟨h1, h2, h3, h4⟩ := (am W).1 h
          exact (am W').2 ⟨h1.fr h2 hB (Q.x _) aw.out.2.2.2, Q.forest, h3.frame Q, Nat.le_trans h4 Q.size⟩
        have bg : Hid (∀ W W', P0 W -> Below W.heap.size W W' -> P0 W') := fun W W' h hb => pu.out W W' h (Fr.of_below ((am W).1 h).2.1 hb)
        have tz : Hid (∀ W, P0 W -> bq.heap.size <= W.heap.size) := fun W h => ((am W).1 h).2.2.2
        have kr : Hid (∀ W, P0 W -> Calls Tryz.prog 12 #[.pointer (some ⟨bs, 0, none⟩)] W fun e w' => e = .returned (.agg (D.map encB).toArray) /\ Fr wB.heap.size S S W w') := fun W h => by
          obtain ⟨q1, q2, q3, -⟩ := (am W).1 h
          have := xroot_any q2 (HT.out W q1.below).1 (Nat.le_trans HE.out.1.low hB) q3
          rw [aq.out.2.2.2.2] at this
          exact this
        have cf : Hid (∀ W, P0 W -> Calls Tryz.prog 10 #[.agg (ow.map encB).toArray] W fun e w' => e = .returned (.agg (DO.map encB).toArray) /\ Below W.heap.size W w') := fun W h => by
          obtain ⟨q1, -⟩ := (am W).1 h
          have := named_l ow HL.out (HT.out W q1.below).1 (HT.out W q1.below).2
          rw [aq.out.2.2.1] at this
          exact this
        have tc : Hid (∀ W, P0 W -> ∀ (a1 : Option Addr) (aa : Nat) (a2 : Option Addr) (ac C5 : Nat), Kn W C5 (.slice a1 o'.length aa) (.slice a2 o'.length ac) o' -> bq.heap.size <= C5 -> ∀ {W' : World}, W'.heap[V.heap.size]? = some (.cells #[.slice a1 o'.length aa, .slice a2 o'.length ac] 27 (0, 0)) -> Only V.heap.size W W' -> P5 W') := fun W h a1 aa a2 ac C5 hk hC W' em b9 => by
          obtain ⟨h1, h2, h3, h4⟩ := (am W).1 h
          have xc := pm.out
          have mw := (HC.out.1.lt V.heap.size (by simp [TiU])).1
          have vl := aw.out.2.1.le
          have bz : ∀ j, Value.ownBlock (.slice a1 o'.length aa) = some j \/ Value.ownBlock (.slice a2 o'.length ac) = some j -> C5 <= j /\ j < W.heap.size := fun j hj => hj.elim (hk.keys.block j) (hk.vals.block j)
          have cq := hk.keep2 b9.size fun j hj => b9.block j (bz j hj).2 (by have := (bz j hj).1; omega)
          have xd := aw.out.1.below.size
          have hM := h1.set2 b9 ⟨by omega, by omega, by omega, by omega, fun e => ou.out _ (.inl e) rfl, fun e => ou.out _ (.inr e) rfl⟩ (⟨cq.keys.mono (by omega), cq.vals.mono (by omega), cq.ok, cq.apart⟩ : Kn _ w.heap.size _ _ o') em
          have bn := aw.out.2.2.2
          refine (ie W').2 ⟨o', a1, a2, aa, ac, hM, forest_only h2 b9 (bn _ (by simp [TiU])), h3.only b9 (by have := ox.out.2; omega), ?_, ?_, ?_, fun _ => rfl, fun q => (by cases q)⟩
          · rintro k (e | e | e | e | e | e | e | e | e)
            · exact bn k (.inl e)
            · exact bn k (.inr (.inl e))
            · exact bn k (.inr (.inr (.inl e)))
            · exact bn k (.inr (.inr (.inr (.inl e))))
            · exact bn k (.inr (.inr (.inr (.inr (.inl e)))))
            · exact bn k (by simp [TiU, e])
            · exact bn k (by simp [TiU, e])
            · exact aw.out.2.1.fresh (by have := (bz k (.inl e)).1; omega)
            · exact aw.out.2.1.fresh (by have := (bz k (.inr e)).1; omega)
          · rw [<- i7.out]; exact wi_dup HD.out.2.2.1 _ _
          · rw [<- i7.out]; exact Nat.le_trans (wi_len _ _ _) (by have := HD.out.2.2.2.1; omega)
        have HSt : Hid (P0 bq.drew) := (am _).2 ⟨aw.out.1.more (Below.refl _ _).drew, aw.out.2.1.below (Below.refl _ _).drew, aw.out.2.2.1.frame (Fr.of_below aw.out.2.1 (Below.refl _ _).drew), Nat.le_refl _⟩
        clear am hB
        refine wp_region_any (by kernel_rfl) ?_
        change wpAny _ _ _ _ _ _ _ (World.drew _)
        obtain ⟨vf, E⟩ : ∃ vf : Nat -> Option Value, vf = fun i => ([some (.agg #[.slice qk o.length dk, .slice qv o.length dv]), some (.agg (ow.map encB).toArray), some (.agg (DO.map encB).toArray), some (.pointer (some ⟨bs, 0, none⟩)), some (.agg (D.map encB).toArray), some (.agg AA), some (.string EA), none, none] : List (Option Value)).getD i none := ⟨_, rfl⟩
        refine wpAny_vary _ (fun d v w' => (∀ i x, vf i = some x -> d i = true -> v i = x) /\ (fun d v w' => Dn13 (d 0) (d 1) (d 2) (d 3) (d 4) (d 5) (d 6) (d 7) (d 8) /\ X12 P0 P4 P5 (d 7) (d 8) (v 7) w') d v w') (by kernel_rfl) (by kernel_rfl) ?_ _ (fun _ => undef) ?_ ?_
        · intro i o I Z O b W l N g H
          have hi : i < 9 := (Array.getElem?_eq_some_iff.1 I).1
          match i, hi with
          | 0, _ =>
            obtain rfl := Option.some.inj I
            have sv : b.tmps[18]? = some (.pointer (some ⟨V.heap.size, 0, none⟩)) := (l.rest 18 (fun i _ => noDst_of (by kernel_rfl) i)).trans rfl
            obtain ⟨⟨z8, z7⟩, Y⟩ := dk0 H.2.1 N
            obtain ⟨z0, z1, _⟩ := box_cells (jc.out W (H.2.2.old z8)).1.box2
            refine opPlain H.1 (by rw [E]; rfl) ⟨Y, H.2.2⟩ ?_
            clear I g l H N E Y z8 z7
            go_simp
          | 1, _ =>
            obtain rfl := Option.some.inj I
            have fi : b.tmps[10]? = some (.pointer (some ⟨w.heap.size, 0, none⟩)) := (l.rest 10 (fun i _ => noDst_of (by kernel_rfl) i)).trans rfl
            obtain ⟨⟨z8, z7⟩, Y⟩ := dk1 H.2.1 N
            refine wp_load_mid 23 (.tmp 10) rfl w.heap.size 0 (by simp only [Act.eval, Array.getD_eq_getD_getElem?, fi, Option.getD_some]) (ow.map encB) _ (jc.out W (H.2.2.old z8)).1.own fd rfl fe ?_
            exact ⟨_, rfl, vals_step H.1 (by rw [E]; rfl), Y, H.2.2⟩
          | 2, _ =>
            obtain rfl := Option.some.inj I
            have xm : b.tmps[75]? = some (.agg (ow.map encB).toArray) := tDone l H.1 (g ⟨1, .data⟩ (by simp) rfl) rfl (by simp) (by rw [E]; rfl)
            obtain ⟨⟨z8, z7⟩, Y⟩ := dk2 H.2.1 N (g ⟨1, .data⟩ (by simp) rfl)
            refine opHide fun G hG => ?_
            have HG := Hid.hide hG
            have ag := Hid.hide H
            have ak := Hid.hide E
            have dt := Hid.hide Y
            have HP := Hid.hide (H.2.2.old z8)
            have HZ : Hid (Z.getD 8 false = false /\ Z.getD 7 false = false) := ⟨z8, z7⟩
            clear hG I g l H N E Y z8 z7
            go_simp
            go_at_call 10
            refine (cf.out W HP.out).mono ?_
            rintro e w9 ⟨rfl, ah⟩
            refine ⟨_, rfl, (HG.out _ _).2 ⟨vals_step ag.out.1 (by rw [ak.out]; rfl), dt.out, ⟨fun _ => bg.out _ _ HP.out ah, fun q => ?_, fun q => ?_⟩⟩⟩
            · cases HZ.out.2.symm.trans q
            · cases HZ.out.1.symm.trans q
          | 3, _ =>
            obtain rfl := Option.some.inj I
            have uv : b.tmps[22]? = some (.pointer (some ⟨bs, 0, none⟩)) := (l.rest 22 (fun i _ => noDst_of (by kernel_rfl) i)).trans rfl
            obtain ⟨⟨z8, z7⟩, Y⟩ := dk3 H.2.1 N
            refine opPlain H.1 (by rw [E]; rfl) ⟨Y, H.2.2⟩ ?_
            clear I g l H N E Y z8 z7
            go_simp
          | 4, _ =>
            obtain rfl := Option.some.inj I
            have xo : b.tmps[77]? = some (.pointer (some ⟨bs, 0, none⟩)) := tDone l H.1 (g ⟨3, .data⟩ (by simp) rfl) rfl (by simp) (by rw [E]; rfl)
            obtain ⟨⟨z8, z7⟩, Y⟩ := dk4 H.2.1 N (g ⟨3, .data⟩ (by simp) rfl)
            refine opHide fun G hG => ?_
            have HG := Hid.hide hG
            have ag := Hid.hide H
            have ak := Hid.hide E
            have dt := Hid.hide Y
            have HP := Hid.hide (H.2.2.old z8)
            have HZ : Hid (Z.getD 8 false = false /\ Z.getD 7 false = false) := ⟨z8, z7⟩
            clear hG I g l H N E Y z8 z7
            go_simp
            go_at_call 12
            refine (kr.out W HP.out).mono ?_
            rintro e w9 ⟨rfl, ah⟩
            refine ⟨_, rfl, (HG.out _ _).2 ⟨vals_step ag.out.1 (by rw [ak.out]; rfl), dt.out, ⟨fun _ => pu.out _ _ HP.out ah, fun q => ?_, fun q => ?_⟩⟩⟩
            · cases HZ.out.2.symm.trans q
            · cases HZ.out.1.symm.trans q
          | 5, _ =>
            obtain rfl := Option.some.inj I
            have xp : b.tmps[78]? = some (.agg (D.map encB).toArray) := tDone l H.1 (g ⟨4, .data⟩ (by simp) rfl) rfl (by simp) (by rw [E]; rfl)
            obtain ⟨⟨z8, z7⟩, Y⟩ := dk5 H.2.1 N (g ⟨4, .data⟩ (by simp) rfl)
            have hq := oy.out W
            refine opPlain H.1 (by rw [E]; rfl) ⟨Y, H.2.2⟩ ?_
            clear I g l H N E Y z8 z7
            go_simp
          | 6, _ =>
            obtain rfl := Option.some.inj I
            have xq : b.tmps[79]? = some (.agg AA) := tDone l H.1 (g ⟨5, .data⟩ (by simp) rfl) rfl (by simp) (by rw [E]; rfl)
            obtain ⟨⟨z8, z7⟩, Y⟩ := dk6 H.2.1 N (g ⟨5, .data⟩ (by simp) rfl)
            refine opHide fun G hG => ?_
            have HG := Hid.hide hG
            have ag := Hid.hide H
            have ak := Hid.hide E
            have dt := Hid.hide Y
            have HP := Hid.hide (H.2.2.old z8)
            have HZ : Hid (Z.getD 8 false = false /\ Z.getD 7 false = false) := ⟨z8, z7⟩
            clear hG I g l H N E Y z8 z7
            go_simp
            go_at_call 11
            refine (kg.out W).mono ?_
            rintro e w9 ⟨rfl, ah⟩
            refine ⟨_, rfl, (HG.out _ _).2 ⟨vals_step ag.out.1 (by rw [ak.out]; rfl), dt.out, ⟨fun _ => bg.out _ _ HP.out ah, fun q => ?_, fun q => ?_⟩⟩⟩
            · cases HZ.out.2.symm.trans q
            · cases HZ.out.1.symm.trans q
          | 7, _ =>
            obtain rfl := Option.some.inj I
            have xl : b.tmps[74]? = some (.agg #[.slice qk o.length dk, .slice qv o.length dv]) := tDone l H.1 (g ⟨0, .data⟩ (by simp) rfl) rfl (by simp) (by rw [E]; rfl)
            have xn : b.tmps[76]? = some (.agg (DO.map encB).toArray) := tDone l H.1 (g ⟨2, .data⟩ (by simp) rfl) rfl (by simp) (by rw [E]; rfl)
            have xr : b.tmps[80]? = some (.string EA) := tDone l H.1 (g ⟨6, .data⟩ (by simp) rfl) rfl (by simp) (by rw [E]; rfl)
            obtain ⟨z8, Y⟩ := dk7 H.2.1 N (g ⟨0, .data⟩ (by simp) rfl) (g ⟨2, .data⟩ (by simp) rfl) (g ⟨6, .data⟩ (by simp) rfl)
            refine opHide fun G hG => ?_
            have HG := Hid.hide hG
            have ag := Hid.hide H
            have ak := Hid.hide E
            have kf := Hid.hide Y
            have HP := Hid.hide (H.2.2.old z8)
            have HZ : Hid (Z.getD 8 false = false) := z8
            have HW := Hid.hide (kwith_any (K := DO.toArray) (jc.out W HP.out).1.kn2 (by have := HD.out.2.2.2.1; omega) bk.out.1 bk.out.2 pc.out.1 pc.out.2)
            rw [i7.out] at HW
            clear hG I g l H N E Y z8
            go_simp
            go_at_call 7
            refine HW.out.mono ?_
            rintro e w9 ⟨ah, iq, iv, rfl, mq⟩
            refine ⟨_, rfl, (HG.out _ _).2 ⟨vals_free ag.out.1 (by rw [ak.out]; rfl), kf.out, ⟨fun _ => bg.out _ _ HP.out ah, fun _ _ => (ic _ _).2 ⟨iq, iv, rfl, _, mq, tz.out W HP.out⟩, fun q => ?_⟩⟩⟩
            cases HZ.out.symm.trans q
          | 8, _ =>
            obtain rfl := Option.some.inj I
            have sv : b.tmps[18]? = some (.pointer (some ⟨V.heap.size, 0, none⟩)) := (l.rest 18 (fun i _ => noDst_of (by kernel_rfl) i)).trans rfl
            have d7 := g ⟨7, .data⟩ (by simp) rfl
            have Y := dk8 H.2.1 d7
            have hP := H.2.2.old N
            obtain ⟨iq, iv, sh, C5, ij, qj⟩ := (ic _ _).1 (H.2.2.kn d7 N)
            obtain ⟨a1, b1, aa, rfl⟩ := ij.keys.shape
            obtain ⟨a2, b2, ac, rfl⟩ := ij.vals.shape
            obtain ⟨rfl, rfl⟩ := ij.len
            have xt : b.tmps[81]? = some (.agg #[.slice a1 o'.length aa, .slice a2 o'.length ac]) := (l.done 7 81 d7 rfl (by simp)).trans (congrArg some sh)
            have ci := (jc.out W hP).1.box2
            obtain ⟨z0, z1, f0, f1⟩ := box_cells ci
            obtain ⟨em, b9⟩ := box_set ci (.slice a1 o'.length aa) (.slice a2 o'.length ac)
            have eo := tc.out W hP a1 aa a2 ac C5 ij qj em b9
            refine Oper.wp_mono (K := fun a' w' => a' = b /\ w' = (W.setCell ⟨V.heap.size, 0, none⟩ (.slice a1 o'.length aa)).setCell ⟨V.heap.size, 1, none⟩ (.slice a2 o'.length ac)) (by rintro a' w' ⟨rfl, rfl⟩; exact ⟨undef, rfl, vals_free H.1 (by rw [E]; rfl), Y, ⟨fun q => (by cases q), fun _ q => (by cases q), fun _ => eo⟩⟩) ?_
            clear I g l H N E hP Y eo em b9 ij qj sh ci
            go_simp
        · exact ⟨fun _ _ _ h => (by simp at h), by decide, ⟨fun _ => HSt.out, fun q => (by simp at q), fun q => (by simp at q)⟩⟩
        · intro O W H
          have e0 : O 0 = .agg #[.slice qk o.length dk, .slice qv o.length dv] := H.1 0 _ (by rw [E]; rfl) rfl
          have e1 : O 1 = .agg (ow.map encB).toArray := H.1 1 _ (by rw [E]; rfl) rfl
          have e2 : O 2 = .agg (DO.map encB).toArray := H.1 2 _ (by rw [E]; rfl) rfl
          have e3 : O 3 = .pointer (some ⟨bs, 0, none⟩) := H.1 3 _ (by rw [E]; rfl) rfl
          have e4 : O 4 = .agg (D.map encB).toArray := H.1 4 _ (by rw [E]; rfl) rfl
          have e5 : O 5 = .agg AA := H.1 5 _ (by rw [E]; rfl) rfl
          have e6 : O 6 = .string EA := H.1 6 _ (by rw [E]; rfl) rfl
          have hX := H.2
          simp only [runFrom, Act.put, Nat.zero_add, Nat.reduceAdd, List.setIfInBounds_toArray, List.set_cons_zero, List.set_cons_succ, e0, e1, e2, e3, e4, e5, e6]
          clear H E e0 e1 e2 e3 e4 e5 e6
          have HY : Hid (P5 W) := hX.2.fin rfl
          clear hX
          (try go_wp2)
          go_meet
          exact (ie W).1 HY.out
    case rest => as_aux_lemma =>
      obtain ⟨X, a1, a2, aa, ac, hM, ro, dj, hU, n8, rz, nn, np⟩ := hcut
      obtain ⟨fj, rfl⟩ : ∃ x, x = wc := ⟨_, rfl⟩
      obtain ⟨z0, z1, -⟩ := box_cells hM.box2
      have i8 := Hid.hide (ktree_any hM.kn2 (Nat.le_refl _) (Below.refl _ _) (forest_none fj) (by omega) (pth_dup n8) false)
      have cj : Hid (TiM w ow w1.heap.size V.heap.size sb ab (.slice p1 mm.length c1) (.slice p2 mm.length c2) (.slice a1 X.length aa) (.slice a2 X.length ac) mm X sl (digB sl) fj /\ Forest wB.heap.size S fj /\ TreeAt S fj bs ts /\ (∀ k, TiU w w1.heap.size V.heap.size sb ab (.slice p1 mm.length c1) (.slice p2 mm.length c2) (.slice a1 X.length aa) (.slice a2 X.length ac) k -> S k = none) /\ (X.map (·.1)).Nodup /\ X.length <= 13 /\ (th = true -> X = o') /\ (th = false -> X = o)) := ⟨hM, ro, dj, hU, n8, rz, nn, np⟩
      clear hM ro dj hU n8 rz nn np aw kg oy
      go_wp2_with fail
      refine i8.out.mono ?_
      rintro e w14 ⟨bt, qz, rfl, T, ht, Q⟩
      have hj := FrX.join cj.out.2.1 Q
      have nr : Tells (Wood.join fj.heap.size S T) w14 bt (getN X) := ht.join Q qz
      have gc := cj.out.1.fr (forest_none fj) cj.out.1.below.size Q fun _ _ => rfl
      obtain ⟨J, hJ⟩ : ∃ J, Wood.join fj.heap.size S T = J := ⟨_, rfl⟩
      have qr : ∀ k, TiU w w1.heap.size V.heap.size sb ab (.slice p1 mm.length c1) (.slice p2 mm.length c2) (.slice a1 X.length aa) (.slice a2 X.length ac) k -> J k = none := fun k hk => by
        rw [<- hJ, Wood.join, if_pos (cj.out.1.lt k hk).1]
        exact cj.out.2.2.2.1 k hk
      rw [hJ] at hj nr
      have ni : TreeAt J w14 bs ts := cj.out.2.2.1.framex hj fun h => h
      obtain ⟨tt, sf, rh, rq⟩ := nr.ex
      obtain ⟨U1, lm⟩ : ∃ U : Nat -> Prop, TiU w w1.heap.size V.heap.size sb ab (.slice p1 mm.length c1) (.slice p2 mm.length c2) (.slice a1 X.length aa) (.slice a2 X.length ac) = U := ⟨_, rfl⟩
      have rp : GenT w w14 U1 wB.heap.size J bt tt bs ts w14 := ⟨⟨gc.below, Nat.le_refl _, fun _ _ => rfl, hj.forest, sf⟩, ni⟩
      have ln : ∀ k, U1 k -> k < w14.heap.size /\ J k = none := fun k hk => by rw [<- lm] at hk; exact ⟨(gc.lt k hk).1, qr k hk⟩
      have fm := Hid.hide (GenT.kit (w := w) (R := w14) (U := U1) (B := wB.heap.size) (S := J) (bt := bt) (t := tt) (bs := bs) (s := ts) HC.out.1.below.size ln)
      have ay : Hid (GenT w w14 U1 wB.heap.size J bt tt bs ts w14 /\ TiM w ow w1.heap.size V.heap.size sb ab (.slice p1 mm.length c1) (.slice p2 mm.length c2) (.slice a1 X.length aa) (.slice a2 X.length ac) mm X sl (digB sl) w14 /\ (∀ k, TiU w w1.heap.size V.heap.size sb ab (.slice p1 mm.length c1) (.slice p2 mm.length c2) (.slice a1 X.length aa) (.slice a2 X.length ac) k -> U1 k) /\ (∀ k, U1 k -> k < w14.heap.size /\ J k = none) /\ tt.can 64 /\ (∀ s, s.length = 64 -> tt.get s = getN X s)) := ⟨rp, gc, fun k hk => by rw [<- lm]; exact hk, ln, rh, rq⟩
      clear qz ht Q hj nr gc hJ qr ni sf rh rq i8 z0 z1 rp ln lm
      go_upto_region 17 with fail
      obtain ⟨P, hP⟩ : ∃ P, GenT w w14 U1 wB.heap.size J bt tt bs ts = P := ⟨_, rfl⟩
      have cm : Hid (∀ W, P W -> GenT w w14 U1 wB.heap.size J bt tt bs ts W) := fun W h => by rw [<- hP] at h; exact h
      have bg : Hid (∀ W W', P W -> Below W.heap.size W W' -> P W') := fun W W' h hb => by rw [<- hP] at h ⊢; exact fm.out.more _ _ h hb
      have al : Hid (∀ W, P W -> TiM w ow w1.heap.size V.heap.size sb ab (.slice p1 mm.length c1) (.slice p2 mm.length c2) (.slice a1 X.length aa) (.slice a2 X.length ac) mm X sl (digB sl) W) := fun W h => by
        have q := cm.out W h
        exact ay.out.2.1.keep q.q.below q.q.size fun k hk => q.q.keep k (ay.out.2.2.1 k hk)
      have kp : Hid (P w14.drew) := bg.out _ _ (by rw [<- hP]; exact ay.out.1) (Below.refl _ _).drew
      obtain ⟨fv, fs⟩ : ∃ z, findV (findN X DO.toArray) = z := ⟨_, rfl⟩
      obtain ⟨bv, ly⟩ : ∃ b, decide (0 <= fv) = b := ⟨_, rfl⟩
      have cf : Hid (∀ W, P W -> Calls Tryz.prog 10 #[.agg (ow.map encB).toArray] W fun e w' => e = .returned (.agg (DO.map encB).toArray) /\ Below W.heap.size W w') := fun W h => by
        have q := al.out W h
        have := named_l ow HL.out (HT.out W q.below).1 (HT.out W q.below).2
        rw [aq.out.2.2.1] at this
        exact this
      have kj : Hid (∀ W, P W -> Calls Tryz.prog 13 #[.agg #[.slice a1 X.length aa, .slice a2 X.length ac], .agg (DO.map encB).toArray] W fun e w' => e = .returned (.int .i64 fv) /\ Below W.heap.size W w') := fun W h => by
        have q := al.out W h
        have := kfind_any q.kn2 (by have := cj.out.2.2.2.2.2.1; omega) bk.out.1 bk.out.2
        rw [fs] at this
        exact this
      have pi : Hid (findV (findN X DO.toArray) = fv /\ decide (0 <= fv) = bv) := ⟨fs, ly⟩
      clear fs
      go_cut [97] (fun a wd => ∃ b : Bool, a = .bool b /\ (th = true -> b = false) /\ (th = false -> b = bv) /\ P wd)
      case first => as_aux_lemma =>
        cases th with
        | true =>
          refine wp_region_any (by kernel_rfl) ?_
          change wpAny _ _ _ _ _ _ _ (World.drew _)
          obtain ⟨f, Q⟩ : ∃ f : Nat -> Value, f = fun i => ([.bool true, .bool false, .bool false, undef, undef, undef, undef, undef, .bool false] : List Value).getD i undef := ⟨_, rfl⟩
          refine wpAny_all_steadyG _ _ f (fun W => P W) (by kernel_rfl) (by kernel_rfl) ?_ _ ?_ rfl ?_
          · intro i o I Z b W l g hS
            have hi : i < 9 := (Array.getElem?_eq_some_iff.1 I).1
            match i, hi with
            | 0, _ =>
              obtain rfl := Option.some.inj I
              have hv : f 0 = .bool true := by rw [Q]; rfl
              have uw : b.tmps[24]? = some (.bool true) := (l.rest 24 (fun i _ => noDst_of (by kernel_rfl) i)).trans rfl
              rw [hv]
              refine ⟨fun _ => ?_, fun ae => absurd ae (by simp [Region.wanted])⟩
              clear I Q g l
              go_simp
              exact hS
            | 1, _ =>
              obtain rfl := Option.some.inj I
              have hv : f 1 = .bool false := by rw [Q]; rfl
              have v0 : f 0 = .bool true := by rw [Q]; rfl
              have vb : b.tmps[89]? = some (.bool true) := (l.done 0 89 (g ⟨0, .data⟩ (by simp) rfl) rfl (by simp)).trans (congrArg some v0)
              rw [hv]
              refine ⟨fun _ => ?_, fun ae => absurd ae (by simp [Region.wanted])⟩
              clear I Q g l
              go_simp
              exact hS
            | 2, _ =>
              obtain rfl := Option.some.inj I
              have hv : f 2 = .bool false := by rw [Q]; rfl
              have v1 : f 1 = .bool false := by rw [Q]; rfl
              have vc : b.tmps[90]? = some (.bool false) := (l.done 1 90 (g ⟨1, .data⟩ (by simp) rfl) rfl (by simp)).trans (congrArg some v1)
              rw [hv]
              refine ⟨fun _ => ?_, fun ae => absurd ae (by simp [Region.wanted])⟩
              clear I Q g l
              go_simp
              exact hS
            | 3, _ =>
              obtain rfl := Option.some.inj I
              have hv : f 3 = undef := by rw [Q]; rfl
              rw [hv]
              have vg : f 2 = .bool false := by rw [Q]; rfl
              have tg : b.tmps[91]? = some (.bool false) := (l.done 2 91 (g ⟨2, .guard⟩ (by simp) rfl) rfl (by simp)).trans (congrArg some vg)
              exact ⟨fun bi => absurd bi (by simp [Region.wanted, yielded, tg]), fun _ => rfl⟩
            | 4, _ =>
              obtain rfl := Option.some.inj I
              have hv : f 4 = undef := by rw [Q]; rfl
              rw [hv]
              have vg : f 2 = .bool false := by rw [Q]; rfl
              have tg : b.tmps[91]? = some (.bool false) := (l.done 2 91 (g ⟨2, .guard⟩ (by simp) rfl) rfl (by simp)).trans (congrArg some vg)
              exact ⟨fun bi => absurd bi (by simp [Region.wanted, yielded, tg]), fun _ => rfl⟩
            | 5, _ =>
              obtain rfl := Option.some.inj I
              have hv : f 5 = undef := by rw [Q]; rfl
              rw [hv]
              have vg : f 2 = .bool false := by rw [Q]; rfl
              have tg : b.tmps[91]? = some (.bool false) := (l.done 2 91 (g ⟨2, .guard⟩ (by simp) rfl) rfl (by simp)).trans (congrArg some vg)
              exact ⟨fun bi => absurd bi (by simp [Region.wanted, yielded, tg]), fun _ => rfl⟩
            | 6, _ =>
              obtain rfl := Option.some.inj I
              have hv : f 6 = undef := by rw [Q]; rfl
              rw [hv]
              have vg : f 2 = .bool false := by rw [Q]; rfl
              have tg : b.tmps[91]? = some (.bool false) := (l.done 2 91 (g ⟨2, .guard⟩ (by simp) rfl) rfl (by simp)).trans (congrArg some vg)
              exact ⟨fun bi => absurd bi (by simp [Region.wanted, yielded, tg]), fun _ => rfl⟩
            | 7, _ =>
              obtain rfl := Option.some.inj I
              have hv : f 7 = undef := by rw [Q]; rfl
              rw [hv]
              have vg : f 2 = .bool false := by rw [Q]; rfl
              have tg : b.tmps[91]? = some (.bool false) := (l.done 2 91 (g ⟨2, .guard⟩ (by simp) rfl) rfl (by simp)).trans (congrArg some vg)
              exact ⟨fun bi => absurd bi (by simp [Region.wanted, yielded, tg]), fun _ => rfl⟩
            | 8, _ =>
              obtain rfl := Option.some.inj I
              have hv : f 8 = .bool false := by rw [Q]; rfl
              have v2 : f 2 = .bool false := by rw [Q]; rfl
              have vd : b.tmps[91]? = some (.bool false) := (l.done 2 91 (g ⟨2, .data⟩ (by simp) rfl) rfl (by simp)).trans (congrArg some v2)
              have v7 : f 7 = undef := by rw [Q]; rfl
              have ve : b.tmps[96]? = some (undef) := (l.done 7 96 (g ⟨7, .data⟩ (by simp) rfl) rfl (by simp)).trans (congrArg some v7)
              rw [hv]
              refine ⟨fun _ => ?_, fun ae => absurd ae (by simp [Region.wanted])⟩
              clear I Q g l
              go_simp
              exact hS
          · exact kp.out
          · intro W hS
            have e0 : f 0 = .bool true := by rw [Q]; rfl
            have e1 : f 1 = .bool false := by rw [Q]; rfl
            have e2 : f 2 = .bool false := by rw [Q]; rfl
            have e3 : f 3 = undef := by rw [Q]; rfl
            have e4 : f 4 = undef := by rw [Q]; rfl
            have e5 : f 5 = undef := by rw [Q]; rfl
            have e6 : f 6 = undef := by rw [Q]; rfl
            have e7 : f 7 = undef := by rw [Q]; rfl
            have e8 : f 8 = .bool false := by rw [Q]; rfl
            simp only [runFrom, Act.put, Nat.zero_add, Nat.reduceAdd, List.setIfInBounds_toArray, List.set_cons_zero, List.set_cons_succ, e0, e1, e2, e3, e4, e5, e6, e7, e8]
            clear Q e0 e1 e2 e3 e4 e5 e6 e7 e8
            have HS := Hid.hide hS
            clear hS
            (try go_wp2)
            go_meet
            exact ⟨_, rfl, fun _ => rfl, fun q => (by cases q), HS.out⟩
        | false =>
          refine wp_region_any (by kernel_rfl) ?_
          change wpAny _ _ _ _ _ _ _ (World.drew _)
          obtain ⟨f, Q⟩ : ∃ f : Nat -> Value, f = fun i => ([.bool false, .bool true, .bool true, (.agg #[.slice a1 X.length aa, .slice a2 X.length ac]), (.agg (ow.map encB).toArray), (.agg (DO.map encB).toArray), (.int .i64 fv), (.bool bv), (.bool bv)] : List Value).getD i undef := ⟨_, rfl⟩
          refine wpAny_all_steadyG _ _ f (fun W => P W) (by kernel_rfl) (by kernel_rfl) ?_ _ ?_ rfl ?_
          · intro i o I Z b W l g hS
            have hi : i < 9 := (Array.getElem?_eq_some_iff.1 I).1
            match i, hi with
            | 0, _ =>
              obtain rfl := Option.some.inj I
              have hv : f 0 = .bool false := by rw [Q]; rfl
              have uw : b.tmps[24]? = some (.bool false) := (l.rest 24 (fun i _ => noDst_of (by kernel_rfl) i)).trans rfl
              rw [hv]
              refine ⟨fun _ => ?_, fun ae => absurd ae (by simp [Region.wanted])⟩
              clear I Q g l
              go_simp
              exact hS
            | 1, _ =>
              obtain rfl := Option.some.inj I
              have hv : f 1 = .bool true := by rw [Q]; rfl
              have v0 : f 0 = .bool false := by rw [Q]; rfl
              have vb : b.tmps[89]? = some (.bool false) := (l.done 0 89 (g ⟨0, .data⟩ (by simp) rfl) rfl (by simp)).trans (congrArg some v0)
              rw [hv]
              refine ⟨fun _ => ?_, fun ae => absurd ae (by simp [Region.wanted])⟩
              clear I Q g l
              go_simp
              exact hS
            | 2, _ =>
              obtain rfl := Option.some.inj I
              have hv : f 2 = .bool true := by rw [Q]; rfl
              have v1 : f 1 = .bool true := by rw [Q]; rfl
              have vc : b.tmps[90]? = some (.bool true) := (l.done 1 90 (g ⟨1, .data⟩ (by simp) rfl) rfl (by simp)).trans (congrArg some v1)
              rw [hv]
              refine ⟨fun _ => ?_, fun ae => absurd ae (by simp [Region.wanted])⟩
              clear I Q g l
              go_simp
              exact hS
            | 3, _ =>
              obtain rfl := Option.some.inj I
              have hv : f 3 = (.agg #[.slice a1 X.length aa, .slice a2 X.length ac]) := by rw [Q]; rfl
              have sv : b.tmps[18]? = some (.pointer (some ⟨V.heap.size, 0, none⟩)) := (l.rest 18 (fun i _ => noDst_of (by kernel_rfl) i)).trans rfl
              rw [hv]
              have vg : f 2 = .bool true := by rw [Q]; rfl
              have tg : b.tmps[91]? = some (.bool true) := (l.done 2 91 (g ⟨2, .guard⟩ (by simp) rfl) rfl (by simp)).trans (congrArg some vg)
              refine ⟨fun _ => ?_, fun ae => absurd ae (by simp [Region.wanted, yielded, tg])⟩
              clear I Q g l tg vg
              obtain ⟨z0, z1, -⟩ := box_cells (al.out W hS).box2
              go_simp
              exact hS
            | 4, _ =>
              obtain rfl := Option.some.inj I
              have hv : f 4 = (.agg (ow.map encB).toArray) := by rw [Q]; rfl
              have fi : b.tmps[10]? = some (.pointer (some ⟨w.heap.size, 0, none⟩)) := (l.rest 10 (fun i _ => noDst_of (by kernel_rfl) i)).trans rfl
              rw [hv]
              have vg : f 2 = .bool true := by rw [Q]; rfl
              have tg : b.tmps[91]? = some (.bool true) := (l.done 2 91 (g ⟨2, .guard⟩ (by simp) rfl) rfl (by simp)).trans (congrArg some vg)
              refine ⟨fun _ => ?_, fun ae => absurd ae (by simp [Region.wanted, yielded, tg])⟩
              clear I Q g l tg vg
              refine wp_load_mid 23 (.tmp 10) rfl w.heap.size 0 (by simp only [Act.eval, Array.getD_eq_getD_getElem?, fi, Option.getD_some]) (ow.map encB) _ (al.out W hS).own fd rfl fe ?_
              exact ⟨rfl, hS⟩
            | 5, _ =>
              obtain rfl := Option.some.inj I
              have hv : f 5 = (.agg (DO.map encB).toArray) := by rw [Q]; rfl
              have v4 : f 4 = (.agg (ow.map encB).toArray) := by rw [Q]; rfl
              have xv : b.tmps[93]? = some ((.agg (ow.map encB).toArray)) := (l.done 4 93 (g ⟨4, .data⟩ (by simp) rfl) rfl (by simp)).trans (congrArg some v4)
              rw [hv]
              have vg : f 2 = .bool true := by rw [Q]; rfl
              have tg : b.tmps[91]? = some (.bool true) := (l.done 2 91 (g ⟨2, .guard⟩ (by simp) rfl) rfl (by simp)).trans (congrArg some vg)
              refine ⟨fun _ => ?_, fun ae => absurd ae (by simp [Region.wanted, yielded, tg])⟩
              clear I Q g l tg vg
              go_simp
              go_at_call 10
              refine (cf.out W hS).mono ?_
              rintro e w9 ⟨rfl, ah⟩
              exact ⟨rfl, bg.out W w9 hS ah⟩
            | 6, _ =>
              obtain rfl := Option.some.inj I
              have hv : f 6 = (.int .i64 fv) := by rw [Q]; rfl
              have v3 : f 3 = (.agg #[.slice a1 X.length aa, .slice a2 X.length ac]) := by rw [Q]; rfl
              have xu : b.tmps[92]? = some ((.agg #[.slice a1 X.length aa, .slice a2 X.length ac])) := (l.done 3 92 (g ⟨3, .data⟩ (by simp) rfl) rfl (by simp)).trans (congrArg some v3)
              have v5 : f 5 = (.agg (DO.map encB).toArray) := by rw [Q]; rfl
              have xw : b.tmps[94]? = some ((.agg (DO.map encB).toArray)) := (l.done 5 94 (g ⟨5, .data⟩ (by simp) rfl) rfl (by simp)).trans (congrArg some v5)
              rw [hv]
              have vg : f 2 = .bool true := by rw [Q]; rfl
              have tg : b.tmps[91]? = some (.bool true) := (l.done 2 91 (g ⟨2, .guard⟩ (by simp) rfl) rfl (by simp)).trans (congrArg some vg)
              refine ⟨fun _ => ?_, fun ae => absurd ae (by simp [Region.wanted, yielded, tg])⟩
              clear I Q g l tg vg
              go_simp
              go_at_call 13
              refine (kj.out W hS).mono ?_
              rintro e w9 ⟨rfl, ah⟩
              exact ⟨rfl, bg.out W w9 hS ah⟩
            | 7, _ =>
              obtain rfl := Option.some.inj I
              have hv : f 7 = (.bool bv) := by rw [Q]; rfl
              have v6 : f 6 = (.int .i64 fv) := by rw [Q]; rfl
              have xx : b.tmps[95]? = some ((.int .i64 fv)) := (l.done 6 95 (g ⟨6, .data⟩ (by simp) rfl) rfl (by simp)).trans (congrArg some v6)
              rw [hv]
              have vg : f 2 = .bool true := by rw [Q]; rfl
              have tg : b.tmps[91]? = some (.bool true) := (l.done 2 91 (g ⟨2, .guard⟩ (by simp) rfl) rfl (by simp)).trans (congrArg some vg)
              refine ⟨fun _ => ?_, fun ae => absurd ae (by simp [Region.wanted, yielded, tg])⟩
              clear I Q g l tg vg
              go_simp
              exact hS
            | 8, _ =>
              obtain rfl := Option.some.inj I
              have hv : f 8 = (.bool bv) := by rw [Q]; rfl
              have v2 : f 2 = .bool true := by rw [Q]; rfl
              have vd : b.tmps[91]? = some (.bool true) := (l.done 2 91 (g ⟨2, .data⟩ (by simp) rfl) rfl (by simp)).trans (congrArg some v2)
              have v7 : f 7 = (.bool bv) := by rw [Q]; rfl
              have ve : b.tmps[96]? = some ((.bool bv)) := (l.done 7 96 (g ⟨7, .data⟩ (by simp) rfl) rfl (by simp)).trans (congrArg some v7)
              rw [hv]
              refine ⟨fun _ => ?_, fun ae => absurd ae (by simp [Region.wanted])⟩
              clear I Q g l
              go_simp
              exact hS
          · exact kp.out
          · intro W hS
            have e0 : f 0 = .bool false := by rw [Q]; rfl
            have e1 : f 1 = .bool true := by rw [Q]; rfl
            have e2 : f 2 = .bool true := by rw [Q]; rfl
            have e3 : f 3 = (.agg #[.slice a1 X.length aa, .slice a2 X.length ac]) := by rw [Q]; rfl
            have e4 : f 4 = (.agg (ow.map encB).toArray) := by rw [Q]; rfl
            have e5 : f 5 = (.agg (DO.map encB).toArray) := by rw [Q]; rfl
            have e6 : f 6 = (.int .i64 fv) := by rw [Q]; rfl
            have e7 : f 7 = (.bool bv) := by rw [Q]; rfl
            have e8 : f 8 = (.bool bv) := by rw [Q]; rfl
            simp only [runFrom, Act.put, Nat.zero_add, Nat.reduceAdd, List.setIfInBounds_toArray, List.set_cons_zero, List.set_cons_succ, e0, e1, e2, e3, e4, e5, e6, e7, e8]
            clear Q e0 e1 e2 e3 e4 e5 e6 e7 e8
            have HS := Hid.hide hS
            clear hS
            (try go_wp2)
            go_meet
            exact ⟨_, rfl, fun q => (by cases q), fun _ => rfl, HS.out⟩
      case rest => as_aux_lemma =>
        obtain ⟨ue, rfl, jn, gj, eh⟩ := hcut
        obtain ⟨vh, rfl⟩ : ∃ x, x = wc := ⟨_, rfl⟩
        cases ue with
        | true =>
          have bf : Hid (Below w.heap.size w vh) := (cm.out _ eh).q.below
          clear eh jn gj hP ly
          go_wp2
          go_ret
          exact ⟨rfl, bf.out⟩
        | false => as_aux_lemma =>
          have pq : Hid (th = false -> findN X DO.toArray = none) := fun ht => by
            have h1 := pi.out
            rw [<- gj ht] at h1
            cases hfn : findN X DO.toArray with
            | none => rfl
            | some i =>
              rw [hfn] at h1
              obtain ⟨e1, e2⟩ := h1
              rw [<- e1] at e2
              simp [findV] at e2
          have kl : Hid (StKit P (GenTF w U1 J bt bs) wB.heap.size J) := by rw [<- hP]; exact fm.out
          obtain ⟨DS, lg⟩ : ∃ D, digB sl = D := ⟨_, rfl⟩
          have mu : DS.toArray.size = 32 /\ Bytes DS.toArray := by rw [<- lg]; exact digB_key sl
          have o8 : (Tryz.prog.info? 34).map (·.size) = some (DS.map encB).length := by rw [size51]; have := mu.1; simp at this; simp [this]
          obtain ⟨L1, qm⟩ : ∃ L, tt.prove (textB (nibs DO)) = L := ⟨_, rfl⟩
          obtain ⟨L2, ib⟩ : ∃ L, ts.prove (textB (nibs DS)) = L := ⟨_, rfl⟩
          have s7 := (al.out _ eh).own
          have gz : Hid (15 <= wB.heap.size) := Nat.le_trans HE.out.1.low HC.out.1.below.size
          have ai : Hid (tt.prove (textB (nibs DO)) = L1 /\ ts.prove (textB (nibs DS)) = L2 /\ digB sl = DS /\ DS.toArray.size = 32 /\ Bytes DS.toArray) := ⟨qm, ib, lg, mu⟩
          have k8 := Hid.hide eh
          clear eh jn gj ly qm ib lg mu pi kj kp
          go_wp2_with (refine wpList_load_mid rfl 23 _ rfl w.heap.size 0 rfl (ow.map encB) _ s7 fd rfl fe ?_)
          refine (cf.out _ k8.out).mono ?_
          rintro e vi ⟨rfl, lp⟩
          have iy := bg.out _ _ k8.out lp
          have dm := cm.out _ iy
          have pw := Hid.hide (xprove_l dm.q.wood (HT.out _ dm.q.below).1 gz.out dm.q.tree ay.out.2.2.2.2.1 bk.out.1 bk.out.2 (L := L1) ai.out.1)
          have k9 := Hid.hide iy
          clear lp iy dm s7 k8
          go_wp2_with fail
          refine pw.out.mono ?_
          rintro e jz ⟨r1, d1, rfl, mg, s6, rs⟩
          have ge := kl.out.fr _ _ k9.out mg
          have fg := cm.out _ ge
          have il : jz.rangeAt ab 0 (DS.map encB) := by have := (al.out _ ge).at_; rw [ai.out.2.2.1] at this; exact this
          have kq := Hid.hide (xprove_l fg.q.wood (HT.out _ fg.q.below).1 gz.out fg.two au.out.2.2.1 ai.out.2.2.2.1 ai.out.2.2.2.2 (L := L2) ai.out.2.1)
          have dq : Hid (P jz /\ StrRow jz r1 (L1.map textB) d1 /\ (∀ a, r1 = some a -> vi.heap.size <= a.block /\ a.block < jz.heap.size)) := ⟨ge, s6, rs⟩
          clear mg ge fg s6 rs pw
          go_wp2_with (refine wpList_load_mid rfl 34 _ rfl ab 0 rfl (DS.map encB) _ il cz rfl o8 ?_)
          refine kq.out.mono ?_
          rintro e bx ⟨r2, d2, rfl, gx, n9, mp⟩
          have dm := cm.out _ k9.out
          have fg := cm.out _ dq.out.1
          have lk := kl.out.fr _ _ dq.out.1 gx
          have j4 : StrRow bx r1 (L1.map textB) d1 := dq.out.2.1.frame gx fun a ha => dm.q.wood.fresh (dq.out.2.2 a ha).1
          have fo := prove_row_ok ay.out.2.2.2.2.1 bk.out.1 bk.out.2 ai.out.1
          have ei := prove_row_ok au.out.2.2.1 ai.out.2.2.2.1 ai.out.2.2.2.2 ai.out.2.1
          have jt : ∀ s ∈ L1.map textB, s.size <= 9223372036854775806 := by
            obtain ⟨k1, k2, k3⟩ := key_path bk.out.1 bk.out.2
            dsimp only at k1 k2 k3
            rw [<- ai.out.1]
            exact prove_small ay.out.2.2.2.2.1 k3 (by rw [k1]; exact k2)
          have di : ∀ s ∈ L2.map textB, s.size <= 9223372036854775806 := by
            obtain ⟨k1, k2, k3⟩ := key_path ai.out.2.2.2.1 ai.out.2.2.2.2
            dsimp only at k1 k2 k3
            rw [<- ai.out.2.1]
            exact prove_small au.out.2.2.1 k3 (by rw [k1]; exact k2)
          have dw := Hid.hide (turned_any (w := bx) (L1.map textB) (L2.map textB) r1 r2 d1 d2 how at_ by_ HI.out.1 HI.out.2.1 HI.out.2.2 (by rw [List.length_map]; exact fo.2) (by rw [List.length_map]; exact ei.2) j4 n9 jt)
          rw [List.length_map, List.length_map] at dw
          have cl : Hid (P bx /\ StrRow bx r1 (L1.map textB) d1 /\ StrRow bx r2 (L2.map textB) d2 /\ (∀ a, r1 = some a -> a.block < bx.heap.size /\ J a.block = none) /\ (∀ a, r2 = some a -> a.block < bx.heap.size /\ J a.block = none)) :=
            ⟨lk, j4, n9, fun a ha => ⟨Nat.lt_of_lt_of_le (dq.out.2.2 a ha).2 gx.size, dm.q.wood.fresh (dq.out.2.2 a ha).1⟩, fun a ha => ⟨(mp a ha).2, fg.q.wood.fresh (mp a ha).1⟩⟩
          have ce : Hid (((∀ c ∈ L1, ∀ y ∈ c, y < 256) /\ L1.length <= 1000) /\ ((∀ c ∈ L2, ∀ y ∈ c, y < 256) /\ L2.length <= 1000) /\ ∀ s ∈ L2.map textB, s.size <= 9223372036854775806) := ⟨fo, ei, di⟩
          clear gx n9 mp dm fg lk j4 fo ei jt di kq il k9 dq
          go_wp2_with fail
          refine dw.out.mono ?_
          rintro x ar ⟨ta, ba, bo, rfl, dj, ng, nh, ej⟩
          obtain ⟨dn, ja⟩ : ∃ n, ta.length = n := ⟨_, rfl⟩
          rw [ja]
          have oj : Hid (P ar /\ StrRow ar r1 (L1.map textB) d1 /\ StrRow ar r2 (L2.map textB) d2 /\ bx.heap.size <= ar.heap.size /\ StrRow ar ba ta bo /\ (∀ a, ba = some a -> bx.heap.size <= a.block /\ a.block < ar.heap.size) /\ ta.length <= 2001 /\ ta.length = dn) := ⟨bg.out _ _ cl.out.1 ej, cl.out.2.1.below ej, cl.out.2.2.1.below ej, ej.size, dj, ng, nh, ja⟩
          have fq := run_build_six ar r1 ba r1 pa r1 r1 L1.length d1 dn bo L1.length d1 la.length ca L1.length d1 L1.length d1
          clear dj ng nh ej ja dw
          go_upto_region 24 with fail
          clear fq
          have cw : Below ar.heap.size ar (World.alloc ar (.cells #[.slice r1 L1.length d1, .slice ba dn bo, .slice r1 L1.length d1, .slice pa la.length ca, .slice r1 L1.length d1, .slice r1 L1.length d1] 24)) := (Below.refl _ _).alloc (Nat.le_refl _) _
          have gm : (World.alloc ar (.cells #[.slice r1 L1.length d1, .slice ba dn bo, .slice r1 L1.length d1, .slice pa la.length ca, .slice r1 L1.length d1, .slice r1 L1.length d1] 24)).heap[ar.heap.size]? = some (.cells #[.slice r1 L1.length d1, .slice ba dn bo, .slice r1 L1.length d1, .slice pa la.length ca, .slice r1 L1.length d1, .slice r1 L1.length d1] 24 (0, 0)) := Array.getElem?_push_size
          have gy : (World.alloc ar (.cells #[.slice r1 L1.length d1, .slice ba dn bo, .slice r1 L1.length d1, .slice pa la.length ca, .slice r1 L1.length d1, .slice r1 L1.length d1] 24)).heap.size = ar.heap.size + 1 := by simp
          generalize World.alloc ar _ = w22 at cw gm gy ⊢
          obtain ⟨t1, nd⟩ : ∃ t, ar.heap.size = t := ⟨_, rfl⟩
          rw [nd] at gm gy ⊢
          have az : Hid (P w22 /\ StrRow w22 r1 (L1.map textB) d1 /\ StrRow w22 r2 (L2.map textB) d2 /\ bx.heap.size <= t1 /\ StrRow w22 ba ta bo /\ (∀ a, ba = some a -> bx.heap.size <= a.block /\ a.block < t1) /\ ta.length <= 2001 /\ ta.length = dn /\ w22.heap.size = t1 + 1 /\ w22.heap[t1]? = some (.cells #[.slice r1 L1.length d1, .slice ba dn bo, .slice r1 L1.length d1, .slice pa la.length ca, .slice r1 L1.length d1, .slice r1 L1.length d1] 24 (0, 0))) := by
            obtain ⟨c1, c2, c3, c4, c5, c6, c7, c8⟩ := oj.out
            rw [nd] at c4 c6
            exact ⟨bg.out _ _ c1 cw, c2.below cw, c3.below cw, c4, c5.below cw, c6, c7, c8, gy, gm⟩
          have dw := Hid.hide (turned_any (w := w22) (L2.map textB) (L1.map textB) r2 r1 d2 d1 how at_ by_ HI.out.1 HI.out.2.1 HI.out.2.2 (by rw [List.length_map]; exact ce.out.2.1.2) (by rw [List.length_map]; exact ce.out.1.2) az.out.2.2.1 az.out.2.1 ce.out.2.2)
          rw [List.length_map, List.length_map] at dw
          clear cw gm gy oj nd
          go_wp2_with fail
          refine dw.out.mono ?_
          rintro x ao ⟨td, bp, dp, rfl, se, nj, nl, ch⟩
          obtain ⟨fx, jb⟩ : ∃ n, td.length = n := ⟨_, rfl⟩
          rw [jb]
          have bj : Hid (P ao /\ StrRow ao r1 (L1.map textB) d1 /\ StrRow ao r2 (L2.map textB) d2 /\ StrRow ao ba ta bo /\ w22.heap.size <= ao.heap.size /\ StrRow ao bp td dp /\ (∀ a, bp = some a -> w22.heap.size <= a.block /\ a.block < ao.heap.size) /\ td.length <= 2001 /\ td.length = fx /\ ao.heap[t1]? = w22.heap[t1]?) := ⟨bg.out _ _ az.out.1 ch, az.out.2.1.below ch, az.out.2.2.1.below ch, az.out.2.2.2.2.1.below ch, ch.size, se, nj, nl, jb, ch.block t1 (by have := az.out.2.2.2.2.2.2.2.2.1; omega)⟩
          have fq := run_build_six ao r2 r2 bp pa none pa L2.length d2 L2.length d2 fx dp la.length ca 0 0 la.length ca
          clear se nj nl ch jb dw
          go_upto_region 25 with fail
          clear fq
          have bm : Below ao.heap.size ao (World.alloc ao (.cells #[.slice r2 L2.length d2, .slice r2 L2.length d2, .slice bp fx dp, .slice pa la.length ca, .slice none 0 0, .slice pa la.length ca] 24)) := (Below.refl _ _).alloc (Nat.le_refl _) _
          have gn : (World.alloc ao (.cells #[.slice r2 L2.length d2, .slice r2 L2.length d2, .slice bp fx dp, .slice pa la.length ca, .slice none 0 0, .slice pa la.length ca] 24)).heap[ao.heap.size]? = some (.cells #[.slice r2 L2.length d2, .slice r2 L2.length d2, .slice bp fx dp, .slice pa la.length ca, .slice none 0 0, .slice pa la.length ca] 24 (0, 0)) := Array.getElem?_push_size
          have j7 : (World.alloc ao (.cells #[.slice r2 L2.length d2, .slice r2 L2.length d2, .slice bp fx dp, .slice pa la.length ca, .slice none 0 0, .slice pa la.length ca] 24)).heap.size = ao.heap.size + 1 := by simp
          generalize World.alloc ao _ = w24 at bm gn j7 ⊢
          obtain ⟨t2, sd⟩ : ∃ t, ao.heap.size = t := ⟨_, rfl⟩
          rw [sd] at gn j7 ⊢
          obtain ⟨TD, jk⟩ : ∃ D, tt.dig = D := ⟨_, rfl⟩
          have hTl := dig_ok ay.out.2.2.2.2.1 jk
          obtain ⟨U3, cp⟩ : ∃ U : Nat -> Prop, ∀ k, U k ↔ (U1 k \/ k = t1 \/ k = t2 \/ (∃ a, r1 = some a /\ k = a.block) \/ (∃ a, r2 = some a /\ k = a.block) \/ (∃ a, ba = some a /\ k = a.block) \/ ∃ a, bp = some a /\ k = a.block) := ⟨_, fun _ => Iff.rfl⟩
          have iz := bg.out _ _ bj.out.1 bm
          have jw := cm.out _ iz
          have ir := cm.out _ cl.out.1
          have su := az.out.2.2.2.1
          have uq := az.out.2.2.2.2.2.2.2.2.1
          have ur := bj.out.2.2.2.2.1
          have cu : ∀ k, U3 k -> k < w24.heap.size /\ J k = none := fun k hk => by
            rcases (cp k).1 hk with h | h | h | ⟨a, ha, h⟩ | ⟨a, ha, h⟩ | ⟨a, ha, h⟩ | ⟨a, ha, h⟩
            · exact ⟨Nat.lt_of_lt_of_le (ay.out.2.2.2.1 k h).1 jw.q.size, (ay.out.2.2.2.1 k h).2⟩
            · rw [h]; exact ⟨by omega, ir.q.wood.fresh su⟩
            · rw [h]; exact ⟨by omega, ir.q.wood.fresh (by omega)⟩
            · rw [h]; exact ⟨by have := (cl.out.2.2.2.1 a ha).1; omega, (cl.out.2.2.2.1 a ha).2⟩
            · rw [h]; exact ⟨by have := (cl.out.2.2.2.2 a ha).1; omega, (cl.out.2.2.2.2 a ha).2⟩
            · rw [h]; exact ⟨by have := (az.out.2.2.2.2.2.1 a ha).2; omega, ir.q.wood.fresh (az.out.2.2.2.2.2.1 a ha).1⟩
            · rw [h]; exact ⟨by have := (bj.out.2.2.2.2.2.2.1 a ha).2; omega, ir.q.wood.fresh (by have := (bj.out.2.2.2.2.2.2.1 a ha).1; omega)⟩
          have u1 : ∀ a, r1 = some a -> U3 a.block := fun a ha => (cp _).2 (.inr (.inr (.inr (.inl ⟨a, ha, rfl⟩))))
          have u2 : ∀ a, r2 = some a -> U3 a.block := fun a ha => (cp _).2 (.inr (.inr (.inr (.inr (.inl ⟨a, ha, rfl⟩)))))
          have ua : ∀ a, ba = some a -> U3 a.block := fun a ha => (cp _).2 (.inr (.inr (.inr (.inr (.inr (.inl ⟨a, ha, rfl⟩))))))
          have ud : ∀ a, bp = some a -> U3 a.block := fun a ha => (cp _).2 (.inr (.inr (.inr (.inr (.inr (.inr ⟨a, ha, rfl⟩))))))
          have iu : RowIn w J U3 w24 (r1, L1.map textB, d1) := ⟨by rw [List.length_map]; have := ce.out.1.2; omega, fun a ha => (cu _ (u1 a ha)).2, .inl ⟨bj.out.2.1.below bm, u1⟩⟩
          have oa : RowIn w J U3 w24 (r2, L2.map textB, d2) := ⟨by rw [List.length_map]; have := ce.out.2.1.2; omega, fun a ha => (cu _ (u2 a ha)).2, .inl ⟨bj.out.2.2.1.below bm, u2⟩⟩
          have sn : RowIn w J U3 w24 (ba, ta, bo) := ⟨by have := az.out.2.2.2.2.2.2.1; show ta.length <= _; omega, fun a ha => (cu _ (ua a ha)).2, .inl ⟨bj.out.2.2.2.1.below bm, ua⟩⟩
          have sr : RowIn w J U3 w24 (bp, td, dp) := ⟨by have := bj.out.2.2.2.2.2.2.2.1; show td.length <= _; omega, fun a ha => (cu _ (ud a ha)).2, .inl ⟨bj.out.2.2.2.2.2.1.below bm, ud⟩⟩
          have jx : RowIn w J U3 w24 (pa, la, ca) := ⟨HA.out.2.2, fun a ha => by
            cases hS : J a.block with
            | none => rfl
            | some z => have := jw.q.wood.low _ z hS; have := HC.out.1.below.size; have := HA.out.2.1 a ha; omega, .inr HA.out.1⟩
          have ss : RowIn w J U3 w24 (none, [], 0) := ⟨by show (0 : Nat) <= _; omega, fun a ha => (by cases ha), .inr (strRow_nil w)⟩
          have r9 : w24.heap[t1]? = some (.cells #[rowV (r1, L1.map textB, d1), rowV (ba, ta, bo), rowV (r1, L1.map textB, d1), rowV (pa, la, ca), rowV (r1, L1.map textB, d1), rowV (r1, L1.map textB, d1)] 24 (0, 0)) := by
            simp only [rowV, List.length_map, az.out.2.2.2.2.2.2.2.1]
            exact (bm.block t1 (by omega)).trans (bj.out.2.2.2.2.2.2.2.2.2.trans az.out.2.2.2.2.2.2.2.2.2)
          have re : w24.heap[t2]? = some (.cells #[rowV (r2, L2.map textB, d2), rowV (r2, L2.map textB, d2), rowV (bp, td, dp), rowV (pa, la, ca), rowV (none, [], 0), rowV (pa, la, ca)] 24 (0, 0)) := by
            simp only [rowV, List.length_map, bj.out.2.2.2.2.2.2.2.2.1]
            exact gn
          obtain ⟨fa, mh, rn⟩ := six_of (w := w) (S := J) (U := U3) _ _ _ _ _ _ r9 iu sn iu jx iu iu
          obtain ⟨ia, mi, ig⟩ := six_of (w := w) (S := J) (U := U3) _ _ _ _ _ _ re oa oa sr jx ss jx
          have iw := GenT.kit (w := w) (R := w24) (U := U3) (B := wB.heap.size) (S := J) (bt := bt) (t := tt) (bs := bs) (s := ts) HC.out.1.below.size cu
          have ll : GenT w w24 U3 wB.heap.size J bt tt bs ts w24 := jw.next
          have li := al.out _ iz
          have qq : ∀ k, TiU w w1.heap.size V.heap.size sb ab (.slice p1 mm.length c1) (.slice p2 mm.length c2) (.slice a1 X.length aa) (.slice a2 X.length ac) k -> U3 k := fun k h => (cp k).2 (.inl (ay.out.2.2.1 k h))
          have ne : U3 t1 := (cp _).2 (.inr (.inl rfl))
          have nf : U3 t2 := (cp _).2 (.inr (.inr (.inl rfl)))
          have pg : Hid (fa 0 = (r1, L1.map textB, d1) /\ ∀ k, k < 6 -> w24.cell? ⟨t1, k, none⟩ = some (rowV (fa k)) /\ RowIn w J U3 w24 (fa k)) := ⟨mh, rn⟩
          have ph : Hid (ia 0 = (r2, L2.map textB, d2) /\ ∀ k, k < 6 -> w24.cell? ⟨t2, k, none⟩ = some (rowV (ia k)) /\ RowIn w J U3 w24 (ia k)) := ⟨mi, ig⟩
          have uc : Hid (∀ er, storF TD ow sl L1 L2 = .error er -> th = false /\ L2 ≠ []) := fun er he => tied_zero ay.out.2.2.2.2.1 au.out.2.2.1 aq.out.1 aq.out.2.2.2.1 aq.out.2.2.1 ai.out.2.2.1 aq.out.2.1 i7.out cj.out.2.2.2.2.2.2.1 HD.out.2.2.1 ay.out.2.2.2.2.2 au.out.2.2.2.1 jk ai.out.1 ai.out.2.1 pq.out he
          have jd : Hid (tt.dig = TD /\ TD.length = 32 /\ ∀ x ∈ TD, x < 256) := ⟨jk, hTl⟩
          have tj : (Tryz.prog.info? 34).map (·.size) = some (sl.map encB).length := by rw [size51]; simp [HD.out.2.2.2.2.1]
          clear kl cm bg al cf cl az bj iz jw ir hP iu oa sn sr jx ss r9 re mh rn mi ig u1 u2 ua ud cp cu su uq ur bm gn j7 sd jk hTl fm
          clear P
          obtain ⟨P, hP⟩ : ∃ P', GenT w w24 U3 wB.heap.size J bt tt bs ts = P' := ⟨_, rfl⟩
          obtain ⟨F, hF⟩ : ∃ F', GenTF w U3 J bt bs = F' := ⟨_, rfl⟩
          rw [hP, hF] at iw
          rw [hP] at ll
          have ap := Hid.hide iw
          have HQ : Hid (∀ W, P W -> GenT w w24 U3 wB.heap.size J bt tt bs ts W) := fun W h => by rw [<- hP] at h; exact h
          have al : Hid (∀ W, P W -> TiM w ow w1.heap.size V.heap.size sb ab (.slice p1 mm.length c1) (.slice p2 mm.length c2) (.slice a1 X.length aa) (.slice a2 X.length ac) mm X sl (digB sl) W) := fun W h => by
            have q := HQ.out W h
            exact li.keep q.q.below q.q.size fun k hk => q.q.keep k (qq k hk)
          have om : Hid (∀ W, P W -> W.rangeAt ab 0 (DS.map encB)) := fun W h => by have := (al.out W h).at_; rw [ai.out.2.2.1] at this; exact this
          have cf : Hid (∀ W, P W -> Calls Tryz.prog 10 #[.agg (ow.map encB).toArray] W fun e w' => e = .returned (.agg (DO.map encB).toArray) /\ Below W.heap.size W w') := fun W h => by
            have q := HQ.out W h
            have := named_l ow HL.out (HT.out W q.q.below).1 (HT.out W q.q.below).2
            rw [aq.out.2.2.1] at this
            exact this
          have kr : Hid (∀ W, P W -> Calls Tryz.prog 12 #[.pointer (some ⟨bt, 0, none⟩)] W fun e w' => e = .returned (.agg (TD.map encB).toArray) /\ Fr wB.heap.size J J W w') := fun W h => by
            have q := HQ.out W h
            have := xroot_any q.q.wood (HT.out W q.q.below).1 gz.out q.q.tree
            rw [jd.out.1] at this
            exact this
          have qb : Hid (∀ W, P W -> ∀ k, W.cell? ⟨t1, k, none⟩ = w24.cell? ⟨t1, k, none⟩ /\ W.cell? ⟨t2, k, none⟩ = w24.cell? ⟨t2, k, none⟩) := fun W h k => ⟨World.cell?_of_block (a := ⟨t1, k, none⟩) ((HQ.out W h).q.keep t1 ne), World.cell?_of_block (a := ⟨t2, k, none⟩) ((HQ.out W h).q.keep t2 nf)⟩
          have qe : Hid (P w24) := ll
          clear ll iw li qq ne nf hP hF
          go_wp2
          go_loopg [32] 6 (fun gh i wr => ∃ k : Nat, k <= 6 /\ gh = 6 - k /\ i = .int .i64 (k : Int) /\ P wr)
          case atStart => exact ⟨0, by omega, rfl, rfl, qe.out⟩
          case round =>
            obtain ⟨k, hk, rfl, rfl, hZ⟩ := hrel
            by_cases mz : k < 6
            · have i1 : (k : Int) < 6 := by omega
              obtain ⟨jo, ew, ji, f9⟩ := pg.out.2 k mz
              obtain ⟨dh, ez, jj, jq⟩ := ph.out.2 k mz
              obtain ⟨ra, j5⟩ : ∃ r, fa k = r := ⟨_, rfl⟩
              obtain ⟨rb, j6⟩ : ∃ r, ia k = r := ⟨_, rfl⟩
              rw [j5] at jo ew ji f9
              rw [j6] at dh ez jj jq
              obtain ⟨qp, ql, qc⟩ := ra
              obtain ⟨sp, sq, sc⟩ := rb
              dsimp only [rowV] at jo ew ji f9 dh ez jj jq
              obtain ⟨q, hq⟩ : ∃ q, storF TD ow sl (ql.map bytesOf) (sq.map bytesOf) = q := ⟨_, rfl⟩
              obtain ⟨en, ep, ed, ea, fs, mc, me⟩ := fault_four q
              obtain ⟨xs, nz⟩ : ∃ x, verStr q = x := ⟨_, rfl⟩
              obtain ⟨xb, ny⟩ : ∃ x, verHas q = x := ⟨_, rfl⟩
              have py : Hid (∀ W, P W -> StrRow W qp ql qc) := fun W h => f9.elim (fun r => (HQ.out W h).q.row r.1 r.2) (fun r => (HQ.out W h).q.anyRow r)
              have pz : Hid (∀ W, P W -> StrRow W sp sq sc) := fun W h => jq.elim (fun r => (HQ.out W h).q.row r.1 r.2) (fun r => (HQ.out W h).q.anyRow r)
              have q8 : Hid (∀ W, P W -> W.cell? ⟨t1, k, none⟩ = some (.slice qp ql.length qc)) := fun W h => (qb.out W h k).1.trans jo
              have q9 : Hid (∀ W, P W -> W.cell? ⟨t2, k, none⟩ = some (.slice sp sq.length sc)) := fun W h => (qb.out W h k).2.trans dh
              have qd : Hid (∀ W, P W -> Calls Tryz.prog 16 #[.agg (TD.map encB).toArray, .agg (ow.map encB).toArray, .agg (sl.map encB).toArray, .slice qp ql.length qc, .slice sp sq.length sc] W fun e w' => e = .returned (.tuple #[.string xs, .bool xb, faultV en ep ed ea]) /\ Below W.heap.size W w') := fun W h => by
               have q' := HQ.out W h
               have hb := q'.q.below
               have := xstor_any sent TD ow sl ql sq qp sp qc sc ((HE.out.1.below hb).raise hb.size) ((hb.cell (p := ⟨12, 0, none⟩) HE.out.2.2).trans HE.out.2.1) (Nat.lt_of_lt_of_le HE.out.2.2 hb.size) jd.out.2.1 jd.out.2.2 HL.out HD.out.2.2.2.2.1 (py.out W h) (pz.out W h) ew ez (q := q) hq
               rw [nz, ny, fs] at this
               exact this
              have HSt : Hid (P wr.drew) := ap.out.more _ _ hZ (Below.refl _ _).drew
              have bc : Hid (storF TD ow sl (ql.map bytesOf) (sq.map bytesOf) = q /\ (∀ er, q = .error er -> en = er.num /\ ed = er.node) /\ (∀ o, q = .ok o -> en = 0) /\ verStr q = xs /\ verHas q = xb /\ (ql.length <= 9223372036854775807 /\ ∀ a, qp = some a -> J a.block = none) /\ (sq.length <= 9223372036854775807 /\ ∀ a, sp = some a -> J a.block = none) /\ fa k = (qp, ql, qc) /\ ia k = (sp, sq, sc)) := ⟨hq, mc, me, nz, ny, ⟨ew, ji⟩, ⟨ez, jj⟩, j5, j6⟩
              clear jo ew ji f9 dh ez jj jq j5 j6 hq fs mc me nz ny hZ hk qe
              go_upto_region 28 with fail
              go_cut [33, 34, 35] (fun a b c wd => a = .string xs /\ b = .bool xb /\ FtY P F (.int .i64 (en : Int)) (.int .i64 (ep : Int)) (.int .i64 (ed : Int)) (.int .i64 (ea : Int)) false undef true c true wd)
              case first => as_aux_lemma =>
               refine wp_region_any (by kernel_rfl) ?_
               change wpAny _ _ _ _ _ _ _ (World.drew _)
               obtain ⟨vf, E⟩ : ∃ vf : Nat -> Option Value, vf = fun i => ([some (.pointer (some ⟨bt, 0, none⟩)), some (.agg (TD.map encB).toArray), some (.agg (ow.map encB).toArray), some (.agg (sl.map encB).toArray), some (.slice (some ⟨t1, 0, none⟩) 6 6), some (.int .i64 (k : Int)), some (.pointer (some ⟨t1, k, none⟩)), some (.slice qp ql.length qc), some (.slice (some ⟨t2, 0, none⟩) 6 6), some (.int .i64 (k : Int)), some (.pointer (some ⟨t2, k, none⟩)), some (.slice sp sq.length sc), some (.tuple #[.string xs, .bool xb, faultV en ep ed ea]), some (.tuple #[.string xs, .bool xb, faultV en ep ed ea]), some (.string xs), some (.bool xb), some (faultV en ep ed ea), none, some (.string xs), some (.bool xb), none] : List (Option Value)).getD i none := ⟨_, rfl⟩
               refine wpAny_vary _ (fun d v w' => (∀ i x, vf i = some x -> d i = true -> v i = x) /\ (fun d v w' => FtY P F (.int .i64 (en : Int)) (.int .i64 (ep : Int)) (.int .i64 (ed : Int)) (.int .i64 (ea : Int)) false undef (d 17) (v 17) (d 20) w') d v w') (by kernel_rfl) (by kernel_rfl) ?_ _ (fun _ => undef) ?_ ?_
               ·intro i o I Z O b W l N g H
                have hi : i < 21 := (Array.getElem?_eq_some_iff.1 I).1
                match i, hi with
                | 0, _ =>
                  obtain rfl := Option.some.inj I
                  have ux : b.tmps[25]? = some (.pointer (some ⟨bt, 0, none⟩)) := (l.rest 25 (fun i _ => noDst_of (by kernel_rfl) i)).trans rfl
                  refine opPlain H.1 (by rw [E]; rfl) H.2 ?_
                  clear I g l H N E
                  go_simp
                | 1, _ =>
                  obtain rfl := Option.some.inj I
                  have vm : b.tmps[147]? = some (.pointer (some ⟨bt, 0, none⟩)) := tDone l H.1 (g ⟨0, .data⟩ (by simp) rfl) rfl (by simp) (by rw [E]; rfl)
                  refine opHide fun G hG => ?_
                  have HG := Hid.hide hG
                  have ag := Hid.hide H
                  have ak := Hid.hide E
                  clear hG I g l H N E
                  go_simp
                  go_at_call 12
                  refine (kr.out W ag.out.2.all).mono ?_
                  rintro e w9 ⟨rfl, ah⟩
                  exact ⟨_, rfl, (HG.out _ _).2 ⟨vals_step ag.out.1 (by rw [ak.out]; rfl), ag.out.2.fr ap.out ah⟩⟩
                | 2, _ =>
                  obtain rfl := Option.some.inj I
                  have fi : b.tmps[10]? = some (.pointer (some ⟨w.heap.size, 0, none⟩)) := (l.rest 10 (fun i _ => noDst_of (by kernel_rfl) i)).trans rfl
                  refine wp_load_mid 23 (.tmp 10) rfl w.heap.size 0 (by simp only [Act.eval, Array.getD_eq_getD_getElem?, fi, Option.getD_some]) (ow.map encB) _ (al.out W H.2.all).own fd rfl fe ?_
                  exact ⟨_, rfl, vals_step H.1 (by rw [E]; rfl), H.2⟩
                | 3, _ =>
                  obtain rfl := Option.some.inj I
                  have uu : b.tmps[20]? = some (.pointer (some ⟨sb, 0, none⟩)) := (l.rest 20 (fun i _ => noDst_of (by kernel_rfl) i)).trans rfl
                  refine wp_load_mid 34 (.tmp 20) rfl sb 0 (by simp only [Act.eval, Array.getD_eq_getD_getElem?, uu, Option.getD_some]) (sl.map encB) _ (al.out W H.2.all).slot cz rfl tj ?_
                  exact ⟨_, rfl, vals_step H.1 (by rw [E]; rfl), H.2⟩
                | 4, _ =>
                  obtain rfl := Option.some.inj I
                  have uy : b.tmps[30]? = some (.slice (some ⟨t1, 0, none⟩) 6 6) := (l.rest 30 (fun i _ => noDst_of (by kernel_rfl) i)).trans rfl
                  refine opPlain H.1 (by rw [E]; rfl) H.2 ?_
                  clear I g l H N E
                  go_simp
                | 5, _ =>
                  obtain rfl := Option.some.inj I
                  have oi : b.tmps[32]? = some (.int .i64 (k : Int)) := (l.rest 32 (fun i _ => noDst_of (by kernel_rfl) i)).trans rfl
                  refine opPlain H.1 (by rw [E]; rfl) H.2 ?_
                  clear I g l H N E
                  go_simp
                | 6, _ =>
                  obtain rfl := Option.some.inj I
                  have vr : b.tmps[151]? = some (.slice (some ⟨t1, 0, none⟩) 6 6) := tDone l H.1 (g ⟨4, .data⟩ (by simp) rfl) rfl (by simp) (by rw [E]; rfl)
                  have vt : b.tmps[152]? = some (.int .i64 (k : Int)) := tDone l H.1 (g ⟨5, .data⟩ (by simp) rfl) rfl (by simp) (by rw [E]; rfl)
                  refine opPlain H.1 (by rw [E]; rfl) H.2 ?_
                  clear I g l H N E
                  go_simp
                | 7, _ =>
                  obtain rfl := Option.some.inj I
                  have vu : b.tmps[153]? = some (.pointer (some ⟨t1, k, none⟩)) := tDone l H.1 (g ⟨6, .data⟩ (by simp) rfl) rfl (by simp) (by rw [E]; rfl)
                  have hq := q8.out W H.2.all
                  refine opPlain H.1 (by rw [E]; rfl) H.2 ?_
                  clear I g l H N E
                  go_simp
                | 8, _ =>
                  obtain rfl := Option.some.inj I
                  have uz : b.tmps[31]? = some (.slice (some ⟨t2, 0, none⟩) 6 6) := (l.rest 31 (fun i _ => noDst_of (by kernel_rfl) i)).trans rfl
                  refine opPlain H.1 (by rw [E]; rfl) H.2 ?_
                  clear I g l H N E
                  go_simp
                | 9, _ =>
                  obtain rfl := Option.some.inj I
                  have oi : b.tmps[32]? = some (.int .i64 (k : Int)) := (l.rest 32 (fun i _ => noDst_of (by kernel_rfl) i)).trans rfl
                  refine opPlain H.1 (by rw [E]; rfl) H.2 ?_
                  clear I g l H N E
                  go_simp
                | 10, _ =>
                  obtain rfl := Option.some.inj I
                  have vx : b.tmps[155]? = some (.slice (some ⟨t2, 0, none⟩) 6 6) := tDone l H.1 (g ⟨8, .data⟩ (by simp) rfl) rfl (by simp) (by rw [E]; rfl)
                  have vy : b.tmps[156]? = some (.int .i64 (k : Int)) := tDone l H.1 (g ⟨9, .data⟩ (by simp) rfl) rfl (by simp) (by rw [E]; rfl)
                  refine opPlain H.1 (by rw [E]; rfl) H.2 ?_
                  clear I g l H N E
                  go_simp
                | 11, _ =>
                  obtain rfl := Option.some.inj I
                  have vz : b.tmps[157]? = some (.pointer (some ⟨t2, k, none⟩)) := tDone l H.1 (g ⟨10, .data⟩ (by simp) rfl) rfl (by simp) (by rw [E]; rfl)
                  have hq := q9.out W H.2.all
                  refine opPlain H.1 (by rw [E]; rfl) H.2 ?_
                  clear I g l H N E
                  go_simp
                | 12, _ =>
                  obtain rfl := Option.some.inj I
                  have vn : b.tmps[148]? = some (.agg (TD.map encB).toArray) := tDone l H.1 (g ⟨1, .data⟩ (by simp) rfl) rfl (by simp) (by rw [E]; rfl)
                  have vp : b.tmps[149]? = some (.agg (ow.map encB).toArray) := tDone l H.1 (g ⟨2, .data⟩ (by simp) rfl) rfl (by simp) (by rw [E]; rfl)
                  have vq : b.tmps[150]? = some (.agg (sl.map encB).toArray) := tDone l H.1 (g ⟨3, .data⟩ (by simp) rfl) rfl (by simp) (by rw [E]; rfl)
                  have vw : b.tmps[154]? = some (.slice qp ql.length qc) := tDone l H.1 (g ⟨7, .data⟩ (by simp) rfl) rfl (by simp) (by rw [E]; rfl)
                  have wa : b.tmps[158]? = some (.slice sp sq.length sc) := tDone l H.1 (g ⟨11, .data⟩ (by simp) rfl) rfl (by simp) (by rw [E]; rfl)
                  refine opHide fun G hG => ?_
                  have HG := Hid.hide hG
                  have ag := Hid.hide H
                  have ak := Hid.hide E
                  clear hG I g l H N E
                  go_simp
                  go_at_call 16
                  refine (qd.out W ag.out.2.all).mono ?_
                  rintro e w9 ⟨rfl, ah⟩
                  exact ⟨_, rfl, (HG.out _ _).2 ⟨vals_step ag.out.1 (by rw [ak.out]; rfl), ag.out.2.more ap.out ah⟩⟩
                | 13, _ =>
                  obtain rfl := Option.some.inj I
                  have wb : b.tmps[159]? = some (.tuple #[.string xs, .bool xb, faultV en ep ed ea]) := tDone l H.1 (g ⟨12, .data⟩ (by simp) rfl) rfl (by simp) (by rw [E]; rfl)
                  refine opPlain H.1 (by rw [E]; rfl) H.2 ?_
                  clear I g l H N E
                  go_simp
                | 14, _ =>
                  obtain rfl := Option.some.inj I
                  have od : b.tmps[146]? = some (.tuple #[.string xs, .bool xb, faultV en ep ed ea]) := tDone l H.1 (g ⟨13, .data⟩ (by simp) rfl) rfl (by simp) (by rw [E]; rfl)
                  refine opPlain H.1 (by rw [E]; rfl) H.2 ?_
                  clear I g l H N E
                  go_simp
                | 15, _ =>
                  obtain rfl := Option.some.inj I
                  have od : b.tmps[146]? = some (.tuple #[.string xs, .bool xb, faultV en ep ed ea]) := tDone l H.1 (g ⟨13, .data⟩ (by simp) rfl) rfl (by simp) (by rw [E]; rfl)
                  refine opPlain H.1 (by rw [E]; rfl) H.2 ?_
                  clear I g l H N E
                  go_simp
                | 16, _ =>
                  obtain rfl := Option.some.inj I
                  have od : b.tmps[146]? = some (.tuple #[.string xs, .bool xb, faultV en ep ed ea]) := tDone l H.1 (g ⟨13, .data⟩ (by simp) rfl) rfl (by simp) (by rw [E]; rfl)
                  refine opPlain H.1 (by rw [E]; rfl) H.2 ?_
                  clear I g l H N E
                  go_simp
                | 17, _ =>
                  obtain rfl := Option.some.inj I
                  have m8 : Z.getD 20 false = false := by
                    cases hq : Z.getD 20 false with
                    | false => rfl
                    | true => exact absurd (H.2.ft14 hq) (by show ¬ Z.getD 17 false = true; rw [N]; simp)
                  refine Oper.wp_mono (K := fun a' w' => a' = b.put (some 35) (.pointer (some ⟨W.heap.size, 0, none⟩)) /\ w' = W.alloc (.cells #[.int .i64 0, .int .i64 0, .int .i64 0, .int .i64 0] 55)) (by rintro a' w' ⟨rfl, rfl⟩; exact ⟨_, rfl, vals_free H.1 (by rw [E]; rfl), H.2.alloc ap.out m8⟩) ?_
                  clear I g l H N E m8
                  go_simp
                | 18, _ =>
                  obtain rfl := Option.some.inj I
                  have we : b.tmps[160]? = some (.string xs) := tDone l H.1 (g ⟨14, .data⟩ (by simp) rfl) rfl (by simp) (by rw [E]; rfl)
                  refine opPlain H.1 (by rw [E]; rfl) H.2 ?_
                  clear I g l H N E
                  go_simp
                | 19, _ =>
                  obtain rfl := Option.some.inj I
                  have wg : b.tmps[161]? = some (.bool xb) := tDone l H.1 (g ⟨15, .data⟩ (by simp) rfl) rfl (by simp) (by rw [E]; rfl)
                  refine opPlain H.1 (by rw [E]; rfl) H.2 ?_
                  clear I g l H N E
                  go_simp
                | 20, _ =>
                  obtain rfl := Option.some.inj I
                  have tk : b.tmps[162]? = some (faultV en ep ed ea) := tDone l H.1 (g ⟨16, .data⟩ (by simp) rfl) rfl (by simp) (by rw [E]; rfl)
                  have l9 := g ⟨17, .data⟩ (by simp) rfl
                  obtain ⟨f, x0, x1, x2, x3, f1, f2, f3, -⟩ := H.2.ft l9
                  have va : b.tmps[35]? = some (.pointer (some ⟨f, 0, none⟩)) := (l.done 17 35 l9 rfl (by simp)).trans (congrArg some f1)
                  refine wp_store_mid 55 (.tmp 35) (.tmp 162) rfl f 0 #[.int .i64 (en : Int), .int .i64 (ep : Int), .int .i64 (ed : Int), .int .i64 (ea : Int)] (by simp only [Act.eval, Array.getD_eq_getD_getElem?, va, Option.getD_some]) (by simp only [Act.eval, Array.getD_eq_getD_getElem?, tk, Option.getD_some] <;> rfl) (there_cells f3 rfl) (by kernel_rfl) (by simp [Value.oneCell']) ?_
                  exact ⟨_, rfl, vals_free H.1 (by rw [E]; rfl), FtY.put ap.out H.2 l9 f1⟩
               ·exact ⟨fun _ _ _ h => (by simp at h), FtY.start HSt.out (by simp) (by simp) (by simp)⟩
               ·intro O W H
                have e0 : O 0 = .pointer (some ⟨bt, 0, none⟩) := H.1 0 _ (by rw [E]; rfl) rfl
                have e1 : O 1 = .agg (TD.map encB).toArray := H.1 1 _ (by rw [E]; rfl) rfl
                have e2 : O 2 = .agg (ow.map encB).toArray := H.1 2 _ (by rw [E]; rfl) rfl
                have e3 : O 3 = .agg (sl.map encB).toArray := H.1 3 _ (by rw [E]; rfl) rfl
                have e4 : O 4 = .slice (some ⟨t1, 0, none⟩) 6 6 := H.1 4 _ (by rw [E]; rfl) rfl
                have e5 : O 5 = .int .i64 (k : Int) := H.1 5 _ (by rw [E]; rfl) rfl
                have e6 : O 6 = .pointer (some ⟨t1, k, none⟩) := H.1 6 _ (by rw [E]; rfl) rfl
                have e7 : O 7 = .slice qp ql.length qc := H.1 7 _ (by rw [E]; rfl) rfl
                have e8 : O 8 = .slice (some ⟨t2, 0, none⟩) 6 6 := H.1 8 _ (by rw [E]; rfl) rfl
                have e9 : O 9 = .int .i64 (k : Int) := H.1 9 _ (by rw [E]; rfl) rfl
                have dc : O 10 = .pointer (some ⟨t2, k, none⟩) := H.1 10 _ (by rw [E]; rfl) rfl
                have de : O 11 = .slice sp sq.length sc := H.1 11 _ (by rw [E]; rfl) rfl
                have df : O 12 = .tuple #[.string xs, .bool xb, faultV en ep ed ea] := H.1 12 _ (by rw [E]; rfl) rfl
                have dg : O 13 = .tuple #[.string xs, .bool xb, faultV en ep ed ea] := H.1 13 _ (by rw [E]; rfl) rfl
                have i9 : O 14 = .string xs := H.1 14 _ (by rw [E]; rfl) rfl
                have qf : O 15 = .bool xb := H.1 15 _ (by rw [E]; rfl) rfl
                have qg : O 16 = faultV en ep ed ea := H.1 16 _ (by rw [E]; rfl) rfl
                have qh : O 18 = .string xs := H.1 18 _ (by rw [E]; rfl) rfl
                have qi : O 19 = .bool xb := H.1 19 _ (by rw [E]; rfl) rfl
                have hX := H.2
                simp only [runFrom, Act.put, Nat.zero_add, Nat.reduceAdd, List.setIfInBounds_toArray, List.set_cons_zero, List.set_cons_succ, e0, e1, e2, e3, e4, e5, e6, e7, e8, e9, dc, de, df, dg, i9, qf, qg, qh, qi]
                clear H E e0 e1 e2 e3 e4 e5 e6 e7 e8 e9 dc de df dg i9 qf qg qh qi
                have HX : Hid (FtY P F (.int .i64 (en : Int)) (.int .i64 (ep : Int)) (.int .i64 (ed : Int)) (.int .i64 (ea : Int)) false undef true (O 17) true W) := hX
                clear hX
                (try go_wp2)
                go_meet
                exact ⟨rfl, rfl, HX.out⟩
              case rest => as_aux_lemma =>
               obtain ⟨rfl, rfl, hY⟩ := hcut
               obtain ⟨sx, rfl⟩ : ∃ x, x = wc := ⟨_, rfl⟩
               obtain ⟨f, rfl, ug, rf⟩ := hY.fault
               obtain ⟨f0, f1, f2, f3, -⟩ := fault_cells rf
               have dr : Hid (P sx) := hY.all
               clear hY ug rf HSt qd
               cases q with
               | error er =>
                have ik : ¬ (en : Int) = 0 := by
                  have hs := storF_simple (bytes_all ql) (bytes_all sq) bc.out.1
                  have := Er.num_pos hs
                  have := (bc.out.2.1 er rfl).1
                  omega
                have bf := Hid.hide dr.out
                by_cases ul : k = 0
                · subst ul
                  have hz : th = false /\ L2 ≠ [] := by
                    have h1 := bc.out.1
                    have h2 := bc.out.2.2.2.2.2.2.2.1
                    have h3 := bc.out.2.2.2.2.2.2.2.2
                    rw [pg.out.1] at h2
                    rw [ph.out.1] at h3
                    simp only [Prod.mk.injEq] at h2 h3
                    rw [<- h2.2.1, <- h3.2.1, texts_back ce.out.1.1, texts_back ce.out.2.1.1] at h1
                    exact uc.out er h1
                  obtain ⟨rfl, ib⟩ := hz
                  have xa : ¬ (L2.length : Int) = 0 := fun h => ib (List.length_eq_zero_iff.1 (by omega))
                  clear ib
                  go_wp2
                  go_roundg (6 - (0 + 1))
                  case measure => omega
                  case rel => exact ⟨0 + 1, by omega, rfl, by simp, bf.out⟩
                · have fu : ¬ (k : Int) = 0 := by omega
                  go_wp2
                  go_roundg (6 - (k + 1))
                  case measure => omega
                  case rel => exact ⟨k + 1, by omega, rfl, by simp, bf.out⟩
               | ok oo => as_aux_lemma =>
                obtain rfl : en = 0 := bc.out.2.2.1 oo rfl
                obtain ⟨ex, ey, eb, mf⟩ := exV_three (exF (orE L1) (orE (ql.map bytesOf)))
                obtain ⟨ex', ey', eb', j3⟩ := exV_three (exF (orE L2) (orE (sq.map bytesOf)))
                obtain ⟨fh, j8⟩ : ∃ b, ansB none xs xb = b := ⟨_, rfl⟩
                obtain ⟨jy, j9⟩ : ∃ b, ansB (getN mm (nibs DS)) xs xb = b := ⟨_, rfl⟩
                obtain ⟨cb, dh⟩ : ∃ b, collB ex ey eb = b := ⟨_, rfl⟩
                obtain ⟨jf, j2⟩ : ∃ b, collB ex' ey' eb' = b := ⟨_, rfl⟩
                obtain ⟨sm, jv⟩ : ∃ b, (bif th then jy else fh) = b := ⟨_, rfl⟩
                obtain ⟨tw, nt⟩ : ∃ b, (th && jf) = b := ⟨_, rfl⟩
                have s5 : sm = true \/ cb = true \/ tw = true := by
                  have := tied_or ay.out.2.2.2.2.1 au.out.2.2.1 aq.out.1 aq.out.2.2.2.1 aq.out.2.2.1 ai.out.2.2.1 aq.out.2.1 i7.out cj.out.2.2.2.2.2.2.1 HD.out.2.2.1 ay.out.2.2.2.2.2 au.out.2.2.2.1 jd.out.1 ai.out.1 ai.out.2.1 pq.out bc.out.1 mf j3
                  have h1 := bc.out.2.2.2.1
                  have h2 := bc.out.2.2.2.2.1
                  rw [dh, j2] at this
                  have qt : ∀ z : Option ByteArray, oo = z -> ansB z xs xb = true := fun z hz => by rw [<- hz, ansB, <- h1, <- h2]; simp [verStr, verHas]
                  cases th with
                  | true =>
                    rcases this.1 rfl with h | h | h
                    · exact .inl (jv.symm.trans (j9.symm.trans (qt _ h)))
                    · exact .inr (.inl h)
                    · exact .inr (.inr (nt.symm.trans h))
                  | false =>
                    rcases this.2 rfl with h | h
                    · exact .inl (jv.symm.trans (j8.symm.trans (qt _ h)))
                    · exact .inr (.inl h)
                have nc := stor_size bc.out.1
                have si : ∀ x ∈ ql, x.size <= 1048576 := fun x hx => by
                  have := nc.1 (bytesOf x) (List.mem_map_of_mem hx)
                  rw [bytesOf_length] at this
                  omega
                have sj : ∀ x ∈ sq, x.size <= 1048576 := fun x hx => by
                  have := nc.2 (bytesOf x) (List.mem_map_of_mem hx)
                  rw [bytesOf_length] at this
                  omega
                have pd : Hid (∀ W, P W -> Calls Tryz.prog 18 #[.pointer (some ⟨bt, 0, none⟩), .agg (DO.map encB).toArray, .slice qp ql.length qc] W fun e w' => e = .returned (.tuple #[.string ex, .string ey, .bool eb]) /\ Fr wB.heap.size J J W w') := fun W h => by
                  have q' := HQ.out W h
                  have := xextract_l q'.q.wood (HT.out W q'.q.below).1 gz.out q'.q.tree ay.out.2.2.2.2.1 bk.out.1 bk.out.2 qp ql qc (py.out W h) bc.out.2.2.2.2.2.1.2 bc.out.2.2.2.2.2.1.1 si (L := L1) ai.out.1
                  rw [mf] at this
                  exact this
                have ki : Hid (∀ W, P W -> Calls Tryz.prog 18 #[.pointer (some ⟨bs, 0, none⟩), .agg (DS.map encB).toArray, .slice sp sq.length sc] W fun e w' => e = .returned (.tuple #[.string ex', .string ey', .bool eb']) /\ Fr wB.heap.size J J W w') := fun W h => by
                  have q' := HQ.out W h
                  have := xextract_l q'.q.wood (HT.out W q'.q.below).1 gz.out q'.two au.out.2.2.1 ai.out.2.2.2.1 ai.out.2.2.2.2 sp sq sc (pz.out W h) bc.out.2.2.2.2.2.2.1.2 bc.out.2.2.2.2.2.2.1.1 sj (L := L2) ai.out.2.1
                  rw [j3] at this
                  exact this
                have ol : Hid (∀ W, P W -> Calls Tryz.prog 17 #[.agg #[.slice p1 mm.length c1, .slice p2 mm.length c2], .agg (DS.map encB).toArray, .string xs, .bool xb] W fun e w' => e = .returned (.bool jy) /\ Below W.heap.size W w') := fun W h => by
                  have := answered_l (al.out W h).kn1 (by have := HC.out.2.2.2.2; omega) (pth_dup HC.out.2.2.2.1) ai.out.2.2.2.1 ai.out.2.2.2.2 xs xb (o := getN mm (nibs DS)) rfl
                  rw [j9] at this
                  exact this
                have oz : Hid (∀ W, P W -> Calls Tryz.prog 19 #[.string ex, .string ey, .bool eb] W fun e w' => e = .returned (.bool cb) /\ Below W.heap.size W w') := fun W h => by
                  have := collision_any ex ey eb W (HT.out W (HQ.out W h).q.below).1 (HT.out W (HQ.out W h).q.below).2
                  rw [dh] at this
                  exact this
                have t8 : Hid (∀ W, P W -> Calls Tryz.prog 19 #[.string ex', .string ey', .bool eb'] W fun e w' => e = .returned (.bool jf) /\ Below W.heap.size W w') := fun W h => by
                  have := collision_any ex' ey' eb' W (HT.out W (HQ.out W h).q.below).1 (HT.out W (HQ.out W h).q.below).2
                  rw [j2] at this
                  exact this
                have du : Hid ((sm = true \/ cb = true \/ tw = true) /\ (bif th then jy else fh) = sm /\ (th && jf) = tw /\ ansB none xs xb = fh) := ⟨s5, jv, nt, j8⟩
                clear s5 jv nt j8 j9 dh j2 mf j3 nc si sj
                go_upto_region 32 with fail
                clear f0 f1 f2 f3
                go_cut [36] (fun a wd => a = .bool fh /\ wd = sx)
                case first => as_aux_lemma =>
                  cases xb with
                  | true =>
                    obtain rfl : fh = false := by rw [<- du.out.2.2.2]; simp [ansB]
                    go_wp2
                    go_meet
                    exact ⟨rfl, rfl⟩
                  | false =>
                    obtain rfl : fh = xs.toList.isEmpty := by rw [<- du.out.2.2.2, empty_iff]; simp [ansB]
                    go_wp2
                    go_meet
                    exact ⟨rfl, rfl⟩
                case rest => as_aux_lemma =>
                 obtain ⟨rfl, bl⟩ := hcut
                 subst bl
                 obtain ⟨sy, rfl⟩ : ∃ x, x = wc := ⟨_, rfl⟩
                 go_upto_region 33 with fail
                 go_cut [182] (fun a wd => a = .bool th /\ wd = sy)
                 case first =>
                   go_wp2
                   go_meet
                   exact ⟨rfl, rfl⟩
                 case rest => as_aux_lemma =>
                 obtain ⟨rfl, bl⟩ := hcut
                 subst bl
                 obtain ⟨sy, rfl⟩ : ∃ x, x = wc := ⟨_, rfl⟩
                 apply_assumption
                 go_cut [36] (fun a wd => a = .bool sm /\ P wd)
                 case first => as_aux_lemma =>
                   cases th with
                   | false =>
                     obtain rfl : fh = sm := du.out.2.1
                     go_wp2
                     go_meet
                     exact ⟨rfl, dr.out⟩
                   | true =>
                     obtain rfl : jy = sm := du.out.2.1
                     obtain ⟨z0, z1, -⟩ := box_cells (al.out _ dr.out).box1
                     have il := om.out _ dr.out
                     go_wp2_with (refine wpList_load_mid rfl 34 _ rfl ab 0 rfl (DS.map encB) _ il cz rfl o8 ?_)
                     refine (ol.out _ dr.out).mono ?_
                     rintro x xy ⟨rfl, lq⟩
                     have tn := Hid.hide (ap.out.more _ _ dr.out lq)
                     clear lq z0 z1 il
                     go_wp2
                     go_meet
                     exact ⟨rfl, tn.out⟩
                 case rest => as_aux_lemma =>
                  obtain ⟨rfl, hZ⟩ := hcut
                  obtain ⟨vj, rfl⟩ : ∃ x, x = wc := ⟨_, rfl⟩
                  have HSt : Hid (P vj.drew) := ap.out.more _ _ hZ (Below.refl _ _).drew
                  clear hZ dr ol
                  go_upto_region 35 with fail
                  go_cut [37, 38, 39] (fun a b c wd => a = .string ex /\ b = .string ey /\ c = .bool eb /\ P wd)
                  case first => as_aux_lemma =>
                   refine wp_region_any (by kernel_rfl) ?_
                   change wpAny _ _ _ _ _ _ _ (World.drew _)
                   obtain ⟨vf, E⟩ : ∃ vf : Nat -> Option Value, vf = fun i => ([some (.pointer (some ⟨bt, 0, none⟩)), some (.agg (ow.map encB).toArray), some (.agg (DO.map encB).toArray), some (.slice (some ⟨t1, 0, none⟩) 6 6), some (.int .i64 (k : Int)), some (.pointer (some ⟨t1, k, none⟩)), some (.slice qp ql.length qc), some (.tuple #[.string ex, .string ey, .bool eb]), some (.tuple #[.string ex, .string ey, .bool eb]), some (.string ex), some (.string ey), some (.bool eb), some (.string ex), some (.string ey), some (.bool eb)] : List (Option Value)).getD i none := ⟨_, rfl⟩
                   refine wpAny_vary _ (fun d v w' => (∀ i x, vf i = some x -> d i = true -> v i = x) /\ (fun d v w' => P w') d v w') (by kernel_rfl) (by kernel_rfl) ?_ _ (fun _ => undef) ?_ ?_
                   · intro i o I Z O b W l N g H
                     have hi : i < 15 := (Array.getElem?_eq_some_iff.1 I).1
                     match i, hi with
                     | 0, _ =>
                       obtain rfl := Option.some.inj I
                       have ux : b.tmps[25]? = some (.pointer (some ⟨bt, 0, none⟩)) := (l.rest 25 (fun i _ => noDst_of (by kernel_rfl) i)).trans rfl
                       refine opPlain H.1 (by rw [E]; rfl) H.2 ?_
                       clear I g l H N E
                       go_simp
                     | 1, _ =>
                       obtain rfl := Option.some.inj I
                       have fi : b.tmps[10]? = some (.pointer (some ⟨w.heap.size, 0, none⟩)) := (l.rest 10 (fun i _ => noDst_of (by kernel_rfl) i)).trans rfl
                       refine wp_load_mid 23 (.tmp 10) rfl w.heap.size 0 (by simp only [Act.eval, Array.getD_eq_getD_getElem?, fi, Option.getD_some]) (ow.map encB) _ (al.out W H.2).own fd rfl fe ?_
                       exact ⟨_, rfl, vals_step H.1 (by rw [E]; rfl), H.2⟩
                     | 2, _ =>
                       obtain rfl := Option.some.inj I
                       have wi : b.tmps[190]? = some (.agg (ow.map encB).toArray) := tDone l H.1 (g ⟨1, .data⟩ (by simp) rfl) rfl (by simp) (by rw [E]; rfl)
                       refine opHide fun G hG => ?_
                       have HG := Hid.hide hG
                       have ag := Hid.hide H
                       have ak := Hid.hide E
                       clear hG I g l H N E
                       go_simp
                       go_at_call 10
                       refine (cf.out W ag.out.2).mono ?_
                       rintro e w9 ⟨rfl, ah⟩
                       exact ⟨_, rfl, (HG.out _ _).2 ⟨vals_step ag.out.1 (by rw [ak.out]; rfl), ap.out.more _ _ ag.out.2 ah⟩⟩
                     | 3, _ =>
                       obtain rfl := Option.some.inj I
                       have uy : b.tmps[30]? = some (.slice (some ⟨t1, 0, none⟩) 6 6) := (l.rest 30 (fun i _ => noDst_of (by kernel_rfl) i)).trans rfl
                       refine opPlain H.1 (by rw [E]; rfl) H.2 ?_
                       clear I g l H N E
                       go_simp
                     | 4, _ =>
                       obtain rfl := Option.some.inj I
                       have oi : b.tmps[32]? = some (.int .i64 (k : Int)) := (l.rest 32 (fun i _ => noDst_of (by kernel_rfl) i)).trans rfl
                       refine opPlain H.1 (by rw [E]; rfl) H.2 ?_
                       clear I g l H N E
                       go_simp
                     | 5, _ =>
                       obtain rfl := Option.some.inj I
                       have wk : b.tmps[192]? = some (.slice (some ⟨t1, 0, none⟩) 6 6) := tDone l H.1 (g ⟨3, .data⟩ (by simp) rfl) rfl (by simp) (by rw [E]; rfl)
                       have wl : b.tmps[193]? = some (.int .i64 (k : Int)) := tDone l H.1 (g ⟨4, .data⟩ (by simp) rfl) rfl (by simp) (by rw [E]; rfl)
                       refine opPlain H.1 (by rw [E]; rfl) H.2 ?_
                       clear I g l H N E
                       go_simp
                     | 6, _ =>
                       obtain rfl := Option.some.inj I
                       have wm : b.tmps[194]? = some (.pointer (some ⟨t1, k, none⟩)) := tDone l H.1 (g ⟨5, .data⟩ (by simp) rfl) rfl (by simp) (by rw [E]; rfl)
                       have hq := q8.out W H.2
                       refine opPlain H.1 (by rw [E]; rfl) H.2 ?_
                       clear I g l H N E
                       go_simp
                     | 7, _ =>
                       obtain rfl := Option.some.inj I
                       have wh : b.tmps[189]? = some (.pointer (some ⟨bt, 0, none⟩)) := tDone l H.1 (g ⟨0, .data⟩ (by simp) rfl) rfl (by simp) (by rw [E]; rfl)
                       have wj : b.tmps[191]? = some (.agg (DO.map encB).toArray) := tDone l H.1 (g ⟨2, .data⟩ (by simp) rfl) rfl (by simp) (by rw [E]; rfl)
                       have wn : b.tmps[195]? = some (.slice qp ql.length qc) := tDone l H.1 (g ⟨6, .data⟩ (by simp) rfl) rfl (by simp) (by rw [E]; rfl)
                       refine opHide fun G hG => ?_
                       have HG := Hid.hide hG
                       have ag := Hid.hide H
                       have ak := Hid.hide E
                       clear hG I g l H N E
                       go_simp
                       go_at_call 18
                       refine (pd.out W ag.out.2).mono ?_
                       rintro e w9 ⟨rfl, ah⟩
                       exact ⟨_, rfl, (HG.out _ _).2 ⟨vals_step ag.out.1 (by rw [ak.out]; rfl), ap.out.fr _ _ ag.out.2 ah⟩⟩
                     | 8, _ =>
                       obtain rfl := Option.some.inj I
                       have wo : b.tmps[196]? = some (.tuple #[.string ex, .string ey, .bool eb]) := tDone l H.1 (g ⟨7, .data⟩ (by simp) rfl) rfl (by simp) (by rw [E]; rfl)
                       refine opPlain H.1 (by rw [E]; rfl) H.2 ?_
                       clear I g l H N E
                       go_simp
                     | 9, _ =>
                       obtain rfl := Option.some.inj I
                       have oe : b.tmps[188]? = some (.tuple #[.string ex, .string ey, .bool eb]) := tDone l H.1 (g ⟨8, .data⟩ (by simp) rfl) rfl (by simp) (by rw [E]; rfl)
                       refine opPlain H.1 (by rw [E]; rfl) H.2 ?_
                       clear I g l H N E
                       go_simp
                     | 10, _ =>
                       obtain rfl := Option.some.inj I
                       have oe : b.tmps[188]? = some (.tuple #[.string ex, .string ey, .bool eb]) := tDone l H.1 (g ⟨8, .data⟩ (by simp) rfl) rfl (by simp) (by rw [E]; rfl)
                       refine opPlain H.1 (by rw [E]; rfl) H.2 ?_
                       clear I g l H N E
                       go_simp
                     | 11, _ =>
                       obtain rfl := Option.some.inj I
                       have oe : b.tmps[188]? = some (.tuple #[.string ex, .string ey, .bool eb]) := tDone l H.1 (g ⟨8, .data⟩ (by simp) rfl) rfl (by simp) (by rw [E]; rfl)
                       refine opPlain H.1 (by rw [E]; rfl) H.2 ?_
                       clear I g l H N E
                       go_simp
                     | 12, _ =>
                       obtain rfl := Option.some.inj I
                       have wq : b.tmps[197]? = some (.string ex) := tDone l H.1 (g ⟨9, .data⟩ (by simp) rfl) rfl (by simp) (by rw [E]; rfl)
                       refine opPlain H.1 (by rw [E]; rfl) H.2 ?_
                       clear I g l H N E
                       go_simp
                     | 13, _ =>
                       obtain rfl := Option.some.inj I
                       have ws : b.tmps[198]? = some (.string ey) := tDone l H.1 (g ⟨10, .data⟩ (by simp) rfl) rfl (by simp) (by rw [E]; rfl)
                       refine opPlain H.1 (by rw [E]; rfl) H.2 ?_
                       clear I g l H N E
                       go_simp
                     | 14, _ =>
                       obtain rfl := Option.some.inj I
                       have wt : b.tmps[199]? = some (.bool eb) := tDone l H.1 (g ⟨11, .data⟩ (by simp) rfl) rfl (by simp) (by rw [E]; rfl)
                       refine opPlain H.1 (by rw [E]; rfl) H.2 ?_
                       clear I g l H N E
                       go_simp
                   · exact ⟨fun _ _ _ h => (by simp at h), HSt.out⟩
                   · intro O W H
                     have e0 : O 0 = .pointer (some ⟨bt, 0, none⟩) := H.1 0 _ (by rw [E]; rfl) rfl
                     have e1 : O 1 = .agg (ow.map encB).toArray := H.1 1 _ (by rw [E]; rfl) rfl
                     have e2 : O 2 = .agg (DO.map encB).toArray := H.1 2 _ (by rw [E]; rfl) rfl
                     have e3 : O 3 = .slice (some ⟨t1, 0, none⟩) 6 6 := H.1 3 _ (by rw [E]; rfl) rfl
                     have e4 : O 4 = .int .i64 (k : Int) := H.1 4 _ (by rw [E]; rfl) rfl
                     have e5 : O 5 = .pointer (some ⟨t1, k, none⟩) := H.1 5 _ (by rw [E]; rfl) rfl
                     have e6 : O 6 = .slice qp ql.length qc := H.1 6 _ (by rw [E]; rfl) rfl
                     have e7 : O 7 = .tuple #[.string ex, .string ey, .bool eb] := H.1 7 _ (by rw [E]; rfl) rfl
                     have e8 : O 8 = .tuple #[.string ex, .string ey, .bool eb] := H.1 8 _ (by rw [E]; rfl) rfl
                     have e9 : O 9 = .string ex := H.1 9 _ (by rw [E]; rfl) rfl
                     have dc : O 10 = .string ey := H.1 10 _ (by rw [E]; rfl) rfl
                     have de : O 11 = .bool eb := H.1 11 _ (by rw [E]; rfl) rfl
                     have df : O 12 = .string ex := H.1 12 _ (by rw [E]; rfl) rfl
                     have dg : O 13 = .string ey := H.1 13 _ (by rw [E]; rfl) rfl
                     have i9 : O 14 = .bool eb := H.1 14 _ (by rw [E]; rfl) rfl
                     have hX := H.2
                     simp only [runFrom, Act.put, Nat.zero_add, Nat.reduceAdd, List.setIfInBounds_toArray, List.set_cons_zero, List.set_cons_succ, e0, e1, e2, e3, e4, e5, e6, e7, e8, e9, dc, de, df, dg, i9]
                     clear H E e0 e1 e2 e3 e4 e5 e6 e7 e8 e9 dc de df dg i9
                     have HX : Hid (P W) := hX
                     clear hX
                     (try go_wp2)
                     go_meet
                     exact ⟨rfl, rfl, rfl, HX.out⟩
                  case rest => as_aux_lemma =>
                   obtain ⟨rfl, rfl, rfl, hZ⟩ := hcut
                   obtain ⟨xz, rfl⟩ : ∃ x, x = wc := ⟨_, rfl⟩
                   have ka := Hid.hide hZ
                   clear hZ HSt pd
                   go_wp2_with fail
                   refine (oz.out _ ka.out).mono ?_
                   rintro x t5 ⟨rfl, lr⟩
                   have tq : Hid (P t5) := ap.out.more _ _ ka.out lr
                   have HSt : Hid (P t5.drew) := ap.out.more _ _ tq.out (Below.refl _ _).drew
                   clear lr oz ka
                   go_upto_region 37 with fail
                   go_cut [37, 38, 39] (fun a b c wd => a = .string ex' /\ b = .string ey' /\ c = .bool eb' /\ P wd)
                   case first => as_aux_lemma =>
                    refine wp_region_any (by kernel_rfl) ?_
                    change wpAny _ _ _ _ _ _ _ (World.drew _)
                    obtain ⟨vf, E⟩ : ∃ vf : Nat -> Option Value, vf = fun i => ([some (.pointer (some ⟨bs, 0, none⟩)), some (.agg (DS.map encB).toArray), some (.slice (some ⟨t2, 0, none⟩) 6 6), some (.int .i64 (k : Int)), some (.pointer (some ⟨t2, k, none⟩)), some (.slice sp sq.length sc), some (.tuple #[.string ex', .string ey', .bool eb']), some (.tuple #[.string ex', .string ey', .bool eb']), some (.string ex'), some (.string ey'), some (.bool eb'), some (.string ex'), some (.string ey'), some (.bool eb')] : List (Option Value)).getD i none := ⟨_, rfl⟩
                    refine wpAny_vary _ (fun d v w' => (∀ i x, vf i = some x -> d i = true -> v i = x) /\ (fun d v w' => P w') d v w') (by kernel_rfl) (by kernel_rfl) ?_ _ (fun _ => undef) ?_ ?_
                    · intro i o I Z O b W l N g H
                      have hi : i < 14 := (Array.getElem?_eq_some_iff.1 I).1
                      match i, hi with
                      | 0, _ =>
                        obtain rfl := Option.some.inj I
                        have uv : b.tmps[22]? = some (.pointer (some ⟨bs, 0, none⟩)) := (l.rest 22 (fun i _ => noDst_of (by kernel_rfl) i)).trans rfl
                        refine opPlain H.1 (by rw [E]; rfl) H.2 ?_
                        clear I g l H N E
                        go_simp
                      | 1, _ =>
                        obtain rfl := Option.some.inj I
                        have oh : b.tmps[21]? = some (.pointer (some ⟨ab, 0, none⟩)) := (l.rest 21 (fun i _ => noDst_of (by kernel_rfl) i)).trans rfl
                        refine wp_load_mid 34 (.tmp 21) rfl ab 0 (by simp only [Act.eval, Array.getD_eq_getD_getElem?, oh, Option.getD_some]) (DS.map encB) _ (om.out W H.2) cz rfl o8 ?_
                        exact ⟨_, rfl, vals_step H.1 (by rw [E]; rfl), H.2⟩
                      | 2, _ =>
                        obtain rfl := Option.some.inj I
                        have uz : b.tmps[31]? = some (.slice (some ⟨t2, 0, none⟩) 6 6) := (l.rest 31 (fun i _ => noDst_of (by kernel_rfl) i)).trans rfl
                        refine opPlain H.1 (by rw [E]; rfl) H.2 ?_
                        clear I g l H N E
                        go_simp
                      | 3, _ =>
                        obtain rfl := Option.some.inj I
                        have oi : b.tmps[32]? = some (.int .i64 (k : Int)) := (l.rest 32 (fun i _ => noDst_of (by kernel_rfl) i)).trans rfl
                        refine opPlain H.1 (by rw [E]; rfl) H.2 ?_
                        clear I g l H N E
                        go_simp
                      | 4, _ =>
                        obtain rfl := Option.some.inj I
                        have ww : b.tmps[207]? = some (.slice (some ⟨t2, 0, none⟩) 6 6) := tDone l H.1 (g ⟨2, .data⟩ (by simp) rfl) rfl (by simp) (by rw [E]; rfl)
                        have wx : b.tmps[208]? = some (.int .i64 (k : Int)) := tDone l H.1 (g ⟨3, .data⟩ (by simp) rfl) rfl (by simp) (by rw [E]; rfl)
                        refine opPlain H.1 (by rw [E]; rfl) H.2 ?_
                        clear I g l H N E
                        go_simp
                      | 5, _ =>
                        obtain rfl := Option.some.inj I
                        have wy : b.tmps[209]? = some (.pointer (some ⟨t2, k, none⟩)) := tDone l H.1 (g ⟨4, .data⟩ (by simp) rfl) rfl (by simp) (by rw [E]; rfl)
                        have hq := q9.out W H.2
                        refine opPlain H.1 (by rw [E]; rfl) H.2 ?_
                        clear I g l H N E
                        go_simp
                      | 6, _ =>
                        obtain rfl := Option.some.inj I
                        have wu : b.tmps[205]? = some (.pointer (some ⟨bs, 0, none⟩)) := tDone l H.1 (g ⟨0, .data⟩ (by simp) rfl) rfl (by simp) (by rw [E]; rfl)
                        have wv : b.tmps[206]? = some (.agg (DS.map encB).toArray) := tDone l H.1 (g ⟨1, .data⟩ (by simp) rfl) rfl (by simp) (by rw [E]; rfl)
                        have x5 : b.tmps[210]? = some (.slice sp sq.length sc) := tDone l H.1 (g ⟨5, .data⟩ (by simp) rfl) rfl (by simp) (by rw [E]; rfl)
                        refine opHide fun G hG => ?_
                        have HG := Hid.hide hG
                        have ag := Hid.hide H
                        have ak := Hid.hide E
                        clear hG I g l H N E
                        go_simp
                        go_at_call 18
                        refine (ki.out W ag.out.2).mono ?_
                        rintro e w9 ⟨rfl, ah⟩
                        exact ⟨_, rfl, (HG.out _ _).2 ⟨vals_step ag.out.1 (by rw [ak.out]; rfl), ap.out.fr _ _ ag.out.2 ah⟩⟩
                      | 7, _ =>
                        obtain rfl := Option.some.inj I
                        have x6 : b.tmps[211]? = some (.tuple #[.string ex', .string ey', .bool eb']) := tDone l H.1 (g ⟨6, .data⟩ (by simp) rfl) rfl (by simp) (by rw [E]; rfl)
                        refine opPlain H.1 (by rw [E]; rfl) H.2 ?_
                        clear I g l H N E
                        go_simp
                      | 8, _ =>
                        obtain rfl := Option.some.inj I
                        have og : b.tmps[204]? = some (.tuple #[.string ex', .string ey', .bool eb']) := tDone l H.1 (g ⟨7, .data⟩ (by simp) rfl) rfl (by simp) (by rw [E]; rfl)
                        refine opPlain H.1 (by rw [E]; rfl) H.2 ?_
                        clear I g l H N E
                        go_simp
                      | 9, _ =>
                        obtain rfl := Option.some.inj I
                        have og : b.tmps[204]? = some (.tuple #[.string ex', .string ey', .bool eb']) := tDone l H.1 (g ⟨7, .data⟩ (by simp) rfl) rfl (by simp) (by rw [E]; rfl)
                        refine opPlain H.1 (by rw [E]; rfl) H.2 ?_
                        clear I g l H N E
                        go_simp
                      | 10, _ =>
                        obtain rfl := Option.some.inj I
                        have og : b.tmps[204]? = some (.tuple #[.string ex', .string ey', .bool eb']) := tDone l H.1 (g ⟨7, .data⟩ (by simp) rfl) rfl (by simp) (by rw [E]; rfl)
                        refine opPlain H.1 (by rw [E]; rfl) H.2 ?_
                        clear I g l H N E
                        go_simp
                      | 11, _ =>
                        obtain rfl := Option.some.inj I
                        have x7 : b.tmps[212]? = some (.string ex') := tDone l H.1 (g ⟨8, .data⟩ (by simp) rfl) rfl (by simp) (by rw [E]; rfl)
                        refine opPlain H.1 (by rw [E]; rfl) H.2 ?_
                        clear I g l H N E
                        go_simp
                      | 12, _ =>
                        obtain rfl := Option.some.inj I
                        have x8 : b.tmps[213]? = some (.string ey') := tDone l H.1 (g ⟨9, .data⟩ (by simp) rfl) rfl (by simp) (by rw [E]; rfl)
                        refine opPlain H.1 (by rw [E]; rfl) H.2 ?_
                        clear I g l H N E
                        go_simp
                      | 13, _ =>
                        obtain rfl := Option.some.inj I
                        have x9 : b.tmps[214]? = some (.bool eb') := tDone l H.1 (g ⟨10, .data⟩ (by simp) rfl) rfl (by simp) (by rw [E]; rfl)
                        refine opPlain H.1 (by rw [E]; rfl) H.2 ?_
                        clear I g l H N E
                        go_simp
                    · exact ⟨fun _ _ _ h => (by simp at h), HSt.out⟩
                    · intro O W H
                      have e0 : O 0 = .pointer (some ⟨bs, 0, none⟩) := H.1 0 _ (by rw [E]; rfl) rfl
                      have e1 : O 1 = .agg (DS.map encB).toArray := H.1 1 _ (by rw [E]; rfl) rfl
                      have e2 : O 2 = .slice (some ⟨t2, 0, none⟩) 6 6 := H.1 2 _ (by rw [E]; rfl) rfl
                      have e3 : O 3 = .int .i64 (k : Int) := H.1 3 _ (by rw [E]; rfl) rfl
                      have e4 : O 4 = .pointer (some ⟨t2, k, none⟩) := H.1 4 _ (by rw [E]; rfl) rfl
                      have e5 : O 5 = .slice sp sq.length sc := H.1 5 _ (by rw [E]; rfl) rfl
                      have e6 : O 6 = .tuple #[.string ex', .string ey', .bool eb'] := H.1 6 _ (by rw [E]; rfl) rfl
                      have e7 : O 7 = .tuple #[.string ex', .string ey', .bool eb'] := H.1 7 _ (by rw [E]; rfl) rfl
                      have e8 : O 8 = .string ex' := H.1 8 _ (by rw [E]; rfl) rfl
                      have e9 : O 9 = .string ey' := H.1 9 _ (by rw [E]; rfl) rfl
                      have dc : O 10 = .bool eb' := H.1 10 _ (by rw [E]; rfl) rfl
                      have de : O 11 = .string ex' := H.1 11 _ (by rw [E]; rfl) rfl
                      have df : O 12 = .string ey' := H.1 12 _ (by rw [E]; rfl) rfl
                      have dg : O 13 = .bool eb' := H.1 13 _ (by rw [E]; rfl) rfl
                      have hX := H.2
                      simp only [runFrom, Act.put, Nat.zero_add, Nat.reduceAdd, List.setIfInBounds_toArray, List.set_cons_zero, List.set_cons_succ, e0, e1, e2, e3, e4, e5, e6, e7, e8, e9, dc, de, df, dg]
                      clear H E e0 e1 e2 e3 e4 e5 e6 e7 e8 e9 dc de df dg
                      have HX : Hid (P W) := hX
                      clear hX
                      (try go_wp2)
                      go_meet
                      exact ⟨rfl, rfl, rfl, HX.out⟩
                   case rest => as_aux_lemma =>
                    obtain ⟨rfl, rfl, rfl, hZ⟩ := hcut
                    obtain ⟨ya, rfl⟩ : ∃ x, x = wc := ⟨_, rfl⟩
                    have ke := Hid.hide hZ
                    clear hZ HSt ki
                    go_upto_region 38 with fail
                    go_cut [41] (fun a wd => a = .bool tw /\ P wd)
                    case first => as_aux_lemma =>
                     cases th with
                     | true =>
                       obtain rfl : jf = tw := du.out.2.2.1
                       go_wp2_with fail
                       refine (t8.out _ ke.out).mono ?_
                       rintro x t6 ⟨rfl, lu⟩
                       have tr : Hid (P t6) := ap.out.more _ _ ke.out lu
                       clear lu
                       go_wp2
                       go_meet
                       exact ⟨rfl, tr.out⟩
                     | false =>
                       obtain rfl : false = tw := du.out.2.2.1
                       go_wp2
                       go_meet
                       exact ⟨rfl, ke.out⟩
                    case rest => as_aux_lemma =>
                     obtain ⟨rfl, hZ⟩ := hcut
                     obtain ⟨t6, rfl⟩ : ∃ x, x = wc := ⟨_, rfl⟩
                     have bf := Hid.hide hZ
                     clear hZ
                     cases sm with
                     | true =>
                       go_wp2
                       go_roundg (6 - (k + 1))
                       case measure => omega
                       case rel => exact ⟨k + 1, by omega, rfl, by simp, bf.out⟩
                     | false =>
                       cases cb with
                       | true =>
                         go_wp2
                         go_roundg (6 - (k + 1))
                         case measure => omega
                         case rel => exact ⟨k + 1, by omega, rfl, by simp, bf.out⟩
                       | false =>
                         obtain rfl : tw = true := by simpa using du.out.1
                         go_wp2
                         go_roundg (6 - (k + 1))
                         case measure => omega
                         case rel => exact ⟨k + 1, by omega, rfl, by simp, bf.out⟩
            · obtain rfl : k = 6 := by omega
              have bf : Hid (Below w.heap.size w wr) := (HQ.out _ hZ).q.below
              clear hZ hk mz
              go_wp2
              go_ret
              exact ⟨rfl, bf.out⟩
end Go.Proofs.YtoohdfiddbfacaaGreatDoor
