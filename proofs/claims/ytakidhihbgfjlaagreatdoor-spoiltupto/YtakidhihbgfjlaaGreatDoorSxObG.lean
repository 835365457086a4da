/-
  Open: (*reader).stub.
-/
import Derived.Test.YtakidhihbgfjlaaGreatDoorSxOaG
import Derived.Test.YtakidhihbgfjlaaGreatDoorSxVaG
namespace Go.Proofs.YtakidhihbgfjlaaGreatDoor
open Go.RowKit
set_option maxRecDepth 100000
set_option maxHeartbeats 25600000
variable {B rb : Nat} {S : Wood} {w : World}
theorem Qbq {w' : World} (h : Forest B S w) (ho : Only rb w w') (hn : S rb = none) : FrX B (· = rb) S S w w' :=
 ⟨ho.os, ho.tape, ho.output, ho.size, fun k hk _ hx => ho.block k hk hx, Qbj h ho hn, fun _ _ h => h, fun _ _ h => h⟩
theorem FrX.over {X : Nat -> Prop} {S' : Wood} {w1 w2 : World} {g : Nat} (h : FrX B X S S' w w1) (k : Only g w1 w2) (hg : w.heap.size <= g) (hn : S' g = none) : FrX B X S S' w w2 :=
 ⟨k.os.trans h.os, k.tape.trans h.tape, k.output.trans h.output, Nat.le_trans h.size k.size, fun i hi hs hx => (k.block i (Nat.lt_of_lt_of_le hi h.size) (by omega)).trans (h.other i hi hs hx), Qbj h.forest k hn, h.sub, h.new⟩
structure OpS (B : Nat) (sent : Nat -> Addr) (rb : Nat) (S : Wood) (w : World) (q : Except Er (Od × ByteArray)) (e : Ending) (w' : World) : Prop where
 bad : ∀ er, q = .error er -> e = .returned (.tuple #[.agg #[.int .i64 0, .nilFunc], er.val sent]) /\ FrX B (· = rb) S S w w'
 good : ∀ d s', q = .ok (d, s') -> ∃ nb v S', e = .returned (.tuple #[v, .nilIface]) /\ OpV w' S' nb v d /\ w.heap.size <= nb /\ nb < w'.heap.size /\ S' nb = none /\ FrX B (· = rb) S S' w w' /\ RdAt w' rb s'
theorem ndV.stub {S : Wood} {b : Nat} {h : List Nat} (hb : S b = some (.stub h)) : ndV S (.iface 160 (.pointer (some ⟨b, 0, none⟩))) (.stub h) := .inr ⟨by simp, b, rfl, hb⟩
variable {nb : Nat} {d : Od}
theorem OpV.only {w' : World} {g : Nat} {v : Value} (h : OpV w S nb v d) (ho : Only g w w') (hl : nb < w.heap.size) (hg : nb ≠ g) : OpV w' S nb v d := by
 have b := World.cell?_of_block (a := ⟨nb, 0, none⟩) (ho.block nb hl hg)
 cases d with
 | gives t => obtain ⟨c, z, e, i⟩ := h; exact ⟨c, z, b.trans e, i⟩
 | ext p => exact ⟨h.1, b.trans h.2⟩
 | br f => exact ⟨h.1, b.trans h.2⟩
variable {s1 : ByteArray} {q : Except Er (Od × ByteArray)}
theorem Qla {S' : Wood} (sent : Nat -> Addr) {W : World} {x y : Value} (hq : q = .ok (d, s1)) (hfr : FrX B (· = rb) S S' w W) (hx : W.heap[w.heap.size]? = some (.cells #[.int .i64 0, .nilFunc] 123 (0, 0))) (hv : OpV W S' nb (.agg #[x, y]) d) (h1 : w.heap.size < nb) (h2 : nb < W.heap.size) (h3 : S' nb = none) (h4 : S' w.heap.size = none) (hr : RdAt W rb s1) (hrb : rb < w.heap.size) :
  W.there w.heap.size 0 2 /\ (W.setCells w.heap.size 0 [x, y]).cell? ⟨w.heap.size, 0, none⟩ = some x /\ (W.setCells w.heap.size 0 [x, y]).cell? ⟨w.heap.size, 1, none⟩ = some y /\ OpS B sent rb S w q (.returned (.tuple #[.agg #[x, y], .nilIface])) (W.setCells w.heap.size 0 [x, y]) := by
 obtain ⟨g, f, b⟩ := put2 hx x y
 obtain ⟨c, e, -⟩ := Qa7 f
 have j := b.size
 refine ⟨g, c, e, fun i a => (by rw [hq] at a; cases a), fun h k a => ?_⟩
 rw [hq] at a
 cases a
 exact ⟨nb, _, S', rfl, OpV.only hv b h2 (by omega), by omega, by omega, h3, hfr.over b (Nat.le_refl _) h4, (b.block rb (by have := hfr.size; omega) (by omega)).trans hr⟩
variable {s : ByteArray}
theorem Quc (sent : Nat -> Addr) (hf : Forest B S w) (hS : S rb = none) (hF : RdE sent rb w) (h : RdAt w rb s) :
  Calls Tryz.prog 77 #[.pointer (some ⟨rb, 0, none⟩)] w fun e w' => OpS B sent rb S w (opStub s) e w' := by
 have T : ∀ z : Obj, Below w.heap.size w (w.alloc z) := fun z => (Below.refl _ _).alloc (Nat.le_refl _) _
 have HT := Hq (fun z => Qfb sent (hF.below (T z)).faults (h.below (T z)) 32)
 have f : Hid (RdE sent rb w /\ rb < w.heap.size /\ Forest B S w /\ S rb = none) := ⟨hF, h.cell.2.2, hf, hS⟩
 have HA := Hq T
 have ac := Qhr
 clear hF h T hf hS
 go_enter Tryz.func77, Tryz.ntmps77
 go_wp2_with fail
 have Q := Qai w (.cells #[.int .i64 0, .nilFunc] 123)
 refine (HT.out _).mono ?_
 rintro e a ⟨O, u, i⟩
 have m := (O.block w.heap.size (by simp) (by have := f.out.2.1; omega)).trans Q
 obtain ⟨c0, c1, f0, f1⟩ := Qa7 m
 have E : Hid (Only rb w a /\ w.heap.size < a.heap.size) := ⟨Only.ahead (HA.out _) O, by have := O.size; simp at this; omega⟩
 cases hq : rdTk 32 s with
 | error er =>
  obtain ⟨rfl, -⟩ := Qbp hq
  obtain rfl := u _ hq
  have F : Hid (opStub s = .error (.base 2)) := by unfold opStub; rw [hq]; exact rfl
  obtain ⟨t1, R, n⟩ := put2 m (.int .i64 0) .nilFunc
  obtain ⟨e0, e1, -⟩ := Qa7 R
  have ah := Hq (Qbq f.out.2.2.1 (E.out.1.over n (Nat.le_refl _)) f.out.2.2.2)
  clear O u i hq Q m R n
  simp only [Er.val]
  go_wp2_with (refine wpList_store_mid rfl 123 _ _ rfl w.heap.size 0 #[.int .i64 0, .nilFunc] rfl rfl t1 ac (by simp [Value.oneCell']) ?_)
  refine bodyPost_ret (v := .tuple #[.agg #[.int .i64 0, .nilFunc], .iface 243 (.pointer (some (sent 2)))]) (by simp [results, Tryz.results77, go_sem, e0, e1]) rfl ?_
  exact ⟨fun er c => (by rw [F.out] at c; cases c; exact ⟨rfl, ah.out⟩), fun d s' c => (by rw [F.out] at c; cases c)⟩
 | ok z =>
  obtain ⟨p, X⟩ := z
  obtain ⟨rfl, hr⟩ := i p X hq
  have y : p.size = 32 := by
   obtain ⟨h1, rfl, -⟩ := Qhp hq
   exact Qbe s 32 h1
  obtain ⟨D, U⟩ : ∃ D, bytesOf p = D := ⟨_, rfl⟩
  have L : D.length = 32 /\ ∀ x ∈ D, x < 256 := by rw [<- U]; exact ⟨by rw [bytesOf_length, y], Qao p⟩
  have F : Hid (opStub s = .ok (.gives (.stub D), X)) := by unfold opStub; rw [hq, <- U]; exact rfl
  have V := Lib.run_convert_string_bytes (P := Tryz.prog) a 9 41 5 p Tryz.underlying9 Tryz.underlying41 Tryz.underlying5
  rw [y] at V
  obtain ⟨cap, M⟩ : ∃ cap, grownCap a 32 0 5 = cap := ⟨_, rfl⟩
  rw [M] at V
  have qa := fun W => Qjl ⟨a.heap.size, 0, none⟩ cap W
  have j := Qmu a p
  rw [U] at j
  have l : Below a.heap.size a (Lib.bytesWorld a 5 p) := ⟨rfl, rfl, rfl, by rw [Lib.bytesWorld_size]; omega, fun k hk => Lib.bytesWorld_at_old a 5 p k hk⟩
  generalize Lib.bytesWorld a 5 p = w2 at V j l
  have ak : (Tryz.prog.info? 37).map (·.size) = some (D.map encB).length := by rw [List.length_map, L.1]; kernel_rfl
  have HD := Hq L
  have g : Hid (Below a.heap.size a w2 /\ RdAt w2 rb X /\ w2.heap[w.heap.size]? = some (.cells #[.int .i64 0, .nilFunc] 123 (0, 0))) := ⟨l, hr.below l, (l.block _ E.out.2).trans m⟩
  clear O u i hq hr Q m y U L M l
  go_wp2_with (refine wpList_load_mid rfl 37 _ rfl a.heap.size 0 rfl (D.map encB) _ j Tryz.underlying37 rfl ak ?_)
  refine (Qqr D HD.out.1 HD.out.2 w2).mono ?_
  rintro e Y ⟨q, rfl, I, J, K⟩
  have Z := Qbj f.out.2.2.1 E.out.1 f.out.2.2.2
  have N := Fr.fresh (Z.below g.out.1) J I (t := .stub D) (h := textB (textCode D)) (r := []) (.inl rfl) rfl (by rw [Nd.ok]; exact HD.out) K
  have HG := Hq (Qhs (S := S.put q (.stub D)) (.stub D) _ Y (ndV.stub (Wood.put_same _ _ _)))
  have G : Hid (Fr B S (S.put q (.stub D)) w2 Y /\ Below w2.heap.size w2 Y /\ w2.heap.size <= q /\ q < Y.heap.size) := ⟨N, J, I, (Array.getElem?_eq_some_iff.1 K).1⟩
  clear I J K Z N V qa j
  go_wp2_with fail
  refine HG.out.mono ?_
  rintro e w4 ⟨b, v, rfl, hv, aj, aa, C⟩
  have o : Below w2.heap.size w2 w4 := Below.behind G.out.2.1 C
  have ae := (o.block w.heap.size (by have := E.out.2; have := g.out.1.size; omega)).trans g.out.2.2
  obtain ⟨rfl, ag⟩ := hv
  obtain ⟨t1, R, n⟩ := put2 ae (.int .i64 0) (.func (.func 88) #[] #[.pointer (some ⟨b, 0, none⟩)])
  obtain ⟨e0, e1, -⟩ := Qa7 R
  have HR : Hid (∃ H, OpV (w4.setCells w.heap.size 0 [.int .i64 0, .func (.func 88) #[] #[.pointer (some ⟨b, 0, none⟩)]]) H b (opFnV 0 88 b) (.gives (.stub D)) /\ w.heap.size <= b /\ b < (w4.setCells w.heap.size 0 [.int .i64 0, .func (.func 88) #[] #[.pointer (some ⟨b, 0, none⟩)]]).heap.size /\ H b = none /\ FrX B (· = rb) S H w (w4.setCells w.heap.size 0 [.int .i64 0, .func (.func 88) #[] #[.pointer (some ⟨b, 0, none⟩)]]) /\ RdAt (w4.setCells w.heap.size 0 [.int .i64 0, .func (.func 88) #[] #[.pointer (some ⟨b, 0, none⟩)]]) rb X) := by
   have am := E.out.2
   have ao := g.out.1.size
   have ap := G.out.2.2
   have aq := C.size
   have ar := n.size
   have al := f.out.2.1
   have ai : FrX B (· = rb) S (S.put q (.stub D)) w w4 := ((Qbq f.out.2.2.1 E.out.1 f.out.2.2.2).behind g.out.1).trans ((G.out.1.x _).behind C)
   have hg : (S.put q (.stub D)) w.heap.size = none := by rw [Wood.put_other _ _ _ (by omega)]; exact f.out.2.2.1.fresh (Nat.le_refl _)
   refine ⟨S.put q (.stub D), OpV.only (d := .gives (.stub D)) ⟨rfl, ag⟩ n aa (by omega), by omega, by omega, ?_, ai.over n (Nat.le_refl _) hg, ?_⟩
   ·rw [Wood.put_other _ _ _ (by omega)]
    exact f.out.2.2.1.fresh (by omega)
   ·exact (n.block rb (by omega) (by omega)).trans ((o.block rb (by omega)).trans g.out.2.1)
  clear ag aj aa C o ae R n
  go_wp2_with (refine wpList_store_mid rfl 123 _ _ rfl w.heap.size 0 #[.int .i64 0, .func (.func 88) #[] #[.pointer (some ⟨b, 0, none⟩)]] rfl rfl t1 ac (by simp [Value.oneCell']) ?_)
  refine bodyPost_ret (v := .tuple #[opFnV 0 88 b, .nilIface]) (by simp [results, Tryz.results77, go_sem, e0, e1]) rfl ?_
  refine ⟨fun er c => (by rw [F.out] at c; cases c), fun d s' c => ?_⟩
  rw [F.out] at c
  cases c
  obtain ⟨H, h1, h2, h3, h4, h5, h6⟩ := HR.out
  exact ⟨b, _, H, rfl, h1, h2, h3, h4, h5, h6⟩
theorem Qud (u : ByteArray) (w : World) (h : u.size < 1 \/ 100 < u.size) : Calls Tryz.prog 46 #[.string u] w fun e w' => e = .returned (.bool false) /\ w' = w := by
 by_cases a : u.size < 1
 ·have b : u = ⟨#[]⟩ := Qav (by rw [Qdh (by omega)]; rfl)
  subst b
  clear h a
  go_enter Tryz.func46, Tryz.ntmps46
  go_wp2
  go_ret
  exact ⟨rfl, rfl⟩
 ·have d := Qcu u (by omega)
  have f : ¬ (u.size : Int) <= 100 := by omega
  have c : decide (u.size <= 100) = false := decide_eq_false (by omega)
  clear h a
  go_enter Tryz.func46, Tryz.ntmps46
  go_wp2
  go_ret
  exact ⟨rfl, rfl⟩
variable {p : ByteArray}
theorem Qlb {c : Nat} (h : rdPth s = .ok ((c, p), s1)) : c <= 255 /\ p.size = (c + 1) / 2 := by
 unfold rdPth at h
 cases h1 : rdNm s with
 | error e => rw [h1] at h; cases h
 | ok z =>
  obtain ⟨n, b⟩ := z
  rw [h1] at h
  have d := Qub h1
  dsimp only at h
  cases h2 : rdTk ((n + 1) / 2) b with
  | error e => rw [h2] at h; cases h
  | ok z =>
   obtain ⟨q, f⟩ := z
   rw [h2] at h
   cases h
   obtain ⟨a, rfl, -⟩ := Qhp h2
   exact ⟨by omega, Qbe _ _ a⟩
theorem Qn3 {er : Er} (h : rdPth s = .error er) : er = .base 2 := by
 unfold rdPth at h
 cases h1 : rdNm s with
 | error e => rw [h1] at h; cases h; exact Qcb h1
 | ok z =>
  obtain ⟨n, a⟩ := z
  rw [h1] at h
  dsimp only at h
  cases h2 : rdTk ((n + 1) / 2) a with
  | error e => rw [h2] at h; cases h; exact (Qbp h2).1
  | ok z => rw [h2] at h; cases h
theorem Qxr {er : Er} (h : rdVl s = .error er) : er = .base 2 := by
 unfold rdVl at h
 cases h1 : rdNm s with
 | error e => rw [h1] at h; cases h; exact Qcb h1
 | ok z =>
  obtain ⟨n, a⟩ := z
  rw [h1] at h
  exact (Qbp h).1
theorem Qht {c : Nat} {most : Nat} {q : ByteArray} (hp : p.size = (c + 1) / 2) (h : wrRead c p most = .ok q) : c <= most /\ q.size = c /\ (∀ x ∈ bytesOf q, x < 16) /\ q = textB ((nibs (bytesOf p)).take c) := by
 unfold wrRead at h
 split at h
 ·cases h
 ·rename_i hm
  split at h
  ·cases h
  ·rename_i q' hu
   cases h
   unfold unpF at hu
   split at hu
   ·cases hu
   ·cases hu
    have b : ∀ x ∈ (nibs (bytesOf p)).take c, x < 16 := fun x a => Qsq (Qao p) x (List.mem_of_mem_take a)
    refine ⟨by omega, ?_, ?_, rfl⟩
    ·rw [Qaa, List.length_take, Qbv, bytesOf_length]; omega
    ·rw [Qa5 fun x a => by have := b x a; omega]
     exact b
theorem Que (sent : Nat -> Addr) (hf : Forest B S w) (hS : S rb = none) (hF : RdE sent rb w) (h : RdAt w rb s) :
  Calls Tryz.prog 74 #[.pointer (some ⟨rb, 0, none⟩)] w fun e w' => OpS B sent rb S w (opLeaf s) e w' := by
 have hA : ∀ z : Obj, Below w.heap.size w (w.alloc z) := fun z => (Below.refl _ _).alloc (Nat.le_refl _) _
 have HT := Hq (fun z => Qn1 sent (hF.below (hA z)) (h.below (hA z)))
 have H : Hid (RdE sent rb w /\ rb < w.heap.size /\ Forest B S w /\ S rb = none) := ⟨hF, h.cell.2.2, hf, hS⟩
 have HA := Hq hA
 have aa := Qhr
 clear hF h hA hf hS
 go_enter Tryz.func74, Tryz.ntmps74
 go_wp2_with fail
 have ay := Qai w (.cells #[.int .i64 0, .nilFunc] 123)
 refine (HT.out _).mono ?_
 rintro e m ⟨j, g, f⟩
 have Q := (j.block w.heap.size (by simp) (by have := H.out.2.1; omega)).trans ay
 have T : Hid (Only rb w m /\ w.heap.size < m.heap.size /\ m.heap[w.heap.size]? = some (.cells #[.int .i64 0, .nilFunc] 123 (0, 0)) /\ RdE sent rb m) := ⟨Only.ahead (HA.out _) j, by have := j.size; simp at this; omega, Q, (H.out.1.below (HA.out _)).only j⟩
 have R : Hid (∀ (W : World) (er : Er), Only rb w W -> W.heap[w.heap.size]? = some (.cells #[.int .i64 0, .nilFunc] 123 (0, 0)) -> opLeaf s = .error er -> W.there w.heap.size 0 2 /\ (W.setCells w.heap.size 0 [.int .i64 0, .nilFunc]).cell? ⟨w.heap.size, 0, none⟩ = some (.int .i64 0) /\ (W.setCells w.heap.size 0 [.int .i64 0, .nilFunc]).cell? ⟨w.heap.size, 1, none⟩ = some .nilFunc /\ OpS B sent rb S w (opLeaf s) (.returned (.tuple #[.agg #[.int .i64 0, .nilFunc], er.val sent])) (W.setCells w.heap.size 0 [.int .i64 0, .nilFunc])) := fun W er hO hx he => by
  obtain ⟨N, q1, q2⟩ := put2 hx (.int .i64 0) .nilFunc
  obtain ⟨D, E, -⟩ := Qa7 q1
  exact ⟨N, D, E, fun ch Z => (by rw [he] at Z; cases Z; exact ⟨rfl, Qbq H.out.2.2.1 (hO.over q2 (Nat.le_refl _)) H.out.2.2.2⟩), fun d s' Z => (by rw [he] at Z; cases Z)⟩
 cases hq : rdPth s with
 | error er =>
  obtain rfl := Qn3 hq
  obtain rfl := g _ hq
  have I : Hid (opLeaf s = .error (.base 2)) := by unfold opLeaf; rw [hq]; exact rfl
  obtain ⟨N, D, E, C⟩ := R.out (m.alloc (.cells #[.int .i64 0, .string ⟨#[]⟩] 212)) _ (T.out.1.behind' ((Below.refl _ _).alloc (Nat.le_refl _) _)) ((Qby _ _ T.out.2.1).trans Q) I.out
  clear I
  have I := Hq C
  clear j g f hq ay Q C
  simp only [Er.val]
  go_wp2_with (refine wpList_store_mid rfl 123 _ _ rfl w.heap.size 0 #[.int .i64 0, .nilFunc] rfl rfl N aa (by simp [Value.oneCell']) ?_)
  refine bodyPost_ret (v := .tuple #[.agg #[.int .i64 0, .nilFunc], .iface 243 (.pointer (some (sent 2)))]) (by simp [results, Tryz.results74, go_sem, D, E]) rfl ?_
  exact I.out
 | ok z =>
  obtain ⟨⟨c, p⟩, s1⟩ := z
  obtain ⟨rfl, hr⟩ := f (c, p) s1 hq
  have ap := Qlb hq
  have Y : Below m.heap.size m (m.alloc (.cells #[.int .i64 (c : Int), .string p] 212)) := (Below.refl _ _).alloc (Nat.le_refl _) _
  have az := Qai m (.cells #[.int .i64 (c : Int), .string p] 212)
  have bl : (m.alloc (.cells #[.int .i64 (c : Int), .string p] 212)).heap.size = m.heap.size + 1 := by simp
  have HV := Hq (Qxq sent (T.out.2.2.2.below Y) (hr.below Y))
  have O : Hid (rdPth s = .ok ((c, p), s1) /\ c <= 255 /\ p.size = (c + 1) / 2 /\ RdE sent rb (m.alloc (.cells #[.int .i64 (c : Int), .string p] 212)) /\ Below m.heap.size m (m.alloc (.cells #[.int .i64 (c : Int), .string p] 212)) /\ rb < m.heap.size) := ⟨hq, ap.1, ap.2, T.out.2.2.2.below Y, Y, hr.cell.2.2⟩
  clear j g f hq hr ap ay Y
  go_wp2_with fail
  refine HV.out.mono ?_
  rintro e X ⟨j, g, f⟩
  have b7 := (j.block m.heap.size (by omega) (by have := O.out.2.2.2.2.2; omega)).trans az
  have ak : X.heap[w.heap.size]? = some (.cells #[.int .i64 0, .nilFunc] 123 (0, 0)) := (j.block w.heap.size (by have := T.out.2.1; omega) (by have := H.out.2.1; omega)).trans ((O.out.2.2.2.2.1.block _ T.out.2.1).trans Q)
  have P : Hid (Only rb w X /\ RdE sent rb X /\ m.heap.size < X.heap.size) := ⟨(T.out.1.behind' O.out.2.2.2.2.1).trans' j, O.out.2.2.2.1.only j, by have := j.size; omega⟩
  cases hq : rdVl s1 with
  | error er =>
   obtain rfl := Qxr hq
   obtain rfl := g _ hq
   obtain ⟨N, D, E, C⟩ := R.out X (.base 2) P.out.1 ak (by unfold opLeaf; rw [O.out.1]; dsimp only; rw [hq])
   have I := Hq C
   clear j g f hq Q ak az b7 bl C
   simp only [Er.val]
   go_wp2_with (refine wpList_store_mid rfl 123 _ _ rfl w.heap.size 0 #[.int .i64 0, .nilFunc] rfl rfl N aa (by simp [Value.oneCell']) ?_)
   refine bodyPost_ret (v := .tuple #[.agg #[.int .i64 0, .nilFunc], .iface 243 (.pointer (some (sent 2)))]) (by simp [results, Tryz.results74, go_sem, D, E]) rfl ?_
   exact I.out
  | ok z =>
   obtain ⟨u, s2⟩ := z
   obtain ⟨rfl, hr⟩ := f u s2 hq
   obtain ⟨y0, y1, -⟩ := Qa7 b7
   have HR := Hq (Qn2 sent c p 64 O.out.2.1 O.out.2.2.1 X P.out.2.1.faults)
   have HQ : Hid (rdVl s1 = .ok (u, s2) /\ RdAt X rb s2) := ⟨hq, hr⟩
   have bv : Hid (X.heap[w.heap.size]? = some (.cells #[.int .i64 0, .nilFunc] 123 (0, 0))) := ak
   clear j g f hq hr Q ak az b7 bl
   go_wp2_with fail
   refine HR.out.mono ?_
   rintro e K ⟨M, g, f⟩
   have ae : K.heap[w.heap.size]? = some (.cells #[.int .i64 0, .nilFunc] 123 (0, 0)) := (M.block _ (by have := T.out.2.1; have := P.out.2.2; omega)).trans bv.out
   have L : Hid (Only rb w K /\ RdE sent rb K /\ X.heap.size <= K.heap.size /\ RdAt K rb s2 /\ K.heap[w.heap.size]? = some (.cells #[.int .i64 0, .nilFunc] 123 (0, 0))) := ⟨P.out.1.behind' M, P.out.2.1.below M, M.size, HQ.out.2.below M, ae⟩
   cases hq : wrRead c p 64 with
   | error er =>
    obtain rfl := g _ hq
    obtain ⟨N, D, E, C⟩ := R.out K er L.out.1 ae (by unfold opLeaf; rw [O.out.1]; dsimp only; rw [HQ.out.1]; dsimp only; rw [hq])
    have I := Hq C
    obtain ⟨a1, a2, bm⟩ := Er.shape sent er
    rw [bm] at I ⊢
    clear M g f hq ae C bm y0 y1
    go_wp2_with (refine wpList_store_mid rfl 123 _ _ rfl w.heap.size 0 #[.int .i64 0, .nilFunc] rfl rfl N aa (by simp [Value.oneCell']) ?_)
    refine bodyPost_ret (v := .tuple #[.agg #[.int .i64 0, .nilFunc], .iface a1 a2]) (by simp [results, Tryz.results74, go_sem, D, E]) rfl ?_
    exact I.out
   | ok q =>
    obtain rfl := f _ hq
    have au := Qht O.out.2.2.1 hq
    by_cases V : u.size = 0 \/ 100 < u.size
    ·have ao := Hq (fun W => Qud u W (by omega))
     obtain ⟨N, D, E, C⟩ := R.out K.drew (.base 8) (L.out.1.behind' (Below.refl _ _).drew) ae (by unfold opLeaf; rw [O.out.1]; dsimp only; rw [HQ.out.1]; dsimp only; rw [hq]; dsimp only; rw [if_pos V])
     have I := Hq C
     have bx : K.cell? ⟨6, 0, none⟩ = some (.iface 243 (.pointer (some (sent 8)))) := L.out.2.1.faults.var 8 (by decide)
     clear M g f hq C y0 y1 au V
     go_upto_region 11 with (go_at_call 46; refine (ao.out _).mono ?_; rintro e wq ⟨rfl, ac⟩; rw [ac]; clear ac wq)
     go_cut [3] (fun a wd => a = .iface 243 (.pointer (some (sent 8))) /\ wd = K.drew.setCells w.heap.size 0 [.int .i64 0, .nilFunc])
     case first => as_aux_lemma =>
      obtain ⟨W3, ah⟩ : ∃ x, K.drew = x := ⟨_, rfl⟩
      have bf : Hid (W3.cell? ⟨6, 0, none⟩ = some (.iface 243 (.pointer (some (sent 8)))) /\ (W3.setCells w.heap.size 0 [.int .i64 0, .nilFunc]).cell? ⟨6, 0, none⟩ = some (.iface 243 (.pointer (some (sent 8))))) := by
        have h1 : W3.cell? ⟨6, 0, none⟩ = some (.iface 243 (.pointer (some (sent 8)))) := by rw [<- ah]; exact bx
        refine ⟨h1, ?_⟩
        rw [World.cell?_of_block (a := ⟨6, 0, none⟩) (Qa8 _ _ _ _ _ (by have := H.out.1.faults.low (n := 8) (by decide); have : 6 = gOf 8 := rfl; show 6 ≠ w.heap.size; omega))]
        exact h1
      rw [ah] at N
      refine wp_region_any (by kernel_rfl) ?_
      change wpAny _ _ _ _ _ _ _ (World.drew _)
      obtain ⟨vf, l⟩ : ∃ vf : Nat -> Option Value, vf = fun i => ([some (.agg #[.int .i64 0, .nilFunc]), some (.iface 243 (.pointer (some (sent 8)))), none, some (.iface 243 (.pointer (some (sent 8))))] : List (Option Value)).getD i none := ⟨_, rfl⟩
      refine Qam _ (fun d v w' => (∀ i x, vf i = some x -> d i = true -> v i = x) /\ (fun d v w' => (d 2 = false -> w' = W3) /\ (d 2 = true -> w' = W3.setCells w.heap.size 0 [.int .i64 0, .nilFunc])) d v w') (by kernel_rfl) (by kernel_rfl) ?_ _ (fun _ => undef) ?_ ?_
      · intro i o j bc al b W J U F k
        have hi : i < 4 := (Array.getElem?_eq_some_iff.1 j).1
        match i, hi with
        | 0, _ =>
          obtain rfl := Option.some.inj j
          refine Qa1 (.agg #[.int .i64 0, .nilFunc]) ⟨_, rfl, Qa0 k.1 (ve l rfl), k.2⟩ ?_
          clear j F J k U l
          go_simp
        | 1, _ =>
          obtain rfl := Option.some.inj j
          have hg : W.cell? ⟨6, 0, none⟩ = some (.iface 243 (.pointer (some (sent 8)))) := by
           cases hq : bc.getD 2 false with
           | false => rw [k.2.1 hq]; exact bf.out.1
           | true => rw [k.2.2 hq]; exact bf.out.2
          refine Qa1 (.iface 243 (.pointer (some (sent 8)))) ⟨_, rfl, Qa0 k.1 (ve l rfl), k.2⟩ ?_
          clear j F J k U l
          go_simp
        | 2, _ =>
          obtain rfl := Option.some.inj j
          have t2 : b.tmps[2]? = some (.pointer (some ⟨w.heap.size, 0, none⟩)) := J.rs 2 (by kernel_rfl)
          have cg := J.vt 0 38 (.agg #[.int .i64 0, .nilFunc]) (F ⟨0, .data⟩ (by simp) rfl) rfl (by simp) (ve l rfl) k.1
          have hW : W = W3 := k.2.1 U
          rw [hW]
          refine wp_store_mid 123 (.tmp 2) (.tmp 38) rfl w.heap.size 0 #[.int .i64 0, .nilFunc] (by simp only [Act.eval, Array.getD_eq_getD_getElem?, t2, Option.getD_some]) (by simp only [Act.eval, Array.getD_eq_getD_getElem?, cg, Option.getD_some]) N aa (by simp [Value.oneCell']) ?_
          exact ⟨undef, rfl, Qa3 k.1 (ve l rfl), fun q => (by cases q), fun _ => rfl⟩
        | 3, _ =>
          obtain rfl := Option.some.inj j
          have ci := J.vt 1 39 (.iface 243 (.pointer (some (sent 8)))) (F ⟨1, .data⟩ (by simp) rfl) rfl (by simp) (ve l rfl) k.1
          refine Qa1 (.iface 243 (.pointer (some (sent 8)))) ⟨_, rfl, Qa0 k.1 (ve l rfl), k.2⟩ ?_
          clear j F J k U l
          go_simp
      · exact ⟨fun _ _ _ h => (by simp at h), fun _ => ah, fun q => (by simp at q)⟩
      · intro al W k
        have D : al 0 = .agg #[.int .i64 0, .nilFunc] := k.1 0 _ (ve l rfl) rfl
        have E : al 1 = .iface 243 (.pointer (some (sent 8))) := k.1 1 _ (ve l rfl) rfl
        have e3 : al 3 = .iface 243 (.pointer (some (sent 8))) := k.1 3 _ (ve l rfl) rfl
        have C := k.2
        simp only [runFrom, Act.put, Nat.zero_add, Nat.reduceAdd, List.setIfInBounds_toArray, List.set_cons_zero, List.set_cons_succ, D, E, e3]
        clear k l D E e3
        have HW : Hid (W = W3.setCells w.heap.size 0 [.int .i64 0, .nilFunc]) := C.2 rfl
        clear C
        (try go_wp2)
        go_meet
        exact ⟨rfl, by rw [ah]; exact HW.out⟩
     case rest => as_aux_lemma =>
      obtain ⟨rfl, ce⟩ := hcut
      subst ce
      go_wp2
      refine bodyPost_ret (v := .tuple #[.agg #[.int .i64 0, .nilFunc], .iface 243 (.pointer (some (sent 8)))]) (by simp [results, Tryz.results74, go_sem, D, E]) rfl ?_
      exact I.out
    ·have ax : 0 < u.size /\ u.size <= 100 := by omega
     have ao := Hq (fun W => Qir u W ax.1 ax.2)
     have bn := Hq (fun W => Qds u W (by omega))
     have HL : Hid (opLeaf s = .ok (.gives (.leaf q u), s2)) := by unfold opLeaf; rw [O.out.1]; dsimp only; rw [HQ.out.1]; dsimp only; rw [hq]; dsimp only; rw [if_neg V]; exact rfl
     have bo : Hid ((Nd.leaf q u).ok) := by rw [Nd.ok]; exact ⟨⟨by omega, au.2.2.1⟩, by omega⟩
     clear M g f hq y0 y1 au V ae ax
     go_wp2_with (first | (go_at_call 46; refine (ao.out _).mono ?_; rintro e wq ⟨rfl, ac⟩; rw [ac]; clear ac wq) | (go_at_call 50; refine (bn.out _).mono ?_; rintro e G ⟨rfl, bh⟩; have ag := Hq bh; clear bh))
     have ai : Below G.heap.size G (G.alloc (.cells #[.string ⟨#[]⟩, .string q, .string u] 169)) := (Below.refl _ _).alloc (Nat.le_refl _) _
     have ba := Qai G (.cells #[.string ⟨#[]⟩, .string q, .string u] 169)
     have aw : (G.alloc (.cells #[.string ⟨#[]⟩, .string q, .string u] 169)).heap.size = G.heap.size + 1 := by simp
     generalize World.alloc G _ = w5 at ai ba aw ⊢
     have bi := Qbj H.out.2.2.1 L.out.1 H.out.2.2.2
     have ar := Fr.fresh (bi.below ag.out) ai (Nat.le_refl _) (t := .leaf q u) (h := ⟨#[]⟩) (r := [.string q, .string u]) (.inr ⟨rfl, by simp⟩) rfl bo.out ba
     have HG := Hq (Qhs (S := S.put G.heap.size (.leaf q u)) (.leaf q u) (.iface 165 (.pointer (some ⟨G.heap.size, 0, none⟩))) w5 (.inr ⟨by simp, _, rfl, Wood.put_same _ _ _⟩))
     have am : Hid (Fr B S (S.put G.heap.size (.leaf q u)) G w5 /\ Below G.heap.size G w5 /\ w5.heap.size = G.heap.size + 1) := ⟨ar, ai, aw⟩
     clear ai ba aw bi ar
     refine HG.out.mono ?_
     rintro e w6 ⟨nb, v, rfl, hv, bz, bj, aj⟩
     have aq : ∀ x y, v = .agg #[x, y] -> w6.there w.heap.size 0 2 /\ (w6.setCells w.heap.size 0 [x, y]).cell? ⟨w.heap.size, 0, none⟩ = some x /\ (w6.setCells w.heap.size 0 [x, y]).cell? ⟨w.heap.size, 1, none⟩ = some y /\ OpS B sent rb S w (opLeaf s) (.returned (.tuple #[.agg #[x, y], .nilIface])) (w6.setCells w.heap.size 0 [x, y]) := fun x y cf => by
       have bg : Below K.heap.size K w6 := Below.behind (Below.behind ag.out am.out.2.1) aj
       have k1 := T.out.2.1
       have k2 := P.out.2.2
       have k3 := L.out.2.2.1
       have k4 := ag.out.size
       have k5 := am.out.2.2
       have k6 := aj.size
       have k7 := H.out.2.1
       refine Qla sent HL.out (((Qbq H.out.2.2.1 L.out.1 H.out.2.2.2).behind ag.out).trans ((am.out.1.x _).behind aj)) ((bg.block _ (by omega)).trans L.out.2.2.2.2) (cf ▸ hv) (by omega) bj ?_ ?_ (L.out.2.2.2.1.below bg) k7
       · rw [Wood.put_other _ _ _ (by omega)]; exact H.out.2.2.1.fresh (by omega)
       · rw [Wood.put_other _ _ _ (by omega)]; exact H.out.2.2.1.fresh (by omega)
     obtain ⟨rfl, -⟩ := hv
     obtain ⟨N, D, E, C⟩ := aq _ _ rfl
     have I := Hq C
     clear C aq bz bj aj HG
     go_wp2_with (refine wpList_store_mid rfl 123 _ _ rfl w.heap.size 0 #[.int .i64 0, .func (.func 88) #[] #[.pointer (some ⟨nb, 0, none⟩)]] rfl rfl N aa (by simp [Value.oneCell']) ?_)
     refine bodyPost_ret (v := .tuple #[opFnV 0 88 nb, .nilIface]) (by simp [results, Tryz.results74, go_sem, D, E]) rfl ?_
     exact I.out
theorem Qxs (sent : Nat -> Addr) (hf : Forest B S w) (hS : S rb = none) (hF : RdE sent rb w) (h : RdAt w rb s) :
  Calls Tryz.prog 75 #[.pointer (some ⟨rb, 0, none⟩)] w fun e w' => OpS B sent rb S w (opExt s) e w' := by
 have hA : ∀ z : Obj, Below w.heap.size w (w.alloc z) := fun z => (Below.refl _ _).alloc (Nat.le_refl _) _
 have HT := Hq (fun z => Qn1 sent (hF.below (hA z)) (h.below (hA z)))
 have M : Hid (RdE sent rb w /\ rb < w.heap.size /\ Forest B S w /\ S rb = none) := ⟨hF, h.cell.2.2, hf, hS⟩
 have HA := Hq hA
 have Z := Qhr
 clear hF h hA hf hS
 go_enter Tryz.func75, Tryz.ntmps75
 go_wp2_with fail
 have ag := Qai w (.cells #[.int .i64 0, .nilFunc] 123)
 refine (HT.out _).mono ?_
 rintro e r ⟨m, l, f⟩
 have T := (m.block w.heap.size (by simp) (by have := M.out.2.1; omega)).trans ag
 have V : Hid (Only rb w r /\ w.heap.size < r.heap.size /\ r.heap[w.heap.size]? = some (.cells #[.int .i64 0, .nilFunc] 123 (0, 0)) /\ RdE sent rb r) := ⟨Only.ahead (HA.out _) m, by have := m.size; simp at this; omega, T, (M.out.1.below (HA.out _)).only m⟩
 have U : Hid (∀ (W : World) (er : Er), Only rb w W -> W.heap[w.heap.size]? = some (.cells #[.int .i64 0, .nilFunc] 123 (0, 0)) -> opExt s = .error er -> W.there w.heap.size 0 2 /\ (W.setCells w.heap.size 0 [.int .i64 0, .nilFunc]).cell? ⟨w.heap.size, 0, none⟩ = some (.int .i64 0) /\ (W.setCells w.heap.size 0 [.int .i64 0, .nilFunc]).cell? ⟨w.heap.size, 1, none⟩ = some .nilFunc /\ OpS B sent rb S w (opExt s) (.returned (.tuple #[.agg #[.int .i64 0, .nilFunc], er.val sent])) (W.setCells w.heap.size 0 [.int .i64 0, .nilFunc])) := fun W er hO hx he => by
  obtain ⟨N, q1, q2⟩ := put2 hx (.int .i64 0) .nilFunc
  obtain ⟨I, J, -⟩ := Qa7 q1
  exact ⟨N, I, J, fun aw R => (by rw [he] at R; cases R; exact ⟨rfl, Qbq M.out.2.2.1 (hO.over q2 (Nat.le_refl _)) M.out.2.2.2⟩), fun d s' R => (by rw [he] at R; cases R)⟩
 cases hq : rdPth s with
 | error er =>
  obtain rfl := Qn3 hq
  obtain rfl := l _ hq
  obtain ⟨N, I, J, u⟩ := U.out (r.alloc (.cells #[.int .i64 0, .string ⟨#[]⟩] 212)) (.base 2) (V.out.1.behind' ((Below.refl _ _).alloc (Nat.le_refl _) _)) ((Qby _ _ V.out.2.1).trans T) (by unfold opExt; rw [hq])
  have P := Hq u
  clear m l f hq ag T u
  simp only [Er.val]
  go_wp2_with (refine wpList_store_mid rfl 123 _ _ rfl w.heap.size 0 #[.int .i64 0, .nilFunc] rfl rfl N Z (by simp [Value.oneCell']) ?_)
  refine bodyPost_ret (v := .tuple #[.agg #[.int .i64 0, .nilFunc], .iface 243 (.pointer (some (sent 2)))]) (by simp [results, Tryz.results75, go_sem, I, J]) rfl ?_
  exact P.out
 | ok z =>
  obtain ⟨⟨c, p⟩, s1⟩ := z
  obtain ⟨rfl, hr⟩ := f (c, p) s1 hq
  have Q := Qlb hq
  have F : Below r.heap.size r (r.alloc (.cells #[.int .i64 (c : Int), .string p] 212)) := (Below.refl _ _).alloc (Nat.le_refl _) _
  have ah := Qai r (.cells #[.int .i64 (c : Int), .string p] 212)
  have al : (r.alloc (.cells #[.int .i64 (c : Int), .string p] 212)).heap.size = r.heap.size + 1 := by simp
  generalize hw2 : (r.alloc (.cells #[.int .i64 (c : Int), .string p] 212)) = w2 at F ah al
  obtain ⟨y0, y1, -⟩ := Qa7 ah
  have HR := Hq (Qn2 sent c p 63 Q.1 Q.2 w2 (V.out.2.2.2.below F).faults)
  have H : Hid (rdPth s = .ok ((c, p), s1) /\ c <= 255 /\ p.size = (c + 1) / 2 /\ RdE sent rb w2 /\ Below r.heap.size r w2 /\ rb < r.heap.size /\ Only rb w w2 /\ RdAt w2 rb s1 /\ w2.heap[w.heap.size]? = some (.cells #[.int .i64 0, .nilFunc] 123 (0, 0)) /\ w.heap.size < w2.heap.size) := ⟨hq, Q.1, Q.2, V.out.2.2.2.below F, F, hr.cell.2.2, V.out.1.behind' F, hr.below F, (F.block _ V.out.2.1).trans T, by have := V.out.2.1; omega⟩
  clear m l f hq hr Q ag T F ah al
  go_wp2_with fail
  try rw [hw2]
  clear hw2
  refine HR.out.mono ?_
  rintro e j ⟨G, l, f⟩
  have t : Hid (Only rb w j /\ RdE sent rb j /\ w2.heap.size <= j.heap.size /\ RdAt j rb s1 /\ j.heap[w.heap.size]? = some (.cells #[.int .i64 0, .nilFunc] 123 (0, 0))) := ⟨H.out.2.2.2.2.2.2.1.behind' G, H.out.2.2.2.1.below G, G.size, H.out.2.2.2.2.2.2.2.1.below G, (G.block _ H.out.2.2.2.2.2.2.2.2.2).trans H.out.2.2.2.2.2.2.2.2.1⟩
  cases hq : wrRead c p 63 with
  | error er =>
   obtain rfl := l _ hq
   obtain ⟨N, I, J, u⟩ := U.out (j.alloc (.cells #[.string ⟨#[]⟩] 9)) er (t.out.1.behind' ((Below.refl _ _).alloc (Nat.le_refl _) _)) ((Qby _ _ (by have := H.out.2.2.2.2.2.2.2.2.2; have := t.out.2.2.1; omega)).trans t.out.2.2.2.2) (by unfold opExt; rw [H.out.1]; dsimp only; rw [hq])
   have P := Hq u
   obtain ⟨a1, a2, am⟩ := Er.shape sent er
   rw [am] at P ⊢
   clear G l f hq u am y0 y1
   go_wp2_with (refine wpList_store_mid rfl 123 _ _ rfl w.heap.size 0 #[.int .i64 0, .nilFunc] rfl rfl N Z (by simp [Value.oneCell']) ?_)
   refine bodyPost_ret (v := .tuple #[.agg #[.int .i64 0, .nilFunc], .iface a1 a2]) (by simp [results, Tryz.results75, go_sem, I, J]) rfl ?_
   exact P.out
  | ok q =>
   obtain rfl := f _ hq
   have ak := Qht H.out.2.2.1 hq
   have L : Below j.heap.size j (j.alloc (.cells #[.string q] 9)) := (Below.refl _ _).alloc (Nat.le_refl _) _
   have aa := Qai j (.cells #[.string q] 9)
   have Y : (j.alloc (.cells #[.string q] 9)).heap.size = j.heap.size + 1 := by simp
   obtain ⟨K, ae⟩ : ∃ x, j.alloc (.cells #[.string q] 9) = x := ⟨_, rfl⟩
   rw [ae] at L aa Y
   have c4 : K.cell? ⟨j.heap.size, 0, none⟩ = some (.string q) := by simp [World.cell?, aa]
   have E : Hid (Only rb w K /\ RdE sent rb K /\ K.heap.size = j.heap.size + 1 /\ RdAt K rb s1 /\ K.heap[w.heap.size]? = some (.cells #[.int .i64 0, .nilFunc] 123 (0, 0)) /\ w.heap.size < j.heap.size /\ K.cell? ⟨j.heap.size, 0, none⟩ = some (.string q)) := ⟨t.out.1.behind' L, t.out.2.1.below L, Y, t.out.2.2.2.1.below L, (L.block _ (by have := H.out.2.2.2.2.2.2.2.2.2; have := t.out.2.2.1; omega)).trans t.out.2.2.2.2, by have := H.out.2.2.2.2.2.2.2.2.2; have := t.out.2.2.1; omega, c4⟩
   by_cases hz : q.size = 0
   ·have aq : q = ⟨#[]⟩ := Qav (by rw [Qdh (by omega)]; rfl)
    obtain ⟨N, I, J, u⟩ := U.out K.drew (.base 8) (E.out.1.behind' (Below.refl _ _).drew) E.out.2.2.2.2.1 (by unfold opExt; rw [H.out.1]; dsimp only; rw [hq]; dsimp only; rw [if_pos hz])
    have P := Hq u
    have ap : K.cell? ⟨6, 0, none⟩ = some (.iface 243 (.pointer (some (sent 8)))) := E.out.2.1.faults.var 8 (by decide)
    subst aq
    have ao := Hq ae
    clear G l f hq u y0 y1 ak hz L aa Y ae
    go_upto_region 8 with fail
    rw [ao.out]
    go_cut [3] (fun a wd => a = .iface 243 (.pointer (some (sent 8))) /\ wd = K.drew.setCells w.heap.size 0 [.int .i64 0, .nilFunc])
    case first => as_aux_lemma =>
     obtain ⟨W3, X⟩ : ∃ x, K.drew = x := ⟨_, rfl⟩
     have aj : Hid (W3.cell? ⟨6, 0, none⟩ = some (.iface 243 (.pointer (some (sent 8)))) /\ (W3.setCells w.heap.size 0 [.int .i64 0, .nilFunc]).cell? ⟨6, 0, none⟩ = some (.iface 243 (.pointer (some (sent 8))))) := by
      have h1 : W3.cell? ⟨6, 0, none⟩ = some (.iface 243 (.pointer (some (sent 8)))) := by rw [<- X]; exact ap
      refine ⟨h1, ?_⟩
      rw [World.cell?_of_block (a := ⟨6, 0, none⟩) (Qa8 _ _ _ _ _ (by have := M.out.1.faults.low (n := 8) (by decide); have : 6 = gOf 8 := rfl; show 6 ≠ w.heap.size; omega))]
      exact h1
     rw [X] at N
     refine wp_region_any (by kernel_rfl) ?_
     change wpAny _ _ _ _ _ _ _ (World.drew _)
     obtain ⟨vf, k⟩ : ∃ vf : Nat -> Option Value, vf = fun i => ([some (.agg #[.int .i64 0, .nilFunc]), some (.iface 243 (.pointer (some (sent 8)))), none, some (.iface 243 (.pointer (some (sent 8))))] : List (Option Value)).getD i none := ⟨_, rfl⟩
     refine Qam _ (fun d v w' => (∀ i x, vf i = some x -> d i = true -> v i = x) /\ (fun d v w' => (d 2 = false -> w' = W3) /\ (d 2 = true -> w' = W3.setCells w.heap.size 0 [.int .i64 0, .nilFunc])) d v w') (by kernel_rfl) (by kernel_rfl) ?_ _ (fun _ => undef) ?_ ?_
     ·intro i o m ai ac b W D O C g
      have hi : i < 4 := (Array.getElem?_eq_some_iff.1 m).1
      match i, hi with
      | 0, _ =>
       obtain rfl := Option.some.inj m
       refine Qa1 (.agg #[.int .i64 0, .nilFunc]) ⟨_, rfl, Qa0 g.1 (ve k rfl), g.2⟩ ?_
       clear m C D g O k
       go_simp
      | 1, _ =>
       obtain rfl := Option.some.inj m
       have hg : W.cell? ⟨6, 0, none⟩ = some (.iface 243 (.pointer (some (sent 8)))) := by
        cases hq : ai.getD 2 false with
        | false => rw [g.2.1 hq]; exact aj.out.1
        | true => rw [g.2.2 hq]; exact aj.out.2
       refine Qa1 (.iface 243 (.pointer (some (sent 8)))) ⟨_, rfl, Qa0 g.1 (ve k rfl), g.2⟩ ?_
       clear m C D g O k
       go_simp
      | 2, _ =>
       obtain rfl := Option.some.inj m
       have t2 : b.tmps[2]? = some (.pointer (some ⟨w.heap.size, 0, none⟩)) := D.rs 2 (by kernel_rfl)
       have au := D.vt 0 27 (.agg #[.int .i64 0, .nilFunc]) (C ⟨0, .data⟩ (by simp) rfl) rfl (by simp) (ve k rfl) g.1
       have hW : W = W3 := g.2.1 O
       rw [hW]
       refine wp_store_mid 123 (.tmp 2) (.tmp 27) rfl w.heap.size 0 #[.int .i64 0, .nilFunc] (by simp only [Act.eval, Array.getD_eq_getD_getElem?, t2, Option.getD_some]) (by simp only [Act.eval, Array.getD_eq_getD_getElem?, au, Option.getD_some]) N Z (by simp [Value.oneCell']) ?_
       exact ⟨undef, rfl, Qa3 g.1 (ve k rfl), fun q => (by cases q), fun _ => rfl⟩
      | 3, _ =>
       obtain rfl := Option.some.inj m
       have ax := D.vt 1 28 (.iface 243 (.pointer (some (sent 8)))) (C ⟨1, .data⟩ (by simp) rfl) rfl (by simp) (ve k rfl) g.1
       refine Qa1 (.iface 243 (.pointer (some (sent 8)))) ⟨_, rfl, Qa0 g.1 (ve k rfl), g.2⟩ ?_
       clear m C D g O k
       go_simp
     ·exact ⟨fun _ _ _ h => (by simp at h), fun _ => X, fun q => (by simp at q)⟩
     ·intro ac W g
      have I : ac 0 = .agg #[.int .i64 0, .nilFunc] := g.1 0 _ (ve k rfl) rfl
      have J : ac 1 = .iface 243 (.pointer (some (sent 8))) := g.1 1 _ (ve k rfl) rfl
      have e3 : ac 3 = .iface 243 (.pointer (some (sent 8))) := g.1 3 _ (ve k rfl) rfl
      have u := g.2
      simp only [runFrom, Act.put, Nat.zero_add, Nat.reduceAdd, List.setIfInBounds_toArray, List.set_cons_zero, List.set_cons_succ, I, J, e3]
      clear g k I J e3
      have HW : Hid (W = W3.setCells w.heap.size 0 [.int .i64 0, .nilFunc]) := u.2 rfl
      clear u
      (try go_wp2)
      go_meet
      exact ⟨rfl, by rw [X]; exact HW.out⟩
    case rest => as_aux_lemma =>
     obtain ⟨rfl, ar⟩ := hcut
     subst ar
     go_wp2
     refine bodyPost_ret (v := .tuple #[.agg #[.int .i64 0, .nilFunc], .iface 243 (.pointer (some (sent 8)))]) (by simp [results, Tryz.results75, go_sem, I, J]) rfl ?_
     exact P.out
   ·have hs := Qcu q (by omega)
    have HL : Hid (opExt s = .ok (.ext q, s1)) := by unfold opExt; rw [H.out.1]; dsimp only; rw [hq]; dsimp only; rw [if_neg hz]; exact rfl
    obtain ⟨N, I, J, u⟩ := Qla (B := B) (S := S) (S' := S) sent (w := w) (W := K) (nb := j.heap.size) (x := .int .i64 1) (y := .func (.func 92) #[] #[.pointer (some ⟨j.heap.size, 0, none⟩)]) HL.out (Qbq M.out.2.2.1 E.out.1 M.out.2.2.2) E.out.2.2.2.2.1 ⟨rfl, c4⟩ E.out.2.2.2.2.2.1 (by omega) (M.out.2.2.1.fresh (by have := E.out.2.2.2.2.2.1; omega)) (M.out.2.2.1.fresh (Nat.le_refl _)) E.out.2.2.2.1 M.out.2.1
    have P := Hq u
    clear G l f hq u y0 y1 ak hz L aa Y
    go_wp2_with (refine wpList_store_mid rfl 123 _ _ rfl w.heap.size 0 #[.int .i64 1, .func (.func 92) #[] #[.pointer (some ⟨j.heap.size, 0, none⟩)]] rfl rfl N Z (by simp [Value.oneCell']) ?_)
    refine bodyPost_ret (v := .tuple #[opFnV 1 92 j.heap.size, .nilIface]) (by simp [results, Tryz.results75, go_sem, I, J]) rfl ?_
    exact P.out
theorem Qxt (a b f : Nat) : popN (a + b) f = popN a f + popN b (f / 2 ^ a) := by
 induction a generalizing f with
 | zero => simp [popN]
 | succ a ih => rw [show a + 1 + b = (a + b) + 1 by omega, popN, popN, ih, Nat.pow_succ, Nat.div_div_eq_div_mul, Nat.mul_comm 2, Nat.add_assoc]
theorem Qxu (a f : Nat) : popN a (f % 2 ^ a) = popN a f := by
 induction a generalizing f with
 | zero => rfl
 | succ a ih =>
  rw [popN, popN]
  have b : f % 2 ^ (a + 1) % 2 = f % 2 := by rw [Nat.pow_succ, Nat.mul_comm, Nat.mod_mul_right_mod]
  have c : f % 2 ^ (a + 1) / 2 = f / 2 % 2 ^ a := by rw [Nat.pow_succ, Nat.mul_comm, Nat.mod_mul_right_div_self]
  rw [b, c, ih]
theorem Qhu (a f : Nat) : popN a f <= a := by
 induction a generalizing f with
 | zero => simp [popN]
 | succ a ih => rw [popN]; have := ih (f / 2); omega
def popTab (s : ByteArray) : Bool := decide (s.size = 256) && (List.range 256).all fun i => decide ((bytesOf s)[i]! = popN 8 i)
theorem Quf (h : popTab s = true) {n : Nat} (hn : n < 256) : ∃ hs : n < s.size, (s[n]'hs).toNat = popN 8 n := by
 unfold popTab at h
 simp only [Bool.and_eq_true, decide_eq_true_eq, List.all_eq_true, List.mem_range] at h
 refine ⟨by omega, ?_⟩
 rw [Qbo s n (by omega)]
 exact h.2 n hn
theorem Qj8 (s : ByteArray) (n : Nat) (hn : n < s.size) (w : World) : (Instr.index 9 (.string s) (.int .u16 (n : Int))).run Tryz.prog w = .ok (.int .u8 ((s[n]'hn).toNat : Int)) w := by
 simp [Instr.index, asIntOf, run_underlying Tryz.underlying9, hn, go_sem]
theorem Qug {o : Oper} {a : Act} {K : Act -> World -> Prop} {Q : Exit -> Act -> World -> Prop} (x i : Operand) (s : ByteArray) (n : Nat) (ho : o.op = .index 9 x i) (hx : a.eval x = .string s) (ht : popTab s = true) (hi : a.eval i = .int .u16 (n : Int)) (hn : n < 256) (hK : K (a.put o.dst (.int .u8 ((popN 8 n : Nat) : Int))) w) : Oper.wp Tryz.prog o a w K Q := by
 obtain ⟨c, b⟩ := Quf ht hn
 have h := Qj8 s n c w
 rw [b] at h
 unfold Oper.wp execOp
 simp only [ho, hx, hi, Sem.run_bind, h, Result.andThen_ok]
 exact hK
theorem QCg (f : Nat) (hf : f < 65536) : bits .and .u16 (f : Int) 255 = ((f % 256 : Nat) : Int) := by
 have := u16_and_nat f 255 hf (by omega)
 have e : ((255 : Nat) : Int) = 255 := rfl
 rw [e] at this
 rw [this]
 congr 1
 exact Nat.and_two_pow_sub_one_eq_mod f 8
theorem Qxv (x : Nat) (hx : x < 65536) (w : World) :
  Calls Tryz.prog 94 #[.int .u16 (x : Int)] w fun e w' => e = .returned (.int .i64 ((popN 16 x : Nat) : Int)) /\ ∃ n, w' = w.drewN n := by
 obtain ⟨y, l⟩ : ∃ a, x / 256 = a := ⟨_, rfl⟩
 obtain ⟨z, k⟩ : ∃ b, x % 256 = b := ⟨_, rfl⟩
 obtain ⟨m, q⟩ : ∃ m, popN 16 x = m := ⟨_, rfl⟩
 have M : y < 256 := by omega
 have N : z < 256 := by omega
 have O : (x : Int) / 256 = (y : Int) := by omega
 have P : bits .and .u16 (x : Int) 255 = (z : Int) := by rw [QCg x hx, k]
 have r : popN 8 y + popN 8 z = m := by
  have p := Qxt 8 8 x
  have G := Qxu 8 x
  rw [q] at p
  rw [show (2 : Nat) ^ 8 = 256 from rfl] at p G
  rw [l] at p
  rw [k] at G
  omega
 have H := Qhu 8 y
 have I := Qhu 8 z
 have Q : IntKind.u8.wrap (((popN 8 y : Nat) : Int) + ((popN 8 z : Nat) : Int)) = (m : Int) := by
  have : (((popN 8 y : Nat) : Int) + ((popN 8 z : Nat) : Int)) = (m : Int) := by omega
  rw [this]
  exact Ql8 (by omega)
 have R : IntKind.i64.wrap (m : Int) = (m : Int) := Qar _ (by omega) (by omega)
 clear hx l k r H I
 go_enter Tryz.func94, Tryz.ntmps94
 go_upto_region 1 with fail
 refine wp_region_any (by kernel_rfl) ?_
 change wpAny _ _ _ _ _ _ _ (World.drew _)
 obtain ⟨f, g⟩ : ∃ f : Nat -> Value, f = fun i => ([.int .u16 (x : Int), .int .u16 (y : Int), .int .u8 ((popN 8 y : Nat) : Int), .int .u16 (x : Int), .int .u16 (z : Int), .int .u8 ((popN 8 z : Nat) : Int), .int .u8 (m : Int), .int .i64 (m : Int), .int .i64 (m : Int)] : List Value).getD i undef := ⟨_, rfl⟩
 refine Qdl _ _ f (fun W => W = w.drew) (by kernel_rfl) (by kernel_rfl) ?_ _ ?_ rfl ?_
 ·intro i o h J b W d c j
  have L : i < 9 := (Array.getElem?_eq_some_iff.1 h).1
  match i, L with
  | 0, _ =>
   obtain rfl := Option.some.inj h
   have S : b.tmps[0]? = some (.int .u16 (x : Int)) := d.rs 0 (by kernel_rfl)
   rw [show f 0 = .int .u16 (x : Int) from fe g rfl]
   clear h g c d
   go_simp
  | 1, _ =>
   obtain rfl := Option.some.inj h
   have X := d.dn 0 3 (.int .u16 (x : Int)) (c ⟨0, .data⟩ (by simp) rfl) rfl (by simp) (fe g rfl)
   rw [show f 1 = .int .u16 (y : Int) from fe g rfl]
   clear h g c d
   rw [<- O]
   go_simp
  | 2, _ =>
   obtain rfl := Option.some.inj h
   have T := d.dn 1 4 (.int .u16 (y : Int)) (c ⟨1, .data⟩ (by simp) rfl) rfl (by simp) (fe g rfl)
   rw [show f 2 = .int .u8 ((popN 8 y : Nat) : Int) from fe g rfl]
   clear h g c d
   refine Qug _ (.tmp 4) _ y rfl rfl (by kernel_rfl) (by simp only [Act.eval, Array.getD_eq_getD_getElem?, T, Option.getD_some]) M ?_
   exact ⟨rfl, j⟩
  | 3, _ =>
   obtain rfl := Option.some.inj h
   have S : b.tmps[0]? = some (.int .u16 (x : Int)) := d.rs 0 (by kernel_rfl)
   rw [show f 3 = .int .u16 (x : Int) from fe g rfl]
   clear h g c d
   go_simp
  | 4, _ =>
   obtain rfl := Option.some.inj h
   have Z := d.dn 3 6 (.int .u16 (x : Int)) (c ⟨3, .data⟩ (by simp) rfl) rfl (by simp) (fe g rfl)
   rw [show f 4 = .int .u16 (z : Int) from fe g rfl]
   clear h g c d
   rw [<- P]
   go_simp
  | 5, _ =>
   obtain rfl := Option.some.inj h
   have U := d.dn 4 7 (.int .u16 (z : Int)) (c ⟨4, .data⟩ (by simp) rfl) rfl (by simp) (fe g rfl)
   rw [show f 5 = .int .u8 ((popN 8 z : Nat) : Int) from fe g rfl]
   clear h g c d
   refine Qug _ (.tmp 7) _ z rfl rfl (by kernel_rfl) (by simp only [Act.eval, Array.getD_eq_getD_getElem?, U, Option.getD_some]) N ?_
   exact ⟨rfl, j⟩
  | 6, _ =>
   obtain rfl := Option.some.inj h
   have Y := d.dn 2 5 (.int .u8 ((popN 8 y : Nat) : Int)) (c ⟨2, .data⟩ (by simp) rfl) rfl (by simp) (fe g rfl)
   have t8 := d.dn 5 8 (.int .u8 ((popN 8 z : Nat) : Int)) (c ⟨5, .data⟩ (by simp) rfl) rfl (by simp) (fe g rfl)
   rw [show f 6 = .int .u8 (m : Int) from fe g rfl]
   clear h g c d
   rw [<- Q]
   go_simp
  | 7, _ =>
   obtain rfl := Option.some.inj h
   have t9 := d.dn 6 9 (.int .u8 (m : Int)) (c ⟨6, .data⟩ (by simp) rfl) rfl (by simp) (fe g rfl)
   rw [show f 7 = .int .i64 (m : Int) from fe g rfl]
   clear h g c d
   rw [<- R]
   go_simp
  | 8, _ =>
   obtain rfl := Option.some.inj h
   have V := d.dn 7 10 (.int .i64 (m : Int)) (c ⟨7, .data⟩ (by simp) rfl) rfl (by simp) (fe g rfl)
   rw [show f 8 = .int .i64 (m : Int) from fe g rfl]
   clear h g c d
   go_simp
 ·exact rfl
 ·intro W j
  have s : f 0 = .int .u16 (x : Int) := by rw [g]; rfl
  have t : f 1 = .int .u16 (y : Int) := by rw [g]; rfl
  have u : f 2 = .int .u8 ((popN 8 y : Nat) : Int) := by rw [g]; rfl
  have v : f 3 = .int .u16 (x : Int) := by rw [g]; rfl
  have B : f 4 = .int .u16 (z : Int) := by rw [g]; rfl
  have C : f 5 = .int .u8 ((popN 8 z : Nat) : Int) := by rw [g]; rfl
  have D : f 6 = .int .u8 (m : Int) := by rw [g]; rfl
  have E : f 7 = .int .i64 (m : Int) := by rw [g]; rfl
  have F : f 8 = .int .i64 (m : Int) := by rw [g]; rfl
  simp only [runFrom, Act.put, Nat.zero_add, Nat.reduceAdd, List.setIfInBounds_toArray, List.set_cons_zero, List.set_cons_succ, s, t, u, v, B, C, D, E, F]
  clear g s t u v B C D E F
  rw [j]
  have K := Hq q
  clear j q
  go_wp2
  go_ret
  exact ⟨by rw [K.out]; rfl, 1, rfl⟩
 -- N1 END
theorem Qxw (a b : Nat) (ha : a < 256) (hb : b < 256) : bits .or .u16 (a : Int) (((b * 256 : Nat)) : Int) = ((a + 256 * b : Nat) : Int) := by
 rw [u16_or_nat _ _ (by omega) (by omega), Nat.or_comm, nat_join 8 (b * 256) a (Nat.mul_mod_left _ _) ha]
 omega
theorem QAe (sent : Nat -> Addr) (hf : Forest B S w) (hS : S rb = none) (hF : RdE sent rb w) (h : RdAt w rb s) :
  Calls Tryz.prog 76 #[.pointer (some ⟨rb, 0, none⟩)] w fun e w' => OpS B sent rb S w (opBr s) e w' := by
 have hA : ∀ z : Obj, Below w.heap.size w (w.alloc z) := fun z => (Below.refl _ _).alloc (Nat.le_refl _) _
 have HT := Hq (fun z => Qfb sent (hF.below (hA z)).faults (h.below (hA z)) 2)
 have F : Hid (RdE sent rb w /\ rb < w.heap.size /\ Forest B S w /\ S rb = none) := ⟨hF, h.cell.2.2, hf, hS⟩
 have HA := Hq hA
 have ag := Qhr
 clear hF h hA hf hS
 go_enter Tryz.func76, Tryz.ntmps76
 go_wp2_with fail
 have ah := Qai w (.cells #[.int .i64 0, .nilFunc] 123)
 refine (HT.out _).mono ?_
 rintro e E ⟨l, P, I⟩
 have T := (l.block w.heap.size (by simp) (by have := F.out.2.1; omega)).trans ah
 have O : Hid (Only rb w E /\ w.heap.size < E.heap.size /\ E.heap[w.heap.size]? = some (.cells #[.int .i64 0, .nilFunc] 123 (0, 0)) /\ RdE sent rb E) := ⟨Only.ahead (HA.out _) l, by have := l.size; simp at this; omega, T, (F.out.1.below (HA.out _)).only l⟩
 have Z : Hid (∀ (W : World) (er : Er), Only rb w W -> W.heap[w.heap.size]? = some (.cells #[.int .i64 0, .nilFunc] 123 (0, 0)) -> opBr s = .error er -> W.there w.heap.size 0 2 /\ (W.setCells w.heap.size 0 [.int .i64 0, .nilFunc]).cell? ⟨w.heap.size, 0, none⟩ = some (.int .i64 0) /\ (W.setCells w.heap.size 0 [.int .i64 0, .nilFunc]).cell? ⟨w.heap.size, 1, none⟩ = some .nilFunc /\ OpS B sent rb S w (opBr s) (.returned (.tuple #[.agg #[.int .i64 0, .nilFunc], er.val sent])) (W.setCells w.heap.size 0 [.int .i64 0, .nilFunc])) := fun W er hO hx he => by
  obtain ⟨N, q1, q2⟩ := put2 hx (.int .i64 0) .nilFunc
  obtain ⟨G, H, -⟩ := Qa7 q1
  exact ⟨N, G, H, fun b7 L => (by rw [he] at L; cases L; exact ⟨rfl, Qbq F.out.2.2.1 (hO.over q2 (Nat.le_refl _)) F.out.2.2.2⟩), fun d s' L => (by rw [he] at L; cases L)⟩
 cases hq : rdTk 2 s with
 | error er =>
  obtain ⟨rfl, -⟩ := Qbp hq
  obtain rfl := P _ hq
  obtain ⟨N, G, H, D⟩ := Z.out E (.base 2) O.out.1 T (by unfold opBr; rw [hq])
  have HX := Hq D
  clear l P I hq ah T D
  simp only [Er.val]
  go_wp2_with (refine wpList_store_mid rfl 123 _ _ rfl w.heap.size 0 #[.int .i64 0, .nilFunc] rfl rfl N ag (by simp [Value.oneCell']) ?_)
  refine bodyPost_ret (v := .tuple #[.agg #[.int .i64 0, .nilFunc], .iface 243 (.pointer (some (sent 2)))]) (by simp [results, Tryz.results76, go_sem, G, H]) rfl ?_
  exact HX.out
 | ok z =>
  obtain ⟨t, s1⟩ := z
  obtain ⟨rfl, hr⟩ := I t s1 hq
  have ba : t.size = 2 := by
   obtain ⟨h1, rfl, -⟩ := Qhp hq
   exact Qbe s 2 h1
  obtain ⟨b0, aa⟩ : ∃ b, (bytesOf t)[0]! = b := ⟨_, rfl⟩
  obtain ⟨b1, ac⟩ : ∃ b, (bytesOf t)[1]! = b := ⟨_, rfl⟩
  have am : (t[0]'(by omega)).toNat = b0 := by rw [Qbo t 0 (by omega)]; exact aa
  have ao : (t[1]'(by omega)).toNat = b1 := by rw [Qbo t 1 (by omega)]; exact ac
  have ap : b0 < 256 := by rw [<- am]; exact UInt8.toNat_lt _
  have aq : b1 < 256 := by rw [<- ao]; exact UInt8.toNat_lt _
  obtain ⟨f, hf⟩ : ∃ f, b0 + 256 * b1 = f := ⟨_, rfl⟩
  have al : forkF t = f := by unfold forkF; rw [aa, ac, hf]
  have V : Hid (rdTk 2 s = .ok (t, s1) /\ forkF t = f /\ f < 65536 /\ RdAt E rb s1 /\ rb < E.heap.size) := ⟨hq, al, by omega, hr, hr.cell.2.2⟩
  have m1 : IntKind.u16.wrap (b0 : Int) = (b0 : Int) := by unfold IntKind.wrap; simp only [IntKind.signed, IntKind.bits]; simp; omega
  have m2 : IntKind.u16.wrap (b1 : Int) = (b1 : Int) := by unfold IntKind.wrap; simp only [IntKind.signed, IntKind.bits]; simp; omega
  have m3 : IntKind.u16.wrap ((b1 : Int) * 256) = ((b1 * 256 : Nat) : Int) := by unfold IntKind.wrap; simp only [IntKind.signed, IntKind.bits]; simp; omega
  have m4 := Qxw b0 b1 ap aq
  rw [hf, show ((b1 * 256 : Nat) : Int) = (b1 : Int) * 256 by omega] at m4
  have i1 : (1 : Int) < (t.size : Int) := by omega
  have i0 : (0 : Int) < (t.size : Int) := by omega
  clear l P I hq hr ah T aa ac ap aq hf al
  go_upto_region 4 with fail
  go_cut [6] (fun a wd => ∃ nb, a = .pointer (some ⟨nb, 0, none⟩) /\ E.heap.size <= nb /\ nb < wd.heap.size /\ Below E.heap.size E wd /\ wd.cell? ⟨nb, 0, none⟩ = some (.int .u16 (f : Int)))
  case first => as_aux_lemma =>
   go_region
   all_goals (try go_wp2)
   all_goals go_meet
   all_goals (refine ⟨_, rfl, Nat.le_refl _, by simp, Below.drewN ((Below.refl _ _).alloc (Nat.le_refl _) _) 1, ?_⟩; show World.cell? (World.alloc _ _) _ = _; rw [World.cell?_alloc_new]; rfl)
  case rest => as_aux_lemma =>
   obtain ⟨nb, rfl, ar, au, K, ae⟩ := hcut
   obtain ⟨u, rfl⟩ : ∃ x, x = wc := ⟨_, rfl⟩
   obtain ⟨m, hm⟩ : ∃ m, popN 16 f = m := ⟨_, rfl⟩
   have aw := Qhu 16 f
   rw [hm] at aw
   have ak := Hq (fun W => Qxv f V.out.2.2.1 W)
   rw [hm] at ak
   have g : Hid (Only rb w u /\ RdE sent rb u /\ RdAt u rb s1 /\ u.heap[w.heap.size]? = some (.cells #[.int .i64 0, .nilFunc] 123 (0, 0)) /\ E.heap.size <= nb /\ nb < u.heap.size /\ u.cell? ⟨nb, 0, none⟩ = some (.int .u16 (f : Int)) /\ popN 16 f = m) := ⟨O.out.1.behind' K, O.out.2.2.2.below K, V.out.2.2.2.1.below K, (K.block _ O.out.2.1).trans O.out.2.2.1, ar, au, ae, hm⟩
   clear ar au K m1 m2 m3 m4 i0 i1 am ao hm
   go_wp2_with fail
   refine (ak.out _).mono ?_
   rintro e w3 ⟨rfl, X, rfl⟩
   by_cases R : m < 2
   ·have i1 : (m : Int) < 2 := by omega
    have j : Below u.heap.size u (u.drewN X) := Below.drewN (Below.refl _ _) X
    obtain ⟨Y, M⟩ : ∃ x, u.drewN X = x := ⟨_, rfl⟩
    rw [M] at j ⊢
    obtain ⟨N, G, H, D⟩ := Z.out Y.drew (.base 8) (g.out.1.behind' (Below.behind j (Below.refl _ _).drew)) ((j.block _ (by have := O.out.2.1; have := g.out; omega)).trans g.out.2.2.2.1) (by unfold opBr; rw [V.out.1]; dsimp only; rw [V.out.2.1, g.out.2.2.2.2.2.2.2, if_pos R])
    have HX := Hq D
    have ax : Y.cell? ⟨6, 0, none⟩ = some (.iface 243 (.pointer (some (sent 8)))) := (g.out.2.1.below j).faults.var 8 (by decide)
    clear D R M j ae
    go_upto_region 7 with fail
    go_cut [3] (fun a wd => a = .iface 243 (.pointer (some (sent 8))) /\ wd = Y.drew.setCells w.heap.size 0 [.int .i64 0, .nilFunc])
    case first => as_aux_lemma =>
     obtain ⟨W3, Q⟩ : ∃ x, Y.drew = x := ⟨_, rfl⟩
     have aj : Hid (W3.cell? ⟨6, 0, none⟩ = some (.iface 243 (.pointer (some (sent 8)))) /\ (W3.setCells w.heap.size 0 [.int .i64 0, .nilFunc]).cell? ⟨6, 0, none⟩ = some (.iface 243 (.pointer (some (sent 8))))) := by
      have h1 : W3.cell? ⟨6, 0, none⟩ = some (.iface 243 (.pointer (some (sent 8)))) := by rw [<- Q]; exact ax
      refine ⟨h1, ?_⟩
      rw [World.cell?_of_block (a := ⟨6, 0, none⟩) (Qa8 _ _ _ _ _ (by have := F.out.1.faults.low (n := 8) (by decide); have : 6 = gOf 8 := rfl; show 6 ≠ w.heap.size; omega))]
      exact h1
     rw [Q] at N
     refine wp_region_any (by kernel_rfl) ?_
     change wpAny _ _ _ _ _ _ _ (World.drew _)
     obtain ⟨vf, k⟩ : ∃ vf : Nat -> Option Value, vf = fun i => ([some (.agg #[.int .i64 0, .nilFunc]), some (.iface 243 (.pointer (some (sent 8)))), none, some (.iface 243 (.pointer (some (sent 8))))] : List (Option Value)).getD i none := ⟨_, rfl⟩
     refine Qam _ (fun d v w' => (∀ i x, vf i = some x -> d i = true -> v i = x) /\ (fun d v w' => (d 2 = false -> w' = W3) /\ (d 2 = true -> w' = W3.setCells w.heap.size 0 [.int .i64 0, .nilFunc])) d v w') (by kernel_rfl) (by kernel_rfl) ?_ _ (fun _ => undef) ?_ ?_
     ·intro i o l ai U b W C J r c
      have hi : i < 4 := (Array.getElem?_eq_some_iff.1 l).1
      match i, hi with
      | 0, _ =>
       obtain rfl := Option.some.inj l
       refine Qa1 (.agg #[.int .i64 0, .nilFunc]) ⟨_, rfl, Qa0 c.1 (ve k rfl), c.2⟩ ?_
       clear l r C c J k
       go_simp
      | 1, _ =>
       obtain rfl := Option.some.inj l
       have hg : W.cell? ⟨6, 0, none⟩ = some (.iface 243 (.pointer (some (sent 8)))) := by
        cases hq : ai.getD 2 false with
        | false => rw [c.2.1 hq]; exact aj.out.1
        | true => rw [c.2.2 hq]; exact aj.out.2
       refine Qa1 (.iface 243 (.pointer (some (sent 8)))) ⟨_, rfl, Qa0 c.1 (ve k rfl), c.2⟩ ?_
       clear l r C c J k
       go_simp
      | 2, _ =>
       obtain rfl := Option.some.inj l
       have t2 : b.tmps[2]? = some (.pointer (some ⟨w.heap.size, 0, none⟩)) := C.rs 2 (by kernel_rfl)
       have az := C.vt 0 29 (.agg #[.int .i64 0, .nilFunc]) (r ⟨0, .data⟩ (by simp) rfl) rfl (by simp) (ve k rfl) c.1
       have hW : W = W3 := c.2.1 J
       rw [hW]
       refine wp_store_mid 123 (.tmp 2) (.tmp 29) rfl w.heap.size 0 #[.int .i64 0, .nilFunc] (by simp only [Act.eval, Array.getD_eq_getD_getElem?, t2, Option.getD_some]) (by simp only [Act.eval, Array.getD_eq_getD_getElem?, az, Option.getD_some]) N ag (by simp [Value.oneCell']) ?_
       exact ⟨undef, rfl, Qa3 c.1 (ve k rfl), fun q => (by cases q), fun _ => rfl⟩
      | 3, _ =>
       obtain rfl := Option.some.inj l
       have bc := C.vt 1 30 (.iface 243 (.pointer (some (sent 8)))) (r ⟨1, .data⟩ (by simp) rfl) rfl (by simp) (ve k rfl) c.1
       refine Qa1 (.iface 243 (.pointer (some (sent 8)))) ⟨_, rfl, Qa0 c.1 (ve k rfl), c.2⟩ ?_
       clear l r C c J k
       go_simp
     ·exact ⟨fun _ _ _ h => (by simp at h), fun _ => Q, fun q => (by simp at q)⟩
     ·intro U W c
      have G : U 0 = .agg #[.int .i64 0, .nilFunc] := c.1 0 _ (ve k rfl) rfl
      have H : U 1 = .iface 243 (.pointer (some (sent 8))) := c.1 1 _ (ve k rfl) rfl
      have e3 : U 3 = .iface 243 (.pointer (some (sent 8))) := c.1 3 _ (ve k rfl) rfl
      have D := c.2
      simp only [runFrom, Act.put, Nat.zero_add, Nat.reduceAdd, List.setIfInBounds_toArray, List.set_cons_zero, List.set_cons_succ, G, H, e3]
      clear c k G H e3
      have HW : Hid (W = W3.setCells w.heap.size 0 [.int .i64 0, .nilFunc]) := D.2 rfl
      clear D
      (try go_wp2)
      go_meet
      exact ⟨rfl, by rw [Q]; exact HW.out⟩
    case rest => as_aux_lemma =>
     obtain ⟨rfl, ay⟩ := hcut
     subst ay
     go_wp2
     refine bodyPost_ret (v := .tuple #[.agg #[.int .i64 0, .nilFunc], .iface 243 (.pointer (some (sent 8)))]) (by simp [results, Tryz.results76, go_sem, G, H]) rfl ?_
     exact HX.out
   ·have i1 : ¬ (m : Int) < 2 := by omega
    have j : Below u.heap.size u (u.drewN X) := Below.drewN (Below.refl _ _) X
    obtain ⟨Y, M⟩ : ∃ x, u.drewN X = x := ⟨_, rfl⟩
    rw [M] at j ⊢
    have HL : Hid (opBr s = .ok (.br f, s1)) := by unfold opBr; rw [V.out.1]; dsimp only; rw [V.out.2.1, g.out.2.2.2.2.2.2.2, if_neg R]; exact rfl
    have k1 := O.out.2.1
    have k2 := g.out.2.2.2.2.1
    have k3 := g.out.2.2.2.2.2.1
    have k4 := j.size
    obtain ⟨N, G, H, D⟩ := Qla (B := B) (S := S) (S' := S) sent (w := w) (W := Y) (nb := nb) (x := .int .i64 (m : Int)) (y := .func (.func 95) #[] #[.pointer (some ⟨nb, 0, none⟩)]) HL.out (Qbq F.out.2.2.1 (g.out.1.behind' j) F.out.2.2.2) ((j.block _ (by omega)).trans g.out.2.2.2.1) ⟨by rw [g.out.2.2.2.2.2.2.2], (j.cell (p := ⟨nb, 0, none⟩) k3).trans g.out.2.2.2.2.2.2.1⟩ (by omega) (by omega) (F.out.2.2.1.fresh (by omega)) (F.out.2.2.1.fresh (Nat.le_refl _)) (g.out.2.2.1.below j) F.out.2.1
    have HX := Hq D
    clear D R M j ae k1 k2 k3 k4
    go_wp2_with (refine wpList_store_mid rfl 123 _ _ rfl w.heap.size 0 #[.int .i64 (m : Int), .func (.func 95) #[] #[.pointer (some ⟨nb, 0, none⟩)]] rfl rfl N ag (by simp [Value.oneCell']) ?_)
    refine bodyPost_ret (v := .tuple #[opFnV (m : Int) 95 nb, .nilIface]) (by simp [results, Tryz.results76, go_sem, G, H]) rfl ?_
    exact HX.out
theorem OpV.shape {v : Value} (h : OpV w S nb v d) : ∃ x y, v = .agg #[x, y] /\ x.oneCell' = true /\ y.oneCell' = true := by
 cases d with
 | gives t => obtain ⟨rfl, -⟩ := h; exact ⟨_, _, rfl, by simp [Value.oneCell'], by simp [Value.oneCell']⟩
 | ext p => obtain ⟨rfl, -⟩ := h; exact ⟨_, _, rfl, by simp [Value.oneCell'], by simp [Value.oneCell']⟩
 | br f => obtain ⟨rfl, -⟩ := h; exact ⟨_, _, rfl, by simp [Value.oneCell'], by simp [Value.oneCell']⟩
theorem Quh (sent : Nat -> Addr) {w1 w2 : World} {e : Ending} (hO : Only rb w w1) (hf : Forest B S w) (hS : S rb = none) (hg : w1.heap[w.heap.size]? = some (.cells #[.int .i64 0, .nilFunc] 123 (0, 0))) (hrb : rb < w.heap.size) (h : OpS B sent rb S w1 q e w2) :
  ∃ x y z, e = .returned (.tuple #[.agg #[x, y], z]) /\ x.oneCell' = true /\ y.oneCell' = true /\ w2.there w.heap.size 0 2 /\ (w2.setCells w.heap.size 0 [x, y]).cell? ⟨w.heap.size, 0, none⟩ = some x /\ (w2.setCells w.heap.size 0 [x, y]).cell? ⟨w.heap.size, 1, none⟩ = some y /\ OpS B sent rb S w q (.returned (.tuple #[.agg #[x, y], z])) (w2.setCells w.heap.size 0 [x, y]) := by
 have m : w.heap.size < w1.heap.size := (Array.getElem?_eq_some_iff.1 hg).1
 have f : S w.heap.size = none := hf.fresh (Nat.le_refl _)
 have i : ¬ w.heap.size = rb := by omega
 have g := Qbq hf hO hS
 cases q with
 | error er =>
  obtain ⟨l, a⟩ := h.bad er rfl
  have c := (a.other _ m f i).trans hg
  obtain ⟨o, D, E⟩ := put2 c (.int .i64 0) .nilFunc
  obtain ⟨j, k, -⟩ := Qa7 D
  exact ⟨_, _, _, l, by simp [Value.oneCell'], by simp [Value.oneCell'], o, j, k, fun F b => (by cases b; exact ⟨rfl, (g.trans a).over E (Nat.le_refl _) f⟩), fun d n b => (by cases b)⟩
 | ok z =>
  obtain ⟨d, n⟩ := z
  obtain ⟨I, v, G, l, p, H, r, s, a, u⟩ := h.good d n rfl
  obtain ⟨x, y, rfl, A, C⟩ := p.shape
  have c := (a.other _ m f i).trans hg
  obtain ⟨o, j, k, t⟩ := Qla sent (q := .ok (d, n)) rfl (g.trans a) c p (by omega) r s (a.new _ m f) u hrb
  exact ⟨x, y, _, l, A, C, o, j, k, t⟩
theorem Qui (sent : Nat -> Addr) (hf : Forest B S w) (hS : S rb = none) (hF : RdE sent rb w) (h : RdAt w rb s) :
  Calls Tryz.prog 53 #[.pointer (some ⟨rb, 0, none⟩)] w fun e w' => OpS B sent rb S w (opRd s) e w' := by
 have hA : ∀ z : Obj, Below w.heap.size w (w.alloc z) := fun z => (Below.refl _ _).alloc (Nat.le_refl _) _
 have HT := Hq (fun z => Ql9 sent (hF.below (hA z)) (h.below (hA z)))
 have c : Hid (RdE sent rb w /\ rb < w.heap.size /\ Forest B S w /\ S rb = none) := ⟨hF, h.cell.2.2, hf, hS⟩
 have HA := Hq hA
 have O := Qhr
 clear hF h hA hf hS
 go_enter Tryz.func53, Tryz.ntmps53
 go_wp2_with fail
 have ac := Qai w (.cells #[.int .i64 0, .nilFunc] 123)
 refine (HT.out _).mono ?_
 rintro e I ⟨D, U, P⟩
 have X := (D.block w.heap.size (by simp) (by have := c.out.2.1; omega)).trans ac
 have g : Hid (Only rb w I /\ w.heap.size < I.heap.size /\ I.heap[w.heap.size]? = some (.cells #[.int .i64 0, .nilFunc] 123 (0, 0)) /\ RdE sent rb I /\ Forest B S I) := ⟨Only.ahead (HA.out _) D, by have := D.size; simp at this; omega, X, (c.out.1.below (HA.out _)).only D, Qbj c.out.2.2.1 (Only.ahead (HA.out _) D) c.out.2.2.2⟩
 cases hq : rdNm s with
 | error er =>
  obtain rfl := Qcb hq
  obtain rfl := U _ hq
  obtain ⟨H, q1, q2⟩ := put2 X (.int .i64 0) .nilFunc
  obtain ⟨u, C, -⟩ := Qa7 q1
  have K : Hid (OpS B sent rb S w (opRd s) (.returned (.tuple #[.agg #[.int .i64 0, .nilFunc], .iface 243 (.pointer (some (sent 2)))])) (I.setCells w.heap.size 0 [.int .i64 0, .nilFunc])) := by
   have N : opRd s = .error (.base 2) := by unfold opRd; rw [hq]
   exact ⟨fun ah f => (by rw [N] at f; cases f; exact ⟨rfl, Qbq c.out.2.2.1 (g.out.1.over q2 (Nat.le_refl _)) c.out.2.2.2⟩), fun d s' f => (by rw [N] at f; cases f)⟩
  clear D U P hq ac X q1 q2
  simp only [Er.val]
  go_wp2_with (refine wpList_store_mid rfl 123 _ _ rfl w.heap.size 0 #[.int .i64 0, .nilFunc] rfl rfl H O (by simp [Value.oneCell']) ?_)
  refine bodyPost_ret (v := .tuple #[.agg #[.int .i64 0, .nilFunc], .iface 243 (.pointer (some (sent 2)))]) (by simp [results, Tryz.results53, go_sem, u, C]) rfl ?_
  exact K.out
 | ok z =>
  obtain ⟨k, R⟩ := z
  obtain ⟨rfl, hr⟩ := P k R hq
  have M : Hid (rdNm s = .ok (k, R) /\ RdAt I rb R) := ⟨hq, hr⟩
  clear D U P hq hr ac X
  match k with
  | 0 =>
   have J := Hq (Qhs (S := S) .no .nilIface I (.inl ⟨rfl, rfl⟩))
   go_wp2_with fail
   refine J.out.mono ?_
   rintro e w2 ⟨nb, v, rfl, hv, Z, h2, aa⟩
   have l : OpS B sent rb S I (opRd s) (.returned (.tuple #[v, .nilIface])) w2 := by
     have N : opRd s = .ok (.gives .no, R) := by unfold opRd; rw [M.out.1]; rfl
     refine ⟨fun er f => (by rw [N] at f; cases f), fun d s' f => ?_⟩
     rw [N] at f
     cases f
     exact ⟨nb, v, S, rfl, hv, Z, h2, g.out.2.2.2.2.fresh Z, (Fr.of_below g.out.2.2.2.2 aa).x _, M.out.2.below aa⟩
   obtain ⟨x, y, z, N, F, G, H, u, C, t⟩ := Quh sent g.out.1 c.out.2.2.1 c.out.2.2.2 g.out.2.2.1 c.out.2.1 l
   cases N
   have K := Hq t
   have r : #[x, y].all (·.oneCell') = true := by simp [F, G]
   clear l t hv Z h2 aa F G
   go_wp2_with (refine wpList_store_mid rfl 123 _ _ rfl w.heap.size 0 #[x, y] rfl rfl H O r ?_)
   refine bodyPost_ret (v := .tuple #[.agg #[x, y], .nilIface]) (by simp [results, Tryz.results53, go_sem, u, C]) rfl ?_
   exact K.out
  | 1 =>
   have J := Hq (Que sent g.out.2.2.2.2 c.out.2.2.2 g.out.2.2.2.1 M.out.2)
   have T : Hid (opRd s = opLeaf R) := by unfold opRd; rw [M.out.1]; exact rfl
   rw [<- T.out] at J
   go_wp2_with fail
   refine J.out.mono ?_
   intro e w2 l
   obtain ⟨x, y, z, rfl, F, G, H, u, C, t⟩ := Quh sent g.out.1 c.out.2.2.1 c.out.2.2.2 g.out.2.2.1 c.out.2.1 l
   have K := Hq t
   have r : #[x, y].all (·.oneCell') = true := by simp [F, G]
   clear l t F G
   go_wp2_with (refine wpList_store_mid rfl 123 _ _ rfl w.heap.size 0 #[x, y] rfl rfl H O r ?_)
   refine bodyPost_ret (v := .tuple #[.agg #[x, y], z]) (by simp [results, Tryz.results53, go_sem, u, C]) rfl ?_
   exact K.out
  | 2 =>
   have J := Hq (Qxs sent g.out.2.2.2.2 c.out.2.2.2 g.out.2.2.2.1 M.out.2)
   have T : Hid (opRd s = opExt R) := by unfold opRd; rw [M.out.1]; exact rfl
   rw [<- T.out] at J
   go_wp2_with fail
   refine J.out.mono ?_
   intro e w2 l
   obtain ⟨x, y, z, rfl, F, G, H, u, C, t⟩ := Quh sent g.out.1 c.out.2.2.1 c.out.2.2.2 g.out.2.2.1 c.out.2.1 l
   have K := Hq t
   have r : #[x, y].all (·.oneCell') = true := by simp [F, G]
   clear l t F G
   go_wp2_with (refine wpList_store_mid rfl 123 _ _ rfl w.heap.size 0 #[x, y] rfl rfl H O r ?_)
   refine bodyPost_ret (v := .tuple #[.agg #[x, y], z]) (by simp [results, Tryz.results53, go_sem, u, C]) rfl ?_
   exact K.out
  | 3 =>
   have J := Hq (QAe sent g.out.2.2.2.2 c.out.2.2.2 g.out.2.2.2.1 M.out.2)
   have T : Hid (opRd s = opBr R) := by unfold opRd; rw [M.out.1]; exact rfl
   rw [<- T.out] at J
   go_wp2_with fail
   refine J.out.mono ?_
   intro e w2 l
   obtain ⟨x, y, z, rfl, F, G, H, u, C, t⟩ := Quh sent g.out.1 c.out.2.2.1 c.out.2.2.2 g.out.2.2.1 c.out.2.1 l
   have K := Hq t
   have r : #[x, y].all (·.oneCell') = true := by simp [F, G]
   clear l t F G
   go_wp2_with (refine wpList_store_mid rfl 123 _ _ rfl w.heap.size 0 #[x, y] rfl rfl H O r ?_)
   refine bodyPost_ret (v := .tuple #[.agg #[x, y], z]) (by simp [results, Tryz.results53, go_sem, u, C]) rfl ?_
   exact K.out
  | 4 =>
   have J := Hq (Quc sent g.out.2.2.2.2 c.out.2.2.2 g.out.2.2.2.1 M.out.2)
   have T : Hid (opRd s = opStub R) := by unfold opRd; rw [M.out.1]; exact rfl
   rw [<- T.out] at J
   go_wp2_with fail
   refine J.out.mono ?_
   intro e w2 l
   obtain ⟨x, y, z, rfl, F, G, H, u, C, t⟩ := Quh sent g.out.1 c.out.2.2.1 c.out.2.2.2 g.out.2.2.1 c.out.2.1 l
   have K := Hq t
   have r : #[x, y].all (·.oneCell') = true := by simp [F, G]
   clear l t F G
   go_wp2_with (refine wpList_store_mid rfl 123 _ _ rfl w.heap.size 0 #[x, y] rfl rfl H O r ?_)
   refine bodyPost_ret (v := .tuple #[.agg #[x, y], z]) (by simp [results, Tryz.results53, go_sem, u, C]) rfl ?_
   exact K.out
  | k + 5 =>
   have i0 : ¬ ((k + 5 : Nat) : Int) = 0 := by omega
   have i1 : ¬ ((k + 5 : Nat) : Int) = 1 := by omega
   have i2 : ¬ ((k + 5 : Nat) : Int) = 2 := by omega
   have i3 : ¬ ((k + 5 : Nat) : Int) = 3 := by omega
   have i4 : ¬ ((k + 5 : Nat) : Int) = 4 := by omega
   have N : opRd s = .error (.base 9) := by unfold opRd; rw [M.out.1]; rfl
   obtain ⟨j, hj⟩ : ∃ j, k + 5 = j := ⟨_, rfl⟩
   rw [hj] at i0 i1 i2 i3 i4 ⊢
   have ai : I.cell? ⟨7, 0, none⟩ = some (.iface 243 (.pointer (some (sent 9)))) := g.out.2.2.2.1.faults.var 9 (by decide)
   obtain ⟨H, q1, q2⟩ := put2 (W := I.drew) g.out.2.2.1 (.int .i64 0) .nilFunc
   obtain ⟨u, C, -⟩ := Qa7 q1
   have K : Hid (OpS B sent rb S w (opRd s) (.returned (.tuple #[.agg #[.int .i64 0, .nilFunc], .iface 243 (.pointer (some (sent 9)))])) (I.drew.setCells w.heap.size 0 [.int .i64 0, .nilFunc])) :=
     ⟨fun ah f => (by rw [N] at f; cases f; exact ⟨rfl, Qbq c.out.2.2.1 ((g.out.1.behind' (Below.refl _ _).drew).over q2 (Nat.le_refl _)) c.out.2.2.2⟩), fun d s' f => (by rw [N] at f; cases f)⟩
   clear q1 q2 N hj
   go_upto_region 15 with fail
   go_cut [3] (fun a wd => a = .iface 243 (.pointer (some (sent 9))) /\ wd = I.drew.setCells w.heap.size 0 [.int .i64 0, .nilFunc])
   case first => as_aux_lemma =>
    obtain ⟨W3, V⟩ : ∃ x, I.drew = x := ⟨_, rfl⟩
    have ag : Hid (W3.cell? ⟨7, 0, none⟩ = some (.iface 243 (.pointer (some (sent 9)))) /\ (W3.setCells w.heap.size 0 [.int .i64 0, .nilFunc]).cell? ⟨7, 0, none⟩ = some (.iface 243 (.pointer (some (sent 9))))) := by
      have Z : W3.cell? ⟨7, 0, none⟩ = some (.iface 243 (.pointer (some (sent 9)))) := by rw [<- V]; exact ai
      refine ⟨Z, ?_⟩
      rw [World.cell?_of_block (a := ⟨7, 0, none⟩) (Qa8 _ _ _ _ _ (by have := c.out.1.faults.low (n := 9) (by decide); have : 7 = gOf 9 := rfl; show 7 ≠ w.heap.size; omega))]
      exact Z
    rw [V] at H
    refine wp_region_any (by kernel_rfl) ?_
    change wpAny _ _ _ _ _ _ _ (World.drew _)
    obtain ⟨vf, p⟩ : ∃ vf : Nat -> Option Value, vf = fun i => ([some (.agg #[.int .i64 0, .nilFunc]), some (.iface 243 (.pointer (some (sent 9)))), none, some (.iface 243 (.pointer (some (sent 9))))] : List (Option Value)).getD i none := ⟨_, rfl⟩
    refine Qam _ (fun d v w' => (∀ i x, vf i = some x -> d i = true -> v i = x) /\ (fun d v w' => (d 2 = false -> w' = W3) /\ (d 2 = true -> w' = W3.setCells w.heap.size 0 [.int .i64 0, .nilFunc])) d v w') (by kernel_rfl) (by kernel_rfl) ?_ _ (fun _ => undef) ?_ ?_
    · intro i o D ae Y b W L Q E m
      have hi : i < 4 := (Array.getElem?_eq_some_iff.1 D).1
      match i, hi with
      | 0, _ =>
       obtain rfl := Option.some.inj D
       refine Qa1 (.agg #[.int .i64 0, .nilFunc]) ⟨_, rfl, Qa0 m.1 (ve p rfl), m.2⟩ ?_
       clear D E L m Q p
       go_simp
      | 1, _ =>
       obtain rfl := Option.some.inj D
       have hg : W.cell? ⟨7, 0, none⟩ = some (.iface 243 (.pointer (some (sent 9)))) := by
        cases hq : ae.getD 2 false with
        | false => rw [m.2.1 hq]; exact ag.out.1
        | true => rw [m.2.2 hq]; exact ag.out.2
       refine Qa1 (.iface 243 (.pointer (some (sent 9)))) ⟨_, rfl, Qa0 m.1 (ve p rfl), m.2⟩ ?_
       clear D E L m Q p
       go_simp
      | 2, _ =>
       obtain rfl := Option.some.inj D
       have t2 : b.tmps[2]? = some (.pointer (some ⟨w.heap.size, 0, none⟩)) := L.rs 2 (by kernel_rfl)
       have ak := L.vt 0 43 (.agg #[.int .i64 0, .nilFunc]) (E ⟨0, .data⟩ (by simp) rfl) rfl (by simp) (ve p rfl) m.1
       have hW : W = W3 := m.2.1 Q
       rw [hW]
       refine wp_store_mid 123 (.tmp 2) (.tmp 43) rfl w.heap.size 0 #[.int .i64 0, .nilFunc] (by simp only [Act.eval, Array.getD_eq_getD_getElem?, t2, Option.getD_some]) (by simp only [Act.eval, Array.getD_eq_getD_getElem?, ak, Option.getD_some]) H O (by simp [Value.oneCell']) ?_
       exact ⟨undef, rfl, Qa3 m.1 (ve p rfl), fun q => (by cases q), fun _ => rfl⟩
      | 3, _ =>
       obtain rfl := Option.some.inj D
       have al := L.vt 1 44 (.iface 243 (.pointer (some (sent 9)))) (E ⟨1, .data⟩ (by simp) rfl) rfl (by simp) (ve p rfl) m.1
       refine Qa1 (.iface 243 (.pointer (some (sent 9)))) ⟨_, rfl, Qa0 m.1 (ve p rfl), m.2⟩ ?_
       clear D E L m Q p
       go_simp
    · exact ⟨fun _ _ _ h => (by simp at h), fun _ => V, fun q => (by simp at q)⟩
    · intro Y W m
      have u : Y 0 = .agg #[.int .i64 0, .nilFunc] := m.1 0 _ (ve p rfl) rfl
      have C : Y 1 = .iface 243 (.pointer (some (sent 9))) := m.1 1 _ (ve p rfl) rfl
      have e3 : Y 3 = .iface 243 (.pointer (some (sent 9))) := m.1 3 _ (ve p rfl) rfl
      have t := m.2
      simp only [runFrom, Act.put, Nat.zero_add, Nat.reduceAdd, List.setIfInBounds_toArray, List.set_cons_zero, List.set_cons_succ, u, C, e3]
      clear m p u C e3
      have HW : Hid (W = W3.setCells w.heap.size 0 [.int .i64 0, .nilFunc]) := t.2 rfl
      clear t
      (try go_wp2)
      go_meet
      exact ⟨rfl, by rw [V]; exact HW.out⟩
   case rest => as_aux_lemma =>
    obtain ⟨rfl, aj⟩ := hcut
    subst aj
    go_wp2
    refine bodyPost_ret (v := .tuple #[.agg #[.int .i64 0, .nilFunc], .iface 243 (.pointer (some (sent 9)))]) (by simp [results, Tryz.results53, go_sem, u, C]) rfl ?_
    exact K.out
end Go.Proofs.YtakidhihbgfjlaaGreatDoor
