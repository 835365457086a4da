/-
  Extract: the first two nodes that are different, of what Prove gives and of another proof.
-/
import Derived.Test.YtakidhihbgfjlaaGreatDoorSxSaG
import Derived.Test.YtakidhihbgfjlaaGreatDoorSxVaG
namespace Go.Proofs.YtakidhihbgfjlaaGreatDoor
open Go.RowKit
set_option maxRecDepth 100000
set_option maxHeartbeats 25600000
def exV : Option (List Nat × List Nat) -> Value
 | none => .tuple #[.string ⟨#[]⟩, .string ⟨#[]⟩, .bool false]
 | some (x, y) => .tuple #[.string (textB x), .string (textB y), .bool (decide (digB x = digB y))]
variable {w : World}
theorem Qim (p : Option Addr) (l : List ByteArray) (c : Nat) (hr : StrRow w p l c) :
  Calls Tryz.prog 63 #[.slice p l.length c] w fun e w' => ∃ (g o : Nat) (l' : List ByteArray) (c' : Nat), e = .returned (.slice (some ⟨g, o, none⟩) l'.length c') /\ l'.map bytesOf = orE (l.map bytesOf) /\ l'.length <= l.length + 1 /\ l'.length <= c' /\ w'.rangeAt g o (l'.map Value.string) /\ g < w'.heap.size /\ (w.heap.size <= g \/ (p = some ⟨g, o, none⟩ /\ g < w.heap.size)) /\ Below w.heap.size w w' := by
 by_cases a : l = []
 ·subst a
  obtain ⟨E, f⟩ : ∃ E, textB (textCode []) = E := ⟨_, rfl⟩
  have s := Hq f
  have q := Hq (Qhl w)
  rw [f] at q
  clear f hr
  show Calls Tryz.prog 63 #[.slice p 0 c] w _
  go_enter Tryz.func63, Tryz.ntmps63
  go_wp2_with fail
  refine q.out.mono ?_
  rintro e v ⟨rfl, d⟩
  have n := Hq d
  clear d
  go_wp2
  go_ret
  refine ⟨v.heap.size, 0, [E], 1, rfl, ?_, by simp, by simp, ?_, by simp, .inl n.out.size, Below.behind n.out ((Below.refl _ _).alloc (Nat.le_refl _) _)⟩
  ·rw [<- s.out]
   show [bytesOf (textB (textCode []))] = orE []
   rw [Qa5 (by decide), orE, if_pos rfl]
  ·intro j u t
   rw [Nat.zero_add, World.cell?_alloc_new]
   simpa using t
 ·have i : ((l.length : Int) == 0) = false := by
   have : 0 < l.length := List.length_pos_iff.2 a
   simp; omega
  rcases hr with ⟨_, h, _⟩ | ⟨g, o, rfl, e2, e3, e4⟩
  ·exact absurd h a
  have b : Hid (l ≠ [] /\ l.length <= c /\ g < w.heap.size /\ w.rangeAt g o (l.map Value.string)) := ⟨a, e2, e3 (List.length_pos_iff.2 a), e4⟩
  clear a e2 e3 e4
  obtain ⟨m, k⟩ : ∃ m, l.length = m := ⟨_, rfl⟩
  have r := Hq k
  rw [k] at i ⊢
  clear k
  go_enter Tryz.func63, Tryz.ntmps63
  go_wp2
  go_ret
  exact ⟨g, o, l, c, by rw [r.out]; rfl, by rw [orE, if_neg (by simpa using b.out.1)], by rw [r.out]; omega, b.out.2.1, b.out.2.2.2, b.out.2.2.1, .inr ⟨rfl, b.out.2.2.1⟩, Below.refl _ _⟩
variable {B b : Nat} {S : Wood} {t : Nd} {K : Array Nat}
theorem Qs1 (hf : Forest B S w) (hTb : Tabs w) (hM : 15 <= B) (ht : TreeAt S w b t) (hc : t.can 64) (hK : K.size = 32) (hKb : Bytes K) :
  Calls Tryz.prog 41 #[.pointer (some ⟨b, 0, none⟩), .agg (K.toList.map encB).toArray] w fun x w' => ∃ res, x = .returned (.tuple #[res, .nilIface]) /\ Fr B S S w w' /\ OwnC w' w.heap.size 1 res (t.prove (textB (nibs K.toList))).length (strs (t.prove (textB (nibs K.toList)))) := by
 obtain ⟨p, k⟩ : ∃ p, textB (nibs K.toList) = p := ⟨_, rfl⟩
 obtain ⟨f, m, h⟩ := Qeg hK hKb
 rw [k] at f h ⊢
 have j : nib (bytesOf p) := by rw [f]; exact m
 have a : t.can p.size := by rw [h]; exact hc
 obtain ⟨l, e, q, d, o⟩ := Qv0 p.size t p (Nat.le_refl _) a
 obtain ⟨_, n, _, _⟩ := QAq d a
 obtain ⟨_, c⟩ := t.can_ok p.size a (by omega)
 have i : provL (l.map (·.1) ++ e.shownL) = t.prove p := by rw [d.ways 64 c (by omega)]; rfl
 have := Qk9 hf hTb hM ht hK hKb k c j (by omega) d (fun g => Qbt n g) (by omega) d.inner
 rw [i] at this
 exact this
variable {x : List Nat}
theorem QCx {xs ys : List (List Nat)} : exF (x :: xs) (x :: ys) = exF xs ys := by rw [exF, if_pos rfl]
theorem QCy {y : List Nat} (h : x ≠ y) (xs ys : List (List Nat)) : exF (x :: xs) (y :: ys) = some (x, y) := by rw [exF, if_neg h]
variable {L M : List (List Nat)}
theorem Qyj {k : Nat} (h1 : k < L.length) (h2 : k < M.length) : exF (L.drop k) (M.drop k) = if L[k] = M[k] then exF (L.drop (k + 1)) (M.drop (k + 1)) else some (L[k], M[k]) := by
 rw [List.drop_eq_getElem_cons h1, List.drop_eq_getElem_cons h2, exF]
theorem QAx {k : Nat} (h : L.length <= k \/ M.length <= k) : exF (L.drop k) (M.drop k) = none := by
 rcases h with h | h
 ·rw [List.drop_eq_nil_of_le h]
  cases M.drop k <;> rfl
 ·rw [List.drop_eq_nil_of_le h]
  cases L.drop k <;> rfl
variable {l : List ByteArray}
theorem StrRow.frame {S' : Wood} {w' : World} {p : Option Addr} {c : Nat} (h : StrRow w p l c) (hf : Fr B S S' w w') (hn : ∀ a, p = some a -> S a.block = none) : StrRow w' p l c := by
 rcases h with h | ⟨g, o, rfl, e2, e3, e4⟩
 ·exact .inl h
 ·refine .inr ⟨g, o, rfl, e2, fun h => Nat.lt_of_lt_of_le (e3 h) hf.size, fun j u b => ?_⟩
  have d : 0 < l.length := by
   have := (List.getElem?_eq_some_iff.1 b).1
   simp at this
   omega
  rw [World.cell?_of_block (a := ⟨g, o + j, none⟩) (hf.other g (e3 d) (hn _ rfl))]
  exact e4 j u b
theorem Qnt (hf : Forest B S w) (hTb : Tabs w) (hM : 15 <= B) (ht : TreeAt S w b t) (hc : t.can 64) (hK : K.size = 32) (hKb : Bytes K) (p : Option Addr) (l : List ByteArray) (c : Nat) (hr : StrRow w p l c) (hn : ∀ a, p = some a -> S a.block = none) (hl : l.length <= 9223372036854775807) (hz : ∀ x ∈ l, x.size <= 1048576) (hL : t.prove (textB (nibs K.toList)) = L) :
  Calls Tryz.prog 42 #[.pointer (some ⟨b, 0, none⟩), .agg (K.toList.map encB).toArray, .slice p l.length c] w fun x w' => x = .returned (exV (exF (orE L) (orE (l.map bytesOf)))) /\ Fr B S S w w' := by
 obtain ⟨Kc, al⟩ : ∃ Kc, (K.toList.map encB).toArray = Kc := ⟨_, rfl⟩
 obtain ⟨W0, ax⟩ : ∃ W0, w.alloc (.cells Kc 42) = W0 := ⟨_, rfl⟩
 have eb : W0.rangeAt w.heap.size 0 (K.toList.map encB) := fun j u hu => by
  rw [<- ax, Nat.zero_add, World.cell?_alloc_new, <- al]
  simpa using hu
 have dp : Below w.heap.size w W0 := by rw [<- ax]; exact (Below.refl _ _).alloc (Nat.le_refl _) _
 have ag := Fr.of_below hf dp
 obtain ⟨-, -, dr⟩ := Qeg hK hKb
 have dh : ∀ c ∈ L, ∀ y ∈ c, y < 256 := by rw [<- hL]; exact Qrz (by rw [dr]; exact hc) (by omega)
 have di : L.length <= 1000 := by rw [<- hL]; exact Nat.le_trans (Qvj _ _) (by omega)
 have HP := Hq (Qs1 ag.forest (ag.tabs hf hTb hM) hM (ht.frame ag) hc hK hKb)
 rw [hL] at HP
 have P : Hid (Fr B S S w W0 /\ Forest B S w /\ Tabs w /\ 15 <= B /\ StrRow w p l c /\ (∀ a, p = some a -> S a.block = none) /\ l.length <= 9223372036854775807 /\ (∀ x ∈ l, x.size <= 1048576) /\ (∀ c ∈ L, ∀ y ∈ c, y < 256) /\ L.length <= 1000) := ⟨ag, hf, hTb, hM, hr, hn, hl, hz, dh, di⟩
 have ew : (Tryz.prog.info? 42).map (·.size) = some (K.toList.map encB).length := by rw [Qb4]; simp [hK]
 have ef := Tryz.underlying42
 clear hf hTb hM ht hc hK hKb hL dr dp ag hr hn hl hz dh di
 obtain ⟨m, hm⟩ : ∃ m, l.length = m := ⟨_, rfl⟩
 have HM := Hq hm
 rw [hm]
 clear hm
 rw [al] at HP ⊢
 go_enter Tryz.func42, Tryz.ntmps42
 go_upto_region 1 with fail
 clear ax
 rw [<- al] at HP
 clear al
 go_wp2_with (refine wpList_load_mid rfl 42 _ rfl w.heap.size 0 rfl (K.toList.map encB) _ eb ef rfl ew ?_)
 refine HP.out.mono ?_
 rintro e w1 ⟨fc, rfl, ao, dj⟩
 obtain ⟨pr, cr, rfl, dt, -⟩ := Qns dj
 have H1 : Hid (Fr B S S w w1 /\ Forest B S w1 /\ StrRow w1 p l c) := ⟨P.out.1.trans ao, ao.forest, P.out.2.2.2.2.1.frame (P.out.1.trans ao) P.out.2.2.2.2.2.1⟩
 have ak := Hq (Qim pr (L.map textB) cr dt)
 rw [List.length_map] at ak
 obtain ⟨mL, bg⟩ : ∃ m, L.length = m := ⟨_, rfl⟩
 have em := Hq bg
 rw [bg] at ak ⊢
 clear ao dj dt bg HP
 go_wp2_with fail
 refine ak.out.mono ?_
 rintro e w2 ⟨D, F, R, c1, rfl, de, cp, cu, df, cz, -, ay⟩
 have ar := Hq (Qim p l c (H1.out.2.2.below ay))
 rw [HM.out] at ar
 have H2 : Hid (Below w1.heap.size w1 w2 /\ R.map bytesOf = orE L /\ R.length <= L.length + 1 /\ R.length <= c1 /\ w2.rangeAt D F (R.map Value.string) /\ D < w2.heap.size) := ⟨ay, by rw [de, Qs0 P.out.2.2.2.2.2.2.2.2.1], by rw [em.out]; exact cp, cu, df, cz⟩
 clear ak de cp cu df cz ay
 obtain ⟨m1, bc⟩ : ∃ m, R.length = m := ⟨_, rfl⟩
 have ai := Hq bc
 rw [bc]
 clear bc
 go_wp2_with fail
 refine ar.out.mono ?_
 rintro e I ⟨E, H, Q, c2, rfl, au, cq, cw, dg, dc, eo, Z⟩
 have ec : ∀ x ∈ Q, x.size <= 1048576 := fun x hx => by
  have hm : bytesOf x ∈ Q.map bytesOf := List.mem_map_of_mem hx
  rw [au, orE] at hm
  split at hm
  ·have : bytesOf x = textCode [] := by simpa using hm
   have hl := congrArg List.length this
   rw [bytesOf_length] at hl
   have : (textCode []).length = 1 := by decide
   omega
  ·obtain ⟨y, hy, he⟩ := List.mem_map.1 hm
   rw [<- Qav he]
   exact P.out.2.2.2.2.2.2.2.1 y hy
 have U : Hid (Below w2.heap.size w2 I /\ Q.map bytesOf = orE (l.map bytesOf) /\ Q.length <= l.length + 1 /\ Q.length <= c2 /\ I.rangeAt E H (Q.map Value.string) /\ E < I.heap.size /\ I.rangeAt D F (R.map Value.string) /\ D < I.heap.size /\ Fr B S S w I) := ⟨Z, au, by rw [HM.out]; exact cq, cw, dg, dc, Qa4 H2.out.2.2.2.2.1 (Z.block _ H2.out.2.2.2.2.2), Nat.lt_of_lt_of_le H2.out.2.2.2.2.2 Z.size, H1.out.1.behind (Below.behind H2.out.1 Z)⟩
 clear ar au cq cw dg dc eo Z
 obtain ⟨m2, bf⟩ : ∃ m, Q.length = m := ⟨_, rfl⟩
 have aq := Hq bf
 rw [bf]
 clear bf
 go_upto_region 5 with fail
 go_cut [28, 29] (fun a i wc => a = .int .i64 ((min m1 m2 : Nat) : Int) /\ i = .int .i64 0 /\ wc = I)
 case first =>
  rcases Nat.le_total m1 m2 with h | h
  ·have bh : (min m1 m2 : Nat) = m1 := Nat.min_eq_left h
   have h' : (m1 : Int) <= (m2 : Int) := by omega
   go_wp2
   all_goals first | (exfalso; omega) | (go_meet; exact ⟨by rw [bh] <;> (congr 1; omega), rfl, rfl⟩)
  ·have bh : (min m1 m2 : Nat) = m2 := Nat.min_eq_right h
   have h' : (m2 : Int) <= (m1 : Int) := by omega
   go_wp2
   all_goals first | (exfalso; omega) | (go_meet; exact ⟨by rw [bh] <;> (congr 1; omega), rfl, rfl⟩)
 case rest =>
  obtain ⟨ha, hi, hw⟩ := hcut
  subst ha hi
  obtain rfl := hw.symm
  obtain ⟨mm, dq⟩ : ∃ mm, min m1 m2 = mm := ⟨_, rfl⟩
  rw [dq]
  have aj : Hid (mm <= m1 /\ mm <= m2 /\ (mm = m1 \/ mm = m2) /\ mm <= 1001) := ⟨by omega, by omega, by omega, by have := H2.out.2.2.1; have := P.out.2.2.2.2.2.2.2.2.2; have := ai.out; omega⟩
  clear dq
  go_wp2_with fail
  go_loopg [29] mm (fun gh i wr => ∃ k, k <= mm /\ gh = mm - k /\ i = .int .i64 (k : Int) /\ Below I.heap.size I wr /\ exF (orE L) (orE (l.map bytesOf)) = exF ((R.map bytesOf).drop k) ((Q.map bytesOf).drop k))
  case atStart => exact ⟨0, Nat.zero_le _, rfl, rfl, Below.refl _ _, by rw [H2.out.2.1, U.out.2.1]; rfl⟩
  case round =>
   obtain ⟨k, hk, rfl, rfl, hB, am⟩ := hrel
   by_cases es : k < mm
   ·have eq : (k : Int) < (mm : Int) := by omega
    have ap : k < R.length := by rw [ai.out]; have := aj.out.1; omega
    have ah : k < Q.length := by rw [aq.out]; have := aj.out.2.1; omega
    have k1 : k < m1 := by rw [<- ai.out]; exact ap
    have k2 : k < m2 := by rw [<- aq.out]; exact ah
    have f9 : (k : Int) < (m1 : Int) := by omega
    have fa : (k : Int) < (m2 : Int) := by omega
    obtain ⟨x, hx⟩ : ∃ x, R[k] = x := ⟨_, rfl⟩
    obtain ⟨y, hy⟩ : ∃ y, Q[k] = y := ⟨_, rfl⟩
    have az : ∀ W, Below I.heap.size I W -> W.cell? ⟨D, F + k, none⟩ = some (.string x) := fun W Y => by
     rw [Y.cell (p := ⟨D, F + k, none⟩) U.out.2.2.2.2.2.2.2.1]
     exact U.out.2.2.2.2.2.2.1 k _ (by rw [List.getElem?_map, List.getElem?_eq_getElem ap, hx]; rfl)
    have b7 : ∀ W, Below I.heap.size I W -> W.cell? ⟨E, H + k, none⟩ = some (.string y) := fun W Y => by
     rw [Y.cell (p := ⟨E, H + k, none⟩) U.out.2.2.2.2.2.1]
     exact U.out.2.2.2.2.1 k _ (by rw [List.getElem?_map, List.getElem?_eq_getElem ah, hy]; rfl)
    have cx := az wr hB
    have cy := b7 wr hB
    have ba : exF (orE L) (orE (l.map bytesOf)) = if bytesOf x = bytesOf y then exF ((R.map bytesOf).drop (k + 1)) ((Q.map bytesOf).drop (k + 1)) else some (bytesOf x, bytesOf y) := by
     rw [am, Qyj (by simpa using ap) (by simpa using ah)]
     simp only [List.getElem_map, hx, hy]
    have dw : y.size <= 1048576 := by rw [<- hy]; exact ec _ (List.getElem_mem ah)
    have O : Hid ((∀ W, Below I.heap.size I W -> W.cell? ⟨D, F + k, none⟩ = some (.string x) /\ W.cell? ⟨E, H + k, none⟩ = some (.string y)) /\ y.size <= 1048576 /\ k <= mm /\ Below I.heap.size I wr) := ⟨fun W Y => ⟨az W Y, b7 W Y⟩, dw, hk, hB⟩
    have bm := Hq ba
    clear am ba az b7 hx hy hB hk dw ap ah
    by_cases bi : x = y
    ·subst bi
     have du : wrap64 ((k : Int) + 1) = ((k + 1 : Nat) : Int) := by unfold wrap64; have := aj.out.2.2.2; omega
     have HE : Hid (exF (orE L) (orE (l.map bytesOf)) = exF ((R.map bytesOf).drop (k + 1)) ((Q.map bytesOf).drop (k + 1)) /\ wrap64 ((k : Int) + 1) = ((k + 1 : Nat) : Int)) := ⟨by rw [bm.out, if_pos rfl], du⟩
     clear du
     go_upto_region 8 with fail
     go_region
     go_wp2
     go_roundg (mm - (k + 1))
     case measure => omega
     case rel => exact ⟨k + 1, by omega, rfl, by rw [HE.out.2], O.out.2.2.2.drew, HE.out.1⟩
    ·have ej : Hid (exF (orE L) (orE (l.map bytesOf)) = some (bytesOf x, bytesOf y)) := by
      show exF (orE L) (orE (l.map bytesOf)) = some (bytesOf x, bytesOf y)
      rw [bm.out, if_neg fun e => bi (Qav e)]
     have eu := Qce bi
     go_upto_region 8 with fail
     go_region
     go_wp2_with fail
     clear eu
     obtain ⟨J, ac⟩ : ∃ d, digB (bytesOf x) = d := ⟨_, rfl⟩
     obtain ⟨N, ae⟩ : ∃ d, digB (bytesOf y) = d := ⟨_, rfl⟩
     have aw : ∀ (s : ByteArray) (d : List Nat), digB (bytesOf s) = d -> ∀ W, Below wr.heap.size wr W -> Calls Tryz.prog 37 #[.string s] W fun e w' => e = .returned (.agg (d.map encB).toArray) /\ Below W.heap.size W w' := fun s d hd W Y => by
      have hF := U.out.2.2.2.2.2.2.2.2.behind (Below.behind O.out.2.2.2 Y)
      have := Qkf s W (hF.tabs P.out.2.1 P.out.2.2.1 P.out.2.2.2.1) (Nat.le_trans P.out.2.2.2.1 (Nat.le_trans P.out.2.1.le hF.size))
      rw [show (digF s).toList = d by rw [<- hd, digB, Qb0]] at this
      exact this
     have eh := Hq (aw x J ac)
     have ei := Hq (aw y N ae)
     have dz := Hq (Qm1 J N (by rw [<- ac]; exact Qak _) (by rw [<- ae]; exact Qak _) (by rw [<- ac]; exact Qdt _) (by rw [<- ae]; exact Qdt _))
     have bl : Hid (digB (bytesOf x) = J /\ digB (bytesOf y) = N) := ⟨ac, ae⟩
     clear aw ac ae
     refine wp_region_any (by kernel_rfl) ?_
     change wpAny _ _ _ _ _ _ _ (World.drew _)
     obtain ⟨vf, f⟩ : ∃ vf : Nat -> Option Value, vf = fun i => ([some (.slice (some ⟨D, F, none⟩) m1 c1), some (.int .i64 (k : Int)), some (.pointer (some ⟨D, F + k, none⟩)), some (.string x), some (.slice (some ⟨E, H, none⟩) m2 c2), some (.int .i64 (k : Int)), some (.pointer (some ⟨E, H + k, none⟩)), some (.string y), some (.string y), some (.slice (some ⟨D, F, none⟩) m1 c1), some (.int .i64 (k : Int)), some (.pointer (some ⟨D, F + k, none⟩)), some (.string x), some (.agg (J.map encB).toArray), some (.slice (some ⟨E, H, none⟩) m2 c2), some (.int .i64 (k : Int)), some (.pointer (some ⟨E, H + k, none⟩)), some (.string y), some (.agg (N.map encB).toArray), some (.bool (decide (J = N))), some (.string x), some (.string y), some (.bool (decide (J = N)))] : List (Option Value)).getD i none := ⟨_, rfl⟩
     refine Qam _ (fun d v w' => (∀ i x, vf i = some x -> d i = true -> v i = x) /\ (fun d v w' => Below wr.heap.size wr w') d v w') (by kernel_rfl) (by kernel_rfl) ?_ _ (fun _ => undef) ?_ ?_
     ·intro i o z ez C b W q r n g
      have hi : i < 23 := (Array.getElem?_eq_some_iff.1 z).1
      match i, hi with
      | 0, _ =>
       obtain rfl := Option.some.inj z
       have t9 : b.tmps[9]? = some (.slice (some ⟨D, F, none⟩) m1 c1) := q.rs 9 (by kernel_rfl)
       refine Qa1 (.slice (some ⟨D, F, none⟩) m1 c1) ⟨_, rfl, Qa0 g.1 (ve f rfl), g.2⟩ ?_
       clear z n q g r f
       go_simp
      | 1, _ =>
       obtain rfl := Option.some.inj z
       have bj : b.tmps[11]? = some (.int .i64 (k : Int)) := q.rs 11 (by kernel_rfl)
       refine Qa1 (.int .i64 (k : Int)) ⟨_, rfl, Qa0 g.1 (ve f rfl), g.2⟩ ?_
       clear z n q g r f
       go_simp
      | 2, _ =>
       obtain rfl := Option.some.inj z
       have fd := q.vt 0 41 (.slice (some ⟨D, F, none⟩) m1 c1) (n ⟨0, .data⟩ (by simp) rfl) rfl (by simp) (ve f rfl) g.1
       have fg := q.vt 1 42 (.int .i64 (k : Int)) (n ⟨1, .data⟩ (by simp) rfl) rfl (by simp) (ve f rfl) g.1
       refine Qa1 (.pointer (some ⟨D, F + k, none⟩)) ⟨_, rfl, Qa0 g.1 (ve f rfl), g.2⟩ ?_
       clear z n q g r f
       go_simp
      | 3, _ =>
       obtain rfl := Option.some.inj z
       have fh := q.vt 2 43 (.pointer (some ⟨D, F + k, none⟩)) (n ⟨2, .data⟩ (by simp) rfl) rfl (by simp) (ve f rfl) g.1
       have cx := (O.out.1 W (O.out.2.2.2.behind' g.2)).1
       refine Qa1 (.string x) ⟨_, rfl, Qa0 g.1 (ve f rfl), g.2⟩ ?_
       clear z n q g r f
       go_simp
      | 4, _ =>
       obtain rfl := Option.some.inj z
       have t2 : b.tmps[2]? = some (.slice (some ⟨E, H, none⟩) m2 c2) := q.rs 2 (by kernel_rfl)
       refine Qa1 (.slice (some ⟨E, H, none⟩) m2 c2) ⟨_, rfl, Qa0 g.1 (ve f rfl), g.2⟩ ?_
       clear z n q g r f
       go_simp
      | 5, _ =>
       obtain rfl := Option.some.inj z
       have bj : b.tmps[11]? = some (.int .i64 (k : Int)) := q.rs 11 (by kernel_rfl)
       refine Qa1 (.int .i64 (k : Int)) ⟨_, rfl, Qa0 g.1 (ve f rfl), g.2⟩ ?_
       clear z n q g r f
       go_simp
      | 6, _ =>
       obtain rfl := Option.some.inj z
       have fj := q.vt 4 45 (.slice (some ⟨E, H, none⟩) m2 c2) (n ⟨4, .data⟩ (by simp) rfl) rfl (by simp) (ve f rfl) g.1
       have fk := q.vt 5 46 (.int .i64 (k : Int)) (n ⟨5, .data⟩ (by simp) rfl) rfl (by simp) (ve f rfl) g.1
       refine Qa1 (.pointer (some ⟨E, H + k, none⟩)) ⟨_, rfl, Qa0 g.1 (ve f rfl), g.2⟩ ?_
       clear z n q g r f
       go_simp
      | 7, _ =>
       obtain rfl := Option.some.inj z
       have fm := q.vt 6 47 (.pointer (some ⟨E, H + k, none⟩)) (n ⟨6, .data⟩ (by simp) rfl) rfl (by simp) (ve f rfl) g.1
       have cy := (O.out.1 W (O.out.2.2.2.behind' g.2)).2
       refine Qa1 (.string y) ⟨_, rfl, Qa0 g.1 (ve f rfl), g.2⟩ ?_
       clear z n q g r f
       go_simp
      | 8, _ =>
       obtain rfl := Option.some.inj z
       have fp := q.vt 7 48 (.string y) (n ⟨7, .data⟩ (by simp) rfl) rfl (by simp) (ve f rfl) g.1
       refine Qbl fun G X => ?_
       have HG := Hq X
       have T := Hq g
       have V := Hq f
       clear X z n q g r f
       go_simp
       go_at_call 50
       refine (Qds y W O.out.2.1).mono ?_
       rintro e w9 ⟨rfl, aa⟩
       exact ⟨_, rfl, (HG.out _ _).2 ⟨Qa0 T.out.1 (by rw [V.out]; rfl), T.out.2.behind' aa⟩⟩
      | 9, _ =>
       obtain rfl := Option.some.inj z
       have t9 : b.tmps[9]? = some (.slice (some ⟨D, F, none⟩) m1 c1) := q.rs 9 (by kernel_rfl)
       refine Qa1 (.slice (some ⟨D, F, none⟩) m1 c1) ⟨_, rfl, Qa0 g.1 (ve f rfl), g.2⟩ ?_
       clear z n q g r f
       go_simp
      | 10, _ =>
       obtain rfl := Option.some.inj z
       have bj : b.tmps[11]? = some (.int .i64 (k : Int)) := q.rs 11 (by kernel_rfl)
       refine Qa1 (.int .i64 (k : Int)) ⟨_, rfl, Qa0 g.1 (ve f rfl), g.2⟩ ?_
       clear z n q g r f
       go_simp
      | 11, _ =>
       obtain rfl := Option.some.inj z
       have fs := q.vt 9 50 (.slice (some ⟨D, F, none⟩) m1 c1) (n ⟨9, .data⟩ (by simp) rfl) rfl (by simp) (ve f rfl) g.1
       have fu := q.vt 10 51 (.int .i64 (k : Int)) (n ⟨10, .data⟩ (by simp) rfl) rfl (by simp) (ve f rfl) g.1
       refine Qa1 (.pointer (some ⟨D, F + k, none⟩)) ⟨_, rfl, Qa0 g.1 (ve f rfl), g.2⟩ ?_
       clear z n q g r f
       go_simp
      | 12, _ =>
       obtain rfl := Option.some.inj z
       have fw := q.vt 11 52 (.pointer (some ⟨D, F + k, none⟩)) (n ⟨11, .data⟩ (by simp) rfl) rfl (by simp) (ve f rfl) g.1
       have cx := (O.out.1 W (O.out.2.2.2.behind' g.2)).1
       refine Qa1 (.string x) ⟨_, rfl, Qa0 g.1 (ve f rfl), g.2⟩ ?_
       clear z n q g r f
       go_simp
      | 13, _ =>
       obtain rfl := Option.some.inj z
       have fx := q.vt 12 53 (.string x) (n ⟨12, .data⟩ (by simp) rfl) rfl (by simp) (ve f rfl) g.1
       refine Qbl fun G X => ?_
       have HG := Hq X
       have T := Hq g
       have V := Hq f
       clear X z n q g r f
       go_simp
       go_at_call 37
       refine (eh.out W T.out.2).mono ?_
       rintro e w9 ⟨rfl, aa⟩
       exact ⟨_, rfl, (HG.out _ _).2 ⟨Qa0 T.out.1 (by rw [V.out]; rfl), T.out.2.behind' aa⟩⟩
      | 14, _ =>
       obtain rfl := Option.some.inj z
       have t2 : b.tmps[2]? = some (.slice (some ⟨E, H, none⟩) m2 c2) := q.rs 2 (by kernel_rfl)
       refine Qa1 (.slice (some ⟨E, H, none⟩) m2 c2) ⟨_, rfl, Qa0 g.1 (ve f rfl), g.2⟩ ?_
       clear z n q g r f
       go_simp
      | 15, _ =>
       obtain rfl := Option.some.inj z
       have bj : b.tmps[11]? = some (.int .i64 (k : Int)) := q.rs 11 (by kernel_rfl)
       refine Qa1 (.int .i64 (k : Int)) ⟨_, rfl, Qa0 g.1 (ve f rfl), g.2⟩ ?_
       clear z n q g r f
       go_simp
      | 16, _ =>
       obtain rfl := Option.some.inj z
       have ga := q.vt 14 55 (.slice (some ⟨E, H, none⟩) m2 c2) (n ⟨14, .data⟩ (by simp) rfl) rfl (by simp) (ve f rfl) g.1
       have gb := q.vt 15 56 (.int .i64 (k : Int)) (n ⟨15, .data⟩ (by simp) rfl) rfl (by simp) (ve f rfl) g.1
       refine Qa1 (.pointer (some ⟨E, H + k, none⟩)) ⟨_, rfl, Qa0 g.1 (ve f rfl), g.2⟩ ?_
       clear z n q g r f
       go_simp
      | 17, _ =>
       obtain rfl := Option.some.inj z
       have gc := q.vt 16 57 (.pointer (some ⟨E, H + k, none⟩)) (n ⟨16, .data⟩ (by simp) rfl) rfl (by simp) (ve f rfl) g.1
       have cy := (O.out.1 W (O.out.2.2.2.behind' g.2)).2
       refine Qa1 (.string y) ⟨_, rfl, Qa0 g.1 (ve f rfl), g.2⟩ ?_
       clear z n q g r f
       go_simp
      | 18, _ =>
       obtain rfl := Option.some.inj z
       have ge := q.vt 17 58 (.string y) (n ⟨17, .data⟩ (by simp) rfl) rfl (by simp) (ve f rfl) g.1
       refine Qbl fun G X => ?_
       have HG := Hq X
       have T := Hq g
       have V := Hq f
       clear X z n q g r f
       go_simp
       go_at_call 37
       refine (ei.out W T.out.2).mono ?_
       rintro e w9 ⟨rfl, aa⟩
       exact ⟨_, rfl, (HG.out _ _).2 ⟨Qa0 T.out.1 (by rw [V.out]; rfl), T.out.2.behind' aa⟩⟩
      | 19, _ =>
       obtain rfl := Option.some.inj z
       have fy := q.vt 13 54 (.agg (J.map encB).toArray) (n ⟨13, .data⟩ (by simp) rfl) rfl (by simp) (ve f rfl) g.1
       have gi := q.vt 18 59 (.agg (N.map encB).toArray) (n ⟨18, .data⟩ (by simp) rfl) rfl (by simp) (ve f rfl) g.1
       have hq := dz.out W
       refine Qa1 (.bool (decide (J = N))) ⟨_, rfl, Qa0 g.1 (ve f rfl), g.2⟩ ?_
       clear z n q g r f
       go_simp
      | 20, _ =>
       obtain rfl := Option.some.inj z
       have fi := q.vt 3 44 (.string x) (n ⟨3, .data⟩ (by simp) rfl) rfl (by simp) (ve f rfl) g.1
       refine Qa1 (.string x) ⟨_, rfl, Qa0 g.1 (ve f rfl), g.2⟩ ?_
       clear z n q g r f
       go_simp
      | 21, _ =>
       obtain rfl := Option.some.inj z
       have fq := q.vt 8 49 (.string y) (n ⟨8, .data⟩ (by simp) rfl) rfl (by simp) (ve f rfl) g.1
       refine Qa1 (.string y) ⟨_, rfl, Qa0 g.1 (ve f rfl), g.2⟩ ?_
       clear z n q g r f
       go_simp
      | 22, _ =>
       obtain rfl := Option.some.inj z
       have gj := q.vt 19 60 (.bool (decide (J = N))) (n ⟨19, .data⟩ (by simp) rfl) rfl (by simp) (ve f rfl) g.1
       refine Qa1 (.bool (decide (J = N))) ⟨_, rfl, Qa0 g.1 (ve f rfl), g.2⟩ ?_
       clear z n q g r f
       go_simp
     ·exact ⟨fun _ _ _ h => (by simp at h), ((Below.refl _ _).drew).drew⟩
     ·intro C W g
      have e0 : C 0 = .slice (some ⟨D, F, none⟩) m1 c1 := g.1 0 _ (ve f rfl) rfl
      have e1 : C 1 = .int .i64 (k : Int) := g.1 1 _ (ve f rfl) rfl
      have e2 : C 2 = .pointer (some ⟨D, F + k, none⟩) := g.1 2 _ (ve f rfl) rfl
      have e3 : C 3 = .string x := g.1 3 _ (ve f rfl) rfl
      have e4 : C 4 = .slice (some ⟨E, H, none⟩) m2 c2 := g.1 4 _ (ve f rfl) rfl
      have e5 : C 5 = .int .i64 (k : Int) := g.1 5 _ (ve f rfl) rfl
      have e6 : C 6 = .pointer (some ⟨E, H + k, none⟩) := g.1 6 _ (ve f rfl) rfl
      have e7 : C 7 = .string y := g.1 7 _ (ve f rfl) rfl
      have e8 : C 8 = .string y := g.1 8 _ (ve f rfl) rfl
      have e9 : C 9 = .slice (some ⟨D, F, none⟩) m1 c1 := g.1 9 _ (ve f rfl) rfl
      have bn : C 10 = .int .i64 (k : Int) := g.1 10 _ (ve f rfl) rfl
      have bo : C 11 = .pointer (some ⟨D, F + k, none⟩) := g.1 11 _ (ve f rfl) rfl
      have bv : C 12 = .string x := g.1 12 _ (ve f rfl) rfl
      have bx : C 13 = .agg (J.map encB).toArray := g.1 13 _ (ve f rfl) rfl
      have bz : C 14 = .slice (some ⟨E, H, none⟩) m2 c2 := g.1 14 _ (ve f rfl) rfl
      have ce : C 15 = .int .i64 (k : Int) := g.1 15 _ (ve f rfl) rfl
      have cf : C 16 = .pointer (some ⟨E, H + k, none⟩) := g.1 16 _ (ve f rfl) rfl
      have cg : C 17 = .string y := g.1 17 _ (ve f rfl) rfl
      have ch : C 18 = .agg (N.map encB).toArray := g.1 18 _ (ve f rfl) rfl
      have ci : C 19 = .bool (decide (J = N)) := g.1 19 _ (ve f rfl) rfl
      have cj : C 20 = .string x := g.1 20 _ (ve f rfl) rfl
      have cl : C 21 = .string y := g.1 21 _ (ve f rfl) rfl
      have cm : C 22 = .bool (decide (J = N)) := g.1 22 _ (ve f rfl) rfl
      have hX := g.2
      simp only [runFrom, Act.put, Nat.zero_add, Nat.reduceAdd, List.setIfInBounds_toArray, List.set_cons_zero, List.set_cons_succ, e0, e1, e2, e3, e4, e5, e6, e7, e8, e9, bn, bo, bv, bx, bz, ce, cf, cg, ch, ci, cj, cl, cm]
      clear g f e0 e1 e2 e3 e4 e5 e6 e7 e8 e9 bn bo bv bx bz ce cf cg ch ci cj cl cm
      have HY : Hid (Below wr.heap.size wr W) := hX
      clear hX
      (try go_wp2)
      go_ret3
      rw [ej.out, exV, Qb0, Qb0, bl.out.1, bl.out.2]
      exact ⟨rfl, U.out.2.2.2.2.2.2.2.2.behind (Below.behind O.out.2.2.2 HY.out)⟩
   ·obtain rfl : k = mm := by omega
    have eq : ¬ (k : Int) < (k : Int) := by omega
    have HE : Hid (exF (orE L) (orE (l.map bytesOf)) = none /\ Below I.heap.size I wr) := ⟨by
     rw [am]
     apply QAx
     rw [List.length_map, List.length_map, ai.out, aq.out]
     rcases aj.out.2.2.1 with h | h
     ·exact .inl (by omega)
     ·exact .inr (by omega), hB⟩
    clear am hB hk es
    go_wp2
    go_ret3
    rw [HE.out.1]
    exact ⟨rfl, U.out.2.2.2.2.2.2.2.2.behind HE.out.2⟩
theorem Qvk (o : Option (List Nat × List Nat)) : ∃ x y b, exV o = .tuple #[.string x, .string y, .bool b] := by
 cases o with
 | none => exact ⟨_, _, _, rfl⟩
 | some z => exact ⟨_, _, _, rfl⟩
theorem Qnu (hf : Forest B S w) (hTb : Tabs w) (hM : 15 <= B) (ht : TreeAt S w b t) (hc : t.can 64) (hK : K.size = 32) (hKb : Bytes K) (p : Option Addr) (l : List ByteArray) (c : Nat) (hr : StrRow w p l c) (hn : ∀ a, p = some a -> S a.block = none) (hl : l.length <= 9223372036854775807) (hz : ∀ x ∈ l, x.size <= 1048576) (hL : t.prove (textB (nibs K.toList)) = L) :
  Calls Tryz.prog 26 #[.pointer (some ⟨b, 0, none⟩), .agg (K.toList.map encB).toArray, .slice p l.length c] w fun x w' => x = .returned (exV (exF (orE L) (orE (l.map bytesOf)))) /\ Fr B S S w w' := by
 obtain ⟨Kc, e⟩ : ∃ Kc, (K.toList.map encB).toArray = Kc := ⟨_, rfl⟩
 obtain ⟨W0, f⟩ : ∃ W0, w.alloc (.cells Kc 42) = W0 := ⟨_, rfl⟩
 have k : W0.rangeAt w.heap.size 0 (K.toList.map encB) := fun j u E => by
  rw [<- f, Nat.zero_add, World.cell?_alloc_new, <- e]
  simpa using E
 have h : Below w.heap.size w W0 := by rw [<- f]; exact (Below.refl _ _).alloc (Nat.le_refl _) _
 have o : w.heap.size < W0.heap.size := by rw [<- f]; simp
 have d := Fr.of_below hf h.drew
 have g := Hq (Qnt d.forest (d.tabs hf hTb hM) hM (ht.frame d) hc hK hKb p l c (hr.below h.drew) hn hl hz hL)
 obtain ⟨x, y, z, r⟩ := Qvk (exF (orE L) (orE (l.map bytesOf)))
 rw [r] at g ⊢
 have C : Hid (Fr B S S w W0.drew /\ Forest B S w) := ⟨d, hf⟩
 have G : (Tryz.prog.info? 42).map (·.size) = some (K.toList.map encB).length := by rw [Qb4]; simp [hK]
 have F := Tryz.underlying42
 have m : Hid (w.heap.size < W0.heap.size /\ S w.heap.size = none) := ⟨o, hf.fresh (Nat.le_refl _)⟩
 clear hf hTb hM ht hc hK hKb hL h o d hr hn hl hz r
 obtain ⟨n, hn⟩ : ∃ n, l.length = n := ⟨_, rfl⟩
 rw [hn] at g ⊢
 clear hn
 rw [e] at g ⊢
 go_enter Tryz.func26, Tryz.ntmps26
 go_upto_region 1 with fail
 clear f
 rw [<- e] at g
 clear e
 go_region_held3 (fun w' => w'.rangeAt w.heap.size 0 (K.toList.map encB)) (first | exact k | exact D)
  (first | (go_at_call 42; refine g.out.mono ?_; rintro q s ⟨rfl, i⟩; have D : s.rangeAt w.heap.size 0 (K.toList.map encB) := Qa4 k (i.other w.heap.size m.out.1 m.out.2); have v : Hid (Fr B S S w s) := C.out.1.trans i; clear i))
 all_goals (try go_wp2)
 all_goals go_ret3
 all_goals exact ⟨rfl, v.out⟩
def collB (x y : ByteArray) (b : Bool) : Bool := b && decide (x ≠ y) && decide ((digF x).toList = (digF y).toList)
theorem Qlv (x y : ByteArray) (b : Bool) (w : World) (hT : Tabs w) (hM : 15 <= w.heap.size) :
  Calls Tryz.prog 27 #[.string x, .string y, .bool b] w fun e w' => e = .returned (.bool (collB x y b)) /\ Below w.heap.size w w' := by
 cases b with
 | false =>
  go_enter Tryz.func27, Tryz.ntmps27
  go_wp2
  go_ret
  exact ⟨rfl, Below.refl _ _⟩
 | true =>
  by_cases a : x = y
  ·subst a
   have c : collB x x true = false := by simp [collB]
   rw [c]
   go_enter Tryz.func27, Tryz.ntmps27
   go_wp2
   go_ret
   exact ⟨rfl, Below.refl _ _⟩
  ·have m := Hq (Qkg x w hT hM)
   have f : Hid (∀ W, Below w.heap.size w W -> Calls Tryz.prog 43 #[.string y] W fun e w' => e = .returned (.agg ((digF y).toList.map encB).toArray) /\ Below W.heap.size W w') := fun W n => Qkg y W (hT.below n hM) (Nat.le_trans hM n.size)
   have o := Qm1 (digF x).toList (digF y).toList (by rw [Array.length_toList]; exact Qd4 _) (by rw [Array.length_toList]; exact Qd4 _) (Qku x) (Qku y)
   have c : collB x y true = decide ((digF x).toList = (digF y).toList) := by simp [collB, a]
   rw [c]
   have p := Qce a
   obtain ⟨q, i⟩ : ∃ d, (digF x).toList = d := ⟨_, rfl⟩
   obtain ⟨r, j⟩ : ∃ d, (digF y).toList = d := ⟨_, rfl⟩
   rw [i] at m o ⊢
   rw [j] at f o ⊢
   clear c hT hM i j
   go_enter Tryz.func27, Tryz.ntmps27
   go_wp2_with (first | (refine m.out.mono ?_; rintro e s ⟨rfl, g⟩; have k := Hq g; clear g))
   refine (f.out _ k.out).mono ?_
   rintro e t ⟨rfl, h⟩
   have l := Hq (k.out.behind' h)
   clear h
   go_wp2
   go_ret
   exact ⟨rfl, l.out⟩
theorem Qlw (c : Int) (n : Nat) (h1 : -9223372036854775808 <= c) (h2 : c < 9223372036854775808) (hn : 0 < n) :
  ∃ k : Nat, k < n /\ ∀ w, Calls Tryz.prog 10 #[.int .i64 c, .int .i64 (n : Int)] w fun e w' => e = .returned (.int .i64 (k : Int)) /\ w' = w := by
 have g : ¬ n = 0 := by omega
 by_cases b : c < 0
 ·have e := Qyi c h1 h2 b
  obtain ⟨k, a, d⟩ := Qqj (-(c + 1)) n (by omega) hn
  refine ⟨k, a, fun w => ?_⟩
  clear h1 h2 hn a
  go_enter Tryz.func10, Tryz.ntmps10
  go_wp2
  go_ret
  exact ⟨rfl, rfl⟩
 ·obtain ⟨k, a, d⟩ := Qqj c n (by omega) hn
  have f : (0 : Int) <= c := by omega
  refine ⟨k, a, fun w => ?_⟩
  clear h1 h2 hn a b
  go_enter Tryz.func10, Tryz.ntmps10
  go_wp2
  go_ret
  exact ⟨rfl, rfl⟩
theorem Qjb (w : World) (ty : TypeId) (B : Nat) (v : Value) (n : Nat) (cs : List Value) (hown : OwnC w B 1 v n cs) (p : Option Addr) (l : List ByteArray) (c : Nat) (hr : StrRow w p l c) (hm : n + l.length <= 1099511627776) (hB : B <= w.heap.size) :
  ∃ v' w', (Builtin.append_ #[23, 23] ty #[v, .slice p l.length c]).run Tryz.prog w = .ok v' w' /\ OwnC w' B 1 v' (n + l.length) (cs ++ l.map Value.string) /\ w.grownBy w' v.ownBlock := by
 obtain ⟨i, a, d, e, f⟩ := info_parts strZ
 rcases hr with ⟨rfl, rfl, rfl⟩ | ⟨g, o, rfl, e2, e3, e4⟩
 ·obtain ⟨p, c, rfl, b⟩ := hown.cap
  refine ⟨_, w, Qeo w _ ty _ i Tryz.underlying23 a p n c b, by simpa using hown, ⟨rfl, rfl, rfl, Nat.le_refl _, fun _ _ _ => rfl⟩⟩
 ·obtain ⟨v', w', h, j, k, m, _⟩ := Qbr (P := Tryz.prog) w 23 ty 9 i (.string ⟨#[]⟩) 1 16 Tryz.underlying23 a d e f rfl (by decide) B v n cs hown g o l.length c (l.map Value.string) (by simp) e4 (by simp [Value.oneCell']) (by unfold maxLen; omega) (by omega) hB
  exact ⟨v', w', h, j, k⟩
theorem Qin (w : World) {o : Oper} {a : Act} {K : Act -> World -> Prop} {Q : Exit -> Act -> World -> Prop} (s x : Operand)
  (ho : o.op = .call { callee := .builtin .append, args := #[s, x], argTypes := #[23, 23] })
  (B : Nat) (v : Value) (n : Nat) (cs : List Value) (hs : a.eval s = v) (hown : OwnC w B 1 v n cs) (p : Option Addr) (l : List ByteArray) (c : Nat) (hx : a.eval x = .slice p l.length c) (hr : StrRow w p l c) (hm : n + l.length <= 1099511627776) (hB : B <= w.heap.size)
  (hK : ∀ v' w', OwnC w' B 1 v' (n + l.length) (cs ++ l.map Value.string) -> w.grownBy w' v.ownBlock -> K (a.put o.dst v') w') : Oper.wp Tryz.prog o a w K Q := by
 obtain ⟨v', w', b, d, e⟩ := Qjb w o.type B v n cs hown p l c hr hm hB
 unfold Oper.wp
 simp [execOp, ho, resolve, invoke, builtin, hs, hx, b, Result.andThen]
 exact hK v' w' d e
theorem OwnC.texts {v : Value} {n : Nat} (h : OwnC w B 1 v n (l.map Value.string)) : ∃ p c, v = .slice p l.length c /\ n = l.length /\ StrRow w p l c /\ ∀ a, p = some a -> B <= a.block /\ a.block < w.heap.size := by
 have d : n = l.length := by have := h.1; simpa using this.symm
 subst d
 rcases h.2 with ⟨e1, e2⟩ | ⟨g, cap, e1, e2, e3, e4, _, _, hr⟩
 ·have : l = [] := List.eq_nil_of_length_eq_zero e2
  subst this
  exact ⟨none, 0, e1, rfl, .inl ⟨rfl, rfl, rfl⟩, by simp⟩
 ·exact ⟨_, cap, e1, rfl, .inr ⟨g, 0, rfl, e4, fun _ => e3, hr⟩, fun a b => by obtain rfl := Option.some.inj b; exact ⟨e2, e3⟩⟩
theorem OwnC.head {g n cap : Nat} {cs : List Value} (h : OwnC w B 1 (.slice (some ⟨g, 0, none⟩) n cap) n cs) (i : Nat) (hi : i <= n) : OwnC w B 1 (.slice (some ⟨g, 0, none⟩) i cap) i (cs.take i) := by
 rcases h.2 with ⟨e1, _⟩ | ⟨g', cap', e1, e2, e3, e4, e5, e6, hr⟩
 ·cases e1
 ·simp only [Value.slice.injEq, Option.some.injEq, Addr.mk.injEq, and_true, true_and] at e1
  obtain ⟨rfl, rfl⟩ := e1
  refine ⟨by rw [List.length_take, h.1]; omega, .inr ⟨g, cap, rfl, e2, e3, by omega, e5, e6, fun j u a => hr j u ?_⟩⟩
  rw [List.getElem?_take] at a
  split at a
  ·exact a
  ·cases a
end Go.Proofs.YtakidhihbgfjlaaGreatDoor
