/-
  Two proofs that are accepted for one root: the same, or the first two nodes that are different have one digest.
-/
import Derived.Test.YtoohdfiddbfacaaGreatDoorTeVeE
import Derived.Test.YtoohdfiddbfacaaGreatDoorTeOhG
import Derived.Test.YtoohdfiddbfacaaGreatDoorTeVaG
import Derived.Test.YtoohdfiddbfacaaGreatDoorTeLvG
namespace Go.Proofs.YtoohdfiddbfacaaGreatDoor
open Go.RowKit
set_option maxRecDepth 100000
set_option maxHeartbeats 25600000
def exF : List (List Nat) -> List (List Nat) -> Option (List Nat × List Nat)
 | x :: xs, y :: ys => if x = y then exF xs ys else some (x, y)
 | _, _ => none
def orE (L : List (List Nat)) : List (List Nat) := if L = [] then [textCode []] else L
theorem shF_dig {c h : List Nat} {dep : Nat} {t : Nd} (hs : shF c h dep = .ok t) : digB c = h := by
 unfold shF at hs
 split at hs
 ·cases hs
 ·split at hs
  ·cases hs
  ·rename_i h'
   exact Classical.not_not.1 h'
theorem shF_empty (h : List Nat) (dep : Nat) (t : Nd) : shF (textCode []) h dep ≠ .ok t := by
 intro a
 unfold shF at a
 split at a
 ·cases a
 ·split at a
  ·cases a
  ·have b : decF (textCode []) = .ok (.text 0 1 []) := by kernel_rfl
   rw [b] at a
   simp only at a
   rw [rdF] at a
   cases a
theorem verL_two : ∀ (M L : List (List Nat)) (h : List Nat) (r : ByteArray) (k : Nat) (o1 o2 : Option ByteArray), verL M h r k = .ok o1 -> verL L h r k = .ok o2 ->
  (M = L /\ o1 = o2) \/ ∃ x y, exF M L = some (x, y) /\ x ≠ y /\ digB x = digB y
 | [], L, h, r, k, o1, o2, h1, h2 => by rw [verL] at h1; cases h1
 | c :: M, [], h, r, k, o1, o2, h1, h2 => by rw [verL] at h2; cases h2
 | c :: M, d :: L, h, r, k, o1, o2, h1, h2 => by
  rw [verL] at h1 h2
  cases hs1 : shF c h (64 - r.size) with
  | error e => rw [hs1] at h1; cases h1
  | ok t1 =>
   cases hs2 : shF d h (64 - r.size) with
   | error e => rw [hs2] at h2; cases h2
   | ok t2 =>
    rw [hs1] at h1
    rw [hs2] at h2
    simp only at h1 h2
    by_cases hcd : c = d
    ·subst hcd
     obtain rfl : t1 = t2 := by rw [hs1] at hs2; cases hs2; rfl
     rw [exF, if_pos rfl]
     cases hw : stubAt (t1.walk 64 r) with
     | some q =>
      obtain ⟨h', r'⟩ := q
      rw [hw] at h1 h2
      simp only at h1 h2
      rcases verL_two M L h' r' (k + 1) o1 o2 h1 h2 with ⟨rfl, rfl⟩ | hx
      ·exact .inl ⟨rfl, rfl⟩
      ·exact .inr hx
     | none =>
      rw [hw] at h1 h2
      simp only at h1 h2
      split at h1
      ·split at h2
       ·rename_i e1 e2
        subst e1 e2
        rw [h1] at h2
        cases h2
        exact .inl ⟨rfl, rfl⟩
       ·cases h2
      ·cases h1
    ·exact .inr ⟨c, d, by rw [exF, if_neg hcd], hcd, (shF_dig hs1).trans (shF_dig hs2).symm⟩
theorem verL_empty {L : List (List Nat)} {h : List Nat} {r : ByteArray} {k : Nat} {o : Option ByteArray} (hv : verL L h r k = .ok o) : ∃ c L', L = c :: L' /\ c ≠ textCode [] /\ digB c = h := by
 cases L with
 | nil => rw [verL] at hv; cases hv
 | cons c L' =>
  rw [verL] at hv
  cases hs : shF c h (64 - r.size) with
  | error e => rw [hs] at hv; cases hv
  | ok t => exact ⟨c, L', rfl, fun e => shF_empty _ _ _ (e ▸ hs), shF_dig hs⟩
theorem verF_two {h : List Nat} {p : ByteArray} {M L : List (List Nat)} {o1 o2 : Option ByteArray} (h1 : verF h p M = .ok o1) (h2 : verF h p L = .ok o2) :
  o1 = o2 \/ ∃ x y, exF (orE M) (orE L) = some (x, y) /\ x ≠ y /\ digB x = digB y := by
 unfold verF at h1 h2
 split at h1
 ·rename_i e1
  split at h2
  ·cases h1; cases h2; exact .inl rfl
  ·obtain ⟨c, f, rfl, a, b⟩ := verL_empty h2
   right
   refine ⟨textCode [], c, ?_, fun e => a e.symm, by rw [b, e1.2]⟩
   rw [e1.1, orE, if_pos rfl, orE, if_neg (by simp), exF, if_neg (fun e => a e.symm)]
 ·split at h2
  ·rename_i e2
   obtain ⟨c, f, rfl, a, b⟩ := verL_empty h1
   right
   refine ⟨c, textCode [], ?_, a, by rw [b, e2.2]⟩
   rw [e2.1, orE, if_neg (by simp), orE, if_pos rfl, exF, if_neg a]
  ·rcases verL_two _ _ _ _ _ _ _ h1 h2 with ⟨rfl, rfl⟩ | hx
   ·exact .inl rfl
   ·right
    obtain ⟨c, f, rfl, -⟩ := verL_empty h1
    obtain ⟨d, g, rfl, -⟩ := verL_empty h2
    rwa [orE, if_neg (by simp), orE, if_neg (by simp)]
theorem ver_sound {t : Nd} {p : ByteArray} (hc : t.can 64) (hp : p.size = 64) (hnb : nib (bytesOf p)) {L : List (List Nat)} {o : Option ByteArray} (h : verF t.dig p L = .ok o) :
  o = t.get (bytesOf p) \/ ∃ x y, exF (orE (t.prove p)) (orE L) = some (x, y) /\ x ≠ y /\ digB x = digB y := by
 rcases verF_two (ver_honest hc hp hnb) h with e | hx
 ·exact .inl e.symm
 ·exact .inr hx
def exV : Option (List Nat × List Nat) -> Value
 | none => .tuple #[.string ⟨#[]⟩, .string ⟨#[]⟩, .bool false]
 | some (x, y) => .tuple #[.string (textB x), .string (textB y), .bool (decide (digB x = digB y))]
theorem orempty_any {w : World} (p : Option Addr) (l : List ByteArray) (c : Nat) (hr : StrRow w p l c) :
  Calls Tryz.prog 48 #[.slice p l.length c] w fun e w' => ∃ (g o : Nat) (l' : List ByteArray) (c' : Nat), e = .returned (.slice (some ⟨g, o, none⟩) l'.length c') /\ l'.map bytesOf = orE (l.map bytesOf) /\ l'.length <= l.length + 1 /\ l'.length <= c' /\ w'.rangeAt g o (l'.map Value.string) /\ g < w'.heap.size /\ (w.heap.size <= g \/ (p = some ⟨g, o, none⟩ /\ g < w.heap.size)) /\ Below w.heap.size w w' := by
 by_cases a : l = []
 ·subst a
  obtain ⟨E, f⟩ : ∃ E, textB (textCode []) = E := ⟨_, rfl⟩
  have s := Hid.hide f
  have q := Hid.hide (empty_any w)
  rw [f] at q
  clear f hr
  show Calls Tryz.prog 48 #[.slice p 0 c] w _
  go_enter Tryz.func48, Tryz.ntmps48
  go_wp2_with fail
  refine q.out.mono ?_
  rintro e v ⟨rfl, d⟩
  have n := Hid.hide d
  clear d
  go_wp2
  go_ret
  refine ⟨v.heap.size, 0, [E], 1, rfl, ?_, by simp, by simp, ?_, by simp, .inl n.out.size, Below.behind n.out ((Below.refl _ _).alloc (Nat.le_refl _) _)⟩
  ·rw [<- s.out]
   show [bytesOf (textB (textCode []))] = orE []
   rw [bytesOf_textB (by decide), orE, if_pos rfl]
  ·intro j u t
   rw [Nat.zero_add, World.cell?_alloc_new]
   simpa using t
 ·have i : ((l.length : Int) == 0) = false := by
   have : 0 < l.length := List.length_pos_iff.2 a
   simp; omega
  rcases hr with ⟨_, h, _⟩ | ⟨g, o, rfl, e2, e3, e4⟩
  ·exact absurd h a
  have b : Hid (l ≠ [] /\ l.length <= c /\ g < w.heap.size /\ w.rangeAt g o (l.map Value.string)) := ⟨a, e2, e3 (List.length_pos_iff.2 a), e4⟩
  clear a e2 e3 e4
  obtain ⟨m, k⟩ : ∃ m, l.length = m := ⟨_, rfl⟩
  have r := Hid.hide k
  rw [k] at i ⊢
  clear k
  go_enter Tryz.func48, Tryz.ntmps48
  go_wp2
  go_ret
  exact ⟨g, o, l, c, by rw [r.out]; rfl, by rw [orE, if_neg (by simpa using b.out.1)], by rw [r.out]; omega, b.out.2.1, b.out.2.2.2, b.out.2.2.1, .inr ⟨rfl, b.out.2.2.1⟩, Below.refl _ _⟩
theorem tprove_can {B : Nat} {S : Wood} {w : World} {b : Nat} {t : Nd} {K : Array Nat} (hf : Forest B S w) (hTb : Tabs w) (hM : 15 <= B) (ht : TreeAt S w b t) (hc : t.can 64) (hK : K.size = 32) (hKb : Bytes K) :
  Calls Tryz.prog 27 #[.pointer (some ⟨b, 0, none⟩), .agg (K.toList.map encB).toArray] w fun x w' => ∃ res, x = .returned (.tuple #[res, .nilIface]) /\ Fr B S S w w' /\ OwnC w' w.heap.size 1 res (t.prove (textB (nibs K.toList))).length (strs (t.prove (textB (nibs K.toList)))) := by
 obtain ⟨p, k⟩ : ∃ p, textB (nibs K.toList) = p := ⟨_, rfl⟩
 obtain ⟨f, m, h⟩ := key_path hK hKb
 rw [k] at f h ⊢
 have j : nib (bytesOf p) := by rw [f]; exact m
 have a : t.can p.size := by rw [h]; exact hc
 obtain ⟨l, e, q, d, o⟩ := way_ex p.size t p (Nat.le_refl _) a
 obtain ⟨_, n, _, _⟩ := way_get d a
 obtain ⟨_, c⟩ := t.can_ok p.size a (by omega)
 have i : provL (l.map (·.1) ++ e.shownL) = t.prove p := by rw [d.ways 64 c (by omega)]; rfl
 have := tprove_any hf hTb hM ht hK hKb k c j (by omega) d (fun g => can_stub n g) (by omega) d.inner
 rw [i] at this
 exact this
theorem exF_eq {x : List Nat} {xs ys : List (List Nat)} : exF (x :: xs) (x :: ys) = exF xs ys := by rw [exF, if_pos rfl]
theorem exF_ne {x y : List Nat} (h : x ≠ y) (xs ys : List (List Nat)) : exF (x :: xs) (y :: ys) = some (x, y) := by rw [exF, if_neg h]
theorem exF_drop {L M : List (List Nat)} {k : Nat} (h1 : k < L.length) (h2 : k < M.length) : exF (L.drop k) (M.drop k) = if L[k] = M[k] then exF (L.drop (k + 1)) (M.drop (k + 1)) else some (L[k], M[k]) := by
 rw [List.drop_eq_getElem_cons h1, List.drop_eq_getElem_cons h2, exF]
theorem exF_end {L M : List (List Nat)} {k : Nat} (h : L.length <= k \/ M.length <= k) : exF (L.drop k) (M.drop k) = none := by
 rcases h with h | h
 ·rw [List.drop_eq_nil_of_le h]
  cases M.drop k <;> rfl
 ·rw [List.drop_eq_nil_of_le h]
  cases L.drop k <;> rfl
theorem StrRow.frame {B : Nat} {S S' : Wood} {w w' : World} {p : Option Addr} {l : List ByteArray} {c : Nat} (h : StrRow w p l c) (hf : Fr B S S' w w') (hn : ∀ a, p = some a -> S a.block = none) : StrRow w' p l c := by
 rcases h with h | ⟨g, o, rfl, e2, e3, e4⟩
 ·exact .inl h
 ·refine .inr ⟨g, o, rfl, e2, fun h => Nat.lt_of_lt_of_le (e3 h) hf.size, fun j u b => ?_⟩
  have d : 0 < l.length := by
   have := (List.getElem?_eq_some_iff.1 b).1
   simp at this
   omega
  rw [World.cell?_of_block (a := ⟨g, o + j, none⟩) (hf.other g (e3 d) (hn _ rfl))]
  exact e4 j u b
theorem textract_any {B : Nat} {S : Wood} {w : World} {b : Nat} {t : Nd} {K : Array Nat} (hf : Forest B S w) (hTb : Tabs w) (hM : 15 <= B) (ht : TreeAt S w b t) (hc : t.can 64) (hK : K.size = 32) (hKb : Bytes K) (p : Option Addr) (l : List ByteArray) (c : Nat) (hr : StrRow w p l c) (hn : ∀ a, p = some a -> S a.block = none) (hl : l.length <= 9223372036854775807) (hz : ∀ x ∈ l, x.size <= 1048576) {L : List (List Nat)} (hL : t.prove (textB (nibs K.toList)) = L) :
  Calls Tryz.prog 32 #[.pointer (some ⟨b, 0, none⟩), .agg (K.toList.map encB).toArray, .slice p l.length c] w fun x w' => x = .returned (exV (exF (orE L) (orE (l.map bytesOf)))) /\ Fr B S S w w' := by
 obtain ⟨Kc, al⟩ : ∃ Kc, (K.toList.map encB).toArray = Kc := ⟨_, rfl⟩
 obtain ⟨W0, ay⟩ : ∃ W0, w.alloc (.cells Kc 34) = W0 := ⟨_, rfl⟩
 have dz : W0.rangeAt w.heap.size 0 (K.toList.map encB) := fun j u hu => by
  rw [<- ay, Nat.zero_add, World.cell?_alloc_new, <- al]
  simpa using hu
 have dn : Below w.heap.size w W0 := by rw [<- ay]; exact (Below.refl _ _).alloc (Nat.le_refl _) _
 have ag := Fr.of_below hf dn
 obtain ⟨-, -, dq⟩ := key_path hK hKb
 have di : ∀ c ∈ L, ∀ y ∈ c, y < 256 := by rw [<- hL]; exact prove_byte (by rw [dq]; exact hc) (by omega)
 have dj : L.length <= 1000 := by rw [<- hL]; exact Nat.le_trans (prove_len _ _) (by omega)
 have HP := Hid.hide (tprove_can ag.forest (ag.tabs hf hTb hM) hM (ht.frame ag) hc hK hKb)
 rw [hL] at HP
 have N : Hid (Fr B S S w W0 /\ Forest B S w /\ Tabs w /\ 15 <= B /\ StrRow w p l c /\ (∀ a, p = some a -> S a.block = none) /\ l.length <= 9223372036854775807 /\ (∀ x ∈ l, x.size <= 1048576) /\ (∀ c ∈ L, ∀ y ∈ c, y < 256) /\ L.length <= 1000) := ⟨ag, hf, hTb, hM, hr, hn, hl, hz, di, dj⟩
 have fc : (Tryz.prog.info? 34).map (·.size) = some (K.toList.map encB).length := by rw [size51]; simp [hK]
 have eh := Tryz.underlying34
 clear hf hTb hM ht hc hK hKb hL dq dn ag hr hn hl hz di dj
 obtain ⟨m, hm⟩ : ∃ m, l.length = m := ⟨_, rfl⟩
 have HM := Hid.hide hm
 rw [hm]
 clear hm
 rw [al] at HP ⊢
 go_enter Tryz.func32, Tryz.ntmps32
 go_upto_region 1 with fail
 clear ay
 rw [<- al] at HP
 clear al
 go_wp2_with (refine wpList_load_mid rfl 34 _ rfl w.heap.size 0 rfl (K.toList.map encB) _ dz eh rfl fc ?_)
 refine HP.out.mono ?_
 rintro e w1 ⟨fh, rfl, ao, dm⟩
 obtain ⟨pr, cr, rfl, dr, -⟩ := strRow_of dm
 have H1 : Hid (Fr B S S w w1 /\ Forest B S w1 /\ StrRow w1 p l c) := ⟨N.out.1.trans ao, ao.forest, N.out.2.2.2.2.1.frame (N.out.1.trans ao) N.out.2.2.2.2.2.1⟩
 have ak := Hid.hide (orempty_any pr (L.map textB) cr dr)
 rw [List.length_map] at ak
 obtain ⟨mL, bi⟩ : ∃ m, L.length = m := ⟨_, rfl⟩
 have eo := Hid.hide bi
 rw [bi] at ak ⊢
 clear ao dm dr bi HP
 go_wp2_with fail
 refine ak.out.mono ?_
 rintro e w2 ⟨D, F, R, c1, rfl, df, cq, cw, dg, dc, -, az⟩
 have ar := Hid.hide (orempty_any p l c (H1.out.2.2.below az))
 rw [HM.out] at ar
 have H2 : Hid (Below w1.heap.size w1 w2 /\ R.map bytesOf = orE L /\ R.length <= L.length + 1 /\ R.length <= c1 /\ w2.rangeAt D F (R.map Value.string) /\ D < w2.heap.size) := ⟨az, by rw [df, texts_back N.out.2.2.2.2.2.2.2.2.1], by rw [eo.out]; exact cq, cw, dg, dc⟩
 clear ak df cq cw dg dc az
 obtain ⟨m1, bf⟩ : ∃ m, R.length = m := ⟨_, rfl⟩
 have ai := Hid.hide bf
 rw [bf]
 clear bf
 go_wp2_with fail
 refine ar.out.mono ?_
 rintro e H ⟨E, I, O, c2, rfl, au, cu, cz, dh, de, eu, Z⟩
 have ee : ∀ x ∈ O, x.size <= 1048576 := fun x hx => by
  have hm : bytesOf x ∈ O.map bytesOf := List.mem_map_of_mem hx
  rw [au, orE] at hm
  split at hm
  ·have : bytesOf x = textCode [] := by simpa using hm
   have hl := congrArg List.length this
   rw [bytesOf_length] at hl
   have : (textCode []).length = 1 := by decide
   omega
  ·obtain ⟨y, hy, he⟩ := List.mem_map.1 hm
   rw [<- bytesOf_inj he]
   exact N.out.2.2.2.2.2.2.2.1 y hy
 have U : Hid (Below w2.heap.size w2 H /\ O.map bytesOf = orE (l.map bytesOf) /\ O.length <= l.length + 1 /\ O.length <= c2 /\ H.rangeAt E I (O.map Value.string) /\ E < H.heap.size /\ H.rangeAt D F (R.map Value.string) /\ D < H.heap.size /\ Fr B S S w H) := ⟨Z, au, by rw [HM.out]; exact cu, cz, dh, de, rangeAt_block H2.out.2.2.2.2.1 (Z.block _ H2.out.2.2.2.2.2), Nat.lt_of_lt_of_le H2.out.2.2.2.2.2 Z.size, H1.out.1.behind (Below.behind H2.out.1 Z)⟩
 clear ar au cu cz dh de eu Z
 obtain ⟨m2, bg⟩ : ∃ m, O.length = m := ⟨_, rfl⟩
 have aq := Hid.hide bg
 rw [bg]
 clear bg
 go_upto_region 5 with fail
 go_cut [28, 29] (fun a i wc => a = .int .i64 ((min m1 m2 : Nat) : Int) /\ i = .int .i64 0 /\ wc = H)
 case first =>
  rcases Nat.le_total m1 m2 with h | h
  ·have bj : (min m1 m2 : Nat) = m1 := Nat.min_eq_left h
   have h' : (m1 : Int) <= (m2 : Int) := by omega
   go_wp2
   all_goals first | (exfalso; omega) | (go_meet; exact ⟨by rw [bj] <;> (congr 1; omega), rfl, rfl⟩)
  ·have bj : (min m1 m2 : Nat) = m2 := Nat.min_eq_right h
   have h' : (m2 : Int) <= (m1 : Int) := by omega
   go_wp2
   all_goals first | (exfalso; omega) | (go_meet; exact ⟨by rw [bj] <;> (congr 1; omega), rfl, rfl⟩)
 case rest =>
  obtain ⟨ha, hi, hw⟩ := hcut
  subst ha hi
  obtain rfl := hw.symm
  obtain ⟨mm, dp⟩ : ∃ mm, min m1 m2 = mm := ⟨_, rfl⟩
  rw [dp]
  have aj : Hid (mm <= m1 /\ mm <= m2 /\ (mm = m1 \/ mm = m2) /\ mm <= 1001) := ⟨by omega, by omega, by omega, by have := H2.out.2.2.1; have := N.out.2.2.2.2.2.2.2.2.2; have := ai.out; omega⟩
  clear dp
  go_wp2_with fail
  go_loopg [29] mm (fun gh i wr => ∃ k, k <= mm /\ gh = mm - k /\ i = .int .i64 (k : Int) /\ Below H.heap.size H wr /\ exF (orE L) (orE (l.map bytesOf)) = exF ((R.map bytesOf).drop k) ((O.map bytesOf).drop k))
  case atStart => exact ⟨0, Nat.zero_le _, rfl, rfl, Below.refl _ _, by rw [H2.out.2.1, U.out.2.1]; rfl⟩
  case round =>
   obtain ⟨k, hk, rfl, rfl, hB, am⟩ := hrel
   by_cases ez : k < mm
   ·have ew : (k : Int) < (mm : Int) := by omega
    have ap : k < R.length := by rw [ai.out]; have := aj.out.1; omega
    have ah : k < O.length := by rw [aq.out]; have := aj.out.2.1; omega
    have k1 : k < m1 := by rw [<- ai.out]; exact ap
    have k2 : k < m2 := by rw [<- aq.out]; exact ah
    have fe : (k : Int) < (m1 : Int) := by omega
    have fg : (k : Int) < (m2 : Int) := by omega
    obtain ⟨x, hx⟩ : ∃ x, R[k] = x := ⟨_, rfl⟩
    obtain ⟨y, hy⟩ : ∃ y, O[k] = y := ⟨_, rfl⟩
    have b9 : ∀ W, Below H.heap.size H W -> W.cell? ⟨D, F + k, none⟩ = some (.string x) := fun W Y => by
     rw [Y.cell (p := ⟨D, F + k, none⟩) U.out.2.2.2.2.2.2.2.1]
     exact U.out.2.2.2.2.2.2.1 k _ (by rw [List.getElem?_map, List.getElem?_eq_getElem ap, hx]; rfl)
    have ba : ∀ W, Below H.heap.size H W -> W.cell? ⟨E, I + k, none⟩ = some (.string y) := fun W Y => by
     rw [Y.cell (p := ⟨E, I + k, none⟩) U.out.2.2.2.2.2.1]
     exact U.out.2.2.2.2.1 k _ (by rw [List.getElem?_map, List.getElem?_eq_getElem ah, hy]; rfl)
    have cx := b9 wr hB
    have cy := ba wr hB
    have bc : exF (orE L) (orE (l.map bytesOf)) = if bytesOf x = bytesOf y then exF ((R.map bytesOf).drop (k + 1)) ((O.map bytesOf).drop (k + 1)) else some (bytesOf x, bytesOf y) := by
     rw [am, exF_drop (by simpa using ap) (by simpa using ah)]
     simp only [List.getElem_map, hx, hy]
    have du : y.size <= 1048576 := by rw [<- hy]; exact ee _ (List.getElem_mem ah)
    have J : Hid ((∀ W, Below H.heap.size H W -> W.cell? ⟨D, F + k, none⟩ = some (.string x) /\ W.cell? ⟨E, I + k, none⟩ = some (.string y)) /\ y.size <= 1048576 /\ k <= mm /\ Below H.heap.size H wr) := ⟨fun W Y => ⟨b9 W Y, ba W Y⟩, du, hk, hB⟩
    have bn := Hid.hide bc
    clear am bc b9 ba hx hy hB hk du ap ah
    by_cases bk : x = y
    ·subst bk
     have dt : wrap64 ((k : Int) + 1) = ((k + 1 : Nat) : Int) := by unfold wrap64; have := aj.out.2.2.2; omega
     have HE : Hid (exF (orE L) (orE (l.map bytesOf)) = exF ((R.map bytesOf).drop (k + 1)) ((O.map bytesOf).drop (k + 1)) /\ wrap64 ((k : Int) + 1) = ((k + 1 : Nat) : Int)) := ⟨by rw [bn.out, if_pos rfl], dt⟩
     clear dt
     go_upto_region 8 with fail
     go_region
     go_wp2
     go_roundg (mm - (k + 1))
     case measure => omega
     case rel => exact ⟨k + 1, by omega, rfl, by rw [HE.out.2], J.out.2.2.2.drew, HE.out.1⟩
    ·have em : Hid (exF (orE L) (orE (l.map bytesOf)) = some (bytesOf x, bytesOf y)) := by
      show exF (orE L) (orE (l.map bytesOf)) = some (bytesOf x, bytesOf y)
      rw [bn.out, if_neg fun e => bk (bytesOf_inj e)]
     have f9 := toList_ne' bk
     go_upto_region 8 with fail
     go_region
     go_wp2_with fail
     clear f9
     obtain ⟨P, ac⟩ : ∃ d, digB (bytesOf x) = d := ⟨_, rfl⟩
     obtain ⟨Q, ae⟩ : ∃ d, digB (bytesOf y) = d := ⟨_, rfl⟩
     have aw : ∀ (s : ByteArray) (d : List Nat), digB (bytesOf s) = d -> ∀ W, Below wr.heap.size wr W -> Calls Tryz.prog 33 #[.string s] W fun e w' => e = .returned (.agg (d.map encB).toArray) /\ Below W.heap.size W w' := fun s d hd W Y => by
      have hF := U.out.2.2.2.2.2.2.2.2.behind (Below.behind J.out.2.2.2 Y)
      have := of_any s W (hF.tabs N.out.2.1 N.out.2.2.1 N.out.2.2.2.1) (Nat.le_trans N.out.2.2.2.1 (Nat.le_trans N.out.2.1.le hF.size))
      rw [show (digF s).toList = d by rw [<- hd, digB, textB_bytesOf]] at this
      exact this
     have ei := Hid.hide (aw x P ac)
     have ej := Hid.hide (aw y Q ae)
     have dw := Hid.hide (hash_cmp P Q (by rw [<- ac]; exact digB_length _) (by rw [<- ae]; exact digB_length _) (by rw [<- ac]; exact digB_byte _) (by rw [<- ae]; exact digB_byte _))
     have bm : Hid (digB (bytesOf x) = P /\ digB (bytesOf y) = Q) := ⟨ac, ae⟩
     clear aw ac ae
     refine wp_region_any (by kernel_rfl) ?_
     change wpAny _ _ _ _ _ _ _ (World.drew _)
     obtain ⟨vf, f⟩ : ∃ vf : Nat -> Option Value, vf = fun i => ([some (.slice (some ⟨D, F, none⟩) m1 c1), some (.int .i64 (k : Int)), some (.pointer (some ⟨D, F + k, none⟩)), some (.string x), some (.slice (some ⟨E, I, none⟩) m2 c2), some (.int .i64 (k : Int)), some (.pointer (some ⟨E, I + k, none⟩)), some (.string y), some (.string y), some (.slice (some ⟨D, F, none⟩) m1 c1), some (.int .i64 (k : Int)), some (.pointer (some ⟨D, F + k, none⟩)), some (.string x), some (.agg (P.map encB).toArray), some (.slice (some ⟨E, I, none⟩) m2 c2), some (.int .i64 (k : Int)), some (.pointer (some ⟨E, I + k, none⟩)), some (.string y), some (.agg (Q.map encB).toArray), some (.bool (decide (P = Q))), some (.string x), some (.string y), some (.bool (decide (P = Q)))] : List (Option Value)).getD i none := ⟨_, rfl⟩
     refine wpAny_vary _ (fun d v w' => (∀ i x, vf i = some x -> d i = true -> v i = x) /\ (fun d v w' => Below wr.heap.size wr w') d v w') (by kernel_rfl) (by kernel_rfl) ?_ _ (fun _ => undef) ?_ ?_
     ·intro i o z fd C b W q r n g
      have hi : i < 23 := (Array.getElem?_eq_some_iff.1 z).1
      match i, hi with
      | 0, _ =>
       obtain rfl := Option.some.inj z
       have t9 : b.tmps[9]? = some (.slice (some ⟨D, F, none⟩) m1 c1) := (q.rest 9 (fun i _ => noDst_of (by kernel_rfl) i)).trans rfl
       refine opPlain g.1 (by rw [f]; rfl) g.2 ?_
       clear z n q g r f
       go_simp
      | 1, _ =>
       obtain rfl := Option.some.inj z
       have bl : b.tmps[11]? = some (.int .i64 (k : Int)) := (q.rest 11 (fun i _ => noDst_of (by kernel_rfl) i)).trans rfl
       refine opPlain g.1 (by rw [f]; rfl) g.2 ?_
       clear z n q g r f
       go_simp
      | 2, _ =>
       obtain rfl := Option.some.inj z
       have fi : b.tmps[41]? = some (.slice (some ⟨D, F, none⟩) m1 c1) := tDone q g.1 (n ⟨0, .data⟩ (by simp) rfl) rfl (by simp) (by rw [f]; rfl)
       have fj : b.tmps[42]? = some (.int .i64 (k : Int)) := tDone q g.1 (n ⟨1, .data⟩ (by simp) rfl) rfl (by simp) (by rw [f]; rfl)
       refine opPlain g.1 (by rw [f]; rfl) g.2 ?_
       clear z n q g r f
       go_simp
      | 3, _ =>
       obtain rfl := Option.some.inj z
       have fk : b.tmps[43]? = some (.pointer (some ⟨D, F + k, none⟩)) := tDone q g.1 (n ⟨2, .data⟩ (by simp) rfl) rfl (by simp) (by rw [f]; rfl)
       have cx := (J.out.1 W (J.out.2.2.2.behind' g.2)).1
       refine opPlain g.1 (by rw [f]; rfl) g.2 ?_
       clear z n q g r f
       go_simp
      | 4, _ =>
       obtain rfl := Option.some.inj z
       have t2 : b.tmps[2]? = some (.slice (some ⟨E, I, none⟩) m2 c2) := (q.rest 2 (fun i _ => noDst_of (by kernel_rfl) i)).trans rfl
       refine opPlain g.1 (by rw [f]; rfl) g.2 ?_
       clear z n q g r f
       go_simp
      | 5, _ =>
       obtain rfl := Option.some.inj z
       have bl : b.tmps[11]? = some (.int .i64 (k : Int)) := (q.rest 11 (fun i _ => noDst_of (by kernel_rfl) i)).trans rfl
       refine opPlain g.1 (by rw [f]; rfl) g.2 ?_
       clear z n q g r f
       go_simp
      | 6, _ =>
       obtain rfl := Option.some.inj z
       have fo : b.tmps[45]? = some (.slice (some ⟨E, I, none⟩) m2 c2) := tDone q g.1 (n ⟨4, .data⟩ (by simp) rfl) rfl (by simp) (by rw [f]; rfl)
       have fp : b.tmps[46]? = some (.int .i64 (k : Int)) := tDone q g.1 (n ⟨5, .data⟩ (by simp) rfl) rfl (by simp) (by rw [f]; rfl)
       refine opPlain g.1 (by rw [f]; rfl) g.2 ?_
       clear z n q g r f
       go_simp
      | 7, _ =>
       obtain rfl := Option.some.inj z
       have fq : b.tmps[47]? = some (.pointer (some ⟨E, I + k, none⟩)) := tDone q g.1 (n ⟨6, .data⟩ (by simp) rfl) rfl (by simp) (by rw [f]; rfl)
       have cy := (J.out.1 W (J.out.2.2.2.behind' g.2)).2
       refine opPlain g.1 (by rw [f]; rfl) g.2 ?_
       clear z n q g r f
       go_simp
      | 8, _ =>
       obtain rfl := Option.some.inj z
       have fs : b.tmps[48]? = some (.string y) := tDone q g.1 (n ⟨7, .data⟩ (by simp) rfl) rfl (by simp) (by rw [f]; rfl)
       refine opHide fun G X => ?_
       have HG := Hid.hide X
       have T := Hid.hide g
       have V := Hid.hide f
       clear X z n q g r f
       go_simp
       go_at_call 49
       refine (clone_any y W J.out.2.1).mono ?_
       rintro e w9 ⟨rfl, aa⟩
       exact ⟨_, rfl, (HG.out _ _).2 ⟨vals_step T.out.1 (by rw [V.out]; rfl), T.out.2.behind' aa⟩⟩
      | 9, _ =>
       obtain rfl := Option.some.inj z
       have t9 : b.tmps[9]? = some (.slice (some ⟨D, F, none⟩) m1 c1) := (q.rest 9 (fun i _ => noDst_of (by kernel_rfl) i)).trans rfl
       refine opPlain g.1 (by rw [f]; rfl) g.2 ?_
       clear z n q g r f
       go_simp
      | 10, _ =>
       obtain rfl := Option.some.inj z
       have bl : b.tmps[11]? = some (.int .i64 (k : Int)) := (q.rest 11 (fun i _ => noDst_of (by kernel_rfl) i)).trans rfl
       refine opPlain g.1 (by rw [f]; rfl) g.2 ?_
       clear z n q g r f
       go_simp
      | 11, _ =>
       obtain rfl := Option.some.inj z
       have fw : b.tmps[50]? = some (.slice (some ⟨D, F, none⟩) m1 c1) := tDone q g.1 (n ⟨9, .data⟩ (by simp) rfl) rfl (by simp) (by rw [f]; rfl)
       have fx : b.tmps[51]? = some (.int .i64 (k : Int)) := tDone q g.1 (n ⟨10, .data⟩ (by simp) rfl) rfl (by simp) (by rw [f]; rfl)
       refine opPlain g.1 (by rw [f]; rfl) g.2 ?_
       clear z n q g r f
       go_simp
      | 12, _ =>
       obtain rfl := Option.some.inj z
       have fy : b.tmps[52]? = some (.pointer (some ⟨D, F + k, none⟩)) := tDone q g.1 (n ⟨11, .data⟩ (by simp) rfl) rfl (by simp) (by rw [f]; rfl)
       have cx := (J.out.1 W (J.out.2.2.2.behind' g.2)).1
       refine opPlain g.1 (by rw [f]; rfl) g.2 ?_
       clear z n q g r f
       go_simp
      | 13, _ =>
       obtain rfl := Option.some.inj z
       have gc : b.tmps[53]? = some (.string x) := tDone q g.1 (n ⟨12, .data⟩ (by simp) rfl) rfl (by simp) (by rw [f]; rfl)
       refine opHide fun G X => ?_
       have HG := Hid.hide X
       have T := Hid.hide g
       have V := Hid.hide f
       clear X z n q g r f
       go_simp
       go_at_call 33
       refine (ei.out W T.out.2).mono ?_
       rintro e w9 ⟨rfl, aa⟩
       exact ⟨_, rfl, (HG.out _ _).2 ⟨vals_step T.out.1 (by rw [V.out]; rfl), T.out.2.behind' aa⟩⟩
      | 14, _ =>
       obtain rfl := Option.some.inj z
       have t2 : b.tmps[2]? = some (.slice (some ⟨E, I, none⟩) m2 c2) := (q.rest 2 (fun i _ => noDst_of (by kernel_rfl) i)).trans rfl
       refine opPlain g.1 (by rw [f]; rfl) g.2 ?_
       clear z n q g r f
       go_simp
      | 15, _ =>
       obtain rfl := Option.some.inj z
       have bl : b.tmps[11]? = some (.int .i64 (k : Int)) := (q.rest 11 (fun i _ => noDst_of (by kernel_rfl) i)).trans rfl
       refine opPlain g.1 (by rw [f]; rfl) g.2 ?_
       clear z n q g r f
       go_simp
      | 16, _ =>
       obtain rfl := Option.some.inj z
       have gi : b.tmps[55]? = some (.slice (some ⟨E, I, none⟩) m2 c2) := tDone q g.1 (n ⟨14, .data⟩ (by simp) rfl) rfl (by simp) (by rw [f]; rfl)
       have gj : b.tmps[56]? = some (.int .i64 (k : Int)) := tDone q g.1 (n ⟨15, .data⟩ (by simp) rfl) rfl (by simp) (by rw [f]; rfl)
       refine opPlain g.1 (by rw [f]; rfl) g.2 ?_
       clear z n q g r f
       go_simp
      | 17, _ =>
       obtain rfl := Option.some.inj z
       have gl : b.tmps[57]? = some (.pointer (some ⟨E, I + k, none⟩)) := tDone q g.1 (n ⟨16, .data⟩ (by simp) rfl) rfl (by simp) (by rw [f]; rfl)
       have cy := (J.out.1 W (J.out.2.2.2.behind' g.2)).2
       refine opPlain g.1 (by rw [f]; rfl) g.2 ?_
       clear z n q g r f
       go_simp
      | 18, _ =>
       obtain rfl := Option.some.inj z
       have gm : b.tmps[58]? = some (.string y) := tDone q g.1 (n ⟨17, .data⟩ (by simp) rfl) rfl (by simp) (by rw [f]; rfl)
       refine opHide fun G X => ?_
       have HG := Hid.hide X
       have T := Hid.hide g
       have V := Hid.hide f
       clear X z n q g r f
       go_simp
       go_at_call 33
       refine (ej.out W T.out.2).mono ?_
       rintro e w9 ⟨rfl, aa⟩
       exact ⟨_, rfl, (HG.out _ _).2 ⟨vals_step T.out.1 (by rw [V.out]; rfl), T.out.2.behind' aa⟩⟩
      | 19, _ =>
       obtain rfl := Option.some.inj z
       have ge : b.tmps[54]? = some (.agg (P.map encB).toArray) := tDone q g.1 (n ⟨13, .data⟩ (by simp) rfl) rfl (by simp) (by rw [f]; rfl)
       have gn : b.tmps[59]? = some (.agg (Q.map encB).toArray) := tDone q g.1 (n ⟨18, .data⟩ (by simp) rfl) rfl (by simp) (by rw [f]; rfl)
       have hq := dw.out W
       refine opPlain g.1 (by rw [f]; rfl) g.2 ?_
       clear z n q g r f
       go_simp
      | 20, _ =>
       obtain rfl := Option.some.inj z
       have fm : b.tmps[44]? = some (.string x) := tDone q g.1 (n ⟨3, .data⟩ (by simp) rfl) rfl (by simp) (by rw [f]; rfl)
       refine opPlain g.1 (by rw [f]; rfl) g.2 ?_
       clear z n q g r f
       go_simp
      | 21, _ =>
       obtain rfl := Option.some.inj z
       have fu : b.tmps[49]? = some (.string y) := tDone q g.1 (n ⟨8, .data⟩ (by simp) rfl) rfl (by simp) (by rw [f]; rfl)
       refine opPlain g.1 (by rw [f]; rfl) g.2 ?_
       clear z n q g r f
       go_simp
      | 22, _ =>
       obtain rfl := Option.some.inj z
       have gw : b.tmps[60]? = some (.bool (decide (P = Q))) := tDone q g.1 (n ⟨19, .data⟩ (by simp) rfl) rfl (by simp) (by rw [f]; rfl)
       refine opPlain g.1 (by rw [f]; rfl) g.2 ?_
       clear z n q g r f
       go_simp
     ·exact ⟨fun _ _ _ h => (by simp at h), ((Below.refl _ _).drew).drew⟩
     ·intro C W g
      have e0 : C 0 = .slice (some ⟨D, F, none⟩) m1 c1 := g.1 0 _ (by rw [f]; rfl) rfl
      have e1 : C 1 = .int .i64 (k : Int) := g.1 1 _ (by rw [f]; rfl) rfl
      have e2 : C 2 = .pointer (some ⟨D, F + k, none⟩) := g.1 2 _ (by rw [f]; rfl) rfl
      have e3 : C 3 = .string x := g.1 3 _ (by rw [f]; rfl) rfl
      have e4 : C 4 = .slice (some ⟨E, I, none⟩) m2 c2 := g.1 4 _ (by rw [f]; rfl) rfl
      have e5 : C 5 = .int .i64 (k : Int) := g.1 5 _ (by rw [f]; rfl) rfl
      have e6 : C 6 = .pointer (some ⟨E, I + k, none⟩) := g.1 6 _ (by rw [f]; rfl) rfl
      have e7 : C 7 = .string y := g.1 7 _ (by rw [f]; rfl) rfl
      have e8 : C 8 = .string y := g.1 8 _ (by rw [f]; rfl) rfl
      have e9 : C 9 = .slice (some ⟨D, F, none⟩) m1 c1 := g.1 9 _ (by rw [f]; rfl) rfl
      have bo : C 10 = .int .i64 (k : Int) := g.1 10 _ (by rw [f]; rfl) rfl
      have bp : C 11 = .pointer (some ⟨D, F + k, none⟩) := g.1 11 _ (by rw [f]; rfl) rfl
      have bq : C 12 = .string x := g.1 12 _ (by rw [f]; rfl) rfl
      have bx : C 13 = .agg (P.map encB).toArray := g.1 13 _ (by rw [f]; rfl) rfl
      have bz : C 14 = .slice (some ⟨E, I, none⟩) m2 c2 := g.1 14 _ (by rw [f]; rfl) rfl
      have ce : C 15 = .int .i64 (k : Int) := g.1 15 _ (by rw [f]; rfl) rfl
      have cf : C 16 = .pointer (some ⟨E, I + k, none⟩) := g.1 16 _ (by rw [f]; rfl) rfl
      have ch : C 17 = .string y := g.1 17 _ (by rw [f]; rfl) rfl
      have ci : C 18 = .agg (Q.map encB).toArray := g.1 18 _ (by rw [f]; rfl) rfl
      have cj : C 19 = .bool (decide (P = Q)) := g.1 19 _ (by rw [f]; rfl) rfl
      have cl : C 20 = .string x := g.1 20 _ (by rw [f]; rfl) rfl
      have cm : C 21 = .string y := g.1 21 _ (by rw [f]; rfl) rfl
      have cp : C 22 = .bool (decide (P = Q)) := g.1 22 _ (by rw [f]; rfl) rfl
      have hX := g.2
      simp only [runFrom, Act.put, Nat.zero_add, Nat.reduceAdd, List.setIfInBounds_toArray, List.set_cons_zero, List.set_cons_succ, e0, e1, e2, e3, e4, e5, e6, e7, e8, e9, bo, bp, bq, bx, bz, ce, cf, ch, ci, cj, cl, cm, cp]
      clear g f e0 e1 e2 e3 e4 e5 e6 e7 e8 e9 bo bp bq bx bz ce cf ch ci cj cl cm cp
      have HY : Hid (Below wr.heap.size wr W) := hX
      clear hX
      (try go_wp2)
      go_ret3
      rw [em.out, exV, textB_bytesOf, textB_bytesOf, bm.out.1, bm.out.2]
      exact ⟨rfl, U.out.2.2.2.2.2.2.2.2.behind (Below.behind J.out.2.2.2 HY.out)⟩
   ·obtain rfl : k = mm := by omega
    have ew : ¬ (k : Int) < (k : Int) := by omega
    have HE : Hid (exF (orE L) (orE (l.map bytesOf)) = none /\ Below H.heap.size H wr) := ⟨by
     rw [am]
     apply exF_end
     rw [List.length_map, List.length_map, ai.out, aq.out]
     rcases aj.out.2.2.1 with h | h
     ·exact .inl (by omega)
     ·exact .inr (by omega), hB⟩
    clear am hB hk ez
    go_wp2
    go_ret3
    rw [HE.out.1]
    exact ⟨rfl, U.out.2.2.2.2.2.2.2.2.behind HE.out.2⟩
theorem exV_three (o : Option (List Nat × List Nat)) : ∃ x y b, exV o = .tuple #[.string x, .string y, .bool b] := by
 cases o with
 | none => exact ⟨_, _, _, rfl⟩
 | some z => exact ⟨_, _, _, rfl⟩
theorem xextract_any {B : Nat} {S : Wood} {w : World} {b : Nat} {t : Nd} {K : Array Nat} (hf : Forest B S w) (hTb : Tabs w) (hM : 15 <= B) (ht : TreeAt S w b t) (hc : t.can 64) (hK : K.size = 32) (hKb : Bytes K) (p : Option Addr) (l : List ByteArray) (c : Nat) (hr : StrRow w p l c) (hn : ∀ a, p = some a -> S a.block = none) (hl : l.length <= 9223372036854775807) (hz : ∀ x ∈ l, x.size <= 1048576) {L : List (List Nat)} (hL : t.prove (textB (nibs K.toList)) = L) :
  Calls Tryz.prog 18 #[.pointer (some ⟨b, 0, none⟩), .agg (K.toList.map encB).toArray, .slice p l.length c] w fun x w' => x = .returned (exV (exF (orE L) (orE (l.map bytesOf)))) /\ Fr B S S w w' := by
 obtain ⟨Kc, e⟩ : ∃ Kc, (K.toList.map encB).toArray = Kc := ⟨_, rfl⟩
 obtain ⟨W0, f⟩ : ∃ W0, w.alloc (.cells Kc 34) = W0 := ⟨_, rfl⟩
 have k : W0.rangeAt w.heap.size 0 (K.toList.map encB) := fun j u E => by
  rw [<- f, Nat.zero_add, World.cell?_alloc_new, <- e]
  simpa using E
 have h : Below w.heap.size w W0 := by rw [<- f]; exact (Below.refl _ _).alloc (Nat.le_refl _) _
 have o : w.heap.size < W0.heap.size := by rw [<- f]; simp
 have d := Fr.of_below hf h.drew
 have g := Hid.hide (textract_any d.forest (d.tabs hf hTb hM) hM (ht.frame d) hc hK hKb p l c (hr.below h.drew) hn hl hz hL)
 obtain ⟨x, y, z, r⟩ := exV_three (exF (orE L) (orE (l.map bytesOf)))
 rw [r] at g ⊢
 have C : Hid (Fr B S S w W0.drew /\ Forest B S w) := ⟨d, hf⟩
 have G : (Tryz.prog.info? 34).map (·.size) = some (K.toList.map encB).length := by rw [size51]; simp [hK]
 have F := Tryz.underlying34
 have m : Hid (w.heap.size < W0.heap.size /\ S w.heap.size = none) := ⟨o, hf.fresh (Nat.le_refl _)⟩
 clear hf hTb hM ht hc hK hKb hL h o d hr hn hl hz r
 obtain ⟨n, hn⟩ : ∃ n, l.length = n := ⟨_, rfl⟩
 rw [hn] at g ⊢
 clear hn
 rw [e] at g ⊢
 go_enter Tryz.func18, Tryz.ntmps18
 go_upto_region 1 with fail
 clear f
 rw [<- e] at g
 clear e
 go_region_held3 (fun w' => w'.rangeAt w.heap.size 0 (K.toList.map encB)) (first | exact k | exact D)
  (first | (go_at_call 32; refine g.out.mono ?_; rintro q s ⟨rfl, i⟩; have D : s.rangeAt w.heap.size 0 (K.toList.map encB) := rangeAt_block k (i.other w.heap.size m.out.1 m.out.2); have v : Hid (Fr B S S w s) := C.out.1.trans i; clear i))
 all_goals (try go_wp2)
 all_goals go_ret3
 all_goals exact ⟨rfl, v.out⟩
def collB (x y : ByteArray) (b : Bool) : Bool := b && decide (x ≠ y) && decide ((digF x).toList = (digF y).toList)
theorem collision_any (x y : ByteArray) (b : Bool) (w : World) (hT : Tabs w) (hM : 15 <= w.heap.size) :
  Calls Tryz.prog 19 #[.string x, .string y, .bool b] w fun e w' => e = .returned (.bool (collB x y b)) /\ Below w.heap.size w w' := by
 cases b with
 | false =>
  go_enter Tryz.func19, Tryz.ntmps19
  go_wp2
  go_ret
  exact ⟨rfl, Below.refl _ _⟩
 | true =>
  by_cases a : x = y
  ·subst a
   have c : collB x x true = false := by simp [collB]
   rw [c]
   go_enter Tryz.func19, Tryz.ntmps19
   go_wp2
   go_ret
   exact ⟨rfl, Below.refl _ _⟩
  ·have m := Hid.hide (digest_any x w hT hM)
   have f : Hid (∀ W, Below w.heap.size w W -> Calls Tryz.prog 21 #[.string y] W fun e w' => e = .returned (.agg ((digF y).toList.map encB).toArray) /\ Below W.heap.size W w') := fun W n => digest_any y W (hT.below n hM) (Nat.le_trans hM n.size)
   have o := hash_cmp (digF x).toList (digF y).toList (by rw [Array.length_toList]; exact sumF_size _) (by rw [Array.length_toList]; exact sumF_size _) (digF_lt x) (digF_lt y)
   have c : collB x y true = decide ((digF x).toList = (digF y).toList) := by simp [collB, a]
   rw [c]
   have p := toList_ne' a
   obtain ⟨q, i⟩ : ∃ d, (digF x).toList = d := ⟨_, rfl⟩
   obtain ⟨r, j⟩ : ∃ d, (digF y).toList = d := ⟨_, rfl⟩
   rw [i] at m o ⊢
   rw [j] at f o ⊢
   clear c hT hM i j
   go_enter Tryz.func19, Tryz.ntmps19
   go_wp2_with (first | (refine m.out.mono ?_; rintro e s ⟨rfl, g⟩; have k := Hid.hide g; clear g))
   refine (f.out _ k.out).mono ?_
   rintro e t ⟨rfl, h⟩
   have l := Hid.hide (k.out.behind' h)
   clear h
   go_wp2
   go_ret
   exact ⟨rfl, l.out⟩
theorem kpick_ex (c : Int) (n : Nat) (h1 : -9223372036854775808 <= c) (h2 : c < 9223372036854775808) (hn : 0 < n) :
  ∃ k : Nat, k < n /\ ∀ w, Calls Tryz.prog 29 #[.int .i64 c, .int .i64 (n : Int)] w fun e w' => e = .returned (.int .i64 (k : Int)) /\ w' = w := by
 have g : ¬ n = 0 := by omega
 by_cases b : c < 0
 ·have e := pick_val c h1 h2 b
  obtain ⟨k, a, d⟩ := pick_mod (-(c + 1)) n (by omega) hn
  refine ⟨k, a, fun w => ?_⟩
  clear h1 h2 hn a
  go_enter Tryz.func29, Tryz.ntmps29
  go_wp2
  go_ret
  exact ⟨rfl, rfl⟩
 ·obtain ⟨k, a, d⟩ := pick_mod c n (by omega) hn
  have f : (0 : Int) <= c := by omega
  refine ⟨k, a, fun w => ?_⟩
  clear h1 h2 hn a b
  go_enter Tryz.func29, Tryz.ntmps29
  go_wp2
  go_ret
  exact ⟨rfl, rfl⟩
theorem run_append_str (w : World) (ty : TypeId) (B : Nat) (v : Value) (n : Nat) (cs : List Value) (hown : OwnC w B 1 v n cs) (p : Option Addr) (l : List ByteArray) (c : Nat) (hr : StrRow w p l c) (hm : n + l.length <= 1099511627776) (hB : B <= w.heap.size) :
  ∃ v' w', (Builtin.append_ #[24, 24] ty #[v, .slice p l.length c]).run Tryz.prog w = .ok v' w' /\ OwnC w' B 1 v' (n + l.length) (cs ++ l.map Value.string) /\ w.grownBy w' v.ownBlock := by
 obtain ⟨i, a, d, e, f⟩ := info_parts strZ
 rcases hr with ⟨rfl, rfl, rfl⟩ | ⟨g, o, rfl, e2, e3, e4⟩
 ·obtain ⟨p, c, rfl, b⟩ := hown.cap
  refine ⟨_, w, run_append_nil w _ ty _ i Tryz.underlying24 a p n c b, by simpa using hown, ⟨rfl, rfl, rfl, Nat.le_refl _, fun _ _ _ => rfl⟩⟩
 ·obtain ⟨v', w', h, j, k, m, _⟩ := run_append_ownp (P := Tryz.prog) w 24 ty 9 i (.string ⟨#[]⟩) 1 16 Tryz.underlying24 a d e f rfl (by decide) B v n cs hown g o l.length c (l.map Value.string) (by simp) e4 (by simp [Value.oneCell']) (by unfold maxLen; omega) (by omega) hB
  exact ⟨v', w', h, j, k⟩
theorem wpList_append_str (w : World) {ops : Array Oper} {rest : List Oper} {o : Oper} {a : Act} {Q : Exit -> Act -> World -> Prop} (hgd : o.guard = none) (s x : Operand)
  (ho : o.op = .call { callee := .builtin .append, args := #[s, x], argTypes := #[24, 24] })
  (B : Nat) (v : Value) (n : Nat) (cs : List Value) (hs : a.eval s = v) (hown : OwnC w B 1 v n cs) (p : Option Addr) (l : List ByteArray) (c : Nat) (hx : a.eval x = .slice p l.length c) (hr : StrRow w p l c) (hm : n + l.length <= 1099511627776) (hB : B <= w.heap.size)
  (hK : ∀ v' w', OwnC w' B 1 v' (n + l.length) (cs ++ l.map Value.string) -> w.grownBy w' v.ownBlock -> wpList Tryz.prog ops Q rest (a.put o.dst v') w') : wpList Tryz.prog ops Q (o :: rest) a w := by
 refine wpList_plain hgd fun K d => ?_
 obtain ⟨v', w', b, e, f⟩ := run_append_str w o.type B v n cs hown p l c hr hm hB
 unfold Oper.wp
 simp [execOp, ho, resolve, invoke, builtin, hs, hx, b, Result.andThen]
 exact d _ _ (hK v' w' e f)
theorem step_append_str (w : World) {o : Oper} {a : Act} {K : Act -> World -> Prop} {Q : Exit -> Act -> World -> Prop} (s x : Operand)
  (ho : o.op = .call { callee := .builtin .append, args := #[s, x], argTypes := #[24, 24] })
  (B : Nat) (v : Value) (n : Nat) (cs : List Value) (hs : a.eval s = v) (hown : OwnC w B 1 v n cs) (p : Option Addr) (l : List ByteArray) (c : Nat) (hx : a.eval x = .slice p l.length c) (hr : StrRow w p l c) (hm : n + l.length <= 1099511627776) (hB : B <= w.heap.size)
  (hK : ∀ v' w', OwnC w' B 1 v' (n + l.length) (cs ++ l.map Value.string) -> w.grownBy w' v.ownBlock -> K (a.put o.dst v') w') : Oper.wp Tryz.prog o a w K Q := by
 obtain ⟨v', w', b, d, e⟩ := run_append_str w o.type B v n cs hown p l c hr hm hB
 unfold Oper.wp
 simp [execOp, ho, resolve, invoke, builtin, hs, hx, b, Result.andThen]
 exact hK v' w' d e
theorem OwnC.texts {w : World} {B : Nat} {v : Value} {n : Nat} {l : List ByteArray} (h : OwnC w B 1 v n (l.map Value.string)) : ∃ p c, v = .slice p l.length c /\ n = l.length /\ StrRow w p l c /\ ∀ a, p = some a -> B <= a.block /\ a.block < w.heap.size := by
 have d : n = l.length := by have := h.1; simpa using this.symm
 subst d
 rcases h.2 with ⟨e1, e2⟩ | ⟨g, cap, e1, e2, e3, e4, _, _, hr⟩
 ·have : l = [] := List.eq_nil_of_length_eq_zero e2
  subst this
  exact ⟨none, 0, e1, rfl, .inl ⟨rfl, rfl, rfl⟩, by simp⟩
 ·exact ⟨_, cap, e1, rfl, .inr ⟨g, 0, rfl, e4, fun _ => e3, hr⟩, fun a b => by obtain rfl := Option.some.inj b; exact ⟨e2, e3⟩⟩
theorem OwnC.head {w : World} {B g n cap : Nat} {cs : List Value} (h : OwnC w B 1 (.slice (some ⟨g, 0, none⟩) n cap) n cs) (i : Nat) (hi : i <= n) : OwnC w B 1 (.slice (some ⟨g, 0, none⟩) i cap) i (cs.take i) := by
 rcases h.2 with ⟨e1, _⟩ | ⟨g', cap', e1, e2, e3, e4, e5, e6, hr⟩
 ·cases e1
 ·simp only [Value.slice.injEq, Option.some.injEq, Addr.mk.injEq, and_true, true_and] at e1
  obtain ⟨rfl, rfl⟩ := e1
  refine ⟨by rw [List.length_take, h.1]; omega, .inr ⟨g, cap, rfl, e2, e3, by omega, e5, e6, fun j u a => hr j u ?_⟩⟩
  rw [List.getElem?_take] at a
  split at a
  ·exact a
  ·cases a
end Go.Proofs.YtoohdfiddbfacaaGreatDoor
