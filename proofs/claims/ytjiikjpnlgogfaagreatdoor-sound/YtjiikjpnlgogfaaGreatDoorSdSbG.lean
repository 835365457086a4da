/-
  Two proofs that are accepted for one root: the same, or the first two nodes that are different have one digest.
  Extract: the first two nodes that are different, of what Prove gives and of another proof.
  twigs.Extract; package twigskeep: collision; rows of texts that are appended.
-/
import Derived.Test.YtjiikjpnlgogfaaGreatDoorSdVeE
import Derived.Test.YtjiikjpnlgogfaaGreatDoorSdOhG
import Derived.Test.YtjiikjpnlgogfaaGreatDoorSdVaG
import Derived.Test.YtjiikjpnlgogfaaGreatDoorSdAppR
import Derived.Test.YtjiikjpnlgogfaaGreatDoorSdLvG
namespace Go.Proofs.YtjiikjpnlgogfaaGreatDoor
open Go.RowKit
def exF : List (List Nat) → List (List Nat) → Option (List Nat × List Nat)
 | x :: xs, y :: ys => if x = y then exF xs ys else some (x, y)
 | _, _ => none
def orE (L : List (List Nat)) : List (List Nat) := if L = [] then [textCode []] else L
theorem shF_dig {c h : List Nat} {dep : Nat} {t : Nd} (hs : shF c h dep = .ok t) : digB c = h := by
 unfold shF at hs
 split at hs
 ·cases hs
 ·split at hs
  ·cases hs
  ·rename_i h'
   exact Classical.not_not.1 h'
theorem shF_empty (h : List Nat) (dep : Nat) (t : Nd) : shF (textCode []) h dep ≠ .ok t := by
 intro hs
 unfold shF at hs
 split at hs
 ·cases hs
 ·split at hs
  ·cases hs
  ·have he : decF (textCode []) = .ok (.text 0 1 []) := by kernel_rfl
   rw [he] at hs
   simp only at hs
   rw [rdF] at hs
   cases hs
theorem verL_two : ∀ (M L : List (List Nat)) (h : List Nat) (r : ByteArray) (k : Nat) (o1 o2 : Option ByteArray), verL M h r k = .ok o1 → verL L h r k = .ok o2 →
  (M = L ∧ o1 = o2) ∨ ∃ x y, exF M L = some (x, y) ∧ x ≠ y ∧ digB x = digB y
 | [], L, h, r, k, o1, o2, h1, h2 => by rw [verL] at h1; cases h1
 | c :: M, [], h, r, k, o1, o2, h1, h2 => by rw [verL] at h2; cases h2
 | c :: M, d :: L, h, r, k, o1, o2, h1, h2 => by
  rw [verL] at h1 h2
  cases hs1 : shF c h (64 - r.size) with
  | error e => rw [hs1] at h1; cases h1
  | ok t1 =>
   cases hs2 : shF d h (64 - r.size) with
   | error e => rw [hs2] at h2; cases h2
   | ok t2 =>
    rw [hs1] at h1
    rw [hs2] at h2
    simp only at h1 h2
    by_cases hcd : c = d
    ·subst hcd
     obtain rfl : t1 = t2 := by rw [hs1] at hs2; cases hs2; rfl
     rw [exF, if_pos rfl]
     cases hw : stubAt (t1.walk 64 r) with
     | some q =>
      obtain ⟨h', r'⟩ := q
      rw [hw] at h1 h2
      simp only at h1 h2
      rcases verL_two M L h' r' (k + 1) o1 o2 h1 h2 with ⟨rfl, rfl⟩ | hx
      ·exact .inl ⟨rfl, rfl⟩
      ·exact .inr hx
     | none =>
      rw [hw] at h1 h2
      simp only at h1 h2
      split at h1
      ·split at h2
       ·rename_i e1 e2
        subst e1 e2
        rw [h1] at h2
        cases h2
        exact .inl ⟨rfl, rfl⟩
       ·cases h2
      ·cases h1
    ·exact .inr ⟨c, d, by rw [exF, if_neg hcd], hcd, (shF_dig hs1).trans (shF_dig hs2).symm⟩
theorem verL_empty {L : List (List Nat)} {h : List Nat} {r : ByteArray} {k : Nat} {o : Option ByteArray} (hv : verL L h r k = .ok o) : ∃ c L', L = c :: L' ∧ c ≠ textCode [] ∧ digB c = h := by
 cases L with
 | nil => rw [verL] at hv; cases hv
 | cons c L' =>
  rw [verL] at hv
  cases hs : shF c h (64 - r.size) with
  | error e => rw [hs] at hv; cases hv
  | ok t => exact ⟨c, L', rfl, fun e => shF_empty _ _ _ (e ▸ hs), shF_dig hs⟩
theorem verF_two {h : List Nat} {p : ByteArray} {M L : List (List Nat)} {o1 o2 : Option ByteArray} (h1 : verF h p M = .ok o1) (h2 : verF h p L = .ok o2) :
  o1 = o2 ∨ ∃ x y, exF (orE M) (orE L) = some (x, y) ∧ x ≠ y ∧ digB x = digB y := by
 unfold verF at h1 h2
 split at h1
 ·rename_i e1
  split at h2
  ·cases h1; cases h2; exact .inl rfl
  ·obtain ⟨c, L', rfl, hc, hd⟩ := verL_empty h2
   right
   refine ⟨textCode [], c, ?_, fun e => hc e.symm, by rw [hd, e1.2]⟩
   rw [e1.1, orE, if_pos rfl, orE, if_neg (by simp), exF, if_neg (fun e => hc e.symm)]
 ·split at h2
  ·rename_i e2
   obtain ⟨c, L', rfl, hc, hd⟩ := verL_empty h1
   right
   refine ⟨c, textCode [], ?_, hc, by rw [hd, e2.2]⟩
   rw [e2.1, orE, if_neg (by simp), orE, if_pos rfl, exF, if_neg hc]
  ·rcases verL_two _ _ _ _ _ _ _ h1 h2 with ⟨rfl, rfl⟩ | hx
   ·exact .inl rfl
   ·right
    obtain ⟨c, L', rfl, -⟩ := verL_empty h1
    obtain ⟨d, L'', rfl, -⟩ := verL_empty h2
    rwa [orE, if_neg (by simp), orE, if_neg (by simp)]
theorem ver_sound {t : Nd} {p : ByteArray} (hc : t.can 64) (hp : p.size = 64) (hnb : nib (bytesOf p)) {L : List (List Nat)} {o : Option ByteArray} (h : verF t.dig p L = .ok o) :
  o = t.get (bytesOf p) ∨ ∃ x y, exF (orE (t.prove p)) (orE L) = some (x, y) ∧ x ≠ y ∧ digB x = digB y := by
 rcases verF_two (ver_honest hc hp hnb) h with e | hx
 ·exact .inl e.symm
 ·exact .inr hx
end Go.Proofs.YtjiikjpnlgogfaaGreatDoor
namespace Go.Proofs.YtjiikjpnlgogfaaGreatDoor
open Go.RowKit
def exV : Option (List Nat × List Nat) → Value
 | none => .tuple #[.string ⟨#[]⟩, .string ⟨#[]⟩, .bool false]
 | some (x, y) => .tuple #[.string (textB x), .string (textB y), .bool (decide (digB x = digB y))]
set_option maxRecDepth 100000 in
set_option maxHeartbeats 1600000 in
theorem orempty_any {w : World} (p : Option Addr) (l : List ByteArray) (c : Nat) (hr : StrRow w p l c) :
  Calls Tryz.prog 102 #[.slice p l.length c] w fun e w' => ∃ (g o : Nat) (l' : List ByteArray) (c' : Nat), e = .returned (.slice (some ⟨g, o, none⟩) l'.length c') ∧ l'.map bytesOf = orE (l.map bytesOf) ∧ l'.length ≤ l.length + 1 ∧ l'.length ≤ c' ∧ w'.rangeAt g o (l'.map Value.string) ∧ g < w'.heap.size ∧ (w.heap.size ≤ g ∨ (p = some ⟨g, o, none⟩ ∧ g < w.heap.size)) ∧ Below w.heap.size w w' := by
 by_cases h0 : l = []
 ·subst h0
  obtain ⟨E, hE⟩ : ∃ E, textB (textCode []) = E := ⟨_, rfl⟩
  have HE := Hid.hide hE
  have HC := Hid.hide (empty_any w)
  rw [hE] at HC
  clear hE hr
  show Calls Tryz.prog 102 #[.slice p 0 c] w _
  go_enter Tryz.func102, Tryz.ntmps102
  go_wp2_with fail
  refine HC.out.mono ?_
  rintro e w1 ⟨rfl, hb1⟩
  have HB := Hid.hide hb1
  clear hb1
  go_wp2
  go_ret
  refine ⟨w1.heap.size, 0, [E], 1, rfl, ?_, by simp, by simp, ?_, by simp, .inl HB.out.size, Below.behind HB.out ((Below.refl _ _).alloc (Nat.le_refl _) _)⟩
  ·rw [← HE.out]
   show [bytesOf (textB (textCode []))] = orE []
   rw [bytesOf_textB (by decide), orE, if_pos rfl]
  ·intro j u hu
   rw [Nat.zero_add, World.cell?_alloc_new]
   simpa using hu
 ·have hlen : ((l.length : Int) == 0) = false := by
   have : 0 < l.length := List.length_pos_iff.2 h0
   simp; omega
  rcases hr with ⟨_, h, _⟩ | ⟨g, o, rfl, e2, e3, e4⟩
  ·exact absurd h h0
  have HX : Hid (l ≠ [] ∧ l.length ≤ c ∧ g < w.heap.size ∧ w.rangeAt g o (l.map Value.string)) := ⟨h0, e2, e3 (List.length_pos_iff.2 h0), e4⟩
  clear h0 e2 e3 e4
  obtain ⟨m, hm⟩ : ∃ m, l.length = m := ⟨_, rfl⟩
  have HM := Hid.hide hm
  rw [hm] at hlen ⊢
  clear hm
  go_enter Tryz.func102, Tryz.ntmps102
  go_wp2
  go_ret
  exact ⟨g, o, l, c, by rw [HM.out]; rfl, by rw [orE, if_neg (by simpa using HX.out.1)], by rw [HM.out]; omega, HX.out.2.1, HX.out.2.2.2, HX.out.2.2.1, .inr ⟨rfl, HX.out.2.2.1⟩, Below.refl _ _⟩
theorem tprove_can {B : Nat} {S : Wood} {w : World} {b : Nat} {t : Nd} {K : Array Nat} (hf : Forest B S w) (hTb : Tabs w) (hM : 16 ≤ B) (ht : TreeAt S w b t) (hc : t.can 64) (hK : K.size = 32) (hKb : Bytes K) :
  Calls Tryz.prog 56 #[.pointer (some ⟨b, 0, none⟩), .agg (K.toList.map encB).toArray] w fun x w' => ∃ res, x = .returned (.tuple #[res, .nilIface]) ∧ Fr B S S w w' ∧ OwnC w' w.heap.size 1 res (t.prove (textB (nibs K.toList))).length (strs (t.prove (textB (nibs K.toList)))) := by
 obtain ⟨p, hp⟩ : ∃ p, textB (nibs K.toList) = p := ⟨_, rfl⟩
 obtain ⟨hp1, hp2, hp3⟩ := key_path hK hKb
 rw [hp] at hp1 hp3 ⊢
 have hnb : nib (bytesOf p) := by rw [hp1]; exact hp2
 have hc' : t.can p.size := by rw [hp3]; exact hc
 obtain ⟨l, e, r', hT, hl⟩ := way_ex p.size t p (Nat.le_refl _) hc'
 obtain ⟨_, he, _, _⟩ := way_get hT hc'
 obtain ⟨_, hfit⟩ := t.can_ok p.size hc' (by omega)
 have hL' : provL (l.map (·.1) ++ e.shownL) = t.prove p := by rw [hT.ways 64 hfit (by omega)]; rfl
 have := tprove_any hf hTb hM ht hK hKb hp hfit hnb (by omega) hT (fun g => can_stub he g) (by omega) hT.inner
 rw [hL'] at this
 exact this
theorem exF_eq {x : List Nat} {xs ys : List (List Nat)} : exF (x :: xs) (x :: ys) = exF xs ys := by rw [exF, if_pos rfl]
theorem exF_ne {x y : List Nat} (h : x ≠ y) (xs ys : List (List Nat)) : exF (x :: xs) (y :: ys) = some (x, y) := by rw [exF, if_neg h]
theorem exF_drop {L M : List (List Nat)} {k : Nat} (h1 : k < L.length) (h2 : k < M.length) : exF (L.drop k) (M.drop k) = if L[k] = M[k] then exF (L.drop (k + 1)) (M.drop (k + 1)) else some (L[k], M[k]) := by
 rw [List.drop_eq_getElem_cons h1, List.drop_eq_getElem_cons h2, exF]
theorem exF_end {L M : List (List Nat)} {k : Nat} (h : L.length ≤ k ∨ M.length ≤ k) : exF (L.drop k) (M.drop k) = none := by
 rcases h with h | h
 ·rw [List.drop_eq_nil_of_le h]
  cases M.drop k <;> rfl
 ·rw [List.drop_eq_nil_of_le h]
  cases L.drop k <;> rfl
theorem StrRow.frame {B : Nat} {S S' : Wood} {w w' : World} {p : Option Addr} {l : List ByteArray} {c : Nat} (h : StrRow w p l c) (hf : Fr B S S' w w') (hn : ∀ a, p = some a → S a.block = none) : StrRow w' p l c := by
 rcases h with h | ⟨g, o, rfl, e2, e3, e4⟩
 ·exact .inl h
 ·refine .inr ⟨g, o, rfl, e2, fun h => Nat.lt_of_lt_of_le (e3 h) hf.size, fun j u hu => ?_⟩
  have hj : 0 < l.length := by
   have := (List.getElem?_eq_some_iff.1 hu).1
   simp at this
   omega
  rw [World.cell?_of_block (a := ⟨g, o + j, none⟩) (hf.other g (e3 hj) (hn _ rfl))]
  exact e4 j u hu
set_option maxRecDepth 100000 in
set_option maxHeartbeats 3200000 in
theorem textract_any {B : Nat} {S : Wood} {w : World} {b : Nat} {t : Nd} {K : Array Nat} (hf : Forest B S w) (hTb : Tabs w) (hM : 16 ≤ B) (ht : TreeAt S w b t) (hc : t.can 64) (hK : K.size = 32) (hKb : Bytes K) (p : Option Addr) (l : List ByteArray) (c : Nat) (hr : StrRow w p l c) (hn : ∀ a, p = some a → S a.block = none) (hl : l.length ≤ 9223372036854775807) (hz : ∀ x ∈ l, x.size ≤ 1048576) {L : List (List Nat)} (hL : t.prove (textB (nibs K.toList)) = L) :
  Calls Tryz.prog 59 #[.pointer (some ⟨b, 0, none⟩), .agg (K.toList.map encB).toArray, .slice p l.length c] w fun x w' => x = .returned (exV (exF (orE L) (orE (l.map bytesOf)))) ∧ Fr B S S w w' := by
 obtain ⟨Kc, hKc⟩ : ∃ Kc, (K.toList.map encB).toArray = Kc := ⟨_, rfl⟩
 obtain ⟨W0, hW0⟩ : ∃ W0, w.alloc (.cells Kc 26) = W0 := ⟨_, rfl⟩
 have hrow : W0.rangeAt w.heap.size 0 (K.toList.map encB) := fun j u hu => by
  rw [← hW0, Nat.zero_add, World.cell?_alloc_new, ← hKc]
  simpa using hu
 have hb0 : Below w.heap.size w W0 := by rw [← hW0]; exact (Below.refl _ _).alloc (Nat.le_refl _) _
 have hfr := Fr.of_below hf hb0
 obtain ⟨-, -, hp3⟩ := key_path hK hKb
 have hLb : ∀ c ∈ L, ∀ y ∈ c, y < 256 := by rw [← hL]; exact prove_byte (by rw [hp3]; exact hc) (by omega)
 have hLl : L.length ≤ 1000 := by rw [← hL]; exact Nat.le_trans (prove_len _ _) (by omega)
 have HP := Hid.hide (tprove_can hfr.forest (hfr.tabs hf hTb hM) hM (ht.frame hfr) hc hK hKb)
 rw [hL] at HP
 have HX : Hid (Fr B S S w W0 ∧ Forest B S w ∧ Tabs w ∧ 16 ≤ B ∧ StrRow w p l c ∧ (∀ a, p = some a → S a.block = none) ∧ l.length ≤ 9223372036854775807 ∧ (∀ x ∈ l, x.size ≤ 1048576) ∧ (∀ c ∈ L, ∀ y ∈ c, y < 256) ∧ L.length ≤ 1000) := ⟨hfr, hf, hTb, hM, hr, hn, hl, hz, hLb, hLl⟩
 have hzK : (Tryz.prog.info? 26).map (·.size) = some (K.toList.map encB).length := by rw [size51]; simp [hK]
 have hu26 := Tryz.underlying26
 clear hf hTb hM ht hc hK hKb hL hp3 hb0 hfr hr hn hl hz hLb hLl
 obtain ⟨m, hm⟩ : ∃ m, l.length = m := ⟨_, rfl⟩
 have HM := Hid.hide hm
 rw [hm]
 clear hm
 rw [hKc] at HP ⊢
 go_enter Tryz.func59, Tryz.ntmps59
 go_upto_region 1 with fail
 clear hW0
 rw [← hKc] at HP
 clear hKc
 go_wp2_with (refine wpList_load_mid rfl 26 _ rfl w.heap.size 0 rfl (K.toList.map encB) _ hrow hu26 rfl hzK ?_)
 refine HP.out.mono ?_
 rintro e w1 ⟨res, rfl, hf1, hO1⟩
 obtain ⟨pr, cr, rfl, hs1, -⟩ := strRow_of hO1
 have H1 : Hid (Fr B S S w w1 ∧ Forest B S w1 ∧ StrRow w1 p l c) := ⟨HX.out.1.trans hf1, hf1.forest, HX.out.2.2.2.2.1.frame (HX.out.1.trans hf1) HX.out.2.2.2.2.2.1⟩
 have HO1 := Hid.hide (orempty_any pr (L.map textB) cr hs1)
 rw [List.length_map] at HO1
 obtain ⟨mL, hmL⟩ : ∃ m, L.length = m := ⟨_, rfl⟩
 have HmL := Hid.hide hmL
 rw [hmL] at HO1 ⊢
 clear hf1 hO1 hs1 hmL HP
 go_wp2_with fail
 refine HO1.out.mono ?_
 rintro e w2 ⟨g1, o1, l1, c1, rfl, el1, eb1, ec1, er1, eg1, -, hb2⟩
 have HO2 := Hid.hide (orempty_any p l c (H1.out.2.2.below hb2))
 rw [HM.out] at HO2
 have H2 : Hid (Below w1.heap.size w1 w2 ∧ l1.map bytesOf = orE L ∧ l1.length ≤ L.length + 1 ∧ l1.length ≤ c1 ∧ w2.rangeAt g1 o1 (l1.map Value.string) ∧ g1 < w2.heap.size) := ⟨hb2, by rw [el1, texts_back HX.out.2.2.2.2.2.2.2.2.1], by rw [HmL.out]; exact eb1, ec1, er1, eg1⟩
 clear HO1 el1 eb1 ec1 er1 eg1 hb2
 obtain ⟨m1, hm1⟩ : ∃ m, l1.length = m := ⟨_, rfl⟩
 have HM1 := Hid.hide hm1
 rw [hm1]
 clear hm1
 go_wp2_with fail
 refine HO2.out.mono ?_
 rintro e w3 ⟨g2, o2, l2, c2, rfl, el2, eb2, ec2, er2, eg2, hg2, hb3⟩
 have hsz2 : ∀ x ∈ l2, x.size ≤ 1048576 := fun x hx => by
  have hm : bytesOf x ∈ l2.map bytesOf := List.mem_map_of_mem hx
  rw [el2, orE] at hm
  split at hm
  ·have : bytesOf x = textCode [] := by simpa using hm
   have hl := congrArg List.length this
   rw [bytesOf_length] at hl
   have : (textCode []).length = 1 := by decide
   omega
  ·obtain ⟨y, hy, he⟩ := List.mem_map.1 hm
   rw [← bytesOf_inj he]
   exact HX.out.2.2.2.2.2.2.2.1 y hy
 have H3 : Hid (Below w2.heap.size w2 w3 ∧ l2.map bytesOf = orE (l.map bytesOf) ∧ l2.length ≤ l.length + 1 ∧ l2.length ≤ c2 ∧ w3.rangeAt g2 o2 (l2.map Value.string) ∧ g2 < w3.heap.size ∧ w3.rangeAt g1 o1 (l1.map Value.string) ∧ g1 < w3.heap.size ∧ Fr B S S w w3) := ⟨hb3, el2, by rw [HM.out]; exact eb2, ec2, er2, eg2, rangeAt_block H2.out.2.2.2.2.1 (hb3.block _ H2.out.2.2.2.2.2), Nat.lt_of_lt_of_le H2.out.2.2.2.2.2 hb3.size, H1.out.1.behind (Below.behind H2.out.1 hb3)⟩
 clear HO2 el2 eb2 ec2 er2 eg2 hg2 hb3
 obtain ⟨m2, hm2⟩ : ∃ m, l2.length = m := ⟨_, rfl⟩
 have HM2 := Hid.hide hm2
 rw [hm2]
 clear hm2
 go_upto_region 5 with fail
 go_cut [28, 29] (fun a i wc => a = .int .i64 ((min m1 m2 : Nat) : Int) ∧ i = .int .i64 0 ∧ wc = w3)
 case first =>
  rcases Nat.le_total m1 m2 with h | h
  ·have hmi : (min m1 m2 : Nat) = m1 := Nat.min_eq_left h
   have h' : (m1 : Int) ≤ (m2 : Int) := by omega
   go_wp2
   all_goals first | (exfalso; omega) | (go_meet; exact ⟨by rw [hmi] <;> (congr 1; omega), rfl, rfl⟩)
  ·have hmi : (min m1 m2 : Nat) = m2 := Nat.min_eq_right h
   have h' : (m2 : Int) ≤ (m1 : Int) := by omega
   go_wp2
   all_goals first | (exfalso; omega) | (go_meet; exact ⟨by rw [hmi] <;> (congr 1; omega), rfl, rfl⟩)
 case rest =>
  obtain ⟨ha, hi, hw⟩ := hcut
  subst ha hi
  obtain rfl := hw.symm
  obtain ⟨mm, hmm⟩ : ∃ mm, min m1 m2 = mm := ⟨_, rfl⟩
  rw [hmm]
  have HMM : Hid (mm ≤ m1 ∧ mm ≤ m2 ∧ (mm = m1 ∨ mm = m2) ∧ mm ≤ 1001) := ⟨by omega, by omega, by omega, by have := H2.out.2.2.1; have := HX.out.2.2.2.2.2.2.2.2.2; have := HM1.out; omega⟩
  clear hmm
  go_wp2_with fail
  go_loopg [29] mm (fun gh i wr => ∃ k, k ≤ mm ∧ gh = mm - k ∧ i = .int .i64 (k : Int) ∧ Below w3.heap.size w3 wr ∧ exF (orE L) (orE (l.map bytesOf)) = exF ((l1.map bytesOf).drop k) ((l2.map bytesOf).drop k))
  case atStart => exact ⟨0, Nat.zero_le _, rfl, rfl, Below.refl _ _, by rw [H2.out.2.1, H3.out.2.1]; rfl⟩
  case round =>
   obtain ⟨k, hk, rfl, rfl, hB, hex⟩ := hrel
   by_cases hlt : k < mm
   ·have hki : (k : Int) < (mm : Int) := by omega
    have hk1 : k < l1.length := by rw [HM1.out]; have := HMM.out.1; omega
    have hk2 : k < l2.length := by rw [HM2.out]; have := HMM.out.2.1; omega
    have k1 : k < m1 := by rw [← HM1.out]; exact hk1
    have k2 : k < m2 := by rw [← HM2.out]; exact hk2
    have ki1 : (k : Int) < (m1 : Int) := by omega
    have ki2 : (k : Int) < (m2 : Int) := by omega
    obtain ⟨x, hx⟩ : ∃ x, l1[k] = x := ⟨_, rfl⟩
    obtain ⟨y, hy⟩ : ∃ y, l2[k] = y := ⟨_, rfl⟩
    have hcx : ∀ W, Below w3.heap.size w3 W → W.cell? ⟨g1, o1 + k, none⟩ = some (.string x) := fun W hW => by
     rw [hW.cell (p := ⟨g1, o1 + k, none⟩) H3.out.2.2.2.2.2.2.2.1]
     exact H3.out.2.2.2.2.2.2.1 k _ (by rw [List.getElem?_map, List.getElem?_eq_getElem hk1, hx]; rfl)
    have hcy : ∀ W, Below w3.heap.size w3 W → W.cell? ⟨g2, o2 + k, none⟩ = some (.string y) := fun W hW => by
     rw [hW.cell (p := ⟨g2, o2 + k, none⟩) H3.out.2.2.2.2.2.1]
     exact H3.out.2.2.2.2.1 k _ (by rw [List.getElem?_map, List.getElem?_eq_getElem hk2, hy]; rfl)
    have cx := hcx wr hB
    have cy := hcy wr hB
    have hex' : exF (orE L) (orE (l.map bytesOf)) = if bytesOf x = bytesOf y then exF ((l1.map bytesOf).drop (k + 1)) ((l2.map bytesOf).drop (k + 1)) else some (bytesOf x, bytesOf y) := by
     rw [hex, exF_drop (by simpa using hk1) (by simpa using hk2)]
     simp only [List.getElem_map, hx, hy]
    have hyz : y.size ≤ 1048576 := by rw [← hy]; exact hsz2 _ (List.getElem_mem hk2)
    have HC : Hid ((∀ W, Below w3.heap.size w3 W → W.cell? ⟨g1, o1 + k, none⟩ = some (.string x) ∧ W.cell? ⟨g2, o2 + k, none⟩ = some (.string y)) ∧ y.size ≤ 1048576 ∧ k ≤ mm ∧ Below w3.heap.size w3 wr) := ⟨fun W hW => ⟨hcx W hW, hcy W hW⟩, hyz, hk, hB⟩
    have HXX := Hid.hide hex'
    clear hex hex' hcx hcy hx hy hB hk hyz hk1 hk2
    by_cases hxy : x = y
    ·subst hxy
     have hw1 : wrap64 ((k : Int) + 1) = ((k + 1 : Nat) : Int) := by unfold wrap64; have := HMM.out.2.2.2; omega
     have HE : Hid (exF (orE L) (orE (l.map bytesOf)) = exF ((l1.map bytesOf).drop (k + 1)) ((l2.map bytesOf).drop (k + 1)) ∧ wrap64 ((k : Int) + 1) = ((k + 1 : Nat) : Int)) := ⟨by rw [HXX.out, if_pos rfl], hw1⟩
     clear hw1
     go_upto_region 8 with fail
     go_region
     go_wp2
     go_roundg (mm - (k + 1))
     case measure => omega
     case rel => exact ⟨k + 1, by omega, rfl, by rw [HE.out.2], HC.out.2.2.2.drew, HE.out.1⟩
    ·have HNE : Hid (exF (orE L) (orE (l.map bytesOf)) = some (bytesOf x, bytesOf y)) := by
      show exF (orE L) (orE (l.map bytesOf)) = some (bytesOf x, bytesOf y)
      rw [HXX.out, if_neg fun e => hxy (bytesOf_inj e)]
     have hne := toList_ne' hxy
     go_upto_region 8 with fail
     go_region
     go_wp2_with fail
     clear hne
     obtain ⟨dx, hdx⟩ : ∃ d, digB (bytesOf x) = d := ⟨_, rfl⟩
     obtain ⟨dy, hdy⟩ : ∃ d, digB (bytesOf y) = d := ⟨_, rfl⟩
     have hOf : ∀ (s : ByteArray) (d : List Nat), digB (bytesOf s) = d → ∀ W, Below wr.heap.size wr W → Calls Tryz.prog 48 #[.string s] W fun e w' => e = .returned (.agg (d.map encB).toArray) ∧ Below W.heap.size W w' := fun s d hd W hW => by
      have hF := H3.out.2.2.2.2.2.2.2.2.behind (Below.behind HC.out.2.2.2 hW)
      have := of_any s W (hF.tabs HX.out.2.1 HX.out.2.2.1 HX.out.2.2.2.1) (Nat.le_trans HX.out.2.2.2.1 (Nat.le_trans HX.out.2.1.le hF.size))
      rw [show (digF s).toList = d by rw [← hd, digB, textB_bytesOf]] at this
      exact this
     have HDx := Hid.hide (hOf x dx hdx)
     have HDy := Hid.hide (hOf y dy hdy)
     have HCmp := Hid.hide (hash_cmp dx dy (by rw [← hdx]; exact digB_length _) (by rw [← hdy]; exact digB_length _) (by rw [← hdx]; exact digB_byte _) (by rw [← hdy]; exact digB_byte _))
     have HDD : Hid (digB (bytesOf x) = dx ∧ digB (bytesOf y) = dy) := ⟨hdx, hdy⟩
     clear hOf hdx hdy
     refine wp_region_any (by kernel_rfl) ?_
     change wpAny _ _ _ _ _ _ _ (World.drew _)
     obtain ⟨vf, hvf⟩ : ∃ vf : Nat → Option Value, vf = fun i => ([some (.slice (some ⟨g1, o1, none⟩) m1 c1), some (.int .i64 (k : Int)), some (.pointer (some ⟨g1, o1 + k, none⟩)), some (.string x), some (.slice (some ⟨g2, o2, none⟩) m2 c2), some (.int .i64 (k : Int)), some (.pointer (some ⟨g2, o2 + k, none⟩)), some (.string y), some (.string y), some (.slice (some ⟨g1, o1, none⟩) m1 c1), some (.int .i64 (k : Int)), some (.pointer (some ⟨g1, o1 + k, none⟩)), some (.string x), some (.agg (dx.map encB).toArray), some (.slice (some ⟨g2, o2, none⟩) m2 c2), some (.int .i64 (k : Int)), some (.pointer (some ⟨g2, o2 + k, none⟩)), some (.string y), some (.agg (dy.map encB).toArray), some (.bool (decide (dx = dy))), some (.string x), some (.string y), some (.bool (decide (dx = dy)))] : List (Option Value)).getD i none := ⟨_, rfl⟩
     refine wpAny_vary _ (fun d v w' => (∀ i x, vf i = some x → d i = true → v i = x) ∧ (fun d v w' => Below wr.heap.size wr w') d v w') (by kernel_rfl) (by kernel_rfl) ?_ _ (fun _ => undef) ?_ ?_
     ·intro i o ho listed val b W hsat hnew hdeps hI
      have hi : i < 23 := (Array.getElem?_eq_some_iff.1 ho).1
      match i, hi with
      | 0, _ =>
       obtain rfl := Option.some.inj ho
       have t9 : b.tmps[9]? = some (.slice (some ⟨g1, o1, none⟩) m1 c1) := (hsat.rest 9 (fun i _ => noDst_of (by kernel_rfl) i)).trans rfl
       refine Oper.wp_mono (K := fun a' w' => a' = b.put (some 41) (.slice (some ⟨g1, o1, none⟩) m1 c1) ∧ w' = W) (by rintro a' w' ⟨rfl, rfl⟩; exact ⟨_, rfl, vals_step hI.1 (by rw [hvf]; rfl), hI.2⟩) ?_
       clear ho hdeps hsat hI hnew hvf
       go_simp
      | 1, _ =>
       obtain rfl := Option.some.inj ho
       have t11 : b.tmps[11]? = some (.int .i64 (k : Int)) := (hsat.rest 11 (fun i _ => noDst_of (by kernel_rfl) i)).trans rfl
       refine Oper.wp_mono (K := fun a' w' => a' = b.put (some 42) (.int .i64 (k : Int)) ∧ w' = W) (by rintro a' w' ⟨rfl, rfl⟩; exact ⟨_, rfl, vals_step hI.1 (by rw [hvf]; rfl), hI.2⟩) ?_
       clear ho hdeps hsat hI hnew hvf
       go_simp
      | 2, _ =>
       obtain rfl := Option.some.inj ho
       have t41 : b.tmps[41]? = some (.slice (some ⟨g1, o1, none⟩) m1 c1) := (hsat.done 0 41 (hdeps ⟨0, .data⟩ (by simp) rfl) rfl (by simp)).trans (congrArg some (hI.1 0 _ (by rw [hvf]; rfl) (hdeps ⟨0, .data⟩ (by simp) rfl)))
       have t42 : b.tmps[42]? = some (.int .i64 (k : Int)) := (hsat.done 1 42 (hdeps ⟨1, .data⟩ (by simp) rfl) rfl (by simp)).trans (congrArg some (hI.1 1 _ (by rw [hvf]; rfl) (hdeps ⟨1, .data⟩ (by simp) rfl)))
       refine Oper.wp_mono (K := fun a' w' => a' = b.put (some 43) (.pointer (some ⟨g1, o1 + k, none⟩)) ∧ w' = W) (by rintro a' w' ⟨rfl, rfl⟩; exact ⟨_, rfl, vals_step hI.1 (by rw [hvf]; rfl), hI.2⟩) ?_
       clear ho hdeps hsat hI hnew hvf
       go_simp
      | 3, _ =>
       obtain rfl := Option.some.inj ho
       have t43 : b.tmps[43]? = some (.pointer (some ⟨g1, o1 + k, none⟩)) := (hsat.done 2 43 (hdeps ⟨2, .data⟩ (by simp) rfl) rfl (by simp)).trans (congrArg some (hI.1 2 _ (by rw [hvf]; rfl) (hdeps ⟨2, .data⟩ (by simp) rfl)))
       have cx := (HC.out.1 W (HC.out.2.2.2.behind' hI.2)).1
       refine Oper.wp_mono (K := fun a' w' => a' = b.put (some 44) (.string x) ∧ w' = W) (by rintro a' w' ⟨rfl, rfl⟩; exact ⟨_, rfl, vals_step hI.1 (by rw [hvf]; rfl), hI.2⟩) ?_
       clear ho hdeps hsat hI hnew hvf
       go_simp
      | 4, _ =>
       obtain rfl := Option.some.inj ho
       have t2 : b.tmps[2]? = some (.slice (some ⟨g2, o2, none⟩) m2 c2) := (hsat.rest 2 (fun i _ => noDst_of (by kernel_rfl) i)).trans rfl
       refine Oper.wp_mono (K := fun a' w' => a' = b.put (some 45) (.slice (some ⟨g2, o2, none⟩) m2 c2) ∧ w' = W) (by rintro a' w' ⟨rfl, rfl⟩; exact ⟨_, rfl, vals_step hI.1 (by rw [hvf]; rfl), hI.2⟩) ?_
       clear ho hdeps hsat hI hnew hvf
       go_simp
      | 5, _ =>
       obtain rfl := Option.some.inj ho
       have t11 : b.tmps[11]? = some (.int .i64 (k : Int)) := (hsat.rest 11 (fun i _ => noDst_of (by kernel_rfl) i)).trans rfl
       refine Oper.wp_mono (K := fun a' w' => a' = b.put (some 46) (.int .i64 (k : Int)) ∧ w' = W) (by rintro a' w' ⟨rfl, rfl⟩; exact ⟨_, rfl, vals_step hI.1 (by rw [hvf]; rfl), hI.2⟩) ?_
       clear ho hdeps hsat hI hnew hvf
       go_simp
      | 6, _ =>
       obtain rfl := Option.some.inj ho
       have t45 : b.tmps[45]? = some (.slice (some ⟨g2, o2, none⟩) m2 c2) := (hsat.done 4 45 (hdeps ⟨4, .data⟩ (by simp) rfl) rfl (by simp)).trans (congrArg some (hI.1 4 _ (by rw [hvf]; rfl) (hdeps ⟨4, .data⟩ (by simp) rfl)))
       have t46 : b.tmps[46]? = some (.int .i64 (k : Int)) := (hsat.done 5 46 (hdeps ⟨5, .data⟩ (by simp) rfl) rfl (by simp)).trans (congrArg some (hI.1 5 _ (by rw [hvf]; rfl) (hdeps ⟨5, .data⟩ (by simp) rfl)))
       refine Oper.wp_mono (K := fun a' w' => a' = b.put (some 47) (.pointer (some ⟨g2, o2 + k, none⟩)) ∧ w' = W) (by rintro a' w' ⟨rfl, rfl⟩; exact ⟨_, rfl, vals_step hI.1 (by rw [hvf]; rfl), hI.2⟩) ?_
       clear ho hdeps hsat hI hnew hvf
       go_simp
      | 7, _ =>
       obtain rfl := Option.some.inj ho
       have t47 : b.tmps[47]? = some (.pointer (some ⟨g2, o2 + k, none⟩)) := (hsat.done 6 47 (hdeps ⟨6, .data⟩ (by simp) rfl) rfl (by simp)).trans (congrArg some (hI.1 6 _ (by rw [hvf]; rfl) (hdeps ⟨6, .data⟩ (by simp) rfl)))
       have cy := (HC.out.1 W (HC.out.2.2.2.behind' hI.2)).2
       refine Oper.wp_mono (K := fun a' w' => a' = b.put (some 48) (.string y) ∧ w' = W) (by rintro a' w' ⟨rfl, rfl⟩; exact ⟨_, rfl, vals_step hI.1 (by rw [hvf]; rfl), hI.2⟩) ?_
       clear ho hdeps hsat hI hnew hvf
       go_simp
      | 8, _ =>
       obtain rfl := Option.some.inj ho
       have t48 : b.tmps[48]? = some (.string y) := (hsat.done 7 48 (hdeps ⟨7, .data⟩ (by simp) rfl) rfl (by simp)).trans (congrArg some (hI.1 7 _ (by rw [hvf]; rfl) (hdeps ⟨7, .data⟩ (by simp) rfl)))
       obtain ⟨G, hG⟩ : ∃ G : Value → World → Prop, ∀ x w', G x w' ↔ ((∀ j y, vf j = some y → (fun k => if k = 8 then true else listed.getD k false) j = true → (fun k => if k = 8 then x else val k) j = y) ∧ Below wr.heap.size wr w') := ⟨_, fun _ _ => Iff.rfl⟩
       refine Oper.wp_mono (K := fun a' w' => ∃ v, a' = b.put (some 49) v ∧ G v w') (by rintro a' w' ⟨v, rfl, hv⟩; exact ⟨v, rfl, (hG v w').1 hv⟩) ?_
       have HG := Hid.hide hG
       have HI := Hid.hide hI
       have HVF := Hid.hide hvf
       clear hG ho hdeps hsat hI hnew hvf
       go_simp
       go_at_call 86
       refine (clone_any y W HC.out.2.1).mono ?_
       rintro e w9 ⟨rfl, hb9⟩
       exact ⟨_, rfl, (HG.out _ _).2 ⟨vals_step HI.out.1 (by rw [HVF.out]; rfl), HI.out.2.behind' hb9⟩⟩
      | 9, _ =>
       obtain rfl := Option.some.inj ho
       have t9 : b.tmps[9]? = some (.slice (some ⟨g1, o1, none⟩) m1 c1) := (hsat.rest 9 (fun i _ => noDst_of (by kernel_rfl) i)).trans rfl
       refine Oper.wp_mono (K := fun a' w' => a' = b.put (some 50) (.slice (some ⟨g1, o1, none⟩) m1 c1) ∧ w' = W) (by rintro a' w' ⟨rfl, rfl⟩; exact ⟨_, rfl, vals_step hI.1 (by rw [hvf]; rfl), hI.2⟩) ?_
       clear ho hdeps hsat hI hnew hvf
       go_simp
      | 10, _ =>
       obtain rfl := Option.some.inj ho
       have t11 : b.tmps[11]? = some (.int .i64 (k : Int)) := (hsat.rest 11 (fun i _ => noDst_of (by kernel_rfl) i)).trans rfl
       refine Oper.wp_mono (K := fun a' w' => a' = b.put (some 51) (.int .i64 (k : Int)) ∧ w' = W) (by rintro a' w' ⟨rfl, rfl⟩; exact ⟨_, rfl, vals_step hI.1 (by rw [hvf]; rfl), hI.2⟩) ?_
       clear ho hdeps hsat hI hnew hvf
       go_simp
      | 11, _ =>
       obtain rfl := Option.some.inj ho
       have t50 : b.tmps[50]? = some (.slice (some ⟨g1, o1, none⟩) m1 c1) := (hsat.done 9 50 (hdeps ⟨9, .data⟩ (by simp) rfl) rfl (by simp)).trans (congrArg some (hI.1 9 _ (by rw [hvf]; rfl) (hdeps ⟨9, .data⟩ (by simp) rfl)))
       have t51 : b.tmps[51]? = some (.int .i64 (k : Int)) := (hsat.done 10 51 (hdeps ⟨10, .data⟩ (by simp) rfl) rfl (by simp)).trans (congrArg some (hI.1 10 _ (by rw [hvf]; rfl) (hdeps ⟨10, .data⟩ (by simp) rfl)))
       refine Oper.wp_mono (K := fun a' w' => a' = b.put (some 52) (.pointer (some ⟨g1, o1 + k, none⟩)) ∧ w' = W) (by rintro a' w' ⟨rfl, rfl⟩; exact ⟨_, rfl, vals_step hI.1 (by rw [hvf]; rfl), hI.2⟩) ?_
       clear ho hdeps hsat hI hnew hvf
       go_simp
      | 12, _ =>
       obtain rfl := Option.some.inj ho
       have t52 : b.tmps[52]? = some (.pointer (some ⟨g1, o1 + k, none⟩)) := (hsat.done 11 52 (hdeps ⟨11, .data⟩ (by simp) rfl) rfl (by simp)).trans (congrArg some (hI.1 11 _ (by rw [hvf]; rfl) (hdeps ⟨11, .data⟩ (by simp) rfl)))
       have cx := (HC.out.1 W (HC.out.2.2.2.behind' hI.2)).1
       refine Oper.wp_mono (K := fun a' w' => a' = b.put (some 53) (.string x) ∧ w' = W) (by rintro a' w' ⟨rfl, rfl⟩; exact ⟨_, rfl, vals_step hI.1 (by rw [hvf]; rfl), hI.2⟩) ?_
       clear ho hdeps hsat hI hnew hvf
       go_simp
      | 13, _ =>
       obtain rfl := Option.some.inj ho
       have t53 : b.tmps[53]? = some (.string x) := (hsat.done 12 53 (hdeps ⟨12, .data⟩ (by simp) rfl) rfl (by simp)).trans (congrArg some (hI.1 12 _ (by rw [hvf]; rfl) (hdeps ⟨12, .data⟩ (by simp) rfl)))
       obtain ⟨G, hG⟩ : ∃ G : Value → World → Prop, ∀ x w', G x w' ↔ ((∀ j y, vf j = some y → (fun k => if k = 13 then true else listed.getD k false) j = true → (fun k => if k = 13 then x else val k) j = y) ∧ Below wr.heap.size wr w') := ⟨_, fun _ _ => Iff.rfl⟩
       refine Oper.wp_mono (K := fun a' w' => ∃ v, a' = b.put (some 54) v ∧ G v w') (by rintro a' w' ⟨v, rfl, hv⟩; exact ⟨v, rfl, (hG v w').1 hv⟩) ?_
       have HG := Hid.hide hG
       have HI := Hid.hide hI
       have HVF := Hid.hide hvf
       clear hG ho hdeps hsat hI hnew hvf
       go_simp
       go_at_call 48
       refine (HDx.out W HI.out.2).mono ?_
       rintro e w9 ⟨rfl, hb9⟩
       exact ⟨_, rfl, (HG.out _ _).2 ⟨vals_step HI.out.1 (by rw [HVF.out]; rfl), HI.out.2.behind' hb9⟩⟩
      | 14, _ =>
       obtain rfl := Option.some.inj ho
       have t2 : b.tmps[2]? = some (.slice (some ⟨g2, o2, none⟩) m2 c2) := (hsat.rest 2 (fun i _ => noDst_of (by kernel_rfl) i)).trans rfl
       refine Oper.wp_mono (K := fun a' w' => a' = b.put (some 55) (.slice (some ⟨g2, o2, none⟩) m2 c2) ∧ w' = W) (by rintro a' w' ⟨rfl, rfl⟩; exact ⟨_, rfl, vals_step hI.1 (by rw [hvf]; rfl), hI.2⟩) ?_
       clear ho hdeps hsat hI hnew hvf
       go_simp
      | 15, _ =>
       obtain rfl := Option.some.inj ho
       have t11 : b.tmps[11]? = some (.int .i64 (k : Int)) := (hsat.rest 11 (fun i _ => noDst_of (by kernel_rfl) i)).trans rfl
       refine Oper.wp_mono (K := fun a' w' => a' = b.put (some 56) (.int .i64 (k : Int)) ∧ w' = W) (by rintro a' w' ⟨rfl, rfl⟩; exact ⟨_, rfl, vals_step hI.1 (by rw [hvf]; rfl), hI.2⟩) ?_
       clear ho hdeps hsat hI hnew hvf
       go_simp
      | 16, _ =>
       obtain rfl := Option.some.inj ho
       have t55 : b.tmps[55]? = some (.slice (some ⟨g2, o2, none⟩) m2 c2) := (hsat.done 14 55 (hdeps ⟨14, .data⟩ (by simp) rfl) rfl (by simp)).trans (congrArg some (hI.1 14 _ (by rw [hvf]; rfl) (hdeps ⟨14, .data⟩ (by simp) rfl)))
       have t56 : b.tmps[56]? = some (.int .i64 (k : Int)) := (hsat.done 15 56 (hdeps ⟨15, .data⟩ (by simp) rfl) rfl (by simp)).trans (congrArg some (hI.1 15 _ (by rw [hvf]; rfl) (hdeps ⟨15, .data⟩ (by simp) rfl)))
       refine Oper.wp_mono (K := fun a' w' => a' = b.put (some 57) (.pointer (some ⟨g2, o2 + k, none⟩)) ∧ w' = W) (by rintro a' w' ⟨rfl, rfl⟩; exact ⟨_, rfl, vals_step hI.1 (by rw [hvf]; rfl), hI.2⟩) ?_
       clear ho hdeps hsat hI hnew hvf
       go_simp
      | 17, _ =>
       obtain rfl := Option.some.inj ho
       have t57 : b.tmps[57]? = some (.pointer (some ⟨g2, o2 + k, none⟩)) := (hsat.done 16 57 (hdeps ⟨16, .data⟩ (by simp) rfl) rfl (by simp)).trans (congrArg some (hI.1 16 _ (by rw [hvf]; rfl) (hdeps ⟨16, .data⟩ (by simp) rfl)))
       have cy := (HC.out.1 W (HC.out.2.2.2.behind' hI.2)).2
       refine Oper.wp_mono (K := fun a' w' => a' = b.put (some 58) (.string y) ∧ w' = W) (by rintro a' w' ⟨rfl, rfl⟩; exact ⟨_, rfl, vals_step hI.1 (by rw [hvf]; rfl), hI.2⟩) ?_
       clear ho hdeps hsat hI hnew hvf
       go_simp
      | 18, _ =>
       obtain rfl := Option.some.inj ho
       have t58 : b.tmps[58]? = some (.string y) := (hsat.done 17 58 (hdeps ⟨17, .data⟩ (by simp) rfl) rfl (by simp)).trans (congrArg some (hI.1 17 _ (by rw [hvf]; rfl) (hdeps ⟨17, .data⟩ (by simp) rfl)))
       obtain ⟨G, hG⟩ : ∃ G : Value → World → Prop, ∀ x w', G x w' ↔ ((∀ j y, vf j = some y → (fun k => if k = 18 then true else listed.getD k false) j = true → (fun k => if k = 18 then x else val k) j = y) ∧ Below wr.heap.size wr w') := ⟨_, fun _ _ => Iff.rfl⟩
       refine Oper.wp_mono (K := fun a' w' => ∃ v, a' = b.put (some 59) v ∧ G v w') (by rintro a' w' ⟨v, rfl, hv⟩; exact ⟨v, rfl, (hG v w').1 hv⟩) ?_
       have HG := Hid.hide hG
       have HI := Hid.hide hI
       have HVF := Hid.hide hvf
       clear hG ho hdeps hsat hI hnew hvf
       go_simp
       go_at_call 48
       refine (HDy.out W HI.out.2).mono ?_
       rintro e w9 ⟨rfl, hb9⟩
       exact ⟨_, rfl, (HG.out _ _).2 ⟨vals_step HI.out.1 (by rw [HVF.out]; rfl), HI.out.2.behind' hb9⟩⟩
      | 19, _ =>
       obtain rfl := Option.some.inj ho
       have t54 : b.tmps[54]? = some (.agg (dx.map encB).toArray) := (hsat.done 13 54 (hdeps ⟨13, .data⟩ (by simp) rfl) rfl (by simp)).trans (congrArg some (hI.1 13 _ (by rw [hvf]; rfl) (hdeps ⟨13, .data⟩ (by simp) rfl)))
       have t59 : b.tmps[59]? = some (.agg (dy.map encB).toArray) := (hsat.done 18 59 (hdeps ⟨18, .data⟩ (by simp) rfl) rfl (by simp)).trans (congrArg some (hI.1 18 _ (by rw [hvf]; rfl) (hdeps ⟨18, .data⟩ (by simp) rfl)))
       have hq := HCmp.out W
       refine Oper.wp_mono (K := fun a' w' => a' = b.put (some 60) (.bool (decide (dx = dy))) ∧ w' = W) (by rintro a' w' ⟨rfl, rfl⟩; exact ⟨_, rfl, vals_step hI.1 (by rw [hvf]; rfl), hI.2⟩) ?_
       clear ho hdeps hsat hI hnew hvf
       go_simp
      | 20, _ =>
       obtain rfl := Option.some.inj ho
       have t44 : b.tmps[44]? = some (.string x) := (hsat.done 3 44 (hdeps ⟨3, .data⟩ (by simp) rfl) rfl (by simp)).trans (congrArg some (hI.1 3 _ (by rw [hvf]; rfl) (hdeps ⟨3, .data⟩ (by simp) rfl)))
       refine Oper.wp_mono (K := fun a' w' => a' = b.put (some 6) (.string x) ∧ w' = W) (by rintro a' w' ⟨rfl, rfl⟩; exact ⟨_, rfl, vals_step hI.1 (by rw [hvf]; rfl), hI.2⟩) ?_
       clear ho hdeps hsat hI hnew hvf
       go_simp
      | 21, _ =>
       obtain rfl := Option.some.inj ho
       have t49 : b.tmps[49]? = some (.string y) := (hsat.done 8 49 (hdeps ⟨8, .data⟩ (by simp) rfl) rfl (by simp)).trans (congrArg some (hI.1 8 _ (by rw [hvf]; rfl) (hdeps ⟨8, .data⟩ (by simp) rfl)))
       refine Oper.wp_mono (K := fun a' w' => a' = b.put (some 7) (.string y) ∧ w' = W) (by rintro a' w' ⟨rfl, rfl⟩; exact ⟨_, rfl, vals_step hI.1 (by rw [hvf]; rfl), hI.2⟩) ?_
       clear ho hdeps hsat hI hnew hvf
       go_simp
      | 22, _ =>
       obtain rfl := Option.some.inj ho
       have t60 : b.tmps[60]? = some (.bool (decide (dx = dy))) := (hsat.done 19 60 (hdeps ⟨19, .data⟩ (by simp) rfl) rfl (by simp)).trans (congrArg some (hI.1 19 _ (by rw [hvf]; rfl) (hdeps ⟨19, .data⟩ (by simp) rfl)))
       refine Oper.wp_mono (K := fun a' w' => a' = b.put (some 8) (.bool (decide (dx = dy))) ∧ w' = W) (by rintro a' w' ⟨rfl, rfl⟩; exact ⟨_, rfl, vals_step hI.1 (by rw [hvf]; rfl), hI.2⟩) ?_
       clear ho hdeps hsat hI hnew hvf
       go_simp
     ·exact ⟨fun _ _ _ h => (by simp at h), ((Below.refl _ _).drew).drew⟩
     ·intro val W hI
      have e0 : val 0 = .slice (some ⟨g1, o1, none⟩) m1 c1 := hI.1 0 _ (by rw [hvf]; rfl) rfl
      have e1 : val 1 = .int .i64 (k : Int) := hI.1 1 _ (by rw [hvf]; rfl) rfl
      have e2 : val 2 = .pointer (some ⟨g1, o1 + k, none⟩) := hI.1 2 _ (by rw [hvf]; rfl) rfl
      have e3 : val 3 = .string x := hI.1 3 _ (by rw [hvf]; rfl) rfl
      have e4 : val 4 = .slice (some ⟨g2, o2, none⟩) m2 c2 := hI.1 4 _ (by rw [hvf]; rfl) rfl
      have e5 : val 5 = .int .i64 (k : Int) := hI.1 5 _ (by rw [hvf]; rfl) rfl
      have e6 : val 6 = .pointer (some ⟨g2, o2 + k, none⟩) := hI.1 6 _ (by rw [hvf]; rfl) rfl
      have e7 : val 7 = .string y := hI.1 7 _ (by rw [hvf]; rfl) rfl
      have e8 : val 8 = .string y := hI.1 8 _ (by rw [hvf]; rfl) rfl
      have e9 : val 9 = .slice (some ⟨g1, o1, none⟩) m1 c1 := hI.1 9 _ (by rw [hvf]; rfl) rfl
      have e10 : val 10 = .int .i64 (k : Int) := hI.1 10 _ (by rw [hvf]; rfl) rfl
      have e11 : val 11 = .pointer (some ⟨g1, o1 + k, none⟩) := hI.1 11 _ (by rw [hvf]; rfl) rfl
      have e12 : val 12 = .string x := hI.1 12 _ (by rw [hvf]; rfl) rfl
      have e13 : val 13 = .agg (dx.map encB).toArray := hI.1 13 _ (by rw [hvf]; rfl) rfl
      have e14 : val 14 = .slice (some ⟨g2, o2, none⟩) m2 c2 := hI.1 14 _ (by rw [hvf]; rfl) rfl
      have e15 : val 15 = .int .i64 (k : Int) := hI.1 15 _ (by rw [hvf]; rfl) rfl
      have e16 : val 16 = .pointer (some ⟨g2, o2 + k, none⟩) := hI.1 16 _ (by rw [hvf]; rfl) rfl
      have e17 : val 17 = .string y := hI.1 17 _ (by rw [hvf]; rfl) rfl
      have e18 : val 18 = .agg (dy.map encB).toArray := hI.1 18 _ (by rw [hvf]; rfl) rfl
      have e19 : val 19 = .bool (decide (dx = dy)) := hI.1 19 _ (by rw [hvf]; rfl) rfl
      have e20 : val 20 = .string x := hI.1 20 _ (by rw [hvf]; rfl) rfl
      have e21 : val 21 = .string y := hI.1 21 _ (by rw [hvf]; rfl) rfl
      have e22 : val 22 = .bool (decide (dx = dy)) := hI.1 22 _ (by rw [hvf]; rfl) rfl
      have hX := hI.2
      simp only [runFrom, Act.put, Nat.zero_add, Nat.reduceAdd, List.setIfInBounds_toArray, List.set_cons_zero, List.set_cons_succ, e0, e1, e2, e3, e4, e5, e6, e7, e8, e9, e10, e11, e12, e13, e14, e15, e16, e17, e18, e19, e20, e21, e22]
      clear hI hvf e0 e1 e2 e3 e4 e5 e6 e7 e8 e9 e10 e11 e12 e13 e14 e15 e16 e17 e18 e19 e20 e21 e22
      have HY : Hid (Below wr.heap.size wr W) := hX
      clear hX
      (try go_wp2)
      go_ret3
      rw [HNE.out, exV, textB_bytesOf, textB_bytesOf, HDD.out.1, HDD.out.2]
      exact ⟨rfl, H3.out.2.2.2.2.2.2.2.2.behind (Below.behind HC.out.2.2.2 HY.out)⟩
   ·obtain rfl : k = mm := by omega
    have hki : ¬ (k : Int) < (k : Int) := by omega
    have HE : Hid (exF (orE L) (orE (l.map bytesOf)) = none ∧ Below w3.heap.size w3 wr) := ⟨by
     rw [hex]
     apply exF_end
     rw [List.length_map, List.length_map, HM1.out, HM2.out]
     rcases HMM.out.2.2.1 with h | h
     ·exact .inl (by omega)
     ·exact .inr (by omega), hB⟩
    clear hex hB hk hlt
    go_wp2
    go_ret3
    rw [HE.out.1]
    exact ⟨rfl, H3.out.2.2.2.2.2.2.2.2.behind HE.out.2⟩
end Go.Proofs.YtjiikjpnlgogfaaGreatDoor
namespace Go.Proofs.YtjiikjpnlgogfaaGreatDoor
open Go.RowKit
theorem exV_three (o : Option (List Nat × List Nat)) : ∃ x y b, exV o = .tuple #[.string x, .string y, .bool b] := by
 cases o with
 | none => exact ⟨_, _, _, rfl⟩
 | some z => exact ⟨_, _, _, rfl⟩
set_option maxRecDepth 100000 in
set_option maxHeartbeats 1600000 in
theorem xextract_any {B : Nat} {S : Wood} {w : World} {b : Nat} {t : Nd} {K : Array Nat} (hf : Forest B S w) (hTb : Tabs w) (hM : 16 ≤ B) (ht : TreeAt S w b t) (hc : t.can 64) (hK : K.size = 32) (hKb : Bytes K) (p : Option Addr) (l : List ByteArray) (c : Nat) (hr : StrRow w p l c) (hn : ∀ a, p = some a → S a.block = none) (hl : l.length ≤ 9223372036854775807) (hz : ∀ x ∈ l, x.size ≤ 1048576) {L : List (List Nat)} (hL : t.prove (textB (nibs K.toList)) = L) :
  Calls Tryz.prog 36 #[.pointer (some ⟨b, 0, none⟩), .agg (K.toList.map encB).toArray, .slice p l.length c] w fun x w' => x = .returned (exV (exF (orE L) (orE (l.map bytesOf)))) ∧ Fr B S S w w' := by
 obtain ⟨Kc, hKc⟩ : ∃ Kc, (K.toList.map encB).toArray = Kc := ⟨_, rfl⟩
 obtain ⟨W0, hW0⟩ : ∃ W0, w.alloc (.cells Kc 26) = W0 := ⟨_, rfl⟩
 have hrow : W0.rangeAt w.heap.size 0 (K.toList.map encB) := fun j u hu => by
  rw [← hW0, Nat.zero_add, World.cell?_alloc_new, ← hKc]
  simpa using hu
 have hb0 : Below w.heap.size w W0 := by rw [← hW0]; exact (Below.refl _ _).alloc (Nat.le_refl _) _
 have hs0 : w.heap.size < W0.heap.size := by rw [← hW0]; simp
 have hfrd := Fr.of_below hf hb0.drew
 have HP := Hid.hide (textract_any hfrd.forest (hfrd.tabs hf hTb hM) hM (ht.frame hfrd) hc hK hKb p l c (hr.below hb0.drew) hn hl hz hL)
 obtain ⟨x, y, z, hx⟩ := exV_three (exF (orE L) (orE (l.map bytesOf)))
 rw [hx] at HP ⊢
 have HX : Hid (Fr B S S w W0.drew ∧ Forest B S w) := ⟨hfrd, hf⟩
 have hzK : (Tryz.prog.info? 26).map (·.size) = some (K.toList.map encB).length := by rw [size51]; simp [hK]
 have hu26 := Tryz.underlying26
 have HS0 : Hid (w.heap.size < W0.heap.size ∧ S w.heap.size = none) := ⟨hs0, hf.fresh (Nat.le_refl _)⟩
 clear hf hTb hM ht hc hK hKb hL hb0 hs0 hfrd hr hn hl hz hx
 obtain ⟨n, hn⟩ : ∃ n, l.length = n := ⟨_, rfl⟩
 rw [hn] at HP ⊢
 clear hn
 rw [hKc] at HP ⊢
 go_enter Tryz.func36, Tryz.ntmps36
 go_upto_region 1 with fail
 clear hW0
 rw [← hKc] at HP
 clear hKc
 go_region_held3 (fun w' => w'.rangeAt w.heap.size 0 (K.toList.map encB)) (first | exact hrow | exact h1)
  (first | (go_at_call 59; refine HP.out.mono ?_; rintro q w1 ⟨rfl, hf1⟩; have h1 : w1.rangeAt w.heap.size 0 (K.toList.map encB) := rangeAt_block hrow (hf1.other w.heap.size HS0.out.1 HS0.out.2); have HE : Hid (Fr B S S w w1) := HX.out.1.trans hf1; clear hf1))
 all_goals (try go_wp2)
 all_goals go_ret3
 all_goals exact ⟨rfl, HE.out⟩
def collB (x y : ByteArray) (b : Bool) : Bool := b && decide (x ≠ y) && decide ((digF x).toList = (digF y).toList)
set_option maxRecDepth 100000 in
theorem collision_any (x y : ByteArray) (b : Bool) (w : World) (hT : Tabs w) (hM : 16 ≤ w.heap.size) :
  Calls Tryz.prog 37 #[.string x, .string y, .bool b] w fun e w' => e = .returned (.bool (collB x y b)) ∧ Below w.heap.size w w' := by
 cases b with
 | false =>
  go_enter Tryz.func37, Tryz.ntmps37
  go_wp2
  go_ret
  exact ⟨rfl, Below.refl _ _⟩
 | true =>
  by_cases hxy : x = y
  ·subst hxy
   have hc : collB x x true = false := by simp [collB]
   rw [hc]
   go_enter Tryz.func37, Tryz.ntmps37
   go_wp2
   go_ret
   exact ⟨rfl, Below.refl _ _⟩
  ·have HD := Hid.hide (digest_any x w hT hM)
   have HD2 : Hid (∀ W, Below w.heap.size w W → Calls Tryz.prog 17 #[.string y] W fun e w' => e = .returned (.agg ((digF y).toList.map encB).toArray) ∧ Below W.heap.size W w') := fun W hW => digest_any y W (hT.below hW hM) (Nat.le_trans hM hW.size)
   have hq := hash_cmp (digF x).toList (digF y).toList (by rw [Array.length_toList]; exact sumF_size _) (by rw [Array.length_toList]; exact sumF_size _) (digF_lt x) (digF_lt y)
   have hc : collB x y true = decide ((digF x).toList = (digF y).toList) := by simp [collB, hxy]
   rw [hc]
   have hne := toList_ne' hxy
   obtain ⟨dx, hdx⟩ : ∃ d, (digF x).toList = d := ⟨_, rfl⟩
   obtain ⟨dy, hdy⟩ : ∃ d, (digF y).toList = d := ⟨_, rfl⟩
   rw [hdx] at HD hq ⊢
   rw [hdy] at HD2 hq ⊢
   clear hc hT hM hdx hdy
   go_enter Tryz.func37, Tryz.ntmps37
   go_wp2_with (first | (refine HD.out.mono ?_; rintro e w1 ⟨rfl, hb1⟩; have HB := Hid.hide hb1; clear hb1))
   refine (HD2.out _ HB.out).mono ?_
   rintro e w2 ⟨rfl, hb2⟩
   have HB2 := Hid.hide (HB.out.behind' hb2)
   clear hb2
   go_wp2
   go_ret
   exact ⟨rfl, HB2.out⟩
theorem kpick_ex (c : Int) (n : Nat) (h1 : -9223372036854775808 ≤ c) (h2 : c < 9223372036854775808) (hn : 0 < n) :
  ∃ k : Nat, k < n ∧ ∀ w, Calls Tryz.prog 13 #[.int .i64 c, .int .i64 (n : Int)] w fun e w' => e = .returned (.int .i64 (k : Int)) ∧ w' = w := by
 have hn0 : ¬ n = 0 := by omega
 by_cases h0 : c < 0
 ·have e := pick_val c h1 h2 h0
  obtain ⟨k, hk, ek⟩ := pick_mod (-(c + 1)) n (by omega) hn
  refine ⟨k, hk, fun w => ?_⟩
  clear h1 h2 hn hk
  go_enter Tryz.func13, Tryz.ntmps13
  go_wp2
  go_ret
  exact ⟨rfl, rfl⟩
 ·obtain ⟨k, hk, ek⟩ := pick_mod c n (by omega) hn
  have h0' : (0 : Int) ≤ c := by omega
  refine ⟨k, hk, fun w => ?_⟩
  clear h1 h2 hn hk h0
  go_enter Tryz.func13, Tryz.ntmps13
  go_wp2
  go_ret
  exact ⟨rfl, rfl⟩
theorem run_append_str (w : World) (ty : TypeId) (B : Nat) (v : Value) (n : Nat) (cs : List Value) (hown : OwnC w B 1 v n cs) (p : Option Addr) (l : List ByteArray) (c : Nat) (hr : StrRow w p l c) (hm : n + l.length ≤ 1099511627776) (hB : B ≤ w.heap.size) :
  ∃ v' w', (Builtin.append_ #[52, 52] ty #[v, .slice p l.length c]).run Tryz.prog w = .ok v' w' ∧ OwnC w' B 1 v' (n + l.length) (cs ++ l.map Value.string) ∧ w.grownBy w' v.ownBlock := by
 obtain ⟨i, h1, h2, h3, h4⟩ := info_parts strZ
 rcases hr with ⟨rfl, rfl, rfl⟩ | ⟨g, o, rfl, e2, e3, e4⟩
 ·obtain ⟨p, c, rfl, hle⟩ := hown.cap
  refine ⟨_, w, run_append_nil w _ ty _ i Tryz.underlying52 h1 p n c hle, by simpa using hown, ⟨rfl, rfl, rfl, Nat.le_refl _, fun _ _ _ => rfl⟩⟩
 ·obtain ⟨v', w', k2, k3, k4, k5, _⟩ := run_append_ownp (P := Tryz.prog) w 52 ty 9 i (.string ⟨#[]⟩) 1 16 Tryz.underlying52 h1 h2 h3 h4 rfl (by decide) B v n cs hown g o l.length c (l.map Value.string) (by simp) e4 (by simp [Value.oneCell']) (by unfold maxLen; omega) (by omega) hB
  exact ⟨v', w', k2, k3, k4⟩
theorem wpList_append_str (w : World) {ops : Array Oper} {rest : List Oper} {o : Oper} {a : Act} {Q : Exit → Act → World → Prop} (hgd : o.guard = none) (s x : Operand)
  (ho : o.op = .call { callee := .builtin .append, args := #[s, x], argTypes := #[52, 52] })
  (B : Nat) (v : Value) (n : Nat) (cs : List Value) (hs : a.eval s = v) (hown : OwnC w B 1 v n cs) (p : Option Addr) (l : List ByteArray) (c : Nat) (hx : a.eval x = .slice p l.length c) (hr : StrRow w p l c) (hm : n + l.length ≤ 1099511627776) (hB : B ≤ w.heap.size)
  (hK : ∀ v' w', OwnC w' B 1 v' (n + l.length) (cs ++ l.map Value.string) → w.grownBy w' v.ownBlock → wpList Tryz.prog ops Q rest (a.put o.dst v') w') : wpList Tryz.prog ops Q (o :: rest) a w := by
 refine wpList_plain hgd fun K hK' => ?_
 obtain ⟨v', w', hrun, r1, r2⟩ := run_append_str w o.type B v n cs hown p l c hr hm hB
 unfold Oper.wp
 simp [execOp, ho, resolve, invoke, builtin, hs, hx, hrun, Result.andThen]
 exact hK' _ _ (hK v' w' r1 r2)
theorem step_append_str (w : World) {o : Oper} {a : Act} {K : Act → World → Prop} {Q : Exit → Act → World → Prop} (s x : Operand)
  (ho : o.op = .call { callee := .builtin .append, args := #[s, x], argTypes := #[52, 52] })
  (B : Nat) (v : Value) (n : Nat) (cs : List Value) (hs : a.eval s = v) (hown : OwnC w B 1 v n cs) (p : Option Addr) (l : List ByteArray) (c : Nat) (hx : a.eval x = .slice p l.length c) (hr : StrRow w p l c) (hm : n + l.length ≤ 1099511627776) (hB : B ≤ w.heap.size)
  (hK : ∀ v' w', OwnC w' B 1 v' (n + l.length) (cs ++ l.map Value.string) → w.grownBy w' v.ownBlock → K (a.put o.dst v') w') : Oper.wp Tryz.prog o a w K Q := by
 obtain ⟨v', w', hrun, r1, r2⟩ := run_append_str w o.type B v n cs hown p l c hr hm hB
 unfold Oper.wp
 simp [execOp, ho, resolve, invoke, builtin, hs, hx, hrun, Result.andThen]
 exact hK v' w' r1 r2
theorem OwnC.texts {w : World} {B : Nat} {v : Value} {n : Nat} {l : List ByteArray} (h : OwnC w B 1 v n (l.map Value.string)) : ∃ p c, v = .slice p l.length c ∧ n = l.length ∧ StrRow w p l c ∧ ∀ a, p = some a → B ≤ a.block ∧ a.block < w.heap.size := by
 have hn : n = l.length := by have := h.1; simpa using this.symm
 subst hn
 rcases h.2 with ⟨e1, e2⟩ | ⟨g, cap, e1, e2, e3, e4, _, _, hr⟩
 ·have : l = [] := List.eq_nil_of_length_eq_zero e2
  subst this
  exact ⟨none, 0, e1, rfl, .inl ⟨rfl, rfl, rfl⟩, by simp⟩
 ·exact ⟨_, cap, e1, rfl, .inr ⟨g, 0, rfl, e4, fun _ => e3, hr⟩, fun a ha => by obtain rfl := Option.some.inj ha; exact ⟨e2, e3⟩⟩
theorem OwnC.head {w : World} {B g n cap : Nat} {cs : List Value} (h : OwnC w B 1 (.slice (some ⟨g, 0, none⟩) n cap) n cs) (i : Nat) (hi : i ≤ n) : OwnC w B 1 (.slice (some ⟨g, 0, none⟩) i cap) i (cs.take i) := by
 rcases h.2 with ⟨e1, _⟩ | ⟨g', cap', e1, e2, e3, e4, e5, e6, hr⟩
 ·cases e1
 ·simp only [Value.slice.injEq, Option.some.injEq, Addr.mk.injEq, and_true, true_and] at e1
  obtain ⟨rfl, rfl⟩ := e1
  refine ⟨by rw [List.length_take, h.1]; omega, .inr ⟨g, cap, rfl, e2, e3, by omega, e5, e6, fun j u hu => hr j u ?_⟩⟩
  rw [List.getElem?_take] at hu
  split at hu
  ·exact hu
  ·cases hu
end Go.Proofs.YtjiikjpnlgogfaaGreatDoor
