/-
  Package twigskeep: keys of few bytes, so that there are not too many; maps of many keys.
-/
import Derived.Test.YtcglpladmeelaaaGreatDoorCxTwG
import Derived.Test.YtcglpladmeelaaaGreatDoorCxRtG
import Derived.Test.YtcglpladmeelaaaGreatDoorCxPhG
import Derived.Test.YtcglpladmeelaaaGreatDoorCxSaG
import Derived.Test.YtcglpladmeelaaaGreatDoorCxOaG
import Derived.Test.YtcglpladmeelaaaGreatDoorCxSbG
import Derived.Test.YtcglpladmeelaaaGreatDoorCxGqG
import Derived.Test.YtcglpladmeelaaaGreatDoorCxWcG
namespace Go.Proofs.YtcglpladmeelaaaGreatDoor
open Go.RowKit
set_option maxRecDepth 100000
set_option maxHeartbeats 25600000
def KeyFew (K : Array Nat) : Prop := ∀ i : Nat, K[i]! ≠ 0 -> i = 0 \/ i = 1 \/ i = 15 \/ i = 30 \/ i = 31
theorem zero_few : KeyFew zero32 := fun i h => by
 unfold zero32 at h
 by_cases hi : i < 32
 ·rw [getElem!_pos _ i (by simpa using hi)] at h
  simp at h
 ·rw [getElem!_neg _ i (by simpa using hi)] at h
  exact absurd rfl h
theorem KeyFew.set {K : Array Nat} (h : KeyFew K) {i z : Nat} (hi : i = 0 \/ i = 1 \/ i = 15 \/ i = 30 \/ i = 31) : KeyFew (K.set! i z) := fun j hj => by
 by_cases e : j = i
 ·subst e; exact hi
 ·refine h j fun h0 => hj ?_
  rw [<- h0]
  simp only [Array.getElem!_eq_getD, Array.getD_eq_getD_getElem?, Array.set!_eq_setIfInBounds, Array.getElem?_setIfInBounds]
  rw [if_neg fun e' => e e'.symm]
theorem places_half (c : Nat) : placesN[c]! / 2 = 0 \/ placesN[c]! / 2 = 1 \/ placesN[c]! / 2 = 15 \/ placesN[c]! / 2 = 30 \/ placesN[c]! / 2 = 31 := by
 unfold placesN
 match c with
 | 0 | 1 | 2 | 3 | 4 | 5 | 6 | 7 | 8 | 9 | 10 | 11 => decide
 | n + 12 => rw [getElem!_neg _ _ (by simp)]; decide
def keyNum (K : Array Nat) : Nat := K[0]! + 256 * (K[1]! + 256 * (K[15]! + 256 * (K[30]! + 256 * K[31]!)))
theorem keyNum_lt {K : Array Nat} (h : Bytes K) : keyNum K < 1099511627776 := by
 have a := h 0
 have b := h 1
 have c := h 15
 have d := h 30
 have e := h 31
 unfold keyNum
 omega
theorem keyNum_inj {K L : Array Nat} (hK : K.size = 32) (hL : L.size = 32) (bK : Bytes K) (bL : Bytes L) (fK : KeyFew K) (fL : KeyFew L) (e : keyNum K = keyNum L) : K = L := by
 unfold keyNum at e
 have h := bK 0
 have j := bK 1
 have k := bK 15
 have l := bK 30
 have m := bL 0
 have n := bL 1
 have o := bL 15
 have p := bL 30
 have q : K[0]! = L[0]! := by omega
 have r : K[1]! = L[1]! := by omega
 have s : K[15]! = L[15]! := by omega
 have t : K[30]! = L[30]! := by omega
 have u : K[31]! = L[31]! := by omega
 apply Array.ext (by omega)
 intro i d a
 have f : K[i]! = K[i] := getElem!_pos K i d
 have g : L[i]! = L[i] := getElem!_pos L i a
 rw [<- f, <- g]
 by_cases c : K[i]! = 0
 ·by_cases b : L[i]! = 0
  ·rw [c, b]
  ·rcases fL i b with rfl | rfl | rfl | rfl | rfl <;> assumption
 ·rcases fK i c with rfl | rfl | rfl | rfl | rfl <;> assumption
theorem nat_nodup_le {N : Nat} : ∀ {l : List Nat}, l.Nodup -> (∀ x ∈ l, x < N) -> l.length <= N := by
 have g : ∀ {l k : List Nat}, l.Nodup -> (∀ x ∈ l, x ∈ k) -> l.length <= k.length := by
  intro l
  induction l with
  | nil => intros; simp
  | cons x l ih =>
   intro k h f
   rw [List.nodup_cons] at h
   have c := f x (List.mem_cons_self ..)
   have := ih (k := k.erase x) h.2 fun y d => (List.mem_erase_of_ne (a := y) (b := x) (fun e => by rw [e] at d; exact h.1 d)).2 (f y (List.mem_cons_of_mem _ d))
   rw [List.length_erase_of_mem c] at this
   have j := List.length_pos_of_mem c
   rw [List.length_cons]
   omega
 intro l h i
 have := g (k := List.range N) h fun x c => List.mem_range.2 (i x c)
 rwa [List.length_range] at this
theorem nodup_map_on {α β : Type} {f : α -> β} : ∀ {l : List α}, (∀ a ∈ l, ∀ b ∈ l, f a = f b -> a = b) -> l.Nodup -> (l.map f).Nodup
 | [], _, _ => List.nodup_nil
 | a :: l, hf, h => by
  rw [List.nodup_cons] at h
  rw [List.map_cons, List.nodup_cons]
  refine ⟨fun hm => ?_, nodup_map_on (fun x hx y hy => hf x (List.mem_cons_of_mem _ hx) y (List.mem_cons_of_mem _ hy)) h.2⟩
  obtain ⟨b, hb, e⟩ := List.mem_map.1 hm
  exact h.1 (hf a (List.mem_cons_self ..) b (List.mem_cons_of_mem _ hb) e.symm ▸ hb)
theorem few_len {m : Mp} (hd : (m.map (·.1)).Nodup) (h : ∀ x ∈ m, x.1.size = 32 /\ Bytes x.1 /\ KeyFew x.1) : m.length <= 1099511627776 := by
 have k : ((m.map (·.1)).map keyNum).Nodup := nodup_map_on (fun a g b i e => by
  obtain ⟨x, c, rfl⟩ := List.mem_map.1 g
  obtain ⟨y, d, rfl⟩ := List.mem_map.1 i
  exact keyNum_inj (h x c).1 (h y d).1 (h x c).2.1 (h y d).2.1 (h x c).2.2 (h y d).2.2 e) hd
 have := nat_nodup_le k fun n j => by
  obtain ⟨K, f, rfl⟩ := List.mem_map.1 j
  obtain ⟨x, c, rfl⟩ := List.mem_map.1 f
  exact keyNum_lt (h x c).2.1
 simpa using this
theorem key_few (fb : Nat) (raw : ByteArray) (w : World) (h : FeedAt w fb raw) (hr : raw.size <= 9223372036854775807) :
  Calls Tryz.prog 13 #[.pointer (some ⟨fb, 0, none⟩)] w fun e w' => ∃ K : Array Nat, K.size = 32 /\ Bytes K /\ KeyFew K /\ e = .returned (.agg (K.toList.map encB).toArray) /\ Fed fb raw w w' := by
 have Y := Hid.hide (value_loop fb raw hr)
 have HF := Hid.hide h
 have f := h.lt
 clear h hr
 go_enter Tryz.func13, Tryz.ntmps13
 go_wp2_with fail
 generalize hw0 : World.alloc (World.alloc (World.alloc w _) _) _ = w0
 have V : KeyAt w0 w.heap.size zero32 := key_start hw0 (by kernel_rfl) (by kernel_rfl)
 have T : Fed fb raw w w0 := by
  rw [<- hw0]
  exact Fed.alloc (Fed.alloc (Fed.alloc ⟨.refl _ _, HF.out⟩ _) _) _
 have W : Hid (KeyAt w0 w.heap.size zero32 /\ Fed fb raw w w0) := ⟨V, T⟩
 clear hw0 V T
 refine (Y.out 4 w0 W.out.2.2 (by omega) (by omega)).mono ?_
 rintro e w1 ⟨C, ae, rfl, G⟩
 have H1 : Hid (KeyAt w1 w.heap.size zero32 /\ Fed fb raw w w1) := ⟨W.out.1.fed G f, W.out.2.trans G⟩
 clear G
 go_wp2
 go_loopg [5] C (fun g n wr => ∃ (m : Nat) (K : Array Nat), m = g /\ m <= C /\ n = .int .i64 (m : Int) /\ KeyAt wr w.heap.size K /\ Fed fb raw w wr /\ KeyFew K)
 case atStart => exact ⟨C, _, rfl, Nat.le_refl _, rfl, H1.out.1, H1.out.2, zero_few⟩
 case round =>
  obtain ⟨m, K, rfl, hm, rfl, k, r, U⟩ := hrel
  have B := Hid.hide U
  clear U
  by_cases h0 : m = 0
  ·subst h0
   obtain ⟨z1, z2, ab, I⟩ := hash_cells' k.size k.res
   have ac := k.row.range
   have aa := all_oneCell_toArray (oneCell_enc K .u8)
   have L : Hid (KeyAt wr w.heap.size K /\ Fed fb raw w wr /\ wr.there w.heap.size 0 (K.toList.map encB).length) := ⟨k, r, I⟩
   clear k r hm I
   go_wp2_with (first | (refine wpList_load_mid rfl 43 _ rfl (w.heap.size + 1) 0 rfl (K.toList.map encB) _ ac Tryz.underlying43 rfl z1 ?_) | (refine wpList_store_mid rfl 43 _ _ rfl w.heap.size 0 (K.toList.map encB).toArray rfl rfl ab z2 aa ?_))
   refine bodyPost_ret (v := .agg (K.toList.map encB).toArray) (results_cell1 Tryz.results13 _ _ _ w.heap.size 0 rfl (run_loadVar_mid _ _ _ 43 _ _ (World.rangeAt_setCells_same _ _ _ _ L.out.2.2) Tryz.underlying43 rfl z1)) rfl ⟨K, L.out.1.size, L.out.1.bytes, B.out, rfl, ?_⟩
   exact fed_setCells L.out.2.1 (Nat.le_refl _) f _ _
  ·have ai : (0 : Int) < (m : Int) := by omega
   have ah := k.lt
   have y : Hid (KeyAt wr w.heap.size K /\ Fed fb raw w wr /\ m <= C /\ ¬ m = 0) := ⟨k, r, hm, h0⟩
   clear k r hm h0
   go_wp2_with fail
   refine (Y.out 12 wr y.out.2.1.2 (by omega) (by omega)).mono ?_
   rintro e w2 ⟨D, F, rfl, H⟩
   have E := y.out.1.fed H f
   have p2 := E.pl D F
   have o := places_lt D
   have t := places_half D
   obtain ⟨b, Q⟩ : ∃ x, placesN[D]! = x := ⟨_, rfl⟩
   rw [Q] at p2 o t
   have i2 : (D : Int) < 12 := by omega
   have X : Hid (KeyAt w2 w.heap.size K /\ Fed fb raw w w2) := ⟨E, y.out.2.1.trans H⟩
   clear H E Q
   go_wp2_with fail
   refine (Y.out 4 w2 X.out.2.2 (by omega) (by omega)).mono ?_
   rintro e w3 ⟨a, R, rfl, q⟩
   have d := X.out.1.fed q f
   have J : Hid (KeyAt w3 w.heap.size K /\ Fed fb raw w w3) := ⟨d, X.out.2.trans q⟩
   obtain ⟨h, M⟩ : ∃ h, b / 2 = h := ⟨_, rfl⟩
   have i : h < 32 := by omega
   have aj : (b : Int).tdiv 2 = (h : Int) := by rw [<- M]; exact (Int.ofNat_tdiv b 2).symm
   obtain ⟨x, N⟩ : ∃ x, K[h]! = x := ⟨_, rfl⟩
   obtain ⟨O, q2⟩ := d.row h (by rw [d.size]; exact i)
   rw [Nat.zero_add, N] at O
   rw [Nat.zero_add] at q2
   have u : x < 256 := by rw [<- N]; exact d.bytes h
   have al : w3.cell? ⟨w.heap.size + 1, h, none⟩ = some (.int .u8 (x : Int)) := O
   have k3 : IntKind.u8.wrap (a : Int) = (a : Int) := wrap8 (by omega)
   have k4 : IntKind.u8.wrap ((a : Int) * 16) = (a : Int) * 16 := by
    have := wrap8 (c := a * 16) (by omega)
    rw [show ((a * 16 : Nat) : Int) = (a : Int) * 16 by omega] at this
    exact this
   have P : Hid (wrap64 ((m : Int) - 1) = ((m - 1 : Nat) : Int)) := by
    have h : wrap64 ((m : Int) - 1) = ((m - 1 : Nat) : Int) := (by unfold wrap64; have := y.out; omega)
    exact h
   have ih : (h : Int) < 32 := by omega
   obtain ⟨g, hg⟩ : ∃ g, b % 2 = g := ⟨_, rfl⟩
   have ak : (b : Int).tmod 2 = (g : Int) := by rw [<- hg]; exact (Int.ofNat_tmod b 2).symm
   have j : Hid (m - 1 <= C /\ m - 1 < m /\ h < 32 /\ (h = 0 \/ h = 1 \/ h = 15 \/ h = 30 \/ h = 31)) := ⟨by have := y.out; omega, by have := y.out; omega, i, by rw [<- M]; exact t⟩
   by_cases S : g = 0
   ·obtain ⟨s, p⟩ := or_u8 x (a * 16) u (by omega)
    rw [show ((a * 16 : Nat) : Int) = (a : Int) * 16 by omega] at s
    obtain ⟨z, l⟩ : ∃ z, x ||| (a * 16) = z := ⟨_, rfl⟩
    rw [l] at s p
    subst S
    have Z : Hid (z < 256) := p
    clear q d M i N O u l p hg o t R F
    go_wp2
    go_roundg (m - 1)
    case measure => exact j.out.2.1
    case rel => exact ⟨m - 1, _, rfl, j.out.1, val_int P.out, J.out.1.set j.out.2.2.1 Z.out, fed_setCells J.out.2 (by omega) f [_] h, B.out.set j.out.2.2.2⟩
   ·obtain ⟨s, p⟩ := or_u8 x a u (by omega)
    obtain ⟨z, l⟩ : ∃ z, x ||| a = z := ⟨_, rfl⟩
    rw [l] at s p
    have ag : ((g : Int) == 0) = false := by simp; omega
    have Z : Hid (z < 256) := p
    clear q d M i N O u l p hg o t R F S
    go_wp2
    go_roundg (m - 1)
    case measure => exact j.out.2.1
    case rel => exact ⟨m - 1, _, rfl, j.out.1, val_int P.out, J.out.1.set j.out.2.2.1 Z.out, fed_setCells J.out.2 (by omega) f [_] h, B.out.set j.out.2.2.2⟩
theorem kfind_big {w : World} {C : Nat} {ks vs : Value} {m : List (Array Nat × ByteArray)} {K : Array Nat} (h : Kn w C ks vs m) (hm : m.length <= 2199023255552) (hK : K.size = 32) (hKb : Bytes K) :
  Calls Tryz.prog 27 #[.agg #[ks, vs], .agg (K.toList.map encB).toArray] w fun e w' => e = .returned (.int .i64 (findV (findN m K))) /\ Below w.heap.size w w' := by
 obtain ⟨P, mk, M, rfl⟩ := h.keys.shape
 obtain ⟨Z, Y, U, rfl⟩ := h.vals.shape
 have X : mk = m.length := by
  rcases h.keys.2 with ⟨h1, h2⟩ | ⟨g, T, h1, _⟩
  ·simp only [Value.slice.injEq] at h1; omega
  ·simp only [Value.slice.injEq] at h1; exact h1.2.1
 subst X
 have I : (Tryz.prog.info? 43).map (·.size) = some (K.toList.map encB).length := by rw [size51]; simp [hK]
 obtain ⟨W0, o⟩ : ∃ W0, (w.alloc (.cells #[.slice P m.length M, .slice Z Y U] 26)).alloc (.cells (K.toList.map encB).toArray 43) = W0 := ⟨_, rfl⟩
 have x : Below w.heap.size w W0 := by rw [<- o]; exact ((Below.refl _ _).alloc (Nat.le_refl _) _).alloc (by simp) _
 have H : W0.heap.size = w.heap.size + 2 := by rw [<- o]; simp
 have c0 : W0.cell? ⟨w.heap.size, 0, none⟩ = some (.slice P m.length M) := by rw [<- o]; simp
 have z : W0.rangeAt (w.heap.size + 1) 0 (K.toList.map encB) := fun j u f => by
  have e1 : (w.alloc (.cells #[.slice P m.length M, .slice Z Y U] 26)).heap.size = w.heap.size + 1 := by simp
  rw [<- o, Nat.zero_add, <- e1, World.cell?_alloc_new]
  simpa using f
 have D := Hid.hide (h.below x)
 obtain ⟨R, N⟩ : ∃ R, findV (findN m K) = R := ⟨_, rfl⟩
 have p : Hid (findV (findN m K) = R /\ K.size = 32 /\ Bytes K /\ m.length <= 2199023255552 /\ Below w.heap.size w W0 /\ W0.heap.size = w.heap.size + 2) := ⟨N, hK, hKb, hm, x, H⟩
 have l := Tryz.underlying43
 rw [N]
 clear h hm hK hKb x H N
 go_enter Tryz.func27, Tryz.ntmps27
 go_wp2
 clear o
 go_loopg [5] m.length (fun g i wr => ∃ k : Nat, k <= m.length /\ g = m.length - k /\ i = .int .i64 (k : Int) /\ (∀ j (y : j < m.length), j < k -> m[j].1 ≠ K) /\ ∃ q, wr = W0.drewN q)
 case atStart => exact ⟨0, Nat.zero_le _, rfl, rfl, fun j _ h => absurd h (Nat.not_lt_zero _), 0, rfl⟩
 case round =>
  obtain ⟨k, hk, rfl, rfl, d, q, rfl⟩ := hrel
  by_cases t : k < m.length
  ·have i1 : (k : Int) < (m.length : Int) := by omega
   obtain ⟨g, T, F, aa, G⟩ := D.out.key t
   simp only [Value.slice.injEq] at F
   obtain ⟨rfl, -, rfl⟩ := F
   have c := D.out.ok _ (List.getElem_mem t)
   have B : (Tryz.prog.info? 43).map (·.size) = some (m[k].1.toList.map encB).length := by rw [size51]; simp [c.1]
   have E := fun W => key_same m[k].1 K c.1 p.out.2.1 c.2.1 p.out.2.2.1 W
   have Q := Hid.hide d
   by_cases v : m[k].1 = K
   ·have b : R = (k : Int) := by rw [<- p.out.1, findN_at d t v]; rfl
    rw [decide_eq_true v] at E
    have L := Hid.hide b
    clear d b v c
    go_upto_region 4 with fail
    refine wp_region_quiet_lit (by kernel_rfl) (by kernel_rfl) ?_
    iterate 4 (go_big_quiet_step (fail))
    refine BigFrame.wpQuiet_want rfl fun r a => quiet_load_mid 43 _ rfl g (k * 32) rfl (m[k].1.toList.map encB) _ (fun W s => ?ld1) l rfl B (a _ ?_)
    case ld1 => obtain ⟨n, rfl⟩ := s; exact fun j u f => (by simpa using G j u f)
    clear r a
    refine BigFrame.wpQuiet_want rfl fun r a => quiet_load_mid 43 _ rfl (w.heap.size + 1) 0 rfl (K.toList.map encB) _ (fun W s => ?ld2) l rfl I (a _ ?_)
    case ld2 => obtain ⟨n, rfl⟩ := s; exact fun j u f => (by simpa using z j u f)
    clear r a
    quiet_step (fail)
    refine wpQuiet_nil ?_
    rintro _ ⟨O, rfl⟩
    go_wp2
    go_ret
    exact ⟨by rw [L.out]; rfl, Below.drewN (Below.drewN p.out.2.2.2.2.1 q) O⟩
   ·rw [decide_eq_false v] at E
    have HQ : Hid (∀ j (y : j < m.length), j < k + 1 -> m[j].1 ≠ K) := fun j y ab => by
     by_cases e : j = k
     ·subst e; exact v
     ·exact Q.out j y (by omega)
    have V := p.out.2.2.2.1
    have J : wrap64 ((k : Int) + 1) = ((k + 1 : Nat) : Int) := by unfold wrap64; omega
    have S := Hid.hide J
    clear d v c J V
    go_upto_region 4 with fail
    refine wp_region_quiet_lit (by kernel_rfl) (by kernel_rfl) ?_
    iterate 4 (go_big_quiet_step (fail))
    refine BigFrame.wpQuiet_want rfl fun r a => quiet_load_mid 43 _ rfl g (k * 32) rfl (m[k].1.toList.map encB) _ (fun W s => ?ld1) l rfl B (a _ ?_)
    case ld1 => obtain ⟨n, rfl⟩ := s; exact fun j u f => (by simpa using G j u f)
    clear r a
    refine BigFrame.wpQuiet_want rfl fun r a => quiet_load_mid 43 _ rfl (w.heap.size + 1) 0 rfl (K.toList.map encB) _ (fun W s => ?ld2) l rfl I (a _ ?_)
    case ld2 => obtain ⟨n, rfl⟩ := s; exact fun j u f => (by simpa using z j u f)
    clear r a
    quiet_step (fail)
    refine wpQuiet_nil ?_
    rintro _ ⟨O, rfl⟩
    go_wp2
    go_roundg (m.length - (k + 1))
    case measure => omega
    case rel => exact ⟨k + 1, t, rfl, by rw [S.out], HQ.out, q + O, rfl⟩
  ·have i1 : ¬ (k : Int) < (m.length : Int) := by omega
   have b : R = -1 := by rw [<- p.out.1, findN_no fun j y => d j y (by omega)]; rfl
   have L := Hid.hide b
   clear d b
   go_wp2
   go_ret
   exact ⟨by rw [L.out]; rfl, Below.drewN p.out.2.2.2.2.1 q⟩
attribute [local go_sem ↓] wp_load_key wp_build_key in
theorem without_big {w : World} {C : Nat} {ks vs : Value} {m : List (Array Nat × ByteArray)} {K : Array Nat} (h : Kn w C ks vs m) (hm : m.length <= 2199023255552) (hK : K.size = 32) (hKb : Bytes K) :
  Calls Tryz.prog 32 #[.agg #[ks, vs], .agg (K.toList.map encB).toArray] w fun e w' => Below w.heap.size w w' /\ ∃ ks' vs', e = .returned (.agg #[ks', vs']) /\ Kn w' w.heap.size ks' vs' (woN m K) := by
 obtain ⟨pk, mk, ck, rfl⟩ := h.keys.shape
 obtain ⟨pv, mv, cv, rfl⟩ := h.vals.shape
 have bo : mk = m.length := by
  rcases h.keys.2 with ⟨h1, h2⟩ | ⟨g, bn, h1, _⟩
  ·simp only [Value.slice.injEq] at h1; omega
  ·simp only [Value.slice.injEq] at h1; exact h1.2.1
 subst bo
 obtain ⟨i0, hi, cd, ce, cf⟩ := info_parts keyZ
 obtain ⟨j0, hj, bv, bx, bz⟩ := info_parts strZ
 have av : (Tryz.prog.info? 43).map (·.size) = some (K.toList.map encB).length := by rw [size51]; simp [hK]
 obtain ⟨W0, ag⟩ : ∃ W0, ((((w.alloc (.cells #[.slice pk m.length ck, .slice pv mv cv] 26)).alloc (.cells (K.toList.map encB).toArray 43)).alloc (.cells #[.slice none 0 0, .slice none 0 0] 26)).alloc (.cells #[.slice none 0 0, .slice none 0 0] 26)) = W0 := ⟨_, rfl⟩
 have ao : Below w.heap.size w W0 := by rw [<- ag]; exact ((((Below.refl _ _).alloc (Nat.le_refl _) _).alloc (by simp) _).alloc (by simp; omega) _).alloc (by simp; omega) _
 have bg : W0.heap.size = w.heap.size + 4 := by rw [<- ag]; simp
 obtain ⟨ai, ar, f, M⟩ := heap_at4 w (.cells #[.slice pk m.length ck, .slice pv mv cv] 26) (.cells (K.toList.map encB).toArray 43) (.cells #[.slice none 0 0, .slice none 0 0] 26) (.cells #[.slice none 0 0, .slice none 0 0] 26)
 rw [ag] at ai ar f M
 have c0 : W0.cell? ⟨w.heap.size, 0, none⟩ = some (.slice pk m.length ck) := cell_of_row W0 _ 0 _ _ (0, 0) ai
 have c1 : W0.cell? ⟨w.heap.size, 1, none⟩ = some (.slice pv mv cv) := cell_of_row W0 _ 1 _ _ (0, 0) ai
 have r0 : W0.cell? ⟨w.heap.size + 2, 0, none⟩ = some (.slice none 0 0) := cell_of_row W0 _ 0 _ _ (0, 0) f
 have r1 : W0.cell? ⟨w.heap.size + 2, 1, none⟩ = some (.slice none 0 0) := cell_of_row W0 _ 1 _ _ (0, 0) f
 have q0 : W0.frozen? ⟨w.heap.size + 2, 0, none⟩ = false := frozen_of_row W0 _ 0 _ _ f
 have q1 : W0.frozen? ⟨w.heap.size + 2, 1, none⟩ = false := frozen_of_row W0 _ 1 _ _ f
 have bh : Kv W0 (w.heap.size + 4) (w.heap.size + 3) (.slice none 0 0) (.slice none 0 0) [] [] := ⟨OwnC.nil _ _ _, OwnC.nil _ _ _, fun g e => by simp [Value.ownBlock] at e, cell_of_row W0 _ 0 _ _ (0, 0) M, cell_of_row W0 _ 1 _ _ (0, 0) M, frozen_of_row W0 _ 0 _ _ M, frozen_of_row W0 _ 1 _ _ M, by omega, by omega, by simp [Value.ownBlock], by simp [Value.ownBlock]⟩
 have aa : W0.rangeAt (w.heap.size + 1) 0 (K.toList.map encB) := fun j u F => by
  rw [Nat.zero_add, cell_of_row W0 _ j _ _ (0, 0) ar]
  simpa using F
 clear ai ar f M
 have ab := Hid.hide (h.below ao)
 have HG : Hid ((∀ g, pk = some ⟨g, 0, none⟩ -> g < w.heap.size) /\ (∀ g, pv = some ⟨g, 0, none⟩ -> g < w.heap.size)) := ⟨fun g e => (h.keys.block g (by rw [e]; rfl)).2, fun g e => (h.vals.block g (by rw [e]; rfl)).2⟩
 have O : Hid (K.size = 32 /\ Bytes K /\ m.length <= 2199023255552 /\ Below w.heap.size w W0 /\ W0.heap.size = w.heap.size + 4) := ⟨hK, hKb, hm, ao, bg⟩
 have HC : Hid (W0.cell? ⟨w.heap.size + 2, 0, none⟩ = some (.slice none 0 0) /\ W0.cell? ⟨w.heap.size + 2, 1, none⟩ = some (.slice none 0 0) /\ W0.frozen? ⟨w.heap.size + 2, 0, none⟩ = false /\ W0.frozen? ⟨w.heap.size + 2, 1, none⟩ = false) := ⟨r0, r1, q0, q1⟩
 have bm := Hid.hide bh
 have G := Tryz.underlying43
 clear h hm hK hKb ao bg r0 r1 q0 q1 bh
 go_enter Tryz.func32, Tryz.ntmps32
 go_wp2
 clear ag
 go_loopg [6] m.length (fun g i wr => ∃ (k : Nat) (ko vo : Value), k <= m.length /\ g = m.length - k /\ i = .int .i64 (k : Int) /\ Kv wr (w.heap.size + 4) (w.heap.size + 3) ko vo ((woN (m.take k) K).map (·.1)) ((woN (m.take k) K).map (·.2)) /\ Below (w.heap.size + 3) W0 wr)
 case atStart => exact ⟨0, _, _, Nat.zero_le _, rfl, rfl, bm.out, .refl _ _⟩
 case round =>
  obtain ⟨k, ko, vo, hk, rfl, rfl, V, R⟩ := hrel
  obtain ⟨Y, X, P, rfl⟩ := V.keys.shape
  obtain ⟨J, I, y, rfl⟩ := V.vals.shape
  have bc : w.heap.size + 3 < wr.heap.size := by have := V.size; omega
  have d0 : wr.cell? ⟨w.heap.size, 0, none⟩ = some (.slice pk m.length ck) := (World.cell?_of_block (R.block _ (by show w.heap.size < _; omega))).trans c0
  have d1 : wr.cell? ⟨w.heap.size, 1, none⟩ = some (.slice pv mv cv) := (World.cell?_of_block (R.block _ (by show w.heap.size < _; omega))).trans c1
  have s : wr.rangeAt (w.heap.size + 1) 0 (K.toList.map encB) := rangeAt_block aa (R.block _ (by omega))
  have c : Hid (Kv wr (w.heap.size + 4) (w.heap.size + 3) (.slice Y X P) (.slice J I y) ((woN (m.take k) K).map (·.1)) ((woN (m.take k) K).map (·.2)) /\ Below (w.heap.size + 3) W0 wr /\ k <= m.length) := ⟨V, R, hk⟩
  clear V R hk
  by_cases D : k < m.length
  ·have i1 : (k : Int) < (m.length : Int) := by omega
   obtain ⟨g, bn, ba, az, aj⟩ := ab.out.key D
   simp only [Value.slice.injEq] at ba
   obtain ⟨rfl, -, rfl⟩ := ba
   obtain ⟨Q, ch, bi, aq, ap⟩ := ab.out.val D
   simp only [Value.slice.injEq] at bi
   obtain ⟨rfl, rfl, rfl⟩ := bi
   have r := ab.out.ok _ (List.getElem_mem D)
   have E : (Tryz.prog.info? 43).map (·.size) = some (m[k].1.toList.map encB).length := by rw [size51]; simp [r.1]
   have S := fun W => key_same m[k].1 K r.1 O.out.1 r.2.1 O.out.2.1 W
   have ci : g < w.heap.size := HG.out.1 g rfl
   have cg : Q < w.heap.size := HG.out.2 Q rfl
   by_cases he : m[k].1 = K
   ·rw [decide_eq_true he] at S
    have hT := wo_take_eq D he
    have l : wr.rangeAt g (k * 32) (m[k].1.toList.map encB) := rangeAt_block aj (c.out.2.1.block _ (by omega))
    have HT := Hid.hide hT
    obtain ⟨L, hL⟩ : ∃ L, m[k].1 = L := ⟨_, rfl⟩
    rw [hL] at l E S
    have am : Hid (wrap64 ((k : Int) + 1) = ((k + 1 : Nat) : Int)) := by
     have := O.out.2.2.1
     have h : wrap64 ((k : Int) + 1) = ((k + 1 : Nat) : Int) := by unfold wrap64; omega
     exact h
    clear hT aj ap r he hL az aq c0 c1
    go_upto_region 5 with fail
    refine wp_region_quiet_lit (by kernel_rfl) (by kernel_rfl) ?_
    iterate 4 (go_big_quiet_step (fail))
    refine BigFrame.wpQuiet_want rfl fun Z d => quiet_load_mid 43 _ rfl g (k * 32) rfl (L.toList.map encB) _ (fun W hW => ?ld1) G rfl E (d _ ?_)
    case ld1 => obtain ⟨n, rfl⟩ := hW; exact fun j u F => (by simpa using l j u F)
    clear Z d
    refine BigFrame.wpQuiet_want rfl fun Z d => quiet_load_mid 43 _ rfl (w.heap.size + 1) 0 rfl (K.toList.map encB) _ (fun W hW => ?ld2) G rfl av (d _ ?_)
    case ld2 => obtain ⟨n, rfl⟩ := hW; exact fun j u F => (by simpa using s j u F)
    clear Z d
    quiet_step (fail)
    refine wpQuiet_nil ?_
    rintro _ ⟨nq, rfl⟩
    go_wp2
    go_roundg (m.length - (k + 1))
    case measure => omega
    case rel =>
     refine ⟨k + 1, .slice Y X P, .slice J I y, D, rfl, by rw [am.out], ?_, Below.drewN c.out.2.1 _⟩
     rw [HT.out]
     exact c.out.1.heap rfl
   ·rw [decide_eq_false he] at S
    have hT := wo_take_ne D he
    have l : wr.rangeAt g (k * 32) (m[k].1.toList.map encB) := rangeAt_block aj (c.out.2.1.block _ (by omega))
    have N : wr.cell? ⟨Q, k, none⟩ = some (.string m[k].2) := (World.cell?_of_block (c.out.2.1.block Q (by omega))).trans ap
    have HT := Hid.hide hT
    obtain ⟨L, hL⟩ : ∃ L, m[k].1 = L := ⟨_, rfl⟩
    obtain ⟨U, hU⟩ : ∃ U, m[k].2 = U := ⟨_, rfl⟩
    rw [hL] at l E S
    rw [hU] at N
    have ae : Hid (L.size = 32 /\ m[k].1 = L /\ m[k].2 = U) := ⟨hL ▸ r.1, hL, hU⟩
    clear hT aj ap r he hL hU az aq c0 c1
    go_upto_region 5 with fail
    refine wp_region_quiet_lit (by kernel_rfl) (by kernel_rfl) ?_
    iterate 4 (go_big_quiet_step (fail))
    refine BigFrame.wpQuiet_want rfl fun Z d => quiet_load_mid 43 _ rfl g (k * 32) rfl (L.toList.map encB) _ (fun W hW => ?ld1) G rfl E (d _ ?_)
    case ld1 => obtain ⟨n, rfl⟩ := hW; exact fun j u F => (by simpa using l j u F)
    clear Z d
    refine BigFrame.wpQuiet_want rfl fun Z d => quiet_load_mid 43 _ rfl (w.heap.size + 1) 0 rfl (K.toList.map encB) _ (fun W hW => ?ld2) G rfl av (d _ ?_)
    case ld2 => obtain ⟨n, rfl⟩ := hW; exact fun j u F => (by simpa using s j u F)
    clear Z d
    quiet_step (fail)
    refine wpQuiet_nil ?_
    rintro _ ⟨nq, rfl⟩
    go_upto_region 6 with fail
    generalize hWq : wr.drewN _ = W
    have hh : W.heap = wr.heap := by rw [<- hWq]; rfl
    have b : Hid (Kv W (w.heap.size + 4) (w.heap.size + 3) (.slice Y X P) (.slice J I y) ((woN (m.take k) K).map (·.1)) ((woN (m.take k) K).map (·.2)) /\ Below (w.heap.size + 3) W0 W) := ⟨c.out.1.heap hh, by rw [<- hWq]; exact Below.drewN c.out.2.1 _⟩
    rw [<- hh] at bc
    rw [<- cell_heap hh] at d0 d1 N
    have au : W.rangeAt g (k * 32) (L.toList.map encB) := fun j u F => by rw [cell_heap hh]; exact l j u F
    obtain ⟨kc, bj⟩ := keyCells_of au (by simp [ae.out.1])
    have bf : (L.toList.map encB).toArray.size = 32 := by simp [ae.out.1]
    have kd := keyCells_drew
    have kh := hasKey_drew
    have o0 := b.out.1.c0
    have o1 := b.out.1.c1
    have y0 := b.out.1.f0
    have y1 := b.out.1.f1
    have ak : Hid (∀ t, (W.alloc (.cells (L.toList.map encB).toArray t)).drew.rangeAt W.heap.size 0 (L.toList.map encB)) := fun t => rangeAt_new W (L.toList.map encB) t
    have ay : Hid (∀ o, OwnC (W.alloc o).drew (w.heap.size + 4) 32 (.slice Y X P) ((woN (m.take k) K).map (·.1)).length (((woN (m.take k) K).map (·.1)).flatMap fun x => x.toList.map encB)) := fun o => (b.out.1.keys.alloc o).drew
    have HN : Hid (((woN (m.take k) K).map (·.1)).length <= 2199023255552 /\ w.heap.size + 4 <= W.heap.size) := ⟨by have := wo_len (m.take k) K; have := O.out.2.2.1; have := c.out.2.2; simp at *; omega, b.out.1.size⟩
    clear hWq hh s l au c aa S G av E
    go_cut [25] from 7 to 40 (fun _ wc => ∃ p2 m2 k2, Kv wc (w.heap.size + 4) (w.heap.size + 3) (.slice p2 m2 k2) (.slice J I y) ((woN (m.take k) K).map (·.1) ++ [L]) ((woN (m.take k) K).map (·.2)) /\ Below (w.heap.size + 3) W0 wc)
    case first =>
     go_region_law
      (refine step_append_ownp _ rfl (.tmp 22) (.tmp 28) 23 rfl 43 i0 (.agg (zero32.map encB)) 32 32 Tryz.underlying23 hi cd ce cf keyZs (by decide) (w.heap.size + 4) (.slice Y X P) _ _ (by simp [Act.eval]) (ay.out _) W.heap.size 0 1 1 (L.toList.map encB) (by simp [Act.eval]) (by simpa using bf) (ak.out _) (oneCell_key L) (by have := HN.out; unfold maxLen; omega) (by have := HN.out; omega) (by have := HN.out; simp; omega) ?_; intro v2 w2 z B T f; have p := undrewG B; have AM : Aside (Kv (w2.setCell ⟨w.heap.size + 3, 0, none⟩ v2) (w.heap.size + 4) (w.heap.size + 3) v2 (.slice J I y) ((woN (m.take k) K).map (·.1) ++ [L]) ((woN (m.take k) K).map (·.2)) /\ Below (w.heap.size + 3) W0 (w2.setCell ⟨w.heap.size + 3, 0, none⟩ v2)) := ⟨b.out.1.key z p T, b.out.1.below (.inl rfl) p b.out.2 (Nat.le_refl _) (by omega) (by have := O.out.2.2.2.2; omega) _ _⟩; obtain ⟨H, bq, aw⟩ := b.out.1.var (.inl rfl) p; have z0 := (World.cell?_of_block (a := ⟨w.heap.size + 3, 0, none⟩) H).trans o0; have z1 := (World.frozen?_of_block (a := ⟨w.heap.size + 3, 0, none⟩) H).trans y0; obtain ⟨p2, m2, k2, rfl⟩ := z.shape; clear z p B T f H aw)
     all_goals go_wp2
     all_goals go_meet
     all_goals exact ⟨_, _, _, AM.out⟩
    case rest =>
     obtain ⟨p2, m2, k2, q, ah⟩ := hcut
     have e0 : wc.cell? ⟨w.heap.size, 1, none⟩ = some (.slice (some ⟨Q, 0, none⟩) m.length cv) := (World.cell?_of_block ((ah.block _ (by show w.heap.size < _; omega)).trans (b.out.2.block _ (by show w.heap.size < _; omega)).symm)).trans d1
     have e1 : wc.cell? ⟨Q, k, none⟩ = some (.string U) := (World.cell?_of_block ((ah.block Q (by omega)).trans (b.out.2.block Q (by omega)).symm)).trans N
     have o2 := q.c0
     have o3 := q.c1
     have y2 := q.f0
     have y3 := q.f1
     have cj : w.heap.size + 3 < wc.heap.size := by have := q.size; omega
     have ac : Hid (Kv wc (w.heap.size + 4) (w.heap.size + 3) (.slice p2 m2 k2) (.slice J I y) ((woN (m.take k) K).map (·.1) ++ [L]) ((woN (m.take k) K).map (·.2)) /\ Below (w.heap.size + 3) W0 wc) := ⟨q, ah⟩
     have bk : Hid (∀ t, (wc.alloc (.cells #[.string U] t)).drew.rangeAt wc.heap.size 0 [.string U]) := fun t => rangeAt_new wc [.string U] t
     have bl : Hid (∀ o, OwnC (wc.alloc o).drew (w.heap.size + 4) 1 (.slice J I y) ((woN (m.take k) K).map (·.2)).length (((woN (m.take k) K).map (·.2)).map Value.string)) := fun o => (q.vals.alloc o).drew
     have al : Hid (((woN (m.take k) K).map (·.2)).length <= 2199023255552 /\ w.heap.size + 4 <= wc.heap.size) := ⟨by have := HN.out.1; simpa using this, q.size⟩
     clear d0 d1 N bc b kc bj bf kd kh o0 o1 y0 y1 ak ay HN q ah
     go_upto_region 7 with fail
     have am : Hid (wrap64 ((k : Int) + 1) = ((k + 1 : Nat) : Int)) := by
      have := O.out.2.2.1
      have h : wrap64 ((k : Int) + 1) = ((k + 1 : Nat) : Int) := by unfold wrap64; omega
      exact h
     go_region_law
      (refine step_append_ownp _ rfl (.tmp 32) (.tmp 38) 24 rfl 9 j0 (.string ⟨#[]⟩) 1 16 Tryz.underlying24 hj bv bx bz rfl (by decide) (w.heap.size + 4) (.slice J I y) _ _ (by simp [Act.eval]) (bl.out _) wc.heap.size 0 1 1 [.string U] (by simp [Act.eval]) rfl (bk.out _) (by simp [Value.oneCell']) (by have := al.out; unfold maxLen; omega) (by have := al.out; omega) (by have := al.out; simp; omega) ?_; intro v2 w2 z B T f; have p := undrewG B; have AM : Aside (Kv (w2.setCell ⟨w.heap.size + 3, 1, none⟩ v2) (w.heap.size + 4) (w.heap.size + 3) (.slice p2 m2 k2) v2 ((woN (m.take k) K).map (·.1) ++ [L]) ((woN (m.take k) K).map (·.2) ++ [U]) /\ Below (w.heap.size + 3) W0 (w2.setCell ⟨w.heap.size + 3, 1, none⟩ v2)) := ⟨ac.out.1.val z p T, ac.out.1.below (.inr rfl) p ac.out.2 (Nat.le_refl _) (by omega) (by have := O.out.2.2.2.2; omega) _ _⟩; obtain ⟨H, bq, aw⟩ := ac.out.1.var (.inr rfl) p; have z0 := (World.cell?_of_block (a := ⟨w.heap.size + 3, 1, none⟩) H).trans o3; have z1 := (World.frozen?_of_block (a := ⟨w.heap.size + 3, 1, none⟩) H).trans y3; obtain ⟨p4, m4, k4, rfl⟩ := z.shape; clear z p B T f H aw)
     all_goals go_wp2
     all_goals
      go_roundg (m.length - (k + 1))
      case measure => omega
      case rel =>
       refine ⟨k + 1, .slice p2 m2 k2, .slice p4 m4 k4, D, rfl, by rw [am.out], ?_, AM.out.2⟩
       rw [HT.out, List.map_append, List.map_append, List.map_singleton, List.map_singleton, ae.out.2.1, ae.out.2.2]
       exact AM.out.1
  ·have i1 : ¬ (k : Int) < (m.length : Int) := by omega
   have o0 := c.out.1.c0
   have o1 := c.out.1.c1
   obtain ⟨r0, r1, q0, q1⟩ := HC.out
   have s0 : wr.cell? ⟨w.heap.size + 2, 0, none⟩ = some (.slice none 0 0) := (World.cell?_of_block (c.out.2.1.block _ (by show w.heap.size + 2 < _; omega))).trans r0
   have s1 : wr.cell? ⟨w.heap.size + 2, 1, none⟩ = some (.slice none 0 0) := (World.cell?_of_block (c.out.2.1.block _ (by show w.heap.size + 2 < _; omega))).trans r1
   have t0 : wr.frozen? ⟨w.heap.size + 2, 0, none⟩ = false := (World.frozen?_of_block (c.out.2.1.block _ (by show w.heap.size + 2 < _; omega))).trans q0
   have t1 : wr.frozen? ⟨w.heap.size + 2, 1, none⟩ = false := (World.frozen?_of_block (c.out.2.1.block _ (by show w.heap.size + 2 < _; omega))).trans q1
   have HE : Hid (woN (m.take k) K = woN m K) := by rw [List.take_of_length_le (by omega)]; exact rfl
   have HZ : Hid (∀ wz, wz.os = wr.os -> wz.tape = wr.tape -> wz.output = wr.output -> wz.heap = ((wr.setCell ⟨w.heap.size + 2, 0, none⟩ (.slice Y X P)).setCell ⟨w.heap.size + 2, 1, none⟩ (.slice J I y)).heap -> Below w.heap.size w wz /\ Kn wz w.heap.size (.slice Y X P) (.slice J I y) (woN m K)) := without_end c.out.1 c.out.2.1 O.out.2.2.2.1 HE.out ab.out
   clear r0 r1 q0 q1 c0 c1 d1 aa s
   go_wp2
   refine bodyPost_ret (v := .agg #[.slice Y X P, .slice J I y]) (by simp [results, Tryz.results32, go_sem, s0, s1]) rfl ?_
   exact ⟨(HZ.out _ (by rfl) (by rfl) (by rfl) (by rfl)).1, _, _, rfl, (HZ.out _ (by rfl) (by rfl) (by rfl) (by rfl)).2⟩
attribute [local go_sem ↓] wp_load_key wp_build_key in
theorem kwith_big {w : World} {C : Nat} {ks vs : Value} {m : List (Array Nat × ByteArray)} {K : Array Nat} {u : ByteArray} (h : Kn w C ks vs m) (hm : m.length <= 2199023255552) (hK : K.size = 32) (hKb : Bytes K) (hu0 : 0 < u.size) (hu1 : u.size <= 100) :
  Calls Tryz.prog 19 #[.agg #[ks, vs], .agg (K.toList.map encB).toArray, .string u] w fun e w' => Below w.heap.size w w' /\ ∃ ks' vs', e = .returned (.agg #[ks', vs']) /\ Kn w' w.heap.size ks' vs' (wiN m K u) := by
 obtain ⟨pk, mk, ck, rfl⟩ := h.keys.shape
 obtain ⟨pv, mv, cv, rfl⟩ := h.vals.shape
 obtain ⟨i0, hi, av, aw, ay⟩ := info_parts keyZ
 obtain ⟨j0, hj, aq, ar, au⟩ := info_parts strZ
 obtain ⟨W0, I⟩ : ∃ W0, ((w.alloc (.cells #[.slice pk mk ck, .slice pv mv cv] 26)).alloc (.cells (K.toList.map encB).toArray 43)).alloc (.cells #[.slice none 0 0, .slice none 0 0] 26) = W0 := ⟨_, rfl⟩
 have U : Below w.heap.size w W0 := by rw [<- I]; exact (((Below.refl _ _).alloc (Nat.le_refl _) _).alloc (by simp) _).alloc (by simp; omega) _
 have am : W0.heap.size = w.heap.size + 3 := by rw [<- I]; simp
 obtain ⟨N, X, n⟩ := heap_at3 w (.cells #[.slice pk mk ck, .slice pv mv cv] 26) (.cells (K.toList.map encB).toArray 43) (.cells #[.slice none 0 0, .slice none 0 0] 26)
 rw [I] at N X n
 have c0 : W0.cell? ⟨w.heap.size, 0, none⟩ = some (.slice pk mk ck) := cell_of_row W0 _ 0 _ _ (0, 0) N
 have c1 : W0.cell? ⟨w.heap.size, 1, none⟩ = some (.slice pv mv cv) := cell_of_row W0 _ 1 _ _ (0, 0) N
 have B : W0.rangeAt (w.heap.size + 1) 0 (K.toList.map encB) := fun j u hu => by
  rw [Nat.zero_add, cell_of_row W0 _ j _ _ (0, 0) X]
  simpa using hu
 obtain ⟨kc, z⟩ := keyCells_of B (by simp [hK])
 have HC : Hid (∀ W, Below (w.heap.size + 3) W0 W -> W.cell? ⟨w.heap.size + 2, 0, none⟩ = some (.slice none 0 0) /\ W.cell? ⟨w.heap.size + 2, 1, none⟩ = some (.slice none 0 0) /\ W.frozen? ⟨w.heap.size + 2, 0, none⟩ = false /\ W.frozen? ⟨w.heap.size + 2, 1, none⟩ = false /\ keyCells W (w.heap.size + 1) 0 = (K.toList.map encB).toArray /\ HasKey W (w.heap.size + 1) 0) := fun W hW => by
  have e2 : W.heap[w.heap.size + 2]? = _ := (hW.block _ (by omega)).trans n
  have e1 := keyCells_of (rangeAt_block B (hW.block _ (by omega))) (by simp [hK])
  exact ⟨cell_of_row W _ 0 _ _ (0, 0) e2, cell_of_row W _ 1 _ _ (0, 0) e2, frozen_of_row W _ 0 _ _ e2, frozen_of_row W _ 1 _ _ e2, e1⟩
 have aa := Hid.hide (without_big (h.below U) hm hK hKb)
 have ao : (K.toList.map encB).toArray.size = 32 := by simp [hK]
 have s : Hid (m.length <= 2199023255552 /\ Below w.heap.size w W0 /\ W0.heap.size = w.heap.size + 3 /\ (∀ x ∈ wiN m K u, x.1.size = 32 /\ Bytes x.1 /\ 0 < x.2.size /\ x.2.size <= 100)) := ⟨hm, U, am, fun x Z => by
  rcases List.mem_append.1 Z with Z | Z
  ·exact h.ok x (List.mem_filter.1 Z).1
  ·obtain rfl := List.mem_singleton.1 Z
   exact ⟨hK, hKb, hu0, hu1⟩⟩
 clear h hm hK hKb U am N X n B hu0 hu1
 go_enter Tryz.func19, Tryz.ntmps19
 go_wp2_with fail
 refine aa.out.mono ?_
 rintro e w1 ⟨aj, az, ba, rfl, M⟩
 obtain ⟨Q, P, O, rfl⟩ := M.keys.shape
 obtain ⟨H, F, y, rfl⟩ := M.vals.shape
 have i : Hid (Kn w1 W0.heap.size (.slice Q P O) (.slice H F y) (woN m K) /\ Below W0.heap.size W0 w1) := ⟨M, aj⟩
 clear M aj aa I c0 c1 kc z
 go_upto_region 2 with fail
 have c := (i.out.1.var i.out.2.size 26)
 have l : Below W0.heap.size W0 (w1.alloc (.cells #[.slice Q P O, .slice H F y] 26)) := i.out.2.alloc i.out.2.size _
 obtain ⟨ob, V⟩ : ∃ ob, w1.heap.size = ob := ⟨_, rfl⟩
 rw [V] at c ⊢
 generalize w1.alloc (.cells #[.slice Q P O, .slice H F y] 26) = W1 at c l ⊢
 rw [s.out.2.2.1] at c l
 obtain ⟨-, -, -, -, kc, z⟩ := HC.out W1 l
 have o0 := c.c0
 have o1 := c.c1
 have y0 := c.f0
 have y1 := c.f1
 have R : Hid (∀ o, OwnC (W1.alloc o) (w.heap.size + 3) 32 (.slice Q P O) ((woN m K).map (·.1)).length (((woN m K).map (·.1)).flatMap fun x => x.toList.map encB)) := fun o => c.keys.alloc o
 have k : Hid (∀ t, (W1.alloc (.cells (K.toList.map encB).toArray t)).rangeAt W1.heap.size 0 (K.toList.map encB)) := fun t => rangeAt_new W1 (K.toList.map encB) t
 have d : Hid (Kv W1 (w.heap.size + 3) ob (.slice Q P O) (.slice H F y) ((woN m K).map (·.1)) ((woN m K).map (·.2)) /\ Below (w.heap.size + 3) W0 W1 /\ w.heap.size + 3 <= ob) := ⟨c, l, by rw [<- V, <- s.out.2.2.1]; exact i.out.2.size⟩
 have HN : Hid (((woN m K).map (·.1)).length <= 2199023255552 /\ ((woN m K).map (·.2)).length <= 2199023255552) := by
  have h1 := wo_len m K
  have h2 := s.out.1
  have h : ((woN m K).map (·.1)).length <= 2199023255552 /\ ((woN m K).map (·.2)).length <= 2199023255552 := by simp; omega
  exact h
 clear c l V i
 go_upto_region 3 with (at_builtin; refine wpList_append_ownp _ rfl _ _ 23 rfl 43 i0 (.agg (zero32.map encB)) 32 32 Tryz.underlying23 hi av aw ay keyZs (by decide) (w.heap.size + 3) (.slice Q P O) _ _ rfl (R.out _) W1.heap.size 0 1 1 (K.toList.map encB) rfl (by simpa using ao) (k.out _) (oneCell_key K) (by have := HN.out; unfold maxLen; omega) (by have := HN.out; omega) (by have := d.out.1.size; simp; omega) ?_)
 intro v2 w2 S J ak n
 have ae := d.out.1.key (K := K) (v2 := v2) (by rw [List.length_map]; exact S) J (by rw [World.size_alloc]; exact ak)
 have ab := d.out.1.below (.inl rfl) J d.out.2.1 (by have := d.out.2.2; omega) (Nat.le_refl _) (Nat.le_of_eq s.out.2.2.1.symm) 0 v2
 obtain ⟨g, Y, -⟩ := d.out.1.var (.inl rfl) J
 have z0 := (World.cell?_of_block (a := ⟨ob, 0, none⟩) g).trans o0
 have z1 := (World.frozen?_of_block (a := ⟨ob, 0, none⟩) g).trans y0
 obtain ⟨r, q, p, rfl⟩ := S.shape
 have b : Hid (Kv (w2.setCell ⟨ob, 0, none⟩ (.slice r q p)) (w.heap.size + 3) ob (.slice r q p) (.slice H F y) ((woN m K).map (·.1) ++ [K]) ((woN m K).map (·.2)) /\ Below (w.heap.size + 3) W0 (w2.setCell ⟨ob, 0, none⟩ (.slice r q p))) := ⟨ae, ab⟩
 clear S J ak n g ae ab o0 o1 y0 y1 kc z R k
 go_upto_region 3 with fail
 obtain ⟨W2, ah⟩ : ∃ W2, w2.setCell ⟨ob, 0, none⟩ (.slice r q p) = W2 := ⟨_, rfl⟩
 rw [ah] at b ⊢
 clear ah z0 z1 Y
 have o0 := b.out.1.c0
 have o1 := b.out.1.c1
 have y0 := b.out.1.f0
 have y1 := b.out.1.f1
 have R : Hid (∀ o, OwnC (W2.alloc o) (w.heap.size + 3) 1 (.slice H F y) ((woN m K).map (·.2)).length (((woN m K).map (·.2)).map Value.string)) := fun o => b.out.1.vals.alloc o
 have k : Hid (∀ t, (W2.alloc (.cells #[.string u] t)).rangeAt W2.heap.size 0 [.string u]) := fun t => rangeAt_new W2 [.string u] t
 go_upto_region 4 with (at_builtin; refine wpList_append_ownp _ rfl _ _ 24 rfl 9 j0 (.string ⟨#[]⟩) 1 16 Tryz.underlying24 hj aq ar au rfl (by decide) (w.heap.size + 3) (.slice H F y) _ _ rfl (R.out _) W2.heap.size 0 1 1 [.string u] rfl rfl (k.out _) (by simp [Value.oneCell']) (by have := HN.out; unfold maxLen; omega) (by have := HN.out; omega) (by have := b.out.1.size; simp; omega) ?_)
 intro v3 w3 T L al ap
 have ag := b.out.1.val (u := u) (v2 := v3) (by rw [List.length_map]; simpa using T) L (by rw [World.size_alloc]; exact al)
 have ac := b.out.1.below (.inr rfl) L b.out.2 (by have := d.out.2.2; omega) (Nat.le_refl _) (Nat.le_of_eq s.out.2.2.1.symm) 1 v3
 obtain ⟨g, Y, -⟩ := b.out.1.var (.inr rfl) L
 have z0 := (World.cell?_of_block (a := ⟨ob, 1, none⟩) g).trans o1
 have z1 := (World.frozen?_of_block (a := ⟨ob, 1, none⟩) g).trans y1
 obtain ⟨G, E, D, rfl⟩ := T.shape
 have f : Hid (Kv (w3.setCell ⟨ob, 1, none⟩ (.slice G E D)) (w.heap.size + 3) ob (.slice r q p) (.slice G E D) ((wiN m K u).map (·.1)) ((wiN m K u).map (·.2)) /\ Below (w.heap.size + 3) W0 (w3.setCell ⟨ob, 1, none⟩ (.slice G E D))) := ⟨by rw [wiN, List.map_append, List.map_append]; exact ag, ac⟩
 clear T L al ap g ag ac o0 o1 y0 y1 R k d b
 go_upto_region 4 with fail
 obtain ⟨W3, ai⟩ : ∃ W3, w3.setCell ⟨ob, 1, none⟩ (.slice G E D) = W3 := ⟨_, rfl⟩
 rw [ai] at f ⊢
 clear ai z0 z1 Y
 have o0 := f.out.1.c0
 have o1 := f.out.1.c1
 obtain ⟨s0, s1, t0, t1, -, -⟩ := HC.out W3 f.out.2
 have HZ : Hid (∀ wz, wz.os = W3.os -> wz.tape = W3.tape -> wz.output = W3.output -> wz.heap = ((W3.setCell ⟨w.heap.size + 2, 0, none⟩ (.slice r q p)).setCell ⟨w.heap.size + 2, 1, none⟩ (.slice G E D)).heap -> Below w.heap.size w wz /\ Kn wz w.heap.size (.slice r q p) (.slice G E D) (wiN m K u)) := kwith_end f.out.1 f.out.2 s.out.2.1 s.out.2.2.2
 clear f
 go_wp2
 refine bodyPost_ret (v := .agg #[.slice r q p, .slice G E D]) (by simp [results, Tryz.results19, go_sem, s0, s1]) rfl ?_
 exact ⟨(HZ.out _ (by rfl) (by rfl) (by rfl) (by rfl)).1, _, _, rfl, (HZ.out _ (by rfl) (by rfl) (by rfl) (by rfl)).2⟩
theorem known_few (raw : ByteArray) (w : World) (hr : raw.size <= 9223372036854775807) :
  Calls Tryz.prog 4 #[.string raw] w fun e w' => Below w.heap.size w w' /\ ∃ ks vs m, e = .returned (.agg #[ks, vs]) /\ Kn w' w.heap.size ks vs m /\ (m.map (·.1)).Nodup /\ m.length <= 12 /\ ∀ x ∈ m, KeyFew x.1 := by
 have HN := Hid.hide (fun k W h l h1 => value_loop (w.heap.size + 1) raw hr k W h l h1)
 have aa := Hid.hide (fun W h => key_few (w.heap.size + 1) raw W h hr)
 have HV := Hid.hide (fun W h => value_any (w.heap.size + 1) raw W h hr)
 clear hr
 go_enter Tryz.func4, Tryz.ntmps4
 go_wp2_with fail
 have y : Hid (KnSt w (((w.alloc (.cells #[.slice none 0 0, .slice none 0 0] 26)).alloc (.cells #[.string raw, .int .i64 0] 48)).alloc (.cells #[.slice none 0 0, .slice none 0 0] 26)) raw (.slice none 0 0) (.slice none 0 0) []) := KnSt.start
 generalize World.alloc (World.alloc (World.alloc w _) _) _ = w0 at y ⊢
 refine (HN.out 13 w0 y.out.feed (by omega) (by omega)).mono ?_
 rintro e w1 ⟨L, ac, rfl, E⟩
 have X : Hid (KnSt w w1 raw (.slice none 0 0) (.slice none 0 0) [] /\ L <= 12) := ⟨y.out.fed E, by omega⟩
 clear E y ac
 go_wp2
 go_loopg [5] L (fun g n wr => ∃ (k : Nat) (ks vs : Value) (m : List (Array Nat × ByteArray)), k = g /\ n = .int .i64 (k : Int) /\ m.length + k <= 12 /\ KnSt w wr raw ks vs m /\ ∀ x ∈ m, KeyFew x.1)
 case atStart => exact ⟨L, _, _, [], rfl, rfl, by have := X.out.2; simp; omega, X.out.1, fun x Q => (by cases Q)⟩
 case round =>
  obtain ⟨k, ks, vs, m, rfl, rfl, P, a, G⟩ := hrel
  have z := Hid.hide G
  clear G
  obtain ⟨T, R, M, rfl⟩ := a.kn.keys.shape
  obtain ⟨U, S, N, rfl⟩ := a.kn.vals.shape
  by_cases l : k = 0
  ·subst l
   have o0 := a.c0
   have o1 := a.c1
   have s0 := cell_of_row wr _ 0 _ _ (0, 0) a.res
   have s1 := cell_of_row wr _ 1 _ _ (0, 0) a.res
   have t0 := frozen_of_row wr _ 0 _ _ a.res
   have V := frozen_of_row wr _ 1 _ _ a.res
   have HZ := Hid.hide a.fin
   have HE : Hid ((m.map (·.1)).Nodup /\ m.length <= 12 /\ ∀ x ∈ m, KeyFew x.1) := ⟨a.dup, by omega, z.out⟩
   clear a P
   go_wp2
   refine bodyPost_ret (v := .agg #[.slice T R M, .slice U S N]) (by simp [results, Tryz.results4, go_sem, s0, s1]) rfl ?_
   exact ⟨(HZ.out _ (by rfl) (by rfl) (by rfl) (by rfl)).1, _, _, m, rfl, (HZ.out _ (by rfl) (by rfl) (by rfl) (by rfl)).2, HE.out⟩
  ·have ag : (0 : Int) < (k : Int) := by omega
   have j : Hid (KnSt w wr raw (.slice T R M) (.slice U S N) m /\ m.length + k <= 12 /\ ¬ k = 0) := ⟨a, P, l⟩
   have ae := a.size
   clear a P l
   go_wp2_with fail
   refine (aa.out wr j.out.1.feed).mono ?_
   rintro e t ⟨K, O, C, D, rfl, F⟩
   have Y := Hid.hide D
   clear D
   have d : Hid (KnSt w t raw (.slice T R M) (.slice U S N) m /\ K.size = 32 /\ Bytes K) := ⟨j.out.1.fed F, O, C⟩
   obtain ⟨V, z2, z1, q, f, r, s⟩ := laid_key t K O
   clear F C ae
   go_wp2_with (refine wpList_store_mid rfl 43 _ _ rfl t.heap.size 0 (K.toList.map encB).toArray rfl rfl V z2 q ?_; rw [List.toList_toArray]; generalize World.setCells _ _ _ _ = w3 at f r s ⊢; clear V z2 q)
   refine (HV.out w3 (d.out.1.behind f).feed).mono ?_
   rintro e w4 ⟨u, I, J, rfl, p⟩
   have b := (d.out.1.behind f).fed p
   have H : w4.rangeAt t.heap.size 0 (K.toList.map encB) := rangeAt_block r (p.1.block _ s (by have := d.out.1.size; omega))
   have o0 := b.c0
   have o1 := b.c1
   have HW := Hid.hide (kwith_big b.kn (by have := j.out.2.1; omega) d.out.2.1 d.out.2.2 I J)
   have B := Hid.hide b
   clear b p r s f I J O
   go_wp2_with (refine wpList_load_mid rfl 43 _ rfl t.heap.size 0 rfl (K.toList.map encB) _ H Tryz.underlying43 rfl z1 ?_)
   refine HW.out.mono ?_
   rintro e w5 ⟨o, ah, ai, rfl, i⟩
   obtain ⟨pa, ma, ca, rfl⟩ := i.keys.shape
   obtain ⟨pb, mb, cb, rfl⟩ := i.vals.shape
   have c := B.out.behind o
   have q0 := c.c0
   have q1 := c.c1
   have f0 := c.f0
   have f1 := c.f1
   have ab := Hid.hide (B.out.step o i)
   have Z : Hid (wrap64 ((k : Int) - 1) = ((k - 1 : Nat) : Int)) := by
    have h : wrap64 ((k : Int) - 1) = ((k - 1 : Nat) : Int) := (by unfold wrap64; have := j.out; omega)
    exact h
   clear c o i o0 o1 H
   go_wp2
   go_roundg (k - 1)
   case measure => have := j.out; omega
   case rel => exact ⟨k - 1, _, _, wiN m K u, rfl, val_int Z.out, by have := wi_len m K u; have := j.out; omega, ab.out, fun x Q => (by rcases List.mem_append.1 Q with h | h; exact z.out x (List.mem_filter.1 h).1; rw [List.mem_singleton.1 h]; exact Y.out)⟩
theorem movedB_put {B : Nat} {S : Wood} {w : World} {b C : Nat} {g : List Nat -> Option ByteArray} {ks vs : Value} {m : Mp} {K : Array Nat} {u : ByteArray} (ht : Tells S w b g) (hf : Forest B S w) (hk : Kn w C ks vs m) (hrow : ∀ k, (ks.ownBlock = some k \/ vs.ownBlock = some k) -> S k = none /\ k ≠ b) (hm : m.length <= 2199023255552) (hK : K.size = 32) (hKb : Bytes K) (hu0 : 0 < u.size) (hu1 : u.size <= 100) :
  Calls Tryz.prog 18 #[.agg #[ks, vs], .pointer (some ⟨b, 0, none⟩), .agg (K.toList.map encB).toArray, .bool false, .string u] w fun e w' => ∃ ks' vs' S', e = .returned (.tuple #[.agg #[ks', vs'], .bool true]) /\ Tells S' w' b (fun s => if s = nibs K.toList then some u else g s) /\ FrX B (· = b) S S' w w' /\ Kn w' w.heap.size ks' vs' (wiN m K u) /\ ∀ k, (ks'.ownBlock = some k \/ vs'.ownBlock = some k) -> S' k = none := by
 obtain ⟨L, I, G, rfl⟩ := hk.keys.shape
 obtain ⟨M, J, H, rfl⟩ := hk.vals.shape
 have W : b < w.heap.size := by obtain ⟨t, h, -⟩ := ht.ex; exact h.lt
 have aa : (Tryz.prog.info? 43).map (·.size) = some (K.toList.map encB).length := by rw [size51]; simp [hK]
 obtain ⟨q, h0, a, O, Z⟩ := alloc3 w (.cells #[.slice L I G, .slice M J H] 26) (.cells (K.toList.map encB).toArray 43) (.cells #[.slice none 0 0, .slice none 0 0] 26)
 obtain ⟨W0, V⟩ : ∃ W0, ((w.alloc (.cells #[.slice L I G, .slice M J H] 26)).alloc (.cells (K.toList.map encB).toArray 43)).alloc (.cells #[.slice none 0 0, .slice none 0 0] 26) = W0 := ⟨_, rfl⟩
 rw [V] at q h0 a O Z
 have R : W0.rangeAt (w.heap.size + 1) 0 (K.toList.map encB) := fun j v hv => by
  simp only [World.cell?, a, Nat.zero_add]
  simpa using hv
 have P := Fr.of_below hf q
 have HP := Hid.hide ((ht.behind hf q).put P.forest hK hKb hu0 hu1)
 have U : Hid (Below w.heap.size w W0 /\ W0.heap.size = w.heap.size + 3 /\ Kn W0 C (.slice L I G) (.slice M J H) m /\ (∀ k, ((Value.slice L I G).ownBlock = some k \/ (Value.slice M J H).ownBlock = some k) -> S k = none /\ k ≠ b) /\ m.length <= 2199023255552 /\ K.size = 32 /\ Bytes K /\ 0 < u.size /\ u.size <= 100 /\ b < w.heap.size /\ Forest B S w /\ Fr B S S w W0) := ⟨q, by omega, hk.below q, hrow, hm, hK, hKb, hu0, hu1, W, hf, P⟩
 have HH : Hid (W0.heap[w.heap.size]? = some (.cells #[.slice L I G, .slice M J H] 26 (0, 0)) /\ W0.heap[w.heap.size + 1 + 1]? = some (.cells #[.slice none 0 0, .slice none 0 0] 26 (0, 0))) := ⟨h0, O⟩
 clear ht hf hk hrow hm hK hKb hu0 hu1 q P h0 a O W Z
 go_enter Tryz.func18, Tryz.ntmps18
 go_wp2_with (refine wpList_load_mid rfl 43 _ rfl (w.heap.size + 1) 0 rfl (K.toList.map encB) _ R Tryz.underlying43 rfl aa ?_)
 clear V
 refine HP.out.mono ?_
 rintro e N ⟨rfl, z, ab, D⟩
 have c := U.out
 have F : ∀ k, w.heap.size <= k -> k < W0.heap.size -> N.heap[k]? = W0.heap[k]? := fun k a O => D.other k O (c.2.2.2.2.2.2.2.2.2.2.1.fresh a) (by omega)
 have Y : Kn N C (.slice L I G) (.slice M J H) m := c.2.2.1.keepB D.size fun k hk e => D.other k hk (c.2.2.2.1 k e).1 (c.2.2.2.1 k e).2
 have T : N.rangeAt (w.heap.size + 1) 0 (K.toList.map encB) := rangeAt_block R (F _ (by omega) (by omega))
 obtain ⟨c0, c1, -⟩ := box_cells' ((F w.heap.size (by omega) (by omega)).trans HH.out.1)
 have HW := Hid.hide (kwith_big Y c.2.2.2.2.1 c.2.2.2.2.2.1 c.2.2.2.2.2.2.1 c.2.2.2.2.2.2.2.1 c.2.2.2.2.2.2.2.2.1)
 have y : Hid (Tells z N b (fun s => if s = nibs K.toList then some u else g s) /\ FrX B (· = b) S z W0 N /\ N.heap[w.heap.size + 1 + 1]? = some (.cells #[.slice none 0 0, .slice none 0 0] 26 (0, 0))) := ⟨ab, D, (F _ (by omega) (by omega)).trans HH.out.2⟩
 clear ab D F Y c R HP HH
 go_wp2_with (refine wpList_load_mid rfl 43 _ rfl (w.heap.size + 1) 0 rfl (K.toList.map encB) _ T Tryz.underlying43 rfl aa ?_)
 refine HW.out.mono ?_
 rintro e w2 ⟨E, ks', vs', rfl, r⟩
 obtain ⟨o, i, d, rfl⟩ := r.keys.shape
 obtain ⟨p, l, f, rfl⟩ := r.vals.shape
 have Q : w2.heap[w.heap.size + 1 + 1]? = some (.cells #[.slice none 0 0, .slice none 0 0] 26 (0, 0)) := (E.block _ (Array.getElem?_eq_some_iff.1 y.out.2.2).1).trans y.out.2.2
 obtain ⟨d0, d1, g0, g1⟩ := box_cells' Q
 obtain ⟨q1, n⟩ := box_set2 Q (.slice o i d) (.slice p l f)
 obtain ⟨e0, e1, -⟩ := box_cells' q1
 have X : FrX B (· = b) S z w ((w2.setCell ⟨w.heap.size + 1 + 1, 0, none⟩ (.slice o i d)).setCell ⟨w.heap.size + 1 + 1, 1, none⟩ (.slice p l f)) := by
  have c := U.out
  have a : FrX B (· = b) S z w w2 := ((c.2.2.2.2.2.2.2.2.2.2.2.x _).trans y.out.2.1).behind E
  have hn : z (w.heap.size + 1 + 1) = none := y.out.2.1.new _ (by omega) (c.2.2.2.2.2.2.2.2.2.2.1.fresh (by omega))
  refine ⟨n.os.trans a.os, n.tape.trans a.tape, n.output.trans a.output, Nat.le_trans a.size n.size, fun k hk ac ag => (n.block k (Nat.lt_of_lt_of_le hk a.size) (by omega)).trans (a.other k hk ac ag), forest_only a.forest n hn, a.sub, a.new⟩
 have HE : Hid (Tells z ((w2.setCell ⟨w.heap.size + 1 + 1, 0, none⟩ (.slice o i d)).setCell ⟨w.heap.size + 1 + 1, 1, none⟩ (.slice p l f)) b (fun s => if s = nibs K.toList then some u else g s) /\ FrX B (· = b) S z w ((w2.setCell ⟨w.heap.size + 1 + 1, 0, none⟩ (.slice o i d)).setCell ⟨w.heap.size + 1 + 1, 1, none⟩ (.slice p l f)) /\ Kn ((w2.setCell ⟨w.heap.size + 1 + 1, 0, none⟩ (.slice o i d)).setCell ⟨w.heap.size + 1 + 1, 1, none⟩ (.slice p l f)) w.heap.size (.slice o i d) (.slice p l f) (wiN m K u) /\ ∀ k, ((Value.slice o i d).ownBlock = some k \/ (Value.slice p l f).ownBlock = some k) -> z k = none) := by
  have c := U.out
  have ah := y.out.2.1.size
  have ae : ∀ k, ((Value.slice o i d).ownBlock = some k \/ (Value.slice p l f).ownBlock = some k) -> k ≠ w.heap.size + 1 + 1 := fun k hk => by have := (r.lo hk).1; omega
  refine ⟨?_, X, (r.keepB n.size fun k hk e => n.block k hk (ae k e)).mono (by omega), fun k hk => y.out.2.1.forest.fresh (r.lo hk).1⟩
  obtain ⟨t, t1, t2, t3⟩ := (y.out.1.behind y.out.2.1.forest E).ex
  exact ⟨t, t1.only n (by omega), t2, t3⟩
 generalize hww : (w2.setCell ⟨w.heap.size + 1 + 1, 0, none⟩ (.slice o i d)).setCell ⟨w.heap.size + 1 + 1, 1, none⟩ (.slice p l f) = ww at HE e0 e1
 clear E r Q q1 n X y U HW T c0 c1
 go_wp2
 refine bodyPost_ret (v := .tuple #[.agg #[.slice o i d, .slice p l f], .bool true]) (by simp [results, Tryz.results18, go_sem, e0, e1]) rfl ?_
 exact ⟨_, _, z, rfl, HE.out⟩
attribute [local go_sem ↓] wp_load_key in
theorem movedB_del {B : Nat} {S : Wood} {w : World} {b C : Nat} {g : List Nat -> Option ByteArray} {ks vs : Value} {m : Mp} {K : Array Nat} {u : ByteArray} (ht : Tells S w b g) (hf : Forest B S w) (hk : Kn w C ks vs m) (hrow : ∀ k, (ks.ownBlock = some k \/ vs.ownBlock = some k) -> S k = none /\ k ≠ b) (hm : m.length <= 2199023255552) (hK : K.size = 32) (hKb : Bytes K) (hgm : g (nibs K.toList) = getN m (nibs K.toList)) (hd : (m.map pth).Nodup) :
  Calls Tryz.prog 18 #[.agg #[ks, vs], .pointer (some ⟨b, 0, none⟩), .agg (K.toList.map encB).toArray, .bool true, .string u] w fun e w' => ∃ ks' vs' S', e = .returned (.tuple #[.agg #[ks', vs'], .bool true]) /\ Tells S' w' b (fun s => if s = nibs K.toList then none else g s) /\ FrX B (· = b) S S' w w' /\ Kn w' w.heap.size ks' vs' (woN m K) /\ ∀ k, (ks'.ownBlock = some k \/ vs'.ownBlock = some k) -> S' k = none := by
 obtain ⟨R, P, L, rfl⟩ := hk.keys.shape
 obtain ⟨T, Q, M, rfl⟩ := hk.vals.shape
 have am : b < w.heap.size := by obtain ⟨t, h, -⟩ := ht.ex; exact h.lt
 have bi : (Tryz.prog.info? 43).map (·.size) = some (K.toList.map encB).length := by rw [size51]; simp [hK]
 obtain ⟨D, h0, c, h2, ao⟩ := alloc3 w (.cells #[.slice R P L, .slice T Q M] 26) (.cells (K.toList.map encB).toArray 43) (.cells #[.slice none 0 0, .slice none 0 0] 26)
 obtain ⟨W0, al⟩ : ∃ W0, ((w.alloc (.cells #[.slice R P L, .slice T Q M] 26)).alloc (.cells (K.toList.map encB).toArray 43)).alloc (.cells #[.slice none 0 0, .slice none 0 0] 26) = W0 := ⟨_, rfl⟩
 rw [al] at D h0 c h2 ao
 have aj : W0.rangeAt (w.heap.size + 1) 0 (K.toList.map encB) := fun j v hv => by
  simp only [World.cell?, c, Nat.zero_add]
  simpa using hv
 have ac := Fr.of_below hf D
 obtain ⟨oo, ah⟩ : ∃ oo, g (nibs K.toList) = oo := ⟨_, rfl⟩
 have HP := Hid.hide ((ht.behind hf D).del ac.forest hK hKb ah)
 have aa : Hid (getN m (nibs K.toList) = oo /\ (m.map pth).Nodup) := ⟨hgm.symm.trans ah, hd⟩
 have HX : Hid (Below w.heap.size w W0 /\ W0.heap.size = w.heap.size + 3 /\ Kn W0 C (.slice R P L) (.slice T Q M) m /\ (∀ k, ((Value.slice R P L).ownBlock = some k \/ (Value.slice T Q M).ownBlock = some k) -> S k = none /\ k ≠ b) /\ m.length <= 2199023255552 /\ K.size = 32 /\ Bytes K /\ True /\ True /\ b < w.heap.size /\ Forest B S w /\ Fr B S S w W0) := ⟨D, by omega, hk.below D, hrow, hm, hK, hKb, trivial, trivial, am, hf, ac⟩
 have HH : Hid (W0.heap[w.heap.size]? = some (.cells #[.slice R P L, .slice T Q M] 26 (0, 0)) /\ W0.heap[w.heap.size + 1 + 1]? = some (.cells #[.slice none 0 0, .slice none 0 0] 26 (0, 0))) := ⟨h0, h2⟩
 clear ht hf hk hrow hm hK hKb hgm hd ah D ac h0 c h2 am ao
 go_enter Tryz.func18, Tryz.ntmps18
 obtain ⟨bg, bh⟩ := keyCells_of aj (by rw [List.length_map, Array.length_toList]; exact HX.out.2.2.2.2.2.1)
 go_wp2_with fail
 clear al
 refine HP.out.mono ?_
 rintro e d ⟨rfl, F, ap, E⟩
 have o := HX.out
 have O : ∀ k, w.heap.size <= k -> k < W0.heap.size -> d.heap[k]? = W0.heap[k]? := fun k c h2 => E.other k h2 (o.2.2.2.2.2.2.2.2.2.2.1.fresh c) (by omega)
 have ag : Kn d C (.slice R P L) (.slice T Q M) m := o.2.2.1.keepB E.size fun k hk e => E.other k hk (o.2.2.2.1 k e).1 (o.2.2.2.1 k e).2
 have U : d.rangeAt (w.heap.size + 1) 0 (K.toList.map encB) := rangeAt_block aj (O _ (by omega) (by omega))
 obtain ⟨c0, c1, -⟩ := box_cells' ((O w.heap.size (by omega) (by omega)).trans HH.out.1)
 have HW := Hid.hide (without_big ag o.2.2.2.2.1 o.2.2.2.2.2.1 o.2.2.2.2.2.2.1)
 have ak : Hid (∀ W, Below d.heap.size d W -> Calls Tryz.prog 27 #[.agg #[.slice R P L, .slice T Q M], .agg (K.toList.map encB).toArray] W fun e w' => e = .returned (.int .i64 (findV (findN m K))) /\ Below W.heap.size W w') := fun W hW => kfind_big (ag.below hW) o.2.2.2.2.1 o.2.2.2.2.2.1 o.2.2.2.2.2.2.1
 have HC : Hid (∀ W, Below d.heap.size d W -> W.cell? ⟨w.heap.size, 0, none⟩ = some (.slice R P L) /\ W.cell? ⟨w.heap.size, 1, none⟩ = some (.slice T Q M) /\ W.rangeAt (w.heap.size + 1) 0 (K.toList.map encB)) := fun W hW => by
  have az := E.size
  have h0 := (O w.heap.size (by omega) (by omega)).trans HH.out.1
  obtain ⟨c0, c1, -⟩ := box_cells' ((hW.block w.heap.size (by omega)).trans h0)
  exact ⟨c0, c1, rangeAt_block U (hW.block _ (by omega))⟩
 have H : Hid (Tells F d b (fun s => if s = nibs K.toList then none else g s) /\ FrX B (· = b) S F W0 d /\ d.heap[w.heap.size + 1 + 1]? = some (.cells #[.slice none 0 0, .slice none 0 0] 26 (0, 0))) := ⟨ap, E, (O _ (by omega) (by omega)).trans HH.out.2⟩
 clear ap E O ag o aj HP HH
 obtain ⟨bc, bf⟩ := keyCells_of U (by rw [List.length_map, Array.length_toList]; exact HX.out.2.2.2.2.2.1)
 go_wp2_with fail
 refine HW.out.mono ?_
 rintro e X ⟨Y, ks', vs', rfl, Z⟩
 obtain ⟨r, p, f, rfl⟩ := Z.keys.shape
 obtain ⟨y, q, l, rfl⟩ := Z.vals.shape
 obtain ⟨e0, e1, V⟩ := HC.out X Y
 have J : Hid (Below d.heap.size d X /\ Kn X d.heap.size (.slice r p f) (.slice y q l) (woN m K)) := ⟨Y, Z⟩
 have z := Hid.hide (ak.out X Y)
 clear Y Z U c0 c1 HW ak HC
 obtain ⟨ar, au⟩ := keyCells_of V (by rw [List.length_map, Array.length_toList]; exact HX.out.2.2.2.2.2.1)
 have ai : X.heap[w.heap.size + 1 + 1]? = some (.cells #[.slice none 0 0, .slice none 0 0] 26 (0, 0)) := (J.out.1.block _ (Array.getElem?_eq_some_iff.1 H.out.2.2).1).trans H.out.2.2
 have HE : Hid (∀ w3, Below X.heap.size X w3 -> w3.heap[w.heap.size + 1 + 1]? = some (.cells #[.slice none 0 0, .slice none 0 0] 26 (0, 0)) /\ (Tells F ((w3.setCell ⟨w.heap.size + 1 + 1, 0, none⟩ (.slice r p f)).setCell ⟨w.heap.size + 1 + 1, 1, none⟩ (.slice y q l)) b (fun s => if s = nibs K.toList then none else g s) /\ FrX B (· = b) S F w ((w3.setCell ⟨w.heap.size + 1 + 1, 0, none⟩ (.slice r p f)).setCell ⟨w.heap.size + 1 + 1, 1, none⟩ (.slice y q l)) /\ Kn ((w3.setCell ⟨w.heap.size + 1 + 1, 0, none⟩ (.slice r p f)).setCell ⟨w.heap.size + 1 + 1, 1, none⟩ (.slice y q l)) w.heap.size (.slice r p f) (.slice y q l) (woN m K) /\ ∀ k, ((Value.slice r p f).ownBlock = some k \/ (Value.slice y q l).ownBlock = some k) -> F k = none)) := fun w3 n => by
  have o := HX.out
  have az := H.out.2.1.size
  have a := (n.block _ (Array.getElem?_eq_some_iff.1 ai).1).trans ai
  obtain ⟨q1, G⟩ := box_set2 a (.slice r p f) (.slice y q l)
  have ab : Below d.heap.size d w3 := J.out.1.behind' n
  have av := J.out.2.below n
  have ay : ∀ k, ((Value.slice r p f).ownBlock = some k \/ (Value.slice y q l).ownBlock = some k) -> k ≠ w.heap.size + 1 + 1 := fun k hk => by have := (J.out.2.lo hk).1; omega
  have c : FrX B (· = b) S F w w3 := ((o.2.2.2.2.2.2.2.2.2.2.2.x _).trans H.out.2.1).behind ab
  have hn : F (w.heap.size + 1 + 1) = none := H.out.2.1.new _ (by omega) (o.2.2.2.2.2.2.2.2.2.2.1.fresh (by omega))
  refine ⟨a, ?_, ⟨G.os.trans c.os, G.tape.trans c.tape, G.output.trans c.output, Nat.le_trans c.size G.size, fun k hk aw ba => (G.block k (Nat.lt_of_lt_of_le hk c.size) (by omega)).trans (c.other k hk aw ba), forest_only c.forest G hn, c.sub, c.new⟩, (av.keepB G.size fun k hk e => G.block k hk (ay k e)).mono (by omega), fun k hk => H.out.2.1.forest.fresh (J.out.2.lo hk).1⟩
  obtain ⟨t, t1, t2, t3⟩ := (H.out.1.behind H.out.2.1.forest ab).ex
  exact ⟨t, t1.only G (by omega), t2, t3⟩
 clear ai
 cases hfi : findN m K with
 | none =>
  have ho : oo = none := by rw [<- aa.out.1]; exact find_no hfi
  subst ho
  rw [hfi] at z
  simp only [Option.isSome_none]
  simp only [findV] at z
  clear hfi
  go_wp2_with fail
  refine z.out.mono ?_
  rintro e w3 ⟨rfl, n⟩
  obtain ⟨a, N⟩ := HE.out w3 n
  obtain ⟨d0, d1, g0, g1⟩ := box_cells' a
  obtain ⟨x0, x1, -⟩ := box_cells' (box_set2 a (.slice r p f) (.slice y q l)).1
  have I := Hid.hide N
  generalize hww : (w3.setCell ⟨w.heap.size + 1 + 1, 0, none⟩ (.slice r p f)).setCell ⟨w.heap.size + 1 + 1, 1, none⟩ (.slice y q l) = ww at I x0 x1
  clear n a N HE z e0 e1 V ar au
  go_wp2
  refine bodyPost_ret (v := .tuple #[.agg #[.slice r p f, .slice y q l], .bool true]) (by simp [results, Tryz.results18, go_sem, x0, x1]) rfl ?_
  exact ⟨_, _, F, rfl, I.out⟩
 | some i =>
  obtain ⟨hi, -, ae⟩ := find_get aa.out.2 hfi
  obtain ⟨uv, aq⟩ : ∃ v, m[i].2 = v := ⟨_, rfl⟩
  rw [aq] at ae
  have ho : oo = some uv := by rw [<- aa.out.1]; exact ae
  subst ho
  rw [hfi] at z
  simp only [Option.isSome_some]
  simp only [findV] at z
  have i1 : ¬ ((i : Int) < 0) := by omega
  have i2 : (0 : Int) <= (i : Int) := by omega
  clear hfi ae aq hi
  go_wp2_with fail
  refine z.out.mono ?_
  rintro e w3 ⟨rfl, n⟩
  obtain ⟨a, N⟩ := HE.out w3 n
  obtain ⟨d0, d1, g0, g1⟩ := box_cells' a
  obtain ⟨x0, x1, -⟩ := box_cells' (box_set2 a (.slice r p f) (.slice y q l)).1
  have I := Hid.hide N
  generalize hww : (w3.setCell ⟨w.heap.size + 1 + 1, 0, none⟩ (.slice r p f)).setCell ⟨w.heap.size + 1 + 1, 1, none⟩ (.slice y q l) = ww at I x0 x1
  clear n a N HE z e0 e1 V ar au
  go_wp2
  refine bodyPost_ret (v := .tuple #[.agg #[.slice r p f, .slice y q l], .bool true]) (by simp [results, Tryz.results18, go_sem, x0, x1]) rfl ?_
  exact ⟨_, _, F, rfl, I.out⟩
theorem says_of {w : World} {b C : Nat} {ks vs : Value} {m : Mp} {K : Array Nat} (hGt : ∀ W, Below w.heap.size w W -> Calls Tryz.prog 26 #[.pointer (some ⟨b, 0, none⟩), .agg (K.toList.map encB).toArray] W fun x w' => x = .returned (.tuple #[.string ((getN m (nibs K.toList)).getD ⟨#[]⟩), .bool (getN m (nibs K.toList)).isSome, .int .i64 0]) /\ Below W.heap.size W w') (hk : Kn w C ks vs m) (hm : m.length <= 2199023255552) (hd : (m.map pth).Nodup) (hK : K.size = 32) (hKb : Bytes K) :
  Calls Tryz.prog 11 #[.agg #[ks, vs], .pointer (some ⟨b, 0, none⟩), .agg (K.toList.map encB).toArray] w fun e w' => e = .returned (.bool true) /\ Below w.heap.size w w' := by
 obtain ⟨B, y, q, rfl⟩ := hk.keys.shape
 obtain ⟨D, z, r, rfl⟩ := hk.vals.shape
 have v : (Tryz.prog.info? 43).map (·.size) = some (K.toList.map encB).length := by rw [size51]; simp [hK]
 obtain ⟨W0, h⟩ : ∃ W0, (w.alloc (.cells #[.slice B y q, .slice D z r] 26)).alloc (.cells (K.toList.map encB).toArray 43) = W0 := ⟨_, rfl⟩
 have k : Below w.heap.size w W0 := by rw [<- h]; exact ((Below.refl _ _).alloc (Nat.le_refl _) _).alloc (by simp) _
 have R : W0.heap.size = w.heap.size + 2 := by rw [<- h]; simp
 have M : W0.cell? ⟨w.heap.size, 0, none⟩ = some (.slice B y q) := by rw [<- h]; simp
 have N : W0.cell? ⟨w.heap.size, 1, none⟩ = some (.slice D z r) := by rw [<- h]; simp
 have l : W0.rangeAt (w.heap.size + 1) 0 (K.toList.map encB) := fun j u E => by
  have U : (w.alloc (.cells #[.slice B y q, .slice D z r] 26)).heap.size = w.heap.size + 1 := by simp
  rw [<- h, Nat.zero_add, <- U, World.cell?_alloc_new]
  simpa using E
 have S := Hid.hide (hGt W0 k)
 have F : Hid (∀ g, Below W0.heap.size W0 g -> Calls Tryz.prog 27 #[.agg #[.slice B y q, .slice D z r], .agg (K.toList.map encB).toArray] g fun e w' => e = .returned (.int .i64 (findV (findN m K))) /\ Below g.heap.size g w') := fun g d => kfind_big ((hk.below k).below d) hm hK hKb
 have o : Hid (Below w.heap.size w W0 /\ W0.heap.size = w.heap.size + 2 /\ m.length <= 2199023255552 /\ (m.map pth).Nodup /\ Kn W0 C (.slice B y q) (.slice D z r) m) := ⟨k, R, hm, hd, hk.below k⟩
 clear hGt hk hm hd hK hKb k
 go_enter Tryz.func11, Tryz.ntmps11
 go_wp2_with (refine wpList_load_mid rfl 43 _ rfl (w.heap.size + 1) 0 rfl (K.toList.map encB) _ l Tryz.underlying43 rfl v ?_)
 refine S.out.mono ?_
 rintro e g ⟨rfl, d⟩
 have n : g.rangeAt (w.heap.size + 1) 0 (K.toList.map encB) := rangeAt_block l (d.block _ (by omega))
 have T := (World.cell?_of_block (a := ⟨w.heap.size, 0, none⟩) (d.block w.heap.size (by omega))).trans M
 have O := (World.cell?_of_block (a := ⟨w.heap.size, 1, none⟩) (d.block w.heap.size (by omega))).trans N
 have c := Hid.hide d
 clear d l M N h
 cases hfi : findN m K with
 | none =>
  have t := find_no hfi
  rw [t]
  simp only [Option.getD_none, Option.isSome_none]
  have p : Hid (findN m K = none) := hfi
  clear t hfi
  go_wp2_with (refine wpList_load_mid rfl 43 _ rfl (w.heap.size + 1) 0 rfl (K.toList.map encB) _ n Tryz.underlying43 rfl v ?_)
  refine (F.out g c.out).mono ?_
  rintro e L ⟨rfl, f⟩
  rw [p.out]
  simp only [findV]
  have J : Hid (Below w.heap.size w L) := o.out.1.trans ((c.out.trans (f.mono c.out.size)).mono o.out.1.size)
  clear f
  go_wp2
  go_ret
  exact ⟨rfl, J.out⟩
 | some i =>
  obtain ⟨Q, -, t⟩ := find_get o.out.2.2.2.1 hfi
  rw [t]
  simp only [Option.getD_some, Option.isSome_some]
  obtain ⟨P, V, I, H, s⟩ := (o.out.2.2.2.2.below c.out).val Q
  simp only [Value.slice.injEq] at I
  obtain ⟨rfl, rfl, rfl⟩ := I
  obtain ⟨u, E⟩ : ∃ u, m[i].2 = u := ⟨_, rfl⟩
  rw [E] at s ⊢
  have p : Hid (findN m K = some i /\ i < m.length) := ⟨hfi, Q⟩
  clear t hfi E
  go_wp2_with (refine wpList_load_mid rfl 43 _ rfl (w.heap.size + 1) 0 rfl (K.toList.map encB) _ n Tryz.underlying43 rfl v ?_)
  refine (F.out g c.out).mono ?_
  rintro e L ⟨rfl, f⟩
  rw [p.out.1]
  simp only [findV]
  have X : (i : Int) < (m.length : Int) := by omega
  have Y : ¬ (i : Int) < 0 := by omega
  have G : w.heap.size < g.heap.size := by have := c.out.size; omega
  have Z := (World.cell?_of_block (a := ⟨w.heap.size, 1, none⟩) (f.block w.heap.size G)).trans O
  have q2 := (World.cell?_of_block (a := ⟨P, i, none⟩) (f.block P H)).trans s
  have J : Hid (Below w.heap.size w L) := o.out.1.trans ((c.out.trans (f.mono c.out.size)).mono o.out.1.size)
  clear f T O s H G
  go_wp2
  go_ret
  exact ⟨rfl, J.out⟩
theorem psays_any {B : Nat} {S : Wood} (sent : Nat -> Addr) {w : World} {b C : Nat} {a t : Nd} {ks vs : Value} {m : Mp} {K : Array Nat} (hFl : Faults w sent) (hf : Forest B S w) (ht : TreeAt S w b a) (hp : Prt a t) (hc : t.can 64) (hs : a.sees (nibs K.toList)) (hg : t.get (nibs K.toList) = getN m (nibs K.toList)) (hk : Kn w C ks vs m) (hm : m.length <= 2199023255552) (hd : (m.map pth).Nodup) (hK : K.size = 32) (hKb : Bytes K) :
  Calls Tryz.prog 11 #[.agg #[ks, vs], .pointer (some ⟨b, 0, none⟩), .agg (K.toList.map encB).toArray] w fun e w' => e = .returned (.bool true) /\ Below w.heap.size w w' :=
 says_of (fun W hW => (part_xget sent (hFl.below hW) (hf.below hW) (ht.frame (Fr.of_below hf hW)) hp hc hK hKb hg).mono fun x w' h => by
  rcases h with ⟨h | ⟨-, h⟩, hb⟩
  ·exact ⟨h, hb⟩
  ·exact absurd hs h) hk hm hd hK hKb
theorem panswers_any {B : Nat} {S : Wood} (sent : Nat -> Addr) {w : World} {b C : Nat} {a t : Nd} {ks vs : Value} {m : Mp} {K : Array Nat} (hFl : Faults w sent) (hf : Forest B S w) (ht : TreeAt S w b a) (hp : Prt a t) (hc : t.can 64) (hg : t.get (nibs K.toList) = getN m (nibs K.toList)) (hk : Kn w C ks vs m) (hm : m.length <= 1000) (hd : (m.map pth).Nodup) (hK : K.size = 32) (hKb : Bytes K) :
  Calls Tryz.prog 12 #[.agg #[ks, vs], .pointer (some ⟨b, 0, none⟩), .agg (K.toList.map encB).toArray] w fun e w' => e = .returned (.bool true) /\ Below w.heap.size w w' := by
 obtain ⟨r, p, l, rfl⟩ := hk.keys.shape
 obtain ⟨s, q, n, rfl⟩ := hk.vals.shape
 have E : (Tryz.prog.info? 43).map (·.size) = some (K.toList.map encB).length := by rw [size51]; simp [hK]
 obtain ⟨c, G, H, D⟩ := alloc2 w (.cells #[.slice r p l, .slice s q n] 26) (.cells (K.toList.map encB).toArray 43)
 obtain ⟨W0, u⟩ : ∃ W0, (w.alloc (.cells #[.slice r p l, .slice s q n] 26)).alloc (.cells (K.toList.map encB).toArray 43) = W0 := ⟨_, rfl⟩
 rw [u] at c G H D
 have f : W0.rangeAt (w.heap.size + 1) 0 (K.toList.map encB) := fun j v Q => by
  simp only [World.cell?, H, Nat.zero_add]
  simpa using Q
 have k := Hid.hide (part_xget sent (hFl.below c) (hf.below c) (ht.frame (Fr.of_below hf c)) hp hc hK hKb hg)
 have i : Hid (Below w.heap.size w W0 /\ W0.heap.size = w.heap.size + 2 /\ W0.heap[w.heap.size]? = some (.cells #[.slice r p l, .slice s q n] 26 (0, 0))) := ⟨c, by omega, G⟩
 obtain ⟨o, I⟩ : ∃ o, getN m (nibs K.toList) = o := ⟨_, rfl⟩
 have h : Hid (∀ W, Below W0.heap.size W0 W -> Calls Tryz.prog 28 #[.agg #[.slice r p l, .slice s q n], .agg (K.toList.map encB).toArray, .string (o.getD ⟨#[]⟩), .bool o.isSome] W fun e w' => e = .returned (.bool true) /\ Below W.heap.size W w') := fun W P => by
  have := answered_any ((hk.below c).below P) hm hd hK hKb (o.getD ⟨#[]⟩) o.isSome I
  rwa [show ansB o (o.getD ⟨#[]⟩) o.isSome = true by unfold ansB; simp] at this
 rw [I] at k
 clear hFl hf ht hp hc hg hk hm hd hK hKb c G H D I
 go_enter Tryz.func12, Tryz.ntmps12
 go_wp2_with (refine wpList_load_mid rfl 43 _ rfl (w.heap.size + 1) 0 rfl (K.toList.map encB) _ f Tryz.underlying43 rfl E ?_)
 clear u
 refine k.out.mono ?_
 rintro e J ⟨rfl | ⟨rfl, -⟩, d⟩
 ·obtain ⟨U, z⟩ : ∃ v, o.getD ⟨#[]⟩ = v := ⟨_, rfl⟩
  obtain ⟨T, y⟩ : ∃ v, o.isSome = v := ⟨_, rfl⟩
  have g : J.rangeAt (w.heap.size + 1) 0 (K.toList.map encB) := rangeAt_block f (d.block _ (by have := i.out; omega))
  obtain ⟨N, O, -⟩ := box_cells' ((d.block w.heap.size (by have := i.out; omega)).trans i.out.2.2)
  have L := Hid.hide (h.out J d)
  have M := Hid.hide d
  rw [z, y] at L ⊢
  clear d f z y h k
  go_wp2_with (refine wpList_load_mid rfl 43 _ rfl (w.heap.size + 1) 0 rfl (K.toList.map encB) _ g Tryz.underlying43 rfl E ?_)
  refine L.out.mono ?_
  rintro e R ⟨rfl, x⟩
  have F : Hid (Below w.heap.size w R) := (i.out.1.behind' M.out).behind' x
  clear x g N O
  go_wp2
  go_ret
  exact ⟨rfl, F.out⟩
 ·have F : Hid (Below w.heap.size w J) := i.out.1.behind' d
  clear d f h k
  go_wp2
  go_ret
  exact ⟨rfl, F.out⟩
structure N9K (G : World -> Prop) (fb ka : Nat) : Prop where
 feeds : ∀ W W', G W -> Only fb W W' -> G W'
 keys : ∀ W W', G W -> Only ka W W' -> G W'
 ne : fb ≠ ka
theorem there_lt {W : World} {g n : Nat} (h : W.there g 0 n) (hn : 0 < n) : g < W.heap.size := by
 have := (h 0 hn).1
 cases hc : W.cell? ⟨g, 0 + 0, none⟩ with
 | none => rw [hc] at this; cases this
 | some v => exact World.block_lt_of_cell? W _ hc
structure Nf9 (G : World -> Prop) (fb ka : Nat) (asked : ByteArray) (n gk : Nat) (b6 : Bool) (v6 : Value) (b7 : Bool) (v7 : Value) (b8 : Bool) (v8 : Value) (b9 : Bool) (W : World) : Prop where
 all : G W
 feed : FeedAt W fb asked
 there : W.there ka 0 32
 dep : b7 = true -> b6 = true
 pos : b6 = true -> ∃ i : Nat, i < n /\ v6 = .int .i64 (i : Int) /\ (b7 = true -> v7 = .pointer (some ⟨gk, i * 32, none⟩))
 key : b8 = true -> ∃ K : Array Nat, K.size = 32 /\ Bytes K /\ KeyFew K /\ v8 = .agg (K.toList.map encB).toArray
 done : b9 = true -> ∃ K : Array Nat, K.size = 32 /\ Bytes K /\ KeyFew K /\ W.rangeAt ka 0 (K.toList.map encB)
theorem Nf9.next {G : World -> Prop} {fb ka : Nat} {asked : ByteArray} {n gk : Nat} {b6 : Bool} {v6 : Value} {b7 : Bool} {v7 : Value} {b8 : Bool} {v8 : Value} {b9 : Bool} {W W' : World} {c : Nat} (k : N9K G fb ka) (h : Nf9 G fb ka asked n gk b6 v6 b7 v7 b8 v8 b9 W) (hc : c < n) (hf : Fed fb asked W W') (h7 : b7 = false) : Nf9 G fb ka asked n gk true (.int .i64 (c : Int)) b7 v7 b8 v8 b9 W' := by
 have a : W'.heap[ka]? = W.heap[ka]? := hf.1.block ka (there_lt h.there (by omega)) k.ne.symm
 refine ⟨k.feeds _ _ h.all hf.1, hf.2, fun j g => ?_, fun q => rfl, fun _ => ⟨c, hc, rfl, fun q => (by rw [h7] at q; cases q)⟩, h.key, fun q => ?_⟩
 ·rw [World.cell?_of_block a, World.frozen?_of_block a]
  exact h.there j g
 ·obtain ⟨K, b, d, e, f⟩ := h.done q
  exact ⟨K, b, d, e, rangeAt_block f a⟩
theorem Nf9.index {G : World -> Prop} {fb ka : Nat} {asked : ByteArray} {n gk : Nat} {b6 : Bool} {v6 : Value} {b7 : Bool} {v7 : Value} {b8 : Bool} {v8 : Value} {b9 : Bool} {W : World} {i : Nat} (h : Nf9 G fb ka asked n gk b6 v6 b7 v7 b8 v8 b9 W) (d6 : b6 = true) (e : v6 = .int .i64 (i : Int)) : Nf9 G fb ka asked n gk b6 v6 true (.pointer (some ⟨gk, i * 32, none⟩)) b8 v8 b9 W := by
 refine ⟨h.all, h.feed, h.there, fun _ => d6, fun q => ?_, h.key, h.done⟩
 obtain ⟨j, b, a, _⟩ := h.pos q
 rw [e] at a
 simp only [Value.int.injEq, true_and] at a
 have : i = j := by omega
 subst this
 exact ⟨i, b, e, fun _ => rfl⟩
theorem Nf9.at7 {G : World -> Prop} {fb ka : Nat} {asked : ByteArray} {n gk : Nat} {b6 : Bool} {v6 : Value} {b7 : Bool} {v7 : Value} {b8 : Bool} {v8 : Value} {b9 : Bool} {W : World} (h : Nf9 G fb ka asked n gk b6 v6 b7 v7 b8 v8 b9 W) (d7 : b7 = true) : ∃ i, i < n /\ v7 = .pointer (some ⟨gk, i * 32, none⟩) := by
 obtain ⟨j, a, _, b⟩ := h.pos (h.dep d7)
 exact ⟨j, a, b d7⟩
theorem Nf9.load {G : World -> Prop} {fb ka : Nat} {asked : ByteArray} {n gk : Nat} {b6 : Bool} {v6 : Value} {b7 : Bool} {v7 : Value} {b8 : Bool} {v8 : Value} {b9 : Bool} {W : World} {K : Array Nat} (h : Nf9 G fb ka asked n gk b6 v6 b7 v7 b8 v8 b9 W) (h1 : K.size = 32) (h2 : Bytes K) (h3 : KeyFew K) : Nf9 G fb ka asked n gk b6 v6 b7 v7 true (.agg (K.toList.map encB).toArray) b9 W :=
 ⟨h.all, h.feed, h.there, h.dep, h.pos, fun _ => ⟨K, h1, h2, h3, rfl⟩, h.done⟩
theorem Nf9.store {G : World -> Prop} {fb ka : Nat} {asked : ByteArray} {n gk : Nat} {b6 : Bool} {v6 : Value} {b7 : Bool} {v7 : Value} {b8 : Bool} {v8 : Value} {b9 : Bool} {W : World} {K : Array Nat} (k : N9K G fb ka) (h : Nf9 G fb ka asked n gk b6 v6 b7 v7 b8 v8 b9 W) (h1 : K.size = 32) (h2 : Bytes K) (h3 : KeyFew K) : Nf9 G fb ka asked n gk b6 v6 b7 v7 b8 v8 true (W.setCells ka 0 (K.toList.map encB)) := by
 obtain ⟨c, d, e, f⟩ := size_setCells ka (K.toList.map encB) 0 W
 have a : Only ka W (W.setCells ka 0 (K.toList.map encB)) := ⟨d, e, f, Nat.le_of_eq c.symm, fun j _ b => heap_setCells _ _ _ _ _ b⟩
 exact ⟨k.keys _ _ h.all a, h.feed.keep (a.block fb h.feed.lt k.ne) a.size, World.there_setCells h.there _ _ _, h.dep, h.pos, h.key, fun _ => ⟨K, h1, h2, h3, World.rangeAt_setCells_same W ka 0 _ (by simpa [h1] using h.there)⟩⟩
structure CaI (w : World) (B n1 n2 bt bp : Nat) (qk : Option Addr) (dk : Nat) (qv : Option Addr) (dv : Nat) (o : Mp) (m : Mp) (t a : Nd) (J : Wood) (R : World) (V : Nat -> Prop) (pk : Option Addr) (ck : Nat) (pv : Option Addr) (cv : Nat) (W : World) : Prop where
 s : TwS w R V B bt bp t a J W
 k : TwM w n1 pk ck pv cv m R V
 ko : TwM w n2 qk dk qv dv o R V
 ro : ∀ i, ((Value.slice qk o.length dk).ownBlock = some i \/ (Value.slice qv o.length dv).ownBlock = some i) -> i ≠ n1
 pr : Prt a t
 can : t.can 64
 get : ∀ s, s.length = 64 -> t.get s = getN m s
 dup : (m.map (·.1)).Nodup
 few : ∀ x ∈ m, KeyFew x.1
theorem sum_big (k : Nat) (h : k + 1 <= 9223372036854775807) : wrap64 ((k : Int) + 1) = ((k + 1 : Nat) : Int) := by
 unfold wrap64
 omega
theorem feed_new (w : World) (s : ByteArray) : FeedAt (w.alloc (.cells #[.string s, .int .i64 0] 48)) w.heap.size s := by
 have h := heap_new w (.cells #[.string s, .int .i64 0] 48)
 obtain ⟨a, b, -, c⟩ := box_cells' h
 exact ⟨by simp, a, ⟨0, b, Nat.zero_le _⟩, c⟩
theorem TwM.next {w R W : World} {U U' : Nat -> Prop} {B bt bp : Nat} {t a : Nd} {J : Wood} {n1 : Nat} {pk : Option Addr} {ck : Nat} {pv : Option Addr} {cv : Nat} {m : Mp} (h : TwM w n1 pk ck pv cv m R U) (hS : TwS w R U B bt bp t a J W) (hU : ∀ k, U k -> U' k) : TwM w n1 pk ck pv cv m W U' := ⟨(h.at hS).1, (h.at hS).2, hU _ h.u1, fun k hk => hU _ (h.ur k hk)⟩
theorem TwS.plus {w R W : World} {U U' : Nat -> Prop} {B bt bp : Nat} {t a : Nd} {J : Wood} {k : Nat} (h : TwS w R U B bt bp t a J W) (hk : k < W.heap.size) (hF : TwF w U bt bp J k) (hU : ∀ i, U' i -> U i \/ i = k) : TwS w W U' B bt bp t a J W := h.next fun i hx => by
 rcases hU i hx with hx | rfl
 ·have := h.uj i hx
  exact ⟨Nat.lt_of_lt_of_le this.1 h.q.size, this.2⟩
 ·exact ⟨hk, hF.1.2.1, hF.1.2.2.1, hF.2⟩
def mvV (ks vs : Value) : Value := .tuple #[.agg #[ks, vs], .bool true]
structure MvX (P1 : World -> Prop) (F1 : Nat -> Prop) (P2 : Value -> Value -> Nd -> Wood -> World -> Prop) (F2 : Value -> Value -> Nd -> Wood -> Nat -> Prop) (d9 d10 d11 d13 d14 : Bool) (v9 v10 v11 v13 : Value) (W : World) : Prop where
 o10 : d10 = true -> d9 = true
 o11 : d11 = true -> d10 = true
 o14 : d14 = true -> d11 = true /\ d13 = true
 pre : d9 = false -> P1 W /\ (d13 = true -> ∃ f x y, v13 = .pointer (some ⟨f, 0, none⟩) /\ F1 f /\ W.heap[f]? = some (.cells #[x, y] 26 (0, 0)))
 post : d9 = true -> ∃ ks vs t4 J4, v9 = mvV ks vs /\ (d10 = true -> v10 = mvV ks vs) /\ (d11 = true -> v11 = .agg #[ks, vs]) /\ P2 ks vs t4 J4 W /\ (d13 = true -> ∃ f x y, v13 = .pointer (some ⟨f, 0, none⟩) /\ F2 ks vs t4 J4 f /\ W.heap[f]? = some (.cells #[x, y] 26 (0, 0)) /\ (d14 = true -> x = ks /\ y = vs))
section
variable {P1 : World -> Prop} {F1 : Nat -> Prop} {P2 : Value -> Value -> Nd -> Wood -> World -> Prop} {F2 : Value -> Value -> Nd -> Wood -> Nat -> Prop} {d9 d10 d11 d13 d14 : Bool} {v9 v10 v11 v13 : Value} {W W' : World} {B : Nat} {J : Wood}
theorem MvX.start (h : P1 W) (e9 : d9 = false) (e10 : d10 = false) (e11 : d11 = false) (e13 : d13 = false) (e14 : d14 = false) : MvX P1 F1 P2 F2 d9 d10 d11 d13 d14 v9 v10 v11 v13 W := by
 subst e9 e10 e11 e13 e14
 exact ⟨fun q => (by cases q), fun q => (by cases q), fun q => (by cases q), fun _ => ⟨h, fun q => (by cases q)⟩, fun q => (by cases q)⟩
theorem MvX.both {Q : World -> Prop} (h : MvX P1 F1 P2 F2 d9 d10 d11 d13 d14 v9 v10 v11 v13 W) (h1 : ∀ W, P1 W -> Q W) (h2 : ∀ ks vs t4 J4 W, P2 ks vs t4 J4 W -> Q W) : Q W := by
 cases hd : d9 with
 | false => exact h1 _ (h.pre hd).1
 | true =>
  obtain ⟨ks, vs, t4, J4, -, -, -, a, -⟩ := h.post hd
  exact h2 _ _ _ _ _ a
theorem MvX.no (h : MvX P1 F1 P2 F2 d9 d10 d11 d13 d14 v9 v10 v11 v13 W) (e : d9 = false) : d10 = false /\ d11 = false /\ d14 = false := by
 have a : d10 = false := by
  cases hd : d10 with
  | false => rfl
  | true => rw [h.o10 hd] at e; cases e
 have b : d11 = false := by
  cases hd : d11 with
  | false => rfl
  | true => rw [h.o11 hd] at a; cases a
 refine ⟨a, b, ?_⟩
 cases hd : d14 with
 | false => rfl
 | true => rw [(h.o14 hd).1] at b; cases b
theorem MvX.moved {ks vs : Value} {t4 : Nd} {J4 : Wood} (h : MvX P1 F1 P2 F2 d9 d10 d11 d13 d14 v9 v10 v11 v13 W) (e : d9 = false) (hp : P2 ks vs t4 J4 W') (hF : ∀ k, F1 k -> k < W.heap.size -> F2 ks vs t4 J4 k /\ W'.heap[k]? = W.heap[k]?) : MvX P1 F1 P2 F2 true d10 d11 d13 d14 (mvV ks vs) v10 v11 v13 W' := by
 obtain ⟨a, b, c⟩ := h.no e
 refine ⟨fun _ => rfl, h.o11, h.o14, fun q => (by cases q), fun _ => ⟨ks, vs, t4, J4, rfl, fun q => (by rw [a] at q; cases q), fun q => (by rw [b] at q; cases q), hp, fun q => ?_⟩⟩
 obtain ⟨f, x, y, l, m, d⟩ := (h.pre e).2 q
 have j := (Array.getElem?_eq_some_iff.1 d).1
 obtain ⟨g, i⟩ := hF f m j
 exact ⟨f, x, y, l, g, i.trans d, fun q => (by rw [c] at q; cases q)⟩
theorem MvX.s10 (h : MvX P1 F1 P2 F2 d9 d10 d11 d13 d14 v9 v10 v11 v13 W) (e : d9 = true) : ∃ ks vs, v9 = mvV ks vs /\ MvX P1 F1 P2 F2 d9 true d11 d13 d14 v9 (mvV ks vs) v11 v13 W := by
 obtain ⟨ks, vs, g, b, a, i, c, d, f⟩ := h.post e
 exact ⟨ks, vs, a, fun _ => e, fun _ => rfl, h.o14, h.pre, fun _ => ⟨ks, vs, g, b, a, fun _ => rfl, c, d, f⟩⟩
theorem MvX.s11 (h : MvX P1 F1 P2 F2 d9 d10 d11 d13 d14 v9 v10 v11 v13 W) (e : d10 = true) : ∃ ks vs, v10 = mvV ks vs /\ MvX P1 F1 P2 F2 d9 d10 true d13 d14 v9 v10 (.agg #[ks, vs]) v13 W := by
 obtain ⟨ks, vs, g, b, c, a, i, d, f⟩ := h.post (h.o10 e)
 exact ⟨ks, vs, a e, h.o10, fun _ => e, fun q => ⟨rfl, (h.o14 q).2⟩, h.pre, fun _ => ⟨ks, vs, g, b, c, a, fun _ => rfl, d, f⟩⟩
theorem MvX.alloc (k1 : StKit P1 F1 B J) (k2 : ∀ ks vs t4 J4, StKit (P2 ks vs t4 J4) (F2 ks vs t4 J4) B J4) (h : MvX P1 F1 P2 F2 d9 d10 d11 d13 d14 v9 v10 v11 v13 W) (e : d13 = false) : MvX P1 F1 P2 F2 d9 d10 d11 true d14 v9 v10 v11 (.pointer (some ⟨W.heap.size, 0, none⟩)) (W.alloc (.cells #[.slice none 0 0, .slice none 0 0] 26)) := by
 have a : d14 = false := by
  cases hd : d14 with
  | false => rfl
  | true => rw [(h.o14 hd).2] at e; cases e
 have b := (Below.refl W.heap.size W).alloc (Nat.le_refl _) (.cells #[.slice none 0 0, .slice none 0 0] 26)
 refine ⟨h.o10, h.o11, fun q => ⟨(h.o14 q).1, rfl⟩, fun q => ⟨k1.more _ _ (h.pre q).1 b, fun _ => ⟨W.heap.size, _, _, rfl, k1.fresh _ _ (h.pre q).1 (Nat.le_refl _), heap_new W _⟩⟩, fun q => ?_⟩
 obtain ⟨ks, vs, t4, J4, d, f, g, c, i⟩ := h.post q
 exact ⟨ks, vs, t4, J4, d, f, g, (k2 ks vs t4 J4).more _ _ c b, fun _ => ⟨W.heap.size, _, _, rfl, (k2 ks vs t4 J4).fresh _ _ c (Nat.le_refl _), heap_new W _, fun q => (by rw [a] at q; cases q)⟩⟩
theorem MvX.put (k2 : ∀ ks vs t4 J4, StKit (P2 ks vs t4 J4) (F2 ks vs t4 J4) B J4) (h : MvX P1 F1 P2 F2 d9 d10 d11 d13 d14 v9 v10 v11 v13 W) (e11 : d11 = true) (e13 : d13 = true) : ∃ ks vs f x y, (∃ t4 J4, P2 ks vs t4 J4 W) /\ v11 = .agg #[ks, vs] /\ v13 = .pointer (some ⟨f, 0, none⟩) /\ W.heap[f]? = some (.cells #[x, y] 26 (0, 0)) /\ MvX P1 F1 P2 F2 d9 d10 d11 d13 true v9 v10 v11 v13 ((W.setCell ⟨f, 0, none⟩ ks).setCell ⟨f, 1, none⟩ vs) := by
 have a := h.o10 (h.o11 e11)
 obtain ⟨ks, vs, t4, J4, i, j, e, g, k⟩ := h.post a
 obtain ⟨f, x, y, b, c, d, n⟩ := k e13
 obtain ⟨l, m⟩ := box_set2 d ks vs
 exact ⟨ks, vs, f, x, y, ⟨t4, J4, g⟩, e e11, b, d, h.o10, h.o11, fun _ => ⟨e11, e13⟩, fun q => (by rw [a] at q; cases q), fun _ => ⟨ks, vs, t4, J4, i, j, e, (k2 ks vs t4 J4).set _ _ f g c m, fun _ => ⟨f, ks, vs, b, c, l, fun _ => ⟨rfl, rfl⟩⟩⟩⟩
end
def mvM (gs : Bool) (m : Mp) (K : Array Nat) (v : ByteArray) : Mp := if gs then woN m K else wiN m K v
def mvO (gs : Bool) (v : ByteArray) : Option ByteArray := if gs then none else some v
theorem mv_get (gs : Bool) (m : Mp) (K : Array Nat) (v : ByteArray) (s : List Nat) : getN (mvM gs m K v) s = if s = nibs K.toList then mvO gs v else getN m s := by
 cases gs with
 | true => exact getN_wo m K s
 | false => exact getN_wi' m K v s
theorem mv_dup {m : Mp} (h : (m.map (·.1)).Nodup) (gs : Bool) (K : Array Nat) (v : ByteArray) : ((mvM gs m K v).map (·.1)).Nodup := by
 cases gs with
 | true => exact wo_dup h K
 | false => exact wi_dup h K v
theorem mv_few {m : Mp} (h : ∀ x ∈ m, KeyFew x.1) {K : Array Nat} (hK : KeyFew K) (gs : Bool) (v : ByteArray) : ∀ x ∈ mvM gs m K v, KeyFew x.1 := by
 have b : ∀ x ∈ woN m K, KeyFew x.1 := fun x a => h x (List.mem_filter.1 a).1
 cases gs with
 | true => exact b
 | false =>
  intro x a
  rcases List.mem_append.1 a with a | a
  ·exact b x a
  ·rw [List.mem_singleton] at a
   rw [a]
   exact hK
structure MvP (w R : World) (V : Nat -> Prop) (B bt bp : Nat) (a : Nd) (gs : Bool) (m : Mp) (K : Array Nat) (v : ByteArray) (t : Nd) (ks vs : Value) (t4 : Nd) (J4 : Wood) (W : World) : Prop where
 s : TwS w R V B bt bp t4 a J4 W
 kn : Kn W R.heap.size ks vs (mvM gs m K v)
 row : ∀ k, (ks.ownBlock = some k \/ vs.ownBlock = some k) -> J4 k = none /\ k ≠ bt /\ k ≠ bp
 can : t4.can 64
 get : ∀ s, s.length = 64 -> t4.get s = if s = nibs K.toList then mvO gs v else t.get s
def MvF (w : World) (V : Nat -> Prop) (bt bp : Nat) (ks vs : Value) (J : Wood) (k : Nat) : Prop := TwF w V bt bp J k /\ ¬ (ks.ownBlock = some k \/ vs.ownBlock = some k)
theorem MvP.kit {w R : World} {V : Nat -> Prop} {B bt bp : Nat} {a : Nd} {gs : Bool} {m : Mp} {K : Array Nat} {v : ByteArray} {t : Nd} {ks vs : Value} {t4 : Nd} {J4 : Wood} (hB : w.heap.size <= B) : StKit (MvP w R V B bt bp a gs m K v t ks vs t4 J4) (MvF w V bt bp ks vs J4) B J4 := by
 have g : ∀ W W', MvP w R V B bt bp a gs m K v t ks vs t4 J4 W -> Fr B J4 J4 W W' -> MvP w R V B bt bp a gs m K v t ks vs t4 J4 W' := fun W W' h i => ⟨h.s.fr hB i, h.kn.keepB i.size fun k b c => i.other k b (h.row k c).1, h.row, h.can, h.get⟩
 exact ⟨fun W W' h l => g W W' h (Fr.of_below h.s.q.wood l), g, fun W W' f h d j => ⟨h.s.only hB d.1 j, h.kn.keepB j.size fun k b c => j.block k b (fun e => d.2 (e ▸ c)), h.row, h.can, h.get⟩, fun k d => d.1.1.2.1, fun W k h b => ⟨h.s.fresh hB b, fun c => by have := (h.kn.lo c).2; omega⟩⟩
theorem mv_call {w R : World} {V : Nat -> Prop} {B bt bp n1 : Nat} {t a : Nd} {J : Wood} {W : World} {pk : Option Addr} {ck : Nat} {pv : Option Addr} {cv : Nat} {m : Mp} {K : Array Nat} {v : ByteArray} (gs : Bool) (hS : TwS w R V B bt bp t a J W) (hB : w.heap.size <= B) (hbt : B <= bt) (hne : bt ≠ bp) (hT : TwM w n1 pk ck pv cv m R V) (hc : t.can 64) (hg : ∀ s, s.length = 64 -> t.get s = getN m s) (hd : (m.map (·.1)).Nodup) (hfw : ∀ x ∈ m, KeyFew x.1) (hK : K.size = 32) (hKb : Bytes K) (hv0 : 0 < v.size) (hv1 : v.size <= 100) :
  Calls Tryz.prog 18 #[.agg #[.slice pk m.length ck, .slice pv m.length cv], .pointer (some ⟨bt, 0, none⟩), .agg (K.toList.map encB).toArray, .bool gs, .string v] W fun e w9 => ∃ ks vs t4 J4, e = .returned (mvV ks vs) /\ MvP w R V B bt bp a gs m K v t ks vs t4 J4 w9 /\ ∀ k, TwF w V bt bp J k -> k < W.heap.size -> MvF w V bt bp ks vs J4 k /\ w9.heap[k]? = W.heap[k]? := by
 have n := (hT.at hS).2
 have z : ∀ k, ((Value.slice pk m.length ck).ownBlock = some k \/ (Value.slice pv m.length cv).ownBlock = some k) -> J k = none /\ k ≠ bt := fun k c => ⟨(hT.rows hS k c).1, (hT.rows hS k c).2.1⟩
 have E : m.length <= 2199023255552 := by
  have := few_len hd fun x f => ⟨(n.ok x f).1, (n.ok x f).2.1, hfw x f⟩
  omega
 have G := hS.q.tree.lt
 have H := hS.p.lt
 have r : ∀ d ks vs b t4, FrX B (· = bt) J b W d -> TreeAt b d bt t4 -> Kn d W.heap.size ks vs (mvM gs m K v) -> (∀ k, (ks.ownBlock = some k \/ vs.ownBlock = some k) -> b k = none) -> t4.can 64 -> (∀ s, s.length = 64 -> t4.get s = if s = nibs K.toList then mvO gs v else getN m s) -> MvP w R V B bt bp a gs m K v t ks vs t4 b d /\ ∀ k, TwF w V bt bp J k -> k < W.heap.size -> MvF w V bt bp ks vs b k /\ d.heap[k]? = W.heap[k]? := fun d ks vs b t4 l o c y h i =>
  ⟨⟨hS.turnT hB hbt hne l o, c.mono hS.q.size, fun k f => ⟨y k f, by have := (c.lo f).1; omega, by have := (c.lo f).1; omega⟩, h, fun s F => by rw [i s F, hg s F]⟩, fun k j D => ⟨⟨⟨⟨j.1.1, l.new k D j.1.2.1, j.1.2.2.1, j.1.2.2.2⟩, j.2⟩, fun f => by have := (c.lo f).1; omega⟩, l.other k D j.1.2.1 j.1.2.2.1⟩⟩
 cases gs with
 | true =>
  refine (movedB_del (u := v) (g := getN m) ⟨t, hS.q.tree, hc, hg⟩ hS.q.wood n z E hK hKb rfl (pth_dup hd)).mono ?_
  rintro e d ⟨ks, vs, b, rfl, C, l, c, y⟩
  obtain ⟨t4, o, h, i⟩ := C.ex
  exact ⟨ks, vs, t4, b, rfl, r d ks vs b t4 l o c y h i⟩
 | false =>
  refine (movedB_put (u := v) (g := getN m) ⟨t, hS.q.tree, hc, hg⟩ hS.q.wood n z E hK hKb hv0 hv1).mono ?_
  rintro e d ⟨ks, vs, b, rfl, C, l, c, y⟩
  obtain ⟨t4, o, h, i⟩ := C.ex
  exact ⟨ks, vs, t4, b, rfl, r d ks vs b t4 l o c y h i⟩
end Go.Proofs.YtcglpladmeelaaaGreatDoor
