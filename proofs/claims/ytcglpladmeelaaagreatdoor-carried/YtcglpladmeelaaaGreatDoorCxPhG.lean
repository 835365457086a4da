/-
  Parts of a tree (pure): which paths a tree sees: their ways meet no stub.
-/
import Derived.Test.YtcglpladmeelaaaGreatDoorCxGbG
import Derived.Test.YtcglpladmeelaaaGreatDoorCxRtG
namespace Go.Proofs.YtcglpladmeelaaaGreatDoor
open Go.RowKit
set_option maxRecDepth 100000
set_option maxHeartbeats 25600000
mutual
def Nd.sees : Nd -> List Nat -> Prop
 | .no, _ => True
 | .leaf _ _, _ => True
 | .ext p t, r => r.take p.size = bytesOf p -> t.sees (r.drop p.size)
 | .br ks, r => match r with
  | [] => True
  | x :: r => seesAt ks x r
 | .stub _, _ => False
def seesAt : List Nd -> Nat -> List Nat -> Prop
 | [], _, _ => True
 | k :: _, 0, r => k.sees r
 | _ :: ks, x + 1, r => seesAt ks x r
end
theorem sees_no (r : List Nat) : Nd.no.sees r := by rw [Nd.sees]; trivial
theorem sees_leaf (p v : ByteArray) (r : List Nat) : (Nd.leaf p v).sees r := by rw [Nd.sees]; trivial
theorem sees_ext (p : ByteArray) (t : Nd) (r : List Nat) : (Nd.ext p t).sees r ↔ (r.take p.size = bytesOf p -> t.sees (r.drop p.size)) := by rw [Nd.sees]
theorem sees_stub (h : List Nat) (r : List Nat) : ¬ (Nd.stub h).sees r := by rw [Nd.sees]; exact fun h => h
theorem seesAt_iff (ks : List Nd) (x : Nat) (r : List Nat) : seesAt ks x r ↔ (ks.getD x .no).sees r := by
 induction ks generalizing x with
 | nil => rw [seesAt]; simp [Nd.sees]
 | cons k ks ih =>
  cases x with
  | zero => rw [seesAt]; rfl
  | succ x => rw [seesAt, ih]; rfl
theorem sees_br (ks : List Nd) (x : Nat) (r : List Nat) : (Nd.br ks).sees (x :: r) ↔ (ks.getD x .no).sees r := by
 rw [Nd.sees]
 exact seesAt_iff ks x r
theorem sees_br_nil (ks : List Nd) : (Nd.br ks).sees [] := by rw [Nd.sees]; trivial
theorem WayTo.sees {a : Nd} {r : ByteArray} {l : List (Nd × ByteArray)} {e : Nd} {r' : ByteArray} (h : WayTo a r l e r') : a.fits r.size -> a.sees (bytesOf r) -> e.sees (bytesOf r') := by
 induction h with
 | stop => exact fun _ h => h
 | @go t r l e r' hn hw ih =>
  intro b d
  cases t with
  | no => exact absurd rfl hn
  | leaf _ _ => exact absurd rfl hn
  | stub _ => exact absurd rfl hn
  | ext p t =>
   by_cases f : begins p r
   ·have c : (Nd.ext p t).next r = (t, p.size) := if_pos f
    rw [Nd.fits] at b
    rw [sees_ext] at d
    refine ih ?_ ?_
    ·rw [c, extract_size]
     exact b.2.2
    ·rw [c, bytesOf_tail]
     exact d f
   ·have c : (Nd.ext p t).next r = (.no, 0) := if_neg f
    rw [c] at hn
    exact absurd rfl hn
  | br ks =>
   rw [Nd.fits] at b
   have g := head_nib b.1
   rw [g, sees_br] at d
   refine ih ?_ d
   rw [extract_size]
   exact fits_getD b.2 _
theorem Meets.not_sees {a : Nd} {r : ByteArray} (h : Meets a r) (hf : a.fits r.size) : ¬ a.sees (bytesOf r) := fun hs => by
 obtain ⟨l, g, s, hw, -⟩ := h
 exact sees_stub _ _ (hw.sees hf hs)
theorem take_app {r : List Nat} {p q : ByteArray} (h : r.take (q ++ p).size = bytesOf (q ++ p)) : r.take q.size = bytesOf q /\ (r.drop q.size).take p.size = bytesOf p := by
 rw [size_append, bytesOf_append] at h
 have a := congrArg (List.take q.size) h
 have b := congrArg (List.drop q.size) h
 rw [List.take_take, List.take_left' (bytesOf_length q), Nat.min_eq_left (Nat.le_add_right _ _)] at a
 rw [List.drop_take, List.drop_left' (bytesOf_length q), Nat.add_sub_cancel_left] at b
 exact ⟨a, b⟩
theorem sees_under {c : Nd} {q : ByteArray} {r : List Nat} (h : r.take q.size = bytesOf q -> c.sees (r.drop q.size)) : (underN q c).sees r := by
 unfold underN
 split
 ·rename_i h0
  have := h (by rw [h0, List.take_zero, bytesOf_nil h0])
  rwa [h0, List.drop_zero] at this
 ·rw [sees_ext]
  exact h
theorem sees_behind {c : Nd} {q : ByteArray} {r : List Nat} (hs : c.isStub = false) (h : r.take q.size = bytesOf q -> c.sees (r.drop q.size)) : (behindN q c).sees r := by
 cases c with
 | no => exact sees_no r
 | leaf p v => exact sees_leaf _ _ r
 | stub g => cases hs
 | br ks => exact sees_under h
 | ext p t =>
  show (Nd.ext (q ++ p) t).sees r
  rw [sees_ext]
  intro e
  obtain ⟨a, b⟩ := take_app e
  have := h a
  rw [sees_ext] at this
  have := this b
  rwa [List.drop_drop, <- size_append] at this
theorem room_stub {c : Nd} {q : ByteArray} (h : c.room q) : c.isStub = false := by
 cases c with
 | stub => exact h.elim
 | _ => rfl
theorem ends_sees {a : Nd} {r : ByteArray} {l : List (Nd × ByteArray)} {e : Nd} {r' : ByteArray} (h : WayTo a r l e r') : a.ok -> a.fits r.size -> ∀ c, endOK l c -> c.sees (bytesOf r') -> (endN l c).sees (bytesOf r) := by
 induction h with
 | stop => exact fun _ _ c _ h => h
 | @go t r l e r' hn hw ih =>
  intro b g c k y
  rw [endN]
  cases t with
  | no => exact absurd rfl hn
  | leaf _ _ => exact absurd rfl hn
  | stub _ => exact absurd rfl hn
  | ext p t =>
   by_cases u : begins p r
   ·have f : (Nd.ext p t).next r = (t, p.size) := if_pos u
    rw [Nd.fits] at g
    rw [Nd.ok] at b
    have d := ih (by rw [f]; exact b.2.1) (by rw [f, extract_size]; exact g.2.2) c k.2 y
    have i := k.1
    rw [f] at d i ⊢
    have w : (r.extract 0 p.size).size = p.size := by
     rw [<- bytesOf_length, bytesOf_head, u, bytesOf_length]
    refine sees_behind (room_stub i.2) fun _ => ?_
    rw [w, <- bytesOf_tail]
    exact d
   ·have f : (Nd.ext p t).next r = (.no, 0) := if_neg u
    rw [f] at hn
    exact absurd rfl hn
  | br ks =>
   rw [Nd.fits] at g
   rw [Nd.ok] at b
   have v := head_nib g.1
   have d := ih (ok_getD b.2 _) (by rw [extract_size]; exact fits_getD g.2 _) c k.2 y
   have i := k.1
   obtain ⟨x, z⟩ : ∃ x, (bytesOf r)[0]! = x := ⟨_, rfl⟩
   have w : bytesOf (r.extract 0 1) = [x] := by rw [bytesOf_head, v, z]; rfl
   have o : (bytesOf (r.extract 0 ((Nd.br ks).next r).2))[0]! = x := by
    show (bytesOf (r.extract 0 1))[0]! = x
    rw [w]; rfl
   rw [z] at v
   obtain ⟨C, B⟩ : ∃ C, endN l c = C := ⟨_, rfl⟩
   rw [B] at d i ⊢
   obtain ⟨-, m, -, q⟩ := i
   simp only [o] at m q
   show (brLead (ks.set ((bytesOf (r.extract 0 ((Nd.br ks).next r).2))[0]!) C)).sees (bytesOf r)
   rw [o, v]
   have n : C.sees (bytesOf (r.extract 1 r.size)) := d
   have j : x < ks.length := by rw [b.1]; exact m
   unfold brLead
   by_cases s : cntN (ks.set x C) 16 = 1
   ·rw [if_pos s]
    have D := lastN_lt (ks.set x C) 16 (by omega)
    refine sees_behind (room_stub (q s)) fun e => ?_
    rw [size_one, bytesOf_one (by omega)] at e
    have A : x = lastN (ks.set x C) 16 := by simpa using e
    rw [<- A, size_one, getD_set ks x x C j, if_pos rfl]
    exact n
   ·rw [if_neg s, sees_br, getD_set ks x x C j, if_pos rfl]
    exact n
theorem parted_sees {x : Nat} {A : Nd} {r u : ByteArray} (hn : nib (bytesOf r)) : (parted x A ((bytesOf r)[0]!) r u).sees (bytesOf r) := by
 unfold parted
 by_cases c : 0 < r.size
 ·obtain ⟨y, d⟩ : ∃ y, (bytesOf r)[0]! = y := ⟨_, rfl⟩
  have a := head_nib c
  rw [d] at a ⊢
  have b : y < 16 := hn y (by rw [a]; exact List.mem_cons_self ..)
  rw [a, sees_br, getD_set _ y y _ (by rw [List.length_set, none16_len]; exact b), if_pos rfl]
  exact sees_leaf _ _ _
 ·rw [bytesOf_nil (by omega)]
  exact sees_br_nil _
theorem putAt_sees {e : Nd} {r u : ByteArray} (hn : nib (bytesOf r)) : (e.putAt r u).sees (bytesOf r) := by
 have b : ∀ (n : Nat) (x : Nat) (A : Nd), n <= r.size -> (underN (r.extract 0 n) (parted x A ((bytesOf (r.extract n r.size))[0]!) (r.extract n r.size) u)).sees (bytesOf r) := fun n x A h => by
  have g : (r.extract 0 n).size = n := by rw [<- bytesOf_length, bytesOf_head, List.length_take, bytesOf_length]; omega
  refine sees_under fun _ => ?_
  rw [g, <- bytesOf_tail]
  refine parted_sees fun y a => hn y ?_
  rw [bytesOf_tail] at a
  exact List.mem_of_mem_drop a
 cases e with
 | no => exact sees_leaf _ _ _
 | stub => exact sees_leaf _ _ _
 | leaf p v =>
  unfold Nd.putAt
  dsimp only
  split
  ·exact sees_leaf _ _ _
  ·exact b _ _ _ (by have := (comm_le (bytesOf p) (bytesOf r)).2; rw [bytesOf_length] at this; exact this)
 | ext p t =>
  unfold Nd.putAt
  dsimp only
  exact b _ _ _ (by have := (comm_le (bytesOf p) (bytesOf r)).2; rw [bytesOf_length] at this; exact this)
 | br ks =>
  unfold Nd.putAt
  dsimp only
  by_cases d : 0 < r.size
  ·obtain ⟨y, a⟩ : ∃ y, (bytesOf r)[0]! = y := ⟨_, rfl⟩
   have c := head_nib d
   rw [a] at c ⊢
   rw [c, sees_br]
   by_cases f : y < ks.length
   ·rw [getD_set ks y y _ f, if_pos rfl]
    exact sees_leaf _ _ _
   ·rw [List.set_eq_of_length_le (by omega), List.getD_eq_getElem?_getD, List.getElem?_eq_none (by omega)]
    exact sees_no _
  ·rw [bytesOf_nil (by omega)]
   exact sees_br_nil _
theorem prts_getD (ks : List Nd) (i : Nat) (all : Bool) (ps : List ByteArray) (x : Nat) : (prts ks i all ps).getD x .no = (ks.getD x .no).prs all (behP ps (textB [i + x])) := by
 induction ks generalizing i x with
 | nil => rw [prts]; rfl
 | cons t ks ih =>
  rw [prts_cons]
  cases x with
  | zero => rfl
  | succ x =>
   rw [List.getD_cons_succ, List.getD_cons_succ, ih (i + 1) x, show i + 1 + x = i + (x + 1) by omega]
theorem prs_shown {t : Nd} {ps : List ByteArray} (h : ps ≠ []) : t.prs false ps = t.prt false ps := by
 unfold Nd.prs
 cases t with
 | no => rw [Nd.prt]; rfl
 | _ => simp only [Nd.pickN]; simp [h]
theorem prt_sees : ∀ (N : Nat) (t : Nd) (n : Nat), n <= N -> t.can n -> ∀ ps p, p ∈ ps -> p.size = n -> nib (bytesOf p) -> (t.prs false ps).sees (bytesOf p)
 | N, .stub g, n, _, h => fun _ _ _ _ _ => absurd rfl (can_stub h g)
 | N, .no, n, _, _ => fun ps p hp _ _ => by rw [prs_shown (List.ne_nil_of_mem hp), Nd.prt]; exact sees_no _
 | N, .leaf q v, n, _, _ => fun ps p hp _ _ => by rw [prs_shown (List.ne_nil_of_mem hp), Nd.prt]; exact sees_leaf _ _ _
 | N, .ext q t, n, hN, h => fun ps p hp hs hnb => by
  rw [can_ext] at h
  match N, hN with
  | 0, hN => omega
  | N + 1, hN =>
   rw [prs_shown (List.ne_nil_of_mem hp), show (Nd.ext q t).prt false ps = .ext q (t.prs false (behP ps q)) by rw [Nd.prt]; rfl, sees_ext]
   intro e
   rw [<- bytesOf_tail]
   exact prt_sees N t (n - q.size) (by omega) h.2.2.2.1 _ _ (behP_mem hp e) (by rw [extract_size]; omega) fun y hy => hnb y (by rw [bytesOf_tail] at hy; exact List.mem_of_mem_drop hy)
 | N, .br ks, n, hN, h => fun ps p hp hs hnb => by
  rw [can_br] at h
  match N, hN with
  | 0, hN => omega
  | N + 1, hN =>
   have hd := head_nib (r := p) (by omega)
   obtain ⟨x, hx⟩ : ∃ x, (bytesOf p)[0]! = x := ⟨_, rfl⟩
   rw [hx] at hd
   have hx16 : x < 16 := hnb x (by rw [hd]; exact List.mem_cons_self ..)
   rw [prs_shown (List.ne_nil_of_mem hp), Nd.prt, hd, sees_br, prts_getD, Nat.zero_add]
   have hb : begins (textB [x]) p := by
    show (bytesOf p).take (textB [x]).size = bytesOf (textB [x])
    rw [size_one, bytesOf_one (by omega), hd]; rfl
   have a := behP_mem hp hb
   rw [size_one] at a
   exact prt_sees N _ (n - 1) (by omega) (canAll_getD h.2.2.1 x) _ _ a (by rw [extract_size]; omega) fun y hy => hnb y (by rw [hd]; exact List.mem_cons_of_mem _ hy)
theorem shw_all {t : Nd} (h : t ≠ .no) (ps : List ByteArray) : t.shw true ps = t.wit true ps := by
 unfold Nd.shw
 cases t with
 | no => exact absurd rfl h
 | _ => simp [Nd.pick]
theorem behP_nil (q : ByteArray) : behP [] q = [] := rfl
mutual
theorem wit_prt : ∀ (t : Nd) (ps : List ByteArray), (t.prt false ps).wit true [] = t.wit false ps
 | .no, _ => by rw [Nd.prt, Nd.wit, Nd.wit]
 | .leaf p v, _ => by rw [Nd.prt, Nd.wit, Nd.wit]
 | .stub h, _ => by rw [Nd.prt, Nd.wit, Nd.wit]
 | .ext p t, ps => by
  have h1 := wit_prt t (behP ps p)
  rw [show (Nd.ext p t).prt false ps = .ext p (t.prs false (behP ps p)) by rw [Nd.prt]; rfl, Nd.wit_ext, Nd.wit_ext, behP_nil]
  congr 1
  by_cases hne : t = .no
  ·subst hne; rfl
  ·rw [shw_all (prs_no hne _ _)]
   rcases shw_cases hne false (behP ps p) with ⟨e1, e2⟩ | ⟨e1, e2⟩
   ·rw [e1, e2, h1]
   ·rw [e1, e2, Nd.wit]
 | .br ks, ps => by
  rw [Nd.prt, Nd.wit, Nd.wit, wits_prt ks 0 ps, forkB_prts]
theorem wits_prt : ∀ (ks : List Nd) (i : Nat) (ps : List ByteArray), wits (prts ks i false ps) i true [] = wits ks i false ps
 | [], _, _ => by rw [prts, wits, wits]
 | t :: ks, i, ps => by
  have h1 := wit_prt t (behP ps (textB [i]))
  rw [prts_cons, wits_cons, wits_cons, wits_prt ks (i + 1) ps, behP_nil]
  congr 1
  by_cases hne : t = .no
  ·subst hne; rfl
  ·rw [shw_all (prs_no hne _ _)]
   rcases shw_cases hne false (behP ps (textB [i])) with ⟨e1, e2⟩ | ⟨e1, e2⟩
   ·rw [e1, e2, h1]
   ·rw [e1, e2, Nd.wit]
end
theorem witness_prs (t : Nd) (ps : List ByteArray) : (t.prs false ps).witness true [] = t.witness false ps := by
 by_cases a : t = .no
 ·subst a; rfl
 ·have b : ∀ {u : Nd} {all : Bool} {qs : List ByteArray}, u ≠ .no -> u.witness all qs = u.shw all qs := fun {u _ _} h => by
   cases u with
   | no => exact absurd rfl h
   | _ => rfl
  rw [b a, b (prs_no a _ _), shw_all (prs_no a _ _)]
  rcases shw_cases a false ps with ⟨e1, e2⟩ | ⟨e1, e2⟩
  ·rw [e1, e2, wit_prt]
  ·rw [e1, e2, Nd.wit]
theorem change_bad {B : Nat} {S : Wood} {sent : Nat -> Addr} {C : Nat} {w : World} {b : Nat} {t0 t : Nd} {l : List (Nd × ByteArray)} {r : ByteArray} {thr v u : Value} {cs : List Value} (hf : Forest B S w) (ht : TreeAt S w b t0) (hO : OwnC w C 2 thr l.length cs) (hT : Turns S l cs) (hnone : ∀ g, thr.ownBlock = some g -> S g = none) (hv : v = .nilIface \/ ∃ T a, v = .iface T (.pointer (some a))) (hu : ndV S u t) (hl : l.length <= 1000) (hbad : endBad l t) (hG : w.cell? ⟨10, 0, none⟩ = some (.iface 241 (.pointer (some (sent 12))))) (hlo : S 10 = none) :
  Calls Tryz.prog 44 #[.pointer (some ⟨b, 0, none⟩), .agg #[thr, v, .string r], u] w fun x w' => x = .returned (.iface 241 (.pointer (some (sent 12)))) /\ Fr B S S w w' := by
 have c : Below w.heap.size w (w.alloc (.cells #[thr, v, .string r] 111)) := (Below.refl _ _).alloc (Nat.le_refl _) _
 have f := Hid.hide (ending_bad (sent := sent) (r := r) (hf.below c) (hO.below c) hT hnone hv hu hl hbad ((c.cell (p := ⟨10, 0, none⟩) (World.block_lt_of_cell? w _ hG)).trans hG) hlo)
 have h : Hid (Fr B S S w (w.alloc (.cells #[thr, v, .string r] 111)) /\ TreeAt S w b t0) := ⟨Fr.of_below hf c, ht⟩
 obtain ⟨o, n, m, rfl⟩ := hO.shape
 have k := ht.lt
 have e := hu.shape
 clear hf ht hO hT hnone hu hl hbad c hG hlo
 rcases hv with rfl | ⟨T, a, rfl⟩
 all_goals rcases e with rfl | ⟨T', a', rfl⟩
 all_goals
  go_enter Tryz.func44, Tryz.ntmps44
  go_wp2_with fail
  refine f.out.mono ?_
  rintro x j ⟨rfl, d⟩
  have i : Hid (Fr B S S w j) := h.out.1.trans d
  clear d
  go_wp2
  go_ret
  exact ⟨rfl, i.out⟩
theorem tdelW_no {B : Nat} {S : Wood} {w : World} {b : Nat} {t e : Nd} {K : Array Nat} {p r' : ByteArray} {l : List (Nd × ByteArray)} (hf : Forest B S w) (ht : TreeAt S w b t) (hK : K.size = 32) (hKb : Bytes K) (hp : textB (nibs K.toList) = p) (hfit : t.fits p.size) (hn : ∀ x ∈ bytesOf p, x < 16) (hps : p.size <= 64) (hT : WayTo t p l e r') (hs : ∀ g, e ≠ .stub g) (hno : ∀ u, e ≠ .leaf r' u) :
  Calls Tryz.prog 29 #[.pointer (some ⟨b, 0, none⟩), .agg (K.toList.map encB).toArray] w fun x w' => x = .returned (.tuple #[.bool false, .nilIface]) /\ Below w.heap.size w w' := by
 have c : Below w.heap.size w (w.alloc (.cells (K.toList.map encB).toArray 43)) := (Below.refl _ _).alloc (Nat.le_refl _) _
 have q : (w.alloc (.cells (K.toList.map encB).toArray 43)).rangeAt w.heap.size 0 (K.toList.map encB) := fun j u G => by
  rw [Nat.zero_add, World.cell?_alloc_new]
  simpa using G
 have v : (Tryz.prog.info? 43).map (·.size) = some (K.toList.map encB).length := by rw [size51]; simp [hK]
 have F := Hid.hide (tway_any (hf.below c) (ht.frame (Fr.of_below hf c)) hK hKb hp hfit hn (by omega) hT hs)
 have n : Hid (Forest B S w /\ Below w.heap.size w (w.alloc (.cells (K.toList.map encB).toArray 43)) /\ ∀ u, e ≠ .leaf r' u) := ⟨hf, c, hno⟩
 clear hf ht hK hKb hp hT hs hps hn hno c hfit
 go_enter Tryz.func29, Tryz.ntmps29
 go_wp2_with (first | (refine wpList_load_mid rfl 43 _ rfl w.heap.size 0 rfl _ _ q Tryz.underlying43 rfl v ?_) | (go_at_call 42; refine F.out.mono ?_; rintro x i ⟨k, J, H, rfl, a⟩; obtain ⟨C, z, s, rfl⟩ := a.shape; have y := a.node.shape; have d := n.out.2.1.behind' k; have f : ∀ o, Below w.heap.size w (i.alloc o) := (fun o => d.alloc d.size o); have E : Hid (∀ h, Calls Tryz.prog 43 #[.agg #[.slice C z s, H, .string r']] (i.alloc h) fun x w' => x = .returned (.pointer none) /\ Below (i.alloc h).heap.size (i.alloc h) w') := (fun h => found_no C z s (n.out.1.below (f h)) a.node n.out.2.2); have r := Hid.hide f; clear k a d f; rcases y with rfl | ⟨T2, a2, rfl⟩) | (go_at_call 43; refine (E.out _).mono ?_; rintro x I ⟨rfl, m⟩; have D : Hid (Below w.heap.size w I) := (r.out _).behind' m; clear m))
 all_goals go_ret2
 all_goals exact ⟨rfl, D.out⟩
theorem tdelW_yes {B : Nat} {S : Wood} {w : World} {b : Nat} {t : Nd} {K : Array Nat} {p r' v : ByteArray} {l : List (Nd × ByteArray)} (hf : Forest B S w) (ht : TreeAt S w b t) (hK : K.size = 32) (hKb : Bytes K) (hp : textB (nibs K.toList) = p) (hfit : t.fits p.size) (hn : ∀ x ∈ bytesOf p, x < 16) (hps : p.size <= 64) (hT : WayTo t p l (.leaf r' v) r') (hl : l.length <= 1000) (eok : endOK l .no) :
  Calls Tryz.prog 29 #[.pointer (some ⟨b, 0, none⟩), .agg (K.toList.map encB).toArray] w fun x w' => x = .returned (.tuple #[.bool true, .nilIface]) /\ ∃ S', TreeAt S' w' b (endN l .no) /\ FrX B (· = b) S S' w w' := by
 have f : Below w.heap.size w (w.alloc (.cells (K.toList.map encB).toArray 43)) := (Below.refl _ _).alloc (Nat.le_refl _) _
 have C : (w.alloc (.cells (K.toList.map encB).toArray 43)).rangeAt w.heap.size 0 (K.toList.map encB) := fun j u N => by
  rw [Nat.zero_add, World.cell?_alloc_new]
  simpa using N
 have I : (Tryz.prog.info? 43).map (·.size) = some (K.toList.map encB).length := by rw [size51]; simp [hK]
 have M := Hid.hide (tway_any (hf.below f) (ht.frame (Fr.of_below hf f)) hK hKb hp hfit hn (by omega) hT (fun g e => (by cases e)))
 have h : Hid (Forest B S w /\ Below w.heap.size w (w.alloc (.cells (K.toList.map encB).toArray 43)) /\ TreeAt S w b t /\ endOK l .no /\ l.length <= 1000) := ⟨hf, f, ht, eok, by omega⟩
 clear hf ht hK hKb hp hT hps hn f hfit eok hl
 go_enter Tryz.func29, Tryz.ntmps29
 go_wp2_with (first | (refine wpList_load_mid rfl 43 _ rfl w.heap.size 0 rfl _ _ C Tryz.underlying43 rfl I ?_) | (go_at_call 42; refine M.out.mono ?_; rintro x k ⟨n, O, T, rfl, c⟩; obtain ⟨E, D, z, rfl⟩ := c.shape; have a := h.out.2.1.behind' n; obtain ⟨d, rfl, H⟩ := c.node.full (by simp); have L : Hid (∀ i, Calls Tryz.prog 43 #[.agg #[.slice E D z, .iface (ndTy (.leaf r' v)) (.pointer (some ⟨d, 0, none⟩)), .string r']] (k.alloc i) fun x w' => x = .returned (.pointer (some ⟨d, 0, none⟩)) /\ Below (k.alloc i).heap.size (k.alloc i) w') := (fun i => found_yes E D z (h.out.1.below (a.alloc a.size i)) H); have m : Hid (Below w.heap.size w k /\ Followed S w.heap.size k l (.leaf r' v) (.slice E D z) (.iface (ndTy (.leaf r' v)) (.pointer (some ⟨d, 0, none⟩)))) := ⟨a, c.mono (by simp)⟩; clear n c a H; rw [show ndTy (.leaf r' v) = 114 from rfl] at *) | (go_at_call 43; refine (L.out _).mono ?_; rintro x U ⟨rfl, o⟩; obtain ⟨⟨P, Q, R⟩, q⟩ := tdel_pre h.out.1 h.out.2.2.1 m.out.1 m.out.2 h.out.2.2.2.1 h.out.2.2.2.2 o; have F := Hid.hide q; clear o q) | (go_at_call 44; refine F.out.mono ?_; rintro x J ⟨rfl, y, s, r⟩; have G : Hid (TreeAt y J b (endN l .no) /\ FrX B (· = b) S y w J) := ⟨s, r⟩; clear s r))
 all_goals go_ret2
 all_goals exact ⟨rfl, y, G.out.1, G.out.2⟩
theorem tdel_pre_bad {B : Nat} {S : Wood} {sent : Nat -> Addr} {w w2 w3 : World} {b : Nat} {t e : Nd} {r' : ByteArray} {l : List (Nd × ByteArray)} {pv : Option Addr} {mv cv : Nat} {v : Value} (hf : Forest B S w) (ht : TreeAt S w b t) (hb2 : Below w.heap.size w w2) (hF2 : Followed S w.heap.size w2 l e (.slice pv mv cv) v) (hbad : endBad l .no) (hG : w.cell? ⟨10, 0, none⟩ = some (.iface 241 (.pointer (some (sent 12))))) (hlo : S 10 = none) (hl : l.length <= 1000) (hb3 : Below (w2.alloc (.cells #[.slice pv mv cv, v, .string r'] 111)).heap.size (w2.alloc (.cells #[.slice pv mv cv, v, .string r'] 111)) w3) :
  (w3.cell? ⟨w2.heap.size, 0, none⟩ = some (.slice pv mv cv) /\ w3.cell? ⟨w2.heap.size, 1, none⟩ = some v /\ w3.cell? ⟨w2.heap.size, 2, none⟩ = some (.string r')) /\ Calls Tryz.prog 44 #[.pointer (some ⟨b, 0, none⟩), .agg #[.slice pv mv cv, v, .string r'], .nilIface] w3 fun x w' => x = .returned (.iface 241 (.pointer (some (sent 12)))) /\ Fr B S S w w' := by
 have c : Below w.heap.size w w3 := (hb2.alloc hb2.size _).behind' hb3
 have j : w3.heap[w2.heap.size]? = some (.cells #[.slice pv mv cv, v, .string r'] 111 (0, 0)) := (hb3.block _ (by simp)).trans (World.alloc_heap_new w2 _)
 have f : Below w2.heap.size w2 w3 := ((Below.refl _ _).alloc (Nat.le_refl _) _).behind' hb3
 have d := hF2.keep f
 obtain ⟨n, g, h⟩ := d.row
 have a := Fr.of_below hf c
 refine ⟨rowOf3 j, (change_bad (sent := sent) a.forest (ht.frame a) g h (fun k m => hf.fresh (g.block k m).1) d.node.shape (.inl ⟨rfl, rfl⟩) hl hbad ((c.cell (p := ⟨10, 0, none⟩) (World.block_lt_of_cell? w _ hG)).trans hG) hlo).mono ?_⟩
 rintro x o ⟨rfl, i⟩
 exact ⟨rfl, a.trans i⟩
theorem tdelW_bad {B : Nat} {S : Wood} {sent : Nat -> Addr} {w : World} {b : Nat} {t : Nd} {K : Array Nat} {p r' v : ByteArray} {l : List (Nd × ByteArray)} (hf : Forest B S w) (ht : TreeAt S w b t) (hK : K.size = 32) (hKb : Bytes K) (hp : textB (nibs K.toList) = p) (hfit : t.fits p.size) (hn : ∀ x ∈ bytesOf p, x < 16) (hps : p.size <= 64) (hT : WayTo t p l (.leaf r' v) r') (hl : l.length <= 1000) (eok : endBad l .no) (hG : w.cell? ⟨10, 0, none⟩ = some (.iface 241 (.pointer (some (sent 12))))) (hlo : S 10 = none) :
  Calls Tryz.prog 29 #[.pointer (some ⟨b, 0, none⟩), .agg (K.toList.map encB).toArray] w fun x w' => x = .returned (.tuple #[.bool false, (.iface 241 (.pointer (some (sent 12))))]) /\ Fr B S S w w' := by
 have h : Below w.heap.size w (w.alloc (.cells (K.toList.map encB).toArray 43)) := (Below.refl _ _).alloc (Nat.le_refl _) _
 have y : (w.alloc (.cells (K.toList.map encB).toArray 43)).rangeAt w.heap.size 0 (K.toList.map encB) := fun j u J => by
  rw [Nat.zero_add, World.cell?_alloc_new]
  simpa using J
 have F : (Tryz.prog.info? 43).map (·.size) = some (K.toList.map encB).length := by rw [size51]; simp [hK]
 have I := Hid.hide (tway_any (hf.below h) (ht.frame (Fr.of_below hf h)) hK hKb hp hfit hn (by omega) hT (fun g e => (by cases e)))
 have a : Hid (Forest B S w /\ Below w.heap.size w (w.alloc (.cells (K.toList.map encB).toArray 43)) /\ TreeAt S w b t /\ endBad l .no /\ l.length <= 1000 /\ w.cell? ⟨10, 0, none⟩ = some (.iface 241 (.pointer (some (sent 12)))) /\ S 10 = none) := ⟨hf, h, ht, eok, hl, hG, hlo⟩
 clear hf ht hK hKb hp hT hps hn h hfit eok hl hG hlo
 go_enter Tryz.func29, Tryz.ntmps29
 go_wp2_with (first | (refine wpList_load_mid rfl 43 _ rfl w.heap.size 0 rfl _ _ y Tryz.underlying43 rfl F ?_) | (go_at_call 42; refine I.out.mono ?_; rintro x k ⟨n, M, Q, rfl, f⟩; obtain ⟨C, z, s, rfl⟩ := f.shape; have c := a.out.2.1.behind' n; obtain ⟨d, rfl, E⟩ := f.node.full (by simp); have H : Hid (∀ i, Calls Tryz.prog 43 #[.agg #[.slice C z s, .iface (ndTy (.leaf r' v)) (.pointer (some ⟨d, 0, none⟩)), .string r']] (k.alloc i) fun x w' => x = .returned (.pointer (some ⟨d, 0, none⟩)) /\ Below (k.alloc i).heap.size (k.alloc i) w') := (fun i => found_yes C z s (a.out.1.below (c.alloc c.size i)) E); have m : Hid (Below w.heap.size w k /\ Followed S w.heap.size k l (.leaf r' v) (.slice C z s) (.iface (ndTy (.leaf r' v)) (.pointer (some ⟨d, 0, none⟩)))) := ⟨c, f.mono (by simp)⟩; clear n f c E; rw [show ndTy (.leaf r' v) = 114 from rfl] at *) | (go_at_call 43; refine (H.out _).mono ?_; rintro x R ⟨rfl, o⟩; obtain ⟨⟨N, O, P⟩, q⟩ := tdel_pre_bad (sent := sent) a.out.1 a.out.2.2.1 m.out.1 m.out.2 a.out.2.2.2.1 a.out.2.2.2.2.2.1 a.out.2.2.2.2.2.2 a.out.2.2.2.2.1 o; have D := Hid.hide q; clear o q) | (go_at_call 44; refine D.out.mono ?_; rintro x L ⟨rfl, r⟩; have G : Hid (Fr B S S w L) := r; clear r))
 all_goals go_ret2
 all_goals exact ⟨rfl, G.out⟩
theorem xdel_of {B : Nat} {S : Wood} {w : World} {b : Nat} {t : Nd} {K : Array Nat} (hf : Forest B S w) (ht : TreeAt S w b t) (hK : K.size = 32) {ob : Bool} {Q : Nd -> Prop} (hdo : ∀ W, Below w.heap.size w W -> Calls Tryz.prog 29 #[.pointer (some ⟨b, 0, none⟩), .agg (K.toList.map encB).toArray] W fun x w' => x = .returned (.tuple #[.bool ob, .nilIface]) /\ ∃ S' t', TreeAt S' w' b t' /\ Q t' /\ FrX B (· = b) S S' W w') :
  Calls Tryz.prog 16 #[.pointer (some ⟨b, 0, none⟩), .agg (K.toList.map encB).toArray] w fun x w' => x = .returned (.tuple #[.bool ob, .int .i64 0]) /\ ∃ S' t', TreeAt S' w' b t' /\ Q t' /\ FrX B (· = b) S S' w w' := by
 have y := ht.lt
 have z : (Tryz.prog.info? 43).map (·.size) = some (K.toList.map encB).length := by rw [size51]; simp [hK]
 obtain ⟨W0, a⟩ : ∃ W0, w.alloc (.cells (K.toList.map encB).toArray 43) = W0 := ⟨_, rfl⟩
 have g : Below w.heap.size w W0 := by rw [<- a]; exact (Below.refl _ _).alloc (Nat.le_refl _) _
 have o : w.heap.size < W0.heap.size := by rw [<- a]; simp
 have f : W0.rangeAt w.heap.size 0 (K.toList.map encB) := fun j u s => by
  rw [<- a, Nat.zero_add, World.cell?_alloc_new]
  simpa using s
 have c : Below w.heap.size w W0.drew := g.drew
 have e := Fr.of_below hf c
 have q := Hid.hide (hdo W0.drew c)
 have n : Hid (Fr B S S w W0.drew /\ S w.heap.size = none) := ⟨e, hf.fresh (Nat.le_refl _)⟩
 have v := Tryz.underlying43
 clear hf ht hK g c e hdo
 go_enter Tryz.func16, Tryz.ntmps16
 go_upto_region 1 with fail
 clear a
 go_region_held3 (fun w' => w'.rangeAt w.heap.size 0 (K.toList.map encB)) (first | exact f | exact r )
  (first | (go_at_call 29; refine q.out.mono ?_; rintro x m ⟨rfl, k, l, i, h, d⟩; have r : m.rangeAt w.heap.size 0 (K.toList.map encB) := rangeAt_block f (d.other w.heap.size o n.out.2 (by show ¬ w.heap.size = b; omega)); have p : Hid (TreeAt k m b l /\ Q l /\ FrX B (· = b) S k w m) := ⟨i, h, (n.out.1.x _).trans d⟩; clear i h d))
 all_goals go_wp2_with (go_at_call 30; refine (errno_nil _).mono ?_; rintro x C ⟨rfl, rfl⟩)
 all_goals go_ret2
 all_goals exact ⟨rfl, k, l, p.out⟩
theorem xdel_err {B : Nat} {S : Wood} {w : World} {b : Nat} {t : Nd} {K : Array Nat} (hf : Forest B S w) (ht : TreeAt S w b t) (hK : K.size = 32) {sent : Nat -> Addr} (hnum : ∀ W, Fr B S S w W -> Calls Tryz.prog 30 #[(.iface 241 (.pointer (some (sent 12))))] W fun e w' => e = .returned (.int .i64 12) /\ Below W.heap.size W w') (hdo : ∀ W, Below w.heap.size w W -> Calls Tryz.prog 29 #[.pointer (some ⟨b, 0, none⟩), .agg (K.toList.map encB).toArray] W fun x w' => x = .returned (.tuple #[.bool false, (.iface 241 (.pointer (some (sent 12))))]) /\ Fr B S S W w') :
  Calls Tryz.prog 16 #[.pointer (some ⟨b, 0, none⟩), .agg (K.toList.map encB).toArray] w fun x w' => x = .returned (.tuple #[.bool false, .int .i64 12]) /\ Fr B S S w w' := by
 have z := ht.lt
 have C : (Tryz.prog.info? 43).map (·.size) = some (K.toList.map encB).length := by rw [size51]; simp [hK]
 obtain ⟨W0, a⟩ : ∃ W0, w.alloc (.cells (K.toList.map encB).toArray 43) = W0 := ⟨_, rfl⟩
 have h : Below w.heap.size w W0 := by rw [<- a]; exact (Below.refl _ _).alloc (Nat.le_refl _) _
 have o : w.heap.size < W0.heap.size := by rw [<- a]; simp
 have g : W0.rangeAt w.heap.size 0 (K.toList.map encB) := fun j u s => by
  rw [<- a, Nat.zero_add, World.cell?_alloc_new]
  simpa using s
 have c : Below w.heap.size w W0.drew := h.drew
 have f := Fr.of_below hf c
 have q := Hid.hide (hdo W0.drew c)
 have m : Hid (Fr B S S w W0.drew /\ S w.heap.size = none) := ⟨f, hf.fresh (Nat.le_refl _)⟩
 have v := Tryz.underlying43
 have n := Hid.hide hnum
 clear hf ht hK h c f hdo hnum
 go_enter Tryz.func16, Tryz.ntmps16
 go_upto_region 1 with fail
 clear a
 go_region_held3 (fun w' => w'.rangeAt w.heap.size 0 (K.toList.map encB)) (first | exact g | exact r )
  (first | (go_at_call 29; refine q.out.mono ?_; rintro x p ⟨rfl, d⟩; have r : p.rangeAt w.heap.size 0 (K.toList.map encB) := rangeAt_block g (d.other w.heap.size o m.out.2); have k : Hid (Fr B S S w p) := m.out.1.trans d; clear d))
 all_goals go_wp2_with (go_at_call 30; refine (n.out _ k.out).mono ?_; rintro x y ⟨rfl, i⟩; have l : Hid (Fr B S S w y) := k.out.behind i; clear i)
 all_goals go_ret2
 all_goals exact ⟨rfl, l.out⟩
theorem xput_err {B : Nat} {S : Wood} {w : World} {b : Nat} {t : Nd} {K : Array Nat} (hf : Forest B S w) (ht : TreeAt S w b t) (hK : K.size = 32) {sent : Nat -> Addr} {u : ByteArray} (hnum : ∀ W, Fr B S S w W -> Calls Tryz.prog 30 #[(.iface 241 (.pointer (some (sent 12))))] W fun e w' => e = .returned (.int .i64 12) /\ Below W.heap.size W w') (hdo : ∀ W, Below w.heap.size w W -> Calls Tryz.prog 31 #[.pointer (some ⟨b, 0, none⟩), .agg (K.toList.map encB).toArray, .string u] W fun x w' => x = .returned (.iface 241 (.pointer (some (sent 12)))) /\ Below W.heap.size W w') :
  Calls Tryz.prog 17 #[.pointer (some ⟨b, 0, none⟩), .agg (K.toList.map encB).toArray, .string u] w fun x w' => x = .returned (.int .i64 12) /\ Fr B S S w w' := by
 have D := ht.lt
 have E : (Tryz.prog.info? 43).map (·.size) = some (K.toList.map encB).length := by rw [size51]; simp [hK]
 obtain ⟨W0, c⟩ : ∃ W0, w.alloc (.cells (K.toList.map encB).toArray 43) = W0 := ⟨_, rfl⟩
 have i : Below w.heap.size w W0 := by rw [<- c]; exact (Below.refl _ _).alloc (Nat.le_refl _) _
 have k : w.heap.size < W0.heap.size := by rw [<- c]; simp
 have h : W0.rangeAt w.heap.size 0 (K.toList.map encB) := fun j u y => by
  rw [<- c, Nat.zero_add, World.cell?_alloc_new]
  simpa using y
 have g : Below w.heap.size w W0.drew := i.drew
 have a := Fr.of_below hf g
 have s := Hid.hide (hdo W0.drew g)
 have r : Hid (Fr B S S w W0.drew /\ S w.heap.size = none) := ⟨a, hf.fresh (Nat.le_refl _)⟩
 have z := Tryz.underlying43
 have o := Hid.hide hnum
 clear hf ht hK i g hdo hnum
 go_enter Tryz.func17, Tryz.ntmps17
 go_upto_region 1 with fail
 clear c
 have C := Hid.hide a.forest
 clear a
 go_region_held3 (fun w' => w'.rangeAt w.heap.size 0 (K.toList.map encB)) (first | exact h | exact p | exact v)
  (first | (go_at_call 31; refine s.out.mono ?_; rintro x m ⟨rfl, d⟩; have p : m.rangeAt w.heap.size 0 (K.toList.map encB) := rangeAt_block h (d.block w.heap.size k); have l : Hid (Fr B S S w m /\ w.heap.size < m.heap.size) := ⟨r.out.1.behind d, Nat.lt_of_lt_of_le k d.size⟩; clear d) | (go_at_call 30; refine (o.out _ l.out.1).mono ?_; rintro x q ⟨rfl, f⟩; have v : q.rangeAt w.heap.size 0 (K.toList.map encB) := rangeAt_block p (f.block w.heap.size l.out.2); have n : Hid (Fr B S S w q) := l.out.1.behind f; clear f))
 all_goals go_wp2
 all_goals go_ret
 all_goals exact ⟨rfl, n.out⟩
theorem sees_end {e : Nd} (h : ∀ g, e ≠ .stub g) {r : ByteArray} (hn : (e.next r).1 = .no) : e.sees (bytesOf r) := by
 cases e with
 | no => exact sees_no _
 | leaf p v => exact sees_leaf _ _ _
 | stub g => exact absurd rfl (h g)
 | ext p t =>
  rw [sees_ext]
  intro c
  have a : (Nd.ext p t).next r = (t, p.size) := if_pos c
  rw [a] at hn
  rw [show t = .no from hn]
  exact sees_no _
 | br ks =>
  by_cases b : 0 < r.size
  ·have d := head_nib b
   rw [d, sees_br, show ks.getD ((bytesOf r)[0]!) .no = .no from hn]
   exact sees_no _
  ·rw [bytesOf_nil (by omega)]
   exact sees_br_nil _
theorem WayTo.stops {a : Nd} {r : ByteArray} {l : List (Nd × ByteArray)} {e : Nd} {r' : ByteArray} (h : WayTo a r l e r') : (e.next r').1 = .no := by
 induction h with
 | stop h => exact h
 | go _ _ ih => exact ih
theorem seen_way {a : Nd} {r : ByteArray} {l : List (Nd × ByteArray)} {e : Nd} {r' : ByteArray} (h : WayTo a r l e r') : a.fits r.size -> e.sees (bytesOf r') -> a.sees (bytesOf r) := by
 induction h with
 | stop => exact fun _ h => h
 | @go t r l e r' hn hw ih =>
  intro b f
  cases t with
  | no => exact absurd rfl hn
  | leaf _ _ => exact absurd rfl hn
  | stub _ => exact absurd rfl hn
  | ext p t =>
   by_cases d : begins p r
   ·have c : (Nd.ext p t).next r = (t, p.size) := if_pos d
    rw [Nd.fits] at b
    have := ih (by rw [c, extract_size]; exact b.2.2) f
    rw [c, bytesOf_tail] at this
    rw [sees_ext]
    exact fun _ => this
   ·have c : (Nd.ext p t).next r = (.no, 0) := if_neg d
    rw [c] at hn
    exact absurd rfl hn
  | br ks =>
   rw [Nd.fits] at b
   have := ih (by rw [extract_size]; exact fits_getD b.2 _) f
   rw [head_nib b.1, sees_br]
   exact this
theorem part_xget {B : Nat} {S : Wood} (sent : Nat -> Addr) {w : World} {b : Nat} {a t : Nd} {K : Array Nat} (hFl : Faults w sent) (hf : Forest B S w) (ht : TreeAt S w b a) (hp : Prt a t) (hc : t.can 64) (hK : K.size = 32) (hKb : Bytes K) {o : Option ByteArray} (ho : t.get (nibs K.toList) = o) :
  Calls Tryz.prog 26 #[.pointer (some ⟨b, 0, none⟩), .agg (K.toList.map encB).toArray] w fun x w' => (x = .returned (.tuple #[.string (o.getD ⟨#[]⟩), .bool o.isSome, .int .i64 0]) \/ (x = .returned (.tuple #[.string ⟨#[]⟩, .bool false, .int .i64 12]) /\ ¬ a.sees (nibs K.toList))) /\ Below w.heap.size w w' := by
 obtain ⟨d, f, h⟩ := key_path hK hKb
 have n := (Nd.can_ok t 64 hc (Nat.le_refl _)).1
 have c := hp.fits 64 (Nd.can_ok t 64 hc (Nat.le_refl _)).2
 rw [<- h] at c
 have k : t.can (textB (nibs K.toList)).size := by rw [h]; exact hc
 rcases part_get hp k with hm | ⟨l, e, r', i, hl, hs, hv⟩
 ·have m := hm
  obtain ⟨l, g, s, i, -⟩ := m
  refine (xget_stub sent hFl hf ht hK hKb rfl c (by rw [d]; exact f) (by omega) i).mono ?_
  rintro x w' ⟨rfl, j⟩
  refine ⟨.inr ⟨rfl, ?_⟩, j⟩
  rw [<- d]
  exact Meets.not_sees hm c
 ·rw [d, ho] at hv
  refine (xgetW_any hf ht hK hKb rfl c (by rw [d]; exact f) (by omega) i hs hv).mono ?_
  rintro x w' ⟨rfl, j⟩
  exact ⟨.inl rfl, j⟩
theorem part_xput {B : Nat} {S : Wood} (sent : Nat -> Addr) {w : World} {b : Nat} {a t : Nd} {K : Array Nat} {u : ByteArray} (hFl : Faults w sent) (hFa : ∀ W, Fr B S S w W -> Faults W sent) (hf : Forest B S w) (ht : TreeAt S w b a) (hp : Prt a t) (hc : t.can 64) (hK : K.size = 32) (hKb : Bytes K) (hu0 : 0 < u.size) (hu1 : u.size <= 100) :
  Calls Tryz.prog 17 #[.pointer (some ⟨b, 0, none⟩), .agg (K.toList.map encB).toArray, .string u] w fun x w' => (x = .returned (.int .i64 12) /\ Fr B S S w w') \/ (x = .returned (.int .i64 0) /\ ∃ S' a' t', TreeAt S' w' b a' /\ Prt a' t' /\ t'.can 64 /\ (∀ s, s.length = 64 -> t'.get s = if s = nibs K.toList then some u else t.get s) /\ a'.sees (nibs K.toList) /\ FrX B (· = b) S S' w w') := by
 obtain ⟨j, r, d⟩ := key_path hK hKb
 have m := (Nd.can_ok t 64 hc (Nat.le_refl _)).1
 have c := hp.fits 64 (Nd.can_ok t 64 hc (Nat.le_refl _)).2
 rw [<- d] at c
 have o : t.can (textB (nibs K.toList)).size := by rw [d]; exact hc
 have i : nib (bytesOf (textB (nibs K.toList))) := by rw [j]; exact r
 rcases part_put hp o i (by omega) hu0 hu1 with hm | ⟨l, e, r', t', k, hl, n, hr, hok, hpr, hg⟩
 ·obtain ⟨l, g, s, k, -⟩ := hm
  refine (xput_err (sent := sent) (u := u) hf ht hK (fun W f => errno_any sent (.base 12) (by show 12 ∈ nums; decide) W (hFa W f)) fun W f => tput_stub sent (hFl.below f) (hf.below f) (ht.frame (Fr.of_below hf f)) hK hKb rfl c i (by omega) k hu0 hu1).mono ?_
  rintro x w' ⟨rfl, q⟩
  exact .inl ⟨rfl, q⟩
 ·refine (xput_any hf ht (hp.ok m) hK hKb rfl c i (by omega) k n hr hu0 hu1 (by omega) hok).mono ?_
  rintro x w' ⟨rfl, S', v, p⟩
  have h := hg.can
  rw [d] at h
  refine .inr ⟨rfl, S', _, t', v, hpr, h, fun s n => ?_, ?_, p⟩
  ·rw [<- j]
   exact hg.get s (by rw [d]; exact n)
  ·rw [<- j]
   exact ends_sees k (hp.ok m) c _ hok (putAt_sees hr.2)
theorem part_xdel {B : Nat} {S : Wood} (sent : Nat -> Addr) {w : World} {b : Nat} {a t : Nd} {K : Array Nat} (hFl : Faults w sent) (hFa : ∀ W, Fr B S S w W -> Faults W sent) (hlo : S 10 = none) (hf : Forest B S w) (ht : TreeAt S w b a) (hp : Prt a t) (hc : t.can 64) (hK : K.size = 32) (hKb : Bytes K) :
  Calls Tryz.prog 16 #[.pointer (some ⟨b, 0, none⟩), .agg (K.toList.map encB).toArray] w fun x w' => (x = .returned (.tuple #[.bool false, .int .i64 12]) /\ Fr B S S w w') \/ (x = .returned (.tuple #[.bool (t.get (nibs K.toList)).isSome, .int .i64 0]) /\ ∃ S' a' t', TreeAt S' w' b a' /\ Prt a' t' /\ t'.can 64 /\ (∀ s, s.length = 64 -> t'.get s = if s = nibs K.toList then none else t.get s) /\ a'.sees (nibs K.toList) /\ FrX B (· = b) S S' w w') := by
 obtain ⟨f, F, o⟩ := key_path hK hKb
 have G := (Nd.can_ok t 64 hc (Nat.le_refl _)).1
 have d := hp.fits 64 (Nd.can_ok t 64 hc (Nat.le_refl _)).2
 rw [<- o] at d
 have z : t.can (textB (nibs K.toList)).size := by rw [o]; exact hc
 have k : nib (bytesOf (textB (nibs K.toList))) := by rw [f]; exact F
 have r : ∀ W, Fr B S S w W -> Calls Tryz.prog 30 #[(.iface 241 (.pointer (some (sent 12))))] W fun e w' => e = .returned (.int .i64 12) /\ Below W.heap.size W w' := fun W c => errno_any sent (.base 12) (by show 12 ∈ nums; decide) W (hFa W c)
 have n : Meets a (textB (nibs K.toList)) -> Calls Tryz.prog 16 #[.pointer (some ⟨b, 0, none⟩), .agg (K.toList.map encB).toArray] w fun x w' => x = .returned (.tuple #[.bool false, .int .i64 12]) /\ Fr B S S w w' := fun q => by
  obtain ⟨l, g, s, i, -⟩ := q
  refine xdel_err (sent := sent) hf ht hK r fun W c => ?_
  refine (tdel_stub sent (hFl.below c) (hf.below c) (ht.frame (Fr.of_below hf c)) hK hKb rfl d k (by omega) i).mono ?_
  rintro x w' ⟨rfl, D⟩
  exact ⟨rfl, Fr.of_below (hf.below c) D⟩
 cases hget : t.get (nibs K.toList) with
 | none =>
  rcases part_get hp z with q | ⟨l, e, r', i, hl, y, hv⟩
  ·exact (n q).mono fun x w' h => .inl h
  ·have E : ∀ u, e ≠ .leaf r' u := by
    rcases hv with ⟨-, h⟩ | ⟨u, h, -⟩
    ·exact h
    ·rw [f, hget] at h; cases h
   refine (xdel_of (Q := fun x => x = a) hf ht hK (ob := false) fun W c => ?_).mono ?_
   ·refine (tdelW_no (hf.below c) (ht.frame (Fr.of_below hf c)) hK hKb rfl d k (by omega) i y E).mono ?_
    rintro x w' ⟨rfl, D⟩
    have C := Fr.of_below (hf.below c) D
    exact ⟨rfl, S, a, (ht.frame (Fr.of_below hf c)).frame C, rfl, C.x _⟩
   ·rintro x w' ⟨rfl, S', a', m, rfl, j⟩
    refine .inr ⟨rfl, S', a', t, m, hp, hc, fun s H => ?_, ?_, j⟩
    ·by_cases h : s = nibs K.toList
     ·rw [if_pos h, h, hget]
     ·rw [if_neg h]
    ·rw [<- f]
     exact seen_way i d (sees_end y i.stops)
 | some v =>
  rcases part_del hp z k (by omega) (by rw [f]; exact hget) with q | ⟨l, r', i, hl, hv⟩
  ·exact (n q).mono fun x w' h => .inl h
  ·rcases hv with ⟨t', hok, hpr, hg⟩ | hbad
   ·refine (xdel_of (Q := fun x => x = endN l .no) hf ht hK (ob := true) fun W c => ?_).mono ?_
    ·refine (tdelW_yes (hf.below c) (ht.frame (Fr.of_below hf c)) hK hKb rfl d k (by omega) i (by omega) hok).mono ?_
     rintro x w' ⟨rfl, S', m, j⟩
     exact ⟨rfl, S', _, m, rfl, j⟩
    ·rintro x w' ⟨rfl, S', a', m, rfl, j⟩
     have p := hg.can
     rw [o] at p
     refine .inr ⟨rfl, S', _, t', m, hpr, p, fun s y => ?_, ?_, j⟩
     ·rw [<- f]
      exact hg.get s (by rw [o]; exact y)
     ·rw [<- f]
      exact ends_sees i (hp.ok G) d _ hok (sees_no _)
   ·refine (xdel_err (sent := sent) hf ht hK r fun W c => ?_).mono fun x w' h => .inl h
    exact tdelW_bad (sent := sent) (hf.below c) (ht.frame (Fr.of_below hf c)) hK hKb rfl d k (by omega) i (by omega) hbad ((hFl.below c).var 12 (by decide)) hlo
end Go.Proofs.YtcglpladmeelaaaGreatDoor
