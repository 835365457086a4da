/-
  Nodes are made: fork, under, a branch's put.
-/
import Derived.Test.YtakidhihbgfjlaaGreatDoorSxNodB
namespace Go.Proofs.YtakidhihbgfjlaaGreatDoor
open Go.RowKit
set_option maxRecDepth 100000
set_option maxHeartbeats 25600000
def none16 : List Nd := List.replicate 16 .no
theorem Qu2 : oks none16 := Qmp fun x hx => by rw [List.eq_of_mem_replicate hx, Nd.ok]; trivial
theorem Qu3 (S : Wood) : Kids S (List.replicate 16 .nilIface) none16 := by
 refine ⟨by simp, by simp [none16], fun i b a => ?_⟩
 rw [List.getElem_replicate]
 exact .inl ⟨List.eq_of_mem_replicate (List.getElem_mem a), rfl⟩
variable {ks : List Nd} {t : Nd}
theorem QAb (h : oks ks) (n : Nat) (ht : t.ok) : oks (ks.set n t) := Qmp fun x hx => by
 rcases List.mem_or_eq_of_mem_set hx with h1 | h1
 ·exact Qhd h h1
 ·rw [h1]; exact ht
theorem QAc (h : oks ks) (hl : ks.length = 16) (n : Nat) (ht : t.ok) : (Nd.br (ks.set n t)).ok := by
 rw [Nd.ok]
 exact ⟨by simp [hl], QAb h n ht⟩
variable {B n : Nat} {S : Wood} {w : World} {v : Value}
theorem Qpt (hf : Forest B S w) (hn : n < 16) (hv : ndV S v t) (hok : t.ok) :
  Calls Tryz.prog 148 #[.int .u8 (n : Int), v] w fun e w' => ∃ c, e = .returned (.pointer (some ⟨c, 0, none⟩)) /\ w.heap.size <= c /\ Fr B S (S.put c (.br (none16.set n t))) w w' := by
 have a : Below w.heap.size w (w.alloc (.cells z17.toArray 235)) := (Below.refl _ _).alloc (Nat.le_refl _) _
 have d : (w.alloc (.cells z17.toArray 235)).rangeAt w.heap.size 1 (List.replicate 16 .nilIface) := fun j u k => by
  rw [World.cell?_alloc_new]
  have l : z17 = .string ⟨#[]⟩ :: List.replicate 16 .nilIface := rfl
  rw [l, List.getElem?_toArray, Nat.add_comm 1 j, List.getElem?_cons_succ]
  exact k
 have f := Hq (Qkz (hf.below a) d (Qu3 S) hn hv (QAc Qu2 rfl n hok))
 simp only [z17] at f a
 have i : Hid (Fr B S S w _) := Fr.of_below hf a
 clear hf hn hv hok a d
 go_enter Tryz.func148, Tryz.ntmps148
 go_wp2_with fail
 refine f.out.mono ?_
 rintro e m ⟨c, rfl, g, b⟩
 have h : Hid (w.heap.size <= c /\ Fr B S (S.put c (.br (none16.set n t))) w m) := ⟨Nat.le_trans (by simp) g, i.out.trans b⟩
 clear g b
 go_wp2
 go_ret
 exact ⟨c, rfl, h.out⟩
def underN (p : ByteArray) (t : Nd) : Nd := if p.size = 0 then t else .ext p t
variable {p : ByteArray}
theorem Qmw (h : p.size = 0) : p = ⟨#[]⟩ := by
 cases p with
 | mk d => congr; exact Array.eq_empty_of_size_eq_zero h
def Made' (B : Nat) (S : Wood) (w : World) (t : Nd) (e : Ending) (w' : World) : Prop := ∃ v S', e = .returned v /\ ndV S' v t /\ Fr B S S' w w'
theorem Qfa (hf : Forest B S w) (hv : ndV S v t) (hne : t ≠ .no) (hp : nibOK p) (hok : t.ok) :
  Calls Tryz.prog 149 #[.string p, v] w (Made' B S w (underN p t)) := by
 obtain ⟨d, rfl, a⟩ := hv.full hne
 by_cases h : p.size = 0
 ·have i := Qmw h
  subst i
  have f := Hq hf
  have g := Hq hv
  rw [underN, if_pos h]
  clear hf hv a hok h hp
  go_enter Tryz.func149, Tryz.ntmps149
  go_wp2
  go_ret
  exact ⟨_, S, rfl, g.out, Fr.refl f.out⟩
 ·have c := Qcu p (by omega)
  have b : (Nd.ext p t).ok := by rw [Nd.ok]; exact ⟨hp, hok, hne⟩
  have e : Hid (Fr B S (S.put w.heap.size (.ext p t)) w (w.alloc (.cells #[.string ⟨#[]⟩, .string p, .iface (ndTy t) (.pointer (some ⟨d, 0, none⟩))] 232))) := Fr.alloc hf (t := .ext p t) (h := ⟨#[]⟩) (r := [.string p, .iface (ndTy t) (.pointer (some ⟨d, 0, none⟩))]) (heldOK.empty (by simp)) ⟨_, rfl, hv⟩ b
  rw [underN, if_neg h]
  clear hf hv a hok h hp b
  go_enter Tryz.func149, Tryz.ntmps149
  go_wp2
  go_ret
  exact ⟨_, _, rfl, .inr ⟨by simp, w.heap.size, rfl, Wood.put_same _ _ _⟩, e.out⟩
theorem Fr.leaf {B : Nat} {S : Wood} {w : World} (hf : Forest B S w) {p v : ByteArray} (hp : nibOK p) (hv : v.size <= 1024) : Fr B S (S.put w.heap.size (.leaf p v)) w (w.alloc (.cells #[.string ⟨#[]⟩, .string p, .string v] 169)) :=
 Fr.alloc hf (t := .leaf p v) (h := ⟨#[]⟩) (r := [.string p, .string v]) (heldOK.empty (by simp)) rfl (by rw [Nd.ok]; exact ⟨hp, hv⟩)
theorem Kids.sub {S S' : Wood} (hs : ∀ b t, S b = some t -> S' b = some t) {r : List Value} {ks : List Nd} (h : Kids S r ks) : Kids S' r ks := ⟨h.1, h.2.1, fun i a b => (h.2.2 i a b).sub hs⟩
variable {b : Nat}
theorem Ql5 (hf : Forest B S w) (hb : S b = some (.br ks)) : ∃ r, Kids S r ks /\ w.rangeAt b 1 r := by
 obtain ⟨g, e, _, c, _, d, _, _⟩ := (hf.node b _ hb).cell
 have a := hf.ok b _ hb
 rw [Nd.ok] at a
 exact ⟨e, ⟨c.1, a.1, c.2⟩, d⟩
theorem Qa4 {w' : World} {o : Nat} {r : List Value} (h : w.rangeAt b o r) (hb : w'.heap[b]? = w.heap[b]?) : w'.rangeAt b o r := fun j u hu => (World.cell?_of_block hb).trans (h j u hu)
variable {r u : ByteArray}
theorem Ql6 (hf : Forest B S w) (hb : S b = some (.br ks)) (hr : 0 < r.size) (hn : (bytesOf r)[0]! = n) (hn16 : n < 16) (hr1 : nibOK (r.extract 1 r.size)) (hu : u.size <= 1024) :
  Calls Tryz.prog 150 #[.pointer (some ⟨b, 0, none⟩), .string r, .string u] w (Made' B S w (.br (ks.set n (.leaf (r.extract 1 r.size) u)))) := by
 have k : (r[0]'hr).toNat = n := by rw [<- hn]; exact Qbo r 0 hr
 have v : (0 : Int) < (r.size : Int) := by omega
 have y : (1 : Int) <= (r.size : Int) := by omega
 obtain ⟨x, s⟩ : ∃ x, r.extract 1 r.size = x := ⟨_, rfl⟩
 rw [s] at hr1 ⊢
 have d := hf.ok b _ hb
 rw [Nd.ok] at d
 have g := hf.lt hb
 obtain ⟨z, l, m⟩ := Ql5 hf hb
 have i : Forest B S w.drew := hf.keep (Nat.le_refl _) fun _ _ _ => rfl
 have a := Fr.leaf i hr1 hu
 obtain ⟨S1, f⟩ : ∃ S1, S.put w.drew.heap.size (.leaf x u) = S1 := ⟨_, rfl⟩
 rw [f] at a
 have j : ndV S1 (.iface 165 (.pointer (some ⟨w.heap.size, 0, none⟩))) (.leaf x u) := .inr ⟨by simp, w.heap.size, rfl, by rw [<- f]; exact Wood.put_same _ _ _⟩
 have q := Hq (Qkz a.forest (Qa4 m (Below.heap_alloc w.drew _ _ g)) (l.sub a.sub) hn16 j (QAc d.2 d.1 n (by rw [Nd.ok]; exact ⟨hr1, hu⟩)))
 have p : Hid (Fr B S S1 w (w.drew.alloc (.cells #[.string ⟨#[]⟩, .string x, .string u] 169))) := (Fr.of_below hf (Below.drew (Below.refl _ _))).trans a
 clear hf hb hn hn16 hr1 hu d l m i a f j g
 go_enter Tryz.func150, Tryz.ntmps150
 go_upto_region 1 with fail
 go_region_with (go_at_call 153; refine q.out.mono ?_; rintro e t ⟨c, rfl, k, h⟩; have o : Hid (Fr B S (S1.put c (.br (ks.set n (.leaf x u)))) w t) := p.out.trans h; clear k h)
 all_goals go_wp2
 all_goals go_ret
 all_goals exact ⟨_, _, rfl, .inr ⟨by simp, c, rfl, Wood.put_same _ _ _⟩, o.out⟩
def parted (x : Nat) (t : Nd) (y : Nat) (r u : ByteArray) : Nd := .br ((none16.set x t).set y (.leaf (r.extract 1 r.size) u))
def Nd.putAt : Nd -> ByteArray -> ByteArray -> Nd
 | .leaf p v, r, u =>
  let n := comm (bytesOf p) (bytesOf r)
  if n = r.size then .leaf r u else underN (r.extract 0 n) (parted ((bytesOf p)[n]!) (.leaf (p.extract (n + 1) p.size) v) ((bytesOf (r.extract n r.size))[0]!) (r.extract n r.size) u)
 | .ext p t, r, u =>
  let n := comm (bytesOf p) (bytesOf r)
  underN (r.extract 0 n) (parted ((bytesOf p)[n]!) (underN (p.extract (n + 1) p.size) t) ((bytesOf (r.extract n r.size))[0]!) (r.extract n r.size) u)
 | .br ks, r, u => .br (ks.set ((bytesOf r)[0]!) (.leaf (r.extract 1 r.size) u))
 | _, r, u => .leaf r u
theorem nibOK.tail (h : nibOK p) (n : Nat) : nibOK (p.extract n p.size) := ⟨by rw [Qa6]; have := h.1; omega, Ql2 h.2 n⟩
theorem nibOK.head (h : nibOK p) (n : Nat) : nibOK (p.extract 0 n) := by
 refine ⟨?_, Qxf h.2 n⟩
 rw [<- bytesOf_length, Qb2, List.length_take, bytesOf_length]
 have := h.1
 omega
theorem nibOK.at (h : nibOK p) (hn : n < p.size) : (bytesOf p)[n]! < 16 := by
 have : n < (bytesOf p).length := by rw [bytesOf_length]; exact hn
 rw [getElem!_pos (bytesOf p) n this]
 exact h.2 _ (List.getElem_mem _)
theorem Made'.ok {B : Nat} {S : Wood} {w : World} {v : Value} {t : Nd} (hf : Forest B S w) (hv : ndV S v t) (hn : t ≠ .no) : t.ok := by
 obtain ⟨b, _, a⟩ := hv.full hn
 exact hf.ok b t a
theorem Qcw {v : ByteArray} (hf : Forest B S w) (hb : S b = some (.leaf p v)) : w.cell? ⟨b, 1, none⟩ = some (.string p) /\ w.cell? ⟨b, 2, none⟩ = some (.string v) := by
 obtain ⟨g, d, _, a, _, c, _, _⟩ := (hf.node b _ hb).cell
 have a : d = [.string p, .string v] := a
 subst a
 exact ⟨c 0 _ rfl, c 1 _ rfl⟩
theorem Qmx (hf : Forest B S w) (hb : S b = some (.ext p t)) : ∃ v, w.cell? ⟨b, 1, none⟩ = some (.string p) /\ w.cell? ⟨b, 2, none⟩ = some v /\ ndV S v t := by
 obtain ⟨g, f, _, a, _, c, _, _⟩ := (hf.node b _ hb).cell
 obtain ⟨v, d, e⟩ : ∃ v, f = [.string p, v] /\ ndV S v t := a
 subst d
 exact ⟨v, c 0 _ rfl, c 1 _ rfl, e⟩
theorem Qxj {v : ByteArray} (hf : Forest B S w) (hb : S b = some (.leaf p v)) (hpr : p.size = r.size) (hr : nibOK r) (hu : u.size <= 1024) :
  Calls Tryz.prog 142 #[.pointer (some ⟨b, 0, none⟩), .string r, .string u] w (Made' B S w ((Nd.leaf p v).putAt r u)) := by
 obtain ⟨g, rr, _, J, c0, rg, _, _⟩ := (hf.node b _ hb).cell
 have J : rr = [.string p, .string v] := J
 subst J
 have c1 : w.cell? ⟨b, 1, none⟩ = some (.string p) := rg 0 _ rfl
 have c2 : w.cell? ⟨b, 2, none⟩ = some (.string v) := rg 1 _ rfl
 have C := hf.lt hb
 have k := hf.ok b _ hb
 rw [Nd.ok] at k
 have V := Hq (Qjm p r w (by have := k.1.1; omega))
 rw [Nd.putAt]
 have m := Ql1 (bytesOf p) (bytesOf r)
 rw [bytesOf_length, bytesOf_length] at m
 obtain ⟨n, hN⟩ : ∃ n, comm (bytesOf p) (bytesOf r) = n := ⟨_, rfl⟩
 rw [hN] at V m ⊢
 have t := Hq hf
 have HB := Hq hb
 have f : Hid (nibOK p /\ v.size <= 1024 /\ nibOK r /\ u.size <= 1024 /\ p.size = r.size /\ r.size <= 64) := ⟨k.1, k.2, hr, hu, hpr, hr.1⟩
 clear hf hb rg k c0 hN
 by_cases E : n = r.size
 ·rw [if_pos E]
  subst E
  clear m hr hu hpr
  go_enter Tryz.func142, Tryz.ntmps142
  go_wp2_with fail
  refine V.out.mono ?_
  rintro e d ⟨rfl, a⟩
  have W : Hid (Fr B S (S.put d.heap.size (.leaf r u)) w (d.alloc (.cells #[.string ⟨#[]⟩, .string r, .string u] 169))) := (Fr.of_below t.out a).trans (Fr.leaf (t.out.below a) f.out.2.2.1 f.out.2.2.2.1)
  clear a
  go_wp2
  go_ret
  exact ⟨_, _, rfl, .inr ⟨by simp, d.heap.size, rfl, Wood.put_same _ _ _⟩, W.out⟩
 ·rw [if_neg E]
  have ak : n < r.size := by omega
  have F : n < p.size := by omega
  obtain ⟨x, L⟩ : ∃ x, (bytesOf p)[n]! = x := ⟨_, rfl⟩
  have K : x < 16 := by rw [<- L]; exact f.out.1.at F
  have ah : (p[n]'F).toNat = x := by rw [<- L]; exact Qbo p n F
  obtain ⟨p1, G⟩ : ∃ p1, p.extract (n + 1) p.size = p1 := ⟨_, rfl⟩
  obtain ⟨r0, R⟩ : ∃ r0, r.extract 0 n = r0 := ⟨_, rfl⟩
  obtain ⟨r1, I⟩ : ∃ r1, r.extract n r.size = r1 := ⟨_, rfl⟩
  obtain ⟨y, M⟩ : ∃ y, (bytesOf r1)[0]! = y := ⟨_, rfl⟩
  rw [L, G, R, I, M]
  have Z : r1.size = r.size - n := by rw [<- I, Qa6]
  have h : nibOK r1 := by rw [<- I]; exact hr.tail n
  have j : Hid (nibOK p1 /\ nibOK r0 /\ nibOK r1 /\ nibOK (r1.extract 1 r1.size) /\ 0 < r1.size /\ (bytesOf r1)[0]! = y /\ y < 16 /\ x < 16) := ⟨by rw [<- G]; exact f.out.1.tail _, by rw [<- R]; exact hr.head n, h, h.tail 1, by omega, M, by rw [<- M]; exact h.at (by omega), K⟩
  have i1 : (n : Int) < (p.size : Int) := by omega
  have i2 : (n : Int) < (r.size : Int) := by omega
  have i3 : (n : Int) <= (r.size : Int) := by omega
  have i4 : (n : Int) + 1 <= (p.size : Int) := by omega
  have i5 : (0 : Int) <= (n : Int) + 1 := by omega
  have i6 : (0 : Int) <= (n : Int) := by omega
  have k1 : IntKind.i64.wrap ((n : Int) + 1) = (n : Int) + 1 := Qar _ (by have := f.out; omega) (by have := f.out; omega)
  have k2 : ((n : Int) + 1).toNat = n + 1 := by omega
  have aj : ((n : Int) == (r.size : Int)) = false := by simp; omega
  have ai : ¬ n = r.size := E
  clear E m hr hu hpr L M Z h K
  go_enter Tryz.func142, Tryz.ntmps142
  go_upto_region 4 with (go_at_call 147; refine V.out.mono ?_; rintro e d ⟨rfl, a⟩; have l := Hq a; have X := (a.cell (p := ⟨b, 1, none⟩) C).trans c1; have Y := (a.cell (p := ⟨b, 2, none⟩) C).trans c2; clear a)
  have D : b < d.heap.size := Nat.lt_of_lt_of_le C l.out.size
  have Q : Forest B S d.drew := (t.out.below l.out).keep (Nat.le_refl _) fun _ _ _ => rfl
  have q := Fr.leaf Q j.out.1 f.out.2.1
  obtain ⟨S1, z⟩ : ∃ S1, S.put d.drew.heap.size (.leaf p1 v) = S1 := ⟨_, rfl⟩
  rw [z] at q
  have T : ndV S1 (.iface 165 (.pointer (some ⟨d.heap.size, 0, none⟩))) (.leaf p1 v) := .inr ⟨by simp, d.heap.size, rfl, by rw [<- z]; exact Wood.put_same _ _ _⟩
  have HK := Hq (Qpt q.forest j.out.2.2.2.2.2.2.2 T (by rw [Nd.ok]; exact ⟨j.out.1, f.out.2.1⟩))
  have ag : Hid (Fr B S S1 w (d.drew.alloc (.cells #[.string ⟨#[]⟩, .string p1, .string v] 169))) := ((Fr.of_below t.out l.out).trans (Fr.of_below (t.out.below l.out) (Below.drew (Below.refl _ _)))).trans q
  clear Q q z T
  go_region_held3 (fun w' => w'.cell? ⟨b, 1, none⟩ = some (.string p) /\ w'.cell? ⟨b, 2, none⟩ = some (.string v)) (first | exact ⟨X, Y⟩ | exact ⟨(World.cell?_alloc_past _ _ _ D).trans X, (World.cell?_alloc_past _ _ _ D).trans Y⟩ | exact ⟨e1, e2⟩)
   (first | (go_at_call 148; refine HK.out.mono ?_; rintro e N ⟨c, rfl, hc, O⟩; have i : Hid (Fr B S (S1.put c (.br (none16.set x (.leaf p1 v)))) w N) := ag.out.trans O; obtain ⟨e1, e2⟩ := Qcw i.out.forest (i.out.sub b _ HB.out); clear hc O))
  all_goals clear X Y e1 e2 HK ah i1 i4 i5 k1 k2 G
  all_goals go_wp2
  all_goals
   have H : S1.put c (.br (none16.set x (.leaf p1 v))) c = some (.br (none16.set x (.leaf p1 v))) := Wood.put_same _ _ _
   generalize S1.put c (.br (none16.set x (.leaf p1 v))) = S2 at i H
   have aa : Hid (Calls Tryz.prog 150 #[.pointer (some ⟨c, 0, none⟩), .string r1, .string u] N.drew (Made' B S2 N.drew (parted x (.leaf p1 v) y r1 u))) := Ql6 (i.out.forest.keep (Nat.le_refl _) fun _ _ _ => rfl) H j.out.2.2.2.2.1 j.out.2.2.2.2.2.1 j.out.2.2.2.2.2.2.1 j.out.2.2.2.1 f.out.2.2.2.1
   have ae : Hid (Fr B S S2 w N.drew) := i.out.behind (Below.drew (Below.refl _ _))
   clear H
   go_region_with (first | (go_at_call 150; refine aa.out.mono ?_; rintro e w3 ⟨v3, S3, rfl, s, o⟩; have ac : Hid (Fr B S S3 w w3) := ae.out.trans o; have hU := Qfa (p := r0) o.forest s (by simp [parted]) j.out.2.1 (Made'.ok o.forest s (by simp [parted])); obtain ⟨d3, rfl, -⟩ := s.full (by simp [parted]); have HU := Hq hU; clear s o hU) | (go_at_call 149; refine HU.out.mono ?_; rintro e w4 ⟨v4, S4, rfl, U, P⟩; have W : Hid (ndV S4 v4 (underN r0 (parted x (.leaf p1 v) y r1 u)) /\ Fr B S S4 w w4) := ⟨U, ac.out.trans P⟩; clear U P))
   all_goals go_wp2
   all_goals go_ret
   all_goals exact ⟨_, _, rfl, W.out⟩
theorem Qjr (h : ¬ begins p r) : comm (bytesOf p) (bytesOf r) < p.size := by
 have b := Ql1 (bytesOf p) (bytesOf r)
 have a := Qf8 (bytesOf p) (bytesOf r)
 rw [bytesOf_length, bytesOf_length] at b
 rcases Nat.lt_or_ge (comm (bytesOf p) (bytesOf r)) p.size with h3 | h3
 ·exact h3
 ·exfalso
  apply h
  unfold begins
  have e : comm (bytesOf p) (bytesOf r) = p.size := by omega
  rw [e] at a
  rw [<- a, List.take_of_length_le (by rw [bytesOf_length]; exact Nat.le_refl _)]
theorem Qpu {S' : Wood} {w' : World} (h : Fr B S S' w w') (hb : S b = some (.ext p t)) (c1 : w.cell? ⟨b, 1, none⟩ = some (.string p)) (c2 : w.cell? ⟨b, 2, none⟩ = some v) : w'.cell? ⟨b, 1, none⟩ = some (.string p) /\ w'.cell? ⟨b, 2, none⟩ = some v := by
 exact ⟨(h.kids b _ hb 1 (by omega)).trans c1, (h.kids b _ hb 2 (by omega)).trans c2⟩
theorem Qxk (hf : Forest B S w) (hb : S b = some (.ext p t)) (hpr : p.size < r.size) (hnb : ¬ begins p r) (hr : nibOK r) (hu : u.size <= 1024) :
  Calls Tryz.prog 185 #[.pointer (some ⟨b, 0, none⟩), .string r, .string u] w (Made' B S w ((Nd.ext p t).putAt r u)) := by
 obtain ⟨tv, T, U, I⟩ := Qmx hf hb
 have O := hf.lt hb
 have a := hf.ok b _ hb
 rw [Nd.ok] at a
 have Z := Hq (Qjm p r w (by have := a.1.1; omega))
 rw [Nd.putAt]
 have k := Qjr hnb
 obtain ⟨n, hN⟩ : ∃ n, comm (bytesOf p) (bytesOf r) = n := ⟨_, rfl⟩
 rw [hN] at Z k ⊢
 have HF := Hq hf
 have W := Hq hb
 have f : Hid (nibOK p /\ t.ok /\ t ≠ .no /\ nibOK r /\ u.size <= 1024 /\ p.size < r.size /\ r.size <= 64) := ⟨a.1, a.2.1, a.2.2, hr, hu, hpr, hr.1⟩
 have HV := Hq I
 obtain ⟨td, ag, -⟩ := I.full a.2.2
 subst ag
 have ah : n < r.size := by omega
 obtain ⟨x, L⟩ : ∃ x, (bytesOf p)[n]! = x := ⟨_, rfl⟩
 have J : x < 16 := by rw [<- L]; exact f.out.1.at k
 have ae : (p[n]'k).toNat = x := by rw [<- L]; exact Qbo p n k
 obtain ⟨p1, E⟩ : ∃ p1, p.extract (n + 1) p.size = p1 := ⟨_, rfl⟩
 obtain ⟨r0, Q⟩ : ∃ r0, r.extract 0 n = r0 := ⟨_, rfl⟩
 obtain ⟨r1, G⟩ : ∃ r1, r.extract n r.size = r1 := ⟨_, rfl⟩
 obtain ⟨y, M⟩ : ∃ y, (bytesOf r1)[0]! = y := ⟨_, rfl⟩
 rw [L, E, Q, G, M]
 have V : r1.size = r.size - n := by rw [<- G, Qa6]
 have d : nibOK r1 := by rw [<- G]; exact hr.tail n
 have g : Hid (nibOK p1 /\ nibOK r0 /\ nibOK r1 /\ nibOK (r1.extract 1 r1.size) /\ 0 < r1.size /\ (bytesOf r1)[0]! = y /\ y < 16 /\ x < 16) := ⟨by rw [<- E]; exact f.out.1.tail _, by rw [<- Q]; exact hr.head n, d, d.tail 1, by omega, M, by rw [<- M]; exact d.at (by omega), J⟩
 have i1 : (n : Int) < (p.size : Int) := by omega
 have i2 : (n : Int) < (r.size : Int) := by omega
 have i3 : (n : Int) <= (r.size : Int) := by omega
 have i4 : (n : Int) + 1 <= (p.size : Int) := by omega
 have i5 : (0 : Int) <= (n : Int) + 1 := by omega
 have i6 : (0 : Int) <= (n : Int) := by omega
 have k1 : IntKind.i64.wrap ((n : Int) + 1) = (n : Int) + 1 := Qar _ (by have := f.out; omega) (by have := f.out; omega)
 have k2 : ((n : Int) + 1).toNat = n + 1 := by omega
 obtain ⟨t1, l⟩ : ∃ t1, underN p1 t = t1 := ⟨_, rfl⟩
 rw [l]
 have H : t1 ≠ .no := by
  rw [<- l]
  unfold underN
  split
  ·exact a.2.2
  ·simp
 have z : Hid (underN p1 t = t1 /\ t1 ≠ .no) := ⟨l, H⟩
 clear hf hb a hN hr hu hpr L M V d J hnb I l H
 go_enter Tryz.func185, Tryz.ntmps185
 go_upto_region 2 with (go_at_call 147; refine Z.out.mono ?_; rintro e w1 ⟨rfl, h⟩; have X := Hq h; have d1 := (h.cell (p := ⟨b, 1, none⟩) O).trans T; have d2 := (h.cell (p := ⟨b, 2, none⟩) O).trans U; clear h)
 have v : Hid (Fr B S S w w1.drew) := (Fr.of_below HF.out X.out).behind (Below.drew (Below.refl _ _))
 have C := Hq (Qfa (p := p1) v.out.forest HV.out f.out.2.2.1 g.out.1 f.out.2.1)
 rw [z.out.1] at C
 go_region_held3 (fun w' => w'.cell? ⟨b, 1, none⟩ = some (.string p) /\ w'.cell? ⟨b, 2, none⟩ = some (.iface (ndTy t) (.pointer (some ⟨td, 0, none⟩)))) (first | exact ⟨d1, d2⟩ | exact ⟨e1, e2⟩ | exact ⟨f1, f2⟩)
  (first | (go_at_call 149; refine C.out.mono ?_; rintro e w2 ⟨v2, K, rfl, m, i⟩; have q : Hid (Fr B S K w w2) := v.out.trans i; obtain ⟨e1, e2⟩ := Qpu (v.out.trans i) W.out T U; obtain ⟨d3, rfl, -⟩ := m.full z.out.2; have HK := Hq (Qpt q.out.forest g.out.2.2.2.2.2.2.2 m (Made'.ok i.forest m z.out.2)); clear m i) | (go_at_call 148; refine HK.out.mono ?_; rintro e N ⟨c, rfl, hc, D⟩; have s : Hid (Fr B S (K.put c (.br (none16.set x t1))) w N) := q.out.trans D; obtain ⟨f1, f2⟩ := Qpu (q.out.trans D) W.out T U; clear hc D))
 all_goals clear d1 d2 e1 e2 f1 f2 HK C ae i1 i4 i5 k1 k2 E
 all_goals go_wp2
 all_goals
  have F : K.put c (.br (none16.set x t1)) c = some (.br (none16.set x t1)) := Wood.put_same _ _ _
  generalize K.put c (.br (none16.set x t1)) = S3 at s F
  have Y : Hid (Calls Tryz.prog 150 #[.pointer (some ⟨c, 0, none⟩), .string r1, .string u] N.drew (Made' B S3 N.drew (parted x t1 y r1 u))) := Ql6 (s.out.forest.keep (Nat.le_refl _) fun _ _ _ => rfl) F g.out.2.2.2.2.1 g.out.2.2.2.2.2.1 g.out.2.2.2.2.2.2.1 g.out.2.2.2.1 f.out.2.2.2.2.1
  have ac : Hid (Fr B S S3 w N.drew) := s.out.behind (Below.drew (Below.refl _ _))
  clear F
  go_region_with (first | (go_at_call 150; refine Y.out.mono ?_; rintro e w4 ⟨v4, S4, rfl, o, j⟩; have aa : Hid (Fr B S S4 w w4) := ac.out.trans j; have hU := Qfa (p := r0) j.forest o (by simp [parted]) g.out.2.1 (Made'.ok j.forest o (by simp [parted])); obtain ⟨d4, rfl, -⟩ := o.full (by simp [parted]); have C := Hq hU; clear o j hU) | (go_at_call 149; refine C.out.mono ?_; rintro e w5 ⟨v5, S5, rfl, R, P⟩; have HE : Hid (ndV S5 v5 (underN r0 (parted x t1 y r1 u)) /\ Fr B S S5 w w5) := ⟨R, aa.out.trans P⟩; clear R P))
  all_goals go_wp2
  all_goals go_ret
  all_goals exact ⟨_, _, rfl, HE.out⟩
end Go.Proofs.YtakidhihbgfjlaaGreatDoor
