/-
  Get and Prove of a tree that may have stubs.
-/
import Derived.Test.YtakidhihbgfjlaaGreatDoorSxPhG
import Derived.Test.YtakidhihbgfjlaaGreatDoorSxVoG
import Derived.Test.YtakidhihbgfjlaaGreatDoorSxGqG
import Derived.Test.YtakidhihbgfjlaaGreatDoorSxSbG
import Derived.Test.YtakidhihbgfjlaaGreatDoorSxOrdA
import Derived.Test.YtakidhihbgfjlaaGreatDoorSxWaG
import Derived.Test.YtakidhihbgfjlaaGreatDoorSxOaG
import Derived.Test.YtakidhihbgfjlaaGreatDoorSxSaG
namespace Go.Proofs.YtakidhihbgfjlaaGreatDoor
open Go.RowKit
set_option maxRecDepth 100000
set_option maxHeartbeats 25600000
variable {t : Nd} {r : ByteArray}
theorem Qwm {l : List (Nd × ByteArray)} {e : Nd} {r' : ByteArray} (h : WayTo t r l e r') : ∀ (_ : t.cn r.size), t.get (bytesOf r) = e.get (bytesOf r') /\ e.cn r'.size /\ (e.next r').1 = .no := by
 induction h with
 | @stop t r hn => exact fun a => ⟨rfl, a, hn⟩
 | @go t r l e r' hn _ ih =>
  intro a
  obtain ⟨_, _, f, g, _⟩ := Qle a hn
  obtain ⟨b, c, d⟩ := ih (by rw [Qa6]; exact f)
  refine ⟨?_, c, d⟩
  rw [g _ rfl, <- b, Qab]
theorem Qwn {e : Nd} (he : e.cn r.size) (hn : (e.next r).1 = .no) : (e.get (bytesOf r) = none /\ ∀ u, e ≠ .leaf r u) \/ ∃ u, e.get (bytesOf r) = some u /\ e = .leaf r u := by
 have h := Qq5 he hn
 cases e with
 | leaf p v =>
  rw [Qbs]
  by_cases a : p = r
  ·subst a
   exact .inr ⟨v, by rw [if_pos rfl], rfl⟩
  ·exact .inl ⟨by rw [if_neg fun q => a (Qav q)], fun u q => by injection q with q1; exact a q1⟩
 | no => exact .inl ⟨Qgl _, by simp⟩
 | stub g => exact .inl ⟨by rw [Nd.get], by simp⟩
 | ext p t => rw [Qg9] at h; exact .inl ⟨h.symm, by simp⟩
 | br ks => rw [Qkc] at h; exact .inl ⟨h.symm, by simp⟩
variable {B b : Nat} {S : Wood} {w : World} {K : Array Nat} {o : Option ByteArray}
theorem Qzw (sent : Nat -> Addr) (hFl : Faults w sent) (hf : Forest B S w) (ht : TreeAt S w b t) (hc : t.cn 64) (hK : K.size = 32) (hKb : Bytes K) (ho : t.get (nibs K.toList) = o) :
  Calls Tryz.prog 24 #[.pointer (some ⟨b, 0, none⟩), .agg (K.toList.map encB).toArray] w fun x w' => ((x = .returned (.tuple #[.string (o.getD ⟨#[]⟩), .bool o.isSome, .int .i64 0]) /\ t.sees (nibs K.toList)) \/ x = .returned (.tuple #[.string ⟨#[]⟩, .bool false, .int .i64 12])) /\ Below w.heap.size w w' := by
 obtain ⟨c, k, r⟩ := Qeg hK hKb
 have d : t.cn (textB (nibs K.toList)).size := by rw [r]; exact hc
 have a := (t.cn_ok _ d (by omega)).2
 obtain ⟨l, e, z, f, y⟩ := Qlf _ t (textB (nibs K.toList)) (Nat.le_refl _) d
 obtain ⟨p, v, j⟩ := Qwm f d
 by_cases s : ∃ g, e = .stub g
 ·obtain ⟨g, rfl⟩ := s
  refine (Qtn sent hFl hf ht hK hKb rfl a (by rw [c]; exact k) (by omega) f).mono ?_
  rintro x w' ⟨rfl, m⟩
  exact ⟨.inr rfl, m⟩
 ·have i : ∀ g, e ≠ .stub g := fun g q => s ⟨g, q⟩
  have n : t.sees (nibs K.toList) := by
   have := Qy5 f a (Qy4 i j)
   rw [c] at this
   exact this
  rw [c, ho] at p
  have h := Qwn v j
  rw [<- p] at h
  refine (Qtl hf ht hK hKb rfl a (by rw [c]; exact k) (by omega) f i (o := o) ?_).mono ?_
  ·rcases h with h | ⟨u, h1, h2⟩
   ·exact .inl h
   ·exact .inr ⟨u, h1, h2⟩
  ·rintro x w' ⟨rfl, m⟩
   exact ⟨.inl ⟨rfl, n⟩, m⟩
variable {L : List (List Nat)}
theorem Qss (hf : Forest B S w) (hTb : Tabs w) (hM : 15 <= B) (ht : TreeAt S w b t) (hc : t.cn 64) (hse : t.sees (nibs K.toList)) (hK : K.size = 32) (hKb : Bytes K) (hL : t.prove (textB (nibs K.toList)) = L) :
  Calls Tryz.prog 25 #[.pointer (some ⟨b, 0, none⟩), .agg (K.toList.map encB).toArray] w fun x w' => ∃ res, x = .returned (.tuple #[res, .int .i64 0]) /\ Fr B S S w w' /\ OwnC w' w.heap.size 1 res L.length (strs L) := by
 obtain ⟨p, F⟩ : ∃ p, textB (nibs K.toList) = p := ⟨_, rfl⟩
 obtain ⟨h, D, o⟩ := Qeg hK hKb
 rw [F] at h o hL
 have z : nib (bytesOf p) := by rw [h]; exact D
 have m : t.cn p.size := by rw [o]; exact hc
 obtain ⟨l, e, W, k, O⟩ := Qlf p.size t p (Nat.le_refl _) m
 obtain ⟨_, c⟩ := t.cn_ok p.size m (by omega)
 have C : ∀ g, e ≠ .stub g := fun g J => by
  have := k.sees c (by rw [h]; exact hse)
  rw [J] at this
  exact Qdx _ _ this
 have v : provL (l.map (·.1) ++ e.shownL) = L := by rw [k.ways 64 c (by omega)]; exact hL
 obtain ⟨Kc, d⟩ : ∃ Kc, (K.toList.map encB).toArray = Kc := ⟨_, rfl⟩
 obtain ⟨W0, f⟩ : ∃ W0, w.alloc (.cells Kc 42) = W0 := ⟨_, rfl⟩
 have q : W0.rangeAt w.heap.size 0 (K.toList.map encB) := fun j u P => by
  rw [<- f, Nat.zero_add, World.cell?_alloc_new, <- d]
  simpa using P
 have y : Below w.heap.size w W0 := by rw [<- f]; exact (Below.refl _ _).alloc (Nat.le_refl _) _
 have E : w.heap.size < W0.heap.size := by rw [<- f]; simp
 have a := Fr.of_below hf y.drew
 have r := Hq (Qk9 a.forest (a.tabs hf hTb hM) hM (ht.frame a) hK hKb F c z (by omega) k C (by omega) k.inner)
 rw [v] at r
 have H : Hid (Fr B S S w W0.drew /\ Forest B S w) := ⟨a, hf⟩
 have R : (Tryz.prog.info? 42).map (·.size) = some (K.toList.map encB).length := by rw [Qb4]; simp [hK]
 have Q := Tryz.underlying42
 have s : Hid (w.heap.size < W0.heap.size /\ S w.heap.size = none) := ⟨E, hf.fresh (Nat.le_refl _)⟩
 clear hf hTb hM ht hc hK hKb hL h D o z m k O C c v F hse y E a
 rw [d] at r ⊢
 go_enter Tryz.func25, Tryz.ntmps25
 go_upto_region 1 with fail
 clear f
 rw [<- d] at r
 clear d
 go_region_held3 (fun w' => w'.rangeAt w.heap.size 0 (K.toList.map encB)) (first | exact q | exact N)
  (first | (go_at_call 41; refine r.out.mono ?_; rintro x G ⟨res, rfl, n, i⟩; have N : G.rangeAt w.heap.size 0 (K.toList.map encB) := Qa4 q (n.other w.heap.size s.out.1 s.out.2); have I : Hid (Fr B S S w G /\ OwnC G w.heap.size 1 res L.length (strs L)) := ⟨H.out.1.trans n, i.mono H.out.1.size⟩; obtain ⟨V, U, T, rfl⟩ := i.shape; clear n i))
 all_goals go_wp2_with (go_at_call 30; refine (Qio _).mono ?_; rintro x X ⟨rfl, rfl⟩)
 all_goals go_ret2
 all_goals exact ⟨_, rfl, I.out⟩
theorem Qoa (hf : Forest B S w) (hTb : Tabs w) (hM : 15 <= B) (ht : TreeAt S w b t) (hc : t.cn 64) (hse : t.sees (nibs K.toList)) (hK : K.size = 32) (hKb : Bytes K) (hL : t.prove (textB (nibs K.toList)) = L) :
  Calls Tryz.prog 25 #[.pointer (some ⟨b, 0, none⟩), .agg (K.toList.map encB).toArray] w fun x w' => ∃ p c, x = .returned (.tuple #[.slice p L.length c, .int .i64 0]) /\ Fr B S S w w' /\ StrRow w' p (L.map textB) c /\ ∀ a, p = some a -> w.heap.size <= a.block /\ a.block < w'.heap.size := by
 refine (Qss hf hTb hM ht hc hse hK hKb hL).mono ?_
 rintro e w' ⟨l, rfl, h, f⟩
 obtain ⟨p, c, rfl, k, j⟩ := Qns f
 refine ⟨p, c, rfl, h, k, fun a d => ?_⟩
 obtain ⟨g, i⟩ := j (by rw [d]; rfl)
 rw [d] at i
 obtain rfl := Option.some.inj i
 exact f.block g (by rw [d]; rfl)
theorem Qwo : ∀ n ∈ nums, n ≠ 0 := by decide
theorem Er.num_pos : ∀ {e : Er}, e.simple -> e.num ≠ 0
 | .base n, h => Qwo n h
 | .place _ e, h => Er.num_pos (e := e) h
 | .noNode _, _ => (by show (8 : Nat) ≠ 0; omega)
 | .inNode _ e, h => Er.num_pos (e := e) h
 | .inProof _ e, h => Er.num_pos (e := e) h
variable {C : Nat} {ks vs : Value} {m : Mp}
theorem Kn.keepB {w' : World} (h : Kn w C ks vs m) (hs : w.heap.size <= w'.heap.size) (hb : ∀ k, k < w.heap.size -> (ks.ownBlock = some k \/ vs.ownBlock = some k) -> w'.heap[k]? = w.heap[k]?) : Kn w' C ks vs m :=
 ⟨h.keys.keep hs fun k hk e => hb k hk (.inl e), h.vals.keep hs fun k hk e => hb k hk (.inr e), h.ok, h.apart⟩
theorem Kn.lo (h : Kn w C ks vs m) {k : Nat} (hk : ks.ownBlock = some k \/ vs.ownBlock = some k) : C <= k /\ k < w.heap.size := by
 rcases hk with hk | hk
 ·exact h.keys.block k hk
 ·exact h.vals.block k hk
theorem Qzx : ∀ (n : Nat) (t : Nd) (r : ByteArray), t.cn r.size -> r.size <= 64 -> ∀ u ∈ t.ways n r, ∃ k, k <= 64 /\ u.cn k := by
 have d : ∀ (t : Nd) (k : Nat), k <= 64 -> t.cn k -> ∀ u ∈ t.shownL, ∃ k, k <= 64 /\ u.cn k := fun t k g b u a => by
  unfold Nd.shownL at a
  split at a
  ·cases a
  ·rw [List.mem_singleton] at a
   exact ⟨k, g, a ▸ b⟩
 intro n
 induction n with
 | zero => exact fun t r b c u a => d t _ c b u a
 | succ n ih =>
  intro t r b c u a
  rw [Nd.ways] at a
  split at a
  ·exact d t _ c b u a
  ·rename_i hno
   have h : (t.next r).1 ≠ .no := fun e => hno (Nd.isNo_iff.2 e)
   obtain ⟨_, _, i, _, _⟩ := Qle b h
   rcases List.mem_cons.1 a with rfl | a
   ·exact ⟨_, c, b⟩
   ·have f : (r.extract (t.next r).2 r.size).size = r.size - (t.next r).2 := Qa6 _ _
    exact ih _ _ (by rw [f]; exact i) (by omega) u a
variable {p : ByteArray}
theorem Qkk (hc : t.cn 64) (hp : p.size = 64) : ∀ c ∈ t.prove p, c.length <= 700 /\ ∀ y ∈ c, y < 256 := by
 intro c b
 have g : ∃ u ∈ t.ways 64 p, c = u.code := by
  unfold Nd.prove at b
  cases hw : t.ways 64 p with
  | nil => rw [hw] at b; cases b
  | cons a ts =>
   rw [hw] at b
   rcases List.mem_cons.1 b with rfl | b
   ·exact ⟨a, by simp, rfl⟩
   ·obtain ⟨u, e, rfl⟩ := List.mem_map.1 (List.mem_filter.1 b).1
    exact ⟨u, by simp [e], rfl⟩
 obtain ⟨u, e, rfl⟩ := g
 obtain ⟨k, f, d⟩ := Qzx 64 t p (by rw [hp]; exact hc) (by omega) u e
 exact ⟨Qne d f, u.code_byte (u.cn_ok k d f).1⟩
theorem Qzy : ∀ (n : Nat) (t : Nd) (r : ByteArray), (t.ways n r).length <= n + 1 := by
 have a : ∀ t : Nd, t.shownL.length <= 1 := fun t => by unfold Nd.shownL; split <;> simp
 intro n
 induction n with
 | zero => exact fun t r => a t
 | succ n ih =>
  intro t r
  rw [Nd.ways]
  split
  ·have := a t
   omega
  ·rw [List.length_cons]
   have := ih (t.next r).1 (r.extract (t.next r).2 r.size)
   omega
theorem Qm9 (t : Nd) (p : ByteArray) : (t.prove p).length <= 9223372036854775807 := by
 have h := Qzy 64 t p
 unfold Nd.prove
 cases hw : t.ways 64 p with
 | nil => simp [provL]
 | cons a ts =>
  rw [hw, List.length_cons] at h
  rw [provL, List.length_cons]
  have := List.length_filter_le (fun c : List Nat => decide (32 <= c.length)) (ts.map Nd.code)
  rw [List.length_map] at this
  omega
mutual
theorem Qkl : ∀ (t : Nd) (n : Nat) (s : List Nat), t.can n -> t.sees s
 | .no, _, s, _ => Qhx s
 | .leaf p v, _, s, _ => Qna p v s
 | .ext p t, n, s, h => by
  rw [Nd.can] at h
  rw [Qfh]
  exact fun _ => Qkl t _ _ h.2.2.2.1
 | .br ks, _, [], _ => Qhz ks
 | .br ks, n, x :: r, h => by
  rw [Nd.can] at h
  rw [Qhy]
  exact Qma ks _ x r h.2.2.1
 | .stub _, _, _, h => by rw [Nd.can] at h; exact h.elim
theorem Qma : ∀ (ks : List Nd) (n x : Nat) (r : List Nat), canAll ks n -> (ks.getD x .no).sees r
 | [], _, _, r, _ => Qhx r
 | t :: _, n, 0, r, h => by
  rw [canAll] at h
  exact Qkl t n r h.1
 | _ :: ks, n, x + 1, r, h => by
  rw [canAll] at h
  exact Qma ks n x r h.2
end
theorem QBv (h : t.can 64) : t.cn 64 := by
 have a := Qlq t 64 (by omega) h true []
 rw [Qih] at a
 exact Qy6 t 0 (by omega) (Qfm t 64 (by omega) h) a
variable {x y : ByteArray}
theorem Qst (hv : verF t.dig p (t.prove p) = .ok (t.get (bytesOf p))) (hby : ∀ c ∈ t.prove p, ∀ y ∈ c, y < 256) {l : List ByteArray} (h : verF t.dig p (l.map bytesOf) = .ok o) {b : Bool} (hx : exV (exF (orE (t.prove p)) (orE (l.map bytesOf))) = .tuple #[.string x, .string y, .bool b]) :
  o = t.get (bytesOf p) \/ collB x y b = true := by
 rcases Qyh hv h with e | ⟨u, v, e1, e2, e3⟩
 ·exact .inl e.symm
 ·right
  rw [e1] at hx
  have d : ∀ (M : List (List Nat)), (∀ c ∈ M, ∀ y ∈ c, y < 256) -> ∀ c ∈ orE M, ∀ y ∈ c, y < 256 := fun M m c f y k => by
   rw [orE] at f
   split at f
   ·rw [List.mem_singleton] at f
    subst f
    exact Qan (fun _ h => by cases h) y k
   ·exact m c f y k
  have i : ∀ (A B : List (List Nat)) u v, exF A B = some (u, v) -> u ∈ A /\ v ∈ B := by
   intro A
   induction A with
   | nil => intro B u v h; cases B <;> cases h
   | cons a A ih =>
    intro B u v h
    cases B with
    | nil => cases h
    | cons b B =>
     by_cases g : a = b
     ·subst g
      rw [QCx] at h
      have := ih B u v h
      exact ⟨List.mem_cons_of_mem _ this.1, List.mem_cons_of_mem _ this.2⟩
     ·rw [QCy g] at h
      cases h
      exact ⟨List.mem_cons_self .., List.mem_cons_self ..⟩
  obtain ⟨r, s⟩ := i _ _ _ _ e1
  have q := d _ hby u r
  have hv := d _ (Qvx l) v s
  simp only [exV, Value.tuple.injEq] at hx
  simp only [Array.mk.injEq, List.cons.injEq, Value.string.injEq, Value.bool.injEq, and_true] at hx
  obtain ⟨rfl, rfl, rfl⟩ := hx
  have n : (digF (textB u)).toList = (digF (textB v)).toList := e3
  have j : textB u ≠ textB v := fun e => e2 (by rw [<- Qh0 q, <- Qh0 hv, e])
  simp [collB, n, j, e3]
theorem Qr4 {q : Nd} (hc : t.can 64) (hq : q.cn 64) (hd : q.dig = t.dig) (hp : p.size = 64) (hnb : nib (bytesOf p)) (hse : q.sees (bytesOf p)) {b : Bool} (hx : exV (exF (orE (t.prove p)) (orE (((q.prove p).map textB).map bytesOf))) = .tuple #[.string x, .string y, .bool b]) :
  q.get (bytesOf p) = t.get (bytesOf p) \/ collB x y b = true := by
 have e : ((q.prove p).map textB).map bytesOf = q.prove p := by
  rw [List.map_map]
  conv => rhs; rw [<- List.map_id (q.prove p)]
  exact List.map_congr_left fun c hx => Qa5 (Qkk hq hp c hx).2
 have h := Qq6 hq hp hnb hse
 rw [hd] at h
 have d := QBv hc
 exact Qst (Qq6 d hp hnb (Qkl t 64 _ hc)) (fun c a => (Qkk d hp c a).2) (l := (q.prove p).map textB) (by rw [e]; exact h) hx
theorem Qsu (sent : Nat -> Addr) {bt bq : Nat} {q : Nd} (hFl : Faults w sent) (hTb : ∀ W, Fr B S S w W -> Tabs W) (hM : 15 <= B) (hf : Forest B S w) (ht : TreeAt S w bt t) (hq : TreeAt S w bq q) (hc : t.can 64) (hqc : q.cn 64) (hdg : q.dig = t.dig) (hg : t.get (nibs K.toList) = getN m (nibs K.toList)) (hk : Kn w C ks vs m) (hrow : ∀ k, (ks.ownBlock = some k \/ vs.ownBlock = some k) -> S k = none) (hm : m.length <= 1000) (hd : (m.map pth).Nodup) (hK : K.size = 32) (hKb : Bytes K) :
  Calls Tryz.prog 12 #[.agg #[ks, vs], .pointer (some ⟨bt, 0, none⟩), .pointer (some ⟨bq, 0, none⟩), .agg (K.toList.map encB).toArray] w fun e w' => e = .returned (.bool true) /\ Fr B S S w w' := by
 obtain ⟨pk, mk, P, rfl⟩ := hk.keys.shape
 obtain ⟨pv, mv, Q, rfl⟩ := hk.vals.shape
 have J : (Tryz.prog.info? 42).map (·.size) = some (K.toList.map encB).length := by rw [Qb4]; simp [hK]
 obtain ⟨E, h0, h1, az⟩ := Qhq w (.cells #[.slice pk mk P, .slice pv mv Q] 25) (.cells (K.toList.map encB).toArray 42)
 obtain ⟨W0, ak⟩ : ∃ W0, (w.alloc (.cells #[.slice pk mk P, .slice pv mv Q] 25)).alloc (.cells (K.toList.map encB).toArray 42) = W0 := ⟨_, rfl⟩
 rw [ak] at E h0 h1 az
 have I : W0.rangeAt (w.heap.size + 1) 0 (K.toList.map encB) := fun j v hv => by
  simp only [World.cell?, h1, Nat.zero_add]
  simpa using hv
 have i : Fr B S S w W0 := Fr.of_below hf E
 obtain ⟨o, ho⟩ : ∃ o, q.get (nibs K.toList) = o := ⟨_, rfl⟩
 have HG := Hq (Qzw sent (hFl.below E) i.forest (hq.frame i) hqc hK hKb ho)
 obtain ⟨H, ar, aa⟩ := Qeg hK hKb
 obtain ⟨L, R⟩ : ∃ L, q.prove (textB (nibs K.toList)) = L := ⟨_, rfl⟩
 obtain ⟨x, y, g, ac⟩ : ∃ x y g, exV (exF (orE (t.prove (textB (nibs K.toList)))) (orE ((L.map textB).map bytesOf))) = .tuple #[.string x, .string y, .bool g] := by
  cases exF (orE (t.prove (textB (nibs K.toList)))) (orE ((L.map textB).map bytesOf)) with
  | none => exact ⟨_, _, _, rfl⟩
  | some z => exact ⟨_, _, _, rfl⟩
 have HB : Hid (q.sees (nibs K.toList) -> ansB (getN m (nibs K.toList)) (o.getD ⟨#[]⟩) o.isSome = true \/ collB x y g = true) := fun f => by
  have h := Qr4 (x := x) (y := y) (b := g) hc hqc hdg aa (by rw [H]; exact ar) (by rw [H]; exact f) (by rw [R]; exact ac)
  rw [H, ho, hg] at h
  rcases h with h | h
  ·left
   rw [h]
   unfold ansB
   simp
  ·exact .inr h
 have aj : Hid (∀ W, Fr B S S w W -> q.sees (nibs K.toList) -> Calls Tryz.prog 25 #[.pointer (some ⟨bq, 0, none⟩), .agg (K.toList.map encB).toArray] W fun x w' => ∃ p c, x = .returned (.tuple #[.slice p L.length c, .int .i64 0]) /\ Fr B S S W w' /\ StrRow w' p (L.map textB) c /\ ∀ a, p = some a -> W.heap.size <= a.block /\ a.block < w'.heap.size) := fun W d f => Qoa d.forest (hTb W d) hM (hq.frame d) hqc f hK hKb R
 have b7 : ∀ z ∈ L.map textB, z.size <= 1048576 := fun z hz => by
  obtain ⟨c, ao, rfl⟩ := List.mem_map.1 hz
  rw [<- R] at ao
  have := (Qkk hqc aa c ao).1
  rw [Qaa]
  omega
 have ah : Hid (∀ W p c, Fr B S S w W -> StrRow W p (L.map textB) c -> (∀ a, p = some a -> S a.block = none) -> L.length <= 9223372036854775807 -> Calls Tryz.prog 26 #[.pointer (some ⟨bt, 0, none⟩), .agg (K.toList.map encB).toArray, .slice p L.length c] W fun e w' => e = .returned (.tuple #[.string x, .string y, .bool g]) /\ Fr B S S W w') := fun W p c d hr hn hl => by
  have := Qnu d.forest (hTb W d) hM (ht.frame d) hc hK hKb p (L.map textB) c hr hn (by rw [List.length_map]; exact hl) b7 rfl
  rw [List.length_map, ac] at this
  exact this
 have N : Hid (∀ W, Fr B S S w W -> Calls Tryz.prog 27 #[.string x, .string y, .bool g] W fun e w' => e = .returned (.bool (collB x y g)) /\ Below W.heap.size W w') := fun W d => Qlv x y g W (hTb W d) (Nat.le_trans hM d.forest.le)
 have D : Hid (∀ W, Fr B S S w W -> Calls Tryz.prog 28 #[.agg #[.slice pk mk P, .slice pv mv Q], .agg (K.toList.map encB).toArray, .string (o.getD ⟨#[]⟩), .bool o.isSome] W fun e w' => e = .returned (.bool (ansB (getN m (nibs K.toList)) (o.getD ⟨#[]⟩) o.isSome)) /\ Below W.heap.size W w') := fun W d => Qnr (hk.keepB d.size fun k bh hr => d.other k bh (hrow k hr)) hm hd hK hKb (o.getD ⟨#[]⟩) o.isSome rfl
 have bg : Hid (L.length <= 9223372036854775807) := by
  show L.length <= _
  rw [<- R]
  exact Qm9 q _
 have HX : Hid (Fr B S S w W0 /\ W0.heap.size = w.heap.size + 2 /\ W0.heap[w.heap.size]? = some (.cells #[.slice pk mk P, .slice pv mv Q] 25 (0, 0)) /\ W0.rangeAt (w.heap.size + 1) 0 (K.toList.map encB) /\ S w.heap.size = none /\ S (w.heap.size + 1) = none) := ⟨i, by omega, h0, I, hf.fresh (Nat.le_refl _), hf.fresh (by omega)⟩
 have O : Hid (∀ W, Fr B S S W0 W -> W.heap[w.heap.size]? = some (.cells #[.slice pk mk P, .slice pv mv Q] 25 (0, 0)) /\ W.rangeAt (w.heap.size + 1) 0 (K.toList.map encB)) := fun W d => by
  have hx := HX.out
  exact ⟨(d.other _ (by omega) hx.2.2.2.2.1).trans hx.2.2.1, Qa4 hx.2.2.2.1 (d.other _ (by omega) hx.2.2.2.2.2)⟩
 have ai : Hid (Forest B S w /\ Forest B S W0) := ⟨hf, i.forest⟩
 obtain ⟨an, T⟩ : ∃ z, ansB (getN m (nibs K.toList)) (o.getD ⟨#[]⟩) o.isSome = z := ⟨_, rfl⟩
 obtain ⟨cb, U⟩ : ∃ z, collB x y g = z := ⟨_, rfl⟩
 rw [T] at D
 rw [T, U] at HB
 rw [U] at N
 obtain ⟨ov, aq⟩ : ∃ v, o.getD ⟨#[]⟩ = v := ⟨_, rfl⟩
 obtain ⟨ob, ap⟩ : ∃ v, o.isSome = v := ⟨_, rfl⟩
 rw [aq, ap] at D HG
 clear hFl hTb hM hf ht hq hc hqc hdg hg hk hrow hm hd hK hKb E h0 h1 az i ho H ar aa R ac b7 T U aq ap
 go_enter Tryz.func12, Tryz.ntmps12
 go_wp2_with (refine wpList_load_mid rfl 42 _ rfl (w.heap.size + 1) 0 rfl (K.toList.map encB) _ I Tryz.underlying42 rfl J ?_)
 clear ak
 refine HG.out.mono ?_
 rintro e w1 ⟨⟨rfl, f⟩ | rfl, F⟩
 ·have G : Fr B S S W0 w1 := Fr.of_below ai.out.2 F
  have n := HX.out.1.trans G
  have HP := Hq (aj.out w1 n f)
  obtain ⟨-, aw⟩ := O.out w1 G
  have H1 : Hid (Fr B S S W0 w1 /\ Fr B S S w w1 /\ (an = true \/ cb = true)) := ⟨G, n, HB.out f⟩
  clear G n F f I HG HB aj
  go_wp2_with (refine wpList_load_mid rfl 42 _ rfl (w.heap.size + 1) 0 rfl (K.toList.map encB) _ aw Tryz.underlying42 rfl J ?_)
  refine HP.out.mono ?_
  rintro e w2 ⟨p, c, rfl, X, ba, au⟩
  have r := H1.out.2.1.trans X
  have ag := Hq (ah.out w2 p c r ba (fun a ha => H1.out.2.1.forest.fresh (au a ha).1) bg.out)
  have l := H1.out.1.trans X
  obtain ⟨-, ax⟩ := O.out w2 l
  have H2 : Hid (Fr B S S W0 w2 /\ Fr B S S w w2) := ⟨l, r⟩
  clear X ba au r l aw HP ah
  go_wp2_with (refine wpList_load_mid rfl 42 _ rfl (w.heap.size + 1) 0 rfl (K.toList.map encB) _ ax Tryz.underlying42 rfl J ?_)
  refine ag.out.mono ?_
  rintro e w3 ⟨rfl, Y⟩
  have s := H2.out.2.trans Y
  have ae := Hq (N.out w3 s)
  have H3 : Hid (Fr B S S W0 w3 /\ Fr B S S w w3) := ⟨H2.out.1.trans Y, s⟩
  clear Y s ax ag N
  go_wp2_with fail
  refine ae.out.mono ?_
  rintro e w4 ⟨rfl, al⟩
  have Z := Fr.of_below H3.out.2.forest al
  have u := H3.out.2.trans Z
  have V := H3.out.1.trans Z
  obtain ⟨bc, ay⟩ := O.out w4 V
  obtain ⟨c0, c1, -⟩ := Qa7 bc
  have bf := Hq (D.out w4 u)
  have H4 := Hq u
  clear al Z u V bc ae D
  go_wp2_with (refine wpList_load_mid rfl 42 _ rfl (w.heap.size + 1) 0 rfl (K.toList.map encB) _ ay Tryz.underlying42 rfl J ?_)
  refine bf.out.mono ?_
  rintro e w5 ⟨rfl, am⟩
  have HE : Hid (Fr B S S w w5) := H4.out.trans (Fr.of_below H4.out.forest am)
  clear am ay c0 c1
  cases an with
  | true =>
   go_wp2
   go_ret
   exact ⟨rfl, HE.out⟩
  | false =>
   obtain rfl : cb = true := by
    rcases H1.out.2.2 with h | h
    ·cases h
    ·exact h
   go_wp2
   go_ret
   exact ⟨rfl, HE.out⟩
 ·have HE : Hid (Fr B S S w w1) := HX.out.1.trans (Fr.of_below ai.out.2 F)
  clear F I
  go_wp2
  go_ret
  exact ⟨rfl, HE.out⟩
end Go.Proofs.YtakidhihbgfjlaaGreatDoor
