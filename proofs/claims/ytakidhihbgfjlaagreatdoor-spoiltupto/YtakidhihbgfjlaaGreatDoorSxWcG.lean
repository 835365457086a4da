/-
  Witnesses: (wanted).behind.
-/
import Derived.Test.YtakidhihbgfjlaaGreatDoorSxWaG
import Derived.Test.YtakidhihbgfjlaaGreatDoorSxSbG
import Derived.Test.YtakidhihbgfjlaaGreatDoorSxVaG
import Derived.Laws.BitsAllLaws
import Derived.Test.YtakidhihbgfjlaaGreatDoorSxFkG
import Derived.Test.YtakidhihbgfjlaaGreatDoorSxAccH
import Derived.Test.YtakidhihbgfjlaaGreatDoorSxVbG
namespace Go.Proofs.YtakidhihbgfjlaaGreatDoor
open Go.RowKit
set_option maxRecDepth 100000
set_option maxHeartbeats 25600000
theorem Qw3 (a : List ByteArray) (x q : ByteArray) : behP (a ++ [x]) q = behP a q ++ (if begins q x then [x.extract q.size x.size] else []) := by
 unfold behP
 rw [List.filterMap_append, List.filterMap_cons, List.filterMap_nil]
 by_cases h : begins q x
 ·rw [if_pos h, if_pos h]
 ·rw [if_neg h, if_neg h]
theorem Qm5 (a : List ByteArray) (q : ByteArray) : (behP a q).length <= a.length := List.length_filterMap_le ..
structure BhS (W1 : World) (lb : Nat) (all : Bool) (l : List ByteArray) (W : World) : Prop where
 only : Only lb W1 W
 row : ∃ v, OwnC W W1.heap.size 1 v l.length (l.map Value.string) /\ W.heap[lb]? = some (.cells #[.bool all, v] 80 (0, 0))
theorem Qqy {all : Bool} {pp : Option Addr} {ps : List ByteArray} {cc : Nat} (q : ByteArray) (w : World) (hr : StrRow w pp ps cc) (hl : ps.length <= 1000000) :
  Calls Tryz.prog 125 #[.agg #[.bool all, .slice pp ps.length cc], .string q] w fun e w' => ∃ p' c', e = .returned (.agg #[.bool all, .slice p' (behP ps q).length c']) /\ StrRow w' p' (behP ps q) c' /\ (∀ a, p' = some a -> w.heap.size <= a.block /\ a.block < w'.heap.size) /\ Below w.heap.size w w' := by
 obtain ⟨i0, hi, ao, ap, aq⟩ := info_parts strZ
 have HR : Hid (StrRow w pp ps cc /\ ps.length <= 1000000) := ⟨hr, hl⟩
 clear hr hl
 go_enter Tryz.func125, Tryz.ntmps125
 go_upto_region 2 with fail
 obtain ⟨V, aa, K, L, s⟩ := QD6 w (Obj.cells #[Value.bool all, Value.slice pp ps.length cc] 80) (Obj.cells #[Value.bool false, Value.slice none 0 0] 80) (Obj.cells #[Value.bool all, Value.slice none 0 0] 80)
 generalize World.alloc _ (Obj.cells #[Value.bool all, Value.slice none 0 0] 80) = W1 at V aa K L s ⊢
 obtain ⟨f, I⟩ : ∃ x, w.heap.size + 1 + 1 = x := ⟨_, rfl⟩
 obtain ⟨l, B⟩ : ∃ x, w.heap.size + 1 = x := ⟨_, rfl⟩
 rw [I] at L s ⊢
 rw [B] at K ⊢
 have C : Hid (Below w.heap.size w W1 /\ W1.heap.size = f + 1 /\ l < f /\ w.heap.size < l /\ W1.heap[l]? = some (.cells #[.bool false, .slice none 0 0] 80 (0, 0))) := ⟨V, s, by omega, by omega, K⟩
 have ae : Hid (BhS W1 f all [] W1) := ⟨⟨rfl, rfl, rfl, Nat.le_refl _, fun _ _ _ => rfl⟩, .slice none 0 0, OwnC.nil _ _ _, L⟩
 obtain ⟨c0, c1, -⟩ := Qa7 aa
 clear V aa K L s I B
 go_wp2
 clear c0 c1
 go_loopg [16] ps.length (fun gh i wr => ∃ x : Nat, x <= ps.length /\ gh = ps.length - x /\ i = .int .i64 (x : Int) /\ BhS W1 f all (behP (ps.take x) q) wr)
 case atStart => exact ⟨0, by omega, rfl, rfl, by simpa [behP] using ae.out⟩
 case round =>
  obtain ⟨x, hx, rfl, rfl, y⟩ := hrel
  by_cases r : x < ps.length
  ·have i1 : (x : Int) < (ps.length : Int) := by omega
   obtain ⟨z, hz⟩ : ∃ z, ps[x] = z := ⟨_, rfl⟩
   obtain ⟨g, o, rfl, ac⟩ : ∃ g o, pp = some ⟨g, o, none⟩ /\ wr.cell? ⟨g, o + x, none⟩ = some (.string z) := by
    rcases HR.out.1 with ⟨-, h, -⟩ | ⟨g, o, d, -, h3, h4⟩
    ·rw [h] at r; simp at r
    ·refine ⟨g, o, d, ?_⟩
     have hg := h3 (by omega)
     have := h4 x (.string z) (by rw [List.getElem?_map, List.getElem?_eq_getElem r, hz]; rfl)
     have al : g < W1.heap.size := Nat.lt_of_lt_of_le hg C.out.1.size
     rw [World.cell?_of_block (a := ⟨g, o + x, none⟩) (y.only.block g al (by have := C.out; omega)), World.cell?_of_block (a := ⟨g, o + x, none⟩) (C.out.1.block g hg)]
     exact this
   obtain ⟨v, O, P⟩ := y.row
   obtain ⟨R, Q, N, rfl⟩ := O.shape
   obtain ⟨c0, c1, f0, f1⟩ := Qa7 P
   have ah : behP (ps.take (x + 1)) q = behP (ps.take x) q ++ (if begins q z then [z.extract q.size z.size] else []) := by
    rw [List.take_add_one, List.getElem?_eq_getElem r, hz]
    exact Qw3 _ _ _
   obtain ⟨E, X⟩ : ∃ c, cutS q z = c := ⟨_, rfl⟩
   have m := Hq (fun W => Qz2 z q W)
   rw [X] at m
   have M := Hq y
   have HO : Hid (OwnC wr W1.heap.size 1 (.slice R Q N) (behP (ps.take x) q).length ((behP (ps.take x) q).map Value.string) /\ wr.heap[f]? = some (.cells #[.bool all, .slice R Q N] 80 (0, 0))) := ⟨O, P⟩
   have n : Hid (x < ps.length /\ behP (ps.take (x + 1)) q = behP (ps.take x) q ++ (if begins q z then [z.extract q.size z.size] else []) /\ cutS q z = E /\ (behP (ps.take x) q).length <= 1000000) := ⟨r, ah, X, by have := Qm5 (ps.take x) q; rw [List.length_take] at this; have := HR.out.2; omega⟩
   clear y O P hz ah r hx X ae
   by_cases p : begins q z
   ·rw [decide_eq_true p] at m
    have HE : Hid (behP (ps.take (x + 1)) q = behP (ps.take x) q ++ [E]) := by
     have d := n.out.2.1
     have u := n.out.2.2.1
     rw [cutS, if_pos p] at u
     rw [if_pos p, u] at d
     exact d
    have HL : Hid (W1.heap.size <= wr.heap.size) := M.out.only.size
    have aj : Hid (∀ t, (wr.alloc (.cells #[.string E] t)).rangeAt wr.heap.size 0 [.string E]) := fun t => Qap wr [.string E] t
    have j : Hid (∀ o v2 H, OwnC H W1.heap.size 1 v2 ((behP (ps.take x) q).length + 1) ((behP (ps.take x) q).map Value.string ++ [.string E]) -> (wr.alloc o).grownBy H (Value.ownBlock (.slice R Q N)) -> H.heap[f]? = wr.heap[f]? /\ ∀ w5, w5.heap[f]? = some (.cells #[.bool all, v2] 80 (0, 0)) -> Only f H w5 -> BhS W1 f all (behP (ps.take (x + 1)) q) w5) := fun o v2 H d u => by
     have I : f < wr.heap.size := (Array.getElem?_eq_some_iff.1 HO.out.2).1
     have Z : (wr.alloc o).heap.size = wr.heap.size + 1 := by simp
     have ar := u.size
     have b : ∀ k, k < wr.heap.size -> Value.ownBlock (.slice R Q N) ≠ some k -> H.heap[k]? = wr.heap[k]? := fun k F J => (u.block k (by omega) (fun e => J e.symm)).trans (((Below.refl _ _).alloc (Nat.le_refl _) o).block k F)
     have J : ∀ k, k < W1.heap.size -> Value.ownBlock (.slice R Q N) ≠ some k := fun k F e => by have := (HO.out.1.block k e).1; omega
     refine ⟨b f I (J f (by have := C.out; omega)), fun w5 h5 G => ⟨⟨G.os.trans (u.os.trans M.out.only.os), G.tape.trans (u.tape.trans M.out.only.tape), G.output.trans (u.output.trans M.out.only.output), by have := G.size; have := HL.out; omega, fun k F hn => (G.block k (by have := HL.out; omega) hn).trans ((b k (by have := HL.out; omega) (J k F)).trans (M.out.only.block k F hn))⟩, v2, ?_, h5⟩⟩
     rw [HE.out, List.length_append, List.map_append]
     exact d.keep G.size fun k F hv => G.block k F fun e => by have := (d.block k hv).1; have := C.out; omega
    clear p
    go_upto_region 7 with (go_at_call 176; refine (m.out _).mono ?_; rintro e wq ⟨rfl, D⟩; rw [D]; clear D wq)
    clear ac
    go_wp2_with (at_builtin; refine Qah _ rfl _ _ 23 rfl 9 i0 (.string ⟨#[]⟩) 1 16 Tryz.underlying23 hi ao ap aq rfl (by decide) W1.heap.size (.slice R Q N) _ _ rfl (HO.out.1.alloc _) wr.heap.size 0 1 1 [.string E] rfl rfl (aj.out _) (by simp [Value.oneCell']) (by have := n.out; unfold maxLen; omega) (by have := n.out; omega) (by have := HL.out; simp; omega) ?_; intro v2 H T ag ak am; obtain ⟨p2, m2, k2, rfl⟩ := T.shape; have S := j.out _ _ _ T ag; have U := S.1.trans HO.out.2; obtain ⟨d0, d1, g0, g1⟩ := Qa7 U; obtain ⟨Z, s⟩ := Qqx U (.slice p2 m2 k2); have ai := Hq (S.2 _ Z s); clear T ag ak am S U Z s)
    go_roundg (ps.length - (x + 1))
    case measure => have := n.out.1; omega
    case rel => exact ⟨x + 1, by have := n.out.1; omega, rfl, Qas (Qeu x 1 (by have := n.out.1; have := HR.out.2; omega)), ai.out⟩
   ·rw [decide_eq_false p] at m
    have HE : Hid (behP (ps.take (x + 1)) q = behP (ps.take x) q) := by
     have d := n.out.2.1
     rw [if_neg p, List.append_nil] at d
     exact d
    have j : Hid (BhS W1 f all (behP (ps.take (x + 1)) q) wr) := by rw [HE.out]; exact M.out
    clear p
    go_wp2_with (go_at_call 176; refine (m.out _).mono ?_; rintro e wq ⟨rfl, D⟩; rw [D]; clear D wq)
    go_roundg (ps.length - (x + 1))
    case measure => have := n.out.1; omega
    case rel => exact ⟨x + 1, by have := n.out.1; omega, rfl, Qas (Qeu x 1 (by have := n.out.1; have := HR.out.2; omega)), j.out⟩
  ·obtain rfl : x = ps.length := by omega
   rw [List.take_length] at y
   obtain ⟨v, O, P⟩ := y.row
   obtain ⟨p', c', rfl, hn, Y, b⟩ := O.texts
   obtain ⟨c0, c1, f0, f1⟩ := Qa7 P
   have B : wr.heap[l]? = some (.cells #[.bool false, .slice none 0 0] 80 (0, 0)) := (y.only.block l (by have := C.out; omega) (by have := C.out; omega)).trans C.out.2.2.2.2
   obtain ⟨d0, d1, g0, g1⟩ := Qa7 B
   obtain ⟨q1, q2⟩ := Qej B (.bool all) (.slice p' (behP ps q).length c')
   obtain ⟨e0, e1, -⟩ := Qa7 q1
   have j : Hid (StrRow ((wr.setCell ⟨l, 0, none⟩ (.bool all)).setCell ⟨l, 1, none⟩ (.slice p' (behP ps q).length c')) p' (behP ps q) c' /\ (∀ a, p' = some a -> w.heap.size <= a.block /\ a.block < ((wr.setCell ⟨l, 0, none⟩ (.bool all)).setCell ⟨l, 1, none⟩ (.slice p' (behP ps q).length c')).heap.size) /\ Below w.heap.size w ((wr.setCell ⟨l, 0, none⟩ (.bool all)).setCell ⟨l, 1, none⟩ (.slice p' (behP ps q).length c'))) := by
    have h0 := C.out
    have hs := y.only.size
    refine ⟨?_, fun a ha => ?_, q2.below (y.only.below h0.1 (by omega) h0.1.size) (by omega) (by omega)⟩
    ·rcases Y with h | ⟨g, o, d, u, h3, h4⟩
     ·exact .inl h
     ·have := (b _ d).1
      exact .inr ⟨g, o, d, u, fun h => Nat.lt_of_lt_of_le (h3 h) q2.size, Qa4 h4 (q2.block g (b _ d).2 (by simp only at this; omega))⟩
    ·have := b a ha
     have := q2.size
     omega
   clear y O P hn Y b B q1 q2 hx r
   generalize hww : (wr.setCell ⟨l, 0, none⟩ (.bool all)).setCell ⟨l, 1, none⟩ (.slice p' (behP ps q).length c') = ww at j e0 e1
   go_wp2
   refine bodyPost_ret (v := .agg #[.bool all, .slice p' (behP ps q).length c']) (by simp [results, Tryz.results125, go_sem, e0, e1]) rfl ?_
   exact ⟨_, _, rfl, j.out⟩
structure Ap (w0 : World) (C : Nat) (v : Value) (l : List Nat) (z : Nat) (l3 : List Nat) (b0 b1 b2 b3 b4 : Bool) (v1 v2 v3 v4 : Value) (W : World) : Prop where
 d4 : b4 = true -> b3 = true
 d3 : b3 = true -> b2 = true
 d2 : b2 = true -> b0 = true /\ b1 = true
 one : b2 = false -> Below w0.heap.size w0 W
 lay : b1 = true -> b2 = false -> ∃ g, v1 = .slice (some ⟨g, 0, none⟩) 1 1 /\ g < W.heap.size /\ W.cell? ⟨g, 0, none⟩ = some (encB z)
 two : b2 = true -> b3 = false -> Grew w0 W C v v2 (l ++ [z])
 three : b3 = true -> Grew w0 W C v v3 (l ++ z :: l3)
 four : b4 = true -> Grew w0 W C v v4 (l ++ z :: l3)
variable {w0 : World} {C : Nat} {v : Value} {l : List Nat} {z : Nat} {l3 : List Nat} {b0 b1 b2 b3 b4 : Bool} {v1 v2 v3 v4 : Value} {W : World}
theorem Ap.start (h : Below w0.heap.size w0 W) (h0 : b0 = false) (h1 : b1 = false) (h2 : b2 = false) (h3 : b3 = false) (h4 : b4 = false) : Ap w0 C v l z l3 b0 b1 b2 b3 b4 v1 v2 v3 v4 W := by
 subst h0 h1 h2 h3 h4
 exact ⟨fun q => (by cases q), fun q => (by cases q), fun q => (by cases q), fun _ => h, fun q => (by cases q), fun q => (by cases q), fun q => (by cases q), fun q => (by cases q)⟩
theorem Ap.m0 (h : Ap w0 C v l z l3 b0 b1 b2 b3 b4 v1 v2 v3 v4 W) : Ap w0 C v l z l3 true b1 b2 b3 b4 v1 v2 v3 v4 W := ⟨h.d4, h.d3, fun q => ⟨rfl, (h.d2 q).2⟩, h.one, h.lay, h.two, h.three, h.four⟩
theorem Ap.no2 (h : Ap w0 C v l z l3 b0 b1 b2 b3 b4 v1 v2 v3 v4 W) (h0 : b0 = false \/ b1 = false) : b2 = false := by
 cases hq : b2 with
 | false => rfl
 | true => have := h.d2 hq; rcases h0 with e | e <;> simp [e] at this
theorem Ap.no3 (h : Ap w0 C v l z l3 b0 b1 b2 b3 b4 v1 v2 v3 v4 W) (h0 : b2 = false) : b3 = false := by
 cases hq : b3 with
 | false => rfl
 | true => have := h.d3 hq; simp [h0] at this
theorem Ap.no4 (h : Ap w0 C v l z l3 b0 b1 b2 b3 b4 v1 v2 v3 v4 W) (h0 : b3 = false) : b4 = false := by
 cases hq : b4 with
 | false => rfl
 | true => have := h.d4 hq; simp [h0] at this
theorem Ap.mk1 (h : Ap w0 C v l z l3 b0 b1 b2 b3 b4 v1 v2 v3 v4 W) (h1 : b1 = false) : Ap w0 C v l z l3 b0 true b2 b3 b4 (.slice (some ⟨W.heap.size, 0, none⟩) 1 1) v2 v3 v4 (W.alloc (.cells #[.int .u8 (z : Int)] 5)) := by
 have a := h.no2 (.inr h1)
 subst a
 have b := h.no3 rfl
 subst b
 have c := h.no4 rfl
 subst c
 refine ⟨h.d4, h.d3, fun q => (by cases q), fun _ => (h.one rfl).trans (((Below.refl _ _).alloc (Nat.le_refl _) _).mono (h.one rfl).size), fun _ _ => ⟨_, rfl, by simp, World.cell?_alloc_new W #[.int .u8 (z : Int)] 5 0⟩, fun q => (by cases q), fun q => (by cases q), fun q => (by cases q)⟩
theorem Ap.app {W' : World} {v' : Value} (h : Ap w0 C v l z l3 b0 b1 b2 b3 b4 v1 v2 v3 v4 W) (h0 : b0 = true) (h1 : b1 = true) (h2 : b2 = false) (g : Grew W W' C v v' (l ++ [z])) : Ap w0 C v l z l3 b0 b1 true b3 b4 v1 v' v3 v4 W' := by
 subst h2
 have a := h.no3 rfl
 subst a
 have b := h.no4 rfl
 subst b
 exact ⟨h.d4, fun q => (by cases q), fun _ => ⟨h0, h1⟩, fun q => (by cases q), fun _ q => (by cases q), fun _ _ => g.after (h.one rfl), fun q => (by cases q), fun q => (by cases q)⟩
theorem Ap.last {W' : World} {v' : Value} (h : Ap w0 C v l z l3 b0 b1 b2 b3 b4 v1 v2 v3 v4 W) (h2 : b2 = true) (h3 : b3 = false) (g : Grew W W' C v2 v' (l ++ z :: l3)) : Ap w0 C v l z l3 b0 b1 b2 true b4 v1 v2 v' v4 W' := by
 subst h3 h2
 have a := h.no4 rfl
 subst a
 exact ⟨fun _ => rfl, fun _ => rfl, h.d2, fun q => (by cases q), fun _ q => (by cases q), fun _ q => (by cases q), fun _ => (h.two rfl rfl).trans g, fun q => (by cases q)⟩
theorem Ap.asg (h : Ap w0 C v l z l3 b0 b1 b2 b3 b4 v1 v2 v3 v4 W) (h3 : b3 = true) : Ap w0 C v l z l3 b0 b1 b2 b3 true v1 v2 v3 v3 W := ⟨fun _ => h3, h.d3, h.d2, h.one, h.lay, h.two, h.three, fun _ => h.three h3⟩
theorem Ap.block (h : Ap w0 C v l z l3 b0 b1 b2 b3 b4 v1 v2 v3 v4 W) {k : Nat} (hk : k < w0.heap.size) (hv : v.ownBlock ≠ some k) : W.heap[k]? = w0.heap[k]? := by
 cases hb2 : b2 with
 | false => exact (h.one hb2).block k hk
 | true =>
  cases hb3 : b3 with
  | false => exact (h.two hb2 hb3).grown.block k hk fun e => hv e.symm
  | true => exact (h.three hb3).grown.block k hk fun e => hv e.symm
theorem Ap.own (h : Ap w0 C v l z l3 b0 b1 b2 b3 b4 v1 v2 v3 v4 W) (h2 : b2 = false) (ho : Own w0 C v l) : Own W C v l := ho.keep (h.one h2).size fun k hk _ => (h.one h2).block k hk
variable {o : Oper}
theorem Qbc {P : Program} (w : World) {a : Act} {K : Act -> World -> Prop} {Q : Exit -> Act -> World -> Prop} (s x : Operand) (t : TypeId)
  (ho : o.op = .call { callee := .builtin .append, args := #[s, x], argTypes := #[t, t] })
  (e : TypeId) (i : TypeInfo) (ht : P.underlying t = some (.slice e)) (hi : P.info? e = some i) (hz : i.zero = some (.int .u8 0)) (hsize : i.size = 1) (hby : i.bytes = 1)
  (B : Nat) (v : Value) (l : List Nat) (hs : a.eval s = v) (hown : Own w B v l) (b p c : Nat) (news : List Nat) (hx : a.eval x = .slice (some ⟨b, p, none⟩) news.length c)
  (hnews : ∀ j, j < news.length -> w.cell? ⟨b, p + j, none⟩ = some (encB news[j]!)) (hb : l.length + news.length <= 140737488355328) (hB : B <= w.heap.size)
  (hK : ∀ v' w', Grew w w' B v v' (l ++ news) -> K (a.put o.dst v') w') : Oper.wp P o a w K Q := by
 obtain ⟨v', w', d, f⟩ := Qci (P := P) w t o.type e i ht hi hz hsize hby B v l hown b p c news hnews hb hB
 unfold Oper.wp
 simp [execOp, ho, resolve, invoke, builtin, hs, hx, d, Result.andThen]
 exact hK v' w' f
theorem Qj0 {P : Program} (w : World) {a : Act} {K : Act -> World -> Prop} {Q : Exit -> Act -> World -> Prop} (s x : Operand) (t u : TypeId)
  (ho : o.op = .call { callee := .builtin .append, args := #[s, x], argTypes := #[t, u] })
  (e : TypeId) (i : TypeInfo) (ht : P.underlying t = some (.slice e)) (hu : P.underlying u = some .string) (hi : P.info? e = some i) (hz : i.zero = some (.int .u8 0)) (hsize : i.size = 1) (hby : i.bytes = 1)
  (B : Nat) (v : Value) (l : List Nat) (hs : a.eval s = v) (hown : Own w B v l) (z : ByteArray) (hx : a.eval x = .string z) (hb : l.length + z.size <= 140737488355328) (hB : B <= w.heap.size)
  (hK : ∀ v' w', Grew w w' B v v' (l ++ bytesOf z) -> K (a.put o.dst v') w') : Oper.wp P o a w K Q := by
 obtain ⟨v', w', b, c⟩ := Qdw (P := P) w t u o.type e i ht hu hi hz hsize hby B v l hown z hb hB
 unfold Oper.wp
 simp [execOp, ho, resolve, invoke, builtin, hs, hx, b, Result.andThen]
 exact hK v' w' c
theorem Qe5 (w : World) (z : Nat) : (Instr.buildSlice 41 1 #[(0, .int .u8 (z : Int))]).run Tryz.prog w = .ok (.slice (some ⟨w.heap.size, 0, none⟩) 1 1) (w.alloc (.cells #[.int .u8 (z : Int)] 5)) := by
 obtain ⟨i, b, c, a, d⟩ := info_parts Qc8
 refine run_buildSlice w _ 5 1 _ #[.int .u8 (z : Int)] i (.int .u8 0) Tryz.underlying41 b c (by rw [a]; decide) (by rw [a]; decide) ?_
 rw [a]
 have := Great.fill_whole (s := 1) (by decide) [.int .u8 (z : Int)] ((Array.range (1 * 1)).map ((Value.int .u8 0).cells[· % (Value.int .u8 0).cells.size]!)) (by simp [Value.cells]) (by simp)
 simpa [Value.cells] using this
theorem Qco {a : Act} {w : World} {K : Act -> World -> Prop} {Q : Exit -> Act -> World -> Prop} (x : Operand) (z : Nat) (ho : o.op = .buildSlice 41 1 #[(0, x)]) (hx : a.eval x = .int .u8 (z : Int)) (hK : K (a.put o.dst (.slice (some ⟨w.heap.size, 0, none⟩) 1 1)) (w.alloc (.cells #[.int .u8 (z : Int)] 5))) : Oper.wp Tryz.prog o a w K Q := by
 have h := Qe5 w z
 unfold Oper.wp execOp
 simp only [ho, List.map_toArray, List.map_cons, List.map_nil, hx, Sem.run_bind, h, Result.andThen_ok]
 exact hK
theorem xor8 (a b : Nat) (ha : a < 256) (hb : b < 256) : ∃ z : Nat, z < 256 /\ bits .xor .u8 (a : Int) (b : Int) = (z : Int) := ⟨a ^^^ b, Nat.xor_lt_two_pow (n := 8) ha hb, u8_xor_nat a b ha hb⟩
theorem Qo7 (k : Nat) (h : k < 9223372036854775807) : IntKind.i64.wrap ((k : Int) + 1) = (k : Int) + 1 := by
 simp only [IntKind.wrap, show IntKind.i64.signed = true from rfl, show (2 : Int) ^ IntKind.i64.bits = 18446744073709551616 from rfl, show (2 : Int) ^ (IntKind.i64.bits - 1) = 9223372036854775808 from rfl, Bool.true_and]
 split <;> rename_i h <;> simp at h <;> omega
theorem Qz3 (r : Nat) (h : r < 255) : IntKind.i64.wrap (1 + (r : Int)) = 1 + (r : Int) /\ IntKind.u8.wrap (1 + (r : Int)) = 1 + (r : Int) := by
 constructor
 ·have := Qo7 r (by omega)
  rw [Int.add_comm] at this
  exact this
 ·have := Ql8 (c := 1 + r) (by omega)
  simpa using this
theorem Qs6 {W : World} {b n : Nat} {l : List Nat} (hb : W.rangeAt b 0 (l.map encB)) (hn : n = l.length) : Sem.run Tryz.prog (convert 41 9 (.slice (some ⟨b, 0, none⟩) n n)) W = .ok (.string (textB l)) W :=
 Qek (P := Tryz.prog) W 41 9 5 Tryz.underlying41 Tryz.underlying5 Tryz.underlying9 hb n n hn
def noDstBut (ops : Array Oper) (k j : Nat) : Bool := (List.range ops.size).all fun i => i == k || decide (dstOf ops i ≠ some j)
theorem Qo8 {ops : Array Oper} {listed : Array Bool} {j k : Nat} (h : noDstBut ops k j = true) (hk : listed.getD k false = false) : ∀ i, listed.getD i false = true -> dstOf ops i ≠ some j := by
 intro i c b
 have a : i < ops.size := by
  by_cases a : i < ops.size
  ·exact a
  ·unfold dstOf at b
   rw [Array.getElem?_eq_none (by omega)] at b
   cases b
 have := List.all_eq_true.1 h i (List.mem_range.2 a)
 simp only [Bool.or_eq_true, beq_iff_eq, decide_eq_true_eq] at this
 rcases this with rfl | h2
 ·rw [hk] at c; cases c
 ·exact h2 b
end Go.Proofs.YtakidhihbgfjlaaGreatDoor
