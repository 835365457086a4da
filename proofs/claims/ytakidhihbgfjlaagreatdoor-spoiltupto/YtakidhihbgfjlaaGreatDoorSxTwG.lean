/-
  Witnesses: Witness of some keys: a row of keys becomes a row of paths.
-/
import Derived.Test.YtakidhihbgfjlaaGreatDoorSxWeG
import Derived.Test.YtakidhihbgfjlaaGreatDoorSxGqG
import Derived.Test.YtakidhihbgfjlaaGreatDoorSxBvG
import Derived.Test.YtakidhihbgfjlaaGreatDoorSxOdG
import Derived.Test.YtakidhihbgfjlaaGreatDoorSxSaG
import Derived.Test.YtakidhihbgfjlaaGreatDoorSxRtG
import Derived.Test.YtakidhihbgfjlaaGreatDoorSxGbG
namespace Go.Proofs.YtakidhihbgfjlaaGreatDoor
open Go.RowKit
set_option maxRecDepth 100000
set_option maxHeartbeats 25600000
def KeyRow (w : World) (p : Option Addr) (l : List (Array Nat)) (c : Nat) : Prop :=
 (∀ K ∈ l, K.size = 32 /\ Bytes K) /\ (l = [] \/ ∃ g o, p = some ⟨g, o, none⟩ /\ l.length <= c /\ g < w.heap.size /\ ∀ j (h : j < l.length), w.rangeAt g (o + j * 32) (l[j].toList.map encB))
def keyP (K : Array Nat) : ByteArray := textB (nibs K.toList)
variable {w : World}
theorem Kn.keyRow {C : Nat} {p : Option Addr} {n c : Nat} {vs : Value} {m : List (Array Nat × ByteArray)} (h : Kn w C (.slice p n c) vs m) : KeyRow w p (m.map (·.1)) c := by
 refine ⟨fun K d => ?_, ?_⟩
 ·obtain ⟨x, a, rfl⟩ := List.mem_map.1 d
  exact ⟨(h.ok x a).1, (h.ok x a).2.1⟩
 ·rcases h.keys.2 with ⟨_, h0⟩ | ⟨g, cap, e, h1, h2, h3, h4, h5, h6⟩
  ·left
   rw [List.map_eq_nil_iff]
   exact List.eq_nil_of_length_eq_zero h0
  ·cases e
   refine .inr ⟨g, 0, rfl, by simpa using h3, h2, fun j f => ?_⟩
   obtain ⟨l, b, e, -, k⟩ := h.key (i := j) (by simpa using f)
   cases e
   rw [Nat.zero_add]
   simpa using k
structure WkS (W1 wk : World) (lb : Nat) (l : List ByteArray) (v0 : Value) (q : ByteArray) (d1 d2 d3 d4 d5 d7 : Bool) (v4 v5 : Value) (W : World) : Prop where
 o3 : d3 = true -> d2 = true
 o4 : d4 = true -> d3 = true
 o5 : d5 = true -> d1 = true /\ d4 = true
 o7 : d7 = true -> d5 = true
 more : d5 = false -> Below wk.heap.size wk W
 lay : d4 = true -> d5 = false -> ∃ g, v4 = .slice (some ⟨g, 0, none⟩) 1 1 /\ StrRow W (some ⟨g, 0, none⟩) [q] 1
 grown : d5 = true -> d7 = false -> OwnC W W1.heap.size 1 v5 (l.length + 1) (l.map Value.string ++ [.string q]) /\ W.heap[lb]? = some (.cells #[.bool false, v0] 80 (0, 0)) /\ lb < W1.heap.size /\ Only lb W1 W
 set : d7 = true -> BhS W1 lb false (l ++ [q]) W
section
variable {W1 wk : World} {lb : Nat} {l : List ByteArray} {v0 : Value} {q : ByteArray} {d1 d2 d3 d4 d5 d7 : Bool} {v4 v5 : Value} {W : World}
theorem WkS.start (h : Below wk.heap.size wk W) : WkS W1 wk lb l v0 q false false false false false false v4 v5 W :=
 ⟨fun h => h, fun h => h, fun h => (by cases h), fun h => h, fun _ => h, fun h => (by cases h), fun h => (by cases h), fun h => (by cases h)⟩
theorem WkS.no (h : WkS W1 wk lb l v0 q d1 d2 d3 d4 d5 d7 v4 v5 W) (h5 : d5 = false) : d7 = false := by
 cases hd : d7 with
 | false => rfl
 | true => rw [h.o7 hd] at h5; cases h5
theorem WkS.no4 (h : WkS W1 wk lb l v0 q d1 d2 d3 d4 d5 d7 v4 v5 W) (h4 : d4 = false) : d5 = false := by
 cases hd : d5 with
 | false => rfl
 | true => rw [(h.o5 hd).2] at h4; cases h4
theorem WkS.no3 (h : WkS W1 wk lb l v0 q d1 d2 d3 d4 d5 d7 v4 v5 W) (h3 : d3 = false) : d4 = false := by
 cases hd : d4 with
 | false => rfl
 | true => rw [h.o4 hd] at h3; cases h3
theorem WkS.no2 (h : WkS W1 wk lb l v0 q d1 d2 d3 d4 d5 d7 v4 v5 W) (h2 : d2 = false) : d3 = false := by
 cases hd : d3 with
 | false => rfl
 | true => rw [h.o3 hd] at h2; cases h2
theorem WkS.no1 (h : WkS W1 wk lb l v0 q d1 d2 d3 d4 d5 d7 v4 v5 W) (h1 : d1 = false) : d5 = false := by
 cases hd : d5 with
 | false => rfl
 | true => rw [(h.o5 hd).1] at h1; cases h1
theorem WkS.old1 (h : WkS W1 wk lb l v0 q d1 d2 d3 d4 d5 d7 v4 v5 W) (h1 : d1 = false) (hb : wk.heap[lb]? = some (.cells #[.bool false, v0] 80 (0, 0))) : W.heap[lb]? = some (.cells #[.bool false, v0] 80 (0, 0)) := ((h.more (h.no1 h1)).block lb (Array.getElem?_eq_some_iff.1 hb).1).trans hb
theorem WkS.old2 {kb : Nat} {cs : List Value} (h : WkS W1 wk lb l v0 q d1 d2 d3 d4 d5 d7 v4 v5 W) (h2 : d2 = false) (hr : wk.rangeAt kb 0 cs) (hk : kb < wk.heap.size) : W.rangeAt kb 0 cs := Qa4 hr ((h.more (h.no4 (h.no3 (h.no2 h2)))).block kb hk)
theorem WkS.s1 (h : WkS W1 wk lb l v0 q d1 d2 d3 d4 d5 d7 v4 v5 W) : WkS W1 wk lb l v0 q true d2 d3 d4 d5 d7 v4 v5 W := ⟨h.o3, h.o4, fun e => ⟨rfl, (h.o5 e).2⟩, h.o7, h.more, h.lay, h.grown, h.set⟩
theorem WkS.s2 (h : WkS W1 wk lb l v0 q d1 d2 d3 d4 d5 d7 v4 v5 W) : WkS W1 wk lb l v0 q d1 true d3 d4 d5 d7 v4 v5 W := ⟨fun _ => rfl, h.o4, h.o5, h.o7, h.more, h.lay, h.grown, h.set⟩
theorem WkS.s3 {W' : World} (h : WkS W1 wk lb l v0 q d1 d2 d3 d4 d5 d7 v4 v5 W) (h3 : d3 = false) (h2 : d2 = true) (hb : Below W.heap.size W W') : WkS W1 wk lb l v0 q d1 d2 true d4 d5 d7 v4 v5 W' := by
 have b := h.no3 h3
 have a := h.no4 b
 have c := h.no a
 exact ⟨fun _ => h2, fun _ => rfl, h.o5, h.o7, fun _ => (h.more a).behind' hb, fun e => (by rw [b] at e; cases e), fun e => (by rw [a] at e; cases e), fun e => (by rw [c] at e; cases e)⟩
theorem WkS.s4 (h : WkS W1 wk lb l v0 q d1 d2 d3 d4 d5 d7 v4 v5 W) (h4 : d4 = false) (h3 : d3 = true) : WkS W1 wk lb l v0 q d1 d2 d3 true d5 d7 (.slice (some ⟨W.heap.size, 0, none⟩) 1 1) v5 (W.alloc (.cells #[.string q] 9)) := by
 have a := h.no4 h4
 have c := h.no a
 have b := h.more a
 refine ⟨h.o3, fun _ => h3, fun e => (by rw [a] at e; cases e), h.o7, fun _ => b.alloc b.size _, fun _ _ => ⟨_, rfl, .inr ⟨_, 0, rfl, by simp, fun _ => by simp, Qap W [.string q] 9⟩⟩, fun e => (by rw [a] at e; cases e), fun e => (by rw [c] at e; cases e)⟩
theorem WkS.own (h : WkS W1 wk lb l v0 q d1 d2 d3 d4 d5 d7 v4 v5 W) (h5 : d5 = false) (hO : OwnC wk W1.heap.size 1 v0 l.length (l.map Value.string)) : OwnC W W1.heap.size 1 v0 l.length (l.map Value.string) := hO.below (h.more h5)
theorem WkS.big (h : WkS W1 wk lb l v0 q d1 d2 d3 d4 d5 d7 v4 v5 W) (h5 : d5 = false) (hO : Only lb W1 wk) : W1.heap.size <= W.heap.size := Nat.le_trans hO.size (h.more h5).size
end
theorem Qpc {o : Oper} {a : Act} {K : Act -> World -> Prop} {Q : Exit -> Act -> World -> Prop} (x : Operand) (z : ByteArray) (ho : o.op = .buildSlice 23 1 #[(0, x)]) (hx : a.eval x = .string z) (hK : K (a.put o.dst (.slice (some ⟨w.heap.size, 0, none⟩) 1 1)) (w.alloc (.cells #[.string z] 9))) : Oper.wp Tryz.prog o a w K Q := by
 have h := Qkr w z
 unfold Oper.wp execOp
 simp only [ho, List.map_toArray, List.map_cons, List.map_nil, hx, Sem.run_bind, h, Result.andThen_ok]
 exact hK
section
variable {W1 wk : World} {lb : Nat} {l : List ByteArray} {v0 : Value} {q : ByteArray} {d1 d2 d3 d4 d5 d7 : Bool} {v4 v5 : Value} {W : World}
theorem WkS.s5 {W' : World} {v' : Value} (h : WkS W1 wk lb l v0 q d1 d2 d3 d4 d5 d7 v4 v5 W) (h5 : d5 = false) (h1 : d1 = true) (h4 : d4 = true) (hk : wk.heap[lb]? = some (.cells #[.bool false, v0] 80 (0, 0)) /\ OwnC wk W1.heap.size 1 v0 l.length (l.map Value.string) /\ l.length <= 1000000 /\ Only lb W1 wk) (hl : lb < W1.heap.size) (hO : OwnC W' W1.heap.size 1 v' (l.length + 1) (l.map Value.string ++ [.string q])) (hg : W.grownBy W' v0.ownBlock) : WkS W1 wk lb l v0 q d1 d2 d3 d4 true d7 v4 v' W' := by
 have f := h.no h5
 have b := h.more h5
 have i := hk.2.2.2.size
 have d : ∀ k, k < W1.heap.size -> v0.ownBlock ≠ some k := fun k a e => by have := (hk.2.1.block k e).1; omega
 have c : ∀ k, k < W1.heap.size -> W'.heap[k]? = wk.heap[k]? := fun k a => (hg.block k (by have := b.size; omega) (fun e => d k a e.symm)).trans (b.block k (by omega))
 refine ⟨h.o3, h.o4, fun _ => ⟨h1, h4⟩, fun _ => rfl, fun e => (by cases e), fun _ e => (by cases e), fun _ _ => ⟨hO, (c lb hl).trans hk.1, hl, hg.os.trans (b.os.trans hk.2.2.2.os), hg.tape.trans (b.tape.trans hk.2.2.2.tape), hg.output.trans (b.output.trans hk.2.2.2.output), by have := b.size; have := hg.size; omega, fun k a g => (c k a).trans (hk.2.2.2.block k a g)⟩, fun e => (by rw [f] at e; cases e)⟩
theorem WkS.s7 (h : WkS W1 wk lb l v0 q d1 d2 d3 d4 d5 d7 v4 v5 W) (h5 : d5 = true) (h7 : d7 = false) : W.heap[lb]? = some (.cells #[.bool false, v0] 80 (0, 0)) /\ OwnC W W1.heap.size 1 v5 (l.length + 1) (l.map Value.string ++ [.string q]) /\ WkS W1 wk lb l v0 q d1 d2 d3 d4 d5 true v4 v5 (W.setCell ⟨lb, 1, none⟩ v5) := by
 obtain ⟨d, f, m, b⟩ := h.grown h5 h7
 obtain ⟨i, a⟩ := Qqx f v5
 refine ⟨f, d, h.o3, h.o4, h.o5, fun _ => h5, fun e => (by rw [h5] at e; cases e), fun _ e => (by rw [h5] at e; cases e), fun _ e => (by cases e), fun _ => ⟨⟨a.os.trans b.os, a.tape.trans b.tape, a.output.trans b.output, Nat.le_trans b.size a.size, fun k c g => (a.block k (Nat.lt_of_lt_of_le c b.size) g).trans (b.block k c g)⟩, v5, ?_, i⟩⟩
 rw [List.length_append, List.map_append]
 exact d.keep a.size fun k c j => a.block k c fun e => by have := (d.block k j).1; omega
end
theorem BhS.below {W1 : World} {lb : Nat} {all : Bool} {l : List ByteArray} {W W' : World} (h : BhS W1 lb all l W) (hl : lb < W1.heap.size) (hb : Below W.heap.size W W') : BhS W1 lb all l W' := by
 obtain ⟨v, a, b⟩ := h.row
 have e := h.only.size
 exact ⟨⟨hb.os.trans h.only.os, hb.tape.trans h.only.tape, hb.output.trans h.only.output, Nat.le_trans e hb.size, fun k c d => (hb.block k (by omega)).trans (h.only.block k c d)⟩, v, a.below hb, (hb.block lb (by omega)).trans b⟩
theorem Qlz {α β : Type} (f : α -> β) (l : List α) {x : Nat} (h : x < l.length) : (l.take (x + 1)).map f = (l.take x).map f ++ [f l[x]] := by
 rw [List.take_add_one, List.getElem?_eq_getElem h, List.map_append]
 rfl
variable {pp : Option Addr} {ps : List (Array Nat)}
theorem Qny {B : Nat} {S : Wood} {b : Nat} {t : Nd} (hf : Forest B S w) (hT : Tabs w) (hM : 15 <= B) (ht : TreeAt S w b t) {cc : Nat} (hr : KeyRow w pp ps cc) (hps : ps.length <= 1000000) (hl : (t.witness false (ps.map keyP)).length <= 900000) :
  Calls Tryz.prog 19 #[.pointer (some ⟨b, 0, none⟩), .slice pp ps.length cc] w fun e w' => e = .returned (.string (textB (t.witness false (ps.map keyP)))) /\ Fr B S S w w' := by
 have Q : Hid (KeyRow w pp ps cc /\ ps.length <= 1000000) := ⟨hr, hps⟩
 have D : Hid (Forest B S w /\ Tabs w /\ 15 <= B /\ TreeAt S w b t /\ (t.witness false (ps.map keyP)).length <= 900000) := ⟨hf, hT, hM, ht, hl⟩
 have ac := Tryz.underlying42
 obtain ⟨qq, Z⟩ : ∃ q, textB (t.witness false (ps.map keyP)) = q := ⟨_, rfl⟩
 rw [Z]
 have HQ := Hq Z
 clear hf hT hM ht hr hps hl Z
 go_enter Tryz.func19, Tryz.ntmps19
 go_upto_region 2 with fail
 have V : Below w.heap.size w (w.alloc (.cells #[.bool false, .slice none 0 0] 80)) := (Below.refl _ _).alloc (Nat.le_refl _) _
 have O := Qai w (.cells #[.bool false, .slice none 0 0] 80)
 have N : (w.alloc (.cells #[.bool false, .slice none 0 0] 80)).heap.size = w.heap.size + 1 := by simp
 generalize World.alloc w _ = W1 at V O N ⊢
 obtain ⟨n, Y⟩ : ∃ x, w.heap.size = x := ⟨_, rfl⟩
 rw [Y] at O N ⊢
 have y : Hid (Below w.heap.size w W1 /\ W1.heap.size = n + 1 /\ w.heap.size = n) := ⟨V, N, Y⟩
 have R : Hid (BhS W1 n false [] W1) := ⟨⟨rfl, rfl, rfl, Nat.le_refl _, fun _ _ _ => rfl⟩, .slice none 0 0, OwnC.nil _ _ _, O⟩
 clear V O N Y
 go_wp2
 go_loopg [10] ps.length (fun gh i wr => ∃ x : Nat, x <= ps.length /\ gh = ps.length - x /\ i = .int .i64 (x : Int) /\ BhS W1 n false ((ps.take x).map keyP) wr)
 case atStart => exact ⟨0, by omega, rfl, rfl, by simpa using R.out⟩
 case round =>
  obtain ⟨x, hx, rfl, rfl, F⟩ := hrel
  by_cases u : x < ps.length
  ·have i1 : (x : Int) < (ps.length : Int) := by omega
   obtain ⟨K, I⟩ : ∃ K, ps[x] = K := ⟨_, rfl⟩
   have hK : K.size = 32 /\ Bytes K := Q.out.1.1 K (I ▸ List.getElem_mem u)
   obtain ⟨g, o, rfl, am⟩ : ∃ g o, pp = some ⟨g, o, none⟩ /\ wr.rangeAt g (o + x * 32) (K.toList.map encB) := by
    rcases Q.out.1.2 with h | ⟨g, o, h1, -, h3, h4⟩
    ·rw [h] at u; simp at u
    ·refine ⟨g, o, h1, ?_⟩
     have h5 := h4 x u
     rw [I] at h5
     exact Qa4 (Qa4 h5 (y.out.1.block g h3)) (F.only.block g (Nat.lt_of_lt_of_le h3 y.out.1.size) (by have := y.out; omega))
   have ag : (Tryz.prog.info? 42).map (·.size) = some (K.toList.map encB).length := by rw [Qb4]; simp [hK.1]
   obtain ⟨l, L⟩ : ∃ l, (ps.take x).map keyP = l := ⟨_, rfl⟩
   obtain ⟨q, hq⟩ : ∃ q, keyP K = q := ⟨_, rfl⟩
   have E : Hid (x < ps.length /\ (ps.take (x + 1)).map keyP = l ++ [q] /\ l.length <= 1000000) := ⟨u, by rw [Qlz keyP ps u, L, I, hq], by rw [<- L, List.length_map, List.length_take]; have := Q.out.2; omega⟩
   have aq : Hid (∀ W, Calls Tryz.prog 32 #[.agg (K.toList.map encB).toArray] W fun e w' => e = .returned (.string q) /\ Below W.heap.size W w') := fun W => by
    have := Qho K W hK.1 hK.2
    rw [show textB (nibs K.toList) = q from hq] at this
    exact this
   rw [L] at F
   obtain ⟨tt, ao, bf, o1, b9, r9, s9⟩ := Qpn wr K hK.1
   have HS := Hq F
   clear hx u I F L hq R
   go_upto_region 5 with (first | (refine wpList_load_mid rfl 42 _ rfl g (o + x * 32) rfl (K.toList.map encB) _ am ac rfl ag ?_) | (refine wpList_store_mid rfl 42 _ _ rfl wr.heap.size 0 (K.toList.map encB).toArray rfl rfl tt ao o1 ?_; generalize World.setCells _ wr.heap.size 0 _ = wk at b9 r9 s9 ⊢))
   have T := HS.out.below (by have := y.out; omega) b9
   obtain ⟨kb, al⟩ : ∃ x, wr.heap.size = x := ⟨_, rfl⟩
   rw [al] at r9 s9 ⊢
   obtain ⟨v0, P, aj⟩ := T.row
   obtain ⟨C, z, cr, rfl⟩ := P.shape
   have H : Hid (kb < wk.heap.size /\ wk.rangeAt kb 0 (K.toList.map encB) /\ wk.heap[n]? = some (.cells #[.bool false, .slice C z cr] 80 (0, 0)) /\ OwnC wk W1.heap.size 1 (.slice C z cr) l.length (l.map Value.string) /\ l.length <= 1000000 /\ Only n W1 wk) := ⟨s9, r9, aj, P, E.out.2.2, T.only⟩
   have ap : Hid (n < W1.heap.size) := by have := y.out; show n < _; omega
   clear tt ao bf o1 b9 r9 s9 T P aj am al HS
   simp only [Act.put]
   refine wp_region_any (by kernel_rfl) ?_
   change wpAny _ _ _ _ _ _ _ (World.drew _)
   obtain ⟨vf, j⟩ : ∃ vf : Nat -> Option Value, vf = fun i => ([some (.pointer (some ⟨n, 1, none⟩)), some (.slice C z cr), some (.agg (K.toList.map encB).toArray), some (.string q), none, none, some (.pointer (some ⟨n, 1, none⟩)), none] : List (Option Value)).getD i none := ⟨_, rfl⟩
   refine Qam _ (fun d v w' => (∀ i x, vf i = some x -> d i = true -> v i = x) /\ (fun d v w' => WkS W1 wk n l (.slice C z cr) q (d 1) (d 2) (d 3) (d 4) (d 5) (d 7) (v 4) (v 5) w') d v w') (by kernel_rfl) (by kernel_rfl) ?_ _ (fun _ => undef) ?_ ?_
   ·intro i o s p r b W k m c f
    have hi : i < 8 := (Array.getElem?_eq_some_iff.1 s).1
    match i, hi with
    | 0, _ =>
     obtain rfl := Option.some.inj s
     have t5 : b.tmps[5]? = some (.pointer (some ⟨n, 0, none⟩)) := k.rs 5 (by kernel_rfl)
     refine Qa1 (.pointer (some ⟨n, 1, none⟩)) ⟨_, rfl, Qa0 f.1 (ve j rfl), f.2⟩ ?_
     clear s c k f m j
     go_simp
    | 1, _ =>
     obtain rfl := Option.some.inj s
     have bg := k.vt 0 14 (.pointer (some ⟨n, 1, none⟩)) (c ⟨0, .data⟩ (by simp) rfl) rfl (by simp) (ve j rfl) f.1
     have hq := (Qa7 (f.2.old1 m H.out.2.2.1)).2.1
     refine Qa1 (.slice C z cr) ⟨_, rfl, Qa0 f.1 (ve j rfl), f.2.s1⟩ ?_
     clear s c k f m j
     go_simp
    | 2, _ =>
     obtain rfl := Option.some.inj s
     have t7 : b.tmps[7]? = some (.pointer (some ⟨kb, 0, none⟩)) := k.rs 7 (by kernel_rfl)
     refine wp_load_mid 42 (.tmp 7) rfl kb 0 (by simp only [Act.eval, Array.getD_eq_getD_getElem?, t7, Option.getD_some]) (K.toList.map encB) _ (f.2.old2 m H.out.2.1 H.out.1) ac rfl ag ?_
     exact ⟨_, rfl, Qa0 f.1 (ve j rfl), f.2.s2⟩
    | 3, _ =>
     obtain rfl := Option.some.inj s
     have bh := k.vt 2 16 (.agg (K.toList.map encB).toArray) (c ⟨2, .data⟩ (by simp) rfl) rfl (by simp) (ve j rfl) f.1
     refine Qbl fun G hG => ?_
     have HG := Hq hG
     have ah := Hq f
     have ar := Hq j
     have HN := Hq m
     have HD := Hq (c ⟨2, .data⟩ (by simp) rfl)
     clear hG s c k f m j
     go_simp
     go_at_call 32
     refine (aq.out W).mono ?_
     rintro e w9 ⟨rfl, ax⟩
     exact ⟨_, rfl, (HG.out _ _).2 ⟨Qa0 ah.out.1 (by rw [ar.out]; rfl), ah.out.2.s3 HN.out HD.out ax⟩⟩
    | 4, _ =>
     obtain rfl := Option.some.inj s
     have b7 := k.vt 3 17 (.string q) (c ⟨3, .data⟩ (by simp) rfl) rfl (by simp) (ve j rfl) f.1
     refine Qpc (.tmp 17) q rfl (by simp only [Act.eval, Array.getD_eq_getD_getElem?, b7, Option.getD_some]) ?_
     exact ⟨_, rfl, Qa3 f.1 (ve j rfl), f.2.s4 m (c ⟨3, .data⟩ (by simp) rfl)⟩
    | 5, _ =>
     obtain rfl := Option.some.inj s
     have az := k.vt 1 15 (.slice C z cr) (c ⟨1, .data⟩ (by simp) rfl) rfl (by simp) (ve j rfl) f.1
     have d1 := c ⟨1, .data⟩ (by simp) rfl
     have d4 := c ⟨4, .data⟩ (by simp) rfl
     obtain ⟨g, e1, r1⟩ := f.2.lay d4 m
     have ba : b.tmps[18]? = some (.slice (some ⟨g, 0, none⟩) 1 1) := (k.done 4 18 d4 rfl (by simp)).trans (congrArg some e1)
     refine Qin W (.tmp 15) (.tmp 18) rfl W1.heap.size (.slice C z cr) l.length (l.map Value.string) (by simp only [Act.eval, Array.getD_eq_getD_getElem?, az, Option.getD_some]) (f.2.own m H.out.2.2.2.1) (some ⟨g, 0, none⟩) [q] 1 (by simp only [Act.eval, Array.getD_eq_getD_getElem?, ba, Option.getD_some] <;> rfl) r1 (by have := H.out.2.2.2.2.1; simp; omega) (f.2.big m H.out.2.2.2.2.2) ?_
     intro v' w' au ay
     exact ⟨_, rfl, Qa3 f.1 (ve j rfl), f.2.s5 m d1 d4 H.out.2.2 ap.out au ay⟩
    | 6, _ =>
     obtain rfl := Option.some.inj s
     have t5 : b.tmps[5]? = some (.pointer (some ⟨n, 0, none⟩)) := k.rs 5 (by kernel_rfl)
     refine Qa1 (.pointer (some ⟨n, 1, none⟩)) ⟨_, rfl, Qa0 f.1 (ve j rfl), f.2⟩ ?_
     clear s c k f m j
     go_simp
    | 7, _ =>
     obtain rfl := Option.some.inj s
     have bi := k.vt 6 20 (.pointer (some ⟨n, 1, none⟩)) (c ⟨6, .data⟩ (by simp) rfl) rfl (by simp) (ve j rfl) f.1
     have d5 := c ⟨5, .data⟩ (by simp) rfl
     have bc : b.tmps[19]? = some (r 5) := k.done 5 19 d5 rfl (by simp)
     have U := f.2.s7 d5 m
     obtain ⟨v5, ae⟩ : ∃ x, r 5 = x := ⟨_, rfl⟩
     rw [ae] at bc U
     obtain ⟨p5, m5, c5, rfl⟩ := U.2.1.shape
     obtain ⟨x0, x1, g0, g1⟩ := Qa7 U.1
     refine Oper.wp_mono (K := fun a' w' => a' = b.put none undef /\ w' = W.setCell ⟨n, 1, none⟩ (.slice p5 m5 c5)) (by rintro a' w' ⟨aw, rfl⟩; exact ⟨undef, aw, Qa3 f.1 (ve j rfl), (by show WkS W1 wk n l (.slice C z cr) q (p.getD 1 false) (p.getD 2 false) (p.getD 3 false) (p.getD 4 false) (p.getD 5 false) true (r 4) (r 5) _; rw [ae]; exact U.2.2)⟩) ?_
     clear s c k f m j U d5 ae
     go_simp
   ·exact ⟨fun _ _ _ h => (by simp at h), WkS.start (Below.refl _ _).drew⟩
   ·intro r W f
    have e0 : r 0 = .pointer (some ⟨n, 1, none⟩) := f.1 0 _ (ve j rfl) rfl
    have e1 : r 1 = .slice C z cr := f.1 1 _ (ve j rfl) rfl
    have e2 : r 2 = .agg (K.toList.map encB).toArray := f.1 2 _ (ve j rfl) rfl
    have e3 : r 3 = .string q := f.1 3 _ (ve j rfl) rfl
    have e6 : r 6 = .pointer (some ⟨n, 1, none⟩) := f.1 6 _ (ve j rfl) rfl
    have hX := f.2
    simp only [runFrom, Act.put, Nat.zero_add, Nat.reduceAdd, List.setIfInBounds_toArray, List.set_cons_zero, List.set_cons_succ, e0, e1, e2, e3, e6]
    clear f j e0 e1 e2 e3 e6
    have HX := Hq (hX.set rfl)
    clear hX
    go_wp2
    go_roundg (ps.length - (x + 1))
    case measure => have := E.out.1; omega
    case rel => exact ⟨x + 1, by have := E.out.1; omega, rfl, Qas (Qeu x 1 (by have := E.out.1; have := Q.out.2; omega)), by rw [E.out.2.1]; exact HX.out⟩
  ·obtain rfl : x = ps.length := by omega
   rw [List.take_length] at F
   obtain ⟨v, P, hb⟩ := F.row
   obtain ⟨p', c', rfl, hn, aa, X⟩ := P.texts
   obtain ⟨c0, c1, -⟩ := Qa7 hb
   have hB : Below w.heap.size w wr := F.only.below y.out.1 (by have := y.out; omega) y.out.1.size
   have J := Fr.of_below D.out.1 hB
   have ai := Hq (Qj2 J.forest (D.out.2.1.below hB (Nat.le_trans D.out.2.2.1 D.out.1.le)) D.out.2.2.1 (D.out.2.2.2.1.frame J) false p' (ps.map keyP) c' aa (fun a ha => D.out.1.fresh (Nat.le_trans y.out.1.size (X a ha).1)) (by rw [List.length_map]; exact Q.out.2) D.out.2.2.2.2)
   have HF := Hq J
   rw [HQ.out, List.length_map] at ai
   rw [List.length_map] at c1
   clear F P hb hn aa X hB J hx u R
   go_wp2_with fail
   refine ai.out.mono ?_
   rintro e w2 ⟨rfl, ak⟩
   have HE : Hid (Fr B S S w w2) := HF.out.trans ak
   clear ak
   go_wp2
   go_ret
   exact ⟨rfl, HE.out⟩
theorem Qgq {B : Nat} {S : Wood} {b : Nat} {t : Nd} (hf : Forest B S w) (hT : Tabs w) (hM : 15 <= B) (ht : TreeAt S w b t) {cc : Nat} (hr : KeyRow w pp ps cc) (hps : ps.length <= 1000000) (hl : (t.witness false (ps.map keyP)).length <= 900000) :
  Calls Tryz.prog 6 #[.pointer (some ⟨b, 0, none⟩), .slice pp ps.length cc] w fun e w' => e = .returned (.string (textB (t.witness false (ps.map keyP)))) /\ Fr B S S w w' := by
 have c := Hq (Qny hf hT hM ht hr hps hl)
 obtain ⟨q, d⟩ : ∃ q, textB (t.witness false (ps.map keyP)) = q := ⟨_, rfl⟩
 rw [d] at c ⊢
 clear hf hT hM ht hr hps hl d
 go_enter Tryz.func6, Tryz.ntmps6
 go_wp2_with fail
 refine c.out.mono ?_
 rintro e g ⟨rfl, a⟩
 have f := Hq a
 clear a
 go_wp2
 go_ret
 exact ⟨rfl, f.out⟩
structure TwS (w R : World) (U : Nat -> Prop) (B bt bp : Nat) (t a : Nd) (J : Wood) (W : World) : Prop where
 q : GenQ w R U B J bt t W
 p : TreeAt J W bp a
 uj : ∀ k, U k -> k < R.heap.size /\ J k = none /\ k ≠ bt /\ k ≠ bp
def TwF (w : World) (U : Nat -> Prop) (bt bp : Nat) (J : Wood) (k : Nat) : Prop := GenF w U J bt k /\ k ≠ bp
section
variable {w R : World} {U : Nat -> Prop} {B bt bp : Nat} {t a : Nd} {J : Wood} {W W' : World}
theorem TwS.uq (h : TwS w R U B bt bp t a J W) : ∀ k, U k -> k < R.heap.size /\ J k = none := fun k hk => ⟨(h.uj k hk).1, (h.uj k hk).2.1⟩
theorem TwS.fr (h : TwS w R U B bt bp t a J W) (hB : w.heap.size <= B) (hf : Fr B J J W W') : TwS w R U B bt bp t a J W' := ⟨(GenQ.kit hB h.uq).fr _ _ h.q hf, h.p.frame hf, h.uj⟩
theorem TwS.more (h : TwS w R U B bt bp t a J W) (hB : w.heap.size <= B) (hb : Below W.heap.size W W') : TwS w R U B bt bp t a J W' := h.fr hB (Fr.of_below h.q.wood hb)
theorem TwS.only {f : Nat} (h : TwS w R U B bt bp t a J W) (hB : w.heap.size <= B) (hF : TwF w U bt bp J f) (ho : Only f W W') : TwS w R U B bt bp t a J W' := ⟨(GenQ.kit hB h.uq).set _ _ f h.q hF.1 ho, h.p.only ho hF.2.symm, h.uj⟩
theorem TwS.fresh (h : TwS w R U B bt bp t a J W) (hB : w.heap.size <= B) {k : Nat} (hk : W.heap.size <= k) : TwF w U bt bp J k := ⟨(GenQ.kit hB h.uq).fresh W k h.q hk, by have := h.p.lt; omega⟩
theorem TwS.kit (hB : w.heap.size <= B) : StKit (TwS w R U B bt bp t a J) (TwF w U bt bp J) B J :=
 ⟨fun _ _ h hb => h.more hB hb, fun _ _ h hf => h.fr hB hf, fun _ _ _ h hF ho => h.only hB hF ho, fun _ hF => hF.1.2.1, fun _ _ h hk => h.fresh hB hk⟩
theorem TwS.next {U' : Nat -> Prop} (h : TwS w R U B bt bp t a J W) (hU : ∀ k, U' k -> k < W.heap.size /\ J k = none /\ k ≠ bt /\ k ≠ bp) : TwS w W U' B bt bp t a J W := ⟨h.q.next, h.p, hU⟩
end
structure TwM (w : World) (n1 : Nat) (pk : Option Addr) (ck : Nat) (pv : Option Addr) (cv : Nat) (m : Mp) (R : World) (U : Nat -> Prop) : Prop where
 box : R.heap[n1]? = some (.cells #[.slice pk m.length ck, .slice pv m.length cv] 25 (0, 0))
 kn : Kn R w.heap.size (.slice pk m.length ck) (.slice pv m.length cv) m
 u1 : U n1
 ur : ∀ k, ((Value.slice pk m.length ck).ownBlock = some k \/ (Value.slice pv m.length cv).ownBlock = some k) -> U k
section
variable {w R : World} {U : Nat -> Prop} {B bt bp n1 : Nat} {t a : Nd} {J : Wood} {W W' : World} {pk pv : Option Addr} {ck cv : Nat} {m : Mp}
theorem TwM.at (h : TwM w n1 pk ck pv cv m R U) (hS : TwS w R U B bt bp t a J W) : W.heap[n1]? = some (.cells #[.slice pk m.length ck, .slice pv m.length cv] 25 (0, 0)) /\ Kn W w.heap.size (.slice pk m.length ck) (.slice pv m.length cv) m :=
 ⟨(hS.q.keep n1 h.u1).trans h.box, hS.q.kn h.kn h.ur⟩
theorem TwM.rows (h : TwM w n1 pk ck pv cv m R U) (hS : TwS w R U B bt bp t a J W) : ∀ k, ((Value.slice pk m.length ck).ownBlock = some k \/ (Value.slice pv m.length cv).ownBlock = some k) -> J k = none /\ k ≠ bt /\ k ≠ bp := fun k hk => (hS.uj k (h.ur k hk)).2
end
section
variable {P : World -> Prop} {F : Nat -> Prop} {B : Nat} {J : Wood} {n : Nat} {ys : List Value} {b1 : Bool} {v1 : Value} {b2 : Bool} {W W' : World}
end
abbrev zI : Value := .int .i64 0
def opV (bp : Nat) : Value := .tuple #[.pointer (some ⟨bp, 0, none⟩), .agg #[.int .i64 0, .int .i64 0, .int .i64 0, .int .i64 0]]
section
variable {P1 : World -> Prop} {F1 : Nat -> Prop} {P2 : Nat -> Wood -> World -> Prop} {F2 : Nat -> Wood -> Nat -> Prop} {d1 d5 d6 d7 d8 d9 d10 d11 d12 : Bool} {v6 v7 v8 v10 v11 : Value} {W W' : World} {B : Nat} {J : Wood}
end
end Go.Proofs.YtakidhihbgfjlaaGreatDoor
