/-
  Package twigskeep: what a map of known making has for a path; trees and maps side by side.
-/
import Derived.Test.YtakidhihbgfjlaaGreatDoorSxFkG
import Derived.Test.YtakidhihbgfjlaaGreatDoorSxTreB
namespace Go.Proofs.YtakidhihbgfjlaaGreatDoor
open Go.RowKit
set_option maxRecDepth 100000
set_option maxHeartbeats 25600000
abbrev Mp := List (Array Nat × ByteArray)
def pth (x : Array Nat × ByteArray) : List Nat := nibs x.1.toList
def getN (m : Mp) (s : List Nat) : Option ByteArray := (m.find? fun x => decide (pth x = s)).map (·.2)
theorem Qff (x : Array Nat × ByteArray) (m : Mp) (s : List Nat) : getN (x :: m) s = if pth x = s then some x.2 else getN m s := by
 unfold getN
 rw [List.find?_cons]
 by_cases h : pth x = s <;> simp [h]
variable {m : Mp} {s : List Nat}
theorem Qhw (h : ∀ x ∈ m, pth x ≠ s) : getN m s = none := by
 induction m with
 | nil => rfl
 | cons x m ih => rw [Qff, if_neg (h x (List.mem_cons_self ..)), ih fun y a => h y (List.mem_cons_of_mem _ a)]
variable {u : ByteArray}
theorem Qn8 (h : getN m s = some u) : ∃ x ∈ m, pth x = s /\ x.2 = u := by
 induction m with
 | nil => cases h
 | cons x m ih =>
  rw [Qff] at h
  by_cases e : pth x = s
  ·rw [if_pos e] at h
   exact ⟨x, List.mem_cons_self .., e, Option.some.inj h⟩
  ·rw [if_neg e] at h
   obtain ⟨y, c, a, b⟩ := ih h
   exact ⟨y, List.mem_cons_of_mem _ c, a, b⟩
theorem Qus (h : getN m s = none) : ∀ x ∈ m, pth x ≠ s := by
 induction m with
 | nil => intro x b; cases b
 | cons x m ih =>
  rw [Qff] at h
  by_cases e : pth x = s
  ·rw [if_pos e] at h; cases h
  ·rw [if_neg e] at h
   intro y a
   rcases List.mem_cons.1 a with rfl | a
   ·exact e
   ·exact ih h y a
variable {x : Array Nat × ByteArray}
theorem Qgx (hd : (m.map pth).Nodup) (hx : x ∈ m) : getN m (pth x) = some x.2 := by
 induction m with
 | nil => cases hx
 | cons y m ih =>
  rw [List.map_cons, List.nodup_cons] at hd
  rw [Qff]
  rcases List.mem_cons.1 hx with rfl | hx
  ·rw [if_pos rfl]
  ·rw [if_neg (fun e : pth y = pth x => hd.1 (by rw [e]; exact List.mem_map_of_mem hx)), ih hd.2 hx]
theorem Qut {m' : Mp} (hd' : (m'.map pth).Nodup) (h : ∀ x, x ∈ m ↔ x ∈ m') (s : List Nat) : getN m s = getN m' s := by
 cases e : getN m s with
 | none => exact (Qhw fun x a => Qus e x ((h x).2 a)).symm
 | some u =>
  obtain ⟨x, a, rfl, rfl⟩ := Qn8 e
  exact (Qgx hd' ((h x).1 a)).symm
theorem Quu {l : Mp} (hd : ((l ++ [x]).map pth).Nodup) (s : List Nat) : getN (l ++ [x]) s = if s = pth x then some x.2 else getN l s := by
 by_cases e : s = pth x
 ·rw [if_pos e, e]
  exact Qgx hd (by simp)
 ·rw [if_neg e]
  cases h : getN l s with
  | none =>
   refine Qhw fun y a => ?_
   rcases List.mem_append.1 a with a | a
   ·exact Qus h y a
   ·rw [List.mem_singleton.1 a]; exact fun h => e h.symm
  | some u =>
   obtain ⟨y, a, rfl, rfl⟩ := Qn8 h
   exact Qgx hd (List.mem_append_left _ a)
theorem Qld : ∀ {a b : List Nat}, nibs a = nibs b -> a = b
 | [], [], _ => rfl
 | [], y :: b, h => by simp [nibs] at h
 | x :: a, [], h => by simp [nibs] at h
 | x :: a, y :: b, h => by
  have h1 : x / 16 :: x % 16 :: nibs a = y / 16 :: y % 16 :: nibs b := h
  simp only [List.cons.injEq] at h1
  rw [Qld h1.2.2, show x = y by omega]
theorem QAk {y : Array Nat × ByteArray} (h : pth x = pth y) : x.1 = y.1 := Array.toList_inj.1 (Qld h)
theorem Quv (h : (m.map (·.1)).Nodup) : (m.map pth).Nodup := by
 rw [List.Nodup, List.pairwise_map] at h ⊢
 exact h.imp fun h e => h (QAk e)
variable {K : Array Nat}
theorem Qrm {i : Nat} (h : findN m K = some i) : ∃ hi : i < m.length, m[i].1 = K := by
 induction m generalizing i with
 | nil => cases h
 | cons x m ih =>
  rw [findN] at h
  by_cases e : x.1 = K
  ·rw [if_pos e] at h
   obtain rfl := Option.some.inj h
   exact ⟨by simp, e⟩
  ·rw [if_neg e] at h
   obtain ⟨j, c, rfl⟩ := Option.map_eq_some_iff.1 h
   obtain ⟨a, b⟩ := ih c
   exact ⟨by simpa using a, by simpa using b⟩
theorem Qrn (h : findN m K = none) : ∀ x ∈ m, x.1 ≠ K := by
 induction m with
 | nil => intro x b; cases b
 | cons x m ih =>
  rw [findN] at h
  by_cases e : x.1 = K
  ·rw [if_pos e] at h; cases h
  ·rw [if_neg e] at h
   intro y a
   rcases List.mem_cons.1 a with rfl | a
   ·exact e
   ·exact ih (by simpa using h) y a
theorem Qy3 (hd : (m.map pth).Nodup) {i : Nat} (h : findN m K = some i) : ∃ hi : i < m.length, m[i].1 = K /\ getN m (nibs K.toList) = some m[i].2 := by
 obtain ⟨hi, rfl⟩ := Qrm h
 exact ⟨hi, rfl, Qgx hd (List.getElem_mem hi)⟩
theorem QAl (h : findN m K = none) : getN m (nibs K.toList) = none :=
 Qhw fun x hx e => Qrn h x hx (Array.toList_inj.1 (Qld e))
variable {B b : Nat} {X : Nat -> Prop} {S : Wood} {w : World}
theorem TreeAt.framex {S' : Wood} {w' : World} {t : Nd} (h : TreeAt S w b t) (hf : FrX B X S S' w w') (hb : ¬ X b) : TreeAt S' w' b t := by
 have a := h.lt
 obtain ⟨c, v, e, d⟩ := h
 exact ⟨hf.new b a c, v, e.sub hf.sub, (hf.other b a c hb).trans d⟩
theorem FrX.below {S' : Wood} {w' : World} (h : FrX B X S S' w w') (hf : Forest B S w) (hX : ∀ k, X k -> B <= k) : Below B w w' :=
 ⟨h.os, h.tape, h.output, h.size, fun k hk => h.other k (Nat.lt_of_lt_of_le hk hf.le) (by
  cases e : S k with
  | none => rfl
  | some t => have := hf.low k t e; omega) fun hx => by have := hX k hx; omega⟩
structure Tells (S : Wood) (w : World) (b : Nat) (g : List Nat -> Option ByteArray) : Prop where
 ex : ∃ t : Nd, TreeAt S w b t /\ t.can 64 /\ ∀ s, s.length = 64 -> t.get s = g s
variable {g : List Nat -> Option ByteArray}
theorem Tells.congr {g' : List Nat -> Option ByteArray} (h : Tells S w b g) (e : ∀ s, s.length = 64 -> g s = g' s) : Tells S w b g' := by
 obtain ⟨t, c, d, f⟩ := h.ex
 exact ⟨t, c, d, fun s a => (f s a).trans (e s a)⟩
theorem Tells.put (h : Tells S w b g) (hf : Forest B S w) (hK : K.size = 32) (hKb : Bytes K) (hu0 : 0 < u.size) (hu1 : u.size <= 100) :
  Calls Tryz.prog 18 #[.pointer (some ⟨b, 0, none⟩), .agg (K.toList.map encB).toArray, .string u] w fun x w' => x = .returned (.int .i64 0) /\ ∃ S', Tells S' w' b (fun s => if s = nibs K.toList then some u else g s) /\ FrX B (· = b) S S' w w' := by
 obtain ⟨t, i, j, k⟩ := h.ex
 refine (QB0 hf i j hK hKb hu0 hu1).mono ?_
 rintro x w' ⟨rfl, S', l, f, a, d, c⟩
 exact ⟨rfl, S', ⟨l, f, a, fun s e => by rw [d s e, k s e]⟩, c⟩
theorem QAm (hK : K.size = 32) : (nibs K.toList).length = 64 := by rw [Qbv, Array.length_toList, hK]
theorem Tells.drew {S : Wood} {w : World} {b : Nat} {g : List Nat -> Option ByteArray} (h : Tells S w b g) : Tells S w.drew b g := by
 obtain ⟨t, a, c, d⟩ := h.ex
 exact ⟨t, a, c, d⟩
theorem Forest.drew {B : Nat} {S : Wood} {w : World} (hf : Forest B S w) : Forest B S w.drew := (Fr.of_below hf (Below.refl _ _).drew).forest
theorem Kn.len {C : Nat} {pk pv : Option Addr} {mk ck mv cv : Nat} (h : Kn w C (.slice pk mk ck) (.slice pv mv cv) m) : mk = m.length /\ mv = m.length := by
 constructor
 ·rcases h.keys.2 with ⟨h1, h2⟩ | ⟨g, cap, h1, _⟩
  ·simp only [Value.slice.injEq] at h1; omega
  ·simp only [Value.slice.injEq] at h1; exact h1.2.1
 ·rcases h.vals.2 with ⟨h1, h2⟩ | ⟨g, cap, h1, _⟩
  ·simp only [Value.slice.injEq] at h1; omega
  ·simp only [Value.slice.injEq] at h1; exact h1.2.1
theorem Forest.none {B : Nat} {S : Wood} {w : World} (hf : Forest B S w) {k : Nat} (h : k < B) : S k = Option.none := by
 cases e : S k with
 | none => rfl
 | some t => have := hf.low k t e; omega
theorem FrX.on {S1 S2 : Wood} {w1 w2 : World} (h : FrX B (fun _ => False) S S1 w w1) (k : FrX B X S1 S2 w1 w2) (hX : ∀ j, X j -> w.heap.size <= j) : FrX B (fun _ => False) S S2 w w2 :=
 ⟨k.os.trans h.os, k.tape.trans h.tape, k.output.trans h.output, Nat.le_trans h.size k.size, fun j hj hn _ => (k.other j (Nat.lt_of_lt_of_le hj h.size) (h.new j hj hn) fun hx => by have := hX j hx; omega).trans (h.other j hj hn fun h => h), k.forest, fun b t hb => k.sub b t (h.sub b t hb), fun j hj hn => k.new j (Nat.lt_of_lt_of_le hj h.size) (h.new j hj hn)⟩
theorem Qn9 {l : Mp} (hd : (l.map pth).Nodup) {k : Nat} (hk : k < l.length) (s : List Nat) : (if s = nibs l[k].1.toList then some l[k].2 else getN (l.take k) s) = getN (l.take (k + 1)) s := by
 have a : ((l.take k ++ [l[k]]).map pth).Nodup := by
  rw [<- List.take_succ_eq_append_getElem hk]
  exact hd.sublist ((List.take_sublist _ _).map _)
 rw [List.take_succ_eq_append_getElem hk, Quu a]
 rfl
theorem Quw {w0 : World} {C : Nat} {ks vs : Value} (hk : Kn w0 C ks vs m) (h0 : w0.heap.size <= B) (hb0 : Below w0.heap.size w0 w) (hf : Forest B S w) (hm : m.length <= 1000) (hd : (m.map pth).Nodup) (tu : Bool) :
  Calls Tryz.prog 5 #[.agg #[ks, vs], .bool tu] w fun e w' => ∃ b, w.heap.size <= b /\ e = .returned (.tuple #[.pointer (some ⟨b, 0, none⟩), .bool true]) /\ ∃ S', Tells S' w' b (getN m) /\ FrX B (fun _ => False) S S' w w' := by
 obtain ⟨pk, mk, y, rfl⟩ := hk.keys.shape
 obtain ⟨pv, mv, M, rfl⟩ := hk.vals.shape
 obtain ⟨rfl, rfl⟩ := hk.len
 obtain ⟨l, hl⟩ : ∃ l, (if tu then m.reverse else m) = l := ⟨_, rfl⟩
 have aq : l.length = m.length := by rw [<- hl]; cases tu <;> simp
 have ap : (l.map pth).Nodup := by
  rw [<- hl]
  cases tu
  ·exact hd
  ·rw [if_pos rfl, List.map_reverse]; exact List.pairwise_reverse.2 (hd.imp fun h => h.symm)
 have ar : ∀ s, getN l s = getN m s := Qut hd fun x => by rw [<- hl]; cases tu <;> simp
 obtain ⟨W1, ac⟩ : ∃ W1, w.alloc (.cells #[.slice pk m.length y, .slice pv m.length M] 25) = W1 := ⟨_, rfl⟩
 have ai : Below w.heap.size w W1 := by rw [<- ac]; exact (Below.refl _ _).alloc (Nat.le_refl _) _
 have V : W1.heap.size = w.heap.size + 1 := by rw [<- ac]; simp
 have au : W1.heap[w.heap.size]? = some (.cells #[.slice pk m.length y, .slice pv m.length M] 25 (0, 0)) := by rw [<- ac]; exact Array.getElem?_push_size
 have d := Fr.of_below hf ai
 have ao := Hq (Qyp d.forest)
 have c : Hid (m.length <= 1000 /\ (if tu then m.reverse else m) = l /\ l.length = m.length /\ (l.map pth).Nodup /\ (∀ s, getN l s = getN m s) /\ Fr B S S w W1 /\ W1.heap.size = w.heap.size + 1 /\ S w.heap.size = none /\ B <= w.heap.size /\ W1.heap[w.heap.size]? = some (.cells #[.slice pk m.length y, .slice pv m.length M] 25 (0, 0))) := ⟨hm, hl, aq, ap, ar, d, V, hf.fresh (Nat.le_refl _), hf.le, au⟩
 have HK : Hid (∀ wr, Below B W1 wr -> Kn wr C (.slice pk m.length y) (.slice pv m.length M) m /\ (∀ j, Value.ownBlock (.slice pk m.length y) = some j -> j < B) /\ (∀ j, Value.ownBlock (.slice pv m.length M) = some j -> j < B)) := fun wr ae => ⟨hk.below ((hb0.trans ((ai.mono hb0.size))).trans (ae.mono h0)), fun j hj => Nat.lt_of_lt_of_le (hk.keys.block j hj).2 h0, fun j hj => Nat.lt_of_lt_of_le (hk.vals.block j hj).2 h0⟩
 clear hk h0 hb0 hf hm hd hl aq ap ar ai V au d
 go_enter Tryz.func5, Tryz.ntmps5
 go_wp2_with fail
 refine ao.out.mono ?_
 rintro e w2 ⟨rfl, ag, aj, -⟩
 have az : w2.cell? ⟨w.heap.size, 0, none⟩ = some (.slice pk m.length y) := by
  have hs := c.out.2.2.2.2.2.2.1
  rw [World.cell?_of_block (a := ⟨w.heap.size, 0, none⟩) (aj.other w.heap.size (by omega) c.out.2.2.2.2.2.2.2.1)]
  exact cell_of_row W1 _ 0 _ _ (0, 0) c.out.2.2.2.2.2.2.2.2.2
 have V := c.out.2.2.2.2.2.2.1
 rw [V] at ag ⊢
 have H2 : Hid (Tells S w2 (w.heap.size + 1) (getN (l.take 0)) /\ Fr B S S W1 w2 /\ w.heap.size + 2 <= w2.heap.size) := ⟨⟨.no, ag, trivial, fun s _ => rfl⟩, aj, by have := ag.lt; omega⟩
 clear ag aj ao ac V
 go_wp2
 go_loopg [8] m.length (fun g i wr => ∃ (k : Nat) (S' : Wood), k <= m.length /\ g = m.length - k /\ i = .int .i64 (k : Int) /\ Tells S' wr (w.heap.size + 1) (getN (l.take k)) /\ FrX B (fun _ => False) S S' W1 wr /\ Below B W1 wr)
 case atStart => exact ⟨0, S, Nat.zero_le _, rfl, rfl, H2.out.1, H2.out.2.1.x _, (H2.out.2.1.x fun _ => False).below c.out.2.2.2.2.2.1.forest fun _ h => h.elim⟩
 case round =>
  obtain ⟨k, S', hk, rfl, rfl, ht, ak, ae⟩ := hrel
  have n : Hid (Tells S' wr (w.heap.size + 1) (getN (l.take k)) /\ FrX B (fun _ => False) S S' W1 wr /\ Below B W1 wr) := ⟨ht, ak, ae⟩
  have aa : wr.heap[w.heap.size]? = some (.cells #[.slice pk m.length y, .slice pv m.length M] 25 (0, 0)) := (ak.other w.heap.size (by have := c.out.2.2.2.2.2.2.1; omega) c.out.2.2.2.2.2.2.2.1 fun h => h).trans c.out.2.2.2.2.2.2.2.2.2
  have c0 := cell_of_row wr _ 0 _ _ (0, 0) aa
  have c1 := cell_of_row wr _ 1 _ _ (0, 0) aa
  clear ht ak ae aa az
  by_cases v : k < m.length
  ·have i1 : (k : Int) < (m.length : Int) := by omega
   cases tu
   ·have E : k < m.length := v
    have T : ∀ h : k < l.length, l[k] = m[k] := fun h => by
     have e := c.out.2.1
     subst e
     rfl
    obtain ⟨t, G, H⟩ := HK.out wr n.out.2.2
    obtain ⟨p, aw, R, al, I⟩ := t.key E
    obtain ⟨q, ax, Y, Z, D⟩ := t.val E
    simp only [Value.slice.injEq] at R Y
    obtain ⟨rfl, -, rfl⟩ := R
    obtain ⟨rfl, -, rfl⟩ := Y
    obtain ⟨O, z, J, L⟩ := t.ok _ (List.getElem_mem E)
    have o := fun s => Qn9 c.out.2.2.2.1 (by rw [c.out.2.2.1]; exact v : k < l.length) s
    have F : l[k]'(by rw [c.out.2.2.1]; exact v) = m[k] := T (by rw [c.out.2.2.1]; exact v)
    rw [F] at o
    generalize m[k] = x at I D O z J L o
    obtain ⟨K, u⟩ := x
    have b7 : (Tryz.prog.info? 42).map (·.size) = some (K.toList.map encB).length := by rw [Qb4]; simp [O]
    have ay := Tryz.underlying42
    have HP := Hq (n.out.1.drew.put n.out.2.1.forest.drew O z J L)
    have HSt := Hq o
    have Q : wrap64 ((k : Int) + 1) = ((k + 1 : Nat) : Int) := by unfold wrap64; have := c.out.1; omega
    have ah := Hq Q
    have hB := c.out.2.2.2.2.2.2.2.2.1
    have P : p < B := G p rfl
    have X : q < B := H q rfl
    have U : w.heap.size < wr.heap.size := by have := n.out.2.1.size; have := c.out.2.2.2.2.2.2.1; omega
    have HO : Hid (∀ r f, FrX B (· = w.heap.size + 1) S' r wr.drew f -> f.rangeAt p (k * 32) (K.toList.map encB) /\ f.cell? ⟨w.heap.size, 0, none⟩ = some (.slice (some ⟨p, 0, none⟩) m.length y) /\ f.cell? ⟨w.heap.size, 1, none⟩ = some (.slice (some ⟨q, 0, none⟩) m.length M) /\ f.cell? ⟨q, k, none⟩ = some (.string u)) := fun r f d => by
     have e0 := d.other w.heap.size U (n.out.2.1.new _ (by have := c.out.2.2.2.2.2.2.1; omega) c.out.2.2.2.2.2.2.2.1) (by show ¬ w.heap.size = w.heap.size + 1; omega)
     have e1 := d.other p al (n.out.2.1.forest.none P) (by show ¬ p = w.heap.size + 1; omega)
     have e2 := d.other q Z (n.out.2.1.forest.none X) (by show ¬ q = w.heap.size + 1; omega)
     exact ⟨Qa4 I e1, (World.cell?_of_block e0).trans c0, (World.cell?_of_block e0).trans c1, (World.cell?_of_block e2).trans D⟩
    clear t O z J L o F Q T G H hB P X U
    go_upto_region 11 with fail
    go_region_held3 (fun w' => w'.rangeAt p (k * 32) (K.toList.map encB) /\ w'.cell? ⟨w.heap.size, 0, none⟩ = some (.slice (some ⟨p, 0, none⟩) m.length y) /\ w'.cell? ⟨w.heap.size, 1, none⟩ = some (.slice (some ⟨q, 0, none⟩) m.length M) /\ w'.cell? ⟨q, k, none⟩ = some (.string u)) (first | exact ⟨I, c0, c1, D⟩ | exact h1)
     (first | (go_at_call 18; refine HP.out.mono ?_; rintro x f ⟨rfl, r, W, d⟩; have h1 := HO.out r f d; have N : Hid (Tells r f (w.heap.size + 1) (getN (l.take (k + 1))) /\ FrX B (fun _ => False) S r W1 f) := ⟨W.congr fun s _ => HSt.out s, n.out.2.1.on (((Fr.of_below n.out.2.1.forest (Below.refl _ _).drew).x _).trans d) fun j hj => by rw [hj, c.out.2.2.2.2.2.2.1]; exact Nat.le_refl _⟩; clear W d))
    go_wp2
    go_roundg (m.length - (k + 1))
    case measure => omega
    case rel => exact ⟨k + 1, r, v, rfl, Qas ah.out, N.out.1, N.out.2, N.out.2.below c.out.2.2.2.2.2.1.forest fun _ h => h.elim⟩
   ·obtain ⟨kx, am⟩ : ∃ kx, m.length - 1 - k = kx := ⟨_, rfl⟩
    have E : kx < m.length := by omega
    have T : ∀ h : k < l.length, l[k] = m[kx] := fun h => by
     have e := c.out.2.1
     subst e
     subst am
     exact List.getElem_reverse _
    have a1 : wrap64 ((m.length : Int) - 1) = ((m.length - 1 : Nat) : Int) := by unfold wrap64; have := c.out.1; omega
    have a2 : wrap64 (((m.length - 1 : Nat) : Int) - (k : Int)) = (kx : Int) := by unfold wrap64; have := c.out.1; omega
    have i2 : (kx : Int) < (m.length : Int) := by omega
    obtain ⟨t, G, H⟩ := HK.out wr n.out.2.2
    obtain ⟨p, aw, R, al, I⟩ := t.key E
    obtain ⟨q, ax, Y, Z, D⟩ := t.val E
    simp only [Value.slice.injEq] at R Y
    obtain ⟨rfl, -, rfl⟩ := R
    obtain ⟨rfl, -, rfl⟩ := Y
    obtain ⟨O, z, J, L⟩ := t.ok _ (List.getElem_mem E)
    have o := fun s => Qn9 c.out.2.2.2.1 (by rw [c.out.2.2.1]; exact v : k < l.length) s
    have F : l[k]'(by rw [c.out.2.2.1]; exact v) = m[kx] := T (by rw [c.out.2.2.1]; exact v)
    rw [F] at o
    generalize m[kx] = x at I D O z J L o
    obtain ⟨K, u⟩ := x
    have b7 : (Tryz.prog.info? 42).map (·.size) = some (K.toList.map encB).length := by rw [Qb4]; simp [O]
    have ay := Tryz.underlying42
    have HP := Hq (n.out.1.drew.put n.out.2.1.forest.drew O z J L)
    have HSt := Hq o
    have Q : wrap64 ((k : Int) + 1) = ((k + 1 : Nat) : Int) := by unfold wrap64; have := c.out.1; omega
    have ah := Hq Q
    have hB := c.out.2.2.2.2.2.2.2.2.1
    have P : p < B := G p rfl
    have X : q < B := H q rfl
    have U : w.heap.size < wr.heap.size := by have := n.out.2.1.size; have := c.out.2.2.2.2.2.2.1; omega
    have HO : Hid (∀ r f, FrX B (· = w.heap.size + 1) S' r wr.drew f -> f.rangeAt p (kx * 32) (K.toList.map encB) /\ f.cell? ⟨w.heap.size, 0, none⟩ = some (.slice (some ⟨p, 0, none⟩) m.length y) /\ f.cell? ⟨w.heap.size, 1, none⟩ = some (.slice (some ⟨q, 0, none⟩) m.length M) /\ f.cell? ⟨q, kx, none⟩ = some (.string u)) := fun r f d => by
     have e0 := d.other w.heap.size U (n.out.2.1.new _ (by have := c.out.2.2.2.2.2.2.1; omega) c.out.2.2.2.2.2.2.2.1) (by show ¬ w.heap.size = w.heap.size + 1; omega)
     have e1 := d.other p al (n.out.2.1.forest.none P) (by show ¬ p = w.heap.size + 1; omega)
     have e2 := d.other q Z (n.out.2.1.forest.none X) (by show ¬ q = w.heap.size + 1; omega)
     exact ⟨Qa4 I e1, (World.cell?_of_block e0).trans c0, (World.cell?_of_block e0).trans c1, (World.cell?_of_block e2).trans D⟩
    clear am t O z J L o F Q T G H hB P X U
    go_upto_region 11 with fail
    go_region_held3 (fun w' => w'.rangeAt p (kx * 32) (K.toList.map encB) /\ w'.cell? ⟨w.heap.size, 0, none⟩ = some (.slice (some ⟨p, 0, none⟩) m.length y) /\ w'.cell? ⟨w.heap.size, 1, none⟩ = some (.slice (some ⟨q, 0, none⟩) m.length M) /\ w'.cell? ⟨q, kx, none⟩ = some (.string u)) (first | exact ⟨I, c0, c1, D⟩ | exact h1)
     (first | (go_at_call 18; refine HP.out.mono ?_; rintro x f ⟨rfl, r, W, d⟩; have h1 := HO.out r f d; have N : Hid (Tells r f (w.heap.size + 1) (getN (l.take (k + 1))) /\ FrX B (fun _ => False) S r W1 f) := ⟨W.congr fun s _ => HSt.out s, n.out.2.1.on (((Fr.of_below n.out.2.1.forest (Below.refl _ _).drew).x _).trans d) fun j hj => by rw [hj, c.out.2.2.2.2.2.2.1]; exact Nat.le_refl _⟩; clear W d))
    go_wp2
    go_roundg (m.length - (k + 1))
    case measure => omega
    case rel => exact ⟨k + 1, r, v, rfl, Qas ah.out, N.out.1, N.out.2, N.out.2.below c.out.2.2.2.2.2.1.forest fun _ h => h.elim⟩
  ·have i1 : ¬ (k : Int) < (m.length : Int) := by omega
   have N : Hid (Tells S' wr (w.heap.size + 1) (getN m)) := by
    have e : k = l.length := by have := c.out.2.2.1; omega
    have h := n.out.1
    rw [e, List.take_length] at h
    exact h.congr fun s _ => c.out.2.2.2.2.1 s
   go_wp2
   go_ret2
   exact ⟨w.heap.size + 1, by omega, rfl, S', N.out, (c.out.2.2.2.2.2.1.x _).trans n.out.2.1⟩
structure Two (B : Nat) (w0 : World) (S : Wood) (w : World) (bt bu : Nat) (gt gu : List Nat -> Option ByteArray) : Prop where
 forest : Forest B S w
 below : Below B w0 w
 t : Tells S w bt gt
 u : Tells S w bu gu
def over (l : Mp) (g : List Nat -> Option ByteArray) (s : List Nat) : Option ByteArray := (getN l s).or (g s)
def back (o : Mp) (k : Nat) (f g : List Nat -> Option ByteArray) (s : List Nat) : Option ByteArray := if s ∈ (o.take k).map pth then f s else g s
theorem Qux (l : List Nat) (hl : l.length = 32) (hb : ∀ x ∈ l, x < 256) (w : World) : (Op.equalIn 10000 37 (.agg (l.map encB).toArray) (.agg (l.map encB).toArray)).run Tryz.prog w = .ok true w := by
 have e : l.map encB = (l.map UInt8.ofNat).map Extern.Stop.cell := by
  rw [List.map_map]
  apply List.map_congr_left
  intro x b
  have := hb x b
  show Value.int .u8 _ = Value.int .u8 _
  congr 1
  simp
  omega
 have a : ∀ w, (sizeOf 5).run Tryz.prog w = .ok 1 w := fun w => by kernel_rfl
 have h := run_equalIn_bytes (P := Tryz.prog) w 9998 37 5 32 Tryz.underlying37 Tryz.underlying5 a (l.map UInt8.ofNat) (l.map UInt8.ofNat) (by simp [hl]) (by simp [hl])
 rw [<- e] at h
 rw [h, beq_self_eq_true]
theorem Qbk (w : World) : Forest w.heap.size (fun _ => none) w := ⟨fun _ _ h => (by cases h), fun _ _ h => (by cases h), fun _ _ h => (by cases h), Nat.le_refl _⟩
end Go.Proofs.YtakidhihbgfjlaaGreatDoor
