/-
  Package twigskeep: what a map of known making has for a path; trees and maps side by side.
  Package twigskeep: the program's tree of a map (Known.tree), in either order.
  Package twigskeep: does a tree say of a key what the map has? (Known.says): it answers yes, where the tree has what the map has.
  Package twigskeep: two trees side by side; what Orders' four loops do to what they have.
-/
import Derived.Test.YtjiikjpnlgogfaaGreatDoorSdKnG
import Derived.Test.YtjiikjpnlgogfaaGreatDoorSdTreB
namespace Go.Proofs.YtjiikjpnlgogfaaGreatDoor
open Go.RowKit
abbrev Mp := List (Array Nat × ByteArray)
def pth (x : Array Nat × ByteArray) : List Nat := nibs x.1.toList
def getN (m : Mp) (s : List Nat) : Option ByteArray := (m.find? fun x => decide (pth x = s)).map (·.2)
theorem getN_cons (x : Array Nat × ByteArray) (m : Mp) (s : List Nat) : getN (x :: m) s = if pth x = s then some x.2 else getN m s := by
 unfold getN
 rw [List.find?_cons]
 by_cases h : pth x = s <;> simp [h]
theorem getN_none {m : Mp} {s : List Nat} (h : ∀ x ∈ m, pth x ≠ s) : getN m s = none := by
 induction m with
 | nil => rfl
 | cons x m ih => rw [getN_cons, if_neg (h x (List.mem_cons_self ..)), ih fun y hy => h y (List.mem_cons_of_mem _ hy)]
theorem getN_some {m : Mp} {s : List Nat} {u : ByteArray} (h : getN m s = some u) : ∃ x ∈ m, pth x = s ∧ x.2 = u := by
 induction m with
 | nil => cases h
 | cons x m ih =>
  rw [getN_cons] at h
  by_cases e : pth x = s
  ·rw [if_pos e] at h
   exact ⟨x, List.mem_cons_self .., e, Option.some.inj h⟩
  ·rw [if_neg e] at h
   obtain ⟨y, hy, h1, h2⟩ := ih h
   exact ⟨y, List.mem_cons_of_mem _ hy, h1, h2⟩
theorem getN_no {m : Mp} {s : List Nat} (h : getN m s = none) : ∀ x ∈ m, pth x ≠ s := by
 induction m with
 | nil => intro x hx; cases hx
 | cons x m ih =>
  rw [getN_cons] at h
  by_cases e : pth x = s
  ·rw [if_pos e] at h; cases h
  ·rw [if_neg e] at h
   intro y hy
   rcases List.mem_cons.1 hy with rfl | hy
   ·exact e
   ·exact ih h y hy
theorem getN_mem {m : Mp} (hd : (m.map pth).Nodup) {x : Array Nat × ByteArray} (hx : x ∈ m) : getN m (pth x) = some x.2 := by
 induction m with
 | nil => cases hx
 | cons y m ih =>
  rw [List.map_cons, List.nodup_cons] at hd
  rw [getN_cons]
  rcases List.mem_cons.1 hx with rfl | hx
  ·rw [if_pos rfl]
  ·rw [if_neg (fun e : pth y = pth x => hd.1 (by rw [e]; exact List.mem_map_of_mem hx)), ih hd.2 hx]
theorem getN_perm {m m' : Mp} (hd' : (m'.map pth).Nodup) (h : ∀ x, x ∈ m ↔ x ∈ m') (s : List Nat) : getN m s = getN m' s := by
 cases e : getN m s with
 | none => exact (getN_none fun x hx => getN_no e x ((h x).2 hx)).symm
 | some u =>
  obtain ⟨x, hx, rfl, rfl⟩ := getN_some e
  exact (getN_mem hd' ((h x).1 hx)).symm
theorem getN_snoc {l : Mp} {x : Array Nat × ByteArray} (hd : ((l ++ [x]).map pth).Nodup) (s : List Nat) : getN (l ++ [x]) s = if s = pth x then some x.2 else getN l s := by
 by_cases e : s = pth x
 ·rw [if_pos e, e]
  exact getN_mem hd (by simp)
 ·rw [if_neg e]
  cases h : getN l s with
  | none =>
   refine getN_none fun y hy => ?_
   rcases List.mem_append.1 hy with hy | hy
   ·exact getN_no h y hy
   ·rw [List.mem_singleton.1 hy]; exact fun h => e h.symm
  | some u =>
   obtain ⟨y, hy, rfl, rfl⟩ := getN_some h
   exact getN_mem hd (List.mem_append_left _ hy)
theorem nibs_inj : ∀ {a b : List Nat}, nibs a = nibs b → a = b
 | [], [], _ => rfl
 | [], y :: b, h => by simp [nibs] at h
 | x :: a, [], h => by simp [nibs] at h
 | x :: a, y :: b, h => by
  have h1 : x / 16 :: x % 16 :: nibs a = y / 16 :: y % 16 :: nibs b := h
  simp only [List.cons.injEq] at h1
  rw [nibs_inj h1.2.2, show x = y by omega]
theorem pth_inj {x y : Array Nat × ByteArray} (h : pth x = pth y) : x.1 = y.1 := Array.toList_inj.1 (nibs_inj h)
theorem pth_dup {m : Mp} (h : (m.map (·.1)).Nodup) : (m.map pth).Nodup := by
 rw [List.Nodup, List.pairwise_map] at h ⊢
 exact h.imp fun h e => h (pth_inj e)
theorem findN_some {m : Mp} {K : Array Nat} {i : Nat} (h : findN m K = some i) : ∃ hi : i < m.length, m[i].1 = K := by
 induction m generalizing i with
 | nil => cases h
 | cons x m ih =>
  rw [findN] at h
  by_cases e : x.1 = K
  ·rw [if_pos e] at h
   obtain rfl := Option.some.inj h
   exact ⟨by simp, e⟩
  ·rw [if_neg e] at h
   obtain ⟨j, hj, rfl⟩ := Option.map_eq_some_iff.1 h
   obtain ⟨h1, h2⟩ := ih hj
   exact ⟨by simpa using h1, by simpa using h2⟩
theorem findN_none {m : Mp} {K : Array Nat} (h : findN m K = none) : ∀ x ∈ m, x.1 ≠ K := by
 induction m with
 | nil => intro x hx; cases hx
 | cons x m ih =>
  rw [findN] at h
  by_cases e : x.1 = K
  ·rw [if_pos e] at h; cases h
  ·rw [if_neg e] at h
   intro y hy
   rcases List.mem_cons.1 hy with rfl | hy
   ·exact e
   ·exact ih (by simpa using h) y hy
theorem find_get {m : Mp} (hd : (m.map pth).Nodup) {K : Array Nat} {i : Nat} (h : findN m K = some i) : ∃ hi : i < m.length, m[i].1 = K ∧ getN m (nibs K.toList) = some m[i].2 := by
 obtain ⟨hi, rfl⟩ := findN_some h
 exact ⟨hi, rfl, getN_mem hd (List.getElem_mem hi)⟩
theorem find_no {m : Mp} {K : Array Nat} (h : findN m K = none) : getN m (nibs K.toList) = none :=
 getN_none fun x hx e => findN_none h x hx (Array.toList_inj.1 (nibs_inj e))
theorem FrX.below {B : Nat} {X : Nat → Prop} {S S' : Wood} {w w' : World} (h : FrX B X S S' w w') (hf : Forest B S w) (hX : ∀ k, X k → B ≤ k) : Below B w w' :=
 ⟨h.os, h.tape, h.output, h.size, fun k hk => h.other k (Nat.lt_of_lt_of_le hk hf.le) (by
  cases e : S k with
  | none => rfl
  | some t => have := hf.low k t e; omega) fun hx => by have := hX k hx; omega⟩
structure Tells (S : Wood) (w : World) (b : Nat) (g : List Nat → Option ByteArray) : Prop where
 ex : ∃ t : Nd, TreeAt S w b t ∧ t.can 64 ∧ ∀ s, s.length = 64 → t.get s = g s
theorem Tells.congr {S : Wood} {w : World} {b : Nat} {g g' : List Nat → Option ByteArray} (h : Tells S w b g) (e : ∀ s, s.length = 64 → g s = g' s) : Tells S w b g' := by
 obtain ⟨t, h1, h2, h3⟩ := h.ex
 exact ⟨t, h1, h2, fun s hs => (h3 s hs).trans (e s hs)⟩
theorem Tells.put {B : Nat} {S : Wood} {w : World} {b : Nat} {g : List Nat → Option ByteArray} {K : Array Nat} {u : ByteArray} (h : Tells S w b g) (hf : Forest B S w) (hK : K.size = 32) (hKb : Bytes K) (hu0 : 0 < u.size) (hu1 : u.size ≤ 100) :
  Calls Tryz.prog 19 #[.pointer (some ⟨b, 0, none⟩), .agg (K.toList.map encB).toArray, .string u] w fun x w' => x = .returned (.int .i64 0) ∧ ∃ S', Tells S' w' b (fun s => if s = nibs K.toList then some u else g s) ∧ FrX B (· = b) S S' w w' := by
 obtain ⟨t, h1, h2, h3⟩ := h.ex
 refine (map_put hf h1 h2 hK hKb hu0 hu1).mono ?_
 rintro x w' ⟨rfl, S', t', ht', hc', hg', hf'⟩
 exact ⟨rfl, S', ⟨t', ht', hc', fun s hs => by rw [hg' s hs, h3 s hs]⟩, hf'⟩
end Go.Proofs.YtjiikjpnlgogfaaGreatDoor
namespace Go.Proofs.YtjiikjpnlgogfaaGreatDoor
open Go.RowKit
theorem Tells.drew {S : Wood} {w : World} {b : Nat} {g : List Nat → Option ByteArray} (h : Tells S w b g) : Tells S w.drew b g := by
 obtain ⟨t, h1, h2, h3⟩ := h.ex
 exact ⟨t, h1, h2, h3⟩
theorem Forest.drew {B : Nat} {S : Wood} {w : World} (hf : Forest B S w) : Forest B S w.drew := (Fr.of_below hf (Below.refl _ _).drew).forest
theorem Kn.len {w : World} {C : Nat} {pk pv : Option Addr} {mk ck mv cv : Nat} {m : Mp} (h : Kn w C (.slice pk mk ck) (.slice pv mv cv) m) : mk = m.length ∧ mv = m.length := by
 constructor
 ·rcases h.keys.2 with ⟨h1, h2⟩ | ⟨g, cap, h1, _⟩
  ·simp only [Value.slice.injEq] at h1; omega
  ·simp only [Value.slice.injEq] at h1; exact h1.2.1
 ·rcases h.vals.2 with ⟨h1, h2⟩ | ⟨g, cap, h1, _⟩
  ·simp only [Value.slice.injEq] at h1; omega
  ·simp only [Value.slice.injEq] at h1; exact h1.2.1
theorem Forest.none {B : Nat} {S : Wood} {w : World} (hf : Forest B S w) {k : Nat} (h : k < B) : S k = Option.none := by
 cases e : S k with
 | none => rfl
 | some t => have := hf.low k t e; omega
theorem FrX.on {B : Nat} {X : Nat → Prop} {S S1 S2 : Wood} {w w1 w2 : World} (h : FrX B (fun _ => False) S S1 w w1) (k : FrX B X S1 S2 w1 w2) (hX : ∀ j, X j → w.heap.size ≤ j) : FrX B (fun _ => False) S S2 w w2 :=
 ⟨k.os.trans h.os, k.tape.trans h.tape, k.output.trans h.output, Nat.le_trans h.size k.size, fun j hj hn _ => (k.other j (Nat.lt_of_lt_of_le hj h.size) (h.new j hj hn) fun hx => by have := hX j hx; omega).trans (h.other j hj hn fun h => h), k.forest, fun b t hb => k.sub b t (h.sub b t hb), fun j hj hn => k.new j (Nat.lt_of_lt_of_le hj h.size) (h.new j hj hn)⟩
theorem take_snoc {l : Mp} (hd : (l.map pth).Nodup) {k : Nat} (hk : k < l.length) (s : List Nat) : (if s = nibs l[k].1.toList then some l[k].2 else getN (l.take k) s) = getN (l.take (k + 1)) s := by
 have hd' : ((l.take k ++ [l[k]]).map pth).Nodup := by
  rw [← List.take_succ_eq_append_getElem hk]
  exact hd.sublist ((List.take_sublist _ _).map _)
 rw [List.take_succ_eq_append_getElem hk, getN_snoc hd']
 rfl
set_option maxRecDepth 100000 in
set_option maxHeartbeats 3200000 in
theorem ktree_any {B : Nat} {S : Wood} {w w0 : World} {C : Nat} {ks vs : Value} {m : Mp} (hk : Kn w0 C ks vs m) (h0 : w0.heap.size ≤ B) (hb0 : Below w0.heap.size w0 w) (hf : Forest B S w) (hm : m.length ≤ 1000) (hd : (m.map pth).Nodup) (tu : Bool) :
  Calls Tryz.prog 25 #[.agg #[ks, vs], .bool tu] w fun e w' => ∃ b, w.heap.size ≤ b ∧ e = .returned (.tuple #[.pointer (some ⟨b, 0, none⟩), .bool true]) ∧ ∃ S', Tells S' w' b (getN m) ∧ FrX B (fun _ => False) S S' w w' := by
 obtain ⟨pk, mk, ck, rfl⟩ := hk.keys.shape
 obtain ⟨pv, mv, cv, rfl⟩ := hk.vals.shape
 obtain ⟨rfl, rfl⟩ := hk.len
 obtain ⟨l, hl⟩ : ∃ l, (if tu then m.reverse else m) = l := ⟨_, rfl⟩
 have hll : l.length = m.length := by rw [← hl]; cases tu <;> simp
 have hld : (l.map pth).Nodup := by
  rw [← hl]
  cases tu
  ·exact hd
  ·rw [if_pos rfl, List.map_reverse]; exact List.pairwise_reverse.2 (hd.imp fun h => h.symm)
 have hlm : ∀ s, getN l s = getN m s := getN_perm hd fun x => by rw [← hl]; cases tu <;> simp
 obtain ⟨W1, hW1⟩ : ∃ W1, w.alloc (.cells #[.slice pk m.length ck, .slice pv m.length cv] 54) = W1 := ⟨_, rfl⟩
 have hb1 : Below w.heap.size w W1 := by rw [← hW1]; exact (Below.refl _ _).alloc (Nat.le_refl _) _
 have hs1 : W1.heap.size = w.heap.size + 1 := by rw [← hW1]; simp
 have hp1 : W1.heap[w.heap.size]? = some (.cells #[.slice pk m.length ck, .slice pv m.length cv] 54 (0, 0)) := by rw [← hW1]; exact Array.getElem?_push_size
 have hf1 := Fr.of_below hf hb1
 have HNw := Hid.hide (newt_any hf1.forest)
 have HX : Hid (m.length ≤ 1000 ∧ (if tu then m.reverse else m) = l ∧ l.length = m.length ∧ (l.map pth).Nodup ∧ (∀ s, getN l s = getN m s) ∧ Fr B S S w W1 ∧ W1.heap.size = w.heap.size + 1 ∧ S w.heap.size = none ∧ B ≤ w.heap.size ∧ W1.heap[w.heap.size]? = some (.cells #[.slice pk m.length ck, .slice pv m.length cv] 54 (0, 0))) := ⟨hm, hl, hll, hld, hlm, hf1, hs1, hf.fresh (Nat.le_refl _), hf.le, hp1⟩
 have HK : Hid (∀ wr, Below B W1 wr → Kn wr C (.slice pk m.length ck) (.slice pv m.length cv) m ∧ (∀ j, Value.ownBlock (.slice pk m.length ck) = some j → j < B) ∧ (∀ j, Value.ownBlock (.slice pv m.length cv) = some j → j < B)) := fun wr hbr => ⟨hk.below ((hb0.trans ((hb1.mono hb0.size))).trans (hbr.mono h0)), fun j hj => Nat.lt_of_lt_of_le (hk.keys.block j hj).2 h0, fun j hj => Nat.lt_of_lt_of_le (hk.vals.block j hj).2 h0⟩
 clear hk h0 hb0 hf hm hd hl hll hld hlm hb1 hs1 hp1 hf1
 go_enter Tryz.func25, Tryz.ntmps25
 go_wp2_with fail
 refine HNw.out.mono ?_
 rintro e w2 ⟨rfl, ht2, hf2, -⟩
 have hc2 : w2.cell? ⟨w.heap.size, 0, none⟩ = some (.slice pk m.length ck) := by
  have hs := HX.out.2.2.2.2.2.2.1
  rw [World.cell?_of_block (a := ⟨w.heap.size, 0, none⟩) (hf2.other w.heap.size (by omega) HX.out.2.2.2.2.2.2.2.1)]
  exact cell_of_row W1 _ 0 _ _ (0, 0) HX.out.2.2.2.2.2.2.2.2.2
 have hs1 := HX.out.2.2.2.2.2.2.1
 rw [hs1] at ht2 ⊢
 have H2 : Hid (Tells S w2 (w.heap.size + 1) (getN (l.take 0)) ∧ Fr B S S W1 w2 ∧ w.heap.size + 2 ≤ w2.heap.size) := ⟨⟨.no, ht2, trivial, fun s _ => rfl⟩, hf2, by have := ht2.lt; omega⟩
 clear ht2 hf2 HNw hW1 hs1
 go_wp2
 go_loopg [8] m.length (fun g i wr => ∃ (k : Nat) (S' : Wood), k ≤ m.length ∧ g = m.length - k ∧ i = .int .i64 (k : Int) ∧ Tells S' wr (w.heap.size + 1) (getN (l.take k)) ∧ FrX B (fun _ => False) S S' W1 wr ∧ Below B W1 wr)
 case atStart => exact ⟨0, S, Nat.zero_le _, rfl, rfl, H2.out.1, H2.out.2.1.x _, (H2.out.2.1.x fun _ => False).below HX.out.2.2.2.2.2.1.forest fun _ h => h.elim⟩
 case round =>
  obtain ⟨k, S', hk, rfl, rfl, ht, hfr, hbr⟩ := hrel
  have HS : Hid (Tells S' wr (w.heap.size + 1) (getN (l.take k)) ∧ FrX B (fun _ => False) S S' W1 wr ∧ Below B W1 wr) := ⟨ht, hfr, hbr⟩
  have hrow : wr.heap[w.heap.size]? = some (.cells #[.slice pk m.length ck, .slice pv m.length cv] 54 (0, 0)) := (hfr.other w.heap.size (by have := HX.out.2.2.2.2.2.2.1; omega) HX.out.2.2.2.2.2.2.2.1 fun h => h).trans HX.out.2.2.2.2.2.2.2.2.2
  have c0 := cell_of_row wr _ 0 _ _ (0, 0) hrow
  have c1 := cell_of_row wr _ 1 _ _ (0, 0) hrow
  clear ht hfr hbr hrow hc2
  by_cases hlt : k < m.length
  ·have i1 : (k : Int) < (m.length : Int) := by omega
   cases tu
   ·have hkx : k < m.length := hlt
    have hlk : ∀ h : k < l.length, l[k] = m[k] := fun h => by
     have e := HX.out.2.1
     subst e
     rfl
    obtain ⟨hKn, hlk1, hlv1⟩ := HK.out wr HS.out.2.2
    obtain ⟨gk, capk, hks, hgl, hrg⟩ := hKn.key hkx
    obtain ⟨gv, capv, hvs, hgl2, hcv⟩ := hKn.val hkx
    simp only [Value.slice.injEq] at hks hvs
    obtain ⟨rfl, -, rfl⟩ := hks
    obtain ⟨rfl, -, rfl⟩ := hvs
    obtain ⟨hK, hKb, hu0, hu1⟩ := hKn.ok _ (List.getElem_mem hkx)
    have hstp := fun s => take_snoc HX.out.2.2.2.1 (by rw [HX.out.2.2.1]; exact hlt : k < l.length) s
    have hlk' : l[k]'(by rw [HX.out.2.2.1]; exact hlt) = m[k] := hlk (by rw [HX.out.2.2.1]; exact hlt)
    rw [hlk'] at hstp
    generalize m[k] = x at hrg hcv hK hKb hu0 hu1 hstp
    obtain ⟨K, u⟩ := x
    have hsz : (Tryz.prog.info? 26).map (·.size) = some (K.toList.map encB).length := by rw [size51]; simp [hK]
    have hu26 := Tryz.underlying26
    have HP := Hid.hide (HS.out.1.drew.put HS.out.2.1.forest.drew hK hKb hu0 hu1)
    have HSt := Hid.hide hstp
    have hk1 : wrap64 ((k : Int) + 1) = ((k + 1 : Nat) : Int) := by unfold wrap64; have := HX.out.1; omega
    have HW1 := Hid.hide hk1
    have hB := HX.out.2.2.2.2.2.2.2.2.1
    have hgB : gk < B := hlk1 gk rfl
    have hvB : gv < B := hlv1 gv rfl
    have hns : w.heap.size < wr.heap.size := by have := HS.out.2.1.size; have := HX.out.2.2.2.2.2.2.1; omega
    have HO : Hid (∀ S1 w3, FrX B (· = w.heap.size + 1) S' S1 wr.drew w3 → w3.rangeAt gk (k * 32) (K.toList.map encB) ∧ w3.cell? ⟨w.heap.size, 0, none⟩ = some (.slice (some ⟨gk, 0, none⟩) m.length ck) ∧ w3.cell? ⟨w.heap.size, 1, none⟩ = some (.slice (some ⟨gv, 0, none⟩) m.length cv) ∧ w3.cell? ⟨gv, k, none⟩ = some (.string u)) := fun S1 w3 hf1 => by
     have e0 := hf1.other w.heap.size hns (HS.out.2.1.new _ (by have := HX.out.2.2.2.2.2.2.1; omega) HX.out.2.2.2.2.2.2.2.1) (by show ¬ w.heap.size = w.heap.size + 1; omega)
     have e1 := hf1.other gk hgl (HS.out.2.1.forest.none hgB) (by show ¬ gk = w.heap.size + 1; omega)
     have e2 := hf1.other gv hgl2 (HS.out.2.1.forest.none hvB) (by show ¬ gv = w.heap.size + 1; omega)
     exact ⟨rangeAt_block hrg e1, (World.cell?_of_block e0).trans c0, (World.cell?_of_block e0).trans c1, (World.cell?_of_block e2).trans hcv⟩
    clear hKn hK hKb hu0 hu1 hstp hlk' hk1 hlk hlk1 hlv1 hB hgB hvB hns
    go_upto_region 11 with fail
    go_region_held3 (fun w' => w'.rangeAt gk (k * 32) (K.toList.map encB) ∧ w'.cell? ⟨w.heap.size, 0, none⟩ = some (.slice (some ⟨gk, 0, none⟩) m.length ck) ∧ w'.cell? ⟨w.heap.size, 1, none⟩ = some (.slice (some ⟨gv, 0, none⟩) m.length cv) ∧ w'.cell? ⟨gv, k, none⟩ = some (.string u)) (first | exact ⟨hrg, c0, c1, hcv⟩ | exact h1)
     (first | (go_at_call 19; refine HP.out.mono ?_; rintro x w3 ⟨rfl, S1, ht1, hf1⟩; have h1 := HO.out S1 w3 hf1; have HE : Hid (Tells S1 w3 (w.heap.size + 1) (getN (l.take (k + 1))) ∧ FrX B (fun _ => False) S S1 W1 w3) := ⟨ht1.congr fun s _ => HSt.out s, HS.out.2.1.on (((Fr.of_below HS.out.2.1.forest (Below.refl _ _).drew).x _).trans hf1) fun j hj => by rw [hj, HX.out.2.2.2.2.2.2.1]; exact Nat.le_refl _⟩; clear ht1 hf1))
    go_wp2
    go_roundg (m.length - (k + 1))
    case measure => omega
    case rel => exact ⟨k + 1, S1, hlt, rfl, val_int HW1.out, HE.out.1, HE.out.2, HE.out.2.below HX.out.2.2.2.2.2.1.forest fun _ h => h.elim⟩
   ·obtain ⟨kx, hkx0⟩ : ∃ kx, m.length - 1 - k = kx := ⟨_, rfl⟩
    have hkx : kx < m.length := by omega
    have hlk : ∀ h : k < l.length, l[k] = m[kx] := fun h => by
     have e := HX.out.2.1
     subst e
     subst hkx0
     exact List.getElem_reverse _
    have a1 : wrap64 ((m.length : Int) - 1) = ((m.length - 1 : Nat) : Int) := by unfold wrap64; have := HX.out.1; omega
    have a2 : wrap64 (((m.length - 1 : Nat) : Int) - (k : Int)) = (kx : Int) := by unfold wrap64; have := HX.out.1; omega
    have i2 : (kx : Int) < (m.length : Int) := by omega
    obtain ⟨hKn, hlk1, hlv1⟩ := HK.out wr HS.out.2.2
    obtain ⟨gk, capk, hks, hgl, hrg⟩ := hKn.key hkx
    obtain ⟨gv, capv, hvs, hgl2, hcv⟩ := hKn.val hkx
    simp only [Value.slice.injEq] at hks hvs
    obtain ⟨rfl, -, rfl⟩ := hks
    obtain ⟨rfl, -, rfl⟩ := hvs
    obtain ⟨hK, hKb, hu0, hu1⟩ := hKn.ok _ (List.getElem_mem hkx)
    have hstp := fun s => take_snoc HX.out.2.2.2.1 (by rw [HX.out.2.2.1]; exact hlt : k < l.length) s
    have hlk' : l[k]'(by rw [HX.out.2.2.1]; exact hlt) = m[kx] := hlk (by rw [HX.out.2.2.1]; exact hlt)
    rw [hlk'] at hstp
    generalize m[kx] = x at hrg hcv hK hKb hu0 hu1 hstp
    obtain ⟨K, u⟩ := x
    have hsz : (Tryz.prog.info? 26).map (·.size) = some (K.toList.map encB).length := by rw [size51]; simp [hK]
    have hu26 := Tryz.underlying26
    have HP := Hid.hide (HS.out.1.drew.put HS.out.2.1.forest.drew hK hKb hu0 hu1)
    have HSt := Hid.hide hstp
    have hk1 : wrap64 ((k : Int) + 1) = ((k + 1 : Nat) : Int) := by unfold wrap64; have := HX.out.1; omega
    have HW1 := Hid.hide hk1
    have hB := HX.out.2.2.2.2.2.2.2.2.1
    have hgB : gk < B := hlk1 gk rfl
    have hvB : gv < B := hlv1 gv rfl
    have hns : w.heap.size < wr.heap.size := by have := HS.out.2.1.size; have := HX.out.2.2.2.2.2.2.1; omega
    have HO : Hid (∀ S1 w3, FrX B (· = w.heap.size + 1) S' S1 wr.drew w3 → w3.rangeAt gk (kx * 32) (K.toList.map encB) ∧ w3.cell? ⟨w.heap.size, 0, none⟩ = some (.slice (some ⟨gk, 0, none⟩) m.length ck) ∧ w3.cell? ⟨w.heap.size, 1, none⟩ = some (.slice (some ⟨gv, 0, none⟩) m.length cv) ∧ w3.cell? ⟨gv, kx, none⟩ = some (.string u)) := fun S1 w3 hf1 => by
     have e0 := hf1.other w.heap.size hns (HS.out.2.1.new _ (by have := HX.out.2.2.2.2.2.2.1; omega) HX.out.2.2.2.2.2.2.2.1) (by show ¬ w.heap.size = w.heap.size + 1; omega)
     have e1 := hf1.other gk hgl (HS.out.2.1.forest.none hgB) (by show ¬ gk = w.heap.size + 1; omega)
     have e2 := hf1.other gv hgl2 (HS.out.2.1.forest.none hvB) (by show ¬ gv = w.heap.size + 1; omega)
     exact ⟨rangeAt_block hrg e1, (World.cell?_of_block e0).trans c0, (World.cell?_of_block e0).trans c1, (World.cell?_of_block e2).trans hcv⟩
    clear hkx0 hKn hK hKb hu0 hu1 hstp hlk' hk1 hlk hlk1 hlv1 hB hgB hvB hns
    go_upto_region 11 with fail
    go_region_held3 (fun w' => w'.rangeAt gk (kx * 32) (K.toList.map encB) ∧ w'.cell? ⟨w.heap.size, 0, none⟩ = some (.slice (some ⟨gk, 0, none⟩) m.length ck) ∧ w'.cell? ⟨w.heap.size, 1, none⟩ = some (.slice (some ⟨gv, 0, none⟩) m.length cv) ∧ w'.cell? ⟨gv, kx, none⟩ = some (.string u)) (first | exact ⟨hrg, c0, c1, hcv⟩ | exact h1)
     (first | (go_at_call 19; refine HP.out.mono ?_; rintro x w3 ⟨rfl, S1, ht1, hf1⟩; have h1 := HO.out S1 w3 hf1; have HE : Hid (Tells S1 w3 (w.heap.size + 1) (getN (l.take (k + 1))) ∧ FrX B (fun _ => False) S S1 W1 w3) := ⟨ht1.congr fun s _ => HSt.out s, HS.out.2.1.on (((Fr.of_below HS.out.2.1.forest (Below.refl _ _).drew).x _).trans hf1) fun j hj => by rw [hj, HX.out.2.2.2.2.2.2.1]; exact Nat.le_refl _⟩; clear ht1 hf1))
    go_wp2
    go_roundg (m.length - (k + 1))
    case measure => omega
    case rel => exact ⟨k + 1, S1, hlt, rfl, val_int HW1.out, HE.out.1, HE.out.2, HE.out.2.below HX.out.2.2.2.2.2.1.forest fun _ h => h.elim⟩
  ·have i1 : ¬ (k : Int) < (m.length : Int) := by omega
   have HE : Hid (Tells S' wr (w.heap.size + 1) (getN m)) := by
    have e : k = l.length := by have := HX.out.2.2.1; omega
    have h := HS.out.1
    rw [e, List.take_length] at h
    exact h.congr fun s _ => HX.out.2.2.2.2.1 s
   go_wp2
   go_ret2
   exact ⟨w.heap.size + 1, by omega, rfl, S', HE.out, (HX.out.2.2.2.2.2.1.x _).trans HS.out.2.1⟩
end Go.Proofs.YtjiikjpnlgogfaaGreatDoor
namespace Go.Proofs.YtjiikjpnlgogfaaGreatDoor
open Go.RowKit
end Go.Proofs.YtjiikjpnlgogfaaGreatDoor
namespace Go.Proofs.YtjiikjpnlgogfaaGreatDoor
open Go.RowKit
structure Two (B : Nat) (w0 : World) (S : Wood) (w : World) (bt bu : Nat) (gt gu : List Nat → Option ByteArray) : Prop where
 forest : Forest B S w
 below : Below B w0 w
 t : Tells S w bt gt
 u : Tells S w bu gu
def over (l : Mp) (g : List Nat → Option ByteArray) (s : List Nat) : Option ByteArray := (getN l s).or (g s)
def back (o : Mp) (k : Nat) (f g : List Nat → Option ByteArray) (s : List Nat) : Option ByteArray := if s ∈ (o.take k).map pth then f s else g s
theorem forest_none (w : World) : Forest w.heap.size (fun _ => none) w := ⟨fun _ _ h => (by cases h), fun _ _ h => (by cases h), fun _ _ h => (by cases h), Nat.le_refl _⟩
end Go.Proofs.YtjiikjpnlgogfaaGreatDoor
