/-
  Paths and their codes: appendNibbles, OfKey, Code, Pack, Unpack, Common of package nibbles.
-/
import Derived.Test.YtjiikjpnlgogfaaDoorHeads
import Derived.Deep.RegionLaw
namespace Go.Proofs.YtjiikjpnlgogfaaDoor
open Go.RowKit

/-- The nibbles of bytes, the higher first. -/
def nibs (l : List Nat) : List Nat := l.flatMap fun x => [x / 16, x % 16]
theorem nibs_length (l : List Nat) : (nibs l).length = 2 * l.length := by
  induction l with
  | nil => rfl
  | cons x l ih =>
    have : nibs (x :: l) = [x / 16, x % 16] ++ nibs l := rfl
    rw [this, List.length_append, ih]
    simp
    omega
theorem nibs_snoc (l : List Nat) (x : Nat) : nibs (l ++ [x]) = nibs l ++ [x / 16, x % 16] := by
  unfold nibs
  rw [List.flatMap_append]
  simp

theorem wrap64_succ (x : Nat) (h : x < 4194304) : wrap64 ((x : Int) + 1) = ((x + 1 : Nat) : Int) := by
  unfold wrap64
  omega

theorem and15 (x : Nat) (h : x < 256) : bits .and .u8 (x : Int) 15 = ((x % 16 : Nat) : Int) := by
  have all : ∀ i : Fin 256, bits .and .u8 (i.val : Int) 15 = ((i.val % 16 : Nat) : Int) := by decide +kernel
  exact all ⟨x, h⟩

set_option maxRecDepth 100000 in
set_option maxHeartbeats 1600000 in
theorem nibbles_any {B : Nat} {v : Value} {l : List Nat} (s : ByteArray) (w : World) (hown : Own w B v l) (hB : B ≤ w.heap.size) (hs : s.size ≤ 4194304) (hl : l.length ≤ 4194304) :
    Calls Tryd.prog 45 #[v, .string s] w fun e w' => ∃ v', e = .returned v' ∧ Grew w w' B v v' (l ++ nibs (bytesOf s)) := by
  obtain ⟨i0, hi, hz0, hz1, hz2⟩ := info_parts infoU8
  have hbl := bytesOf_length s
  go_enter Tryd.func45, Tryd.ntmps45
  go_wp2
  go_loopg [0, 8] s.size (fun g u i wr => ∃ x : Nat, x ≤ s.size ∧ g = s.size - x ∧ i = .int .i64 (x : Int) ∧ Grew w wr B v u (l ++ nibs ((bytesOf s).take x)))
  case atStart => exact ⟨0, by omega, rfl, rfl, by simpa [nibs] using Grew.refl hown⟩
  case round =>
    obtain ⟨x, hx, rfl, rfl, hgr⟩ := hrel
    by_cases hlt : x < s.size
    · obtain ⟨c, hc⟩ : ∃ c, (bytesOf s)[x]! = c := ⟨_, rfl⟩
      have hcs : (s[x]'hlt).toNat = c := by
        rw [← hc]
        unfold bytesOf
        rw [getElem!_pos _ x (by simpa using hlt)]
        simp
        rfl
      have hc8 : c < 256 := by rw [← hcs]; exact UInt8.toNat_lt _
      have htk : (bytesOf s).take (x + 1) = (bytesOf s).take x ++ [c] := by
        rw [List.take_succ_eq_append_getElem (by omega), ← hc, getElem!_pos _ x (by omega)]
      have hnx : nibs ((bytesOf s).take (x + 1)) = nibs ((bytesOf s).take x) ++ [c / 16, c % 16] := by rw [htk, nibs_snoc]
      have hand := and15 c hc8
      have hcl : (nibs ((bytesOf s).take x)).length = 2 * x := by rw [nibs_length, List.length_take]; omega
      have hxi : (x : Int) < (s.size : Int) := by omega
      have AS : Aside (Grew w wr B v u0 (l ++ nibs ((bytesOf s).take x)) ∧ B ≤ w.heap.size ∧ l.length ≤ 4194304 ∧ s.size ≤ 4194304 ∧ (nibs ((bytesOf s).take x)).length = 2 * x ∧ nibs ((bytesOf s).take (x + 1)) = nibs ((bytesOf s).take x) ++ [c / 16, c % 16]) := ⟨hgr, hB, hl, hs, hcl, hnx⟩
      clear hgr hc htk hnx hcl hown hB hs hl hbl
      obtain ⟨m, hm⟩ : ∃ m, l ++ nibs ((bytesOf s).take x) = m := ⟨_, rfl⟩
      have HM : Hid (∀ u : Unit, l ++ nibs ((bytesOf s).take x) = m) := fun _ => hm
      have HO : Hid (Own (wr.drew.alloc (.cells #[.int .u8 ((c : Int) / 16), .int .u8 ((c : Int) % 16)] 5)) B u0 m) := by
        rw [← hm]
        exact AS.out.1.own.drew.alloc _
      have HN : Hid (∀ j, j < [c / 16, c % 16].length → (wr.drew.alloc (.cells #[.int .u8 ((c : Int) / 16), .int .u8 ((c : Int) % 16)] 5)).cell? ⟨wr.heap.size, 0 + j, none⟩ = some (encB [c / 16, c % 16][j]!)) := by
        intro j hj
        have e := World.cell?_alloc_new wr.drew #[.int .u8 ((c : Int) / 16), .int .u8 ((c : Int) % 16)] 5 (0 + j)
        refine Eq.trans e ?_
        match j, hj with
        | 0, _ => simp
        | 1, _ => simp
        | j + 2, hj => simp only [List.length_cons, List.length_nil] at hj; omega
      have h1 : m.length + [c / 16, c % 16].length ≤ 140737488355328 := by
        obtain ⟨_, _, a1, a2, a3, _⟩ := AS.out
        rw [← hm, List.length_append, a3]
        simp only [List.length_cons, List.length_nil]
        omega
      have h2 : B ≤ (wr.drew.alloc (.cells #[.int .u8 ((c : Int) / 16), .int .u8 ((c : Int) % 16)] 5)).heap.size := by
        have := AS.out.1.grown.size
        have := AS.out.2.1
        simp
        omega
      have H1 : Hid (m.length + [c / 16, c % 16].length ≤ 140737488355328) := h1
      have H2 : Hid (B ≤ (wr.drew.alloc (.cells #[.int .u8 ((c : Int) / 16), .int .u8 ((c : Int) % 16)] 5)).heap.size) := h2
      clear hm h1 h2
      go_wp2
      go_region_law (refine step_append_own8 _ rfl (.tmp 11) (.tmp 20) 73 rfl 5 i0 Tryd.underlying73 hi hz0 hz1 hz2 B u0 m (by simp [Act.eval]) HO.out wr.heap.size 0 2 [c / 16, c % 16] (by simp [Act.eval]) HN.out H1.out H2.out ?_; intro v2 w2 hgr)
      all_goals
        have G2 : Grew w w2 B v v2 (l ++ nibs ((bytesOf s).take (x + 1))) := by
          obtain ⟨a1, _, _, _, _, a6⟩ := AS.out
          rw [a6, ← List.append_assoc, HM.out ()]
          rw [HM.out ()] at a1
          exact a1.trans (hgr.after ((Below.refl _ _).drew.alloc (Nat.le_refl _) _))
        have AS2 : Aside (Grew w w2 B v v2 (l ++ nibs ((bytesOf s).take (x + 1)))) := G2
        clear G2 hgr HO HN H1 H2 HM hand hcs
        go_wp2
        obtain ⟨_, hB, hl, hs, _, _⟩ := AS.out
        go_roundg (s.size - (x + 1))
        case measure => omega
        case rel => exact ⟨x + 1, by omega, rfl, val_int (wrap64_succ x (by omega)), AS2.out⟩
    · have hxs : x = s.size := by omega
      have htk : (bytesOf s).take x = bytesOf s := List.take_of_length_le (by omega)
      rw [htk] at hgr
      have hxi : (s.size : Int) ≤ (x : Int) := by omega
      have AS : Aside (Grew w wr B v u0 (l ++ nibs (bytesOf s))) := hgr
      clear hgr hlt hxs htk hown hB hs hl hbl
      go_wp2
      go_ret
      exact ⟨u0, rfl, AS.out⟩

/-- Two nibbles a byte. -/
def pairs : List Nat → List Nat
  | a :: b :: r => (a * 16 + b) :: pairs r
  | _ => []
theorem pairs_length : ∀ l : List Nat, (pairs l).length = l.length / 2
  | [] => rfl
  | [_] => by simp [pairs]
  | a :: b :: r => by
    rw [pairs, List.length_cons, pairs_length r]
    simp only [List.length_cons]
    omega
theorem pairs_snoc : ∀ (l : List Nat) (a b : Nat), l.length % 2 = 0 → pairs (l ++ [a, b]) = pairs l ++ [a * 16 + b]
  | [], a, b, _ => rfl
  | [_], _, _, h => by simp at h
  | x :: y :: r, a, b, h => by
    have := pairs_snoc r a b (by simp at h; omega)
    simp only [List.cons_append, pairs, this]
/-- A path's code. -/
def pathCode (p : List Nat) (leaf : Bool) : List Nat :=
  ((if leaf then 32 else 0) + (if p.length % 2 = 1 then 16 + p[0]! else 0)) :: pairs (p.drop (p.length % 2))

theorem join_nib (a b : Nat) (ha : a < 16) (hb : b < 16) : bits .or .u8 ((a : Int) * 16) (b : Int) = ((a * 16 + b : Nat) : Int) := by
  have all : ∀ i : Fin 16, ∀ j : Fin 16, bits .or .u8 ((i.val : Int) * 16) (j.val : Int) = ((i.val * 16 + j.val : Nat) : Int) := by decide +kernel
  exact all ⟨a, ha⟩ ⟨b, hb⟩

theorem wrap_nib (c : Nat) (h : c < 16) : IntKind.u8.wrap ((c : Int) * 16) = (c : Int) * 16 := by
  simp only [IntKind.wrap, IntKind.bits, IntKind.signed]
  simp
  omega
theorem byte_at (r : ByteArray) (j : Nat) (hj : j < r.size) : (r[j]'hj).toNat = (bytesOf r)[j]! := by
  unfold bytesOf
  rw [getElem!_pos _ j (by simpa using hj)]
  simp
  rfl
theorem bytesOf_rest (s : ByteArray) : bytesOf (s.extract 1 s.size) = (bytesOf s).drop 1 := by
  unfold bytesOf
  rw [← List.map_drop]
  congr 1
  simp only [ByteArray.data_extract, Array.toList_extract, List.extract_eq_take_drop]
  rw [List.take_of_length_le]
  simp
theorem two_steps (x n : Nat) (hx : x < n) (hn : n ≤ 2097152) : wrap64 (2 * (x : Int) + 2) = 2 * ((x + 1 : Nat) : Int) ∧ wrap64 (2 * (x : Int) + 1) = 2 * (x : Int) + 1 := by
  unfold wrap64
  omega

/-- Two nibbles a byte; behind an odd one 0. -/
def pairsU : List Nat → List Nat
  | a :: b :: r => (a * 16 + b) :: pairsU r
  | [a] => [a * 16]
  | [] => []
theorem pairsU_even : ∀ l : List Nat, l.length % 2 = 0 → pairsU l = pairs l
  | [], _ => rfl
  | [_], h => by simp at h
  | a :: b :: r, h => by rw [pairsU, pairs, pairsU_even r (by simp only [List.length_cons] at h; omega)]
theorem pairsU_length : ∀ l : List Nat, (pairsU l).length = (l.length + 1) / 2
  | [] => rfl
  | [_] => by simp [pairsU]
  | a :: b :: r => by
    rw [pairsU, List.length_cons, pairsU_length r]
    simp only [List.length_cons]
    omega
theorem pairsU_snoc : ∀ (l : List Nat) (a b : Nat), l.length % 2 = 0 → pairsU (l ++ [a, b]) = pairsU l ++ [a * 16 + b]
  | [], a, b, _ => rfl
  | [_], _, _, h => by simp at h
  | x :: y :: r, a, b, h => by
    have := pairsU_snoc r a b (by simp at h; omega)
    simp only [List.cons_append, pairsU, this]
theorem pairsU_snoc1 : ∀ (l : List Nat) (a : Nat), l.length % 2 = 0 → pairsU (l ++ [a]) = pairsU l ++ [a * 16]
  | [], a, _ => rfl
  | [_], _, h => by simp at h
  | x :: y :: r, a, h => by
    have := pairsU_snoc1 r a (by simp at h; omega)
    simp only [List.cons_append, pairsU, this]

set_option maxRecDepth 100000 in
set_option maxHeartbeats 3200000 in
theorem pairs_any {B : Nat} {v : Value} {l : List Nat} (s : ByteArray) (w : World) (hown : Own w B v l) (hB : B ≤ w.heap.size) (hs : s.size ≤ 4194304) (hl : l.length ≤ 4194304) (hn : ∀ x ∈ bytesOf s, x < 16) :
    Calls Tryd.prog 65 #[v, .string s] w fun e w' => ∃ v', e = .returned v' ∧ Grew w w' B v v' (l ++ pairsU (bytesOf s)) := by
  obtain ⟨i0, hi, hz0, hz1, hz2⟩ := info_parts infoU8
  have hbl := bytesOf_length s
  have HS : Hid (s.size ≤ 4194304 ∧ B ≤ w.heap.size ∧ l.length ≤ 4194304 ∧ (∀ x ∈ bytesOf s, x < 16) ∧ (bytesOf s).length = s.size) := ⟨hs, hB, hl, hn, hbl⟩
  have HW : Hid (Own w B v l) := hown
  clear hown hB hs hl hn hbl
  go_enter Tryd.func65, Tryd.ntmps65
  go_wp2
  go_loopg [0, 5] s.size (fun g u i wr => ∃ x : Nat, 2 * x ≤ s.size + 1 ∧ g = s.size - 2 * x ∧ i = .int .i64 (2 * (x : Int)) ∧ Grew w wr B v u (l ++ pairsU ((bytesOf s).take (2 * x))))
  case atStart => exact ⟨0, by omega, rfl, rfl, by simpa [pairsU] using Grew.refl HW.out⟩
  case round =>
    obtain ⟨x, hx, rfl, rfl, hgr⟩ := hrel
    obtain ⟨hs, hB, hl, hn, hbl⟩ := HS.out
    by_cases hlt : 2 * x < s.size
    · obtain ⟨c, hc⟩ : ∃ c, (bytesOf s)[2 * x]! = c := ⟨_, rfl⟩
      have hcs : (s[2 * x]'hlt).toNat = c := by rw [← hc]; exact byte_at s (2 * x) hlt
      have hc16 : c < 16 := by rw [← hc, getElem!_pos (bytesOf s) _ (by omega)]; exact hn _ (List.getElem_mem _)
      have e1 : (bytesOf s)[2 * x]'(by omega) = c := by rw [← hc, getElem!_pos (bytesOf s) _ (by omega)]
      have t1 : wrap64 (2 * (x : Int) + 2) = 2 * ((x + 1 : Nat) : Int) := by unfold wrap64; omega
      have HT1 : Hid (wrap64 (2 * (x : Int) + 2) = 2 * ((x + 1 : Nat) : Int)) := t1
      have i1 : (2 * (x : Int)).toNat = 2 * x := by omega
      have i2 : (2 * (x : Int) + 1).toNat = 2 * x + 1 := by omega
      have i3 : 2 * (x : Int) < (s.size : Int) := by omega
      have k1 : IntKind.i64.wrap (2 * (x : Int) + 1) = 2 * (x : Int) + 1 := wrap_fits _ (by omega) (by omega)
      have k2 := wrap_nib c hc16
      have i5 : (0 : Int) ≤ 2 * (x : Int) := by omega
      have i6 : (0 : Int) ≤ 2 * (x : Int) + 1 := by omega
      have hcl : (pairsU ((bytesOf s).take (2 * x))).length ≤ 4194304 := by rw [pairsU_length, List.length_take]; omega
      have hev : ((bytesOf s).take (2 * x)).length % 2 = 0 := by rw [List.length_take]; omega
      have step : ∀ z : Nat, pairsU ((bytesOf s).take (2 * (x + 1))) = pairsU ((bytesOf s).take (2 * x)) ++ [z] → 
          Hid (∀ wr', wr' = wr.alloc (.cells #[.int .u8 (z : Int)] 5) → Own wr' B u0 (l ++ pairsU ((bytesOf s).take (2 * x))) ∧ (∀ j, j < [z].length → wr'.cell? ⟨wr.heap.size, 0 + j, none⟩ = some (encB [z][j]!)) ∧ (l ++ pairsU ((bytesOf s).take (2 * x))).length + [z].length ≤ 140737488355328 ∧ B ≤ wr'.heap.size ∧
            ∀ v2 w2, Grew wr' w2 B u0 v2 ((l ++ pairsU ((bytesOf s).take (2 * x))) ++ [z]) → Grew w w2 B v v2 (l ++ pairsU ((bytesOf s).take (2 * (x + 1))))) := by
        intro z hz wr' hw
        subst hw
        refine ⟨hgr.own.alloc _, ?_, ?_, ?_, ?_⟩
        · intro j hj
          have hj0 : j = 0 := by simpa using hj
          subst hj0
          exact World.cell?_alloc_new wr #[.int .u8 (z : Int)] 5 0
        · simp only [List.length_append, List.length_cons, List.length_nil]
          omega
        · have := hgr.grown.size
          simp
          omega
        · intro v2 w2 h2
          rw [hz, ← List.append_assoc]
          exact hgr.trans (h2.after ((Below.refl _ _).alloc (Nat.le_refl _) _))
      by_cases hl2 : 2 * x + 1 < s.size
      · obtain ⟨d, hd⟩ : ∃ d, (bytesOf s)[2 * x + 1]! = d := ⟨_, rfl⟩
        have hds : (s[2 * x + 1]'hl2).toNat = d := by rw [← hd]; exact byte_at s (2 * x + 1) hl2
        have hd16 : d < 16 := by rw [← hd, getElem!_pos (bytesOf s) _ (by omega)]; exact hn _ (List.getElem_mem _)
        have e2 : (bytesOf s)[2 * x + 1]'(by omega) = d := by rw [← hd, getElem!_pos (bytesOf s) _ (by omega)]
        have htk : (bytesOf s).take (2 * (x + 1)) = (bytesOf s).take (2 * x) ++ [c, d] := by
          rw [show 2 * (x + 1) = 2 * x + 1 + 1 by omega, List.take_succ_eq_append_getElem (by omega), List.take_succ_eq_append_getElem (by omega), e1, e2]
          simp
        have hjn := join_nib c d hc16 hd16
        have i4 : 2 * (x : Int) + 1 < (s.size : Int) := by omega
        obtain ⟨z, hz⟩ : ∃ z, c * 16 + d = z := ⟨_, rfl⟩
        have HO := step z (by rw [htk, pairsU_snoc _ _ _ hev, hz])
        rw [hz] at hjn
        clear htk e1 e2 hd hc hd16 hc16 hz step hgr hs hB hl hn hbl hcl hev t1
        go_wp2_with (at_builtin; refine wpList_append_own8 _ rfl _ _ 73 rfl 5 i0 Tryd.underlying73 hi hz0 hz1 hz2 B u0 _ rfl (HO.out _ rfl).1 wr.heap.size 0 1 [z] rfl (HO.out _ rfl).2.1 (HO.out _ rfl).2.2.1 (HO.out _ rfl).2.2.2.1 ?_; intro v2 w2 hgr; have AS2 : Aside (Grew w w2 B v v2 (l ++ pairsU ((bytesOf s).take (2 * (x + 1))))) := (HO.out _ rfl).2.2.2.2 _ _ hgr; clear hgr HO)
        clear hcs hds k1 k2 hjn i1 i2 i3 i4 i5 i6
        go_roundg (s.size - 2 * (x + 1))
        case measure => omega
        case rel => exact ⟨x + 1, by omega, rfl, val_int HT1.out, AS2.out⟩
      · have htk : (bytesOf s).take (2 * (x + 1)) = (bytesOf s).take (2 * x) ++ [c] := by
          rw [List.take_of_length_le (by omega), show bytesOf s = (bytesOf s).take (2 * x + 1) from (List.take_of_length_le (by omega)).symm, List.take_succ_eq_append_getElem (by omega), e1]
          rw [List.take_append_of_le_length (by rw [List.length_take]; omega), List.take_take, Nat.min_self]
        have i4 : (s.size : Int) ≤ 2 * (x : Int) + 1 := by omega
        obtain ⟨z, hz⟩ : ∃ z, c * 16 = z := ⟨_, rfl⟩
        have HO := step z (by rw [htk, pairsU_snoc1 _ _ hev, hz])
        have hz2' : (c : Int) * 16 = (z : Int) := by omega
        rw [hz2'] at k2
        clear htk e1 hc hc16 hz step hgr hs hB hl hn hbl hcl hev t1
        go_wp2_with (at_builtin; refine wpList_append_own8 _ rfl _ _ 73 rfl 5 i0 Tryd.underlying73 hi hz0 hz1 hz2 B u0 _ rfl (HO.out _ rfl).1 wr.heap.size 0 1 [z] rfl (HO.out _ rfl).2.1 (HO.out _ rfl).2.2.1 (HO.out _ rfl).2.2.2.1 ?_; intro v2 w2 hgr; have AS2 : Aside (Grew w w2 B v v2 (l ++ pairsU ((bytesOf s).take (2 * (x + 1))))) := (HO.out _ rfl).2.2.2.2 _ _ hgr; clear hgr HO)
        clear hcs k1 k2 hz2' i1 i2 i3 i4 i5 i6
        go_roundg (s.size - 2 * (x + 1))
        case measure => omega
        case rel => exact ⟨x + 1, by omega, rfl, val_int HT1.out, AS2.out⟩
    · have hxe : (s.size : Int) ≤ 2 * (x : Int) := by omega
      have htk : (bytesOf s).take (2 * x) = bytesOf s := List.take_of_length_le (by omega)
      rw [htk] at hgr
      have AS : Aside (Grew w wr B v u0 (l ++ pairsU (bytesOf s))) := hgr
      clear hgr hlt htk hs hB hl hn hbl
      go_wp2
      go_ret
      exact ⟨u0, rfl, AS.out⟩

set_option maxRecDepth 100000 in
set_option maxHeartbeats 3200000 in
theorem code_any (s : ByteArray) (leaf : Bool) (w : World) (hs : s.size ≤ 4194304) (hn : ∀ x ∈ bytesOf s, x < 16) :
    Calls Tryd.prog 44 #[.string s, .bool leaf] w fun e w' => e = .returned (.string (textB (pathCode (bytesOf s) leaf))) ∧ Below w.heap.size w w' := by
  have hbl := bytesOf_length s
  have HP : Hid (∀ (f : Nat) (r : ByteArray) (z : Int), z = (f : Int) → (∀ x ∈ bytesOf r, x < 16) → r.size ≤ 4194304 → (bytesOf r).length % 2 = 0 → Calls Tryd.prog 65 #[.slice (some ⟨w.heap.size, 0, none⟩) 1 1, .string r] (w.alloc (.cells #[.int .u8 z] 5)) fun e w' => ∃ v', e = .returned v' ∧ Below w.heap.size w w' ∧ (convert 73 9 v').run Tryd.prog w' = .ok (.string (textB (f :: pairs (bytesOf r)))) w') := by
    intro f r z hz h16 hr hev
    subst hz
    have o1 : Own (w.alloc (.cells #[.int .u8 (f : Int)] 5)) w.heap.size (.slice (some ⟨w.heap.size, 0, none⟩) 1 1) [f] := Own.ofCells w 5 [f] (by unfold maxLen; simp)
    refine (pairs_any r _ o1 (by simp) hr (by simp) h16).mono ?_
    rintro e w' ⟨v', rfl, hg⟩
    refine ⟨v', rfl, hg.below o1 ((Below.refl _ _).alloc (Nat.le_refl _) _) (by simp), ?_⟩
    have ho := hg.own
    rw [pairsU_even _ hev] at ho
    exact run_own_text w' 73 9 5 Tryd.underlying73 Tryd.underlying5 Tryd.underlying9 ho
  by_cases hodd : s.size % 2 = 1
  · have hoi : ((s.size : Int) % 2 == 1) = true := by simp; omega
    have hp : 0 < s.size := by omega
    obtain ⟨b, hb⟩ : ∃ b, (s[0]'hp).toNat = b := ⟨_, rfl⟩
    have hb2 : (bytesOf s)[0]! = b := by rw [← hb, byte_at s 0 hp]
    have hb16 : b < 16 := by rw [← hb2, getElem!_pos _ 0 (by omega)]; exact hn _ (List.getElem_mem _)
    have m1 : (16 + (b : Int)) % 256 = 16 + (b : Int) := by omega
    have m2 : (32 + (16 + (b : Int))) % 256 = 32 + (16 + (b : Int)) := by omega
    have AS : Aside (s.size ≤ 4194304 ∧ (∀ x ∈ bytesOf s, x < 16) ∧ (bytesOf s).length = s.size ∧ (bytesOf s)[0]! = b ∧ b < 16 ∧ s.size % 2 = 1) := ⟨hs, hn, hbl, hb2, hb16, hodd⟩
    clear hs hn hbl hb2 hb16 hodd
    go_enter Tryd.func44, Tryd.ntmps44
    cases leaf
    · go_wp2_with fail
      obtain ⟨hs, hn, hbl, hb2, hb16, hodd⟩ := AS.out
      have hcode : (16 + b) :: pairs (bytesOf (s.extract 1 s.size)) = pathCode (bytesOf s) false := by
        unfold pathCode
        rw [bytesOf_rest, hbl, hodd, if_pos rfl, hb2]
        simp
      refine (HP.out (16 + b) (s.extract 1 s.size) (16 + (b : Int)) (by simp) (by rw [bytesOf_rest]; exact fun x hx => hn x (List.mem_of_mem_drop hx)) (by have := bytesOf_length (s.extract 1 s.size); rw [bytesOf_rest, List.length_drop, hbl] at this; omega) (by rw [bytesOf_rest, List.length_drop, hbl]; omega)).mono ?_
      rintro e w1 ⟨v1, rfl, hb1, hcv⟩
      rw [hcode] at hcv
      obtain ⟨t, ht⟩ : ∃ t, textB (pathCode (bytesOf s) false) = t := ⟨_, rfl⟩
      rw [ht] at hcv
      have HT : Hid (textB (pathCode (bytesOf s) false) = t) := ht
      have AB : Aside (Below w.heap.size w w1) := hb1
      clear hb1 ht hcode hs hn hbl hodd
      go_wp2
      go_ret
      exact ⟨by rw [HT.out]; rfl, AB.out⟩
    · go_wp2_with fail
      obtain ⟨hs, hn, hbl, hb2, hb16, hodd⟩ := AS.out
      have hcode : (32 + (16 + b)) :: pairs (bytesOf (s.extract 1 s.size)) = pathCode (bytesOf s) true := by
        unfold pathCode
        rw [bytesOf_rest, hbl, hodd, if_pos rfl, hb2]
        simp
      refine (HP.out (32 + (16 + b)) (s.extract 1 s.size) (32 + (16 + (b : Int))) (by simp) (by rw [bytesOf_rest]; exact fun x hx => hn x (List.mem_of_mem_drop hx)) (by have := bytesOf_length (s.extract 1 s.size); rw [bytesOf_rest, List.length_drop, hbl] at this; omega) (by rw [bytesOf_rest, List.length_drop, hbl]; omega)).mono ?_
      rintro e w1 ⟨v1, rfl, hb1, hcv⟩
      rw [hcode] at hcv
      obtain ⟨t, ht⟩ : ∃ t, textB (pathCode (bytesOf s) true) = t := ⟨_, rfl⟩
      rw [ht] at hcv
      have HT : Hid (textB (pathCode (bytesOf s) true) = t) := ht
      have AB : Aside (Below w.heap.size w w1) := hb1
      clear hb1 ht hcode hs hn hbl hodd
      go_wp2
      go_ret
      exact ⟨by rw [HT.out]; rfl, AB.out⟩
  · have hoi : ((s.size : Int) % 2 == 1) = false := by simp; omega
    have AS : Aside (s.size ≤ 4194304 ∧ (∀ x ∈ bytesOf s, x < 16) ∧ (bytesOf s).length = s.size ∧ s.size % 2 = 0) := ⟨hs, hn, hbl, by omega⟩
    clear hs hn hbl hodd
    go_enter Tryd.func44, Tryd.ntmps44
    cases leaf
    · go_wp2_with fail
      obtain ⟨hs, hn, hbl, hodd⟩ := AS.out
      have hcode : 0 :: pairs (bytesOf s) = pathCode (bytesOf s) false := by
        unfold pathCode
        rw [hbl, hodd]
        rfl
      refine (HP.out 0 s 0 (by rfl) (hn) (hs) (by rw [hbl]; exact hodd)).mono ?_
      rintro e w1 ⟨v1, rfl, hb1, hcv⟩
      rw [hcode] at hcv
      obtain ⟨t, ht⟩ : ∃ t, textB (pathCode (bytesOf s) false) = t := ⟨_, rfl⟩
      rw [ht] at hcv
      have HT : Hid (textB (pathCode (bytesOf s) false) = t) := ht
      have AB : Aside (Below w.heap.size w w1) := hb1
      clear hb1 ht hcode hs hn hbl hodd
      go_wp2
      go_ret
      exact ⟨by rw [HT.out]; rfl, AB.out⟩
    · go_wp2_with fail
      obtain ⟨hs, hn, hbl, hodd⟩ := AS.out
      have hcode : 32 :: pairs (bytesOf s) = pathCode (bytesOf s) true := by
        unfold pathCode
        rw [hbl, hodd]
        rfl
      refine (HP.out 32 s 32 (by rfl) (hn) (hs) (by rw [hbl]; exact hodd)).mono ?_
      rintro e w1 ⟨v1, rfl, hb1, hcv⟩
      rw [hcode] at hcv
      obtain ⟨t, ht⟩ : ∃ t, textB (pathCode (bytesOf s) true) = t := ⟨_, rfl⟩
      rw [ht] at hcv
      have HT : Hid (textB (pathCode (bytesOf s) true) = t) := ht
      have AB : Aside (Below w.heap.size w w1) := hb1
      clear hb1 ht hcode hs hn hbl hodd
      go_wp2
      go_ret
      exact ⟨by rw [HT.out]; rfl, AB.out⟩
end Go.Proofs.YtjiikjpnlgogfaaDoor
