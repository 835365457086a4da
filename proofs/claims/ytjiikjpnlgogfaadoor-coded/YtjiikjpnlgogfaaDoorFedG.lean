/-
  Package twigskeep: raw bytes that are read one by one.
  A code is accepted, and gives what was encoded: items, paths, accounts; and a code has the length that its parts make. Plain facts on lists of bytes.
  Package twigskeep: size: the length of an item's code, counted from its parts; fine.
  Package twigskeep: item, half made: what its loop keeps.
  Package twigskeep: item: an item out of raw bytes: the walk.
  Package twigskeep: item: of some lists in one another.
-/
import Derived.Test.YtjiikjpnlgogfaaDoorSmall
import Derived.Test.YtjiikjpnlgogfaaDoorBare2
import Derived.Test.YtjiikjpnlgogfaaDoorPack
import Derived.Test.YtjiikjpnlgogfaaDoorBare
import Derived.BigQuiet
import Derived.Deep.DeepCutAuto
namespace Go.Proofs.YtjiikjpnlgogfaaDoor
open Go.RowKit

structure FeedAt (w : World) (fb : Nat) (raw : ByteArray) : Prop where
  lt : fb < w.heap.size
  c0 : w.cell? ⟨fb, 0, none⟩ = some (.string raw)
  c1 : ∃ k : Nat, w.cell? ⟨fb, 1, none⟩ = some (.int .i64 (k : Int)) ∧ k ≤ raw.size
  free : w.frozen? ⟨fb, 1, none⟩ = false
theorem FeedAt.keep {w w' : World} {fb : Nat} {raw : ByteArray} (h : FeedAt w fb raw) (e : w'.heap[fb]? = w.heap[fb]?) (hs : w.heap.size ≤ w'.heap.size) : FeedAt w' fb raw := by
  obtain ⟨h1, h2, ⟨k, h3, h4⟩, h5⟩ := h
  exact ⟨Nat.lt_of_lt_of_le h1 hs, (World.cell?_of_block e).trans h2, ⟨k, (World.cell?_of_block e).trans h3, h4⟩, (World.frozen?_of_block e).trans h5⟩
theorem FeedAt.below {w w' : World} {fb : Nat} {raw : ByteArray} (h : FeedAt w fb raw) (hb : Below w.heap.size w w') : FeedAt w' fb raw := h.keep (hb.block fb h.lt) hb.size

/-- What the next byte gives: a number below n. -/
def NextSaid (n fb : Nat) (raw : ByteArray) (w : World) (e : Ending) (w' : World) : Prop :=
  ∃ k : Nat, k < n ∧ e = .returned (.int .i64 (k : Int)) ∧ Only fb w w' ∧ w'.heap.size = w.heap.size ∧ FeedAt w' fb raw

set_option maxRecDepth 100000 in
theorem next_any (n : Nat) (hn : 0 < n) (hn2 : n ≤ 256) (fb : Nat) (raw : ByteArray) (w : World) (h : FeedAt w fb raw) (hr : raw.size ≤ 9223372036854775807) :
    Calls Tryd.prog 18 #[.pointer (some ⟨fb, 0, none⟩), .int .i64 (n : Int)] w (NextSaid n fb raw w) := by
  have HF := Hid.hide h
  obtain ⟨hlt, c0, ⟨k, c1, hk⟩, hfz⟩ := h
  have HK : Hid (k ≤ raw.size ∧ raw.size ≤ 9223372036854775807 ∧ 0 < n ∧ n ≤ 256) := ⟨hk, hr, hn, hn2⟩
  have hn0 : (n : Int) ≠ 0 := by omega
  have hnb : ((n : Int) == 0) = false := by simp; omega
  by_cases hlt2 : k < raw.size
  · have h1 : (k : Int) < (raw.size : Int) := by omega
    obtain ⟨c, hc⟩ : ∃ c, (raw[k]'hlt2).toNat = c := ⟨_, rfl⟩
    have hc8 : c < 256 := by rw [← hc]; exact UInt8.toNat_lt _
    have hres : (wrap64 (c : Int)).tmod (n : Int) = ((c % n : Nat) : Int) := by
      rw [show wrap64 (c : Int) = (c : Int) by unfold wrap64; omega]
      rfl
    have HR : Hid ((wrap64 (c : Int)).tmod (n : Int) = ((c % n : Nat) : Int)) := hres
    clear hres
    have hmn : c % n < n := Nat.mod_lt _ hn
    have hwr : wrap64 ((k : Int) + 1) = ((k + 1 : Nat) : Int) := by unfold wrap64; omega
    have HC : Hid (c < 256 ∧ c % n < n) := ⟨hc8, hmn⟩
    clear hk hr hn hn2 hc8 hmn
    go_enter Tryd.func18, Tryd.ntmps18
    go_wp2
    go_region
    go_wp2
    go_region
    go_wp2
    go_ret
    refine ⟨c % n, HC.out.2, congrArg Ending.returned (val_int HR.out), ?_, ?_, ?_⟩
    · exact ⟨rfl, rfl, rfl, by simp, fun j _ hne => Below.heap_setCell _ _ _ _ hne⟩
    · simp
    · refine ⟨by simpa using hlt, (World.cell?_setCell_other _ _ _ _ (by simp)).trans c0, ⟨k + 1, ?_, by omega⟩, (World.frozen?_setCell w _ _ _).trans hfz⟩
      exact World.cell?_setCell_same w _ _ c1
  · have h1 : (raw.size : Int) ≤ (k : Int) := by omega
    clear hk hr hn hn2
    go_enter Tryd.func18, Tryd.ntmps18
    go_wp2
    go_region
    go_wp2
    go_ret
    exact ⟨0, HK.out.2.2.1, rfl, .of_below (Below.refl _ _).drew, rfl, HF.out.below (Below.refl _ _).drew⟩
end Go.Proofs.YtjiikjpnlgogfaaDoor

namespace Go.Proofs.YtjiikjpnlgogfaaDoor
open Go.RowKit

theorem numB_bigAt (n : Nat) (hn : n < 18446744073709551616) : ∀ i, i ≤ 8 → numB (bigAt n i) = n / 2 ^ (64 - 8 * i) ∧ (bigAt n i ≠ [] → (bigAt n i)[0]! ≠ 0) := by
  intro i
  induction i with
  | zero =>
    intro _
    refine ⟨?_, fun h => absurd rfl h⟩
    rw [bigAt]
    show 0 = n / 2 ^ 64
    rw [Nat.div_eq_of_lt (by simpa using hn)]
  | succ i ih =>
    intro hi
    obtain ⟨h1, h2⟩ := ih (by omega)
    have e : 2 ^ (64 - 8 * i) = 2 ^ (56 - 8 * i) * 256 := by
      rw [show 64 - 8 * i = 56 - 8 * i + 8 by omega, Nat.pow_add]
    rw [e, ← Nat.div_div_eq_div_mul] at h1
    rw [bigAt, show 64 - 8 * (i + 1) = 56 - 8 * i by omega]
    generalize hq : n / 2 ^ (56 - 8 * i) = q at h1 ⊢
    by_cases hz : q = 0
    · rw [if_pos hz]
      exact ⟨by rw [h1, hz], h2⟩
    · rw [if_neg hz]
      refine ⟨by rw [numB_snoc, h1]; omega, fun _ => ?_⟩
      cases hb : bigAt n i with
      | nil =>
        rw [hb] at h1
        have h0 : (0 : Nat) = q / 256 := h1
        simp only [List.nil_append, List.getElem!_cons_zero]
        omega
      | cons a r =>
        rw [hb] at h2
        have := h2 (by simp)
        simpa using this
theorem numB_bigE {n : Nat} (hn : n < 18446744073709551616) : numB (bigE n) = n := by
  have := (numB_bigAt n hn 8 (Nat.le_refl _)).1
  simpa [bigE] using this
theorem bigE_first {n : Nat} (hn : n < 18446744073709551616) : bigE n ≠ [] → (bigE n)[0]! ≠ 0 := (numB_bigAt n hn 8 (Nat.le_refl _)).2
theorem bigE_le (n : Nat) : (bigE n).length ≤ 8 := bigAt_length n 8
theorem bigE_byte (n : Nat) : ∀ x ∈ bigE n, x < 256 := by
  have h : ∀ i, ∀ x ∈ bigAt n i, x < 256 := by
    intro i
    induction i with
    | zero => intro x hx; cases hx
    | succ i ih =>
      intro x hx
      rw [bigAt] at hx
      split at hx
      · exact ih x hx
      · rcases List.mem_append.1 hx with h | h
        · exact ih x h
        · rw [List.mem_singleton.1 h]
          omega
  exact h 8
theorem bigE_pos {n : Nat} (hn : n < 18446744073709551616) (h0 : n ≠ 0) : bigE n ≠ [] := fun h => h0 (by have := numB_bigE hn; rw [h] at this; exact this.symm)

theorem numB_ge : ∀ (r : List Nat) (x : Nat), x ≠ 0 → 256 ^ r.length ≤ numB (x :: r) := by
  have h : ∀ (r : List Nat) (n : Nat), n * 256 ^ r.length ≤ r.foldl (fun n x => n * 256 + x) n := by
    intro r
    induction r with
    | nil => intro n; simp
    | cons y r ih =>
      intro n
      rw [List.foldl_cons, List.length_cons, Nat.pow_succ]
      refine Nat.le_trans ?_ (ih _)
      rw [Nat.mul_comm (256 ^ r.length) 256, ← Nat.mul_assoc]
      exact Nat.mul_le_mul_right _ (by omega)
  intro r x hx
  unfold numB
  rw [List.foldl_cons]
  refine Nat.le_trans ?_ (h r _)
  have : 1 ≤ 0 * 256 + x := by omega
  simpa using Nat.mul_le_mul_right (256 ^ r.length) this
/-- How many bytes a head has. -/
theorem headB_small (k n : Nat) : (n ≤ 55 → (headB k n).length = 1) ∧ (55 < n → n ≤ 255 → (headB k n).length = 2) ∧ (255 < n → n ≤ 65535 → (headB k n).length = 3) := by
  have key : ∀ m, 55 < n → n < 256 ^ m → 256 ^ m ≤ 256 * n → m ≤ 3 → (headB k n).length = m + 1 := by
    intro m h55 hlt hge hm
    have hn : n < 18446744073709551616 := by
      have : 256 ^ m ≤ 256 ^ 3 := Nat.pow_le_pow_right (by decide) hm
      have : (256 : Nat) ^ 3 = 16777216 := by decide
      omega
    unfold headB
    rw [if_neg (by omega), List.length_cons]
    have h1 := numB_bigE hn
    have hf := bigE_first hn
    have hb := bigE_byte n
    cases hB : bigE n with
    | nil => exact absurd hB (bigE_pos hn (by omega))
    | cons x r =>
      rw [hB] at h1 hf hb
      have l1 := numB_lt (x :: r) hb
      have l2 := numB_ge r x (by simpa using hf (by simp))
      rw [h1] at l1 l2
      rw [List.length_cons] at l1 ⊢
      have a1 : m - 1 < r.length + 1 := by
        by_cases hc : r.length + 1 ≤ m - 1
        · have := Nat.pow_le_pow_right (n := 256) (by decide) hc
          have e : 256 ^ m = 256 ^ (m - 1) * 256 := by
            cases m with
            | zero => omega
            | succ m => rw [Nat.pow_succ]; rfl
          omega
        · omega
      have a2 : r.length < m := by
        by_cases hc : m ≤ r.length
        · have := Nat.pow_le_pow_right (n := 256) (by decide) hc
          omega
        · omega
      omega
  refine ⟨fun h => ?_, fun h1 h2 => ?_, fun h1 h2 => ?_⟩
  · unfold headB
    rw [if_pos h]
    rfl
  · exact key 1 h1 (by omega) (by omega) (by omega)
  · exact key 2 (by omega) (by omega) (by omega) (by omega)

theorem lenF_full {k n : Nat} (hk : k = 128 ∨ k = 192) (hn : n < 18446744073709551616) (t : List Nat) (ht : n ≤ t.length) : lenF (headB k n ++ t) k = .ok ((headB k n).length, n) := by
  unfold lenF headB
  by_cases h : n ≤ 55
  · rw [if_pos h]
    have e : (k + n) % 256 - k = n := by omega
    simp only [List.cons_append, List.nil_append, List.getElem!_cons_zero, List.length_cons, List.length_nil, e]
    rw [if_pos h, if_neg (by omega)]
  · rw [if_neg h]
    have hm := bigE_le n
    have h1 := numB_bigE hn
    have hf := bigE_first hn (bigE_pos hn (by omega))
    have hne := bigE_pos hn (by omega : n ≠ 0)
    generalize bigE n = B at hm h1 hf hne ⊢
    have hp : 1 ≤ B.length := by
      cases B with
      | nil => exact absurd rfl hne
      | cons => simp
    have e : (k + 55 + B.length) % 256 - k = 55 + B.length := by omega
    have e1 : (((k + 55 + B.length) % 256 :: B ++ t).drop 1).take B.length = B := by
      simp
    have e2 : ((k + 55 + B.length) % 256 :: B ++ t)[1]! = B[0]! := by
      cases B with
      | nil => exact absurd rfl hne
      | cons x r => simp
    simp only [List.cons_append, List.getElem!_cons_zero, e] at e1 e2 ⊢
    rw [if_neg (by omega), show 55 + B.length - 55 = B.length by omega, e1, e2, h1, show 55 + B.length - 54 = B.length + 1 by omega]
    simp only [List.length_cons, List.length_append]
    rw [if_neg (by omega), if_neg (by omega), if_neg (by omega)]

theorem textCode_cut (t r : List Nat) : (textCode t ++ r).drop ((textCode t).length - t.length) = t ++ r := by
  unfold textCode
  split
  · simp
  · rw [List.length_append, Nat.add_sub_cancel, List.append_assoc, List.drop_append_of_le_length (Nat.le_refl _), List.drop_length, List.nil_append]
theorem headF_code (t r : List Nat) (ht : t.length < 18446744073709551616) : headF (textCode t ++ r) = .ok (false, (textCode t).length - t.length, t.length) := by
  unfold headF
  have hp := (textCode_pos t).1
  rw [if_neg (by rw [List.length_append]; omega)]
  by_cases h1 : t.length = 1 ∧ t[0]! < 128
  · have e : textCode t = t := by
      unfold textCode
      rw [if_pos h1]
      rfl
    obtain ⟨x, rfl⟩ := List.length_eq_one_iff.1 h1.1
    rw [e]
    have h2 : x < 128 := by simpa using h1.2
    simp [h2]
  · have e : textCode t = headB 128 t.length ++ t := by
      unfold textCode
      rw [if_neg h1]
    rw [e, List.append_assoc, lenF_full (.inl rfl) ht (t ++ r) (by rw [List.length_append]; omega)]
    have h0 : 128 ≤ (headB 128 t.length ++ (t ++ r))[0]! ∧ (headB 128 t.length ++ (t ++ r))[0]! < 192 := by
      have hm := bigE_le t.length
      unfold headB
      split
      · simp only [List.cons_append, List.getElem!_cons_zero]
        omega
      · simp only [List.cons_append, List.getElem!_cons_zero]
        omega
    rw [if_neg (by omega), if_pos h0.2]
    simp only
    have hl : (headB 128 t.length ++ t).length - t.length = (headB 128 t.length).length := by rw [List.length_append]; omega
    rw [hl, if_neg]
    rintro ⟨e1, e2⟩
    refine h1 ⟨e1, ?_⟩
    have hlt : (headB 128 t.length).length < (headB 128 t.length ++ (t ++ r)).length := by rw [List.length_append, List.length_append]; omega
    rw [getElem!_pos (headB 128 t.length ++ (t ++ r)) _ hlt, List.getElem_append_right (Nat.le_refl _)] at e2
    simp only [Nat.sub_self] at e2
    rw [List.getElem_append_left (by omega)] at e2
    rw [getElem!_pos t 0 (by omega)]
    exact e2
theorem headF_codes (p r : List Nat) (hp : p.length < 18446744073709551616) : headF (listCode p ++ r) = .ok (true, (headB 192 p.length).length, p.length) := by
  unfold headF listCode
  have h1 := headB_pos 192 p.length
  rw [if_neg (by rw [List.length_append, List.length_append]; omega), List.append_assoc, lenF_full (.inr rfl) hp (p ++ r) (by rw [List.length_append]; omega)]
  have h0 : 192 ≤ (headB 192 p.length ++ (p ++ r))[0]! := by
    have hm := bigE_le p.length
    unfold headB
    split
    · simp only [List.cons_append, List.getElem!_cons_zero]
      omega
    · simp only [List.cons_append, List.getElem!_cons_zero]
      omega
  rw [if_neg (by omega), if_neg (by omega)]

/-- Of at most so many lists in one another. -/
def fits : Nat → It → Prop
  | _, .text _ _ _ => True
  | 0, .list _ _ _ => False
  | d + 1, .list _ _ l => ∀ x ∈ l, fits d x

/-- What reading an item's code gives. -/
def ReadFull (rd : Nat → Except Er It) (l : List Nat) (x : It) : Prop :=
  ∀ (fr : Nat) (r : List Nat), fr ≤ l.length → l.drop fr = x.code ++ r → ∃ y, rd fr = .ok y ∧ y.bare = x.bare ∧ y.to = fr + x.code.length

theorem readIts_full {rd : Nat → Except Er It} {l : List Nat} {n : Nat} (hn : n = l.length) : ∀ (its : List It) (k fr : Nat), fr ≤ n → l.drop fr = codes its → (codes its).length ≤ k → (∀ x ∈ its, ReadFull rd l x) → ∃ ys, readIts rd n k fr = .ok ys ∧ bares ys = bares its := by
  intro its
  induction its with
  | nil =>
    intro k fr hfr hd hk _
    refine ⟨[], ?_, rfl⟩
    have hle : l.length ≤ fr := by
      have := congrArg List.length hd
      rw [List.length_drop] at this
      simp only [codes, List.length_nil] at this
      omega
    cases k with
    | zero => rfl
    | succ k => rw [readIts, if_neg (by omega)]
  | cons x its ih =>
    intro k fr hfr hd hk hr
    rw [codes] at hd hk
    have hx := code_pos x
    rw [List.length_append] at hk
    have hlt : fr < n := by
      have := congrArg List.length hd
      rw [List.length_drop, List.length_append] at this
      omega
    cases k with
    | zero => omega
    | succ k =>
      obtain ⟨y, h1, h2, h3⟩ := hr x (List.mem_cons_self ..) fr (codes its) (by omega) hd
      have hlen := congrArg List.length hd
      rw [List.length_drop, List.length_append] at hlen
      obtain ⟨ys, h4, h5⟩ := ih k y.to (by omega) (by rw [h3, ← List.drop_drop, hd, List.drop_left]) (by omega) (fun z hz => hr z (List.mem_cons_of_mem _ hz))
      refine ⟨y :: ys, ?_, by rw [bares, bares, h2, h5]⟩
      rw [readIts, if_pos hlt, h1]
      simp only
      rw [h4]

theorem readIt_full : ∀ (d : Nat) (x : It) (l : List Nat), fits d x → x.code.length < 18446744073709551616 → ReadFull (readIt d l) l x := by
  have htext : ∀ (d a b : Nat) (t : List Nat) (l : List Nat), (It.text a b t).code.length < 18446744073709551616 → ReadFull (readIt d l) l (.text a b t) := by
    intro d a b t l hx fr r hfr hd
    rw [It.code] at hd hx ⊢
    have hp := textCode_pos t
    have hh := headF_code t r (by omega)
    have hc := textCode_cut t r
    rw [← hd] at hh hc
    rw [List.drop_drop] at hc
    refine ⟨.text fr (fr + ((textCode t).length - t.length) + t.length) t, ?_, rfl, ?_⟩
    · have e : (l.drop (fr + ((textCode t).length - t.length))).take t.length = t := by rw [hc, List.take_left]
      cases d with
      | zero => rw [readIt, hh]; simp only [Bool.false_eq_true, if_false]; rw [e]
      | succ d => rw [readIt, hh]; simp only [Bool.false_eq_true, if_false]; rw [e]
    · rw [It.to]
      omega
  intro d
  induction d with
  | zero =>
    intro x l hf hx
    cases x with
    | text a b t => exact htext 0 a b t l hx
    | list a b its => exact absurd hf (by simp [fits])
  | succ d ih =>
    intro x l hf hx
    cases x with
    | text a b t => exact htext (d + 1) a b t l hx
    | list a b its =>
      intro fr r hfr hd
      rw [It.code] at hd hx ⊢
      have hl2 : (listCode (codes its)).length = (headB 192 (codes its).length).length + (codes its).length := by unfold listCode; rw [List.length_append]
      have hh := headF_codes (codes its) r (by omega)
      rw [← hd] at hh
      obtain ⟨h, hhh⟩ : ∃ h, (headB 192 (codes its).length).length = h := ⟨_, rfl⟩
      rw [hhh] at hh hl2
      have hlen := congrArg List.length hd
      rw [List.length_drop, List.length_append, hl2] at hlen
      have e1 : (l.take (fr + h + (codes its).length)).length = fr + h + (codes its).length := by rw [List.length_take]; omega
      have e2 : (l.take (fr + h + (codes its).length)).drop (fr + h) = codes its := by
        rw [List.drop_take, show fr + h + (codes its).length - (fr + h) = (codes its).length by omega, ← List.drop_drop, hd]
        unfold listCode
        rw [List.append_assoc, ← hhh, List.drop_left, List.take_left]
      have hfits : ∀ y ∈ its, fits d y := hf
      obtain ⟨ys, h1, h2⟩ := readIts_full e1.symm its (codes its).length (fr + h) (by omega) e2 (Nat.le_refl _) (fun y hy => ih y _ (hfits y hy) (by have := codes_mem hy; omega))
      refine ⟨.list fr (fr + h + (codes its).length) ys, ?_, by rw [It.bare, It.bare, h2], ?_⟩
      · rw [readIt, hh]
        simp only [if_true]
        rw [h1]
      · rw [It.to, hl2]
        omega

/-- WHAT WAS ENCODED IS DECODED AGAIN. -/
theorem decF_full {x : It} (hf : fits 6 x) (hx : x.code.length ≤ 2048) : ∃ y, decF x.code = .ok y ∧ y.bare = x.bare := by
  obtain ⟨y, h1, h2, h3⟩ := readIt_full 6 x x.code hf (by omega) 0 [] (by omega) (by simp)
  refine ⟨y, ?_, h2⟩
  unfold decF
  rw [if_neg (by omega), h1]
  simp only
  rw [if_neg (by omega)]

theorem nibs_pairs : ∀ q : List Nat, q.length % 2 = 0 → (∀ x ∈ q, x < 16) → nibs (pairs q) = q
  | [], _, _ => rfl
  | [_], h, _ => by simp at h
  | a :: b :: r, h, hb => by
    have ha : a < 16 := hb a (by simp)
    have hb' : b < 16 := hb b (by simp)
    have e : nibs ((a * 16 + b) :: pairs r) = [(a * 16 + b) / 16, (a * 16 + b) % 16] ++ nibs (pairs r) := rfl
    rw [pairs, e, nibs_pairs r (by simp only [List.length_cons] at h; omega) (fun x hx => hb x (by simp [hx])), show (a * 16 + b) / 16 = a by omega, show (a * 16 + b) % 16 = b by omega]
    rfl
theorem unpackF_full {p : List Nat} (hp : ∀ x ∈ p, x < 16) (leaf : Bool) : unpackF (pathCode p leaf) = some (p, leaf) := by
  unfold pathCode
  by_cases h : p.length % 2 = 1
  · rw [h, if_pos rfl]
    cases p with
    | nil => simp at h
    | cons a q =>
      have ha : a < 16 := hp a (by simp)
      have hq := nibs_pairs q (by simp only [List.length_cons] at h; omega) (fun x hx => hp x (by simp [hx]))
      simp only [List.getElem!_cons_zero, List.drop_succ_cons, List.drop_zero]
      unfold unpackF
      cases leaf
      · simp only [Bool.false_eq_true, if_false]
        rw [if_neg (by omega), if_pos (by omega), hq, show (0 + (16 + a)) % 16 = a by omega, decide_eq_false (by omega)]
      · simp only [if_true]
        rw [if_neg (by omega), if_pos (by omega), hq, show (32 + (16 + a)) % 16 = a by omega, decide_eq_true (by omega)]
  · have h0 : p.length % 2 = 0 := by omega
    rw [h0, if_neg Nat.zero_ne_one, List.drop_zero]
    have hq := nibs_pairs p h0 hp
    cases leaf
    · show unpackF (0 :: pairs p) = _
      simp only [unpackF]
      rw [hq]
      rfl
    · show unpackF (32 :: pairs p) = _
      simp only [unpackF]
      rw [hq]
      rfl
theorem pathCode_length (p : List Nat) (leaf : Bool) : (pathCode p leaf).length = p.length / 2 + 1 := by
  unfold pathCode
  rw [List.length_cons, pairs_length, List.length_drop]
  omega

def szH (n : Nat) : Nat := if n ≤ 55 then n + 1 else if n ≤ 255 then n + 2 else n + 3
mutual
/-- The length of a code, counted from its parts. -/
def It.sz : It → Nat
  | .text _ _ t => if t.length = 1 ∧ t[0]! < 128 then 1 else szH t.length
  | .list _ _ l => szH (szs l)
def szs : List It → Nat
  | [] => 0
  | x :: l => x.sz + szs l
end
theorem szH_head (k n : Nat) : szH n = (headB k n).length + n ∨ (2048 < szH n ∧ 2048 < n) := by
  obtain ⟨h1, h2, h3⟩ := headB_small k n
  unfold szH
  by_cases a : n ≤ 55
  · rw [if_pos a, h1 a]; omega
  · rw [if_neg a]
    by_cases b : n ≤ 255
    · rw [if_pos b, h2 (by omega) b]; omega
    · rw [if_neg b]
      by_cases c : n ≤ 65535
      · rw [h3 (by omega) c]; omega
      · omega
theorem szH_ge (n : Nat) : n < szH n := by
  unfold szH
  split
  · omega
  · split <;> omega
mutual
theorem sz_code : ∀ x : It, x.sz = x.code.length ∨ (2048 < x.sz ∧ 2048 < x.code.length)
  | .text _ _ t => by
    rw [It.sz, It.code]
    unfold textCode
    by_cases h : t.length = 1 ∧ t[0]! < 128
    · rw [if_pos h, if_pos h]
      simp [h.1]
    · rw [if_neg h, if_neg h, List.length_append]
      have := szH_head 128 t.length
      omega
  | .list _ _ l => by
    rw [It.sz, It.code]
    unfold listCode
    rw [List.length_append]
    have h1 := szs_codes l
    have h2 := szH_ge (szs l)
    rcases h1 with h1 | h1
    · rw [h1]
      have := szH_head 192 (codes l).length
      omega
    · omega
theorem szs_codes : ∀ l : List It, szs l = (codes l).length ∨ (2048 < szs l ∧ 2048 < (codes l).length)
  | [] => .inl rfl
  | x :: l => by
    rw [szs, codes, List.length_append]
    have h1 := sz_code x
    have h2 := szs_codes l
    omega
end
end Go.Proofs.YtjiikjpnlgogfaaDoor

namespace Go.Proofs.YtjiikjpnlgogfaaDoor
open Go.RowKit

def SizeSaid (n : Nat) (w : World) (e : Ending) (w' : World) : Prop := e = .returned (.int .i64 (n : Int)) ∧ Below w.heap.size w w'

theorem szs_take (l : List It) (k : Nat) (hk : k < l.length) : szs (l.take (k + 1)) = szs (l.take k) + l[k].sz := by
  induction l generalizing k with
  | nil => simp at hk
  | cons x l ih =>
    cases k with
    | zero => simp [szs]
    | succ k =>
      rw [List.take_succ_cons, List.take_succ_cons, szs, szs, ih k (by simpa using hk)]
      simp only [List.getElem_cons_succ]
      omega
theorem szs_le (l : List It) (k : Nat) : szs (l.take k) ≤ szs l := by
  induction l generalizing k with
  | nil => simp
  | cons x l ih =>
    cases k with
    | zero => simp [szs]
    | succ k =>
      rw [List.take_succ_cons, szs, szs]
      have := ih k
      omega

set_option maxRecDepth 100000 in
theorem size_text (tx : ByteArray) (w : World) (ht : tx.size ≤ 1048576) : Calls Tryd.prog 13 #[.agg #[.bool false, .string tx, .slice none 0 0]] w (SizeSaid (It.text 0 0 (bytesOf tx)).sz w) := by
  have hbl := bytesOf_length tx
  obtain ⟨n, hn⟩ : ∃ n, (It.text 0 0 (bytesOf tx)).sz = n := ⟨_, rfl⟩
  have hsz := hn
  rw [It.sz, hbl] at hsz
  rw [hn]
  have B0 : ∀ o, Below w.heap.size w (w.alloc o) := fun o => (Below.refl _ _).alloc (Nat.le_refl _) o
  by_cases h1 : tx.size = 1
  · have hp : 0 < tx.size := by omega
    obtain ⟨c, hc⟩ : ∃ c, (tx[0]'hp).toNat = c := ⟨_, rfl⟩
    have hc2 : (bytesOf tx)[0]! = c := by rw [← hc, byte_at tx 0 hp]
    rw [hc2] at hsz
    by_cases h2 : c < 128
    · rw [if_pos ⟨h1, h2⟩] at hsz
      subst hsz
      have hi : ((tx.size : Int) == 1) = true := by simp; omega
      have h2' : (c : Int) < 128 := by omega
      clear hbl hn hc2
      go_enter Tryd.func13, Tryd.ntmps13
      go_wp2
      go_ret
      exact ⟨rfl, B0 _⟩
    · rw [if_neg (fun h => h2 h.2)] at hsz
      have hsz2 : n = 2 := by rw [← hsz, h1]; rfl
      subst hsz2
      have hi : ((tx.size : Int) == 1) = true := by simp; omega
      have h2' : ¬ (c : Int) < 128 := by omega
      have h3 : (tx.size : Int) = 1 := by omega
      clear hbl hn hc2 hsz
      go_enter Tryd.func13, Tryd.ntmps13
      go_wp2
      go_ret
      exact ⟨rfl, B0 _⟩
  · rw [if_neg (fun h => h1 h.1)] at hsz
    have hi : ((tx.size : Int) == 1) = false := by simp; omega
    unfold szH at hsz
    clear hbl hn
    go_enter Tryd.func13, Tryd.ntmps13
    by_cases a : tx.size ≤ 55
    · rw [if_pos a] at hsz
      have a' : (tx.size : Int) ≤ 55 := by omega
      have hw : (tx.size : Int) + 1 = (n : Int) := by omega
      clear hsz a
      go_wp2
      go_ret
      exact ⟨rfl, B0 _⟩
    · rw [if_neg a] at hsz
      have a' : ¬ (tx.size : Int) ≤ 55 := by omega
      by_cases b : tx.size ≤ 255
      · rw [if_pos b] at hsz
        have b' : (tx.size : Int) ≤ 255 := by omega
        have hw : (tx.size : Int) + 2 = (n : Int) := by omega
        clear hsz
        go_wp2
        go_ret
        exact ⟨rfl, B0 _⟩
      · rw [if_neg b] at hsz
        have b' : ¬ (tx.size : Int) ≤ 255 := by omega
        have hw : (tx.size : Int) + 3 = (n : Int) := by omega
        clear hsz
        go_wp2
        go_ret
        exact ⟨rfl, B0 _⟩

set_option maxRecDepth 100000 in
set_option maxHeartbeats 1600000 in
theorem size_list (tx : ByteArray) (ps : List (El × It)) (q : Option Addr) (m c : Nat) (F : Nat → Prop) (w0 w : World) (hm : m = ps.length) (hm2 : m ≤ 1048576) (hs : szs (ps.map (·.2)) ≤ 1073741824) (hrow : RowAt w0 F (.slice q m c) ps.length (ps.flatMap fun x => encI x.1)) (hsub : ∀ x ∈ ps, ∃ p m c, x.1.sub = .slice p m c)
    (hb : Below w0.heap.size w0 w) (hN : ∀ x ∈ ps, ∀ W, Below w0.heap.size w0 W → Calls Tryd.prog 13 #[valI x.1] W (SizeSaid x.2.sz W)) :
    Calls Tryd.prog 13 #[.agg #[.bool true, .string tx, .slice q m c]] w (SizeSaid (szH (szs (ps.map (·.2)))) w) := by
  have HN := Hid.hide hN
  have HR := Hid.hide hrow
  have HS := Hid.hide hsub
  have HM : Hid (m = ps.length ∧ m ≤ 1048576 ∧ szs (ps.map (·.2)) ≤ 1073741824 ∧ Below w0.heap.size w0 w) := ⟨hm, hm2, hs, hb⟩
  clear hN hrow hsub hm hm2 hs hb
  go_enter Tryd.func13, Tryd.ntmps13
  go_wp2
  go_loopg [3, 4] m (fun gh n i wr => ∃ k, k ≤ m ∧ gh = m - k ∧ i = .int .i64 (k : Int) ∧ n = .int .i64 ((szs ((ps.map (·.2)).take k) : Nat) : Int) ∧ Held wr w.heap.size [.bool true, .string tx, .slice q m c] ∧ Below w.heap.size w wr)
  case atStart => exact ⟨0, Nat.zero_le _, rfl, rfl, rfl, Held.fresh w [.bool true, .string tx, .slice q m c] _, (Below.refl _ _).alloc (Nat.le_refl _) _⟩
  case round =>
    obtain ⟨k, hk, rfl, rfl, rfl, hH, hB⟩ := hrel
    have x0 := (hH.2 2 _ rfl).1
    have hle := szs_le (ps.map (·.2)) k
    by_cases hlt : k < m
    · have hki : (k : Int) < (m : Int) := by omega
      have hkp : k < ps.length := by have := HM.out; omega
      obtain ⟨gr, cap, er, hcap, hFg, hgs, hpl, hcells⟩ := HR.out.cells (size := 3) (fun _ => rfl) (by omega)
      have hq := List.getElem_mem hkp
      obtain ⟨x, hqe⟩ : ∃ x, ps[k] = x := ⟨_, rfl⟩
      obtain ⟨⟨fr', en', l', tx', sub'⟩, x'⟩ := x
      rw [hqe] at hq
      obtain ⟨p', m', c', hs'⟩ := HS.out _ hq
      simp only at hs'
      subst hs'
      have hrk := hcells k hkp
      rw [hqe] at hrk
      obtain ⟨rfl, _⟩ : q = some ⟨gr, 0, none⟩ ∧ True := by
        simp only [Value.slice.injEq] at er
        exact ⟨er.1, trivial⟩
      have hBr : Below w0.heap.size w0 wr := HM.out.2.2.2.trans (hB.mono HM.out.2.2.2.size)
      have hgr : wr.heap[gr]? = w0.heap[gr]? := hBr.block gr hgs
      have r0 : wr.cell? ⟨gr, k * 3, none⟩ = some (.bool l') := (World.cell?_of_block hgr).trans (hrk 0 _ rfl)
      have r1 : wr.cell? ⟨gr, k * 3 + 1, none⟩ = some (.string tx') := (World.cell?_of_block hgr).trans (hrk 1 _ rfl)
      have r2 : wr.cell? ⟨gr, k * 3 + 2, none⟩ = some (.slice p' m' c') := (World.cell?_of_block hgr).trans (hrk 2 _ rfl)
      have hst : szs ((ps.map (·.2)).take (k + 1)) = szs ((ps.map (·.2)).take k) + x'.sz := by
        rw [szs_take _ k (by simpa using hkp)]
        simp [hqe]
      have hle2 := szs_le (ps.map (·.2)) (k + 1)
      obtain ⟨n, hn⟩ : ∃ n, szs ((ps.map (·.2)).take k) = n := ⟨_, rfl⟩
      rw [hn] at hst hle ⊢
      have hw : wrap64 ((n : Int) + (x'.sz : Int)) = ((szs ((ps.map (·.2)).take (k + 1)) : Nat) : Int) := by
        have := HM.out.2.2.1
        unfold wrap64
        omega
      have HW : Hid (wrap64 ((n : Int) + (x'.sz : Int)) = ((szs ((ps.map (·.2)).take (k + 1)) : Nat) : Int)) := hw
      have HC : Hid (Calls Tryd.prog 13 #[.agg #[.bool l', .string tx', .slice p' m' c']] wr (SizeSaid x'.sz wr)) := HN.out _ hq wr hBr
      have A2 : Aside (Held wr w.heap.size [.bool true, .string tx, .slice (some ⟨gr, 0, none⟩) m c] ∧ Below w.heap.size w wr) := ⟨hH, hB⟩
      clear hrk er hcells hgr hpl hFg hqe hq hBr hH hB hst hle hle2 hn hw
      go_wp2_with fail
      refine HC.out.mono ?_
      rintro e w1 ⟨rfl, hb1⟩
      have A3 : Aside (Held w1 w.heap.size [.bool true, .string tx, .slice (some ⟨gr, 0, none⟩) m c] ∧ Below w.heap.size w w1) := ⟨A2.out.1.below hb1, Below.behind A2.out.2 hb1⟩
      clear hb1 A2
      go_wp2
      go_roundg (m - (k + 1))
      case measure => omega
      case rel => exact ⟨k + 1, by omega, rfl, by rw [wrap64_succ k (by have := HM.out; omega)], val_int HW.out, A3.out⟩
    · have hki : (m : Int) ≤ (k : Int) := by omega
      have htk : (ps.map (·.2)).take k = ps.map (·.2) := List.take_of_length_le (by rw [List.length_map]; have := HM.out; omega)
      rw [htk] at hle ⊢
      obtain ⟨n, hn⟩ : ∃ n, szs (ps.map (·.2)) = n := ⟨_, rfl⟩
      have hn2 : n ≤ 1073741824 := by rw [← hn]; exact HM.out.2.2.1
      rw [hn]
      have A2 : Aside (Below w.heap.size w wr) := hB
      obtain ⟨r, hr⟩ : ∃ r, szH n = r := ⟨_, rfl⟩
      have HQ : Hid (szH (szs (ps.map (·.2))) = r) := by rw [hn]; exact hr
      unfold szH at hr
      clear hle htk hH hB hlt hn
      by_cases a : n ≤ 55
      · rw [if_pos a] at hr
        have a' : (n : Int) ≤ 55 := by omega
        have hw : wrap64 ((n : Int) + 1) = (r : Int) := by unfold wrap64; omega
        have HW : Hid (wrap64 ((n : Int) + 1) = (r : Int) ∧ (n : Int) + 1 = (r : Int)) := ⟨hw, by omega⟩
        clear hr a hw hn2
        go_wp2
        go_ret
        exact ⟨by rw [HQ.out]; first | exact congrArg Ending.returned (val_int HW.out.1) | exact congrArg Ending.returned (val_int HW.out.2), A2.out⟩
      · rw [if_neg a] at hr
        have a' : ¬ (n : Int) ≤ 55 := by omega
        by_cases b : n ≤ 255
        · rw [if_pos b] at hr
          have b' : (n : Int) ≤ 255 := by omega
          have hw : wrap64 ((n : Int) + 2) = (r : Int) := by unfold wrap64; omega
          have HW : Hid (wrap64 ((n : Int) + 2) = (r : Int) ∧ (n : Int) + 2 = (r : Int)) := ⟨hw, by omega⟩
          clear hr hw hn2
          go_wp2
          go_ret
          exact ⟨by rw [HQ.out]; first | exact congrArg Ending.returned (val_int HW.out.1) | exact congrArg Ending.returned (val_int HW.out.2), A2.out⟩
        · rw [if_neg b] at hr
          have b' : ¬ (n : Int) ≤ 255 := by omega
          have hw : wrap64 ((n : Int) + 3) = (r : Int) := by unfold wrap64; omega
          have HW : Hid (wrap64 ((n : Int) + 3) = (r : Int) ∧ (n : Int) + 3 = (r : Int)) := ⟨hw, by omega⟩
          clear hr hw hn2
          go_wp2
          go_ret
          exact ⟨by rw [HQ.out]; first | exact congrArg Ending.returned (val_int HW.out.1) | exact congrArg Ending.returned (val_int HW.out.2), A2.out⟩

theorem szs_mem {l : List It} {x : It} (h : x ∈ l) : x.sz ≤ szs l := by
  induction l with
  | nil => cases h
  | cons y l ih =>
    rw [szs]
    rcases List.mem_cons.1 h with rfl | h
    · omega
    · have := ih h
      omega
theorem sz_pos (x : It) : 0 < x.sz := by
  cases x with
  | text a b t =>
    rw [It.sz]
    split
    · omega
    · have := szH_ge t.length; omega
  | list a b l => rw [It.sz]; have := szH_ge (szs l); omega
theorem szs_length : ∀ l : List It, l.length ≤ szs l
  | [] => by simp
  | x :: l => by
    have := szs_length l
    have := sz_pos x
    rw [szs, List.length_cons]
    omega
theorem sz_text_ge (t : List Nat) : t.length ≤ (It.text 0 0 t).sz := by
  rw [It.sz]
  split
  · omega
  · have := szH_ge t.length; omega

/-- size, of whatever item. -/
theorem size_any : ∀ (d : Nat) (x : It) (l : Bool) (tx : ByteArray) (p : Option Addr) (m c : Nat) (F : Nat → Prop) (w0 w : World), Tree encI kB d w0 F ⟨0, 0, l, tx, .slice p m c⟩ x → x.sz ≤ 1048576 → Below w0.heap.size w0 w →
    Calls Tryd.prog 13 #[.agg #[.bool l, .string tx, .slice p m c]] w (SizeSaid x.sz w) := by
  have htext : ∀ (x : It) (e : El) (w : World), IsText e ∧ kB.tx e x → x.sz ≤ 1048576 → Calls Tryd.prog 13 #[valI e] w (SizeSaid x.sz w) := by
    rintro x ⟨fr, en, l, tx, sub⟩ w ⟨⟨h1, h2⟩, h3⟩ hx
    simp only at h1 h2
    subst h1 h2
    have h3 : x = .text 0 0 (bytesOf tx) := h3
    subst h3
    have := sz_text_ge (bytesOf tx)
    rw [bytesOf_length] at this
    exact size_text tx w (by omega)
  have key : ∀ (d : Nat) (x : It) (e : El) (F : Nat → Prop) (w0 w : World), Tree encI kB d w0 F e x → x.sz ≤ 1048576 → Below w0.heap.size w0 w → Calls Tryd.prog 13 #[valI e] w (SizeSaid x.sz w) := by
    intro d
    induction d with
    | zero => intro x e F w0 w h hx _; exact htext x e w h hx
    | succ d ih =>
      intro x e F w0 w h hx hb
      rcases h with h | ⟨h1, ps, h2, h3, h4, h5⟩
      · exact htext x e w h hx
      · have h5 : x = .list 0 0 (ps.map (·.2)) := h5
        subst h5
        rw [It.sz] at hx ⊢
        have hge := szH_ge (szs (ps.map (·.2)))
        have hln := szs_length (ps.map (·.2))
        rw [List.length_map] at hln
        obtain ⟨fr, en, l, tx, sub⟩ := e
        simp only at h1 h2
        subst h1
        obtain ⟨p, m, c, hs, hm⟩ : ∃ p m c, sub = .slice p m c ∧ m = ps.length := by
          rcases h2 with ⟨h, h', _⟩ | ⟨g, cap, h, _⟩
          · exact ⟨_, _, _, h, h'.symm⟩
          · exact ⟨_, _, _, h, rfl⟩
        subst hs
        exact size_list tx ps p m c F w0 w hm (by omega) (by omega) (hm ▸ h2) (fun q hq => (h3 q hq).sub) hb (fun q hq W hW => ih q.2 q.1 F w0 W (h3 q hq) (by have := szs_mem (List.mem_map_of_mem (f := (·.2)) hq); omega) hW)
  intro d x l tx p m c F w0 w h hx hb
  exact key d x ⟨0, 0, l, tx, .slice p m c⟩ F w0 w h hx hb

set_option maxRecDepth 100000 in
theorem fine_zero (w : World) : Calls Tryd.prog 15 #[.agg #[.int .i64 0, .int .i64 0, .int .i64 0, .int .i64 0]] w fun e w' => e = .returned (.bool true) ∧ Below w.heap.size w w' := by
  go_enter Tryd.func15, Tryd.ntmps15
  go_wp2
  go_ret
  exact ⟨rfl, (Below.refl _ _).alloc (Nat.le_refl _) _⟩
end Go.Proofs.YtjiikjpnlgogfaaDoor

namespace Go.Proofs.YtjiikjpnlgogfaaDoor
open Go.RowKit

theorem Tree.fits {enc : El → List Value} : ∀ {n : Nat} {w : World} {F : Nat → Prop} {e : El} {x : It}, Tree enc kB n w F e x → Go.Proofs.YtjiikjpnlgogfaaDoor.fits n x := by
  have ht : ∀ {n : Nat} {e : El} {x : It}, IsText e ∧ kB.tx e x → Go.Proofs.YtjiikjpnlgogfaaDoor.fits n x := by
    rintro n e x ⟨_, h⟩
    have h : x = .text 0 0 (bytesOf e.text) := h
    subst h
    cases n <;> trivial
  intro n
  induction n with
  | zero => intro w F e x h; exact ht h
  | succ n ih =>
    intro w F e x h
    rcases h with h | ⟨_, ps, _, h3, _, h5⟩
    · exact ht h
    · have h5 : x = .list 0 0 (ps.map (·.2)) := h5
      subst h5
      intro y hy
      obtain ⟨q, hq, rfl⟩ := List.mem_map.1 hy
      exact ih (h3 q hq)

/-- What item answers. -/
def FedSaid (d fb : Nat) (raw : ByteArray) (w : World) (e : Ending) (w' : World) : Prop :=
  ∃ (l : Bool) (tx : ByteArray) (p : Option Addr) (m c : Nat) (x : It), e = .returned (.agg #[.bool l, .string tx, .slice p m c]) ∧ Tree encI kB d w' (fun k => w.heap.size ≤ k) ⟨0, 0, l, tx, .slice p m c⟩ x ∧ x.sz + 1 ≤ 261 * 4 ^ d ∧ Only fb w w' ∧ FeedAt w' fb raw

/-- Half made: k items lie in x's row. -/
structure IHalf (d fb X : Nat) (raw : ByteArray) (w : World) (k : Nat) (wr : World) (v : Value) (qs : List (El × It)) : Prop where
  lo : w.heap.size < X
  hi : X < wr.heap.size
  only : Only fb w wr
  feed : FeedAt wr fb raw
  fbl : fb < w.heap.size
  ret : Held wr w.heap.size [.bool false, .string ⟨#[]⟩, .slice none 0 0]
  free : ∀ j, j < 3 → wr.frozen? ⟨X, j, none⟩ = false
  c0 : wr.cell? ⟨X, 0, none⟩ = some (.bool true)
  c1 : wr.cell? ⟨X, 1, none⟩ = some (.string ⟨#[]⟩)
  c2 : wr.cell? ⟨X, 2, none⟩ = some v
  own : OwnC wr w.heap.size 3 v k (qs.flatMap fun q => encI q.1)
  len : qs.length = k
  out : v.ownBlock ≠ some X
  out2 : v.ownBlock ≠ some w.heap.size
  trees : ∀ q ∈ qs, Tree encI kB d wr (fun b => (w.heap.size < b ∧ v.ownBlock ≠ some b ∧ b ≠ X) ∧ b < wr.heap.size) q.1 q.2
  small : ∀ q ∈ qs, q.2.sz + 1 ≤ 261 * 4 ^ d
  plain : ∀ b, v.ownBlock = some b → Plain wr b

theorem IHalf.more {d fb X : Nat} {raw : ByteArray} {w : World} {k : Nat} {wr w1 W w2 : World} {v v2 : Value} {qs : List (El × It)} {o2 : Obj} {e : El} {c : It} (h : IHalf d fb X raw w k wr v qs)
    (ho : Only fb wr w1) (hf1 : FeedAt w1 fb raw) (hT : Tree encI kB d w1 (fun b => wr.heap.size ≤ b) e c) (hc : c.sz + 1 ≤ 261 * 4 ^ d) (hW : Below w1.heap.size w1 W)
    (hO2 : OwnC w2 w.heap.size 3 v2 (k + 1) ((qs.flatMap fun q => encI q.1) ++ encI e)) (hg : (W.alloc o2).grownBy w2 v.ownBlock) (hf : ∀ b, v2.ownBlock = some b → v.ownBlock = some b ∨ (W.alloc o2).heap.size ≤ b) (hP : ∀ b, v2.ownBlock = some b → Plain w2 b) :
    IHalf d fb X raw w (k + 1) (w2.setCell ⟨X, 2, none⟩ v2) v2 (qs ++ [(e, c)]) := by
  have hs0 := h.lo
  have hs1 := h.hi
  have hs2 := ho.size
  have hs3 := hW.size
  have hs4 := hg.size
  have hfb := h.fbl
  simp only [World.size_alloc] at hs4 hf
  have hblk1 : ∀ b, b < w1.heap.size → v.ownBlock ≠ some b → w2.heap[b]? = w1.heap[b]? := fun b hb hne =>
    ((hg.block b (by simp; omega) (fun e => hne e.symm)).trans (Below.heap_alloc _ _ _ (by omega))).trans (hW.block b hb)
  have hblk : ∀ b, b < wr.heap.size → b ≠ fb → v.ownBlock ≠ some b → w2.heap[b]? = wr.heap[b]? := fun b hb hne hv => (hblk1 b (by omega) hv).trans (ho.block b hb hne)
  have hfbv : v.ownBlock ≠ some fb := fun e => by have := (h.own.block fb e).1; omega
  have hgb : w2.heap[X]? = wr.heap[X]? := hblk X hs1 (by omega) h.out
  have hg2 : v2.ownBlock ≠ some X := fun e => by
    rcases hf X e with e | e
    · exact h.out e
    · omega
  have hg3 : v2.ownBlock ≠ some w.heap.size := fun e => by
    rcases hf _ e with e | e
    · exact h.out2 e
    · have := h.only.size; omega
  have hcell : ∀ j u, wr.cell? ⟨X, j, none⟩ = some u → w2.cell? ⟨X, j, none⟩ = some u := fun j u hu => (World.cell?_of_block hgb).trans hu
  have hset : ∀ b, b ≠ X → (w2.setCell ⟨X, 2, none⟩ v2).heap[b]? = w2.heap[b]? := fun b hb => Below.heap_setCell _ _ _ _ hb
  have hsz : (w2.setCell ⟨X, 2, none⟩ v2).heap.size = w2.heap.size := by simp
  refine ⟨hs0, by rw [hsz]; omega, ?_, ?_, hfb, ?_, fun j hj => ?_, ?_, ?_, ?_, ?_, by simp [h.len], hg2, hg3, ?_, ?_, fun b hb => (hP b hb).setCell _ _⟩
  · refine ⟨?_, ?_, ?_, by rw [hsz]; have := h.only.size; omega, fun b hb hne => ?_⟩
    · exact (hg.os.trans hW.os).trans (ho.os.trans h.only.os)
    · exact (hg.tape.trans hW.tape).trans (ho.tape.trans h.only.tape)
    · exact (hg.output.trans hW.output).trans (ho.output.trans h.only.output)
    · have := h.only.size
      exact (hset b (by omega)).trans ((hblk b (by omega) hne (fun e => by have := (h.own.block b e).1; omega)).trans (h.only.block b hb hne))
  · exact hf1.keep ((hset fb (by omega)).trans (hblk1 fb (by have := h.feed.lt; omega) hfbv)) (by rw [hsz]; omega)
  · exact h.ret.keep ((hset _ (by omega)).trans (hblk _ h.ret.1 (by omega) h.out2)) (by rw [hsz]; omega)
  · rw [World.frozen?_setCell, World.frozen?_of_block hgb]
    exact h.free j hj
  · exact (World.cell?_setCell_other _ _ _ _ (by simp)).trans (hcell 0 _ h.c0)
  · exact (World.cell?_setCell_other _ _ _ _ (by simp)).trans (hcell 1 _ h.c1)
  · exact World.cell?_setCell_same _ _ _ (hcell 2 _ h.c2)
  · have := hO2.keep (w' := w2.setCell ⟨X, 2, none⟩ v2) (by simp) (fun b _ hb => hset b (fun e => hg2 (e ▸ hb)))
    simpa using this
  · intro q hq
    rcases List.mem_append.1 hq with hq | hq
    · refine Tree.keep (fun b hb => ?_) (by rw [hsz]; omega) (fun b hb hbs => (hset b hb.1.2.2).trans (hblk b hbs (by have := hb.1.1; omega) hb.1.2.1)) d (h.trees q hq)
      refine ⟨⟨hb.1.1, fun e => ?_, hb.1.2.2⟩, by rw [hsz]; have := hb.2; omega⟩
      rcases hf b e with e | e
      · exact hb.1.2.1 e
      · have := hb.2; omega
    · obtain rfl := List.mem_singleton.1 hq
      refine Tree.keep (fun b hb => ?_) (by rw [hsz]; omega) (fun b hb hbs => (hset b (by have := hb.1; omega)).trans (hblk1 b hbs (fun e => by have := (h.own.block b e).2; have := hb.1; omega))) d hT.bound
      have hb1 := hb.1
      have hb2 := hb.2
      refine ⟨⟨by have := h.only.size; omega, fun e => ?_, by omega⟩, by rw [hsz]; omega⟩
      rcases hf b e with e | e
      · have := (h.own.block b e).2; omega
      · omega
  · intro q hq
    rcases List.mem_append.1 hq with hq | hq
    · exact h.small q hq
    · obtain rfl := List.mem_singleton.1 hq
      exact hc
end Go.Proofs.YtjiikjpnlgogfaaDoor

namespace Go.Proofs.YtjiikjpnlgogfaaDoor
open Go.RowKit

theorem byte_text (w : World) (z : Nat) : (convert 73 9 (.slice (some ⟨w.heap.size, 0, none⟩) 1 1)).run Tryd.prog (w.alloc (.cells #[.int .u8 (z : Int)] 5)) = .ok (.string (textB [z])) (w.alloc (.cells #[.int .u8 (z : Int)] 5)) :=
  run_own_text _ 73 9 5 Tryd.underlying73 Tryd.underlying5 Tryd.underlying9 (Own.ofCells w 5 [z] (by unfold maxLen; simp))
theorem textB_append (a b : List Nat) : textB a ++ textB b = textB (a ++ b) := by
  apply ByteArray.ext
  simp [textB, ByteArray.data_append]
theorem add_text (a b : List Nat) (h : a.length + b.length ≤ 140737488355328) (W : World) : Sem.run Tryd.prog (Op.stringOp .add (textB a) (textB b)) W = .ok (.string (textB (a ++ b))) W := by
  rw [← textB_append]
  exact run_string_add_sum W _ _ (by rw [textB_size, textB_size]; omega)

/-- What a text's walk keeps: its result's cells, the feed. -/
def Keeps (fb : Nat) (raw : ByteArray) (w wr : World) : Prop := Only fb w wr ∧ FeedAt wr fb raw ∧ Held wr w.heap.size [.bool false, .string ⟨#[]⟩, .slice none 0 0] ∧ fb < w.heap.size
theorem Keeps.next {fb : Nat} {raw : ByteArray} {w wr w1 : World} (h : Keeps fb raw w wr) (ho : Only fb wr w1) (hf : FeedAt w1 fb raw) : Keeps fb raw w w1 :=
  ⟨h.1.trans ho, hf, h.2.2.1.only ho (by have := h.2.2.2; omega), h.2.2.2⟩
theorem Keeps.below {fb : Nat} {raw : ByteArray} {w wr w1 : World} (h : Keeps fb raw w wr) (hb : Below wr.heap.size wr w1) : Keeps fb raw w w1 := h.next (.of_below hb) (h.2.1.below hb)

theorem text_said {d fb : Nat} {raw : ByteArray} {w wr : World} {l : List Nat} {tx : ByteArray} (htx : textB l = tx) (hb : ∀ x ∈ l, x < 256) (hl : l.length ≤ 257) (h : Keeps fb raw w wr) {a b c : Value} :
    FedSaid d fb raw w (.returned (.agg #[.bool false, .string tx, .slice none 0 0])) (((wr.setCell ⟨w.heap.size, 0, none⟩ a).setCell ⟨w.heap.size, 1, none⟩ b).setCell ⟨w.heap.size, 2, none⟩ c) := by
  subst htx
  have hfb := h.2.2.2
  have hset : ∀ k, k ≠ w.heap.size → (((wr.setCell ⟨w.heap.size, 0, none⟩ a).setCell ⟨w.heap.size, 1, none⟩ b).setCell ⟨w.heap.size, 2, none⟩ c).heap[k]? = wr.heap[k]? := fun k hk =>
    (Below.heap_setCell _ _ _ _ hk).trans ((Below.heap_setCell _ _ _ _ hk).trans (Below.heap_setCell _ _ _ _ hk))
  refine ⟨false, textB l, none, 0, 0, .text 0 0 l, rfl, Tree.text ⟨⟨rfl, rfl⟩, ?_⟩ d, ?_, ⟨?_, ?_, ?_, by simpa using h.1.size, fun k hk hne => (hset k (by omega)).trans (h.1.block k hk hne)⟩, h.2.1.keep (hset fb (by omega)) (by simp)⟩
  · show It.text 0 0 l = .text 0 0 (bytesOf (textB l))
    rw [bytesOf_textB hb]
  · have h5 : 1 ≤ 4 ^ d := Nat.one_le_pow _ _ (by decide)
    have : (It.text 0 0 l).sz ≤ 260 := by
      rw [It.sz]
      split
      · omega
      · unfold szH
        split
        · omega
        · split <;> omega
    have := Nat.mul_le_mul_left 261 h5
    omega
  · exact h.1.os
  · exact h.1.tape
  · exact h.1.output

set_option maxRecDepth 100000 in
set_option maxHeartbeats 6400000 in
theorem item_zero (fb : Nat) (raw : ByteArray) (w : World) (hf : FeedAt w fb raw) (hr : raw.size ≤ 9223372036854775807) :
    Calls Tryd.prog 11 #[.pointer (some ⟨fb, 0, none⟩), .int .i64 0] w (FedSaid 0 fb raw w) := by
  have K0 : ∀ t, Keeps fb raw w (w.alloc (.cells #[.bool false, .string ⟨#[]⟩, .slice none 0 0] t)) := fun t => ⟨.of_below ((Below.refl _ _).alloc (Nat.le_refl _) _), hf.below ((Below.refl _ _).alloc (Nat.le_refl _) _), Held.fresh w [.bool false, .string ⟨#[]⟩, .slice none 0 0] t, hf.lt⟩
  have KK0 : Aside (Keeps fb raw w (w.alloc (.cells #[.bool false, .string ⟨#[]⟩, .slice none 0 0] 38))) := K0 _
  have HX : Hid (∀ n W, 0 < n → n ≤ 256 → FeedAt W fb raw → Calls Tryd.prog 18 #[.pointer (some ⟨fb, 0, none⟩), .int .i64 ((n : Nat) : Int)] W (NextSaid n fb raw W)) := fun n W h1 h2 h => next_any n h1 h2 fb raw W h hr
  clear hf hr K0
  go_enter Tryd.func11, Tryd.ntmps11
  go_wp2_with fail
  refine (HX.out 4 _ (by omega) (by omega) KK0.out.2.1).mono ?_
  rintro e w1 ⟨n0, hn0, rfl, ho1, -, hf1⟩
  have K1 : Aside (Keeps fb raw w w1 ∧ n0 < 4) := ⟨KK0.out.next ho1 hf1, hn0⟩
  clear ho1 hf1 KK0 hn0
  go_wp2_with fail
  refine (HX.out 8 _ (by omega) (by omega) K1.out.1.2.1).mono ?_
  rintro e w2 ⟨s8, hs8, rfl, ho2, -, hf2⟩
  have K2 : Aside (Keeps fb raw w w2 ∧ n0 < 4) := ⟨K1.out.1.next ho2 hf2, K1.out.2⟩
  clear ho2 hf2 K1 hs8
  by_cases h1 : s8 = 1
  · subst h1
    go_wp2_with fail
    refine (HX.out 4 _ (by omega) (by omega) K2.out.1.2.1).mono ?_
    rintro e w3 ⟨k3, hk3, rfl, ho3, -, hf3⟩
    obtain ⟨n, hn⟩ : ∃ n, 54 + k3 = n := ⟨_, rfl⟩
    have hni : wrap64 (n : Int) = (n : Int) := by unfold wrap64; omega
    have hni2 : (54 + (k3 : Int)) = (n : Int) := by omega
    have KK : Aside (Keeps fb raw w w3 ∧ n ≤ 257) := ⟨K2.out.1.next ho3 hf3, by omega⟩
    clear ho3 hf3 K2 hk3 hn
    have hn257 : n ≤ 257 := KK.out.2
    have HN : Hid (n ≤ 257) := hn257
    clear hn257
    go_wp2
    try rw [hni]
    go_loopg [6] n (fun gh u wr => ∃ l : List Nat, l.length ≤ n ∧ gh = n - l.length ∧ u = .string (textB l) ∧ (∀ x ∈ l, x < 256) ∧ Keeps fb raw w wr)
    case atStart => exact ⟨[], Nat.zero_le _, rfl, rfl, by simp, KK.out.1⟩
    case round =>
      obtain ⟨l, hl, rfl, rfl, hb, hK⟩ := hrel
      have hsz := textB_size l
      by_cases hlt : l.length < n
      · have hli : ((textB l).size : Int) < (n : Int) := by omega
        have A : Aside (Keeps fb raw w wr ∧ l.length < n ∧ (∀ x ∈ l, x < 256)) := ⟨hK, hlt, hb⟩
        have hadd := fun (k : Nat) W => add_text l [k] (by have := HN.out; simp only [List.length_cons, List.length_nil]; omega) W
        have HA := Hid.hide hadd
        clear hK hb hlt hl hsz hadd
        go_wp2_with fail
        refine (HX.out 256 _ (by omega) (by omega) A.out.1.2.1).mono ?_
        rintro e wn ⟨k, hk, rfl, ho, -, hfn⟩
        have AK : Aside (Keeps fb raw w wn ∧ k < 256) := ⟨A.out.1.next ho hfn, hk⟩
        have hcv := byte_text wn k
        have hka : ((k : Int) % 256) = (k : Int) := by omega
        have hadd := HA.out k
        clear ho hfn hk
        go_wp2
        go_roundg (n - (l ++ [k]).length)
        case measure => have := A.out.2.1; simp only [List.length_append, List.length_cons, List.length_nil]; omega
        case rel =>
          refine ⟨l ++ [k], by have := A.out.2.1; simp only [List.length_append, List.length_cons, List.length_nil]; omega, rfl, rfl, fun x hx => ?_, AK.out.1.below ((Below.refl _ _).alloc (Nat.le_refl _) _)⟩
          rcases List.mem_append.1 hx with hx | hx
          · exact A.out.2.2 x hx
          · rw [List.mem_singleton.1 hx]; exact AK.out.2
      · have hln : l.length = n := by omega
        have hli : (n : Int) ≤ ((textB l).size : Int) := by omega
        have A : Aside (Keeps fb raw w wr ∧ l.length ≤ 257 ∧ (∀ x ∈ l, x < 256)) := ⟨hK, by have := HN.out; omega, hb⟩
        obtain ⟨_, _, hH, _⟩ := hK
        obtain ⟨a0, f0⟩ := hH.2 0 _ rfl
        obtain ⟨a1, f1⟩ := hH.2 1 _ rfl
        obtain ⟨a2, f2⟩ := hH.2 2 _ rfl
        obtain ⟨tx, htx⟩ : ∃ tx, textB l = tx := ⟨_, rfl⟩
        have HTX : Hid (textB l = tx) := htx
        rw [htx] at hli ⊢
        clear hb hH hl hlt hln htx hsz
        go_wp2
        refine bodyPost_ret (v := .agg #[.bool false, .string tx, .slice none 0 0]) (by simp [results, Tryd.results11, go_sem, a0, a1, a2]) rfl ?_
        refine text_said HTX.out A.out.2.2 A.out.2.1 A.out.1
  by_cases h2 : s8 = 2
  · subst h2
    go_wp2_with fail
    refine (HX.out 4 _ (by omega) (by omega) K2.out.1.2.1).mono ?_
    rintro e w3 ⟨k3, hk3, rfl, ho3, -, hf3⟩
    obtain ⟨n, hn⟩ : ∃ n, 254 + k3 = n := ⟨_, rfl⟩
    have hni : wrap64 (n : Int) = (n : Int) := by unfold wrap64; omega
    have hni2 : (254 + (k3 : Int)) = (n : Int) := by omega
    have KK : Aside (Keeps fb raw w w3 ∧ n ≤ 257) := ⟨K2.out.1.next ho3 hf3, by omega⟩
    clear ho3 hf3 K2 hk3 hn
    have hn257 : n ≤ 257 := KK.out.2
    have HN : Hid (n ≤ 257) := hn257
    clear hn257
    go_wp2
    try rw [hni]
    go_loopg [6] n (fun gh u wr => ∃ l : List Nat, l.length ≤ n ∧ gh = n - l.length ∧ u = .string (textB l) ∧ (∀ x ∈ l, x < 256) ∧ Keeps fb raw w wr)
    case atStart => exact ⟨[], Nat.zero_le _, rfl, rfl, by simp, KK.out.1⟩
    case round =>
      obtain ⟨l, hl, rfl, rfl, hb, hK⟩ := hrel
      have hsz := textB_size l
      by_cases hlt : l.length < n
      · have hli : ((textB l).size : Int) < (n : Int) := by omega
        have A : Aside (Keeps fb raw w wr ∧ l.length < n ∧ (∀ x ∈ l, x < 256)) := ⟨hK, hlt, hb⟩
        have hadd := fun (k : Nat) W => add_text l [k] (by have := HN.out; simp only [List.length_cons, List.length_nil]; omega) W
        have HA := Hid.hide hadd
        clear hK hb hlt hl hsz hadd
        go_wp2_with fail
        refine (HX.out 256 _ (by omega) (by omega) A.out.1.2.1).mono ?_
        rintro e wn ⟨k, hk, rfl, ho, -, hfn⟩
        have AK : Aside (Keeps fb raw w wn ∧ k < 256) := ⟨A.out.1.next ho hfn, hk⟩
        have hcv := byte_text wn k
        have hka : ((k : Int) % 256) = (k : Int) := by omega
        have hadd := HA.out k
        clear ho hfn hk
        go_wp2
        go_roundg (n - (l ++ [k]).length)
        case measure => have := A.out.2.1; simp only [List.length_append, List.length_cons, List.length_nil]; omega
        case rel =>
          refine ⟨l ++ [k], by have := A.out.2.1; simp only [List.length_append, List.length_cons, List.length_nil]; omega, rfl, rfl, fun x hx => ?_, AK.out.1.below ((Below.refl _ _).alloc (Nat.le_refl _) _)⟩
          rcases List.mem_append.1 hx with hx | hx
          · exact A.out.2.2 x hx
          · rw [List.mem_singleton.1 hx]; exact AK.out.2
      · have hln : l.length = n := by omega
        have hli : (n : Int) ≤ ((textB l).size : Int) := by omega
        have A : Aside (Keeps fb raw w wr ∧ l.length ≤ 257 ∧ (∀ x ∈ l, x < 256)) := ⟨hK, by have := HN.out; omega, hb⟩
        obtain ⟨_, _, hH, _⟩ := hK
        obtain ⟨a0, f0⟩ := hH.2 0 _ rfl
        obtain ⟨a1, f1⟩ := hH.2 1 _ rfl
        obtain ⟨a2, f2⟩ := hH.2 2 _ rfl
        obtain ⟨tx, htx⟩ : ∃ tx, textB l = tx := ⟨_, rfl⟩
        have HTX : Hid (textB l = tx) := htx
        rw [htx] at hli ⊢
        clear hb hH hl hlt hln htx hsz
        go_wp2
        refine bodyPost_ret (v := .agg #[.bool false, .string tx, .slice none 0 0]) (by simp [results, Tryd.results11, go_sem, a0, a1, a2]) rfl ?_
        refine text_said HTX.out A.out.2.2 A.out.2.1 A.out.1
  · obtain ⟨n, hn⟩ : ∃ n, n0 = n := ⟨_, rfl⟩
    subst hn
    have e1 : ((s8 : Int) == 1) = false := by simp; omega
    have e2 : ((s8 : Int) == 2) = false := by simp; omega
    have KK : Aside (Keeps fb raw w w2 ∧ n0 ≤ 257) := ⟨K2.out.1, by have := K2.out.2; omega⟩
    obtain ⟨n, hn⟩ : ∃ n, n = n0 := ⟨_, rfl⟩
    subst hn
    clear K2
    have hn257 : n ≤ 257 := KK.out.2
    have HN : Hid (n ≤ 257) := hn257
    clear hn257
    go_wp2
    try rw [hni]
    go_loopg [6] n (fun gh u wr => ∃ l : List Nat, l.length ≤ n ∧ gh = n - l.length ∧ u = .string (textB l) ∧ (∀ x ∈ l, x < 256) ∧ Keeps fb raw w wr)
    case atStart => exact ⟨[], Nat.zero_le _, rfl, rfl, by simp, KK.out.1⟩
    case round =>
      obtain ⟨l, hl, rfl, rfl, hb, hK⟩ := hrel
      have hsz := textB_size l
      by_cases hlt : l.length < n
      · have hli : ((textB l).size : Int) < (n : Int) := by omega
        have A : Aside (Keeps fb raw w wr ∧ l.length < n ∧ (∀ x ∈ l, x < 256)) := ⟨hK, hlt, hb⟩
        have hadd := fun (k : Nat) W => add_text l [k] (by have := HN.out; simp only [List.length_cons, List.length_nil]; omega) W
        have HA := Hid.hide hadd
        clear hK hb hlt hl hsz hadd
        go_wp2_with fail
        refine (HX.out 256 _ (by omega) (by omega) A.out.1.2.1).mono ?_
        rintro e wn ⟨k, hk, rfl, ho, -, hfn⟩
        have AK : Aside (Keeps fb raw w wn ∧ k < 256) := ⟨A.out.1.next ho hfn, hk⟩
        have hcv := byte_text wn k
        have hka : ((k : Int) % 256) = (k : Int) := by omega
        have hadd := HA.out k
        clear ho hfn hk
        go_wp2
        go_roundg (n - (l ++ [k]).length)
        case measure => have := A.out.2.1; simp only [List.length_append, List.length_cons, List.length_nil]; omega
        case rel =>
          refine ⟨l ++ [k], by have := A.out.2.1; simp only [List.length_append, List.length_cons, List.length_nil]; omega, rfl, rfl, fun x hx => ?_, AK.out.1.below ((Below.refl _ _).alloc (Nat.le_refl _) _)⟩
          rcases List.mem_append.1 hx with hx | hx
          · exact A.out.2.2 x hx
          · rw [List.mem_singleton.1 hx]; exact AK.out.2
      · have hln : l.length = n := by omega
        have hli : (n : Int) ≤ ((textB l).size : Int) := by omega
        have A : Aside (Keeps fb raw w wr ∧ l.length ≤ 257 ∧ (∀ x ∈ l, x < 256)) := ⟨hK, by have := HN.out; omega, hb⟩
        obtain ⟨_, _, hH, _⟩ := hK
        obtain ⟨a0, f0⟩ := hH.2 0 _ rfl
        obtain ⟨a1, f1⟩ := hH.2 1 _ rfl
        obtain ⟨a2, f2⟩ := hH.2 2 _ rfl
        obtain ⟨tx, htx⟩ : ∃ tx, textB l = tx := ⟨_, rfl⟩
        have HTX : Hid (textB l = tx) := htx
        rw [htx] at hli ⊢
        clear hb hH hl hlt hln htx hsz
        go_wp2
        refine bodyPost_ret (v := .agg #[.bool false, .string tx, .slice none 0 0]) (by simp [results, Tryd.results11, go_sem, a0, a1, a2]) rfl ?_
        refine text_said HTX.out A.out.2.2 A.out.2.1 A.out.1
end Go.Proofs.YtjiikjpnlgogfaaDoor

namespace Go.Proofs.YtjiikjpnlgogfaaDoor
open Go.RowKit

theorem IHalf.start {d fb : Nat} {raw : ByteArray} {w w1 w3 : World} {t : TypeId} (hK : Keeps fb raw w w1) (ho : Only fb (w1.alloc (.cells #[.bool true, .string ⟨#[]⟩, .slice none 0 0] t)) w3) (hf : FeedAt w3 fb raw) : IHalf d fb w1.heap.size raw w 0 w3 (.slice none 0 0) [] := by
  have hfb := hK.2.2.2
  have h1 := hK.2.2.1.1
  have h2 := ho.size
  simp only [World.size_alloc] at h2
  have hb : w3.heap[w1.heap.size]? = (w1.alloc (.cells #[.bool true, .string ⟨#[]⟩, .slice none 0 0] t)).heap[w1.heap.size]? := ho.block _ (by simp) (by omega)
  refine ⟨h1, by omega, (hK.1.trans (.of_below ((Below.refl _ _).alloc (Nat.le_refl _) _))).trans ho, hf, hfb, (hK.2.2.1.alloc _).only ho (by omega), fun j _ => ?_, ?_, ?_, ?_, ?_, rfl, by simp [Value.ownBlock], by simp [Value.ownBlock], by simp, by simp, fun b hb => by simp [Value.ownBlock] at hb⟩
  · rw [World.frozen?_of_block hb, World.frozen?_alloc_new]
  · rw [World.cell?_of_block hb, World.cell?_alloc_new]; rfl
  · rw [World.cell?_of_block hb, World.cell?_alloc_new]; rfl
  · rw [World.cell?_of_block hb, World.cell?_alloc_new]; rfl
  · exact ⟨rfl, .inl ⟨rfl, rfl⟩⟩

theorem list_said {d fb X k : Nat} {raw : ByteArray} {w wr : World} {p : Option Addr} {m c : Nat} {qs : List (El × It)} (h : IHalf d fb X raw w k wr (.slice p m c) qs) (hk : k ≤ 4) {a0 a1 a2 : Value} :
    FedSaid (d + 1) fb raw w (.returned (.agg #[.bool true, .string ⟨#[]⟩, .slice p m c])) (((wr.setCell ⟨w.heap.size, 0, none⟩ a0).setCell ⟨w.heap.size, 1, none⟩ a1).setCell ⟨w.heap.size, 2, none⟩ a2) := by
  have hfb := h.fbl
  have hset : ∀ k, k ≠ w.heap.size → (((wr.setCell ⟨w.heap.size, 0, none⟩ a0).setCell ⟨w.heap.size, 1, none⟩ a1).setCell ⟨w.heap.size, 2, none⟩ a2).heap[k]? = wr.heap[k]? := fun k hk =>
    (Below.heap_setCell _ _ _ _ hk).trans ((Below.heap_setCell _ _ _ _ hk).trans (Below.heap_setCell _ _ _ _ hk))
  have hrow := h.own.rowAt (F := fun b => (Value.slice p m c).ownBlock = some b ∧ w.heap.size ≤ b) (fun b hb => ⟨hb, (h.own.block b hb).1⟩) h.plain
  refine ⟨true, ⟨#[]⟩, p, m, c, .list 0 0 (qs.map (·.2)), rfl, .inr ⟨rfl, qs, ?_, fun q hq => ?_, rfl, rfl⟩, ?_, ⟨h.only.os, h.only.tape, h.only.output, by simpa using h.only.size, fun b hb hne => (hset b (by omega)).trans (h.only.block b hb hne)⟩, h.feed.keep (hset fb (by omega)) (by simp)⟩
  · rw [h.len]
    exact hrow.keep (fun b hb => hb.2) (by simp) (fun b hb _ => hset b (fun e => h.out2 (e ▸ hb.1)))
  · exact Tree.keep (fun b hb => Nat.le_of_lt hb.1.1) (by simp) (fun b hb _ => hset b (by have := hb.1.1; omega)) d (h.trees q hq)
  · obtain ⟨B, hB⟩ : ∃ B, 261 * 4 ^ d = B := ⟨_, rfl⟩
    have hsm := h.small
    rw [hB] at hsm
    have hs : ∀ l : List (El × It), (∀ q ∈ l, q.2.sz + 1 ≤ B) → szs (l.map (·.2)) + l.length ≤ l.length * B := by
      intro l
      induction l with
      | nil => intro _; simp [szs]
      | cons q l ih =>
        intro hl
        rw [List.map_cons, szs, List.length_cons, Nat.add_mul, Nat.one_mul]
        have := ih (fun q hq => hl q (List.mem_cons_of_mem _ hq))
        have := hl q (List.mem_cons_self ..)
        omega
    have h1 := hs qs hsm
    have h2 : qs.length * B ≤ 4 * B := Nat.mul_le_mul_right _ (by rw [h.len]; exact hk)
    have h3 : 261 ≤ B := by rw [← hB]; have := Nat.one_le_pow d 4 (by decide); omega
    have h4 : szH (szs (qs.map (·.2))) ≤ szs (qs.map (·.2)) + 3 := by
      unfold szH
      split
      · omega
      · split <;> omega
    rw [It.sz, Nat.pow_succ, Nat.mul_comm (4 ^ d) 4, ← Nat.mul_assoc, Nat.mul_comm 261 4, Nat.mul_assoc, hB]
    have h5 : qs.length ≤ 4 := by rw [h.len]; exact hk
    obtain ⟨n, hn⟩ : ∃ n, qs.length = n := ⟨_, rfl⟩
    rw [hn] at h1 h5
    have h6 : szs (qs.map (·.2)) + 4 ≤ 4 * B := by
      match n, h5 with
      | 0, _ => omega
      | 1, _ => omega
      | 2, _ => omega
      | 3, _ => omega
      | 4, _ => omega
    omega

set_option maxRecDepth 100000 in
set_option maxHeartbeats 12800000 in
theorem item_succ (d : Nat) (hd : d ≤ 4) (fb : Nat) (raw : ByteArray) (w : World) (hf : FeedAt w fb raw) (hr : raw.size ≤ 9223372036854775807) (hI : ∀ W, FeedAt W fb raw → Calls Tryd.prog 11 #[.pointer (some ⟨fb, 0, none⟩), .int .i64 (d : Int)] W (FedSaid d fb raw W)) :
    Calls Tryd.prog 11 #[.pointer (some ⟨fb, 0, none⟩), .int .i64 ((d + 1 : Nat) : Int)] w (FedSaid (d + 1) fb raw w) := by
  obtain ⟨i0, hi, hz0, hz1, hz2⟩ := info_parts infoI
  have K0 : ∀ t, Keeps fb raw w (w.alloc (.cells #[.bool false, .string ⟨#[]⟩, .slice none 0 0] t)) := fun t => ⟨.of_below ((Below.refl _ _).alloc (Nat.le_refl _) _), hf.below ((Below.refl _ _).alloc (Nat.le_refl _) _), Held.fresh w [.bool false, .string ⟨#[]⟩, .slice none 0 0] t, hf.lt⟩
  have HK0 := Hid.hide K0
  have HI := Hid.hide hI
  have HX : Hid (∀ n W, 0 < n → n ≤ 256 → FeedAt W fb raw → Calls Tryd.prog 18 #[.pointer (some ⟨fb, 0, none⟩), .int .i64 ((n : Nat) : Int)] W (NextSaid n fb raw W)) := fun n W h1 h2 h => next_any n h1 h2 fb raw W h hr
  have hd0 : (((d + 1 : Nat) : Int) == 0) = false := by simp; omega
  obtain ⟨D, hD⟩ : ∃ D : Int, ((d + 1 : Nat) : Int) = D := ⟨_, rfl⟩
  have hD1 : wrap64 (D - 1) = (d : Int) := by rw [← hD]; unfold wrap64; omega
  rw [hD] at hd0 ⊢
  have hd1 : ¬ D = 0 := by simpa using hd0
  clear hf hr K0 hI hd hD
  go_enter Tryd.func11, Tryd.ntmps11
  go_wp2_with fail
  refine (HX.out 2 _ (by omega) (by omega) (HK0.out _).2.1).mono ?_
  rintro e wa ⟨k2, hk2, rfl, hoa, -, hfa⟩
  have KK0 : Aside (Keeps fb raw w wa) := (HK0.out _).next hoa hfa
  clear hoa hfa HK0
  by_cases hk : k2 = 1
  · subst hk
    clear hk2 HI
    go_wp2_with fail
    refine (HX.out 4 _ (by omega) (by omega) KK0.out.2.1).mono ?_
    rintro e w1 ⟨n0, hn0, rfl, ho1, -, hf1⟩
    have K1 : Aside (Keeps fb raw w w1 ∧ n0 < 4) := ⟨KK0.out.next ho1 hf1, hn0⟩
    clear ho1 hf1 KK0 hn0
    go_wp2_with fail
    refine (HX.out 8 _ (by omega) (by omega) K1.out.1.2.1).mono ?_
    rintro e w2 ⟨s8, hs8, rfl, ho2, -, hf2⟩
    have K2 : Aside (Keeps fb raw w w2 ∧ n0 < 4) := ⟨K1.out.1.next ho2 hf2, K1.out.2⟩
    clear ho2 hf2 K1 hs8
    by_cases h1 : s8 = 1
    · subst h1
      go_wp2_with fail
      refine (HX.out 4 _ (by omega) (by omega) K2.out.1.2.1).mono ?_
      rintro e w3 ⟨k3, hk3, rfl, ho3, -, hf3⟩
      obtain ⟨n, hn⟩ : ∃ n, 54 + k3 = n := ⟨_, rfl⟩
      have hni : wrap64 (n : Int) = (n : Int) := by unfold wrap64; omega
      have hni2 : (54 + (k3 : Int)) = (n : Int) := by omega
      have KK : Aside (Keeps fb raw w w3 ∧ n ≤ 257) := ⟨K2.out.1.next ho3 hf3, by omega⟩
      clear ho3 hf3 K2 hk3 hn
      have hn257 : n ≤ 257 := KK.out.2
      have HN : Hid (n ≤ 257) := hn257
      clear hn257
      go_wp2
      try rw [hni]
      go_loopg [6] n (fun gh u wr => ∃ l : List Nat, l.length ≤ n ∧ gh = n - l.length ∧ u = .string (textB l) ∧ (∀ x ∈ l, x < 256) ∧ Keeps fb raw w wr)
      case atStart => exact ⟨[], Nat.zero_le _, rfl, rfl, by simp, KK.out.1⟩
      case round =>
        obtain ⟨l, hl, rfl, rfl, hb, hK⟩ := hrel
        have hsz := textB_size l
        by_cases hlt : l.length < n
        · have hli : ((textB l).size : Int) < (n : Int) := by omega
          have A : Aside (Keeps fb raw w wr ∧ l.length < n ∧ (∀ x ∈ l, x < 256)) := ⟨hK, hlt, hb⟩
          have hadd := fun (k : Nat) W => add_text l [k] (by have := HN.out; simp only [List.length_cons, List.length_nil]; omega) W
          have HA := Hid.hide hadd
          clear hK hb hlt hl hsz hadd
          go_wp2_with fail
          refine (HX.out 256 _ (by omega) (by omega) A.out.1.2.1).mono ?_
          rintro e wn ⟨k, hk, rfl, ho, -, hfn⟩
          have AK : Aside (Keeps fb raw w wn ∧ k < 256) := ⟨A.out.1.next ho hfn, hk⟩
          have hcv := byte_text wn k
          have hka : ((k : Int) % 256) = (k : Int) := by omega
          have hadd := HA.out k
          clear ho hfn hk
          go_wp2
          go_roundg (n - (l ++ [k]).length)
          case measure => have := A.out.2.1; simp only [List.length_append, List.length_cons, List.length_nil]; omega
          case rel =>
            refine ⟨l ++ [k], by have := A.out.2.1; simp only [List.length_append, List.length_cons, List.length_nil]; omega, rfl, rfl, fun x hx => ?_, AK.out.1.below ((Below.refl _ _).alloc (Nat.le_refl _) _)⟩
            rcases List.mem_append.1 hx with hx | hx
            · exact A.out.2.2 x hx
            · rw [List.mem_singleton.1 hx]; exact AK.out.2
        · have hln : l.length = n := by omega
          have hli : (n : Int) ≤ ((textB l).size : Int) := by omega
          have A : Aside (Keeps fb raw w wr ∧ l.length ≤ 257 ∧ (∀ x ∈ l, x < 256)) := ⟨hK, by have := HN.out; omega, hb⟩
          obtain ⟨_, _, hH, _⟩ := hK
          obtain ⟨a0, f0⟩ := hH.2 0 _ rfl
          obtain ⟨a1, f1⟩ := hH.2 1 _ rfl
          obtain ⟨a2, f2⟩ := hH.2 2 _ rfl
          obtain ⟨tx, htx⟩ : ∃ tx, textB l = tx := ⟨_, rfl⟩
          have HTX : Hid (textB l = tx) := htx
          rw [htx] at hli ⊢
          clear hb hH hl hlt hln htx hsz
          go_wp2
          refine bodyPost_ret (v := .agg #[.bool false, .string tx, .slice none 0 0]) (by simp [results, Tryd.results11, go_sem, a0, a1, a2]) rfl ?_
          refine text_said HTX.out A.out.2.2 A.out.2.1 A.out.1
    by_cases h2 : s8 = 2
    · subst h2
      go_wp2_with fail
      refine (HX.out 4 _ (by omega) (by omega) K2.out.1.2.1).mono ?_
      rintro e w3 ⟨k3, hk3, rfl, ho3, -, hf3⟩
      obtain ⟨n, hn⟩ : ∃ n, 254 + k3 = n := ⟨_, rfl⟩
      have hni : wrap64 (n : Int) = (n : Int) := by unfold wrap64; omega
      have hni2 : (254 + (k3 : Int)) = (n : Int) := by omega
      have KK : Aside (Keeps fb raw w w3 ∧ n ≤ 257) := ⟨K2.out.1.next ho3 hf3, by omega⟩
      clear ho3 hf3 K2 hk3 hn
      have hn257 : n ≤ 257 := KK.out.2
      have HN : Hid (n ≤ 257) := hn257
      clear hn257
      go_wp2
      try rw [hni]
      go_loopg [6] n (fun gh u wr => ∃ l : List Nat, l.length ≤ n ∧ gh = n - l.length ∧ u = .string (textB l) ∧ (∀ x ∈ l, x < 256) ∧ Keeps fb raw w wr)
      case atStart => exact ⟨[], Nat.zero_le _, rfl, rfl, by simp, KK.out.1⟩
      case round =>
        obtain ⟨l, hl, rfl, rfl, hb, hK⟩ := hrel
        have hsz := textB_size l
        by_cases hlt : l.length < n
        · have hli : ((textB l).size : Int) < (n : Int) := by omega
          have A : Aside (Keeps fb raw w wr ∧ l.length < n ∧ (∀ x ∈ l, x < 256)) := ⟨hK, hlt, hb⟩
          have hadd := fun (k : Nat) W => add_text l [k] (by have := HN.out; simp only [List.length_cons, List.length_nil]; omega) W
          have HA := Hid.hide hadd
          clear hK hb hlt hl hsz hadd
          go_wp2_with fail
          refine (HX.out 256 _ (by omega) (by omega) A.out.1.2.1).mono ?_
          rintro e wn ⟨k, hk, rfl, ho, -, hfn⟩
          have AK : Aside (Keeps fb raw w wn ∧ k < 256) := ⟨A.out.1.next ho hfn, hk⟩
          have hcv := byte_text wn k
          have hka : ((k : Int) % 256) = (k : Int) := by omega
          have hadd := HA.out k
          clear ho hfn hk
          go_wp2
          go_roundg (n - (l ++ [k]).length)
          case measure => have := A.out.2.1; simp only [List.length_append, List.length_cons, List.length_nil]; omega
          case rel =>
            refine ⟨l ++ [k], by have := A.out.2.1; simp only [List.length_append, List.length_cons, List.length_nil]; omega, rfl, rfl, fun x hx => ?_, AK.out.1.below ((Below.refl _ _).alloc (Nat.le_refl _) _)⟩
            rcases List.mem_append.1 hx with hx | hx
            · exact A.out.2.2 x hx
            · rw [List.mem_singleton.1 hx]; exact AK.out.2
        · have hln : l.length = n := by omega
          have hli : (n : Int) ≤ ((textB l).size : Int) := by omega
          have A : Aside (Keeps fb raw w wr ∧ l.length ≤ 257 ∧ (∀ x ∈ l, x < 256)) := ⟨hK, by have := HN.out; omega, hb⟩
          obtain ⟨_, _, hH, _⟩ := hK
          obtain ⟨a0, f0⟩ := hH.2 0 _ rfl
          obtain ⟨a1, f1⟩ := hH.2 1 _ rfl
          obtain ⟨a2, f2⟩ := hH.2 2 _ rfl
          obtain ⟨tx, htx⟩ : ∃ tx, textB l = tx := ⟨_, rfl⟩
          have HTX : Hid (textB l = tx) := htx
          rw [htx] at hli ⊢
          clear hb hH hl hlt hln htx hsz
          go_wp2
          refine bodyPost_ret (v := .agg #[.bool false, .string tx, .slice none 0 0]) (by simp [results, Tryd.results11, go_sem, a0, a1, a2]) rfl ?_
          refine text_said HTX.out A.out.2.2 A.out.2.1 A.out.1
    · obtain ⟨n, hn⟩ : ∃ n, n0 = n := ⟨_, rfl⟩
      subst hn
      have e1 : ((s8 : Int) == 1) = false := by simp; omega
      have e2 : ((s8 : Int) == 2) = false := by simp; omega
      have KK : Aside (Keeps fb raw w w2 ∧ n0 ≤ 257) := ⟨K2.out.1, by have := K2.out.2; omega⟩
      obtain ⟨n, hn⟩ : ∃ n, n = n0 := ⟨_, rfl⟩
      subst hn
      clear K2
      have hn257 : n ≤ 257 := KK.out.2
      have HN : Hid (n ≤ 257) := hn257
      clear hn257
      go_wp2
      try rw [hni]
      go_loopg [6] n (fun gh u wr => ∃ l : List Nat, l.length ≤ n ∧ gh = n - l.length ∧ u = .string (textB l) ∧ (∀ x ∈ l, x < 256) ∧ Keeps fb raw w wr)
      case atStart => exact ⟨[], Nat.zero_le _, rfl, rfl, by simp, KK.out.1⟩
      case round =>
        obtain ⟨l, hl, rfl, rfl, hb, hK⟩ := hrel
        have hsz := textB_size l
        by_cases hlt : l.length < n
        · have hli : ((textB l).size : Int) < (n : Int) := by omega
          have A : Aside (Keeps fb raw w wr ∧ l.length < n ∧ (∀ x ∈ l, x < 256)) := ⟨hK, hlt, hb⟩
          have hadd := fun (k : Nat) W => add_text l [k] (by have := HN.out; simp only [List.length_cons, List.length_nil]; omega) W
          have HA := Hid.hide hadd
          clear hK hb hlt hl hsz hadd
          go_wp2_with fail
          refine (HX.out 256 _ (by omega) (by omega) A.out.1.2.1).mono ?_
          rintro e wn ⟨k, hk, rfl, ho, -, hfn⟩
          have AK : Aside (Keeps fb raw w wn ∧ k < 256) := ⟨A.out.1.next ho hfn, hk⟩
          have hcv := byte_text wn k
          have hka : ((k : Int) % 256) = (k : Int) := by omega
          have hadd := HA.out k
          clear ho hfn hk
          go_wp2
          go_roundg (n - (l ++ [k]).length)
          case measure => have := A.out.2.1; simp only [List.length_append, List.length_cons, List.length_nil]; omega
          case rel =>
            refine ⟨l ++ [k], by have := A.out.2.1; simp only [List.length_append, List.length_cons, List.length_nil]; omega, rfl, rfl, fun x hx => ?_, AK.out.1.below ((Below.refl _ _).alloc (Nat.le_refl _) _)⟩
            rcases List.mem_append.1 hx with hx | hx
            · exact A.out.2.2 x hx
            · rw [List.mem_singleton.1 hx]; exact AK.out.2
        · have hln : l.length = n := by omega
          have hli : (n : Int) ≤ ((textB l).size : Int) := by omega
          have A : Aside (Keeps fb raw w wr ∧ l.length ≤ 257 ∧ (∀ x ∈ l, x < 256)) := ⟨hK, by have := HN.out; omega, hb⟩
          obtain ⟨_, _, hH, _⟩ := hK
          obtain ⟨a0, f0⟩ := hH.2 0 _ rfl
          obtain ⟨a1, f1⟩ := hH.2 1 _ rfl
          obtain ⟨a2, f2⟩ := hH.2 2 _ rfl
          obtain ⟨tx, htx⟩ : ∃ tx, textB l = tx := ⟨_, rfl⟩
          have HTX : Hid (textB l = tx) := htx
          rw [htx] at hli ⊢
          clear hb hH hl hlt hln htx hsz
          go_wp2
          refine bodyPost_ret (v := .agg #[.bool false, .string tx, .slice none 0 0]) (by simp [results, Tryd.results11, go_sem, a0, a1, a2]) rfl ?_
          refine text_said HTX.out A.out.2.2 A.out.2.1 A.out.1
  · obtain rfl : k2 = 0 := by omega
    clear hk hk2
    go_wp2_with fail
    refine (HX.out 5 _ (by omega) (by omega) (KK0.out.2.1.below ((Below.refl _ _).alloc (Nat.le_refl _) _))).mono ?_
    rintro e w3 ⟨n5, hn5, rfl, ho3, -, hf3⟩
    have hS : IHalf d fb wa.heap.size raw w 0 w3 (.slice none 0 0) [] := IHalf.start KK0.out ho3 hf3
    obtain ⟨X, hX⟩ : ∃ X, wa.heap.size = X := ⟨_, rfl⟩
    rw [hX] at hS ⊢
    have AS : Aside (IHalf d fb X raw w 0 w3 (.slice none 0 0) []) := hS
    have HN : Hid (n5 < 5) := hn5
    clear ho3 hf3 hn5 hS hX KK0
    go_wp2
    go_loopg [8] n5 (fun gh u wr => ∃ (g k : Nat) (v : Value) (qs : List (El × It)), g = gh ∧ k + g = n5 ∧ u = .int .i64 (g : Int) ∧ IHalf d fb X raw w k wr v qs)
    case atStart => exact ⟨n5, 0, _, [], rfl, by omega, rfl, AS.out⟩
    case round =>
      obtain ⟨g, k, v, qs, rfl, hkg, rfl, hH⟩ := hrel
      obtain ⟨p0, m0, c0, rfl⟩ := hH.own.shape
      by_cases hg : g = 0
      · subst hg
        have t0 := hH.c0
        have t1 := hH.c1
        have t2 := hH.c2
        obtain ⟨a0, f0⟩ := hH.ret.2 0 _ rfl
        obtain ⟨a1, f1⟩ := hH.ret.2 1 _ rfl
        obtain ⟨a2, f2⟩ := hH.ret.2 2 _ rfl
        have A : Aside (IHalf d fb X raw w k wr (.slice p0 m0 c0) qs ∧ k ≤ 4) := ⟨hH, by have := HN.out; omega⟩
        have hz : ¬ (0 : Int) < ((0 : Nat) : Int) := by simp
        clear hH hkg
        go_wp2
        refine bodyPost_ret (v := .agg #[.bool true, .string ⟨#[]⟩, .slice p0 m0 c0]) (by simp [results, Tryd.results11, go_sem, a0, a1, a2]) rfl ?_
        exact list_said A.out.1 A.out.2
      · have hpos : 0 < g := by omega
        have A : Aside (IHalf d fb X raw w k wr (.slice p0 m0 c0) qs ∧ k ≤ 4 ∧ k + g = n5) := ⟨hH, by have := HN.out; omega, hkg⟩
        have hgw : wrap64 ((g : Int) - 1) = ((g - 1 : Nat) : Int) := by have := HN.out; unfold wrap64; omega
        have HG : Hid (wrap64 ((g : Int) - 1) = ((g - 1 : Nat) : Int)) := hgw
        clear hH hkg hgw hg
        go_wp2_with fail
        refine (HI.out wr A.out.1.feed).mono ?_
        rintro e w4 ⟨l2, tx2, p2, m2, c2, x2, rfl, hT, hsz, ho4, hf4⟩
        have hXb : w4.heap[X]? = wr.heap[X]? := ho4.block X A.out.1.hi (by have := A.out.1.lo; have := A.out.1.fbl; omega)
        have b2 : w4.cell? ⟨X, 2, none⟩ = some (.slice p0 m0 c0) := (World.cell?_of_block hXb).trans A.out.1.c2
        have hXl : X < w4.heap.size := Nat.lt_of_lt_of_le A.out.1.hi ho4.size
        have hXn : ¬ X = w4.heap.size := by omega
        have hXn2 : ¬ X = w4.heap.size + 1 := by omega
        have hown4 : ∀ b, (Value.slice p0 m0 c0).ownBlock = some b → w4.heap[b]? = wr.heap[b]? := fun b hb => ho4.block b (A.out.1.own.block b hb).2 (by have := (A.out.1.own.block b hb).1; have := A.out.1.fbl; omega)
        have HO : Hid (∀ o1 o2, OwnC ((w4.alloc o1).alloc o2) w.heap.size 3 (.slice p0 m0 c0) k (qs.flatMap fun q => encI q.1)) := fun o1 o2 => ((A.out.1.own.keep ho4.size (fun b _ hb => hown4 b hb)).alloc o1).alloc o2
        have AP : Aside (∀ o1 o2 b, (Value.slice p0 m0 c0).ownBlock = some b → Plain ((w4.alloc o1).alloc o2) b) := fun o1 o2 b hb => (A.out.1.plain b hb).keep (by
          have h1 := (A.out.1.own.block b hb).2
          have h2 := ho4.size
          exact (Below.heap_alloc _ _ _ (by simp; omega)).trans ((Below.heap_alloc _ _ _ (by omega)).trans (hown4 b hb)))
        have B : Aside (Tree encI kB d w4 (fun b => wr.heap.size ≤ b) ⟨0, 0, l2, tx2, .slice p2 m2 c2⟩ x2 ∧ x2.sz + 1 ≤ 261 * 4 ^ d ∧ Only fb wr w4 ∧ FeedAt w4 fb raw ∧ w.heap.size ≤ w4.heap.size) := ⟨hT, hsz, ho4, hf4, by have := A.out.1.only.size; have := ho4.size; omega⟩
        have hfzX : w4.frozen? ⟨X, 2, none⟩ = false := (World.frozen?_of_block hXb).trans (A.out.1.free 2 (by omega))
        clear hT hsz ho4 hf4 hXb hown4
        go_wp2_with (at_builtin; refine wpList_append_ownp _ rfl _ _ 36 rfl 38 i0 zeroI 3 48 Tryd.underlying36 hi hz0 hz1 hz2 rfl (by decide) w.heap.size _ k _ rfl (HO.out _ _) (w4.heap.size + 1) 0 1 1 [.bool l2, .string tx2, .slice p2 m2 c2] rfl rfl ?c1 (oneCell3 _ _ _ _ _) ?c2 ?c3 ?c4 ?_)
        case c1 =>
          have := rangeAt_new (w4.alloc (.cells #[.bool l2, .string tx2, .slice p2 m2 c2] 38)) [.bool l2, .string tx2, .slice p2 m2 c2] 38
          simpa using this
        case c2 => have := A.out.2.1; unfold maxLen; omega
        case c3 => have := A.out.2.1; omega
        case c4 => have := B.out.2.2.2.2; simp; omega
        intro v5 w5 hO5 hg5 hf5 hp5
        obtain ⟨p5, m5, c5, rfl⟩ := hO5.shape
        have hne : (Value.slice p0 m0 c0).ownBlock ≠ some X := A.out.1.out
        have hb5 : w5.heap[X]? = w4.heap[X]? := (hg5.block X (by simp; omega) (fun e => hne e.symm)).trans ((Below.heap_alloc _ _ _ (by simp; omega)).trans (Below.heap_alloc _ _ _ hXl))
        have y2 : w5.cell? ⟨X, 2, none⟩ = some (.slice p0 m0 c0) := (World.cell?_of_block hb5).trans b2
        have y3 : w5.frozen? ⟨X, 2, none⟩ = false := (World.frozen?_of_block hb5).trans hfzX
        have A4 : Aside (IHalf d fb X raw w (k + 1) (w5.setCell ⟨X, 2, none⟩ (.slice p5 m5 c5)) (.slice p5 m5 c5) (qs ++ [(⟨0, 0, l2, tx2, .slice p2 m2 c2⟩, x2)])) :=
          A.out.1.more B.out.2.2.1 B.out.2.2.2.1 B.out.1 B.out.2.1 ((Below.refl _ _).alloc (Nat.le_refl _) _) hO5 hg5 (by simpa using hf5) (hp5 (AP.out _ _))
        clear hO5 hg5 hf5 hp5 HO AP hb5 b2 hfzX hne
        go_wp2
        go_roundg (g - 1)
        case measure => omega
        case rel => exact ⟨g - 1, k + 1, _, _, rfl, by have := A.out.2.2; omega, val_int HG.out, A4.out⟩

/-- item: out of raw bytes, so deep at most. -/
theorem item_fed (fb : Nat) (raw : ByteArray) (hr : raw.size ≤ 9223372036854775807) : ∀ (d : Nat), d ≤ 5 → ∀ w, FeedAt w fb raw → Calls Tryd.prog 11 #[.pointer (some ⟨fb, 0, none⟩), .int .i64 (d : Int)] w (FedSaid d fb raw w)
  | 0, _, w, h => item_zero fb raw w h hr
  | d + 1, hd, w, h => item_succ d (by omega) fb raw w h hr (fun W hW => item_fed fb raw hr d (by omega) W hW)
end Go.Proofs.YtjiikjpnlgogfaaDoor
