/-
  Pack and Unpack of package nibbles.
-/
import Derived.Test.YtjiikjpnlgogfaaDoorNib
import Derived.Lib.Strings
namespace Go.Proofs.YtjiikjpnlgogfaaDoor
open Go.RowKit

set_option maxRecDepth 100000 in
set_option maxHeartbeats 1600000 in
/-- Pack of a path without a byte above 15. -/
theorem pack_ok (s : ByteArray) (leaf : Bool) (w : World) (hs : s.size ≤ 4194304) (hn : ∀ x ∈ bytesOf s, x < 16) :
    Calls Tryd.prog 32 #[.string s, .bool leaf] w fun e w' => e = .returned (.tuple #[.string (textB (pathCode (bytesOf s) leaf)), .nilIface]) ∧ Below w.heap.size w w' := by
  have HC : Hid (∀ W : World, Calls Tryd.prog 44 #[.string s, .bool leaf] W fun e w' => e = .returned (.string (textB (pathCode (bytesOf s) leaf))) ∧ Below W.heap.size W w') := fun W => code_any s leaf W hs hn
  have hbl := bytesOf_length s
  obtain ⟨t, ht⟩ : ∃ t, textB (pathCode (bytesOf s) leaf) = t := ⟨_, rfl⟩
  rw [ht] at HC ⊢
  have AS : Aside (s.size ≤ 4194304 ∧ (∀ x ∈ bytesOf s, x < 16) ∧ (bytesOf s).length = s.size) := ⟨hs, hn, hbl⟩
  clear hs hn hbl ht
  go_enter Tryd.func32, Tryd.ntmps32
  go_wp2
  go_loopg [9] s.size (fun g i wr => ∃ x : Nat, x ≤ s.size ∧ g = s.size - x ∧ i = .int .i64 (x : Int) ∧ wr = w)
  case atStart => exact ⟨0, by omega, rfl, rfl, rfl⟩
  case round =>
    obtain ⟨x, hx, rfl, rfl, rfl⟩ := hrel
    by_cases hlt : x < s.size
    · have hc16 : (s[x]'hlt).toNat < 16 := by
        obtain ⟨_, hn, hbl⟩ := AS.out
        rw [byte_at s x hlt, getElem!_pos _ x (by omega)]
        exact hn _ (List.getElem_mem _)
      obtain ⟨c, hc⟩ : ∃ c, (s[x]'hlt).toNat = c := ⟨_, rfl⟩
      rw [hc] at hc16
      have hci : (c : Int) ≤ 15 := by omega
      have hxi : (x : Int) < (s.size : Int) := by omega
      have HX : Hid (wrap64 ((x : Int) + 1) = ((x + 1 : Nat) : Int)) := wrap64_succ x (by have := AS.out.1; omega)
      clear hc16
      go_wp2
      go_roundg (s.size - (x + 1))
      case measure => omega
      case rel => exact ⟨x + 1, by omega, rfl, val_int HX.out, rfl⟩
    · have hxi : (s.size : Int) ≤ (x : Int) := by omega
      clear hlt
      go_wp2_with (go_at_call 44; refine (HC.out _).mono ?_; rintro e w1 ⟨rfl, hb1⟩)
      go_ret2
      exact ⟨rfl, hb1⟩

/-- What a path's code tells. -/
def unpackF : List Nat → Option (List Nat × Bool)
  | [] => none
  | c :: r => if 3 < c / 16 then none else if c / 16 % 2 = 1 then some ((c % 16) :: nibs r, decide (2 ≤ c / 16)) else if c % 16 = 0 then some (nibs r, decide (2 ≤ c / 16)) else none

theorem some_text (s : ByteArray) (h : 0 < s.size) : s.toList.isEmpty = false := by
  rw [Lib.toList_data]
  have : s.data.toList.length = s.size := by simp
  cases e : s.data.toList with
  | nil => rw [e] at this; simp at this; omega
  | cons a l => rfl
theorem unpackF_cons (c : Nat) (r : List Nat) : unpackF (c :: r) = if 3 < c / 16 then none else if c / 16 % 2 = 1 then some ((c % 16) :: nibs r, decide (2 ≤ c / 16)) else if c % 16 = 0 then some (nibs r, decide (2 ≤ c / 16)) else none := rfl

theorem and1 (x : Nat) (h : x < 4) : bits .and .u8 (x : Int) 1 = ((x % 2 : Nat) : Int) := by
  have all : ∀ i : Fin 4, bits .and .u8 (i.val : Int) 1 = ((i.val % 2 : Nat) : Int) := by decide +kernel
  exact all ⟨x, h⟩
theorem and2 (x : Nat) (h : x < 4) : bits .and .u8 (x : Int) 2 = ((x / 2 * 2 : Nat) : Int) := by
  have all : ∀ i : Fin 4, bits .and .u8 (i.val : Int) 2 = ((i.val / 2 * 2 : Nat) : Int) := by decide +kernel
  exact all ⟨x, h⟩

set_option maxRecDepth 100000 in
set_option maxHeartbeats 1600000 in
/-- Unpack of what is a path's code. -/
theorem unpack_ok (s : ByteArray) (w : World) (hs : s.size ≤ 4194304) (p : List Nat) (leaf : Bool) (hu : unpackF (bytesOf s) = some (p, leaf)) :
    Calls Tryd.prog 33 #[.string s] w fun e w' => e = .returned (.tuple #[.string (textB p), .bool leaf, .nilIface]) ∧ Below w.heap.size w w' := by
  obtain ⟨i0, hi, hz0, hz1, hz2⟩ := info_parts infoU8
  have hbl := bytesOf_length s
  have hp : 0 < s.size := by
    rw [← hbl]
    cases e : bytesOf s with
    | nil => rw [e] at hu; cases hu
    | cons c r => simp
  obtain ⟨c, hc⟩ : ∃ c, (s[0]'hp).toNat = c := ⟨_, rfl⟩
  have hrest := bytesOf_rest s
  obtain ⟨r, hr⟩ : ∃ r, (bytesOf s).drop 1 = r := ⟨_, rfl⟩
  have hbs : bytesOf s = c :: r := by
    have e := List.drop_eq_getElem_cons (l := bytesOf s) (i := 0) (by omega)
    rw [List.drop_zero, Nat.zero_add, hr] at e
    rw [← hc, byte_at s 0 hp, getElem!_pos _ 0 (by omega)]
    exact e
  rw [hr] at hrest
  rw [hbs] at hu
  have hc8 : c < 256 := by rw [← hc]; exact UInt8.toNat_lt _
  rw [unpackF_cons] at hu
  by_cases h3 : 3 < c / 16
  · rw [if_pos h3] at hu; cases hu
  rw [if_neg h3] at hu
  obtain ⟨g, hg⟩ : ∃ g, c / 16 = g := ⟨_, rfl⟩
  obtain ⟨d, hd⟩ : ∃ d, c % 16 = d := ⟨_, rfl⟩
  rw [hg] at h3 hu
  rw [hd] at hu
  have a15 := and15 c hc8
  rw [hd] at a15
  have hgi : (c : Int) / 16 = (g : Int) := by omega
  have g4 : g < 4 := by omega
  have b1 := and1 g g4
  have b2 := and2 g g4
  have hne := some_text s hp
  have g3i : (g : Int) ≤ 3 := by omega
  obtain ⟨z, hz⟩ : ∃ z, g / 2 * 2 = z := ⟨_, rfl⟩
  rw [hz] at b2
  obtain ⟨lf, hlf⟩ : ∃ lf, decide (2 ≤ g) = lf := ⟨_, rfl⟩
  have hzf : ((z : Int) != 0) = lf := by
    rw [← hlf]
    by_cases h2 : 2 ≤ g
    · have : z ≠ 0 := by omega
      simp [h2, this]
    · have : z = 0 := by omega
      simp [h2, this]
  rw [hlf] at hu
  clear hz hlf
  by_cases hodd : g % 2 = 1
  · rw [if_pos hodd] at hu
    cases hu
    have b1' : bits .and .u8 (g : Int) 1 = 1 := by rw [b1, hodd]; rfl
    have HO : Hid (Own (w.drew.alloc (.cells #[.int .u8 (d : Int)] 5)) w.heap.size (.slice none 0 0) []) := Own.nil _ _
    have A1 : Aside (s.size ≤ 4194304 ∧ bytesOf (s.extract 1 s.size) = r ∧ (bytesOf s).length = s.size ∧ bytesOf s = c :: r) := ⟨hs, hrest, hbl, hbs⟩
    clear b1 hs hrest hbl hbs hr hg hd hodd h3 g4
    go_enter Tryd.func33, Tryd.ntmps33
    go_wp2
    go_region
    clear hc hgi a15 hne
    go_wp2_with (at_builtin; refine wpList_append_own8 _ rfl _ _ 73 rfl 5 i0 Tryd.underlying73 hi hz0 hz1 hz2 w.heap.size _ [] rfl HO.out w.heap.size 0 1 [d] rfl ?c1 ?c2 ?c3 ?_)
    case c1 =>
      intro j hj
      have hj0 : j = 0 := by simpa using hj
      subst hj0
      exact World.cell?_alloc_new w.drew #[.int .u8 (d : Int)] 5 0
    case c2 => simp
    case c3 => simp
    intro v1 w1 hg1
    have bw1 : Below w.heap.size w w1 := hg1.below HO.out ((Below.refl _ _).drew.alloc (Nat.le_refl _) _) (by simp)
    have o1 : Own w1 w.heap.size v1 [d] := by simpa using hg1.own
    clear hg1 HO
    obtain ⟨x, hx⟩ : ∃ x, s.extract 1 s.size = x := ⟨_, rfl⟩
    have hxs : x.size ≤ 4194304 := by
      rw [← bytesOf_length, ← hx, A1.out.2.1]
      have h1 := A1.out.2.2.1
      rw [A1.out.2.2.2, List.length_cons] at h1
      have := A1.out.1
      omega
    have HX : Hid (Calls Tryd.prog 45 #[v1, .string x] w1 fun e w' => ∃ v', e = .returned v' ∧ Grew w1 w' w.heap.size v1 v' ([d] ++ nibs r)) := by
      have := nibbles_any x w1 o1 bw1.size hxs (by simp)
      rw [← hx, A1.out.2.1, hx] at this
      exact this
    have HB : Hid (Below w.heap.size w w1 ∧ Own w1 w.heap.size v1 [d]) := ⟨bw1, o1⟩
    clear bw1 o1 hxs
    go_wp2_with fail
    refine HX.out.mono ?_
    rintro e w2 ⟨v2, rfl, hg2⟩
    have hcv := run_own_text (P := Tryd.prog) w2 73 9 5 Tryd.underlying73 Tryd.underlying5 Tryd.underlying9 hg2.own
    obtain ⟨t, ht⟩ : ∃ t, textB (d :: nibs r) = t := ⟨_, rfl⟩
    have hcv2 : Sem.run Tryd.prog (convert 73 9 v2) w2 = .ok (.string t) w2 := by rw [← ht]; exact hcv
    have HT : Hid (textB (d :: nibs r) = t) := ht
    have HW : Hid (Below w.heap.size w w2) := hg2.below HB.out.2 HB.out.1 HB.out.1.size
    clear hg2 hcv ht HX
    go_wp2
    go_ret3
    exact ⟨by rw [HT.out]; rfl, HW.out⟩
  · rw [if_neg hodd] at hu
    by_cases hd0 : d = 0
    · rw [if_pos hd0] at hu
      cases hu
      have b1' : bits .and .u8 (g : Int) 1 = 0 := by
        rw [b1]
        have : g % 2 = 0 := by omega
        rw [this]
        rfl
      have a15' : bits .and .u8 (c : Int) 15 = 0 := by rw [a15, hd0]; rfl
      obtain ⟨x, hx⟩ : ∃ x, s.extract 1 s.size = x := ⟨_, rfl⟩
      have hxs : x.size ≤ 4194304 := by
        rw [← bytesOf_length, ← hx, hrest]
        rw [hbs, List.length_cons] at hbl
        omega
      have HX : Hid (Calls Tryd.prog 45 #[.slice none 0 0, .string x] w.drew fun e w' => ∃ v', e = .returned v' ∧ Grew w.drew w' w.heap.size (.slice none 0 0) v' (nibs r)) := by
        have := nibbles_any (l := []) x w.drew (Own.nil _ w.heap.size) (Nat.le_refl _) hxs (by simp)
        rw [← hx, hrest, hx] at this
        exact this
      have HB : Hid (Below w.heap.size w w.drew ∧ Own w.drew w.heap.size (.slice none 0 0) []) := ⟨(Below.refl _ _).drew, Own.nil _ _⟩
      clear b1 hs hrest hbl hbs hr hg hd hodd h3 g4 hxs a15 hd0
      go_enter Tryd.func33, Tryd.ntmps33
      go_wp2
      go_region
      clear hc hgi a15' hne
      go_wp2_with fail
      refine HX.out.mono ?_
      rintro e w2 ⟨v2, rfl, hg2⟩
      have hcv := run_own_text (P := Tryd.prog) w2 73 9 5 Tryd.underlying73 Tryd.underlying5 Tryd.underlying9 hg2.own
      obtain ⟨t, ht⟩ : ∃ t, textB (nibs r) = t := ⟨_, rfl⟩
      have hcv2 : Sem.run Tryd.prog (convert 73 9 v2) w2 = .ok (.string t) w2 := by rw [← ht]; exact hcv
      have HT : Hid (textB (nibs r) = t) := ht
      have HW : Hid (Below w.heap.size w w2) := hg2.below HB.out.2 HB.out.1 HB.out.1.size
      clear hg2 hcv ht HX
      go_wp2
      go_ret3
      exact ⟨by rw [HT.out]; rfl, HW.out⟩
    · rw [if_neg hd0] at hu
      cases hu
end Go.Proofs.YtjiikjpnlgogfaaDoor
