/-
  Package twigsref: Unpack.
-/
import Derived.Test.YtjiikjpnlgogfaaGreatDoorRefG
namespace Go.Proofs.YtjiikjpnlgogfaaGreatDoor
open Go.RowKit

theorem pairs_nibs5 : ∀ l : List Nat, (∀ x ∈ l, x < 256) → pairs (nibs l) = l
  | [], _ => rfl
  | x :: r, h => by
    have hx := h x (by simp)
    have e : nibs (x :: r) = (x / 16) :: (x % 16) :: nibs r := rfl
    rw [e, pairs, pairs_nibs5 r (fun y hy => h y (by simp [hy]))]
    congr 1
    omega
theorem nibs_small {l : List Nat} (h : ∀ x ∈ l, x < 256) : ∀ z ∈ nibs l, z < 16 := by
  intro z hz
  unfold nibs at hz
  obtain ⟨x, hx, hz⟩ := List.mem_flatMap.1 hz
  have := h x hx
  simp only [List.mem_cons, List.not_mem_nil, or_false] at hz
  omega

/-- The codes of the two paths and two kinds that there could be. -/
theorem cut_one {c : Nat} {r : List Nat} (hr : ∀ x ∈ r, x < 256) (leaf : Bool) : pathCode (c % 16 :: nibs r) leaf = ((if leaf then 48 else 16) + c % 16) :: r := by
  unfold pathCode
  have hl : (c % 16 :: nibs r).length % 2 = 1 := by rw [List.length_cons, nibs_length]; omega
  rw [hl, if_pos rfl]
  simp only [List.getElem!_cons_zero, List.drop_succ_cons, List.drop_zero, pairs_nibs5 r hr]
  cases leaf
  · simp
  · simp; omega
theorem cut_two {r : List Nat} (hr : ∀ x ∈ r, x < 256) (leaf : Bool) : pathCode (nibs r) leaf = (if leaf then 32 else 0) :: r := by
  unfold pathCode
  have hl : (nibs r).length % 2 = 0 := by rw [nibs_length]; omega
  rw [hl, if_neg Nat.zero_ne_one, List.drop_zero, pairs_nibs5 r hr]
  rfl

/-- What Unpack says. -/
def UnpackIs (p : List Nat) (e : Ending) : Prop :=
  (∀ q leaf, unpackF p = some (q, leaf) → e = .returned (.tuple #[.string (textB q), .bool leaf, .int .i64 0])) ∧ (unpackF p = none → e = .returned (.tuple #[.string ⟨#[]⟩, .bool false, .int .i64 3]))
theorem UnpackIs.yes {p q : List Nat} {leaf : Bool} (h : unpackF p = Option.some (q, leaf)) : UnpackIs p (.returned (.tuple #[.string (textB q), .bool leaf, .int .i64 0])) :=
  ⟨fun q' l' h' => (by rw [h] at h'; cases h'; rfl), fun h' => (by rw [h] at h'; cases h')⟩
theorem UnpackIs.no {p : List Nat} (h : unpackF p = Option.none) : UnpackIs p (.returned (.tuple #[.string ⟨#[]⟩, .bool false, .int .i64 3])) :=
  ⟨fun q' l' h' => (by rw [h] at h'; cases h'), fun _ => rfl⟩

theorem unpackF_false1 {c : Nat} {r : List Nat} (h : c / 16 = 1) : unpackF (c :: r) = Option.some (c % 16 :: nibs r, false) := by
  simp only [unpackF]
  rw [h]
  rfl
theorem unpackF_true1 {c : Nat} {r : List Nat} (h : c / 16 = 3) : unpackF (c :: r) = Option.some (c % 16 :: nibs r, true) := by
  simp only [unpackF]
  rw [h]
  rfl
theorem unpackF_false2 {c : Nat} {r : List Nat} (h : c = 0) : unpackF (c :: r) = Option.some (nibs r, false) := by
  subst h
  rfl
theorem unpackF_true2 {c : Nat} {r : List Nat} (h : c = 32) : unpackF (c :: r) = Option.some (nibs r, true) := by
  subst h
  rfl
theorem unpackF_no {c : Nat} {r : List Nat} (h1 : c / 16 ≠ 1) (h3 : c / 16 ≠ 3) (h0 : c ≠ 0) (h32 : c ≠ 32) (_h : c < 256) : unpackF (c :: r) = Option.none := by
  simp only [unpackF]
  by_cases a : 3 < c / 16
  · rw [if_pos a]
  · rw [if_neg a, if_neg (by omega), if_neg (by omega)]
theorem toList_ne {a b : ByteArray} (h : a ≠ b) : (a.toList == b.toList) = false := by
  simp only [beq_eq_false_iff_ne, ne_eq]
  intro e
  apply h
  rw [Lib.toList_data, Lib.toList_data] at e
  exact ByteArray.ext (Array.toList_inj.1 e)

set_option maxRecDepth 100000 in
set_option maxHeartbeats 6400000 in
theorem runpack_any (s : ByteArray) (w : World) (hs : s.size ≤ 4194304) :
    Calls Tryz.prog 119 #[.string s] w fun e w' => UnpackIs (bytesOf s) e ∧ Below w.heap.size w w' := by
  have hbl := bytesOf_length s
  have hbt := byte_lt s
  have hts : (textB (nibs (bytesOf s))).size = 2 * s.size := by rw [textB_size, nibs_length, hbl]
  have htb : bytesOf (textB (nibs (bytesOf s))) = nibs (bytesOf s) := bytesOf_textB (fun z hz => by have := nibs_small hbt z hz; omega)
  have HN : Hid (∀ W, Calls Tryz.prog 172 #[.string s] W fun e w' => e = .returned (.string (textB (nibs (bytesOf s)))) ∧ Below W.heap.size W w') := fun W => rnibbles_any s W hs
  have hn16 := nibs_small hbt
  rw [← htb] at hn16
  have HP : Hid (∀ (k : Nat) (leaf : Bool) W, k ≤ 2 → Calls Tryz.prog 170 #[.string ((textB (nibs (bytesOf s))).extract k (2 * s.size)), .bool leaf] W fun e w' => e = .returned (.string (textB (pathCode ((nibs (bytesOf s)).drop k) leaf))) ∧ Below W.heap.size W w') := fun k leaf W hk => by
    have hcut : bytesOf ((textB (nibs (bytesOf s))).extract k (2 * s.size)) = (nibs (bytesOf s)).drop k := by
      rw [cut_bytes, htb, List.take_of_length_le (by rw [List.length_drop, nibs_length, hbl]; omega)]
    have h := rpath_any ((textB (nibs (bytesOf s))).extract k (2 * s.size)) leaf W (by rw [ByteArray.size_extract, hts]; omega) (fun x hx => by
      rw [hcut] at hx
      rw [htb] at hn16
      exact hn16 x (List.mem_of_mem_drop hx))
    rw [hcut] at h
    exact h
  obtain ⟨L, hL⟩ : ∃ L, textB (nibs (bytesOf s)) = L := ⟨_, rfl⟩
  rw [hL] at HN HP hts
  cases hb : bytesOf s with
  | nil =>
    have hz : s.size = 0 := by rw [← hbl, hb]; rfl
    have hl0 : (L.size : Int) = 0 := by omega
    have HE : Hid (bytesOf s = []) := hb
    clear HP hn16 htb hts hbt hbl hs hb hz hL
    go_enter Tryz.func119, Tryz.ntmps119
    go_wp2_with fail
    refine (HN.out _).mono ?_
    rintro e w1 ⟨rfl, hb1⟩
    have A1 : Aside (Below w.heap.size w w1) := hb1
    clear hb1
    go_wp2
    go_loopg [6] 1 (fun gh i wr => i = .int .i64 1 ∧ Below w.heap.size w wr)
    case atStart => exact ⟨rfl, A1.out⟩
    case round =>
      obtain ⟨rfl, hbw⟩ := hrel
      have A2 : Aside (Below w.heap.size w wr) := hbw
      clear hbw
      go_wp2
      go_ret3
      exact ⟨.no rfl, A2.out⟩
  | cons c r =>
    have hsz : s.size = r.length + 1 := by rw [← hbl, hb]; rfl
    have hc8 : c < 256 := hbt c (by rw [hb]; simp)
    have hr8 : ∀ x ∈ r, x < 256 := fun x hx => hbt x (by rw [hb]; simp [hx])
    have hnib : nibs (c :: r) = (c / 16) :: (c % 16) :: nibs r := rfl
    have hsB : s = textB (c :: r) := by rw [← hb, textB_bytes]
    have HP1 : Hid (∀ (leaf : Bool) W, Calls Tryz.prog 170 #[.string (L.extract 1 (2 * s.size)), .bool leaf] W fun e w' => e = .returned (.string (textB (((if leaf then 48 else 16) + c % 16) :: r))) ∧ Below W.heap.size W w') := fun leaf W => by
      have h := HP.out 1 leaf W (by omega)
      rw [hb, hnib, List.drop_succ_cons, List.drop_zero, cut_one hr8] at h
      exact h
    have HP2 : Hid (∀ (leaf : Bool) W, Calls Tryz.prog 170 #[.string (L.extract 2 (2 * s.size)), .bool leaf] W fun e w' => e = .returned (.string (textB ((if leaf then 32 else 0) :: r))) ∧ Below W.heap.size W w') := fun leaf W => by
      have h := HP.out 2 leaf W (by omega)
      rw [hb, hnib, List.drop_succ_cons, List.drop_succ_cons, List.drop_zero, cut_two hr8] at h
      exact h
    have q1 : L.extract 1 (2 * s.size) = textB (c % 16 :: nibs r) := by
      rw [← hL, ← textB_bytes ((textB (nibs (bytesOf s))).extract 1 (2 * s.size)), cut_bytes, htb, hb, hnib, List.drop_succ_cons, List.drop_zero, List.take_of_length_le (by rw [List.length_cons, nibs_length]; omega)]
    have q2 : L.extract 2 (2 * s.size) = textB (nibs r) := by
      rw [← hL, ← textB_bytes ((textB (nibs (bytesOf s))).extract 2 (2 * s.size)), cut_bytes, htb, hb, hnib, List.drop_succ_cons, List.drop_succ_cons, List.drop_zero, List.take_of_length_le (by rw [nibs_length]; omega)]
    have HQ : Hid (L.extract 1 (2 * s.size) = textB (c % 16 :: nibs r) ∧ L.extract 2 (2 * s.size) = textB (nibs r)) := ⟨q1, q2⟩
    -- a code of the same tail is the text just where its first byte is
    have heq : ∀ a, a < 256 → (textB (a :: r) = s ↔ a = c) := fun a ha => by
      rw [hsB]
      constructor
      · intro h
        have := congrArg bytesOf h
        rw [bytesOf_textB (by intro x hx; rcases List.mem_cons.1 hx with rfl | hx; exact ha; exact hr8 x hx), bytesOf_textB (by intro x hx; rcases List.mem_cons.1 hx with rfl | hx; exact hc8; exact hr8 x hx)] at this
        injection this
      · rintro rfl; rfl
    have HE : Hid (bytesOf s = c :: r ∧ c < 256) := ⟨hb, hc8⟩
    have hLs : L.size = 2 * s.size := hts
    have HSz : Hid (s.size = r.length + 1 ∧ s.size ≤ 4194304) := ⟨hsz, hs⟩
    have l1 : (1 : Int) ≤ (L.size : Int) := by omega
    have l2 : (2 : Int) ≤ (L.size : Int) := by omega
    obtain ⟨T1, hT1⟩ : ∃ T, L.extract 1 (2 * s.size) = T := ⟨_, rfl⟩
    obtain ⟨T2, hT2⟩ : ∃ T, L.extract 2 (2 * s.size) = T := ⟨_, rfl⟩
    rw [← hLs] at hT1 hT2 HP1 HP2 HQ
    have HEq := Hid.hide heq
    clear HP hn16 htb hbt hbl hs hb hL hnib hsB q1 q2 hsz hc8 hr8 heq hts hLs
    go_enter Tryz.func119, Tryz.ntmps119
    go_wp2_with fail
    refine (HN.out _).mono ?_
    rintro e w1 ⟨rfl, hb1⟩
    have A1 : Aside (Below w.heap.size w w1) := hb1
    clear hb1 HN
    go_wp2
    go_loopg [6] 2 (fun gh i wr => ∃ k : Nat, gh = 3 - k ∧ k ≤ 3 ∧ i = .int .i64 (k : Int) ∧ Below w.heap.size w wr ∧ (k = 1 ∨ (k = 2 ∧ c / 16 ≠ 1 ∧ c / 16 ≠ 3) ∨ (k = 3 ∧ c / 16 ≠ 1 ∧ c / 16 ≠ 3 ∧ c ≠ 0 ∧ c ≠ 32)))
    case atStart => exact ⟨1, rfl, by omega, rfl, A1.out, .inl rfl⟩
    case round =>
      obtain ⟨k, rfl, hk, rfl, hbw, hcase⟩ := hrel
      have B : Aside (Below w.heap.size w wr) := hbw
      clear hbw
      rcases hcase with rfl | ⟨rfl, n1, n3⟩ | ⟨rfl, n1, n3, n0, n32⟩
      · rw [show ((1 : Nat) : Int) = 1 from rfl]
        by_cases hfalse1 : c / 16 = 1
        · have r1 : textB (((16 : Nat) + c % 16) :: r) = s := (HEq.out _ (by have := HE.out.2; omega)).2 (by have := HE.out.2; omega)
          have HP0 : Hid (∀ W, Calls Tryz.prog 170 #[.string T1, .bool false] W fun e w' => e = .returned (.string s) ∧ Below W.heap.size W w') := fun W => by
            have h := HP1.out false W
            rw [hT1] at h
            have h' : Calls Tryz.prog 170 #[.string T1, .bool false] W fun e w' => e = .returned (.string (textB (((16 : Nat) + c % 16) :: r))) ∧ Below W.heap.size W w' := h
            rw [r1] at h'
            exact h'
          have HU : Hid (UnpackIs (c :: r) (.returned (.tuple #[.string T1, .bool false, .int .i64 0]))) := by
            have h := UnpackIs.yes (p := c :: r) (q := c % 16 :: nibs r) (leaf := false) (unpackF_false1 (by first | assumption | omega))
            rw [← hT1, HQ.out.1]
            exact h
          clear r1
          go_wp2_with fail
          refine (HP0.out _).mono ?_
          rintro e v2 ⟨rfl, hb⟩
          have A2 : Aside (Below w.heap.size w v2) := Below.behind B.out hb
          clear hb
          go_wp2
          go_ret3
          exact ⟨HU.out, A2.out⟩
        have HP2b : Hid (∀ W, Calls Tryz.prog 170 #[.string T1, .bool false] W fun e w' => e = .returned (.string (textB (((16 : Nat) + c % 16) :: r))) ∧ Below W.heap.size W w') := fun W => by
          have h := HP1.out false W
          rw [hT1] at h
          exact h
        have r2 : textB (((16 : Nat) + c % 16) :: r) ≠ s := fun h => by
          have := (HEq.out _ (by have := HE.out.2; omega)).1 h
          have := HE.out.2
          omega
        generalize textB (((16 : Nat) + c % 16) :: r) = a2 at HP2b r2
        have s2' : (a2.toList == s.toList) = false := toList_ne r2
        go_wp2_with fail
        refine (HP2b.out _).mono ?_
        rintro e v2 ⟨rfl, hb⟩
        have A2 : Aside (Below w.heap.size w v2) := Below.behind B.out hb
        clear hb HP2b
        by_cases htrue1 : c / 16 = 3
        · have r1 : textB (((48 : Nat) + c % 16) :: r) = s := (HEq.out _ (by have := HE.out.2; omega)).2 (by have := HE.out.2; omega)
          have HP0 : Hid (∀ W, Calls Tryz.prog 170 #[.string T1, .bool true] W fun e w' => e = .returned (.string s) ∧ Below W.heap.size W w') := fun W => by
            have h := HP1.out true W
            rw [hT1] at h
            have h' : Calls Tryz.prog 170 #[.string T1, .bool true] W fun e w' => e = .returned (.string (textB (((48 : Nat) + c % 16) :: r))) ∧ Below W.heap.size W w' := h
            rw [r1] at h'
            exact h'
          have HU : Hid (UnpackIs (c :: r) (.returned (.tuple #[.string T1, .bool true, .int .i64 0]))) := by
            have h := UnpackIs.yes (p := c :: r) (q := c % 16 :: nibs r) (leaf := true) (unpackF_true1 (by first | assumption | omega))
            rw [← hT1, HQ.out.1]
            exact h
          clear r1
          go_wp2_with fail
          refine (HP0.out _).mono ?_
          rintro e v3 ⟨rfl, hb⟩
          have A3 : Aside (Below w.heap.size w v3) := Below.behind A2.out hb
          clear hb
          go_wp2
          go_ret3
          exact ⟨HU.out, A3.out⟩
        have HP3b : Hid (∀ W, Calls Tryz.prog 170 #[.string T1, .bool true] W fun e w' => e = .returned (.string (textB (((48 : Nat) + c % 16) :: r))) ∧ Below W.heap.size W w') := fun W => by
          have h := HP1.out true W
          rw [hT1] at h
          exact h
        have r3 : textB (((48 : Nat) + c % 16) :: r) ≠ s := fun h => by
          have := (HEq.out _ (by have := HE.out.2; omega)).1 h
          have := HE.out.2
          omega
        generalize textB (((48 : Nat) + c % 16) :: r) = a3 at HP3b r3
        have s3' : (a3.toList == s.toList) = false := toList_ne r3
        go_wp2_with fail
        refine (HP3b.out _).mono ?_
        rintro e v3 ⟨rfl, hb⟩
        have A3 : Aside (Below w.heap.size w v3) := Below.behind A2.out hb
        clear hb HP3b
        go_wp2
        go_roundg 1
        case measure => omega
        case rel => exact ⟨2, rfl, by omega, rfl, A3.out, .inr (.inl ⟨rfl, hfalse1, htrue1⟩)⟩
      · rw [show ((2 : Nat) : Int) = 2 from rfl]
        by_cases hfalse2 : c = 0
        · have r1 : textB ((0) :: r) = s := (HEq.out _ (by have := HE.out.2; omega)).2 (by have := HE.out.2; omega)
          have HP0 : Hid (∀ W, Calls Tryz.prog 170 #[.string T2, .bool false] W fun e w' => e = .returned (.string s) ∧ Below W.heap.size W w') := fun W => by
            have h := HP2.out false W
            rw [hT2] at h
            have h' : Calls Tryz.prog 170 #[.string T2, .bool false] W fun e w' => e = .returned (.string (textB ((0) :: r))) ∧ Below W.heap.size W w' := h
            rw [r1] at h'
            exact h'
          have HU : Hid (UnpackIs (c :: r) (.returned (.tuple #[.string T2, .bool false, .int .i64 0]))) := by
            have h := UnpackIs.yes (p := c :: r) (q := nibs r) (leaf := false) (unpackF_false2 (by first | assumption | omega))
            rw [← hT2, HQ.out.2]
            exact h
          clear r1
          go_wp2_with fail
          refine (HP0.out _).mono ?_
          rintro e v2 ⟨rfl, hb⟩
          have A2 : Aside (Below w.heap.size w v2) := Below.behind B.out hb
          clear hb
          go_wp2
          go_ret3
          exact ⟨HU.out, A2.out⟩
        have HP2b : Hid (∀ W, Calls Tryz.prog 170 #[.string T2, .bool false] W fun e w' => e = .returned (.string (textB ((0) :: r))) ∧ Below W.heap.size W w') := fun W => by
          have h := HP2.out false W
          rw [hT2] at h
          exact h
        have r2 : textB ((0) :: r) ≠ s := fun h => by
          have := (HEq.out _ (by have := HE.out.2; omega)).1 h
          have := HE.out.2
          omega
        generalize textB ((0) :: r) = a2 at HP2b r2
        have s2' : (a2.toList == s.toList) = false := toList_ne r2
        go_wp2_with fail
        refine (HP2b.out _).mono ?_
        rintro e v2 ⟨rfl, hb⟩
        have A2 : Aside (Below w.heap.size w v2) := Below.behind B.out hb
        clear hb HP2b
        by_cases htrue2 : c = 32
        · have r1 : textB ((32) :: r) = s := (HEq.out _ (by have := HE.out.2; omega)).2 (by have := HE.out.2; omega)
          have HP0 : Hid (∀ W, Calls Tryz.prog 170 #[.string T2, .bool true] W fun e w' => e = .returned (.string s) ∧ Below W.heap.size W w') := fun W => by
            have h := HP2.out true W
            rw [hT2] at h
            have h' : Calls Tryz.prog 170 #[.string T2, .bool true] W fun e w' => e = .returned (.string (textB ((32) :: r))) ∧ Below W.heap.size W w' := h
            rw [r1] at h'
            exact h'
          have HU : Hid (UnpackIs (c :: r) (.returned (.tuple #[.string T2, .bool true, .int .i64 0]))) := by
            have h := UnpackIs.yes (p := c :: r) (q := nibs r) (leaf := true) (unpackF_true2 (by first | assumption | omega))
            rw [← hT2, HQ.out.2]
            exact h
          clear r1
          go_wp2_with fail
          refine (HP0.out _).mono ?_
          rintro e v3 ⟨rfl, hb⟩
          have A3 : Aside (Below w.heap.size w v3) := Below.behind A2.out hb
          clear hb
          go_wp2
          go_ret3
          exact ⟨HU.out, A3.out⟩
        have HP3b : Hid (∀ W, Calls Tryz.prog 170 #[.string T2, .bool true] W fun e w' => e = .returned (.string (textB ((32) :: r))) ∧ Below W.heap.size W w') := fun W => by
          have h := HP2.out true W
          rw [hT2] at h
          exact h
        have r3 : textB ((32) :: r) ≠ s := fun h => by
          have := (HEq.out _ (by have := HE.out.2; omega)).1 h
          have := HE.out.2
          omega
        generalize textB ((32) :: r) = a3 at HP3b r3
        have s3' : (a3.toList == s.toList) = false := toList_ne r3
        go_wp2_with fail
        refine (HP3b.out _).mono ?_
        rintro e v3 ⟨rfl, hb⟩
        have A3 : Aside (Below w.heap.size w v3) := Below.behind A2.out hb
        clear hb HP3b
        go_wp2
        go_roundg 0
        case measure => omega
        case rel => exact ⟨3, rfl, by omega, rfl, A3.out, .inr (.inr ⟨rfl, n1, n3, hfalse2, htrue2⟩)⟩
      · rw [show ((3 : Nat) : Int) = 3 from rfl]
        have HU : Hid (UnpackIs (c :: r) (.returned (.tuple #[.string ⟨#[]⟩, .bool false, .int .i64 3]))) := by
          have h := UnpackIs.no (p := c :: r) (unpackF_no n1 n3 n0 n32 HE.out.2)
          exact h
        clear n1 n3 n0 n32
        go_wp2
        go_ret3
        exact ⟨HU.out, B.out⟩
end Go.Proofs.YtjiikjpnlgogfaaGreatDoor
