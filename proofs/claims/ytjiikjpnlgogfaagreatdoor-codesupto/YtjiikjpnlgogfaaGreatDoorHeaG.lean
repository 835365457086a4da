/-
  Package twigsref: headed: the head at a place.
  Package twigsref: headed: a length of several bytes.
-/
import Derived.Test.YtjiikjpnlgogfaaGreatDoorRefG
import Derived.Test.YtjiikjpnlgogfaaGreatDoorSmaG
namespace Go.Proofs.YtjiikjpnlgogfaaGreatDoor
open Go.RowKit

/-- A number of several bytes, not followed any further once it is great. -/
def capN (l : List Nat) : Nat := l.foldl (fun n x => if n < 1000000000 then 256 * n + x else n) 0
theorem capN_snoc (l : List Nat) (x : Nat) : capN (l ++ [x]) = if capN l < 1000000000 then 256 * capN l + x else capN l := by
  unfold capN
  rw [List.foldl_append]
  rfl
theorem capN_le (l : List Nat) (h : ∀ x ∈ l, x < 256) : capN l ≤ 256000000255 := by
  have key : ∀ (l : List Nat) (n : Nat), n ≤ 256000000255 → (∀ x ∈ l, x < 256) → l.foldl (fun n x => if n < 1000000000 then 256 * n + x else n) n ≤ 256000000255 := by
    intro l
    induction l with
    | nil => intro n hn _; exact hn
    | cons x l ih =>
      intro n hn hx
      rw [List.foldl_cons]
      refine ih _ ?_ (fun y hy => hx y (List.mem_cons_of_mem _ hy))
      have := hx x (List.mem_cons_self ..)
      split <;> omega
  exact key l 0 (by omega) h

/-- What headed says: is it a list's, how many bytes come, how many bytes it has; the fault. -/
def hdS (s : List Nat) (at_ end_ : Nat) : (Bool × Nat × Nat) × Nat :=
  if end_ ≤ at_ then ((false, 0, 0), 2)
  else if s[at_]! < 128 then ((false, 1, 0), 0)
  else if s[at_]! - (if 192 ≤ s[at_]! then 192 else 128) ≤ 55 then ((decide (192 ≤ s[at_]!), s[at_]! - (if 192 ≤ s[at_]! then 192 else 128), 1), 0)
  else if end_ < at_ + (s[at_]! - (if 192 ≤ s[at_]! then 192 else 128) - 54) then ((decide (192 ≤ s[at_]!), s[at_]! - (if 192 ≤ s[at_]! then 192 else 128), s[at_]! - (if 192 ≤ s[at_]! then 192 else 128) - 54), 2)
  else if s[at_ + 1]! = 0 ∨ capN ((s.drop (at_ + 1)).take (s[at_]! - (if 192 ≤ s[at_]! then 192 else 128) - 55)) ≤ 55 then ((decide (192 ≤ s[at_]!), capN ((s.drop (at_ + 1)).take (s[at_]! - (if 192 ≤ s[at_]! then 192 else 128) - 55)), s[at_]! - (if 192 ≤ s[at_]! then 192 else 128) - 54), 3)
  else ((decide (192 ≤ s[at_]!), capN ((s.drop (at_ + 1)).take (s[at_]! - (if 192 ≤ s[at_]! then 192 else 128) - 55)), s[at_]! - (if 192 ≤ s[at_]! then 192 else 128) - 54), 0)

abbrev hdV (l : Bool) (n size e : Nat) : Value := .tuple #[.agg #[.bool l, .int .i64 (n : Int), .int .i64 (size : Int)], .int .i64 (e : Int)]
def HdSaid (r : (Bool × Nat × Nat) × Nat) (w : World) (e : Ending) (w' : World) : Prop := e = .returned (hdV r.1.1 r.1.2.1 r.1.2.2 r.2) ∧ Below w.heap.size w w'

set_option maxRecDepth 100000 in
set_option maxHeartbeats 6400000 in
theorem headed_small (s : ByteArray) (at_ end_ : Nat) (w : World) (he : end_ ≤ s.size) (hsm : end_ ≤ at_ ∨ (bytesOf s)[at_]! < 128) :
    Calls Tryz.prog 231 #[.string s, .int .i64 (at_ : Int), .int .i64 (end_ : Int)] w (HdSaid (hdS (bytesOf s) at_ end_) w) := by
  by_cases h0 : end_ ≤ at_
  · have hF : hdS (bytesOf s) at_ end_ = ((false, 0, 0), 2) := by unfold hdS; rw [if_pos h0]
    rw [hF]
    have hi : (end_ : Int) ≤ (at_ : Int) := by omega
    clear hF hsm he
    go_enter Tryz.func231, Tryz.ntmps231
    go_wp2
    refine bodyPost_ret (v := hdV false 0 0 2) (by simp [results, Tryz.results231, go_sem]) rfl ⟨rfl, ?_⟩
    exact ((Below.refl _ _).alloc (Nat.le_refl _) _).alloc (by simp) _
  · have hlt : at_ < s.size := by omega
    obtain ⟨b, hb⟩ : ∃ b, (bytesOf s)[at_]! = b := ⟨_, rfl⟩
    have hbs : (s[at_]'hlt).toNat = b := by rw [← hb]; exact byte_at s at_ hlt
    rw [hb] at hsm
    have hb128 : b < 128 := by omega
    have hF : hdS (bytesOf s) at_ end_ = ((false, 1, 0), 0) := by unfold hdS; rw [if_neg h0, hb, if_pos hb128]
    rw [hF]
    have hi : ¬ (end_ : Int) ≤ (at_ : Int) := by omega
    have hai : (at_ : Int) < (s.size : Int) := by omega
    have hwb : wrap64 (b : Int) = (b : Int) := by unfold wrap64; omega
    have hbi : (b : Int) < 128 := by omega
    clear hF hsm he hb
    go_enter Tryz.func231, Tryz.ntmps231
    go_wp2
    refine bodyPost_ret (v := hdV false 1 0 0) (by simp [results, Tryz.results231, go_sem]) rfl ⟨rfl, ?_⟩
    exact ((Below.refl _ _).alloc (Nat.le_refl _) _).alloc (by simp) _

set_option maxRecDepth 100000 in
set_option maxHeartbeats 6400000 in
theorem headed_55 (s : ByteArray) (at_ end_ b base k : Nat) (lst : Bool) (w : World) (he : end_ ≤ s.size) (h0 : at_ < end_) (hb : (bytesOf s)[at_]! = b) (hb8 : b < 256) (hbase : (base = 192 ∧ lst = true ∧ 192 ≤ b) ∨ (base = 128 ∧ lst = false ∧ 128 ≤ b ∧ b < 192)) (hk : b - base = k) (h55 : k ≤ 55) :
    Calls Tryz.prog 231 #[.string s, .int .i64 (at_ : Int), .int .i64 (end_ : Int)] w (HdSaid ((lst, k, 1), 0) w) := by
  have hlt : at_ < s.size := by omega
  have hbs : (s[at_]'hlt).toNat = b := by rw [← hb]; exact byte_at s at_ hlt
  have hi : ¬ (end_ : Int) ≤ (at_ : Int) := by omega
  have hai : (at_ : Int) < (s.size : Int) := by omega
  have hwb : wrap64 (b : Int) = (b : Int) := by unfold wrap64; omega
  have hbi : ¬ (b : Int) < 128 := by omega
  have hki : (k : Int) ≤ 55 := by omega
  rcases hbase with ⟨rfl, rfl, h1⟩ | ⟨rfl, rfl, h1, h2⟩
  · have hc : (192 : Int) ≤ (b : Int) := by omega
    have hkw : wrap64 ((b : Int) - 192) = (k : Int) := by unfold wrap64; omega
    have hkw' : (b : Int) - 192 = (k : Int) := by omega
    clear he h0 hb hb8 hk h1 h55
    go_enter Tryz.func231, Tryz.ntmps231
    go_wp2
    refine bodyPost_ret (v := hdV true k 1 0) (by simp [results, Tryz.results231, go_sem]) rfl ⟨rfl, ?_⟩
    exact ((Below.refl _ _).alloc (Nat.le_refl _) _).alloc (by simp) _
  · have hc : ¬ (192 : Int) ≤ (b : Int) := by omega
    have hkw : wrap64 ((b : Int) - 128) = (k : Int) := by unfold wrap64; omega
    have hkw' : (b : Int) - 128 = (k : Int) := by omega
    clear he h0 hb hb8 hk h1 h2 h55
    go_enter Tryz.func231, Tryz.ntmps231
    go_wp2
    refine bodyPost_ret (v := hdV false k 1 0) (by simp [results, Tryz.results231, go_sem]) rfl ⟨rfl, ?_⟩
    exact ((Below.refl _ _).alloc (Nat.le_refl _) _).alloc (by simp) _

set_option maxRecDepth 100000 in
set_option maxHeartbeats 6400000 in
theorem headed_room (s : ByteArray) (at_ end_ b base k : Nat) (lst : Bool) (w : World) (he : end_ ≤ s.size) (hs : s.size ≤ 4194304) (h0 : at_ < end_) (hb : (bytesOf s)[at_]! = b) (hb8 : b < 256) (hbase : (base = 192 ∧ lst = true ∧ 192 ≤ b) ∨ (base = 128 ∧ lst = false ∧ 128 ≤ b ∧ b < 192)) (hk : b - base = k) (h55 : 55 < k) (hroom : end_ < at_ + (k - 54)) :
    Calls Tryz.prog 231 #[.string s, .int .i64 (at_ : Int), .int .i64 (end_ : Int)] w (HdSaid ((lst, k, k - 54), 2) w) := by
  have hlt : at_ < s.size := by omega
  have hbs : (s[at_]'hlt).toNat = b := by rw [← hb]; exact byte_at s at_ hlt
  have hi : ¬ (end_ : Int) ≤ (at_ : Int) := by omega
  have hai : (at_ : Int) < (s.size : Int) := by omega
  have bb : (b : Int) < 256 := by omega
  have hbi : ¬ (b : Int) < 128 := by omega
  have hki : ¬ (k : Int) ≤ 55 := by omega
  obtain ⟨z, hz⟩ : ∃ z, k - 54 = z := ⟨_, rfl⟩
  rw [hz] at hroom ⊢
  have kb : (k : Int) ≤ 63 := by omega
  have kb2 : (0 : Int) ≤ (k : Int) := by omega
  have ab : (at_ : Int) ≤ 4194304 := by omega
  have zb : (z : Int) ≤ 9 := by omega
  have zz : 1 + (k : Int) - 55 = (z : Int) := by omega
  have w4 : (end_ : Int) < (at_ : Int) + (z : Int) := by omega
  rcases hbase with ⟨rfl, rfl, h1⟩ | ⟨rfl, rfl, h1, h2⟩
  · have hc : (192 : Int) ≤ (b : Int) := by omega
    have hkw' : (b : Int) - 192 = (k : Int) := by omega
    clear he hs h0 hb hb8 hk h1 h55 hz hroom
    go_enter Tryz.func231, Tryz.ntmps231
    go_wp2
    refine bodyPost_ret (v := hdV true k z 2) (by simp [results, Tryz.results231, go_sem]) rfl ⟨rfl, ?_⟩
    exact ((Below.refl _ _).alloc (Nat.le_refl _) _).alloc (by simp) _
  · have hc : ¬ (192 : Int) ≤ (b : Int) := by omega
    have hkw' : (b : Int) - 128 = (k : Int) := by omega
    clear he hs h0 hb hb8 hk h1 h2 h55 hz hroom
    go_enter Tryz.func231, Tryz.ntmps231
    go_wp2
    refine bodyPost_ret (v := hdV false k z 2) (by simp [results, Tryz.results231, go_sem]) rfl ⟨rfl, ?_⟩
    exact ((Below.refl _ _).alloc (Nat.le_refl _) _).alloc (by simp) _
end Go.Proofs.YtjiikjpnlgogfaaGreatDoor

namespace Go.Proofs.YtjiikjpnlgogfaaGreatDoor
open Go.RowKit

theorem Held.otherB {w : World} {b : Nat} {cs : List Value} (h : Held w b cs) {a : Addr} (hne : b ≠ a.block) (u : Value) : Held (w.setCell a u) b cs := h.keep (Below.heap_setCell _ _ _ _ hne) (by simp)
theorem Held.set1 {w : World} {b : Nat} {x y z : Value} (h : Held w b [x, y, z]) (u : Value) : Held (w.setCell ⟨b, 1, none⟩ u) b [x, u, z] := by
  refine ⟨by simpa using h.1, fun j v hv => ?_⟩
  match j, hv with
  | 0, hv => exact ⟨(World.cell?_setCell_other _ _ _ _ (by simp)).trans (h.2 0 v hv).1, by rw [World.frozen?_setCell]; exact (h.2 0 v hv).2⟩
  | 1, hv =>
    have e : u = v := by simpa using hv
    subst e
    exact ⟨World.cell?_setCell_same _ _ _ (h.2 1 y rfl).1, by rw [World.frozen?_setCell]; exact (h.2 1 y rfl).2⟩
  | 2, hv => exact ⟨(World.cell?_setCell_other _ _ _ _ (by simp)).trans (h.2 2 v hv).1, by rw [World.frozen?_setCell]; exact (h.2 2 v hv).2⟩
  | j + 3, hv => simp at hv

set_option maxRecDepth 100000 in
set_option maxHeartbeats 6400000 in
theorem headed_long (s : ByteArray) (at_ end_ b base k z : Nat) (lst : Bool) (w : World) (he : end_ ≤ s.size) (hs : s.size ≤ 4194304) (h0 : at_ < end_) (hb : (bytesOf s)[at_]! = b) (hb8 : b < 256) (hbase : (base = 192 ∧ lst = true ∧ 192 ≤ b) ∨ (base = 128 ∧ lst = false ∧ 128 ≤ b ∧ b < 192)) (hk : b - base = k) (h55 : 55 < k) (hz : k - 54 = z) (hroom : at_ + z ≤ end_) (er : Nat) (her : er = if (bytesOf s)[at_ + 1]! = 0 ∨ capN (((bytesOf s).drop (at_ + 1)).take (z - 1)) ≤ 55 then 3 else 0) :
    Calls Tryz.prog 231 #[.string s, .int .i64 (at_ : Int), .int .i64 (end_ : Int)] w (HdSaid ((lst, capN (((bytesOf s).drop (at_ + 1)).take (z - 1)), z), er) w) := by
  have hlt : at_ < s.size := by omega
  have hbs : (s[at_]'hlt).toNat = b := by rw [← hb]; exact byte_at s at_ hlt
  have hi : ¬ (end_ : Int) ≤ (at_ : Int) := by omega
  have hai : (at_ : Int) < (s.size : Int) := by omega
  have bb : (b : Int) < 256 := by omega
  have hbi : ¬ (b : Int) < 128 := by omega
  have hki : ¬ (k : Int) ≤ 55 := by omega
  have kb : (k : Int) ≤ 63 := by omega
  have kb2 : (0 : Int) ≤ (k : Int) := by omega
  have ab : (at_ : Int) ≤ 4194304 := by omega
  have zb : (z : Int) ≤ 9 := by omega
  have zz : 1 + (k : Int) - 55 = (z : Int) := by omega
  have w4 : ¬ (end_ : Int) < (at_ : Int) + (z : Int) := by omega
  have hbx : at_ + z ≤ s.size := by omega
  have HZ : Hid (2 ≤ z ∧ z ≤ 9 ∧ at_ + z ≤ s.size) := ⟨by omega, by omega, hbx⟩
  have HER : Hid (er = if (bytesOf s)[at_ + 1]! = 0 ∨ capN (((bytesOf s).drop (at_ + 1)).take (z - 1)) ≤ 55 then 3 else 0) := her
  clear her
  rcases hbase with ⟨rfl, rfl, h1⟩ | ⟨rfl, rfl, h1, h2⟩
  · have hc : (192 : Int) ≤ (b : Int) := by omega
    have hkw' : (b : Int) - 192 = (k : Int) := by omega
    clear he hs h0 hb hb8 hk h1 h55 hroom hz hbx
    go_enter Tryz.func231, Tryz.ntmps231
    go_wp2
    go_loopg [11] (z - 1) (fun gh i wr => ∃ x : Nat, x ≤ z - 1 ∧ gh = z - 1 - x ∧ i = .int .i64 ((at_ : Int) + 1 + (x : Int)) ∧ Below w.heap.size w wr ∧ Held wr w.heap.size [.bool false, .int .i64 0, .int .i64 0] ∧ Held wr (w.heap.size + 1) [.bool true, .int .i64 ((capN (((bytesOf s).drop (at_ + 1)).take x) : Nat) : Int), .int .i64 (z : Int)])
    case atStart =>
      refine ⟨0, Nat.zero_le _, rfl, by simp, ((Below.refl _ _).alloc (Nat.le_refl _) _).alloc (by simp) _, (Held.fresh w [.bool false, .int .i64 0, .int .i64 0] _).alloc _, ?_⟩
      have := Held.fresh (w.alloc (.cells #[.bool false, .int .i64 0, .int .i64 0] 374)) [.bool true, .int .i64 0, .int .i64 (z : Int)] 374
      simpa [capN] using this
    case round =>
      obtain ⟨x, hx, rfl, rfl, hbw, hR, hH⟩ := hrel
      have c1 := (hH.2 1 _ rfl).1
      have c2 := (hH.2 2 _ rfl).1
      have f1 := (hH.2 1 _ rfl).2
      have hzb := HZ.out
      have xb : (x : Int) ≤ 8 := by omega
      have hcap := capN_le (((bytesOf s).drop (at_ + 1)).take x) (fun y hy => byte_lt s y (List.mem_of_mem_drop (List.mem_of_mem_take hy)))
      by_cases hlt : x < z - 1
      · have hxi : (at_ : Int) + 1 + (x : Int) < (at_ : Int) + (z : Int) := by omega
        have hxs : at_ + 1 + x < s.size := by omega
        have hxs' : (at_ : Int) + 1 + (x : Int) < (s.size : Int) := by omega
        have hxn : ((at_ : Int) + 1 + (x : Int)).toNat = at_ + 1 + x := by omega
        obtain ⟨d, hd⟩ : ∃ d, (s[at_ + 1 + x]'hxs).toNat = d := ⟨_, rfl⟩
        have hd8 : d < 256 := by rw [← hd]; exact UInt8.toNat_lt _
        have htk : ((bytesOf s).drop (at_ + 1)).take (x + 1) = ((bytesOf s).drop (at_ + 1)).take x ++ [d] := by
          rw [List.take_succ_eq_append_getElem (by rw [List.length_drop, bytesOf_length]; omega), List.getElem_drop]
          congr 2
          rw [← getElem!_pos (bytesOf s) _ (by rw [bytesOf_length]; omega), ← byte_at s _ hxs, hd]
        have hcs := capN_snoc (((bytesOf s).drop (at_ + 1)).take x) d
        rw [← htk] at hcs
        obtain ⟨cp, hcp⟩ : ∃ cp, capN (((bytesOf s).drop (at_ + 1)).take x) = cp := ⟨_, rfl⟩
        rw [hcp] at hcs hcap c1 hH
        have cpb : (cp : Int) ≤ 256000000255 := by omega
        by_cases hcn : cp < 1000000000
        · rw [if_pos hcn] at hcs
          have hcn' : (cp : Int) < 1000000000 := by omega
          have hcs' : 256 * (cp : Int) + (d : Int) = ((capN (((bytesOf s).drop (at_ + 1)).take (x + 1)) : Nat) : Int) := by rw [hcs]; omega
          have HC : Hid (256 * (cp : Int) + (d : Int) = ((capN (((bytesOf s).drop (at_ + 1)).take (x + 1)) : Nat) : Int)) := hcs'
          have A : Aside (Below w.heap.size w wr ∧ Held wr w.heap.size [.bool false, .int .i64 0, .int .i64 0] ∧ Held wr (w.heap.size + 1) [.bool true, .int .i64 (cp : Int), .int .i64 (z : Int)]) := ⟨hbw, hR, hH⟩
          have db : (d : Int) < 256 := by omega
          clear hcs hcs' htk hcap hbw hR hH hcp hcn hd8 hzb
          go_wp2
          go_region
          all_goals
            go_wp2
            go_roundg (z - 1 - (x + 1))
            case measure => omega
            case rel => exact ⟨x + 1, by omega, rfl, val_int (by omega), A.out.1.drew.setCell (by simp) _, A.out.2.1.drew.otherB (by simp) _, HC.out ▸ A.out.2.2.drew.set1 _⟩
        · rw [if_neg hcn] at hcs
          have hcn' : ¬ (cp : Int) < 1000000000 := by omega
          have HC : Hid (capN (((bytesOf s).drop (at_ + 1)).take (x + 1)) = cp) := hcs
          have A : Aside (Below w.heap.size w wr ∧ Held wr w.heap.size [.bool false, .int .i64 0, .int .i64 0] ∧ Held wr (w.heap.size + 1) [.bool true, .int .i64 (cp : Int), .int .i64 (z : Int)]) := ⟨hbw, hR, hH⟩
          clear hcs htk hcap hbw hR hH hcp hcn hd8 hzb
          go_wp2
          go_roundg (z - 1 - (x + 1))
          case measure => omega
          case rel => exact ⟨x + 1, by omega, rfl, val_int (by omega), A.out.1, A.out.2.1, by rw [HC.out]; exact A.out.2.2⟩
      · have hxe : x = z - 1 := by omega
        have hxi : ¬ (at_ : Int) + 1 + (x : Int) < (at_ : Int) + (z : Int) := by omega
        obtain ⟨cp, hcp⟩ : ∃ cp, capN (((bytesOf s).drop (at_ + 1)).take x) = cp := ⟨_, rfl⟩
        rw [hcp] at hcap c1 hH
        have HCP : Hid (capN (((bytesOf s).drop (at_ + 1)).take (z - 1)) = cp) := by rw [← hxe]; exact hcp
        have c0 := (hH.2 0 _ rfl).1
        obtain ⟨r0, q0⟩ := hR.2 0 _ rfl
        obtain ⟨r1, q1⟩ := hR.2 1 _ rfl
        obtain ⟨r2, q2⟩ := hR.2 2 _ rfl
        have h1s : at_ + 1 < s.size := by omega
        have h1s' : (at_ : Int) + 1 < (s.size : Int) := by omega
        have h1n : ((at_ : Int) + 1).toNat = at_ + 1 := by omega
        obtain ⟨d, hd⟩ : ∃ d, (s[at_ + 1]'h1s).toNat = d := ⟨_, rfl⟩
        have hd8 : d < 256 := by rw [← hd]; exact UInt8.toNat_lt _
        have hdb : (bytesOf s)[at_ + 1]! = d := by rw [← byte_at s _ h1s, hd]
        have cpb : (cp : Int) ≤ 256000000255 := by omega
        have hER := HER.out
        rw [hdb, HCP.out] at hER
        by_cases hd0 : d = 0
        · rw [if_pos (.inl hd0)] at hER
          have HE : Hid (er = 3) := hER
          have hdz : ((d : Int) == 0) = true := by simp; omega
          have A : Aside (Below w.heap.size w wr) := hbw
          clear hbw hR hH hcap hzb hd8 hcp hxe hdb hER hd0
          go_wp2
          refine bodyPost_ret (v := hdV true cp z 3) (by simp [results, Tryz.results231, go_sem, r0, r1, r2]) rfl ⟨by rw [HE.out, HCP.out], ?_⟩
          exact ((A.out.setCell (Nat.le_refl _) _).setCell (Nat.le_refl _) _).setCell (Nat.le_refl _) _
        · have hdz : ((d : Int) == 0) = false := by simp; omega
          by_cases hc55 : cp ≤ 55
          · rw [if_pos (.inr hc55)] at hER
            have HE : Hid (er = 3) := hER
            have hc5 : (cp : Int) ≤ 55 := by omega
            have A : Aside (Below w.heap.size w wr) := hbw
            clear hbw hR hH hcap hzb hd8 hcp hxe hdb hER hd0 hc55
            go_wp2
            refine bodyPost_ret (v := hdV true cp z 3) (by simp [results, Tryz.results231, go_sem, r0, r1, r2]) rfl ⟨by rw [HE.out, HCP.out], ?_⟩
            exact ((A.out.setCell (Nat.le_refl _) _).setCell (Nat.le_refl _) _).setCell (Nat.le_refl _) _
          · rw [if_neg (by rintro (h | h) <;> omega)] at hER
            have HE : Hid (er = 0) := hER
            have hc5 : ¬ (cp : Int) ≤ 55 := by omega
            have A : Aside (Below w.heap.size w wr) := hbw
            clear hbw hR hH hcap hzb hd8 hcp hxe hdb hER hd0 hc55
            go_wp2
            refine bodyPost_ret (v := hdV true cp z 0) (by simp [results, Tryz.results231, go_sem, r0, r1, r2]) rfl ⟨by rw [HE.out, HCP.out], ?_⟩
            exact ((A.out.setCell (Nat.le_refl _) _).setCell (Nat.le_refl _) _).setCell (Nat.le_refl _) _
  · have hc : ¬ (192 : Int) ≤ (b : Int) := by omega
    have hkw' : (b : Int) - 128 = (k : Int) := by omega
    clear he hs h0 hb hb8 hk h1 h2 h55 hroom hz hbx
    go_enter Tryz.func231, Tryz.ntmps231
    go_wp2
    go_loopg [11] (z - 1) (fun gh i wr => ∃ x : Nat, x ≤ z - 1 ∧ gh = z - 1 - x ∧ i = .int .i64 ((at_ : Int) + 1 + (x : Int)) ∧ Below w.heap.size w wr ∧ Held wr w.heap.size [.bool false, .int .i64 0, .int .i64 0] ∧ Held wr (w.heap.size + 1) [.bool false, .int .i64 ((capN (((bytesOf s).drop (at_ + 1)).take x) : Nat) : Int), .int .i64 (z : Int)])
    case atStart =>
      refine ⟨0, Nat.zero_le _, rfl, by simp, ((Below.refl _ _).alloc (Nat.le_refl _) _).alloc (by simp) _, (Held.fresh w [.bool false, .int .i64 0, .int .i64 0] _).alloc _, ?_⟩
      have := Held.fresh (w.alloc (.cells #[.bool false, .int .i64 0, .int .i64 0] 374)) [.bool false, .int .i64 0, .int .i64 (z : Int)] 374
      simpa [capN] using this
    case round =>
      obtain ⟨x, hx, rfl, rfl, hbw, hR, hH⟩ := hrel
      have c1 := (hH.2 1 _ rfl).1
      have c2 := (hH.2 2 _ rfl).1
      have f1 := (hH.2 1 _ rfl).2
      have hzb := HZ.out
      have xb : (x : Int) ≤ 8 := by omega
      have hcap := capN_le (((bytesOf s).drop (at_ + 1)).take x) (fun y hy => byte_lt s y (List.mem_of_mem_drop (List.mem_of_mem_take hy)))
      by_cases hlt : x < z - 1
      · have hxi : (at_ : Int) + 1 + (x : Int) < (at_ : Int) + (z : Int) := by omega
        have hxs : at_ + 1 + x < s.size := by omega
        have hxs' : (at_ : Int) + 1 + (x : Int) < (s.size : Int) := by omega
        have hxn : ((at_ : Int) + 1 + (x : Int)).toNat = at_ + 1 + x := by omega
        obtain ⟨d, hd⟩ : ∃ d, (s[at_ + 1 + x]'hxs).toNat = d := ⟨_, rfl⟩
        have hd8 : d < 256 := by rw [← hd]; exact UInt8.toNat_lt _
        have htk : ((bytesOf s).drop (at_ + 1)).take (x + 1) = ((bytesOf s).drop (at_ + 1)).take x ++ [d] := by
          rw [List.take_succ_eq_append_getElem (by rw [List.length_drop, bytesOf_length]; omega), List.getElem_drop]
          congr 2
          rw [← getElem!_pos (bytesOf s) _ (by rw [bytesOf_length]; omega), ← byte_at s _ hxs, hd]
        have hcs := capN_snoc (((bytesOf s).drop (at_ + 1)).take x) d
        rw [← htk] at hcs
        obtain ⟨cp, hcp⟩ : ∃ cp, capN (((bytesOf s).drop (at_ + 1)).take x) = cp := ⟨_, rfl⟩
        rw [hcp] at hcs hcap c1 hH
        have cpb : (cp : Int) ≤ 256000000255 := by omega
        by_cases hcn : cp < 1000000000
        · rw [if_pos hcn] at hcs
          have hcn' : (cp : Int) < 1000000000 := by omega
          have hcs' : 256 * (cp : Int) + (d : Int) = ((capN (((bytesOf s).drop (at_ + 1)).take (x + 1)) : Nat) : Int) := by rw [hcs]; omega
          have HC : Hid (256 * (cp : Int) + (d : Int) = ((capN (((bytesOf s).drop (at_ + 1)).take (x + 1)) : Nat) : Int)) := hcs'
          have A : Aside (Below w.heap.size w wr ∧ Held wr w.heap.size [.bool false, .int .i64 0, .int .i64 0] ∧ Held wr (w.heap.size + 1) [.bool false, .int .i64 (cp : Int), .int .i64 (z : Int)]) := ⟨hbw, hR, hH⟩
          have db : (d : Int) < 256 := by omega
          clear hcs hcs' htk hcap hbw hR hH hcp hcn hd8 hzb
          go_wp2
          go_region
          all_goals
            go_wp2
            go_roundg (z - 1 - (x + 1))
            case measure => omega
            case rel => exact ⟨x + 1, by omega, rfl, val_int (by omega), A.out.1.drew.setCell (by simp) _, A.out.2.1.drew.otherB (by simp) _, HC.out ▸ A.out.2.2.drew.set1 _⟩
        · rw [if_neg hcn] at hcs
          have hcn' : ¬ (cp : Int) < 1000000000 := by omega
          have HC : Hid (capN (((bytesOf s).drop (at_ + 1)).take (x + 1)) = cp) := hcs
          have A : Aside (Below w.heap.size w wr ∧ Held wr w.heap.size [.bool false, .int .i64 0, .int .i64 0] ∧ Held wr (w.heap.size + 1) [.bool false, .int .i64 (cp : Int), .int .i64 (z : Int)]) := ⟨hbw, hR, hH⟩
          clear hcs htk hcap hbw hR hH hcp hcn hd8 hzb
          go_wp2
          go_roundg (z - 1 - (x + 1))
          case measure => omega
          case rel => exact ⟨x + 1, by omega, rfl, val_int (by omega), A.out.1, A.out.2.1, by rw [HC.out]; exact A.out.2.2⟩
      · have hxe : x = z - 1 := by omega
        have hxi : ¬ (at_ : Int) + 1 + (x : Int) < (at_ : Int) + (z : Int) := by omega
        obtain ⟨cp, hcp⟩ : ∃ cp, capN (((bytesOf s).drop (at_ + 1)).take x) = cp := ⟨_, rfl⟩
        rw [hcp] at hcap c1 hH
        have HCP : Hid (capN (((bytesOf s).drop (at_ + 1)).take (z - 1)) = cp) := by rw [← hxe]; exact hcp
        have c0 := (hH.2 0 _ rfl).1
        obtain ⟨r0, q0⟩ := hR.2 0 _ rfl
        obtain ⟨r1, q1⟩ := hR.2 1 _ rfl
        obtain ⟨r2, q2⟩ := hR.2 2 _ rfl
        have h1s : at_ + 1 < s.size := by omega
        have h1s' : (at_ : Int) + 1 < (s.size : Int) := by omega
        have h1n : ((at_ : Int) + 1).toNat = at_ + 1 := by omega
        obtain ⟨d, hd⟩ : ∃ d, (s[at_ + 1]'h1s).toNat = d := ⟨_, rfl⟩
        have hd8 : d < 256 := by rw [← hd]; exact UInt8.toNat_lt _
        have hdb : (bytesOf s)[at_ + 1]! = d := by rw [← byte_at s _ h1s, hd]
        have cpb : (cp : Int) ≤ 256000000255 := by omega
        have hER := HER.out
        rw [hdb, HCP.out] at hER
        by_cases hd0 : d = 0
        · rw [if_pos (.inl hd0)] at hER
          have HE : Hid (er = 3) := hER
          have hdz : ((d : Int) == 0) = true := by simp; omega
          have A : Aside (Below w.heap.size w wr) := hbw
          clear hbw hR hH hcap hzb hd8 hcp hxe hdb hER hd0
          go_wp2
          refine bodyPost_ret (v := hdV false cp z 3) (by simp [results, Tryz.results231, go_sem, r0, r1, r2]) rfl ⟨by rw [HE.out, HCP.out], ?_⟩
          exact ((A.out.setCell (Nat.le_refl _) _).setCell (Nat.le_refl _) _).setCell (Nat.le_refl _) _
        · have hdz : ((d : Int) == 0) = false := by simp; omega
          by_cases hc55 : cp ≤ 55
          · rw [if_pos (.inr hc55)] at hER
            have HE : Hid (er = 3) := hER
            have hc5 : (cp : Int) ≤ 55 := by omega
            have A : Aside (Below w.heap.size w wr) := hbw
            clear hbw hR hH hcap hzb hd8 hcp hxe hdb hER hd0 hc55
            go_wp2
            refine bodyPost_ret (v := hdV false cp z 3) (by simp [results, Tryz.results231, go_sem, r0, r1, r2]) rfl ⟨by rw [HE.out, HCP.out], ?_⟩
            exact ((A.out.setCell (Nat.le_refl _) _).setCell (Nat.le_refl _) _).setCell (Nat.le_refl _) _
          · rw [if_neg (by rintro (h | h) <;> omega)] at hER
            have HE : Hid (er = 0) := hER
            have hc5 : ¬ (cp : Int) ≤ 55 := by omega
            have A : Aside (Below w.heap.size w wr) := hbw
            clear hbw hR hH hcap hzb hd8 hcp hxe hdb hER hd0 hc55
            go_wp2
            refine bodyPost_ret (v := hdV false cp z 0) (by simp [results, Tryz.results231, go_sem, r0, r1, r2]) rfl ⟨by rw [HE.out, HCP.out], ?_⟩
            exact ((A.out.setCell (Nat.le_refl _) _).setCell (Nat.le_refl _) _).setCell (Nat.le_refl _) _

/-- headed, whole. -/
theorem headed_any (s : ByteArray) (at_ end_ : Nat) (w : World) (he : end_ ≤ s.size) (hs : s.size ≤ 4194304) :
    Calls Tryz.prog 231 #[.string s, .int .i64 (at_ : Int), .int .i64 (end_ : Int)] w (HdSaid (hdS (bytesOf s) at_ end_) w) := by
  by_cases hsm : end_ ≤ at_ ∨ (bytesOf s)[at_]! < 128
  · exact headed_small s at_ end_ w he hsm
  · have h0 : ¬ end_ ≤ at_ := fun h => hsm (.inl h)
    have h128 : ¬ (bytesOf s)[at_]! < 128 := fun h => hsm (.inr h)
    obtain ⟨b, hb⟩ : ∃ b, (bytesOf s)[at_]! = b := ⟨_, rfl⟩
    have hb8 : b < 256 := by
      rw [← hb, getElem!_pos (bytesOf s) at_ (by rw [bytesOf_length]; omega)]
      exact byte_lt s _ (List.getElem_mem _)
    obtain ⟨base, hbase⟩ : ∃ base, (if 192 ≤ b then 192 else 128) = base := ⟨_, rfl⟩
    obtain ⟨k, hk⟩ : ∃ k, b - base = k := ⟨_, rfl⟩
    have hB : (base = 192 ∧ decide (192 ≤ b) = true ∧ 192 ≤ b) ∨ (base = 128 ∧ decide (192 ≤ b) = false ∧ 128 ≤ b ∧ b < 192) := by
      by_cases h : 192 ≤ b
      · rw [if_pos h] at hbase
        exact .inl ⟨hbase.symm, decide_eq_true h, h⟩
      · rw [if_neg h] at hbase
        exact .inr ⟨hbase.symm, decide_eq_false h, by omega, by omega⟩
    unfold hdS
    rw [if_neg h0, if_neg h128, hb, hbase, hk]
    by_cases h55 : k ≤ 55
    · rw [if_pos h55]
      exact headed_55 s at_ end_ b base k _ w he (by omega) hb hb8 hB hk h55
    · rw [if_neg h55]
      by_cases hroom : end_ < at_ + (k - 54)
      · rw [if_pos hroom]
        exact headed_room s at_ end_ b base k _ w he hs (by omega) hb hb8 hB hk (by omega) hroom
      · rw [if_neg hroom]
        have hl := fun er her => headed_long s at_ end_ b base k (k - 54) _ w he hs (by omega) hb hb8 hB hk (by omega) rfl (by omega) er her
        rw [show k - 54 - 1 = k - 55 by omega] at hl
        by_cases hF : (bytesOf s)[at_ + 1]! = 0 ∨ capN (((bytesOf s).drop (at_ + 1)).take (k - 55)) ≤ 55
        · rw [if_pos hF]
          exact hl 3 (by rw [if_pos hF])
        · rw [if_neg hF]
          exact hl 0 (by rw [if_neg hF])
end Go.Proofs.YtjiikjpnlgogfaaGreatDoor
