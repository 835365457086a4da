/-
  readItems of package item: the loop; and readItem and readItems, whole.
-/
import Derived.Test.YtjiikjpnlgogfaaDoorItem
namespace Go.Proofs.YtjiikjpnlgogfaaDoor
open Go.RowKit

theorem infoP : (Tryd.prog.info? 81).map (fun i => (i.zero, i.size, i.bytes)) = some (some zeroP, 5, 64) := by kernel_rfl

/-- What readItem answers. -/
def ItemSaid (d : Nat) (s : ByteArray) (fr : Nat) (sent : Nat → Addr) (w : World) (e : Ending) (w' : World) : Prop :=
  Below w.heap.size w w' ∧ (∀ er, readIt d (bytesOf s) fr = .error er → ∃ t v, er.val sent = .iface t v ∧ e = .returned (.tuple #[zeroP, .iface t v])) ∧
    ∀ x, readIt d (bytesOf s) fr = .ok x → ∃ (l : Bool) (tx : ByteArray) (p : Option Addr) (m c : Nat), Tree encP kP d w' (fun k => w.heap.size ≤ k) ⟨fr, x.to, l, tx, .slice p m c⟩ x ∧ e = .returned (.tuple #[valP ⟨fr, x.to, l, tx, .slice p m c⟩, .nilIface])

/-- Items in a row. -/
def Read (d : Nat) (its : List It) (w w' : World) (v : Value) : Prop :=
  ∃ ps : List (El × It), RowAt w' (fun k => w.heap.size ≤ k) v ps.length (ps.flatMap fun p => encP p.1) ∧ (∀ p ∈ ps, Tree encP kP d w' (fun k => w.heap.size ≤ k) p.1 p.2) ∧ ps.map (·.2) = its

def itemsF (d : Nat) (s : ByteArray) (fr : Nat) : Except Er (List It) := readIts (readIt d (bytesOf s)) s.size (s.size - fr) fr

def ItemsSaid (d : Nat) (s : ByteArray) (fr : Nat) (sent : Nat → Addr) (w : World) (e : Ending) (w' : World) : Prop :=
  Below w.heap.size w w' ∧ (∀ er, itemsF d s fr = .error er → ∃ t v, er.val sent = .iface t v ∧ e = .returned (.tuple #[.slice none 0 0, .iface t v])) ∧
    ∀ its, itemsF d s fr = .ok its → ∃ p m c, Read d its w w' (.slice p m c) ∧ e = .returned (.tuple #[.slice p m c, .nilIface])

/-- Its ahead of what is read further on. -/
def ahead (its : List It) : Except Er (List It) → Except Er (List It)
  | .error e => .error e
  | .ok l => .ok (its ++ l)
theorem ahead_nil (r : Except Er (List It)) : ahead [] r = r := by
  cases r <;> rfl
theorem ahead_ahead (a b : List It) (r : Except Er (List It)) : ahead a (ahead b r) = ahead (a ++ b) r := by
  cases r
  · rfl
  · simp [ahead]

theorem readIts_fuel {rd : Nat → Except Er It} {n : Nat} (hr : ∀ fr x, fr < n → rd fr = .ok x → fr < x.to) : ∀ (k j fr : Nat), n - fr ≤ k → n - fr ≤ j → readIts rd n k fr = readIts rd n j fr := by
  intro k
  induction k with
  | zero =>
    intro j fr h1 h2
    cases j with
    | zero => rfl
    | succ j => rw [readIts, readIts, if_neg (by omega)]
  | succ k ih =>
    intro j fr h1 h2
    by_cases hlt : fr < n
    · obtain ⟨i, rfl⟩ : ∃ i, j = i + 1 := ⟨j - 1, by omega⟩
      rw [readIts, readIts, if_pos hlt, if_pos hlt]
      cases h3 : rd fr with
      | error e => rfl
      | ok x =>
        have := hr fr x hlt h3
        simp only
        rw [ih i x.to (by omega) (by omega)]
    · cases j with
      | zero => rw [readIts, readIts, if_neg hlt]
      | succ j => rw [readIts, readIts, if_neg hlt, if_neg hlt]

theorem readIt_to {d : Nat} {s : ByteArray} {fr : Nat} {x : It} (hfr : fr ≤ s.size) (h : readIt d (bytesOf s) fr = .ok x) : x.fr = fr ∧ fr < x.to ∧ x.to ≤ s.size := by
  have hl := bytesOf_length s
  obtain ⟨h1, h2, h3, _⟩ := readIt_ok d (bytesOf s) fr x (byte_lt s) (by omega) h
  exact ⟨h1, h2, by omega⟩

theorem itemsF_step {d : Nat} {s : ByteArray} {x : Nat} (hx : x < s.size) {y : It} (h : readIt d (bytesOf s) x = .ok y) : itemsF d s x = ahead [y] (itemsF d s y.to) := by
  obtain ⟨_, h2, h3⟩ := readIt_to (Nat.le_of_lt hx) h
  unfold itemsF
  obtain ⟨j, hj⟩ : ∃ j, s.size - x = j + 1 := ⟨s.size - x - 1, by omega⟩
  rw [hj, readIts, if_pos hx, h]
  simp only
  rw [readIts_fuel (fun fr z hf hz => (readIt_to (Nat.le_of_lt hf) hz).2.1) j (s.size - y.to) y.to (by omega) (by omega)]
  cases readIts (readIt d (bytesOf s)) s.size (s.size - y.to) y.to <;> rfl
theorem itemsF_wrong {d : Nat} {s : ByteArray} {x : Nat} (hx : x < s.size) {e : Er} (h : readIt d (bytesOf s) x = .error e) : itemsF d s x = .error e := by
  unfold itemsF
  obtain ⟨j, hj⟩ : ∃ j, s.size - x = j + 1 := ⟨s.size - x - 1, by omega⟩
  rw [hj, readIts, if_pos hx, h]
theorem itemsF_end {d : Nat} {s : ByteArray} {x : Nat} (hx : s.size ≤ x) : itemsF d s x = .ok [] := by
  unfold itemsF
  rw [show s.size - x = 0 by omega, readIts]

/-- Read so far. -/
def Half (d : Nat) (s : ByteArray) (fr x : Nat) (w wr : World) (v : Value) : Prop :=
  ∃ ps : List (El × It), OwnC wr w.heap.size 5 v ps.length (ps.flatMap fun p => encP p.1) ∧ (∀ p ∈ ps, Tree encP kP d wr (fun k => (w.heap.size ≤ k ∧ v.ownBlock ≠ some k) ∧ k < wr.heap.size) p.1 p.2) ∧ itemsF d s fr = ahead (ps.map (·.2)) (itemsF d s x) ∧ ps.length ≤ x - fr ∧ Below w.heap.size w wr ∧ (∀ k, v.ownBlock = some k → Plain wr k)

theorem Half.nil (d : Nat) (s : ByteArray) (fr : Nat) (w : World) : Half d s fr fr w w (.slice none 0 0) :=
  ⟨[], OwnC.nil _ _ _, by simp, by rw [List.map_nil, ahead_nil], by simp, Below.refl _ _, by simp [Value.ownBlock]⟩

theorem OwnC.shape {w : World} {B size : Nat} {v : Value} {n : Nat} {cs : List Value} (h : OwnC w B size v n cs) : ∃ p m c, v = .slice p m c := by
  rcases h.2 with ⟨rfl, _⟩ | ⟨g, cap, rfl, _⟩ <;> exact ⟨_, _, _, rfl⟩

theorem Half.shape {d : Nat} {s : ByteArray} {fr x : Nat} {w wr : World} {v : Value} (h : Half d s fr x w wr v) : ∃ p m c, v = .slice p m c := by
  obtain ⟨ps, ho, _⟩ := h
  exact ho.shape

theorem Half.done {d : Nat} {s : ByteArray} {fr x : Nat} {w wr : World} {v : Value} (h : Half d s fr x w wr v) (hx : s.size ≤ x) : ∃ its, itemsF d s fr = .ok its ∧ Read d its w wr v := by
  obtain ⟨ps, ho, ht, hc, _, _, hP⟩ := h
  rw [itemsF_end hx] at hc
  exact ⟨_, hc, ps, ho.rowAt (fun k hk => (ho.block k hk).1) hP, fun p hp => Tree.keep (fun k hk => hk.1.1) (Nat.le_refl _) (fun _ _ _ => rfl) d (ht p hp), by simp⟩

/-- One more read. -/
theorem Half.more {d : Nat} {s : ByteArray} {fr x : Nat} {w wr w1 w2 : World} {v v2 : Value} {qs : List (El × It)} {o1 o2 : Obj} {e : El} {y : It}
    (ht : ∀ p ∈ qs, Tree encP kP d wr (fun k => (w.heap.size ≤ k ∧ v.ownBlock ≠ some k) ∧ k < wr.heap.size) p.1 p.2) (hc : itemsF d s fr = ahead (qs.map (·.2)) (itemsF d s x)) (hl : qs.length ≤ x - fr) (hb : Below w.heap.size w wr) (hb1 : Below wr.heap.size wr w1)
    (hv : ∀ k, v.ownBlock = some k → w.heap.size ≤ k ∧ k < wr.heap.size)
    (hT : Tree encP kP d w1 (fun k => wr.heap.size ≤ k) e y) (hx : fr ≤ x) (hxs : x < s.size) (hy : readIt d (bytesOf s) x = .ok y)
    (hO : OwnC w2 w.heap.size 5 v2 (qs.length + 1) ((qs.flatMap fun p => encP p.1) ++ encP e)) (hg : ((w1.alloc o1).alloc o2).grownBy w2 v.ownBlock) (hf : ∀ k, v2.ownBlock = some k → v.ownBlock = some k ∨ ((w1.alloc o1).alloc o2).heap.size ≤ k) (hP : ∀ k, v2.ownBlock = some k → Plain w2 k) :
    Half d s fr y.to w w2 v2 := by
  have hs1 := hb1.size
  have hsb := hb.size
  have hs2 := hg.size
  have hto := (readIt_to (Nat.le_of_lt hxs) hy).2.1
  simp only [World.size_alloc] at hs2 hf
  have hblk : ∀ k, k < w1.heap.size → v.ownBlock ≠ some k → w2.heap[k]? = w1.heap[k]? := fun k hk hne =>
    (hg.block k (by simp; omega) (fun e => hne e.symm)).trans ((Below.heap_alloc _ _ _ (by simp; omega)).trans (Below.heap_alloc _ _ _ hk))
  refine ⟨qs ++ [(e, y)], by simpa using hO, fun p hp => ?_, ?_, ?_, ?_, hP⟩
  · rcases List.mem_append.1 hp with hp | hp
    · refine Tree.keep (fun k hk => ?_) (by omega) (fun k hk hks => (hblk k (by omega) hk.1.2).trans (hb1.block k hks)) d (ht p hp)
      refine ⟨⟨hk.1.1, fun e2 => ?_⟩, by omega⟩
      rcases hf k e2 with e3 | e3
      · exact hk.1.2 e3
      · omega
    · obtain rfl := List.mem_singleton.1 hp
      refine Tree.keep (fun k hk => ?_) (by omega) (fun k hk hks => hblk k hks (fun e2 => by have := (hv k e2).2; omega)) d hT.bound
      refine ⟨⟨by have := hk.1; omega, fun e2 => ?_⟩, by omega⟩
      rcases hf k e2 with e3 | e3
      · have := (hv k e3).2; have := hk.1; omega
      · have := hk.2; omega
  · rw [hc, itemsF_step hxs hy, ahead_ahead, List.map_append]
    rfl
  · simp only [List.length_append, List.length_cons, List.length_nil]
    omega
  · exact ((hb.trans (hb1.mono hsb)).alloc (by omega) _ |>.alloc (by simp; omega) _).trans ⟨hg.os, hg.tape, hg.output, hg.size, fun k hk => hg.block k (by simp; omega) (fun e => by have := (hv k e.symm).1; omega)⟩

theorem rangeAt_new (w : World) (l : List Value) (t : TypeId) : (w.alloc (.cells l.toArray t)).rangeAt w.heap.size 0 l := by
  intro j u hu
  rw [Nat.zero_add, World.cell?_alloc_new]
  simpa using hu

theorem encP_oneCell (fr to : Nat) (l : Bool) (tx : ByteArray) (p : Option Addr) (m c : Nat) : ∀ u ∈ encP ⟨fr, to, l, tx, .slice p m c⟩, u.oneCell' = true := by
  intro u hu
  simp only [List.mem_cons, List.not_mem_nil, or_false] at hu
  rcases hu with rfl | rfl | rfl | rfl | rfl <;> rfl

set_option maxRecDepth 100000 in
set_option maxHeartbeats 1600000 in
theorem items_any (d : Nat) (s : ByteArray) (fr l1 : Nat) (sent : Nat → Addr) (w : World) (hs : s.size ≤ 2048) (hfr : fr ≤ s.size)
    (hN : ∀ W x, Below w.heap.size w W → x ≤ s.size → Calls Tryd.prog 41 #[.string s, .int .i64 (x : Int), .int .i64 (l1 : Int)] W (ItemSaid d s x sent W)) :
    Calls Tryd.prog 59 #[.string s, .int .i64 (fr : Int), .int .i64 (l1 : Int)] w (ItemsSaid d s fr sent w) := by
  obtain ⟨i0, hi, hz0, hz1, hz2⟩ := info_parts infoP
  have HN : Hid (∀ W x, Below w.heap.size w W → x ≤ s.size → Calls Tryd.prog 41 #[.string s, .int .i64 (x : Int), .int .i64 (l1 : Int)] W (ItemSaid d s x sent W)) := hN
  have HS : Hid (s.size ≤ 2048) := hs
  clear hN hs
  go_enter Tryd.func59, Tryd.ntmps59
  go_wp2
  go_loopg [1, 8] (s.size - fr) (fun g f v wr => ∃ x : Nat, fr ≤ x ∧ x ≤ s.size ∧ g = s.size - x ∧ f = .int .i64 (x : Int) ∧ Half d s fr x w wr v)
  case atStart => exact ⟨fr, Nat.le_refl _, hfr, rfl, rfl, Half.nil d s fr w⟩
  case round =>
    obtain ⟨x, hx0, hx, rfl, rfl, hH⟩ := hrel
    obtain ⟨p0, m0, c0, rfl⟩ := hH.shape
    by_cases hlt : x < s.size
    · have hxi : (x : Int) < (s.size : Int) := by omega
      have A0 : Aside (Half d s fr x w wr (.slice p0 m0 c0)) := hH
      have hbw : Below w.heap.size w wr := by obtain ⟨_, _, _, _, _, h, _⟩ := hH; exact h
      clear hH
      go_wp2_with fail
      refine (HN.out _ x hbw hx).mono ?_
      rintro e w1 ⟨hb1, hd1, hd2⟩
      rcases hr : readIt d (bytesOf s) x with er | y
      · obtain ⟨t, v, hv, rfl⟩ := hd1 er hr
        have A1 : Aside (itemsF d s fr = .error er ∧ er.val sent = .iface t v ∧ Below w.heap.size w w1) := by
          obtain ⟨qs, _, _, hc, _⟩ := A0.out
          exact ⟨by rw [hc, itemsF_wrong hlt hr]; rfl, hv, hbw.trans (hb1.mono hbw.size)⟩
        clear hv hb1 hbw hd1 hd2 hr
        go_wp2
        go_ret2
        refine ⟨A1.out.2.2.alloc A1.out.2.2.size _, fun er' he' => ?_, fun its he' => ?_⟩
        · rw [A1.out.1] at he'
          cases he'
          exact ⟨t, v, A1.out.2.1, rfl⟩
        · rw [A1.out.1] at he'
          cases he'
      · obtain ⟨l, tx, p, m, c, hT, rfl⟩ := hd2 y hr
        obtain ⟨h0, h1, h2⟩ := readIt_to hx hr
        obtain ⟨to, hto⟩ : ∃ to, y.to = to := ⟨_, rfl⟩
        rw [hto] at hT h1 h2 ⊢
        obtain ⟨qs, hO, ht, hc, hl, _, hP⟩ := A0.out
        have hv := hO.block
        have HO : Hid (∀ o1 o2, OwnC ((w1.alloc o1).alloc o2) w.heap.size 5 (.slice p0 m0 c0) qs.length (qs.flatMap fun p => encP p.1)) := fun o1 o2 => ((hO.below hb1).alloc o1).alloc o2
        have A1 : Aside (qs.length ≤ 2048 ∧ w.heap.size ≤ w1.heap.size) := ⟨by have := HS.out; omega, Nat.le_trans hbw.size hb1.size⟩
        have A2 : Aside (∀ {w2 : World} {v2 : Value} {o1 o2 : Obj}, OwnC w2 w.heap.size 5 v2 (qs.length + 1) ((qs.flatMap fun p => encP p.1) ++ encP ⟨x, to, l, tx, .slice p m c⟩) → ((w1.alloc o1).alloc o2).grownBy w2 (Value.slice p0 m0 c0).ownBlock → (∀ k, v2.ownBlock = some k → (Value.slice p0 m0 c0).ownBlock = some k ∨ ((w1.alloc o1).alloc o2).heap.size ≤ k) → ((∀ k, (Value.slice p0 m0 c0).ownBlock = some k → Plain ((w1.alloc o1).alloc o2) k) → ∀ k, v2.ownBlock = some k → Plain w2 k) → Half d s fr to w w2 v2) := fun {w2 v2 o1 o2} h1' h2' h3' h4' => hto ▸ Half.more ht hc hl hbw hb1 hv hT hx0 hlt hr h1' h2' h3' (h4' (fun k hk => (hP k hk).keep (by have hk2 := (hv k hk).2; have hs1 := hb1.size; rw [Below.heap_alloc _ _ _ (by simp; omega), Below.heap_alloc _ _ _ (by omega), hb1.block k hk2])))
        have A3 : Aside (∀ k, (Value.slice p0 m0 c0).ownBlock = some k → k < w1.heap.size) := fun k hk => by have := (hv k hk).2; have := hb1.size; omega
        clear hO ht hc hl hv hT hP A0 hb1 hbw hd1 hd2 hr hto h0
        go_wp2_with (at_builtin; refine wpList_append_ownp _ rfl _ _ 79 rfl 81 i0 zeroP 5 64 Tryd.underlying79 hi hz0 hz1 hz2 rfl (by decide) w.heap.size _ qs.length _ rfl (HO.out _ _) (w1.heap.size + 1) 0 1 1 (encP ⟨x, to, l, tx, .slice p m c⟩) rfl rfl ?c1 (encP_oneCell _ _ _ _ _ _ _) ?c2 ?c3 ?c4 ?_)
        case c1 =>
          have := rangeAt_new (w1.alloc (.cells (encP ⟨x, to, l, tx, .slice p m c⟩).toArray 81)) (encP ⟨x, to, l, tx, .slice p m c⟩) 81
          simpa using this
        case c2 => have := A1.out.1; unfold maxLen; omega
        case c3 => have := A1.out.1; omega
        case c4 => have := A1.out.2; simp; omega
        intro v2 w2 hO2 hg2 hf2 hp2
        obtain ⟨p2, m2, c2, rfl⟩ := hO2.shape
        have d1 : w2.cell? ⟨w1.heap.size, 1, none⟩ = some (.int .i64 (to : Int)) := by
          refine World.grownBy.cell hg2 ?_ (fun e => ?_)
          · rw [World.cell?_alloc_past _ _ _ (by simp), World.cell?_alloc_new]
            rfl
          · have := A3.out _ e.symm
            simp at this
        have A4 : Aside (Half d s fr to w w2 (.slice p2 m2 c2)) := A2.out hO2 hg2 (by simpa using hf2) hp2
        clear hO2 hg2 hf2 hp2 HO A2 A3
        go_wp2
        go_roundg (s.size - to)
        case measure => omega
        case rel => exact ⟨to, by omega, h2, rfl, rfl, A4.out⟩
    · have hxi : (s.size : Int) ≤ (x : Int) := by omega
      have A0 : Aside (Half d s fr x w wr (.slice p0 m0 c0) ∧ s.size ≤ x) := ⟨hH, by omega⟩
      clear hH hlt
      go_wp2
      go_ret2
      obtain ⟨its, h1, h2⟩ := A0.out.1.done A0.out.2
      refine ⟨by obtain ⟨_, _, _, _, _, h, _⟩ := A0.out.1; exact h, fun er he => ?_, fun its' he => ?_⟩
      · rw [h1] at he
        cases he
      · rw [h1] at he
        cases he
        exact ⟨p0, m0, c0, h2, rfl⟩

theorem cut_bytes (s : ByteArray) (a b : Nat) : bytesOf (s.extract a b) = ((bytesOf s).drop a).take (b - a) := by
  unfold bytesOf
  rw [← List.map_drop, ← List.map_take]
  congr 1
  simp only [ByteArray.data_extract, Array.toList_extract, List.extract_eq_take_drop]

theorem cut_size (s : ByteArray) (a b : Nat) (h : b ≤ s.size) : (s.extract a b).size = b - a := by
  rw [← bytesOf_length, cut_bytes, List.length_take, List.length_drop, bytesOf_length]
  omega

theorem item_wrong (d : Nat) (s : ByteArray) (fr lists : Nat) (w : World) (l : Bool) (sent : Nat → Addr) (x : Nat) (hfr : fr ≤ s.size) (hN : ∀ W, Below w.heap.size w W → Calls Tryd.prog 58 #[.string (s.extract fr s.size)] W fun e w' => Below W.heap.size W w' ∧ e = .returned (.tuple #[headV l 0 0, (Er.base x).val sent])) (hr : readIt d (bytesOf s) fr = .error (.place fr (.base x))) :
    Calls Tryd.prog 41 #[.string s, .int .i64 (fr : Int), .int .i64 (lists : Int)] w (ItemSaid d s fr sent w) := by
  refine (item_err s fr lists w l _ _ (Int.ofNat_le.2 hfr) _ rfl hN).mono ?_
  rintro e w' ⟨hb, rfl⟩
  refine ⟨hb, fun er he => ?_, fun x he => ?_⟩
  · rw [hr] at he
    cases he
    exact ⟨_, _, rfl, rfl⟩
  · rw [hr] at he
    cases he

theorem item_plain (d : Nat) (s : ByteArray) (fr lists a b : Nat) (w : World) (sent : Nat → Addr) (hs : s.size ≤ 2048) (hfr : fr ≤ s.size) (hok : HeadOK ((bytesOf s).drop fr) false a b) (hN : ∀ W, Below w.heap.size w W → Calls Tryd.prog 58 #[.string (s.extract fr s.size)] W fun e w' => Below W.heap.size W w' ∧ e = .returned (.tuple #[headV false a b, .nilIface])) (hr : readIt d (bytesOf s) fr = .ok (.text fr (fr + a + b) (((bytesOf s).drop (fr + a)).take b))) :
    Calls Tryd.prog 41 #[.string s, .int .i64 (fr : Int), .int .i64 (lists : Int)] w (ItemSaid d s fr sent w) := by
  have h1 := hok.1
  have h2 := hok.2.1
  rw [List.length_drop, bytesOf_length] at h1
  refine (item_text s fr lists a b (fr + a) (fr + a + b) w (Int.ofNat_le.2 hfr) _ rfl hN (sum_few fr a (by omega)) (sum_few (fr + a) b (by omega)) (Int.ofNat_le.2 (by omega)) (Int.ofNat_le.2 (by omega))).mono ?_
  rintro e w' ⟨hb, rfl⟩
  refine ⟨hb, fun er he => ?_, fun x he => ?_⟩
  · rw [hr] at he
    cases he
  · rw [hr] at he
    cases he
    refine ⟨false, _, none, 0, 0, Tree.text ⟨⟨rfl, rfl⟩, ?_⟩ d, rfl⟩
    show _ = It.text fr (fr + a + b) (bytesOf (s.extract (fr + a) (fr + a + b)))
    rw [cut_bytes, show fr + a + b - (fr + a) = b by omega]

/-- readItem, at whatever text and place. -/
theorem item_any (sent : Nat → Addr) : ∀ (d lists : Nat) (s : ByteArray) (fr : Nat) (w : World), lists + d = 6 → s.size ≤ 2048 → fr ≤ s.size → Faults w sent →
    Calls Tryd.prog 41 #[.string s, .int .i64 (fr : Int), .int .i64 (lists : Int)] w (ItemSaid d s fr sent w) := by
  intro d
  induction d with
  | zero =>
    intro lists s fr w hln hs hfr hF
    have hbl := bytesOf_length s
    have hcb : bytesOf (s.extract fr s.size) = (bytesOf s).drop fr := by
      rw [cut_bytes, List.take_of_length_le]
      rw [List.length_drop]
      omega
    have hcs := cut_size s fr s.size (Nat.le_refl _)
    obtain rfl : lists = 6 := by omega
    have hH := readHead_at (s.extract fr s.size) w _ _ _ (hF.var 2 (by decide)) (hF.var 3 (by decide)) (hF.low (n := 2) (by decide)) (hF.low (n := 3) (by decide)) (by omega)
    rw [hcb] at hH
    cases hh : headF ((bytesOf s).drop fr) with
    | error x =>
      obtain ⟨l, ev, hev, hN⟩ := hH.1 x hh
      have hr : readIt 0 (bytesOf s) fr = .error (.place fr (.base x)) := by rw [readIt, hh]
      rcases hev with ⟨rfl, rfl⟩ | ⟨rfl, rfl⟩
      · exact item_wrong 0 s fr 6 w l sent 2 hfr hN hr
      · exact item_wrong 0 s fr 6 w l sent 3 hfr hN hr
    | ok p =>
      obtain ⟨l, a, b⟩ := p
      have hN := hH.2 l a b hh
      have hok := headF_ok (bytes_drop (byte_lt s) fr) hh
      have h1 := hok.1
      rw [List.length_drop] at h1
      cases l with
      | false => exact item_plain 0 s fr 6 a b w sent hs hfr hok hN (by rw [readIt, hh]; rfl)
      | true =>
        have hr : readIt 0 (bytesOf s) fr = .error (.place fr (.base 5)) := by rw [readIt, hh]; rfl
        refine (item_deep s fr a b (fr + a) (fr + a + b) w (Int.ofNat_le.2 hfr) _ rfl hN (sum_few fr a (by omega)) (sum_few (fr + a) b (by omega)) _ _ (hF.var 5 (by decide)) (hF.low (n := 5) (by decide))).mono ?_
        rintro e w' ⟨hb, rfl⟩
        refine ⟨hb, fun er he => ?_, fun x he => ?_⟩
        · rw [hr] at he
          cases he
          exact ⟨_, _, rfl, rfl⟩
        · rw [hr] at he
          cases he
  | succ d ih =>
    intro lists s fr w hln hs hfr hF
    have hbl := bytesOf_length s
    have hcb : bytesOf (s.extract fr s.size) = (bytesOf s).drop fr := by
      rw [cut_bytes, List.take_of_length_le]
      rw [List.length_drop]
      omega
    have hcs := cut_size s fr s.size (Nat.le_refl _)
    have hH := readHead_at (s.extract fr s.size) w _ _ _ (hF.var 2 (by decide)) (hF.var 3 (by decide)) (hF.low (n := 2) (by decide)) (hF.low (n := 3) (by decide)) (by omega)
    rw [hcb] at hH
    cases hh : headF ((bytesOf s).drop fr) with
    | error x =>
      obtain ⟨l, ev, hev, hN⟩ := hH.1 x hh
      have hr : readIt (d + 1) (bytesOf s) fr = .error (.place fr (.base x)) := by rw [readIt, hh]
      rcases hev with ⟨rfl, rfl⟩ | ⟨rfl, rfl⟩
      · exact item_wrong (d + 1) s fr lists w l sent 2 hfr hN hr
      · exact item_wrong (d + 1) s fr lists w l sent 3 hfr hN hr
    | ok p =>
      obtain ⟨l, a, b⟩ := p
      have hN := hH.2 l a b hh
      have hok := headF_ok (bytes_drop (byte_lt s) fr) hh
      have h1 := hok.1
      have h2 := hok.2.1
      rw [List.length_drop] at h1
      cases l with
      | false => exact item_plain (d + 1) s fr lists a b w sent hs hfr hok hN (by rw [readIt, hh]; rfl)
      | true =>
        have hc2 := cut_size s 0 (fr + a + b) (by omega)
        have hcb2 : bytesOf (s.extract 0 (fr + a + b)) = (bytesOf s).take (fr + a + b) := by rw [cut_bytes, List.drop_zero, Nat.sub_zero]
        have hr : ∀ r, itemsF d (s.extract 0 (fr + a + b)) (fr + a) = r → readIt (d + 1) (bytesOf s) fr = (match r with | .error e => .error e | .ok its => .ok (.list fr (fr + a + b) its)) := by
          intro r h
          unfold itemsF at h
          rw [hcb2, hc2, Nat.sub_zero, show fr + a + b - (fr + a) = b by omega] at h
          rw [readIt, hh]
          simp only [if_true]
          rw [h]
          cases r <;> rfl
        refine (item_list s fr lists (lists + 1) a b (fr + a) (fr + a + b) w (Int.ofNat_le.2 hfr) _ rfl hN (sum_few fr a (by omega)) (sum_few (fr + a) b (by omega)) (by simp; omega) (wrap64_succ lists (by omega)) (Int.ofNat_le.2 (by omega)) (s.extract 0 (fr + a + b)) rfl
          (fun t v => ∃ er : Er, itemsF d (s.extract 0 (fr + a + b)) (fr + a) = .error er ∧ er.val sent = .iface t v) (fun W w' v => ∃ its, itemsF d (s.extract 0 (fr + a + b)) (fr + a) = .ok its ∧ Read d its W w' v) ?_).mono ?_
        · intro W hW
          refine (items_any d (s.extract 0 (fr + a + b)) (fr + a) (lists + 1) sent W (by omega) (by omega) (fun W' x hW' hx => ?_)).mono ?_
          · exact ih (lists + 1) _ x W' (by omega) (by omega) hx (hF.below (Below.behind hW hW'))
          · rintro e w' ⟨hb, hd1, hd2⟩
            refine ⟨hb, ?_⟩
            rcases hi : itemsF d (s.extract 0 (fr + a + b)) (fr + a) with er | its
            · obtain ⟨t, v, h1, h2⟩ := hd1 er hi
              exact .inl ⟨t, v, ⟨er, rfl, h1⟩, h2⟩
            · obtain ⟨p, m, c, h1, h2⟩ := hd2 its hi
              exact .inr ⟨p, m, c, ⟨its, rfl, h1⟩, h2⟩
        · rintro e w' ⟨hb, hd⟩
          refine ⟨hb, ?_⟩
          rcases hd with ⟨t, v, ⟨er, hi, hv⟩, rfl⟩ | ⟨W, w2, p, m, c, hW, ⟨its, hi, qs, hq, ht, hc⟩, hk, hsz, hlt, rfl⟩
          · have hr := hr _ hi
            simp only at hr
            refine ⟨fun er' he => ?_, fun x he => ?_⟩
            · rw [hr] at he
              cases he
              exact ⟨t, v, hv, rfl⟩
            · rw [hr] at he
              cases he
          · have hr := hr _ hi
            simp only at hr
            refine ⟨fun er' he => ?_, fun x he => ?_⟩
            · rw [hr] at he
              cases he
            · rw [hr] at he
              cases he
              exact ⟨true, _, p, m, c, .inr ⟨rfl, qs, hq.keep (fun k h => by omega) (by omega) (fun k h _ => hk k h), fun q hq => Tree.keep (fun k h => by omega) (by omega) (fun k h _ => hk k h) d (ht q hq), rfl, by rw [hc]; rfl⟩, rfl⟩
end Go.Proofs.YtjiikjpnlgogfaaDoor
