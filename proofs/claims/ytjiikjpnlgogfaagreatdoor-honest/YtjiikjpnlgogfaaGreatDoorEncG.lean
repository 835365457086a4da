/-
  appendItem and appendItems of package item.
  appendItems of package item: the loop; and appendItem, whole.
-/
import Derived.Test.YtjiikjpnlgogfaaGreatDoorBarG
namespace Go.Proofs.YtjiikjpnlgogfaaGreatDoor
open Go.RowKit

/-- What appendItem answers: the code behind what was there; or that it is too long. -/
def AppSaid (B : Nat) (v : Value) (l c : List Nat) (sent : Nat → Addr) (w : World) (e : Ending) (w' : World) : Prop :=
  (l.length + c.length ≤ 2048 ∧ ∃ p k, e = .returned (.tuple #[.slice p (l.length + c.length) k, .nilIface]) ∧ Grew w w' B v (.slice p (l.length + c.length) k) (l ++ c)) ∨
    (2048 < l.length + c.length ∧ w.grownBy w' v.ownBlock ∧ e = .returned (.tuple #[.slice none 0 0, .iface 423 (.pointer (some (sent 1)))]))

theorem Own.shape {w : World} {B : Nat} {v : Value} {l : List Nat} (h : Own w B v l) : ∃ p k, v = .slice p l.length k := by
  rcases h with ⟨rfl, rfl⟩ | ⟨g, cap, rfl, _⟩ <;> exact ⟨_, _, rfl⟩

theorem grown_alloc {w w' : World} {o : Obj} {b : Option Nat} (h : (w.alloc o).grownBy w' b) : w.grownBy w' b :=
  ⟨h.os, h.tape, h.output, by have := h.size; simp at this; omega, fun k hk hne => (h.block k (by simp; omega) hne).trans (Below.heap_alloc _ _ _ hk)⟩
theorem grown_drew {w w' : World} {b : Option Nat} (h : w.grownBy w' b) : w.grownBy w'.drew b := ⟨h.os, h.tape, h.output, h.size, h.block⟩
theorem below_grown {w w' : World} (b : Option Nat) (h : Below w.heap.size w w') : w.grownBy w' b := ⟨h.os, h.tape, h.output, h.size, fun k hk _ => h.block k hk⟩

theorem Own.bytes_le {w : World} {B : Nat} {p : Option Addr} {m k : Nat} {l : List Nat} (h : Own w B (.slice p m k) l) : m = l.length := by
  rcases h with ⟨h, rfl⟩ | ⟨g, cap, h, _⟩
  · simp only [Value.slice.injEq] at h
    exact h.2.1
  · simp only [Value.slice.injEq] at h
    exact h.2.1

/-- The last test of appendItem: the code may be too long. -/
theorem app_end {w0 w w1 : World} {sent : Nat → Addr} {n : Nat} {l c : List Nat} {v : Value} {p' : Option Addr} {k' : Nat} (hn : l.length = n) (hg : Grew w w1 w0.heap.size v (.slice p' (n + c.length) k') (l ++ c)) :
    (n + c.length ≤ 2048 → AppSaid w0.heap.size v l c sent w (.returned (.tuple #[.slice p' (n + c.length) k', .nilIface])) w1) ∧
    (2048 < n + c.length → AppSaid w0.heap.size v l c sent w (.returned (.tuple #[.slice none 0 0, .iface 423 (.pointer (some (sent 1)))])) w1.drew) := by
  subst hn
  exact ⟨fun h => .inl ⟨h, p', k', rfl, hg⟩, fun h => .inr ⟨h, grown_drew hg.grown, rfl⟩⟩

theorem longAt {w0 w : World} {sent : Nat → Addr} (hF : Faults w0 sent) (hb : Below w0.heap.size w0 w) : w.cell? ⟨0, 0, none⟩ = some (.iface 423 (.pointer (some (sent 1)))) ∧ 0 < w.heap.size :=
  ⟨(hF.below hb).var 1 (by decide), (hF.below hb).low (n := 1) (by decide)⟩

set_option maxRecDepth 100000 in
set_option maxHeartbeats 1600000 in
theorem ai_text {l : List Nat} {n : Nat} (p : Option Addr) (k : Nat) (tx : ByteArray) (sent : Nat → Addr) (w0 w : World) (hb : Below w0.heap.size w0 w) (hn : l.length = n) (hO : Own w w0.heap.size (.slice p n k) l) (hl : n ≤ 2048) (hF : Faults w0 sent) :
    Calls Tryz.prog 91 #[.slice p n k, .agg #[.bool false, .string tx, .slice none 0 0]] w (AppSaid w0.heap.size (.slice p n k) l (textCode (bytesOf tx)) sent w) := by
  have hbl := bytesOf_length tx
  have hcl := (textCode_pos (bytesOf tx)).2
  have hbs := hb.size
  obtain ⟨c, hc⟩ : ∃ c, textCode (bytesOf tx) = c := ⟨_, rfl⟩
  by_cases hbig : tx.size ≤ 2048
  · have hbi : (tx.size : Int) ≤ 2048 := by omega
    have HT : Hid (∀ o, Calls Tryz.prog 103 #[.slice p n k, .string tx] (w.alloc o) fun e w' => ∃ v', e = .returned v' ∧ Grew (w.alloc o) w' w0.heap.size (.slice p n k) v' (l ++ textCode (bytesOf tx))) := fun o => text_any tx (w.alloc o) (hO.alloc o) (by simp; omega) (by omega) (by omega)
    rw [hc] at HT ⊢
    have A : Aside (Faults w0 sent ∧ Below w0.heap.size w0 w ∧ l.length = n ∧ Own w w0.heap.size (.slice p n k) l) := ⟨hF, hb, hn, hO⟩
    clear hF hO hbl hcl hc hbig hb hbs hn hl
    go_enter Tryz.func91, Tryz.ntmps91
    go_wp2_with fail
    refine (HT.out _).mono ?_
    rintro e w1 ⟨v', rfl, hg⟩
    obtain ⟨p', k', rfl⟩ := hg.own.shape
    have hlen : (l ++ c).length = n + c.length := by rw [List.length_append, A.out.2.2.1]
    rw [hlen] at hg ⊢
    obtain ⟨m, hm⟩ : ∃ m, n + c.length = m := ⟨_, rfl⟩
    obtain ⟨hF1, hF2⟩ := longAt A.out.1 (hg.below (A.out.2.2.2.alloc _) (A.out.2.1.alloc A.out.2.1.size _) (by have := A.out.2.1.size; simp; omega))
    obtain ⟨E1, E2⟩ := app_end (w0 := w0) (sent := sent) A.out.2.2.1 (Grew.after ((Below.refl _ _).alloc (Nat.le_refl _) _) hg)
    rw [hm] at E1 E2 ⊢
    have B1 : Aside _ := E1
    have B2 : Aside _ := E2
    clear hg E1 E2 hlen hm
    by_cases hle : m ≤ 2048
    · have hlei : (m : Int) ≤ 2048 := by omega
      go_wp2
      go_ret2
      exact B1.out hle
    · have hlei : (2048 : Int) < (m : Int) := by omega
      go_wp2
      go_region
      go_wp2
      go_ret2
      exact B2.out (by omega)
  · have hbi : (2048 : Int) < (tx.size : Int) := by omega
    obtain ⟨hF1, hF2⟩ := longAt hF hb
    have hF3 := fun o => cell_past o hF1 hF2
    rw [hc]
    have A : Aside (2048 < l.length + c.length) := by rw [← hc]; exact (by omega : 2048 < l.length + (textCode (bytesOf tx)).length)
    clear hF hO hbl hcl hc hbig hb hbs hn hl
    go_enter Tryz.func91, Tryz.ntmps91
    go_wp2
    go_region
    go_wp2
    go_ret2
    exact .inr ⟨A.out, below_grown _ ((Below.refl _ _).alloc (Nat.le_refl _) _).drew, rfl⟩

/-- What appendItems answers. -/
def AppsSaid (c : List Nat) (sent : Nat → Addr) (w : World) (e : Ending) (w' : World) : Prop :=
  Below w.heap.size w w' ∧ ((c.length ≤ 2048 ∧ ∃ p k, e = .returned (.tuple #[.slice p c.length k, .nilIface]) ∧ Own w' w.heap.size (.slice p c.length k) c) ∨
    (2048 < c.length ∧ e = .returned (.tuple #[.slice none 0 0, .iface 423 (.pointer (some (sent 1)))])))

set_option maxRecDepth 100000 in
set_option maxHeartbeats 1600000 in
theorem ai_list {l d : List Nat} {n : Nat} (p : Option Addr) (k : Nat) (tx : ByteArray) (q : Option Addr) (m c : Nat) (sent : Nat → Addr) (w0 w : World) (hb : Below w0.heap.size w0 w) (hn : l.length = n) (hO : Own w w0.heap.size (.slice p n k) l) (hl : n ≤ 2048) (hF : Faults w0 sent)
    (hN : ∀ W, Below w.heap.size w W → Calls Tryz.prog 151 #[.slice q m c] W (AppsSaid d sent W)) :
    Calls Tryz.prog 91 #[.slice p n k, .agg #[.bool true, .string tx, .slice q m c]] w (AppSaid w0.heap.size (.slice p n k) l (listCode d) sent w) := by
  have hcl := listCode_le d
  have hbs := hb.size
  obtain ⟨cd, hcd⟩ : ∃ cd, listCode d = cd := ⟨_, rfl⟩
  have HN := Hid.hide hN
  have A : Aside (Faults w0 sent ∧ Below w0.heap.size w0 w ∧ l.length = n ∧ Own w w0.heap.size (.slice p n k) l ∧ n ≤ 2048 ∧ listCode d = cd ∧ d.length ≤ cd.length) := ⟨hF, hb, hn, hO, hl, hcd, by rw [← hcd]; exact hcl⟩
  rw [hcd]
  clear hF hb hn hO hl hN hcl hbs hcd
  go_enter Tryz.func91, Tryz.ntmps91
  go_wp2_with fail
  refine (HN.out _ ((Below.refl _ _).alloc (Nat.le_refl _) _)).mono ?_
  rintro e w1 ⟨hb1, hd⟩
  have hbw : Below w.heap.size w w1 := Below.up hb1
  rcases hd with ⟨hd1, p1, k1, rfl, hO1⟩ | ⟨hd1, rfl⟩
  · obtain ⟨m1, hm1⟩ : ∃ m1, d.length = m1 := ⟨_, rfl⟩
    have HL : Hid (Calls Tryz.prog 105 #[.slice p n k, .slice p1 m1 k1] w1 fun e w' => ∃ v', e = .returned v' ∧ Grew w1 w' w0.heap.size (.slice p n k) v' (l ++ cd)) := by
      have h1 := A.out.2.1.size
      have h2 := hbw.size
      have h3 := A.out.2.2.2.1
      rw [← A.out.2.2.2.2.2.1, ← hm1]
      refine list_any w1 (h3.below hbw) (hO1.mono (by simp; omega)) (fun b hb e => ?_) (by omega) (by omega) (by have := A.out.2.2.1; have := A.out.2.2.2.2.1; omega)
      have a1 := (h3.block b hb).2
      have a2 := (hO1.block b e).1
      simp at a2
      omega
    have A2 : Aside (Below w.heap.size w w1) := hbw
    rw [hm1]
    clear hb1 hbw hO1 hd1 hm1
    go_wp2_with fail
    refine (HL.out).mono ?_
    rintro e w2 ⟨v', rfl, hg⟩
    obtain ⟨p', k', rfl⟩ := hg.own.shape
    have hlen : (l ++ cd).length = n + cd.length := by rw [List.length_append, A.out.2.2.1]
    rw [hlen] at hg ⊢
    obtain ⟨m, hm⟩ : ∃ m, n + cd.length = m := ⟨_, rfl⟩
    obtain ⟨hF1, hF2⟩ := longAt A.out.1 (hg.below (A.out.2.2.2.1.below A2.out) (A.out.2.1.trans (A2.out.mono A.out.2.1.size)) (Nat.le_trans A.out.2.1.size A2.out.size))
    obtain ⟨E1, E2⟩ := app_end (w0 := w0) (sent := sent) A.out.2.2.1 (Grew.after A2.out hg)
    rw [hm] at E1 E2 ⊢
    have B1 : Aside _ := E1
    have B2 : Aside _ := E2
    clear hg E1 E2 hlen hm
    by_cases hle : m ≤ 2048
    · have hlei : (m : Int) ≤ 2048 := by omega
      go_wp2
      go_ret2
      exact B1.out hle
    · have hlei : (2048 : Int) < (m : Int) := by omega
      go_wp2
      go_region
      go_wp2
      go_ret2
      exact B2.out (by omega)
  · have A2 : Aside (Below w.heap.size w w1 ∧ 2048 < d.length) := ⟨hbw, hd1⟩
    clear hb1 hbw hd1
    go_wp2
    go_ret2
    exact .inr ⟨by have := A.out.2.2.2.2.2.2; have := A2.out.2; omega, below_grown _ A2.out.1, rfl⟩
end Go.Proofs.YtjiikjpnlgogfaaGreatDoor

namespace Go.Proofs.YtjiikjpnlgogfaaGreatDoor
open Go.RowKit

def flatCodes (ps : List (El × List Nat)) : List Nat := ps.flatMap (·.2)
theorem flatCodes_take (ps : List (El × List Nat)) (k : Nat) (hk : k < ps.length) : flatCodes (ps.take (k + 1)) = flatCodes (ps.take k) ++ ps[k].2 := by
  unfold flatCodes
  rw [← List.take_append_getElem hk, List.flatMap_append]
  simp
theorem flatCodes_le (ps : List (El × List Nat)) (k : Nat) : (flatCodes (ps.take k)).length ≤ (flatCodes ps).length := by
  unfold flatCodes
  conv => rhs; rw [← List.take_append_drop k ps, List.flatMap_append, List.length_append]
  omega

theorem flatCodes_mem {x : El × List Nat} : ∀ {ps : List (El × List Nat)}, x ∈ ps → x.2.length ≤ (flatCodes ps).length := by
  intro ps
  induction ps with
  | nil => intro h; cases h
  | cons y ps ih =>
    intro h
    unfold flatCodes at ih ⊢
    rw [List.flatMap_cons, List.length_append]
    rcases List.mem_cons.1 h with rfl | h
    · omega
    · have := ih h
      omega
theorem flatCodes_count : ∀ ps : List (El × List Nat), (∀ x ∈ ps, 0 < x.2.length) → ps.length ≤ (flatCodes ps).length := by
  intro ps
  induction ps with
  | nil => intro _; simp
  | cons y ps ih =>
    intro h
    have h1 := ih (fun x hx => h x (by simp [hx]))
    have h2 := h y (by simp)
    unfold flatCodes at h1 ⊢
    rw [List.flatMap_cons, List.length_append, List.length_cons]
    omega
theorem listCode_pos (t : List Nat) : 0 < (listCode t).length := by
  unfold listCode
  have := headB_pos 192 t.length
  rw [List.length_append]
  omega
theorem Tree.code_pos {enc : El → List Value} : ∀ {n : Nat} {w : World} {F : Nat → Prop} {e : El} {c : List Nat}, Tree enc kC n w F e c → 0 < c.length := by
  intro n w F e c h
  have ht : IsText e ∧ kC.tx e c → 0 < c.length := by
    rintro ⟨_, h⟩
    rw [show c = textCode (bytesOf e.text) from h]
    exact (textCode_pos _).1
  cases n with
  | zero => exact ht h
  | succ n =>
    rcases h with h | ⟨_, ps, _, _, h⟩
    · exact ht h
    · rw [h.2]
      exact listCode_pos _

/-- Appended so far: the first k. -/
def AHalf (ps : List (El × List Nat)) (k : Nat) (w wr : World) (v : Value) : Prop :=
  ∃ n, (flatCodes (ps.take k)).length = n ∧ n ≤ 2048 ∧ Own wr w.heap.size v (flatCodes (ps.take k)) ∧ Below w.heap.size w wr

theorem AHalf.shape {ps : List (El × List Nat)} {k : Nat} {w wr : World} {v : Value} (h : AHalf ps k w wr v) : ∃ p n c, v = .slice p n c ∧ (flatCodes (ps.take k)).length = n ∧ n ≤ 2048 := by
  obtain ⟨n, h1, h2, h3, _⟩ := h
  obtain ⟨p, c, rfl⟩ := h3.shape
  exact ⟨p, _, c, rfl, rfl, by omega⟩

set_option maxRecDepth 100000 in
set_option maxHeartbeats 1600000 in
theorem apps_any (ps : List (El × List Nat)) (q : Option Addr) (m c : Nat) (F : Nat → Prop) (sent : Nat → Addr) (w : World) (hm : m = ps.length) (hm2 : m ≤ 1048576) (hrow : RowAt w F (.slice q m c) ps.length (ps.flatMap fun x => encI x.1)) (hsub : ∀ x ∈ ps, ∃ p m c, x.1.sub = .slice p m c)
    (hN : ∀ x ∈ ps, ∀ W p n k l, Below w.heap.size w W → l.length = n → Own W w.heap.size (.slice p n k) l → n ≤ 2048 → Calls Tryz.prog 91 #[.slice p n k, valI x.1] W (AppSaid w.heap.size (.slice p n k) l x.2 sent W)) :
    Calls Tryz.prog 151 #[.slice q m c] w (AppsSaid (flatCodes ps) sent w) := by
  have HN := Hid.hide hN
  have HR := Hid.hide hrow
  have HS := Hid.hide hsub
  have HM : Hid (m = ps.length ∧ m ≤ 1048576) := ⟨hm, hm2⟩
  clear hN hrow hsub hm hm2
  go_enter Tryz.func151, Tryz.ntmps151
  go_wp2
  go_loopg [4, 11] m (fun gh v i wr => ∃ k, k ≤ m ∧ gh = m - k ∧ i = .int .i64 (k : Int) ∧ AHalf ps k w wr v)
  case atStart => exact ⟨0, Nat.zero_le _, rfl, rfl, 0, by simp [flatCodes], by omega, Own.nil _ _, Below.refl _ _⟩
  case round =>
    obtain ⟨k, hk, rfl, rfl, hA⟩ := hrel
    obtain ⟨p0, n0, c0, rfl, hn0, hn2⟩ := hA.shape
    by_cases hlt : k < m
    · have hki : (k : Int) < (m : Int) := by omega
      have hkp : k < ps.length := by have := HM.out; omega
      obtain ⟨gr, cap, er, hcap, hFg, hgs, hpl, hcells⟩ := HR.out.cells (size := 3) (fun _ => rfl) (by omega)
      have hq := List.getElem_mem hkp
      obtain ⟨x, hqe⟩ : ∃ x, ps[k] = x := ⟨_, rfl⟩
      obtain ⟨⟨fr', en', l', tx', sub'⟩, x'⟩ := x
      rw [hqe] at hq
      obtain ⟨p', m', c', hs'⟩ := HS.out _ hq
      simp only at hs'
      subst hs'
      have hrk := hcells k hkp
      rw [hqe] at hrk
      obtain ⟨rfl, _⟩ : q = some ⟨gr, 0, none⟩ ∧ True := by
        simp only [Value.slice.injEq] at er
        exact ⟨er.1, trivial⟩
      obtain ⟨_, _, _, hOw, hBw⟩ := hA
      have hgr : gr < wr.heap.size ∧ wr.heap[gr]? = w.heap[gr]? := by
        have h1 := hBw.size
        exact ⟨by omega, hBw.block gr hgs⟩
      have r0 : wr.cell? ⟨gr, k * 3, none⟩ = some (.bool l') := (World.cell?_of_block hgr.2).trans (hrk 0 _ rfl)
      have r1 : wr.cell? ⟨gr, k * 3 + 1, none⟩ = some (.string tx') := (World.cell?_of_block hgr.2).trans (hrk 1 _ rfl)
      have r2 : wr.cell? ⟨gr, k * 3 + 2, none⟩ = some (.slice p' m' c') := (World.cell?_of_block hgr.2).trans (hrk 2 _ rfl)
      have HC : Hid (∀ o, Calls Tryz.prog 91 #[.slice p0 n0 c0, .agg #[.bool l', .string tx', .slice p' m' c']] (wr.alloc o) (AppSaid w.heap.size (.slice p0 n0 c0) (flatCodes (ps.take k)) x' sent (wr.alloc o))) := fun o => HN.out _ hq (wr.alloc o) p0 n0 c0 _ (hBw.alloc hBw.size o) hn0 (hOw.alloc o) hn2
      have A1 : Aside (flatCodes (ps.take (k + 1)) = flatCodes (ps.take k) ++ x') := (by rw [flatCodes_take ps k hkp, hqe] : flatCodes (ps.take (k + 1)) = flatCodes (ps.take k) ++ x')
      have A2 : Aside (Own wr w.heap.size (.slice p0 n0 c0) (flatCodes (ps.take k)) ∧ Below w.heap.size w wr) := ⟨hOw, hBw⟩
      clear hrk er hcells hgr hpl hFg hqe hq hOw hBw
      go_wp2_with fail
      refine (HC.out _).mono ?_
      rintro e w1 hd
      rcases hd with ⟨h1, p2, c2, rfl, hg⟩ | ⟨h1, hg, rfl⟩
      · rw [hn0] at h1 hg ⊢
        obtain ⟨n2, hn2'⟩ : ∃ n2, n0 + x'.length = n2 := ⟨_, rfl⟩
        rw [hn2'] at h1 hg ⊢
        have A3 : Aside (AHalf ps (k + 1) w w1 (.slice p2 n2 c2)) := by
          refine ⟨n2, ?_, h1, ?_, ?_⟩
          · rw [A1.out, List.length_append, hn0, hn2']
          · rw [A1.out]; exact hg.own
          · exact hg.below (A2.out.1.alloc _) (A2.out.2.alloc A2.out.2.size _) (by have := A2.out.2.size; simp; omega)
        clear hg h1 hn2' A1 A2
        go_wp2
        go_roundg (m - (k + 1))
        case measure => omega
        case rel => exact ⟨k + 1, by omega, rfl, by rw [wrap64_succ k (by have := HM.out; omega)], A3.out⟩
      · have A3 : Aside (2048 < (flatCodes ps).length ∧ Below w.heap.size w w1) := by
          refine ⟨?_, ?_⟩
          · have a1 := flatCodes_le ps (k + 1)
            rw [A1.out, List.length_append] at a1
            omega
          · exact (A2.out.1.alloc _).grown hg (A2.out.2.alloc A2.out.2.size _) (by have := A2.out.2.size; simp; omega)
        clear hg h1 A1 A2
        go_wp2
        go_ret2
        exact ⟨A3.out.2, .inr ⟨A3.out.1, rfl⟩⟩
    · have hki : (m : Int) ≤ (k : Int) := by omega
      have A0 : Aside (AHalf ps k w wr (.slice p0 n0 c0) ∧ ps.take k = ps) := ⟨hA, List.take_of_length_le (by have := HM.out; omega)⟩
      clear hA hlt
      go_wp2
      go_ret2
      obtain ⟨⟨n, e1, e2, e3, e4⟩, e5⟩ := A0.out
      rw [e5] at e1 e3 hn0
      refine ⟨e4, .inl ⟨by omega, p0, c0, ?_, ?_⟩⟩
      · rw [hn0]; rfl
      · rw [hn0]; exact e3

/-- appendItem, whole. -/
theorem ai_any (sent : Nat → Addr) : ∀ (n : Nat) (e : El) (c : List Nat) (w0 w : World) (F : Nat → Prop) (p : Option Addr) (m k : Nat) (l : List Nat), Tree encI kC n w0 F e c → c.length ≤ 1048576 → Faults w0 sent → Below w0.heap.size w0 w → l.length = m → Own w w0.heap.size (.slice p m k) l → m ≤ 2048 →
    Calls Tryz.prog 91 #[.slice p m k, valI e] w (AppSaid w0.heap.size (.slice p m k) l c sent w) := by
  have htext : ∀ (e : El) (c : List Nat) (w0 w : World) (p : Option Addr) (m k : Nat) (l : List Nat), IsText e ∧ kC.tx e c → Faults w0 sent → Below w0.heap.size w0 w → l.length = m → Own w w0.heap.size (.slice p m k) l → m ≤ 2048 →
      Calls Tryz.prog 91 #[.slice p m k, valI e] w (AppSaid w0.heap.size (.slice p m k) l c sent w) := by
    rintro ⟨fr, en, lst, tx, sub⟩ c w0 w p m k l ⟨⟨h1, h2⟩, h3⟩ hF hb hl hO hm
    simp only at h1 h2
    subst h1 h2
    have h3 : c = textCode (bytesOf tx) := h3
    subst h3
    exact ai_text p k tx sent w0 w hb hl hO hm hF
  intro n
  induction n with
  | zero => intro e c w0 w F p m k l h _ hF hb hl hO hm; exact htext e c w0 w p m k l h hF hb hl hO hm
  | succ n ih =>
    intro e c w0 w F p m k l h hc hF hb hl hO hm
    rcases h with h | ⟨h1, ps, h2, h3, h4, h5⟩
    · exact htext e c w0 w p m k l h hF hb hl hO hm
    · obtain ⟨fr, en, lst, tx, sub⟩ := e
      simp only at h1
      subst h1
      have h5 : c = listCode (flatCodes ps) := by rw [h5]; unfold flatCodes; rw [List.flatMap_def]
      subst h5
      have hle := listCode_le (flatCodes ps)
      obtain ⟨q, m', c', hs, hm'⟩ : ∃ q m c, sub = .slice q m c ∧ m = ps.length := by
        rcases h2 with ⟨h, h', _⟩ | ⟨g, cap, h, _⟩
        · exact ⟨_, _, _, h, h'.symm⟩
        · exact ⟨_, _, _, h, rfl⟩
      simp only at h2
      subst hs
      have hlen : ∀ x ∈ ps, x.2.length ≤ (flatCodes ps).length := by
        exact fun x hx => flatCodes_mem hx
      have hcnt : ps.length ≤ (flatCodes ps).length := flatCodes_count ps (fun x hx => (h3 x hx).code_pos)
      refine ai_list p k tx q m' c' sent w0 w hb hl hO hm hF (fun W hW => ?_)
      have hW0 : Below w0.heap.size w0 W := hb.trans (hW.mono hb.size)
      refine apps_any ps q m' c' F sent W hm' (by omega) (h2.keep (fun _ h => h) hW0.size (fun k _ hk => hW0.block k hk)) (fun x hx => (h3 x hx).sub) (fun x hx W' p n k l hW' hl' hO' hn => ?_)
      exact ih x.1 x.2 W W' F p n k l ((h3 x hx).below hW0) (by have := hlen x hx; omega) (hF.below hW0) hW' hl' hO' hn
end Go.Proofs.YtjiikjpnlgogfaaGreatDoor
