/-
  Package twigskeep: same: of two items that are alike.
  Package twigskeep: path: a key's nibbles.
  An account's code is accepted, and gives the account. Plain facts.
  Coded: plain facts: what item made is bare, its code's bytes, how long it is.
  An account equals itself.
  Coded: the account that it makes: its cells.
-/
import Derived.Test.YtjiikjpnlgogfaaDoorFedG
import Derived.Test.YtjiikjpnlgogfaaDoorAccH
import Derived.Test.YtjiikjpnlgogfaaDoorNib
import Derived.Test.YtjiikjpnlgogfaaDoorAccT
import Derived.Test.YtjiikjpnlgogfaaDoorTDecode
import Derived.Test.YtjiikjpnlgogfaaDoorUnpack
import Derived.Test.YtjiikjpnlgogfaaDoorHashEq
import Derived.Test.YtjiikjpnlgogfaaDoorAccG
import Derived.Deep.RegionLaw
import Derived.Laws.StructEq
namespace Go.Proofs.YtjiikjpnlgogfaaDoor
open Go.RowKit

def SameSaid (w : World) (e : Ending) (w' : World) : Prop := e = .returned (.bool true) ∧ Below w.heap.size w w'

set_option maxRecDepth 100000 in
theorem same_text (tx : ByteArray) (w : World) : Calls Tryd.prog 16 #[.agg #[.bool false, .string tx, .slice none 0 0], .agg #[.bool false, .string tx, .slice none 0 0]] w (SameSaid w) := by
  go_enter Tryd.func16, Tryd.ntmps16
  go_wp2
  go_loopg [5] 1 (fun gh i wr => i = .int .i64 0 ∧ Below w.heap.size w wr ∧ Held wr w.heap.size [.bool false, .string tx, .slice none 0 0])
  case atStart => exact ⟨rfl, ((Below.refl _ _).alloc (Nat.le_refl _) _).alloc (by simp) _, (Held.fresh w [.bool false, .string tx, .slice none 0 0] _).alloc _⟩
  case round =>
    obtain ⟨rfl, hb, hH⟩ := hrel
    have x0 := (hH.2 2 _ rfl).1
    have A : Aside (Below w.heap.size w wr) := hb
    clear hb hH
    go_wp2
    go_ret
    exact ⟨rfl, A.out⟩

set_option maxRecDepth 100000 in
set_option maxHeartbeats 6400000 in
theorem same_list (tx : ByteArray) (ps qs : List (El × It)) (q1 q2 : Option Addr) (m c1 c2 : Nat) (F G : Nat → Prop) (w0 w : World) (hm : m = ps.length) (hm' : m = qs.length) (hm2 : m ≤ 1048576) (hrow : RowAt w0 F (.slice q1 m c1) ps.length (ps.flatMap fun x => encI x.1)) (hrow2 : RowAt w0 G (.slice q2 m c2) qs.length (qs.flatMap fun x => encI x.1))
    (hsub : ∀ x ∈ ps, ∃ p m c, x.1.sub = .slice p m c) (hsub2 : ∀ x ∈ qs, ∃ p m c, x.1.sub = .slice p m c)
    (hb : Below w0.heap.size w0 w) (hN : ∀ k (h1 : k < ps.length) (h2 : k < qs.length), ∀ W, Below w0.heap.size w0 W → Calls Tryd.prog 16 #[valI ps[k].1, valI qs[k].1] W (SameSaid W)) :
    Calls Tryd.prog 16 #[.agg #[.bool true, .string tx, .slice q1 m c1], .agg #[.bool true, .string tx, .slice q2 m c2]] w (SameSaid w) := by
  have HN := Hid.hide hN
  have HR := Hid.hide hrow
  have HR2 := Hid.hide hrow2
  have HS := Hid.hide hsub
  have HS2 := Hid.hide hsub2
  have HM : Hid (m = ps.length ∧ m = qs.length ∧ m ≤ 1048576 ∧ Below w0.heap.size w0 w) := ⟨hm, hm', hm2, hb⟩
  clear hN hrow hrow2 hsub hsub2 hm hm' hm2 hb
  go_enter Tryd.func16, Tryd.ntmps16
  go_wp2
  go_loopg [5] m (fun gh i wr => ∃ k, k ≤ m ∧ gh = m - k ∧ i = .int .i64 (k : Int) ∧ Held wr w.heap.size [.bool true, .string tx, .slice q1 m c1] ∧ Held wr (w.heap.size + 1) [.bool true, .string tx, .slice q2 m c2] ∧ Below w.heap.size w wr)
  case atStart =>
    refine ⟨0, Nat.zero_le _, rfl, rfl, (Held.fresh w [.bool true, .string tx, .slice q1 m c1] _).alloc _, ?_, ((Below.refl _ _).alloc (Nat.le_refl _) _).alloc (by simp) _⟩
    have := Held.fresh (w.alloc (.cells #[.bool true, .string tx, .slice q1 m c1] 38)) [.bool true, .string tx, .slice q2 m c2] 38
    simpa using this
  case round =>
    obtain ⟨k, hk, rfl, rfl, hH, hG, hB⟩ := hrel
    have x0 := (hH.2 2 _ rfl).1
    have y0 := (hG.2 2 _ rfl).1
    by_cases hlt : k < m
    · have hki : (k : Int) < (m : Int) := by omega
      have hkp : k < ps.length := by have := HM.out; omega
      have hkq : k < qs.length := by have := HM.out; omega
      obtain ⟨gr, cap, er, hcap, hFg, hgs, hpl, hcells⟩ := HR.out.cells (size := 3) (fun _ => rfl) (by omega)
      obtain ⟨gs, cap', es, hcap', hGg, hgs', hpl', hcells'⟩ := HR2.out.cells (size := 3) (fun _ => rfl) (by omega)
      have hBr : Below w0.heap.size w0 wr := HM.out.2.2.2.trans (hB.mono HM.out.2.2.2.size)
      have hC := HN.out k hkp hkq
      have hq := List.getElem_mem hkp
      have hq' := List.getElem_mem hkq
      have hrk := hcells k hkp
      have hrk' := hcells' k hkq
      obtain ⟨x, hqe⟩ : ∃ x, ps[k] = x := ⟨_, rfl⟩
      obtain ⟨y, hqe'⟩ : ∃ y, qs[k] = y := ⟨_, rfl⟩
      rw [hqe] at hq hrk hC
      rw [hqe'] at hq' hrk' hC
      obtain ⟨⟨fr', en', l', tx', sub'⟩, x'⟩ := x
      obtain ⟨⟨fr'', en'', l'', tx'', sub''⟩, x''⟩ := y
      obtain ⟨p', m', c', hs'⟩ := HS.out _ hq
      obtain ⟨p'', m'', c'', hs''⟩ := HS2.out _ hq'
      simp only at hs' hs''
      subst hs' hs''
      obtain ⟨rfl, _⟩ : q1 = some ⟨gr, 0, none⟩ ∧ True := by
        simp only [Value.slice.injEq] at er
        exact ⟨er.1, trivial⟩
      obtain ⟨rfl, _⟩ : q2 = some ⟨gs, 0, none⟩ ∧ True := by
        simp only [Value.slice.injEq] at es
        exact ⟨es.1, trivial⟩
      have hgr : wr.heap[gr]? = w0.heap[gr]? := hBr.block gr hgs
      have hgr' : wr.heap[gs]? = w0.heap[gs]? := hBr.block gs hgs'
      have r0 : wr.cell? ⟨gr, k * 3, none⟩ = some (.bool l') := (World.cell?_of_block hgr).trans (hrk 0 _ rfl)
      have r1 : wr.cell? ⟨gr, k * 3 + 1, none⟩ = some (.string tx') := (World.cell?_of_block hgr).trans (hrk 1 _ rfl)
      have r2 : wr.cell? ⟨gr, k * 3 + 2, none⟩ = some (.slice p' m' c') := (World.cell?_of_block hgr).trans (hrk 2 _ rfl)
      have u0 : wr.cell? ⟨gs, k * 3, none⟩ = some (.bool l'') := (World.cell?_of_block hgr').trans (hrk' 0 _ rfl)
      have u1 : wr.cell? ⟨gs, k * 3 + 1, none⟩ = some (.string tx'') := (World.cell?_of_block hgr').trans (hrk' 1 _ rfl)
      have u2 : wr.cell? ⟨gs, k * 3 + 2, none⟩ = some (.slice p'' m'' c'') := (World.cell?_of_block hgr').trans (hrk' 2 _ rfl)
      have HC : Hid (∀ W, Below wr.heap.size wr W → Calls Tryd.prog 16 #[.agg #[.bool l', .string tx', .slice p' m' c'], .agg #[.bool l'', .string tx'', .slice p'' m'' c'']] W (SameSaid W)) := fun W hW => hC W (hBr.trans (hW.mono hBr.size))
      have A2 : Aside (Held wr w.heap.size [.bool true, .string tx, .slice (some ⟨gr, 0, none⟩) m c1] ∧ Held wr (w.heap.size + 1) [.bool true, .string tx, .slice (some ⟨gs, 0, none⟩) m c2] ∧ Below w.heap.size w wr) := ⟨hH, hG, hB⟩
      clear hrk hrk' er es hcells hcells' hgr hgr' hpl hpl' hFg hGg hqe hqe' hq hq' hBr hH hG hB hC
      go_wp2_with fail
      go_region_law (go_simp; go_at_call 16; refine (HC.out _ ?_).mono ?_; exact (Below.refl _ _).drew; rintro e w1 ⟨rfl, hb1⟩; have A3 : Aside (Held w1 w.heap.size [.bool true, .string tx, .slice (some ⟨gr, 0, none⟩) m c1] ∧ Held w1 (w.heap.size + 1) [.bool true, .string tx, .slice (some ⟨gs, 0, none⟩) m c2] ∧ Below w.heap.size w w1) := ⟨A2.out.1.drew.below hb1, A2.out.2.1.drew.below hb1, Below.behind A2.out.2.2.drew hb1⟩; clear hb1; go_simp)
      all_goals
        go_wp2
        go_roundg (m - (k + 1))
        case measure => omega
        case rel => exact ⟨k + 1, by omega, rfl, by rw [wrap64_succ k (by have := HM.out; omega)], A3.out⟩
    · have hki : (m : Int) ≤ (k : Int) := by omega
      have A2 : Aside (Below w.heap.size w wr) := hB
      clear hH hG hB hlt
      go_wp2
      go_ret
      exact ⟨rfl, A2.out⟩

/-- same, of two items that are alike. -/
theorem same_any : ∀ (d : Nat) (x : It) (e1 e2 : El) (F G : Nat → Prop) (w0 w : World), Tree encI kB d w0 F e1 x → Tree encI kB d w0 G e2 x → x.sz ≤ 1048576 → Below w0.heap.size w0 w →
    Calls Tryd.prog 16 #[valI e1, valI e2] w (SameSaid w) := by
  have htext : ∀ (x : It) (e1 e2 : El) (w : World), IsText e1 ∧ kB.tx e1 x → IsText e2 ∧ kB.tx e2 x → Calls Tryd.prog 16 #[valI e1, valI e2] w (SameSaid w) := by
    rintro x ⟨fr, en, l, tx, sub⟩ ⟨fr', en', l', tx', sub'⟩ w ⟨⟨h1, h2⟩, h3⟩ ⟨⟨g1, g2⟩, g3⟩
    simp only at h1 h2 g1 g2
    subst h1 h2 g1 g2
    have h3 : x = .text 0 0 (bytesOf tx) := h3
    have g3 : x = .text 0 0 (bytesOf tx') := g3
    subst h3
    injection g3 with _ _ g3
    have e : tx = tx' := bytesOf_inj g3
    subst e
    exact same_text tx w
  intro d
  induction d with
  | zero => intro x e1 e2 F G w0 w h g _ _; exact htext x e1 e2 w h g
  | succ d ih =>
    intro x e1 e2 F G w0 w h g hx hb
    rcases h with h | ⟨h1, ps, h2, h3, h4, h5⟩
    · rcases g with g | ⟨_, qs, _, _, _, g5⟩
      · exact htext x e1 e2 w h g
      · have a : x = .text 0 0 (bytesOf e1.text) := h.2
        have b : x = .list 0 0 (qs.map (·.2)) := g5
        rw [a] at b
        cases b
    · rcases g with g | ⟨g1, qs, g2, g3, g4, g5⟩
      · have a : x = .text 0 0 (bytesOf e2.text) := g.2
        have b : x = .list 0 0 (ps.map (·.2)) := h5
        rw [a] at b
        cases b
      · have h5 : x = .list 0 0 (ps.map (·.2)) := h5
        have g5 : x = .list 0 0 (qs.map (·.2)) := g5
        subst h5
        injection g5 with _ _ g5
        rw [It.sz] at hx
        have hge := szH_ge (szs (ps.map (·.2)))
        have hln := szs_length (ps.map (·.2))
        rw [List.length_map] at hln
        have hl : ps.length = qs.length := by have := congrArg List.length g5; simpa using this
        obtain ⟨fr, en, l, tx, sub⟩ := e1
        obtain ⟨fr', en', l', tx', sub'⟩ := e2
        simp only at h1 h2 g1 g2 h4 g4
        subst h1 g1 h4 g4
        obtain ⟨p, m, c, hs, hm⟩ : ∃ p m c, sub = .slice p m c ∧ m = ps.length := by
          rcases h2 with ⟨h, h', _⟩ | ⟨g, cap, h, _⟩
          · exact ⟨_, _, _, h, h'.symm⟩
          · exact ⟨_, _, _, h, rfl⟩
        obtain ⟨p', m', c', hs', hm'⟩ : ∃ p m c, sub' = .slice p m c ∧ m = qs.length := by
          rcases g2 with ⟨h, h', _⟩ | ⟨g, cap, h, _⟩
          · exact ⟨_, _, _, h, h'.symm⟩
          · exact ⟨_, _, _, h, rfl⟩
        subst hs hs'
        obtain rfl : m = m' := by omega
        refine same_list (textB []) ps qs p p' m c c' F G w0 w hm hm' (by omega) h2 g2 (fun q hq => (h3 q hq).sub) (fun q hq => (g3 q hq).sub) hb (fun k k1 k2 W hW => ?_)
        have e : qs[k].2 = ps[k].2 := by
          have := congrArg (fun l => l[k]?) g5
          simp only [List.getElem?_map, List.getElem?_eq_getElem k1, List.getElem?_eq_getElem k2, Option.map_some, Option.some.injEq] at this
          exact this.symm
        have t2 := g3 _ (List.getElem_mem k2)
        rw [e] at t2
        exact ih ps[k].2 ps[k].1 qs[k].1 F G w0 W (h3 _ (List.getElem_mem k1)) t2 (by have := szs_mem (List.mem_map_of_mem (f := (·.2)) (List.getElem_mem k1)); omega) hW
end Go.Proofs.YtjiikjpnlgogfaaDoor

namespace Go.Proofs.YtjiikjpnlgogfaaDoor
open Go.RowKit

theorem two_text (w : World) (y z : Nat) : (convert 73 9 (.slice (some ⟨w.heap.size, 0, none⟩) 2 2)).run Tryd.prog (w.alloc (.cells #[.int .u8 (y : Int), .int .u8 (z : Int)] 5)).drew = .ok (.string (textB [y, z])) (w.alloc (.cells #[.int .u8 (y : Int), .int .u8 (z : Int)] 5)).drew :=
  run_own_text _ 73 9 5 Tryd.underlying73 Tryd.underlying5 Tryd.underlying9 (Own.ofCells w 5 [y, z] (by unfold maxLen; simp)).drew

theorem boxed (w : World) (key : List Nat) (t : TypeId) (i : Nat) (hi : i < key.length) : (w.alloc (.cells (key.map encB).toArray t)).cell? ⟨w.heap.size, i, none⟩ = some (.int .u8 ((key[i] : Nat) : Int)) := by
  rw [World.cell?_alloc_new]
  simp [hi]

set_option maxRecDepth 100000 in
set_option maxHeartbeats 3200000 in
theorem path_any (key : List Nat) (hl : key.length = 32) (hb : ∀ x ∈ key, x < 256) (w : World) :
    Calls Tryd.prog 17 #[.agg (key.map encB).toArray] w fun e w' => e = .returned (.string (textB (nibs key))) ∧ Below w.heap.size w w' := by
  have HB : Hid (∀ t i (hi : i < key.length), (w.alloc (.cells (key.map encB).toArray t)).cell? ⟨w.heap.size, i, none⟩ = some (.int .u8 ((key[i] : Nat) : Int))) := fun t i hi => boxed w key t i hi
  have HT := Hid.hide two_text
  have HL : Hid (key.length = 32 ∧ ∀ x ∈ key, x < 256) := ⟨hl, hb⟩
  generalize hA : (key.map encB).toArray = A at HB ⊢
  clear hl hb hA
  go_enter Tryd.func17, Tryd.ntmps17
  go_wp2
  go_loopg [3, 4] 32 (fun gh u i wr => ∃ x : Nat, x ≤ 32 ∧ gh = 32 - x ∧ i = .int .i64 (x : Int) ∧ u = .string (textB (nibs (key.take x))) ∧ Below w.heap.size w wr ∧ w.heap.size < wr.heap.size ∧ ∀ i (hi : i < key.length), wr.cell? ⟨w.heap.size, i, none⟩ = some (.int .u8 ((key[i] : Nat) : Int)))
  case atStart => exact ⟨0, by omega, rfl, rfl, rfl, (Below.refl _ _).alloc (Nat.le_refl _) _, by simp, HB.out _⟩
  case round =>
    obtain ⟨x, hx, rfl, rfl, rfl, hbw, hs, hc⟩ := hrel
    by_cases hlt : x < 32
    · have hxk : x < key.length := by have := HL.out.1; omega
      have hxi : (x : Int) < 32 := by omega
      have c0 := hc x hxk
      obtain ⟨b, hbb⟩ : ∃ b, key[x] = b := ⟨_, rfl⟩
      have hb8 : b < 256 := by rw [← hbb]; exact HL.out.2 _ (List.getElem_mem hxk)
      rw [hbb] at c0
      have htk : nibs (key.take (x + 1)) = nibs (key.take x) ++ [b / 16, b % 16] := by
        rw [List.take_succ_eq_append_getElem hxk, hbb, nibs_snoc]
      have hlen : (nibs (key.take x)).length ≤ 64 := by rw [nibs_length, List.length_take]; omega
      have hadd := fun W => add_text (nibs (key.take x)) [b / 16, b % 16] (by simp only [List.length_cons, List.length_nil]; omega) W
      rw [← htk] at hadd
      have hcv := fun W => HT.out W (b / 16) (b % 16)
      have e1 : ((b / 16 : Nat) : Int) = (b : Int) / 16 := by omega
      have e2 : ((b % 16 : Nat) : Int) = (b : Int) % 16 := by omega
      rw [e1, e2] at hcv
      have A0 : Aside (Below w.heap.size w wr ∧ w.heap.size < wr.heap.size ∧ ∀ i (hi : i < key.length), wr.cell? ⟨w.heap.size, i, none⟩ = some (.int .u8 ((key[i] : Nat) : Int))) := ⟨hbw, hs, hc⟩
      have hne : ¬ w.heap.size = wr.heap.size := by omega
      clear hbw hc htk hlen e1 e2 hbb
      go_wp2_with fail
      go_region
      all_goals
        go_wp2
        go_roundg (32 - (x + 1))
        case measure => omega
        case rel =>
          refine ⟨x + 1, by omega, rfl, rfl, rfl, (A0.out.1.alloc A0.out.1.size _).drew, by simp; omega, fun i hi => ?_⟩
          exact (World.cell?_of_block (Below.heap_alloc _ _ _ A0.out.2.1)).trans (A0.out.2.2 i hi)
    · have hxe : x = 32 := by omega
      have hxi : ¬ (x : Int) < 32 := by omega
      have htk : key.take x = key := List.take_of_length_le (by have := HL.out.1; omega)
      rw [htk]
      have A0 : Aside (Below w.heap.size w wr) := hbw
      clear hbw hc hs
      go_wp2
      go_ret
      exact ⟨rfl, A0.out⟩
end Go.Proofs.YtjiikjpnlgogfaaDoor

namespace Go.Proofs.YtjiikjpnlgogfaaDoor
open Go.RowKit

theorem bare_textL {y : It} {t : List Nat} (h : y.bare = .text 0 0 t) : y.isList = false ∧ y.txt = t := by
  cases y with
  | text a b u =>
    rw [It.bare] at h
    injection h with _ _ h
    exact ⟨rfl, h⟩
  | list a b l => rw [It.bare] at h; cases h

theorem numIt_of {y : It} {n : Nat} (hn : n < 18446744073709551616) (h : y.bare = .text 0 0 (bigE n)) : numIt y ∧ numB y.txt = n := by
  obtain ⟨h1, h2⟩ := bare_textL h
  refine ⟨⟨h1, ?_⟩, by rw [h2]; exact numB_bigE hn⟩
  rw [h2]
  refine ⟨bigE_le n, ?_⟩
  rintro ⟨a, b⟩
  have hf := bigE_first hn
  cases hb : bigE n with
  | nil => rw [hb] at a; simp at a
  | cons x r =>
    rw [hb] at b hf
    have hx : x = 0 := by simpa using b
    subst hx
    exact hf (by simp) rfl

theorem accF_full {a : Acc} (ha : a.ok) : accF (encAcc a) = .ok a := by
  obtain ⟨h1, h2, h3, h4, h5, h6⟩ := ha
  have hx : fits 6 (.list 0 0 [.text 0 0 (bigE a.nonce), .text 0 0 (bigE a.bal), .text 0 0 a.root, .text 0 0 a.code]) := by
    intro y hy
    simp only [List.mem_cons, List.not_mem_nil, or_false] at hy
    rcases hy with rfl | rfl | rfl | rfl <;> trivial
  have hc : (It.list 0 0 [.text 0 0 (bigE a.nonce), .text 0 0 (bigE a.bal), .text 0 0 a.root, .text 0 0 a.code]).code = encAcc a := by
    rw [It.code]
    simp only [codes, It.code]
    unfold encAcc accTexts
    simp only [List.append_assoc, List.append_nil]
  have hl : (encAcc a).length ≤ 2048 := by
    unfold encAcc listCode accTexts
    have t1 := textCode_length (bigE a.nonce)
    have t2 := textCode_length (bigE a.bal)
    have t3 := textCode_length a.root
    have t4 := textCode_length a.code
    have b1 := bigE_le a.nonce
    have b2 := bigE_le a.bal
    have hh := headB_length 192 (textCode (bigE a.nonce) ++ textCode (bigE a.bal) ++ textCode a.root ++ textCode a.code).length
    simp only [List.length_append] at hh ⊢
    omega
  obtain ⟨y, hd, hb⟩ := decF_full hx (by rw [hc]; exact hl)
  rw [hc] at hd
  clear hx hc hl
  obtain ⟨t0, ht0⟩ : ∃ t, bigE a.nonce = t := ⟨_, rfl⟩
  obtain ⟨t1, ht1⟩ : ∃ t, bigE a.bal = t := ⟨_, rfl⟩
  rw [ht0, ht1] at hb
  unfold accF
  rw [hd]
  simp only
  clear hd
  cases y with
  | text p q t => rw [It.bare, It.bare] at hb; cases hb
  | list p q its =>
    rw [It.bare, It.bare] at hb
    injection hb with _ _ hb
    rw [bares_map, bares_map] at hb
    simp only [List.map_cons, List.map_nil, It.bare] at hb
    have hlen := congrArg List.length hb
    simp only [List.length_map, List.length_cons, List.length_nil] at hlen
    obtain ⟨y0, y1, y2, y3, rfl⟩ : ∃ y0 y1 y2 y3, its = [y0, y1, y2, y3] := by
      rcases its with _ | ⟨y0, _ | ⟨y1, _ | ⟨y2, _ | ⟨y3, _ | ⟨y4, r⟩⟩⟩⟩⟩
      · simp at hlen
      · simp at hlen
      · simp at hlen
      · simp at hlen
      · exact ⟨y0, y1, y2, y3, rfl⟩
      · simp at hlen
    simp only [List.map_cons, List.map_nil, List.cons.injEq, and_true] at hb
    obtain ⟨e0, e1, e2, e3⟩ := hb
    obtain ⟨n0, v0⟩ := numIt_of h1 (e0.trans (by rw [ht0]))
    obtain ⟨n1, v1⟩ := numIt_of h2 (e1.trans (by rw [ht1]))
    obtain ⟨l2, v2⟩ := bare_textL e2
    obtain ⟨l3, v3⟩ := bare_textL e3
    have k2 : hashIt y2 := ⟨l2, by rw [v2]; exact h3⟩
    have k3 : hashIt y3 := ⟨l3, by rw [v3]; exact h4⟩
    show readAcc y0 y1 y2 y3 = _
    unfold readAcc
    rw [if_neg (fun h => h n0), if_neg (fun h => h n1), if_neg (fun h => h k2), if_neg (fun h => h k3), v0, v1, v2, v3]
end Go.Proofs.YtjiikjpnlgogfaaDoor

namespace Go.Proofs.YtjiikjpnlgogfaaDoor
open Go.RowKit

theorem Tree.isBare {enc : El → List Value} : ∀ {n : Nat} {w : World} {F : Nat → Prop} {e : El} {x : It}, Tree enc kB n w F e x → x.bare = x ∧ ∀ b ∈ x.code, b < 256 := by
  have hh : ∀ k n, ∀ b ∈ headB k n, b < 256 := by
    intro k n b hb
    unfold headB at hb
    split at hb
    · rw [List.mem_singleton.1 hb]; omega
    · rcases List.mem_cons.1 hb with rfl | hb
      · omega
      · exact bigE_byte n b hb
  have ht : ∀ {e : El} {x : It}, IsText e ∧ kB.tx e x → x.bare = x ∧ ∀ b ∈ x.code, b < 256 := by
    rintro e x ⟨_, h⟩
    have h : x = .text 0 0 (bytesOf e.text) := h
    subst h
    refine ⟨rfl, fun b hb => ?_⟩
    rw [It.code] at hb
    unfold textCode at hb
    rcases List.mem_append.1 hb with hb | hb
    · split at hb
      · cases hb
      · exact hh _ _ b hb
    · exact byte_lt _ b hb
  intro n
  induction n with
  | zero => intro w F e x h; exact ht h
  | succ n ih =>
    intro w F e x h
    rcases h with h | ⟨_, ps, _, h3, _, h5⟩
    · exact ht h
    · have h5 : x = .list 0 0 (ps.map (·.2)) := h5
      subst h5
      constructor
      · rw [It.bare, bares_map, List.map_map]
        congr 1
        refine List.map_congr_left fun q hq => ?_
        exact (ih (h3 q hq)).1
      · intro b hb
        rw [It.code] at hb
        unfold listCode at hb
        rcases List.mem_append.1 hb with hb | hb
        · exact hh _ _ b hb
        · rw [codes_flat] at hb
          obtain ⟨y, hy, hb⟩ := List.mem_flatMap.1 hb
          obtain ⟨q, hq, rfl⟩ := List.mem_map.1 hy
          exact (ih (h3 q hq)).2 b hb

mutual
theorem code_sz : ∀ x : It, x.code.length ≤ 3 * x.sz
  | .text _ _ t => by
    rw [It.sz, It.code]
    unfold textCode
    obtain ⟨a1, a2, a3⟩ := headB_small 128 t.length
    have a4 := headB_length 128 t.length
    by_cases h : t.length = 1 ∧ t[0]! < 128
    · rw [if_pos h, if_pos h]
      simp only [List.nil_append]
      omega
    · rw [if_neg h, if_neg h, List.length_append]
      unfold szH
      by_cases b1 : t.length ≤ 55
      · rw [if_pos b1]; omega
      · rw [if_neg b1]
        by_cases b2 : t.length ≤ 255
        · rw [if_pos b2]; omega
        · rw [if_neg b2]; omega
  | .list _ _ l => by
    rw [It.sz, It.code]
    unfold listCode
    rw [List.length_append]
    have h1 := codes_sz l
    obtain ⟨a1, a2, a3⟩ := headB_small 192 (codes l).length
    have a4 := headB_length 192 (codes l).length
    unfold szH
    by_cases b1 : szs l ≤ 55
    · rw [if_pos b1]
      by_cases c1 : (codes l).length ≤ 55
      · omega
      · have := a2 (by omega) (by omega); omega
    · rw [if_neg b1]
      by_cases b2 : szs l ≤ 255
      · rw [if_pos b2]
        by_cases c1 : (codes l).length ≤ 55
        · omega
        · by_cases c2 : (codes l).length ≤ 255
          · omega
          · have := a3 (by omega) (by omega); omega
      · rw [if_neg b2]; omega
theorem codes_sz : ∀ l : List It, (codes l).length ≤ 3 * szs l
  | [] => by simp [codes, szs]
  | x :: l => by
    rw [codes, szs, List.length_append]
    have := code_sz x
    have := codes_sz l
    omega
end
end Go.Proofs.YtjiikjpnlgogfaaDoor

namespace Go.Proofs.YtjiikjpnlgogfaaDoor
open Go.RowKit

theorem accStruct : Tryd.prog.underlying 57 = some (.struct (Tryd.prog.fieldsOf 57)) := by kernel_rfl
theorem accStood : Tryd.prog.stoodInHeld 57 = false := by kernel_rfl
theorem accFields : ((Tryd.prog.fieldsOf 57).toList.map fun f => (f.name == "_", f.type, f.offset)) = [(false, 32, 0), (false, 32, 1), (false, 28, 2), (false, 28, 34)] := by kernel_rfl
theorem partNum (xs : Array Value) (o : Nat) (v : Value) (w : World) (h : xs[o]? = some v) : (part 32 xs o).run Tryd.prog w = .ok v w := by
  have e : (part 32 xs o).run Tryd.prog w = (match xs[o]? with | some v => (pure v : Sem Value) | none => stuck "part: no such cell").run Tryd.prog w := by kernel_rfl
  rw [e, h]
  rfl
theorem partHash (xs : Array Value) (o : Nat) (w : World) : (part 28 xs o).run Tryd.prog w = .ok (.agg (xs.extract o (o + 32))) w := by kernel_rfl

theorem hash_same (d : Nat) (l : List Nat) (hl : l.length = 32) (hb : ∀ x ∈ l, x < 256) (w : World) : (Op.equalIn (d + 2) 28 (.agg (l.map encB).toArray) (.agg (l.map encB).toArray)).run Tryd.prog w = .ok true w := by
  have e : l.map encB = (l.map UInt8.ofNat).map Extern.Stop.cell := by
    rw [List.map_map]
    apply List.map_congr_left
    intro x hx
    have hlt := hb x hx
    show Value.int .u8 _ = Value.int .u8 _
    congr 1
    simp
    omega
  have hs5 : ∀ w, (sizeOf 5).run Tryd.prog w = .ok 1 w := fun w => by
    have h := size5
    cases hq : Tryd.prog.info? 5 with
    | none => rw [hq] at h; cases h
    | some i =>
      rw [hq] at h
      have hi : i.size = 1 := by simpa using h
      simp [sizeOf, typeInfo, hq, hi]
  have h := run_equalIn_bytes (P := Tryd.prog) w d 28 5 32 Tryd.underlying28 Tryd.underlying5 hs5 (l.map UInt8.ofNat) (l.map UInt8.ofNat) (by simp [hl]) (by simp [hl])
  rw [← e] at h
  rw [h]
  simp

theorem eq_four {P : Program} {w : World} (D : Nat) (A : Array Value) (f0 f1 f2 f3 : Field) (v0 v1 v2 v3 : Value) (m0 : f0.name ≠ "_") (m1 : f1.name ≠ "_") (m2 : f2.name ≠ "_") (m3 : f3.name ≠ "_")
    (p0 : (part f0.type A f0.offset).run P w = .ok v0 w) (p1 : (part f1.type A f1.offset).run P w = .ok v1 w) (p2 : (part f2.type A f2.offset).run P w = .ok v2 w) (p3 : (part f3.type A f3.offset).run P w = .ok v3 w)
    (q0 : (Op.equalIn D f0.type v0 v0).run P w = .ok true w) (q1 : (Op.equalIn D f1.type v1 v1).run P w = .ok true w) (q2 : (Op.equalIn D f2.type v2 v2).run P w = .ok true w) (q3 : (Op.equalIn D f3.type v3 v3).run P w = .ok true w) :
    (Op.eqFields D A A [f0, f1, f2, f3]).run P w = .ok true w := by
  simp [Op.eqFields, m0, m1, m2, m3, p0, p1, p2, p3, q0, q1, q2, q3]

theorem acc_same' (d : Nat) (a : Acc) (ha : a.ok) (w : World) : Sem.run Tryd.prog (Op.equalIn (d + 3) 57 (.agg (accL a).toArray) (.agg (accL a).toArray)) w = .ok true w := by
  obtain ⟨h1, h2, h3, h4, h5, h6⟩ := ha
  rw [run_equalIn_struct w (d + 2) 57 _ _ accStruct accStood]
  have hf := accFields
  generalize (Tryd.prog.fieldsOf 57).toList = fs at hf
  have hlen := congrArg List.length hf
  rw [List.length_map] at hlen
  obtain ⟨f0, f1, f2, f3, rfl⟩ : ∃ f0 f1 f2 f3, fs = [f0, f1, f2, f3] := by
    rcases fs with _ | ⟨f0, _ | ⟨f1, _ | ⟨f2, _ | ⟨f3, _ | ⟨f4, r⟩⟩⟩⟩⟩
    · simp at hlen
    · simp at hlen
    · simp at hlen
    · simp at hlen
    · exact ⟨f0, f1, f2, f3, rfl⟩
    · simp at hlen
  simp only [List.map_cons, List.map_nil, List.cons.injEq, Prod.mk.injEq, and_true] at hf
  obtain ⟨⟨n0, t0, o0⟩, ⟨n1, t1, o1⟩, ⟨n2, t2, o2⟩, ⟨n3, t3, o3⟩⟩ := hf
  have x2 : (accL a).toArray.extract 2 (2 + 32) = (a.root.map encB).toArray := by
    apply Array.ext'
    simp [accL, List.extract_eq_take_drop, h3]
  have x3 : (accL a).toArray.extract 34 (34 + 32) = (a.code.map encB).toArray := by
    apply Array.ext'
    simp only [accL, Array.toList_extract, List.extract_eq_take_drop]
    rw [show encL a.nonce :: encL a.bal :: (a.root.map encB ++ a.code.map encB) = (encL a.nonce :: encL a.bal :: a.root.map encB) ++ a.code.map encB from rfl, List.drop_left' (by simp [h3]), List.take_of_length_le (by simp [h4])]
  have e0 : ∀ n : Nat, (Op.equalIn (d + 2) 32 (encL n) (encL n)).run Tryd.prog w = .ok true w := fun n => by
    rw [run_equalIn_int w (d + 1) 32 .u64 .u64 _ _ Tryd.underlying32]
    simp
  refine eq_four (d + 2) (accL a).toArray f0 f1 f2 f3 (encL a.nonce) (encL a.bal) (.agg (a.root.map encB).toArray) (.agg (a.code.map encB).toArray) (by simpa using n0) (by simpa using n1) (by simpa using n2) (by simpa using n3) ?_ ?_ ?_ ?_ ?_ ?_ ?_ ?_
  · rw [t0, o0]; exact partNum _ 0 _ w rfl
  · rw [t1, o1]; exact partNum _ 1 _ w rfl
  · rw [t2, o2, partHash, x2]
  · rw [t3, o3, partHash, x3]
  · rw [t0]; exact e0 _
  · rw [t1]; exact e0 _
  · rw [t2]; exact hash_same d _ h3 h5 w
  · rw [t3]; exact hash_same d _ h4 h6 w
theorem acc_same (a : Acc) (ha : a.ok) (w : World) : Sem.run Tryd.prog (Op.equalIn 10000 57 (.agg (accL a).toArray) (.agg (accL a).toArray)) w = .ok true w :=
  acc_same' 9997 a ha w
end Go.Proofs.YtjiikjpnlgogfaaDoor

namespace Go.Proofs.YtjiikjpnlgogfaaDoor
open Go.RowKit

theorem digF_size (s : ByteArray) : (digF s).size = 32 := sumF_size _
theorem digF_lt (s : ByteArray) : ∀ x ∈ (digF s).toList, x < 256 := by
  intro x hx
  obtain ⟨j, hj, rfl⟩ := List.getElem_of_mem hx
  have h : Bytes (digF s) := sqzAt_bytes _ _
  have := h j
  rw [getElem!_pos (digF s) j (by simpa using hj)] at this
  simpa using this

/-- The account's cells, put together. -/
structure AccMade (A D AA : Array Value) (nonce bal : Nat) (acc : Acc) : Prop where
  build : Array.foldl (fun (cs : Array Value) (x : Value × Nat) => cs.setIfInBounds (34 + x.2) x.1) (Array.foldl (fun (cs : Array Value) (x : Value × Nat) => cs.setIfInBounds (2 + x.2) x.1) ((Tryd.zeroCells57.setIfInBounds 0 (.int .u64 (nonce : Int))).setIfInBounds 1 (.int .u64 (bal : Int))) A.zipIdx 0 32) D.zipIdx 0 32 = AA
  size1 : (Array.foldl (fun (cs : Array Value) (x : Value × Nat) => cs.setIfInBounds (2 + x.2) x.1) ((Tryd.zeroCells57.setIfInBounds 0 (.int .u64 (nonce : Int))).setIfInBounds 1 (.int .u64 (bal : Int))) A.zipIdx 0 32).size = 66
  hAs : A.size = 32
  hDs : D.size = 32
  s66 : AA.size = 66
  one : AA.all (·.oneCell') = true
  cells : (accL acc).toArray = AA
  ok : acc.ok

theorem acc_facts (raw : ByteArray) (nonce bal : Nat) (root : List Nat) (A : Array Value) (hA : (root.map encB).toArray = A) (h1 : nonce < 18446744073709551616) (h2 : bal < 18446744073709551616) (h3 : root.length = 32) (h4 : ∀ x ∈ root, x < 256) :
    ∃ (D AA : Array Value) (acc : Acc), (∀ W, Tabs W → 16 ≤ W.heap.size → Calls Tryd.prog 10 #[.string raw] W fun e w' => e = .returned (.agg D) ∧ Below W.heap.size W w') ∧ AccMade A D AA nonce bal acc := by
  have hdl := digF_lt raw
  have hds := digF_size raw
  have hdg := fun W hT hM => digest_any raw W hT hM
  generalize digF raw = G at hdl hds hdg
  have hok : (⟨nonce, bal, root, G.toList⟩ : Acc).ok := ⟨h1, h2, h3, by rw [Array.length_toList, hds], h4, hdl⟩
  refine ⟨(G.toList.map encB).toArray, (accL ⟨nonce, bal, root, G.toList⟩).toArray, ⟨nonce, bal, root, G.toList⟩, hdg, ⟨?_, ?_, ?_, ?_, ?_, accL_one _, rfl, hok⟩⟩
  · exact acc_built Tryd.zeroCells57 A _ nonce bal root G.toList (by kernel_rfl) (by rw [← hA]) rfl (by rw [← hA, List.size_toArray, List.length_map, h3]) (by rw [List.size_toArray, List.length_map, Array.length_toList, hds])
  · exact built_size Tryd.zeroCells57 A nonce bal (by kernel_rfl) (by rw [← hA, List.size_toArray, List.length_map, h3])
  · rw [← hA, List.size_toArray, List.length_map, h3]
  · rw [List.size_toArray, List.length_map, Array.length_toList, hds]
  · rw [List.size_toArray]; exact accL_length hok.2.2.1 hok.2.2.2.1
end Go.Proofs.YtjiikjpnlgogfaaDoor
