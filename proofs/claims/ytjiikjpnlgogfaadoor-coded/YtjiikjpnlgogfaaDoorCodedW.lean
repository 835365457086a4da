/-
  Coded: the walk.
-/
import Derived.Test.YtjiikjpnlgogfaaDoorCodG
import Derived.Test.YtjiikjpnlgogfaaDoorErrTab
namespace Go.Proofs.YtjiikjpnlgogfaaDoor
open Go.RowKit

/-- What the walk keeps: the feed, the root. -/
structure CK (w : World) (raw : ByteArray) (root : List Nat) (wr : World) : Prop where
  below : Below w.heap.size w wr
  feed : FeedAt wr (w.heap.size + 1) raw
  rng : wr.rangeAt w.heap.size 0 (root.map encB)
  size : w.heap.size + 2 ≤ wr.heap.size
theorem CK.step {w wr w1 : World} {raw : ByteArray} {root : List Nat} (h : CK w raw root wr) (hb : Below wr.heap.size wr w1) : CK w raw root w1 :=
  ⟨Below.behind h.below hb, h.feed.below hb, range_below h.rng (hb.block _ (by have := h.size; omega)), Nat.le_trans h.size hb.size⟩
theorem CK.only {w wr w1 : World} {raw : ByteArray} {root : List Nat} (h : CK w raw root wr) (ho : Only (w.heap.size + 1) wr w1) (hf : FeedAt w1 (w.heap.size + 1) raw) : CK w raw root w1 :=
  ⟨ho.below h.below (by omega) h.below.size, hf, range_below h.rng (ho.block _ (by have := h.size; omega) (by omega)), Nat.le_trans h.size ho.size⟩
theorem CK.start (w : World) (raw : ByteArray) (root : List Nat) (t u : TypeId) : CK w raw root ((w.alloc (.cells (root.map encB).toArray t)).alloc (.cells #[.string raw, .int .i64 0] u)) := by
  refine ⟨((Below.refl _ _).alloc (Nat.le_refl _) _).alloc (by simp) _, ⟨by simp, ?_, ⟨0, ?_, Nat.zero_le _⟩, ?_⟩, ?_, by simp⟩
  · rw [show w.heap.size + 1 = (w.alloc (.cells (root.map encB).toArray t)).heap.size by simp, World.cell?_alloc_new]
    rfl
  · rw [show w.heap.size + 1 = (w.alloc (.cells (root.map encB).toArray t)).heap.size by simp, World.cell?_alloc_new]
    rfl
  · rw [show w.heap.size + 1 = (w.alloc (.cells (root.map encB).toArray t)).heap.size by simp, World.frozen?_alloc_new]
  · refine range_below ?_ (Below.heap_alloc _ _ _ (by simp))
    intro j v hv
    rw [Nat.zero_add, World.cell?_alloc_new]
    simpa using hv

theorem typeAt_of_below {w W : World} (hT : typeAt w) (hW : Below w.heap.size w W) : typeAt W := (hW.cell (p := ⟨14, 0, none⟩) (World.block_lt_of_cell? w _ hT)).trans hT
theorem pathCode_byte {p : List Nat} (h : ∀ x ∈ p, x < 16) (leaf : Bool) : ∀ b ∈ pathCode p leaf, b < 256 := by
  have hp : ∀ q : List Nat, (∀ x ∈ q, x < 16) → ∀ b ∈ pairs q, b < 256 := by
    intro q
    induction q using pairs.induct with
    | case1 a b r ih =>
      intro hq x hx
      rw [pairs] at hx
      have := hq a (by simp)
      have := hq b (by simp)
      rcases List.mem_cons.1 hx with rfl | hx
      · omega
      · exact ih (fun y hy => hq y (by simp [hy])) x hx
    | case2 q hne =>
      intro _ x hx
      unfold pairs at hx
      split at hx
      · exact absurd rfl (hne _ _ _)
      · cases hx
  intro b hb
  unfold pathCode at hb
  rcases List.mem_cons.1 hb with rfl | hb
  · have h0 : p.length % 2 = 1 → p[0]! < 16 := fun ho => by
      rw [getElem!_pos p 0 (by omega)]
      exact h _ (List.getElem_mem _)
    split <;> split <;> first | omega | (have := h0 (by assumption); omega)
  · exact hp _ (fun x hx => h x (List.mem_of_mem_drop hx)) b hb
theorem textB_bytesOf' (s : ByteArray) : textB (bytesOf s) = s := bytesOf_inj (bytesOf_textB (byte_lt s))
theorem tabs_below {w W : World} (h : Tabs w) (hb : Below w.heap.size w W) : Tabs W :=
  ⟨fun j hj => (hb.cell (p := ⟨15, j, none⟩) (by have := World.block_lt_of_cell? w _ (h.1 j hj); simpa using this)).trans (h.1 j hj), fun j hj => (hb.cell (p := ⟨13, j, none⟩) (by have := World.block_lt_of_cell? w _ (h.2 j hj); simpa using this)).trans (h.2 j hj)⟩
theorem ck_alloc {w wr : World} {raw : ByteArray} {root : List Nat} (h : CK w raw root wr) (o : Obj) : CK w raw root (wr.alloc o) := h.step ((Below.refl _ _).alloc (Nat.le_refl _) o)
/-- What holds ahead of the store: the account's block lies behind all others. -/
theorem acc_after {w u v : World} {raw : ByteArray} {root : List Nat} {g n : Nat} (hn : n = 66) (h : CK w raw root u ∧ Four u g 0 0 0 0) (hb : Below u.heap.size u v) :
    CK w raw root (v.alloc (.cells Tryd.zeroCells57 57)) ∧ Four (v.alloc (.cells Tryd.zeroCells57 57)) g 0 0 0 0 ∧ (v.alloc (.cells Tryd.zeroCells57 57)).there v.heap.size 0 n ∧ g < v.heap.size :=
  ⟨ck_alloc (h.1.step hb) _, (h.2.keep (hb.block _ h.2.lt) hb.size).past _, there_new _ _ _ _ (by rw [hn]; kernel_rfl), Nat.lt_of_lt_of_le h.2.lt hb.size⟩
theorem acc_before {w u v : World} {raw : ByteArray} {root : List Nat} {g n : Nat} (hn : n = 66) (h : CK w raw root u ∧ Four u g 0 0 0 0) (hb : Below (u.alloc (.cells Tryd.zeroCells57 57)).heap.size (u.alloc (.cells Tryd.zeroCells57 57)) v) :
    CK w raw root v ∧ Four v g 0 0 0 0 ∧ v.there u.heap.size 0 n ∧ g < u.heap.size :=
  ⟨(ck_alloc h.1 _).step hb, (h.2.past _).keep (hb.block _ (by simp; have := h.2.lt; omega)) hb.size, there_block (there_new _ _ _ _ (by rw [hn]; kernel_rfl)) (hb.block _ (by simp)), h.2.lt⟩
theorem acc_stored {w W : World} {raw : ByteArray} {root : List Nat} {g ab : Nat} {AA : Array Value} (h : CK w raw root W ∧ Four W g 0 0 0 0 ∧ W.there ab 0 AA.size ∧ g < ab) (hw : w.heap.size + 2 ≤ g) (h66 : AA.size = 66) :
    CK w raw root (W.setCells ab 0 AA.toList) ∧ Four (W.setCells ab 0 AA.toList) g 0 0 0 0 ∧ (W.setCells ab 0 AA.toList).rangeAt ab 0 AA.toList ∧ ab < (W.setCells ab 0 AA.toList).heap.size ∧ g < ab := by
  obtain ⟨h1, h2, h3, h4⟩ := h
  have hs := (size_setCells ab AA.toList 0 W).1
  have hlt : ab < W.heap.size := by
    have := (h3 0 (by omega)).1
    obtain ⟨v, hv⟩ := Option.isSome_iff_exists.1 this
    exact World.block_lt_of_cell? W _ hv
  have hblk : ∀ k, k ≠ ab → (W.setCells ab 0 AA.toList).heap[k]? = W.heap[k]? := fun k hk => heap_setCells _ _ _ _ _ (by omega)
  refine ⟨⟨below_setCells h1.below (by omega) _ _, h1.feed.keep (hblk _ (by omega)) (by rw [hs]; exact Nat.le_refl _), range_below h1.rng (hblk _ (by omega)), by rw [hs]; exact h1.size⟩, h2.keep (hblk _ (by omega)) (by rw [hs]; exact Nat.le_refl _), World.rangeAt_setCells_same _ _ _ _ (by rw [Array.length_toList]; exact h3), by rw [hs]; exact hlt, h4⟩
theorem encAcc_byte {a : Acc} (ha : a.ok) : ∀ b ∈ encAcc a, b < 256 := by
  have hh : ∀ k n, ∀ b ∈ headB k n, b < 256 := by
    intro k n b hb
    unfold headB at hb
    split at hb
    · rw [List.mem_singleton.1 hb]; omega
    · rcases List.mem_cons.1 hb with rfl | hb
      · omega
      · exact bigE_byte n b hb
  have ht : ∀ t : List Nat, (∀ b ∈ t, b < 256) → ∀ b ∈ textCode t, b < 256 := by
    intro t h b hb
    unfold textCode at hb
    rcases List.mem_append.1 hb with hb | hb
    · split at hb
      · cases hb
      · exact hh _ _ b hb
    · exact h b hb
  intro b hb
  unfold encAcc listCode accTexts at hb
  simp only [List.mem_append] at hb
  rcases hb with hb | (((hb | hb) | hb) | hb)
  · exact hh _ _ b hb
  · exact ht _ (bigE_byte _) b hb
  · exact ht _ (bigE_byte _) b hb
  · exact ht _ ha.2.2.2.2.1 b hb
  · exact ht _ ha.2.2.2.2.2 b hb
theorem range_set4' {w : World} {b c : Nat} {L : List Value} (h : w.rangeAt b 0 L) (hne : b ≠ c) (v0 v1 v2 v3 : Value) : ((((w.setCell ⟨c, 0, none⟩ v0).setCell ⟨c, 1, none⟩ v1).setCell ⟨c, 2, none⟩ v2).setCell ⟨c, 3, none⟩ v3).rangeAt b 0 L :=
  fun j u hu => (World.cell?_of_block ((((Below.heap_setCell _ _ _ _ hne).trans (Below.heap_setCell _ _ _ _ hne)).trans (Below.heap_setCell _ _ _ _ hne)).trans (Below.heap_setCell _ _ _ _ hne))).trans (h j u hu)
theorem below_set4' {w w7 : World} {c : Nat} (h : Below w.heap.size w w7) (hc : w.heap.size ≤ c) (v0 v1 v2 v3 : Value) : Below w.heap.size w ((((w7.setCell ⟨c, 0, none⟩ v0).setCell ⟨c, 1, none⟩ v1).setCell ⟨c, 2, none⟩ v2).setCell ⟨c, 3, none⟩ v3) :=
  (((h.setCell hc _).setCell hc _).setCell hc _).setCell hc _
theorem wp_load_cells57 (dst : Option Tmp) (x : Operand) (type : TypeId) (pos : String) (af : Array Edge) (gd : Option (Nat × Bool)) (a : Act) (w : World) (K : Act → World → Prop) (Q : Exit → Act → World → Prop)
    (hx : a.eval x = .pointer (some ⟨blockOf (a.eval x), 0, none⟩)) (hall : HasCells w (blockOf (a.eval x)) 66) :
    Oper.wp Tryd.prog { dst := dst, op := .load 57 x, type := type, pos := pos, after := af, guard := gd } a w K Q = K (a.put dst (.agg (cellsAt w (blockOf (a.eval x)) 66))) w := by
  generalize blockOf (a.eval x) = b at hx hall ⊢
  have hr : w.rangeAt b 0 ((List.range 66).map fun j => (w.cell? ⟨b, j, none⟩).getD undef) := by
    intro j v hv
    have hj : j < 66 := by
      have := (List.getElem?_eq_some_iff.1 hv).1
      simpa using this
    obtain ⟨u, hu⟩ := Option.isSome_iff_exists.1 (hall j hj)
    simp only [List.getElem?_map, List.getElem?_range hj, Option.map_some, Option.some.injEq] at hv
    rw [Nat.zero_add, hu, ← hv, hu]
    rfl
  unfold Oper.wp execOp
  simp only [hx, Instr.loadAt, Instr.sureAddr, Sem.run_bind, Sem.run_pure, Result.andThen_ok, run_loadVar_mid w b 0 57 _ _ hr Tryd.underlying57 rfl (by rw [zeroA_size]; simp)]
  rfl
attribute [local go_sem ↓] wp_load_cells57
theorem Aside.mk_ {p : Prop} (h : p) : Aside p := h
theorem sz5 {n : Nat} (h : n + 1 ≤ 261 * 4 ^ 5) : n ≤ 267263 := by
  have e : (261 : Nat) * 4 ^ 5 = 267264 := by decide
  omega
theorem Tree.keepOnly {C : Type} {enc : El → List Value} {K : Sort' C} {tb n : Nat} {w w' : World} {F : Nat → Prop} {e : El} {c : C} (h : Tree enc K n w F e c) (ho : Only tb w w') (hF : ∀ k, F k → k ≠ tb) : Tree enc K n w' F e c :=
  Tree.keep (fun _ h => h) ho.size (fun k hk hk2 => ho.block k hk2 (hF k hk)) n h

set_option maxRecDepth 100000 in
set_option maxHeartbeats 32000000 in
theorem coded_walk (raw : ByteArray) (nonce bal : Nat) (root : List Nat) (w : World) (sent : Nat → Addr) (hF : Faults w sent) (hT : typeAt w) (hTab : Tabs w) (hM : 16 ≤ w.heap.size) (hr : raw.size ≤ 9223372036854775807) (hnn : nonce < 18446744073709551616) (hbb : bal < 18446744073709551616) (hrl : root.length = 32) (hrb : ∀ x ∈ root, x < 256) :
    Calls Tryd.prog 4 #[.string raw, .int .u64 (nonce : Int), .int .u64 (bal : Int), .agg (root.map encB).toArray] w fun e w' => Below w.heap.size w w' ∧ e = .returned (.bool true) := by
  have HG : Hid (Faults w sent ∧ typeAt w ∧ Tabs w ∧ 16 ≤ w.heap.size ∧ raw.size ≤ 9223372036854775807) := ⟨hF, hT, hTab, hM, hr⟩
  have HA : Hid (nonce < 18446744073709551616 ∧ bal < 18446744073709551616 ∧ root.length = 32 ∧ ∀ x ∈ root, x < 256) := ⟨hnn, hbb, hrl, hrb⟩
  have K0 : Hid (∀ t u, CK w raw root ((w.alloc (.cells (root.map encB).toArray t)).alloc (.cells #[.string raw, .int .i64 0] u))) := CK.start w raw root
  have HX : Hid (∀ n W, 0 < n → n ≤ 256 → CK w raw root W → Calls Tryd.prog 18 #[.pointer (some ⟨w.heap.size + 1, 0, none⟩), .int .i64 ((n : Nat) : Int)] W (NextSaid n (w.heap.size + 1) raw W)) := fun n W h1 h2 h => next_any n h1 h2 _ raw W h.feed hr
  have HI : Hid (∀ W, CK w raw root W → Calls Tryd.prog 11 #[.pointer (some ⟨w.heap.size + 1, 0, none⟩), .int .i64 5] W (FedSaid 5 (w.heap.size + 1) raw W)) := fun W h => item_fed _ raw hr 5 (by omega) W h.feed
  have HP : Hid (∀ W, Calls Tryd.prog 17 #[.agg (root.map encB).toArray] W fun e w' => e = .returned (.string (textB (nibs root))) ∧ Below W.heap.size W w') := fun W => path_any root hrl hrb W
  generalize hA : (root.map encB).toArray = A at K0 HP ⊢
  have HA2 : Hid ((root.map encB).toArray = A) := hA
  clear hF hT hTab hM hr hnn hbb hrl hrb hA
  go_enter Tryd.func4, Tryd.ntmps4
  go_wp2_with fail
  generalize hW0 : World.alloc (World.alloc w _) _ = W0
  have C0 : Aside (CK w raw root W0) := hW0 ▸ K0.out _ _
  clear hW0 K0
  refine (HI.out W0 C0.out).mono ?_
  rintro e w1 ⟨l, tx, p, m, c, x, rfl, hTr, hsz, ho, hf⟩
  have C1 : Aside (CK w raw root w1 ∧ Tree encI kB 5 w1 (fun k => W0.heap.size ≤ k) ⟨0, 0, l, tx, .slice p m c⟩ x ∧ x.sz ≤ 267263 ∧ w.heap.size + 2 ≤ W0.heap.size) := ⟨C0.out.only ho hf, hTr, sz5 hsz, C0.out.size⟩
  clear hTr hsz ho hf HI C0
  have HE : Hid (∀ W, Below w1.heap.size w1 W → Calls Tryd.prog 12 #[.agg #[.bool l, .string tx, .slice p m c]] W (TEncSaid x.code W)) := fun W hW => by
    have hk := code_sz x
    exact tenc_any 4 (by omega) 0 0 l tx p m c x.code sent W _ (C1.out.2.1.codeB.below hW) (by have := C1.out.2.2.1; omega) (HG.out.1.below (Below.behind C1.out.1.below hW))
  go_wp2_with fail
  refine (HE.out _ ((Below.refl _ _).alloc (Nat.le_refl _) _)).mono ?_
  rintro e w2 ⟨hb2, hE⟩
  have C2 : Aside (CK w raw root w2 ∧ Below w1.heap.size w1 w2) := ⟨C1.out.1.step (Below.up hb2), Below.up hb2⟩
  obtain ⟨x0, _⟩ := newCell hb2 0 (v := .bool l) rfl
  obtain ⟨x1, _⟩ := newCell hb2 1 (v := .string tx) rfl
  obtain ⟨x2, _⟩ := newCell hb2 2 (v := .slice p m c) rfl
  have hxl : w1.heap.size < w2.heap.size := by have := hb2.size; simp at this; omega
  have AX : Aside (w2.cell? ⟨w1.heap.size, 0, none⟩ = some (.bool l) ∧ w2.cell? ⟨w1.heap.size, 1, none⟩ = some (.string tx) ∧ w2.cell? ⟨w1.heap.size, 2, none⟩ = some (.slice p m c) ∧ w1.heap.size < w2.heap.size) := ⟨x0, x1, x2, hxl⟩
  have HS : Hid (Calls Tryd.prog 13 #[.agg #[.bool l, .string tx, .slice p m c]] w2 (SizeSaid x.sz w2)) := size_any 5 x l tx p m c _ w1 w2 C1.out.2.1 (by have := C1.out.2.2.1; omega) C2.out.2
  have hszc := sz_code x
  obtain ⟨n, hn⟩ : ∃ n, x.sz = n := ⟨_, rfl⟩
  rw [hn] at hszc HS
  clear hb2 HE hxl
  rcases hE with ⟨hle, rfl⟩ | ⟨hgt, rfl⟩
  · have hlen : n = x.code.length ∧ n ≤ 2048 := by omega
    have HL : Hid (n = x.code.length ∧ n ≤ 2048) := hlen
    have hni : ¬ (2048 : Int) < (n : Int) := by omega
    clear hszc hle hlen hn
    go_wp2_with fail
    refine HS.out.mono ?_
    rintro e w3 ⟨rfl, hb3⟩
    have C3 : Aside (CK w raw root w3 ∧ Below w2.heap.size w2 w3) := ⟨C2.out.1.step hb3, hb3⟩
    clear hb3 HS
    have hbx := C1.out.2.1.isBare
    obtain ⟨y, hy, hyb⟩ := decF_full (Tree.up 5 C1.out.2.1).fits (by have := HL.out; omega)
    rw [hbx.1] at hyb
    have hcb := bytesOf_textB hbx.2
    have hss : (textB x.code).size = n := by rw [textB_size]; exact HL.out.1.symm
    obtain ⟨s, hs⟩ : ∃ s, textB x.code = s := ⟨_, rfl⟩
    rw [hs] at hcb hss ⊢
    rw [← hcb] at hy
    have HD : Hid (∀ W, CK w raw root W → Calls Tryd.prog 14 #[.string s] W fun e w' => Below W.heap.size W w' ∧ ∃ (l' : Bool) (tx' : ByteArray) (p' : Option Addr) (m' c' : Nat), Tree encI kB 6 w' (fun k => W.heap.size ≤ k) ⟨0, 0, l', tx', .slice p' m' c'⟩ x ∧ e = .returned (.tuple #[.agg #[.bool l', .string tx', .slice p' m' c'], faultV 0 0 0 0])) := fun W hW => by
      refine (tdec_any s sent W (HG.out.1.below hW.below) (typeAt_of_below HG.out.2.1 hW.below)).mono ?_
      rintro e w' ⟨hb, _, h2⟩
      obtain ⟨l', tx', p', m', c', hT, rfl⟩ := h2 y hy
      rw [hyb] at hT
      exact ⟨hb, l', tx', p', m', c', hT, rfl⟩
    have hsn : ((s.size : Int) != (n : Int)) = false := by simp; omega
    clear hbx hy hyb hcb hs hss
    go_wp2_with fail
    refine (HD.out _ C3.out.1).mono ?_
    rintro e w4 ⟨hb4, l', tx', p', m', c', hTy, rfl⟩
    have C4 : Aside (CK w raw root w4 ∧ Below w2.heap.size w2 w4 ∧ Tree encI kB 6 w4 (fun k => w3.heap.size ≤ k) ⟨0, 0, l', tx', .slice p' m' c'⟩ x) := ⟨C3.out.1.step hb4, Below.behind C3.out.2 hb4, hTy⟩
    clear hb4 hTy HD C3
    go_wp2_with fail
    refine (fine_zero _).mono ?_
    rintro e w5 ⟨rfl, hb5⟩
    have hY : Held w5 w4.heap.size [.bool l', .string tx', .slice p' m' c'] := ((Held.fresh w4 [.bool l', .string tx', .slice p' m' c'] 38).alloc _).below hb5
    have hG : Four w5 (w4.heap.size + 1) 0 0 0 0 := by
      have h := (Four.fresh (w4.alloc (.cells #[.bool l', .string tx', .slice p' m' c'] 38)) 0 0 0 0 45).keep (hb5.block _ (by simp)) hb5.size
      simpa using h
    have hb45 : Below w4.heap.size w4 w5 := Below.up (Below.up hb5)
    have hb25 : Below w2.heap.size w2 w5 := Below.behind C4.out.2.1 hb45
    have C5 : Aside (CK w raw root w5 ∧ Four w5 (w4.heap.size + 1) 0 0 0 0 ∧ w.heap.size + 2 ≤ w4.heap.size) := ⟨C4.out.1.step hb45, hG, C4.out.1.size⟩
    have HSm : Hid (Calls Tryd.prog 16 #[.agg #[.bool l, .string tx, .slice p m c], .agg #[.bool l', .string tx', .slice p' m' c']] w5 (SameSaid w5)) :=
      same_any 6 x ⟨0, 0, l, tx, .slice p m c⟩ ⟨0, 0, l', tx', .slice p' m' c'⟩ _ _ w5 w5 (Tree.up 5 (C1.out.2.1.below (Below.behind C2.out.2 hb25))) (C4.out.2.2.below hb45) (by have := C1.out.2.2.1; omega) (Below.refl _ _)
    obtain ⟨a0, a1, a2, a3⟩ := AX.out
    have v0 := (hb25.cell (p := ⟨w1.heap.size, 0, none⟩) a3).trans a0
    have v1 := (hb25.cell (p := ⟨w1.heap.size, 1, none⟩) a3).trans a1
    have v2 := (hb25.cell (p := ⟨w1.heap.size, 2, none⟩) a3).trans a2
    have y0 := (hY.2 0 _ rfl).1
    have y1 := (hY.2 1 _ rfl).1
    have y2 := (hY.2 2 _ rfl).1
    clear a0 a1 a2 a3 hb5 hb45 hb25 hY hG C4 C2 C1 AX x0 x1 x2
    go_wp2_with fail
    refine HSm.out.mono ?_
    rintro e w6 ⟨rfl, hb6⟩
    have C6 : Aside (CK w raw root w6 ∧ Four w6 (w4.heap.size + 1) 0 0 0 0 ∧ w.heap.size + 2 ≤ w4.heap.size) := ⟨C5.out.1.step hb6, C5.out.2.1.keep (hb6.block _ C5.out.2.1.lt) hb6.size, C5.out.2.2⟩
    clear hb6 HSm C5 v0 v1 v2 y0 y1 y2
    have hz28 : (Tryd.prog.info? 28).map (·.size) = some (root.map encB).length := by rw [size28, List.length_map, HA.out.2.2.1]
    have r6 : w6.rangeAt w.heap.size 0 (root.map encB) := C6.out.1.rng
    obtain ⟨RL, hRL⟩ : ∃ RL, root.map encB = RL := ⟨_, rfl⟩
    have HRL : Hid (root.map encB = RL ∧ RL.toArray = A) := ⟨hRL, hRL ▸ HA2.out⟩
    rw [hRL] at hz28 r6
    clear hRL
    go_wp2_with (refine wpList_load_mid rfl 28 _ rfl w.heap.size 0 rfl RL _ r6 Tryd.underlying28 rfl hz28 ?_; rw [HRL.out.2])
    refine (HP.out _).mono ?_
    rintro e w7 ⟨rfl, hb7⟩
    have C7 : Aside (CK w raw root w7 ∧ Four w7 (w4.heap.size + 1) 0 0 0 0 ∧ w.heap.size + 2 ≤ w4.heap.size) := ⟨C6.out.1.step hb7, C6.out.2.1.keep (hb7.block _ C6.out.2.1.lt) hb7.size, C6.out.2.2⟩
    have hps : (textB (nibs root)).size = 64 := by rw [textB_size, nibs_length, HA.out.2.2.1]
    have hpb : bytesOf (textB (nibs root)) = nibs root := bytesOf_textB (fun z hz => by have := nibs_lt HA.out.2.2.2 z hz; omega)
    have hp16 := nibs_lt HA.out.2.2.2
    obtain ⟨P, hP⟩ : ∃ P, textB (nibs root) = P := ⟨_, rfl⟩
    rw [hP] at hps hpb ⊢
    rw [← hpb] at hp16
    have HPb : Hid (P.size = 64 ∧ ∀ z ∈ bytesOf P, z < 16) := ⟨hps, hp16⟩
    clear hb7 C6 hP hpb hp16 r6 HP
    go_wp2_with fail
    refine (HX.out 65 _ (by omega) (by omega) C7.out.1).mono ?_
    rintro e w8 ⟨k, hk, rfl, ho8, -, hf8⟩
    have C8 : Aside (CK w raw root w8 ∧ Four w8 (w4.heap.size + 1) 0 0 0 0 ∧ w.heap.size + 2 ≤ w4.heap.size) := ⟨C7.out.1.only ho8 hf8, C7.out.2.1.only ho8 (by have := C7.out.2.2; omega), C7.out.2.2⟩
    have hk1 : (k : Int) ≤ (P.size : Int) := by omega
    have hk2 : k ≤ P.size := by omega
    have hqs : (P.extract 0 k).size = k := by rw [ByteArray.size_extract]; omega
    have hqb : ∀ z ∈ bytesOf (P.extract 0 k), z < 16 := fun z hz => by
      rw [cut_bytes] at hz
      exact HPb.out.2 z (List.mem_of_mem_drop (List.mem_of_mem_take hz))
    clear ho8 hf8 C7 hk hps
    go_wp2_with fail
    refine (HX.out 2 _ (by omega) (by omega) C8.out.1).mono ?_
    rintro e w9 ⟨k2, hk2', rfl, ho9, -, hf9⟩
    have C9 : Aside (CK w raw root w9 ∧ Four w9 (w4.heap.size + 1) 0 0 0 0 ∧ w.heap.size + 2 ≤ w4.heap.size) := ⟨C8.out.1.only ho9 hf9, C8.out.2.1.only ho9 (by have := C8.out.2.2; omega), C8.out.2.2⟩
    clear ho9 hf9 C8 hk2'
    obtain ⟨Q, hQ⟩ : ∃ Q, P.extract 0 k = Q := ⟨_, rfl⟩
    rw [hQ] at hqs hqb
    have HQ : Hid (∀ z ∈ bytesOf Q, z < 16) := hqb
    have HQs : Hid (Q.size = k ∧ k ≤ 64) := ⟨hqs, by have := HPb.out.1; omega⟩
    clear hqb hqs
    go_wp2_with fail
    generalize ((k2 : Int) == 1) = leaf
    refine (tpack_ok Q leaf w9 (by have := HQs.out; omega) HQ.out).mono ?_
    rintro e w10 ⟨rfl, hb10⟩
    have C10 : Aside (CK w raw root w10 ∧ Four w10 (w4.heap.size + 1) 0 0 0 0 ∧ w.heap.size + 2 ≤ w4.heap.size) := ⟨C9.out.1.step hb10, C9.out.2.1.keep (hb10.block _ C9.out.2.1.lt) hb10.size, C9.out.2.2⟩
    have hcb := bytesOf_textB (pathCode_byte HQ.out leaf)
    have hcl : (textB (pathCode (bytesOf Q) leaf)).size = Q.size / 2 + 1 := by rw [textB_size, pathCode_length, bytesOf_length]
    have hu := unpackF_full HQ.out leaf
    rw [← hcb] at hu
    obtain ⟨cc, hcc⟩ : ∃ cc, textB (pathCode (bytesOf Q) leaf) = cc := ⟨_, rfl⟩
    rw [hcc] at hu hcl ⊢
    have HU : Hid (Calls Tryd.prog 20 #[.string cc] w10 fun e w' => e = .returned (.tuple #[.string Q, .bool leaf, .int .i64 0]) ∧ Below w10.heap.size w10 w') := by
      have h := tunpack_some cc w10 (by have := HQs.out; omega) (bytesOf Q) leaf hu
      rw [textB_bytesOf'] at h
      exact h
    obtain ⟨hq, hhq⟩ : ∃ hq, Q.size / 2 = hq := ⟨_, rfl⟩
    have hdiv : Int.tdiv (Q.size : Int) 2 = (hq : Int) := by rw [← hhq]; rfl
    have hdiv2 : (Q.size : Int) / 2 = (hq : Int) := by omega
    have hw1 : wrap64 ((hq : Int) + 1) = (hq : Int) + 1 := by have := HQs.out; unfold wrap64; omega
    have hw2 : wrap64 (hq : Int) = (hq : Int) := by have := HQs.out; unfold wrap64; omega
    have hcl2 : ((cc.size : Int) != wrap64 (wrap64 (hq : Int) + 1)) = false := by rw [hw2, hw1]; simp; omega
    clear hw1 hw2
    clear hb10 hcb hu hcc hcl C9 hhq
    go_wp2_with fail
    refine HU.out.mono ?_
    rintro e w11 ⟨rfl, hb11⟩
    have C11 : Aside (CK w raw root w11 ∧ Four w11 (w4.heap.size + 1) 0 0 0 0 ∧ w.heap.size + 2 ≤ w4.heap.size) := ⟨C10.out.1.step hb11, C10.out.2.1.keep (hb11.block _ C10.out.2.1.lt) hb11.size, C10.out.2.2⟩
    clear hb11 HU C10
    go_wp2
    clear hcl2 hdiv hdiv2
    obtain ⟨D, AA, acc, hdg, hM⟩ := acc_facts raw nonce bal root A HA2.out HA.out.1 HA.out.2.1 HA.out.2.2.1 HA.out.2.2.2
    have HDg : Hid (∀ W, CK w raw root W → Calls Tryd.prog 10 #[.string raw] W fun e w' => e = .returned (.agg D) ∧ Below W.heap.size W w') := fun W hW => hdg W (tabs_below HG.out.2.2.1 hW.below) (Nat.le_trans HG.out.2.2.2.1 hW.below.size)
    have AM : Aside (AccMade A D AA nonce bal acc) := hM
    have hAz : (Tryd.prog.info? 57).map (·.size) = some AA.size := by rw [zeroA_size, hM.s66]
    clear hdg hM
    go_cut [24] (fun v wc => ∃ ab : Nat, v = .pointer (some ⟨ab, 0, none⟩) ∧ CK w raw root wc ∧ Four wc (w4.heap.size + 1) 0 0 0 0 ∧ wc.rangeAt ab 0 AA.toList ∧ ab < wc.heap.size ∧ w4.heap.size + 1 < ab)
    case first =>
      refine wp_region_any (by kernel_rfl) ?_
      change wpAny _ _ _ _ _ _ _ (World.drew _)
      have Cu : Aside (CK w raw root w11.drew ∧ Four w11.drew (w4.heap.size + 1) 0 0 0 0) := ⟨C11.out.1.step (Below.refl _ _).drew, C11.out.2.1.keep rfl (Nat.le_refl _)⟩
      generalize World.drew w11 = u at Cu
      refine wpAny_take (i := 0) (v := ?_) rfl (by kernel_rfl) (by kernel_rfl) (by kernel_rfl) (fun _ _ _ h => h) (Or.inl ⟨by rfl, ?_⟩) ?_
      rotate_left
      · intro w; go_simp; with_reducible rfl
      refine wpAny_take (i := 1) (v := ?_) rfl (by kernel_rfl) (by kernel_rfl) (by kernel_rfl) (fun _ _ _ h => h) (Or.inl ⟨by rfl, ?_⟩) ?_
      rotate_left
      · intro w; go_simp; with_reducible rfl
      refine wpAny_take (i := 3) (v := ?_) rfl (by kernel_rfl) (by kernel_rfl) (by kernel_rfl) (fun _ _ _ h => h) (Or.inl ⟨by rfl, ?_⟩) ?_
      rotate_left
      · intro w; go_simp; with_reducible rfl
      refine wpAny_ready (rs := [2, 4, 6]) (by kernel_rfl) (by simp) ?_
      refine AllReady.cons rfl (fun K hK => ?_) (AllReady.cons rfl (fun K hK => ?_) (AllReady.cons rfl (fun K hK => ?_) AllReady.nil))
      · rw [if_pos (by rfl)]
        refine wp_load_mid 28 (.tmp 7) rfl w.heap.size 0 rfl RL _ (HRL.out.1 ▸ (Cu.out.1).rng) Tryd.underlying28 rfl hz28 ?_
        rw [HRL.out.2]
        refine hK _ _ ?_
        clear hK K
        refine wpAny_ready (rs := [4, 6]) (by kernel_rfl) (by simp) ?_
        refine AllReady.cons rfl (fun K hK => ?_) (AllReady.cons rfl (fun K hK => ?_) AllReady.nil)
        · go_simp
          go_at_call 10
          refine (HDg.out _ (Cu.out.1)).mono ?_
          rintro e v1 ⟨rfl, hb1⟩
          refine hK _ _ ?_
          clear hK K
          refine wpAny_take (i := 5) (v := .agg AA) rfl (by kernel_rfl) (by kernel_rfl) (by kernel_rfl) (fun _ _ _ h => h) (Or.inl ⟨by rfl, ?_⟩) ?_
          · intro w
            have hb := AM.out.build
            have hs1 := AM.out.size1
            have hAs := AM.out.hAs
            have hDs := AM.out.hDs
            go_simp
          refine wpAny_ready (rs := [6]) (by kernel_rfl) (by simp) ?_
          refine AllReady.cons rfl (fun K hK => ?_) AllReady.nil
          go_simp
          refine hK _ _ ?_
          clear hK K
          refine wpAny_ready (rs := [7]) (by kernel_rfl) (by simp) ?_
          refine AllReady.cons rfl (fun K hK => ?_) AllReady.nil
          have E : Aside (_ ∧ _ ∧ _ ∧ _) := acc_after AM.out.s66 Cu.out (hb1)
          rw [if_pos (by rfl)]
          refine wp_store_mid 57 (.tmp 24) (.tmp 122) rfl (v1.heap.size) 0 AA rfl rfl E.out.2.2.1 hAz AM.out.one ?_
          refine hK _ _ ?_
          clear hK K
          have E2 := acc_stored E.out (by have := C11.out.2.2; omega) AM.out.s66
          generalize World.setCells _ (v1.heap.size) 0 AA.toList = wS at E2 ⊢
          have E3 := Aside.mk_ E2
          clear E2
          refine wpAny_done (by kernel_rfl) ?_ _
          go_wp2
          go_meet
          exact ⟨v1.heap.size, rfl, E3.out⟩
        · go_simp
          refine hK _ _ ?_
          clear hK K
          refine wpAny_ready (rs := [4]) (by kernel_rfl) (by simp) ?_
          refine AllReady.cons rfl (fun K hK => ?_) AllReady.nil
          go_simp
          go_at_call 10
          refine (HDg.out _ (ck_alloc Cu.out.1 _)).mono ?_
          rintro e v1 ⟨rfl, hb1⟩
          refine hK _ _ ?_
          clear hK K
          refine wpAny_take (i := 5) (v := .agg AA) rfl (by kernel_rfl) (by kernel_rfl) (by kernel_rfl) (fun _ _ _ h => h) (Or.inl ⟨by rfl, ?_⟩) ?_
          · intro w
            have hb := AM.out.build
            have hs1 := AM.out.size1
            have hAs := AM.out.hAs
            have hDs := AM.out.hDs
            go_simp
          refine wpAny_ready (rs := [7]) (by kernel_rfl) (by simp) ?_
          refine AllReady.cons rfl (fun K hK => ?_) AllReady.nil
          have E : Aside (_ ∧ _ ∧ _ ∧ _) := acc_before AM.out.s66 Cu.out (hb1)
          rw [if_pos (by rfl)]
          refine wp_store_mid 57 (.tmp 24) (.tmp 122) rfl (u.heap.size) 0 AA rfl rfl E.out.2.2.1 hAz AM.out.one ?_
          refine hK _ _ ?_
          clear hK K
          have E2 := acc_stored E.out (by have := C11.out.2.2; omega) AM.out.s66
          generalize World.setCells _ (u.heap.size) 0 AA.toList = wS at E2 ⊢
          have E3 := Aside.mk_ E2
          clear E2
          refine wpAny_done (by kernel_rfl) ?_ _
          go_wp2
          go_meet
          exact ⟨u.heap.size, rfl, E3.out⟩
      · go_simp
        go_at_call 10
        refine (HDg.out _ (Cu.out.1)).mono ?_
        rintro e v1 ⟨rfl, hb1⟩
        refine hK _ _ ?_
        clear hK K
        refine wpAny_ready (rs := [2, 6]) (by kernel_rfl) (by simp) ?_
        refine AllReady.cons rfl (fun K hK => ?_) (AllReady.cons rfl (fun K hK => ?_) AllReady.nil)
        · rw [if_pos (by rfl)]
          refine wp_load_mid 28 (.tmp 7) rfl w.heap.size 0 rfl RL _ (HRL.out.1 ▸ (Cu.out.1.step hb1).rng) Tryd.underlying28 rfl hz28 ?_
          rw [HRL.out.2]
          refine hK _ _ ?_
          clear hK K
          refine wpAny_take (i := 5) (v := .agg AA) rfl (by kernel_rfl) (by kernel_rfl) (by kernel_rfl) (fun _ _ _ h => h) (Or.inl ⟨by rfl, ?_⟩) ?_
          · intro w
            have hb := AM.out.build
            have hs1 := AM.out.size1
            have hAs := AM.out.hAs
            have hDs := AM.out.hDs
            go_simp
          refine wpAny_ready (rs := [6]) (by kernel_rfl) (by simp) ?_
          refine AllReady.cons rfl (fun K hK => ?_) AllReady.nil
          go_simp
          refine hK _ _ ?_
          clear hK K
          refine wpAny_ready (rs := [7]) (by kernel_rfl) (by simp) ?_
          refine AllReady.cons rfl (fun K hK => ?_) AllReady.nil
          have E : Aside (_ ∧ _ ∧ _ ∧ _) := acc_after AM.out.s66 Cu.out (hb1)
          rw [if_pos (by rfl)]
          refine wp_store_mid 57 (.tmp 24) (.tmp 122) rfl (v1.heap.size) 0 AA rfl rfl E.out.2.2.1 hAz AM.out.one ?_
          refine hK _ _ ?_
          clear hK K
          have E2 := acc_stored E.out (by have := C11.out.2.2; omega) AM.out.s66
          generalize World.setCells _ (v1.heap.size) 0 AA.toList = wS at E2 ⊢
          have E3 := Aside.mk_ E2
          clear E2
          refine wpAny_done (by kernel_rfl) ?_ _
          go_wp2
          go_meet
          exact ⟨v1.heap.size, rfl, E3.out⟩
        · go_simp
          refine hK _ _ ?_
          clear hK K
          refine wpAny_ready (rs := [2]) (by kernel_rfl) (by simp) ?_
          refine AllReady.cons rfl (fun K hK => ?_) AllReady.nil
          rw [if_pos (by rfl)]
          refine wp_load_mid 28 (.tmp 7) rfl w.heap.size 0 rfl RL _ (HRL.out.1 ▸ (ck_alloc (Cu.out.1.step hb1) _).rng) Tryd.underlying28 rfl hz28 ?_
          rw [HRL.out.2]
          refine hK _ _ ?_
          clear hK K
          refine wpAny_take (i := 5) (v := .agg AA) rfl (by kernel_rfl) (by kernel_rfl) (by kernel_rfl) (fun _ _ _ h => h) (Or.inl ⟨by rfl, ?_⟩) ?_
          · intro w
            have hb := AM.out.build
            have hs1 := AM.out.size1
            have hAs := AM.out.hAs
            have hDs := AM.out.hDs
            go_simp
          refine wpAny_ready (rs := [7]) (by kernel_rfl) (by simp) ?_
          refine AllReady.cons rfl (fun K hK => ?_) AllReady.nil
          have E : Aside (_ ∧ _ ∧ _ ∧ _) := acc_after AM.out.s66 Cu.out (hb1)
          rw [if_pos (by rfl)]
          refine wp_store_mid 57 (.tmp 24) (.tmp 122) rfl (v1.heap.size) 0 AA rfl rfl E.out.2.2.1 hAz AM.out.one ?_
          refine hK _ _ ?_
          clear hK K
          have E2 := acc_stored E.out (by have := C11.out.2.2; omega) AM.out.s66
          generalize World.setCells _ (v1.heap.size) 0 AA.toList = wS at E2 ⊢
          have E3 := Aside.mk_ E2
          clear E2
          refine wpAny_done (by kernel_rfl) ?_ _
          go_wp2
          go_meet
          exact ⟨v1.heap.size, rfl, E3.out⟩
      · go_simp
        refine hK _ _ ?_
        clear hK K
        refine wpAny_ready (rs := [2, 4]) (by kernel_rfl) (by simp) ?_
        refine AllReady.cons rfl (fun K hK => ?_) (AllReady.cons rfl (fun K hK => ?_) AllReady.nil)
        · rw [if_pos (by rfl)]
          refine wp_load_mid 28 (.tmp 7) rfl w.heap.size 0 rfl RL _ (HRL.out.1 ▸ (ck_alloc Cu.out.1 _).rng) Tryd.underlying28 rfl hz28 ?_
          rw [HRL.out.2]
          refine hK _ _ ?_
          clear hK K
          refine wpAny_ready (rs := [4]) (by kernel_rfl) (by simp) ?_
          refine AllReady.cons rfl (fun K hK => ?_) AllReady.nil
          go_simp
          go_at_call 10
          refine (HDg.out _ (ck_alloc Cu.out.1 _)).mono ?_
          rintro e v1 ⟨rfl, hb1⟩
          refine hK _ _ ?_
          clear hK K
          refine wpAny_take (i := 5) (v := .agg AA) rfl (by kernel_rfl) (by kernel_rfl) (by kernel_rfl) (fun _ _ _ h => h) (Or.inl ⟨by rfl, ?_⟩) ?_
          · intro w
            have hb := AM.out.build
            have hs1 := AM.out.size1
            have hAs := AM.out.hAs
            have hDs := AM.out.hDs
            go_simp
          refine wpAny_ready (rs := [7]) (by kernel_rfl) (by simp) ?_
          refine AllReady.cons rfl (fun K hK => ?_) AllReady.nil
          have E : Aside (_ ∧ _ ∧ _ ∧ _) := acc_before AM.out.s66 Cu.out (hb1)
          rw [if_pos (by rfl)]
          refine wp_store_mid 57 (.tmp 24) (.tmp 122) rfl (u.heap.size) 0 AA rfl rfl E.out.2.2.1 hAz AM.out.one ?_
          refine hK _ _ ?_
          clear hK K
          have E2 := acc_stored E.out (by have := C11.out.2.2; omega) AM.out.s66
          generalize World.setCells _ (u.heap.size) 0 AA.toList = wS at E2 ⊢
          have E3 := Aside.mk_ E2
          clear E2
          refine wpAny_done (by kernel_rfl) ?_ _
          go_wp2
          go_meet
          exact ⟨u.heap.size, rfl, E3.out⟩
        · go_simp
          go_at_call 10
          refine (HDg.out _ (ck_alloc Cu.out.1 _)).mono ?_
          rintro e v1 ⟨rfl, hb1⟩
          refine hK _ _ ?_
          clear hK K
          refine wpAny_ready (rs := [2]) (by kernel_rfl) (by simp) ?_
          refine AllReady.cons rfl (fun K hK => ?_) AllReady.nil
          rw [if_pos (by rfl)]
          refine wp_load_mid 28 (.tmp 7) rfl w.heap.size 0 rfl RL _ (HRL.out.1 ▸ ((ck_alloc Cu.out.1 _).step hb1).rng) Tryd.underlying28 rfl hz28 ?_
          rw [HRL.out.2]
          refine hK _ _ ?_
          clear hK K
          refine wpAny_take (i := 5) (v := .agg AA) rfl (by kernel_rfl) (by kernel_rfl) (by kernel_rfl) (fun _ _ _ h => h) (Or.inl ⟨by rfl, ?_⟩) ?_
          · intro w
            have hb := AM.out.build
            have hs1 := AM.out.size1
            have hAs := AM.out.hAs
            have hDs := AM.out.hDs
            go_simp
          refine wpAny_ready (rs := [7]) (by kernel_rfl) (by simp) ?_
          refine AllReady.cons rfl (fun K hK => ?_) AllReady.nil
          have E : Aside (_ ∧ _ ∧ _ ∧ _) := acc_before AM.out.s66 Cu.out (hb1)
          rw [if_pos (by rfl)]
          refine wp_store_mid 57 (.tmp 24) (.tmp 122) rfl (u.heap.size) 0 AA rfl rfl E.out.2.2.1 hAz AM.out.one ?_
          refine hK _ _ ?_
          clear hK K
          have E2 := acc_stored E.out (by have := C11.out.2.2; omega) AM.out.s66
          generalize World.setCells _ (u.heap.size) 0 AA.toList = wS at E2 ⊢
          have E3 := Aside.mk_ E2
          clear E2
          refine wpAny_done (by kernel_rfl) ?_ _
          go_wp2
          go_meet
          exact ⟨u.heap.size, rfl, E3.out⟩
    obtain ⟨ab, hv24, C12, F12, R12, hab, hgab⟩ := hcut
    subst hv24
    obtain ⟨w12, hw12⟩ : ∃ w12 : World, w12 = wc := ⟨_, rfl⟩
    subst hw12
    have X12 : Aside (CK w raw root w12 ∧ Four w12 (w4.heap.size + 1) 0 0 0 0 ∧ w12.rangeAt ab 0 AA.toList ∧ ab < w12.heap.size ∧ w4.heap.size + 1 < ab) := ⟨C12, F12, R12, hab, hgab⟩
    have hzL : (Tryd.prog.info? 57).map (·.size) = some AA.toList.length := by rw [Array.length_toList]; exact hAz
    have r12 := R12
    clear C12 F12 R12 hab hgab HDg hz28 HRL
    go_wp2_with (refine wpList_load_mid rfl 57 _ rfl ab 0 rfl AA.toList _ r12 Tryd.underlying57 rfl hzL ?_)
    have HEa : Hid (Calls Tryd.prog 22 #[.agg AA] w12 fun e w' => e = .returned (.string (textB (encAcc acc))) ∧ Below w12.heap.size w12 w') := AM.out.cells ▸ tencacc acc AM.out.ok w12
    refine HEa.out.mono ?_
    rintro e w13 ⟨rfl, hb13⟩
    have hacb : bytesOf (textB (encAcc acc)) = encAcc acc := bytesOf_textB (encAcc_byte AM.out.ok)
    have hfull := accF_full AM.out.ok
    rw [← hacb] at hfull
    obtain ⟨t13, ht13⟩ : ∃ t, textB (encAcc acc) = t := ⟨_, rfl⟩
    rw [ht13] at hfull ⊢
    have C13 : CK w raw root w13 := X12.out.1.step hb13
    have HDa : Hid (Calls Tryd.prog 21 #[.string t13] w13 fun e w' => Below w13.heap.size w13 w' ∧ e = .returned (.tuple #[.agg AA, faultV 0 0 0 0])) := by
      have h := tdecacc_ok t13 sent w13 (HG.out.1.below C13.below) hfull
      rw [AM.out.cells] at h
      exact h
    have X13 : Aside (CK w raw root w13 ∧ Below w12.heap.size w12 w13) := ⟨C13, hb13⟩
    clear hb13 hacb hfull ht13 C13 HEa r12
    go_wp2_with fail
    refine HDa.out.mono ?_
    rintro e w14 ⟨hb14, rfl⟩
    have hthZ : ∀ C : Array Value, 66 = C.size → (w14.alloc (.cells C 57)).there w14.heap.size 0 AA.size := fun C hC => there_new _ _ _ _ (by rw [AM.out.s66]; exact hC)
    have hL : ∀ C : Array Value, 66 = C.size → AA.toList.length = C.size := fun C hC => by rw [Array.length_toList, AM.out.s66]; exact hC
    have X14 : Aside (CK w raw root w14 ∧ Below w12.heap.size w12 w14) := ⟨X13.out.1.step hb14, Below.behind X13.out.2 hb14⟩
    have hone := AM.out.one
    clear hb14 HDa X13
    go_wp2_with (refine wpList_store_mid rfl 57 _ _ rfl w14.heap.size 0 AA rfl rfl (hthZ _ rfl) hAz hone ?_
                 generalize hX : World.setCells _ w14.heap.size 0 _ = w15
                 have X15 : Aside (CK w raw root w15 ∧ Below w12.heap.size w12 w15 ∧ w15.rangeAt w14.heap.size 0 AA.toList ∧ w14.heap.size < w15.heap.size) := ⟨X14.out.1.step (newH hX), Below.behind X14.out.2 (newH hX), (newH_row hX (hL _ rfl)).1, (newH_row hX (hL _ rfl)).2⟩
                 clear hX hthZ hL
                 have F15 : Four w15 (w4.heap.size + 1) 0 0 0 0 := X12.out.2.1.keep (X15.out.2.1.block _ X12.out.2.1.lt) X15.out.2.1.size
                 obtain ⟨lt15, c0, c1, c2, c3, free⟩ := F15
                 have z0 := free 0 (by omega)
                 have z1 := free 1 (by omega)
                 have z2 := free 2 (by omega)
                 have z3 := free 3 (by omega)
                 clear free lt15)
    generalize hw16 : World.setCell (World.setCell (World.setCell (World.setCell w15 _ _) _ _) _ _) _ _ = w16
    have hne1 : ab ≠ w4.heap.size + 1 := by have := X12.out.2.2.2.2; omega
    have hne2 : w14.heap.size ≠ w4.heap.size + 1 := by have := X12.out.2.2.2; have := X14.out.2.size; omega
    have B16 : Aside (Below w.heap.size w w16 ∧ w16.rangeAt ab 0 AA.toList ∧ w16.rangeAt w14.heap.size 0 AA.toList ∧ ab < w16.heap.size ∧ w14.heap.size < w16.heap.size) := by
      rw [← hw16]
      refine ⟨below_set4' X15.out.1.below (by have := X12.out.1.below.size; have := C11.out.2.2; omega) _ _ _ _, range_set4' (range_below X12.out.2.2.1 (X15.out.2.1.block _ X12.out.2.2.2.1)) hne1 _ _ _ _, range_set4' X15.out.2.2.1 hne2 _ _ _ _, ?_, ?_⟩
      · have := X12.out.2.2.2.1
        have := X15.out.2.1.size
        simp
        omega
      · have := X15.out.2.2.2
        simp
        omega
    clear hw16 c0 c1 c2 c3 z0 z1 z2 z3
    refine (fine_zero _).mono ?_
    rintro e w17 ⟨rfl, hb17⟩
    have B17 : Aside (Below w.heap.size w w17) := Below.behind B16.out.1 hb17
    have q1 : w17.rangeAt ab 0 AA.toList := range_below B16.out.2.1 (hb17.block _ B16.out.2.2.2.1)
    have q2 : w17.rangeAt w14.heap.size 0 AA.toList := range_below B16.out.2.2.1 (hb17.block _ B16.out.2.2.2.2)
    have hl66 : AA.toList.length = 66 := by rw [Array.length_toList, AM.out.s66]
    have e1 : cellsAt w17 ab 66 = AA := (cellsAt_of_range q1 hl66).trans (by simp)
    have e2 : cellsAt w17 w14.heap.size 66 = AA := (cellsAt_of_range q2 hl66).trans (by simp)
    have hh1 := hasCells_of_range q1 hl66
    have hh2 := hasCells_of_range q2 hl66
    have heq : ∀ W : World, Sem.run Tryd.prog (Op.equalIn 10000 57 (.agg AA) (.agg AA)) W = .ok true W := fun W => by
      rw [← AM.out.cells]
      exact acc_same acc AM.out.ok W
    clear hb17 q1 q2 hl66 hone hAz hzL X12 X14 X15 B16
    go_wp2
    go_ret
    exact ⟨B17.out, rfl⟩
  · have hni : (2048 : Int) < (n : Int) := by omega
    clear hszc hgt hn
    go_wp2_with fail
    refine HS.out.mono ?_
    rintro e w3 ⟨rfl, hb3⟩
    have C3 : Aside (CK w raw root w3) := C2.out.1.step hb3
    clear hb3 HS
    go_wp2
    go_ret
    exact ⟨C3.out.below, rfl⟩
end Go.Proofs.YtjiikjpnlgogfaaDoor
