/-
  Package twigskeep: reference (to a node with that code).
-/
import Derived.Test.YtjiikjpnlgogfaaGreatDoorLaB
namespace Go.Proofs.YtjiikjpnlgogfaaGreatDoor
open Go.RowKit

mutual
theorem fits_bare : ∀ (x : It) (d : Nat), fits d x → fits d x.bare
  | .text _ _ _, _, _ => by rw [It.bare]; unfold fits; trivial
  | .list _ _ l, 0, h => by unfold fits at h; exact h.elim
  | .list _ _ l, d + 1, h => by
    rw [It.bare]
    unfold fits at h ⊢
    exact fits_bares l d h
theorem fits_bares : ∀ (l : List It) (d : Nat), (∀ x ∈ l, fits d x) → ∀ x ∈ bares l, fits d x
  | [], _, _ => fun x hx => by rw [bares] at hx; cases hx
  | y :: l, d, h => fun x hx => by
    rw [bares] at hx
    rcases List.mem_cons.1 hx with rfl | hx
    · exact fits_bare y d (h y (List.mem_cons_self ..))
    · exact fits_bares l d (fun z hz => h z (List.mem_cons_of_mem _ hz)) x hx
end
theorem fits_up : ∀ (d : Nat) (x : It), fits d x → fits (d + 1) x
  | _, .text _ _ _, _ => by unfold fits; trivial
  | 0, .list _ _ _, h => by unfold fits at h; exact h.elim
  | d + 1, .list _ _ l, h => by
    unfold fits at h ⊢
    exact fun x hx => fits_up d x (h x hx)
theorem fits_le {d e : Nat} {x : It} (h : fits d x) (he : d ≤ e) : fits e x := by
  induction he with
  | refl => exact h
  | step _ ih => exact fits_up _ _ ih

/-- What reference answers. -/
def RefSaid (c : List Nat) (d : Nat) (w : World) (e : Ending) (w' : World) : Prop :=
  Below w.heap.size w w' ∧ ∃ (l : Bool) (tx : ByteArray) (p : Option Addr) (m cc : Nat), e = .returned (.tuple #[.agg #[.bool l, .string tx, .slice p m cc], .bool true]) ∧ Tree encI kC d w' (fun k => w.heap.size ≤ k) ⟨0, 0, l, tx, .slice p m cc⟩ (refOf c)

attribute [local go_sem ↓] wp_load_cells28

set_option maxRecDepth 100000 in
set_option maxHeartbeats 3200000 in
theorem reference_any {x : It} {c : List Nat} {d : Nat} (hx : x.code = c) (hf : fits d x) (hd : d ≤ 6) (hcb : ∀ y ∈ c, y < 256) (hl : c.length ≤ 2048) (sent : Nat → Addr) (w : World) (hF : Faults w sent) (hT : typeAt w) (hTab : Tabs w) (hM : 16 ≤ w.heap.size) :
    Calls Tryz.prog 22 #[.string (textB c)] w (RefSaid c d w) := by
  obtain ⟨W0, hW0⟩ : ∃ W0, w.alloc (.cells #[.bool false, .string ⟨#[]⟩, .slice none 0 0] 45) = W0 := ⟨_, rfl⟩
  have hb0 : Below w.heap.size w W0 := by rw [← hW0]; exact (Below.refl _ _).alloc (Nat.le_refl _) _
  have hs0 : W0.heap.size = w.heap.size + 1 := by rw [← hW0]; simp
  have hH0 : Held W0 w.heap.size [.bool false, .string ⟨#[]⟩, .slice none 0 0] := by rw [← hW0]; exact Held.fresh w _ _
  have hlen : (textB c).size = c.length := textB_size c
  have hbc : bytesOf (textB c) = c := bytesOf_textB hcb
  by_cases hsm : c.length < 32
  · have i1 : ¬ (32 : Int) ≤ ((textB c).size : Int) := by omega
    obtain ⟨y, hy1, hy2⟩ := decF_full (fits_le hf hd) (by rw [hx]; exact hl)
    have HD := Hid.hide (tdec_any (textB c) sent W0 (hF.below hb0) ((hb0.cell (World.block_lt_of_cell? w _ hT)).trans hT))
    have HX : Hid (decF (bytesOf (textB c)) = .ok y ∧ y.bare = x.bare ∧ fits d x.bare ∧ x.bare.code = c ∧ refOf c = c ∧ Below w.heap.size w W0 ∧ W0.heap.size = w.heap.size + 1 ∧ Held W0 w.heap.size [.bool false, .string ⟨#[]⟩, .slice none 0 0]) := ⟨by rw [hbc, ← hx]; exact hy1, hy2, fits_bare x d hf, by rw [bare_code, hx], by unfold refOf; rw [if_pos hsm], hb0, hs0, hH0⟩
    clear hx hf hd hcb hl hF hT hTab hM hb0 hs0 hH0 hy1 hy2 hbc hsm hlen
    go_enter Tryz.func22, Tryz.ntmps22
    go_wp2_with fail
    refine HD.out.mono ?_
    rintro e w1 ⟨hb1, -, hok⟩
    obtain ⟨l, tx, p, m, cc, hTr, rfl⟩ := hok y HX.out.1
    have hTr' : Tree encI kC d w1 (fun k => W0.heap.size ≤ k ∧ k < w1.heap.size) ⟨0, 0, l, tx, .slice p m cc⟩ c := by
      rw [HX.out.2.1] at hTr
      have h := (Tree.fit 6 d HX.out.2.2.1 hTr).codeB
      rw [HX.out.2.2.2.1] at h
      exact Tree.bound d h
    obtain ⟨a0, f0⟩ := (HX.out.2.2.2.2.2.2.2.below hb1).2 0 _ rfl
    obtain ⟨a1, f1⟩ := (HX.out.2.2.2.2.2.2.2.below hb1).2 1 _ rfl
    obtain ⟨a2, f2⟩ := (HX.out.2.2.2.2.2.2.2.below hb1).2 2 _ rfl
    have H1 : Hid (Below W0.heap.size W0 w1 ∧ Tree encI kC d w1 (fun k => W0.heap.size ≤ k ∧ k < w1.heap.size) ⟨0, 0, l, tx, .slice p m cc⟩ c) := ⟨hb1, hTr'⟩
    clear hb1 hok hTr hTr' hW0
    go_wp2_with fail
    obtain ⟨W1, hW1⟩ : ∃ W1, (w1.alloc (.cells #[.bool l, .string tx, .slice p m cc] 45)).alloc (.cells #[.int .i64 0, .int .i64 0, .int .i64 0, .int .i64 0] 66) = W1 := ⟨_, rfl⟩
    have hbW : Below w1.heap.size w1 W1 := by rw [← hW1]; exact ((Below.refl _ _).alloc (Nat.le_refl _) _).alloc (by simp) _
    have hHW : Held W1 w1.heap.size [.bool l, .string tx, .slice p m cc] := by
      rw [← hW1]
      exact (Held.fresh w1 [.bool l, .string tx, .slice p m cc] _).below ((Below.refl _ _).alloc (Nat.le_refl _) _)
    rw [hW1]
    refine (fine_zero W1).mono ?_
    rintro e w2 ⟨rfl, hb2⟩
    have hb12 : Below w1.heap.size w1 w2 := hbW.trans (hb2.mono hbW.size)
    have hb02 : Below W0.heap.size W0 w2 := H1.out.1.trans (hb12.mono H1.out.1.size)
    obtain ⟨a0, f0⟩ := (HX.out.2.2.2.2.2.2.2.below hb02).2 0 _ rfl
    obtain ⟨a1, f1⟩ := (HX.out.2.2.2.2.2.2.2.below hb02).2 1 _ rfl
    obtain ⟨a2, f2⟩ := (HX.out.2.2.2.2.2.2.2.below hb02).2 2 _ rfl
    obtain ⟨d0, -⟩ := (hHW.below hb2).2 0 _ rfl
    obtain ⟨d1, -⟩ := (hHW.below hb2).2 1 _ rfl
    obtain ⟨d2, -⟩ := (hHW.below hb2).2 2 _ rfl
    have H2 : Hid (Below w.heap.size w w2 ∧ Tree encI kC d w2 (fun k => W0.heap.size ≤ k ∧ k < w1.heap.size) ⟨0, 0, l, tx, .slice p m cc⟩ c) := ⟨HX.out.2.2.2.2.2.1.trans (hb02.mono HX.out.2.2.2.2.2.1.size), H1.out.2.below hb12⟩
    have hs0 := HX.out.2.2.2.2.2.2.1
    have hne : ¬ w1.heap.size = w.heap.size := by have := H1.out.1.size; omega
    clear hW1 hbW hHW hb2 hb12 hb02
    go_wp2
    refine bodyPost_ret (v := .tuple #[.agg #[.bool l, .string tx, .slice p m cc], .bool true]) (by simp [results, Tryz.results22, go_sem, a0, a1, a2]) rfl ?_
    refine ⟨((H2.out.1.setCell (Nat.le_refl _) _).setCell (Nat.le_refl _) _).setCell (Nat.le_refl _) _, l, tx, p, m, cc, rfl, ?_⟩
    rw [HX.out.2.2.2.2.1]
    refine Tree.keep (fun k hk => by have := HX.out.2.2.2.2.2.2.1; omega) (by simp) (fun k hk _ => ?_) d H2.out.2
    rw [Below.heap_setCell _ _ _ _ (by simp only; omega), Below.heap_setCell _ _ _ _ (by simp only; omega), Below.heap_setCell _ _ _ _ (by simp only; omega)]
  · have i1 : (32 : Int) ≤ ((textB c).size : Int) := by omega
    have HD := Hid.hide (digest_any (textB c) W0 (hTab.below hb0 hM) (by omega))
    have HX : Hid (refOf c = textCode (digB c) ∧ Below w.heap.size w W0 ∧ W0.heap.size = w.heap.size + 1 ∧ Held W0 w.heap.size [.bool false, .string ⟨#[]⟩, .slice none 0 0]) := ⟨by unfold refOf; rw [if_neg hsm], hb0, hs0, hH0⟩
    clear hx hf hd hcb hl hF hT hTab hM hb0 hs0 hH0 hbc hsm hlen
    go_enter Tryz.func22, Tryz.ntmps22
    go_wp2_with fail
    refine HD.out.mono ?_
    rintro e w1 ⟨rfl, hb1⟩
    have hDs : (digF (textB c)).size = 32 := sumF_size _
    have hDb : Bytes (digF (textB c)) := sqzAt_bytes _ _
    have hDD : digB c = (digF (textB c)).toList := rfl
    generalize digF (textB c) = D at hDs hDb hDD ⊢
    obtain ⟨t1, z1, z1', o1, b1, r1, s1⟩ := laid_hash w1 D hDs
    have H1 : Hid (Below W0.heap.size W0 w1 ∧ digB c = D.toList ∧ D.size = 32 ∧ Bytes D) := ⟨hb1, hDD, hDs, hDb⟩
    clear hb1 hDD hDs hDb hW0
    go_wp2_with (first | (refine wpList_store_mid rfl 34 _ _ rfl w1.heap.size 0 (D.toList.map encB).toArray rfl rfl t1 z1 o1 ?_; rw [List.toList_toArray]; generalize World.setCells _ _ _ _ = w2 at b1 r1 s1 ⊢; clear t1 z1 o1) | (refine wpList_load_mid rfl 34 _ rfl w1.heap.size 0 rfl (D.toList.map encB) _ r1 Tryz.underlying34 rfl z1' ?_))
    refine (letters_any D w2 H1.out.2.2.1 H1.out.2.2.2).mono ?_
    rintro e w3 ⟨rfl, hb3⟩
    have hb02 : Below W0.heap.size W0 w3 := H1.out.1.trans ((b1.trans (hb3.mono b1.size)).mono H1.out.1.size)
    obtain ⟨a0, f0⟩ := (HX.out.2.2.2.below hb02).2 0 _ rfl
    obtain ⟨a1, f1⟩ := (HX.out.2.2.2.below hb02).2 1 _ rfl
    obtain ⟨a2, f2⟩ := (HX.out.2.2.2.below hb02).2 2 _ rfl
    have hto : textOf D.toList = textB D.toList := rfl
    rw [hto]
    have H2 : Hid (Below w.heap.size w w3) := HX.out.2.1.trans (hb02.mono HX.out.2.1.size)
    clear hb3 hb02 b1 r1 s1 hto
    go_wp2
    refine bodyPost_ret (v := .tuple #[.agg #[.bool false, .string (textB D.toList), .slice none 0 0], .bool true]) (by simp [results, Tryz.results22, go_sem, a0, a1, a2]) rfl ?_
    refine ⟨((H2.out.setCell (Nat.le_refl _) _).setCell (Nat.le_refl _) _).setCell (Nat.le_refl _) _, false, textB D.toList, none, 0, 0, rfl, Tree.text ⟨⟨rfl, rfl⟩, ?_⟩ d⟩
    show refOf c = textCode (bytesOf (textB D.toList))
    rw [HX.out.1, ← H1.out.2.1, bytesOf_textB (digB_byte c)]
end Go.Proofs.YtjiikjpnlgogfaaGreatDoor
