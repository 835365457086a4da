/-
  Canonical: the walk.
-/
import Derived.Test.YtjiikjpnlgogfaaDoorCanG
namespace Go.Proofs.YtjiikjpnlgogfaaDoor
open Go.RowKit

set_option maxRecDepth 100000 in
set_option maxHeartbeats 32000000 in
theorem canon_walk (s : ByteArray) (w : World) (sent : Nat → Addr) (hF : Faults w sent) (hT : typeAt w) (hs : s.size ≤ 2097152) :
    Calls Tryd.prog 5 #[.string s] w fun e w' => Below w.heap.size w w' ∧ e = .returned (.bool true) := by
  have hlg : 14 < w.heap.size := World.block_lt_of_cell? w _ hT
  have H1 := Hid.hide (fun t => first_any w t sent hF)
  have HD : Hid (∀ W, Below w.heap.size w W → Calls Tryd.prog 14 #[.string s] W (DecSoft s W)) := fun W hW => dec_soft s sent W (hF.below hW) ((hW.cell (p := ⟨14, 0, none⟩) hlg).trans hT)
  have HU : Hid (∀ W, Below w.heap.size w W → Calls Tryd.prog 20 #[.string s] W (UnpSoft s W)) := fun W hW => unp_soft s sent W (hF.below hW) hs
  have HA : Hid (Faults w sent ∧ typeAt w) := ⟨hF, hT⟩
  clear hF hT hs hlg
  go_enter Tryd.func5, Tryd.ntmps5
  go_wp2_with (go_at_call 12; refine (H1.out _).mono ?_; rintro e w1 ⟨hb1, rfl⟩; have B1 : Aside (Below w.heap.size w w1) := hb1; clear hb1)
  refine (HD.out _ B1.out).mono ?_
  rintro e w2 ⟨hb2, l, tx, p, m, c, n, k, rfl, hE, hN⟩
  have B2 : Aside (Below w.heap.size w w2) := Below.behind B1.out hb2
  have HE := Hid.hide hE
  have HN := Hid.hide hN
  clear hb2 hE hN B1
  go_wp2_with fail
  refine (HE.out _ (((Below.refl _ _).alloc (Nat.le_refl _) _).alloc (by simp) _)).mono ?_
  rintro e w3 ⟨hb3, t, g, rfl, hg⟩
  have B3 : Aside (Below w.heap.size w w3) := Below.behind B2.out (Below.up (Below.up hb3))
  have X3 : Aside (Four w3 (w2.heap.size + 1) n 0 0 k ∧ w2.heap.size + 1 < w3.heap.size ∧ w.heap.size ≤ w2.heap.size) := by
    have h := (Four.fresh (w2.alloc (.cells #[.bool l, .string tx, .slice p m c] 38)) n 0 0 k 45).keep (hb3.block _ (by simp)) hb3.size
    rw [show (w2.alloc (.cells #[.bool l, .string tx, .slice p m c] 38)).heap.size = w2.heap.size + 1 by simp] at h
    exact ⟨h, h.lt, B2.out.size⟩
  have x0 : w3.cell? ⟨w2.heap.size, 0, none⟩ = some (.bool l) := (hb3.cell (p := ⟨w2.heap.size, 0, none⟩) (by simp; omega)).trans (by go_simp)
  have x1 : w3.cell? ⟨w2.heap.size, 1, none⟩ = some (.string tx) := (hb3.cell (p := ⟨w2.heap.size, 1, none⟩) (by simp; omega)).trans (by go_simp)
  have x2 : w3.cell? ⟨w2.heap.size, 2, none⟩ = some (.slice p m c) := (hb3.cell (p := ⟨w2.heap.size, 2, none⟩) (by simp; omega)).trans (by go_simp)
  have c0 := X3.out.1.c0
  have c3 := X3.out.1.c3
  clear hb3 B2 HE
  have Y3 : Aside (∃ n k, Four w3 (w2.heap.size + 1) n 0 0 k) := ⟨n, k, X3.out.1⟩
  have Z3 : Aside (w.heap.size ≤ w2.heap.size) := X3.out.2.2
  clear X3
  by_cases hn : n = 0
  · have ht := (hg hn).2.symm
    have hg0 := (hg hn).1
    subst ht hg0 hn
    clear hg HN x0 x1 x2 c3
    go_wp2_with fail
    refine (HU.out _ B3.out).mono ?_
    rintro e w4 ⟨hb4, P, leaf, h, rfl, hP, hQ⟩
    have B4 : Aside (Below w.heap.size w w4) := Below.behind B3.out hb4
    have Y4 : Aside (∃ n k, Four w4 (w2.heap.size + 1) n 0 0 k) := by
      obtain ⟨n', k', hf⟩ := Y3.out
      exact ⟨n', k', hf.keep (hb4.block _ hf.lt) hb4.size⟩
    have HP := Hid.hide hP
    have HQ := Hid.hide hQ
    clear hb4 hP hQ B3 Y3
    go_wp2_with fail
    refine (HP.out _).mono ?_
    rintro e w5 ⟨hb5, t2, g2, rfl, hg2⟩
    have B5 : Aside (Below w.heap.size w w5) := Below.behind B4.out hb5
    have Y5 : Aside (∃ n k, Four w5 (w2.heap.size + 1) n 0 0 k) := by
      obtain ⟨n', k', hf⟩ := Y4.out
      exact ⟨n', k', hf.keep (hb5.block _ hf.lt) hb5.size⟩
    clear hb5 B4 Y4 HP
    by_cases hh : h = 0
    · have ht2 := (hg2 hh).2.symm
      have hg20 := (hg2 hh).1
      subst ht2 hg20 hh
      clear hg2 HQ
      go_wp2_with fail
      cases ha : accF (bytesOf s) with
      | ok a =>
        refine (tdecacc_ok s sent w5 (HA.out.1.below B5.out) ha).mono ?_
        rintro e w6 ⟨hb6, rfl⟩
        obtain ⟨hok, hcode⟩ := accF_ok (byte_lt s) ha
        have hEa := fun W => tencacc a hok W
        rw [hcode, textB_bytesOf] at hEa
        have hsz : (accL a).toArray.size = 66 := by rw [List.size_toArray]; exact accL_length hok.2.2.1 hok.2.2.2.1
        have hone := accL_one a
        generalize (accL a).toArray = A at hEa hsz hone ⊢
        have HEa := Hid.hide hEa
        have hzA : (Tryd.prog.info? 57).map (·.size) = some A.size := by rw [zeroA_size, hsz]
        have hzL : (Tryd.prog.info? 57).map (·.size) = some A.toList.length := by rw [Array.length_toList]; exact hzA
        have B6 : Aside (Below w.heap.size w w6) := Below.behind B5.out hb6
        have Y6 : Aside (∃ n k, Four w6 (w2.heap.size + 1) n 0 0 k) := by
          obtain ⟨n', k', hf⟩ := Y5.out
          exact ⟨n', k', hf.keep (hb6.block _ hf.lt) hb6.size⟩
        have hthZ : ∀ C : Array Value, 66 = C.size → (w6.alloc (.cells C 57)).there w6.heap.size 0 A.size := fun C hC => there_new _ _ _ _ (by rw [hsz]; exact hC)
        have hL : ∀ C : Array Value, 66 = C.size → A.toList.length = C.size := fun C hC => by rw [Array.length_toList, hsz]; exact hC
        clear hEa hcode hok hsz hb6 B5 Y5 HA HD HU H1 ha
        go_wp2_with (first
          | (refine wpList_store_mid rfl 57 _ _ rfl w6.heap.size 0 A rfl rfl (hthZ _ rfl) hzA hone ?_
             generalize hX : World.setCells _ w6.heap.size 0 _ = w7
             have B7 : Aside (Below w.heap.size w w7) := Below.behind B6.out (newH hX)
             have r7 := (newH_row hX (hL _ rfl)).1
             obtain ⟨n7, k7, hf⟩ := Y6.out
             have hne : w6.heap.size ≠ w2.heap.size + 1 := by have := hf.lt; omega
             have hf7 : Four w7 (w2.heap.size + 1) n7 0 0 k7 := hf.keep ((newH hX).block _ hf.lt) (newH hX).size
             clear hX hf hthZ hL
             obtain ⟨lt7, c0, c1, c2, c3, free⟩ := hf7
             have z0 := free 0 (by omega)
             have z1 := free 1 (by omega)
             have z2 := free 2 (by omega)
             have z3 := free 3 (by omega)
             clear free lt7)
          | (generalize hw9 : World.setCell (World.setCell (World.setCell (World.setCell w7 _ _) _ _) _ _) _ _ = w9
             have r9 : w9.rangeAt w6.heap.size 0 A.toList := hw9 ▸ range_set4 r7 hne _ _ _ _
             have B9 : Aside (Below w.heap.size w w9) := hw9 ▸ below_set4 B7.out (Nat.le_succ_of_le Z3.out) _ _ _ _
             clear hw9
             refine wpList_load_mid rfl 57 _ rfl w6.heap.size 0 rfl A.toList _ r9 Tryd.underlying57 rfl hzL ?_)
          | (go_at_call 22; refine (HEa.out _).mono ?_; rintro e w8 ⟨rfl, hb8⟩))
        go_ret
        exact ⟨Below.behind B9.out hb8, rfl⟩
      | error er =>
        refine (tdecacc_err s sent w5 (HA.out.1.below B5.out) (typeAt_below HA.out.2 B5.out) ha).mono ?_
        rintro e w6 ⟨hb6, rfl⟩
        obtain ⟨q1, q2, q3, q4⟩ := accF_error (byte_lt s) ha
        rw [q3, q4]
        have hsz : (accL zeroAcc).toArray.size = 66 := rfl
        have hone := accL_one zeroAcc
        have heq := fun W => zeroA_eq2 W
        generalize (accL zeroAcc).toArray = A at hsz hone heq ⊢
        generalize er.num = en at q2 ⊢
        generalize er.at_ = ek
        have hzA : (Tryd.prog.info? 57).map (·.size) = some A.size := by rw [zeroA_size, hsz]
        have hzL : (Tryd.prog.info? 57).map (·.size) = some A.toList.length := by rw [Array.length_toList]; exact hzA
        have B6 : Aside (Below w.heap.size w w6) := Below.behind B5.out hb6
        have Y6 : Aside (∃ n k, Four w6 (w2.heap.size + 1) n 0 0 k) := by
          obtain ⟨n', k', hf⟩ := Y5.out
          exact ⟨n', k', hf.keep (hb6.block _ hf.lt) hb6.size⟩
        have hthZ : ∀ C : Array Value, 66 = C.size → (w6.alloc (.cells C 57)).there w6.heap.size 0 A.size := fun C hC => there_new _ _ _ _ (by rw [hsz]; exact hC)
        have hL : ∀ C : Array Value, 66 = C.size → A.toList.length = C.size := fun C hC => by rw [Array.length_toList, hsz]; exact hC
        have q2' : ¬ en = 0 := q2
        clear hsz hb6 B5 Y5 HA HD HU H1 ha q1 q2 q3 q4
        go_wp2_with (first
          | (refine wpList_store_mid rfl 57 _ _ rfl w6.heap.size 0 A rfl rfl (hthZ _ rfl) hzA hone ?_
             generalize hX : World.setCells _ w6.heap.size 0 _ = w7
             have B7 : Aside (Below w.heap.size w w7) := Below.behind B6.out (newH hX)
             have r7 := (newH_row hX (hL _ rfl)).1
             obtain ⟨n7, k7, hf⟩ := Y6.out
             have hne : w6.heap.size ≠ w2.heap.size + 1 := by have := hf.lt; omega
             have hf7 : Four w7 (w2.heap.size + 1) n7 0 0 k7 := hf.keep ((newH hX).block _ hf.lt) (newH hX).size
             clear hX hf hthZ hL
             obtain ⟨lt7, c0, c1, c2, c3, free⟩ := hf7
             have z0 := free 0 (by omega)
             have z1 := free 1 (by omega)
             have z2 := free 2 (by omega)
             have z3 := free 3 (by omega)
             clear free lt7)
          | (generalize hw9 : World.setCell (World.setCell (World.setCell (World.setCell w7 _ _) _ _) _ _) _ _ = w9
             have r9 : w9.rangeAt w6.heap.size 0 A.toList := hw9 ▸ range_set4 r7 hne _ _ _ _
             have B9 : Aside (Below w.heap.size w w9) := hw9 ▸ below_set4 B7.out (Nat.le_succ_of_le Z3.out) _ _ _ _
             clear hw9
             refine wpList_load_mid rfl 57 _ rfl w6.heap.size 0 rfl A.toList _ r9 Tryd.underlying57 rfl hzL ?_))
        go_ret
        exact ⟨B9.out, rfl⟩
    · obtain ⟨rfl, rfl⟩ := HQ.out hh
      clear hg2 HQ
      go_wp2_with fail
      clear hh
      cases ha : accF (bytesOf s) with
      | ok a =>
        refine (tdecacc_ok s sent w5 (HA.out.1.below B5.out) ha).mono ?_
        rintro e w6 ⟨hb6, rfl⟩
        obtain ⟨hok, hcode⟩ := accF_ok (byte_lt s) ha
        have hEa := fun W => tencacc a hok W
        rw [hcode, textB_bytesOf] at hEa
        have hsz : (accL a).toArray.size = 66 := by rw [List.size_toArray]; exact accL_length hok.2.2.1 hok.2.2.2.1
        have hone := accL_one a
        generalize (accL a).toArray = A at hEa hsz hone ⊢
        have HEa := Hid.hide hEa
        have hzA : (Tryd.prog.info? 57).map (·.size) = some A.size := by rw [zeroA_size, hsz]
        have hzL : (Tryd.prog.info? 57).map (·.size) = some A.toList.length := by rw [Array.length_toList]; exact hzA
        have B6 : Aside (Below w.heap.size w w6) := Below.behind B5.out hb6
        have Y6 : Aside (∃ n k, Four w6 (w2.heap.size + 1) n 0 0 k) := by
          obtain ⟨n', k', hf⟩ := Y5.out
          exact ⟨n', k', hf.keep (hb6.block _ hf.lt) hb6.size⟩
        have hthZ : ∀ C : Array Value, 66 = C.size → (w6.alloc (.cells C 57)).there w6.heap.size 0 A.size := fun C hC => there_new _ _ _ _ (by rw [hsz]; exact hC)
        have hL : ∀ C : Array Value, 66 = C.size → A.toList.length = C.size := fun C hC => by rw [Array.length_toList, hsz]; exact hC
        clear hEa hcode hok hsz hb6 B5 Y5 HA HD HU H1 ha
        go_wp2_with (first
          | (refine wpList_store_mid rfl 57 _ _ rfl w6.heap.size 0 A rfl rfl (hthZ _ rfl) hzA hone ?_
             generalize hX : World.setCells _ w6.heap.size 0 _ = w7
             have B7 : Aside (Below w.heap.size w w7) := Below.behind B6.out (newH hX)
             have r7 := (newH_row hX (hL _ rfl)).1
             obtain ⟨n7, k7, hf⟩ := Y6.out
             have hne : w6.heap.size ≠ w2.heap.size + 1 := by have := hf.lt; omega
             have hf7 : Four w7 (w2.heap.size + 1) n7 0 0 k7 := hf.keep ((newH hX).block _ hf.lt) (newH hX).size
             clear hX hf hthZ hL
             obtain ⟨lt7, c0, c1, c2, c3, free⟩ := hf7
             have z0 := free 0 (by omega)
             have z1 := free 1 (by omega)
             have z2 := free 2 (by omega)
             have z3 := free 3 (by omega)
             clear free lt7)
          | (generalize hw9 : World.setCell (World.setCell (World.setCell (World.setCell w7 _ _) _ _) _ _) _ _ = w9
             have r9 : w9.rangeAt w6.heap.size 0 A.toList := hw9 ▸ range_set4 r7 hne _ _ _ _
             have B9 : Aside (Below w.heap.size w w9) := hw9 ▸ below_set4 B7.out (Nat.le_succ_of_le Z3.out) _ _ _ _
             clear hw9
             refine wpList_load_mid rfl 57 _ rfl w6.heap.size 0 rfl A.toList _ r9 Tryd.underlying57 rfl hzL ?_)
          | (go_at_call 22; refine (HEa.out _).mono ?_; rintro e w8 ⟨rfl, hb8⟩))
        go_ret
        exact ⟨Below.behind B9.out hb8, rfl⟩
      | error er =>
        refine (tdecacc_err s sent w5 (HA.out.1.below B5.out) (typeAt_below HA.out.2 B5.out) ha).mono ?_
        rintro e w6 ⟨hb6, rfl⟩
        obtain ⟨q1, q2, q3, q4⟩ := accF_error (byte_lt s) ha
        rw [q3, q4]
        have hsz : (accL zeroAcc).toArray.size = 66 := rfl
        have hone := accL_one zeroAcc
        have heq := fun W => zeroA_eq2 W
        generalize (accL zeroAcc).toArray = A at hsz hone heq ⊢
        generalize er.num = en at q2 ⊢
        generalize er.at_ = ek
        have hzA : (Tryd.prog.info? 57).map (·.size) = some A.size := by rw [zeroA_size, hsz]
        have hzL : (Tryd.prog.info? 57).map (·.size) = some A.toList.length := by rw [Array.length_toList]; exact hzA
        have B6 : Aside (Below w.heap.size w w6) := Below.behind B5.out hb6
        have Y6 : Aside (∃ n k, Four w6 (w2.heap.size + 1) n 0 0 k) := by
          obtain ⟨n', k', hf⟩ := Y5.out
          exact ⟨n', k', hf.keep (hb6.block _ hf.lt) hb6.size⟩
        have hthZ : ∀ C : Array Value, 66 = C.size → (w6.alloc (.cells C 57)).there w6.heap.size 0 A.size := fun C hC => there_new _ _ _ _ (by rw [hsz]; exact hC)
        have hL : ∀ C : Array Value, 66 = C.size → A.toList.length = C.size := fun C hC => by rw [Array.length_toList, hsz]; exact hC
        have q2' : ¬ en = 0 := q2
        clear hsz hb6 B5 Y5 HA HD HU H1 ha q1 q2 q3 q4
        go_wp2_with (first
          | (refine wpList_store_mid rfl 57 _ _ rfl w6.heap.size 0 A rfl rfl (hthZ _ rfl) hzA hone ?_
             generalize hX : World.setCells _ w6.heap.size 0 _ = w7
             have B7 : Aside (Below w.heap.size w w7) := Below.behind B6.out (newH hX)
             have r7 := (newH_row hX (hL _ rfl)).1
             obtain ⟨n7, k7, hf⟩ := Y6.out
             have hne : w6.heap.size ≠ w2.heap.size + 1 := by have := hf.lt; omega
             have hf7 : Four w7 (w2.heap.size + 1) n7 0 0 k7 := hf.keep ((newH hX).block _ hf.lt) (newH hX).size
             clear hX hf hthZ hL
             obtain ⟨lt7, c0, c1, c2, c3, free⟩ := hf7
             have z0 := free 0 (by omega)
             have z1 := free 1 (by omega)
             have z2 := free 2 (by omega)
             have z3 := free 3 (by omega)
             clear free lt7)
          | (generalize hw9 : World.setCell (World.setCell (World.setCell (World.setCell w7 _ _) _ _) _ _) _ _ = w9
             have r9 : w9.rangeAt w6.heap.size 0 A.toList := hw9 ▸ range_set4 r7 hne _ _ _ _
             have B9 : Aside (Below w.heap.size w w9) := hw9 ▸ below_set4 B7.out (Nat.le_succ_of_le Z3.out) _ _ _ _
             clear hw9
             refine wpList_load_mid rfl 57 _ rfl w6.heap.size 0 rfl A.toList _ r9 Tryd.underlying57 rfl hzL ?_))
        go_ret
        exact ⟨B9.out, rfl⟩
  · obtain ⟨rfl, rfl, rfl, hk⟩ := HN.out hn
    have hk' : ¬ s.size < k := by omega
    clear hg HN hk
    go_wp2_with fail
    clear hn hk' x0 x1 x2 c0 c3
    refine (HU.out _ B3.out).mono ?_
    rintro e w4 ⟨hb4, P, leaf, h, rfl, hP, hQ⟩
    have B4 : Aside (Below w.heap.size w w4) := Below.behind B3.out hb4
    have Y4 : Aside (∃ n k, Four w4 (w2.heap.size + 1) n 0 0 k) := by
      obtain ⟨n', k', hf⟩ := Y3.out
      exact ⟨n', k', hf.keep (hb4.block _ hf.lt) hb4.size⟩
    have HP := Hid.hide hP
    have HQ := Hid.hide hQ
    clear hb4 hP hQ B3 Y3
    go_wp2_with fail
    refine (HP.out _).mono ?_
    rintro e w5 ⟨hb5, t2, g2, rfl, hg2⟩
    have B5 : Aside (Below w.heap.size w w5) := Below.behind B4.out hb5
    have Y5 : Aside (∃ n k, Four w5 (w2.heap.size + 1) n 0 0 k) := by
      obtain ⟨n', k', hf⟩ := Y4.out
      exact ⟨n', k', hf.keep (hb5.block _ hf.lt) hb5.size⟩
    clear hb5 B4 Y4 HP
    by_cases hh : h = 0
    · have ht2 := (hg2 hh).2.symm
      have hg20 := (hg2 hh).1
      subst ht2 hg20 hh
      clear hg2 HQ
      go_wp2_with fail
      cases ha : accF (bytesOf s) with
      | ok a =>
        refine (tdecacc_ok s sent w5 (HA.out.1.below B5.out) ha).mono ?_
        rintro e w6 ⟨hb6, rfl⟩
        obtain ⟨hok, hcode⟩ := accF_ok (byte_lt s) ha
        have hEa := fun W => tencacc a hok W
        rw [hcode, textB_bytesOf] at hEa
        have hsz : (accL a).toArray.size = 66 := by rw [List.size_toArray]; exact accL_length hok.2.2.1 hok.2.2.2.1
        have hone := accL_one a
        generalize (accL a).toArray = A at hEa hsz hone ⊢
        have HEa := Hid.hide hEa
        have hzA : (Tryd.prog.info? 57).map (·.size) = some A.size := by rw [zeroA_size, hsz]
        have hzL : (Tryd.prog.info? 57).map (·.size) = some A.toList.length := by rw [Array.length_toList]; exact hzA
        have B6 : Aside (Below w.heap.size w w6) := Below.behind B5.out hb6
        have Y6 : Aside (∃ n k, Four w6 (w2.heap.size + 1) n 0 0 k) := by
          obtain ⟨n', k', hf⟩ := Y5.out
          exact ⟨n', k', hf.keep (hb6.block _ hf.lt) hb6.size⟩
        have hthZ : ∀ C : Array Value, 66 = C.size → (w6.alloc (.cells C 57)).there w6.heap.size 0 A.size := fun C hC => there_new _ _ _ _ (by rw [hsz]; exact hC)
        have hL : ∀ C : Array Value, 66 = C.size → A.toList.length = C.size := fun C hC => by rw [Array.length_toList, hsz]; exact hC
        clear hEa hcode hok hsz hb6 B5 Y5 HA HD HU H1 ha
        go_wp2_with (first
          | (refine wpList_store_mid rfl 57 _ _ rfl w6.heap.size 0 A rfl rfl (hthZ _ rfl) hzA hone ?_
             generalize hX : World.setCells _ w6.heap.size 0 _ = w7
             have B7 : Aside (Below w.heap.size w w7) := Below.behind B6.out (newH hX)
             have r7 := (newH_row hX (hL _ rfl)).1
             obtain ⟨n7, k7, hf⟩ := Y6.out
             have hne : w6.heap.size ≠ w2.heap.size + 1 := by have := hf.lt; omega
             have hf7 : Four w7 (w2.heap.size + 1) n7 0 0 k7 := hf.keep ((newH hX).block _ hf.lt) (newH hX).size
             clear hX hf hthZ hL
             obtain ⟨lt7, c0, c1, c2, c3, free⟩ := hf7
             have z0 := free 0 (by omega)
             have z1 := free 1 (by omega)
             have z2 := free 2 (by omega)
             have z3 := free 3 (by omega)
             clear free lt7)
          | (generalize hw9 : World.setCell (World.setCell (World.setCell (World.setCell w7 _ _) _ _) _ _) _ _ = w9
             have r9 : w9.rangeAt w6.heap.size 0 A.toList := hw9 ▸ range_set4 r7 hne _ _ _ _
             have B9 : Aside (Below w.heap.size w w9) := hw9 ▸ below_set4 B7.out (Nat.le_succ_of_le Z3.out) _ _ _ _
             clear hw9
             refine wpList_load_mid rfl 57 _ rfl w6.heap.size 0 rfl A.toList _ r9 Tryd.underlying57 rfl hzL ?_)
          | (go_at_call 22; refine (HEa.out _).mono ?_; rintro e w8 ⟨rfl, hb8⟩))
        go_ret
        exact ⟨Below.behind B9.out hb8, rfl⟩
      | error er =>
        refine (tdecacc_err s sent w5 (HA.out.1.below B5.out) (typeAt_below HA.out.2 B5.out) ha).mono ?_
        rintro e w6 ⟨hb6, rfl⟩
        obtain ⟨q1, q2, q3, q4⟩ := accF_error (byte_lt s) ha
        rw [q3, q4]
        have hsz : (accL zeroAcc).toArray.size = 66 := rfl
        have hone := accL_one zeroAcc
        have heq := fun W => zeroA_eq2 W
        generalize (accL zeroAcc).toArray = A at hsz hone heq ⊢
        generalize er.num = en at q2 ⊢
        generalize er.at_ = ek
        have hzA : (Tryd.prog.info? 57).map (·.size) = some A.size := by rw [zeroA_size, hsz]
        have hzL : (Tryd.prog.info? 57).map (·.size) = some A.toList.length := by rw [Array.length_toList]; exact hzA
        have B6 : Aside (Below w.heap.size w w6) := Below.behind B5.out hb6
        have Y6 : Aside (∃ n k, Four w6 (w2.heap.size + 1) n 0 0 k) := by
          obtain ⟨n', k', hf⟩ := Y5.out
          exact ⟨n', k', hf.keep (hb6.block _ hf.lt) hb6.size⟩
        have hthZ : ∀ C : Array Value, 66 = C.size → (w6.alloc (.cells C 57)).there w6.heap.size 0 A.size := fun C hC => there_new _ _ _ _ (by rw [hsz]; exact hC)
        have hL : ∀ C : Array Value, 66 = C.size → A.toList.length = C.size := fun C hC => by rw [Array.length_toList, hsz]; exact hC
        have q2' : ¬ en = 0 := q2
        clear hsz hb6 B5 Y5 HA HD HU H1 ha q1 q2 q3 q4
        go_wp2_with (first
          | (refine wpList_store_mid rfl 57 _ _ rfl w6.heap.size 0 A rfl rfl (hthZ _ rfl) hzA hone ?_
             generalize hX : World.setCells _ w6.heap.size 0 _ = w7
             have B7 : Aside (Below w.heap.size w w7) := Below.behind B6.out (newH hX)
             have r7 := (newH_row hX (hL _ rfl)).1
             obtain ⟨n7, k7, hf⟩ := Y6.out
             have hne : w6.heap.size ≠ w2.heap.size + 1 := by have := hf.lt; omega
             have hf7 : Four w7 (w2.heap.size + 1) n7 0 0 k7 := hf.keep ((newH hX).block _ hf.lt) (newH hX).size
             clear hX hf hthZ hL
             obtain ⟨lt7, c0, c1, c2, c3, free⟩ := hf7
             have z0 := free 0 (by omega)
             have z1 := free 1 (by omega)
             have z2 := free 2 (by omega)
             have z3 := free 3 (by omega)
             clear free lt7)
          | (generalize hw9 : World.setCell (World.setCell (World.setCell (World.setCell w7 _ _) _ _) _ _) _ _ = w9
             have r9 : w9.rangeAt w6.heap.size 0 A.toList := hw9 ▸ range_set4 r7 hne _ _ _ _
             have B9 : Aside (Below w.heap.size w w9) := hw9 ▸ below_set4 B7.out (Nat.le_succ_of_le Z3.out) _ _ _ _
             clear hw9
             refine wpList_load_mid rfl 57 _ rfl w6.heap.size 0 rfl A.toList _ r9 Tryd.underlying57 rfl hzL ?_))
        go_ret
        exact ⟨B9.out, rfl⟩
    · obtain ⟨rfl, rfl⟩ := HQ.out hh
      clear hg2 HQ
      go_wp2_with fail
      clear hh
      cases ha : accF (bytesOf s) with
      | ok a =>
        refine (tdecacc_ok s sent w5 (HA.out.1.below B5.out) ha).mono ?_
        rintro e w6 ⟨hb6, rfl⟩
        obtain ⟨hok, hcode⟩ := accF_ok (byte_lt s) ha
        have hEa := fun W => tencacc a hok W
        rw [hcode, textB_bytesOf] at hEa
        have hsz : (accL a).toArray.size = 66 := by rw [List.size_toArray]; exact accL_length hok.2.2.1 hok.2.2.2.1
        have hone := accL_one a
        generalize (accL a).toArray = A at hEa hsz hone ⊢
        have HEa := Hid.hide hEa
        have hzA : (Tryd.prog.info? 57).map (·.size) = some A.size := by rw [zeroA_size, hsz]
        have hzL : (Tryd.prog.info? 57).map (·.size) = some A.toList.length := by rw [Array.length_toList]; exact hzA
        have B6 : Aside (Below w.heap.size w w6) := Below.behind B5.out hb6
        have Y6 : Aside (∃ n k, Four w6 (w2.heap.size + 1) n 0 0 k) := by
          obtain ⟨n', k', hf⟩ := Y5.out
          exact ⟨n', k', hf.keep (hb6.block _ hf.lt) hb6.size⟩
        have hthZ : ∀ C : Array Value, 66 = C.size → (w6.alloc (.cells C 57)).there w6.heap.size 0 A.size := fun C hC => there_new _ _ _ _ (by rw [hsz]; exact hC)
        have hL : ∀ C : Array Value, 66 = C.size → A.toList.length = C.size := fun C hC => by rw [Array.length_toList, hsz]; exact hC
        clear hEa hcode hok hsz hb6 B5 Y5 HA HD HU H1 ha
        go_wp2_with (first
          | (refine wpList_store_mid rfl 57 _ _ rfl w6.heap.size 0 A rfl rfl (hthZ _ rfl) hzA hone ?_
             generalize hX : World.setCells _ w6.heap.size 0 _ = w7
             have B7 : Aside (Below w.heap.size w w7) := Below.behind B6.out (newH hX)
             have r7 := (newH_row hX (hL _ rfl)).1
             obtain ⟨n7, k7, hf⟩ := Y6.out
             have hne : w6.heap.size ≠ w2.heap.size + 1 := by have := hf.lt; omega
             have hf7 : Four w7 (w2.heap.size + 1) n7 0 0 k7 := hf.keep ((newH hX).block _ hf.lt) (newH hX).size
             clear hX hf hthZ hL
             obtain ⟨lt7, c0, c1, c2, c3, free⟩ := hf7
             have z0 := free 0 (by omega)
             have z1 := free 1 (by omega)
             have z2 := free 2 (by omega)
             have z3 := free 3 (by omega)
             clear free lt7)
          | (generalize hw9 : World.setCell (World.setCell (World.setCell (World.setCell w7 _ _) _ _) _ _) _ _ = w9
             have r9 : w9.rangeAt w6.heap.size 0 A.toList := hw9 ▸ range_set4 r7 hne _ _ _ _
             have B9 : Aside (Below w.heap.size w w9) := hw9 ▸ below_set4 B7.out (Nat.le_succ_of_le Z3.out) _ _ _ _
             clear hw9
             refine wpList_load_mid rfl 57 _ rfl w6.heap.size 0 rfl A.toList _ r9 Tryd.underlying57 rfl hzL ?_)
          | (go_at_call 22; refine (HEa.out _).mono ?_; rintro e w8 ⟨rfl, hb8⟩))
        go_ret
        exact ⟨Below.behind B9.out hb8, rfl⟩
      | error er =>
        refine (tdecacc_err s sent w5 (HA.out.1.below B5.out) (typeAt_below HA.out.2 B5.out) ha).mono ?_
        rintro e w6 ⟨hb6, rfl⟩
        obtain ⟨q1, q2, q3, q4⟩ := accF_error (byte_lt s) ha
        rw [q3, q4]
        have hsz : (accL zeroAcc).toArray.size = 66 := rfl
        have hone := accL_one zeroAcc
        have heq := fun W => zeroA_eq2 W
        generalize (accL zeroAcc).toArray = A at hsz hone heq ⊢
        generalize er.num = en at q2 ⊢
        generalize er.at_ = ek
        have hzA : (Tryd.prog.info? 57).map (·.size) = some A.size := by rw [zeroA_size, hsz]
        have hzL : (Tryd.prog.info? 57).map (·.size) = some A.toList.length := by rw [Array.length_toList]; exact hzA
        have B6 : Aside (Below w.heap.size w w6) := Below.behind B5.out hb6
        have Y6 : Aside (∃ n k, Four w6 (w2.heap.size + 1) n 0 0 k) := by
          obtain ⟨n', k', hf⟩ := Y5.out
          exact ⟨n', k', hf.keep (hb6.block _ hf.lt) hb6.size⟩
        have hthZ : ∀ C : Array Value, 66 = C.size → (w6.alloc (.cells C 57)).there w6.heap.size 0 A.size := fun C hC => there_new _ _ _ _ (by rw [hsz]; exact hC)
        have hL : ∀ C : Array Value, 66 = C.size → A.toList.length = C.size := fun C hC => by rw [Array.length_toList, hsz]; exact hC
        have q2' : ¬ en = 0 := q2
        clear hsz hb6 B5 Y5 HA HD HU H1 ha q1 q2 q3 q4
        go_wp2_with (first
          | (refine wpList_store_mid rfl 57 _ _ rfl w6.heap.size 0 A rfl rfl (hthZ _ rfl) hzA hone ?_
             generalize hX : World.setCells _ w6.heap.size 0 _ = w7
             have B7 : Aside (Below w.heap.size w w7) := Below.behind B6.out (newH hX)
             have r7 := (newH_row hX (hL _ rfl)).1
             obtain ⟨n7, k7, hf⟩ := Y6.out
             have hne : w6.heap.size ≠ w2.heap.size + 1 := by have := hf.lt; omega
             have hf7 : Four w7 (w2.heap.size + 1) n7 0 0 k7 := hf.keep ((newH hX).block _ hf.lt) (newH hX).size
             clear hX hf hthZ hL
             obtain ⟨lt7, c0, c1, c2, c3, free⟩ := hf7
             have z0 := free 0 (by omega)
             have z1 := free 1 (by omega)
             have z2 := free 2 (by omega)
             have z3 := free 3 (by omega)
             clear free lt7)
          | (generalize hw9 : World.setCell (World.setCell (World.setCell (World.setCell w7 _ _) _ _) _ _) _ _ = w9
             have r9 : w9.rangeAt w6.heap.size 0 A.toList := hw9 ▸ range_set4 r7 hne _ _ _ _
             have B9 : Aside (Below w.heap.size w w9) := hw9 ▸ below_set4 B7.out (Nat.le_succ_of_le Z3.out) _ _ _ _
             clear hw9
             refine wpList_load_mid rfl 57 _ rfl w6.heap.size 0 rfl A.toList _ r9 Tryd.underlying57 rfl hzL ?_))
        go_ret
        exact ⟨B9.out, rfl⟩
end Go.Proofs.YtjiikjpnlgogfaaDoor
