/-
  DecodeAccount and EncodeAccount of package twigs.
  Accounts and paths: what is accepted is the code of what is given. Plain facts.
  DecodeAccount of package twigs, exactly.
-/
import Derived.Test.YtjiikjpnlgogfaaGreatDoorAccG
import Derived.Test.YtjiikjpnlgogfaaGreatDoorEndG
import Derived.Deep.RegionHeld3
namespace Go.Proofs.YtjiikjpnlgogfaaGreatDoor
open Go.RowKit

theorem tencacc (a : Acc) (ha : a.ok) (w : World) :
    Calls Tryz.prog 41 #[.agg (accL a).toArray] w fun e w' => e = .returned (.string (textB (encAcc a))) ∧ Below w.heap.size w w' := by
  have HE := Hid.hide (fun W => acc_encode a ha W)
  obtain ⟨A, hA⟩ : ∃ A, (accL a).toArray = A := ⟨_, rfl⟩
  have hsz : A.size = 66 := by rw [← hA, List.size_toArray]; exact accL_length ha.2.2.1 ha.2.2.2.1
  rw [hA] at HE ⊢
  obtain ⟨t, ht⟩ : ∃ t, textB (encAcc a) = t := ⟨_, rfl⟩
  rw [ht] at HE ⊢
  have hrow : ∀ W : World, (W.alloc (.cells A 85)).rangeAt W.heap.size 0 A.toList := fun W j u hu => by
    rw [Nat.zero_add, World.cell?_alloc_new]
    simpa using hu
  have hzL : (Tryz.prog.info? 85).map (·.size) = some A.toList.length := by rw [Array.length_toList, zeroA_size, hsz]
  clear hA ht
  go_enter Tryz.func41, Tryz.ntmps41
  go_wp2_with (first | (refine wpList_load_mid rfl 85 _ rfl w.heap.size 0 rfl A.toList _ (hrow w) Tryz.underlying85 rfl hzL ?_) | (go_at_call 61; refine (HE.out _).mono ?_; rintro e w1 ⟨rfl, hb1⟩))
  go_ret
  exact ⟨rfl, Below.up hb1⟩

theorem Four.set0 {w : World} {b x0 x1 x2 x3 : Nat} (h : Four w b x0 x1 x2 x3) (y : Nat) : Four (w.setCell ⟨b, 0, none⟩ (.int .i64 (y : Int))) b y x1 x2 x3 :=
  ⟨by simpa using h.lt, World.cell?_setCell_same _ _ _ h.c0, (World.cell?_setCell_other _ _ _ _ (by simp)).trans h.c1, (World.cell?_setCell_other _ _ _ _ (by simp)).trans h.c2, (World.cell?_setCell_other _ _ _ _ (by simp)).trans h.c3, fun j hj => by rw [World.frozen?_setCell]; exact h.free j hj⟩

theorem four_set {w w4 : World} {A : Array Value} (hb : Below w.heap.size w w4) (hr : w4.rangeAt w.heap.size 0 A.toList) (h : Four w4 (w.heap.size + 1) 0 0 0 0) (f0 f1 f2 f3 : Nat) :
    Four ((((w4.setCell ⟨w.heap.size + 1, 0, none⟩ (.int .i64 (f0 : Int))).setCell ⟨w.heap.size + 1, 1, none⟩ (.int .i64 (f1 : Int))).setCell ⟨w.heap.size + 1, 2, none⟩ (.int .i64 (f2 : Int))).setCell ⟨w.heap.size + 1, 3, none⟩ (.int .i64 (f3 : Int))) (w.heap.size + 1) f0 f1 f2 f3 ∧
    ((((w4.setCell ⟨w.heap.size + 1, 0, none⟩ (.int .i64 (f0 : Int))).setCell ⟨w.heap.size + 1, 1, none⟩ (.int .i64 (f1 : Int))).setCell ⟨w.heap.size + 1, 2, none⟩ (.int .i64 (f2 : Int))).setCell ⟨w.heap.size + 1, 3, none⟩ (.int .i64 (f3 : Int))).rangeAt w.heap.size 0 A.toList ∧
    Below w.heap.size w ((((w4.setCell ⟨w.heap.size + 1, 0, none⟩ (.int .i64 (f0 : Int))).setCell ⟨w.heap.size + 1, 1, none⟩ (.int .i64 (f1 : Int))).setCell ⟨w.heap.size + 1, 2, none⟩ (.int .i64 (f2 : Int))).setCell ⟨w.heap.size + 1, 3, none⟩ (.int .i64 (f3 : Int))) :=
  ⟨(((h.set0 f0).set1 f1).set2 f2).set3 f3, fun j u hu => (World.cell?_of_block ((((Below.heap_setCell _ _ _ _ (by simp)).trans (Below.heap_setCell _ _ _ _ (by simp))).trans (Below.heap_setCell _ _ _ _ (by simp))).trans (Below.heap_setCell _ _ _ _ (by simp)))).trans (hr j u hu), (((hb.setCell (by simp) _).setCell (by simp) _).setCell (by simp) _).setCell (by simp) _⟩

theorem load_fault {w : World} {c f0 f1 f2 f3 : Nat} (h : Four w c f0 f1 f2 f3) : (loadVar 66 ⟨c, 0, none⟩).run Tryz.prog w = .ok (faultV f0 f1 f2 f3) w := by
  obtain ⟨_, c0, c1, c2, c3, _⟩ := h
  simp [go_sem, c0, c1, c2, c3, faultV]

theorem results_cells {fn : Func} {p q : Tmp} {t1 t2 : TypeId} (h : fn.results = #[.cell p t1, .cell q t2]) (tmps : Array Value) (P : Program) (w : World) (b c : Nat) (hp : tmps.getD p undef = .pointer (some ⟨b, 0, none⟩)) (hq : tmps.getD q undef = .pointer (some ⟨c, 0, none⟩)) {v u : Value} (hv : (loadVar t1 ⟨b, 0, none⟩).run P w = .ok v w) (hu : (loadVar t2 ⟨c, 0, none⟩).run P w = .ok u w) :
    (results fn tmps).run P w = .ok (.tuple #[v, u]) w := by
  simp only [results, h]
  simp only [Array.mapM_eq_mapM_toList, List.mapM_cons, List.mapM_nil, Sem.run_bind, Result.andThen, hp, hq]
  simp [Sem.run_bind, Result.andThen, asAddr, hv, hu]

set_option maxRecDepth 100000 in
set_option maxHeartbeats 3200000 in
theorem tdecacc_gen (s : ByteArray) (A : Array Value) (ev : Value) (hA : A.size = 66) (hAo : A.all (·.oneCell') = true) (w : World)
    (f0 f1 f2 f3 : Nat)
    (hD : ∀ W, Below w.heap.size w W → Calls Tryz.prog 108 #[.string s] W fun e w' => Below W.heap.size W w' ∧ e = .returned (.tuple #[.agg A, ev]))
    (hT : ∀ W, Below w.heap.size w W → Calls Tryz.prog 58 #[ev] W fun e w' => e = .returned (faultV f0 f1 f2 f3) ∧ Below W.heap.size W w') :
    Calls Tryz.prog 121 #[.string s] w fun e w' => Below w.heap.size w w' ∧ e = .returned (.tuple #[.agg A, faultV f0 f1 f2 f3]) := by
  have HD := Hid.hide hD
  have HT := Hid.hide hT
  have hzA : (Tryz.prog.info? 85).map (·.size) = some A.size := by rw [zeroA_size, hA]
  have hzL : (Tryz.prog.info? 85).map (·.size) = some A.toList.length := by rw [Array.length_toList]; exact hzA
  have hu := Tryz.underlying85
  clear hD hT
  go_enter Tryz.func121, Tryz.ntmps121
  go_wp2_with fail
  generalize hWW : World.alloc (World.alloc w _) _ = W
  have HW : Hid (Below w.heap.size w W ∧ W.there w.heap.size 0 66 ∧ Four W (w.heap.size + 1) 0 0 0 0 ∧ W.heap.size = w.heap.size + 2) := by
    rw [← hWW]
    refine ⟨((Below.refl _ _).alloc (Nat.le_refl _) _).alloc (by simp) _, there_block (there_new _ _ _ _ rfl) (Below.heap_alloc _ _ _ (by simp)), ?_, by simp⟩
    have := Four.fresh (w.alloc (.cells Tryz.zeroCells85 85)) 0 0 0 0 66
    simpa using this
  clear hWW
  refine (HD.out _ HW.out.1).mono ?_
  rintro e w1 ⟨hb1, rfl⟩
  have B1 : Aside (Below w.heap.size w w1 ∧ Below W.heap.size W w1) := ⟨Below.behind HW.out.1 hb1, hb1⟩
  have hthZ : ∀ C : Array Value, 66 = C.size → (w1.alloc (.cells C 85)).there w1.heap.size 0 A.size := fun C hC => there_new _ _ _ _ (by rw [hA]; exact hC)
  have hL : ∀ C : Array Value, 66 = C.size → A.toList.length = C.size := fun C hC => by rw [Array.length_toList, hA]; exact hC
  clear hb1
  go_wp2_with (refine wpList_store_mid rfl 85 _ _ rfl w1.heap.size 0 A rfl rfl (hthZ _ rfl) hzA hAo ?_; generalize hX : World.setCells _ w1.heap.size 0 _ = w2; have B2 : Aside (Below w.heap.size w w2 ∧ Below W.heap.size W w2) := ⟨Below.behind B1.out.1 (newH hX), Below.behind B1.out.2 (newH hX)⟩; have r2 := (newH_row hX (hL _ rfl)).1; have hlt := (newH_row hX (hL _ rfl)).2; clear hX hthZ hL)
  have hS : Aside (w2.rangeAt w1.heap.size 0 A.toList ∧ w1.heap.size < w2.heap.size ∧ Below w.heap.size w W ∧ W.there w.heap.size 0 66 ∧ Four W (w.heap.size + 1) 0 0 0 0 ∧ W.heap.size = w.heap.size + 2) := ⟨r2, hlt, HW.out.1, HW.out.2.1, HW.out.2.2.1, HW.out.2.2.2⟩
  have hG : Aside (A.size = 66 ∧ A.all (·.oneCell') = true ∧ (Tryz.prog.info? 85).map (·.size) = some A.size ∧ (Tryz.prog.info? 85).map (·.size) = some A.toList.length) := ⟨hA, hAo, hzA, hzL⟩
  have h3 : Hid (∀ w3, Below w2.heap.size w2 w3 → Below w.heap.size w w3 ∧ w3.rangeAt w1.heap.size 0 A.toList ∧ w3.there w.heap.size 0 A.size ∧ Four w3 (w.heap.size + 1) 0 0 0 0) := fun w3 hb3 => by
    have hb := Below.behind B2.out.2 hb3
    exact ⟨Below.behind B2.out.1 hb3, fun j u hu => (hb3.cell (p := ⟨w1.heap.size, 0 + j, none⟩) hS.out.2.1).trans (hS.out.1 j u hu), by rw [hG.out.1]; exact there_block hS.out.2.2.2.1 (hb.block _ (by have := hS.out.2.2.2.2.2; omega)), hS.out.2.2.2.2.1.keep (hb.block _ (by have := hS.out.2.2.2.2.2; omega)) hb.size⟩
  clear r2 hlt hA hAo hzA hzL HW hu
  refine wp_region_any (by kernel_rfl) ?_
  change wpAny _ _ _ _ _ _ _ (World.drew _)
  refine wpAny_take (i := 1) (v := ?_) rfl (by kernel_rfl) (by kernel_rfl) (by kernel_rfl) (fun _ _ _ h => h) (Or.inl ⟨by rfl, ?_⟩) ?_
  rotate_left
  · intro w; go_simp; with_reducible rfl
  refine wpAny_ready (rs := [0, 2]) (by kernel_rfl) (by simp) ?_
  refine AllReady.cons rfl (fun K hK => ?_) (AllReady.cons rfl (fun K hK => ?_) AllReady.nil)
  · rw [if_pos (by rfl)]
    refine wp_load_mid 85 (.tmp 4) rfl w1.heap.size 0 rfl A.toList _ hS.out.1 Tryz.underlying85 rfl hG.out.2.2.2 ?_
    refine hK _ _ ?_
    clear hK K
    refine wpAny_ready (rs := [2]) (by kernel_rfl) (by simp) ?_
    refine AllReady.cons rfl (fun K hK => ?_) AllReady.nil
    go_simp
    go_at_call 58
    refine (HT.out _ B2.out.1.drew).mono ?_
    rintro e w3 ⟨rfl, hb3⟩
    have hb3' : Below w2.heap.size w2 w3 := ⟨hb3.os, hb3.tape, hb3.output, hb3.size, hb3.block⟩
    have H3 : Aside (Below w.heap.size w w3 ∧ w3.there w.heap.size 0 A.size ∧ Four w3 (w.heap.size + 1) 0 0 0 0) := ⟨(h3.out w3 hb3').1, (h3.out w3 hb3').2.2.1, (h3.out w3 hb3').2.2.2⟩
    have R3 : Aside (w3.rangeAt w1.heap.size 0 A.toList) := (h3.out w3 hb3').2.1
    clear hb3 hb3'
    refine hK _ _ ?_
    clear hK K
    refine wpAny_ready (rs := [3]) (by kernel_rfl) (by simp) ?_
    refine AllReady.cons rfl (fun K hK => ?_) AllReady.nil
    rw [if_pos (by rfl)]
    refine wp_store_mid 85 (.tmp 2) (.tmp 11) rfl w.heap.size 0 A rfl rfl H3.out.2.1 hG.out.2.2.1 hG.out.2.1 ?_
    refine hK _ _ ?_
    clear hK K
    generalize hw4 : World.setCells w3 w.heap.size 0 A.toList = w4
    have H4 : Aside (Below w.heap.size w w4 ∧ w4.rangeAt w.heap.size 0 A.toList) := ⟨hw4 ▸ below_setCells H3.out.1 (Nat.le_refl _) _ _, hw4 ▸ World.rangeAt_setCells_same _ _ _ A.toList (by rw [Array.length_toList]; exact H3.out.2.1)⟩
    have F4 : Four w4 (w.heap.size + 1) 0 0 0 0 := H3.out.2.2.keep (hw4 ▸ heap_setCells _ _ _ _ _ (by omega)) (Nat.le_of_eq (hw4 ▸ (size_setCells _ _ _ _).1.symm))
    have F5 : Aside (Four w4 (w.heap.size + 1) 0 0 0 0) := F4
    obtain ⟨lt4, c0, c1, c2, c3, free⟩ := F4
    have z0 := free 0 (by omega)
    have z1 := free 1 (by omega)
    have z2 := free 2 (by omega)
    have z3 := free 3 (by omega)
    clear free hw4 H3 lt4
    refine wpAny_ready (rs := [4]) (by kernel_rfl) (by simp) ?_
    refine AllReady.cons rfl (fun K hK => ?_) AllReady.nil
    go_simp
    refine hK _ _ ?_
    clear hK K c0 c1 c2 c3 z0 z1 z2 z3
    refine wpAny_done (by kernel_rfl) ?_ _
    generalize hw5 : World.setCell (World.setCell (World.setCell (World.setCell w4 _ _) _ _) _ _) _ _ = w5
    have F6 : Aside (Four w5 (w.heap.size + 1) f0 f1 f2 f3 ∧ w5.rangeAt w.heap.size 0 A.toList ∧ Below w.heap.size w w5) := hw5 ▸ four_set H4.out.1 H4.out.2 F5.out f0 f1 f2 f3
    clear hw5 F5 H4
    go_wp2_with fail
    refine bodyPost_ret (v := .tuple #[.agg A, faultV f0 f1 f2 f3]) (results_cells Tryz.results121 _ _ _ w.heap.size (w.heap.size + 1) rfl rfl (run_loadVar_mid _ _ _ 85 _ _ F6.out.2.1 Tryz.underlying85 rfl hG.out.2.2.2) (load_fault F6.out.1)) rfl ⟨F6.out.2.2, rfl⟩
  · go_simp
    go_at_call 58
    refine (HT.out _ B2.out.1.drew).mono ?_
    rintro e w3 ⟨rfl, hb3⟩
    have hb3' : Below w2.heap.size w2 w3 := ⟨hb3.os, hb3.tape, hb3.output, hb3.size, hb3.block⟩
    have H3 : Aside (Below w.heap.size w w3 ∧ w3.there w.heap.size 0 A.size ∧ Four w3 (w.heap.size + 1) 0 0 0 0) := ⟨(h3.out w3 hb3').1, (h3.out w3 hb3').2.2.1, (h3.out w3 hb3').2.2.2⟩
    have R3 : Aside (w3.rangeAt w1.heap.size 0 A.toList) := (h3.out w3 hb3').2.1
    clear hb3 hb3'
    refine hK _ _ ?_
    clear hK K
    refine wpAny_ready (rs := [0]) (by kernel_rfl) (by simp) ?_
    refine AllReady.cons rfl (fun K hK => ?_) AllReady.nil
    rw [if_pos (by rfl)]
    refine wp_load_mid 85 (.tmp 4) rfl w1.heap.size 0 rfl A.toList _ R3.out Tryz.underlying85 rfl hG.out.2.2.2 ?_
    refine hK _ _ ?_
    clear hK K
    refine wpAny_ready (rs := [3]) (by kernel_rfl) (by simp) ?_
    refine AllReady.cons rfl (fun K hK => ?_) AllReady.nil
    rw [if_pos (by rfl)]
    refine wp_store_mid 85 (.tmp 2) (.tmp 11) rfl w.heap.size 0 A rfl rfl H3.out.2.1 hG.out.2.2.1 hG.out.2.1 ?_
    refine hK _ _ ?_
    clear hK K
    generalize hw4 : World.setCells w3 w.heap.size 0 A.toList = w4
    have H4 : Aside (Below w.heap.size w w4 ∧ w4.rangeAt w.heap.size 0 A.toList) := ⟨hw4 ▸ below_setCells H3.out.1 (Nat.le_refl _) _ _, hw4 ▸ World.rangeAt_setCells_same _ _ _ A.toList (by rw [Array.length_toList]; exact H3.out.2.1)⟩
    have F4 : Four w4 (w.heap.size + 1) 0 0 0 0 := H3.out.2.2.keep (hw4 ▸ heap_setCells _ _ _ _ _ (by omega)) (Nat.le_of_eq (hw4 ▸ (size_setCells _ _ _ _).1.symm))
    have F5 : Aside (Four w4 (w.heap.size + 1) 0 0 0 0) := F4
    obtain ⟨lt4, c0, c1, c2, c3, free⟩ := F4
    have z0 := free 0 (by omega)
    have z1 := free 1 (by omega)
    have z2 := free 2 (by omega)
    have z3 := free 3 (by omega)
    clear free hw4 H3 lt4
    refine wpAny_ready (rs := [4]) (by kernel_rfl) (by simp) ?_
    refine AllReady.cons rfl (fun K hK => ?_) AllReady.nil
    go_simp
    refine hK _ _ ?_
    clear hK K c0 c1 c2 c3 z0 z1 z2 z3
    refine wpAny_done (by kernel_rfl) ?_ _
    generalize hw5 : World.setCell (World.setCell (World.setCell (World.setCell w4 _ _) _ _) _ _) _ _ = w5
    have F6 : Aside (Four w5 (w.heap.size + 1) f0 f1 f2 f3 ∧ w5.rangeAt w.heap.size 0 A.toList ∧ Below w.heap.size w w5) := hw5 ▸ four_set H4.out.1 H4.out.2 F5.out f0 f1 f2 f3
    clear hw5 F5 H4
    go_wp2_with fail
    refine bodyPost_ret (v := .tuple #[.agg A, faultV f0 f1 f2 f3]) (results_cells Tryz.results121 _ _ _ w.heap.size (w.heap.size + 1) rfl rfl (run_loadVar_mid _ _ _ 85 _ _ F6.out.2.1 Tryz.underlying85 rfl hG.out.2.2.2) (load_fault F6.out.1)) rfl ⟨F6.out.2.2, rfl⟩
end Go.Proofs.YtjiikjpnlgogfaaGreatDoor

namespace Go.Proofs.YtjiikjpnlgogfaaGreatDoor
open Go.RowKit

theorem mem_textCode {t : List Nat} {b : Nat} (h : b ∈ t) : b ∈ textCode t := by
  unfold textCode
  split
  · exact h
  · exact List.mem_append_right _ h

theorem text_of {y : It} (h : y.isList = false) : y.code = textCode y.txt := by
  cases y with
  | text a b t => rfl
  | list a b l => cases h

theorem num_back {t : List Nat} (hb : ∀ x ∈ t, x < 256) (h : numOK false t) : bigE (numB t) = t ∧ numB t < 18446744073709551616 := by
  obtain ⟨_, h8, h0⟩ := h
  refine ⟨bigE_numB t hb h8 ?_, ?_⟩
  · intro hne he
    cases t with
    | nil => exact hne rfl
    | cons x r =>
      have hx : x = 0 := he
      subst hx
      exact h0 ⟨by simp, rfl⟩
  · have h1 := numB_lt t hb
    have h2 : 256 ^ t.length ≤ 256 ^ 8 := Nat.pow_le_pow_right (by decide) h8
    have h3 : 256 ^ 8 = 18446744073709551616 := by decide
    omega

theorem readAcc_ok {y0 y1 y2 y3 : It} {a : Acc} (h : readAcc y0 y1 y2 y3 = .ok a) : numIt y0 ∧ numIt y1 ∧ hashIt y2 ∧ hashIt y3 ∧ a = ⟨numB y0.txt, numB y1.txt, y2.txt, y3.txt⟩ := by
  unfold readAcc at h
  split at h
  · cases h
  · split at h
    · cases h
    · split at h
      · cases h
      · split at h
        · cases h
        · rename_i h0 h1 h2 h3
          cases h
          exact ⟨Decidable.not_not.1 h0, Decidable.not_not.1 h1, Decidable.not_not.1 h2, Decidable.not_not.1 h3, rfl⟩

theorem readAcc_err {y0 y1 y2 y3 : It} {er : Er} (h : readAcc y0 y1 y2 y3 = .error er) : ∃ k, er = .place k (.base 13) := by
  unfold readAcc at h
  split at h
  · cases h; exact ⟨_, rfl⟩
  · split at h
    · cases h; exact ⟨_, rfl⟩
    · split at h
      · cases h; exact ⟨_, rfl⟩
      · split at h
        · cases h; exact ⟨_, rfl⟩
        · cases h

theorem accF_ok {l : List Nat} (hl : ∀ y ∈ l, y < 256) {a : Acc} (h : accF l = .ok a) : a.ok ∧ encAcc a = l := by
  unfold accF at h
  cases hd : decF l with
  | error e => rw [hd] at h; cases h
  | ok x =>
    rw [hd] at h
    simp only at h
    split at h
    · rename_i y0 y1 y2 y3 hx
      obtain ⟨n0, n1, h2, h3, rfl⟩ := readAcc_ok h
      obtain ⟨_, _, _, hc⟩ := decF_ok hl hd
      cases x with
      | text fr en t => cases hx
      | list fr en its =>
        have hx' : its = [y0, y1, y2, y3] := hx
        subst hx'
        have e0 := text_of n0.1
        have e1 := text_of n1.1
        have e2 := text_of h2.1
        have e3 := text_of h3.1
        have hc' : listCode (y0.code ++ (y1.code ++ (y2.code ++ (y3.code ++ [])))) = l := hc
        rw [e0, e1, e2, e3] at hc'
        have hb : ∀ b ∈ textCode y0.txt ++ (textCode y1.txt ++ (textCode y2.txt ++ (textCode y3.txt ++ []))), b < 256 := fun b hb => hl b (by rw [← hc']; unfold listCode; exact List.mem_append_right _ hb)
        have b0 : ∀ b ∈ y0.txt, b < 256 := fun b h => hb b (by simp only [List.mem_append]; exact .inl (mem_textCode h))
        have b1 : ∀ b ∈ y1.txt, b < 256 := fun b h => hb b (by simp only [List.mem_append]; exact .inr (.inl (mem_textCode h)))
        have b2 : ∀ b ∈ y2.txt, b < 256 := fun b h => hb b (by simp only [List.mem_append]; exact .inr (.inr (.inl (mem_textCode h))))
        have b3 : ∀ b ∈ y3.txt, b < 256 := fun b h => hb b (by simp only [List.mem_append]; exact .inr (.inr (.inr (.inl (mem_textCode h)))))
        have k0 := num_back b0 ⟨rfl, n0.2⟩
        have k1 := num_back b1 ⟨rfl, n1.2⟩
        refine ⟨⟨k0.2, k1.2, h2.2, h3.2, b2, b3⟩, ?_⟩
        unfold encAcc accTexts
        simp only
        rw [k0.1, k1.1, ← hc']
        simp only [List.append_assoc, List.append_nil]
    · cases h

theorem accF_error {l : List Nat} (hl : ∀ y ∈ l, y < 256) {er : Er} (h : accF l = .error er) : er.simple ∧ er.num ≠ 0 ∧ er.node = 0 ∧ er.proof = 0 := by
  have h13 : ∀ k, (Er.place k (.base 13)).simple ∧ (Er.place k (.base 13)).num ≠ 0 ∧ (Er.place k (.base 13)).node = 0 ∧ (Er.place k (.base 13)).proof = 0 := fun k => ⟨(by decide : 13 ∈ nums), by simp [Er.num], rfl, rfl⟩
  unfold accF at h
  cases hd : decF l with
  | error e =>
    rw [hd] at h
    cases h
    obtain ⟨q1, q2, _, q4, q5⟩ := decF_err hl hd
    exact ⟨q1, q2, q4, q5⟩
  | ok x =>
    rw [hd] at h
    simp only at h
    split at h
    · obtain ⟨k, rfl⟩ := readAcc_err h
      exact h13 k
    · cases h
      exact h13 _

/-! ### Paths -/
theorem pairs_nibs : ∀ l : List Nat, pairs (nibs l) = l
  | [] => rfl
  | x :: r => by
    show (x / 16 * 16 + x % 16) :: pairs (nibs r) = x :: r
    rw [pairs_nibs r]
    congr 1
    omega

theorem nibs_lt {l : List Nat} (hl : ∀ y ∈ l, y < 256) : ∀ y ∈ nibs l, y < 16 := by
  intro y hy
  obtain ⟨x, hx, hxy⟩ := List.mem_flatMap.1 hy
  have := hl x hx
  rcases List.mem_cons.1 hxy with rfl | h
  · omega
  · rcases List.mem_cons.1 h with rfl | h
    · omega
    · cases h

theorem unpackF_back {l : List Nat} (hl : ∀ y ∈ l, y < 256) {p : List Nat} {leaf : Bool} (h : unpackF l = some (p, leaf)) : (∀ y ∈ p, y < 16) ∧ pathCode p leaf = l ∧ p.length ≤ 2 * l.length := by
  cases l with
  | nil => cases h
  | cons c r =>
    have hr : ∀ y ∈ r, y < 256 := fun y hy => hl y (List.mem_cons_of_mem _ hy)
    rw [unpackF_cons] at h
    split at h
    · cases h
    · split at h
      · rename_i h3 h1
        cases h
        have hlen : ((c % 16) :: nibs r).length % 2 = 1 := by rw [List.length_cons, nibs_length]; omega
        refine ⟨?_, ?_, by simp only [List.length_cons, nibs_length]; omega⟩
        · intro y hy
          rcases List.mem_cons.1 hy with rfl | hy
          · omega
          · exact nibs_lt hr y hy
        · unfold pathCode
          rw [hlen]
          show ((if decide (2 ≤ c / 16) = true then 32 else 0) + (16 + c % 16)) :: pairs (nibs r) = c :: r
          rw [pairs_nibs]
          congr 1
          by_cases h2 : 2 ≤ c / 16
          · rw [decide_eq_true h2, if_pos rfl]; omega
          · rw [decide_eq_false h2, if_neg (by decide)]; omega
      · split at h
        · rename_i h3 h1 h0
          cases h
          have hlen : (nibs r).length % 2 = 0 := by rw [nibs_length]; omega
          refine ⟨nibs_lt hr, ?_, by simp only [List.length_cons, nibs_length]; omega⟩
          unfold pathCode
          rw [hlen]
          show ((if decide (2 ≤ c / 16) = true then 32 else 0) + 0) :: pairs (nibs r) = c :: r
          rw [pairs_nibs]
          congr 1
          by_cases h2 : 2 ≤ c / 16
          · rw [decide_eq_true h2, if_pos rfl]; omega
          · rw [decide_eq_false h2, if_neg (by decide)]; omega
        · cases h
end Go.Proofs.YtjiikjpnlgogfaaGreatDoor

namespace Go.Proofs.YtjiikjpnlgogfaaGreatDoor
open Go.RowKit

theorem tdecacc_ok (s : ByteArray) (sent : Nat → Addr) (w : World) (hF : Faults w sent) {a : Acc} (h : accF (bytesOf s) = .ok a) :
    Calls Tryz.prog 121 #[.string s] w fun e w' => Below w.heap.size w w' ∧ e = .returned (.tuple #[.agg (accL a).toArray, faultV 0 0 0 0]) := by
  obtain ⟨ha, _⟩ := accF_ok (byte_lt s) h
  refine tdecacc_gen s (accL a).toArray .nilIface (by rw [List.size_toArray]; exact accL_length ha.2.2.1 ha.2.2.2.1) (accL_one a) w 0 0 0 0 (fun W hW => (ad_any s sent W (hF.below hW)).mono fun e w' hs => ?_) (fun W hW => tell_nil W)
  exact ⟨hs.1, hs.2.2 a h⟩

theorem tdecacc_err (s : ByteArray) (sent : Nat → Addr) (w : World) (hF : Faults w sent) (hT : typeAt w) {er : Er} (h : accF (bytesOf s) = .error er) :
    Calls Tryz.prog 121 #[.string s] w fun e w' => Below w.heap.size w w' ∧ e = .returned (.tuple #[.agg (accL zeroAcc).toArray, faultV er.num er.proof er.node er.at_]) := by
  obtain ⟨q1, _⟩ := accF_error (byte_lt s) h
  have hlg : 12 < w.heap.size := World.block_lt_of_cell? w _ hT
  refine tdecacc_gen s (accL zeroAcc).toArray (er.val sent) rfl (accL_one _) w _ _ _ _ (fun W hW => (ad_any s sent W (hF.below hW)).mono fun e w' hs => ?_) (fun W hW => tell_any sent er q1 W (hF.below hW) ((hW.cell (p := ⟨12, 0, none⟩) hlg).trans hT))
  obtain ⟨hb, h1, _⟩ := hs
  obtain ⟨t, v, hv, he⟩ := h1 er h
  exact ⟨hb, by rw [he, hv]⟩
end Go.Proofs.YtjiikjpnlgogfaaGreatDoor
