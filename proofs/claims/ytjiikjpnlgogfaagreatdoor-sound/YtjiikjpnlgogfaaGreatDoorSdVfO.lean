/-
  twigs.Verify.
-/
import Derived.Test.YtjiikjpnlgogfaaGreatDoorSdVfN
namespace Go.Proofs.YtjiikjpnlgogfaaGreatDoor
open Go.RowKit
theorem rdF_simple : ∀ (n : Nat) (x : It) (dep : Nat) (er : Er), rdF n x dep = .error er → er.simple
 | 0, x, dep, er, h => by rw [rdF] at h; cases h; show (8 : Nat) ∈ nums; decide
 | n + 1, x, dep, er, h => by
  have hno : ∀ fr, (noN fr).simple := fun fr => by show (8 : Nat) ∈ nums; decide
  have ih := rdF_simple n
  have hR : ∀ y d er, rdRef (rdF n) y d = .error er → er.simple := fun y d er h => by
   cases y with
   | text _ _ _ => cases h
   | list a b l => exact ih _ _ _ h
  cases x with
  | text a b s => rw [rdF] at h; cases h; exact hno _
  | list fr en l =>
   rw [rdF] at h
   by_cases h2 : l.length = 2
   ·obtain ⟨a, b, rfl⟩ := two_items h2
    rw [rdL_two] at h
    unfold rdPath at h
    cases a with
    | list _ _ _ => cases h; exact hno _
    | text a1 a2 s =>
     simp only at h
     cases hu : unpackF s with
     | none => rw [hu] at h; cases h; show Er.base 3 = _; rfl
     | some q =>
      obtain ⟨p, leaf⟩ := q
      rw [hu] at h
      simp only at h
      split at h
      ·split at h
       ·cases h; exact hno _
       ·cases h
      ·unfold rdExt at h
       split at h
       ·cases h; exact hno _
       ·cases hn : rdRef (rdF n) b (dep + p.length) with
        | error e => rw [hn] at h; cases h; exact hR _ _ _ hn
        | ok m => rw [hn] at h; cases h
   ·rw [rdL_more h2] at h
    split at h
    ·unfold rdBr at h
     split at h
     ·cases h; exact hno _
     ·have hk : ∀ (xs : List It) er, rdKids (rdF n) (dep + 1) xs = .error er → er.simple := by
       intro xs
       induction xs with
       | nil => intro er h; rw [rdKids] at h; cases h
       | cons y ys ihy =>
        intro er h
        rw [rdKids] at h
        split at h
        ·cases hn : rdKids (rdF n) (dep + 1) ys with
         | error e => rw [hn] at h; cases h; exact ihy _ hn
         | ok m => rw [hn] at h; cases h
        ·cases hm : rdRef (rdF n) y (dep + 1) with
         | error e => rw [hm] at h; cases h; exact hR _ _ _ hm
         | ok m =>
          rw [hm] at h
          simp only at h
          cases hn : rdKids (rdF n) (dep + 1) ys with
          | error e => rw [hn] at h; cases h; exact ihy _ hn
          | ok m => rw [hn] at h; cases h
      cases hn : rdKids (rdF n) (dep + 1) (l.take 16) with
      | error e => rw [hn] at h; cases h; exact hk _ _ hn
      | ok m => rw [hn] at h; cases h
    ·cases h; exact hno _
theorem shF_simple {c h : List Nat} (hc : ∀ y ∈ c, y < 256) {dep : Nat} {er : Er} (hs : shF c h dep = .error er) : er.simple := by
 unfold shF at hs
 split at hs
 ·cases hs; show (1 : Nat) ∈ nums; decide
 ·split at hs
  ·cases hs; show (7 : Nat) ∈ nums; decide
  ·cases hx : decF c with
   | error e => rw [hx] at hs; cases hs; exact (decF_err hc hx).1
   | ok x => rw [hx] at hs; exact rdF_simple _ _ _ _ hs
theorem verL_simple : ∀ (L : List (List Nat)) (h : List Nat) (r : ByteArray) (k : Nat) (er : Er), (∀ c ∈ L, ∀ y ∈ c, y < 256) → verL L h r k = .error er → er.simple
 | [], h, r, k, er, _, e => by rw [verL] at e; cases e; show (2 : Nat) ∈ nums; decide
 | c :: L, h, r, k, er, hL, e => by
  rw [verL] at e
  cases hs : shF c h (64 - r.size) with
  | error er' => rw [hs] at e; cases e; show er'.simple; exact shF_simple (hL c (List.mem_cons_self ..)) hs
  | ok t =>
   rw [hs] at e
   simp only at e
   split at e
   ·exact verL_simple L _ _ _ _ (fun c hc => hL c (List.mem_cons_of_mem _ hc)) e
   ·split at e
    ·cases e
    ·cases e; show (4 : Nat) ∈ nums; decide
theorem verF_simple {h : List Nat} {P : ByteArray} {L : List (List Nat)} (hL : ∀ c ∈ L, ∀ y ∈ c, y < 256) {er : Er} (e : verF h P L = .error er) : er.simple := by
 unfold verF at e
 split at e
 ·cases e
 ·exact verL_simple _ _ _ _ _ hL e
def verStr : Except Er (Option ByteArray) → ByteArray
 | .error _ => ⟨#[]⟩
 | .ok o => o.getD ⟨#[]⟩
def verHas : Except Er (Option ByteArray) → Bool
 | .error _ => false
 | .ok o => o.isSome
def verFault : Except Er (Option ByteArray) → Value
 | .error er => faultV er.num er.proof er.node er.at_
 | .ok _ => faultV 0 0 0 0
theorem bytes_all (l : List ByteArray) : ∀ c ∈ l.map bytesOf, ∀ y ∈ c, y < 256 := fun c hc => by
 obtain ⟨s, _, rfl⟩ := List.mem_map.1 hc
 exact bytesOf_lt s
theorem fault_cells {w : World} {b : Nat} {x0 x1 x2 x3 : Value} {t : TypeId} (h : w.heap[b]? = some (.cells #[x0, x1, x2, x3] t (0, 0))) : w.cell? ⟨b, 0, none⟩ = some x0 ∧ w.cell? ⟨b, 1, none⟩ = some x1 ∧ w.cell? ⟨b, 2, none⟩ = some x2 ∧ w.cell? ⟨b, 3, none⟩ = some x3 ∧ w.frozen? ⟨b, 0, none⟩ = false ∧ w.frozen? ⟨b, 1, none⟩ = false ∧ w.frozen? ⟨b, 2, none⟩ = false ∧ w.frozen? ⟨b, 3, none⟩ = false := by
 refine ⟨?_, ?_, ?_, ?_, ?_, ?_, ?_, ?_⟩ <;> simp [World.cell?, World.frozen?, h]
set_option maxRecDepth 100000 in
set_option maxHeartbeats 1600000 in
theorem xverify_any {w : World} (sent : Nat → Addr) (h : List Nat) (K : Array Nat) (l : List ByteArray) (p : Option Addr) (c : Nat) (hE : Env w.heap.size sent w) (hTy : typeAt w) (hTl : 12 < w.heap.size) (hh : h.length = 32) (hhb : ∀ x ∈ h, x < 256) (hK : K.size = 32) (hKb : Bytes K) (hr : StrRow w p l c) (hl : l.length ≤ 9223372036854775807) {q : Except Er (Option ByteArray)} (hq : verF h (textB (nibs K.toList)) (l.map bytesOf) = q) :
  Calls Tryz.prog 30 #[.agg (h.map encB).toArray, .agg (K.toList.map encB).toArray, .slice p l.length c] w fun e w' => e = .returned (.tuple #[.string (verStr q), .bool (verHas q), verFault q]) ∧ Below w.heap.size w w' := by
 obtain ⟨A, hA⟩ : ∃ A, (h.map encB).toArray = A := ⟨_, rfl⟩
 obtain ⟨Kc, hKc⟩ : ∃ Kc, (K.toList.map encB).toArray = Kc := ⟨_, rfl⟩
 obtain ⟨W0, hW0⟩ : ∃ W0, ((w.alloc (.cells A 34)).alloc (.cells Kc 26)).alloc (.cells #[.int .i64 0, .int .i64 0, .int .i64 0, .int .i64 0] 66) = W0 := ⟨_, rfl⟩
 have hrow : W0.rangeAt w.heap.size 0 (h.map encB) := fun j u hu => by
  rw [← hW0, World.cell?_alloc_past _ _ _ (by simp; omega), World.cell?_alloc_past _ _ _ (by simp), Nat.zero_add, World.cell?_alloc_new, ← hA]
  simpa using hu
 have hrowK : W0.rangeAt (w.heap.size + 1) 0 (K.toList.map encB) := fun j u hu => by
  rw [← hW0, World.cell?_alloc_past _ _ _ (by simp), show w.heap.size + 1 = (w.alloc (.cells A 34)).heap.size by simp, Nat.zero_add, World.cell?_alloc_new, ← hKc]
  simpa using hu
 have hb0 : Below w.heap.size w W0 := by rw [← hW0]; exact (((Below.refl _ _).alloc (Nat.le_refl _) _).alloc (by simp) _).alloc (by simp; omega) _
 have hs0 : W0.heap.size = w.heap.size + 3 := by rw [← hW0]; simp
 have hth0 : W0.heap[w.heap.size + 1 + 1]? = some (.cells #[.int .i64 0, .int .i64 0, .int .i64 0, .int .i64 0] 66 (0, 0)) := by
  rw [← hW0]
  have : (((w.alloc (.cells A 34)).alloc (.cells Kc 26)).alloc (.cells #[.int .i64 0, .int .i64 0, .int .i64 0, .int .i64 0] 66)).heap[((w.alloc (.cells A 34)).alloc (.cells Kc 26)).heap.size]? = some (.cells #[.int .i64 0, .int .i64 0, .int .i64 0, .int .i64 0] 66 (0, 0)) := Array.getElem?_push_size
  simpa using this
 have hrW : StrRow W0 p l c := by
  rcases hr with h | ⟨g, o, e1, e2, e3, e4⟩
  ·exact .inl h
  ·exact .inr ⟨g, o, e1, e2, fun h => Nat.lt_of_lt_of_le (e3 h) hb0.size, fun j u hu => by
    have hj : 0 < l.length := by
     have := (List.getElem?_eq_some_iff.1 hu).1
     simp at this
     omega
    exact (hb0.cell (p := ⟨g, o + j, none⟩) (e3 hj)).trans (e4 j u hu)⟩
 have HV := Hid.hide (verify_any sent h K l p c ((hE.below hb0).raise hb0.size) hh hhb hK hKb hrW hl)
 rw [hq] at HV
 have HT : Hid (∀ W, Below W0.heap.size W0 W → ∀ er : Er, er.simple → Calls Tryz.prog 58 #[er.val sent] W fun e w' => e = .returned (faultV er.num er.proof er.node er.at_) ∧ Below W.heap.size W w') := fun W hW er hs => tell_any sent er hs W (hE.faults.below (hb0.behind' hW)) (((hb0.behind' hW).cell (p := ⟨12, 0, none⟩) hTl).trans hTy)
 have HS : Hid (∀ er, q = .error er → er.simple) := fun er e => verF_simple (bytes_all l) (hq.trans e)
 have HB : Hid (Below w.heap.size w W0 ∧ W0.heap.size = w.heap.size + 3 ∧ W0.heap[w.heap.size + 1 + 1]? = some (.cells #[.int .i64 0, .int .i64 0, .int .i64 0, .int .i64 0] 66 (0, 0))) := ⟨hb0, hs0, hth0⟩
 have hz := hash_size hh
 have hzK : (Tryz.prog.info? 26).map (·.size) = some (K.toList.map encB).length := by rw [size51]; simp [hK]
 obtain ⟨m, hm⟩ : ∃ m, l.length = m := ⟨_, rfl⟩
 rw [hm] at HV ⊢
 have hu34 := Tryz.underlying34
 have hu26 := Tryz.underlying26
 clear hE hTy hTl hh hhb hK hKb hr hl hq hb0 hs0 hrW hth0 hm
 rw [hA, hKc] at HV ⊢
 go_enter Tryz.func30, Tryz.ntmps30
 go_upto_region 1 with fail
 clear hW0
 rw [← hA, ← hKc] at HV
 clear hA hKc
 go_wp2_with (first | (refine wpList_load_mid rfl 34 _ rfl w.heap.size 0 rfl (h.map encB) _ hrow hu34 rfl hz ?_) | (refine wpList_load_mid rfl 26 _ rfl (w.heap.size + 1) 0 rfl (K.toList.map encB) _ hrowK hu26 rfl hzK ?_))
 refine HV.out.mono ?_
 rintro e w1 ⟨hb1, (⟨er, rfl, rfl⟩ | ⟨o, rfl, rfl⟩)⟩
 ·obtain ⟨et, ev, hev⟩ := er.shape sent
  have hT1 := HT.out w1 hb1 er (HS.out er rfl)
  rw [hev] at hT1
  have HT1 := Hid.hide hT1
  have HB1 : Hid (Below w.heap.size w w1 ∧ w1.heap[w.heap.size + 1 + 1]? = some (.cells #[.int .i64 0, .int .i64 0, .int .i64 0, .int .i64 0] 66 (0, 0))) := ⟨HB.out.1.behind' hb1, (hb1.block _ (by have := HB.out.2.1; omega)).trans HB.out.2.2⟩
  rw [hev]
  clear hev hT1 hb1
  go_wp2_with fail
  refine HT1.out.mono ?_
  rintro e w2 ⟨rfl, hb2⟩
  have h2 : w2.heap[w.heap.size + 1 + 1]? = some (.cells #[.int .i64 0, .int .i64 0, .int .i64 0, .int .i64 0] 66 (0, 0)) := (hb2.block _ (Array.getElem?_eq_some_iff.1 HB1.out.2).1).trans HB1.out.2
  have hsz2 : w.heap.size + 1 + 1 < w2.heap.size := (Array.getElem?_eq_some_iff.1 h2).1
  obtain ⟨c0, c1, c2, c3, f0, f1, f2, f3⟩ := fault_cells h2
  have HB2 : Hid (Below w.heap.size w w2) := HB1.out.1.behind' hb2
  obtain ⟨en, hen⟩ : ∃ x, er.num = x := ⟨_, rfl⟩
  obtain ⟨ep, hep⟩ : ∃ x, er.proof = x := ⟨_, rfl⟩
  obtain ⟨ed, hed⟩ : ∃ x, er.node = x := ⟨_, rfl⟩
  obtain ⟨ea, hea⟩ : ∃ x, er.at_ = x := ⟨_, rfl⟩
  have HZ : Hid (en = er.num ∧ ep = er.proof ∧ ed = er.node ∧ ea = er.at_) := ⟨hen.symm, hep.symm, hed.symm, hea.symm⟩
  rw [hen, hep, hed, hea]
  clear hen hep hed hea
  clear hb2
  go_wp2
  have h3 : ((((w2.setCell ⟨w.heap.size + 1 + 1, 0, none⟩ (.int .i64 (en : Int))).setCell ⟨w.heap.size + 1 + 1, 1, none⟩ (.int .i64 (ep : Int))).setCell ⟨w.heap.size + 1 + 1, 2, none⟩ (.int .i64 (ed : Int))).setCell ⟨w.heap.size + 1 + 1, 3, none⟩ (.int .i64 (ea : Int))).heap[w.heap.size + 1 + 1]? = some (.cells #[.int .i64 (en : Int), .int .i64 (ep : Int), .int .i64 (ed : Int), .int .i64 (ea : Int)] 66 (0, 0)) := heap_setCell_list (heap_setCell_list (heap_setCell_list (heap_setCell_list (cs := [.int .i64 0, .int .i64 0, .int .i64 0, .int .i64 0]) h2 0 _) 1 _) 2 _) 3 _
  have hb3 : Below w.heap.size w ((((w2.setCell ⟨w.heap.size + 1 + 1, 0, none⟩ (.int .i64 (en : Int))).setCell ⟨w.heap.size + 1 + 1, 1, none⟩ (.int .i64 (ep : Int))).setCell ⟨w.heap.size + 1 + 1, 2, none⟩ (.int .i64 (ed : Int))).setCell ⟨w.heap.size + 1 + 1, 3, none⟩ (.int .i64 (ea : Int))) := (((HB2.out.setCell (p := ⟨w.heap.size + 1 + 1, 0, none⟩) (by simp; omega) _).setCell (p := ⟨w.heap.size + 1 + 1, 1, none⟩) (by simp; omega) _).setCell (p := ⟨w.heap.size + 1 + 1, 2, none⟩) (by simp; omega) _).setCell (p := ⟨w.heap.size + 1 + 1, 3, none⟩) (by simp; omega) _
  generalize ((((w2.setCell ⟨w.heap.size + 1 + 1, 0, none⟩ (.int .i64 (en : Int))).setCell ⟨w.heap.size + 1 + 1, 1, none⟩ (.int .i64 (ep : Int))).setCell ⟨w.heap.size + 1 + 1, 2, none⟩ (.int .i64 (ed : Int))).setCell ⟨w.heap.size + 1 + 1, 3, none⟩ (.int .i64 (ea : Int))) = w3 at h3 hb3 ⊢
  obtain ⟨d0, d1, d2, d3, -⟩ := fault_cells h3
  refine bodyPost_ret (v := .tuple #[.string ⟨#[]⟩, .bool false, faultV en ep ed ea]) (by simp [results, Tryz.results30, go_sem, d0, d1, d2, d3]) rfl ⟨by rw [HZ.out.1, HZ.out.2.1, HZ.out.2.2.1, HZ.out.2.2.2]; rfl, hb3⟩
 ·have HB1 : Hid (Below w.heap.size w w1 ∧ w1.heap[w.heap.size + 1 + 1]? = some (.cells #[.int .i64 0, .int .i64 0, .int .i64 0, .int .i64 0] 66 (0, 0))) := ⟨HB.out.1.behind' hb1, (hb1.block _ (by have := HB.out.2.1; omega)).trans HB.out.2.2⟩
  obtain ⟨os, hos⟩ : ∃ os, o.getD ⟨#[]⟩ = os := ⟨_, rfl⟩
  obtain ⟨ob, hob⟩ : ∃ ob, o.isSome = ob := ⟨_, rfl⟩
  have HZ : Hid (verStr (.ok o) = os ∧ verHas (.ok o) = ob) := ⟨hos, hob⟩
  rw [hos, hob]
  clear hb1 hos hob
  go_wp2_with fail
  refine (tell_nil _).mono ?_
  rintro e w2 ⟨rfl, hb2⟩
  have h2 : w2.heap[w.heap.size + 1 + 1]? = some (.cells #[.int .i64 0, .int .i64 0, .int .i64 0, .int .i64 0] 66 (0, 0)) := (hb2.block _ (Array.getElem?_eq_some_iff.1 HB1.out.2).1).trans HB1.out.2
  have hsz2 : w.heap.size + 1 + 1 < w2.heap.size := (Array.getElem?_eq_some_iff.1 h2).1
  obtain ⟨c0, c1, c2, c3, f0, f1, f2, f3⟩ := fault_cells h2
  have HB2 : Hid (Below w.heap.size w w2) := HB1.out.1.behind' hb2
  clear hb2
  go_wp2
  have h3 : ((((w2.setCell ⟨w.heap.size + 1 + 1, 0, none⟩ (.int .i64 ((0 : Nat) : Int))).setCell ⟨w.heap.size + 1 + 1, 1, none⟩ (.int .i64 ((0 : Nat) : Int))).setCell ⟨w.heap.size + 1 + 1, 2, none⟩ (.int .i64 ((0 : Nat) : Int))).setCell ⟨w.heap.size + 1 + 1, 3, none⟩ (.int .i64 ((0 : Nat) : Int))).heap[w.heap.size + 1 + 1]? = some (.cells #[.int .i64 ((0 : Nat) : Int), .int .i64 ((0 : Nat) : Int), .int .i64 ((0 : Nat) : Int), .int .i64 ((0 : Nat) : Int)] 66 (0, 0)) := heap_setCell_list (heap_setCell_list (heap_setCell_list (heap_setCell_list (cs := [.int .i64 0, .int .i64 0, .int .i64 0, .int .i64 0]) h2 0 _) 1 _) 2 _) 3 _
  have hb3 : Below w.heap.size w ((((w2.setCell ⟨w.heap.size + 1 + 1, 0, none⟩ (.int .i64 ((0 : Nat) : Int))).setCell ⟨w.heap.size + 1 + 1, 1, none⟩ (.int .i64 ((0 : Nat) : Int))).setCell ⟨w.heap.size + 1 + 1, 2, none⟩ (.int .i64 ((0 : Nat) : Int))).setCell ⟨w.heap.size + 1 + 1, 3, none⟩ (.int .i64 ((0 : Nat) : Int))) := (((HB2.out.setCell (p := ⟨w.heap.size + 1 + 1, 0, none⟩) (by simp; omega) _).setCell (p := ⟨w.heap.size + 1 + 1, 1, none⟩) (by simp; omega) _).setCell (p := ⟨w.heap.size + 1 + 1, 2, none⟩) (by simp; omega) _).setCell (p := ⟨w.heap.size + 1 + 1, 3, none⟩) (by simp; omega) _
  generalize ((((w2.setCell ⟨w.heap.size + 1 + 1, 0, none⟩ (.int .i64 ((0 : Nat) : Int))).setCell ⟨w.heap.size + 1 + 1, 1, none⟩ (.int .i64 ((0 : Nat) : Int))).setCell ⟨w.heap.size + 1 + 1, 2, none⟩ (.int .i64 ((0 : Nat) : Int))).setCell ⟨w.heap.size + 1 + 1, 3, none⟩ (.int .i64 ((0 : Nat) : Int))) = w3 at h3 hb3 ⊢
  obtain ⟨d0, d1, d2, d3, -⟩ := fault_cells h3
  refine bodyPost_ret (v := .tuple #[.string os, .bool ob, faultV 0 0 0 0]) (by simp [results, Tryz.results30, go_sem, d0, d1, d2, d3]) rfl ⟨by rw [HZ.out.1, HZ.out.2]; rfl, hb3⟩
end Go.Proofs.YtjiikjpnlgogfaaGreatDoor
