/-
  Maps: the code of the node of some ends is the code of the tree of the one form that has what they have.
  Maps: a value that is none is not put: the program's Put.
  Maps: a tree of the program's and one of the document's that have the same.
  Package twigslaw: maps: Put, Delete, Get, Root of a tree, held against the document's.
-/
import Derived.Test.YtjiikjpnlgogfaaGreatDoorMqMapB
import Derived.Test.YtjiikjpnlgogfaaGreatDoorMqOrdA
namespace Go.Proofs.YtjiikjpnlgogfaaGreatDoor
open Go.RowKit

def pE (y : Ed) : List Nat := bytesOf y.path
def lkE (l : List Ed) (s : List Nat) : Option ByteArray := (l.find? fun x => decide (pE x = s)).map (·.val)
theorem lkE_cons (x : Ed) (l : List Ed) (s : List Nat) : lkE (x :: l) s = if pE x = s then some x.val else lkE l s := by
  unfold lkE
  rw [List.find?_cons]
  by_cases h : pE x = s <;> simp [h]
theorem lkE_mem {l : List Ed} (hd : (l.map pE).Nodup) {x : Ed} (hx : x ∈ l) : lkE l (pE x) = some x.val := by
  induction l with
  | nil => cases hx
  | cons y l ih =>
    rw [List.map_cons, List.nodup_cons] at hd
    rw [lkE_cons]
    rcases List.mem_cons.1 hx with rfl | hx
    · rw [if_pos rfl]
    · rw [if_neg (fun e : pE y = pE x => hd.1 (by rw [e]; exact List.mem_map_of_mem hx)), ih hd.2 hx]
theorem lkE_some {l : List Ed} {s : List Nat} {u : ByteArray} (h : lkE l s = some u) : ∃ x ∈ l, pE x = s ∧ x.val = u := by
  induction l with
  | nil => cases h
  | cons x l ih =>
    rw [lkE_cons] at h
    by_cases e : pE x = s
    · rw [if_pos e] at h
      exact ⟨x, List.mem_cons_self .., e, Option.some.inj h⟩
    · rw [if_neg e] at h
      obtain ⟨y, hy, h1, h2⟩ := ih h
      exact ⟨y, List.mem_cons_of_mem _ hy, h1, h2⟩
theorem lkE_none {l : List Ed} {s : List Nat} (h : ∀ x ∈ l, pE x ≠ s) : lkE l s = none := by
  induction l with
  | nil => rfl
  | cons x l ih => rw [lkE_cons, if_neg (h x (List.mem_cons_self ..)), ih fun y hy => h y (List.mem_cons_of_mem _ hy)]
theorem hasE_lk (l : List Ed) (p : ByteArray) : hasE l p = lkE l (bytesOf p) := by
  unfold hasE lkE
  congr 2
  funext x
  rw [decide_eq_decide]
  exact ⟨fun h => by rw [pE, h], fun h => bytesOf_inj h⟩
/-- Ends of one length, no two of one path. -/
structure Row64 (n : Nat) (l : List Ed) : Prop where
  size : ∀ y ∈ l, y.path.size = n
  nib : ∀ y ∈ l, nib (pE y)
  dup : (l.map pE).Nodup
theorem cut_path (p : ByteArray) (y : Ed) : pE (y.cut p) = (pE y).drop p.size := bytesOf_tail _ _
theorem Row64.cut {n : Nat} {l : List Ed} (h : Row64 n l) (p : ByteArray) : Row64 (n - p.size) (cutE l p) := by
  refine ⟨fun y hy => ?_, fun y hy => ?_, ?_⟩
  · obtain ⟨x, hx, rfl⟩ := List.mem_map.1 hy
    show (x.path.extract p.size x.path.size).size = _
    rw [extract_size, h.size x (List.mem_filter.1 hx).1]
  · obtain ⟨x, hx, rfl⟩ := List.mem_map.1 hy
    obtain ⟨h1, h2⟩ := List.mem_filter.1 hx
    rw [cut_path]
    exact fun z hz => h.nib x h1 z (List.mem_of_mem_drop hz)
  · unfold cutE
    rw [List.map_map]
    have hd := h.dup
    rw [List.Nodup, List.pairwise_map] at hd ⊢
    have hf := hd.filter fun x => decide (begins p x.path)
    refine List.Pairwise.imp_of_mem ?_ hf
    intro a b ha hb hne e
    have h1 : begins p a.path := of_decide_eq_true (List.mem_filter.1 ha).2
    have h2 : begins p b.path := of_decide_eq_true (List.mem_filter.1 hb).2
    apply hne
    have e' : (pE a).drop p.size = (pE b).drop p.size := by rw [← cut_path, ← cut_path]; exact e
    rw [← List.take_append_drop p.size (pE a), ← List.take_append_drop p.size (pE b), e']
    congr 1
    exact Eq.trans h1 (Eq.symm h2)
theorem lk_cut {l : List Ed} {n : Nat} (h : Row64 n l) (p : ByteArray) (s : List Nat) : lkE (cutE l p) s = lkE l (bytesOf p ++ s) := by
  have hc := h.cut p
  cases e : lkE (cutE l p) s with
  | some u =>
    obtain ⟨y, hy, h1, h2⟩ := lkE_some e
    obtain ⟨x, hx, rfl⟩ := List.mem_map.1 hy
    obtain ⟨m1, m2⟩ := List.mem_filter.1 hx
    have hb : begins p x.path := of_decide_eq_true m2
    rw [cut_path] at h1
    have e1 : pE x = bytesOf p ++ s := by rw [← h1, ← show (pE x).take p.size = bytesOf p from hb, List.take_append_drop]
    rw [← e1, lkE_mem h.dup m1]
    exact congrArg some h2.symm
  | none =>
    refine (lkE_none fun x hx e1 => ?_).symm
    have hb : begins p x.path := by
      show (pE x).take p.size = bytesOf p
      rw [e1, List.take_left' (bytesOf_length p)]
    have hm : x.cut p ∈ cutE l p := List.mem_map_of_mem (List.mem_filter.2 ⟨hx, decide_eq_true hb⟩)
    have := lkE_mem hc.dup hm
    rw [cut_path, e1, List.drop_left' (bytesOf_length p), e] at this
    cases this
/-- All paths have the first nibbles in common. -/
theorem shr_take (x : Ed) : ∀ (l : List Ed) (n : Nat), ∀ y ∈ l, (pE y).take (l.foldl (fun n y => comm ((bytesOf x.path).take n) (bytesOf y.path)) n) = (bytesOf x.path).take (l.foldl (fun n y => comm ((bytesOf x.path).take n) (bytesOf y.path)) n)
  | [], _ => fun y hy => by cases hy
  | z :: l, n => fun y hy => by
    rw [List.foldl_cons]
    have hle := fold_le (bytesOf x.path) l (comm ((bytesOf x.path).take n) (bytesOf z.path))
    rcases List.mem_cons.1 hy with rfl | hy
    · have h1 := comm_take ((bytesOf x.path).take n) (bytesOf y.path)
      have h2 := (comm_le ((bytesOf x.path).take n) (bytesOf y.path)).1
      rw [List.length_take] at h2
      generalize l.foldl (fun n y => comm ((bytesOf x.path).take n) (bytesOf y.path)) (comm ((bytesOf x.path).take n) (bytesOf y.path)) = k at hle ⊢
      generalize comm ((bytesOf x.path).take n) (bytesOf y.path) = c at *
      have h3 := congrArg (List.take k) h1
      rw [List.take_take, List.take_take, List.take_take, Nat.min_eq_left hle, Nat.min_eq_left (by omega)] at h3
      exact h3.symm
    · exact shr_take x l _ y hy
theorem shrE_take {x : Ed} {l : List Ed} {y : Ed} (hy : y ∈ x :: l) : (pE y).take (shrE x l) = (pE x).take (shrE x l) := by
  rcases List.mem_cons.1 hy with rfl | hy
  · rfl
  · exact shr_take x l _ y hy
theorem shr_ge (x : Ed) (k : Nat) : ∀ (l : List Ed) (n : Nat), k ≤ n → k ≤ (bytesOf x.path).length → (∀ y ∈ l, (pE y).take k = (bytesOf x.path).take k ∧ k ≤ (pE y).length) → k ≤ l.foldl (fun n y => comm ((bytesOf x.path).take n) (bytesOf y.path)) n
  | [], _, h, _, _ => h
  | z :: l, n, h, hx, hy => by
    rw [List.foldl_cons]
    refine shr_ge x k l _ ?_ hx fun y hy' => hy y (List.mem_cons_of_mem _ hy')
    obtain ⟨h1, h2⟩ := hy z (List.mem_cons_self ..)
    apply Nat.le_of_not_lt
    intro hlt
    have a1 := comm_ne ((bytesOf x.path).take n) (bytesOf z.path) (by rw [List.length_take]; omega) (by unfold pE at h2; omega)
    generalize comm ((bytesOf x.path).take n) (bytesOf z.path) = c at a1 hlt
    apply a1
    rw [List.getElem?_take_of_lt (by omega), ← List.getElem?_take_of_lt hlt, ← h1, List.getElem?_take_of_lt hlt]
    rfl
theorem shrE_ge {x : Ed} {l : List Ed} {k : Nat} (hx : k ≤ (pE x).length) (h : ∀ y ∈ l, (pE y).take k = (pE x).take k ∧ k ≤ (pE y).length) : k ≤ shrE x l :=
  shr_ge x k l _ (by unfold pE at hx; rw [bytesOf_length] at hx; exact hx) hx h
/-- Two ends that part at a place. -/
theorem shrE_eq {x : Ed} {l : List Ed} {k : Nat} (hx : k ≤ (pE x).length) (h : ∀ y ∈ l, (pE y).take k = (pE x).take k ∧ k ≤ (pE y).length) {y z : Ed} (hy : y ∈ x :: l) (hz : z ∈ x :: l) (hne : (pE y)[k]? ≠ (pE z)[k]?) : shrE x l = k := by
  refine Nat.le_antisymm (Nat.le_of_not_lt fun hlt => ?_) (shrE_ge hx h)
  apply hne
  have h1 := shrE_take hy
  have h2 := shrE_take hz
  rw [← List.getElem?_take_of_lt hlt, h1, ← h2, List.getElem?_take_of_lt hlt]
theorem refs_range {ks : List Nd} (h : ks.length = 16) : refs ks = ((List.range 16).map fun v => (ks.getD v .no).ref).flatten := by
  have e : ks = (List.range 16).map fun v => ks.getD v .no := by
    apply List.ext_getElem (by simp [h])
    intro j h1 h2
    rw [List.getElem_map, List.getElem_range, List.getD_eq_getElem?_getD, List.getElem?_eq_getElem h1]
    rfl
  have g : ∀ (l : List Nat), refs (l.map fun v => ks.getD v .no) = (l.map fun v => (ks.getD v .no).ref).flatten := fun l => by
    induction l with
    | nil => rfl
    | cons a l ih => rw [List.map_cons, refs_cons, ih]; rfl
  conv => lhs; rw [e]
  exact g _

theorem code_eq : ∀ (f n : Nat) (t : Nd) (l : List Ed), n < f → n ≤ 64 → t.can n → 0 < l.length → Row64 n l → (∀ s, s.length = n → t.get s = lkE l s) → t.code = codeE f l ∧ t ≠ .no
  | 0, _, _, _, h, _, _, _, _, _ => by omega
  | f + 1, n, t, l, hn, h64, hc, h0, hr, hg => by
    obtain ⟨x, m, rfl⟩ : ∃ x m, l = x :: m := by cases l with | nil => simp at h0 | cons x m => exact ⟨x, m, rfl⟩
    have hlen : ∀ y ∈ x :: m, (pE y).length = n := fun y hy => by unfold pE; rw [bytesOf_length]; exact hr.size y hy
    have hget : ∀ y ∈ x :: m, t.get (pE y) = some y.val := fun y hy => by rw [hg _ (hlen y hy)]; exact lkE_mem hr.dup hy
    have hxm : x ∈ x :: m := List.mem_cons_self ..
    cases t with
    | no => have := hget x hxm; rw [get_no] at this; cases this
    | stub g => rw [Nd.can] at hc; exact hc.elim
    | leaf p v =>
      refine ⟨?_, by simp⟩
      have hl : ∀ y ∈ x :: m, pE y = bytesOf p ∧ y.val = v := fun y hy => by
        have h := hget y hy
        rw [get_leaf] at h
        by_cases e : bytesOf p = pE y
        · rw [if_pos e] at h
          exact ⟨e.symm, (Option.some.inj h).symm⟩
        · rw [if_neg e] at h; cases h
      have hm : m = [] := by
        cases m with
        | nil => rfl
        | cons z m =>
          have hd := hr.dup
          rw [List.map_cons, List.nodup_cons] at hd
          exact absurd (by rw [(hl x hxm).1, ← (hl z (by simp)).1]; simp) hd.1
      subst hm
      have h1 := hl x hxm
      rw [codeE, Nd.code]
      simp only [List.length_nil, if_true]
      rw [show bytesOf x.path = bytesOf p from h1.1, h1.2]
    | ext p t' =>
      refine ⟨?_, by simp⟩
      obtain ⟨c1, c2, c3, c4, c5⟩ := can_ext.1 hc
      obtain ⟨ks, rfl⟩ : ∃ ks, t' = .br ks := by cases t' <;> simp [Nd.isBr] at c5 <;> exact ⟨_, rfl⟩
      have hbg : ∀ y ∈ x :: m, begins p y.path := fun y hy => by
        have h := hget y hy
        rw [get_ext] at h
        by_cases e : (pE y).take p.size = bytesOf p
        · exact e
        · rw [if_neg e] at h; cases h
      obtain ⟨a, b, s, s', hab, _, _, hs, hs', _, _, g1, g2⟩ := br_two c4
      have hin : ∀ a s, s.length = n - p.size - 1 → (Nd.br ks).get (a :: s) ≠ none → ∃ y ∈ x :: m, pE y = bytesOf p ++ a :: s := fun a s hs hgt => by
        have hl : (bytesOf p ++ a :: s).length = n := by rw [List.length_append, bytesOf_length, List.length_cons, hs]; omega
        have h := hg _ hl
        rw [get_ext, List.take_left' (bytesOf_length p), if_pos rfl, List.drop_left' (bytesOf_length p)] at h
        cases e : lkE (x :: m) (bytesOf p ++ a :: s) with
        | none => rw [e] at h; exact absurd h hgt
        | some u =>
          obtain ⟨y, hy, h1, _⟩ := lkE_some e
          exact ⟨y, hy, h1⟩
      obtain ⟨y, hy, ey⟩ := hin a s hs g1
      obtain ⟨z, hz, ez⟩ := hin b s' hs' g2
      have hne : (pE y)[p.size]? ≠ (pE z)[p.size]? := by
        rw [ey, ez, List.getElem?_append_right (by rw [bytesOf_length]; omega), List.getElem?_append_right (by rw [bytesOf_length]; omega), bytesOf_length, Nat.sub_self]
        simpa using hab
      have hsh : shrE x m = p.size := shrE_eq (by rw [hlen x hxm]; omega) (fun w hw => ⟨by
        have a1 : (pE w).take p.size = bytesOf p := hbg w (List.mem_cons_of_mem _ hw)
        have a2 : (pE x).take p.size = bytesOf p := hbg x hxm
        rw [a1, a2], by rw [hlen w (List.mem_cons_of_mem _ hw)]; omega⟩) hy hz hne
      have hm0 : ¬ m.length = 0 := fun e => by
        have : m = [] := List.eq_nil_of_length_eq_zero e
        subst this
        rw [List.mem_singleton.1 hy, List.mem_singleton.1 hz] at hne
        exact hne rfl
      have hpx : x.path.extract 0 p.size = p := begins_cut (hbg x hxm)
      have hcut0 : 0 < (cutE (x :: m) p).length := List.length_pos_of_mem (List.mem_map_of_mem (List.mem_filter.2 ⟨hxm, decide_eq_true (hbg x hxm)⟩))
      have ih := code_eq f (n - p.size) (.br ks) (cutE (x :: m) p) (by omega) (by omega) c4 hcut0 (hr.cut p) fun s hs => by
        rw [lk_cut hr, ← hg _ (by rw [List.length_append, bytesOf_length, hs]; omega), get_ext, List.take_left' (bytesOf_length p), if_pos rfl, List.drop_left' (bytesOf_length p)]
      rw [codeE, if_neg hm0, hsh, if_pos c1, hpx, ← ih.1, Nd.ref_ext]
      rfl
    | br ks =>
      refine ⟨?_, by simp⟩
      obtain ⟨c1, c2, c3, c4⟩ := can_br.1 hc
      obtain ⟨a, b, s, s', hab, _, _, hs, hs', _, _, g1, g2⟩ := br_two hc
      have hin : ∀ a s, s.length = n - 1 → (Nd.br ks).get (a :: s) ≠ none → ∃ y ∈ x :: m, pE y = a :: s := fun a s hs hgt => by
        have h := hg (a :: s) (by rw [List.length_cons, hs]; omega)
        cases e : lkE (x :: m) (a :: s) with
        | none => rw [e] at h; exact absurd h hgt
        | some u =>
          obtain ⟨y, hy, h1, _⟩ := lkE_some e
          exact ⟨y, hy, h1⟩
      obtain ⟨y, hy, ey⟩ := hin a s hs g1
      obtain ⟨z, hz, ez⟩ := hin b s' hs' g2
      have hne : (pE y)[0]? ≠ (pE z)[0]? := by rw [ey, ez]; simpa using hab
      have hsh : shrE x m = 0 := shrE_eq (Nat.zero_le _) (fun w _ => ⟨by simp, Nat.zero_le _⟩) hy hz hne
      have hm0 : ¬ m.length = 0 := fun e => by
        have : m = [] := List.eq_nil_of_length_eq_zero e
        subst this
        rw [List.mem_singleton.1 hy, List.mem_singleton.1 hz] at hne
        exact hne rfl
      rw [codeE, if_neg hm0, hsh, if_neg (by omega), Nd.code, refs_range c2]
      congr 3
      refine List.map_congr_left fun v hv => ?_
      have hv16 : v < 16 := by simpa using hv
      have h1 : bytesOf (textB [v]) = [v] := bytesOf_one (by omega)
      have hgv : ∀ s, s.length = n - (textB [v]).size → (ks.getD v .no).get s = lkE (cutE (x :: m) (textB [v])) s := fun s hs => by
        rw [one_size] at hs
        rw [lk_cut hr, h1, ← hg _ (by rw [List.length_append, hs]; simp; omega)]
        exact (get_br ks v s).symm
      have hcv : (ks.getD v .no).can (n - (textB [v]).size) := by rw [one_size]; exact canAll_getD c3 v
      by_cases hz0 : (cutE (x :: m) (textB [v])).length = 0
      · rw [if_pos hz0]
        have hno : ks.getD v .no = .no := none_no hcv fun s hs _ => by
          rw [hgv s hs, List.eq_nil_of_length_eq_zero hz0, get_no]
          rfl
        rw [hno]
        rfl
      · rw [if_neg hz0]
        have ih := code_eq f (n - (textB [v]).size) (ks.getD v .no) (cutE (x :: m) (textB [v])) (by rw [one_size]; omega) (by omega) hcv (by omega) (hr.cut _) hgv
        rw [← ih.1]
        have hst := can_stub hcv
        revert ih hst
        cases ks.getD v .no with
        | no => intro ih _; exact absurd rfl ih.2
        | stub g => intro _ hst; exact absurd rfl (hst g)
        | leaf _ _ => intro _ _; rfl
        | ext _ _ => intro _ _; rfl
        | br _ => intro _ _; rfl
theorem root_eq {t : Nd} {l : List Ed} (hc : t.can 64) (hr : Row64 64 l) (hg : ∀ s, s.length = 64 → t.get s = lkE l s) : t.dig = rootE l := by
  unfold rootE
  by_cases h0 : l.length = 0
  · rw [if_pos h0]
    have hl : l = [] := List.eq_nil_of_length_eq_zero h0
    have hno : t = .no := none_no hc fun s hs _ => by rw [hg s hs, hl, get_no]; rfl
    rw [hno, Nd.dig_no]
    congr 1
  · rw [if_neg h0]
    obtain ⟨h1, h2⟩ := code_eq 65 64 t l (by omega) (by omega) hc (by omega) hr hg
    rw [← h1]
    refine Nd.dig_eq ?_
    have hst := can_stub hc
    revert h2 hst
    cases t with
    | no => intro h _; exact absurd rfl h
    | stub g => intro _ hst; exact absurd rfl (hst g)
    | leaf _ _ => intro _ _; rfl
    | ext _ _ => intro _ _; rfl
    | br _ => intro _ _; rfl
end Go.Proofs.YtjiikjpnlgogfaaGreatDoor

namespace Go.Proofs.YtjiikjpnlgogfaaGreatDoor
open Go.RowKit

set_option maxRecDepth 100000 in
theorem isvalue_bad (u : ByteArray) (w : World) (h : u.size < 1 ∨ 100 < u.size) : Calls Tryz.prog 82 #[.string u] w fun e w' => e = .returned (.bool false) ∧ w' = w := by
  by_cases h0 : u.size < 1
  · have hu : u = ⟨#[]⟩ := bytesOf_inj (by rw [bytesOf_nil (by omega)]; rfl)
    subst hu
    clear h h0
    go_enter Tryz.func82, Tryz.ntmps82
    go_wp2
    go_ret
    exact ⟨rfl, rfl⟩
  · have hs := some_text u (by omega)
    have i1 : ¬ (u.size : Int) ≤ 100 := by omega
    have d1 : decide (u.size ≤ 100) = false := decide_eq_false (by omega)
    clear h h0
    go_enter Tryz.func82, Tryz.ntmps82
    go_wp2
    go_ret
    exact ⟨rfl, rfl⟩
set_option maxRecDepth 100000 in
set_option maxHeartbeats 800000 in
theorem tputbad_any {w : World} {a : Addr} {K : Array Nat} {u : ByteArray} (sent : Nat → Addr) (hF : Faults w sent) (h : u.size < 1 ∨ 100 < u.size) :
    Calls Tryz.prog 50 #[.pointer (some a), .agg (K.toList.map encB).toArray, .string u] w fun e w' => e = .returned (.iface 423 (.pointer (some (sent 11)))) ∧ Below w.heap.size w w' := by
  have HI := Hid.hide (fun W => isvalue_bad u W h)
  have hb0 : Below w.heap.size w (w.alloc (.cells (K.toList.map encB).toArray 26)) := (Below.refl _ _).alloc (Nat.le_refl _) _
  have c9 : (w.alloc (.cells (K.toList.map encB).toArray 26)).cell? ⟨9, 0, none⟩ = some (.iface 423 (.pointer (some (sent 11)))) := (hF.below hb0).var 11 (by decide)
  clear h hF
  go_enter Tryz.func50, Tryz.ntmps50
  go_wp2_with fail
  generalize World.alloc w _ = w0 at hb0 c9 ⊢
  refine (HI.out w0).mono ?_
  rintro e w2 ⟨rfl, hw2⟩
  obtain rfl := hw2.symm
  go_wp2
  go_ret
  exact ⟨rfl, hb0⟩
set_option maxRecDepth 100000 in
set_option maxHeartbeats 800000 in
theorem xputbad_any {w : World} {b : Nat} {K : Array Nat} {u : ByteArray} (sent : Nat → Addr) (hF : Faults w sent) (hK : K.size = 32) (h : u.size < 1 ∨ 100 < u.size) :
    Calls Tryz.prog 19 #[.pointer (some ⟨b, 0, none⟩), .agg (K.toList.map encB).toArray, .string u] w fun e w' => e = .returned (.int .i64 11) ∧ Below w.heap.size w w' := by
  have hsz : (Tryz.prog.info? 26).map (·.size) = some (K.toList.map encB).length := by rw [size51]; simp [hK]
  obtain ⟨W0, hW0⟩ : ∃ W0, w.alloc (.cells (K.toList.map encB).toArray 26) = W0 := ⟨_, rfl⟩
  have hb0 : Below w.heap.size w W0 := by rw [← hW0]; exact (Below.refl _ _).alloc (Nat.le_refl _) _
  have hs0 : w.heap.size < W0.heap.size := by rw [← hW0]; simp
  have hrow : W0.rangeAt w.heap.size 0 (K.toList.map encB) := fun j u hu => by
    rw [← hW0, Nat.zero_add, World.cell?_alloc_new]
    simpa using hu
  have hbd : Below w.heap.size w W0.drew := hb0.drew
  have HP := Hid.hide (tputbad_any (a := ⟨b, 0, none⟩) (K := K) sent (hF.below hbd) h)
  have HN : Hid (∀ W, Below w.heap.size w W → Calls Tryz.prog 49 #[.iface 423 (.pointer (some (sent 11)))] W fun e w' => e = .returned (.int .i64 11) ∧ Below W.heap.size W w') := fun W hW => errno_any sent (.base 11) (by show 11 ∈ nums; decide) W (hF.below hW)
  have HB := Hid.hide hbd
  have hu26 := Tryz.underlying26
  clear hF hK h hb0 hbd
  go_enter Tryz.func19, Tryz.ntmps19
  go_upto_region 1 with fail
  clear hW0
  go_region_held3 (fun w' => w'.rangeAt w.heap.size 0 (K.toList.map encB)) (first | exact hrow | exact h1 | exact h2)
    (first | (go_at_call 50; refine HP.out.mono ?_; rintro x w1 ⟨rfl, hb1⟩; have h1 : w1.rangeAt w.heap.size 0 (K.toList.map encB) := rangeAt_block hrow (hb1.block _ hs0); have H1 : Hid (Below w.heap.size w w1) := HB.out.trans (hb1.mono HB.out.size); have hs1 : w.heap.size < w1.heap.size := Nat.lt_of_lt_of_le hs0 hb1.size; clear hb1) | (go_at_call 49; refine (HN.out w1 H1.out).mono ?_; rintro x w2 ⟨rfl, hb2⟩; have h2 : w2.rangeAt w.heap.size 0 (K.toList.map encB) := rangeAt_block h1 (hb2.block _ hs1); have H2 : Hid (Below w.heap.size w w2) := H1.out.trans (hb2.mono H1.out.size); clear hb2))
  all_goals go_wp2
  all_goals go_ret
  all_goals exact ⟨rfl, H2.out⟩
end Go.Proofs.YtjiikjpnlgogfaaGreatDoor

namespace Go.Proofs.YtjiikjpnlgogfaaGreatDoor
open Go.RowKit

theorem FrX.ofOnly {B : Nat} {S : Wood} {w w' : World} {fb : Nat} (h : Forest B S w) (ho : Only fb w w') (hn : S fb = none) : FrX B (· = fb) S S w w' :=
  ⟨ho.os, ho.tape, ho.output, ho.size, fun k hk _ hx => ho.block k hk hx, h.keep ho.size fun k t hk => ho.block k (h.lt hk) fun e => (by rw [e, hn] at hk; cases hk), fun _ _ h => h, fun _ _ h => h⟩
theorem FrX.wk {B : Nat} {X Y : Nat → Prop} {S S' : Wood} {w w' : World} (h : FrX B X S S' w w') (hXY : ∀ k, X k → Y k) : FrX B Y S S' w w' :=
  ⟨h.os, h.tape, h.output, h.size, fun k hk hn hy => h.other k hk hn fun hx => hy (hXY k hx), h.forest, h.sub, h.new⟩
theorem Tells.lt2 {S : Wood} {w : World} {b : Nat} {g : List Nat → Option ByteArray} (h : Tells S w b g) : b < w.heap.size := by
  obtain ⟨t, h1, _⟩ := h.ex
  exact h1.lt
theorem wth_mem {l : List Ed} (hd : (l.map pE).Nodup) {p : ByteArray} (y : Ed) : y ∈ wth l (findE l p) ↔ y ∈ l ∧ y.path ≠ p := by
  rcases findE_hasE l p with ⟨h1, h2⟩ | ⟨i, hi, h1, -, h3⟩
  · rw [h1]
    refine ⟨fun hy => ⟨hy, fun e => ?_⟩, fun h => h.1⟩
    rw [hasE_lk] at h2
    have := lkE_mem hd (x := y) hy
    rw [pE, e, h2] at this
    cases this
  · rw [h1]
    show y ∈ l.eraseIdx i ↔ _
    rw [List.mem_eraseIdx_iff_getElem]
    constructor
    · rintro ⟨j, hj, hne, rfl⟩
      refine ⟨List.getElem_mem hj, fun e => hne ?_⟩
      have hinj : (l.map pE)[j]'(by simpa using hj) = (l.map pE)[i]'(by simpa using hi) := by
        rw [List.getElem_map, List.getElem_map, pE, pE, e, h3]
      have hpw := List.pairwise_iff_getElem.1 hd
      rcases Nat.lt_trichotomy j i with hlt | he | hlt
      · exact absurd hinj (hpw j i _ _ hlt)
      · exact he
      · exact absurd hinj.symm (hpw i j _ _ hlt)
    · rintro ⟨hy, hne⟩
      obtain ⟨j, hj, rfl⟩ := List.getElem_of_mem hy
      exact ⟨j, hj, fun e => hne (by subst e; exact h3), rfl⟩
theorem wth_sub (l : List Ed) (o : Option Nat) : List.Sublist (wth l o) l := by
  cases o with
  | none => exact List.Sublist.refl _
  | some i => exact List.eraseIdx_sublist l i
theorem Row64.less {n : Nat} {l : List Ed} (h : Row64 n l) (o : Option Nat) : Row64 n (wth l o) :=
  ⟨fun y hy => h.size y ((wth_sub l o).subset hy), fun y hy => h.nib y ((wth_sub l o).subset hy), h.dup.sublist ((wth_sub l o).map _)⟩
theorem lk_wth {n : Nat} {l : List Ed} (h : Row64 n l) (p : ByteArray) (s : List Nat) : lkE (wth l (findE l p)) s = if s = bytesOf p then none else lkE l s := by
  by_cases e : s = bytesOf p
  · rw [if_pos e]
    refine lkE_none fun x hx e2 => ?_
    have := ((wth_mem h.dup x).1 hx).2
    exact this (bytesOf_inj (e2.trans e))
  · rw [if_neg e]
    cases hl : lkE l s with
    | none =>
      refine lkE_none fun x hx e2 => ?_
      have := lkE_mem h.dup ((wth_mem h.dup x).1 hx).1
      rw [e2, hl] at this
      cases this
    | some u =>
      obtain ⟨x, hx, rfl, rfl⟩ := lkE_some hl
      exact lkE_mem (h.less _).dup ((wth_mem h.dup x).2 ⟨hx, fun e2 => e (by rw [pE, e2])⟩)
theorem row_put {n : Nat} {l : List Ed} (h : Row64 n l) {p : ByteArray} (hs : p.size = n) (hn : nib (bytesOf p)) (u : ByteArray) : Row64 n (putE l p u) := by
  have hw := h.less (findE l p)
  refine ⟨fun y hy => ?_, fun y hy => ?_, ?_⟩
  · rcases List.mem_append.1 hy with hy | hy
    · exact hw.size y hy
    · rw [List.mem_singleton.1 hy]; exact hs
  · rcases List.mem_append.1 hy with hy | hy
    · exact hw.nib y hy
    · rw [List.mem_singleton.1 hy]; exact hn
  · rw [putE, List.map_append]
    refine List.nodup_append.2 ⟨hw.dup, by simp, fun a ha b hb e => ?_⟩
    obtain ⟨y, hy, rfl⟩ := List.mem_map.1 ha
    rw [List.map_singleton, List.mem_singleton] at hb
    have := ((wth_mem h.dup y).1 hy).2
    apply this
    exact bytesOf_inj (e.trans hb)
theorem lk_put {n : Nat} {l : List Ed} (h : Row64 n l) {p : ByteArray} (hs : p.size = n) (hn : nib (bytesOf p)) (u : ByteArray) (s : List Nat) : lkE (putE l p u) s = if s = bytesOf p then some u else lkE l s := by
  have hp := row_put h hs hn u
  by_cases e : s = bytesOf p
  · rw [if_pos e, e]
    exact lkE_mem hp.dup (x := newE p u) (List.mem_append_right _ (List.mem_singleton.2 rfl))
  · rw [if_neg e]
    have hw := lk_wth h p s
    rw [if_neg e] at hw
    rw [← hw]
    cases hl : lkE (wth l (findE l p)) s with
    | none =>
      refine lkE_none fun x hx e2 => ?_
      rcases List.mem_append.1 hx with hx | hx
      · have := lkE_mem (h.less _).dup hx
        rw [e2, hl] at this
        cases this
      · rw [List.mem_singleton.1 hx] at e2
        exact e e2.symm
    | some v =>
      obtain ⟨x, hx, rfl, rfl⟩ := lkE_some hl
      exact lkE_mem hp.dup (List.mem_append_left _ hx)

/-- A pair of trees that have the same. -/
structure Pr (B : Nat) (S : Wood) (w : World) (bx bz : Nat) (v : Value) (l : List Ed) : Prop where
  t : Tells S w bx (lkE l)
  r : RtAt w B bz v l
  sz : S bz = none
  sg : ∀ g, v.ownBlock = some g → S g = none
  row : Row64 64 l
  ok : ∀ y ∈ l, EdOK 65 y
  ne : bx ≠ bz
  gx : ∀ g, v.ownBlock = some g → g ≠ bx ∧ g ≠ bz
  lo : B ≤ bx ∧ B ≤ bz
theorem RtAt.framex {B C bz : Nat} {X : Nat → Prop} {S S' : Wood} {w w' : World} {v : Value} {l : List Ed} (h : RtAt w C bz v l) (hf : FrX B X S S' w w') (hz : S bz = none) (hX : ¬ X bz) (hg : ∀ g, v.ownBlock = some g → S g = none ∧ ¬ X g) : RtAt w' C bz v l :=
  ⟨(hf.other bz h.lt hz hX).trans h.heap, h.row.keep hf.size fun k hk e => hf.other k hk (hg k e).1 (hg k e).2⟩
theorem Pr.framex {B : Nat} {X : Nat → Prop} {S S' : Wood} {w w' : World} {bx bz : Nat} {v : Value} {l : List Ed} (h : Pr B S w bx bz v l) (hf : FrX B X S S' w w') (h1 : ¬ X bx) (h2 : ¬ X bz) (h3 : ∀ g, v.ownBlock = some g → ¬ X g) : Pr B S' w' bx bz v l :=
  ⟨h.t.framex hf h1, h.r.framex hf h.sz h2 fun g hg => ⟨h.sg g hg, h3 g hg⟩, hf.new bz h.r.lt h.sz, fun g hg => hf.new g (h.r.row.block g hg).2 (h.sg g hg), h.row, h.ok, h.ne, h.gx, h.lo⟩
theorem Pr.behind {B : Nat} {S : Wood} {w w' : World} {bx bz : Nat} {v : Value} {l : List Ed} (h : Pr B S w bx bz v l) (hf : Forest B S w) (hb : Below w.heap.size w w') : Pr B S w' bx bz v l := h.framex ((Fr.of_below hf hb).x fun _ => False) (fun h => h) (fun h => h) fun _ _ h => h
theorem key_row {K : Array Nat} (hK : K.size = 32) (hKb : Bytes K) : (textB (nibs K.toList)).size = 64 ∧ bytesOf (textB (nibs K.toList)) = nibs K.toList ∧ nib (bytesOf (textB (nibs K.toList))) := by
  obtain ⟨h1, h2, h3⟩ := key_path hK hKb
  exact ⟨h3, h1, by rw [h1]; exact h2⟩
theorem new_ok {p u : ByteArray} (hp : p.size = 64) (hn : nib (bytesOf p)) (hu : u.size ≤ 100) : EdOK 65 (newE p u) := ⟨by show p.size < 65; omega, by show p.size ≤ 64; omega, hn, hu, rfl⟩
/-- The pair behind a Put. -/
theorem Pr.put {B : Nat} {S S1 : Wood} {w w1 w2 : World} {bx bz : Nat} {v v' : Value} {l : List Ed} {K : Array Nat} {u : ByteArray} (h : Pr B S w bx bz v l) (hK : K.size = 32) (hKb : Bytes K) (hu1 : u.size ≤ 100) (hf : FrX B (· = bx) S S1 w w1) (ht : Tells S1 w1 bx (fun s => if s = nibs K.toList then some u else lkE l s)) (ho : Only bz w1 w2) (hr : RtAt w2 w1.heap.size bz v' (putE l (textB (nibs K.toList)) u)) : Pr B S1 w2 bx bz v' (putE l (textB (nibs K.toList)) u) ∧ FrX B (fun k => k = bx ∨ k = bz) S S1 w w2 := by
  obtain ⟨k1, k2, k3⟩ := key_row hK hKb
  have hz1 : S1 bz = none := hf.new bz h.r.lt h.sz
  have hx := FrX.ofOnly hf.forest ho hz1
  have hbx : bx < w1.heap.size := ht.lt2
  have hbz : bz < w1.heap.size := Nat.lt_of_lt_of_le h.r.lt hf.size
  refine ⟨⟨(ht.framex hx (fun e => h.ne e)).congr fun s _ => ?_, ⟨hr.heap, OwnC.mono hr.row hf.forest.le⟩, hz1, fun g hg => hf.forest.fresh (hr.row.block g hg).1, row_put h.row k1 k3 u, fun y hy => ?_, h.ne, fun g hg => ?_, h.lo⟩, (hf.wk fun k hk => .inl hk).trans (hx.wk fun k hk => .inr hk)⟩
  · rw [lk_put h.row k1 k3, k2]
  · rcases List.mem_append.1 hy with hy | hy
    · exact h.ok y ((wth_sub l _).subset hy)
    · rw [List.mem_singleton.1 hy]; exact new_ok k1 k3 hu1
  · have := (hr.row.block g hg).1
    exact ⟨by omega, by omega⟩
theorem Pr.del {B : Nat} {S S1 : Wood} {w w1 w2 : World} {bx bz : Nat} {v : Value} {l : List Ed} {K : Array Nat} (h : Pr B S w bx bz v l) (hK : K.size = 32) (hKb : Bytes K) (hf : FrX B (· = bx) S S1 w w1) (ht : Tells S1 w1 bx (fun s => if s = nibs K.toList then none else lkE l s)) (ho : Only bz w1 w2) (hr : (findE l (textB (nibs K.toList)) = none ∧ Below w1.heap.size w1 w2) ∨ ∃ i, findE l (textB (nibs K.toList)) = some i ∧ ∃ v', RtAt w2 w1.heap.size bz v' (l.eraseIdx i)) : ∃ v' l', Pr B S1 w2 bx bz v' l' ∧ l'.length ≤ l.length ∧ (v' = v ∨ ∀ g, v'.ownBlock = some g → w.heap.size ≤ g) ∧ FrX B (fun k => k = bx ∨ k = bz) S S1 w w2 := by
  obtain ⟨k1, k2, k3⟩ := key_row hK hKb
  have hz1 : S1 bz = none := hf.new bz h.r.lt h.sz
  have hx := FrX.ofOnly hf.forest ho hz1
  have hbx : bx < w1.heap.size := ht.lt2
  have hbz : bz < w1.heap.size := Nat.lt_of_lt_of_le h.r.lt hf.size
  have hfr : FrX B (fun k => k = bx ∨ k = bz) S S1 w w2 := (hf.wk fun k hk => .inl hk).trans (hx.wk fun k hk => .inr hk)
  have hlk := lk_wth h.row (textB (nibs K.toList))
  rw [k2] at hlk
  rcases hr with ⟨h1, h2⟩ | ⟨i, h1, v', h2⟩
  · rw [h1] at hlk
    have hfb := (Fr.of_below hf.forest h2).x (· = bx)
    have h1r := h.r.framex hf h.sz (fun e => h.ne e.symm) fun g hg => ⟨h.sg g hg, (h.gx g hg).1⟩
    exact ⟨v, l, ⟨(ht.behind hf.forest h2).congr fun s _ => (hlk s).symm, h1r.below h2, hz1, fun g hg => hf.new g (h.r.row.block g hg).2 (h.sg g hg), h.row, h.ok, h.ne, h.gx, h.lo⟩, Nat.le_refl _, .inl rfl, hfr⟩
  · rw [h1] at hlk
    refine ⟨v', l.eraseIdx i, ⟨(ht.framex hx (fun e => h.ne e)).congr fun s _ => (hlk s).symm, ⟨h2.heap, OwnC.mono h2.row hf.forest.le⟩, hz1, fun g hg => hf.forest.fresh (h2.row.block g hg).1, h.row.less (some i), fun y hy => h.ok y ((wth_sub l (some i)).subset hy), h.ne, fun g hg => ?_, h.lo⟩, List.length_eraseIdx_le l i, .inr fun g hg => Nat.le_trans hf.size (h2.row.block g hg).1, hfr⟩
    have := (h2.row.block g hg).1
    exact ⟨by omega, by omega⟩
theorem Pr.root {B : Nat} {S : Wood} {w : World} {bx bz : Nat} {v : Value} {l : List Ed} (h : Pr B S w bx bz v l) {D : List Nat} (hD : rootOf (lkE l) D) : D = rootE l := by
  obtain ⟨t, _, h2, h3⟩ := h.t.ex
  rw [← hD t h2 h3]
  exact root_eq h2 h.row h3
end Go.Proofs.YtjiikjpnlgogfaaGreatDoor

namespace Go.Proofs.YtjiikjpnlgogfaaGreatDoor
open Go.RowKit

/-- The cells of a step. -/
structure OpK (C : Array Value) (kind a : Int) (K : Array Nat) (s : ByteArray) : Prop where
  size : C.size = 160
  k : C[0]? = some (.int .i64 kind)
  a : C[1]? = some (.int .i64 a)
  key : ∀ j (h : j < K.size), C[2 + j]? = some (encB K[j])
  s : C[67]? = some (.string s)
  len : K.size = 32
  bytes : Bytes K

/-- What a step on a pair of trees gives. -/
def MapsSaid (B : Nat) (S : Wood) (w : World) (bx bz : Nat) (v : Value) (l : List Ed) (e : Ending) (w' : World) : Prop :=
  e = .returned (.bool true) ∧ ∃ S' v' l', Pr B S' w' bx bz v' l' ∧ l'.length ≤ l.length + 1 ∧ (v' = v ∨ ∀ g, v'.ownBlock = some g → w.heap.size ≤ g) ∧ FrX B (fun k => k = bx ∨ k = bz) S S' w w'
theorem MapsSaid.same {B : Nat} {S : Wood} {w w' : World} {bx bz : Nat} {v : Value} {l : List Ed} (h : Pr B S w bx bz v l) (hf : Forest B S w) (hb : Below w.heap.size w w') : MapsSaid B S w bx bz v l (.returned (.bool true)) w' :=
  ⟨rfl, S, v, l, h.behind hf hb, by omega, .inl rfl, (Fr.of_below hf hb).x _⟩
theorem wth_len1 (l : List Ed) (p u : ByteArray) : (putE l p u).length ≤ l.length + 1 := by
  have := wth_len l (findE l p)
  rw [putE, List.length_append]
  simp
  omega

set_option maxRecDepth 100000 in
set_option maxHeartbeats 1600000 in
theorem maps_put {B : Nat} {S : Wood} {w : World} {bx bz : Nat} {v : Value} {l : List Ed} {Cs : Array Value} {a : Int} {K : Array Nat} {u : ByteArray} (sent : Nat → Addr) (h : Pr B S w bx bz v l) (hf : Forest B S w) (hF : Faults w sent) (hl : l.length ≤ 2097151) (ho : OpK Cs 12 a K u) :
    Calls Tryz.prog 70 #[.agg Cs, .pointer (some ⟨bx, 0, none⟩), .pointer (some ⟨bz, 0, none⟩)] w (MapsSaid B S w bx bz v l) := by
  obtain ⟨W0, hW0⟩ : ∃ W0, w.alloc (.cells Cs 102) = W0 := ⟨_, rfl⟩
  have hb0 : Below w.heap.size w W0 := by rw [← hW0]; exact (Below.refl _ _).alloc (Nat.le_refl _) _
  have hs0 : w.heap.size < W0.heap.size := by rw [← hW0]; simp
  have k0 : W0.cell? ⟨w.heap.size, 0, none⟩ = some (.int .i64 12) := by rw [← hW0, World.cell?_alloc_new]; exact ho.k
  have ks : W0.cell? ⟨w.heap.size, 67, none⟩ = some (.string u) := by rw [← hW0, World.cell?_alloc_new]; exact ho.s
  have hrow : W0.rangeAt w.heap.size 2 (K.toList.map encB) := fun j x hx => by
    rw [← hW0, World.cell?_alloc_new]
    have hj : j < K.size := by
      have := (List.getElem?_eq_some_iff.1 hx).1
      simpa using this
    rw [ho.key j hj]
    rw [List.getElem?_map, List.getElem?_eq_getElem (by simpa using hj)] at hx
    simpa using hx
  have zK : (Tryz.prog.info? 26).map (·.size) = some (K.toList.map encB).length := by rw [size51]; simp [ho.len]
  have hf0 := (Fr.of_below hf hb0).forest
  have h0 := h.behind hf hb0
  have hK := ho.len
  have hKb := ho.bytes
  have hS0 : S w.heap.size = none := hf.fresh (Nat.le_refl _)
  have hbx : ¬ w.heap.size = bx := by have := h.t.lt2; omega
  have hbz : ¬ w.heap.size = bz := by have := h.r.lt; omega
  have H0 : Hid (Pr B S W0 bx bz v l ∧ Forest B S W0 ∧ FrX B (fun k => k = bx ∨ k = bz) S S w W0) := ⟨h0, hf0, (Fr.of_below hf hb0).x _⟩
  by_cases hu : u.size < 1 ∨ 100 < u.size
  · have HP := Hid.hide (xputbad_any (b := bx) (K := K) sent (hF.below hb0) hK hu)
    have HQ := Hid.hide (fun W => rputbad_any (w := W) (b := bz) (K := K) hu)
    have HE : Hid (∀ W, Below W0.heap.size W0 W → MapsSaid B S w bx bz v l (.returned (.bool true)) W) := fun W hW => MapsSaid.same h hf (hb0.trans (hW.mono hb0.size))
    clear h hf hF hl ho hf0 h0 hK hKb hu
    go_enter Tryz.func70, Tryz.ntmps70
    go_wp2_with (refine wpList_load_mid rfl 26 _ rfl w.heap.size 2 rfl (K.toList.map encB) _ hrow Tryz.underlying26 rfl zK ?_)
    refine HP.out.mono ?_
    rintro e w1 ⟨rfl, hb1⟩
    have hrow1 : w1.rangeAt w.heap.size 2 (K.toList.map encB) := rangeAt_block hrow (hb1.block _ hs0)
    have ks1 := (World.cell?_of_block (a := ⟨w.heap.size, 67, none⟩) (hb1.block _ hs0)).trans ks
    have H1 := Hid.hide hb1
    clear hb1 hrow ks k0 hW0
    go_wp2_with (refine wpList_load_mid rfl 26 _ rfl w.heap.size 2 rfl (K.toList.map encB) _ hrow1 Tryz.underlying26 rfl zK ?_)
    refine (HQ.out w1).mono ?_
    rintro e w2 ⟨rfl, hb2⟩
    have H2 : Hid (Below W0.heap.size W0 w2) := H1.out.trans (hb2.mono H1.out.size)
    clear hb2
    go_wp2
    go_ret
    exact HE.out _ H2.out
  · have hu0 : 0 < u.size := by omega
    have hu1 : u.size ≤ 100 := by omega
    have HP := Hid.hide (h0.t.put hf0 hK hKb hu0 hu1)
    have HK : Hid (K.size = 32 ∧ Bytes K ∧ 0 < u.size ∧ u.size ≤ 100 ∧ l.length ≤ 2097151) := ⟨hK, hKb, hu0, hu1, hl⟩
    clear h hf hF hl ho hf0 h0 hK hKb hu hu0 hu1
    go_enter Tryz.func70, Tryz.ntmps70
    go_wp2_with (refine wpList_load_mid rfl 26 _ rfl w.heap.size 2 rfl (K.toList.map encB) _ hrow Tryz.underlying26 rfl zK ?_)
    refine HP.out.mono ?_
    rintro e w1 ⟨rfl, S1, ht1, hf1⟩
    have e1 := hf1.other w.heap.size hs0 hS0 hbx
    have hrow1 : w1.rangeAt w.heap.size 2 (K.toList.map encB) := rangeAt_block hrow e1
    have ks1 := (World.cell?_of_block (a := ⟨w.heap.size, 67, none⟩) e1).trans ks
    have hr1 := H0.out.1.r.framex hf1 H0.out.1.sz (fun e => H0.out.1.ne e.symm) fun g hg => ⟨H0.out.1.sg g hg, (H0.out.1.gx g hg).1⟩
    have HQ := Hid.hide (rput_any hr1 HK.out.2.2.2.2 (fun x hx => (H0.out.1.ok x hx).plain) HK.out.1 HK.out.2.1 HK.out.2.2.1 HK.out.2.2.2.1)
    have H1 : Hid (Tells S1 w1 bx (fun s => if s = nibs K.toList then some u else lkE l s) ∧ FrX B (· = bx) S S1 W0 w1) := ⟨ht1, hf1⟩
    clear hrow ks k0 hW0 hr1 e1 ht1 hf1
    go_wp2_with (refine wpList_load_mid rfl 26 _ rfl w.heap.size 2 rfl (K.toList.map encB) _ hrow1 Tryz.underlying26 rfl zK ?_)
    refine HQ.out.mono ?_
    rintro e w2 ⟨rfl, ho2, v2, hr2⟩
    have hfin := H0.out.1.put HK.out.1 HK.out.2.1 HK.out.2.2.2.1 H1.out.2 H1.out.1 ho2 hr2
    have HE : Hid (MapsSaid B S w bx bz v l (.returned (.bool true)) w2) := ⟨rfl, S1, v2, _, hfin.1, wth_len1 _ _ _, .inr fun g hg => by have h1 := (hr2.row.block g hg).1; have h2 := H1.out.2.size; omega, H0.out.2.2.trans hfin.2⟩
    clear ho2 hr2 hfin
    go_wp2
    go_ret
    exact HE.out

set_option maxRecDepth 100000 in
set_option maxHeartbeats 1600000 in
theorem maps_del {B : Nat} {S : Wood} {w : World} {bx bz : Nat} {v : Value} {l : List Ed} {Cs : Array Value} {a : Int} {K : Array Nat} {u : ByteArray} (h : Pr B S w bx bz v l) (hf : Forest B S w) (hl : l.length ≤ 2097151) (ho : OpK Cs 13 a K u) :
    Calls Tryz.prog 70 #[.agg Cs, .pointer (some ⟨bx, 0, none⟩), .pointer (some ⟨bz, 0, none⟩)] w (MapsSaid B S w bx bz v l) := by
  obtain ⟨W0, hW0⟩ : ∃ W0, w.alloc (.cells Cs 102) = W0 := ⟨_, rfl⟩
  have hb0 : Below w.heap.size w W0 := by rw [← hW0]; exact (Below.refl _ _).alloc (Nat.le_refl _) _
  have hs0 : w.heap.size < W0.heap.size := by rw [← hW0]; simp
  have k0 : W0.cell? ⟨w.heap.size, 0, none⟩ = some (.int .i64 13) := by rw [← hW0, World.cell?_alloc_new]; exact ho.k
  have hrow : W0.rangeAt w.heap.size 2 (K.toList.map encB) := fun j x hx => by
    rw [← hW0, World.cell?_alloc_new]
    have hj : j < K.size := by
      have := (List.getElem?_eq_some_iff.1 hx).1
      simpa using this
    rw [ho.key j hj]
    rw [List.getElem?_map, List.getElem?_eq_getElem (by simpa using hj)] at hx
    simpa using hx
  have zK : (Tryz.prog.info? 26).map (·.size) = some (K.toList.map encB).length := by rw [size51]; simp [ho.len]
  have hf0 := (Fr.of_below hf hb0).forest
  have h0 := h.behind hf hb0
  have hK := ho.len
  have hKb := ho.bytes
  have hS0 : S w.heap.size = none := hf.fresh (Nat.le_refl _)
  have hbx : ¬ w.heap.size = bx := by have := h.t.lt2; omega
  have hbz : ¬ w.heap.size = bz := by have := h.r.lt; omega
  have H0 : Hid (Pr B S W0 bx bz v l ∧ Forest B S W0 ∧ FrX B (fun k => k = bx ∨ k = bz) S S w W0) := ⟨h0, hf0, (Fr.of_below hf hb0).x _⟩
  have hkr := key_row hK hKb
  have HP := Hid.hide (h0.t.del hf0 hK hKb (o := lkE l (nibs K.toList)) rfl)
  have hhas : hasE l (textB (nibs K.toList)) = lkE l (nibs K.toList) := by rw [hasE_lk, hkr.2.1]
  have HK : Hid (K.size = 32 ∧ Bytes K ∧ l.length ≤ 2097152 ∧ hasE l (textB (nibs K.toList)) = lkE l (nibs K.toList)) := ⟨hK, hKb, by omega, hhas⟩
  clear h hf hl ho hf0 h0 hK hKb hkr hhas
  go_enter Tryz.func70, Tryz.ntmps70
  go_wp2_with (refine wpList_load_mid rfl 26 _ rfl w.heap.size 2 rfl (K.toList.map encB) _ hrow Tryz.underlying26 rfl zK ?_)
  refine HP.out.mono ?_
  rintro e w1 ⟨rfl, S1, ht1, hf1⟩
  have e1 := hf1.other w.heap.size hs0 hS0 hbx
  have hrow1 : w1.rangeAt w.heap.size 2 (K.toList.map encB) := rangeAt_block hrow e1
  have hr1 := H0.out.1.r.framex hf1 H0.out.1.sz (fun e => H0.out.1.ne e.symm) fun g hg => ⟨H0.out.1.sg g hg, (H0.out.1.gx g hg).1⟩
  have hQ := rdelete_any hr1 HK.out.2.2.1 H0.out.1.ok HK.out.1 HK.out.2.1
  rw [HK.out.2.2.2] at hQ
  have HQ := Hid.hide hQ
  have H1 : Hid (Tells S1 w1 bx (fun s => if s = nibs K.toList then none else lkE l s) ∧ FrX B (· = bx) S S1 W0 w1) := ⟨ht1, hf1⟩
  generalize (lkE l (nibs K.toList)).isSome = ob at HQ ⊢
  clear hrow k0 hW0 hr1 e1 ht1 hf1 hQ
  go_wp2_with (refine wpList_load_mid rfl 26 _ rfl w.heap.size 2 rfl (K.toList.map encB) _ hrow1 Tryz.underlying26 rfl zK ?_)
  refine HQ.out.mono ?_
  rintro e w2 ⟨rfl, ho2, hr2⟩
  obtain ⟨v2, l2, hp2, hl2, hv2, hf2⟩ := H0.out.1.del HK.out.1 HK.out.2.1 H1.out.2 H1.out.1 ho2 hr2
  have HE : Hid (MapsSaid B S w bx bz v l (.returned (.bool true)) w2) := ⟨rfl, S1, v2, l2, hp2, by omega, hv2.imp id fun h g hg => by have := h g hg; omega, H0.out.2.2.trans hf2⟩
  clear ho2 hr2 hp2 hl2 hv2 hf2
  cases ob
  · go_wp2
    go_ret
    exact HE.out
  · go_wp2
    go_ret
    exact HE.out

set_option maxRecDepth 100000 in
set_option maxHeartbeats 1600000 in
theorem maps_get {B : Nat} {S : Wood} {w : World} {bx bz : Nat} {v : Value} {l : List Ed} {Cs : Array Value} {a : Int} {K : Array Nat} {u : ByteArray} (h : Pr B S w bx bz v l) (hf : Forest B S w) (hl : l.length ≤ 2097151) (ho : OpK Cs 14 a K u) :
    Calls Tryz.prog 70 #[.agg Cs, .pointer (some ⟨bx, 0, none⟩), .pointer (some ⟨bz, 0, none⟩)] w (MapsSaid B S w bx bz v l) := by
  obtain ⟨W0, hW0⟩ : ∃ W0, w.alloc (.cells Cs 102) = W0 := ⟨_, rfl⟩
  have hb0 : Below w.heap.size w W0 := by rw [← hW0]; exact (Below.refl _ _).alloc (Nat.le_refl _) _
  have hs0 : w.heap.size < W0.heap.size := by rw [← hW0]; simp
  have k0 : W0.cell? ⟨w.heap.size, 0, none⟩ = some (.int .i64 14) := by rw [← hW0, World.cell?_alloc_new]; exact ho.k
  have hrow : W0.rangeAt w.heap.size 2 (K.toList.map encB) := fun j x hx => by
    rw [← hW0, World.cell?_alloc_new]
    have hj : j < K.size := by
      have := (List.getElem?_eq_some_iff.1 hx).1
      simpa using this
    rw [ho.key j hj]
    rw [List.getElem?_map, List.getElem?_eq_getElem (by simpa using hj)] at hx
    simpa using hx
  have zK : (Tryz.prog.info? 26).map (·.size) = some (K.toList.map encB).length := by rw [size51]; simp [ho.len]
  have hf0 := (Fr.of_below hf hb0).forest
  have h0 := h.behind hf hb0
  have hK := ho.len
  have hKb := ho.bytes
  have hS0 : S w.heap.size = none := hf.fresh (Nat.le_refl _)
  have hbx : ¬ w.heap.size = bx := by have := h.t.lt2; omega
  have hbz : ¬ w.heap.size = bz := by have := h.r.lt; omega
  have H0 : Hid (Pr B S W0 bx bz v l ∧ Forest B S W0 ∧ FrX B (fun k => k = bx ∨ k = bz) S S w W0) := ⟨h0, hf0, (Fr.of_below hf hb0).x _⟩
  have hkr := key_row hK hKb
  have HP := Hid.hide (h0.t.get hf0 hK hKb (o := lkE l (nibs K.toList)) rfl)
  have hhas : hasE l (textB (nibs K.toList)) = lkE l (nibs K.toList) := by rw [hasE_lk, hkr.2.1]
  have HQ : Hid (∀ W, Below W0.heap.size W0 W → Calls Tryz.prog 132 #[.pointer (some ⟨bz, 0, none⟩), .agg (K.toList.map encB).toArray] W fun e w' => e = .returned (.tuple #[.string ((lkE l (nibs K.toList)).getD ⟨#[]⟩), .bool (lkE l (nibs K.toList)).isSome, .int .i64 0]) ∧ Below W.heap.size W w') := fun W hW => by
    have hq := rget_any (h0.r.below hW) (by omega) (fun x hx => (h0.ok x hx).plain) hK hKb
    rw [hhas] at hq
    exact hq
  have HE : Hid (∀ W, Below W0.heap.size W0 W → MapsSaid B S w bx bz v l (.returned (.bool true)) W) := fun W hW => MapsSaid.same h hf (hb0.trans (hW.mono hb0.size))
  generalize (lkE l (nibs K.toList)).isSome = ob at HP HQ ⊢
  generalize (lkE l (nibs K.toList)).getD ⟨#[]⟩ = ou at HP HQ ⊢
  clear h hf hl ho hf0 h0 hK hKb hkr hhas
  go_enter Tryz.func70, Tryz.ntmps70
  go_wp2_with (refine wpList_load_mid rfl 26 _ rfl w.heap.size 2 rfl (K.toList.map encB) _ hrow Tryz.underlying26 rfl zK ?_)
  refine HP.out.mono ?_
  rintro e w1 ⟨rfl, hb1⟩
  have hrow1 : w1.rangeAt w.heap.size 2 (K.toList.map encB) := rangeAt_block hrow (hb1.block _ hs0)
  have H1 := Hid.hide hb1
  clear hb1 hrow k0 hW0
  go_wp2_with (refine wpList_load_mid rfl 26 _ rfl w.heap.size 2 rfl (K.toList.map encB) _ hrow1 Tryz.underlying26 rfl zK ?_)
  refine (HQ.out w1 H1.out).mono ?_
  rintro e w2 ⟨rfl, hb2⟩
  have H2 : Hid (Below W0.heap.size W0 w2) := H1.out.trans (hb2.mono H1.out.size)
  clear hb2
  cases ob
  · go_wp2
    go_ret
    exact HE.out _ H2.out
  · go_wp2
    go_ret
    exact HE.out _ H2.out

set_option maxRecDepth 100000 in
set_option maxHeartbeats 1600000 in
theorem maps_root {B : Nat} {S : Wood} {w : World} {bx bz : Nat} {v : Value} {l : List Ed} {Cs : Array Value} (h : Pr B S w bx bz v l) (hf : Forest B S w) (hl : l.length ≤ 2097151) (hT : Tabs w) (hM : 16 ≤ B) (hk : Cs[0]? = some (.int .i64 15)) :
    Calls Tryz.prog 70 #[.agg Cs, .pointer (some ⟨bx, 0, none⟩), .pointer (some ⟨bz, 0, none⟩)] w (MapsSaid B S w bx bz v l) := by
  obtain ⟨W0, hW0⟩ : ∃ W0, w.alloc (.cells Cs 102) = W0 := ⟨_, rfl⟩
  have hb0 : Below w.heap.size w W0 := by rw [← hW0]; exact (Below.refl _ _).alloc (Nat.le_refl _) _
  have k0 : W0.cell? ⟨w.heap.size, 0, none⟩ = some (.int .i64 15) := by rw [← hW0, World.cell?_alloc_new]; exact hk
  have hf0 := (Fr.of_below hf hb0).forest
  have h0 := h.behind hf hb0
  have hMw : 16 ≤ w.heap.size := Nat.le_trans hM hf.le
  have HP := Hid.hide (h0.t.root hf0 (hT.below hb0 hMw) hM)
  have HQ : Hid (∀ W, Fr B S S W0 W → ∀ W', Below W.heap.size W W' → Calls Tryz.prog 73 #[.pointer (some ⟨bz, 0, none⟩)] W' fun e w' => e = .returned (.agg ((rootE l).map encB).toArray) ∧ Below W'.heap.size W' w') := fun W hW W' hW' => rroot_any (((h0.framex (hW.x fun _ => False) (fun h => h) (fun h => h) fun _ _ h => h).behind hW.forest hW').r) (by omega) h0.ok
  have HE : Hid (∀ W, Fr B S S W0 W → ∀ W', Below W.heap.size W W' → MapsSaid B S w bx bz v l (.returned (.bool true)) W') := fun W hW W' hW' => ⟨rfl, S, v, l, (h0.framex (hW.x fun _ => False) (fun h => h) (fun h => h) fun _ _ h => h).behind hW.forest hW', by omega, .inl rfl, (((Fr.of_below hf hb0).x _).trans (hW.x _)).trans ((Fr.of_below hW.forest hW').x _)⟩
  have HR : Hid (∀ D, rootOf (lkE l) D → D = rootE l) := fun D hD => h.root hD
  have hDl := rootE_len l
  have hDb := rootE_byte l
  generalize rootE l = D at HQ HR hDl hDb
  have HDl : Hid (D.length = 32 ∧ ∀ x ∈ D, x < 256) := ⟨hDl, hDb⟩
  clear h hf hl hT hM hk hf0 h0 hMw hDb
  go_enter Tryz.func70, Tryz.ntmps70
  go_wp2_with fail
  refine HP.out.mono ?_
  rintro e w1 ⟨D', hD', -, -, rfl, hf1⟩
  obtain rfl := HR.out D' hD'
  obtain ⟨t1, z1, z1', o1, b1, r1, s1⟩ := laid_hash w1 D'.toArray (by simpa using hDl)
  simp only [List.toList_toArray] at t1 z1 z1' o1 b1 r1 s1
  have H1 := Hid.hide hf1
  clear hD' hf1 k0 hW0 hb0
  go_wp2_with (refine wpList_store_mid rfl 34 _ _ rfl w1.heap.size 0 (D'.map encB).toArray rfl rfl t1 z1 o1 ?_; rw [List.toList_toArray]; generalize World.setCells _ _ _ _ = w2 at b1 r1 s1 ⊢; clear t1 z1 o1)
  refine (HQ.out w1 H1.out w2 b1).mono ?_
  rintro e w3 ⟨rfl, hb3⟩
  have r3 := rangeAt_block r1 (hb3.block _ s1)
  have hb13 : Below w1.heap.size w1 w3 := b1.trans (hb3.mono b1.size)
  obtain ⟨t4, z4, z4', o4, b4, r4, s4⟩ := laid_hash w3 D'.toArray (by simpa using hDl)
  simp only [List.toList_toArray] at t4 z4 z4' o4 b4 r4 s4
  have hs13 : w1.heap.size < w3.heap.size := Nat.lt_of_lt_of_le s1 hb3.size
  have H3 : Hid (Below w1.heap.size w1 w3 ∧ w1.heap.size < w3.heap.size ∧ w3.rangeAt w1.heap.size 0 (D'.map encB)) := ⟨hb13, hs13, r3⟩
  have heq := hash_refl D' HDl.out.1 HDl.out.2
  clear hb3 hb13 r1 b1 s1 r3 hs13
  go_wp2_with (first | (refine wpList_store_mid rfl 34 _ _ rfl w3.heap.size 0 (D'.map encB).toArray rfl rfl t4 z4 o4 ?_; rw [List.toList_toArray]; generalize World.setCells _ _ _ _ = w4 at b4 r4 s4 ⊢; clear t4 z4 o4; have r5 := rangeAt_block H3.out.2.2 (b4.block _ H3.out.2.1)) | (refine wpList_load_mid rfl 34 _ rfl w1.heap.size 0 rfl (D'.map encB) _ r5 Tryz.underlying34 rfl z4' ?_) | (refine wpList_load_mid rfl 34 _ rfl w3.heap.size 0 rfl (D'.map encB) _ r4 Tryz.underlying34 rfl z4' ?_))
  go_ret
  exact HE.out w1 H1.out _ (H3.out.1.trans (b4.mono H3.out.1.size))
end Go.Proofs.YtjiikjpnlgogfaaGreatDoor
