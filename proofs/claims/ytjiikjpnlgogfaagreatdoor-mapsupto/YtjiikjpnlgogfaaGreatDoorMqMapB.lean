/-
  Package twigsref: the code of the node of some ends, and the reference to it: what they are, of ends without stubs.
  Package twigsref: the code of the node of some ends: the walk.
  Package twigsref: the code of the node of some ends: extensions, branches; all of it.
  Package twigsref: the digest of the node of some ends; the root.
  Package twigsref: path (of a key), Get, Put, of trees without stubs.
  Package twigsref: Put of trees without stubs.
-/
import Derived.Test.YtjiikjpnlgogfaaGreatDoorMqMapA
import Derived.Test.YtjiikjpnlgogfaaGreatDoorMqRefG
import Derived.Test.YtjiikjpnlgogfaaGreatDoorMqRdgG
import Derived.Test.YtjiikjpnlgogfaaGreatDoorMqSteady
import Derived.BigQuiet
namespace Go.Proofs.YtjiikjpnlgogfaaGreatDoor
open Go.RowKit

structure EdOK (f : Nat) (x : Ed) : Prop where
  lt : x.path.size < f
  le : x.path.size ≤ 64
  nib : ∀ b ∈ bytesOf x.path, b < 16
  val : x.val.size ≤ 100
  plain : x.stub = false
theorem EdOK.cut {f : Nat} {x : Ed} {p : ByteArray} (h : EdOK (f + 1) x) (hb : begins p x.path) (hp : 0 < p.size) : EdOK f (x.cut p) := by
  have h1 := begins_le hb
  have h2 := h.lt
  have h3 := h.le
  have h4 : (x.cut p).path.size = x.path.size - p.size := extract_size _ _
  exact ⟨by omega, by omega, nib_tail h.nib _, h.val, h.plain⟩
theorem cutE_ok {f : Nat} {l : List Ed} {p : ByteArray} (h : ∀ y ∈ l, EdOK (f + 1) y) (hp : 0 < p.size) : ∀ y ∈ cutE l p, EdOK f y := fun y hy => by
  obtain ⟨x, hx, rfl⟩ := List.mem_map.1 hy
  obtain ⟨h1, h2⟩ := List.mem_filter.1 hx
  exact (h x h1).cut (of_decide_eq_true h2) hp

/-- The code of the node of some ends. -/
def codeE : Nat → List Ed → List Nat
  | 0, _ => []
  | _ + 1, [] => []
  | f + 1, x :: l =>
    if l.length = 0 then listCode (textCode (pathCode (bytesOf x.path) true) ++ textCode (bytesOf x.val))
    else if 0 < shrE x l then listCode (textCode (pathCode (bytesOf (x.path.extract 0 (shrE x l))) false) ++ refOf (codeE f (cutE (x :: l) (x.path.extract 0 (shrE x l)))))
    else listCode (((List.range 16).map fun v => if (cutE (x :: l) (textB [v])).length = 0 then textCode [] else refOf (codeE f (cutE (x :: l) (textB [v])))).flatten ++ textCode [])
theorem one_size (v : Nat) : (textB [v]).size = 1 := textB_size _
theorem codeE_byte : ∀ (f : Nat) (l : List Ed), (∀ y ∈ l, EdOK f y) → ∀ b ∈ codeE f l, b < 256
  | 0, _, _ => fun b hb => by rw [codeE] at hb; cases hb
  | _ + 1, [], _ => fun b hb => by rw [codeE] at hb; cases hb
  | f + 1, x :: l, h => fun b hb => by
    have hx := h x (List.mem_cons_self ..)
    rw [codeE] at hb
    split at hb
    · refine listCode_byte (fun y hy => ?_) b hb
      rcases List.mem_append.1 hy with hy | hy
      · exact textCode_byte (pathCode_byte _ hx.nib) y hy
      · exact textCode_byte (byte_lt _) y hy
    · split at hb
      · rename_i h1 h2
        refine listCode_byte (fun y hy => ?_) b hb
        rcases List.mem_append.1 hy with hy | hy
        · exact textCode_byte (pathCode_byte _ (nib_head hx.nib _)) y hy
        · exact refOf_byte (codeE_byte f _ (cutE_ok h (by rw [extract_size0 _ _ (shrE_le x l)]; exact h2))) y hy
      · refine listCode_byte (fun y hy => ?_) b hb
        rcases List.mem_append.1 hy with hy | hy
        · obtain ⟨c, hc, hy⟩ := List.mem_flatten.1 hy
          obtain ⟨v, _, rfl⟩ := List.mem_map.1 hc
          split at hy
          · exact textCode_byte (fun _ h => by cases h) y hy
          · exact refOf_byte (codeE_byte f _ (cutE_ok h (by rw [one_size]; omega))) y hy
        · exact textCode_byte (fun _ h => by cases h) y hy
theorem codeE_ext_mem {x : Ed} {l : List Ed} (n : Nat) (hn : n ≤ x.path.size) : x.cut (x.path.extract 0 n) ∈ cutE (x :: l) (x.path.extract 0 n) := by
  refine List.mem_map_of_mem (List.mem_filter.2 ⟨List.mem_cons_self .., decide_eq_true ?_⟩)
  exact begins_of_cut (by rw [extract_size0 _ _ hn])

/-- What the walk of nodeCode gives. -/
def NCode (f : Nat) : Prop := ∀ (w : World) (C : Nat) (v : Value) (l : List Ed), Eds w C v l → l.length ≤ 2097152 → 0 < l.length → (∀ y ∈ l, EdOK f y) → Calls Tryz.prog 188 #[v] w fun e w' => e = .returned (.string (textB (codeE f l))) ∧ Below w.heap.size w w'
def RCode (f : Nat) : Prop := ∀ (w : World) (C : Nat) (v : Value) (l : List Ed), Eds w C v l → l.length ≤ 2097152 → 0 < l.length → (∀ y ∈ l, EdOK f y) → (codeE f l).length ≤ 2048 → Calls Tryz.prog 220 #[v] w fun e w' => e = .returned (.string (textB (refOf (codeE f l)))) ∧ Below w.heap.size w w'
theorem kndE_ne (x : Ed) (l : List Ed) : ((kndE x l : Nat) : Int) ≠ 4 := by
  unfold kndE
  split
  · decide
  · split <;> decide

set_option maxRecDepth 100000 in
set_option maxHeartbeats 800000 in
theorem rref_any {f : Nat} (hN : NCode f) : RCode f := by
  intro w C v l h hl h0 hok hlen
  obtain ⟨x, m, rfl⟩ : ∃ x m, l = x :: m := by cases l with | nil => simp at h0 | cons x m => exact ⟨x, m, rfl⟩
  have HK := Hid.hide (rkind_any h (by simp at hl; omega) (fun y hy => (hok y hy).le) (hok x (List.mem_cons_self ..)).plain)
  have HC : Hid (∀ W, Below w.heap.size w W → Calls Tryz.prog 188 #[v] W fun e w' => e = .returned (.string (textB (codeE f (x :: m)))) ∧ Below W.heap.size W w') := fun W hW => hN W C v (x :: m) (h.below hW) hl h0 hok
  have hcb := codeE_byte f _ hok
  obtain ⟨kn, hkn⟩ : ∃ kn : Int, ((kndE x m : Nat) : Int) = kn := ⟨_, rfl⟩
  have hk4 : (kn == 4) = false := by rw [← hkn, beq_eq_false_iff_ne]; exact kndE_ne x m
  rw [hkn] at HK
  obtain ⟨pk, mk, ck, rfl⟩ := h.shape
  generalize codeE f (x :: m) = c at HC hcb hlen ⊢
  clear h hl h0 hok hkn
  have hsz : (textB c).size = c.length := textB_size c
  by_cases hsm : c.length < 32
  · have i1 : ((textB c).size : Int) < 32 := by omega
    have he : refOf c = c := by unfold refOf; rw [if_pos hsm]
    rw [he]
    clear he hsm hsz hcb hlen
    go_enter Tryz.func220, Tryz.ntmps220
    go_wp2_with fail
    refine HK.out.mono ?_
    rintro e w1 ⟨rfl, hb1⟩
    have H1 := Hid.hide hb1
    clear hb1
    go_wp2_with fail
    refine (HC.out w1 H1.out).mono ?_
    rintro e w2 ⟨rfl, hb2⟩
    have H2 : Hid (Below w.heap.size w w2) := H1.out.trans (hb2.mono H1.out.size)
    clear hb2
    go_wp2
    go_ret
    exact ⟨rfl, H2.out⟩
  · have i1 : ¬ ((textB c).size : Int) < 32 := by omega
    have he : refOf c = textCode (digB c) := by unfold refOf; rw [if_neg hsm]
    rw [he]
    have HD : Hid (∀ W, Calls Tryz.prog 109 #[.string (textB c)] W fun e w' => e = .returned (.agg ((digB c).map encB).toArray) ∧ Below W.heap.size W w') := fun W => refdig_any (textB c) W (by omega)
    have HLt : Hid (∀ W, Calls Tryz.prog 176 #[.agg ((digB c).map encB).toArray] W fun e w' => e = .returned (.string (textB (digB c))) ∧ Below W.heap.size W w') := fun W => letters_any (digB c) (digB_length c) W
    have HTx : Hid (∀ W, Calls Tryz.prog 174 #[.string (textB (digB c))] W fun e w' => e = .returned (.string (textB (textCode (digB c)))) ∧ Below W.heap.size W w') := fun W => by
      have h := rtext_any (textB (digB c)) W (by rw [textB_size, digB_length]; omega)
      rw [bytesOf_textB (digB_byte c)] at h
      exact h
    generalize digB c = D at HD HLt HTx ⊢
    clear he hsm hsz hcb hlen
    go_enter Tryz.func220, Tryz.ntmps220
    go_wp2_with fail
    refine HK.out.mono ?_
    rintro e w1 ⟨rfl, hb1⟩
    have H1 := Hid.hide hb1
    clear hb1
    go_wp2_with fail
    refine (HC.out w1 H1.out).mono ?_
    rintro e w2 ⟨rfl, hb2⟩
    have H2 : Hid (Below w.heap.size w w2) := H1.out.trans (hb2.mono H1.out.size)
    clear hb2
    go_wp2_with fail
    refine (HD.out w2).mono ?_
    rintro e w3 ⟨rfl, hb3⟩
    have H3 : Hid (Below w.heap.size w w3) := H2.out.trans (hb3.mono H2.out.size)
    clear hb3
    go_wp2_with fail
    refine (HLt.out w3).mono ?_
    rintro e w4 ⟨rfl, hb4⟩
    have H4 : Hid (Below w.heap.size w w4) := H3.out.trans (hb4.mono H3.out.size)
    clear hb4
    go_wp2_with fail
    refine (HTx.out w4).mono ?_
    rintro e w5 ⟨rfl, hb5⟩
    have H5 : Hid (Below w.heap.size w w5) := H4.out.trans (hb5.mono H4.out.size)
    clear hb5
    go_wp2
    go_ret
    exact ⟨rfl, H5.out⟩
end Go.Proofs.YtjiikjpnlgogfaaGreatDoor

namespace Go.Proofs.YtjiikjpnlgogfaaGreatDoor
open Go.RowKit

theorem ref_le2 (f : Nat) (l : List Ed) (hok : ∀ y ∈ l, EdOK f y) : (codeE f l).length ≤ 2048 := by
  cases f with
  | zero => rw [codeE]; simp
  | succ f =>
    cases l with
    | nil => rw [codeE]; simp
    | cons x l =>
      have hx := hok x (List.mem_cons_self ..)
      have hle := hx.le
      have hv := hx.val
      have hbl := bytesOf_length x.path
      have hbv := bytesOf_length x.val
      rw [codeE]
      split
      · have h1 := listCode_length (textCode (pathCode (bytesOf x.path) true) ++ textCode (bytesOf x.val))
        have h2 := textCode_length (pathCode (bytesOf x.path) true)
        have h3 := pathCode_length (bytesOf x.path) true
        have h4 := textCode_length (bytesOf x.val)
        rw [List.length_append] at h1
        omega
      · split
        · have h1 := listCode_length (textCode (pathCode (bytesOf (x.path.extract 0 (shrE x l))) false) ++ refOf (codeE f (cutE (x :: l) (x.path.extract 0 (shrE x l)))))
          have h2 := textCode_length (pathCode (bytesOf (x.path.extract 0 (shrE x l))) false)
          have h3 := pathCode_length (bytesOf (x.path.extract 0 (shrE x l))) false
          have h4 := refOf_le (codeE f (cutE (x :: l) (x.path.extract 0 (shrE x l))))
          have h5 := bytesOf_length (x.path.extract 0 (shrE x l))
          have h6 := extract_size0 x.path _ (shrE_le x l)
          have h7 := shrE_le x l
          rw [List.length_append] at h1
          omega
        · have h1 := listCode_length (((List.range 16).map fun v => if (cutE (x :: l) (textB [v])).length = 0 then textCode [] else refOf (codeE f (cutE (x :: l) (textB [v])))).flatten ++ textCode [])
          have h2 := textCode_length []
          have h3 : (((List.range 16).map fun v => if (cutE (x :: l) (textB [v])).length = 0 then textCode [] else refOf (codeE f (cutE (x :: l) (textB [v])))).flatten).length ≤ 16 * 33 := by
            have : ∀ (ls : List (List Nat)), (∀ c ∈ ls, c.length ≤ 33) → ls.flatten.length ≤ ls.length * 33 := fun ls => by
              induction ls with
              | nil => intro _; simp
              | cons c ls ih =>
                intro h
                have a1 := h c (List.mem_cons_self ..)
                have a2 := ih fun d hd => h d (List.mem_cons_of_mem _ hd)
                rw [List.flatten_cons, List.length_append, List.length_cons]
                omega
            have := this ((List.range 16).map fun v => if (cutE (x :: l) (textB [v])).length = 0 then textCode [] else refOf (codeE f (cutE (x :: l) (textB [v])))) (fun c hc => by
              obtain ⟨v, _, rfl⟩ := List.mem_map.1 hc
              split
              · have := textCode_length []; simp at this; omega
              · exact refOf_le _)
            simpa using this
          rw [List.length_append] at h1
          simp only [List.length_nil] at h2
          omega

set_option maxRecDepth 100000 in
set_option maxHeartbeats 800000 in
theorem nleaf_any (f : Nat) {w : World} {C : Nat} {v : Value} {x : Ed} (h : Eds w C v [x]) (hx : EdOK (f + 1) x) :
    Calls Tryz.prog 188 #[v] w fun e w' => e = .returned (.string (textB (codeE (f + 1) [x]))) ∧ Below w.heap.size w w' := by
  have hK0 := rkind_any h (by simp) (fun y hy => by rw [List.mem_singleton.1 hy]; exact hx.le) hx.plain
  rw [show ((kndE x [] : Nat) : Int) = 1 by simp [kndE]] at hK0
  have HK := Hid.hide hK0
  clear hK0
  obtain ⟨g, cap, rfl, hgC, hgl, hr0⟩ := Eds.row h (i := 0) (by simp)
  rw [Nat.zero_mul, List.getElem_cons_zero] at hr0
  have c0 : w.cell? ⟨g, 0, none⟩ = some (.string x.path) := hr0 0 _ rfl
  have c1 : w.cell? ⟨g, 1, none⟩ = some (.string x.val) := hr0 1 _ rfl
  have hle := hx.le
  have hvl := hx.val
  have hbl := bytesOf_length x.path
  have hbv := bytesOf_length x.val
  have hpcb := pathCode_byte true hx.nib
  have hpcl := pathCode_length (bytesOf x.path) true
  have h2 := textCode_length (pathCode (bytesOf x.path) true)
  have h4 := textCode_length (bytesOf x.val)
  have HPc : Hid (∀ W, Calls Tryz.prog 170 #[.string x.path, .bool true] W fun e w' => e = .returned (.string (textB (pathCode (bytesOf x.path) true))) ∧ Below W.heap.size W w') := fun W => rpath_any x.path true W (by omega) hx.nib
  have HTp : Hid (∀ W, Calls Tryz.prog 174 #[.string (textB (pathCode (bytesOf x.path) true))] W fun e w' => e = .returned (.string (textB (textCode (pathCode (bytesOf x.path) true)))) ∧ Below W.heap.size W w') := fun W => by
    have h := rtext_any (textB (pathCode (bytesOf x.path) true)) W (by rw [textB_size]; omega)
    rw [bytesOf_textB hpcb] at h
    exact h
  have HTv : Hid (∀ W, Calls Tryz.prog 174 #[.string x.val] W fun e w' => e = .returned (.string (textB (textCode (bytesOf x.val)))) ∧ Below W.heap.size W w') := fun W => rtext_any x.val W (by omega)
  have HLs : Hid (∀ W, Calls Tryz.prog 173 #[.string (textB (textCode (pathCode (bytesOf x.path) true) ++ textCode (bytesOf x.val)))] W fun e w' => e = .returned (.string (textB (listCode (textCode (pathCode (bytesOf x.path) true) ++ textCode (bytesOf x.val))))) ∧ Below W.heap.size W w') := fun W => by
    have h := rlist_any (textB (textCode (pathCode (bytesOf x.path) true) ++ textCode (bytesOf x.val))) W (by rw [textB_size, List.length_append]; omega)
    rw [bytesOf_textB (fun y hy => by
      rcases List.mem_append.1 hy with hy | hy
      · exact textCode_byte hpcb y hy
      · exact textCode_byte (byte_lt _) y hy)] at h
    exact h
  have hadd := fun W => add_text (textCode (pathCode (bytesOf x.path) true)) (textCode (bytesOf x.val)) (by omega) W
  have e0 : codeE (f + 1) [x] = listCode (textCode (pathCode (bytesOf x.path) true) ++ textCode (bytesOf x.val)) := by rw [codeE]; simp
  rw [e0]
  clear e0
  clear hle hvl hbl hbv hpcb hpcl h2 h4 hr0
  generalize textCode (pathCode (bytesOf x.path) true) = tp at HTp HLs hadd ⊢
  generalize textCode (bytesOf x.val) = tv at HTv HLs hadd ⊢
  generalize pathCode (bytesOf x.path) true = pc at HPc HTp
  generalize listCode (tp ++ tv) = cc at HLs ⊢
  generalize textB (tp ++ tv) = sb at HLs hadd
  generalize textB tp = stp at HTp hadd
  generalize textB tv = stv at HTv hadd
  generalize textB pc = spc at HPc HTp
  generalize textB cc = scc at HLs ⊢
  generalize x.path = px at HPc c0
  generalize x.val = vx at HTv c1
  clear h hx hgC
  have hl1 : [x].length = 1 := rfl
  rw [hl1] at HK ⊢
  go_enter Tryz.func188, Tryz.ntmps188
  go_wp2_with fail
  refine HK.out.mono ?_
  rintro e w1 ⟨rfl, hb1⟩
  have d0 := (World.cell?_of_block (a := ⟨g, 0, none⟩) (hb1.block g hgl)).trans c0
  have d1 := (World.cell?_of_block (a := ⟨g, 1, none⟩) (hb1.block g hgl)).trans c1
  have H1 := Hid.hide hb1
  have hg1 : g < w1.heap.size := Nat.lt_of_lt_of_le hgl hb1.size
  clear hb1 c0 c1 hl1
  have HO : Hid (∀ w', Below w1.heap.size w1 w' → w'.cell? ⟨g, 0, none⟩ = some (.string px) ∧ w'.cell? ⟨g, 1, none⟩ = some (.string vx)) := fun w' hb => ⟨(World.cell?_of_block (hb.block g hg1)).trans d0, (World.cell?_of_block (hb.block g hg1)).trans d1⟩
  go_upto_region 3 with fail
  refine wp_region_any (by kernel_rfl) ?_
  change wpAny _ _ _ _ _ _ _ (World.drew _)
  obtain ⟨f, hf⟩ : ∃ f : Nat → Value, f = fun i => ([.slice (some ⟨g, 0, none⟩) 1 cap, .pointer (some ⟨g, 0, none⟩), .pointer (some ⟨g, 0, none⟩), .string px, .string spc, .string stp, .slice (some ⟨g, 0, none⟩) 1 cap, .pointer (some ⟨g, 0, none⟩), .pointer (some ⟨g, 1, none⟩), .string vx, .string stv, .string sb, .string scc, .string scc] : List Value).getD i undef := ⟨_, rfl⟩
  refine wpAny_all_steady _ _ f (fun W => Below w1.heap.size w1 W) (by kernel_rfl) (by kernel_rfl) ?_ _ ?_ rfl ?_
  · intro i o ho listed b W hsat hdeps hS
    have hi : i < 14 := (Array.getElem?_eq_some_iff.1 ho).1
    match i, hi with
    | 0, _ =>
      obtain rfl := Option.some.inj ho
      have hv : f 0 = .slice (some ⟨g, 0, none⟩) 1 cap := by rw [hf]; rfl
      have t0 : b.tmps[0]? = some (.slice (some ⟨g, 0, none⟩) 1 cap) := (hsat.rest 0 (fun i _ => noDst_of (by kernel_rfl) i)).trans rfl
      rw [hv]
      clear ho hf hdeps hsat
      go_simp
    | 1, _ =>
      obtain rfl := Option.some.inj ho
      have hv : f 1 = .pointer (some ⟨g, 0, none⟩) := by rw [hf]; rfl
      have v0 : f 0 = .slice (some ⟨g, 0, none⟩) 1 cap := by rw [hf]; rfl
      have t13 : b.tmps[13]? = some (.slice (some ⟨g, 0, none⟩) 1 cap) := (hsat.done 0 13 (hdeps ⟨0, .data⟩ (by simp) rfl) rfl (by simp)).trans (congrArg some v0)
      rw [hv]
      clear ho hf hdeps hsat
      go_simp
    | 2, _ =>
      obtain rfl := Option.some.inj ho
      have hv : f 2 = .pointer (some ⟨g, 0, none⟩) := by rw [hf]; rfl
      have v1 : f 1 = .pointer (some ⟨g, 0, none⟩) := by rw [hf]; rfl
      have t14 : b.tmps[14]? = some (.pointer (some ⟨g, 0, none⟩)) := (hsat.done 1 14 (hdeps ⟨1, .data⟩ (by simp) rfl) rfl (by simp)).trans (congrArg some v1)
      rw [hv]
      clear ho hf hdeps hsat
      go_simp
    | 3, _ =>
      obtain rfl := Option.some.inj ho
      have hv : f 3 = .string px := by rw [hf]; rfl
      have v2 : f 2 = .pointer (some ⟨g, 0, none⟩) := by rw [hf]; rfl
      have t15 : b.tmps[15]? = some (.pointer (some ⟨g, 0, none⟩)) := (hsat.done 2 15 (hdeps ⟨2, .data⟩ (by simp) rfl) rfl (by simp)).trans (congrArg some v2)
      rw [hv]
      clear ho hf hdeps hsat
      have c0 := (HO.out W hS).1
      go_simp
    | 4, _ =>
      obtain rfl := Option.some.inj ho
      have hv : f 4 = .string spc := by rw [hf]; rfl
      have v3 : f 3 = .string px := by rw [hf]; rfl
      have t16 : b.tmps[16]? = some (.string px) := (hsat.done 3 16 (hdeps ⟨3, .data⟩ (by simp) rfl) rfl (by simp)).trans (congrArg some v3)
      rw [hv]
      clear ho hf hdeps hsat
      go_simp
      go_at_call 170
      refine (HPc.out W).mono ?_
      rintro e w9 ⟨rfl, hb9⟩
      exact ⟨rfl, hS.trans (hb9.mono hS.size)⟩
    | 5, _ =>
      obtain rfl := Option.some.inj ho
      have hv : f 5 = .string stp := by rw [hf]; rfl
      have v4 : f 4 = .string spc := by rw [hf]; rfl
      have t17 : b.tmps[17]? = some (.string spc) := (hsat.done 4 17 (hdeps ⟨4, .data⟩ (by simp) rfl) rfl (by simp)).trans (congrArg some v4)
      rw [hv]
      clear ho hf hdeps hsat
      go_simp
      go_at_call 174
      refine (HTp.out W).mono ?_
      rintro e w9 ⟨rfl, hb9⟩
      exact ⟨rfl, hS.trans (hb9.mono hS.size)⟩
    | 6, _ =>
      obtain rfl := Option.some.inj ho
      have hv : f 6 = .slice (some ⟨g, 0, none⟩) 1 cap := by rw [hf]; rfl
      have t0 : b.tmps[0]? = some (.slice (some ⟨g, 0, none⟩) 1 cap) := (hsat.rest 0 (fun i _ => noDst_of (by kernel_rfl) i)).trans rfl
      rw [hv]
      clear ho hf hdeps hsat
      go_simp
    | 7, _ =>
      obtain rfl := Option.some.inj ho
      have hv : f 7 = .pointer (some ⟨g, 0, none⟩) := by rw [hf]; rfl
      have v6 : f 6 = .slice (some ⟨g, 0, none⟩) 1 cap := by rw [hf]; rfl
      have t19 : b.tmps[19]? = some (.slice (some ⟨g, 0, none⟩) 1 cap) := (hsat.done 6 19 (hdeps ⟨6, .data⟩ (by simp) rfl) rfl (by simp)).trans (congrArg some v6)
      rw [hv]
      clear ho hf hdeps hsat
      go_simp
    | 8, _ =>
      obtain rfl := Option.some.inj ho
      have hv : f 8 = .pointer (some ⟨g, 1, none⟩) := by rw [hf]; rfl
      have v7 : f 7 = .pointer (some ⟨g, 0, none⟩) := by rw [hf]; rfl
      have t20 : b.tmps[20]? = some (.pointer (some ⟨g, 0, none⟩)) := (hsat.done 7 20 (hdeps ⟨7, .data⟩ (by simp) rfl) rfl (by simp)).trans (congrArg some v7)
      rw [hv]
      clear ho hf hdeps hsat
      go_simp
    | 9, _ =>
      obtain rfl := Option.some.inj ho
      have hv : f 9 = .string vx := by rw [hf]; rfl
      have v8 : f 8 = .pointer (some ⟨g, 1, none⟩) := by rw [hf]; rfl
      have t21 : b.tmps[21]? = some (.pointer (some ⟨g, 1, none⟩)) := (hsat.done 8 21 (hdeps ⟨8, .data⟩ (by simp) rfl) rfl (by simp)).trans (congrArg some v8)
      rw [hv]
      clear ho hf hdeps hsat
      have c1 := (HO.out W hS).2
      go_simp
    | 10, _ =>
      obtain rfl := Option.some.inj ho
      have hv : f 10 = .string stv := by rw [hf]; rfl
      have v9 : f 9 = .string vx := by rw [hf]; rfl
      have t22 : b.tmps[22]? = some (.string vx) := (hsat.done 9 22 (hdeps ⟨9, .data⟩ (by simp) rfl) rfl (by simp)).trans (congrArg some v9)
      rw [hv]
      clear ho hf hdeps hsat
      go_simp
      go_at_call 174
      refine (HTv.out W).mono ?_
      rintro e w9 ⟨rfl, hb9⟩
      exact ⟨rfl, hS.trans (hb9.mono hS.size)⟩
    | 11, _ =>
      obtain rfl := Option.some.inj ho
      have hv : f 11 = .string sb := by rw [hf]; rfl
      have v5 : f 5 = .string stp := by rw [hf]; rfl
      have t18 : b.tmps[18]? = some (.string stp) := (hsat.done 5 18 (hdeps ⟨5, .data⟩ (by simp) rfl) rfl (by simp)).trans (congrArg some v5)
      have v10 : f 10 = .string stv := by rw [hf]; rfl
      have t23 : b.tmps[23]? = some (.string stv) := (hsat.done 10 23 (hdeps ⟨10, .data⟩ (by simp) rfl) rfl (by simp)).trans (congrArg some v10)
      rw [hv]
      clear ho hf hdeps hsat
      have hadd := hadd W
      go_simp
    | 12, _ =>
      obtain rfl := Option.some.inj ho
      have hv : f 12 = .string scc := by rw [hf]; rfl
      have v11 : f 11 = .string sb := by rw [hf]; rfl
      have t24 : b.tmps[24]? = some (.string sb) := (hsat.done 11 24 (hdeps ⟨11, .data⟩ (by simp) rfl) rfl (by simp)).trans (congrArg some v11)
      rw [hv]
      clear ho hf hdeps hsat
      go_simp
      go_at_call 173
      refine (HLs.out W).mono ?_
      rintro e w9 ⟨rfl, hb9⟩
      exact ⟨rfl, hS.trans (hb9.mono hS.size)⟩
    | 13, _ =>
      obtain rfl := Option.some.inj ho
      have hv : f 13 = .string scc := by rw [hf]; rfl
      have v12 : f 12 = .string scc := by rw [hf]; rfl
      have t25 : b.tmps[25]? = some (.string scc) := (hsat.done 12 25 (hdeps ⟨12, .data⟩ (by simp) rfl) rfl (by simp)).trans (congrArg some v12)
      rw [hv]
      clear ho hf hdeps hsat
      go_simp
  · exact (Below.refl _ _).drew
  · intro W hS
    have H5 := Hid.hide hS
    have hv : f 13 = .string scc := by rw [hf]; rfl
    simp only [runFrom]
    clear hS hf
    go_wp2
    go_ret
    exact ⟨by rw [hv]; kernel_rfl, H1.out.trans (H5.out.mono H1.out.size)⟩
end Go.Proofs.YtjiikjpnlgogfaaGreatDoor

namespace Go.Proofs.YtjiikjpnlgogfaaGreatDoor
open Go.RowKit

theorem cut_mem_len {x : Ed} {l : List Ed} (n : Nat) (hn : n ≤ x.path.size) : 0 < (cutE (x :: l) (x.path.extract 0 n)).length := List.length_pos_of_mem (codeE_ext_mem n hn)

set_option maxRecDepth 100000 in
set_option maxHeartbeats 800000 in
theorem next2_any {f : Nat} (hR : RCode f) {w : World} {C : Nat} {v : Value} {x : Ed} {l : List Ed} (h : Eds w C v (x :: l)) (hl : (x :: l).length ≤ 2097152) (hok : ∀ y ∈ x :: l, EdOK (f + 1) y) (h1 : ¬ l.length = 0) (h2 : 0 < shrE x l) :
    Calls Tryz.prog 188 #[v] w fun e w' => e = .returned (.string (textB (codeE (f + 1) (x :: l)))) ∧ Below w.heap.size w w' := by
  have hx := hok x (List.mem_cons_self ..)
  have hle : ∀ y ∈ x :: l, y.path.size ≤ 64 := fun y hy => (hok y hy).le
  have hll : l.length ≤ 2097152 := by simp at hl; omega
  have hK0 := rkind_any h hll hle hx.plain
  rw [show ((kndE x l : Nat) : Int) = 2 by unfold kndE; rw [if_neg h1, if_pos h2]; rfl] at hK0
  have HK := Hid.hide hK0
  have HSh : Hid (∀ W, Below w.heap.size w W → Calls Tryz.prog 190 #[v] W fun e w' => e = .returned (.int .i64 ((shrE x l : Nat) : Int)) ∧ Below W.heap.size W w') := fun W hW => rshared_any (h.below hW) hll hle
  have hnx := shrE_le x l
  have e0 : codeE (f + 1) (x :: l) = listCode (textCode (pathCode (bytesOf (x.path.extract 0 (shrE x l))) false) ++ refOf (codeE f (cutE (x :: l) (x.path.extract 0 (shrE x l))))) := by rw [codeE, if_neg h1, if_pos h2]
  rw [e0]
  obtain ⟨n, hn⟩ : ∃ n, shrE x l = n := ⟨_, rfl⟩
  rw [hn] at HSh hnx h2 ⊢
  obtain ⟨q, hq⟩ : ∃ q, x.path.extract 0 n = q := ⟨_, rfl⟩
  have hqs : q.size = n := by rw [← hq]; exact extract_size0 _ _ hnx
  have hqn : ∀ b ∈ bytesOf q, b < 16 := by rw [← hq]; exact nib_head hx.nib n
  have hcl := cut_mem_len (l := l) n hnx
  rw [hq] at hcl ⊢
  have hcok : ∀ y ∈ cutE (x :: l) q, EdOK f y := cutE_ok hok (by omega)
  have hx64 := hx.le
  have HCu : Hid (∀ W, Below w.heap.size w W → Calls Tryz.prog 186 #[v, .string q] W fun e w' => Below W.heap.size W w' ∧ ∃ v', e = .returned v' ∧ Eds w' W.heap.size v' (cutE (x :: l) q)) := fun W hW => rcut_any (h.below hW) hl hle
  have HRf : Hid (∀ W C' v', Eds W C' v' (cutE (x :: l) q) → Calls Tryz.prog 220 #[v'] W fun e w' => e = .returned (.string (textB (refOf (codeE f (cutE (x :: l) q))))) ∧ Below W.heap.size W w') := fun W C' v' hE => hR W C' v' _ hE (by have := cutE_len (x :: l) q; omega) hcl hcok (ref_le2 f _ hcok)
  have hrb := refOf_byte (codeE_byte f _ hcok)
  have hrl := refOf_le (codeE f (cutE (x :: l) q))
  obtain ⟨rf, hrf⟩ : ∃ rf, refOf (codeE f (cutE (x :: l) q)) = rf := ⟨_, rfl⟩
  rw [hrf] at HRf hrb hrl ⊢
  have hpcb := pathCode_byte false hqn
  have hpcl := pathCode_length (bytesOf q) false
  have hbl := bytesOf_length q
  have htl := textCode_length (pathCode (bytesOf q) false)
  have HPc : Hid (∀ W, Calls Tryz.prog 170 #[.string q, .bool false] W fun e w' => e = .returned (.string (textB (pathCode (bytesOf q) false))) ∧ Below W.heap.size W w') := fun W => rpath_any q false W (by omega) hqn
  have HTp : Hid (∀ W, Calls Tryz.prog 174 #[.string (textB (pathCode (bytesOf q) false))] W fun e w' => e = .returned (.string (textB (textCode (pathCode (bytesOf q) false)))) ∧ Below W.heap.size W w') := fun W => by
    have h := rtext_any (textB (pathCode (bytesOf q) false)) W (by rw [textB_size]; omega)
    rw [bytesOf_textB hpcb] at h
    exact h
  have HLs : Hid (∀ W, Calls Tryz.prog 173 #[.string (textB (textCode (pathCode (bytesOf q) false) ++ rf))] W fun e w' => e = .returned (.string (textB (listCode (textCode (pathCode (bytesOf q) false) ++ rf)))) ∧ Below W.heap.size W w') := fun W => by
    have h := rlist_any (textB (textCode (pathCode (bytesOf q) false) ++ rf)) W (by rw [textB_size, List.length_append]; omega)
    rw [bytesOf_textB (fun y hy => by
      rcases List.mem_append.1 hy with hy | hy
      · exact textCode_byte hpcb y hy
      · exact hrb y hy)] at h
    exact h
  have hadd := fun W => add_text (textCode (pathCode (bytesOf q) false)) rf (by omega) W
  obtain ⟨g, cap, rfl, hgC, hgl, hr0⟩ := Eds.row h (i := 0) (by simp)
  rw [Nat.zero_mul, List.getElem_cons_zero] at hr0
  have c0 : w.cell? ⟨g, 0, none⟩ = some (.string x.path) := hr0 0 _ rfl
  obtain ⟨L, hL⟩ : ∃ L, (x :: l).length = L := ⟨_, rfl⟩
  have i0 : (0 : Int) < (L : Int) := by rw [← hL, List.length_cons]; omega
  have i0' : 0 < L := by omega
  rw [hL] at HK HSh HCu ⊢
  have hin : (n : Int) ≤ (x.path.size : Int) := by omega
  clear hr0 hK0 hle hll hx hqs hqn hpcb hpcl hbl htl hrb hrl hrf hcl hcok e0 hn hgC hx64 h2 h1 hL
  generalize textCode (pathCode (bytesOf q) false) = tp at HTp HLs hadd ⊢
  generalize pathCode (bytesOf q) false = pc at HPc HTp
  generalize listCode (tp ++ rf) = cc at HLs ⊢
  generalize textB (tp ++ rf) = sb at HLs hadd
  generalize textB tp = stp at HTp hadd
  generalize textB rf = srf at HRf hadd
  generalize textB pc = spc at HPc HTp
  generalize textB cc = scc at HLs ⊢
  generalize x.path = px at hq c0 hin hnx
  go_enter Tryz.func188, Tryz.ntmps188
  go_wp2_with fail
  refine HK.out.mono ?_
  rintro e w1 ⟨rfl, hb1⟩
  have d0 := (World.cell?_of_block (a := ⟨g, 0, none⟩) (hb1.block g hgl)).trans c0
  have H1 := Hid.hide hb1
  have hg1 : g < w1.heap.size := Nat.lt_of_lt_of_le hgl hb1.size
  clear hb1 c0
  have HO : Hid (∀ w', Below w1.heap.size w1 w' → w'.cell? ⟨g, 0, none⟩ = some (.string px)) := fun w' hb => (World.cell?_of_block (hb.block g hg1)).trans d0
  go_upto_region 5 with fail
  go_region_held3 (fun w' => w'.cell? ⟨g, 0, none⟩ = some (.string px)) (first | exact d0 | exact q1)
    (first | (go_at_call 190; refine (HSh.out _ (H1.out.drew)).mono ?_; rintro e w2 ⟨rfl, hb2⟩; have H2 : Hid (Below w1.heap.size w1 w2) := ((Below.refl _ _).drew).trans hb2; have q1 := HO.out w2 H2.out; clear hb2))
  clear d0 q1
  go_wp2_with fail
  refine (HCu.out w2 (H1.out.trans (H2.out.mono H1.out.size))).mono ?_
  rintro e w3 ⟨hb3, v3, rfl, hE3⟩
  have H3 : Hid (Below w.heap.size w w3) := (H1.out.trans (H2.out.mono H1.out.size)).trans (hb3.mono (H1.out.trans (H2.out.mono H1.out.size)).size)
  have HR3 := Hid.hide (HRf.out w3 _ v3 hE3)
  obtain ⟨p3, m3, c3, rfl⟩ := hE3.shape
  clear hb3 hE3
  go_wp2_with fail
  refine HR3.out.mono ?_
  rintro e w4 ⟨rfl, hb4⟩
  have H4 : Hid (Below w.heap.size w w4) := H3.out.trans (hb4.mono H3.out.size)
  clear hb4
  go_wp2_with fail
  refine (HPc.out w4).mono ?_
  rintro e w5 ⟨rfl, hb5⟩
  have H5 : Hid (Below w.heap.size w w5) := H4.out.trans (hb5.mono H4.out.size)
  clear hb5
  go_wp2_with fail
  refine (HTp.out w5).mono ?_
  rintro e w6 ⟨rfl, hb6⟩
  have H6 : Hid (Below w.heap.size w w6) := H5.out.trans (hb6.mono H5.out.size)
  clear hb6
  go_wp2_with fail
  refine (HLs.out w6).mono ?_
  rintro e w7 ⟨rfl, hb7⟩
  have H7 : Hid (Below w.heap.size w w7) := H6.out.trans (hb7.mono H6.out.size)
  clear hb7
  go_wp2
  go_ret
  exact ⟨rfl, H7.out⟩

theorem flat_succ (kc : Nat → List Nat) (k : Nat) : ((List.range (k + 1)).map kc).flatten = ((List.range k).map kc).flatten ++ kc k := by
  rw [List.range_succ, List.map_append, List.flatten_append, List.map_singleton, List.flatten_singleton]
set_option maxRecDepth 100000 in
set_option maxHeartbeats 1200000 in
theorem nbranch_any {f : Nat} (hR : RCode f) {w : World} {C : Nat} {v : Value} {x : Ed} {l : List Ed} (h : Eds w C v (x :: l)) (hl : (x :: l).length ≤ 2097152) (hok : ∀ y ∈ x :: l, EdOK (f + 1) y) (h1 : ¬ l.length = 0) (h2 : ¬ 0 < shrE x l) :
    Calls Tryz.prog 188 #[v] w fun e w' => e = .returned (.string (textB (codeE (f + 1) (x :: l)))) ∧ Below w.heap.size w w' := by
  have hx := hok x (List.mem_cons_self ..)
  have hle : ∀ y ∈ x :: l, y.path.size ≤ 64 := fun y hy => (hok y hy).le
  have hll : l.length ≤ 2097152 := by simp at hl; omega
  have hK0 := rkind_any h hll hle hx.plain
  rw [show ((kndE x l : Nat) : Int) = 3 by unfold kndE; rw [if_neg h1, if_neg h2]; rfl] at hK0
  have HK := Hid.hide hK0
  obtain ⟨kc, hkc⟩ : ∃ kc : Nat → List Nat, kc = fun v => if (cutE (x :: l) (textB [v])).length = 0 then textCode [] else refOf (codeE f (cutE (x :: l) (textB [v]))) := ⟨_, rfl⟩
  have e0 : codeE (f + 1) (x :: l) = listCode (((List.range 16).map kc).flatten ++ textCode []) := by rw [codeE, if_neg h1, if_neg h2, hkc]
  rw [e0]
  have hkl : ∀ v, (kc v).length ≤ 33 := fun v => by
    rw [hkc]
    simp only
    split
    · have := textCode_length []; simp at this; omega
    · exact refOf_le _
  have hcok : ∀ v, ∀ y ∈ cutE (x :: l) (textB [v]), EdOK f y := fun v => cutE_ok hok (by rw [one_size]; omega)
  have hkb : ∀ v, ∀ y ∈ kc v, y < 256 := fun v => by
    rw [hkc]
    simp only
    split
    · exact textCode_byte fun _ h => by cases h
    · exact refOf_byte (codeE_byte f _ (hcok v))
  have hfl : ∀ n, (((List.range n).map kc).flatten).length ≤ n * 33 := fun n => by
    induction n with
    | zero => simp
    | succ n ih =>
      rw [List.range_succ, List.map_append, List.flatten_append, List.map_singleton, List.flatten_singleton, List.length_append]
      have := hkl n
      omega
  have hfb : ∀ n, ∀ y ∈ ((List.range n).map kc).flatten, y < 256 := fun n y hy => by
    obtain ⟨c, hc, hy⟩ := List.mem_flatten.1 hy
    obtain ⟨v, _, rfl⟩ := List.mem_map.1 hc
    exact hkb v y hy
  have HF : Hid (∀ n, n ≤ 16 → ∀ W, Sem.run Tryz.prog (Op.stringOp .add (textB ((List.range n).map kc).flatten) (textB (kc n))) W = .ok (.string (textB ((List.range (n + 1)).map kc).flatten)) W) := fun n hn W => by
    rw [List.range_succ, List.map_append, List.flatten_append, List.map_singleton, List.flatten_singleton]
    exact add_text _ _ (by have := hfl n; have := hkl n; omega) W
  have HCu : Hid (∀ W k, Below w.heap.size w W → Calls Tryz.prog 186 #[v, .string (textB [k])] W fun e w' => Below W.heap.size W w' ∧ ∃ v', e = .returned v' ∧ Eds w' W.heap.size v' (cutE (x :: l) (textB [k]))) := fun W k hW => rcut_any (h.below hW) hl hle
  have HRf : Hid (∀ W C' v' k, Eds W C' v' (cutE (x :: l) (textB [k])) → ¬ (cutE (x :: l) (textB [k])).length = 0 → Calls Tryz.prog 220 #[v'] W fun e w' => e = .returned (.string (textB (kc k))) ∧ Below W.heap.size W w') := fun W C' v' k hE hn => by
    have := hR W C' v' _ hE (by have := cutE_len (x :: l) (textB [k]); omega) (by omega) (hcok k) (ref_le2 f _ (hcok k))
    rw [hkc]
    simp only
    rw [if_neg hn]
    exact this
  have HKz : Hid (∀ k, (cutE (x :: l) (textB [k])).length = 0 → kc k = textCode []) := fun k hk => by rw [hkc]; simp only; rw [if_pos hk]
  have HTe : Hid (∀ W, Calls Tryz.prog 174 #[.string ⟨#[]⟩] W fun e w' => e = .returned (.string (textB (textCode []))) ∧ Below W.heap.size W w') := fun W => rtext_any ⟨#[]⟩ W (by decide)
  have HLs : Hid (∀ W, Calls Tryz.prog 173 #[.string (textB (((List.range 16).map kc).flatten ++ textCode []))] W fun e w' => e = .returned (.string (textB (listCode (((List.range 16).map kc).flatten ++ textCode [])))) ∧ Below W.heap.size W w') := fun W => by
    have h := rlist_any (textB (((List.range 16).map kc).flatten ++ textCode [])) W (by rw [textB_size, List.length_append]; have := hfl 16; have := textCode_length []; simp only [List.length_nil] at this; omega)
    rw [bytesOf_textB (fun y hy => by
      rcases List.mem_append.1 hy with hy | hy
      · exact hfb 16 y hy
      · exact textCode_byte (fun _ h => by cases h) y hy)] at h
    exact h
  have hadd := fun W => add_text ((List.range 16).map kc).flatten (textCode []) (by have := hfl 16; have := textCode_length []; simp only [List.length_nil] at this; omega) W
  have HB1 : Hid (∀ (W : World) (z : Nat), (convert 111 9 (.slice (some ⟨W.heap.size, 0, none⟩) 1 1)).run Tryz.prog (W.alloc (.cells #[.int .u8 (z : Int)] 5)) = .ok (.string (textB [z])) (W.alloc (.cells #[.int .u8 (z : Int)] 5))) := byte_text
  obtain ⟨pv, mv, cv, rfl⟩ := h.shape
  obtain ⟨F16, hF16⟩ : ∃ F16, ((List.range 16).map kc).flatten = F16 := ⟨_, rfl⟩
  rw [hF16] at HLs hadd ⊢
  have HF16 := Hid.hide hF16
  clear h hl hok h1 h2 hx hle hll hK0 hkl hcok hkb hfl hfb e0 hkc hF16
  go_enter Tryz.func188, Tryz.ntmps188
  go_wp2_with fail
  refine HK.out.mono ?_
  rintro e w1 ⟨rfl, hb1⟩
  have H1 := Hid.hide hb1
  clear hb1
  go_wp2
  go_loopg [5, 6] 16 (fun g s i wr => ∃ k : Nat, k ≤ 16 ∧ g = 16 - k ∧ i = .int .i64 (k : Int) ∧ s = .string (textB ((List.range k).map kc).flatten) ∧ Below w.heap.size w wr)
  case atStart => exact ⟨0, Nat.zero_le _, rfl, rfl, rfl, H1.out⟩
  case round =>
    obtain ⟨k, hk, rfl, rfl, rfl, hb⟩ := hrel
    have HB := Hid.hide hb
    clear hb H1
    by_cases hlt : k < 16
    · have i1 : (k : Int) < 16 := by omega
      have k8 : IntKind.u8.wrap (k : Int) = (k : Int) := wrap8 (by omega)
      have hcv := HB1.out wr k
      have HFk := Hid.hide (HF.out k (by omega))
      go_wp2_with fail
      have hba : Below wr.heap.size wr (wr.alloc (.cells #[.int .u8 (k : Int)] 5)) := (Below.refl _ _).alloc (Nat.le_refl _) _
      have hbw := HB.out.trans (hba.mono HB.out.size)
      refine (HCu.out _ k hbw).mono ?_
      rintro e w3 ⟨hb3, v3, rfl, hE3⟩
      have H3 : Hid (Below w.heap.size w w3) := hbw.trans (hb3.mono hbw.size)
      obtain ⟨p3, m3, c3, rfl⟩ := hE3.shape
      have HM3 := Hid.hide (Eds.len hE3)
      have HE3 := Hid.hide hE3
      clear hE3 hb3 hba hbw
      go_wp2_with fail
      refine (HTe.out w3).mono ?_
      rintro e w4 ⟨rfl, hb4⟩
      have H4 : Hid (Below w.heap.size w w4 ∧ Below w3.heap.size w3 w4) := ⟨H3.out.trans (hb4.mono H3.out.size), hb4⟩
      clear hb4
      by_cases h0 : (cutE (x :: l) (textB [k])).length = 0
      · have i3 : ¬ (0 : Int) < (m3 : Int) := by have := HM3.out; omega
        have hk0 := HKz.out k h0
        have hF := HFk.out
        rw [hk0] at hF
        clear h0
        go_wp2
        go_roundg (16 - (k + 1))
        case measure => omega
        case rel => exact ⟨k + 1, hlt, rfl, rfl, by rw [flat_succ, hk0], H4.out.1⟩
      · have i3 : (0 : Int) < (m3 : Int) := by have := HM3.out; omega
        have HRk := Hid.hide (HRf.out w4 _ _ k (HE3.out.below H4.out.2) h0)
        clear h0
        go_wp2_with fail
        refine HRk.out.mono ?_
        rintro e w5 ⟨rfl, hb5⟩
        have H5 : Hid (Below w.heap.size w w5) := H4.out.1.trans (hb5.mono H4.out.1.size)
        have hF := HFk.out
        clear hb5
        go_wp2
        go_roundg (16 - (k + 1))
        case measure => omega
        case rel => exact ⟨k + 1, hlt, rfl, rfl, by rw [flat_succ], H5.out⟩
    · have i1 : ¬ (k : Int) < 16 := by omega
      obtain rfl : k = 16 := by omega
      rw [HF16.out]
      go_wp2_with fail
      refine (HTe.out wr).mono ?_
      rintro e w4 ⟨rfl, hb4⟩
      have H4 : Hid (Below w.heap.size w w4) := HB.out.trans (hb4.mono HB.out.size)
      clear hb4
      go_wp2_with fail
      refine (HLs.out w4).mono ?_
      rintro e w5 ⟨rfl, hb5⟩
      have H5 : Hid (Below w.heap.size w w5) := H4.out.trans (hb5.mono H4.out.size)
      clear hb5
      go_wp2
      go_ret
      exact ⟨rfl, H5.out⟩

theorem ncode_any : ∀ f, NCode f
  | 0 => fun w C v l h hl h0 hok => by
    cases l with
    | nil => simp at h0
    | cons x l => exact absurd (hok x (List.mem_cons_self ..)).lt (by omega)
  | f + 1 => fun w C v l h hl h0 hok => by
    have hR := rref_any (ncode_any f)
    cases l with
    | nil => simp at h0
    | cons x l =>
      by_cases h1 : l.length = 0
      · obtain rfl : l = [] := List.eq_nil_of_length_eq_zero h1
        exact nleaf_any f h (hok x (List.mem_cons_self ..))
      · by_cases h2 : 0 < shrE x l
        · exact next2_any hR h hl hok h1 h2
        · exact nbranch_any hR h hl hok h1 h2
end Go.Proofs.YtjiikjpnlgogfaaGreatDoor

namespace Go.Proofs.YtjiikjpnlgogfaaGreatDoor
open Go.RowKit

abbrev z34 : Array Value := #[.int .u8 0, .int .u8 0, .int .u8 0, .int .u8 0, .int .u8 0, .int .u8 0, .int .u8 0, .int .u8 0, .int .u8 0, .int .u8 0, .int .u8 0, .int .u8 0, .int .u8 0, .int .u8 0, .int .u8 0, .int .u8 0, .int .u8 0, .int .u8 0, .int .u8 0, .int .u8 0, .int .u8 0, .int .u8 0, .int .u8 0, .int .u8 0, .int .u8 0, .int .u8 0, .int .u8 0, .int .u8 0, .int .u8 0, .int .u8 0, .int .u8 0, .int .u8 0]
/-- 32 bytes laid into a block of the call's own, and told. -/
theorem own_hash (w w1 : World) (D : List Nat) (hD : D.length = 32) (ht : w1.there w.heap.size 0 32) (hb : Below w.heap.size w w1) :
    w1.there w.heap.size 0 (D.map encB).toArray.size ∧ (Tryz.prog.info? 34).map (·.size) = some (D.map encB).toArray.size ∧ (Tryz.prog.info? 34).map (·.size) = some (D.map encB).length ∧ (D.map encB).toArray.all (·.oneCell') = true ∧ (w1.setCells w.heap.size 0 (D.map encB)).rangeAt w.heap.size 0 (D.map encB) ∧ Below w.heap.size w (w1.setCells w.heap.size 0 (D.map encB)) := by
  obtain ⟨z1, z2, t1, t2⟩ := hash_cells (D := D.toArray) (by simpa using hD) ht
  exact ⟨t1, z2, z1, all_oneCell_toArray (oneCell_enc D.toArray .u8), World.rangeAt_setCells_same _ _ _ _ t2, below_setCells hb (Nat.le_refl _) _ _⟩

set_option maxRecDepth 100000 in
set_option maxHeartbeats 800000 in
theorem rdigest_any {f : Nat} {w : World} {C : Nat} {v : Value} {l : List Ed} (h : Eds w C v l) (hl : l.length ≤ 2097152) (h0 : 0 < l.length) (hok : ∀ y ∈ l, EdOK f y) :
    Calls Tryz.prog 137 #[v] w fun e w' => e = .returned (.agg ((digB (codeE f l)).map encB).toArray) ∧ Below w.heap.size w w' := by
  obtain ⟨x, m, rfl⟩ : ∃ x m, l = x :: m := by cases l with | nil => simp at h0 | cons x m => exact ⟨x, m, rfl⟩
  have HK : Hid (∀ W, Below w.heap.size w W → Calls Tryz.prog 189 #[v] W fun e w' => e = .returned (.int .i64 ((kndE x m : Nat) : Int)) ∧ Below W.heap.size W w') := fun W hW => rkind_any (h.below hW) (by simp at hl; omega) (fun y hy => (hok y hy).le) (hok x (List.mem_cons_self ..)).plain
  have HC : Hid (∀ W, Below w.heap.size w W → Calls Tryz.prog 188 #[v] W fun e w' => e = .returned (.string (textB (codeE f (x :: m)))) ∧ Below W.heap.size W w') := fun W hW => ncode_any f W C v (x :: m) (h.below hW) hl h0 hok
  have hlen := ref_le2 f (x :: m) hok
  obtain ⟨kn, hkn⟩ : ∃ kn : Int, ((kndE x m : Nat) : Int) = kn := ⟨_, rfl⟩
  have hk4 : (kn == 4) = false := by rw [← hkn, beq_eq_false_iff_ne]; exact kndE_ne x m
  rw [hkn] at HK
  obtain ⟨pk, mk, ck, rfl⟩ := h.shape
  generalize codeE f (x :: m) = c at HC hlen ⊢
  have HD : Hid (∀ W, Calls Tryz.prog 109 #[.string (textB c)] W fun e w' => e = .returned (.agg ((digB c).map encB).toArray) ∧ Below W.heap.size W w') := fun W => refdig_any (textB c) W (by rw [textB_size]; omega)
  have hDl := digB_length c
  generalize digB c = D at HD hDl ⊢
  clear h hl h0 hok hkn hlen
  go_enter Tryz.func137, Tryz.ntmps137
  go_wp2_with fail
  have hth : (w.alloc (.cells #[.int .u8 0, .int .u8 0, .int .u8 0, .int .u8 0, .int .u8 0, .int .u8 0, .int .u8 0, .int .u8 0, .int .u8 0, .int .u8 0, .int .u8 0, .int .u8 0, .int .u8 0, .int .u8 0, .int .u8 0, .int .u8 0, .int .u8 0, .int .u8 0, .int .u8 0, .int .u8 0, .int .u8 0, .int .u8 0, .int .u8 0, .int .u8 0, .int .u8 0, .int .u8 0, .int .u8 0, .int .u8 0, .int .u8 0, .int .u8 0, .int .u8 0, .int .u8 0] 34)).there w.heap.size 0 32 := there_new w _ _ 32 rfl
  have hb0 : Below w.heap.size w (w.alloc (.cells #[.int .u8 0, .int .u8 0, .int .u8 0, .int .u8 0, .int .u8 0, .int .u8 0, .int .u8 0, .int .u8 0, .int .u8 0, .int .u8 0, .int .u8 0, .int .u8 0, .int .u8 0, .int .u8 0, .int .u8 0, .int .u8 0, .int .u8 0, .int .u8 0, .int .u8 0, .int .u8 0, .int .u8 0, .int .u8 0, .int .u8 0, .int .u8 0, .int .u8 0, .int .u8 0, .int .u8 0, .int .u8 0, .int .u8 0, .int .u8 0, .int .u8 0, .int .u8 0] 34)) := (Below.refl _ _).alloc (Nat.le_refl _) _
  have hs0 : w.heap.size < (w.alloc (.cells #[.int .u8 0, .int .u8 0, .int .u8 0, .int .u8 0, .int .u8 0, .int .u8 0, .int .u8 0, .int .u8 0, .int .u8 0, .int .u8 0, .int .u8 0, .int .u8 0, .int .u8 0, .int .u8 0, .int .u8 0, .int .u8 0, .int .u8 0, .int .u8 0, .int .u8 0, .int .u8 0, .int .u8 0, .int .u8 0, .int .u8 0, .int .u8 0, .int .u8 0, .int .u8 0, .int .u8 0, .int .u8 0, .int .u8 0, .int .u8 0, .int .u8 0, .int .u8 0] 34)).heap.size := by simp
  generalize World.alloc w _ = w0 at hth hb0 hs0 ⊢
  refine (HK.out w0 hb0).mono ?_
  rintro e w1 ⟨rfl, hb1⟩
  have H1 : Hid (Below w.heap.size w w1 ∧ w1.there w.heap.size 0 32 ∧ w.heap.size < w1.heap.size) := ⟨hb0.trans (hb1.mono hb0.size), there_block hth (hb1.block _ hs0), Nat.lt_of_lt_of_le hs0 hb1.size⟩
  clear hb1 hth hb0 hs0
  go_wp2_with fail
  refine (HC.out w1 H1.out.1).mono ?_
  rintro e w2 ⟨rfl, hb2⟩
  have H2 : Hid (Below w.heap.size w w2 ∧ w2.there w.heap.size 0 32 ∧ w.heap.size < w2.heap.size) := ⟨H1.out.1.trans (hb2.mono H1.out.1.size), there_block H1.out.2.1 (hb2.block _ H1.out.2.2), Nat.lt_of_lt_of_le H1.out.2.2 hb2.size⟩
  clear hb2
  go_wp2_with fail
  refine (HD.out w2).mono ?_
  rintro e w3 ⟨rfl, hb3⟩
  obtain ⟨t1, z2, z1, hone, hr3, hbb⟩ := own_hash w w3 D hDl (there_block H2.out.2.1 (hb3.block _ H2.out.2.2)) (H2.out.1.trans (hb3.mono H2.out.1.size))
  have H3 := Hid.hide hbb
  clear hb3 hbb
  go_wp2_with (refine wpList_store_mid rfl 34 _ _ rfl w.heap.size 0 (D.map encB).toArray rfl rfl t1 z2 hone ?_)
  refine bodyPost_ret (v := .agg (D.map encB).toArray) (results_cell1 Tryz.results137 _ _ _ w.heap.size 0 rfl (run_loadVar_mid _ _ _ 34 _ _ hr3 Tryz.underlying34 rfl z1)) rfl ⟨rfl, H3.out⟩

set_option maxRecDepth 100000 in
set_option maxHeartbeats 800000 in
theorem rempty_any (w : World) : Calls Tryz.prog 136 #[] w fun e w' => e = .returned (.agg ((digB [128]).map encB).toArray) ∧ Below w.heap.size w w' := by
  have HB1 : Hid (∀ (W : World) (z : Nat), (convert 111 9 (.slice (some ⟨W.heap.size, 0, none⟩) 1 1)).run Tryz.prog (W.alloc (.cells #[.int .u8 (z : Int)] 5)) = .ok (.string (textB [z])) (W.alloc (.cells #[.int .u8 (z : Int)] 5))) := byte_text
  have hcv : ∀ W : World, (convert 111 9 (.slice (some ⟨W.heap.size, 0, none⟩) 1 1)).run Tryz.prog (W.alloc (.cells #[.int .u8 128] 5)) = .ok (.string (textB [128])) (W.alloc (.cells #[.int .u8 128] 5)) := fun W => HB1.out W 128
  have HD : Hid (∀ W, Calls Tryz.prog 109 #[.string (textB [128])] W fun e w' => e = .returned (.agg ((digB [128]).map encB).toArray) ∧ Below W.heap.size W w') := fun W => refdig_any (textB [128]) W (by rw [textB_size]; decide)
  have hDl := digB_length [128]
  generalize digB [128] = D at HD hDl ⊢
  have hth : (w.alloc (.cells z34 34)).there w.heap.size 0 32 := there_new w _ _ 32 rfl
  have hb0 : Below w.heap.size w (w.alloc (.cells z34 34)) := (Below.refl _ _).alloc (Nat.le_refl _) _
  have hs0 : w.heap.size < (w.alloc (.cells z34 34)).heap.size := by simp
  go_enter Tryz.func136, Tryz.ntmps136
  go_upto_region 1 with fail
  generalize World.alloc w _ = w0 at hth hb0 hs0 ⊢
  have hcv0 := hcv w0
  go_wp2_with fail
  have hba : Below w0.heap.size w0 (w0.alloc (.cells #[.int .u8 128] 5)) := (Below.refl _ _).alloc (Nat.le_refl _) _
  refine (HD.out _).mono ?_
  rintro e w3 ⟨rfl, hb3⟩
  have hb03 : Below w0.heap.size w0 w3 := hba.trans (hb3.mono hba.size)
  obtain ⟨t1, z2, z1, hone, hr3, hbb⟩ := own_hash w w3 D hDl (there_block hth (hb03.block _ hs0)) (hb0.trans (hb03.mono hb0.size))
  have H3 := Hid.hide hbb
  clear hb3 hbb hba hb03 hcv0 hcv
  go_wp2_with (refine wpList_store_mid rfl 34 _ _ rfl w.heap.size 0 (D.map encB).toArray rfl rfl t1 z2 hone ?_)
  refine bodyPost_ret (v := .agg (D.map encB).toArray) (results_cell1 Tryz.results136 _ _ _ w.heap.size 0 rfl (run_loadVar_mid _ _ _ 34 _ _ hr3 Tryz.underlying34 rfl z1)) rfl ⟨rfl, H3.out⟩

/-- The root of some ends. -/
def rootE (l : List Ed) : List Nat := if l.length = 0 then digB [128] else digB (codeE 65 l)
theorem rootE_len (l : List Ed) : (rootE l).length = 32 := by unfold rootE; split <;> exact digB_length _
theorem rootE_byte (l : List Ed) : ∀ x ∈ rootE l, x < 256 := by unfold rootE; split <;> exact digB_byte _

set_option maxRecDepth 100000 in
set_option maxHeartbeats 800000 in
theorem rroot_any {w : World} {C b : Nat} {v : Value} {l : List Ed} (h : RtAt w C b v l) (hl : l.length ≤ 2097152) (hok : ∀ y ∈ l, EdOK 65 y) :
    Calls Tryz.prog 73 #[.pointer (some ⟨b, 0, none⟩)] w fun e w' => e = .returned (.agg ((rootE l).map encB).toArray) ∧ Below w.heap.size w w' := by
  obtain ⟨pk, mk, ck, rfl⟩ := h.row.shape
  have hmk := Eds.len h.row
  have c0 := h.cell
  have hblt := h.lt
  have hDl := rootE_len l
  have HDg : Hid (∀ W, Below w.heap.size w W → 0 < l.length → Calls Tryz.prog 137 #[.slice pk mk ck] W fun e w' => e = .returned (.agg ((digB (codeE 65 l)).map encB).toArray) ∧ Below W.heap.size W w') := fun W hW h0 => rdigest_any (h.row.below hW) hl h0 hok
  have hth : (w.alloc (.cells z34 34)).there w.heap.size 0 32 := there_new w _ _ 32 rfl
  have hb0 : Below w.heap.size w (w.alloc (.cells z34 34)) := (Below.refl _ _).alloc (Nat.le_refl _) _
  have hs0 : w.heap.size < (w.alloc (.cells z34 34)).heap.size := by simp
  clear h hl hok
  by_cases h0 : l.length = 0
  · have he : rootE l = digB [128] := by unfold rootE; rw [if_pos h0]
    have HD := Hid.hide rempty_any
    rw [he] at hDl ⊢
    generalize digB [128] = D at HD hDl ⊢
    obtain rfl : mk = 0 := by omega
    clear h0 he hmk HDg
    go_enter Tryz.func73, Tryz.ntmps73
    go_upto_region 1 with fail
    have d0 := (World.cell?_of_block (a := ⟨b, 0, none⟩) (hb0.block b hblt)).trans c0
    generalize World.alloc w _ = w0 at hth hb0 hs0 d0 ⊢
    go_wp2_with fail
    refine (HD.out w0).mono ?_
    rintro e w3 ⟨rfl, hb3⟩
    obtain ⟨t1, z2, z1, hone, hr3, hbb⟩ := own_hash w w3 D hDl (there_block hth (hb3.block _ hs0)) (hb0.trans (hb3.mono hb0.size))
    have H3 := Hid.hide hbb
    clear hb3 hbb
    go_wp2_with (refine wpList_store_mid rfl 34 _ _ rfl w.heap.size 0 (D.map encB).toArray rfl rfl t1 z2 hone ?_)
    refine bodyPost_ret (v := .agg (D.map encB).toArray) (results_cell1 Tryz.results73 _ _ _ w.heap.size 0 rfl (run_loadVar_mid _ _ _ 34 _ _ hr3 Tryz.underlying34 rfl z1)) rfl ⟨rfl, H3.out⟩
  · have he : rootE l = digB (codeE 65 l) := by unfold rootE; rw [if_neg h0]
    have HD : Hid (∀ W, Below w.heap.size w W → Calls Tryz.prog 137 #[.slice pk mk ck] W fun e w' => e = .returned (.agg ((digB (codeE 65 l)).map encB).toArray) ∧ Below W.heap.size W w') := fun W hW => HDg.out W hW (by omega)
    rw [he] at hDl ⊢
    generalize digB (codeE 65 l) = D at HD hDl ⊢
    have hm0 : ((mk : Int) == 0) = false := by rw [beq_eq_false_iff_ne]; omega
    clear h0 he hmk HDg
    go_enter Tryz.func73, Tryz.ntmps73
    go_upto_region 1 with fail
    have d0 := (World.cell?_of_block (a := ⟨b, 0, none⟩) (hb0.block b hblt)).trans c0
    generalize World.alloc w _ = w0 at hth hb0 hs0 d0 ⊢
    go_wp2_with fail
    refine (HD.out w0 hb0).mono ?_
    rintro e w3 ⟨rfl, hb3⟩
    obtain ⟨t1, z2, z1, hone, hr3, hbb⟩ := own_hash w w3 D hDl (there_block hth (hb3.block _ hs0)) (hb0.trans (hb3.mono hb0.size))
    have H3 := Hid.hide hbb
    clear hb3 hbb
    go_wp2_with (refine wpList_store_mid rfl 34 _ _ rfl w.heap.size 0 (D.map encB).toArray rfl rfl t1 z2 hone ?_)
    refine bodyPost_ret (v := .agg (D.map encB).toArray) (results_cell1 Tryz.results73 _ _ _ w.heap.size 0 rfl (run_loadVar_mid _ _ _ 34 _ _ hr3 Tryz.underlying34 rfl z1)) rfl ⟨rfl, H3.out⟩
end Go.Proofs.YtjiikjpnlgogfaaGreatDoor

namespace Go.Proofs.YtjiikjpnlgogfaaGreatDoor
open Go.RowKit

theorem two_textR (w : World) (y z : Nat) : (convert 111 9 (.slice (some ⟨w.heap.size, 0, none⟩) 2 2)).run Tryz.prog (w.alloc (.cells #[.int .u8 (y : Int), .int .u8 (z : Int)] 5)).drew = .ok (.string (textB [y, z])) (w.alloc (.cells #[.int .u8 (y : Int), .int .u8 (z : Int)] 5)).drew :=
  run_own_text _ 111 9 5 Tryz.underlying111 Tryz.underlying5 Tryz.underlying9 (Own.ofCells w 5 [y, z] (by unfold maxLen; simp)).drew

theorem boxedR (w : World) (key : List Nat) (t : TypeId) (i : Nat) (hi : i < key.length) : (w.alloc (.cells (key.map encB).toArray t)).cell? ⟨w.heap.size, i, none⟩ = some (.int .u8 ((key[i] : Nat) : Int)) := by
  rw [World.cell?_alloc_new]
  simp [hi]

set_option maxRecDepth 100000 in
set_option maxHeartbeats 3200000 in
theorem rkpath_any (key : List Nat) (hl : key.length = 32) (hb : ∀ x ∈ key, x < 256) (w : World) :
    Calls Tryz.prog 134 #[.agg (key.map encB).toArray] w fun e w' => e = .returned (.string (textB (nibs key))) ∧ Below w.heap.size w w' := by
  have HB : Hid (∀ t i (hi : i < key.length), (w.alloc (.cells (key.map encB).toArray t)).cell? ⟨w.heap.size, i, none⟩ = some (.int .u8 ((key[i] : Nat) : Int))) := fun t i hi => boxedR w key t i hi
  have HT := Hid.hide two_textR
  have HL : Hid (key.length = 32 ∧ ∀ x ∈ key, x < 256) := ⟨hl, hb⟩
  generalize hA : (key.map encB).toArray = A at HB ⊢
  clear hl hb hA
  go_enter Tryz.func134, Tryz.ntmps134
  go_wp2
  go_loopg [3, 4] 32 (fun gh u i wr => ∃ x : Nat, x ≤ 32 ∧ gh = 32 - x ∧ i = .int .i64 (x : Int) ∧ u = .string (textB (nibs (key.take x))) ∧ Below w.heap.size w wr ∧ w.heap.size < wr.heap.size ∧ ∀ i (hi : i < key.length), wr.cell? ⟨w.heap.size, i, none⟩ = some (.int .u8 ((key[i] : Nat) : Int)))
  case atStart => exact ⟨0, by omega, rfl, rfl, rfl, (Below.refl _ _).alloc (Nat.le_refl _) _, by simp, HB.out _⟩
  case round =>
    obtain ⟨x, hx, rfl, rfl, rfl, hbw, hs, hc⟩ := hrel
    by_cases hlt : x < 32
    · have hxk : x < key.length := by have := HL.out.1; omega
      have hxi : (x : Int) < 32 := by omega
      have c0 := hc x hxk
      obtain ⟨b, hbb⟩ : ∃ b, key[x] = b := ⟨_, rfl⟩
      have hb8 : b < 256 := by rw [← hbb]; exact HL.out.2 _ (List.getElem_mem hxk)
      rw [hbb] at c0
      have htk : nibs (key.take (x + 1)) = nibs (key.take x) ++ [b / 16, b % 16] := by
        rw [List.take_succ_eq_append_getElem hxk, hbb, nibs_snoc]
      have hlen : (nibs (key.take x)).length ≤ 64 := by rw [nibs_length, List.length_take]; omega
      have hadd := fun W => add_text (nibs (key.take x)) [b / 16, b % 16] (by simp only [List.length_cons, List.length_nil]; omega) W
      rw [← htk] at hadd
      have hcv := fun W => HT.out W (b / 16) (b % 16)
      have e1 : ((b / 16 : Nat) : Int) = (b : Int) / 16 := by omega
      have e2 : ((b % 16 : Nat) : Int) = (b : Int) % 16 := by omega
      rw [e1, e2] at hcv
      have A0 : Aside (Below w.heap.size w wr ∧ w.heap.size < wr.heap.size ∧ ∀ i (hi : i < key.length), wr.cell? ⟨w.heap.size, i, none⟩ = some (.int .u8 ((key[i] : Nat) : Int))) := ⟨hbw, hs, hc⟩
      have hne : ¬ w.heap.size = wr.heap.size := by omega
      clear hbw hc htk hlen e1 e2 hbb
      go_wp2_with fail
      go_region
      all_goals
        go_wp2
        go_roundg (32 - (x + 1))
        case measure => omega
        case rel =>
          refine ⟨x + 1, by omega, rfl, rfl, rfl, (A0.out.1.alloc A0.out.1.size _).drew, by simp; omega, fun i hi => ?_⟩
          exact (World.cell?_of_block (Below.heap_alloc _ _ _ A0.out.2.1)).trans (A0.out.2.2 i hi)
    · have hxe : x = 32 := by omega
      have hxi : ¬ (x : Int) < 32 := by omega
      have htk : key.take x = key := List.take_of_length_le (by have := HL.out.1; omega)
      rw [htk]
      have A0 : Aside (Below w.heap.size w wr) := hbw
      clear hbw hc hs
      go_wp2
      go_ret
      exact ⟨rfl, A0.out⟩

theorem key_bytes {K : Array Nat} (hb : Bytes K) : ∀ x ∈ K.toList, x < 256 := fun x hx => by
  obtain ⟨j, hj, rfl⟩ := List.getElem_of_mem hx
  have := hb j
  rw [getElem!_pos K j (by simpa using hj)] at this
  simpa using this
/-- What some ends have for a path. -/
def hasE (l : List Ed) (p : ByteArray) : Option ByteArray := (l.find? fun x => decide (x.path = p)).map (·.val)
theorem findE_hasE : ∀ (l : List Ed) (p : ByteArray), (findE l p = none ∧ hasE l p = none) ∨ ∃ i, ∃ h : i < l.length, findE l p = some i ∧ hasE l p = some l[i].val ∧ l[i].path = p
  | [], p => .inl ⟨rfl, rfl⟩
  | x :: l, p => by
    by_cases e : x.path = p
    · exact .inr ⟨0, by simp, by rw [findE, if_pos e], by simp [hasE, e], e⟩
    · rcases findE_hasE l p with ⟨h1, h2⟩ | ⟨i, hi, h1, h2, h3⟩
      · refine .inl ⟨by rw [findE, if_neg e, h1]; rfl, ?_⟩
        unfold hasE at h2 ⊢
        rw [List.find?_cons, decide_eq_false e]
        exact h2
      · refine .inr ⟨i + 1, by simpa using hi, by rw [findE, if_neg e, h1]; rfl, ?_, by simpa using h3⟩
        unfold hasE at h2 ⊢
        rw [List.find?_cons, decide_eq_false e]
        simpa using h2

set_option maxRecDepth 100000 in
set_option maxHeartbeats 800000 in
theorem rget_any {w : World} {C b : Nat} {v : Value} {l : List Ed} {K : Array Nat} (h : RtAt w C b v l) (hl : l.length ≤ 2097152) (hs : ∀ x ∈ l, x.stub = false) (hK : K.size = 32) (hKb : Bytes K) :
    Calls Tryz.prog 132 #[.pointer (some ⟨b, 0, none⟩), .agg (K.toList.map encB).toArray] w fun e w' => e = .returned (.tuple #[.string ((hasE l (textB (nibs K.toList))).getD ⟨#[]⟩), .bool (hasE l (textB (nibs K.toList))).isSome, .int .i64 0]) ∧ Below w.heap.size w w' := by
  obtain ⟨pk, mk, ck, rfl⟩ := h.row.shape
  have hmk := Eds.len h.row
  obtain ⟨p, hp⟩ : ∃ p, textB (nibs K.toList) = p := ⟨_, rfl⟩
  rw [hp]
  have zK : (Tryz.prog.info? 26).map (·.size) = some (K.toList.map encB).length := by rw [size51]; simp [hK]
  obtain ⟨W0, hW0⟩ : ∃ W0, w.alloc (.cells (K.toList.map encB).toArray 26) = W0 := ⟨_, rfl⟩
  have hb0 : Below w.heap.size w W0 := by rw [← hW0]; exact (Below.refl _ _).alloc (Nat.le_refl _) _
  have hrow : W0.rangeAt w.heap.size 0 (K.toList.map encB) := fun j u hu => by
    rw [← hW0, Nat.zero_add, World.cell?_alloc_new]
    simpa using hu
  have HPt : Hid (∀ W, Calls Tryz.prog 134 #[.agg (K.toList.map encB).toArray] W fun e w' => e = .returned (.string p) ∧ Below W.heap.size W w') := fun W => by
    have h := rkpath_any K.toList (by simpa using hK) (key_bytes hKb) W
    rw [hp] at h
    exact h
  have HR : Hid (∀ W, Below w.heap.size w W → RtAt W C b (.slice pk mk ck) l) := fun W hW => h.below hW
  have HM : Hid (∀ W, Below w.heap.size w W → Calls Tryz.prog 183 #[.pointer (some ⟨b, 0, none⟩), .string p] W fun e w' => e = .returned (.bool false) ∧ w' = W) := fun W hW => rmeets_any (h.below hW) hl hs
  have HFi : Hid (∀ W, Below w.heap.size w W → Calls Tryz.prog 184 #[.pointer (some ⟨b, 0, none⟩), .string p] W fun e w' => e = .returned (.int .i64 (idxV (findE l p))) ∧ w' = W) := fun W hW => rfind_any (h.below hW) hl hs
  have hc := findE_hasE l p
  have HB0 := Hid.hide hb0
  clear h hl hs hK hKb hp hb0
  rcases hc with ⟨h1, h2⟩ | ⟨i, hi, h1, h2, -⟩
  · rw [h1] at HFi
    rw [h2]
    simp only [idxV] at HFi
    simp only [Option.getD_none, Option.isSome_none]
    clear h1 h2
    go_enter Tryz.func132, Tryz.ntmps132
    go_wp2_with (refine wpList_load_mid rfl 26 _ rfl w.heap.size 0 rfl (K.toList.map encB) _ hrow Tryz.underlying26 rfl zK ?_)
    refine (HPt.out _).mono ?_
    rintro e w1 ⟨rfl, hb1⟩
    have H1 : Hid (Below w.heap.size w w1) := HB0.out.trans (hb1.mono HB0.out.size)
    clear hb1 hrow hW0
    go_wp2_with fail
    refine (HM.out w1 H1.out).mono ?_
    rintro e w2 ⟨rfl, hw2⟩
    obtain rfl := hw2.symm
    go_wp2_with fail
    refine (HFi.out w1 H1.out).mono ?_
    rintro e w2 ⟨rfl, hw2⟩
    obtain rfl := hw2.symm
    go_wp2
    go_ret3
    exact ⟨rfl, H1.out⟩
  · rw [h1] at HFi
    rw [h2]
    simp only [idxV] at HFi
    simp only [Option.getD_some, Option.isSome_some]
    clear h1 h2
    obtain ⟨u, hu⟩ : ∃ u, l[i].val = u := ⟨_, rfl⟩
    rw [hu]
    go_enter Tryz.func132, Tryz.ntmps132
    go_wp2_with (refine wpList_load_mid rfl 26 _ rfl w.heap.size 0 rfl (K.toList.map encB) _ hrow Tryz.underlying26 rfl zK ?_)
    refine (HPt.out _).mono ?_
    rintro e w1 ⟨rfl, hb1⟩
    have H1 : Hid (Below w.heap.size w w1) := HB0.out.trans (hb1.mono HB0.out.size)
    clear hb1 hrow hW0
    go_wp2_with fail
    refine (HM.out w1 H1.out).mono ?_
    rintro e w2 ⟨rfl, hw2⟩
    obtain rfl := hw2.symm
    go_wp2_with fail
    refine (HFi.out w1 H1.out).mono ?_
    rintro e w2 ⟨rfl, hw2⟩
    obtain rfl := hw2.symm
    have hr := HR.out w1 H1.out
    have c0 := hr.cell
    obtain ⟨g, cap, hv, -, -, hrg⟩ := Eds.row hr.row hi
    simp only [Value.slice.injEq] at hv
    obtain ⟨rfl, -, rfl⟩ := hv
    obtain ⟨-, d1, -⟩ := Eds.path hrg
    have i1 : (i : Int) < (mk : Int) := by omega
    have i2 : ¬ (i : Int) < 0 := by omega
    rw [hu] at d1
    clear hrg hr hmk hu
    go_wp2
    go_ret3
    exact ⟨rfl, H1.out⟩

def newE (p u : ByteArray) : Ed := ⟨p, u, false, fun _ => 0⟩
/-- A key, a value: the ends then. -/
def putE (l : List Ed) (p u : ByteArray) : List Ed := wth l (findE l p) ++ [newE p u]

set_option maxRecDepth 100000 in
set_option maxHeartbeats 800000 in
theorem rputbad_any {w : World} {b : Nat} {K : Array Nat} {u : ByteArray} (hu : u.size < 1 ∨ 100 < u.size) :
    Calls Tryz.prog 130 #[.pointer (some ⟨b, 0, none⟩), .agg (K.toList.map encB).toArray, .string u] w fun e w' => e = .returned (.int .i64 11) ∧ Below w.heap.size w w' := by
  by_cases h1 : u.size < 1
  · have i1 : (u.size : Int) < 1 := by omega
    clear hu
    go_enter Tryz.func130, Tryz.ntmps130
    go_wp2
    go_ret
    exact ⟨rfl, (Below.refl _ _).alloc (Nat.le_refl _) _⟩
  · have i1 : ¬ (u.size : Int) < 1 := by omega
    have i2 : (100 : Int) < (u.size : Int) := by omega
    clear hu
    go_enter Tryz.func130, Tryz.ntmps130
    go_wp2
    go_ret
    exact ⟨rfl, (Below.refl _ _).alloc (Nat.le_refl _) _⟩
end Go.Proofs.YtjiikjpnlgogfaaGreatDoor

namespace Go.Proofs.YtjiikjpnlgogfaaGreatDoor
open Go.RowKit

abbrev litE (p u : ByteArray) : Array Value := #[.string p, .string u, .bool false, .int .u8 0, .int .u8 0, .int .u8 0, .int .u8 0, .int .u8 0, .int .u8 0, .int .u8 0, .int .u8 0, .int .u8 0, .int .u8 0, .int .u8 0, .int .u8 0, .int .u8 0, .int .u8 0, .int .u8 0, .int .u8 0, .int .u8 0, .int .u8 0, .int .u8 0, .int .u8 0, .int .u8 0, .int .u8 0, .int .u8 0, .int .u8 0, .int .u8 0, .int .u8 0, .int .u8 0, .int .u8 0, .int .u8 0, .int .u8 0, .int .u8 0, .int .u8 0]
theorem rt_set {w w2 : World} {C b : Nat} {v v2 : Value} {l' : List Ed} (hb : Below w.heap.size w w2) (hh : w.heap[b]? = some (.cells #[v] 137 (0, 0))) (hE : Eds w2 C v2 l') (hC : w.heap.size ≤ C) : RtAt (w2.setCell ⟨b, 0, none⟩ v2) C b v2 l' ∧ Only b w (w2.setCell ⟨b, 0, none⟩ v2) := by
  have hlt : b < w.heap.size := (Array.getElem?_eq_some_iff.1 hh).1
  have h2 := (hb.block b hlt).trans hh
  have hs : (w2.setCell ⟨b, 0, none⟩ v2).heap.size = w2.heap.size := by simp
  refine ⟨⟨heap_setCell_list (cs := [v]) h2 0 v2, hE.keep (Nat.le_of_eq hs.symm) fun k _ e => Below.heap_setCell _ _ _ _ ?_⟩, hb.os, hb.tape, hb.output, by rw [hs]; exact hb.size, fun k hk hne => (Below.heap_setCell _ _ _ _ hne).trans (hb.block k hk)⟩
  have := (hE.block k e).1
  show k ≠ b
  omega

set_option maxRecDepth 100000 in
set_option maxHeartbeats 800000 in
attribute [local go_sem ↓] wp_build_end in
theorem rput_any {w : World} {C b : Nat} {v : Value} {l : List Ed} {K : Array Nat} {u : ByteArray} (h : RtAt w C b v l) (hl : l.length ≤ 2097151) (hs : ∀ x ∈ l, x.stub = false) (hK : K.size = 32) (hKb : Bytes K) (hu0 : 0 < u.size) (hu1 : u.size ≤ 100) :
    Calls Tryz.prog 130 #[.pointer (some ⟨b, 0, none⟩), .agg (K.toList.map encB).toArray, .string u] w fun e w' => e = .returned (.int .i64 0) ∧ Only b w w' ∧ ∃ v', RtAt w' w.heap.size b v' (putE l (textB (nibs K.toList)) u) := by
  obtain ⟨pk, mk, ck, rfl⟩ := h.row.shape
  obtain ⟨p, hp⟩ : ∃ p, textB (nibs K.toList) = p := ⟨_, rfl⟩
  rw [hp]
  obtain ⟨i0, hi, hz0, hz1, hz2⟩ := info_parts endZ
  have zK : (Tryz.prog.info? 26).map (·.size) = some (K.toList.map encB).length := by rw [size51]; simp [hK]
  obtain ⟨W0, hW0⟩ : ∃ W0, w.alloc (.cells (K.toList.map encB).toArray 26) = W0 := ⟨_, rfl⟩
  have hb0 : Below w.heap.size w W0 := by rw [← hW0]; exact (Below.refl _ _).alloc (Nat.le_refl _) _
  have hrow : W0.rangeAt w.heap.size 0 (K.toList.map encB) := fun j u hu => by
    rw [← hW0, Nat.zero_add, World.cell?_alloc_new]
    simpa using hu
  have HPt : Hid (∀ W, Calls Tryz.prog 134 #[.agg (K.toList.map encB).toArray] W fun e w' => e = .returned (.string p) ∧ Below W.heap.size W w') := fun W => by
    have h := rkpath_any K.toList (by simpa using hK) (key_bytes hKb) W
    rw [hp] at h
    exact h
  have HR : Hid (∀ W, Below w.heap.size w W → RtAt W C b (.slice pk mk ck) l) := fun W hW => h.below hW
  have HM : Hid (∀ W, Below w.heap.size w W → Calls Tryz.prog 183 #[.pointer (some ⟨b, 0, none⟩), .string p] W fun e w' => e = .returned (.bool false) ∧ w' = W) := fun W hW => rmeets_any (h.below hW) (by omega) hs
  have HFi : Hid (∀ W, Below w.heap.size w W → Calls Tryz.prog 184 #[.pointer (some ⟨b, 0, none⟩), .string p] W fun e w' => e = .returned (.int .i64 (idxV (findE l p))) ∧ w' = W) := fun W hW => rfind_any (h.below hW) (by omega) hs
  have HWo : Hid (∀ W, Below w.heap.size w W → Calls Tryz.prog 185 #[.slice pk mk ck, .int .i64 (idxV (findE l p))] W fun e w' => Below W.heap.size W w' ∧ ∃ v', e = .returned v' ∧ Eds w' W.heap.size v' (wth l (findE l p))) := fun W hW => rwithout_any (h.row.below hW) (by omega)
  have HB0 : Hid (Below w.heap.size w W0 ∧ w.heap[b]? = some (.cells #[.slice pk mk ck] 137 (0, 0)) ∧ l.length ≤ 2097151 ∧ b < w.heap.size) := ⟨hb0, h.heap, hl, h.lt⟩
  have i1 : ¬ (u.size : Int) < 1 := by omega
  have i2 : ¬ (100 : Int) < (u.size : Int) := by omega
  obtain ⟨iv, hiv⟩ : ∃ iv, idxV (findE l p) = iv := ⟨_, rfl⟩
  rw [hiv] at HFi HWo
  clear h hl hs hK hKb hp hb0 hu0 hu1 hiv
  go_enter Tryz.func130, Tryz.ntmps130
  go_wp2_with (refine wpList_load_mid rfl 26 _ rfl w.heap.size 0 rfl (K.toList.map encB) _ hrow Tryz.underlying26 rfl zK ?_)
  refine (HPt.out _).mono ?_
  rintro e w1 ⟨rfl, hb1⟩
  have H1 : Hid (Below w.heap.size w w1) := HB0.out.1.trans (hb1.mono HB0.out.1.size)
  clear hb1 hrow hW0
  go_wp2_with fail
  refine (HM.out w1 H1.out).mono ?_
  rintro e w2 ⟨rfl, hw2⟩
  obtain rfl := hw2.symm
  go_wp2_with fail
  refine (HFi.out w1 H1.out).mono ?_
  rintro e w2 ⟨rfl, hw2⟩
  obtain rfl := hw2.symm
  have c0 := (HR.out w1 H1.out).cell
  go_wp2_with fail
  refine (HWo.out w1 H1.out).mono ?_
  rintro e w3 ⟨hb3, v3, rfl, hE3⟩
  obtain ⟨po, mo, co, rfl⟩ := hE3.shape
  have hb3w : Below w.heap.size w w3 := H1.out.trans (hb3.mono H1.out.size)
  have H3 : Hid (Below w.heap.size w w3 ∧ Eds w3 w1.heap.size (.slice po mo co) (wth l (findE l p)) ∧ w1.heap.size ≤ w3.heap.size) := ⟨hb3w, hE3, hb3.size⟩
  have f0 : w3.frozen? ⟨b, 0, none⟩ = false := (HR.out w3 hb3w).froz
  have c3 := (HR.out w3 hb3w).cell
  have HO6 : Hid (∀ t, OwnC (w3.alloc (.cells (litE p u) t)) w1.heap.size 35 (.slice po mo co) (wth l (findE l p)).length ((wth l (findE l p)).flatMap encE)) := fun t => hE3.alloc _
  have HKy : Hid (∀ t, (w3.alloc (.cells (litE p u) t)).rangeAt w3.heap.size 0 (encE (newE p u))) := fun t => rangeAt_new w3 _ t
  have HN : Hid ((wth l (findE l p)).length ≤ 2097151) := by have h1 := wth_len l (findE l p); have := HB0.out.2.2.1; have h : (wth l (findE l p)).length ≤ 2097151 := (by omega); exact h
  clear hb3 hE3 hb3w c0
  go_upto_region 10 with (at_builtin; refine wpList_append_ownp _ rfl _ _ 135 rfl 304 i0 zeroEnd 35 72 Tryz.underlying135 hi hz0 hz1 hz2 endZs (by decide) w1.heap.size (.slice po mo co) _ _ rfl (HO6.out _) w3.heap.size 0 1 1 (encE (newE p u)) rfl (by rw [encE_len]) (HKy.out _) (encE_one _) (by have := HN.out; unfold maxLen; omega) (by have := HN.out; omega) (by have := H3.out.2.2; simp; omega) ?_)
  intro v2 w2 hO2 hg2 hf2 hp2
  have hbw2 : Below w.heap.size w w2 := below_grownE H3.out.1 H3.out.1.size ((Below.refl _ _).alloc (Nat.le_refl _) _) ((HO6.out _).mono H1.out.size) hg2
  have hfin := rt_set (l' := putE l p u) hbw2 HB0.out.2.1 (Eds.more hO2) H1.out.size
  have d0 := (HR.out w2 hbw2).cell
  have e0 := (HR.out w2 hbw2).froz
  have HE : Hid (Only b w (w2.setCell ⟨b, 0, none⟩ v2) ∧ RtAt (w2.setCell ⟨b, 0, none⟩ v2) w.heap.size b v2 (putE l p u)) := ⟨hfin.2, hfin.1.heap, OwnC.mono hfin.1.row H1.out.size⟩
  obtain ⟨p2, m2, k2, rfl⟩ := hO2.shape
  clear hO2 hg2 hf2 hp2 hbw2 hfin c3 f0
  go_wp2
  go_ret
  exact ⟨rfl, HE.out.1, _, HE.out.2⟩

set_option maxRecDepth 100000 in
set_option maxHeartbeats 1600000 in
theorem rdelete_any {w : World} {C b : Nat} {v : Value} {l : List Ed} {K : Array Nat} (h : RtAt w C b v l) (hl : l.length ≤ 2097152) (hok : ∀ y ∈ l, EdOK 65 y) (hK : K.size = 32) (hKb : Bytes K) :
    Calls Tryz.prog 131 #[.pointer (some ⟨b, 0, none⟩), .agg (K.toList.map encB).toArray] w fun e w' => e = .returned (.tuple #[.bool (hasE l (textB (nibs K.toList))).isSome, .int .i64 0]) ∧ Only b w w' ∧ ((findE l (textB (nibs K.toList)) = none ∧ Below w.heap.size w w') ∨ ∃ i, findE l (textB (nibs K.toList)) = some i ∧ ∃ v', RtAt w' w.heap.size b v' (l.eraseIdx i)) := by
  obtain ⟨pk, mk, ck, rfl⟩ := h.row.shape
  obtain ⟨p, hp⟩ : ∃ p, textB (nibs K.toList) = p := ⟨_, rfl⟩
  have hps : p.size = 64 := by rw [← hp, textB_size, nibs_length, Array.length_toList, hK]
  rw [hp]
  have hs : ∀ x ∈ l, x.stub = false := fun x hx => (hok x hx).plain
  have zK : (Tryz.prog.info? 26).map (·.size) = some (K.toList.map encB).length := by rw [size51]; simp [hK]
  obtain ⟨W0, hW0⟩ : ∃ W0, w.alloc (.cells (K.toList.map encB).toArray 26) = W0 := ⟨_, rfl⟩
  have hb0 : Below w.heap.size w W0 := by rw [← hW0]; exact (Below.refl _ _).alloc (Nat.le_refl _) _
  have hrow : W0.rangeAt w.heap.size 0 (K.toList.map encB) := fun j u hu => by
    rw [← hW0, Nat.zero_add, World.cell?_alloc_new]
    simpa using hu
  have HPt : Hid (∀ W, Calls Tryz.prog 134 #[.agg (K.toList.map encB).toArray] W fun e w' => e = .returned (.string p) ∧ Below W.heap.size W w') := fun W => by
    have h := rkpath_any K.toList (by simpa using hK) (key_bytes hKb) W
    rw [hp] at h
    exact h
  have HR : Hid (∀ W, Below w.heap.size w W → RtAt W C b (.slice pk mk ck) l) := fun W hW => h.below hW
  have HM : Hid (∀ W, Below w.heap.size w W → Calls Tryz.prog 183 #[.pointer (some ⟨b, 0, none⟩), .string p] W fun e w' => e = .returned (.bool false) ∧ w' = W) := fun W hW => rmeets_any (h.below hW) hl hs
  have HFi : Hid (∀ W, Below w.heap.size w W → Calls Tryz.prog 184 #[.pointer (some ⟨b, 0, none⟩), .string p] W fun e w' => e = .returned (.int .i64 (idxV (findE l p))) ∧ w' = W) := fun W hW => rfind_any (h.below hW) hl hs
  have HB0 : Hid (Below w.heap.size w W0 ∧ w.heap[b]? = some (.cells #[.slice pk mk ck] 137 (0, 0)) ∧ l.length ≤ 2097152 ∧ b < w.heap.size ∧ ∀ y ∈ l, EdOK 65 y) := ⟨hb0, h.heap, hl, h.lt, hok⟩
  have hc := findE_hasE l p
  rcases hc with ⟨h1, h2⟩ | ⟨i, hi, h1, h2, -⟩
  · rw [h1] at HFi ⊢
    rw [h2]
    simp only [idxV] at HFi
    simp only [Option.isSome_none]
    clear h hl hs hok hK hKb hp hb0 h1 h2
    go_enter Tryz.func131, Tryz.ntmps131
    go_wp2_with (refine wpList_load_mid rfl 26 _ rfl w.heap.size 0 rfl (K.toList.map encB) _ hrow Tryz.underlying26 rfl zK ?_)
    refine (HPt.out _).mono ?_
    rintro e w1 ⟨rfl, hb1⟩
    have H1 : Hid (Below w.heap.size w w1) := HB0.out.1.trans (hb1.mono HB0.out.1.size)
    clear hb1 hrow hW0
    go_wp2_with fail
    refine (HM.out w1 H1.out).mono ?_
    rintro e w2 ⟨rfl, hw2⟩
    obtain rfl := hw2.symm
    go_wp2_with fail
    refine (HFi.out w1 H1.out).mono ?_
    rintro e w2 ⟨rfl, hw2⟩
    obtain rfl := hw2.symm
    go_wp2
    go_ret2
    exact ⟨rfl, .of_below H1.out, .inl ⟨trivial, H1.out⟩⟩
  · have HWo : Hid (∀ W, Below w.heap.size w W → Calls Tryz.prog 185 #[.slice pk mk ck, .int .i64 (i : Int)] W fun e w' => Below W.heap.size W w' ∧ ∃ v', e = .returned v' ∧ Eds w' W.heap.size v' (l.eraseIdx i)) := fun W hW => rwithout_any (o := some i) (h.row.below hW) hl
    rw [h1] at HFi ⊢
    rw [h2]
    simp only [idxV] at HFi
    simp only [Option.isSome_some]
    have i2 : ¬ (i : Int) < 0 := by omega
    obtain ⟨m, hm⟩ : ∃ m, l.eraseIdx i = m := ⟨_, rfl⟩
    rw [hm] at HWo
    have HMm : Hid (m.length ≤ 2097152 ∧ (∀ y ∈ m, EdOK 65 y) ∧ l.eraseIdx i = m) := ⟨by rw [← hm]; have := List.length_eraseIdx_le l i; omega, fun y hy => hok y (List.mem_of_mem_eraseIdx (hm ▸ hy)), hm⟩
    clear h hl hs hok hK hKb hp hb0 h1 h2 hm
    go_enter Tryz.func131, Tryz.ntmps131
    go_wp2_with (refine wpList_load_mid rfl 26 _ rfl w.heap.size 0 rfl (K.toList.map encB) _ hrow Tryz.underlying26 rfl zK ?_)
    refine (HPt.out _).mono ?_
    rintro e w1 ⟨rfl, hb1⟩
    have H1 : Hid (Below w.heap.size w w1) := HB0.out.1.trans (hb1.mono HB0.out.1.size)
    clear hb1 hrow hW0
    go_wp2_with fail
    refine (HM.out w1 H1.out).mono ?_
    rintro e w2 ⟨rfl, hw2⟩
    obtain rfl := hw2.symm
    go_wp2_with fail
    refine (HFi.out w1 H1.out).mono ?_
    rintro e w2 ⟨rfl, hw2⟩
    obtain rfl := hw2.symm
    have c0 := (HR.out w1 H1.out).cell
    go_wp2_with fail
    refine (HWo.out w1 H1.out).mono ?_
    rintro e w3 ⟨hb3, v3, rfl, hE3⟩
    obtain ⟨po, mo, co, rfl⟩ := hE3.shape
    have hmo := Eds.len hE3
    have hb3w : Below w.heap.size w w3 := H1.out.trans (hb3.mono H1.out.size)
    have H3 : Hid (Below w.heap.size w w3 ∧ Eds w3 w1.heap.size (.slice po mo co) m) := ⟨hb3w, hE3⟩
    obtain rfl := hmo
    clear hb3 hE3 hb3w c0
    go_wp2
    go_loopg [10, 11] m.length (fun gh at_ k wr => ∃ (k' a' : Nat), k' ≤ m.length ∧ gh = m.length - k' ∧ k = .int .i64 (k' : Int) ∧ at_ = .int .i64 (a' : Int) ∧ a' ≤ 64 ∧ ∃ q, wr = w3.drewN q)
    case atStart => exact ⟨0, 0, Nat.zero_le _, rfl, rfl, rfl, by omega, 0, rfl⟩
    case round =>
      obtain ⟨k, a, hk, rfl, rfl, rfl, ha, q, rfl⟩ := hrel
      by_cases hlt : k < m.length
      · have i1 : (k : Int) < (m.length : Int) := by omega
        obtain ⟨g, cap, hv, -, -, hrg⟩ := Eds.row H3.out.2 hlt
        simp only [Value.slice.injEq] at hv
        obtain ⟨rfl, -, rfl⟩ := hv
        obtain ⟨d0, -, -⟩ := Eds.path hrg
        have hy64 := (HMm.out.2.1 _ (List.getElem_mem hlt)).le
        generalize m[k].path = py at d0 hy64
        have HW1 : Hid (wrap64 ((k : Int) + 1) = ((k + 1 : Nat) : Int)) := by
          have h : wrap64 ((k : Int) + 1) = ((k + 1 : Nat) : Int) := (by unfold wrap64; have := HMm.out.1; omega)
          exact h
        clear hrg
        go_wp2
        go_loopg [12] py.size (fun gh nn wr => ∃ j : Nat, j ≤ py.size ∧ gh = py.size - j ∧ nn = .int .i64 (j : Int) ∧ ∃ q, wr = w3.drewN q)
        case atStart => exact ⟨0, Nat.zero_le _, rfl, rfl, q, rfl⟩
        case round =>
          obtain ⟨j, hj, rfl, rfl, q2, rfl⟩ := hrel
          by_cases c1 : j < py.size
          · have i3 : (j : Int) < (py.size : Int) := by omega
            have hjp : j < p.size := by omega
            have i4 : (j : Int) < (p.size : Int) := by omega
            obtain ⟨a1, ha1⟩ : ∃ a1, (py[j]'c1).toNat = a1 := ⟨_, rfl⟩
            obtain ⟨a2, ha2⟩ : ∃ a2, (p[j]'hjp).toNat = a2 := ⟨_, rfl⟩
            by_cases c3 : a1 = a2
            · subst c3
              go_upto_region 14 with fail
              go_quiet (fail)
              go_wp2
              go_roundg (py.size - (j + 1))
              case measure => omega
              case rel => exact ⟨j + 1, c1, rfl, val_int rfl, _, rfl⟩
            · have hne : ((a1 : Int) == (a2 : Int)) = false := by rw [beq_eq_false_iff_ne]; omega
              by_cases c4 : a < j
              · have i5 : (a : Int) < (j : Int) := by omega
                go_upto_region 14 with fail
                go_quiet (fail)
                go_wp2
                go_roundg (m.length - (k + 1))
                case measure => omega
                case rel => exact ⟨k + 1, j, hlt, rfl, val_int HW1.out, rfl, by omega, _, rfl⟩
              · have i5 : ¬ (a : Int) < (j : Int) := by omega
                go_upto_region 14 with fail
                go_quiet (fail)
                go_wp2
                go_roundg (m.length - (k + 1))
                case measure => omega
                case rel => exact ⟨k + 1, a, hlt, rfl, val_int HW1.out, rfl, ha, _, rfl⟩
          · have i3 : ¬ (j : Int) < (py.size : Int) := by omega
            by_cases c4 : a < j
            · have i5 : (a : Int) < (j : Int) := by omega
              go_upto_region 14 with fail
              go_quiet (fail)
              go_wp2
              go_roundg (m.length - (k + 1))
              case measure => omega
              case rel => exact ⟨k + 1, j, hlt, rfl, val_int HW1.out, rfl, by omega, _, rfl⟩
            · have i5 : ¬ (a : Int) < (j : Int) := by omega
              go_upto_region 14 with fail
              go_quiet (fail)
              go_wp2
              go_roundg (m.length - (k + 1))
              case measure => omega
              case rel => exact ⟨k + 1, a, hlt, rfl, val_int HW1.out, rfl, ha, _, rfl⟩
      · have i1 : ¬ (k : Int) < (m.length : Int) := by omega
        have i3 : (a : Int) ≤ (p.size : Int) := by omega
        obtain ⟨pa, hpa⟩ : ∃ pa, p.extract 0 a = pa := ⟨_, rfl⟩
        have hb3q : Below w3.heap.size w3 (w3.drewN q) := Below.drewN (Below.refl _ _) q
        have HCu := Hid.hide (rcut_any (p := pa) (H3.out.2.below hb3q) HMm.out.1 fun y hy => (HMm.out.2.1 y hy).le)
        have HQ := Hid.hide hb3q
        clear hb3q hk hlt
        go_wp2_with fail
        refine HCu.out.mono ?_
        rintro e w5 ⟨hb5, v5, rfl, hE5⟩
        obtain ⟨p5, m5, c5, rfl⟩ := hE5.shape
        have hbw5 : Below w3.heap.size w3 w5 := HQ.out.trans (hb5.mono HQ.out.size)
        have hbw : Below w.heap.size w w5 := H3.out.1.trans (hbw5.mono H3.out.1.size)
        have hfin := rt_set (l' := m) hbw HB0.out.2.1 (H3.out.2.below hbw5) H1.out.size
        have d0 := (HR.out w5 hbw).cell
        have e0 := (HR.out w5 hbw).froz
        have HE : Hid (Only b w (w5.setCell ⟨b, 0, none⟩ (.slice po m.length co)) ∧ RtAt (w5.setCell ⟨b, 0, none⟩ (.slice po m.length co)) w.heap.size b (.slice po m.length co) m) := ⟨hfin.2, hfin.1.heap, OwnC.mono hfin.1.row H1.out.size⟩
        have HL5 := Hid.hide (Eds.len hE5)
        by_cases h5 : m5 = 1
        · have hlt0 : 0 < (cutE m pa).length := by have := HL5.out; omega
          obtain ⟨g, cap, hv, -, -, hrg⟩ := Eds.row hE5 hlt0
          simp only [Value.slice.injEq] at hv
          obtain ⟨rfl, -, rfl⟩ := hv
          have hst : (cutE m pa)[0].stub = false := by
            have hmem := List.getElem_mem hlt0
            obtain ⟨y, hy, e⟩ := List.mem_map.1 hmem
            rw [← e]
            exact (HMm.out.2.1 y (List.mem_filter.1 hy).1).plain
          obtain ⟨-, -, s2⟩ := Eds.path hrg
          rw [hst] at s2
          rw [Nat.zero_mul, Nat.zero_add] at s2
          subst h5
          clear hb5 hE5 hbw5 hbw hfin hrg hst hlt0
          go_wp2
          go_ret2
          exact ⟨rfl, HE.out.1, .inr ⟨i, rfl, _, by rw [HMm.out.2.2]; exact HE.out.2⟩⟩
        · have h5' : ((m5 : Int) == 1) = false := by rw [beq_eq_false_iff_ne]; omega
          clear hb5 hE5 hbw5 hbw hfin
          go_wp2
          go_ret2
          exact ⟨rfl, HE.out.1, .inr ⟨i, rfl, _, by rw [HMm.out.2.2]; exact HE.out.2⟩⟩
end Go.Proofs.YtjiikjpnlgogfaaGreatDoor
