/-
  Proofs, pure: the item of a node; reading a node's code gives the node, its long kids hidden.
  Proofs, pure: reading a node's code.
  Proofs, pure: what Prove gives is accepted.
-/
import Derived.Test.YtoohdfiddbfacaaGreatDoorTeVeA
import Derived.Test.YtoohdfiddbfacaaGreatDoorTeVeD
namespace Go.Proofs.YtoohdfiddbfacaaGreatDoor
open Go.RowKit
set_option maxRecDepth 100000
set_option maxHeartbeats 25600000
theorem textB_bytesOf' (s : ByteArray) : textB (bytesOf s) = s := bytesOf_inj (by rw [bytesOf_textB (bytesOf_lt s)])
def Nd.selI (t : Nd) (x : It) : It :=
 match t with
 | .no => .text 0 0 []
 | .stub h => .text 0 0 h
 | _ => if t.code.length < 32 then x else .text 0 0 (digB t.code)
def Nd.selN (t : Nd) (x : Nd) : Nd :=
 match t with
 | .no => .no
 | .stub h => .stub h
 | _ => if t.code.length < 32 then x else .stub (digB t.code)
mutual
def Nd.it : Nd -> It
 | .no => .text 0 0 []
 | .leaf p v => .list 0 0 [.text 0 0 (pathCode (bytesOf p) true), .text 0 0 (bytesOf v)]
 | .ext p t => .list 0 0 [.text 0 0 (pathCode (bytesOf p) false), t.selI t.it]
 | .br ks => .list 0 0 (kidIts ks ++ [.text 0 0 []])
 | .stub h => .text 0 0 h
def kidIts : List Nd -> List It
 | [] => []
 | x :: xs => x.selI x.it :: kidIts xs
end
mutual
def Nd.cut : Nd -> Nd
 | .no => .no
 | .leaf p v => .leaf p v
 | .ext p t => .ext p (t.selN t.cut)
 | .br ks => .br (cutKs ks)
 | .stub h => .stub h
def cutKs : List Nd -> List Nd
 | [] => []
 | x :: xs => x.selN x.cut :: cutKs xs
end
def Nd.rit (t : Nd) : It := t.selI t.it
def Nd.rcut (t : Nd) : Nd := t.selN t.cut
theorem kidIts_map : ∀ ks : List Nd, kidIts ks = ks.map Nd.rit
 | [] => rfl
 | x :: xs => by rw [kidIts, kidIts_map xs]; rfl
theorem cutKs_map : ∀ ks : List Nd, cutKs ks = ks.map Nd.rcut
 | [] => rfl
 | x :: xs => by rw [cutKs, cutKs_map xs]; rfl
theorem it_br (ks : List Nd) : (Nd.br ks).it = .list 0 0 (ks.map Nd.rit ++ [.text 0 0 []]) := by rw [Nd.it, kidIts_map]
theorem it_ext (p : ByteArray) (t : Nd) : (Nd.ext p t).it = .list 0 0 [.text 0 0 (pathCode (bytesOf p) false), t.rit] := by rw [Nd.it]; rfl
theorem cut_br (ks : List Nd) : (Nd.br ks).cut = .br (ks.map Nd.rcut) := by rw [Nd.cut, cutKs_map]
theorem cut_ext (p : ByteArray) (t : Nd) : (Nd.ext p t).cut = .ext p t.rcut := by rw [Nd.cut]; rfl
theorem Nd.shown_sel {t : Nd} (h1 : t ≠ .no) (h2 : ∀ g, t ≠ .stub g) : (∀ c, t.sel c = refOf c) /\ (∀ x, t.selI x = if t.code.length < 32 then x else .text 0 0 (digB t.code)) /\ (∀ x, t.selN x = if t.code.length < 32 then x else .stub (digB t.code)) := by
 cases t with
 | no => exact absurd rfl h1
 | stub g => exact absurd rfl (h2 g)
 | _ => exact ⟨fun _ => rfl, fun _ => rfl, fun _ => rfl⟩
theorem codes_app (a b : List It) : codes (a ++ b) = codes a ++ codes b := by
 induction a with
 | nil => rw [codes]; rfl
 | cons x a ih => rw [List.cons_append, codes, codes, ih, List.append_assoc]
mutual
theorem it_code : ∀ t : Nd, t ≠ .no -> (∀ g, t ≠ .stub g) -> t.it.code = t.code
 | .no, h, _ => absurd rfl h
 | .stub g, _, h => absurd rfl (h g)
 | .leaf p v, _, _ => by
  rw [Nd.it, It.code, Nd.code, codes, codes, codes, It.code, It.code, List.append_nil]
 | .ext p t, _, _ => by
  rw [it_ext, It.code, Nd.ref_ext, codes, codes, codes, It.code, List.append_nil, rit_code t]
 | .br ks, _, _ => by
  rw [it_br, It.code, Nd.code, codes_app, rits_code ks, codes, codes, It.code, List.append_nil]
theorem rit_code : ∀ t : Nd, t.rit.code = t.ref
 | .no => by unfold Nd.rit Nd.selI; rw [It.code]; rfl
 | .stub g => by unfold Nd.rit Nd.selI; rw [It.code]; rfl
 | .leaf p v => by
  have := it_code (.leaf p v) (by simp) (by simp)
  unfold Nd.rit Nd.ref
  rw [(Nd.shown_sel (t := .leaf p v) (by simp) (by simp)).1, (Nd.shown_sel (t := .leaf p v) (by simp) (by simp)).2.1, refOf]
  split
  ·exact this
  ·rw [It.code]
 | .ext p t => by
  have := it_code (.ext p t) (by simp) (by simp)
  unfold Nd.rit Nd.ref
  rw [(Nd.shown_sel (t := .ext p t) (by simp) (by simp)).1, (Nd.shown_sel (t := .ext p t) (by simp) (by simp)).2.1, refOf]
  split
  ·exact this
  ·rw [It.code]
 | .br ks => by
  have := it_code (.br ks) (by simp) (by simp)
  unfold Nd.rit Nd.ref
  rw [(Nd.shown_sel (t := .br ks) (by simp) (by simp)).1, (Nd.shown_sel (t := .br ks) (by simp) (by simp)).2.1, refOf]
  split
  ·exact this
  ·rw [It.code]
theorem rits_code : ∀ ks : List Nd, codes (ks.map Nd.rit) = refs ks
 | [] => by rw [List.map_nil, codes, refs]
 | x :: xs => by rw [List.map_cons, codes, refs_cons, rit_code x, rits_code xs]
end
mutual
theorem it_bare : ∀ t : Nd, t.it.bare = t.it
 | .no => by rw [Nd.it, It.bare]
 | .stub g => by rw [Nd.it, It.bare]
 | .leaf p v => by rw [Nd.it, It.bare, bares, bares, bares, It.bare, It.bare]
 | .ext p t => by rw [it_ext, It.bare, bares, bares, bares, It.bare, rit_bare t]
 | .br ks => by
  rw [it_br, It.bare, bares_map, List.map_append, <- bares_map, rits_bare ks]
  simp [It.bare]
theorem rit_bare : ∀ t : Nd, t.rit.bare = t.rit
 | .no => by unfold Nd.rit Nd.selI; rw [It.bare]
 | .stub g => by unfold Nd.rit Nd.selI; rw [It.bare]
 | .leaf p v => by
  have := it_bare (.leaf p v)
  unfold Nd.rit
  rw [(Nd.shown_sel (t := .leaf p v) (by simp) (by simp)).2.1]
  split
  ·exact this
  ·rw [It.bare]
 | .ext p t => by
  have := it_bare (.ext p t)
  unfold Nd.rit
  rw [(Nd.shown_sel (t := .ext p t) (by simp) (by simp)).2.1]
  split
  ·exact this
  ·rw [It.bare]
 | .br ks => by
  have := it_bare (.br ks)
  unfold Nd.rit
  rw [(Nd.shown_sel (t := .br ks) (by simp) (by simp)).2.1]
  split
  ·exact this
  ·rw [It.bare]
theorem rits_bare : ∀ ks : List Nd, bares (ks.map Nd.rit) = ks.map Nd.rit
 | [] => by rw [List.map_nil, bares]
 | x :: xs => by rw [List.map_cons, bares, rit_bare x, rits_bare xs]
end
theorem ref_pos (t : Nd) : 0 < t.ref.length := by
 rw [<- rit_code t]
 exact code_pos _
theorem refs_ge : ∀ ks : List Nd, ks.length <= (refs ks).length
 | [] => by simp
 | x :: xs => by
  rw [refs_cons, List.length_append, List.length_cons]
  have := ref_pos x
  have := refs_ge xs
  omega
theorem refs_one {x : Nd} : ∀ {ks : List Nd}, x ∈ ks -> x.ref.length + ks.length <= (refs ks).length + 1
 | y :: ks, h => by
  rw [refs_cons, List.length_append, List.length_cons]
  rcases List.mem_cons.1 h with rfl | h
  ·have := refs_ge ks
   omega
  ·have := refs_one h
   have := ref_pos y
   omega
theorem br_ge {ks : List Nd} (hl : ks.length = 16) : 18 <= (Nd.br ks).code.length /\ ∀ x ∈ ks, x.ref.length + 17 <= (Nd.br ks).code.length := by
 rw [Nd.code, listCode, List.length_append, List.length_append]
 have a := headB_pos 192 (refs ks ++ textCode []).length
 rw [List.length_append] at a
 have c : 0 < (textCode []).length := (textCode_pos []).1
 refine ⟨by have := refs_ge ks; omega, fun x b => ?_⟩
 have := refs_one b
 omega
theorem ext_ge (p : ByteArray) (t : Nd) : t.ref.length + 2 <= (Nd.ext p t).code.length := by
 rw [Nd.ref_ext, listCode, List.length_append, List.length_append]
 have a := headB_pos 192 (textCode (pathCode (bytesOf p) false) ++ t.ref).length
 rw [List.length_append] at a
 have b := (textCode_pos (pathCode (bytesOf p) false)).1
 omega
theorem ref_short {t : Nd} (h1 : t ≠ .no) (h2 : ∀ g, t ≠ .stub g) (h : t.ref.length < 32) : t.code.length < 32 /\ t.ref = t.code := by
 have e : t.ref = refOf t.code := (Nd.shown_sel h1 h2).1 _
 rw [e] at h ⊢
 unfold refOf at h ⊢
 split
 ·rename_i h3; exact ⟨h3, rfl⟩
 ·rename_i h3
  rw [if_neg h3, textCode32 (digB_length _)] at h
  omega
theorem ref_is_code {t : Nd} (h1 : t ≠ .no) (h2 : ∀ g, t ≠ .stub g) (h : t.code.length < 32) : t.ref = t.code := by
 have e : t.ref = refOf t.code := (Nd.shown_sel h1 h2).1 _
 rw [e, refOf, if_pos h]
theorem fits_mono : ∀ (n : Nat) (x : It), fits n x -> fits (n + 1) x
 | _, .text _ _ _, _ => by cases ‹Nat› <;> exact trivial
 | 0, .list _ _ _, h => h.elim
 | n + 1, .list _ _ l, h => fun x hx => fits_mono n x (h x hx)
theorem fits_text (n a b : Nat) (s : List Nat) : fits n (.text a b s) := by cases n <;> exact trivial
theorem fits_leaf (p v : ByteArray) : fits 1 (Nd.leaf p v).it := by
 rw [Nd.it]
 intro x a
 rcases List.mem_cons.1 a with rfl | a
 ·exact trivial
 ·rcases List.mem_cons.1 a with rfl | a
  ·exact trivial
  ·cases a
theorem rit_cases (t : Nd) (h1 : t ≠ .no) (h2 : ∀ g, t ≠ .stub g) : (t.code.length < 32 /\ t.rit = t.it /\ t.rcut = t.cut) \/ (¬ t.code.length < 32 /\ t.rit = .text 0 0 (digB t.code) /\ t.rcut = .stub (digB t.code)) := by
 obtain ⟨_, a, b⟩ := Nd.shown_sel h1 h2
 by_cases h : t.code.length < 32
 ·exact .inl ⟨h, by rw [Nd.rit, a, if_pos h], by rw [Nd.rcut, b, if_pos h]⟩
 ·exact .inr ⟨h, by rw [Nd.rit, a, if_neg h], by rw [Nd.rcut, b, if_neg h]⟩
theorem fits_br_short {ks : List Nd} {n : Nat} (hc : (Nd.br ks).can n) (h : (Nd.br ks).code.length < 32) : fits 2 (Nd.br ks).it := by
 obtain ⟨_, q, o, _⟩ := can_br.1 hc
 rw [it_br]
 intro x c
 rcases List.mem_append.1 c with c | c
 ·obtain ⟨t, i, rfl⟩ := List.mem_map.1 c
  have a := canAll_mem o i
  have d := (br_ge q).2 t i
  by_cases b : t = .no
  ·subst b; exact fits_text ..
  ·rcases rit_cases t b (can_stub a) with ⟨a1, a2, _⟩ | ⟨a1, a2, _⟩
   ·rw [a2]
    have f := ref_is_code b (can_stub a) a1
    cases t with
    | no => exact absurd rfl b
    | stub g => exact absurd rfl (can_stub a g)
    | leaf p v => exact fits_leaf p v
    | br ks' =>
     have := (br_ge (can_br.1 a).2.1).1
     rw [f] at d
     omega
    | ext p t' =>
     have l := ext_ge p t'
     obtain ⟨_, _, _, j, k⟩ := can_ext.1 a
     cases t' with
     | br ks' =>
      have r := (br_ge (can_br.1 j).2.1).1
      rw [f] at d
      by_cases e : (Nd.br ks').code.length < 32
      ·rw [ref_is_code (by simp) (by simp) e] at l
       omega
      ·have : ¬ (Nd.br ks').ref.length < 32 := fun m => e (ref_short (by simp) (by simp) m).1
       omega
     | _ => simp [Nd.isBr] at k
   ·rw [a2]; exact fits_text ..
 ·obtain rfl : x = .text 0 0 [] := by simpa using c
  exact fits_text ..
theorem fits_ext {p : ByteArray} {t : Nd} {n : Nat} (hc : (Nd.ext p t).can n) : fits 3 (Nd.ext p t).it := by
 obtain ⟨_, _, _, b, c⟩ := can_ext.1 hc
 rw [it_ext]
 intro x a
 rcases List.mem_cons.1 a with rfl | a
 ·exact fits_text ..
 ·obtain rfl : x = t.rit := by simpa using a
  cases t with
  | br ks =>
   rcases rit_cases (.br ks) (by simp) (by simp) with ⟨a1, a2, _⟩ | ⟨a1, a2, _⟩
   ·rw [a2]; exact fits_br_short b a1
   ·rw [a2]; exact fits_text ..
  | _ => simp [Nd.isBr] at c
theorem fits_it {t : Nd} {n : Nat} (hc : t.can n) : fits 4 t.it := by
 cases t with
 | no => rw [Nd.it]; exact fits_text ..
 | stub g => rw [Nd.it]; exact fits_text ..
 | leaf p v => exact fits_mono 3 _ (fits_mono 2 _ (fits_mono 1 _ (fits_leaf p v)))
 | ext p t => exact fits_mono 3 _ (fits_ext hc)
 | br ks =>
  obtain ⟨_, f, d, _⟩ := can_br.1 hc
  rw [it_br]
  intro x c
  rcases List.mem_append.1 c with c | c
  ·obtain ⟨t, e, rfl⟩ := List.mem_map.1 c
   have a := canAll_mem d e
   by_cases b : t = .no
   ·subst b; exact fits_text ..
   ·rcases rit_cases t b (can_stub a) with ⟨a1, a2, _⟩ | ⟨a1, a2, _⟩
    ·rw [a2]
     cases t with
     | no => exact absurd rfl b
     | stub g => exact absurd rfl (can_stub a g)
     | leaf p v => exact fits_mono 2 _ (fits_mono 1 _ (fits_leaf p v))
     | br ks' => exact fits_mono 2 _ (fits_br_short a a1)
     | ext p t' => exact fits_ext a
    ·rw [a2]; exact fits_text ..
  ·obtain rfl : x = .text 0 0 [] := by simpa using c
   exact fits_text ..
theorem refs_33 : ∀ ks : List Nd, oks ks -> (refs ks).length <= 33 * ks.length
 | [], _ => by simp [refs]
 | x :: xs, h => by
  rw [oks] at h
  rw [refs_cons, List.length_append, List.length_cons]
  have := x.ref_le h.1
  have := refs_33 xs h.2
  omega
theorem code_700 {t : Nd} {n : Nat} (hc : t.can n) (hn : n <= 64) : t.code.length <= 700 := by
 obtain ⟨a, _⟩ := t.can_ok n hc hn
 cases t with
 | no => rw [Nd.code]; simp
 | stub g => rw [Nd.code]; simp
 | leaf p v =>
  obtain ⟨e, _, _, h⟩ := can_leaf.1 hc
  rw [Nd.code]
  have b := listCode_length (textCode (pathCode (bytesOf p) true) ++ textCode (bytesOf v))
  have c := textCode_length (pathCode (bytesOf p) true)
  have d := textCode_length (bytesOf v)
  rw [List.length_append] at b
  rw [pathCode_length, bytesOf_length] at c
  rw [bytesOf_length] at d
  omega
 | ext p t =>
  obtain ⟨_, e, _, f, _⟩ := can_ext.1 hc
  rw [Nd.ref_ext]
  have b := listCode_length (textCode (pathCode (bytesOf p) false) ++ t.ref)
  have c := textCode_length (pathCode (bytesOf p) false)
  rw [Nd.ok] at a
  have d := t.ref_le a.2.1
  rw [List.length_append] at b
  rw [pathCode_length, bytesOf_length] at c
  omega
 | br ks =>
  rw [Nd.ok] at a
  rw [Nd.code]
  have b := listCode_length (refs ks ++ textCode [])
  have c := textCode_length []
  have d := refs_33 ks a.2
  rw [List.length_append] at b
  rw [a.1] at d
  simp at c
  omega
theorem bare_text {y : It} {s : List Nat} (h : y.bare = .text 0 0 s) : ∃ a b, y = .text a b s := by
 cases y with
 | text a b t => rw [It.bare] at h; cases h; exact ⟨a, b, rfl⟩
 | list a b l => rw [It.bare] at h; cases h
theorem bare_list {y : It} {l : List It} (h : y.bare = .list 0 0 l) : ∃ a b m, y = .list a b m /\ bares m = l := by
 cases y with
 | text a b t => rw [It.bare] at h; cases h
 | list a b m => rw [It.bare] at h; cases h; exact ⟨a, b, m, rfl, rfl⟩
theorem good_len {N a b : Nat} {m : List It} (h : (It.list a b m).good N) : b - a = (It.list a b m).bare.code.length := by
 rw [It.good] at h
 rw [bare_code, It.code]
 exact h.2.2.1.symm
theorem isRef_kid {t : Nd} {n : Nat} (hc : t.can n) (hno : t ≠ .no) {y : It} {N : Nat} (hg : y.good N) (hb : y.bare = t.rit) : y.isRef = true /\ y.emp = false := by
 rcases rit_cases t hno (can_stub hc) with ⟨a1, a2, _⟩ | ⟨a1, a2, _⟩
 ·have c := it_code t hno (can_stub hc)
  have d : ∃ l, t.it = .list 0 0 l := by
   cases t with
   | no => exact absurd rfl hno
   | stub g => exact absurd rfl (can_stub hc g)
   | leaf p v => exact ⟨_, by rw [Nd.it]⟩
   | ext p t => exact ⟨_, it_ext p t⟩
   | br ks => exact ⟨_, it_br ks⟩
  obtain ⟨l, d⟩ := d
  rw [a2, d] at hb
  obtain ⟨a, b, m, rfl, e⟩ := bare_list hb
  have := good_len hg
  rw [hb, <- d, c] at this
  exact ⟨by simp [It.isRef]; omega, rfl⟩
 ·rw [a2] at hb
  obtain ⟨a, b, rfl⟩ := bare_text hb
  have := digB_length t.code
  exact ⟨by simp [It.isRef, this], by simp [It.emp, this]⟩
theorem emp_no {y : It} (hb : y.bare = Nd.no.rit) : y.emp = true /\ y.isRef = false := by
 obtain ⟨a, b, rfl⟩ := bare_text (s := []) hb
 exact ⟨by simp [It.emp], by simp [It.isRef]⟩
def KidOK (n : Nat) : Prop := ∀ (t : Nd) (dep : Nat) (y : It) (N : Nat), t.can (64 - dep) -> dep <= 64 -> t ≠ .no -> y.good N -> y.bare = t.it -> fits n t.it -> rdF n y dep = .ok t.cut
theorem rdRef_kid {n : Nat} (ih : KidOK n) {t : Nd} {dep : Nat} {y : It} {N : Nat} (hc : t.can (64 - dep)) (hd : dep <= 64) (hno : t ≠ .no) (hg : y.good N) (hb : y.bare = t.rit) (hf : fits n t.rit) : rdRef (rdF n) y dep = .ok t.rcut := by
 rcases rit_cases t hno (can_stub hc) with ⟨a1, a2, a3⟩ | ⟨a1, a2, a3⟩
 ·rw [a2] at hb hf
  rw [a3]
  have h := ih t dep y N hc hd hno hg hb hf
  cases y with
  | text a b s =>
   cases n with
   | zero => rw [rdF] at h; cases h
   | succ n => rw [rdF] at h; cases h
  | list a b l => exact h
 ·rw [a2] at hb
  obtain ⟨a, b, rfl⟩ := bare_text hb
  rw [a3]
  rfl
theorem rdKids_kids {n : Nat} (ih : KidOK n) {dep : Nat} (hd : dep <= 64) {N : Nat} : ∀ (ks : List Nd) (ys : List It), canAll ks (64 - dep) -> goods N ys -> bares ys = ks.map Nd.rit -> (∀ x ∈ ks, fits n x.rit) -> rdKids (rdF n) dep ys = .ok (ks.map Nd.rcut)
 | [], ys, _, _, hb, _ => by
  cases ys with
  | nil => rw [rdKids]; rfl
  | cons y ys => rw [bares] at hb; cases hb
 | x :: ks, ys, hc, hg, hb, hf => by
  cases ys with
  | nil => rw [bares] at hb; cases hb
  | cons y ys =>
   rw [bares, List.map_cons] at hb
   rw [goods] at hg
   rw [canAll] at hc
   obtain ⟨hb1, hb2⟩ := List.cons.inj hb
   have h2 := rdKids_kids ih hd ks ys hc.2 hg.2 hb2 (fun z hz => hf z (List.mem_cons_of_mem _ hz))
   by_cases hno : x = .no
   ·subst hno
    rw [rdKids, if_pos (emp_no hb1).1, h2]
    rfl
   ·rw [rdKids, if_neg (by rw [(isRef_kid hc.1 hno hg.1 hb1).2]; simp), rdRef_kid ih hc.1 hd hno hg.1 hb1 (hf x (List.mem_cons_self ..))]
    simp only
    rw [h2]
    rfl
theorem cnt_filter {N : Nat} {m : Nat} : ∀ (ks : List Nd) (ys : List It), canAll ks m -> goods N ys -> bares ys = ks.map Nd.rit -> (ys.filter It.isRef).length = (ks.map one).sum /\ ys.all (fun x => x.isRef || x.emp) = true
 | [], ys, _, _, hb => by
  cases ys with
  | nil => exact ⟨rfl, rfl⟩
  | cons y ys => rw [bares] at hb; cases hb
 | x :: ks, ys, hc, hg, hb => by
  cases ys with
  | nil => rw [bares] at hb; cases hb
  | cons y ys =>
   rw [bares, List.map_cons] at hb
   rw [goods] at hg
   rw [canAll] at hc
   obtain ⟨hb1, hb2⟩ := List.cons.inj hb
   obtain ⟨h2, h3⟩ := cnt_filter ks ys hc.2 hg.2 hb2
   by_cases hno : x = .no
   ·subst hno
    obtain ⟨e1, e2⟩ := emp_no hb1
    refine ⟨?_, by rw [List.all_cons, e1, e2, h3]; rfl⟩
    rw [List.filter_cons, e2, List.map_cons, List.sum_cons, one_no]
    simpa using h2
   ·obtain ⟨e1, e2⟩ := isRef_kid hc.1 hno hg.1 hb1
    refine ⟨?_, by rw [List.all_cons, e1, h3]; rfl⟩
    rw [List.filter_cons, e1, if_pos rfl, List.length_cons, List.map_cons, List.sum_cons, one_some hno, h2]
    omega
theorem cntN_sum (ks : List Nd) : ∀ k, k <= ks.length -> cntN ks k = ((ks.take k).map one).sum
 | 0, _ => rfl
 | k + 1, h => by
  rw [cntN_succ, cntN_sum ks k (by omega), List.take_add_one, List.getElem?_eq_getElem (by omega), List.getD_eq_getElem?_getD, List.getElem?_eq_getElem (by omega)]
  simp only [Option.toList_some, List.map_append, List.sum_append, List.map_cons, List.map_nil, List.sum_cons, List.sum_nil, Nat.add_zero, Option.getD_some]
theorem kid_all : ∀ n, KidOK n
 | 0 => fun t dep y N hc hd hno hg hb hf => by
  exfalso
  cases t with
  | no => exact hno rfl
  | stub g => exact can_stub hc g rfl
  | leaf p v => rw [Nd.it] at hf; exact hf
  | ext p t => rw [it_ext] at hf; exact hf
  | br ks => rw [it_br] at hf; exact hf
 | n + 1 => fun t dep y N hc hd hno hg hb hf => by
  have ih := kid_all n
  cases t with
  | no => exact absurd rfl hno
  | stub g => exact absurd rfl (can_stub hc g)
  | leaf p v =>
   obtain ⟨h1, h2, h3, h4⟩ := can_leaf.1 hc
   rw [Nd.it] at hb
   obtain ⟨a, b, m, rfl, hm⟩ := bare_list hb
   have hml : m.length = 2 := by
    have := congrArg List.length hm
    rw [bares_map, List.length_map] at this
    exact this
   obtain ⟨u, I, rfl⟩ := two_items hml
   rw [bares, bares, bares] at hm
   obtain ⟨s, w⟩ := List.cons.inj hm
   obtain ⟨c, _⟩ := List.cons.inj w
   obtain ⟨J, K, rfl⟩ := bare_text s
   obtain ⟨L, M, rfl⟩ := bare_text c
   rw [rdF, rdL_two, rdPath]
   simp only [unpackF_full h2, if_true]
   have q : (It.text L M (bytesOf v)).val? = true := by
    simp only [It.val?, bytesOf_length]
    rw [decide_eq_true h3, decide_eq_true h4]
    rfl
   rw [if_neg (by
    rw [q, bytesOf_length]
    rintro (h | h)
    ·omega
    ·cases h), Nd.cut, It.bytes, textB_bytesOf', textB_bytesOf']
  | ext p t =>
   obtain ⟨h1, h2, h3, h4, B⟩ := can_ext.1 hc
   rw [it_ext] at hb hf
   obtain ⟨a, b, m, rfl, hm⟩ := bare_list hb
   rw [It.good] at hg
   have hml : m.length = 2 := by
    have := congrArg List.length hm
    rw [bares_map, List.length_map] at this
    exact this
   obtain ⟨u, I, rfl⟩ := two_items hml
   rw [bares, bares, bares] at hm
   obtain ⟨s, w⟩ := List.cons.inj hm
   obtain ⟨c, _⟩ := List.cons.inj w
   obtain ⟨J, K, rfl⟩ := bare_text s
   have i := hg.2.2.2
   rw [goods, goods] at i
   have F : dep + (bytesOf p).length <= 64 := by rw [bytesOf_length]; omega
   have E : t.can (64 - (dep + (bytesOf p).length)) := by rw [bytesOf_length, show 64 - (dep + p.size) = 64 - dep - p.size by omega]; exact h4
   have l := rdRef_kid ih E F (isBr_ne B) i.2.1 c (hf _ (by simp))
   have o : I.tail17 = true := by
    cases t with
    | br ks =>
     rcases rit_cases (.br ks) (by simp) (by simp) with ⟨x1, x2, _⟩ | ⟨x1, x2, _⟩
     ·rw [x2, it_br] at c
      obtain ⟨O, P, S, rfl, H⟩ := bare_list c
      have R := good_len i.2.1
      rw [c, <- it_br, it_code _ (by simp) (by simp)] at R
      have d : S.length = 17 := by
       have := congrArg List.length H
       rw [bares_map, List.length_map, List.length_append, List.length_map, (can_br.1 h4).2.1] at this
       exact this
      simp [It.tail17, d]
      omega
     ·rw [x2] at c
      obtain ⟨O, P, rfl⟩ := bare_text c
      simp [It.tail17, digB_length]
    | _ => simp [Nd.isBr] at B
   rw [rdF, rdL_two, rdPath]
   simp only [unpackF_full h3, Bool.false_eq_true, if_false]
   rw [rdExt, if_neg (by
    rw [o, bytesOf_length]
    rintro (h | h | h)
    ·omega
    ·omega
    ·cases h), l, cut_ext]
   simp only
   rw [textB_bytesOf']
  | br ks =>
   obtain ⟨h1, h2, h3, h4⟩ := can_br.1 hc
   rw [it_br] at hb hf
   obtain ⟨a, b, m, rfl, hm⟩ := bare_list hb
   rw [It.good] at hg
   have d : m.length = 17 := by
    have := congrArg List.length hm
    rw [bares_map, List.length_map, List.length_append, List.length_map, h2] at this
    exact this
   have f : bares (m.take 16) = ks.map Nd.rit := by
    rw [bares_map] at hm ⊢
    rw [List.map_take, hm, List.take_left' (by rw [List.length_map, h2])]
   have e : bares (m.drop 16) = [.text 0 0 []] := by
    rw [bares_map] at hm ⊢
    rw [List.map_drop, hm, List.drop_left' (by rw [List.length_map, h2])]
   have j : goods N (m.take 16) := goods_iff.2 fun x r => goods_iff.1 hg.2.2.2 x (List.mem_of_mem_take r)
   have k : (m.drop 16).all It.emp = true := by
    cases hmd : m.drop 16 with
    | nil => rfl
    | cons y ys =>
     rw [hmd, bares] at e
     obtain ⟨Q, A⟩ := List.cons.inj e
     cases ys with
     | nil => simp [(emp_no (y := y) Q).1]
     | cons z zs => rw [bares] at A; cases A
   obtain ⟨C, D⟩ := cnt_filter ks (m.take 16) h3 j f
   have G : forks m = true := by
    unfold forks
    rw [D, k, C]
    have := cntN_sum ks 16 (by omega)
    rw [List.take_of_length_le (by omega)] at this
    rw [<- this]
    simp [h4]
   have l := rdKids_kids ih (dep := dep + 1) (by omega) ks (m.take 16) (by rw [show 64 - (dep + 1) = 64 - dep - 1 by omega]; exact h3) j f (fun x r => hf _ (List.mem_append_left _ (List.mem_map_of_mem r)))
   rw [rdF, rdL_more (by omega), if_pos d, rdBr, if_neg (by rw [G]; simp; omega), l, cut_br]
theorem shF_can {t : Nd} {dep : Nat} (hc : t.can (64 - dep)) (hd : dep <= 64) (hno : t ≠ .no) : shF t.code (digB t.code) dep = .ok t.cut := by
 have f := code_700 hc (by omega)
 have a := it_code t hno (can_stub hc)
 have c := fits_it hc
 obtain ⟨y, b, e⟩ := decF_full (x := t.it) (fits_mono 5 _ (fits_mono 4 _ c)) (by rw [a]; omega)
 rw [a] at b
 unfold shF
 rw [if_neg (by omega), if_neg (by simp), b]
 simp only
 obtain ⟨d, _⟩ := t.can_ok _ hc (by omega)
 exact kid_all 6 t dep y 2048 hc hd hno (decF_good (t.code_byte d) b) (by rw [e, it_bare]) (fits_mono 5 _ (fits_mono 4 _ c))
theorem cut_ne {t : Nd} (h : t ≠ .no) : t.cut ≠ .no := by
 cases t with
 | no => exact absurd rfl h
 | leaf p v => rw [Nd.cut]; simp
 | ext p t => rw [cut_ext]; simp
 | br ks => rw [cut_br]; simp
 | stub g => rw [Nd.cut]; simp
theorem rcut_ne {t : Nd} (h : t ≠ .no) : t.rcut ≠ .no := by
 by_cases a : ∃ g, t = .stub g
 ·obtain ⟨g, rfl⟩ := a
  unfold Nd.rcut Nd.selN
  simp
 ·rcases rit_cases t h (fun g e => a ⟨g, e⟩) with ⟨_, _, e⟩ | ⟨_, _, e⟩
  ·rw [e]; exact cut_ne h
  ·rw [e]; simp
theorem cut_next (t : Nd) (r : ByteArray) : t.cut.next r = ((t.next r).1.rcut, (t.next r).2) := by
 cases t with
 | no => rw [Nd.cut]; rfl
 | leaf p v => rw [Nd.cut]; rfl
 | stub g => rw [Nd.cut]; rfl
 | ext p t =>
  rw [cut_ext]
  simp only [Nd.next]
  split <;> rfl
 | br ks =>
  rw [cut_br]
  simp only [Nd.next]
  rw [List.getD_eq_getElem?_getD, List.getElem?_map, List.getD_eq_getElem?_getD]
  cases ks[(bytesOf r)[0]!]? <;> rfl
theorem ways_eq {t : Nd} {r : ByteArray} {n m : Nat} (hc : t.can r.size) (hr : r.size <= 64) (hn : r.size <= n) (hm : r.size <= m) : t.ways n r = t.ways m r := by
 obtain ⟨l, e, c, b, _⟩ := way_ex r.size t r (Nat.le_refl _) hc
 obtain ⟨_, a⟩ := t.can_ok r.size hc hr
 rw [<- b.ways n a hn, b.ways m a hm]
theorem ways_cons {t : Nd} (h : t ≠ .no) (n : Nat) (r : ByteArray) : ∃ ts, t.ways n r = t :: ts := by
 have a : t.shownL = [t] := by unfold Nd.shownL; rw [isNo_false h]; rfl
 cases n with
 | zero => exact ⟨[], a⟩
 | succ n =>
  rw [Nd.ways]
  split
  ·exact ⟨[], a⟩
  ·exact ⟨_, rfl⟩
def longs (ts : List Nd) : List (List Nat) := (ts.map Nd.code).filter (fun c => decide (32 <= c.length))
theorem provL_cons (t : Nd) (ts : List Nd) : provL (t :: ts) = t.code :: longs ts := rfl
theorem get_end {t : Nd} {r : ByteArray} (hc : t.can r.size) (hn : (t.next r).1 = .no) : valAt t.cut r = t.get (bytesOf r) := by
 rcases end_get hc hn with h | ⟨v, rfl, h⟩
 ·rw [h]
  cases t with
  | leaf p v =>
   rw [Nd.cut]
   unfold valAt
   simp only
   by_cases e : p = r
   ·subst e
    rw [get_leaf, if_pos rfl] at h
    cases h
   ·rw [if_neg e]
  | no => rw [Nd.cut]; rfl
  | stub g => rw [Nd.cut]; rfl
  | ext p t => rw [cut_ext]; rfl
  | br ks => rw [cut_br]; rfl
 ·rw [h, Nd.cut]
  unfold valAt
  simp
theorem walk_cut : ∀ (n : Nat) (t : Nd) (r : ByteArray), t.can r.size -> t ≠ .no -> r.size <= n -> r.size <= 64 -> nib (bytesOf r) ->
  (∃ (e : Nd) (r' : ByteArray), t.cut.walk n r = (e, r') /\ (∀ g, e ≠ .stub g) /\ longs (t.ways n r).tail = [] /\ valAt e r' = t.get (bytesOf r)) \/
  ∃ (u : Nd) (r' : ByteArray), t.cut.walk n r = (.stub (digB u.code), r') /\ longs (t.ways n r).tail = u.prove r' /\ u.can r'.size /\ u ≠ .no /\ r'.size < r.size /\ nib (bytesOf r') /\ t.get (bytesOf r) = u.get (bytesOf r')
 | n, t, r, hc, hno, hn, h64, hnb => by
  by_cases hx : (t.next r).1 = .no
  ·left
   have hcx : (t.cut.next r).1 = .no := by rw [cut_next, hx]; rfl
   refine ⟨t.cut, r, walk_stop hcx, ?_, ?_, get_end hc hx⟩
   ·cases t with
    | stub g => exact absurd rfl (can_stub hc g)
    | no => exact absurd rfl hno
    | leaf p v => rw [Nd.cut]; simp
    | ext p t => rw [cut_ext]; simp
    | br ks => rw [cut_br]; simp
   ·have hs : t.shownL = [t] := by unfold Nd.shownL; rw [isNo_false hno]; rfl
    cases n with
    | zero => rw [Nd.ways, hs]; rfl
    | succ n => rw [Nd.ways, if_pos (Nd.isNo_iff.2 hx), hs]; rfl
  ·obtain ⟨hin, k1, k2, k3, _, k5⟩ := next_can hc hx
   cases n with
   | zero => omega
   | succ n =>
    have hcx : (t.cut.next r).1 ≠ .no := by rw [cut_next]; exact rcut_ne hx
    have hsz : (r.extract (t.next r).2 r.size).size = r.size - (t.next r).2 := extract_size _ _
    have hcu : (t.next r).1.can (r.extract (t.next r).2 r.size).size := by rw [hsz]; exact k3
    have hget : t.get (bytesOf r) = (t.next r).1.get (bytesOf (r.extract (t.next r).2 r.size)) := by
     rw [bytesOf_tail]
     exact k5 _ rfl
    have d : t.ways (n + 1) r = t :: (t.next r).1.ways n (r.extract (t.next r).2 r.size) := by rw [Nd.ways, if_neg (by rw [isNo_false hx]; simp)]
    have a := nib_tail hnb (t.next r).2
    rw [walk_go hcx, cut_next, d, hget, List.tail_cons]
    generalize r.extract (t.next r).2 r.size = r1 at *
    generalize (t.next r).1 = u at *
    simp only
    obtain ⟨f, b⟩ := ways_cons hx n r1
    rcases rit_cases u hx (can_stub hcu) with ⟨a1, _, a3⟩ | ⟨a1, _, a3⟩
    ·have c : longs (u.ways n r1) = longs (u.ways n r1).tail := by
      rw [b]
      unfold longs
      rw [List.map_cons, List.filter_cons, if_neg (by simp; omega), List.tail_cons]
     rw [a3, c]
     rcases walk_cut n u r1 hcu hx (by omega) (by omega) a with ⟨e, r', q1, q2, q3, q4⟩ | ⟨v, r', q1, q2, q3, q4, q5, q6, q7⟩
     ·exact .inl ⟨e, r', q1, q2, q3, q4⟩
     ·exact .inr ⟨v, r', q1, q2, q3, q4, by omega, q6, q7⟩
    ·right
     refine ⟨u, r1, ?_, ?_, hcu, hx, by omega, a, rfl⟩
     ·rw [a3]; exact walk_stop rfl
     ·rw [Nd.prove, ways_eq hcu (by omega) (show r1.size <= 64 by omega) (show r1.size <= n by omega), b, provL_cons]
      unfold longs
      rw [List.map_cons, List.filter_cons, if_pos (by simp; omega)]
theorem verL_prove : ∀ (m : Nat) (t : Nd) (r : ByteArray) (k : Nat) (X : List (List Nat)), r.size <= m -> t.can r.size -> t ≠ .no -> r.size <= 64 -> nib (bytesOf r) ->
  verL (t.prove r ++ X) (digB t.code) r k = (if X = [] then .ok (t.get (bytesOf r)) else .error (.inNode (k + (t.prove r).length) (.base 4))) /\ ∀ j, j < (t.prove r).length -> verL ((t.prove r).take j) (digB t.code) r k = .error (.inNode (k + j) (.base 2))
 | m, t, r, k, X, hm, hc, hno, h64, hnb => by
  obtain ⟨ts, hts⟩ := ways_cons hno 64 r
  have hp : t.prove r = t.code :: longs ts := by rw [Nd.prove, hts, provL_cons]
  have hs := shF_can (t := t) (dep := 64 - r.size) (by rw [show 64 - (64 - r.size) = r.size by omega]; exact hc) (by omega) hno
  have hst : ∀ L, verL (t.code :: L) (digB t.code) r k = verT L (t.cut.walk 64 r).1 (t.cut.walk 64 r).2 (k + 1) := fun L => verL_cons _ L _ r k hs
  have h0 : verL ((t.prove r).take 0) (digB t.code) r k = .error (.inNode (k + 0) (.base 2)) := by rw [List.take_zero, verL]; rfl
  have hw := walk_cut 64 t r hc hno h64 h64 hnb
  rw [hts, List.tail_cons] at hw
  rcases hw with ⟨e, r', q1, q2, q3, q4⟩ | ⟨u, r', q1, q2, q3, q4, q5, q6, q7⟩
  ·rw [hp, q3]
   refine ⟨?_, fun j hj => ?_⟩
   ·rw [List.cons_append, hst, q1, verT_end q2]
    simp only [List.nil_append, List.length_cons, List.length_nil]
    split
    ·rw [q4]
    ·rfl
   ·have : j = 0 := by simp at hj; omega
    subst this
    rw [hp, q3] at h0
    exact h0
  ·cases m with
   | zero => omega
   | succ m =>
    have ih := verL_prove m u r' (k + 1) X (by omega) q3 q4 (by omega) q6
    rw [hp, q2]
    refine ⟨?_, fun j hj => ?_⟩
    ·rw [List.cons_append, hst, q1]
     show verL _ _ _ _ = _
     rw [ih.1, q7]
     simp only [List.length_cons]
     split
     ·rfl
     ·rw [show k + 1 + (u.prove r').length = k + ((u.prove r').length + 1) by omega]
    ·cases j with
     | zero => rw [hp, q2] at h0; exact h0
     | succ j =>
      rw [List.take_succ_cons, hst, q1]
      show verL _ _ _ _ = _
      rw [ih.2 j (by simpa using hj), show k + 1 + j = k + (j + 1) by omega]
theorem prove_no (p : ByteArray) : Nd.no.prove p = [] := by
 unfold Nd.prove
 rw [Nd.ways, if_pos (show (Nd.no.next p).1.isNo = true from rfl)]
 rfl
theorem prove_some {t : Nd} (h : t ≠ .no) (p : ByteArray) : ∃ L, t.prove p = t.code :: L := by
 obtain ⟨b, a⟩ := ways_cons h 64 p
 exact ⟨_, by rw [Nd.prove, a, provL_cons]⟩
theorem dig_can {t : Nd} {n : Nat} (hc : t.can n) (h : t ≠ .no) : t.dig = digB t.code := Nd.dig_eq ((Nd.shown_sel h (can_stub hc)).1 _)
theorem ver_honest {t : Nd} {p : ByteArray} (hc : t.can 64) (hp : p.size = 64) (hnb : nib (bytesOf p)) : verF t.dig p (t.prove p) = .ok (t.get (bytesOf p)) := by
 by_cases a : t = .no
 ·subst a
  rw [prove_no, verF, if_pos ⟨rfl, Nd.dig_no⟩, get_no]
 ·obtain ⟨L, b⟩ := prove_some a p
  have h := (verL_prove 64 t p 0 [] (by omega) (by rw [hp]; exact hc) a (by omega) hnb).1
  rw [List.append_nil, if_pos rfl] at h
  rw [verF, if_neg (by rw [b]; simp), dig_can hc a, h]
end Go.Proofs.YtoohdfiddbfacaaGreatDoor
