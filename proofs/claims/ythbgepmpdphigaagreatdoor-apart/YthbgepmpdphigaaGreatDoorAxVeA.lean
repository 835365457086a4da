/-
  Proofs, pure: the node that an item is the code of (rdF); the way through the nodes of a proof (verF).
  Reading nodes: the small functions of package tree (isEmpty, isReference, isValue, noNode, hide).
-/
import Derived.Test.YthbgepmpdphigaaGreatDoorAxPuG
import Derived.Test.YthbgepmpdphigaaGreatDoorAxAuG
import Derived.Test.YthbgepmpdphigaaGreatDoorAxFull
import Derived.Test.YthbgepmpdphigaaGreatDoorAxNodB
namespace Go.Proofs.YthbgepmpdphigaaGreatDoor
open Go.RowKit
set_option maxRecDepth 100000
set_option maxHeartbeats 25600000
def It.isL : It -> Bool
 | .text _ _ _ => false
 | .list _ _ _ => true
def It.emp : It -> Bool
 | .text _ _ t => decide (t.length = 0)
 | .list _ _ _ => false
def It.isRef : It -> Bool
 | .text _ _ t => decide (t.length = 32)
 | .list fr en _ => decide (en - fr < 32)
def noN (fr : Nat) : Er := .place fr (.base 8)
def rdRef (rd : It -> Nat -> Except Er Nd) (x : It) (dep : Nat) : Except Er Nd :=
 match x with
 | .text _ _ t => .ok (.stub t)
 | .list a b l => rd (.list a b l) dep
def rdKids (rd : It -> Nat -> Except Er Nd) (dep : Nat) : List It -> Except Er (List Nd)
 | [] => .ok []
 | x :: xs =>
  if x.emp = true then
   match rdKids rd dep xs with
   | .error e => .error e
   | .ok ns => .ok (.no :: ns)
  else
   match rdRef rd x dep with
   | .error e => .error e
   | .ok n =>
    match rdKids rd dep xs with
    | .error e => .error e
    | .ok ns => .ok (n :: ns)
def forks (l : List It) : Bool := (l.take 16).all (fun x => x.isRef || x.emp) && (decide (2 <= ((l.take 16).filter It.isRef).length) && (l.drop 16).all It.emp)
def rdBr (rd : It -> Nat -> Except Er Nd) (fr : Nat) (l : List It) (dep : Nat) : Except Er Nd :=
 if 64 <= dep \/ forks l = false then .error (noN fr)
 else
  match rdKids rd (dep + 1) (l.take 16) with
  | .error e => .error e
  | .ok ns => .ok (.br ns)
def It.tail17 : It -> Bool
 | .text _ _ t => decide (t.length = 32)
 | .list fr en l => decide (en - fr < 32) && decide (l.length = 17)
def It.val? : It -> Bool
 | .text _ _ t => decide (0 < t.length) && decide (t.length <= 100)
 | .list _ _ _ => false
def It.bytes : It -> List Nat
 | .text _ _ t => t
 | .list _ _ _ => []
def rdExt (rd : It -> Nat -> Except Er Nd) (fr : Nat) (p : List Nat) (b : It) (dep : Nat) : Except Er Nd :=
 if p.length = 0 \/ 64 <= dep \/ b.tail17 = false then .error (noN fr)
 else
  match rdRef rd b dep with
  | .error e => .error e
  | .ok t => .ok (.ext (textB p) t)
def rdPath (rd : It -> Nat -> Except Er Nd) (fr : Nat) (a b : It) (dep : Nat) : Except Er Nd :=
 match a with
 | .list _ _ _ => .error (noN fr)
 | .text _ _ t =>
  match unpackF t with
  | none => .error (.place fr (.noNode (.base 3)))
  | some (p, leaf) =>
   if leaf = true then
    if dep + p.length ≠ 64 \/ b.val? = false then .error (noN fr) else .ok (.leaf (textB p) (textB b.bytes))
   else rdExt rd fr p b (dep + p.length)
def rdL (rd : It -> Nat -> Except Er Nd) (fr : Nat) (l : List It) (dep : Nat) : Except Er Nd :=
 match l with
 | [a, b] => rdPath rd fr a b dep
 | _ => if l.length = 17 then rdBr rd fr l dep else .error (noN fr)
theorem Qoj (rd : It -> Nat -> Except Er Nd) (fr : Nat) (a b : It) (dep : Nat) : rdL rd fr [a, b] dep = rdPath rd fr a b dep := rfl
variable {rd : It -> Nat -> Except Er Nd} {fr dep : Nat}
theorem Qkt {l : List It} (h : l.length ≠ 2) : rdL rd fr l dep = if l.length = 17 then rdBr rd fr l dep else .error (noN fr) := by
 match l, h with
 | [], _ => rfl
 | [_], _ => rfl
 | [_, _], h => exact absurd rfl h
 | _ :: _ :: _ :: _, _ => rfl
theorem Qhy {l : List It} (h : l.length = 2) : ∃ a b, l = [a, b] := by
 match l, h with
 | [a, b], _ => exact ⟨a, b, rfl⟩
def rdF : Nat -> It -> Nat -> Except Er Nd
 | 0, x, _ => .error (noN x.fr)
 | n + 1, x, dep =>
  match x with
  | .text fr _ _ => .error (noN fr)
  | .list fr _ l => rdL (rdF n) fr l dep
mutual
def It.good (N : Nat) : It -> Prop
 | .text fr en t => fr <= en /\ en <= N /\ (textCode t).length = en - fr /\ ∀ y ∈ t, y < 256
 | .list fr en l => fr <= en /\ en <= N /\ (listCode (codes l)).length = en - fr /\ goods N l
def goods (N : Nat) : List It -> Prop
 | [] => True
 | x :: l => x.good N /\ goods N l
end
theorem goods_iff {N : Nat} : ∀ {l : List It}, goods N l ↔ ∀ x ∈ l, x.good N
 | [] => by rw [goods]; simp
 | x :: l => by rw [goods, goods_iff (l := l)]; simp
mutual
theorem It.good_mono {N M : Nat} (h : N <= M) : ∀ x : It, x.good N -> x.good M
 | .text _ _ _, g => by rw [It.good] at g ⊢; exact ⟨g.1, Nat.le_trans g.2.1 h, g.2.2⟩
 | .list _ _ l, g => by rw [It.good] at g ⊢; exact ⟨g.1, Nat.le_trans g.2.1 h, g.2.2.1, Qfu h l g.2.2.2⟩
theorem Qfu {N M : Nat} (h : N <= M) : ∀ l : List It, goods N l -> goods M l
 | [], _ => by rw [goods]; trivial
 | x :: l, g => by rw [goods] at g ⊢; exact ⟨It.good_mono h x g.1, Qfu h l g.2⟩
end
theorem Qga {rd : Nat -> Except Er It} {n : Nat} (hr : ∀ fr x, fr <= n -> rd fr = .ok x -> x.good n /\ x.to <= n) : ∀ (k fr : Nat) (l : List It), fr <= n -> readIts rd n k fr = .ok l -> goods n l
 | 0, _, _, _, h => by rw [readIts] at h; cases h; rw [goods]; trivial
 | k + 1, fr, l, hf, h => by
  rw [readIts] at h
  split at h
  ·cases hx : rd fr with
   | error e => rw [hx] at h; cases h
   | ok x =>
    rw [hx] at h
    simp only at h
    cases hl : readIts rd n k x.to with
    | error e => rw [hl] at h; cases h
    | ok l' =>
     rw [hl] at h
     cases h
     obtain ⟨h1, h2⟩ := hr fr x hf hx
     rw [goods]
     exact ⟨h1, Qga hr k x.to l' h2 hl⟩
  ·cases h
   rw [goods]
   trivial
variable {l : List Nat} {x : It}
theorem ReadOK.len (h : ReadOK l fr x) : x.code.length = x.to - x.fr := by
 obtain ⟨a, c, d, b⟩ := h
 rw [b, List.length_take, List.length_drop, a]
 omega
theorem Qmq (hl : ∀ y ∈ l, y < 256) {a b : Nat} {t : List Nat} (h : ReadOK l fr (.text a b t)) : (It.text a b t).good l.length := by
 have i := h.len
 obtain ⟨d, e, f, g⟩ := h
 have k : a = fr := d
 have m : fr < b := e
 have c : b <= l.length := f
 rw [It.good]
 refine ⟨by omega, c, i, fun y j => hl y ?_⟩
 have : y ∈ (It.text a b t).code := by
  rw [It.code]
  unfold textCode
  exact List.mem_append_right _ j
 rw [g] at this
 exact List.mem_of_mem_drop (List.mem_of_mem_take this)
theorem Qhz : ∀ (d : Nat) (l : List Nat) (fr : Nat) (x : It), (∀ y ∈ l, y < 256) -> fr <= l.length -> readIt d l fr = .ok x -> x.good l.length
 | 0, l, fr, x, hl, hfr, h => by
  have hO := Qds 0 l fr x hl hfr h
  rw [readIt] at h
  cases hh : headF (l.drop fr) with
  | error e => rw [hh] at h; cases h
  | ok q =>
   obtain ⟨lst, a, b⟩ := q
   rw [hh] at h
   simp only at h
   split at h
   ·cases h
   ·cases h
    exact Qmq hl hO
 | d + 1, l, fr, x, hl, hfr, h => by
  have hO := Qds (d + 1) l fr x hl hfr h
  rw [readIt] at h
  cases hh : headF (l.drop fr) with
  | error e => rw [hh] at h; cases h
  | ok q =>
   obtain ⟨lst, a, b⟩ := q
   rw [hh] at h
   simp only at h
   split at h
   ·cases hi : readIts (readIt d (l.take (fr + a + b))) (fr + a + b) b (fr + a) with
    | error e => rw [hi] at h; cases h
    | ok its =>
     rw [hi] at h
     cases h
     have h5 := hO.len
     obtain ⟨h1, h2, h3, h4⟩ := hO
     have e2 : fr < fr + a + b := h2
     have e3 : fr + a + b <= l.length := h3
     have e4 : (l.take (fr + a + b)).length = fr + a + b := by rw [List.length_take]; omega
     rw [It.good]
     refine ⟨by omega, e3, h5, Qfu e3 _ (Qga (fun f y hf hy => ?_) b (fr + a) its (by omega) hi)⟩
     have hl2 : ∀ y ∈ l.take (fr + a + b), y < 256 := fun y hy => hl y (List.mem_of_mem_take hy)
     have g1 := Qhz d (l.take (fr + a + b)) f y hl2 (by omega) hy
     have g2 := Qds d (l.take (fr + a + b)) f y hl2 (by omega) hy
     rw [e4] at g1
     exact ⟨g1, by have := g2.2.2.1; omega⟩
   ·cases h
    exact Qmq hl hO
theorem Qi0 (hl : ∀ y ∈ l, y < 256) (h : decF l = .ok x) : x.good 2048 := by
 obtain ⟨a, _⟩ := Qyg hl h
 unfold decF at h
 rw [if_neg (by omega)] at h
 cases hx : readIt 6 l 0 with
 | error e => rw [hx] at h; cases h
 | ok y =>
  rw [hx] at h
  simp only at h
  split at h
  ·cases h
  ·cases h
   exact It.good_mono a _ (Qhz 6 l 0 _ hl (Nat.zero_le _) hx)
def RdOK (rd : It -> Nat -> Except Er Nd) : Prop := ∀ x dep t, x.good 2048 -> dep <= 64 -> rd x dep = .ok t -> t.ok /\ t.fits (64 - dep) /\ t ≠ .no
variable {t : Nd}
theorem Qpo (hr : RdOK rd) (hx : x.good 2048) (hd : dep <= 64) (h32 : ∀ a b s, x = .text a b s -> s.length = 32) (h : rdRef rd x dep = .ok t) : t.ok /\ t.fits (64 - dep) /\ t ≠ .no := by
 cases x with
 | text a b s =>
  rw [rdRef] at h
  cases h
  rw [It.good] at hx
  rw [Nd.ok, Nd.fits]
  exact ⟨⟨h32 a b s rfl, hx.2.2.2⟩, trivial, by simp⟩
 | list a b l =>
  rw [rdRef] at h
  exact hr _ _ _ hx hd h
theorem Qi1 {rd : It -> Nat -> Except Er Nd} (hr : RdOK rd) {dep : Nat} (hd : dep <= 64) : ∀ (l : List It) (ns : List Nd), goods 2048 l -> (∀ x ∈ l, (x.isRef || x.emp) = true) -> rdKids rd dep l = .ok ns -> ns.length = l.length /\ (∀ t ∈ ns, t.ok /\ t.fits (64 - dep))
 | [], ns, _, _, h => by rw [rdKids] at h; cases h; simp
 | x :: l, ns, hg, ha, h => by
  rw [goods] at hg
  rw [rdKids] at h
  split at h
  ·cases hk : rdKids rd dep l with
   | error e => rw [hk] at h; cases h
   | ok ms =>
    rw [hk] at h
    cases h
    obtain ⟨h1, h2⟩ := Qi1 hr hd l ms hg.2 (fun y hy => ha y (List.mem_cons_of_mem _ hy)) hk
    refine ⟨by simp [h1], fun t ht => ?_⟩
    rcases List.mem_cons.1 ht with rfl | ht
    ·rw [Nd.ok, Nd.fits]; exact ⟨trivial, trivial⟩
    ·exact h2 t ht
  ·rename_i he
   cases hn : rdRef rd x dep with
   | error e => rw [hn] at h; cases h
   | ok n =>
    rw [hn] at h
    simp only at h
    cases hk : rdKids rd dep l with
    | error e => rw [hk] at h; cases h
    | ok ms =>
     rw [hk] at h
     cases h
     obtain ⟨h1, h2⟩ := Qi1 hr hd l ms hg.2 (fun y hy => ha y (List.mem_cons_of_mem _ hy)) hk
     have hx := ha x (List.mem_cons_self ..)
     rw [Bool.or_eq_true] at hx
     obtain ⟨h3, h4, _⟩ := Qpo hr hg.1 hd (fun a b s e => by
      subst e
      rcases hx with hx | hx
      ·simpa [It.isRef] using hx
      ·exact absurd hx he) hn
     refine ⟨by simp [h1], fun t ht => ?_⟩
     rcases List.mem_cons.1 ht with rfl | ht
     ·exact ⟨h3, h4⟩
     ·exact h2 t ht
theorem Qxn : ∀ n, RdOK (rdF n)
 | 0 => fun x dep t _ _ h => by rw [rdF] at h; cases h
 | n + 1 => fun x dep t hx hd h => by
  have ih := Qxn n
  cases x with
  | text a b s => rw [rdF] at h; cases h
  | list fr en l =>
   rw [rdF] at h
   rw [It.good] at hx
   obtain ⟨_, _, _, hg⟩ := hx
   by_cases h2 : l.length = 2
   ·obtain ⟨a, b, rfl⟩ := Qhy h2
    rw [Qoj] at h
    rw [goods, goods] at hg
    unfold rdPath at h
    cases a with
    | list _ _ _ => cases h
    | text a1 a2 s =>
     simp only at h
     have hs := hg.1
     rw [It.good] at hs
     cases hu : unpackF s with
     | none => rw [hu] at h; cases h
     | some q =>
      obtain ⟨p, leaf⟩ := q
      rw [hu] at h
      simp only at h
      obtain ⟨hp1, _, _⟩ := Qfw hs.2.2.2 hu
      have hbt : bytesOf (textB p) = p := Qa7 fun y hy => by have := hp1 y hy; omega
      split at h
      ·split at h
       ·cases h
       ·rename_i hc
        cases h
        have hc1 : dep + p.length = 64 := Decidable.byContradiction fun e => hc (.inl e)
        have hc2 : b.val? = true := by
         cases hv : b.val? with
         | true => rfl
         | false => exact absurd (.inr hv) hc
        cases b with
        | list _ _ _ => simp [It.val?] at hc2
        | text b1 b2 v =>
         simp only [It.val?, Bool.and_eq_true, decide_eq_true_eq] at hc2
         rw [Nd.ok, Nd.fits]
         refine ⟨⟨⟨by rw [Qaa]; omega, by rw [hbt]; exact hp1⟩, by rw [Qaa]; show v.length <= 1024; omega⟩, by rw [Qaa]; omega, by simp⟩
      ·unfold rdExt at h
       split at h
       ·cases h
       ·rename_i hc
        have hc1 : 0 < p.length := by
         rcases Nat.eq_zero_or_pos p.length with e | e
         ·exact absurd (.inl e) hc
         ·exact e
        have hc2 : dep + p.length < 64 := by
         rcases Nat.lt_or_ge (dep + p.length) 64 with e | e
         ·exact e
         ·exact absurd (.inr (.inl e)) hc
        have c : b.tail17 = true := by
         cases hv : b.tail17 with
         | true => rfl
         | false => exact absurd (.inr (.inr hv)) hc
        cases hn : rdRef (rdF n) b (dep + p.length) with
        | error e => rw [hn] at h; cases h
        | ok m =>
         rw [hn] at h
         cases h
         obtain ⟨f, g, i⟩ := Qpo ih hg.2.1 (by omega) (fun a b s e => by
          subst e
          simpa [It.tail17] using c) hn
         rw [Nd.ok, Nd.fits, Qaa]
         refine ⟨⟨⟨by rw [Qaa]; omega, by rw [hbt]; exact hp1⟩, f, i⟩, ⟨hc1, by omega, by rw [show 64 - dep - p.length = 64 - (dep + p.length) by omega]; exact g⟩, by simp⟩
   ·rw [Qkt h2] at h
    split at h
    ·rename_i h17
     unfold rdBr at h
     split at h
     ·cases h
     ·rename_i hc
      have hc1 : dep < 64 := by
       rcases Nat.lt_or_ge dep 64 with e | e
       ·exact e
       ·exact absurd (.inl e) hc
      have hc2 : forks l = true := by
       cases hv : forks l with
       | true => rfl
       | false => exact absurd (.inr hv) hc
      cases hk : rdKids (rdF n) (dep + 1) (l.take 16) with
      | error e => rw [hk] at h; cases h
      | ok ms =>
       rw [hk] at h
       cases h
       unfold forks at hc2
       rw [Bool.and_eq_true] at hc2
       obtain ⟨d, h2⟩ := Qi1 ih (by omega) (l.take 16) ms (goods_iff.2 fun y hy => goods_iff.1 hg y (List.mem_of_mem_take hy)) (fun y hy => List.all_eq_true.1 hc2.1 y hy) hk
       rw [List.length_take] at d
       rw [Nd.ok, Nd.fits]
       refine ⟨⟨by omega, Qgr fun y hy => (h2 y hy).1⟩, ⟨by omega, Qqd fun y hy => by rw [show 64 - dep - 1 = 64 - (dep + 1) by omega]; exact (h2 y hy).2⟩, by simp⟩
    ·cases h
def Nd.walk : Nat -> Nd -> ByteArray -> Nd × ByteArray
 | 0, t, r => (t, r)
 | n + 1, t, r => if (t.next r).1.isNo = true then (t, r) else (t.next r).1.walk n (r.extract (t.next r).2 r.size)
theorem Qcx (h : t ≠ .no) : t.isNo = false := by
 cases hn : t.isNo with
 | false => rfl
 | true => exact absurd (Nd.isNo_iff.1 hn) h
variable {r : ByteArray}
theorem Qdx {n : Nat} (h : (t.next r).1 = .no) : t.walk n r = (t, r) := by
 cases n with
 | zero => rfl
 | succ n => rw [Nd.walk, if_pos (Nd.isNo_iff.2 h)]
theorem Qku {n : Nat} (h : (t.next r).1 ≠ .no) : t.walk (n + 1) r = (t.next r).1.walk n (r.extract (t.next r).2 r.size) := by
 rw [Nd.walk, if_neg (by rw [Qcx h]; simp)]
theorem Qu6 : ∀ (n : Nat) (t : Nd) (r : ByteArray), t.fits r.size -> r.size <= n -> t.walk (n + 1) r = t.walk n r
 | n, t, r, hf, hn => by
  by_cases h : (t.next r).1 = .no
  ·rw [Qdx h, Qdx h]
  ·obtain ⟨k1, k2, k3⟩ := Nd.next_fits hf h
   cases n with
   | zero => omega
   | succ n =>
    rw [Qku h, Qku h]
    exact Qu6 n _ _ (by rw [Qa1]; exact k3) (by rw [Qa1]; omega)
theorem Qu7 : ∀ (n : Nat) (t : Nd) (r : ByteArray), t.fits r.size -> r.size <= n -> ∃ l, WayTo t r l (t.walk n r).1 (t.walk n r).2 /\ l.length <= r.size /\ (t.walk n r).1.fits (t.walk n r).2.size /\ (t.walk n r).2.size <= r.size
 | n, t, r, hf, hn => by
  by_cases h : (t.next r).1 = .no
  ·rw [Qdx h]
   exact ⟨[], .stop h, Nat.zero_le _, hf, Nat.le_refl _⟩
  ·obtain ⟨k1, k2, k3⟩ := Nd.next_fits hf h
   cases n with
   | zero => omega
   | succ n =>
    rw [Qku h]
    obtain ⟨l, h1, h2, h3, h4⟩ := Qu7 n (t.next r).1 (r.extract (t.next r).2 r.size) (by rw [Qa1]; exact k3) (by rw [Qa1]; omega)
    rw [Qa1] at h2 h4
    exact ⟨_, .go h h1, by simp; omega, h3, by omega⟩
def shF (c h : List Nat) (dep : Nat) : Except Er Nd :=
 if 700 < c.length then .error (.base 1)
 else if digB c ≠ h then .error (.base 7)
 else
  match decF c with
  | .error e => .error e
  | .ok x => rdF 6 x dep
theorem QA2 {c h : List Nat} (hc : ∀ y ∈ c, y < 256) (hd : dep <= 64) (hs : shF c h dep = .ok t) : t.ok /\ t.fits (64 - dep) /\ t ≠ .no := by
 unfold shF at hs
 split at hs
 ·cases hs
 ·split at hs
  ·cases hs
  ·cases hx : decF c with
   | error e => rw [hx] at hs; cases hs
   | ok x =>
    rw [hx] at hs
    exact Qxn 6 x dep t (Qi0 hc hx) hd hs
def valAt (e : Nd) (r : ByteArray) : Option ByteArray :=
 match e with
 | .leaf p v => if p = r then some v else none
 | _ => none
def stubAt (q : Nd × ByteArray) : Option (List Nat × ByteArray) :=
 match q with
 | (.stub h, r) => some (h, r)
 | _ => none
def verL : List (List Nat) -> List Nat -> ByteArray -> Nat -> Except Er (Option ByteArray)
 | [], _, _, k => .error (.inNode k (.base 2))
 | c :: L, h, r, k =>
  match shF c h (64 - r.size) with
  | .error e => .error (.inNode k e)
  | .ok t =>
   match stubAt (t.walk 64 r) with
   | some (h', r') => verL L h' r' (k + 1)
   | none => if L = [] then .ok (valAt (t.walk 64 r).1 (t.walk 64 r).2) else .error (.inNode (k + 1) (.base 4))
def verF (root : List Nat) (p : ByteArray) (L : List (List Nat)) : Except Er (Option ByteArray) :=
 if L = [] /\ root = digB (textCode []) then .ok none else verL L root p 0
theorem Qkv (s : ByteArray) (h : s.size = 0) : s.toList.isEmpty = true := by
 rw [Lib.toList_data]
 have : s.data.toList.length = s.size := by simp
 have e : s.data.toList = [] := List.eq_nil_of_length_eq_zero (by omega)
 rw [e]
 rfl
theorem Qi2 (fr en : Nat) (l : Bool) (tx : ByteArray) (p : Option Addr) (m c : Nat) (w : World) :
  Calls Tryz.prog 121 #[.agg #[.int .i64 (fr : Int), .int .i64 (en : Int), .bool l, .string tx, .slice p m c]] w fun e w' => e = .returned (.bool (!l && decide (tx.size = 0))) /\ Below w.heap.size w w' := by
 cases l with
 | true =>
  go_enter Tryz.func121, Tryz.ntmps121
  go_wp2
  go_ret
  exact ⟨rfl, (Below.refl _ _).alloc (Nat.le_refl _) _⟩
 | false =>
  by_cases h : tx.size = 0
  ·have a := Qkv tx h
   rw [decide_eq_true h]
   clear h
   go_enter Tryz.func121, Tryz.ntmps121
   go_wp2
   go_ret
   exact ⟨rfl, (Below.refl _ _).alloc (Nat.le_refl _) _⟩
  ·have a := Qas tx (by omega)
   rw [decide_eq_false h]
   clear h
   go_enter Tryz.func121, Tryz.ntmps121
   go_wp2
   go_ret
   exact ⟨rfl, (Below.refl _ _).alloc (Nat.le_refl _) _⟩
theorem Qwy (a b : Nat) (ha : a <= 2048) (hb : b <= 2048) (h : b <= a) : wrap64 ((a : Int) - (b : Int)) = ((a - b : Nat) : Int) := by
 rw [show (a : Int) - (b : Int) = ((a - b : Nat) : Int) by omega]
 exact Qe9 _ (by omega)
theorem Qi3 (fr en : Nat) (l : Bool) (tx : ByteArray) (p : Option Addr) (m c : Nat) (w : World) (h1 : fr <= en) (h2 : en <= 2048) :
  Calls Tryz.prog 125 #[.agg #[.int .i64 (fr : Int), .int .i64 (en : Int), .bool l, .string tx, .slice p m c]] w fun e w' => e = .returned (.bool (if l = true then decide (en - fr < 32) else decide (tx.size = 32))) /\ Below w.heap.size w w' := by
 cases l with
 | true =>
  have f := Qwy en fr h2 (by omega) h1
  obtain ⟨d, a⟩ : ∃ d, en - fr = d := ⟨_, rfl⟩
  rw [if_pos rfl]
  rw [a] at f ⊢
  clear h1 h2 a
  by_cases h : d < 32
  ·have b : (d : Int) < 32 := by omega
   rw [decide_eq_true h]
   clear h
   go_enter Tryz.func125, Tryz.ntmps125
   go_wp2
   go_ret
   exact ⟨rfl, (Below.refl _ _).alloc (Nat.le_refl _) _⟩
  ·have b : decide ((d : Int) < 32) = false := decide_eq_false (by omega)
   rw [decide_eq_false h]
   clear h
   go_enter Tryz.func125, Tryz.ntmps125
   go_wp2
   go_ret
   exact ⟨rfl, (Below.refl _ _).alloc (Nat.le_refl _) _⟩
 | false =>
  rw [if_neg (by simp)]
  clear h1 h2
  by_cases h : tx.size = 32
  ·have b : ((tx.size : Int) == 32) = true := by simp; omega
   rw [decide_eq_true h]
   clear h
   go_enter Tryz.func125, Tryz.ntmps125
   go_wp2
   go_ret
   exact ⟨rfl, (Below.refl _ _).alloc (Nat.le_refl _) _⟩
  ·have b : ((tx.size : Int) == 32) = false := by simp; omega
   rw [decide_eq_false h]
   clear h
   go_enter Tryz.func125, Tryz.ntmps125
   go_wp2
   go_ret
   exact ⟨rfl, (Below.refl _ _).alloc (Nat.le_refl _) _⟩
theorem Qu8 (u : ByteArray) (w : World) : Calls Tryz.prog 60 #[.string u] w fun e w' => e = .returned (.bool (decide (0 < u.size) && decide (u.size <= 100))) /\ w' = w := by
 by_cases a : 0 < u.size
 ·have d := Qas u a
  rw [decide_eq_true a]
  by_cases b : u.size <= 100
  ·have c : (u.size : Int) <= 100 := by omega
   rw [decide_eq_true b]
   clear a b
   go_enter Tryz.func60, Tryz.ntmps60
   go_wp2
   go_ret
   exact ⟨rfl, rfl⟩
  ·have c : (100 : Int) < (u.size : Int) := by omega
   have f : decide (u.size <= 100) = false := decide_eq_false b
   rw [decide_eq_false b]
   clear a b
   go_enter Tryz.func60, Tryz.ntmps60
   go_wp2
   go_ret
   refine ⟨?_, rfl⟩
   show Ending.returned (.bool (decide ((u.size : Int) <= 100))) = _
   rw [decide_eq_false (by omega)]
   rfl
 ·have d := Qkv u (by omega)
  rw [decide_eq_false a]
  clear a
  go_enter Tryz.func60, Tryz.ntmps60
  go_wp2
  go_ret
  exact ⟨rfl, rfl⟩
theorem Qec (fr en : Nat) (l : Bool) (tx : ByteArray) (p : Option Addr) (m c : Nat) (sent : Nat -> Addr) (w : World) (hF : Faults w sent) :
  Calls Tryz.prog 112 #[.agg #[.int .i64 (fr : Int), .int .i64 (en : Int), .bool l, .string tx, .slice p m c]] w fun e w' => e = .returned ((Er.place fr (.base 8)).val sent) /\ Below w.heap.size w w' := by
 have a := (hF.below ((Below.refl w.heap.size w).alloc (Nat.le_refl _) (.cells #[.int .i64 (fr : Int), .int .i64 (en : Int), .bool l, .string tx, .slice p m c] 225))).var 8 (by decide)
 rw [show gOf 8 = 6 from rfl] at a
 clear hF
 go_enter Tryz.func112, Tryz.ntmps112
 go_wp2
 go_ret
 exact ⟨rfl, (Below.refl _ _).alloc (Nat.le_refl _) _⟩
theorem Qgi (l : List Nat) (hl : l.length = 32) (hb : ∀ x ∈ l, x < 256) (w : World) :
  Calls Tryz.prog 54 #[.agg (l.map encB).toArray] w fun e w' => ∃ b, e = .returned (.pointer (some ⟨b, 0, none⟩)) /\ w.heap.size <= b /\ Below w.heap.size w w' /\ w'.heap[b]? = some (.cells [.string (textB (textCode l))].toArray 189 (0, 0)) := by
 have d := Hid.hide (fun W => Qlm l hl hb W)
 obtain ⟨A, g⟩ : ∃ A, (l.map encB).toArray = A := ⟨_, rfl⟩
 have i : (w.alloc (.cells A 31)).rangeAt w.heap.size 0 (l.map encB) := fun j v k => by
  rw [Nat.zero_add, World.cell?_alloc_new, <- g]
  simpa using k
 have m : (Tryz.prog.info? 31).map (·.size) = some (l.map encB).length := by rw [List.length_map, hl]; kernel_rfl
 obtain ⟨R, h⟩ : ∃ R, textB (textCode l) = R := ⟨_, rfl⟩
 rw [h] at d ⊢
 rw [g] at d ⊢
 clear hl hb
 go_enter Tryz.func54, Tryz.ntmps54
 go_wp2_with (first | (refine wpList_load_mid rfl 31 _ rfl w.heap.size 0 rfl (l.map encB) _ i Tryz.underlying31 rfl m ?_) | (go_at_call 78; refine (d.out _).mono ?_; rintro e f ⟨rfl, a⟩; have c : Hid (Below w.heap.size w f) := Below.up a; clear a))
 go_ret
 refine ⟨_, rfl, c.out.size, c.out.alloc c.out.size _, ?_⟩
 show (f.heap.push _)[f.heap.size]? = some _
 exact Array.getElem?_push_size
end Go.Proofs.YthbgepmpdphigaaGreatDoor
