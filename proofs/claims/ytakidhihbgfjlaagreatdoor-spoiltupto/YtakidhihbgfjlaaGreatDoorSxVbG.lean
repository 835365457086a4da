/-
  Proofs, pure: the node that an item is the code of (rdF); the way through the nodes of a proof (verF).
-/
import Derived.Test.YtakidhihbgfjlaaGreatDoorSxPuG
import Derived.Test.YtakidhihbgfjlaaGreatDoorSxAuG
import Derived.Test.YtakidhihbgfjlaaGreatDoorSxFull
import Derived.Test.YtakidhihbgfjlaaGreatDoorSxNodB
import Derived.Test.YtakidhihbgfjlaaGreatDoorSxNibG
import Derived.Test.YtakidhihbgfjlaaGreatDoorSxSmaG
import Derived.Test.YtakidhihbgfjlaaGreatDoorSxTreA
namespace Go.Proofs.YtakidhihbgfjlaaGreatDoor
open Go.RowKit
set_option maxRecDepth 100000
set_option maxHeartbeats 25600000
def It.isL : It -> Bool
 | .text _ _ _ => false
 | .list _ _ _ => true
def It.emp : It -> Bool
 | .text _ _ t => decide (t.length = 0)
 | .list _ _ _ => false
def It.isRef : It -> Bool
 | .text _ _ t => decide (t.length = 32)
 | .list fr en _ => decide (en - fr < 32)
def noN (fr : Nat) : Er := .place fr (.base 8)
def rdRef (rd : It -> Nat -> Except Er Nd) (x : It) (dep : Nat) : Except Er Nd :=
 match x with
 | .text _ _ t => .ok (.stub t)
 | .list a b l => rd (.list a b l) dep
def rdKids (rd : It -> Nat -> Except Er Nd) (dep : Nat) : List It -> Except Er (List Nd)
 | [] => .ok []
 | x :: xs =>
  if x.emp = true then
   match rdKids rd dep xs with
   | .error e => .error e
   | .ok ns => .ok (.no :: ns)
  else
   match rdRef rd x dep with
   | .error e => .error e
   | .ok n =>
    match rdKids rd dep xs with
    | .error e => .error e
    | .ok ns => .ok (n :: ns)
def forks (l : List It) : Bool := (l.take 16).all (fun x => x.isRef || x.emp) && (decide (2 <= ((l.take 16).filter It.isRef).length) && (l.drop 16).all It.emp)
def rdBr (rd : It -> Nat -> Except Er Nd) (fr : Nat) (l : List It) (dep : Nat) : Except Er Nd :=
 if 64 <= dep \/ forks l = false then .error (noN fr)
 else
  match rdKids rd (dep + 1) (l.take 16) with
  | .error e => .error e
  | .ok ns => .ok (.br ns)
def It.tail17 : It -> Bool
 | .text _ _ t => decide (t.length = 32)
 | .list fr en l => decide (en - fr < 32) && decide (l.length = 17)
def It.val? : It -> Bool
 | .text _ _ t => decide (0 < t.length) && decide (t.length <= 100)
 | .list _ _ _ => false
def It.bytes : It -> List Nat
 | .text _ _ t => t
 | .list _ _ _ => []
def rdExt (rd : It -> Nat -> Except Er Nd) (fr : Nat) (p : List Nat) (b : It) (dep : Nat) : Except Er Nd :=
 if p.length = 0 \/ 64 <= dep \/ b.tail17 = false then .error (noN fr)
 else
  match rdRef rd b dep with
  | .error e => .error e
  | .ok t => .ok (.ext (textB p) t)
def rdPath (rd : It -> Nat -> Except Er Nd) (fr : Nat) (a b : It) (dep : Nat) : Except Er Nd :=
 match a with
 | .list _ _ _ => .error (noN fr)
 | .text _ _ t =>
  match unpackF t with
  | none => .error (.place fr (.noNode (.base 3)))
  | some (p, leaf) =>
   if leaf = true then
    if dep + p.length ≠ 64 \/ b.val? = false then .error (noN fr) else .ok (.leaf (textB p) (textB b.bytes))
   else rdExt rd fr p b (dep + p.length)
def rdL (rd : It -> Nat -> Except Er Nd) (fr : Nat) (l : List It) (dep : Nat) : Except Er Nd :=
 match l with
 | [a, b] => rdPath rd fr a b dep
 | _ => if l.length = 17 then rdBr rd fr l dep else .error (noN fr)
theorem Qvt (rd : It -> Nat -> Except Er Nd) (fr : Nat) (a b : It) (dep : Nat) : rdL rd fr [a, b] dep = rdPath rd fr a b dep := rfl
variable {fr : Nat}
theorem Qyw {rd : It -> Nat -> Except Er Nd} {l : List It} {dep : Nat} (h : l.length ≠ 2) : rdL rd fr l dep = if l.length = 17 then rdBr rd fr l dep else .error (noN fr) := by
 match l, h with
 | [], _ => rfl
 | [_], _ => rfl
 | [_, _], h => exact absurd rfl h
 | _ :: _ :: _ :: _, _ => rfl
theorem Qo0 {l : List It} (h : l.length = 2) : ∃ a b, l = [a, b] := by
 match l, h with
 | [a, b], _ => exact ⟨a, b, rfl⟩
def rdF : Nat -> It -> Nat -> Except Er Nd
 | 0, x, _ => .error (noN x.fr)
 | n + 1, x, dep =>
  match x with
  | .text fr _ _ => .error (noN fr)
  | .list fr _ l => rdL (rdF n) fr l dep
mutual
def It.good (N : Nat) : It -> Prop
 | .text fr en t => fr <= en /\ en <= N /\ (textCode t).length = en - fr /\ ∀ y ∈ t, y < 256
 | .list fr en l => fr <= en /\ en <= N /\ (listCode (codes l)).length = en - fr /\ goods N l
def goods (N : Nat) : List It -> Prop
 | [] => True
 | x :: l => x.good N /\ goods N l
end
theorem goods_iff {N : Nat} : ∀ {l : List It}, goods N l ↔ ∀ x ∈ l, x.good N
 | [] => by rw [goods]; simp
 | x :: l => by rw [goods, goods_iff (l := l)]; simp
mutual
theorem It.good_mono {N M : Nat} (h : N <= M) : ∀ x : It, x.good N -> x.good M
 | .text _ _ _, g => by rw [It.good] at g ⊢; exact ⟨g.1, Nat.le_trans g.2.1 h, g.2.2⟩
 | .list _ _ l, g => by rw [It.good] at g ⊢; exact ⟨g.1, Nat.le_trans g.2.1 h, g.2.2.1, Qg8 h l g.2.2.2⟩
theorem Qg8 {N M : Nat} (h : N <= M) : ∀ l : List It, goods N l -> goods M l
 | [], _ => by rw [goods]; trivial
 | x :: l, g => by rw [goods] at g ⊢; exact ⟨It.good_mono h x g.1, Qg8 h l g.2⟩
end
theorem Qgr {rd : Nat -> Except Er It} {n : Nat} (hr : ∀ fr x, fr <= n -> rd fr = .ok x -> x.good n /\ x.to <= n) : ∀ (k fr : Nat) (l : List It), fr <= n -> readIts rd n k fr = .ok l -> goods n l
 | 0, _, _, _, h => by rw [readIts] at h; cases h; rw [goods]; trivial
 | k + 1, fr, l, hf, h => by
  rw [readIts] at h
  split at h
  ·cases hx : rd fr with
   | error e => rw [hx] at h; cases h
   | ok x =>
    rw [hx] at h
    simp only at h
    cases hl : readIts rd n k x.to with
    | error e => rw [hl] at h; cases h
    | ok l' =>
     rw [hl] at h
     cases h
     obtain ⟨h1, h2⟩ := hr fr x hf hx
     rw [goods]
     exact ⟨h1, Qgr hr k x.to l' h2 hl⟩
  ·cases h
   rw [goods]
   trivial
variable {l : List Nat}
theorem ReadOK.len {x : It} (h : ReadOK l fr x) : x.code.length = x.to - x.fr := by
 obtain ⟨a, c, d, b⟩ := h
 rw [b, List.length_take, List.length_drop, a]
 omega
theorem Qo1 (hl : ∀ y ∈ l, y < 256) {a b : Nat} {t : List Nat} (h : ReadOK l fr (.text a b t)) : (It.text a b t).good l.length := by
 have i := h.len
 obtain ⟨d, e, f, g⟩ := h
 have k : a = fr := d
 have m : fr < b := e
 have c : b <= l.length := f
 rw [It.good]
 refine ⟨by omega, c, i, fun y j => hl y ?_⟩
 have : y ∈ (It.text a b t).code := by
  rw [It.code]
  unfold textCode
  exact List.mem_append_right _ j
 rw [g] at this
 exact List.mem_of_mem_drop (List.mem_of_mem_take this)
theorem Qiu : ∀ (d : Nat) (l : List Nat) (fr : Nat) (x : It), (∀ y ∈ l, y < 256) -> fr <= l.length -> readIt d l fr = .ok x -> x.good l.length
 | 0, l, fr, x, hl, hfr, h => by
  have hO := Qfk 0 l fr x hl hfr h
  rw [readIt] at h
  cases hh : headF (l.drop fr) with
  | error e => rw [hh] at h; cases h
  | ok q =>
   obtain ⟨lst, a, b⟩ := q
   rw [hh] at h
   simp only at h
   split at h
   ·cases h
   ·cases h
    exact Qo1 hl hO
 | d + 1, l, fr, x, hl, hfr, h => by
  have hO := Qfk (d + 1) l fr x hl hfr h
  rw [readIt] at h
  cases hh : headF (l.drop fr) with
  | error e => rw [hh] at h; cases h
  | ok q =>
   obtain ⟨lst, a, b⟩ := q
   rw [hh] at h
   simp only at h
   split at h
   ·cases hi : readIts (readIt d (l.take (fr + a + b))) (fr + a + b) b (fr + a) with
    | error e => rw [hi] at h; cases h
    | ok its =>
     rw [hi] at h
     cases h
     have h5 := hO.len
     obtain ⟨h1, h2, h3, h4⟩ := hO
     have e2 : fr < fr + a + b := h2
     have e3 : fr + a + b <= l.length := h3
     have e4 : (l.take (fr + a + b)).length = fr + a + b := by rw [List.length_take]; omega
     rw [It.good]
     refine ⟨by omega, e3, h5, Qg8 e3 _ (Qgr (fun f y hf hy => ?_) b (fr + a) its (by omega) hi)⟩
     have hl2 : ∀ y ∈ l.take (fr + a + b), y < 256 := fun y hy => hl y (List.mem_of_mem_take hy)
     have g1 := Qiu d (l.take (fr + a + b)) f y hl2 (by omega) hy
     have g2 := Qfk d (l.take (fr + a + b)) f y hl2 (by omega) hy
     rw [e4] at g1
     exact ⟨g1, by have := g2.2.2.1; omega⟩
   ·cases h
    exact Qo1 hl hO
theorem Qvu (hl : ∀ y ∈ l, y < 256) {x : It} (h : decF l = .ok x) : x.good 2048 := by
 obtain ⟨a, _⟩ := QAs hl h
 unfold decF at h
 rw [if_neg (by omega)] at h
 cases hx : readIt 6 l 0 with
 | error e => rw [hx] at h; cases h
 | ok y =>
  rw [hx] at h
  simp only at h
  split at h
  ·cases h
  ·cases h
   exact It.good_mono a _ (Qiu 6 l 0 _ hl (Nat.zero_le _) hx)
def Nd.walk : Nat -> Nd -> ByteArray -> Nd × ByteArray
 | 0, t, r => (t, r)
 | n + 1, t, r => if (t.next r).1.isNo = true then (t, r) else (t.next r).1.walk n (r.extract (t.next r).2 r.size)
variable {t : Nd}
theorem Qd3 (h : t ≠ .no) : t.isNo = false := by
 cases hn : t.isNo with
 | false => rfl
 | true => exact absurd (Nd.isNo_iff.1 hn) h
variable {r : ByteArray}
theorem Qo2 {n : Nat} (h : (t.next r).1 = .no) : t.walk n r = (t, r) := by
 cases n with
 | zero => rfl
 | succ n => rw [Nd.walk, if_pos (Nd.isNo_iff.2 h)]
theorem QB3 {n : Nat} (h : (t.next r).1 ≠ .no) : t.walk (n + 1) r = (t.next r).1.walk n (r.extract (t.next r).2 r.size) := by
 rw [Nd.walk, if_neg (by rw [Qd3 h]; simp)]
def shF (c h : List Nat) (dep : Nat) : Except Er Nd :=
 if 700 < c.length then .error (.base 1)
 else if digB c ≠ h then .error (.base 7)
 else
  match decF c with
  | .error e => .error e
  | .ok x => rdF 6 x dep
def valAt (e : Nd) (r : ByteArray) : Option ByteArray :=
 match e with
 | .leaf p v => if p = r then some v else none
 | _ => none
def stubAt (q : Nd × ByteArray) : Option (List Nat × ByteArray) :=
 match q with
 | (.stub h, r) => some (h, r)
 | _ => none
def verL : List (List Nat) -> List Nat -> ByteArray -> Nat -> Except Er (Option ByteArray)
 | [], _, _, k => .error (.inNode k (.base 2))
 | c :: L, h, r, k =>
  match shF c h (64 - r.size) with
  | .error e => .error (.inNode k e)
  | .ok t =>
   match stubAt (t.walk 64 r) with
   | some (h', r') => verL L h' r' (k + 1)
   | none => if L = [] then .ok (valAt (t.walk 64 r).1 (t.walk 64 r).2) else .error (.inNode (k + 1) (.base 4))
def verF (root : List Nat) (p : ByteArray) (L : List (List Nat)) : Except Er (Option ByteArray) :=
 if L = [] /\ root = digB (textCode []) then .ok none else verL L root p 0
theorem QB4 (s : ByteArray) (h : s.size = 0) : s.toList.isEmpty = true := by
 rw [Lib.toList_data]
 have : s.data.toList.length = s.size := by simp
 have e : s.data.toList = [] := List.eq_nil_of_length_eq_zero (by omega)
 rw [e]
 rfl
theorem Qqr (l : List Nat) (hl : l.length = 32) (hb : ∀ x ∈ l, x < 256) (w : World) :
  Calls Tryz.prog 70 #[.agg (l.map encB).toArray] w fun e w' => ∃ b, e = .returned (.pointer (some ⟨b, 0, none⟩)) /\ w.heap.size <= b /\ Below w.heap.size w w' /\ w'.heap[b]? = some (.cells [.string (textB (textCode l))].toArray 208 (0, 0)) := by
 have d := Hq (fun W => Qms l hl hb W)
 obtain ⟨A, g⟩ : ∃ A, (l.map encB).toArray = A := ⟨_, rfl⟩
 have i : (w.alloc (.cells A 37)).rangeAt w.heap.size 0 (l.map encB) := fun j v k => by
  rw [Nat.zero_add, World.cell?_alloc_new, <- g]
  simpa using k
 have m : (Tryz.prog.info? 37).map (·.size) = some (l.map encB).length := by rw [List.length_map, hl]; kernel_rfl
 obtain ⟨R, h⟩ : ∃ R, textB (textCode l) = R := ⟨_, rfl⟩
 rw [h] at d ⊢
 rw [g] at d ⊢
 clear hl hb
 go_enter Tryz.func70, Tryz.ntmps70
 go_wp2_with (first | (refine wpList_load_mid rfl 37 _ rfl w.heap.size 0 rfl (l.map encB) _ i Tryz.underlying37 rfl m ?_) | (go_at_call 86; refine (d.out _).mono ?_; rintro e f ⟨rfl, a⟩; have c : Hid (Below w.heap.size w f) := Below.up a; clear a))
 go_ret
 refine ⟨_, rfl, c.out.size, c.out.alloc c.out.size _, ?_⟩
 show (f.heap.push _)[f.heap.size]? = some _
 exact Array.getElem?_push_size
theorem Qo3 (w : World) (a b : Obj) : Below w.heap.size w ((w.alloc a).alloc b) := ((Below.refl _ _).alloc (Nat.le_refl _) _).alloc (by simp) _
section
variable {B : Nat} {S : Wood} {w : World} (sent : Nat -> Addr) (fr en : Nat) (tx0 : ByteArray) (g cap : Nat) (fr' en' : Nat) (l' : Bool) (tx' : ByteArray) (p' : Option Addr) (m' c' : Nat) (p : ByteArray) (dep : Nat)
end
section
variable {B : Nat} {S : Wood} {w : World} (sent : Nat -> Addr) (fr en : Nat) (tx : ByteArray) (dep : Nat)
end
theorem Qb0 (s : ByteArray) : textB (bytesOf s) = s := Qav (by rw [Qa5 (Qao s)])
end Go.Proofs.YtakidhihbgfjlaaGreatDoor
