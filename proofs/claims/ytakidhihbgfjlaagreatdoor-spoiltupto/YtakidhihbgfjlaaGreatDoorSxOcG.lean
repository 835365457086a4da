/-
  Open: what an operation makes.
-/
import Derived.Test.YtakidhihbgfjlaaGreatDoorSxObG
import Derived.Test.YtakidhihbgfjlaaGreatDoorSxVaG
import Derived.Test.YtakidhihbgfjlaaGreatDoorSxSaG
namespace Go.Proofs.YtakidhihbgfjlaaGreatDoor
open Go.RowKit
set_option maxRecDepth 100000
set_option maxHeartbeats 25600000
def Nd.stands : Nd -> Bool
 | .br _ => true
 | .stub _ => true
 | _ => false
def tzN : Nat -> Nat -> Nat
 | 0, _ => 0
 | n + 1, f => if f % 2 = 1 then 0 else 1 + tzN n (f / 2)
def joinL : List Nd -> Nat -> List Nd -> List Nd
 | [], _, r => r
 | t :: ts, f, r => joinL ts (f - 2 ^ tzN 16 f) (r.set (tzN 16 f) t)
def hasNo : List Nd -> Bool
 | [] => false
 | .no :: _ => true
 | _ :: ts => hasNo ts
def Od.make : Od -> List Nd -> Except Er Nd
 | .gives t, _ => .ok t
 | .ext p, ts => if (ts.getD 0 .no).stands = true then .ok (.ext p (ts.getD 0 .no)) else .error (.base 8)
 | .br f, ts => if hasNo ts = true then .error (.base 8) else .ok (.br (joinL ts f (List.replicate 16 .no)))
theorem Qrg (sl z : Value) (nb : Nat) (w : World) (h : w.cell? ⟨nb, 0, none⟩ = some z) :
  Calls Tryz.prog 88 #[sl, .pointer (some ⟨nb, 0, none⟩)] w fun e w' => e = .returned (.tuple #[z, .nilIface]) /\ w' = w := by
 go_enter Tryz.func88, Tryz.ntmps88
 go_wp2
 go_ret2
 exact ⟨rfl, rfl⟩
theorem taBr (t : Nd) (ht : t ≠ .no) (a : Addr) (w : World) : (Instr.typeAssert (.iface (ndTy t) (.pointer (some a))) 56 229 true).run Tryz.prog w = .ok (.tuple #[(match t with | .br _ => .pointer (some a) | _ => .pointer none), .bool (match t with | .br _ => true | _ => false)]) w := by
 cases t with
 | no => exact absurd rfl ht
 | leaf _ _ => kernel_rfl
 | ext _ _ => kernel_rfl
 | br _ => kernel_rfl
 | stub _ => kernel_rfl
theorem taSt (t : Nd) (ht : t ≠ .no) (a : Addr) (w : World) : (Instr.typeAssert (.iface (ndTy t) (.pointer (some a))) 56 160 true).run Tryz.prog w = .ok (.tuple #[(match t with | .stub _ => .pointer (some a) | _ => .pointer none), .bool (match t with | .stub _ => true | _ => false)]) w := by
 cases t with
 | no => exact absurd rfl ht
 | leaf _ _ => kernel_rfl
 | ext _ _ => kernel_rfl
 | br _ => kernel_rfl
 | stub _ => kernel_rfl
structure MkS (B : Nat) (sent : Nat -> Addr) (S : Wood) (w : World) (q : Except Er Nd) (e : Ending) (w' : World) : Prop where
 bad : ∀ er, q = .error er -> e = .returned (.tuple #[.nilIface, er.val sent]) /\ Below w.heap.size w w'
 good : ∀ t, q = .ok t -> ∃ z S', e = .returned (.tuple #[z, .nilIface]) /\ ndV S' z t /\ Fr B S S' w w'
variable {B : Nat} {S : Wood} {p : ByteArray} {z : Value}
theorem Qrh (sent : Nat -> Addr) {w : World} {t : Nd} (hf : Forest B S w) (hF : Faults w sent) (hz : ndV S z t) (hp : nibOK p) :
  Calls Tryz.prog 93 #[.string p, z] w fun e w' => MkS B sent S w (if t.stands = true then .ok (.ext p t) else .error (.base 8)) e w' := by
 have k : w.cell? ⟨6, 0, none⟩ = some (.iface 243 (.pointer (some (sent 8)))) := hF.var 8 (by decide)
 have q := Hq hf
 have u := Hq hp
 rcases hz with ⟨rfl, rfl⟩ | ⟨hne, b, rfl, hb⟩
 ·have v : ∀ w : World, (Instr.typeAssert .nilIface 56 229 true).run Tryz.prog w = .ok (.tuple #[.pointer none, .bool false]) w := fun w => by kernel_rfl
  have x : ∀ w : World, (Instr.typeAssert .nilIface 56 160 true).run Tryz.prog w = .ok (.tuple #[.pointer none, .bool false]) w := fun w => by kernel_rfl
  clear hF hf hp
  go_enter Tryz.func93, Tryz.ntmps93
  go_wp2
  go_quiet (fail)
  go_wp2
  go_ret2
  exact ⟨fun s c => (by cases c; exact ⟨rfl, Below.drewN (Below.refl _ _) _⟩), fun t c => (by cases c)⟩
 ·have f := taBr t hne ⟨b, 0, none⟩
  have i := taSt t hne ⟨b, 0, none⟩
  have o := Hq hb
  clear hF hf hp
  by_cases a : t.stands = true
  ·have m := Qai w (.cells #[.string ⟨#[]⟩, .string p, .iface (ndTy t) (.pointer (some ⟨b, 0, none⟩))] 232)
   have l : (Nd.ext p t).ok := by rw [Nd.ok]; exact ⟨u.out, q.out.ok b t o.out, hne⟩
   have j := Fr.fresh q.out ((Below.refl _ _).alloc (Nat.le_refl _) (.cells #[.string ⟨#[]⟩, .string p, .iface (ndTy t) (.pointer (some ⟨b, 0, none⟩))] 232)) (Nat.le_refl _) (t := .ext p t) (h := ⟨#[]⟩) (r := [.string p, .iface (ndTy t) (.pointer (some ⟨b, 0, none⟩))]) (.inr ⟨rfl, by simp⟩) ⟨_, rfl, .inr ⟨hne, b, rfl, o.out⟩⟩ l m
   have d : Hid (MkS B sent S w (if t.stands = true then .ok (.ext p t) else .error (.base 8)) (.returned (.tuple #[.iface 230 (.pointer (some ⟨w.heap.size, 0, none⟩)), .nilIface])) (w.alloc (.cells #[.string ⟨#[]⟩, .string p, .iface (ndTy t) (.pointer (some ⟨b, 0, none⟩))] 232))) := by
    rw [if_pos a]
    exact ⟨fun s c => (by cases c), fun y c => (by cases c; exact ⟨_, _, rfl, .inr ⟨by simp, _, rfl, Wood.put_same _ _ _⟩, j⟩)⟩
   clear m l j
   cases t with
   | no => exact absurd rfl hne
   | leaf _ _ => cases a
   | ext _ _ => cases a
   | br ks =>
    dsimp only at f i
    clear a hne k hb
    go_enter Tryz.func93, Tryz.ntmps93
    go_wp2
    go_ret2
    exact d.out
   | stub g =>
    dsimp only at f i
    clear a hne k hb
    go_enter Tryz.func93, Tryz.ntmps93
    go_wp2
    go_ret2
    exact d.out
  ·have d : Hid (∀ n, MkS B sent S w (if t.stands = true then .ok (.ext p t) else .error (.base 8)) (.returned (.tuple #[.nilIface, .iface 243 (.pointer (some (sent 8)))])) (w.drewN n)) := fun n => by
    rw [if_neg a]
    exact ⟨fun s c => (by cases c; exact ⟨rfl, Below.drewN (Below.refl _ _) _⟩), fun t c => (by cases c)⟩
   cases t with
   | no => exact absurd rfl hne
   | br _ => exact absurd rfl a
   | stub _ => exact absurd rfl a
   | leaf _ _ =>
    dsimp only at f i
    clear a hne hb
    go_enter Tryz.func93, Tryz.ntmps93
    go_wp2
    go_quiet (fail)
    go_wp2
    go_ret2
    exact d.out _
   | ext _ _ =>
    dsimp only at f i
    clear a hne hb
    go_enter Tryz.func93, Tryz.ntmps93
    go_wp2
    go_quiet (fail)
    go_wp2
    go_ret2
    exact d.out _
theorem QCh : ((List.range 256).all fun a => (List.range 256).all fun b => (a * 256 + b == 0) || (((a * 256 + b) &&& (65536 - (a * 256 + b)) == 2 ^ tzN 16 (a * 256 + b)) && ((a * 256 + b) &&& (a * 256 + b - 1) == a * 256 + b - 2 ^ tzN 16 (a * 256 + b)) && decide (tzN 16 (a * 256 + b) < 16))) = true := by decide +kernel
theorem QCi {x : Nat} (h0 : 0 < x) (hx : x < 65536) : x &&& (65536 - x) = 2 ^ tzN 16 x /\ x &&& (x - 1) = x - 2 ^ tzN 16 x /\ tzN 16 x < 16 := by
 have h := QCh
 simp only [List.all_eq_true, List.mem_range] at h
 have a := h (x / 256) (by omega) (x % 256) (by omega)
 rw [show x / 256 * 256 + x % 256 = x by omega] at a
 simp only [Bool.or_eq_true, Bool.and_eq_true, beq_iff_eq, decide_eq_true_eq] at a
 rcases a with a | a
 ·omega
 ·exact ⟨a.1.1, a.1.2, a.2⟩
def bruT : List Nat := [0, 1, 28, 2, 29, 14, 24, 3, 30, 22, 20, 15, 25, 17, 4, 8, 31, 27, 13, 23, 21, 19, 16, 7, 26, 12, 18, 6, 11, 5, 10, 9]
def Bru (w : World) : Prop := ∀ i, i < 32 -> w.cell? ⟨16, i, none⟩ = some (.int .u8 ((bruT[i]! : Nat) : Int))
theorem QAf : ∀ t : Fin 16, 2 ^ t.val * 125613361 % 4294967296 / 134217728 < 32 /\ bruT[2 ^ t.val * 125613361 % 4294967296 / 134217728]! = t.val := by decide +kernel
theorem QCj (x : Nat) (h0 : 0 < x) (hx : x < 65536) (w : World) (hB : Bru w) :
  Calls Tryz.prog 106 #[.int .u16 (x : Int)] w fun e w' => e = .returned (.int .i64 ((tzN 16 x : Nat) : Int)) /\ w' = w := by
 obtain ⟨b, -, c⟩ := QCi h0 hx
 obtain ⟨t, g⟩ : ∃ t, tzN 16 x = t := ⟨_, rfl⟩
 rw [g] at b c ⊢
 obtain ⟨d, a⟩ := QAf ⟨t, c⟩
 dsimp only at d a
 obtain ⟨P, f⟩ : ∃ P, 2 ^ t = P := ⟨_, rfl⟩
 rw [f] at d a b
 have m : P < 65536 := by rw [<- f]; have := Nat.pow_lt_pow_right (show 1 < 2 by omega) c; omega
 obtain ⟨i, l⟩ : ∃ i, P * 125613361 % 4294967296 / 134217728 = i := ⟨_, rfl⟩
 rw [l] at d a
 have k := hB i d
 rw [a] at k
 have n : ¬ (x : Int) = 0 := by omega
 have o : IntKind.u16.wrap (-(x : Int)) = ((65536 - x : Nat) : Int) := by unfold IntKind.wrap; simp only [IntKind.signed, IntKind.bits]; simp; omega
 have p : bits .and .u16 (x : Int) ((65536 - x : Nat) : Int) = (P : Int) := by rw [u16_and_nat _ _ hx (by omega), b]
 have j : Hid (wrap64 (t : Int) = (t : Int)) := by
  have h : wrap64 (t : Int) = (t : Int) := by unfold wrap64; omega
  exact h
 clear hB g b c f a hx h0
 go_enter Tryz.func106, Tryz.ntmps106
 go_wp2
 rw [j.out]
 go_ret
 exact ⟨rfl, rfl⟩
theorem Qn4 (n : Nat) : popN n 0 = 0 := by
 induction n with
 | zero => rfl
 | succ n ih => rw [popN]; simpa using ih
theorem Qju (n f : Nat) (h0 : 0 < f) (hf : f < 2 ^ n) : popN n (f - 2 ^ tzN n f) + 1 = popN n f /\ 2 ^ tzN n f <= f := by
 induction n generalizing f with
 | zero => simp at hf; omega
 | succ n ih =>
  rw [tzN]
  by_cases h : f % 2 = 1
  ·rw [if_pos h]
   simp only [Nat.pow_zero]
   rw [popN, popN, show (f - 1) % 2 = 0 by omega, show (f - 1) / 2 = f / 2 by omega, h]
   omega
  ·rw [if_neg h]
   have a : f / 2 < 2 ^ n := by rw [Nat.pow_succ] at hf; omega
   obtain ⟨b, c⟩ := ih (f / 2) (by omega) a
   rw [show 1 + tzN n (f / 2) = tzN n (f / 2) + 1 by omega, Nat.pow_succ]
   generalize 2 ^ tzN n (f / 2) = m at b c
   rw [popN, popN, show (f - m * 2) % 2 = 0 by omega, show (f - m * 2) / 2 = f / 2 - m by omega]
   omega
structure JnS (S : Wood) (W1 : World) (bb : Nat) (R : List Nd) (W : World) : Prop where
 only : Only bb W1 W
 row : ∃ r : List Value, r.length = 16 /\ (∀ i (h1 : i < r.length) (h2 : i < R.length), ndV S r[i] R[i]) /\ W.heap[bb]? = some (.cells (.string ⟨#[]⟩ :: r).toArray 235 (0, 0))
theorem JnS.set {S : Wood} {W1 W : World} {bb : Nat} {R : List Nd} (h : JnS S W1 bb R W) {k : Nat} (hk : k < 16) {z : Value} {t : Nd} (hz : ndV S z t) : (∃ y, W.cell? ⟨bb, 1 + k, none⟩ = some y) /\ W.frozen? ⟨bb, 1 + k, none⟩ = false /\ JnS S W1 bb (R.set k t) (W.setCell ⟨bb, 1 + k, none⟩ z) := by
 obtain ⟨r, e, f, d⟩ := h.row
 refine ⟨⟨r[k], ?_⟩, by simp [World.frozen?, d], ⟨h.only.os, h.only.tape, h.only.output, by simpa using h.only.size, fun j g c => (Below.heap_setCell _ _ _ _ c).trans (h.only.block j g c)⟩, r.set k z, by rw [List.length_set, e], fun i a b => ?_, ?_⟩
 ·simp only [World.cell?, d, Nat.add_comm 1 k]
  simp [e, hk]
 ·rw [List.getElem_set, List.getElem_set]
  split
  ·exact hz
  ·exact f i (by simpa using a) (by simpa using b)
 ·have := Qa2 (cs := .string ⟨#[]⟩ :: r) d (1 + k) z
  rw [this, Nat.add_comm 1 k, List.set_cons_succ]
variable {W : World}
theorem Bru.below {w : World} (h : Bru w) (hb : Below w.heap.size w W) : Bru W := fun i hi => by
 have h1 := h i hi
 rw [World.cell?_of_block (a := ⟨16, i, none⟩) (hb.block _ (World.block_lt_of_cell? w _ h1))]
 exact h1
theorem JnS.start (S : Wood) (w : World) (z : List Value) (hz : z = List.replicate 16 .nilIface) : JnS S (w.alloc (.cells (.string ⟨#[]⟩ :: z).toArray 235)) w.heap.size (List.replicate 16 .no) (w.alloc (.cells (.string ⟨#[]⟩ :: z).toArray 235)) := by
 subst hz
 refine ⟨⟨rfl, rfl, rfl, Nat.le_refl _, fun _ _ _ => rfl⟩, List.replicate 16 .nilIface, by simp, fun i a b => .inl ?_, Qai _ _⟩
 rw [List.getElem_replicate, List.getElem_replicate]
 exact ⟨rfl, rfl⟩
theorem Qri {t : Nd} (h : t ≠ .no) (ts : List Nd) : hasNo (t :: ts) = hasNo ts := by
 cases t with
 | no => exact absurd rfl h
 | _ => rfl
theorem Qxx (f : Nat) (h0 : 0 < f) (h : f < 65536) : IntKind.u16.wrap ((f : Int) - 1) = ((f - 1 : Nat) : Int) := by
 unfold IntKind.wrap
 simp only [IntKind.signed, IntKind.bits]
 simp
 omega
variable {g o c : Nat} {zs : List Value}
theorem Qxy (sent : Nat -> Addr) {w : World} {f : Nat} {ts : List Nd} (hf : Forest B S w) (hF : Faults w sent) (hB : Bru w) (h16 : f < 65536) (hm : ts.length = popN 16 f) (hz : zs.length = ts.length) (hv : ∀ i (h1 : i < zs.length) (h2 : i < ts.length), ndV S zs[i] ts[i]) (hr : w.rangeAt g o zs) :
  Calls Tryz.prog 96 #[.int .u16 (f : Int), .slice (some ⟨g, o, none⟩) ts.length c] w fun e w' => MkS B sent S w ((Od.br f).make ts) e w' := by
 have C : Hid (Forest B S w /\ Faults w sent /\ Bru w /\ zs.length = ts.length /\ w.rangeAt g o zs /\ ts.length <= 16) := ⟨hf, hF, hB, hz, hr, by rw [hm]; exact Qhu 16 f⟩
 have HV := Hq hv
 obtain ⟨m, F⟩ : ∃ m, ts.length = m := ⟨_, rfl⟩
 have L : Hid (ts.length = m /\ m <= 16 /\ popN 16 f = m /\ f < 65536) := ⟨F, by rw [<- F]; exact C.out.2.2.2.2.2, by omega, h16⟩
 rw [F]
 clear hf hF hB hz hr hv hm h16 F
 go_enter Tryz.func96, Tryz.ntmps96
 go_upto_region 2 with fail
 have D : JnS S (w.alloc (.cells #[.string ⟨#[]⟩, .nilIface, .nilIface, .nilIface, .nilIface, .nilIface, .nilIface, .nilIface, .nilIface, .nilIface, .nilIface, .nilIface, .nilIface, .nilIface, .nilIface, .nilIface, .nilIface] 235)) w.heap.size (List.replicate 16 .no) (w.alloc (.cells #[.string ⟨#[]⟩, .nilIface, .nilIface, .nilIface, .nilIface, .nilIface, .nilIface, .nilIface, .nilIface, .nilIface, .nilIface, .nilIface, .nilIface, .nilIface, .nilIface, .nilIface, .nilIface] 235)) := JnS.start S w (List.replicate 16 .nilIface) rfl
 have O : Below w.heap.size w (w.alloc (.cells #[.string ⟨#[]⟩, .nilIface, .nilIface, .nilIface, .nilIface, .nilIface, .nilIface, .nilIface, .nilIface, .nilIface, .nilIface, .nilIface, .nilIface, .nilIface, .nilIface, .nilIface, .nilIface] 235)) := (Below.refl _ _).alloc (Nat.le_refl _) _
 have ah : (w.alloc (.cells #[.string ⟨#[]⟩, .nilIface, .nilIface, .nilIface, .nilIface, .nilIface, .nilIface, .nilIface, .nilIface, .nilIface, .nilIface, .nilIface, .nilIface, .nilIface, .nilIface, .nilIface, .nilIface] 235)).heap.size = w.heap.size + 1 := by simp
 generalize World.alloc w _ = W1 at D O ah ⊢
 obtain ⟨M, P⟩ : ∃ x, w.heap.size = x := ⟨_, rfl⟩
 rw [P] at D ⊢
 have W : Hid (Below w.heap.size w W1 /\ W1.heap.size = M + 1 /\ w.heap.size = M) := ⟨O, by omega, P⟩
 have al := Hq D
 clear D O ah P
 go_wp2
 go_loopg [0, 11] m (fun gh fo i wr => ∃ x fv R, x <= m /\ gh = m - x /\ i = .int .i64 ((x : Nat) : Int) /\ fo = .int .u16 ((fv : Nat) : Int) /\ joinL (ts.drop x) fv R = joinL ts f (List.replicate 16 .no) /\ hasNo ts = hasNo (ts.drop x) /\ popN 16 fv = m - x /\ fv < 65536 /\ R.length = 16 /\ JnS S W1 M R wr /\ oks R)
 case atStart => exact ⟨0, f, List.replicate 16 .no, Nat.zero_le _, rfl, rfl, rfl, by rw [List.drop_zero], by rw [List.drop_zero], L.out.2.2.1, L.out.2.2.2, by simp, al.out, Qmp fun x V => by rw [(List.mem_replicate.1 V).2]; trivial⟩
 case round =>
  obtain ⟨x, fv, R, V, rfl, rfl, rfl, n, s, X, l, N, K, v⟩ := hrel
  have j : Below w.heap.size w wr := K.only.below W.out.1 (by have := W.out; omega) W.out.1.size
  by_cases T : x < m
  ·have i1 : (x : Int) < (m : Int) := by omega
   have H : x < ts.length := by have := L.out.1; omega
   have I : x < zs.length := by have := C.out.2.2.2.1; omega
   have hv := HV.out x I H
   have E : ts.drop x = ts[x] :: ts.drop (x + 1) := List.drop_eq_getElem_cons H
   have G : ts[x].ok := by
    rcases hv with ⟨h, -⟩ | ⟨-, b, -, h⟩
    ·rw [h]; trivial
    ·exact C.out.1.ok b _ h
   obtain ⟨z, J⟩ : ∃ z, zs[x] = z := ⟨_, rfl⟩
   obtain ⟨t, U⟩ : ∃ t, ts[x] = t := ⟨_, rfl⟩
   rw [U] at hv E G
   rw [J] at hv
   have ap : wr.cell? ⟨g, o + x, none⟩ = some z := by
    have h1 := C.out.2.2.2.2.1 x z (by rw [List.getElem?_eq_getElem I, J])
    rw [World.cell?_of_block (a := ⟨g, o + x, none⟩) (j.block g (World.block_lt_of_cell? w _ h1))]
    exact h1
   have ao : wr.cell? ⟨6, 0, none⟩ = some (.iface 243 (.pointer (some (sent 8)))) := (C.out.2.1.below j).var 8 (by decide)
   rw [E] at n s
   have ak := Hq j
   rcases hv with ⟨rfl, rfl⟩ | ⟨hne, b, rfl, hb⟩
   ·have d : Hid (hasNo ts = true) := s
    clear n s E U J G H I X l N K v j V
    go_wp2
    go_quiet (fail)
    go_wp2
    go_ret2
    exact ⟨fun er p => (by rw [Od.make, if_pos d.out] at p; cases p; exact ⟨rfl, Below.drewN ak.out _⟩), fun t p => (by rw [Od.make, if_pos d.out] at p; cases p)⟩
   ·rw [Qri hne] at s
    rw [joinL] at n
    have u : 0 < fv := by
     rcases Nat.eq_zero_or_pos fv with h | h
     ·rw [h, Qn4] at X; omega
     ·exact h
    obtain ⟨-, h2, h3⟩ := QCi u l
    obtain ⟨h4, h5⟩ := Qju 16 fv u (by omega)
    have hu := Qxx fv u l
    have ha := u16_and_nat fv (fv - 1) l (by omega)
    rw [h2] at ha
    have Y := Hq (QCj fv u l wr (C.out.2.2.1.below j))
    obtain ⟨k, hk⟩ : ∃ k, tzN 16 fv = k := ⟨_, rfl⟩
    obtain ⟨f2, Q⟩ : ∃ f2, fv - 2 ^ k = f2 := ⟨_, rfl⟩
    rw [hk] at n h2 h3 h4 h5 ha Y
    rw [Q] at n h4 ha
    obtain ⟨⟨y, hy⟩, aq, Z⟩ := K.set h3 (z := .iface (ndTy t) (.pointer (some ⟨b, 0, none⟩))) (t := t) (.inr ⟨hne, b, rfl, hb⟩)
    have ar : (k : Int) < 16 := by omega
    have d : Hid (x < m /\ joinL (ts.drop (x + 1)) f2 (R.set k t) = joinL ts f (List.replicate 16 .no) /\ hasNo ts = hasNo (ts.drop (x + 1)) /\ popN 16 f2 = m - (x + 1) /\ f2 < 65536 /\ (R.set k t).length = 16 /\ oks (R.set k t)) := by
     refine ⟨T, n, s, by omega, Nat.lt_of_le_of_lt (by rw [<- Q]; exact Nat.sub_le _ _) l, by rw [List.length_set, N], Qmp fun q hq => ?_⟩
     rcases List.mem_or_eq_of_mem_set hq with h | h
     ·exact Qhd v h
     ·rw [h]; exact G
    have am := Hq Z
    have aj : Hid (x + 1 <= 16) := by have := L.out.2.1; show x + 1 <= 16; omega
    clear n s E U J G H I X l N K v j V T h2 h3 h4 h5 u hk Q hb Z ao hne
    go_wp2_with (go_at_call 106; refine Y.out.mono ?_; rintro e wq ⟨rfl, ai⟩; rw [ai]; clear ai wq)
    go_roundg (m - (x + 1))
    case measure => have := d.out.1; omega
    case rel => exact ⟨x + 1, f2, R.set k t, by have := d.out.1; omega, rfl, Qas (Qeu x 1 (by have := aj.out; omega)), rfl, d.out.2.1, d.out.2.2.1, d.out.2.2.2.1, d.out.2.2.2.2.1, d.out.2.2.2.2.2.1, am.out, d.out.2.2.2.2.2.2⟩
  ·obtain rfl : x = m := by omega
   rw [List.drop_of_length_le (by rw [L.out.1]; omega)] at n s
   rw [joinL] at n
   obtain ⟨r, ac, ae, ag⟩ := K.row
   have aa : Fr B S (S.put M (.br R)) w wr := Fr.fresh C.out.1 j (by have := W.out; omega) (t := .br R) (h := ⟨#[]⟩) (r := r) (.inr ⟨rfl, by simp⟩) ⟨ac, ae⟩ (by rw [Nd.ok]; exact ⟨N, v⟩) ag
   have d : Hid (MkS B sent S w ((Od.br f).make ts) (.returned (.tuple #[.iface 229 (.pointer (some ⟨M, 0, none⟩)), .nilIface])) wr) := by
    rw [Od.make, if_neg (by rw [s]; simp [hasNo]), <- n]
    exact ⟨fun er p => (by cases p), fun t p => (by cases p; exact ⟨_, _, rfl, .inr ⟨by simp, _, rfl, Wood.put_same _ _ _⟩, aa⟩)⟩
   clear n s X l N K v j V T ac ae ag aa
   go_wp2
   go_ret2
   exact d.out
structure Tup (w : World) (P : Value -> World -> Prop) (p q c m x y a b : Bool) (vc vm vx vy va vb : Value) (W : World) : Prop where
 pre : c = true -> p = true /\ q = true
 zero : c = false -> W = w
 got : c = true -> ∃ r s, vc = .tuple #[r, s] /\ P (.tuple #[r, s]) W /\ (m = true -> vm = .tuple #[r, s]) /\ (x = true -> vx = r) /\ (y = true -> vy = s) /\ (a = true -> va = r) /\ (b = true -> vb = s)
 dm : m = true -> c = true
 dx : x = true -> m = true
 dy : y = true -> m = true
 da : a = true -> x = true
 db : b = true -> y = true
section
variable {w : World} {P : Value -> World -> Prop} {p q c m x y a b : Bool} {vc vm vx vy va vb : Value} {W : World}
theorem Tup.start (w : World) (P : Value -> World -> Prop) (hc : c = false) (hm : m = false) (hx : x = false) (hy : y = false) (ha : a = false) (hb : b = false) : Tup w P p q c m x y a b vc vm vx vy va vb w := by
 subst hc hm hx hy ha hb
 exact ⟨fun h => (by cases h), fun _ => rfl, fun h => (by cases h), fun h => h, fun h => h, fun h => h, fun h => h, fun h => h⟩
theorem Tup.nop (h : Tup w P p q c m x y a b vc vm vx vy va vb W) (hp : p = false) : c = false := by
 cases hc : c with
 | false => rfl
 | true => have := (h.pre hc).1; rw [hp] at this; cases this
theorem Tup.noq (h : Tup w P p q c m x y a b vc vm vx vy va vb W) (hp : q = false) : c = false := by
 cases hc : c with
 | false => rfl
 | true => have := (h.pre hc).2; rw [hp] at this; cases this
theorem Tup.mp (h : Tup w P p q c m x y a b vc vm vx vy va vb W) : Tup w P true q c m x y a b vc vm vx vy va vb W := ⟨fun k => ⟨rfl, (h.pre k).2⟩, h.zero, h.got, h.dm, h.dx, h.dy, h.da, h.db⟩
theorem Tup.mq (h : Tup w P p q c m x y a b vc vm vx vy va vb W) : Tup w P p true c m x y a b vc vm vx vy va vb W := ⟨fun k => ⟨(h.pre k).1, rfl⟩, h.zero, h.got, h.dm, h.dx, h.dy, h.da, h.db⟩
variable {r s : Value}
theorem Tup.mc {W' : World} (h : Tup w P p q c m x y a b vc vm vx vy va vb W) (hp : p = true) (hq : q = true) (hc : c = false) (hP : P (.tuple #[r, s]) W') : Tup w P p q true m x y a b (.tuple #[r, s]) vm vx vy va vb W' := by
 have d : m = true -> False := fun k => by have := h.dm k; rw [hc] at this; cases this
 have e : x = true -> False := fun k => d (h.dx k)
 have f : y = true -> False := fun k => d (h.dy k)
 exact ⟨fun _ => ⟨hp, hq⟩, fun k => (by cases k), fun _ => ⟨r, s, rfl, hP, fun k => (d k).elim, fun k => (e k).elim, fun k => (f k).elim, fun k => (e (h.da k)).elim, fun k => (f (h.db k)).elim⟩, fun _ => rfl, h.dx, h.dy, h.da, h.db⟩
theorem Tup.mm (h : Tup w P p q c m x y a b vc vm vx vy va vb W) (hc : c = true) : Tup w P p q c true x y a b vc vc vx vy va vb W := by
 refine ⟨h.pre, h.zero, fun k => ?_, fun _ => hc, fun _ => rfl, fun _ => rfl, h.da, h.db⟩
 obtain ⟨r, s, d, e, g, f⟩ := h.got k
 exact ⟨r, s, d, e, fun _ => d, f⟩
theorem Tup.twin (h : Tup w P p q c m x y a b vc vm vx vy va vb W) (hm : m = true) : ∃ r s, vm = .tuple #[r, s] := by
 obtain ⟨r, s, e, f, d, g⟩ := h.got (h.dm hm)
 exact ⟨r, s, d hm⟩
theorem Tup.mx (h : Tup w P p q c m x y a b vc vm vx vy va vb W) (hm : m = true) (e : vm = .tuple #[r, s]) : Tup w P p q c m true y a b vc vm r vy va vb W := by
 refine ⟨h.pre, h.zero, fun k => ?_, h.dm, fun _ => hm, h.dy, fun _ => rfl, h.db⟩
 obtain ⟨t, u, g, i, d, o, j, l, n⟩ := h.got k
 have f := (d hm).symm.trans e
 simp only [Value.tuple.injEq, Array.mk.injEq, List.cons.injEq, and_true] at f
 obtain ⟨rfl, rfl⟩ := f
 exact ⟨_, _, g, i, d, fun _ => rfl, j, l, n⟩
theorem Tup.my (h : Tup w P p q c m x y a b vc vm vx vy va vb W) (hm : m = true) (e : vm = .tuple #[r, s]) : Tup w P p q c m x true a b vc vm vx s va vb W := by
 refine ⟨h.pre, h.zero, fun k => ?_, h.dm, h.dx, fun _ => hm, h.da, fun _ => rfl⟩
 obtain ⟨t, u, g, i, d, j, o, l, n⟩ := h.got k
 have f := (d hm).symm.trans e
 simp only [Value.tuple.injEq, Array.mk.injEq, List.cons.injEq, and_true] at f
 obtain ⟨rfl, rfl⟩ := f
 exact ⟨_, _, g, i, d, j, fun _ => rfl, l, n⟩
theorem Tup.ma (h : Tup w P p q c m x y a b vc vm vx vy va vb W) (hx : x = true) : Tup w P p q c m x y true b vc vm vx vy vx vb W := by
 refine ⟨h.pre, h.zero, fun k => ?_, h.dm, h.dx, h.dy, fun _ => hx, h.db⟩
 obtain ⟨r, s, e, f, g, d, i, l, j⟩ := h.got k
 exact ⟨r, s, e, f, g, d, i, fun _ => d hx, j⟩
theorem Tup.mb (h : Tup w P p q c m x y a b vc vm vx vy va vb W) (hy : y = true) : Tup w P p q c m x y a true vc vm vx vy va vy W := by
 refine ⟨h.pre, h.zero, fun k => ?_, h.dm, h.dx, h.dy, h.da, fun _ => hy⟩
 obtain ⟨r, s, e, f, g, i, d, j, l⟩ := h.got k
 exact ⟨r, s, e, f, g, i, d, j, fun _ => d hy⟩
theorem Tup.done (h : Tup w P p q c m x y a b vc vm vx vy va vb W) (hc : c = true) (ha : a = true) (hb : b = true) : ∃ r s, P (.tuple #[r, s]) W /\ va = r /\ vb = s := by
 obtain ⟨r, s, g, d, i, j, k, e, f⟩ := h.got hc
 exact ⟨r, s, d, e ha, f hb⟩
end
variable {sent : Nat -> Addr} {w' : World} {q : Except Er Nd}
theorem MkS.two {w : World} {e : Ending} (h : MkS B sent S w q e w') : ∃ r s, e = .returned (.tuple #[r, s]) := by
 cases q with
 | error er => exact ⟨_, _, (h.bad er rfl).1⟩
 | ok t => obtain ⟨z, b, a, -⟩ := h.good t rfl; exact ⟨_, _, a⟩
theorem MkS.undrew {w : World} {e : Ending} (h : MkS B sent S w.drew q e w') : MkS B sent S w q e w' :=
 ⟨fun er he => ⟨(h.bad er he).1, ((Below.refl _ _).drew).behind' (h.bad er he).2⟩, fun t he => (by
  obtain ⟨z, S', h1, h2, h3⟩ := h.good t he
  exact ⟨z, S', h1, h2, ⟨h3.os, h3.tape, h3.output, h3.size, h3.other, h3.forest, h3.sub, h3.new, h3.kids⟩⟩)⟩
variable {n nb : Nat}
theorem Qxz (sent : Nat -> Addr) {w : World} {t : Nd} (hn : 0 < n) (hp : w.cell? ⟨nb, 0, none⟩ = some (.string p)) (hz : w.cell? ⟨g, o, none⟩ = some z) (hf : Forest B S w) (hF : Faults w sent) (hv : ndV S z t) (hnp : nibOK p) :
  Calls Tryz.prog 92 #[.slice (some ⟨g, o, none⟩) n c, .pointer (some ⟨nb, 0, none⟩)] w fun e w' => MkS B sent S w (if t.stands = true then .ok (.ext p t) else .error (.base 8)) e w' := by
 have L := Qrh sent (p := p) (w := w.drew) hf.drew (hF.below (Below.refl _ _).drew) hv hnp
 obtain ⟨Q, hQ⟩ : ∃ Q : Except Er Nd, (if t.stands = true then .ok (.ext p t) else .error (.base 8)) = Q := ⟨_, rfl⟩
 rw [hQ] at L ⊢
 have HC : Hid (∀ W, W = w.drew -> Calls Tryz.prog 93 #[.string p, z] W fun e w' => MkS B sent S w.drew Q e w') := fun W h => by rw [h]; exact L
 clear L hQ hf hF hv hnp
 go_enter Tryz.func92, Tryz.ntmps92
 go_upto_region 1 with fail
 refine wp_region_any (by kernel_rfl) ?_
 change wpAny _ _ _ _ _ _ _ (World.drew _)
 obtain ⟨M, j⟩ : ∃ M : Nat -> Option Value, M = fun i => ([some (.string p), some (.slice (some ⟨g, o, none⟩) n c), some (.pointer (some ⟨g, o, none⟩)), some (z), none, none, none, none, none] : List (Option Value)).getD i none := ⟨_, rfl⟩
 refine Qam _ (fun d v w' => (∀ i x, M i = some x -> d i = true -> v i = x) /\ (fun d v w' => Tup w.drew (fun v W => MkS B sent S w.drew Q (.returned v) W) (d 0) (d 3) (d 4) (d 4) (d 5) (d 6) (d 7) (d 8) (v 4) (v 4) (v 5) (v 6) (v 7) (v 8) w') d v w') (by kernel_rfl) (by kernel_rfl) ?_ _ (fun _ => undef) ?_ ?_
 ·intro i o m s q b W k l a f
  have hi : i < 9 := (Array.getElem?_eq_some_iff.1 m).1
  match i, hi with
  | 0, _ =>
   obtain rfl := Option.some.inj m
   have t1 : b.tmps[1]? = some (.pointer (some ⟨nb, 0, none⟩)) := k.rs 1 (by kernel_rfl)
   have hq : W.cell? ⟨nb, 0, none⟩ = some (.string p) := by rw [f.2.zero (f.2.nop l)]; exact hp
   refine Qa1 (.string p) ⟨_, rfl, Qa0 f.1 (ve j rfl), f.2.mp⟩ ?_
   clear m a k f l j
   go_simp
  | 1, _ =>
   obtain rfl := Option.some.inj m
   have t0 : b.tmps[0]? = some (.slice (some ⟨g, o, none⟩) n c) := k.rs 0 (by kernel_rfl)
   refine Qa1 (.slice (some ⟨g, o, none⟩) n c) ⟨_, rfl, Qa0 f.1 (ve j rfl), f.2⟩ ?_
   clear m a k f l j
   go_simp
  | 2, _ =>
   obtain rfl := Option.some.inj m
   have t6 := k.vt 1 6 (.slice (some ⟨g, o, none⟩) n c) (a ⟨1, .data⟩ (by simp) rfl) rfl (by simp) (ve j rfl) f.1
   refine Qa1 (.pointer (some ⟨g, o, none⟩)) ⟨_, rfl, Qa0 f.1 (ve j rfl), f.2⟩ ?_
   clear m a k f l j
   go_simp
  | 3, _ =>
   obtain rfl := Option.some.inj m
   have t7 := k.vt 2 7 (.pointer (some ⟨g, o, none⟩)) (a ⟨2, .data⟩ (by simp) rfl) rfl (by simp) (ve j rfl) f.1
   have hq : W.cell? ⟨g, o, none⟩ = some z := by rw [f.2.zero (f.2.noq l)]; exact hz
   refine Qa1 (z) ⟨_, rfl, Qa0 f.1 (ve j rfl), f.2.mq⟩ ?_
   clear m a k f l j
   go_simp
  | 4, _ =>
   obtain rfl := Option.some.inj m
   have t5 := k.vt 0 5 (.string p) (a ⟨0, .data⟩ (by simp) rfl) rfl (by simp) (ve j rfl) f.1
   have t8 := k.vt 3 8 (z) (a ⟨3, .data⟩ (by simp) rfl) rfl (by simp) (ve j rfl) f.1
   have R := a ⟨0, .data⟩ (by simp) rfl
   have T := a ⟨3, .data⟩ (by simp) rfl
   have D : Hid (s.getD 0 false = true /\ s.getD 3 false = true) := ⟨R, T⟩
   have N := Hq (HC.out W (f.2.zero l))
   refine Qbl fun G F => ?_
   have HG := Hq F
   have E := Hq f
   have P := Hq j
   have O := Hq l
   clear F m a k f l j R T
   go_simp
   go_at_call 93
   refine (N.out).mono ?_
   intro e w9 I
   obtain ⟨y, C, rfl⟩ := I.two
   exact ⟨_, rfl, (HG.out _ _).2 ⟨Qa3 E.out.1 (by rw [P.out]; rfl), (E.out.2.mc D.out.1 D.out.2 O.out I).mm rfl⟩⟩
  | 5, _ =>
   obtain rfl := Option.some.inj m
   have r := a ⟨4, .data⟩ (by simp) rfl
   obtain ⟨y, C, u⟩ := f.2.twin r
   have t9 : b.tmps[9]? = some (.tuple #[y, C]) := (k.done 4 9 r rfl (by simp)).trans (congrArg some u)
   refine Qa1 (y) ⟨_, rfl, Qa3 f.1 (ve j rfl), f.2.mx r u⟩ ?_
   clear m a k f l j r u
   go_simp
  | 6, _ =>
   obtain rfl := Option.some.inj m
   have r := a ⟨4, .data⟩ (by simp) rfl
   obtain ⟨y, C, u⟩ := f.2.twin r
   have t9 : b.tmps[9]? = some (.tuple #[y, C]) := (k.done 4 9 r rfl (by simp)).trans (congrArg some u)
   refine Qa1 (C) ⟨_, rfl, Qa3 f.1 (ve j rfl), f.2.my r u⟩ ?_
   clear m a k f l j r u
   go_simp
  | 7, _ =>
   obtain rfl := Option.some.inj m
   have J := a ⟨5, .data⟩ (by simp) rfl
   have aa : b.tmps[10]? = some (q 5) := k.done 5 10 J rfl (by simp)
   refine Qa1 (q 5) ⟨_, rfl, Qa3 f.1 (ve j rfl), f.2.ma J⟩ ?_
   clear m a k f l j J
   go_simp
  | 8, _ =>
   obtain rfl := Option.some.inj m
   have K := a ⟨6, .data⟩ (by simp) rfl
   have ac : b.tmps[11]? = some (q 6) := k.done 6 11 K rfl (by simp)
   refine Qa1 (q 6) ⟨_, rfl, Qa3 f.1 (ve j rfl), f.2.mb K⟩ ?_
   clear m a k f l j K
   go_simp
 ·exact ⟨fun _ _ _ h => (by simp at h), Tup.start _ _ (by simp) (by simp) (by simp) (by simp) (by simp) (by simp)⟩
 ·intro q W f
  have U : q 0 = .string p := f.1 0 _ (ve j rfl) rfl
  have V : q 1 = .slice (some ⟨g, o, none⟩) n c := f.1 1 _ (ve j rfl) rfl
  have X : q 2 = .pointer (some ⟨g, o, none⟩) := f.1 2 _ (ve j rfl) rfl
  have Y : q 3 = z := f.1 3 _ (ve j rfl) rfl
  have hX := f.2
  simp only [runFrom, Act.put, Nat.zero_add, Nat.reduceAdd, List.setIfInBounds_toArray, List.set_cons_zero, List.set_cons_succ, U, V, X, Y]
  clear f j U V X Y
  obtain ⟨y, C, H, Z, e8⟩ := hX.done rfl rfl rfl
  have HX := Hq H
  rw [Z, e8]
  clear hX H Z e8
  (try go_wp2)
  go_ret2
  exact HX.out.undrew
 -- E1 END
theorem QAg {Q : Except Er Nd} {sl : Value} {w : World} {f : Nat} (hp : w.cell? ⟨nb, 0, none⟩ = some (.int .u16 (f : Int))) (hC : Calls Tryz.prog 96 #[.int .u16 (f : Int), sl] w fun e w' => MkS B sent S w Q e w') :
  Calls Tryz.prog 95 #[sl, .pointer (some ⟨nb, 0, none⟩)] w fun e w' => MkS B sent S w Q e w' := by
 have b := Hq hC
 clear hC
 go_enter Tryz.func95, Tryz.ntmps95
 go_wp2_with fail
 refine b.out.mono ?_
 intro e d a
 obtain ⟨r, s, rfl⟩ := a.two
 have c := Hq a
 clear a
 go_wp2
 go_ret2
 exact c.out
def Od.fn : Od -> FuncId
 | .gives _ => 88
 | .ext _ => 92
 | .br _ => 95
def Od.ok : Od -> Prop
 | .gives _ => True
 | .ext p => nibOK p
 | .br f => f < 65536 /\ 2 <= popN 16 f
theorem enOd (d : Od) (args : Array Value) (w : World) : (callFunc d.fn args).run Tryz.prog w = .ok (.enter d.fn args) w := by
 cases d with
 | gives _ => kernel_rfl
 | ext _ => kernel_rfl
 | br _ => kernel_rfl
variable {v : Value}
theorem OpV.form {w : World} {d : Od} (h : OpV w S nb v d) : v = .agg #[.int .i64 ((d.takes : Nat) : Int), .func (.func d.fn) #[] #[.pointer (some ⟨nb, 0, none⟩)]] := by
 cases d with
 | gives _ => exact h.1
 | ext _ => exact h.1
 | br _ => exact h.1
theorem QCk (sent : Nat -> Addr) {w : World} {d : Od} {ts : List Nd} {pp : Option Addr} (hV : OpV w S nb v d) (hd : d.ok) (hf : Forest B S w) (hF : Faults w sent) (hB : Bru w) (hm : ts.length = d.takes) (hz : zs.length = ts.length) (hv : ∀ i (h1 : i < zs.length) (h2 : i < ts.length), ndV S zs[i] ts[i]) (hr : 0 < ts.length -> ∃ g o, pp = some ⟨g, o, none⟩ /\ w.rangeAt g o zs) :
  Calls Tryz.prog d.fn #[.slice pp ts.length c, .pointer (some ⟨nb, 0, none⟩)] w fun e w' => MkS B sent S w (d.make ts) e w' := by
 cases d with
 | gives t =>
  obtain ⟨-, z, h1, h2⟩ := hV
  refine (Qrg _ z nb w h1).mono ?_
  rintro e w' ⟨rfl, rfl⟩
  exact ⟨fun h b => (by cases b), fun j b => (by cases b; exact ⟨z, S, rfl, h2, Fr.refl hf⟩)⟩
 | ext p =>
  have h1 : ts.length = 1 := hm
  obtain ⟨g, o, rfl, a⟩ := hr (by omega)
  obtain ⟨t, rfl⟩ : ∃ t, ts = [t] := by
   match ts, h1 with
   | [t], _ => exact ⟨t, rfl⟩
  obtain ⟨z, rfl⟩ : ∃ z, zs = [z] := by
   match zs, hz with
   | [z], _ => exact ⟨z, rfl⟩
  exact Qxz sent (by simp) hV.2 (by have := a 0 z rfl; simpa using this) hf hF (hv 0 (by simp) (by simp)) hd
 | br f =>
  obtain ⟨g, o, rfl, a⟩ := hr (by rw [hm]; have := hd.2; show 0 < popN 16 f; omega)
  exact QAg hV.2 (Qxy sent hf hF hB hd.1 hm hz hv a)
def stepO (s : ByteArray) (ts : List Nd) : Except Er (List Nd × ByteArray) := match opRd s with
 | .error e => .error e
 | .ok (d, s') => if ts.length < d.takes then .error (.base 10) else match d.make (ts.drop (ts.length - d.takes)) with
  | .error e => .error e
  | .ok t => .ok (ts.take (ts.length - d.takes) ++ [t], s')
structure Stk (S : Wood) (C sb : Nat) (ts : List Nd) (v : Value) (zs : List Value) (w : World) : Prop where
 cell : w.heap[sb]? = some (.cells #[v] 85 (0, 0))
 row : OwnC w C 1 v ts.length zs
 nodes : ∀ i (h1 : i < zs.length) (h2 : i < ts.length), ndV S zs[i] ts[i]
 away : ∀ k, v.ownBlock = some k -> S k = none
variable {C sb : Nat}
theorem Stk.len {ts : List Nd} {w : World} (h : Stk S C sb ts v zs w) : zs.length = ts.length := by have := h.row.1; omega
theorem Stk.keep {B : Nat} {X : Nat -> Prop} {S S' : Wood} {C sb : Nat} {ts : List Nd} {v : Value} {zs : List Value} {w w' : World} (h : Stk S C sb ts v zs w) (hf : FrX B X S S' w w') (hs : S sb = none) (hx : ¬ X sb) (hv : ∀ k, v.ownBlock = some k -> ¬ X k) : Stk S' C sb ts v zs w' := by
 have d : sb < w.heap.size := (Array.getElem?_eq_some_iff.1 h.cell).1
 refine ⟨(hf.other sb d hs hx).trans h.cell, h.row.keep hf.size fun k c e => hf.other k c (h.away k e) (hv k e), fun i a b => ndV.sub hf.sub (h.nodes i a b), fun k e => hf.new k (h.row.block k e).2 (h.away k e)⟩
def KpC (rb sb C : Nat) (S : Wood) (w w' : World) : Prop := ∀ k, k < C -> k ≠ rb -> k ≠ sb -> S k = none -> w'.heap[k]? = w.heap[k]?
structure NxS (B : Nat) (sent : Nat -> Addr) (rb sb C : Nat) (S : Wood) (w : World) (q : Except Er (List Nd × ByteArray)) (e : Ending) (w' : World) : Prop where
 bad : ∀ er, q = .error er -> e = .returned (er.val sent) /\ Below B w w' /\ KpC rb sb C S w w'
 good : ∀ ts s, q = .ok (ts, s) -> ∃ S' v zs, e = .returned .nilIface /\ FrX B (B <= ·) S S' w w' /\ RdAt w' rb s /\ Stk S' C sb ts v zs w' /\ KpC rb sb C S w w'
theorem Qy0 (pv : Option Addr) (n cv m : Nat) (h1 : m <= n) (w : World) : (Instr.sliceAt 83 (.slice pv n cv) (some (.int .i64 (m : Int))) none none).run Tryz.prog w = .ok (.slice (if cv = m then pv else pv.map (·.add (m * 1))) (n - m) (cv - m)) w := by
 have a : (sizeOf 56).run Tryz.prog w = .ok 1 w := by kernel_rfl
 simp [Instr.sliceAt, Instr.slice, Instr.sliceBounds, Instr.sliceBound, asIntOf, run_underlying Tryz.underlying83, go_sem, h1, a]
theorem QCl (pv : Option Addr) (n cv m : Nat) (h1 : m <= cv) (w : World) : (Instr.sliceAt 83 (.slice pv n cv) none (some (.int .i64 (m : Int))) none).run Tryz.prog w = .ok (.slice pv m cv) w := by
 have a : (sizeOf 56).run Tryz.prog w = .ok 1 w := by kernel_rfl
 simp [Instr.sliceAt, Instr.slice, Instr.sliceBounds, Instr.sliceBound, asIntOf, run_underlying Tryz.underlying83, go_sem, h1, a]
theorem FrX.wide {X Y : Nat -> Prop} {S' : Wood} {w : World} (h : FrX B X S S' w w') (hXY : ∀ k, X k -> Y k) : FrX B Y S S' w w' := ⟨h.os, h.tape, h.output, h.size, fun k a b c => h.other k a b fun x => c (hXY k x), h.forest, h.sub, h.new⟩
theorem nodZ : (Tryz.prog.info? 56).map (fun i => (i.zero, i.size, i.bytes)) = some (some .nilIface, 1, 16) := by kernel_rfl
theorem Qj9 (w : World) (z : Value) (hz : z.cells = #[z]) : (Instr.buildSlice 83 1 #[(0, z)]).run Tryz.prog w = .ok (.slice (some ⟨w.heap.size, 0, none⟩) 1 1) (w.alloc (.cells #[z] 56)) := by
 obtain ⟨i, b, c, a, d⟩ := info_parts nodZ
 refine run_buildSlice w _ 56 1 _ #[z] i .nilIface Tryz.underlying83 b c (by rw [a]; decide) (by rw [a]; decide) ?_
 rw [a]
 have := Great.fill_whole (s := 1) (by decide) [z] ((Array.range (1 * 1)).map ((Value.nilIface).cells[· % (Value.nilIface).cells.size]!)) (by simp [hz]) (by simp)
 simpa [hz] using this
theorem box1 {x : Value} {t : TypeId} (h : W.heap[n]? = some (.cells #[x] t (0, 0))) : W.cell? ⟨n, 0, none⟩ = some x /\ W.frozen? ⟨n, 0, none⟩ = false := by
 constructor
 ·simp [World.cell?, h]
 ·simp [World.frozen?, h]
theorem Qb8 {x : Value} {t : TypeId} (h : W.heap[n]? = some (.cells #[x] t (0, 0))) (y : Value) : (W.setCell ⟨n, 0, none⟩ y).heap[n]? = some (.cells #[y] t (0, 0)) /\ Only n W (W.setCell ⟨n, 0, none⟩ y) :=
 ⟨by have := Qa2 (cs := [x]) h 0 y; simpa using this, rfl, rfl, rfl, by simp, fun k _ hne => Below.heap_setCell _ _ _ _ hne⟩
theorem OwnC.head' {w : World} {p : Option Addr} {cs : List Value} (h : OwnC w B 1 (.slice p n c) n cs) {i : Nat} (hi : i <= n) : OwnC w B 1 (.slice p i c) i (cs.take i) := by
 rcases h.2 with ⟨h1, h2⟩ | ⟨g, cap, h1, -⟩
 ·cases h1
  obtain rfl : i = 0 := by omega
  exact OwnC.nil _ _ _
 ·cases h1
  exact h.head i hi
theorem Stk.push {cv m : Nat} {ts : List Nd} {pv : Option Addr} {w4 : World} {o : Obj} {v2 : Value} {t : Nd} (h : Stk S C sb ts (.slice pv n cv) zs W) (hf : Forest B S W) (hs : sb < C) (hsB : B <= sb) (hS : S sb = none) (hz : ndV S z t) (hm : m <= ts.length) (hCW : C <= W.heap.size) (hO : OwnC w4 C 1 v2 (m + 1) (zs.take m ++ [z])) (hg : (W.alloc o).grownBy w4 (Value.ownBlock (.slice pv m cv))) (hv : ∀ k, v2.ownBlock = some k -> Value.ownBlock (.slice pv m cv) = some k \/ (W.alloc o).heap.size <= k) :
  w4.heap[sb]? = W.heap[sb]? /\ ∀ w5, w5.heap[sb]? = some (.cells #[v2] 85 (0, 0)) -> Only sb w4 w5 -> FrX B (B <= ·) S S W w5 /\ Stk S C sb (ts.take m ++ [t]) v2 (zs.take m ++ [z]) w5 /\ ∀ k, k < C -> k ≠ sb -> w5.heap[k]? = W.heap[k]? := by
 have j : Value.ownBlock (.slice pv m cv) = Value.ownBlock (.slice pv n cv) := by cases pv <;> rfl
 rw [j] at hg hv
 have w : (W.alloc o).heap.size = W.heap.size + 1 := by simp
 have x := hg.size
 have c : ∀ k, k < W.heap.size -> Value.ownBlock (.slice pv n cv) ≠ some k -> w4.heap[k]? = W.heap[k]? := fun k a d => (hg.block k (by omega) (fun e => d e.symm)).trans (((Below.refl _ _).alloc (Nat.le_refl _) o).block k a)
 have d : ∀ k, k < C -> Value.ownBlock (.slice pv n cv) ≠ some k := fun k a e => by have := (h.row.block k e).1; omega
 refine ⟨c sb (by omega) (d sb hs), fun w5 v b => ⟨⟨b.os.trans hg.os, b.tape.trans hg.tape, b.output.trans hg.output, by have := b.size; omega, fun k a y E => ?_, hf.keep (by have := b.size; omega) fun k u a => ?_, fun _ _ h => h, fun _ _ h => h⟩, ⟨v, ?_, fun i f g => ?_, fun k e => ?_⟩, fun k a q => (b.block k (by omega) q).trans (c k (by omega) (d k a))⟩⟩
 ·exact (b.block k (by omega) (by omega)).trans (c k a (d k (by omega)))
 ·have p := hf.lt a
  have f : k ≠ sb := fun e => by rw [e, hS] at a; cases a
  have g : Value.ownBlock (.slice pv n cv) ≠ some k := fun e => by rw [h.away k e] at a; cases a
  exact (b.block k (by omega) f).trans (c k p g)
 ·have : (ts.take m ++ [t]).length = m + 1 := by rw [List.length_append, List.length_take, Nat.min_eq_left hm]; rfl
  rw [this]
  exact hO.keep b.size fun k a e => b.block k a fun A => by have := (hO.block k e).1; omega
 ·have s : (zs.take m).length = m := by rw [List.length_take, h.len, Nat.min_eq_left hm]
  have r : (ts.take m).length = m := by rw [List.length_take, Nat.min_eq_left hm]
  by_cases D : i < m
  ·rw [List.getElem_append_left (by omega), List.getElem_append_left (by omega), List.getElem_take, List.getElem_take]
   exact h.nodes i _ _
  ·have l : i = m := by simp [List.length_take] at g; omega
   subst l
   rw [List.getElem_append_right (by omega), List.getElem_append_right (by omega)]
   simp only [s, r, Nat.sub_self, List.getElem_cons_zero]
   exact hz
 ·rcases hv k e with f | f
  ·exact h.away k f
  ·exact hf.fresh (by omega)
theorem Qpw (t : ByteArray) : forkF t < 65536 := by
 have h : ∀ i, (bytesOf t)[i]! < 256 := fun i => by
  by_cases a : i < (bytesOf t).length
  ·rw [getElem!_pos (bytesOf t) i a]; exact Qao t _ (List.getElem_mem a)
  ·rw [getElem!_neg (bytesOf t) i a]; decide
 have b := h 0
 have c := h 1
 unfold forkF
 omega
theorem QAh {s s' : ByteArray} {d : Od} (h : opRd s = .ok (d, s')) : d.ok := by
 unfold opRd at h
 split at h
 ·cases h
 ·cases h; trivial
 ·unfold opLeaf at h
  split at h
  ·cases h
  ·split at h
   ·cases h
   ·split at h
    ·cases h
    ·split at h
     ·cases h
     ·cases h; trivial
 ·unfold opExt at h
  split at h
  ·cases h
  ·rename_i h1
   split at h
   ·cases h
   ·rename_i h2
    split at h
    ·cases h
    ·cases h
     have := Qht (Qlb h1).2 h2
     exact ⟨by omega, this.2.2.1⟩
 ·unfold opBr at h
  split at h
  ·cases h
  ·split at h
   ·cases h
   ·cases h
    exact ⟨Qpw _, by omega⟩
 ·unfold opStub at h
  split at h
  ·cases h
  ·cases h; trivial
 ·cases h
theorem Qn5 {w : World} {m : Nat} {l : List Value} (h : w.rangeAt g o l) : w.rangeAt g (o + m) (l.drop m) := fun j u hj => by
 rw [List.getElem?_drop] at hj
 have := h (m + j) u hj
 rw [Nat.add_assoc]
 exact this
attribute [-go_sem] Instr.buildSlice
theorem Quj {w0 : World} (sent : Nat -> Addr) {w : World} {rb : Nat} {s : ByteArray} {ts : List Nd} (hf : Forest w0.heap.size S w) (hF : Faults w0 sent) (hB : Bru w0) (hb : Below w0.heap.size w0 w) (hr : RdAt w rb s) (hk : Stk S C sb ts v zs w) (h1 : w0.heap.size <= rb) (h2 : w0.heap.size <= sb) (h3 : rb < C) (h4 : sb < C) (h5 : rb ≠ sb) (h6 : S rb = none) (h7 : S sb = none) (h8 : ts.length <= 1000000) (h9 : C <= w.heap.size) :
  Calls Tryz.prog 34 #[.pointer (some ⟨sb, 0, none⟩), .pointer (some ⟨rb, 0, none⟩)] w fun e w' => NxS w0.heap.size sent rb sb C S w (stepO s ts) e w' := by
 have P : Hid (Forest w0.heap.size S w /\ Below w0.heap.size w0 w /\ w0.heap.size <= rb /\ w0.heap.size <= sb /\ rb < C /\ sb < C /\ rb ≠ sb /\ S rb = none /\ S sb = none /\ ts.length <= 1000000) := ⟨hf, hb, h1, h2, h3, h4, h5, h6, h7, h8⟩
 have HE : Hid (Faults w0 sent /\ Bru w0) := ⟨hF, hB⟩
 have N : Hid (C <= w.heap.size) := h9
 obtain ⟨i0, hi, dw, dz, eb⟩ := info_parts nodZ
 have HK := Hq hk
 have ci : RdE sent rb w := ⟨hF.below hb, fun n hn => ⟨by have := hF.low hn; omega, by have := (hF.plain n hn).lt; omega⟩⟩
 have HC := Hq (Qui sent hf h6 ci hr)
 have cp := Qhr
 clear hf hF hB hb hr hk h1 h2 h3 h4 h5 h6 h7 h8 h9 ci
 go_enter Tryz.func34, Tryz.ntmps34
 go_wp2_with fail
 refine HC.out.mono ?_
 intro e w1 hS
 cases V : opRd s with
 | error er =>
  obtain ⟨rfl, U⟩ := hS.bad er V
  obtain ⟨t1, q1, q2⟩ := put2 (Qai w1 (.cells #[.int .i64 0, .nilFunc] 123)) (.int .i64 0) .nilFunc
  have HX : Hid (NxS w0.heap.size sent rb sb C S w (stepO s ts) (.returned (er.val sent)) ((w1.alloc (.cells #[.int .i64 0, .nilFunc] 123)).setCells w1.heap.size 0 [.int .i64 0, .nilFunc])) := by
   have : stepO s ts = .error er := by unfold stepO; rw [V]
   rw [this]
   have bz : w0.heap.size <= w1.heap.size := by have := P.out.1.le; have := U.size; omega
   have hk : KpC rb sb C S w ((w1.alloc (.cells #[.int .i64 0, .nilFunc] 123)).setCells w1.heap.size 0 [.int .i64 0, .nilFunc]) := fun k hk h1 _ h3 => by
    have hc := N.out
    have hs := U.size
    exact (q2.block k (by simp; omega) (by omega)).trans ((Qby w1 _ (by omega)).trans (U.other k (by omega) h3 h1))
   exact ⟨fun bj I => (by cases I; exact ⟨rfl, q2.below ((U.below P.out.1 (fun k hk => by rw [hk]; exact P.out.2.2.1)).alloc bz _) bz (by simp; omega), hk⟩), fun _ _ I => (by cases I)⟩
  clear hS U V q1 q2
  obtain ⟨T, x, I⟩ : ∃ T x, er.val sent = .iface T x := by cases er <;> exact ⟨_, _, rfl⟩
  rw [I] at HX ⊢
  clear I
  go_wp2_with (refine wpList_store_mid rfl 123 _ _ rfl w1.heap.size 0 #[.int .i64 0, .nilFunc] rfl rfl t1 cp (by simp [Value.oneCell']) ?_)
  go_ret
  exact HX.out
 | ok z =>
  obtain ⟨d, s1⟩ := z
  obtain ⟨J, v1, R, rfl, hV, ak, cg, ch, U, ah⟩ := hS.good d s1 V
  obtain rfl := hV.form
  have ax : Stk R C sb ts v zs w1 := HK.out.keep U P.out.2.2.2.2.2.2.2.2.1 (fun e => P.out.2.2.2.2.2.2.1 e.symm) (fun k e e2 => by have := (HK.out.row.block k e).1; have := P.out.2.2.2.2.1; omega)
  obtain ⟨K, cv, rfl, ej⟩ := ax.row.cap
  obtain ⟨t1, q1, q2⟩ := put2 (Qai w1 (.cells #[.int .i64 0, .nilFunc] 123)) (.int .i64 ((d.takes : Nat) : Int)) (.func (.func d.fn) #[] #[.pointer (some ⟨J, 0, none⟩)])
  have ac : Below w1.heap.size w1 ((w1.alloc (.cells #[.int .i64 0, .nilFunc] 123)).setCells w1.heap.size 0 [.int .i64 ((d.takes : Nat) : Int), .func (.func d.fn) #[] #[.pointer (some ⟨J, 0, none⟩)]]) := q2.below ((Below.refl _ _).alloc (Nat.le_refl _) _) (Nat.le_refl _) (by simp)
  have E : Hid (opRd s = .ok (d, s1) /\ FrX w0.heap.size (· = rb) S R w w1 /\ RdAt w1 rb s1 /\ OpV w1 R J (.agg #[.int .i64 ((d.takes : Nat) : Int), .func (.func d.fn) #[] #[.pointer (some ⟨J, 0, none⟩)]]) d /\ w.heap.size <= J /\ J < w1.heap.size /\ R J = none /\ Stk R C sb ts (.slice K ts.length cv) zs w1) := ⟨V, U, ah, hV, ak, cg, ch, ax⟩
  have dg : Hid ((w1.alloc (.cells #[.int .i64 0, .nilFunc] 123)).setCells w1.heap.size 0 [.int .i64 ((d.takes : Nat) : Int), .func (.func d.fn) #[] #[.pointer (some ⟨J, 0, none⟩)]] = (w1.alloc (.cells #[.int .i64 0, .nilFunc] 123)).setCells w1.heap.size 0 [.int .i64 ((d.takes : Nat) : Int), .func (.func d.fn) #[] #[.pointer (some ⟨J, 0, none⟩)]]) := rfl
  clear hS V U ah hV ak cg ch ax dg
  go_upto_region 4 with (refine wpList_store_mid rfl 123 _ _ rfl w1.heap.size 0 #[.int .i64 ((d.takes : Nat) : Int), .func (.func d.fn) #[] #[.pointer (some ⟨J, 0, none⟩)]] rfl rfl t1 cp (by simp [Value.oneCell']) ?_)
  generalize World.setCells _ _ _ _ = w2 at q1 ac ⊢
  obtain ⟨xb, ba⟩ : ∃ x, w1.heap.size = x := ⟨_, rfl⟩
  rw [ba] at q1 ⊢
  obtain ⟨n, hn⟩ : ∃ n, ts.length = n := ⟨_, rfl⟩
  obtain ⟨k, hk⟩ : ∃ k, d.takes = k := ⟨_, rfl⟩
  rw [hk] at q1 ⊢
  obtain ⟨e0, e1, -⟩ := Qa7 q1
  have cm : sb < w1.heap.size := (Array.getElem?_eq_some_iff.1 E.out.2.2.2.2.2.2.2.cell).1
  have e2 : w2.cell? ⟨sb, 0, none⟩ = some (.slice K n cv) := by
   rw [World.cell?_of_block (a := ⟨sb, 0, none⟩) (ac.block sb cm)]
   simp [World.cell?, E.out.2.2.2.2.2.2.2.cell, hn]
  have ae : FrX w0.heap.size (w0.heap.size <= ·) S R w w2 := (E.out.2.1.wide fun j hj => by rw [hj]; exact P.out.2.2.1).behind ac
  have aa : Below w0.heap.size w0 w2 := P.out.2.1.trans (ae.below P.out.1 fun _ h => h)
  have bc : Hid (w2.cell? ⟨xb, 0, none⟩ = some (.int .i64 (k : Int)) /\ w2.cell? ⟨xb, 1, none⟩ = some (.func (.func d.fn) #[] #[.pointer (some ⟨J, 0, none⟩)]) /\ w2.cell? ⟨sb, 0, none⟩ = some (.slice K n cv)) := ⟨e0, e1, e2⟩
  have bx : KpC rb sb C S w w2 := fun k hk h1 _ h3 => by
   have hc := N.out
   have hs := E.out.2.1.size
   exact (ac.block k (by omega)).trans (E.out.2.1.other k (by omega) h3 h1)
  have am := Hq bx
  have D : Hid (w1.heap.size = xb /\ ts.length = n /\ d.takes = k /\ Below w1.heap.size w1 w2 /\ FrX w0.heap.size (w0.heap.size <= ·) S R w w2 /\ Below w0.heap.size w0 w2 /\ n <= cv) := ⟨ba, hn, hk, ac, ae, aa, by omega⟩
  have cz : w2.cell? ⟨8, 0, none⟩ = some (.iface 243 (.pointer (some (sent 10)))) := (HE.out.1.below aa).var 10 (by decide)
  have ak : n <= 1000000 := by rw [<- hn]; exact P.out.2.2.2.2.2.2.2.2.2
  clear t1 q1 q2 ba hn hk cm ac ae aa bx
  by_cases ay : n < k
  ·have KW : Hid (wrap64 ((n : Int) - (k : Int)) = (n : Int) - (k : Int)) := by
    have em : k <= 16 := by
     rw [<- D.out.2.2.1]
     cases d with
     | gives _ => exact Nat.zero_le _
     | ext _ => show 1 <= 16; decide
     | br f => exact Qhu 16 f
    have h : wrap64 ((n : Int) - (k : Int)) = (n : Int) - (k : Int) := by unfold wrap64; omega
    exact h
   have i1 : (n : Int) - (k : Int) < 0 := by omega
   have HX : Hid (∀ j, NxS w0.heap.size sent rb sb C S w (stepO s ts) (.returned (.iface 243 (.pointer (some (sent 10))))) (w2.drewN j)) := fun j => by
    have : stepO s ts = .error (.base 10) := by
     unfold stepO
     rw [E.out.1]
     dsimp only
     rw [D.out.2.1, D.out.2.2.1, if_pos ay]
    rw [this]
    exact ⟨fun bj I => (by cases I; exact ⟨rfl, Below.drewN (D.out.2.2.2.2.1.below P.out.1 fun _ h => h) _, fun k hk h1 h2 h3 => ((Below.drewN (Below.refl w2.heap.size w2) j).block k (by have := N.out; have := D.out.2.2.2.2.1.size; omega)).trans (am.out k hk h1 h2 h3)⟩), fun _ _ I => (by cases I)⟩
   clear ay ak
   go_quiet (fail)
   rw [KW.out]
   go_wp2
   go_ret
   exact HX.out _
  ·obtain ⟨m, hm⟩ : ∃ m, n - k = m := ⟨_, rfl⟩
   have KW : Hid (wrap64 ((n : Int) - (k : Int)) = (m : Int)) := by
    have h : wrap64 ((n : Int) - (k : Int)) = (m : Int) := by unfold wrap64; omega
    exact h
   have i1 : ¬ (m : Int) < 0 := by omega
   have cf : m <= n := by omega
   obtain ⟨pp, az⟩ : ∃ pp, (if cv = m then K else K.map (·.add (m * 1))) = pp := ⟨_, rfl⟩
   obtain ⟨cc, bo⟩ : ∃ cc, cv - m = cc := ⟨_, rfl⟩
   have qs := fun w => Qy0 K n cv m cf w
   rw [az, bo, show n - m = k by omega] at qs
   obtain ⟨Q, hQ⟩ : ∃ Q, d.make (ts.drop m) = Q := ⟨_, rfl⟩
   have ao : Hid (∀ W, Below w2.heap.size w2 W -> Calls Tryz.prog d.fn #[.slice pp k cc, .pointer (some ⟨J, 0, none⟩)] W fun e w' => MkS w0.heap.size sent R W Q e w') := fun W hW => by
    have Y := E.out.2.2.2.2.2.2.2
    have O : Below w1.heap.size w1 W := D.out.2.2.2.1.trans (hW.mono D.out.2.2.2.1.size)
    have aa : Below w0.heap.size w0 W := D.out.2.2.2.2.2.1.trans (hW.mono D.out.2.2.2.2.2.1.size)
    have aw : (ts.drop m).length = k := by rw [List.length_drop, D.out.2.1]; omega
    have ec : (zs.drop m).length = k := by rw [List.length_drop, Y.len, D.out.2.1]; omega
    have hV : OpV W R J (.agg #[.int .i64 ((d.takes : Nat) : Int), .func (.func d.fn) #[] #[.pointer (some ⟨J, 0, none⟩)]]) d := E.out.2.2.2.1.only (g := w1.heap.size) ⟨O.os, O.tape, O.output, O.size, fun i hi _ => O.block i hi⟩ E.out.2.2.2.2.2.1 (by have := E.out.2.2.2.2.2.1; omega)
    have := QCk (B := w0.heap.size) (pp := pp) (c := cc) (ts := ts.drop m) (zs := zs.drop m) sent hV (QAh E.out.1) (Fr.of_below D.out.2.2.2.2.1.forest hW).forest (HE.out.1.below aa) (HE.out.2.below aa) (by rw [aw, D.out.2.2.1]) (by rw [aw, ec]) (fun i h1 h2 => by rw [List.getElem_drop, List.getElem_drop]; exact Y.nodes (m + i) _ _) (fun h0 => by
     obtain ⟨g, eh, hv, -, hg, cw, -, -, dr⟩ := Y.row.full (by rw [D.out.2.1]; omega)
     cases hv
     refine ⟨g, 0 + m, ?_, Qn5 (Qa4 dr (O.block g hg))⟩
     rw [<- az, if_neg (by rw [D.out.2.1] at cw; omega)]
     simp [Addr.add]
     try omega)
    rw [aw, hQ] at this
    exact this
   have HM : Hid (n - k = m /\ k <= n /\ d.make (ts.drop m) = Q /\ m <= cv) := ⟨hm, by omega, hQ, by have := D.out.2.2.2.2.2.2; omega⟩
   have dj := enOd d
   clear ay cf az bo hQ hm
   go_upto_region 7 with (go_quiet (fail); rw [KW.out])
   obtain ⟨w3, b7⟩ : ∃ x, (w2.drewN nq).drew = x := ⟨_, rfl⟩
   have L : Hid (Below w2.heap.size w2 w3 /\ w3.cell? ⟨xb, 1, none⟩ = some (.func (.func d.fn) #[] #[.pointer (some ⟨J, 0, none⟩)]) /\ w3.cell? ⟨sb, 0, none⟩ = some (.slice K n cv)) := by
    rw [<- b7]
    exact ⟨(Below.drewN (Below.refl _ _) _).drew, by simpa using bc.out.2.1, by simpa using bc.out.2.2⟩
   refine wp_region_any (by kernel_rfl) ?_
   change wpAny _ _ _ _ _ _ _ (World.drew _)
   obtain ⟨vf, q⟩ : ∃ vf : Nat -> Option Value, vf = fun i => ([some (.pointer (some ⟨xb, 1, none⟩)), some (.func (.func d.fn) #[] #[.pointer (some ⟨J, 0, none⟩)]), some (.pointer (some ⟨sb, 0, none⟩)), some (.pointer (some ⟨sb, 0, none⟩)), some (.pointer (some ⟨sb, 0, none⟩)), some (.slice K n cv), some (.int .i64 (m : Int)), some (.slice pp k cc), none, none, none, none, none, none] : List (Option Value)).getD i none := ⟨_, rfl⟩
   refine Qam _ (fun d v w' => (∀ i x, vf i = some x -> d i = true -> v i = x) /\ (fun d v w' => Tup w3 (fun v W => MkS w0.heap.size sent R w3 Q (.returned v) W) (d 1) (d 5) (d 8) (d 9) (d 10) (d 11) (d 12) (d 13) (v 8) (v 9) (v 10) (v 11) (v 12) (v 13) w' /\ (d 7 = true -> d 5 = true)) d v w') (by kernel_rfl) (by kernel_rfl) ?_ _ (fun _ => undef) ?_ ?_
   ·intro i o F Z H b W r y l p
    have hi : i < 14 := (Array.getElem?_eq_some_iff.1 F).1
    match i, hi with
    | 0, _ =>
     obtain rfl := Option.some.inj F
     have t5 : b.tmps[5]? = some (.pointer (some ⟨xb, 0, none⟩)) := r.rs 5 (by kernel_rfl)
     refine Qa1 (.pointer (some ⟨xb, 1, none⟩)) ⟨_, rfl, Qa0 p.1 (ve q rfl), p.2⟩ ?_
     clear F l r p y q
     go_simp
    | 1, _ =>
     obtain rfl := Option.some.inj F
     have eo := r.vt 0 29 (.pointer (some ⟨xb, 1, none⟩)) (l ⟨0, .data⟩ (by simp) rfl) rfl (by simp) (ve q rfl) p.1
     have V : W.cell? ⟨xb, 1, none⟩ = some (.func (.func d.fn) #[] #[.pointer (some ⟨J, 0, none⟩)]) := by rw [p.2.1.zero (p.2.1.nop y)]; exact L.out.2.1
     refine Qa1 (.func (.func d.fn) #[] #[.pointer (some ⟨J, 0, none⟩)]) ⟨_, rfl, Qa0 p.1 (ve q rfl), p.2.1.mp, p.2.2⟩ ?_
     clear F l r p y q
     go_simp
    | 2, _ =>
     obtain rfl := Option.some.inj F
     have t0 : b.tmps[0]? = some (.pointer (some ⟨sb, 0, none⟩)) := r.rs 0 (by kernel_rfl)
     refine Qa1 (.pointer (some ⟨sb, 0, none⟩)) ⟨_, rfl, Qa0 p.1 (ve q rfl), p.2⟩ ?_
     clear F l r p y q
     go_simp
    | 3, _ =>
     obtain rfl := Option.some.inj F
     have es := r.vt 2 31 (.pointer (some ⟨sb, 0, none⟩)) (l ⟨2, .data⟩ (by simp) rfl) rfl (by simp) (ve q rfl) p.1
     refine Qa1 (.pointer (some ⟨sb, 0, none⟩)) ⟨_, rfl, Qa0 p.1 (ve q rfl), p.2⟩ ?_
     clear F l r p y q
     go_simp
    | 4, _ =>
     obtain rfl := Option.some.inj F
     have eu := r.vt 3 32 (.pointer (some ⟨sb, 0, none⟩)) (l ⟨3, .data⟩ (by simp) rfl) rfl (by simp) (ve q rfl) p.1
     refine Qa1 (.pointer (some ⟨sb, 0, none⟩)) ⟨_, rfl, Qa0 p.1 (ve q rfl), p.2⟩ ?_
     clear F l r p y q
     go_simp
    | 5, _ =>
     obtain rfl := Option.some.inj F
     have ew := r.vt 4 33 (.pointer (some ⟨sb, 0, none⟩)) (l ⟨4, .data⟩ (by simp) rfl) rfl (by simp) (ve q rfl) p.1
     have V : W.cell? ⟨sb, 0, none⟩ = some (.slice K n cv) := by rw [p.2.1.zero (p.2.1.noq y)]; exact L.out.2.2
     refine Qa1 (.slice K n cv) ⟨_, rfl, Qa0 p.1 (ve q rfl), p.2.1.mq, fun _ => rfl⟩ ?_
     clear F l r p y q
     go_simp
    | 6, _ =>
     obtain rfl := Option.some.inj F
     have t7 : b.tmps[7]? = some (.int .i64 (m : Int)) := r.rs 7 (by kernel_rfl)
     refine Qa1 (.int .i64 (m : Int)) ⟨_, rfl, Qa0 p.1 (ve q rfl), p.2⟩ ?_
     clear F l r p y q
     go_simp
    | 7, _ =>
     obtain rfl := Option.some.inj F
     have ez := r.vt 5 34 (.slice K n cv) (l ⟨5, .data⟩ (by simp) rfl) rfl (by simp) (ve q rfl) p.1
     have f9 := r.vt 6 35 (.int .i64 (m : Int)) (l ⟨6, .data⟩ (by simp) rfl) rfl (by simp) (ve q rfl) p.1
     have d5 := l ⟨5, .data⟩ (by simp) rfl
     refine Qa1 (.slice pp k cc) ⟨_, rfl, Qa0 p.1 (ve q rfl), p.2.1, fun _ => d5⟩ ?_
     clear F l r p y q d5
     go_simp
    | 8, _ =>
     obtain rfl := Option.some.inj F
     have eq := r.vt 1 30 (.func (.func d.fn) #[] #[.pointer (some ⟨J, 0, none⟩)]) (l ⟨1, .data⟩ (by simp) rfl) rfl (by simp) (ve q rfl) p.1
     have fa := r.vt 7 36 (.slice pp k cc) (l ⟨7, .data⟩ (by simp) rfl) rfl (by simp) (ve q rfl) p.1
     have d1 := l ⟨1, .data⟩ (by simp) rfl
     have d5 : Z.getD 5 false = true := p.2.2 (l ⟨7, .data⟩ (by simp) rfl)
     have bf : Hid (Z.getD 1 false = true /\ Z.getD 5 false = true) := ⟨d1, d5⟩
     have cq := p.2.1.zero y
     have dc : Hid (Calls Tryz.prog d.fn #[.slice pp k cc, .pointer (some ⟨J, 0, none⟩)] W fun e w' => MkS w0.heap.size sent R w3 Q e w') := by rw [cq]; exact ao.out w3 L.out.1
     refine Qbl fun G bl => ?_
     have HG := Hq bl
     have al := Hq p
     have di := Hq q
     have df := Hq y
     clear bl F l r p y q d1 d5 cq
     go_simp
     refine (dc.out).mono ?_
     intro e w9 ce
     obtain ⟨M, s9, rfl⟩ := ce.two
     exact ⟨_, rfl, (HG.out _ _).2 ⟨Qa3 al.out.1 (by rw [di.out]; rfl), al.out.2.1.mc bf.out.1 bf.out.2 df.out ce, al.out.2.2⟩⟩
    | 9, _ =>
     obtain rfl := Option.some.inj F
     have d8 := l ⟨8, .data⟩ (by simp) rfl
     have fc : b.tmps[37]? = some (H 8) := r.done 8 37 d8 rfl (by simp)
     refine Qa1 (H 8) ⟨_, rfl, Qa3 p.1 (ve q rfl), p.2.1.mm d8, p.2.2⟩ ?_
     clear F l r p y q d8
     go_simp
    | 10, _ =>
     obtain rfl := Option.some.inj F
     have d9 := l ⟨9, .data⟩ (by simp) rfl
     obtain ⟨M, s9, e9⟩ := p.2.1.twin d9
     have ef : b.tmps[28]? = some (.tuple #[M, s9]) := (r.done 9 28 d9 rfl (by simp)).trans (congrArg some e9)
     refine Qa1 (M) ⟨_, rfl, Qa3 p.1 (ve q rfl), p.2.1.mx d9 e9, p.2.2⟩ ?_
     clear F l r p y q d9 e9
     go_simp
    | 11, _ =>
     obtain rfl := Option.some.inj F
     have d9 := l ⟨9, .data⟩ (by simp) rfl
     obtain ⟨M, s9, e9⟩ := p.2.1.twin d9
     have ef : b.tmps[28]? = some (.tuple #[M, s9]) := (r.done 9 28 d9 rfl (by simp)).trans (congrArg some e9)
     refine Qa1 (s9) ⟨_, rfl, Qa3 p.1 (ve q rfl), p.2.1.my d9 e9, p.2.2⟩ ?_
     clear F l r p y q d9 e9
     go_simp
    | 12, _ =>
     obtain rfl := Option.some.inj F
     have ap := l ⟨10, .data⟩ (by simp) rfl
     have fd : b.tmps[38]? = some (H 10) := r.done 10 38 ap rfl (by simp)
     refine Qa1 (H 10) ⟨_, rfl, Qa3 p.1 (ve q rfl), p.2.1.ma ap, p.2.2⟩ ?_
     clear F l r p y q ap
     go_simp
    | 13, _ =>
     obtain rfl := Option.some.inj F
     have aq := l ⟨11, .data⟩ (by simp) rfl
     have fg : b.tmps[39]? = some (H 11) := r.done 11 39 aq rfl (by simp)
     refine Qa1 (H 11) ⟨_, rfl, Qa3 p.1 (ve q rfl), p.2.1.mb aq, p.2.2⟩ ?_
     clear F l r p y q aq
     go_simp
   ·exact ⟨fun _ _ _ h => (by simp at h), by rw [b7]; exact Tup.start _ _ (by simp) (by simp) (by simp) (by simp) (by simp) (by simp), fun h => (by cases h)⟩
   ·intro H W p
    have e0 : H 0 = .pointer (some ⟨xb, 1, none⟩) := p.1 0 _ (ve q rfl) rfl
    have e1 : H 1 = .func (.func d.fn) #[] #[.pointer (some ⟨J, 0, none⟩)] := p.1 1 _ (ve q rfl) rfl
    have e2 : H 2 = .pointer (some ⟨sb, 0, none⟩) := p.1 2 _ (ve q rfl) rfl
    have e3 : H 3 = .pointer (some ⟨sb, 0, none⟩) := p.1 3 _ (ve q rfl) rfl
    have e4 : H 4 = .pointer (some ⟨sb, 0, none⟩) := p.1 4 _ (ve q rfl) rfl
    have e5 : H 5 = .slice K n cv := p.1 5 _ (ve q rfl) rfl
    have e6 : H 6 = .int .i64 (m : Int) := p.1 6 _ (ve q rfl) rfl
    have e7 : H 7 = .slice pp k cc := p.1 7 _ (ve q rfl) rfl
    have hX := p.2
    simp only [runFrom, Act.put, Nat.zero_add, Nat.reduceAdd, List.setIfInBounds_toArray, List.set_cons_zero, List.set_cons_succ, e0, e1, e2, e3, e4, e5, e6, e7]
    clear p q e0 e1 e2 e3 e4 e5 e6 e7
    obtain ⟨M, s9, bm, bh, bi⟩ := hX.1.done rfl rfl rfl
    have HX := Hq bm
    rw [bh, bi]
    clear hX bm bh bi b7 qs cz dj
    cases hQ : Q with
    | error er =>
     obtain ⟨h1, h2⟩ := HX.out.bad er hQ
     cases h1
     have HR : Hid (NxS w0.heap.size sent rb sb C S w (stepO s ts) (.returned (er.val sent)) W) := by
      have : stepO s ts = .error er := by
       unfold stepO
       rw [E.out.1]
       dsimp only
       rw [D.out.2.1, D.out.2.2.1, if_neg (by have := HM.out.2.1; omega), HM.out.1, HM.out.2.2.1, hQ]
      rw [this]
      have aj : Below w0.heap.size w2 W := (L.out.1.trans (h2.mono L.out.1.size)).mono D.out.2.2.2.2.2.1.size
      exact ⟨fun bj I => (by cases I; exact ⟨rfl, (D.out.2.2.2.2.1.below P.out.1 fun _ h => h).trans aj, fun j hj j1 j2 j3 => (h2.block j (by have := N.out; have := D.out.2.2.2.2.1.size; have := L.out.1.size; omega)).trans ((L.out.1.block j (by have := N.out; have := D.out.2.2.2.2.1.size; omega)).trans (am.out j hj j1 j2 j3))⟩), fun _ _ I => (by cases I)⟩
     obtain ⟨T, x, I⟩ : ∃ T x, er.val sent = .iface T x := by cases er <;> exact ⟨_, _, rfl⟩
     rw [I] at HR ⊢
     clear I h2 hQ HX ao
     go_wp2
     go_ret
     exact HR.out
    | ok t =>
     obtain ⟨z9, S2, h1, h2, h3⟩ := HX.out.good t hQ
     cases h1
     have Y : Stk R C sb ts (.slice K ts.length cv) zs w3 := E.out.2.2.2.2.2.2.2.keep (X := fun _ => False) ((Fr.of_below E.out.2.1.forest (D.out.2.2.2.1.trans (L.out.1.mono D.out.2.2.2.1.size))).x _) (E.out.2.1.new sb (Array.getElem?_eq_some_iff.1 HK.out.cell).1 P.out.2.2.2.2.2.2.2.2.1) (fun h => h) (fun _ _ h => h)
     have au : R sb = none := E.out.2.1.new sb (Array.getElem?_eq_some_iff.1 HK.out.cell).1 P.out.2.2.2.2.2.2.2.2.1
     have ag : Stk S2 C sb ts (.slice K ts.length cv) zs W := Y.keep (h3.x (fun _ => False)) au (fun h => h) (fun _ _ h => h)
     have bn : S2 sb = none := h3.new sb (Array.getElem?_eq_some_iff.1 Y.cell).1 au
     have HS : Hid (Stk S2 C sb ts (.slice K ts.length cv) zs W /\ S2 sb = none /\ ndV S2 M t /\ Fr w0.heap.size R S2 w3 W /\ Q = .ok t) := ⟨ag, bn, h2, h3, hQ⟩
     obtain ⟨c0, -⟩ := box1 ag.cell
     rw [D.out.2.1] at c0
     have qs := fun w => QCl K n cv m HM.out.2.2.2 w
     have HO : Hid (OwnC W C 1 (.slice K m cv) m (zs.take m) /\ C <= W.heap.size) := ⟨ag.row.head' (by rw [D.out.2.1]; have := HM.out.1; omega), by have := N.out; have := D.out.2.2.2.2.1.size; have := L.out.1.size; have := h3.size; omega⟩
     have dh : Hid (∀ t, (W.alloc (.cells #[M] t)).rangeAt W.heap.size 0 [M]) := fun t => Qap W [M] t
     have HZ : Hid (∀ u ∈ [M], u.oneCell' = true) := fun u hu => by
      rw [List.mem_singleton.1 hu]
      rcases h2 with ⟨-, h⟩ | ⟨-, b, h, -⟩
      ·rw [h]; rfl
      ·rw [h]; rfl
     have cu : Hid (∀ o v2 w4, OwnC w4 C 1 v2 (m + 1) (zs.take m ++ [M]) -> (W.alloc o).grownBy w4 (Value.ownBlock (.slice K m cv)) -> (∀ k, v2.ownBlock = some k -> Value.ownBlock (.slice K m cv) = some k \/ (W.alloc o).heap.size <= k) -> w4.heap[sb]? = some (.cells #[.slice K n cv] 85 (0, 0)) /\ ∀ w5, w5.heap[sb]? = some (.cells #[v2] 85 (0, 0)) -> Only sb w4 w5 -> NxS w0.heap.size sent rb sb C S w (stepO s ts) (.returned .nilIface) w5) := fun o v2 w4 a1 a2 a3 => by
      have V := P.out
      obtain ⟨b1, b2⟩ := HS.out.1.push HS.out.2.2.2.1.forest V.2.2.2.2.2.1 V.2.2.2.1 HS.out.2.1 HS.out.2.2.1 (by rw [D.out.2.1]; have := HM.out.1; omega) HO.out.2 a1 a2 a3
      refine ⟨b1.trans (by rw [<- D.out.2.1]; exact HS.out.1.cell), fun w5 a4 a5 => ?_⟩
      obtain ⟨b3, b4, b5⟩ := b2 w5 a4 a5
      have du : stepO s ts = .ok (ts.take m ++ [t], s1) := by
       unfold stepO
       rw [E.out.1]
       dsimp only
       rw [D.out.2.1, D.out.2.2.1, if_neg (by have := HM.out.2.1; omega), HM.out.1, HM.out.2.2.1, HS.out.2.2.2.2]
      rw [du]
      refine ⟨fun _ I => (by cases I), fun fh s' I => ?_⟩
      cases I
      have f3 : FrX w0.heap.size (w0.heap.size <= ·) S S2 w W := (D.out.2.2.2.2.1.behind L.out.1).trans (HS.out.2.2.2.1.x _)
      refine ⟨S2, v2, _, rfl, f3.trans b3, ?_, b4, fun j hj j1 j2 j3 => (b5 j hj j2).trans ((HS.out.2.2.2.1.other j (by have := N.out; have := D.out.2.2.2.2.1.size; have := L.out.1.size; omega) (E.out.2.1.new j (by have := N.out; omega) j3)).trans ((L.out.1.block j (by have := N.out; have := D.out.2.2.2.2.1.size; omega)).trans (am.out j hj j1 j2 j3)))⟩
      have ah := E.out.2.2.1
      have dt := ah.cell.2.2
      have O := D.out.2.2.2.1
      have aj := L.out.1
      have dq : R rb = none := E.out.2.1.new rb (by have := N.out; omega) V.2.2.2.2.2.2.2.1
      exact (b5 rb V.2.2.2.2.1 V.2.2.2.2.2.2.1).trans ((HS.out.2.2.2.1.other rb (by have := O.size; have := aj.size; omega) dq).trans ((aj.block rb (by have := O.size; omega)).trans ((O.block rb dt).trans ah)))
     have ei : ∀ w, (Instr.buildSlice 83 1 #[(0, M)]).run Tryz.prog w = .ok (.slice (some ⟨w.heap.size, 0, none⟩) 1 1) (w.alloc (.cells #[M] 56)) := fun w => Qj9 w M (by
      rcases h2 with ⟨-, h⟩ | ⟨-, b, h, -⟩
      ·rw [h]; rfl
      ·rw [h]; rfl)
     have bg : Hid (m <= 1000000) := by have := HM.out.1; show m <= 1000000; omega
     clear Y au ag bn h2 h3 hQ HX ao
     go_wp2_with (at_builtin; refine Qah _ rfl _ _ 83 rfl 56 i0 .nilIface 1 16 Tryz.underlying83 hi dw dz eb rfl (by decide) C (.slice K m cv) _ _ rfl (HO.out.1.alloc _) W.heap.size 0 1 1 [M] rfl rfl (dh.out _) HZ.out (by have := bg.out; unfold maxLen; omega) (by have := bg.out; omega) (by have := HO.out.2; simp; omega) ?_; intro v2 w4 ar bv ae dp; obtain ⟨p2, m2, k2, rfl⟩ := ar.shape; have ai := cu.out _ _ _ ar bv ae; obtain ⟨d0, d1⟩ := box1 ai.1; obtain ⟨cj, cl⟩ := Qb8 ai.1 (.slice p2 m2 k2); have de := Hq (ai.2 _ cj cl); clear ar bv ae dp ai cj cl)
     go_ret
     exact de.out
   -- N7 END
end Go.Proofs.YtakidhihbgfjlaaGreatDoor
