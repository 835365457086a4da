/-
  Accounts: Encode of package account.
  strings.HasPrefix.
  Accounts: reading the parts.
  Accounts: reading a digest.
-/
import Derived.Test.YtoohdfiddbfacaaGreatDoorTeNibG
import Derived.Test.YtoohdfiddbfacaaGreatDoorTeWriG
import Derived.Test.YtoohdfiddbfacaaGreatDoorTeErrG
import Derived.Test.YtoohdfiddbfacaaGreatDoorTeEndG
import Derived.Lib.Strings
import Derived.Laws.ResultCell
namespace Go.Proofs.YtoohdfiddbfacaaGreatDoor
open Go.RowKit
set_option maxRecDepth 100000
set_option maxHeartbeats 25600000
structure Acc where
 nonce : Nat
 bal : Nat
 root : List Nat
 code : List Nat
def Acc.ok (a : Acc) : Prop := a.nonce < 18446744073709551616 /\ a.bal < 18446744073709551616 /\ a.root.length = 32 /\ a.code.length = 32 /\ (∀ x ∈ a.root, x < 256) /\ (∀ x ∈ a.code, x < 256)
def accL (a : Acc) : List Value := encL a.nonce :: encL a.bal :: (a.root.map encB ++ a.code.map encB)
def accT1 (a : Acc) : List Nat := textCode (bigE a.nonce)
def accT2 (a : Acc) : List Nat := textCode (bigE a.nonce) ++ textCode (bigE a.bal)
def accT3 (a : Acc) : List Nat := textCode (bigE a.nonce) ++ textCode (bigE a.bal) ++ textCode a.root
def accTexts (a : Acc) : List Nat := textCode (bigE a.nonce) ++ textCode (bigE a.bal) ++ textCode a.root ++ textCode a.code
def encAcc (a : Acc) : List Nat := listCode (accTexts a)
theorem run_range_text {P : Program} (w : World) (src dst e : TypeId) (hs : P.underlying src = some (.slice e)) (he : P.underlying e = some (.int .u8)) (hd : P.underlying dst = some .string) {b o : Nat} {l : List Nat} (h : w.rangeAt b o (l.map encB)) (m cap : Nat) (hm : m = l.length) :
  (convert src dst (.slice (some ⟨b, o, none⟩) m cap)).run P w = .ok (.string (textB l)) w := by
 subst hm
 rw [run_convert_bytes_string w src dst e _ _ _ hs he hd]
 have a := run_loadCells_list (P := P) w ⟨b, o, none⟩ (l.map encB) (fun j u d => by
  rw [Addr.add_mid]
  exact h j u d)
 rw [List.length_map] at a
 have c : l.map encB = (l.map (fun n : Nat => (n : Int))).map (Value.int .u8) := by rw [List.map_map]; rfl
 rw [c] at a
 rw [run_bytesToString w ⟨b, o, none⟩ l.length cap _ a, foldl_push_ints]
 unfold textB
 simp
theorem range_part {w : World} {b o : Nat} {xs bs cs : List Value} (h : w.rangeAt b o (xs ++ bs ++ cs)) : w.rangeAt b (o + xs.length) bs := by
 intro j u a
 have c : j < bs.length := (List.getElem?_eq_some_iff.1 a).1
 have := h (xs.length + j) u (by
  rw [List.append_assoc, List.getElem?_append_right (by omega), Nat.add_sub_cancel_left, List.getElem?_append_left c]
  exact a)
 rwa [<- Nat.add_assoc] at this
theorem acc_parts {w : World} {b : Nat} {a : Acc} (ha : a.ok) (h : w.rangeAt b 0 (accL a)) : w.cell? ⟨b, 0, none⟩ = some (encL a.nonce) /\ w.cell? ⟨b, 1, none⟩ = some (encL a.bal) /\ w.rangeAt b 2 (a.root.map encB) /\ w.rangeAt b 34 (a.code.map encB) := by
 refine ⟨h 0 _ rfl, h 1 _ rfl, ?_, ?_⟩
 ·have := range_part (xs := [encL a.nonce, encL a.bal]) (bs := a.root.map encB) (cs := a.code.map encB) h
  exact this
 ·have := range_part (xs := encL a.nonce :: encL a.bal :: a.root.map encB) (bs := a.code.map encB) (cs := []) (w := w) (b := b) (o := 0) (by simpa [accL] using h)
  rw [List.length_cons, List.length_cons, List.length_map, ha.2.2.1] at this
  exact this
theorem bytes_textB {l : List Nat} (h : ∀ x ∈ l, x < 256) : bytesOf (textB l) = l := bytesOf_textB h
theorem Own.shape' {w : World} {B : Nat} {v : Value} {l : List Nat} (h : Own w B v l) : ∃ p k, v = .slice p l.length k := by
 rcases h with ⟨rfl, rfl⟩ | ⟨g, cap, rfl, _⟩ <;> exact ⟨_, _, rfl⟩
theorem acc_step {W0 w1 w2 : World} {v v' : Value} {l l' : List Nat} (hb : Below W0.heap.size W0 w1) (hO : Own w1 W0.heap.size v l) (hg : Grew w1 w2 W0.heap.size v v' l') : Below W0.heap.size W0 w2 := hg.below hO hb hb.size
theorem acc_len {a : Acc} (h : a.ok) : (accTexts a).length <= 200 := by
 have := textCode_length (bigE a.nonce); have := bigE_length a.nonce; have := textCode_length (bigE a.bal); have := bigE_length a.bal; have := textCode_length a.root; have := h.2.2.1; have := textCode_length a.code; have := h.2.2.2.1
 unfold accTexts
 rw [List.length_append, List.length_append, List.length_append]
 omega
theorem acc_len1 {a : Acc} (h : a.ok) : (accT1 a).length <= 200 := by
 have := acc_len h
 unfold accTexts at this
 unfold accT1
 rw [List.length_append, List.length_append, List.length_append] at this
 omega
theorem acc_len2 {a : Acc} (h : a.ok) : (accT2 a).length <= 200 := by
 have := acc_len h
 unfold accTexts at this
 unfold accT2
 rw [List.length_append, List.length_append, List.length_append] at this
 rw [List.length_append]
 omega
theorem acc_len3 {a : Acc} (h : a.ok) : (accT3 a).length <= 200 := by
 have := acc_len h
 unfold accTexts at this
 unfold accT3
 rw [List.length_append, List.length_append, List.length_append] at this
 rw [List.length_append, List.length_append]
 omega
theorem acc_encode (a : Acc) (ha : a.ok) (w : World) :
  Calls Tryz.prog 25 #[.agg (accL a).toArray] w fun e w' => e = .returned (.string (textB (encAcc a))) /\ Below w.heap.size w w' := by
 obtain ⟨A, t⟩ : ∃ A, (accL a).toArray = A := ⟨_, rfl⟩
 have F : (w.alloc (.cells A 47)).rangeAt w.heap.size 0 (accL a) := by
  rw [<- t]
  intro j u H
  rw [Nat.zero_add, World.cell?_alloc_new]
  simpa using H
 rw [t]
 have R : ∀ W, Below (w.alloc (.cells A 47)).heap.size (w.alloc (.cells A 47)) W -> W.cell? ⟨w.heap.size, 0, none⟩ = some (encL a.nonce) /\ W.cell? ⟨w.heap.size, 1, none⟩ = some (encL a.bal) /\ W.rangeAt w.heap.size 2 (a.root.map encB) /\ W.rangeAt w.heap.size 34 (a.code.map encB) := fun W Q =>
  acc_parts ha (fun j u H => (Q.cell (p := ⟨w.heap.size, 0 + j, none⟩) (by simp)).trans (F j u H))
 have G := Hid.hide R
 have S : A[0]? = some (.int .u64 (a.nonce : Int)) := by rw [<- t]; rfl
 have b := Hid.hide ha
 clear R F t ha
 go_enter Tryz.func25, Tryz.ntmps25
 go_wp2_with fail
 refine (highest_any a.nonce _ b.out.1).mono ?_
 rintro e M ⟨rfl, E⟩
 have x := Hid.hide E
 clear E S
 go_wp2_with fail
 refine (text_any (B := (w.alloc (.cells A 47)).heap.size) (l := []) (textB (bigE a.nonce)) M (Own.nil _ _) x.out.size (by rw [textB_size]; have := bigE_length a.nonce; omega) (by simp)).mono ?_
 rintro e J ⟨V, rfl, c⟩
 rw [bytesOf_textB (bigE_lt a.nonce), List.nil_append] at c
 have c : Grew M J (w.alloc (.cells A 47)).heap.size _ V (accT1 a) := c
 have D := Hid.hide c
 have y := Hid.hide (acc_step x.out (Own.nil _ _) c)
 obtain ⟨p2, k2, rfl⟩ := c.own.shape'
 have I := (G.out J y.out).2.1
 have I : J.cell? ⟨w.heap.size, 1, none⟩ = some (.int .u64 (a.bal : Int)) := I
 clear c
 go_wp2_with fail
 refine (highest_any a.bal _ b.out.2.1).mono ?_
 rintro e N ⟨rfl, q⟩
 have z := Hid.hide (Below.behind y.out q)
 have o := Hid.hide (D.out.own.below q)
 clear q I D
 go_wp2_with fail
 refine (text_any (B := (w.alloc (.cells A 47)).heap.size) (textB (bigE a.bal)) N o.out z.out.size (by rw [textB_size]; have := bigE_length a.bal; omega) (by have := acc_len1 b.out; omega)).mono ?_
 rintro e r ⟨X, rfl, d⟩
 rw [bytesOf_textB (bigE_lt a.bal)] at d
 have d : Grew N r (w.alloc (.cells A 47)).heap.size _ X (accT2 a) := d
 have m := Hid.hide d
 have i := Hid.hide (acc_step z.out o.out d)
 obtain ⟨p4, k4, rfl⟩ := d.own.shape'
 have T := run_range_text (P := Tryz.prog) r 65 9 5 Tryz.underlying65 Tryz.underlying5 Tryz.underlying9 (G.out r i.out).2.2.1 32 32 b.out.2.2.1.symm
 clear d
 go_wp2_with fail
 refine (text_any (B := (w.alloc (.cells A 47)).heap.size) (textB a.root) r m.out.own i.out.size (by rw [textB_size, b.out.2.2.1]; omega) (by have := acc_len2 b.out; omega)).mono ?_
 rintro e s ⟨Y, rfl, f⟩
 rw [bytesOf_textB b.out.2.2.2.2.1] at f
 have f : Grew r s (w.alloc (.cells A 47)).heap.size _ Y (accT3 a) := f
 have n := Hid.hide f
 have k := Hid.hide (acc_step i.out m.out.own f)
 obtain ⟨p5, k5, rfl⟩ := f.own.shape'
 have U := run_range_text (P := Tryz.prog) s 65 9 5 Tryz.underlying65 Tryz.underlying5 Tryz.underlying9 (G.out s k.out).2.2.2 32 32 b.out.2.2.2.1.symm
 clear f T
 go_wp2_with fail
 refine (text_any (B := (w.alloc (.cells A 47)).heap.size) (textB a.code) s n.out.own k.out.size (by rw [textB_size, b.out.2.2.2.1]; omega) (by have := acc_len3 b.out; omega)).mono ?_
 rintro e O ⟨Z, rfl, g⟩
 rw [bytesOf_textB b.out.2.2.2.2.2] at g
 have g : Grew s O (w.alloc (.cells A 47)).heap.size _ Z (accTexts a) := g
 have C := Hid.hide (acc_step k.out n.out.own g)
 obtain ⟨p6, k6, rfl⟩ := g.own.shape'
 have L := Hid.hide g.own
 clear g U m n o
 go_wp2_with fail
 refine (list_any (B := (w.alloc (.cells A 47)).heap.size) (v := .slice none 0 0) (l := []) O (Own.nil _ _) L.out (by simp [Value.ownBlock]) C.out.size (by have := acc_len b.out; omega) (by simp)).mono ?_
 rintro e w7 ⟨v7, rfl, h⟩
 rw [List.nil_append] at h
 have K := Hid.hide (acc_step C.out (Own.nil _ _) h)
 obtain ⟨p7, k7, rfl⟩ := h.own.shape'
 have q4 := run_own_text (P := Tryz.prog) w7 65 9 5 Tryz.underlying65 Tryz.underlying5 Tryz.underlying9 h.own
 clear h
 go_wp2
 go_ret
 exact ⟨rfl, Below.up K.out⟩
theorem pre_lite (s p : ByteArray) (w : World) :
  Calls Tryz.prog 103 #[.string s, .string p] w fun e w' => e = .returned (.bool (decide (p.size <= s.size /\ s.extract 0 p.size = p))) /\ w' = w := by
 by_cases h : p.size <= s.size
 ·have c : (p.size : Int) <= (s.size : Int) := by omega
  obtain ⟨x, d⟩ : ∃ x, s.extract 0 p.size = x := ⟨_, rfl⟩
  have A : Aside ((x.toList == p.toList) = decide (p.size <= s.size /\ s.extract 0 p.size = p)) := by
   show (x.toList == p.toList) = decide (p.size <= s.size /\ s.extract 0 p.size = p)
   rw [d]
   by_cases e : x = p
   ·subst e
    simp [h]
   ·have : ¬ x.toList = p.toList := fun a => e (by
     rw [Lib.toList_data, Lib.toList_data] at a
     exact ByteArray.ext (Array.toList_inj.1 a))
    simp [e, this]
  go_enter Tryz.func103, Tryz.ntmps103
  go_wp2
  go_ret
  exact ⟨by rw [<- A.out]; rfl, rfl⟩
 ·have c : (s.size : Int) < (p.size : Int) := by omega
  have b : decide (p.size <= s.size /\ s.extract 0 p.size = p) = false := decide_eq_false (fun e => h e.1)
  rw [b]
  clear b h
  go_enter Tryz.func103, Tryz.ntmps103
  go_wp2
  go_ret
  exact ⟨rfl, rfl⟩
theorem pre_any (s p : ByteArray) (w : World) :
  Calls Tryz.prog 94 #[.string s, .string p] w fun e w' => e = .returned (.bool (decide (p.size <= s.size /\ s.extract 0 p.size = p))) /\ w' = w := by
 have a := Hid.hide (pre_lite s p w)
 obtain ⟨b, c⟩ : ∃ b, decide (p.size <= s.size /\ s.extract 0 p.size = p) = b := ⟨_, rfl⟩
 rw [c] at a ⊢
 clear c
 go_enter Tryz.func94, Tryz.ntmps94
 go_wp2_with (go_at_call 103; refine (a.out).mono ?_; rintro e d ⟨rfl, rfl⟩)
 go_ret
 exact ⟨rfl, rfl⟩
abbrev accV (at_ : Nat) (sent : Nat -> Addr) : Value := placeV at_ (.iface 244 (.pointer (some (sent 13))))
abbrev placedV (fr en : Nat) (l : Bool) (tx : ByteArray) (p : Option Addr) (m c : Nat) : Value := .agg #[.int .i64 (fr : Int), .int .i64 (en : Int), .bool l, .string tx, .slice p m c]
theorem notAt_any (fr en : Nat) (l : Bool) (tx : ByteArray) (p : Option Addr) (m c : Nat) (sent : Nat -> Addr) (w : World) (hF : Faults w sent) :
  Calls Tryz.prog 65 #[placedV fr en l tx p m c] w fun e w' => e = .returned (accV fr sent) /\ Below w.heap.size w w' := by
 have b : w.cell? ⟨11, 0, none⟩ = some (.iface 244 (.pointer (some (sent 13)))) := hF.var 13 (by decide)
 have a : 11 < w.heap.size := hF.low (n := 13) (by decide)
 have d := fun o => cell_past o b a
 clear hF
 go_enter Tryz.func65, Tryz.ntmps65
 go_wp2
 go_ret
 exact ⟨rfl, (Below.refl _ _).alloc (Nat.le_refl _) _⟩
def numOK (l : Bool) (t : List Nat) : Prop := l = false /\ t.length <= 8 /\ ¬ (1 <= t.length /\ t.take 1 = [0])
instance (l : Bool) (t : List Nat) : Decidable (numOK l t) := by unfold numOK; infer_instance
theorem bytesOf_inj {a b : ByteArray} (h : bytesOf a = bytesOf b) : a = b := by
 unfold bytesOf at h
 have : a.data.toList = b.data.toList := by
  have c : Function.Injective UInt8.toNat := fun x y e => UInt8.toNat_inj.1 e
  exact (List.map_inj_right (fun x y e => c e)).1 h
 exact ByteArray.ext (Array.toList_inj.1 this)
theorem one_nought : bytesOf ⟨#[0]⟩ = [0] := by decide
theorem pre_nought (tx : ByteArray) : decide ((⟨#[0]⟩ : ByteArray).size <= tx.size /\ tx.extract 0 (⟨#[0]⟩ : ByteArray).size = ⟨#[0]⟩) = decide (1 <= (bytesOf tx).length /\ (bytesOf tx).take 1 = [0]) := by
 have a : (⟨#[0]⟩ : ByteArray).size = 1 := rfl
 rw [a, bytesOf_length]
 congr 1
 apply propext
 have e : tx.extract 0 1 = ⟨#[0]⟩ ↔ (bytesOf tx).take 1 = [0] := by
  constructor
  ·intro h
   have := congrArg bytesOf h
   rw [cut_bytes] at this
   simpa [one_nought] using this
  ·intro h
   have b : bytesOf (tx.extract 0 1) = bytesOf ⟨#[0]⟩ := by rw [cut_bytes, one_nought]; simpa using h
   exact bytesOf_inj b
 rw [e]
theorem num_ok (fr en : Nat) (tx : ByteArray) (p : Option Addr) (m c : Nat) (w : World) (h : numOK false (bytesOf tx)) :
  Calls Tryz.prog 81 #[placedV fr en false tx p m c] w fun e w' => Below w.heap.size w w' /\ e = .returned (.tuple #[.int .u64 (numB (bytesOf tx) : Int), .nilIface]) := by
 obtain ⟨_, g, b⟩ := h
 have a := bytesOf_length tx
 have f : Hid (∀ W, Calls Tryz.prog 94 #[.string tx, .string ⟨#[0]⟩] W fun e w' => e = .returned (.bool false) /\ w' = W) := fun W => by
  have := pre_any tx ⟨#[0]⟩ W
  rw [pre_nought, decide_eq_false b] at this
  exact this
 have d := Hid.hide (fun W => number_any tx W (by omega))
 have i : (tx.size : Int) <= 8 := by omega
 clear g b a
 go_enter Tryz.func81, Tryz.ntmps81
 go_wp2_with fail
 refine (f.out _).mono ?_
 rintro e j ⟨rfl, rfl⟩
 go_wp2_with fail
 refine (d.out _).mono ?_
 rintro e k ⟨rfl, rfl⟩
 go_wp2
 go_ret2
 exact ⟨(Below.refl _ _).alloc (Nat.le_refl _) _, rfl⟩
theorem num_bad (fr en : Nat) (l : Bool) (tx : ByteArray) (p : Option Addr) (m c : Nat) (sent : Nat -> Addr) (w : World) (hF : Faults w sent) (h : ¬ numOK l (bytesOf tx)) :
  Calls Tryz.prog 81 #[placedV fr en l tx p m c] w fun e w' => Below w.heap.size w w' /\ e = .returned (.tuple #[.int .u64 0, accV fr sent]) := by
 have g : Hid (∀ W, Below w.heap.size w W -> Calls Tryz.prog 65 #[placedV fr en l tx p m c] W fun e w' => e = .returned (accV fr sent) /\ Below W.heap.size W w') := fun W q => notAt_any fr en l tx p m c sent W (hF.below q)
 clear hF
 have b := bytesOf_length tx
 cases l with
 | true =>
  clear h b
  go_enter Tryz.func81, Tryz.ntmps81
  go_wp2_with fail
  refine (g.out _ ((Below.refl _ _).alloc (Nat.le_refl _) _)).mono ?_
  rintro e n ⟨rfl, f⟩
  have A : Aside (Below w.heap.size w n) := Below.up f
  clear f
  go_wp2
  go_ret2
  exact ⟨A.out, rfl⟩
 | false =>
  by_cases j : tx.size <= 8
  ·have k : (tx.size : Int) <= 8 := by omega
   have d : 1 <= (bytesOf tx).length /\ (bytesOf tx).take 1 = [0] := Classical.not_not.1 (fun d => h ⟨rfl, by omega, d⟩)
   have o : Hid (∀ W, Calls Tryz.prog 94 #[.string tx, .string ⟨#[0]⟩] W fun e w' => e = .returned (.bool true) /\ w' = W) := fun W => by
    have := pre_any tx ⟨#[0]⟩ W
    rw [pre_nought, decide_eq_true d] at this
    exact this
   clear h b j d
   go_enter Tryz.func81, Tryz.ntmps81
   go_wp2_with fail
   refine (o.out _).mono ?_
   rintro e n ⟨rfl, rfl⟩
   go_wp2_with fail
   refine (g.out _ ((Below.refl _ _).alloc (Nat.le_refl _) _)).mono ?_
   rintro e i ⟨rfl, a⟩
   have A : Aside (Below w.heap.size w i) := Below.up a
   clear a
   go_wp2
   go_ret2
   exact ⟨A.out, rfl⟩
  ·have k : (8 : Int) < (tx.size : Int) := by omega
   clear h b j
   go_enter Tryz.func81, Tryz.ntmps81
   go_wp2_with fail
   refine (g.out _ ((Below.refl _ _).alloc (Nat.le_refl _) _)).mono ?_
   rintro e i ⟨rfl, a⟩
   have A : Aside (Below w.heap.size w i) := Below.up a
   clear a
   go_wp2
   go_ret2
   exact ⟨A.out, rfl⟩
abbrev zeroH : Array Value := ((Array.replicate 32 0 : Array Nat).toList.map encB).toArray
theorem results_cell2 {fn : Func} {p u : Tmp} {ty : TypeId} (h : fn.results = #[.cell p ty, .tmp u]) (tmps : Array Value) (P : Program) (w : World) (b o : Nat) (hp : tmps.getD p undef = .pointer (some ⟨b, o, none⟩)) {v : Value} (hv : (loadVar ty ⟨b, o, none⟩).run P w = .ok v w) :
  (results fn tmps).run P w = .ok (.tuple #[v, tmps.getD u undef]) w := by
 rw [results_cell_tmp h, hp]
 simp [asAddr, hv]
theorem zeroH_lit : zeroH = #[.int .u8 0, .int .u8 0, .int .u8 0, .int .u8 0, .int .u8 0, .int .u8 0, .int .u8 0, .int .u8 0, .int .u8 0, .int .u8 0, .int .u8 0, .int .u8 0, .int .u8 0, .int .u8 0, .int .u8 0, .int .u8 0, .int .u8 0, .int .u8 0, .int .u8 0, .int .u8 0, .int .u8 0, .int .u8 0, .int .u8 0, .int .u8 0, .int .u8 0, .int .u8 0, .int .u8 0, .int .u8 0, .int .u8 0, .int .u8 0, .int .u8 0, .int .u8 0] := by kernel_rfl
structure HashW (w W : World) (tx : ByteArray) : Prop where
 below : Below w.heap.size w W
 size : W.heap.size = w.heap.size + 3
 text : W.cell? ⟨w.heap.size, 3, none⟩ = some (.string tx)
 res : W.there (w.heap.size + 1) 0 32
 var : W.there (w.heap.size + 2) 0 32
theorem HashW.mk' (w : World) (fr en : Nat) (l : Bool) (tx : ByteArray) (p : Option Addr) (m c : Nat) (t1 t2 : TypeId) (Z : Array Value) (hZ : Z.size = 32) : HashW w (((w.alloc (.cells #[.int .i64 (fr : Int), .int .i64 (en : Int), .bool l, .string tx, .slice p m c] t1)).alloc (.cells Z t2)).alloc (.cells Z t2)) tx := by
 refine ⟨(((Below.refl _ _).alloc (Nat.le_refl _) _).alloc (by simp) _).alloc (by simp; omega) _, by simp, ?_, ?_, ?_⟩
 ·rw [World.cell?_alloc_past _ _ _ (by simp; omega), World.cell?_alloc_past _ _ _ (by simp), World.cell?_alloc_new]
  rfl
 ·have := there_new (w.alloc (.cells #[.int .i64 (fr : Int), .int .i64 (en : Int), .bool l, .string tx, .slice p m c] t1)) Z t2 32 hZ.symm
  refine there_block (w := (w.alloc (.cells #[.int .i64 (fr : Int), .int .i64 (en : Int), .bool l, .string tx, .slice p m c] t1)).alloc (.cells Z t2)) (by simpa using this) (Below.heap_alloc _ _ _ (by simp))
 ·have := there_new ((w.alloc (.cells #[.int .i64 (fr : Int), .int .i64 (en : Int), .bool l, .string tx, .slice p m c] t1)).alloc (.cells Z t2)) Z t2 32 hZ.symm
  simpa using this
theorem zero_one : zeroH.all (·.oneCell') = true := all_oneCell_toArray (oneCell_enc (Array.replicate 32 0) .u8)
theorem D0 : (Array.replicate 32 0 : Array Nat).size = 32 := by simp
theorem hash_bad (fr en : Nat) (l : Bool) (tx : ByteArray) (p : Option Addr) (m c : Nat) (sent : Nat -> Addr) (w : World) (hF : Faults w sent) (h : ¬ (l = false /\ tx.size = 32)) :
  Calls Tryz.prog 82 #[placedV fr en l tx p m c] w fun e w' => Below w.heap.size w w' /\ e = .returned (.tuple #[.agg zeroH, accV fr sent]) := by
 have r : Hid (∀ W, Below w.heap.size w W -> Calls Tryz.prog 65 #[placedV fr en l tx p m c] W fun e w' => e = .returned (accV fr sent) /\ Below W.heap.size W w') := fun W u => notAt_any fr en l tx p m c sent W (hF.below u)
 clear hF
 have f := HashW.mk' w fr en l tx p m c 150 44 zeroH (by rw [zeroH_lit]; rfl)
 rw [zeroH_lit] at f
 have n := Hid.hide f
 clear f
 have g : ∀ o w2, HashW w o tx -> Below o.heap.size o w2 -> (Tryz.prog.info? 44).map (·.size) = some zeroH.toList.length /\ (Tryz.prog.info? 44).map (·.size) = some zeroH.size /\ w2.there (w.heap.size + 1) 0 zeroH.size /\ w2.there (w.heap.size + 1) 0 zeroH.toList.length /\ Below w.heap.size w w2 := fun o w2 q t => by
  obtain ⟨b, i, j, d⟩ := hash_cells D0 (there_block q.res (t.block (w.heap.size + 1) (by rw [q.size]; omega)))
  exact ⟨by simpa using b, i, j, by simpa using d, Below.behind q.below t⟩
 have s := Hid.hide g
 clear g
 have x : l = true \/ (l = false /\ ((tx.size : Int) == 32) = false) := by
  cases l with
  | true => exact .inl rfl
  | false => exact .inr ⟨rfl, by simp; exact fun e => h ⟨rfl, by omega⟩⟩
 clear h
 rcases x with rfl | ⟨rfl, hne⟩
 ·go_enter Tryz.func82, Tryz.ntmps82
  go_wp2_with fail
  refine (r.out _ n.out.below).mono ?_
  rintro e w2 ⟨rfl, a⟩
  obtain ⟨b, i, j, d, k⟩ := s.out _ w2 n.out a
  have A : Aside (w2.there (w.heap.size + 1) 0 zeroH.toList.length /\ Below w.heap.size w w2 /\ (Tryz.prog.info? 44).map (·.size) = some zeroH.toList.length) := ⟨d, k, b⟩
  clear a b d k
  go_wp2_with (refine wpList_store_mid rfl 44 _ _ rfl (w.heap.size + 1) 0 zeroH rfl (by rw [zeroH_lit]; rfl) j i zero_one ?_)
  refine bodyPost_ret (v := .tuple #[.agg zeroH, accV fr sent]) (results_cell2 Tryz.results82 _ _ _ (w.heap.size + 1) 0 rfl (run_loadVar_mid _ _ _ 44 _ _ (World.rangeAt_setCells_same _ _ _ zeroH.toList A.out.1) Tryz.underlying44 rfl A.out.2.2)) rfl ⟨?_, rfl⟩
  exact below_setCells A.out.2.1 (by omega) _ _
 ·go_enter Tryz.func82, Tryz.ntmps82
  go_wp2_with fail
  refine (r.out _ n.out.below).mono ?_
  rintro e w2 ⟨rfl, a⟩
  obtain ⟨b, i, j, d, k⟩ := s.out _ w2 n.out a
  have A : Aside (w2.there (w.heap.size + 1) 0 zeroH.toList.length /\ Below w.heap.size w w2 /\ (Tryz.prog.info? 44).map (·.size) = some zeroH.toList.length) := ⟨d, k, b⟩
  clear a b d k
  go_wp2_with (refine wpList_store_mid rfl 44 _ _ rfl (w.heap.size + 1) 0 zeroH rfl (by rw [zeroH_lit]; rfl) j i zero_one ?_)
  refine bodyPost_ret (v := .tuple #[.agg zeroH, accV fr sent]) (results_cell2 Tryz.results82 _ _ _ (w.heap.size + 1) 0 rfl (run_loadVar_mid _ _ _ 44 _ _ (World.rangeAt_setCells_same _ _ _ zeroH.toList A.out.1) Tryz.underlying44 rfl A.out.2.2)) rfl ⟨?_, rfl⟩
  exact below_setCells A.out.2.1 (by omega) _ _
theorem hash_ok (fr en : Nat) (tx : ByteArray) (p : Option Addr) (m c : Nat) (w : World) (hs : tx.size = 32) :
  Calls Tryz.prog 82 #[placedV fr en false tx p m c] w fun e w' => Below w.heap.size w w' /\ e = .returned (.tuple #[.agg ((bytesOf tx).map encB).toArray, .nilIface]) := by
 have a := HashW.mk' w fr en false tx p m c 150 44 zeroH (by rw [zeroH_lit]; rfl)
 rw [zeroH_lit] at a
 have z := Hid.hide a
 clear a
 have F : ((tx.size : Int) == 32) = true := by simp [hs]
 have s := bytesOf_length tx
 obtain ⟨D, k⟩ : ∃ D : Array Nat, D = (bytesOf tx).toArray := ⟨_, rfl⟩
 have i : D.size = 32 := by rw [k]; simp; omega
 have r : (bytesOf tx).map encB = D.toList.map encB := by rw [k]
 have o := Hid.hide r
 have q : Hid (tx.size = 32) := hs
 have g : (Tryz.prog.info? 5).map (·.size) = some 1 := by
  obtain ⟨G, B, _, u, _⟩ := info_parts infoU8
  rw [B]; simp [u]
 clear k hs
 go_enter Tryz.func82, Tryz.ntmps82
 go_upto_region 4 with fail
 generalize hWW : World.alloc (World.alloc (World.alloc w _) _) _ = W
 have f : HashW w W tx := by rw [<- hWW]; exact z.out
 clear hWW
 have H := f.text
 have j := run_copy_str (P := Tryz.prog) W.drew 65 9 3 5 (w.heap.size + 1 + 1) 0 32 32 tx 32 Tryz.underlying65 g (by rw [q.out]; rfl) f.var
 rw [List.take_of_length_le (by rw [s, q.out]; exact Nat.le_refl _), o.out] at j
 have A : Aside (HashW w W tx) := f
 clear f
 go_region
 generalize hW2 : World.setCells W.drew (w.heap.size + 1 + 1) 0 (D.toList.map encB) = W2
 have b : W.drew.there (w.heap.size + 1 + 1) 0 (D.toList.map encB).length := by
  have := A.out.var
  simpa [i] using this
 have t : W2.rangeAt (w.heap.size + 1 + 1) 0 (D.toList.map encB) := by rw [<- hW2]; exact World.rangeAt_setCells_same _ _ _ _ b
 have h : Below w.heap.size w W2 := by rw [<- hW2]; exact below_setCells A.out.below.drew (by omega) _ _
 have d : W2.there (w.heap.size + 1) 0 32 := by
  refine there_block A.out.res ?_
  rw [<- hW2]
  exact (heap_setCells _ _ _ _ _ (by omega))
 obtain ⟨x, C, E, y⟩ := hash_cells i d
 have l := all_oneCell_toArray (oneCell_enc D .u8)
 have n : Aside (W2.there (w.heap.size + 1) 0 (D.toList.map encB).length /\ Below w.heap.size w W2) := ⟨y, h⟩
 clear hW2 b h d y j
 go_wp2_with (first | (refine wpList_load_mid rfl 44 _ rfl (w.heap.size + 1 + 1) 0 rfl (D.toList.map encB) _ t Tryz.underlying44 rfl x ?_) | (refine wpList_store_mid rfl 44 _ _ rfl (w.heap.size + 1) 0 (D.toList.map encB).toArray rfl rfl E C l ?_))
 refine bodyPost_ret (v := .tuple #[.agg (D.toList.map encB).toArray, .nilIface]) (results_cell2 Tryz.results82 _ _ _ (w.heap.size + 1) 0 rfl (run_loadVar_mid _ _ _ 44 _ _ (World.rangeAt_setCells_same _ _ _ _ n.out.1) Tryz.underlying44 rfl x)) rfl ⟨?_, ?_⟩
 ·exact below_setCells n.out.2 (by omega) _ _
 ·rw [o.out]
end Go.Proofs.YtoohdfiddbfacaaGreatDoor
