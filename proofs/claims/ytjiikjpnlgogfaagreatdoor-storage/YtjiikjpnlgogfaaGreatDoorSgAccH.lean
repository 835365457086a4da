/-
  Accounts: Encode of package account.
  strings.HasPrefix.
  Accounts: reading the parts.
  Accounts: reading a digest.
-/
import Derived.Test.YtjiikjpnlgogfaaGreatDoorSgNibG
import Derived.Test.YtjiikjpnlgogfaaGreatDoorSgWriG
import Derived.Test.YtjiikjpnlgogfaaGreatDoorSgErrG
import Derived.Test.YtjiikjpnlgogfaaGreatDoorSgEndG
import Derived.Lib.Strings
import Derived.Laws.ResultCell
namespace Go.Proofs.YtjiikjpnlgogfaaGreatDoor
open Go.RowKit
structure Acc where
 nonce : Nat
 bal : Nat
 root : List Nat
 code : List Nat
def Acc.ok (a : Acc) : Prop := a.nonce < 18446744073709551616 ∧ a.bal < 18446744073709551616 ∧ a.root.length = 32 ∧ a.code.length = 32 ∧ (∀ x ∈ a.root, x < 256) ∧ (∀ x ∈ a.code, x < 256)
def accL (a : Acc) : List Value := encL a.nonce :: encL a.bal :: (a.root.map encB ++ a.code.map encB)
def accT1 (a : Acc) : List Nat := textCode (bigE a.nonce)
def accT2 (a : Acc) : List Nat := textCode (bigE a.nonce) ++ textCode (bigE a.bal)
def accT3 (a : Acc) : List Nat := textCode (bigE a.nonce) ++ textCode (bigE a.bal) ++ textCode a.root
def accTexts (a : Acc) : List Nat := textCode (bigE a.nonce) ++ textCode (bigE a.bal) ++ textCode a.root ++ textCode a.code
def encAcc (a : Acc) : List Nat := listCode (accTexts a)
theorem run_range_text {P : Program} (w : World) (src dst e : TypeId) (hs : P.underlying src = some (.slice e)) (he : P.underlying e = some (.int .u8)) (hd : P.underlying dst = some .string) {b o : Nat} {l : List Nat} (h : w.rangeAt b o (l.map encB)) (m cap : Nat) (hm : m = l.length) :
  (convert src dst (.slice (some ⟨b, o, none⟩) m cap)).run P w = .ok (.string (textB l)) w := by
 subst hm
 rw [run_convert_bytes_string w src dst e _ _ _ hs he hd]
 have hl := run_loadCells_list (P := P) w ⟨b, o, none⟩ (l.map encB) (fun j u hu => by
  rw [Addr.add_mid]
  exact h j u hu)
 rw [List.length_map] at hl
 have e1 : l.map encB = (l.map (fun n : Nat => (n : Int))).map (Value.int .u8) := by rw [List.map_map]; rfl
 rw [e1] at hl
 rw [run_bytesToString w ⟨b, o, none⟩ l.length cap _ hl, foldl_push_ints]
 unfold textB
 simp
theorem range_part {w : World} {b o : Nat} {xs bs cs : List Value} (h : w.rangeAt b o (xs ++ bs ++ cs)) : w.rangeAt b (o + xs.length) bs := by
 intro j u hu
 have hj : j < bs.length := (List.getElem?_eq_some_iff.1 hu).1
 have := h (xs.length + j) u (by
  rw [List.append_assoc, List.getElem?_append_right (by omega), Nat.add_sub_cancel_left, List.getElem?_append_left hj]
  exact hu)
 rwa [← Nat.add_assoc] at this
theorem acc_parts {w : World} {b : Nat} {a : Acc} (ha : a.ok) (h : w.rangeAt b 0 (accL a)) : w.cell? ⟨b, 0, none⟩ = some (encL a.nonce) ∧ w.cell? ⟨b, 1, none⟩ = some (encL a.bal) ∧ w.rangeAt b 2 (a.root.map encB) ∧ w.rangeAt b 34 (a.code.map encB) := by
 refine ⟨h 0 _ rfl, h 1 _ rfl, ?_, ?_⟩
 ·have := range_part (xs := [encL a.nonce, encL a.bal]) (bs := a.root.map encB) (cs := a.code.map encB) h
  exact this
 ·have := range_part (xs := encL a.nonce :: encL a.bal :: a.root.map encB) (bs := a.code.map encB) (cs := []) (w := w) (b := b) (o := 0) (by simpa [accL] using h)
  rw [List.length_cons, List.length_cons, List.length_map, ha.2.2.1] at this
  exact this
theorem bytes_textB {l : List Nat} (h : ∀ x ∈ l, x < 256) : bytesOf (textB l) = l := bytesOf_textB h
theorem Own.shape' {w : World} {B : Nat} {v : Value} {l : List Nat} (h : Own w B v l) : ∃ p k, v = .slice p l.length k := by
 rcases h with ⟨rfl, rfl⟩ | ⟨g, cap, rfl, _⟩ <;> exact ⟨_, _, rfl⟩
theorem acc_step {W0 w1 w2 : World} {v v' : Value} {l l' : List Nat} (hb : Below W0.heap.size W0 w1) (hO : Own w1 W0.heap.size v l) (hg : Grew w1 w2 W0.heap.size v v' l') : Below W0.heap.size W0 w2 := hg.below hO hb hb.size
theorem acc_len {a : Acc} (h : a.ok) : (accTexts a).length ≤ 200 := by
 have := textCode_length (bigE a.nonce); have := bigE_length a.nonce; have := textCode_length (bigE a.bal); have := bigE_length a.bal; have := textCode_length a.root; have := h.2.2.1; have := textCode_length a.code; have := h.2.2.2.1
 unfold accTexts
 rw [List.length_append, List.length_append, List.length_append]
 omega
theorem acc_len1 {a : Acc} (h : a.ok) : (accT1 a).length ≤ 200 := by
 have := acc_len h
 unfold accTexts at this
 unfold accT1
 rw [List.length_append, List.length_append, List.length_append] at this
 omega
theorem acc_len2 {a : Acc} (h : a.ok) : (accT2 a).length ≤ 200 := by
 have := acc_len h
 unfold accTexts at this
 unfold accT2
 rw [List.length_append, List.length_append, List.length_append] at this
 rw [List.length_append]
 omega
theorem acc_len3 {a : Acc} (h : a.ok) : (accT3 a).length ≤ 200 := by
 have := acc_len h
 unfold accTexts at this
 unfold accT3
 rw [List.length_append, List.length_append, List.length_append] at this
 rw [List.length_append, List.length_append]
 omega
set_option maxRecDepth 100000 in
set_option maxHeartbeats 3200000 in
theorem acc_encode (a : Acc) (ha : a.ok) (w : World) :
  Calls Tryz.prog 61 #[.agg (accL a).toArray] w fun e w' => e = .returned (.string (textB (encAcc a))) ∧ Below w.heap.size w w' := by
 obtain ⟨A, hA⟩ : ∃ A, (accL a).toArray = A := ⟨_, rfl⟩
 have hr0 : (w.alloc (.cells A 85)).rangeAt w.heap.size 0 (accL a) := by
  rw [← hA]
  intro j u hu
  rw [Nat.zero_add, World.cell?_alloc_new]
  simpa using hu
 rw [hA]
 have R : ∀ W, Below (w.alloc (.cells A 85)).heap.size (w.alloc (.cells A 85)) W → W.cell? ⟨w.heap.size, 0, none⟩ = some (encL a.nonce) ∧ W.cell? ⟨w.heap.size, 1, none⟩ = some (encL a.bal) ∧ W.rangeAt w.heap.size 2 (a.root.map encB) ∧ W.rangeAt w.heap.size 34 (a.code.map encB) := fun W hW =>
  acc_parts ha (fun j u hu => (hW.cell (p := ⟨w.heap.size, 0 + j, none⟩) (by simp)).trans (hr0 j u hu))
 have HR := Hid.hide R
 have q0 : A[0]? = some (.int .u64 (a.nonce : Int)) := by rw [← hA]; rfl
 have HA := Hid.hide ha
 clear R hr0 hA ha
 go_enter Tryz.func61, Tryz.ntmps61
 go_wp2_with fail
 refine (highest_any a.nonce _ HA.out.1).mono ?_
 rintro e w1 ⟨rfl, hb1⟩
 have HB1 := Hid.hide hb1
 clear hb1 q0
 go_wp2_with fail
 refine (text_any (B := (w.alloc (.cells A 85)).heap.size) (l := []) (textB (bigE a.nonce)) w1 (Own.nil _ _) HB1.out.size (by rw [textB_size]; have := bigE_length a.nonce; omega) (by simp)).mono ?_
 rintro e w2 ⟨v2, rfl, hg2⟩
 rw [bytesOf_textB (bigE_lt a.nonce), List.nil_append] at hg2
 have hg2 : Grew w1 w2 (w.alloc (.cells A 85)).heap.size _ v2 (accT1 a) := hg2
 have HG2 := Hid.hide hg2
 have HB2 := Hid.hide (acc_step HB1.out (Own.nil _ _) hg2)
 obtain ⟨p2, k2, rfl⟩ := hg2.own.shape'
 have q1 := (HR.out w2 HB2.out).2.1
 have q1 : w2.cell? ⟨w.heap.size, 1, none⟩ = some (.int .u64 (a.bal : Int)) := q1
 clear hg2
 go_wp2_with fail
 refine (highest_any a.bal _ HA.out.2.1).mono ?_
 rintro e w3 ⟨rfl, hb3⟩
 have HB3 := Hid.hide (Below.behind HB2.out hb3)
 have HO3 := Hid.hide (HG2.out.own.below hb3)
 clear hb3 q1 HG2
 go_wp2_with fail
 refine (text_any (B := (w.alloc (.cells A 85)).heap.size) (textB (bigE a.bal)) w3 HO3.out HB3.out.size (by rw [textB_size]; have := bigE_length a.bal; omega) (by have := acc_len1 HA.out; omega)).mono ?_
 rintro e w4 ⟨v4, rfl, hg4⟩
 rw [bytesOf_textB (bigE_lt a.bal)] at hg4
 have hg4 : Grew w3 w4 (w.alloc (.cells A 85)).heap.size _ v4 (accT2 a) := hg4
 have HG4 := Hid.hide hg4
 have HB4 := Hid.hide (acc_step HB3.out HO3.out hg4)
 obtain ⟨p4, k4, rfl⟩ := hg4.own.shape'
 have q2 := run_range_text (P := Tryz.prog) w4 111 9 5 Tryz.underlying111 Tryz.underlying5 Tryz.underlying9 (HR.out w4 HB4.out).2.2.1 32 32 HA.out.2.2.1.symm
 clear hg4
 go_wp2_with fail
 refine (text_any (B := (w.alloc (.cells A 85)).heap.size) (textB a.root) w4 HG4.out.own HB4.out.size (by rw [textB_size, HA.out.2.2.1]; omega) (by have := acc_len2 HA.out; omega)).mono ?_
 rintro e w5 ⟨v5, rfl, hg5⟩
 rw [bytesOf_textB HA.out.2.2.2.2.1] at hg5
 have hg5 : Grew w4 w5 (w.alloc (.cells A 85)).heap.size _ v5 (accT3 a) := hg5
 have HG5 := Hid.hide hg5
 have HB5 := Hid.hide (acc_step HB4.out HG4.out.own hg5)
 obtain ⟨p5, k5, rfl⟩ := hg5.own.shape'
 have q3 := run_range_text (P := Tryz.prog) w5 111 9 5 Tryz.underlying111 Tryz.underlying5 Tryz.underlying9 (HR.out w5 HB5.out).2.2.2 32 32 HA.out.2.2.2.1.symm
 clear hg5 q2
 go_wp2_with fail
 refine (text_any (B := (w.alloc (.cells A 85)).heap.size) (textB a.code) w5 HG5.out.own HB5.out.size (by rw [textB_size, HA.out.2.2.2.1]; omega) (by have := acc_len3 HA.out; omega)).mono ?_
 rintro e w6 ⟨v6, rfl, hg6⟩
 rw [bytesOf_textB HA.out.2.2.2.2.2] at hg6
 have hg6 : Grew w5 w6 (w.alloc (.cells A 85)).heap.size _ v6 (accTexts a) := hg6
 have HB6 := Hid.hide (acc_step HB5.out HG5.out.own hg6)
 obtain ⟨p6, k6, rfl⟩ := hg6.own.shape'
 have HO6 := Hid.hide hg6.own
 clear hg6 q3 HG4 HG5 HO3
 go_wp2_with fail
 refine (list_any (B := (w.alloc (.cells A 85)).heap.size) (v := .slice none 0 0) (l := []) w6 (Own.nil _ _) HO6.out (by simp [Value.ownBlock]) HB6.out.size (by have := acc_len HA.out; omega) (by simp)).mono ?_
 rintro e w7 ⟨v7, rfl, hg7⟩
 rw [List.nil_append] at hg7
 have HB7 := Hid.hide (acc_step HB6.out (Own.nil _ _) hg7)
 obtain ⟨p7, k7, rfl⟩ := hg7.own.shape'
 have q4 := run_own_text (P := Tryz.prog) w7 111 9 5 Tryz.underlying111 Tryz.underlying5 Tryz.underlying9 hg7.own
 clear hg7
 go_wp2
 go_ret
 exact ⟨rfl, Below.up HB7.out⟩
end Go.Proofs.YtjiikjpnlgogfaaGreatDoor
namespace Go.Proofs.YtjiikjpnlgogfaaGreatDoor
open Go.RowKit
set_option maxRecDepth 100000 in
theorem pre_lite (s p : ByteArray) (w : World) :
  Calls Tryz.prog 245 #[.string s, .string p] w fun e w' => e = .returned (.bool (decide (p.size ≤ s.size ∧ s.extract 0 p.size = p))) ∧ w' = w := by
 by_cases h : p.size ≤ s.size
 ·have hi : (p.size : Int) ≤ (s.size : Int) := by omega
  obtain ⟨x, hx⟩ : ∃ x, s.extract 0 p.size = x := ⟨_, rfl⟩
  have A : Aside ((x.toList == p.toList) = decide (p.size ≤ s.size ∧ s.extract 0 p.size = p)) := by
   show (x.toList == p.toList) = decide (p.size ≤ s.size ∧ s.extract 0 p.size = p)
   rw [hx]
   by_cases e : x = p
   ·subst e
    simp [h]
   ·have : ¬ x.toList = p.toList := fun e' => e (by
     rw [Lib.toList_data, Lib.toList_data] at e'
     exact ByteArray.ext (Array.toList_inj.1 e'))
    simp [e, this]
  go_enter Tryz.func245, Tryz.ntmps245
  go_wp2
  go_ret
  exact ⟨by rw [← A.out]; rfl, rfl⟩
 ·have hi : (s.size : Int) < (p.size : Int) := by omega
  have hd : decide (p.size ≤ s.size ∧ s.extract 0 p.size = p) = false := decide_eq_false (fun e => h e.1)
  rw [hd]
  clear hd h
  go_enter Tryz.func245, Tryz.ntmps245
  go_wp2
  go_ret
  exact ⟨rfl, rfl⟩
theorem pre_any (s p : ByteArray) (w : World) :
  Calls Tryz.prog 229 #[.string s, .string p] w fun e w' => e = .returned (.bool (decide (p.size ≤ s.size ∧ s.extract 0 p.size = p))) ∧ w' = w := by
 have HP := Hid.hide (pre_lite s p w)
 obtain ⟨b, hb⟩ : ∃ b, decide (p.size ≤ s.size ∧ s.extract 0 p.size = p) = b := ⟨_, rfl⟩
 rw [hb] at HP ⊢
 clear hb
 go_enter Tryz.func229, Tryz.ntmps229
 go_wp2_with (go_at_call 245; refine (HP.out).mono ?_; rintro e w1 ⟨rfl, rfl⟩)
 go_ret
 exact ⟨rfl, rfl⟩
end Go.Proofs.YtjiikjpnlgogfaaGreatDoor
namespace Go.Proofs.YtjiikjpnlgogfaaGreatDoor
open Go.RowKit
abbrev accV (at_ : Nat) (sent : Nat → Addr) : Value := placeV at_ (.iface 423 (.pointer (some (sent 13))))
abbrev placedV (fr en : Nat) (l : Bool) (tx : ByteArray) (p : Option Addr) (m c : Nat) : Value := .agg #[.int .i64 (fr : Int), .int .i64 (en : Int), .bool l, .string tx, .slice p m c]
theorem notAt_any (fr en : Nat) (l : Bool) (tx : ByteArray) (p : Option Addr) (m c : Nat) (sent : Nat → Addr) (w : World) (hF : Faults w sent) :
  Calls Tryz.prog 161 #[placedV fr en l tx p m c] w fun e w' => e = .returned (accV fr sent) ∧ Below w.heap.size w w' := by
 have hg : w.cell? ⟨11, 0, none⟩ = some (.iface 423 (.pointer (some (sent 13)))) := hF.var 13 (by decide)
 have hgl : 11 < w.heap.size := hF.low (n := 13) (by decide)
 have hg2 := fun o => cell_past o hg hgl
 clear hF
 go_enter Tryz.func161, Tryz.ntmps161
 go_wp2
 go_ret
 exact ⟨rfl, (Below.refl _ _).alloc (Nat.le_refl _) _⟩
def numOK (l : Bool) (t : List Nat) : Prop := l = false ∧ t.length ≤ 8 ∧ ¬ (1 ≤ t.length ∧ t.take 1 = [0])
instance (l : Bool) (t : List Nat) : Decidable (numOK l t) := by unfold numOK; infer_instance
theorem bytesOf_inj {a b : ByteArray} (h : bytesOf a = bytesOf b) : a = b := by
 unfold bytesOf at h
 have : a.data.toList = b.data.toList := by
  have hinj : Function.Injective UInt8.toNat := fun x y e => UInt8.toNat_inj.1 e
  exact (List.map_inj_right (fun x y e => hinj e)).1 h
 exact ByteArray.ext (Array.toList_inj.1 this)
theorem one_nought : bytesOf ⟨#[0]⟩ = [0] := by decide
theorem pre_nought (tx : ByteArray) : decide ((⟨#[0]⟩ : ByteArray).size ≤ tx.size ∧ tx.extract 0 (⟨#[0]⟩ : ByteArray).size = ⟨#[0]⟩) = decide (1 ≤ (bytesOf tx).length ∧ (bytesOf tx).take 1 = [0]) := by
 have h1 : (⟨#[0]⟩ : ByteArray).size = 1 := rfl
 rw [h1, bytesOf_length]
 congr 1
 apply propext
 have e : tx.extract 0 1 = ⟨#[0]⟩ ↔ (bytesOf tx).take 1 = [0] := by
  constructor
  ·intro h
   have := congrArg bytesOf h
   rw [cut_bytes] at this
   simpa [one_nought] using this
  ·intro h
   have h2 : bytesOf (tx.extract 0 1) = bytesOf ⟨#[0]⟩ := by rw [cut_bytes, one_nought]; simpa using h
   exact bytesOf_inj h2
 rw [e]
set_option maxRecDepth 100000 in
set_option maxHeartbeats 1600000 in
theorem num_ok (fr en : Nat) (tx : ByteArray) (p : Option Addr) (m c : Nat) (w : World) (h : numOK false (bytesOf tx)) :
  Calls Tryz.prog 209 #[placedV fr en false tx p m c] w fun e w' => Below w.heap.size w w' ∧ e = .returned (.tuple #[.int .u64 (numB (bytesOf tx) : Int), .nilIface]) := by
 obtain ⟨_, h8, hn⟩ := h
 have hbl := bytesOf_length tx
 have HP : Hid (∀ W, Calls Tryz.prog 229 #[.string tx, .string ⟨#[0]⟩] W fun e w' => e = .returned (.bool false) ∧ w' = W) := fun W => by
  have := pre_any tx ⟨#[0]⟩ W
  rw [pre_nought, decide_eq_false hn] at this
  exact this
 have HN := Hid.hide (fun W => number_any tx W (by omega))
 have h8i : (tx.size : Int) ≤ 8 := by omega
 clear h8 hn hbl
 go_enter Tryz.func209, Tryz.ntmps209
 go_wp2_with fail
 refine (HP.out _).mono ?_
 rintro e w1 ⟨rfl, rfl⟩
 go_wp2_with fail
 refine (HN.out _).mono ?_
 rintro e w2 ⟨rfl, rfl⟩
 go_wp2
 go_ret2
 exact ⟨(Below.refl _ _).alloc (Nat.le_refl _) _, rfl⟩
set_option maxRecDepth 100000 in
set_option maxHeartbeats 1600000 in
theorem num_bad (fr en : Nat) (l : Bool) (tx : ByteArray) (p : Option Addr) (m c : Nat) (sent : Nat → Addr) (w : World) (hF : Faults w sent) (h : ¬ numOK l (bytesOf tx)) :
  Calls Tryz.prog 209 #[placedV fr en l tx p m c] w fun e w' => Below w.heap.size w w' ∧ e = .returned (.tuple #[.int .u64 0, accV fr sent]) := by
 have HA : Hid (∀ W, Below w.heap.size w W → Calls Tryz.prog 161 #[placedV fr en l tx p m c] W fun e w' => e = .returned (accV fr sent) ∧ Below W.heap.size W w') := fun W hW => notAt_any fr en l tx p m c sent W (hF.below hW)
 clear hF
 have hbl := bytesOf_length tx
 cases l with
 | true =>
  clear h hbl
  go_enter Tryz.func209, Tryz.ntmps209
  go_wp2_with fail
  refine (HA.out _ ((Below.refl _ _).alloc (Nat.le_refl _) _)).mono ?_
  rintro e w1 ⟨rfl, hb1⟩
  have A : Aside (Below w.heap.size w w1) := Below.up hb1
  clear hb1
  go_wp2
  go_ret2
  exact ⟨A.out, rfl⟩
 | false =>
  by_cases h8 : tx.size ≤ 8
  ·have h8i : (tx.size : Int) ≤ 8 := by omega
   have hn : 1 ≤ (bytesOf tx).length ∧ (bytesOf tx).take 1 = [0] := Classical.not_not.1 (fun hn => h ⟨rfl, by omega, hn⟩)
   have HP : Hid (∀ W, Calls Tryz.prog 229 #[.string tx, .string ⟨#[0]⟩] W fun e w' => e = .returned (.bool true) ∧ w' = W) := fun W => by
    have := pre_any tx ⟨#[0]⟩ W
    rw [pre_nought, decide_eq_true hn] at this
    exact this
   clear h hbl h8 hn
   go_enter Tryz.func209, Tryz.ntmps209
   go_wp2_with fail
   refine (HP.out _).mono ?_
   rintro e w1 ⟨rfl, rfl⟩
   go_wp2_with fail
   refine (HA.out _ ((Below.refl _ _).alloc (Nat.le_refl _) _)).mono ?_
   rintro e w2 ⟨rfl, hb2⟩
   have A : Aside (Below w.heap.size w w2) := Below.up hb2
   clear hb2
   go_wp2
   go_ret2
   exact ⟨A.out, rfl⟩
  ·have h8i : (8 : Int) < (tx.size : Int) := by omega
   clear h hbl h8
   go_enter Tryz.func209, Tryz.ntmps209
   go_wp2_with fail
   refine (HA.out _ ((Below.refl _ _).alloc (Nat.le_refl _) _)).mono ?_
   rintro e w2 ⟨rfl, hb2⟩
   have A : Aside (Below w.heap.size w w2) := Below.up hb2
   clear hb2
   go_wp2
   go_ret2
   exact ⟨A.out, rfl⟩
abbrev zeroH : Array Value := ((Array.replicate 32 0 : Array Nat).toList.map encB).toArray
theorem results_cell2 {fn : Func} {p u : Tmp} {ty : TypeId} (h : fn.results = #[.cell p ty, .tmp u]) (tmps : Array Value) (P : Program) (w : World) (b o : Nat) (hp : tmps.getD p undef = .pointer (some ⟨b, o, none⟩)) {v : Value} (hv : (loadVar ty ⟨b, o, none⟩).run P w = .ok v w) :
  (results fn tmps).run P w = .ok (.tuple #[v, tmps.getD u undef]) w := by
 rw [results_cell_tmp h, hp]
 simp [asAddr, hv]
theorem zeroH_lit : zeroH = #[.int .u8 0, .int .u8 0, .int .u8 0, .int .u8 0, .int .u8 0, .int .u8 0, .int .u8 0, .int .u8 0, .int .u8 0, .int .u8 0, .int .u8 0, .int .u8 0, .int .u8 0, .int .u8 0, .int .u8 0, .int .u8 0, .int .u8 0, .int .u8 0, .int .u8 0, .int .u8 0, .int .u8 0, .int .u8 0, .int .u8 0, .int .u8 0, .int .u8 0, .int .u8 0, .int .u8 0, .int .u8 0, .int .u8 0, .int .u8 0, .int .u8 0, .int .u8 0] := by kernel_rfl
structure HashW (w W : World) (tx : ByteArray) : Prop where
 below : Below w.heap.size w W
 size : W.heap.size = w.heap.size + 3
 text : W.cell? ⟨w.heap.size, 3, none⟩ = some (.string tx)
 res : W.there (w.heap.size + 1) 0 32
 var : W.there (w.heap.size + 2) 0 32
theorem HashW.mk' (w : World) (fr en : Nat) (l : Bool) (tx : ByteArray) (p : Option Addr) (m c : Nat) (t1 t2 : TypeId) (Z : Array Value) (hZ : Z.size = 32) : HashW w (((w.alloc (.cells #[.int .i64 (fr : Int), .int .i64 (en : Int), .bool l, .string tx, .slice p m c] t1)).alloc (.cells Z t2)).alloc (.cells Z t2)) tx := by
 refine ⟨(((Below.refl _ _).alloc (Nat.le_refl _) _).alloc (by simp) _).alloc (by simp; omega) _, by simp, ?_, ?_, ?_⟩
 ·rw [World.cell?_alloc_past _ _ _ (by simp; omega), World.cell?_alloc_past _ _ _ (by simp), World.cell?_alloc_new]
  rfl
 ·have := there_new (w.alloc (.cells #[.int .i64 (fr : Int), .int .i64 (en : Int), .bool l, .string tx, .slice p m c] t1)) Z t2 32 hZ.symm
  refine there_block (w := (w.alloc (.cells #[.int .i64 (fr : Int), .int .i64 (en : Int), .bool l, .string tx, .slice p m c] t1)).alloc (.cells Z t2)) (by simpa using this) (Below.heap_alloc _ _ _ (by simp))
 ·have := there_new ((w.alloc (.cells #[.int .i64 (fr : Int), .int .i64 (en : Int), .bool l, .string tx, .slice p m c] t1)).alloc (.cells Z t2)) Z t2 32 hZ.symm
  simpa using this
theorem zero_one : zeroH.all (·.oneCell') = true := all_oneCell_toArray (oneCell_enc (Array.replicate 32 0) .u8)
theorem D0 : (Array.replicate 32 0 : Array Nat).size = 32 := by simp
set_option maxRecDepth 100000 in
set_option maxHeartbeats 1600000 in
theorem hash_bad (fr en : Nat) (l : Bool) (tx : ByteArray) (p : Option Addr) (m c : Nat) (sent : Nat → Addr) (w : World) (hF : Faults w sent) (h : ¬ (l = false ∧ tx.size = 32)) :
  Calls Tryz.prog 210 #[placedV fr en l tx p m c] w fun e w' => Below w.heap.size w w' ∧ e = .returned (.tuple #[.agg zeroH, accV fr sent]) := by
 have HA : Hid (∀ W, Below w.heap.size w W → Calls Tryz.prog 161 #[placedV fr en l tx p m c] W fun e w' => e = .returned (accV fr sent) ∧ Below W.heap.size W w') := fun W hW => notAt_any fr en l tx p m c sent W (hF.below hW)
 clear hF
 have hHW := HashW.mk' w fr en l tx p m c 174 34 zeroH (by rw [zeroH_lit]; rfl)
 rw [zeroH_lit] at hHW
 have HW := Hid.hide hHW
 clear hHW
 have hend : ∀ w1 w2, HashW w w1 tx → Below w1.heap.size w1 w2 → (Tryz.prog.info? 34).map (·.size) = some zeroH.toList.length ∧ (Tryz.prog.info? 34).map (·.size) = some zeroH.size ∧ w2.there (w.heap.size + 1) 0 zeroH.size ∧ w2.there (w.heap.size + 1) 0 zeroH.toList.length ∧ Below w.heap.size w w2 := fun w1 w2 h1 h2 => by
  obtain ⟨q1, q2, q3, q4⟩ := hash_cells D0 (there_block h1.res (h2.block (w.heap.size + 1) (by rw [h1.size]; omega)))
  exact ⟨by simpa using q1, q2, q3, by simpa using q4, Below.behind h1.below h2⟩
 have HE := Hid.hide hend
 clear hend
 have hl : l = true ∨ (l = false ∧ ((tx.size : Int) == 32) = false) := by
  cases l with
  | true => exact .inl rfl
  | false => exact .inr ⟨rfl, by simp; exact fun e => h ⟨rfl, by omega⟩⟩
 clear h
 rcases hl with rfl | ⟨rfl, hne⟩
 ·go_enter Tryz.func210, Tryz.ntmps210
  go_wp2_with fail
  refine (HA.out _ HW.out.below).mono ?_
  rintro e w2 ⟨rfl, hb2⟩
  obtain ⟨q1, q2, q3, q4, q5⟩ := HE.out _ w2 HW.out hb2
  have A : Aside (w2.there (w.heap.size + 1) 0 zeroH.toList.length ∧ Below w.heap.size w w2 ∧ (Tryz.prog.info? 34).map (·.size) = some zeroH.toList.length) := ⟨q4, q5, q1⟩
  clear hb2 q1 q4 q5
  go_wp2_with (refine wpList_store_mid rfl 34 _ _ rfl (w.heap.size + 1) 0 zeroH rfl (by rw [zeroH_lit]; rfl) q3 q2 zero_one ?_)
  refine bodyPost_ret (v := .tuple #[.agg zeroH, accV fr sent]) (results_cell2 Tryz.results210 _ _ _ (w.heap.size + 1) 0 rfl (run_loadVar_mid _ _ _ 34 _ _ (World.rangeAt_setCells_same _ _ _ zeroH.toList A.out.1) Tryz.underlying34 rfl A.out.2.2)) rfl ⟨?_, rfl⟩
  exact below_setCells A.out.2.1 (by omega) _ _
 ·go_enter Tryz.func210, Tryz.ntmps210
  go_wp2_with fail
  refine (HA.out _ HW.out.below).mono ?_
  rintro e w2 ⟨rfl, hb2⟩
  obtain ⟨q1, q2, q3, q4, q5⟩ := HE.out _ w2 HW.out hb2
  have A : Aside (w2.there (w.heap.size + 1) 0 zeroH.toList.length ∧ Below w.heap.size w w2 ∧ (Tryz.prog.info? 34).map (·.size) = some zeroH.toList.length) := ⟨q4, q5, q1⟩
  clear hb2 q1 q4 q5
  go_wp2_with (refine wpList_store_mid rfl 34 _ _ rfl (w.heap.size + 1) 0 zeroH rfl (by rw [zeroH_lit]; rfl) q3 q2 zero_one ?_)
  refine bodyPost_ret (v := .tuple #[.agg zeroH, accV fr sent]) (results_cell2 Tryz.results210 _ _ _ (w.heap.size + 1) 0 rfl (run_loadVar_mid _ _ _ 34 _ _ (World.rangeAt_setCells_same _ _ _ zeroH.toList A.out.1) Tryz.underlying34 rfl A.out.2.2)) rfl ⟨?_, rfl⟩
  exact below_setCells A.out.2.1 (by omega) _ _
end Go.Proofs.YtjiikjpnlgogfaaGreatDoor
namespace Go.Proofs.YtjiikjpnlgogfaaGreatDoor
open Go.RowKit
set_option maxRecDepth 100000 in
set_option maxHeartbeats 1600000 in
theorem hash_ok (fr en : Nat) (tx : ByteArray) (p : Option Addr) (m c : Nat) (w : World) (hs : tx.size = 32) :
  Calls Tryz.prog 210 #[placedV fr en false tx p m c] w fun e w' => Below w.heap.size w w' ∧ e = .returned (.tuple #[.agg ((bytesOf tx).map encB).toArray, .nilIface]) := by
 have hHW := HashW.mk' w fr en false tx p m c 174 34 zeroH (by rw [zeroH_lit]; rfl)
 rw [zeroH_lit] at hHW
 have HW := Hid.hide hHW
 clear hHW
 have hsi : ((tx.size : Int) == 32) = true := by simp [hs]
 have hbl := bytesOf_length tx
 obtain ⟨D, hD⟩ : ∃ D : Array Nat, D = (bytesOf tx).toArray := ⟨_, rfl⟩
 have hDs : D.size = 32 := by rw [hD]; simp; omega
 have hDl : (bytesOf tx).map encB = D.toList.map encB := by rw [hD]
 have HD := Hid.hide hDl
 have HS : Hid (tx.size = 32) := hs
 have hinfo : (Tryz.prog.info? 5).map (·.size) = some 1 := by
  obtain ⟨i0, hi, _, hz1, _⟩ := info_parts infoU8
  rw [hi]; simp [hz1]
 clear hD hs
 go_enter Tryz.func210, Tryz.ntmps210
 go_upto_region 4 with fail
 generalize hWW : World.alloc (World.alloc (World.alloc w _) _) _ = W
 have hW : HashW w W tx := by rw [← hWW]; exact HW.out
 clear hWW
 have t0 := hW.text
 have hcp := run_copy_str (P := Tryz.prog) W.drew 111 9 3 5 (w.heap.size + 1 + 1) 0 32 32 tx 32 Tryz.underlying111 hinfo (by rw [HS.out]; rfl) hW.var
 rw [List.take_of_length_le (by rw [hbl, HS.out]; exact Nat.le_refl _), HD.out] at hcp
 have A : Aside (HashW w W tx) := hW
 clear hW
 go_region
 generalize hW2 : World.setCells W.drew (w.heap.size + 1 + 1) 0 (D.toList.map encB) = W2
 have hth0 : W.drew.there (w.heap.size + 1 + 1) 0 (D.toList.map encB).length := by
  have := A.out.var
  simpa [hDs] using this
 have hr2 : W2.rangeAt (w.heap.size + 1 + 1) 0 (D.toList.map encB) := by rw [← hW2]; exact World.rangeAt_setCells_same _ _ _ _ hth0
 have hB2 : Below w.heap.size w W2 := by rw [← hW2]; exact below_setCells A.out.below.drew (by omega) _ _
 have hth1 : W2.there (w.heap.size + 1) 0 32 := by
  refine there_block A.out.res ?_
  rw [← hW2]
  exact (heap_setCells _ _ _ _ _ (by omega))
 obtain ⟨q1, q2, q3, q4⟩ := hash_cells hDs hth1
 have hone := all_oneCell_toArray (oneCell_enc D .u8)
 have A2 : Aside (W2.there (w.heap.size + 1) 0 (D.toList.map encB).length ∧ Below w.heap.size w W2) := ⟨q4, hB2⟩
 clear hW2 hth0 hB2 hth1 q4 hcp
 go_wp2_with (first | (refine wpList_load_mid rfl 34 _ rfl (w.heap.size + 1 + 1) 0 rfl (D.toList.map encB) _ hr2 Tryz.underlying34 rfl q1 ?_) | (refine wpList_store_mid rfl 34 _ _ rfl (w.heap.size + 1) 0 (D.toList.map encB).toArray rfl rfl q3 q2 hone ?_))
 refine bodyPost_ret (v := .tuple #[.agg (D.toList.map encB).toArray, .nilIface]) (results_cell2 Tryz.results210 _ _ _ (w.heap.size + 1) 0 rfl (run_loadVar_mid _ _ _ 34 _ _ (World.rangeAt_setCells_same _ _ _ _ A2.out.1) Tryz.underlying34 rfl q1)) rfl ⟨?_, ?_⟩
 ·exact below_setCells A2.out.2 (by omega) _ _
 ·rw [HD.out]
end Go.Proofs.YtjiikjpnlgogfaaGreatDoor
