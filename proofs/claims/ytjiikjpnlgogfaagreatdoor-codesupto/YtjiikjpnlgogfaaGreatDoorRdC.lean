/-
  Package twigsref: Read, whole.
  Package twigsref: Decode.
-/
import Derived.Test.YtjiikjpnlgogfaaGreatDoorRdA
import Derived.Test.YtjiikjpnlgogfaaGreatDoorRdB
import Derived.Test.YtjiikjpnlgogfaaGreatDoorRefCode5
import Derived.Test.YtjiikjpnlgogfaaGreatDoorAccH
namespace Go.Proofs.YtjiikjpnlgogfaaGreatDoor
open Go.RowKit

theorem hdS_fit {l : List Nat} (hb : ∀ x ∈ l, x < 256) {at_ end_ : Nat} (he : end_ ≤ l.length) : (hdS l at_ end_).1.2.2 ≤ 9 ∧ ((hdS l at_ end_).2 = 0 → at_ + (hdS l at_ end_).1.2.2 ≤ end_) := by
  unfold hdS
  by_cases h0 : end_ ≤ at_
  · rw [if_pos h0]
    exact ⟨by simp, fun h => by simp at h⟩
  · rw [if_neg h0]
    have hb8 : l[at_]! < 256 := by
      rw [getElem!_pos l at_ (by omega)]
      exact hb _ (List.getElem_mem _)
    by_cases h1 : l[at_]! < 128
    · rw [if_pos h1]
      exact ⟨by simp, fun _ => by simp only; omega⟩
    · rw [if_neg h1]
      have hk : l[at_]! - (if 192 ≤ l[at_]! then 192 else 128) ≤ 63 := by split <;> omega
      generalize l[at_]! - (if 192 ≤ l[at_]! then 192 else 128) = k at hk ⊢
      split
      · exact ⟨by simp, fun _ => by simp only; omega⟩
      · split
        · exact ⟨by simp only; omega, fun h => by simp at h⟩
        · split
          · exact ⟨by simp only; omega, fun h => by simp at h⟩
          · exact ⟨by simp only; omega, fun _ => by simp only; omega⟩

theorem wrap_small (a b : Nat) (h : a + b ≤ 4294967296) : wrap64 ((a : Int) + (b : Int)) = ((a + b : Nat) : Int) := by
  unfold wrap64
  omega
theorem wrapI_small (a b : Nat) (h : a + b ≤ 4294967296) : IntKind.i64.wrap ((a : Int) + (b : Int)) = ((a + b : Nat) : Int) := (wrap_fits _ (by omega) (by omega)).trans (by omega)
theorem wrap_less (a b : Nat) (h : b ≤ a) (h2 : a ≤ 4294967296) : wrap64 ((a : Int) - (b : Int)) = ((a - b : Nat) : Int) := by
  unfold wrap64
  omega

theorem RSaid.bad {d : Nat} {l : List Nat} {at_ E : Nat} {W : World} (hr : readIt d l at_ = .error (.place at_ (.base E))) (hE : 0 < E) {e : Ending} {w' : World} (h : LookSaid (.tuple #[zeroR, faultV E 0 0 at_]) W e w') : RSaid d l at_ W e w' := by
  obtain ⟨rfl, hb⟩ := h
  refine ⟨hb, fun er he => ?_, fun x he => ?_⟩
  · rw [hr] at he
    cases he
    exact ⟨hE, rfl⟩
  · rw [hr] at he
    cases he

theorem readIt_bad {d : Nat} {l : List Nat} {at_ E : Nat} (h : headF (l.drop at_) = .error E) : readIt d l at_ = .error (.place at_ (.base E)) := by
  cases d with
  | zero => rw [readIt, h]
  | succ d => rw [readIt, h]
theorem readIt_text {d : Nat} {l : List Nat} {at_ a b : Nat} (h : headF (l.drop at_) = .ok (false, a, b)) : readIt d l at_ = .ok (.text at_ (at_ + a + b) ((l.drop (at_ + a)).take b)) := by
  cases d with
  | zero => rw [readIt, h]; rfl
  | succ d => rw [readIt, h]; rfl

set_option maxRecDepth 4000 in
/-- Read, at whatever place. -/
theorem rread_any : ∀ (d deep : Nat) (s : ByteArray) (at_ end_ : Nat) (w : World), deep + d = 6 → s.size ≤ 2048 → end_ ≤ s.size → at_ ≤ end_ →
    Calls Tryz.prog 212 #[.string s, .int .i64 (at_ : Int), .int .i64 (end_ : Int), .int .i64 (deep : Int)] w (RSaid d ((bytesOf s).take end_) at_ w) := by
  intro d
  induction d with
  | zero =>
    intro deep s at_ end_ w hdp hs he ha
    obtain rfl : deep = 6 := by omega
    have hbl := bytesOf_length s
    obtain ⟨hz, hfit⟩ := hdS_fit (byte_lt s) (at_ := at_) (end_ := end_) (by omega)
    have hH := fun W => headed_any s at_ end_ W he (by omega)
    have hq := head_eq (byte_lt s) (at_ := at_) (end_ := end_) (by omega) (by omega)
    obtain ⟨⟨⟨l, N, Z⟩, E⟩, hS⟩ : ∃ r, hdS (bytesOf s) at_ end_ = r := ⟨_, rfl⟩
    have hR := rdErr_of hS
    unfold HdSaid at hH
    rw [hS] at hH hz hfit hq
    simp only at hH hz hfit hq
    obtain ⟨R, hRe⟩ : ∃ R, rdErr (bytesOf s) at_ end_ = R := ⟨_, rfl⟩
    rw [hRe] at hR hq
    by_cases hE : E = 0
    · subst hE
      have hfit := hfit rfl
      rw [if_neg (by omega)] at hR
      by_cases hrm : end_ - (at_ + Z) < N
      · rw [if_pos hrm] at hR
        subst hR
        rw [if_neg (by omega)] at hq
        exact (rr_room s at_ end_ 6 w l N Z (at_ + Z) (end_ - (at_ + Z)) (wrap_small _ _ (by omega)) (wrap_less _ _ (by omega) (by omega)) (by omega) hH).mono fun e w' h => RSaid.bad (readIt_bad hq) (by omega) h
      · rw [if_neg hrm] at hR
        cases l with
        | true =>
          rw [if_neg (by simp)] at hR
          subst hR
          rw [if_pos rfl] at hq
          refine (rr_deep s at_ end_ 6 w N Z (at_ + Z) (end_ - (at_ + Z)) (wrap_small _ _ (by omega)) (wrap_less _ _ (by omega) (by omega)) (by omega) (by omega) hH).mono fun e w' h => RSaid.bad (d := 0) ?_ (by omega) h
          rw [readIt, hq]
          rfl
        | false =>
          have hcut : bytesOf (s.extract (at_ + Z) (at_ + Z + N)) = ((bytesOf s).drop (at_ + Z)).take N := by rw [cut_bytes]; congr 1; omega
          have hcut2 : bytesOf (s.extract at_ (at_ + Z + N)) = ((bytesOf s).drop at_).take (Z + N) := by rw [cut_bytes]; congr 1; omega
          have hC : ∀ W, Calls Tryz.prog 174 #[.string (s.extract (at_ + Z) (at_ + Z + N))] W fun e w' => e = .returned (.string (textB (textCode (((bytesOf s).drop (at_ + Z)).take N)))) ∧ Below W.heap.size W w' := fun W => by
            have := rtext_any (s.extract (at_ + Z) (at_ + Z + N)) W (by rw [cut_size _ _ _ (by omega)]; omega)
            rw [hcut] at this
            exact this
          have htb : ∀ b ∈ textCode (((bytesOf s).drop (at_ + Z)).take N), b < 256 := by
            intro b hb
            unfold textCode at hb
            rcases List.mem_append.1 hb with hb | hb
            · split at hb
              · cases hb
              · exact headB_byte' _ _ b hb
            · exact byte_lt s b (List.mem_of_mem_drop (List.mem_of_mem_take hb))
          by_cases htc : textCode (((bytesOf s).drop (at_ + Z)).take N) = ((bytesOf s).drop at_).take (Z + N)
          · rw [if_neg (by simp [htc])] at hR
            subst hR
            rw [if_pos rfl] at hq
            have hte : textB (textCode (((bytesOf s).drop (at_ + Z)).take N)) = s.extract at_ (at_ + Z + N) := bytesOf_inj (by rw [bytesOf_textB htb, hcut2, htc])
            refine (rr_text s at_ end_ 6 w N Z (at_ + Z) (end_ - (at_ + Z)) (at_ + Z + N) (wrap_small _ _ (by omega)) (wrap_less _ _ (by omega) (by omega)) (by omega) _ _ _ (wrapI_small _ _ (by omega)) ⟨by omega, by omega, by omega⟩ rfl rfl (by rw [hte]; exact beq_self_eq_true _) (wrap_small _ _ (by omega)) hH hC).mono fun e w' h => ?_
            obtain ⟨rfl, hb⟩ := h
            have hr := readIt_text (d := 0) hq
            refine ⟨hb, fun er he' => ?_, fun x he' => ?_⟩
            · rw [hr] at he'
              cases he'
            · rw [hr] at he'
              cases he'
              refine ⟨false, _, none, 0, 0, Tree.text ⟨⟨rfl, rfl⟩, ?_⟩ 0, rfl⟩
              show It.text _ _ _ = It.text _ _ (bytesOf (s.extract (at_ + Z) (at_ + Z + N)))
              rw [hcut, List.drop_take, List.take_take, Nat.min_eq_left (by omega)]
              rfl
          · rw [if_pos ⟨rfl, htc⟩] at hR
            subst hR
            rw [if_neg (by omega)] at hq
            refine (rr_form s at_ end_ 6 w N Z (at_ + Z) (end_ - (at_ + Z)) (at_ + Z + N) (wrap_small _ _ (by omega)) (wrap_less _ _ (by omega) (by omega)) (by omega) _ _ _ (wrapI_small _ _ (by omega)) ⟨by omega, by omega, by omega⟩ rfl rfl (toList_ne fun e => htc ?_) hH hC).mono fun e w' h => RSaid.bad (readIt_bad hq) (by omega) h
            rw [← hcut2, ← e, bytesOf_textB htb]
    · rw [if_pos hE] at hR
      subst hR
      rw [if_neg hE] at hq
      exact (rr_head s at_ end_ 6 w l N Z R (by omega) hH).mono fun e w' h => RSaid.bad (readIt_bad hq) (by omega) h
  | succ d ih =>
    intro deep s at_ end_ w hdp hs he ha
    have hbl := bytesOf_length s
    obtain ⟨hz, hfit⟩ := hdS_fit (byte_lt s) (at_ := at_) (end_ := end_) (by omega)
    have hH := fun W => headed_any s at_ end_ W he (by omega)
    have hq := head_eq (byte_lt s) (at_ := at_) (end_ := end_) (by omega) (by omega)
    obtain ⟨⟨⟨l, N, Z⟩, E⟩, hS⟩ : ∃ r, hdS (bytesOf s) at_ end_ = r := ⟨_, rfl⟩
    have hR := rdErr_of hS
    unfold HdSaid at hH
    rw [hS] at hH hz hfit hq
    simp only at hH hz hfit hq
    obtain ⟨R, hRe⟩ : ∃ R, rdErr (bytesOf s) at_ end_ = R := ⟨_, rfl⟩
    rw [hRe] at hR hq
    by_cases hE : E = 0
    · subst hE
      have hfit := hfit rfl
      rw [if_neg (by omega)] at hR
      by_cases hrm : end_ - (at_ + Z) < N
      · rw [if_pos hrm] at hR
        subst hR
        rw [if_neg (by omega)] at hq
        exact (rr_room s at_ end_ deep w l N Z (at_ + Z) (end_ - (at_ + Z)) (wrap_small _ _ (by omega)) (wrap_less _ _ (by omega) (by omega)) (by omega) hH).mono fun e w' h => RSaid.bad (readIt_bad hq) (by omega) h
      · rw [if_neg hrm] at hR
        cases l with
        | true =>
          rw [if_neg (by simp)] at hR
          subst hR
          rw [if_pos rfl] at hq
          have hc2 := cut_size s 0 (at_ + Z + N) (by omega)
          have hcb2 : bytesOf (s.extract 0 (at_ + Z + N)) = (bytesOf s).take (at_ + Z + N) := by rw [cut_bytes, List.drop_zero, Nat.sub_zero]
          have hr : ∀ r, itemsF d (s.extract 0 (at_ + Z + N)) (at_ + Z) = r → readIt (d + 1) ((bytesOf s).take end_) at_ = (match r with | .error e => .error e | .ok its => .ok (.list at_ (at_ + Z + N) its)) := by
            intro r h
            unfold itemsF at h
            rw [hcb2, hc2, Nat.sub_zero, show at_ + Z + N - (at_ + Z) = N by omega] at h
            rw [readIt, hq]
            simp only [if_true]
            rw [List.take_take, Nat.min_eq_left (by omega), h]
            cases r <;> rfl
          refine (rr_list d s at_ end_ deep w N Z (at_ + Z) (end_ - (at_ + Z)) (at_ + Z + N) (s.extract 0 (at_ + Z + N)) (by rw [hc2]; omega) (by omega) (by omega) (wrap_small _ _ (by omega)) (wrap_less _ _ (by omega) (by omega)) (by omega) (by omega) (wrap_small _ _ (by omega)) hH (fun W x hW hx => ?_)).mono ?_
          · rw [hcb2]
            exact ih (deep + 1) s x (at_ + Z + N) W (by omega) hs (by omega) hx
          · rintro e w' ⟨hb, h1, h2⟩
            refine ⟨hb, fun er he' => ?_, fun x he' => ?_⟩
            · cases hi : itemsF d (s.extract 0 (at_ + Z + N)) (at_ + Z) with
              | error er2 =>
                have := hr _ hi
                simp only at this
                rw [this] at he'
                cases he'
                exact h1 er hi
              | ok its =>
                have := hr _ hi
                simp only at this
                rw [this] at he'
                cases he'
            · cases hi : itemsF d (s.extract 0 (at_ + Z + N)) (at_ + Z) with
              | error er2 =>
                have := hr _ hi
                simp only at this
                rw [this] at he'
                cases he'
              | ok its =>
                have := hr _ hi
                simp only at this
                rw [this] at he'
                cases he'
                obtain ⟨p, m, k, ps, a1, a2, a3, a4⟩ := h2 its hi
                exact ⟨true, _, p, m, k, .inr ⟨rfl, ps, a1, a2, rfl, by rw [a3]; rfl⟩, a4⟩
        | false =>
          have hcut : bytesOf (s.extract (at_ + Z) (at_ + Z + N)) = ((bytesOf s).drop (at_ + Z)).take N := by rw [cut_bytes]; congr 1; omega
          have hcut2 : bytesOf (s.extract at_ (at_ + Z + N)) = ((bytesOf s).drop at_).take (Z + N) := by rw [cut_bytes]; congr 1; omega
          have hC : ∀ W, Calls Tryz.prog 174 #[.string (s.extract (at_ + Z) (at_ + Z + N))] W fun e w' => e = .returned (.string (textB (textCode (((bytesOf s).drop (at_ + Z)).take N)))) ∧ Below W.heap.size W w' := fun W => by
            have := rtext_any (s.extract (at_ + Z) (at_ + Z + N)) W (by rw [cut_size _ _ _ (by omega)]; omega)
            rw [hcut] at this
            exact this
          have htb : ∀ b ∈ textCode (((bytesOf s).drop (at_ + Z)).take N), b < 256 := by
            intro b hb
            unfold textCode at hb
            rcases List.mem_append.1 hb with hb | hb
            · split at hb
              · cases hb
              · exact headB_byte' _ _ b hb
            · exact byte_lt s b (List.mem_of_mem_drop (List.mem_of_mem_take hb))
          by_cases htc : textCode (((bytesOf s).drop (at_ + Z)).take N) = ((bytesOf s).drop at_).take (Z + N)
          · rw [if_neg (by simp [htc])] at hR
            subst hR
            rw [if_pos rfl] at hq
            have hte : textB (textCode (((bytesOf s).drop (at_ + Z)).take N)) = s.extract at_ (at_ + Z + N) := bytesOf_inj (by rw [bytesOf_textB htb, hcut2, htc])
            refine (rr_text s at_ end_ deep w N Z (at_ + Z) (end_ - (at_ + Z)) (at_ + Z + N) (wrap_small _ _ (by omega)) (wrap_less _ _ (by omega) (by omega)) (by omega) _ _ _ (wrapI_small _ _ (by omega)) ⟨by omega, by omega, by omega⟩ rfl rfl (by rw [hte]; exact beq_self_eq_true _) (wrap_small _ _ (by omega)) hH hC).mono fun e w' h => ?_
            obtain ⟨rfl, hb⟩ := h
            have hr := readIt_text (d := d + 1) hq
            refine ⟨hb, fun er he' => ?_, fun x he' => ?_⟩
            · rw [hr] at he'
              cases he'
            · rw [hr] at he'
              cases he'
              refine ⟨false, _, none, 0, 0, Tree.text ⟨⟨rfl, rfl⟩, ?_⟩ (d + 1), rfl⟩
              show It.text _ _ _ = It.text _ _ (bytesOf (s.extract (at_ + Z) (at_ + Z + N)))
              rw [hcut, List.drop_take, List.take_take, Nat.min_eq_left (by omega)]
              rfl
          · rw [if_pos ⟨rfl, htc⟩] at hR
            subst hR
            rw [if_neg (by omega)] at hq
            refine (rr_form s at_ end_ deep w N Z (at_ + Z) (end_ - (at_ + Z)) (at_ + Z + N) (wrap_small _ _ (by omega)) (wrap_less _ _ (by omega) (by omega)) (by omega) _ _ _ (wrapI_small _ _ (by omega)) ⟨by omega, by omega, by omega⟩ rfl rfl (toList_ne fun e => htc ?_) hH hC).mono fun e w' h => RSaid.bad (readIt_bad hq) (by omega) h
            rw [← hcut2, ← e, bytesOf_textB htb]
    · rw [if_pos hE] at hR
      subst hR
      rw [if_neg hE] at hq
      exact (rr_head s at_ end_ deep w l N Z R (by omega) hH).mono fun e w' h => RSaid.bad (readIt_bad hq) (by omega) h
end Go.Proofs.YtjiikjpnlgogfaaGreatDoor

namespace Go.Proofs.YtjiikjpnlgogfaaGreatDoor
open Go.RowKit

/-- What Decode of package twigsref answers. -/
def RDecSaid (s : ByteArray) (w : World) (e : Ending) (w' : World) : Prop :=
  Below w.heap.size w w' ∧ (∀ er, decF (bytesOf s) = .error er → 0 < er.num ∧ e = .returned (.tuple #[zeroR, faultV er.num 0 0 er.at_])) ∧
    ∀ x, decF (bytesOf s) = .ok x → ∃ (b : Bool) (tx : ByteArray) (p : Option Addr) (m c : Nat), Tree encR kP 6 w' (fun k => w.heap.size ≤ k) ⟨0, x.to, b, tx, .slice p m c⟩ x ∧ e = .returned (.tuple #[valR ⟨0, x.to, b, tx, .slice p m c⟩, faultV 0 0 0 0])

set_option maxRecDepth 100000 in
set_option maxHeartbeats 3200000 in
theorem rdec_any (s : ByteArray) (w : World) : Calls Tryz.prog 167 #[.string s] w (RDecSaid s w) := by
  have hbl := bytesOf_length s
  by_cases hbig : 2048 < s.size
  · have hbi : (2048 : Int) < (s.size : Int) := by omega
    have A : Aside (decF (bytesOf s) = .error (.base 1)) := (by unfold decF; rw [if_pos (by omega)] : decF (bytesOf s) = .error (.base 1))
    clear hbig hbl
    go_enter Tryz.func167, Tryz.ntmps167
    go_wp2
    refine bodyPost_ret (v := .tuple #[zeroR, faultV 1 0 0 0]) (by simp [results, Tryz.results167, go_sem]) rfl ⟨?_, fun er he => ?_, fun x he => ?_⟩
    · exact ((Below.refl _ _).alloc (Nat.le_refl _) _).alloc (by simp) _
    · rw [A.out] at he
      cases he
      exact ⟨by decide, rfl⟩
    · rw [A.out] at he
      cases he
  · have hbi : (s.size : Int) ≤ 2048 := by omega
    have HR : Hid (∀ W, Calls Tryz.prog 212 #[.string s, .int .i64 0, .int .i64 (s.size : Int), .int .i64 0] W (RSaid 6 (bytesOf s) 0 W)) := fun W => by
      have := rread_any 6 0 s 0 s.size W (by omega) (by omega) (Nat.le_refl _) (by omega)
      rw [List.take_of_length_le (by omega)] at this
      exact this
    have hD : decF (bytesOf s) = match readIt 6 (bytesOf s) 0 with | .error e => .error e | .ok x => if x.to < s.size then .error (.place x.to (.base 4)) else .ok x := by
      unfold decF
      rw [if_neg (by omega), hbl]
      cases readIt 6 (bytesOf s) 0 <;> rfl
    clear hbig hbl
    go_enter Tryz.func167, Tryz.ntmps167
    go_wp2_with fail
    refine (HR.out _).mono ?_
    rintro e w1 ⟨hb1, hd1, hd2⟩
    have hs1 := hb1.size
    simp only [World.size_alloc] at hs1
    have r0 := ((Held.fresh w [.bool false, .string ⟨#[]⟩, .slice none 0 0, .int .i64 0, .int .i64 0] 288).alloc (.cells #[.int .i64 0, .int .i64 0, .int .i64 0, .int .i64 0] 66)).below hb1
    have r1 := (Held.fresh (w.alloc (.cells #[.bool false, .string ⟨#[]⟩, .slice none 0 0, .int .i64 0, .int .i64 0] 288)) [.int .i64 0, .int .i64 0, .int .i64 0, .int .i64 0] 66).below hb1
    rw [World.size_alloc] at r1
    have B1 : Aside (Below w.heap.size w w1) := Below.behind (((Below.refl _ _).alloc (Nat.le_refl _) _).alloc (by simp) _) hb1
    have s0 := r0.1
    have s1 := r1.1
    obtain ⟨a0, f0⟩ := r0.2 0 _ rfl
    obtain ⟨a1, f1⟩ := r0.2 1 _ rfl
    obtain ⟨a2, f2⟩ := r0.2 2 _ rfl
    obtain ⟨a3, f3⟩ := r0.2 3 _ rfl
    obtain ⟨a4, f4⟩ := r0.2 4 _ rfl
    obtain ⟨b0, g0⟩ := r1.2 0 _ rfl
    obtain ⟨b1, g1⟩ := r1.2 1 _ rfl
    obtain ⟨b2, g2⟩ := r1.2 2 _ rfl
    obtain ⟨b3, g3⟩ := r1.2 3 _ rfl
    have n1 : ¬ w.heap.size = w1.heap.size := by omega
    have n2 : ¬ w.heap.size + 1 = w1.heap.size := by omega
    have n3 : ¬ w.heap.size = w1.heap.size + 1 := by omega
    clear r0 r1
    rcases hr : readIt 6 (bytesOf s) 0 with er | x
    · obtain ⟨hpos, rfl⟩ := hd1 er hr
      rw [hr] at hD
      simp only at hD
      obtain ⟨en, hen⟩ : ∃ en, er.num = en := ⟨_, rfl⟩
      obtain ⟨ea, hea⟩ : ∃ ea, er.at_ = ea := ⟨_, rfl⟩
      have A5 : Aside (decF (bytesOf s) = .error er ∧ er.num = en ∧ er.at_ = ea ∧ 0 < en) := ⟨hD, hen, hea, by rw [← hen]; exact hpos⟩
      rw [hen, hea]
      have hE0 : ((en : Int) == 0) = false := by have := A5.out.2.2.2; simp; omega
      have hE1 : ((en : Int) != 0) = true := by have := A5.out.2.2.2; simp; omega
      clear hb1 hd1 hd2 hr hen hea hpos hD hs1 HR
      go_wp2
      go_region
      all_goals go_wp2
      all_goals
        refine bodyPost_ret (v := .tuple #[zeroR, faultV en 0 0 ea]) (by simp [results, Tryz.results167, go_sem, a0, a1, a2, a3, a4, b0, b1, b2, b3, s0, s1]) rfl ⟨?_, fun er' he => ?_, fun its he => ?_⟩
      all_goals first
        | (rw [A5.out.1] at he; cases he; done)
        | (rw [A5.out.1] at he; cases he; rw [A5.out.2.1, A5.out.2.2.1]; exact ⟨A5.out.2.2.2, rfl⟩)
        | skip
      all_goals first
        | refine Below.drew (Below.alloc (Below.alloc ?_ ?_ _) ?_ _)
        | refine Below.alloc (Below.alloc ?_ ?_ _) ?_ _
      all_goals repeat' (refine Below.setCell ?_ ?_ _)
      all_goals first
        | exact B1.out
        | (simp only; omega)
        | (simp; omega)
    · obtain ⟨l, tx, p, m, cc, hT, rfl⟩ := hd2 x hr
      rw [hr] at hD
      simp only at hD
      obtain ⟨to_, hto⟩ : ∃ to_, x.to = to_ := ⟨_, rfl⟩
      rw [hto] at hT hD ⊢
      rw [show faultV 0 0 0 0 = Value.agg #[.int .i64 0, .int .i64 0, .int .i64 0, .int .i64 0] from rfl]
      by_cases hrest : to_ < s.size
      · rw [if_pos hrest] at hD
        have hri : (to_ : Int) < (s.size : Int) := by omega
        have A5 : Aside (decF (bytesOf s) = .error (.place to_ (.base 4))) := hD
        clear hb1 hd1 hd2 hr hD hs1 HR hT hrest
        go_wp2
        go_region
        all_goals go_wp2
        all_goals
          refine bodyPost_ret (v := .tuple #[zeroR, faultV 4 0 0 to_]) (by simp [results, Tryz.results167, go_sem, a0, a1, a2, a3, a4, b0, b1, b2, b3, s0, s1]) rfl ⟨?_, fun er' he => ?_, fun its he => ?_⟩
        all_goals first
          | (rw [A5.out] at he; cases he; done)
          | (rw [A5.out] at he; cases he; exact ⟨Nat.succ_pos 3, rfl⟩)
          | skip
        all_goals first
          | refine Below.drew (Below.alloc (Below.alloc ?_ ?_ _) ?_ _)
          | refine Below.alloc (Below.alloc ?_ ?_ _) ?_ _
        all_goals repeat' (refine Below.setCell ?_ ?_ _)
        all_goals first
          | exact B1.out
          | (simp only; omega)
          | (simp; omega)
      · rw [if_neg hrest] at hD
        have hri : (s.size : Int) ≤ (to_ : Int) := by omega
        have A5 : Aside (decF (bytesOf s) = .ok x ∧ x.to = to_ ∧ Tree encR kP 6 w1 (fun k => w.heap.size + 2 ≤ k) ⟨0, to_, l, tx, .slice p m cc⟩ x) := ⟨hD, hto, Tree.keep (fun k hk => by simpa using hk) (Nat.le_refl _) (fun _ _ _ => rfl) 6 hT⟩
        clear hb1 hd1 hd2 hr hD hs1 HR hT hrest hto
        go_wp2
        refine bodyPost_ret (v := .tuple #[valR ⟨0, to_, l, tx, .slice p m cc⟩, faultV 0 0 0 0]) (by simp [results, Tryz.results167, go_sem, a0, a1, a2, a3, a4, b0, b1, b2, b3, s0, s1]) rfl ⟨?_, fun er' he => ?_, fun y he => ?_⟩
        · refine Below.alloc (Below.alloc ?_ ?_ _) ?_ _
          all_goals repeat' (refine Below.setCell ?_ ?_ _)
          all_goals first
            | exact B1.out
            | (simp only; omega)
            | (simp; omega)
        · rw [A5.out.1] at he
          cases he
        · rw [A5.out.1] at he
          cases he
          refine ⟨l, tx, p, m, cc, ?_, by rw [A5.out.2.1]⟩
          rw [A5.out.2.1]
          have hsw : w1.heap.size ≤ w1.heap.size := Nat.le_refl _
          refine Tree.keep (fun k hk => by omega) (by simp; omega) (fun k hk hks => ?_) 6 A5.out.2.2
          rw [Below.heap_alloc _ _ _ (by simp; omega), Below.heap_alloc _ _ _ (by simp; omega)]
          repeat rw [Below.heap_setCell _ _ _ _ (by simp only; omega)]
end Go.Proofs.YtjiikjpnlgogfaaGreatDoor
