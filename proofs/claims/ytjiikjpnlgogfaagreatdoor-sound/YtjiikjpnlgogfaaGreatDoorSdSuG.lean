/-
  Numbers that turned makes.
  Package twigskeep: turned.
-/
import Derived.Test.YtjiikjpnlgogfaaGreatDoorSdSbG
import Derived.Laws.BitsAllLaws
import Derived.Test.YtjiikjpnlgogfaaGreatDoorSdStG
import Derived.Test.YtjiikjpnlgogfaaGreatDoorSdVaG
namespace Go.Proofs.YtjiikjpnlgogfaaGreatDoor
open Go.RowKit
theorem wrapI_range (z : Int) : -9223372036854775808 ≤ IntKind.i64.wrap z ∧ IntKind.i64.wrap z < 9223372036854775808 := by
 simp only [IntKind.wrap, show IntKind.i64.signed = true from rfl, show (2 : Int) ^ IntKind.i64.bits = 18446744073709551616 from rfl, show (2 : Int) ^ (IntKind.i64.bits - 1) = 9223372036854775808 from rfl, Bool.true_and]
 split <;> rename_i h <;> simp at h <;> omega
theorem xor8 (a b : Nat) (ha : a < 256) (hb : b < 256) : ∃ z : Nat, z < 256 ∧ bits .xor .u8 (a : Int) (b : Int) = (z : Int) := ⟨a ^^^ b, Nat.xor_lt_two_pow (n := 8) ha hb, u8_xor_nat a b ha hb⟩
theorem wrap_more (k : Nat) (h : k < 9223372036854775807) : IntKind.i64.wrap ((k : Int) + 1) = (k : Int) + 1 := by
 simp only [IntKind.wrap, show IntKind.i64.signed = true from rfl, show (2 : Int) ^ IntKind.i64.bits = 18446744073709551616 from rfl, show (2 : Int) ^ (IntKind.i64.bits - 1) = 9223372036854775808 from rfl, Bool.true_and]
 split <;> rename_i h <;> simp at h <;> omega
theorem wrap_one (r : Nat) (h : r < 255) : IntKind.i64.wrap (1 + (r : Int)) = 1 + (r : Int) ∧ IntKind.u8.wrap (1 + (r : Int)) = 1 + (r : Int) := by
 constructor
 ·have := wrap_more r (by omega)
  rw [Int.add_comm] at this
  exact this
 ·have := wrap8 (c := 1 + r) (by omega)
  simpa using this
end Go.Proofs.YtjiikjpnlgogfaaGreatDoor
namespace Go.Proofs.YtjiikjpnlgogfaaGreatDoor
open Go.RowKit
def TurSaid (w : World) (e : Ending) (w' : World) : Prop :=
 ∃ (l : List ByteArray) (p : Option Addr) (c : Nat), e = .returned (.slice p l.length c) ∧ StrRow w' p l c ∧ (∀ a, p = some a → w.heap.size ≤ a.block ∧ a.block < w'.heap.size) ∧ l.length ≤ 2001 ∧ Below w.heap.size w w'
theorem OwnC.turned {w w' : World} {v : Value} {n : Nat} {l : List ByteArray} (h : OwnC w' w.heap.size 1 v n (l.map Value.string)) (hl : l.length ≤ 2001) (hb : Below w.heap.size w w') : TurSaid w (.returned v) w' := by
 obtain ⟨p, c, rfl, _, h1, h2⟩ := h.texts
 exact ⟨l, p, c, rfl, h1, h2, hl, hb⟩
structure TuP (w : World) (g n cap : Nat) (W : World) : Prop where
 below : Below w.heap.size w W
 row : ∃ l : List ByteArray, l.length = n ∧ OwnC W w.heap.size 1 (.slice (some ⟨g, 0, none⟩) n cap) n (l.map Value.string)
theorem TuP.more {w : World} {g n cap : Nat} {W W' : World} (h : TuP w g n cap W) (hb : Below W.heap.size W W') : TuP w g n cap W' := by
 obtain ⟨l, h1, h2⟩ := h.row
 exact ⟨h.below.behind' hb, l, h1, h2.below hb⟩
theorem TuP.cell {w : World} {g n cap : Nat} {W : World} (h : TuP w g n cap W) (i : Nat) (hi : i < n) : ∃ s : ByteArray, W.cell? ⟨g, i, none⟩ = some (.string s) ∧ W.frozen? ⟨g, i, none⟩ = false := by
 obtain ⟨l, h1, h2⟩ := h.row
 obtain ⟨q1, q2⟩ := h2.cellAt i (.string (l[i]'(by omega))) (by simp)
 exact ⟨_, q1, q2⟩
theorem TuP.set {w : World} {g n cap : Nat} {W : World} (h : TuP w g n cap W) (i : Nat) (hi : i < n) (s : ByteArray) : TuP w g n cap (W.setCell ⟨g, i, none⟩ (.string s)) := by
 obtain ⟨l, h1, h2⟩ := h.row
 have h3 := h2.set i (by simp; omega) (.string s)
 refine ⟨h.below.setCell (p := ⟨g, i, none⟩) (h2.block g rfl).1 _, l.set i s, by simp [h1], ?_⟩
 rw [List.map_set]
 exact h3
theorem TuP.said {w : World} {g n cap : Nat} {W : World} (h : TuP w g n cap W) (hn : n ≤ 2001) : TurSaid w (.returned (.slice (some ⟨g, 0, none⟩) n cap)) W := by
 obtain ⟨l, h1, h2⟩ := h.row
 exact h2.turned (by omega) h.below
theorem TuP.lt {w : World} {g n cap : Nat} {W : World} (h : TuP w g n cap W) : w.heap.size ≤ g ∧ g < W.heap.size := by
 obtain ⟨l, h1, h2⟩ := h.row
 exact h2.block g rfl
structure Tu12 (w : World) (g n c1 z : Nat) (b14 : Bool) (v14 : Value) (W : World) : Prop where
 tu : TuP w g n c1 W
 row : b14 = true → ∃ gg, v14 = .slice (some ⟨gg, 0, none⟩) 1 1 ∧ gg ≠ g ∧ gg < W.heap.size ∧ W.rangeAt gg 0 ([z].map encB)
theorem Tu12.lay {w : World} {g n c1 z : Nat} {b14 : Bool} {v14 : Value} {W : World} (h : Tu12 w g n c1 z b14 v14 W) : Tu12 w g n c1 z true (.slice (some ⟨W.heap.size, 0, none⟩) 1 1) (W.alloc (.cells #[.int .u8 (z : Int)] 5)) :=
 ⟨h.tu.more ((Below.refl _ _).alloc (Nat.le_refl _) _), fun _ => ⟨_, rfl, by have := h.tu.lt; omega, by simp, fun j u hu => by rw [Nat.zero_add, World.cell?_alloc_new]; simpa using hu⟩⟩
theorem Tu12.set {w : World} {g n c1 z : Nat} {b14 : Bool} {v14 : Value} {W : World} (h : Tu12 w g n c1 z b14 v14 W) (i : Nat) (hi : i < n) (s : ByteArray) : Tu12 w g n c1 z b14 v14 (W.setCell ⟨g, i, none⟩ (.string s)) :=
 ⟨h.tu.set i hi s, fun q => by
  obtain ⟨gg, e1, e2, e3, e4⟩ := h.row q
  exact ⟨gg, e1, e2, by simpa using e3, rangeAt_block e4 (Below.heap_setCell _ _ _ _ e2)⟩⟩
structure Tu14 (w W1 : World) (b0 b3 b7 : Bool) (v7 : Value) (b8 : Bool) (v8 : Value) (W : World) : Prop where
 old : b7 = false → W = W1
 dep : b8 = true → b0 = true ∧ b3 = true ∧ b7 = true
 fin : b7 = true → ∃ l : List ByteArray, l.length ≤ 2001 ∧ OwnC W w.heap.size 1 v7 l.length (l.map Value.string) ∧ Below w.heap.size w W
 same : b8 = true → v8 = v7
theorem Tu14.shape {w W1 : World} {b0 b3 b7 : Bool} {v7 : Value} {b8 : Bool} {v8 : Value} {W : World} (h : Tu14 w W1 b0 b3 b7 v7 b8 v8 W) (d : b7 = true) : ∃ p m c, v7 = .slice p m c := by
 obtain ⟨l, _, h2, _⟩ := h.fin d
 exact h2.shape
theorem Tu14.m0 {w W1 : World} {b0 b3 b7 : Bool} {v7 : Value} {b8 : Bool} {v8 : Value} {W : World} (h : Tu14 w W1 b0 b3 b7 v7 b8 v8 W) : Tu14 w W1 true b3 b7 v7 b8 v8 W :=
 ⟨h.old, fun q => ⟨rfl, (h.dep q).2⟩, h.fin, h.same⟩
theorem Tu14.m3 {w W1 : World} {b0 b3 b7 : Bool} {v7 : Value} {b8 : Bool} {v8 : Value} {W : World} (h : Tu14 w W1 b0 b3 b7 v7 b8 v8 W) : Tu14 w W1 b0 true b7 v7 b8 v8 W :=
 ⟨h.old, fun q => ⟨(h.dep q).1, rfl, (h.dep q).2.2⟩, h.fin, h.same⟩
theorem Tu14.assign {w W1 : World} {b0 b3 b7 : Bool} {v7 : Value} {b8 : Bool} {v8 x : Value} {W : World} (h : Tu14 w W1 b0 b3 b7 v7 b8 v8 W) (d0 : b0 = true) (d3 : b3 = true) (d : b7 = true) (e : v7 = x) : Tu14 w W1 b0 b3 b7 v7 true x W :=
 ⟨h.old, fun _ => ⟨d0, d3, d⟩, h.fin, fun _ => e.symm⟩
theorem Tu14.start {w W1 W : World} {b0 b3 b7 : Bool} {v7 : Value} {b8 : Bool} {v8 : Value} (h : W = W1) (h7 : b7 = false) (h8 : b8 = false) : Tu14 w W1 b0 b3 b7 v7 b8 v8 W :=
 ⟨fun _ => h, fun q => (by rw [h8] at q; cases q), fun q => (by rw [h7] at q; cases q), fun q => (by rw [h8] at q; cases q)⟩
theorem Tu14.made {w W1 w' : World} {g n c1 ix : Nat} {la : List ByteArray} (h : TuP w g n c1 W1) (hn : n ≤ 1000) (hl : la.length = n) (hx : ix < n) {v' : Value} (hO : OwnC w' w.heap.size 1 v' (ix + (la.drop (ix + 1)).length) ((la.take ix).map Value.string ++ (la.drop (ix + 1)).map Value.string)) (hg : W1.grownBy w' (some g)) {b0 b3 b8 : Bool} (v8 : Value) (h8 : b8 = false) : Tu14 w W1 b0 b3 true v' b8 v8 w' := by
 refine ⟨fun q => (by cases q), fun q => (by rw [h8] at q; cases q), fun _ => ⟨la.take ix ++ la.drop (ix + 1), ?_, ?_, ?_⟩, fun q => (by rw [h8] at q; cases q)⟩
 ·simp; omega
 ·rw [← List.map_append] at hO
  have : ix + (la.drop (ix + 1)).length = (la.take ix ++ la.drop (ix + 1)).length := by simp; omega
  rw [this] at hO
  exact hO
 ·exact belowGrown h.below (Nat.le_refl _) hg fun k hk => by cases hk; exact h.lt.1
def noDstBut (ops : Array Oper) (k j : Nat) : Bool := (List.range ops.size).all fun i => i == k || decide (dstOf ops i ≠ some j)
theorem noDst_but {ops : Array Oper} {listed : Array Bool} {j k : Nat} (h : noDstBut ops k j = true) (hk : listed.getD k false = false) : ∀ i, listed.getD i false = true → dstOf ops i ≠ some j := by
 intro i hl hi
 have hlt : i < ops.size := by
  by_cases hlt : i < ops.size
  ·exact hlt
  ·unfold dstOf at hi
   rw [Array.getElem?_eq_none (by omega)] at hi
   cases hi
 have := List.all_eq_true.1 h i (List.mem_range.2 hlt)
 simp only [Bool.or_eq_true, beq_iff_eq, decide_eq_true_eq] at this
 rcases this with rfl | h2
 ·rw [hk] at hl; cases hl
 ·exact h2 hi
theorem strRow_new (w : World) (s : ByteArray) : StrRow (w.alloc (.cells #[.string s] 9)) (some ⟨w.heap.size, 0, none⟩) [s] 1 ∧ Below w.heap.size w (w.alloc (.cells #[.string s] 9)) :=
 ⟨.inr ⟨_, 0, rfl, Nat.le_refl _, fun _ => by simp, fun j u hu => by rw [Nat.zero_add, World.cell?_alloc_new]; simpa using hu⟩, (Below.refl _ _).alloc (Nat.le_refl _) _⟩
set_option maxRecDepth 100000 in
set_option maxHeartbeats 3200000 in
theorem turned_any {w : World} (l o : List ByteArray) (p q : Option Addr) (c d : Nat) (how at_ by_ : Int) (h1 : -9223372036854775808 ≤ how ∧ how < 9223372036854775808) (h2 : -9223372036854775808 ≤ at_ ∧ at_ < 9223372036854775808) (h3 : -9223372036854775808 ≤ by_ ∧ by_ < 9223372036854775808) (hl : l.length ≤ 1000) (ho : o.length ≤ 1000) (hr : StrRow w p l c) (hq : StrRow w q o d) (hsz : ∀ s ∈ l, s.size ≤ 9223372036854775806) :
  Calls Tryz.prog 35 #[.slice p l.length c, .slice q o.length d, .int .i64 how, .int .i64 at_, .int .i64 by_] w fun e w' => TurSaid w e w' := by
 have HR1 := Hid.hide hr
 have HR2 := Hid.hide hq
 have HL : Hid (l.length ≤ 1000 ∧ o.length ≤ 1000 ∧ ∀ s ∈ l, s.size ≤ 9223372036854775806) := ⟨hl, ho, hsz⟩
 have HI : Hid ((-9223372036854775808 ≤ how ∧ how < 9223372036854775808) ∧ (-9223372036854775808 ≤ at_ ∧ at_ < 9223372036854775808) ∧ (-9223372036854775808 ≤ by_ ∧ by_ < 9223372036854775808)) := ⟨h1, h2, h3⟩
 clear hr hq hl ho h1 h2 h3 hsz
 go_enter Tryz.func35, Tryz.ntmps35
 go_upto_region 3 with (at_builtin; refine wpList_append_str _ rfl _ _ rfl w.heap.size (.slice none 0 0) 0 [] rfl (OwnC.nil _ _ _) p l c rfl HR1.out (by have := HL.out.1; omega) (Nat.le_refl _) ?_; intro v1 w1 hO1 hg1; have H1 : Hid (OwnC w1 w.heap.size 1 v1 l.length (l.map Value.string) ∧ w.grownBy w1 none) := ⟨by simpa using hO1, hg1⟩; obtain ⟨p1, m1, c1, rfl⟩ := hO1.shape; clear hO1 hg1)
 obtain ⟨pp, cc, ev, -, -, -⟩ := H1.out.1.texts
 simp only [Value.slice.injEq] at ev
 obtain ⟨rfl, rfl, rfl⟩ := ev
 have HB1 : Hid (Below w.heap.size w w1) := belowGrown (Below.refl _ _) (Nat.le_refl _) H1.out.2 (fun k hk => by cases hk)
 by_cases hl0 : l.length = 0
 ·have H0 : Hid (l = []) := List.eq_nil_of_length_eq_zero hl0
  rw [hl0]
  clear hl0
  have hO : OwnC w1 w.heap.size 1 (.slice p1 0 c1) 0 [] := by have := H1.out.1; rw [H0.out] at this; exact this
  go_wp2_with (at_builtin; refine wpList_append_str _ rfl _ _ rfl w.heap.size (.slice p1 0 c1) 0 [] rfl hO q o d rfl (HR2.out.below HB1.out) (by have := HL.out.2.1; omega) HB1.out.size ?_; intro v2 w2 hO2 hg2; have HE : Hid (TurSaid w (.returned v2) w2) := OwnC.turned (l := o) (n := 0 + o.length) (by simpa using hO2) (by have := HL.out.2.1; omega) (belowGrown HB1.out (Nat.le_refl _) hg2 fun k hk => (hO.block k hk).1); obtain ⟨p2, m2, c2, rfl⟩ := hO2.shape; clear hO2 hg2)
  go_ret
  exact HE.out
 ·obtain ⟨g, cap, ev, hCg, hgl, hcap, hcm, hth, hrow⟩ := H1.out.1.full (by omega)
  simp only [Value.slice.injEq] at ev
  obtain ⟨rfl, -, rfl⟩ := ev
  have HP : Hid (TuP w g l.length c1 w1) := ⟨HB1.out, l, rfl, H1.out.1⟩
  have HCl : Hid (∀ ix, ix < l.length → ∃ s, s ∈ l ∧ w1.cell? ⟨g, ix, none⟩ = some (.string s) ∧ w1.frozen? ⟨g, ix, none⟩ = false) := fun ix hix => by
   obtain ⟨q1, q2⟩ := H1.out.1.cellAt ix (.string l[ix]) (by simp)
   exact ⟨_, List.getElem_mem hix, q1, q2⟩
  obtain ⟨n, hn⟩ : ∃ n, l.length = n := ⟨_, rfl⟩
  have hn0 : ¬ (n : Int) = 0 := by omega
  obtain ⟨ix, hi, hpi⟩ := kpick_ex at_ n HI.out.2.1.1 HI.out.2.1.2 (by omega)
  obtain ⟨k, hk, hpk⟩ := kpick_ex how 6 HI.out.1.1 HI.out.1.2 (by omega)
  have HPi := Hid.hide hpi
  have HPk := Hid.hide hpk
  have HN : Hid (n ≤ 1000 ∧ ix < n ∧ n ≤ c1 ∧ l.length = n) := ⟨by have := HL.out.1; omega, hi, by omega, hn⟩
  rw [hn] at HP HCl H1 ⊢
  clear hl0 hCg hgl hcap hcm hth hrow hpi hpk hi HR1 hn
  go_wp2_with fail
  refine (HPi.out _).mono ?_
  rintro e w2 ⟨rfl, rfl⟩
  go_wp2_with fail
  refine (HPk.out _).mono ?_
  rintro e w2 ⟨rfl, rfl⟩
  clear HPi HPk
  have hk6 : k = 0 ∨ k = 1 ∨ k = 2 ∨ k = 3 ∨ k = 4 ∨ k = 5 := by omega
  clear hk
  rcases hk6 with rfl | rfl | rfl | rfl | rfl | rfl
  ·have hin := HN.out.2.1
   obtain ⟨s, hsm, hs, hfz⟩ := HCl.out ix hin
   by_cases h0 : s.size = 0
   ·have e0 := no_text s h0
    go_wp2
    go_ret
    exact HP.out.said (by have := HN.out.1; omega)
   ·have e0 := some_text s (by omega)
    obtain ⟨kk, hkk, hpk⟩ := kpick_ex by_ s.size HI.out.2.2.1 HI.out.2.2.2 (by omega)
    have HPk := Hid.hide hpk
    clear hpk
    go_wp2_with fail
    refine (HPk.out _).mono ?_
    rintro e w2 ⟨rfl, rfl⟩
    go_upto_region 12 with fail
    obtain ⟨z4, hz4⟩ : ∃ z, s.extract 0 kk = z := ⟨_, rfl⟩
    obtain ⟨z7, hz7⟩ : ∃ z, (s[kk]'hkk).toNat = z := ⟨_, rfl⟩
    obtain ⟨z9, hz9⟩ : ∃ z, IntKind.i64.wrap (by_.tdiv 7) = z := ⟨_, rfl⟩
    obtain ⟨z20, hz20⟩ : ∃ z, s.extract (kk + 1) s.size = z := ⟨_, rfl⟩
    obtain ⟨r, hr, hpr⟩ := kpick_ex z9 255 (by rw [← hz9]; exact (wrapI_range _).1) (by rw [← hz9]; exact (wrapI_range _).2) (by omega)
    have HPr := Hid.hide hpr
    obtain ⟨hw1, hw2⟩ := wrap_one r hr
    obtain ⟨z13, h13, hz13⟩ := xor8 z7 (1 + r) (by rw [← hz7]; exact UInt8.toNat_lt _) (by omega)
    rw [show ((1 + r : Nat) : Int) = 1 + (r : Int) by simp] at hz13
    obtain ⟨z15, hz15⟩ : ∃ z, textB [z13] = z := ⟨_, rfl⟩
    have hss : s.size ≤ 9223372036854775806 := HL.out.2.2 s hsm
    have s4 : z4.size = kk := by rw [← hz4]; simp; omega
    have s15 : z15.size = 1 := by rw [← hz15, textB_size]; rfl
    have s20 : z20.size = s.size - (kk + 1) := by rw [← hz20]; simp
    have hA : ¬ 9223372036854775807 < z4.size + z15.size := by omega
    have hA2 : ¬ 9223372036854775807 < z4.size + z15.size + z20.size := by omega
    have hw19 := wrap_more kk (by omega)
    have h20a : (0 : Int) ≤ (kk : Int) + 1 := by omega
    have h20b : (kk : Int) + 1 ≤ (s.size : Int) := by omega
    have hk1 : kk ≤ s.size := by omega
    have hTu : TuP w g n c1 (World.drew w2) := HP.out.more (Below.refl _ _).drew
    clear hpr hss s4 s15 s20 h13 hr
    refine wp_region_any (by kernel_rfl) ?_
    change wpAny _ _ _ _ _ _ _ (World.drew _)
    obtain ⟨vf, hvf⟩ : ∃ vf : Nat → Option Value, vf = fun i => ([some (.slice (some ⟨g, 0, none⟩) n c1), some (.int .i64 (ix : Int)), some (.string s), some (.int .i64 (kk : Int)), some (.string z4), some (.string s), some (.int .i64 (kk : Int)), some (.int .u8 (z7 : Int)), some (.int .i64 by_), some (.int .i64 z9), some (.int .i64 (r : Int)), some (.int .i64 (1 + (r : Int))), some (.int .u8 (1 + (r : Int))), some (.int .u8 (z13 : Int)), none, some (.string z15), some (.string (z4 ++ z15)), some (.string s), some (.int .i64 (kk : Int)), some (.int .i64 ((kk : Int) + 1)), some (.string z20), some (.string (z4 ++ z15 ++ z20)), some (.pointer (some ⟨g, ix, none⟩)), none] : List (Option Value)).getD i none := ⟨_, rfl⟩
    refine wpAny_vary _ (fun d v w' => (∀ i x, vf i = some x → d i = true → v i = x) ∧ (fun d v w' => Tu12 w g n c1 z13 (d 14) (v 14) w') d v w') (by kernel_rfl) (by kernel_rfl) ?_ _ (fun _ => undef) ?_ ?_
    ·intro i o ho listed val b W hsat hnew hdeps hI
     have hi : i < 24 := (Array.getElem?_eq_some_iff.1 ho).1
     match i, hi with
     | 0, _ =>
      obtain rfl := Option.some.inj ho
      have t11 : b.tmps[11]? = some (.slice (some ⟨g, 0, none⟩) n c1) := (hsat.rest 11 (fun i _ => noDst_of (by kernel_rfl) i)).trans rfl
      refine Oper.wp_mono (K := fun a' w' => a' = b.put (some 45) (.slice (some ⟨g, 0, none⟩) n c1) ∧ w' = W) (by rintro a' w' ⟨rfl, rfl⟩; exact ⟨_, rfl, vals_step hI.1 (by rw [hvf]; rfl), hI.2⟩) ?_
      clear ho hdeps hsat hI hnew hvf
      go_simp
     | 1, _ =>
      obtain rfl := Option.some.inj ho
      have t12 : b.tmps[12]? = some (.int .i64 (ix : Int)) := (hsat.rest 12 (fun i _ => noDst_of (by kernel_rfl) i)).trans rfl
      refine Oper.wp_mono (K := fun a' w' => a' = b.put (some 46) (.int .i64 (ix : Int)) ∧ w' = W) (by rintro a' w' ⟨rfl, rfl⟩; exact ⟨_, rfl, vals_step hI.1 (by rw [hvf]; rfl), hI.2⟩) ?_
      clear ho hdeps hsat hI hnew hvf
      go_simp
     | 2, _ =>
      obtain rfl := Option.some.inj ho
      have t13 : b.tmps[13]? = some (.string s) := (hsat.rest 13 (fun i _ => noDst_of (by kernel_rfl) i)).trans rfl
      refine Oper.wp_mono (K := fun a' w' => a' = b.put (some 47) (.string s) ∧ w' = W) (by rintro a' w' ⟨rfl, rfl⟩; exact ⟨_, rfl, vals_step hI.1 (by rw [hvf]; rfl), hI.2⟩) ?_
      clear ho hdeps hsat hI hnew hvf
      go_simp
     | 3, _ =>
      obtain rfl := Option.some.inj ho
      have t14 : b.tmps[14]? = some (.int .i64 (kk : Int)) := (hsat.rest 14 (fun i _ => noDst_of (by kernel_rfl) i)).trans rfl
      refine Oper.wp_mono (K := fun a' w' => a' = b.put (some 48) (.int .i64 (kk : Int)) ∧ w' = W) (by rintro a' w' ⟨rfl, rfl⟩; exact ⟨_, rfl, vals_step hI.1 (by rw [hvf]; rfl), hI.2⟩) ?_
      clear ho hdeps hsat hI hnew hvf
      go_simp
     | 4, _ =>
      obtain rfl := Option.some.inj ho
      have t47 : b.tmps[47]? = some (.string s) := (hsat.done 2 47 (hdeps ⟨2, .data⟩ (by simp) rfl) rfl (by simp)).trans (congrArg some (hI.1 2 _ (by rw [hvf]; rfl) (hdeps ⟨2, .data⟩ (by simp) rfl)))
      have t48 : b.tmps[48]? = some (.int .i64 (kk : Int)) := (hsat.done 3 48 (hdeps ⟨3, .data⟩ (by simp) rfl) rfl (by simp)).trans (congrArg some (hI.1 3 _ (by rw [hvf]; rfl) (hdeps ⟨3, .data⟩ (by simp) rfl)))
      refine Oper.wp_mono (K := fun a' w' => a' = b.put (some 49) (.string z4) ∧ w' = W) (by rintro a' w' ⟨rfl, rfl⟩; exact ⟨_, rfl, vals_step hI.1 (by rw [hvf]; rfl), hI.2⟩) ?_
      clear ho hdeps hsat hI hnew hvf
      go_simp
     | 5, _ =>
      obtain rfl := Option.some.inj ho
      have t13 : b.tmps[13]? = some (.string s) := (hsat.rest 13 (fun i _ => noDst_of (by kernel_rfl) i)).trans rfl
      refine Oper.wp_mono (K := fun a' w' => a' = b.put (some 50) (.string s) ∧ w' = W) (by rintro a' w' ⟨rfl, rfl⟩; exact ⟨_, rfl, vals_step hI.1 (by rw [hvf]; rfl), hI.2⟩) ?_
      clear ho hdeps hsat hI hnew hvf
      go_simp
     | 6, _ =>
      obtain rfl := Option.some.inj ho
      have t14 : b.tmps[14]? = some (.int .i64 (kk : Int)) := (hsat.rest 14 (fun i _ => noDst_of (by kernel_rfl) i)).trans rfl
      refine Oper.wp_mono (K := fun a' w' => a' = b.put (some 51) (.int .i64 (kk : Int)) ∧ w' = W) (by rintro a' w' ⟨rfl, rfl⟩; exact ⟨_, rfl, vals_step hI.1 (by rw [hvf]; rfl), hI.2⟩) ?_
      clear ho hdeps hsat hI hnew hvf
      go_simp
     | 7, _ =>
      obtain rfl := Option.some.inj ho
      have t50 : b.tmps[50]? = some (.string s) := (hsat.done 5 50 (hdeps ⟨5, .data⟩ (by simp) rfl) rfl (by simp)).trans (congrArg some (hI.1 5 _ (by rw [hvf]; rfl) (hdeps ⟨5, .data⟩ (by simp) rfl)))
      have t51 : b.tmps[51]? = some (.int .i64 (kk : Int)) := (hsat.done 6 51 (hdeps ⟨6, .data⟩ (by simp) rfl) rfl (by simp)).trans (congrArg some (hI.1 6 _ (by rw [hvf]; rfl) (hdeps ⟨6, .data⟩ (by simp) rfl)))
      refine Oper.wp_mono (K := fun a' w' => a' = b.put (some 52) (.int .u8 (z7 : Int)) ∧ w' = W) (by rintro a' w' ⟨rfl, rfl⟩; exact ⟨_, rfl, vals_step hI.1 (by rw [hvf]; rfl), hI.2⟩) ?_
      clear ho hdeps hsat hI hnew hvf
      go_simp
     | 8, _ =>
      obtain rfl := Option.some.inj ho
      have t4 : b.tmps[4]? = some (.int .i64 by_) := (hsat.rest 4 (fun i _ => noDst_of (by kernel_rfl) i)).trans rfl
      refine Oper.wp_mono (K := fun a' w' => a' = b.put (some 53) (.int .i64 by_) ∧ w' = W) (by rintro a' w' ⟨rfl, rfl⟩; exact ⟨_, rfl, vals_step hI.1 (by rw [hvf]; rfl), hI.2⟩) ?_
      clear ho hdeps hsat hI hnew hvf
      go_simp
     | 9, _ =>
      obtain rfl := Option.some.inj ho
      have t53 : b.tmps[53]? = some (.int .i64 by_) := (hsat.done 8 53 (hdeps ⟨8, .data⟩ (by simp) rfl) rfl (by simp)).trans (congrArg some (hI.1 8 _ (by rw [hvf]; rfl) (hdeps ⟨8, .data⟩ (by simp) rfl)))
      refine Oper.wp_mono (K := fun a' w' => a' = b.put (some 54) (.int .i64 z9) ∧ w' = W) (by rintro a' w' ⟨rfl, rfl⟩; exact ⟨_, rfl, vals_step hI.1 (by rw [hvf]; rfl), hI.2⟩) ?_
      clear ho hdeps hsat hI hnew hvf
      go_simp
     | 10, _ =>
      obtain rfl := Option.some.inj ho
      have t54 : b.tmps[54]? = some (.int .i64 z9) := (hsat.done 9 54 (hdeps ⟨9, .data⟩ (by simp) rfl) rfl (by simp)).trans (congrArg some (hI.1 9 _ (by rw [hvf]; rfl) (hdeps ⟨9, .data⟩ (by simp) rfl)))
      obtain ⟨G, hG⟩ : ∃ G : Value → World → Prop, ∀ x w', G x w' ↔ ((∀ j y, vf j = some y → (fun k => if k = 10 then true else listed.getD k false) j = true → (fun k => if k = 10 then x else val k) j = y) ∧ Tu12 w g n c1 z13 (listed.getD 14 false) (val 14) w') := ⟨_, fun _ _ => Iff.rfl⟩
      refine Oper.wp_mono (K := fun a' w' => ∃ v, a' = b.put (some 55) v ∧ G v w') (by rintro a' w' ⟨v, rfl, hv⟩; exact ⟨v, rfl, (hG v w').1 hv⟩) ?_
      have HG := Hid.hide hG
      have HI2 := Hid.hide hI
      have HVF := Hid.hide hvf
      clear hG ho hdeps hsat hI hnew hvf
      go_simp
      go_at_call 13
      refine (HPr.out W).mono ?_
      rintro e w9 ⟨rfl, rfl⟩
      exact ⟨_, rfl, (HG.out _ _).2 ⟨vals_step HI2.out.1 (by rw [HVF.out]; rfl), HI2.out.2⟩⟩
     | 11, _ =>
      obtain rfl := Option.some.inj ho
      have t55 : b.tmps[55]? = some (.int .i64 (r : Int)) := (hsat.done 10 55 (hdeps ⟨10, .data⟩ (by simp) rfl) rfl (by simp)).trans (congrArg some (hI.1 10 _ (by rw [hvf]; rfl) (hdeps ⟨10, .data⟩ (by simp) rfl)))
      refine Oper.wp_mono (K := fun a' w' => a' = b.put (some 56) (.int .i64 (1 + (r : Int))) ∧ w' = W) (by rintro a' w' ⟨rfl, rfl⟩; exact ⟨_, rfl, vals_step hI.1 (by rw [hvf]; rfl), hI.2⟩) ?_
      clear ho hdeps hsat hI hnew hvf
      go_simp
     | 12, _ =>
      obtain rfl := Option.some.inj ho
      have t56 : b.tmps[56]? = some (.int .i64 (1 + (r : Int))) := (hsat.done 11 56 (hdeps ⟨11, .data⟩ (by simp) rfl) rfl (by simp)).trans (congrArg some (hI.1 11 _ (by rw [hvf]; rfl) (hdeps ⟨11, .data⟩ (by simp) rfl)))
      refine Oper.wp_mono (K := fun a' w' => a' = b.put (some 57) (.int .u8 (1 + (r : Int))) ∧ w' = W) (by rintro a' w' ⟨rfl, rfl⟩; exact ⟨_, rfl, vals_step hI.1 (by rw [hvf]; rfl), hI.2⟩) ?_
      clear ho hdeps hsat hI hnew hvf
      go_simp
     | 13, _ =>
      obtain rfl := Option.some.inj ho
      have t52 : b.tmps[52]? = some (.int .u8 (z7 : Int)) := (hsat.done 7 52 (hdeps ⟨7, .data⟩ (by simp) rfl) rfl (by simp)).trans (congrArg some (hI.1 7 _ (by rw [hvf]; rfl) (hdeps ⟨7, .data⟩ (by simp) rfl)))
      have t57 : b.tmps[57]? = some (.int .u8 (1 + (r : Int))) := (hsat.done 12 57 (hdeps ⟨12, .data⟩ (by simp) rfl) rfl (by simp)).trans (congrArg some (hI.1 12 _ (by rw [hvf]; rfl) (hdeps ⟨12, .data⟩ (by simp) rfl)))
      refine Oper.wp_mono (K := fun a' w' => a' = b.put (some 58) (.int .u8 (z13 : Int)) ∧ w' = W) (by rintro a' w' ⟨rfl, rfl⟩; exact ⟨_, rfl, vals_step hI.1 (by rw [hvf]; rfl), hI.2⟩) ?_
      clear ho hdeps hsat hI hnew hvf
      go_simp
     | 14, _ =>
      obtain rfl := Option.some.inj ho
      have t58 : b.tmps[58]? = some (.int .u8 (z13 : Int)) := (hsat.done 13 58 (hdeps ⟨13, .data⟩ (by simp) rfl) rfl (by simp)).trans (congrArg some (hI.1 13 _ (by rw [hvf]; rfl) (hdeps ⟨13, .data⟩ (by simp) rfl)))
      refine Oper.wp_mono (K := fun a' w' => a' = b.put (some 59) (.slice (some ⟨W.heap.size, 0, none⟩) 1 1) ∧ w' = W.alloc (.cells #[.int .u8 (z13 : Int)] 5)) (by rintro a' w' ⟨rfl, rfl⟩; exact ⟨_, rfl, vals_free hI.1 (by rw [hvf]; rfl), hI.2.lay⟩) ?_
      clear ho hdeps hsat hI hnew hvf
      go_simp
     | 15, _ =>
      obtain rfl := Option.some.inj ho
      have d14 := hdeps ⟨14, .data⟩ (by simp) rfl
      obtain ⟨gg, g1, g2, g3, g4⟩ := hI.2.row d14
      have t59 : b.tmps[59]? = some (.slice (some ⟨gg, 0, none⟩) 1 1) := (hsat.done 14 59 d14 rfl (by simp)).trans (congrArg some g1)
      have hcv := name_loads (W := W) (b := gg) (n := 1) (l := [z13]) g4 rfl
      rw [hz15] at hcv
      refine Oper.wp_mono (K := fun a' w' => a' = b.put (some 60) (.string z15) ∧ w' = W) (by rintro a' w' ⟨rfl, rfl⟩; exact ⟨_, rfl, vals_step hI.1 (by rw [hvf]; rfl), hI.2⟩) ?_
      clear ho hdeps hsat hI hnew hvf g1 g2 g3 g4 d14
      go_simp
     | 16, _ =>
      obtain rfl := Option.some.inj ho
      have t49 : b.tmps[49]? = some (.string z4) := (hsat.done 4 49 (hdeps ⟨4, .data⟩ (by simp) rfl) rfl (by simp)).trans (congrArg some (hI.1 4 _ (by rw [hvf]; rfl) (hdeps ⟨4, .data⟩ (by simp) rfl)))
      have t60 : b.tmps[60]? = some (.string z15) := (hsat.done 15 60 (hdeps ⟨15, .data⟩ (by simp) rfl) rfl (by simp)).trans (congrArg some (hI.1 15 _ (by rw [hvf]; rfl) (hdeps ⟨15, .data⟩ (by simp) rfl)))
      refine Oper.wp_mono (K := fun a' w' => a' = b.put (some 61) (.string (z4 ++ z15)) ∧ w' = W) (by rintro a' w' ⟨rfl, rfl⟩; exact ⟨_, rfl, vals_step hI.1 (by rw [hvf]; rfl), hI.2⟩) ?_
      clear ho hdeps hsat hI hnew hvf
      go_simp
     | 17, _ =>
      obtain rfl := Option.some.inj ho
      have t13 : b.tmps[13]? = some (.string s) := (hsat.rest 13 (fun i _ => noDst_of (by kernel_rfl) i)).trans rfl
      refine Oper.wp_mono (K := fun a' w' => a' = b.put (some 62) (.string s) ∧ w' = W) (by rintro a' w' ⟨rfl, rfl⟩; exact ⟨_, rfl, vals_step hI.1 (by rw [hvf]; rfl), hI.2⟩) ?_
      clear ho hdeps hsat hI hnew hvf
      go_simp
     | 18, _ =>
      obtain rfl := Option.some.inj ho
      have t14 : b.tmps[14]? = some (.int .i64 (kk : Int)) := (hsat.rest 14 (fun i _ => noDst_of (by kernel_rfl) i)).trans rfl
      refine Oper.wp_mono (K := fun a' w' => a' = b.put (some 63) (.int .i64 (kk : Int)) ∧ w' = W) (by rintro a' w' ⟨rfl, rfl⟩; exact ⟨_, rfl, vals_step hI.1 (by rw [hvf]; rfl), hI.2⟩) ?_
      clear ho hdeps hsat hI hnew hvf
      go_simp
     | 19, _ =>
      obtain rfl := Option.some.inj ho
      have t63 : b.tmps[63]? = some (.int .i64 (kk : Int)) := (hsat.done 18 63 (hdeps ⟨18, .data⟩ (by simp) rfl) rfl (by simp)).trans (congrArg some (hI.1 18 _ (by rw [hvf]; rfl) (hdeps ⟨18, .data⟩ (by simp) rfl)))
      refine Oper.wp_mono (K := fun a' w' => a' = b.put (some 64) (.int .i64 ((kk : Int) + 1)) ∧ w' = W) (by rintro a' w' ⟨rfl, rfl⟩; exact ⟨_, rfl, vals_step hI.1 (by rw [hvf]; rfl), hI.2⟩) ?_
      clear ho hdeps hsat hI hnew hvf
      go_simp
     | 20, _ =>
      obtain rfl := Option.some.inj ho
      have t62 : b.tmps[62]? = some (.string s) := (hsat.done 17 62 (hdeps ⟨17, .data⟩ (by simp) rfl) rfl (by simp)).trans (congrArg some (hI.1 17 _ (by rw [hvf]; rfl) (hdeps ⟨17, .data⟩ (by simp) rfl)))
      have t64 : b.tmps[64]? = some (.int .i64 ((kk : Int) + 1)) := (hsat.done 19 64 (hdeps ⟨19, .data⟩ (by simp) rfl) rfl (by simp)).trans (congrArg some (hI.1 19 _ (by rw [hvf]; rfl) (hdeps ⟨19, .data⟩ (by simp) rfl)))
      refine Oper.wp_mono (K := fun a' w' => a' = b.put (some 65) (.string z20) ∧ w' = W) (by rintro a' w' ⟨rfl, rfl⟩; exact ⟨_, rfl, vals_step hI.1 (by rw [hvf]; rfl), hI.2⟩) ?_
      clear ho hdeps hsat hI hnew hvf
      go_simp
     | 21, _ =>
      obtain rfl := Option.some.inj ho
      have t61 : b.tmps[61]? = some (.string (z4 ++ z15)) := (hsat.done 16 61 (hdeps ⟨16, .data⟩ (by simp) rfl) rfl (by simp)).trans (congrArg some (hI.1 16 _ (by rw [hvf]; rfl) (hdeps ⟨16, .data⟩ (by simp) rfl)))
      have t65 : b.tmps[65]? = some (.string z20) := (hsat.done 20 65 (hdeps ⟨20, .data⟩ (by simp) rfl) rfl (by simp)).trans (congrArg some (hI.1 20 _ (by rw [hvf]; rfl) (hdeps ⟨20, .data⟩ (by simp) rfl)))
      refine Oper.wp_mono (K := fun a' w' => a' = b.put (some 66) (.string (z4 ++ z15 ++ z20)) ∧ w' = W) (by rintro a' w' ⟨rfl, rfl⟩; exact ⟨_, rfl, vals_step hI.1 (by rw [hvf]; rfl), hI.2⟩) ?_
      clear ho hdeps hsat hI hnew hvf
      go_simp
     | 22, _ =>
      obtain rfl := Option.some.inj ho
      have t45 : b.tmps[45]? = some (.slice (some ⟨g, 0, none⟩) n c1) := (hsat.done 0 45 (hdeps ⟨0, .data⟩ (by simp) rfl) rfl (by simp)).trans (congrArg some (hI.1 0 _ (by rw [hvf]; rfl) (hdeps ⟨0, .data⟩ (by simp) rfl)))
      have t46 : b.tmps[46]? = some (.int .i64 (ix : Int)) := (hsat.done 1 46 (hdeps ⟨1, .data⟩ (by simp) rfl) rfl (by simp)).trans (congrArg some (hI.1 1 _ (by rw [hvf]; rfl) (hdeps ⟨1, .data⟩ (by simp) rfl)))
      refine Oper.wp_mono (K := fun a' w' => a' = b.put (some 67) (.pointer (some ⟨g, ix, none⟩)) ∧ w' = W) (by rintro a' w' ⟨rfl, rfl⟩; exact ⟨_, rfl, vals_step hI.1 (by rw [hvf]; rfl), hI.2⟩) ?_
      clear ho hdeps hsat hI hnew hvf
      go_simp
     | 23, _ =>
      obtain rfl := Option.some.inj ho
      have t67 : b.tmps[67]? = some (.pointer (some ⟨g, ix, none⟩)) := (hsat.done 22 67 (hdeps ⟨22, .data⟩ (by simp) rfl) rfl (by simp)).trans (congrArg some (hI.1 22 _ (by rw [hvf]; rfl) (hdeps ⟨22, .data⟩ (by simp) rfl)))
      have t66 : b.tmps[66]? = some (.string (z4 ++ z15 ++ z20)) := (hsat.done 21 66 (hdeps ⟨21, .data⟩ (by simp) rfl) rfl (by simp)).trans (congrArg some (hI.1 21 _ (by rw [hvf]; rfl) (hdeps ⟨21, .data⟩ (by simp) rfl)))
      obtain ⟨s9, hs9, hfz9⟩ := hI.2.tu.cell ix hin
      refine Oper.wp_mono (K := fun a' w' => a' = b ∧ w' = W.setCell ⟨g, ix, none⟩ (.string (z4 ++ z15 ++ z20))) (by rintro a' w' ⟨rfl, rfl⟩; exact ⟨undef, rfl, vals_free hI.1 (by rw [hvf]; rfl), hI.2.set ix hin _⟩) ?_
      clear ho hdeps hsat hI hnew hvf
      go_simp
    ·exact ⟨fun _ _ _ h => (by simp at h), ⟨hTu, fun q => (by simp at q)⟩⟩
    ·intro val W hI
     have e0 : val 0 = .slice (some ⟨g, 0, none⟩) n c1 := hI.1 0 _ (by rw [hvf]; rfl) rfl
     have e1 : val 1 = .int .i64 (ix : Int) := hI.1 1 _ (by rw [hvf]; rfl) rfl
     have e2 : val 2 = .string s := hI.1 2 _ (by rw [hvf]; rfl) rfl
     have e3 : val 3 = .int .i64 (kk : Int) := hI.1 3 _ (by rw [hvf]; rfl) rfl
     have e4 : val 4 = .string z4 := hI.1 4 _ (by rw [hvf]; rfl) rfl
     have e5 : val 5 = .string s := hI.1 5 _ (by rw [hvf]; rfl) rfl
     have e6 : val 6 = .int .i64 (kk : Int) := hI.1 6 _ (by rw [hvf]; rfl) rfl
     have e7 : val 7 = .int .u8 (z7 : Int) := hI.1 7 _ (by rw [hvf]; rfl) rfl
     have e8 : val 8 = .int .i64 by_ := hI.1 8 _ (by rw [hvf]; rfl) rfl
     have e9 : val 9 = .int .i64 z9 := hI.1 9 _ (by rw [hvf]; rfl) rfl
     have e10 : val 10 = .int .i64 (r : Int) := hI.1 10 _ (by rw [hvf]; rfl) rfl
     have e11 : val 11 = .int .i64 (1 + (r : Int)) := hI.1 11 _ (by rw [hvf]; rfl) rfl
     have e12 : val 12 = .int .u8 (1 + (r : Int)) := hI.1 12 _ (by rw [hvf]; rfl) rfl
     have e13 : val 13 = .int .u8 (z13 : Int) := hI.1 13 _ (by rw [hvf]; rfl) rfl
     have e15 : val 15 = .string z15 := hI.1 15 _ (by rw [hvf]; rfl) rfl
     have e16 : val 16 = .string (z4 ++ z15) := hI.1 16 _ (by rw [hvf]; rfl) rfl
     have e17 : val 17 = .string s := hI.1 17 _ (by rw [hvf]; rfl) rfl
     have e18 : val 18 = .int .i64 (kk : Int) := hI.1 18 _ (by rw [hvf]; rfl) rfl
     have e19 : val 19 = .int .i64 ((kk : Int) + 1) := hI.1 19 _ (by rw [hvf]; rfl) rfl
     have e20 : val 20 = .string z20 := hI.1 20 _ (by rw [hvf]; rfl) rfl
     have e21 : val 21 = .string (z4 ++ z15 ++ z20) := hI.1 21 _ (by rw [hvf]; rfl) rfl
     have e22 : val 22 = .pointer (some ⟨g, ix, none⟩) := hI.1 22 _ (by rw [hvf]; rfl) rfl
     have hX := hI.2
     simp only [runFrom, Act.put, Nat.zero_add, Nat.reduceAdd, List.setIfInBounds_toArray, List.set_cons_zero, List.set_cons_succ, e0, e1, e2, e3, e4, e5, e6, e7, e8, e9, e10, e11, e12, e13, e15, e16, e17, e18, e19, e20, e21, e22]
     clear hI hvf e0 e1 e2 e3 e4 e5 e6 e7 e8 e9 e10 e11 e12 e13 e15 e16 e17 e18 e19 e20 e21 e22
     have HX : Hid (TuP w g n c1 W) := hX.tu
     clear hX
     (try go_wp2)
     go_ret
     exact HX.out.said (by have := HN.out.1; omega)
  ·have hin := HN.out.2.1
   go_upto_region 14 with fail
   obtain ⟨W1, hW1e⟩ : ∃ W1, World.drew w2 = W1 := ⟨_, rfl⟩
   have hTu : TuP w g n c1 W1 := by rw [← hW1e]; exact HP.out.more (Below.refl _ _).drew
   obtain ⟨la, hla, hOa⟩ := hTu.row
   have hOh := hOa.head ix (by omega)
   rw [← List.map_take] at hOh
   have hlt := hTu.lt
   obtain ⟨px, hpx⟩ : ∃ px, (if c1 = ix + 1 then some (⟨g, 0, none⟩ : Addr) else some ⟨g, ix + 1, none⟩) = px := ⟨_, rfl⟩
   have hdl : (la.drop (ix + 1)).length = n - (ix + 1) := by simp; omega
   have hrw : StrRow W1 px (la.drop (ix + 1)) (c1 - (ix + 1)) := by
    have hc := HN.out.2.2.1
    rw [← hpx]
    by_cases h0 : c1 = ix + 1
    ·rw [if_pos h0, List.eq_nil_of_length_eq_zero (by omega : (la.drop (ix + 1)).length = 0)]
     exact .inr ⟨g, 0, rfl, by simp, fun q => (by simp at q), fun j u hu => (by simp at hu)⟩
    ·rw [if_neg h0]
     exact .inr ⟨g, ix + 1, rfl, by omega, fun _ => hlt.2, fun j u hu => (hOa.cellAt (ix + 1 + j) u (by rw [List.getElem?_map, ← List.getElem?_drop, ← List.getElem?_map]; exact hu)).1⟩
   have HRw : Hid (OwnC W1 w.heap.size 1 (.slice (some ⟨g, 0, none⟩) ix c1) ix ((la.take ix).map Value.string) ∧ StrRow W1 px (la.drop (ix + 1)) (c1 - (ix + 1)) ∧ (la.drop (ix + 1)).length = n - (ix + 1)) := ⟨hOh, hrw, hdl⟩
   have hW1 : w.heap.size ≤ W1.heap.size := by omega
   have HEn : Hid (∀ v' w' v8, OwnC w' w.heap.size 1 v' (ix + (la.drop (ix + 1)).length) ((la.take ix).map Value.string ++ (la.drop (ix + 1)).map Value.string) → W1.grownBy w' (some g) → ∀ {b0 b3 b8 : Bool}, b8 = false → Tu14 w W1 b0 b3 true v' b8 v8 w') := fun v' w' v8 hO hg _ _ _ h8 => Tu14.made hTu HN.out.1 hla hin hO hg v8 h8
   have hw5 := wrap_more ix (by have := HN.out.1; omega)
   have hic : ix ≤ c1 := by have := HN.out; omega
   have h6a : (0 : Int) ≤ (ix : Int) + 1 := by omega
   have h6b : (ix : Int) + 1 ≤ (n : Int) := by omega
   clear hTu hOa hOh hlt hla hrw hdl
   refine wp_region_any (by kernel_rfl) ?_
   change wpAny _ _ _ _ _ _ _ (World.drew _)
   obtain ⟨vf, hvf⟩ : ∃ vf : Nat → Option Value, vf = fun i => ([some (.slice (some ⟨g, 0, none⟩) n c1), some (.int .i64 (ix : Int)), some (.slice (some ⟨g, 0, none⟩) ix c1), some (.slice (some ⟨g, 0, none⟩) n c1), some (.int .i64 (ix : Int)), some (.int .i64 ((ix : Int) + 1)), some (.slice px (n - (ix + 1)) (c1 - (ix + 1))), none, none] : List (Option Value)).getD i none := ⟨_, rfl⟩
   refine wpAny_vary _ (fun d v w' => (∀ i x, vf i = some x → d i = true → v i = x) ∧ (fun d v w' => Tu14 w W1 (d 0) (d 3) (d 7) (v 7) (d 8) (v 8) w') d v w') (by kernel_rfl) (by kernel_rfl) ?_ _ (fun _ => undef) ?_ ?_
   ·intro i o ho listed val b W hsat hnew hdeps hI
    have hi : i < 9 := (Array.getElem?_eq_some_iff.1 ho).1
    match i, hi with
    | 0, _ =>
     obtain rfl := Option.some.inj ho
     have h8 : listed.getD 8 false = false := by
      cases hq : listed.getD 8 false with
      | false => rfl
      | true => exact absurd (hI.2.dep hq).1 (by show ¬ listed.getD 0 false = true; rw [hnew]; simp)
     have t11 : b.tmps[11]? = some (.slice (some ⟨g, 0, none⟩) n c1) := (hsat.rest 11 (noDst_but (k := 8) (by kernel_rfl) h8)).trans rfl
     refine Oper.wp_mono (K := fun a' w' => a' = b.put (some 70) (.slice (some ⟨g, 0, none⟩) n c1) ∧ w' = W) (by rintro a' w' ⟨rfl, rfl⟩; exact ⟨_, rfl, vals_step hI.1 (by rw [hvf]; rfl), hI.2.m0⟩) ?_
     clear ho hdeps hsat hI hnew hvf h8
     go_simp
    | 1, _ =>
     obtain rfl := Option.some.inj ho
     have t12 : b.tmps[12]? = some (.int .i64 (ix : Int)) := (hsat.rest 12 (fun i _ => noDst_of (by kernel_rfl) i)).trans rfl
     refine Oper.wp_mono (K := fun a' w' => a' = b.put (some 71) (.int .i64 (ix : Int)) ∧ w' = W) (by rintro a' w' ⟨rfl, rfl⟩; exact ⟨_, rfl, vals_step hI.1 (by rw [hvf]; rfl), hI.2⟩) ?_
     clear ho hdeps hsat hI hnew hvf
     go_simp
    | 2, _ =>
     obtain rfl := Option.some.inj ho
     have t70 : b.tmps[70]? = some (.slice (some ⟨g, 0, none⟩) n c1) := (hsat.done 0 70 (hdeps ⟨0, .data⟩ (by simp) rfl) rfl (by simp)).trans (congrArg some (hI.1 0 _ (by rw [hvf]; rfl) (hdeps ⟨0, .data⟩ (by simp) rfl)))
     have t71 : b.tmps[71]? = some (.int .i64 (ix : Int)) := (hsat.done 1 71 (hdeps ⟨1, .data⟩ (by simp) rfl) rfl (by simp)).trans (congrArg some (hI.1 1 _ (by rw [hvf]; rfl) (hdeps ⟨1, .data⟩ (by simp) rfl)))
     refine Oper.wp_mono (K := fun a' w' => a' = b.put (some 72) (.slice (some ⟨g, 0, none⟩) ix c1) ∧ w' = W) (by rintro a' w' ⟨rfl, rfl⟩; exact ⟨_, rfl, vals_step hI.1 (by rw [hvf]; rfl), hI.2⟩) ?_
     clear ho hdeps hsat hI hnew hvf
     go_simp
    | 3, _ =>
     obtain rfl := Option.some.inj ho
     have h8 : listed.getD 8 false = false := by
      cases hq : listed.getD 8 false with
      | false => rfl
      | true => exact absurd (hI.2.dep hq).2.1 (by show ¬ listed.getD 3 false = true; rw [hnew]; simp)
     have t11 : b.tmps[11]? = some (.slice (some ⟨g, 0, none⟩) n c1) := (hsat.rest 11 (noDst_but (k := 8) (by kernel_rfl) h8)).trans rfl
     refine Oper.wp_mono (K := fun a' w' => a' = b.put (some 73) (.slice (some ⟨g, 0, none⟩) n c1) ∧ w' = W) (by rintro a' w' ⟨rfl, rfl⟩; exact ⟨_, rfl, vals_step hI.1 (by rw [hvf]; rfl), hI.2.m3⟩) ?_
     clear ho hdeps hsat hI hnew hvf h8
     go_simp
    | 4, _ =>
     obtain rfl := Option.some.inj ho
     have t12 : b.tmps[12]? = some (.int .i64 (ix : Int)) := (hsat.rest 12 (fun i _ => noDst_of (by kernel_rfl) i)).trans rfl
     refine Oper.wp_mono (K := fun a' w' => a' = b.put (some 74) (.int .i64 (ix : Int)) ∧ w' = W) (by rintro a' w' ⟨rfl, rfl⟩; exact ⟨_, rfl, vals_step hI.1 (by rw [hvf]; rfl), hI.2⟩) ?_
     clear ho hdeps hsat hI hnew hvf
     go_simp
    | 5, _ =>
     obtain rfl := Option.some.inj ho
     have t74 : b.tmps[74]? = some (.int .i64 (ix : Int)) := (hsat.done 4 74 (hdeps ⟨4, .data⟩ (by simp) rfl) rfl (by simp)).trans (congrArg some (hI.1 4 _ (by rw [hvf]; rfl) (hdeps ⟨4, .data⟩ (by simp) rfl)))
     refine Oper.wp_mono (K := fun a' w' => a' = b.put (some 75) (.int .i64 ((ix : Int) + 1)) ∧ w' = W) (by rintro a' w' ⟨rfl, rfl⟩; exact ⟨_, rfl, vals_step hI.1 (by rw [hvf]; rfl), hI.2⟩) ?_
     clear ho hdeps hsat hI hnew hvf
     go_simp
    | 6, _ =>
     obtain rfl := Option.some.inj ho
     have t73 : b.tmps[73]? = some (.slice (some ⟨g, 0, none⟩) n c1) := (hsat.done 3 73 (hdeps ⟨3, .data⟩ (by simp) rfl) rfl (by simp)).trans (congrArg some (hI.1 3 _ (by rw [hvf]; rfl) (hdeps ⟨3, .data⟩ (by simp) rfl)))
     have t75 : b.tmps[75]? = some (.int .i64 ((ix : Int) + 1)) := (hsat.done 5 75 (hdeps ⟨5, .data⟩ (by simp) rfl) rfl (by simp)).trans (congrArg some (hI.1 5 _ (by rw [hvf]; rfl) (hdeps ⟨5, .data⟩ (by simp) rfl)))
     refine Oper.wp_mono (K := fun a' w' => a' = b.put (some 76) (.slice px (n - (ix + 1)) (c1 - (ix + 1))) ∧ w' = W) (by rintro a' w' ⟨rfl, rfl⟩; exact ⟨_, rfl, vals_step hI.1 (by rw [hvf]; rfl), hI.2⟩) ?_
     clear ho hdeps hsat hI hnew hvf
     go_simp
    | 7, _ =>
     obtain rfl := Option.some.inj ho
     have t72 : b.tmps[72]? = some (.slice (some ⟨g, 0, none⟩) ix c1) := (hsat.done 2 72 (hdeps ⟨2, .data⟩ (by simp) rfl) rfl (by simp)).trans (congrArg some (hI.1 2 _ (by rw [hvf]; rfl) (hdeps ⟨2, .data⟩ (by simp) rfl)))
     have t76 : b.tmps[76]? = some (.slice px (n - (ix + 1)) (c1 - (ix + 1))) := (hsat.done 6 76 (hdeps ⟨6, .data⟩ (by simp) rfl) rfl (by simp)).trans (congrArg some (hI.1 6 _ (by rw [hvf]; rfl) (hdeps ⟨6, .data⟩ (by simp) rfl)))
     obtain rfl := hI.2.old hnew
     have hd8 : listed.getD 8 false = false := by
      cases hq : listed.getD 8 false with
      | false => rfl
      | true => exact absurd (hI.2.dep hq).2.2 (by show ¬ listed.getD 7 false = true; rw [hnew]; simp)
     have e1 : b.eval (.tmp 72) = .slice (some ⟨g, 0, none⟩) ix c1 := by simp only [Act.eval, Array.getD_eq_getD_getElem?, t72, Option.getD_some]
     have e2 : b.eval (.tmp 76) = .slice px (la.drop (ix + 1)).length (c1 - (ix + 1)) := by rw [HRw.out.2.2]; simp only [Act.eval, Array.getD_eq_getD_getElem?, t76, Option.getD_some]
     refine step_append_str W (.tmp 72) (.tmp 76) rfl w.heap.size _ ix _ e1 HRw.out.1 _ (la.drop (ix + 1)) _ e2 HRw.out.2.1 (by have := HN.out; rw [HRw.out.2.2]; omega) hW1 ?_
     intro v' w' hO' hg'
     exact ⟨v', rfl, vals_free hI.1 (by rw [hvf]; rfl), HEn.out v' w' _ hO' hg' hd8⟩
    | 8, _ =>
     obtain rfl := Option.some.inj ho
     have d7 := hdeps ⟨7, .data⟩ (by simp) rfl
     obtain ⟨p9, m9, c9, e9⟩ := hI.2.shape d7
     have t77 : b.tmps[77]? = some (.slice p9 m9 c9) := (hsat.done 7 77 d7 rfl (by simp)).trans (congrArg some e9)
     refine Oper.wp_mono (K := fun a' w' => a' = b.put (some 11) (.slice p9 m9 c9) ∧ w' = W) (by rintro a' w' ⟨rfl, rfl⟩; exact ⟨_, rfl, vals_free hI.1 (by rw [hvf]; rfl), hI.2.assign (hdeps ⟨0, .phase⟩ (by simp) rfl) (hdeps ⟨3, .phase⟩ (by simp) rfl) d7 e9⟩) ?_
     clear ho hdeps hsat hI hnew hvf
     go_simp
   ·exact ⟨fun _ _ _ h => (by simp at h), Tu14.start hW1e (by simp) (by simp)⟩
   ·intro val W hI
    have e0 : val 0 = .slice (some ⟨g, 0, none⟩) n c1 := hI.1 0 _ (by rw [hvf]; rfl) rfl
    have e1 : val 1 = .int .i64 (ix : Int) := hI.1 1 _ (by rw [hvf]; rfl) rfl
    have e2 : val 2 = .slice (some ⟨g, 0, none⟩) ix c1 := hI.1 2 _ (by rw [hvf]; rfl) rfl
    have e3 : val 3 = .slice (some ⟨g, 0, none⟩) n c1 := hI.1 3 _ (by rw [hvf]; rfl) rfl
    have e4 : val 4 = .int .i64 (ix : Int) := hI.1 4 _ (by rw [hvf]; rfl) rfl
    have e5 : val 5 = .int .i64 ((ix : Int) + 1) := hI.1 5 _ (by rw [hvf]; rfl) rfl
    have e6 : val 6 = .slice px (n - (ix + 1)) (c1 - (ix + 1)) := hI.1 6 _ (by rw [hvf]; rfl) rfl
    have hX := hI.2
    simp only [runFrom, Act.put, Nat.zero_add, Nat.reduceAdd, List.setIfInBounds_toArray, List.set_cons_zero, List.set_cons_succ, e0, e1, e2, e3, e4, e5, e6]
    clear hI hvf e0 e1 e2 e3 e4 e5 e6
    obtain ⟨l', h1, h2, h3⟩ := hX.fin rfl
    obtain ⟨p9, m9, c9, e9⟩ := hX.shape rfl
    have e8 : val 8 = .slice p9 m9 c9 := (hX.same rfl).trans e9
    rw [e9] at h2
    rw [e8]
    have HX := Hid.hide (h2.turned h1 h3)
    clear hX h1 h2 h3 e8 e9
    (try go_wp2)
    go_ret
    exact HX.out
  ·have hin := HN.out.2.1
   obtain ⟨s, hs, hfz⟩ := HP.out.cell ix hin
   obtain ⟨l', hl', hO'⟩ := HP.out.row
   go_wp2_with (at_builtin; refine wpList_append_str _ rfl _ _ rfl w.heap.size (.slice (some ⟨g, 0, none⟩) n c1) n (l'.map Value.string) rfl (hO'.below (strRow_new _ s).2) (some ⟨_, 0, none⟩) [s] 1 rfl (strRow_new _ s).1 (by have := HN.out.1; simp; omega) (Nat.le_trans HB1.out.size (strRow_new _ s).2.size) ?_; intro v2 w3 hO2 hg2; have HE : Hid (TurSaid w (.returned v2) w3) := OwnC.turned (l := l' ++ [s]) (n := n + [s].length) (by simpa using hO2) (by have := HN.out.1; simp; omega) (belowGrown (HB1.out.behind' (strRow_new _ s).2) (Nat.le_refl _) hg2 fun k hk => (hO'.block k hk).1); obtain ⟨p2, m2, c2, rfl⟩ := hO2.shape; clear hO2 hg2)
   go_ret
   exact HE.out
  ·by_cases ho : o.length = 0
   ·rw [ho]
    go_wp2
    go_ret
    exact HP.out.said (by have := HN.out.1; omega)
   ·have hin := HN.out.2.1
    obtain ⟨s, hs, hfz⟩ := HP.out.cell ix hin
    rcases HR2.out with ⟨-, rfl, -⟩ | ⟨gq, oq, rfl, hq1, hq2, hq3⟩
    ·exact absurd rfl ho
    obtain ⟨kk, hkk, hpk⟩ := kpick_ex by_ o.length HI.out.2.2.1 HI.out.2.2.2 (by omega)
    have HPk := Hid.hide hpk
    have hs2 : w2.cell? ⟨gq, oq + kk, none⟩ = some (.string (o[kk])) := by
     have := hq3 kk (.string (o[kk])) (by simp)
     rw [HB1.out.cell (p := ⟨gq, oq + kk, none⟩) (hq2 (by omega))]
     exact this
    obtain ⟨u, hu⟩ : ∃ u, o[kk] = u := ⟨_, rfl⟩
    rw [hu] at hs2
    obtain ⟨mo, hmo⟩ : ∃ m, o.length = m := ⟨_, rfl⟩
    rw [hmo] at hkk HPk ⊢
    have ho' : (0 : Int) < (mo : Int) := by omega
    clear hpk hq1 hq2 hq3 hu ho hmo
    have HS := Hid.hide (HP.out.set ix hin u)
    go_wp2_with fail
    refine (HPk.out _).mono ?_
    rintro e w3 ⟨rfl, rfl⟩
    go_wp2
    go_ret
    exact HS.out.said (by have := HN.out.1; omega)
  ·have hin := HN.out.2.1
   obtain ⟨s, hs, hfz⟩ := HP.out.cell ix hin
   obtain ⟨kk, hkk, hpk⟩ := kpick_ex by_ n HI.out.2.2.1 HI.out.2.2.2 (by omega)
   have HPk := Hid.hide hpk
   obtain ⟨s2, hs2, hfz2⟩ := HP.out.cell kk hkk
   obtain ⟨s3, hs3, hfz3⟩ := (HP.out.set ix hin s2).cell kk hkk
   have HS := Hid.hide ((HP.out.set ix hin s2).set kk hkk s)
   clear hpk
   go_wp2_with fail
   refine (HPk.out _).mono ?_
   rintro e w3 ⟨rfl, rfl⟩
   go_wp2
   go_ret
   exact HS.out.said (by have := HN.out.1; omega)
  ·have hin := HN.out.2.1
   have hic : ix ≤ c1 := by have := HN.out; omega
   obtain ⟨l', hl', hO'⟩ := HP.out.row
   have hOh := hO'.head ix (by omega)
   rw [← List.map_take] at hOh
   go_wp2_with (at_builtin; refine wpList_append_str _ rfl _ _ rfl w.heap.size (.slice (some ⟨g, 0, none⟩) ix c1) ix _ rfl hOh q o d rfl (HR2.out.below HB1.out) (by have := HL.out.2.1; have := HN.out.1; omega) HB1.out.size ?_; intro v2 w3 hO2 hg2; have HE : Hid (TurSaid w (.returned v2) w3) := OwnC.turned (l := l'.take ix ++ o) (n := ix + o.length) (by simpa using hO2) (by have := HL.out.2.1; have := HN.out.1; simp; omega) (belowGrown HB1.out (Nat.le_refl _) hg2 fun k hk => (hOh.block k hk).1); obtain ⟨p2, m2, c2, rfl⟩ := hO2.shape; clear hO2 hg2)
   go_ret
   exact HE.out
end Go.Proofs.YtjiikjpnlgogfaaGreatDoor
