/-
  Numbers that turned makes.
-/
import Derived.Test.YtoohdfiddbfacaaGreatDoorTeSbG
import Derived.Laws.BitsAllLaws
import Derived.Test.YtoohdfiddbfacaaGreatDoorTeStG
import Derived.Test.YtoohdfiddbfacaaGreatDoorTeVaG
import Derived.Test.YtoohdfiddbfacaaGreatDoorTeSpG
namespace Go.Proofs.YtoohdfiddbfacaaGreatDoor
open Go.RowKit
set_option maxRecDepth 100000
set_option maxHeartbeats 25600000
theorem wrapI_range (z : Int) : -9223372036854775808 <= IntKind.i64.wrap z /\ IntKind.i64.wrap z < 9223372036854775808 := by
 simp only [IntKind.wrap, show IntKind.i64.signed = true from rfl, show (2 : Int) ^ IntKind.i64.bits = 18446744073709551616 from rfl, show (2 : Int) ^ (IntKind.i64.bits - 1) = 9223372036854775808 from rfl, Bool.true_and]
 split <;> rename_i h <;> simp at h <;> omega
theorem xor8 (a b : Nat) (ha : a < 256) (hb : b < 256) : ∃ z : Nat, z < 256 /\ bits .xor .u8 (a : Int) (b : Int) = (z : Int) := ⟨a ^^^ b, Nat.xor_lt_two_pow (n := 8) ha hb, u8_xor_nat a b ha hb⟩
theorem wrap_more (k : Nat) (h : k < 9223372036854775807) : IntKind.i64.wrap ((k : Int) + 1) = (k : Int) + 1 := by
 simp only [IntKind.wrap, show IntKind.i64.signed = true from rfl, show (2 : Int) ^ IntKind.i64.bits = 18446744073709551616 from rfl, show (2 : Int) ^ (IntKind.i64.bits - 1) = 9223372036854775808 from rfl, Bool.true_and]
 split <;> rename_i h <;> simp at h <;> omega
theorem wrap_one (r : Nat) (h : r < 255) : IntKind.i64.wrap (1 + (r : Int)) = 1 + (r : Int) /\ IntKind.u8.wrap (1 + (r : Int)) = 1 + (r : Int) := by
 constructor
 ·have := wrap_more r (by omega)
  rw [Int.add_comm] at this
  exact this
 ·have := wrap8 (c := 1 + r) (by omega)
  simpa using this
def TurSaid (w : World) (e : Ending) (w' : World) : Prop :=
 ∃ (l : List ByteArray) (p : Option Addr) (c : Nat), e = .returned (.slice p l.length c) /\ StrRow w' p l c /\ (∀ a, p = some a -> w.heap.size <= a.block /\ a.block < w'.heap.size) /\ l.length <= 2001 /\ Below w.heap.size w w'
theorem OwnC.turned {w w' : World} {v : Value} {n : Nat} {l : List ByteArray} (h : OwnC w' w.heap.size 1 v n (l.map Value.string)) (hl : l.length <= 2001) (hb : Below w.heap.size w w') : TurSaid w (.returned v) w' := by
 obtain ⟨p, c, rfl, _, a, b⟩ := h.texts
 exact ⟨l, p, c, rfl, a, b, hl, hb⟩
structure TuP (w : World) (g n cap : Nat) (W : World) : Prop where
 below : Below w.heap.size w W
 row : ∃ l : List ByteArray, l.length = n /\ OwnC W w.heap.size 1 (.slice (some ⟨g, 0, none⟩) n cap) n (l.map Value.string)
theorem TuP.more {w : World} {g n cap : Nat} {W W' : World} (h : TuP w g n cap W) (hb : Below W.heap.size W W') : TuP w g n cap W' := by
 obtain ⟨l, a, b⟩ := h.row
 exact ⟨h.below.behind' hb, l, a, b.below hb⟩
theorem TuP.cell {w : World} {g n cap : Nat} {W : World} (h : TuP w g n cap W) (i : Nat) (hi : i < n) : ∃ s : ByteArray, W.cell? ⟨g, i, none⟩ = some (.string s) /\ W.frozen? ⟨g, i, none⟩ = false := by
 obtain ⟨l, d, a⟩ := h.row
 obtain ⟨b, c⟩ := a.cellAt i (.string (l[i]'(by omega))) (by simp)
 exact ⟨_, b, c⟩
theorem TuP.set {w : World} {g n cap : Nat} {W : World} (h : TuP w g n cap W) (i : Nat) (hi : i < n) (s : ByteArray) : TuP w g n cap (W.setCell ⟨g, i, none⟩ (.string s)) := by
 obtain ⟨l, b, a⟩ := h.row
 have c := a.set i (by simp; omega) (.string s)
 refine ⟨h.below.setCell (p := ⟨g, i, none⟩) (a.block g rfl).1 _, l.set i s, by simp [b], ?_⟩
 rw [List.map_set]
 exact c
theorem TuP.said {w : World} {g n cap : Nat} {W : World} (h : TuP w g n cap W) (hn : n <= 2001) : TurSaid w (.returned (.slice (some ⟨g, 0, none⟩) n cap)) W := by
 obtain ⟨l, b, a⟩ := h.row
 exact a.turned (by omega) h.below
theorem TuP.lt {w : World} {g n cap : Nat} {W : World} (h : TuP w g n cap W) : w.heap.size <= g /\ g < W.heap.size := by
 obtain ⟨l, b, a⟩ := h.row
 exact a.block g rfl
structure Tu12 (w : World) (g n c1 z : Nat) (b14 : Bool) (v14 : Value) (W : World) : Prop where
 tu : TuP w g n c1 W
 row : b14 = true -> ∃ gg, v14 = .slice (some ⟨gg, 0, none⟩) 1 1 /\ gg ≠ g /\ gg < W.heap.size /\ W.rangeAt gg 0 ([z].map encB)
theorem Tu12.lay {w : World} {g n c1 z : Nat} {b14 : Bool} {v14 : Value} {W : World} (h : Tu12 w g n c1 z b14 v14 W) : Tu12 w g n c1 z true (.slice (some ⟨W.heap.size, 0, none⟩) 1 1) (W.alloc (.cells #[.int .u8 (z : Int)] 5)) :=
 ⟨h.tu.more ((Below.refl _ _).alloc (Nat.le_refl _) _), fun _ => ⟨_, rfl, by have := h.tu.lt; omega, by simp, fun j u hu => by rw [Nat.zero_add, World.cell?_alloc_new]; simpa using hu⟩⟩
theorem Tu12.set {w : World} {g n c1 z : Nat} {b14 : Bool} {v14 : Value} {W : World} (h : Tu12 w g n c1 z b14 v14 W) (i : Nat) (hi : i < n) (s : ByteArray) : Tu12 w g n c1 z b14 v14 (W.setCell ⟨g, i, none⟩ (.string s)) :=
 ⟨h.tu.set i hi s, fun q => by
  obtain ⟨gg, e1, e2, e3, e4⟩ := h.row q
  exact ⟨gg, e1, e2, by simpa using e3, rangeAt_block e4 (Below.heap_setCell _ _ _ _ e2)⟩⟩
structure Tu14 (w W1 : World) (b0 b3 b7 : Bool) (v7 : Value) (b8 : Bool) (v8 : Value) (W : World) : Prop where
 old : b7 = false -> W = W1
 dep : b8 = true -> b0 = true /\ b3 = true /\ b7 = true
 fin : b7 = true -> ∃ l : List ByteArray, l.length <= 2001 /\ OwnC W w.heap.size 1 v7 l.length (l.map Value.string) /\ Below w.heap.size w W
 same : b8 = true -> v8 = v7
theorem Tu14.shape {w W1 : World} {b0 b3 b7 : Bool} {v7 : Value} {b8 : Bool} {v8 : Value} {W : World} (h : Tu14 w W1 b0 b3 b7 v7 b8 v8 W) (d : b7 = true) : ∃ p m c, v7 = .slice p m c := by
 obtain ⟨l, _, a, _⟩ := h.fin d
 exact a.shape
theorem Tu14.m0 {w W1 : World} {b0 b3 b7 : Bool} {v7 : Value} {b8 : Bool} {v8 : Value} {W : World} (h : Tu14 w W1 b0 b3 b7 v7 b8 v8 W) : Tu14 w W1 true b3 b7 v7 b8 v8 W :=
 ⟨h.old, fun q => ⟨rfl, (h.dep q).2⟩, h.fin, h.same⟩
theorem Tu14.m3 {w W1 : World} {b0 b3 b7 : Bool} {v7 : Value} {b8 : Bool} {v8 : Value} {W : World} (h : Tu14 w W1 b0 b3 b7 v7 b8 v8 W) : Tu14 w W1 b0 true b7 v7 b8 v8 W :=
 ⟨h.old, fun q => ⟨(h.dep q).1, rfl, (h.dep q).2.2⟩, h.fin, h.same⟩
theorem Tu14.assign {w W1 : World} {b0 b3 b7 : Bool} {v7 : Value} {b8 : Bool} {v8 x : Value} {W : World} (h : Tu14 w W1 b0 b3 b7 v7 b8 v8 W) (d0 : b0 = true) (d3 : b3 = true) (d : b7 = true) (e : v7 = x) : Tu14 w W1 b0 b3 b7 v7 true x W :=
 ⟨h.old, fun _ => ⟨d0, d3, d⟩, h.fin, fun _ => e.symm⟩
theorem Tu14.start {w W1 W : World} {b0 b3 b7 : Bool} {v7 : Value} {b8 : Bool} {v8 : Value} (h : W = W1) (h7 : b7 = false) (h8 : b8 = false) : Tu14 w W1 b0 b3 b7 v7 b8 v8 W :=
 ⟨fun _ => h, fun q => (by rw [h8] at q; cases q), fun q => (by rw [h7] at q; cases q), fun q => (by rw [h8] at q; cases q)⟩
theorem Tu14.made {w W1 w' : World} {g n c1 ix : Nat} {la : List ByteArray} (h : TuP w g n c1 W1) (hn : n <= 1000) (hl : la.length = n) (hx : ix < n) {v' : Value} (hO : OwnC w' w.heap.size 1 v' (ix + (la.drop (ix + 1)).length) ((la.take ix).map Value.string ++ (la.drop (ix + 1)).map Value.string)) (hg : W1.grownBy w' (some g)) {b0 b3 b8 : Bool} (v8 : Value) (h8 : b8 = false) : Tu14 w W1 b0 b3 true v' b8 v8 w' := by
 refine ⟨fun q => (by cases q), fun q => (by rw [h8] at q; cases q), fun _ => ⟨la.take ix ++ la.drop (ix + 1), ?_, ?_, ?_⟩, fun q => (by rw [h8] at q; cases q)⟩
 ·simp; omega
 ·rw [<- List.map_append] at hO
  have : ix + (la.drop (ix + 1)).length = (la.take ix ++ la.drop (ix + 1)).length := by simp; omega
  rw [this] at hO
  exact hO
 ·exact belowGrown h.below (Nat.le_refl _) hg fun k a => by cases a; exact h.lt.1
def noDstBut (ops : Array Oper) (k j : Nat) : Bool := (List.range ops.size).all fun i => i == k || decide (dstOf ops i ≠ some j)
theorem noDst_but {ops : Array Oper} {listed : Array Bool} {j k : Nat} (h : noDstBut ops k j = true) (hk : listed.getD k false = false) : ∀ i, listed.getD i false = true -> dstOf ops i ≠ some j := by
 intro i c b
 have a : i < ops.size := by
  by_cases a : i < ops.size
  ·exact a
  ·unfold dstOf at b
   rw [Array.getElem?_eq_none (by omega)] at b
   cases b
 have := List.all_eq_true.1 h i (List.mem_range.2 a)
 simp only [Bool.or_eq_true, beq_iff_eq, decide_eq_true_eq] at this
 rcases this with rfl | h2
 ·rw [hk] at c; cases c
 ·exact h2 b
theorem strRow_new (w : World) (s : ByteArray) : StrRow (w.alloc (.cells #[.string s] 9)) (some ⟨w.heap.size, 0, none⟩) [s] 1 /\ Below w.heap.size w (w.alloc (.cells #[.string s] 9)) :=
 ⟨.inr ⟨_, 0, rfl, Nat.le_refl _, fun _ => by simp, fun j u hu => by rw [Nat.zero_add, World.cell?_alloc_new]; simpa using hu⟩, (Below.refl _ _).alloc (Nat.le_refl _) _⟩
theorem turned_any {w : World} (l o : List ByteArray) (p q : Option Addr) (c d : Nat) (how at_ by_ : Int) (h1 : -9223372036854775808 <= how /\ how < 9223372036854775808) (h2 : -9223372036854775808 <= at_ /\ at_ < 9223372036854775808) (h3 : -9223372036854775808 <= by_ /\ by_ < 9223372036854775808) (hl : l.length <= 1000) (ho : o.length <= 1000) (hr : StrRow w p l c) (hq : StrRow w q o d) (hsz : ∀ s ∈ l, s.size <= 9223372036854775806) :
  Calls Tryz.prog 15 #[.slice p l.length c, .slice q o.length d, .int .i64 how, .int .i64 at_, .int .i64 by_] w fun e w' => TurSaid w e w' := by
 have aq := Hid.hide hr
 have ae := Hid.hide hq
 have HL : Hid (l.length <= 1000 /\ o.length <= 1000 /\ ∀ s ∈ l, s.size <= 9223372036854775806) := ⟨hl, ho, hsz⟩
 have T : Hid ((-9223372036854775808 <= how /\ how < 9223372036854775808) /\ (-9223372036854775808 <= at_ /\ at_ < 9223372036854775808) /\ (-9223372036854775808 <= by_ /\ by_ < 9223372036854775808)) := ⟨h1, h2, h3⟩
 clear hr hq hl ho h1 h2 h3 hsz
 go_enter Tryz.func15, Tryz.ntmps15
 go_upto_region 3 with (at_builtin; refine wpList_append_str _ rfl _ _ rfl w.heap.size (.slice none 0 0) 0 [] rfl (OwnC.nil _ _ _) p l c rfl aq.out (by have := HL.out.1; omega) (Nat.le_refl _) ?_; intro v1 w1 ah bl; have H1 : Hid (OwnC w1 w.heap.size 1 v1 l.length (l.map Value.string) /\ w.grownBy w1 none) := ⟨by simpa using ah, bl⟩; obtain ⟨p1, m1, c1, rfl⟩ := ah.shape; clear ah bl)
 obtain ⟨pp, cc, ev, -, -, -⟩ := H1.out.1.texts
 simp only [Value.slice.injEq] at ev
 obtain ⟨rfl, rfl, rfl⟩ := ev
 have L : Hid (Below w.heap.size w w1) := belowGrown (Below.refl _ _) (Nat.le_refl _) H1.out.2 (fun k Y => by cases Y)
 by_cases ac : l.length = 0
 ·have H0 : Hid (l = []) := List.eq_nil_of_length_eq_zero ac
  rw [ac]
  clear ac
  have hO : OwnC w1 w.heap.size 1 (.slice p1 0 c1) 0 [] := by have := H1.out.1; rw [H0.out] at this; exact this
  go_wp2_with (at_builtin; refine wpList_append_str _ rfl _ _ rfl w.heap.size (.slice p1 0 c1) 0 [] rfl hO q o d rfl (ae.out.below L.out) (by have := HL.out.2.1; omega) L.out.size ?_; intro v2 w2 I O; have HE : Hid (TurSaid w (.returned v2) w2) := OwnC.turned (l := o) (n := 0 + o.length) (by simpa using I) (by have := HL.out.2.1; omega) (belowGrown L.out (Nat.le_refl _) O fun k Y => (hO.block k Y).1); obtain ⟨p2, m2, c2, rfl⟩ := I.shape; clear I O)
  go_ret
  exact HE.out
 ·obtain ⟨g, fe, ev, de, dm, cl, dg, dz, cm⟩ := H1.out.1.full (by omega)
  simp only [Value.slice.injEq] at ev
  obtain ⟨rfl, -, rfl⟩ := ev
  have M : Hid (TuP w g l.length c1 w1) := ⟨L.out, l, rfl, H1.out.1⟩
  have am : Hid (∀ B, B < l.length -> ∃ s, s ∈ l /\ w1.cell? ⟨g, B, none⟩ = some (.string s) /\ w1.frozen? ⟨g, B, none⟩ = false) := fun B dp => by
   obtain ⟨q1, q2⟩ := H1.out.1.cellAt B (.string l[B]) (by simp)
   exact ⟨_, List.getElem_mem dp, q1, q2⟩
  obtain ⟨n, hn⟩ : ∃ n, l.length = n := ⟨_, rfl⟩
  have fk : ¬ (n : Int) = 0 := by omega
  obtain ⟨B, hi, bp⟩ := kpick_ex at_ n T.out.2.1.1 T.out.2.1.2 (by omega)
  obtain ⟨k, Y, J⟩ := kpick_ex how 6 T.out.1.1 T.out.1.2 (by omega)
  have ap := Hid.hide bp
  have N := Hid.hide J
  have H : Hid (n <= 1000 /\ B < n /\ n <= c1 /\ l.length = n) := ⟨by have := HL.out.1; omega, hi, by omega, hn⟩
  rw [hn] at M am H1 ⊢
  clear ac de dm cl dg dz cm bp J hi aq hn
  go_wp2_with fail
  refine (ap.out _).mono ?_
  rintro e w2 ⟨rfl, rfl⟩
  go_wp2_with fail
  refine (N.out _).mono ?_
  rintro e w2 ⟨rfl, rfl⟩
  clear ap N
  have dq : k = 0 \/ k = 1 \/ k = 2 \/ k = 3 \/ k = 4 \/ k = 5 := by omega
  clear Y
  rcases dq with rfl | rfl | rfl | rfl | rfl | rfl
  ·have F := H.out.2.1
   obtain ⟨s, du, hs, ak⟩ := am.out B F
   by_cases h0 : s.size = 0
   ·have e0 := no_text s h0
    go_wp2
    go_ret
    exact M.out.said (by have := H.out.1; omega)
   ·have e0 := some_text s (by omega)
    obtain ⟨kk, Q, J⟩ := kpick_ex by_ s.size T.out.2.2.1 T.out.2.2.2 (by omega)
    have N := Hid.hide J
    clear J
    go_wp2_with fail
    refine (N.out _).mono ?_
    rintro e w2 ⟨rfl, rfl⟩
    go_upto_region 12 with fail
    obtain ⟨z4, ee⟩ : ∃ z, s.extract 0 kk = z := ⟨_, rfl⟩
    obtain ⟨z7, eh⟩ : ∃ z, (s[kk]'Q).toNat = z := ⟨_, rfl⟩
    obtain ⟨z9, ce⟩ : ∃ z, IntKind.i64.wrap (by_.tdiv 7) = z := ⟨_, rfl⟩
    obtain ⟨z20, cq⟩ : ∃ z, s.extract (kk + 1) s.size = z := ⟨_, rfl⟩
    obtain ⟨r, hr, bq⟩ := kpick_ex z9 255 (by rw [<- ce]; exact (wrapI_range _).1) (by rw [<- ce]; exact (wrapI_range _).2) (by omega)
    have cw := Hid.hide bq
    obtain ⟨fq, fs⟩ := wrap_one r hr
    obtain ⟨S, dc, cp⟩ := xor8 z7 (1 + r) (by rw [<- eh]; exact UInt8.toNat_lt _) (by omega)
    rw [show ((1 + r : Nat) : Int) = 1 + (r : Int) by simp] at cp
    obtain ⟨z15, al⟩ : ∃ z, textB [S] = z := ⟨_, rfl⟩
    have dw : s.size <= 9223372036854775806 := HL.out.2.2 s du
    have s4 : z4.size = kk := by rw [<- ee]; simp; omega
    have ei : z15.size = 1 := by rw [<- al, textB_size]; rfl
    have ej : z20.size = s.size - (kk + 1) := by rw [<- cq]; simp
    have hA : ¬ 9223372036854775807 < z4.size + z15.size := by omega
    have fi : ¬ 9223372036854775807 < z4.size + z15.size + z20.size := by omega
    have fd := wrap_more kk (by omega)
    have eu : (0 : Int) <= (kk : Int) + 1 := by omega
    have ew : (kk : Int) + 1 <= (s.size : Int) := by omega
    have fj : kk <= s.size := by omega
    have V : TuP w g n c1 (World.drew w2) := M.out.more (Below.refl _ _).drew
    clear bq dw s4 ei ej dc hr
    refine wp_region_any (by kernel_rfl) ?_
    change wpAny _ _ _ _ _ _ _ (World.drew _)
    obtain ⟨vf, a⟩ : ∃ vf : Nat -> Option Value, vf = fun i => ([some (.slice (some ⟨g, 0, none⟩) n c1), some (.int .i64 (B : Int)), some (.string s), some (.int .i64 (kk : Int)), some (.string z4), some (.string s), some (.int .i64 (kk : Int)), some (.int .u8 (z7 : Int)), some (.int .i64 by_), some (.int .i64 z9), some (.int .i64 (r : Int)), some (.int .i64 (1 + (r : Int))), some (.int .u8 (1 + (r : Int))), some (.int .u8 (S : Int)), none, some (.string z15), some (.string (z4 ++ z15)), some (.string s), some (.int .i64 (kk : Int)), some (.int .i64 ((kk : Int) + 1)), some (.string z20), some (.string (z4 ++ z15 ++ z20)), some (.pointer (some ⟨g, B, none⟩)), none] : List (Option Value)).getD i none := ⟨_, rfl⟩
    refine wpAny_vary _ (fun d v w' => (∀ i x, vf i = some x -> d i = true -> v i = x) /\ (fun d v w' => Tu12 w g n c1 S (d 14) (v 14) w') d v w') (by kernel_rfl) (by kernel_rfl) ?_ _ (fun _ => undef) ?_ ?_
    ·intro i o ho E D b W y C t f
     have hi : i < 24 := (Array.getElem?_eq_some_iff.1 ho).1
     match i, hi with
     | 0, _ =>
      obtain rfl := Option.some.inj ho
      have cf : b.tmps[11]? = some (.slice (some ⟨g, 0, none⟩) n c1) := (y.rest 11 (fun i _ => noDst_of (by kernel_rfl) i)).trans rfl
      refine opPlain f.1 (by rw [a]; rfl) f.2 ?_
      clear ho t y f C a
      go_simp
     | 1, _ =>
      obtain rfl := Option.some.inj ho
      have ch : b.tmps[12]? = some (.int .i64 (B : Int)) := (y.rest 12 (fun i _ => noDst_of (by kernel_rfl) i)).trans rfl
      refine opPlain f.1 (by rw [a]; rfl) f.2 ?_
      clear ho t y f C a
      go_simp
     | 2, _ =>
      obtain rfl := Option.some.inj ho
      have ci : b.tmps[13]? = some (.string s) := (y.rest 13 (fun i _ => noDst_of (by kernel_rfl) i)).trans rfl
      refine opPlain f.1 (by rw [a]; rfl) f.2 ?_
      clear ho t y f C a
      go_simp
     | 3, _ =>
      obtain rfl := Option.some.inj ho
      have cj : b.tmps[14]? = some (.int .i64 (kk : Int)) := (y.rest 14 (fun i _ => noDst_of (by kernel_rfl) i)).trans rfl
      refine opPlain f.1 (by rw [a]; rfl) f.2 ?_
      clear ho t y f C a
      go_simp
     | 4, _ =>
      obtain rfl := Option.some.inj ho
      have fy : b.tmps[47]? = some (.string s) := tDone y f.1 (t ⟨2, .data⟩ (by simp) rfl) rfl (by simp) (by rw [a]; rfl)
      have gc : b.tmps[48]? = some (.int .i64 (kk : Int)) := tDone y f.1 (t ⟨3, .data⟩ (by simp) rfl) rfl (by simp) (by rw [a]; rfl)
      refine opPlain f.1 (by rw [a]; rfl) f.2 ?_
      clear ho t y f C a
      go_simp
     | 5, _ =>
      obtain rfl := Option.some.inj ho
      have ci : b.tmps[13]? = some (.string s) := (y.rest 13 (fun i _ => noDst_of (by kernel_rfl) i)).trans rfl
      refine opPlain f.1 (by rw [a]; rfl) f.2 ?_
      clear ho t y f C a
      go_simp
     | 6, _ =>
      obtain rfl := Option.some.inj ho
      have cj : b.tmps[14]? = some (.int .i64 (kk : Int)) := (y.rest 14 (fun i _ => noDst_of (by kernel_rfl) i)).trans rfl
      refine opPlain f.1 (by rw [a]; rfl) f.2 ?_
      clear ho t y f C a
      go_simp
     | 7, _ =>
      obtain rfl := Option.some.inj ho
      have gi : b.tmps[50]? = some (.string s) := tDone y f.1 (t ⟨5, .data⟩ (by simp) rfl) rfl (by simp) (by rw [a]; rfl)
      have gj : b.tmps[51]? = some (.int .i64 (kk : Int)) := tDone y f.1 (t ⟨6, .data⟩ (by simp) rfl) rfl (by simp) (by rw [a]; rfl)
      refine opPlain f.1 (by rw [a]; rfl) f.2 ?_
      clear ho t y f C a
      go_simp
     | 8, _ =>
      obtain rfl := Option.some.inj ho
      have t4 : b.tmps[4]? = some (.int .i64 by_) := (y.rest 4 (fun i _ => noDst_of (by kernel_rfl) i)).trans rfl
      refine opPlain f.1 (by rw [a]; rfl) f.2 ?_
      clear ho t y f C a
      go_simp
     | 9, _ =>
      obtain rfl := Option.some.inj ho
      have gm : b.tmps[53]? = some (.int .i64 by_) := tDone y f.1 (t ⟨8, .data⟩ (by simp) rfl) rfl (by simp) (by rw [a]; rfl)
      refine opPlain f.1 (by rw [a]; rfl) f.2 ?_
      clear ho t y f C a
      go_simp
     | 10, _ =>
      obtain rfl := Option.some.inj ho
      have gn : b.tmps[54]? = some (.int .i64 z9) := tDone y f.1 (t ⟨9, .data⟩ (by simp) rfl) rfl (by simp) (by rw [a]; rfl)
      refine opHide fun G hG => ?_
      have HG := Hid.hide hG
      have ao := Hid.hide f
      have cz := Hid.hide a
      clear hG ho t y f C a
      go_simp
      go_at_call 29
      refine (cw.out W).mono ?_
      rintro e w9 ⟨rfl, rfl⟩
      exact ⟨_, rfl, (HG.out _ _).2 ⟨vals_step ao.out.1 (by rw [cz.out]; rfl), ao.out.2⟩⟩
     | 11, _ =>
      obtain rfl := Option.some.inj ho
      have gw : b.tmps[55]? = some (.int .i64 (r : Int)) := tDone y f.1 (t ⟨10, .data⟩ (by simp) rfl) rfl (by simp) (by rw [a]; rfl)
      refine opPlain f.1 (by rw [a]; rfl) f.2 ?_
      clear ho t y f C a
      go_simp
     | 12, _ =>
      obtain rfl := Option.some.inj ho
      have gx : b.tmps[56]? = some (.int .i64 (1 + (r : Int))) := tDone y f.1 (t ⟨11, .data⟩ (by simp) rfl) rfl (by simp) (by rw [a]; rfl)
      refine opPlain f.1 (by rw [a]; rfl) f.2 ?_
      clear ho t y f C a
      go_simp
     | 13, _ =>
      obtain rfl := Option.some.inj ho
      have gl : b.tmps[52]? = some (.int .u8 (z7 : Int)) := tDone y f.1 (t ⟨7, .data⟩ (by simp) rfl) rfl (by simp) (by rw [a]; rfl)
      have gy : b.tmps[57]? = some (.int .u8 (1 + (r : Int))) := tDone y f.1 (t ⟨12, .data⟩ (by simp) rfl) rfl (by simp) (by rw [a]; rfl)
      refine opPlain f.1 (by rw [a]; rfl) f.2 ?_
      clear ho t y f C a
      go_simp
     | 14, _ =>
      obtain rfl := Option.some.inj ho
      have gz : b.tmps[58]? = some (.int .u8 (S : Int)) := tDone y f.1 (t ⟨13, .data⟩ (by simp) rfl) rfl (by simp) (by rw [a]; rfl)
      refine Oper.wp_mono (K := fun Z w' => Z = b.put (some 59) (.slice (some ⟨W.heap.size, 0, none⟩) 1 1) /\ w' = W.alloc (.cells #[.int .u8 (S : Int)] 5)) (by rintro Z w' ⟨rfl, rfl⟩; exact ⟨_, rfl, vals_free f.1 (by rw [a]; rfl), f.2.lay⟩) ?_
      clear ho t y f C a
      go_simp
     | 15, _ =>
      obtain rfl := Option.some.inj ho
      have ag := t ⟨14, .data⟩ (by simp) rfl
      obtain ⟨gg, g1, g2, g3, g4⟩ := f.2.row ag
      have i7 : b.tmps[59]? = some (.slice (some ⟨gg, 0, none⟩) 1 1) := (y.done 14 59 ag rfl (by simp)).trans (congrArg some g1)
      have dh := name_loads (W := W) (b := gg) (n := 1) (l := [S]) g4 rfl
      rw [al] at dh
      refine opPlain f.1 (by rw [a]; rfl) f.2 ?_
      clear ho t y f C a g1 g2 g3 g4 ag
      go_simp
     | 16, _ =>
      obtain rfl := Option.some.inj ho
      have ge : b.tmps[49]? = some (.string z4) := tDone y f.1 (t ⟨4, .data⟩ (by simp) rfl) rfl (by simp) (by rw [a]; rfl)
      have i8 : b.tmps[60]? = some (.string z15) := tDone y f.1 (t ⟨15, .data⟩ (by simp) rfl) rfl (by simp) (by rw [a]; rfl)
      refine opPlain f.1 (by rw [a]; rfl) f.2 ?_
      clear ho t y f C a
      go_simp
     | 17, _ =>
      obtain rfl := Option.some.inj ho
      have ci : b.tmps[13]? = some (.string s) := (y.rest 13 (fun i _ => noDst_of (by kernel_rfl) i)).trans rfl
      refine opPlain f.1 (by rw [a]; rfl) f.2 ?_
      clear ho t y f C a
      go_simp
     | 18, _ =>
      obtain rfl := Option.some.inj ho
      have cj : b.tmps[14]? = some (.int .i64 (kk : Int)) := (y.rest 14 (fun i _ => noDst_of (by kernel_rfl) i)).trans rfl
      refine opPlain f.1 (by rw [a]; rfl) f.2 ?_
      clear ho t y f C a
      go_simp
     | 19, _ =>
      obtain rfl := Option.some.inj ho
      have ib : b.tmps[63]? = some (.int .i64 (kk : Int)) := tDone y f.1 (t ⟨18, .data⟩ (by simp) rfl) rfl (by simp) (by rw [a]; rfl)
      refine opPlain f.1 (by rw [a]; rfl) f.2 ?_
      clear ho t y f C a
      go_simp
     | 20, _ =>
      obtain rfl := Option.some.inj ho
      have ia : b.tmps[62]? = some (.string s) := tDone y f.1 (t ⟨17, .data⟩ (by simp) rfl) rfl (by simp) (by rw [a]; rfl)
      have ic : b.tmps[64]? = some (.int .i64 ((kk : Int) + 1)) := tDone y f.1 (t ⟨19, .data⟩ (by simp) rfl) rfl (by simp) (by rw [a]; rfl)
      refine opPlain f.1 (by rw [a]; rfl) f.2 ?_
      clear ho t y f C a
      go_simp
     | 21, _ =>
      obtain rfl := Option.some.inj ho
      have i9 : b.tmps[61]? = some (.string (z4 ++ z15)) := tDone y f.1 (t ⟨16, .data⟩ (by simp) rfl) rfl (by simp) (by rw [a]; rfl)
      have ie : b.tmps[65]? = some (.string z20) := tDone y f.1 (t ⟨20, .data⟩ (by simp) rfl) rfl (by simp) (by rw [a]; rfl)
      refine opPlain f.1 (by rw [a]; rfl) f.2 ?_
      clear ho t y f C a
      go_simp
     | 22, _ =>
      obtain rfl := Option.some.inj ho
      have fw : b.tmps[45]? = some (.slice (some ⟨g, 0, none⟩) n c1) := tDone y f.1 (t ⟨0, .data⟩ (by simp) rfl) rfl (by simp) (by rw [a]; rfl)
      have fx : b.tmps[46]? = some (.int .i64 (B : Int)) := tDone y f.1 (t ⟨1, .data⟩ (by simp) rfl) rfl (by simp) (by rw [a]; rfl)
      refine opPlain f.1 (by rw [a]; rfl) f.2 ?_
      clear ho t y f C a
      go_simp
     | 23, _ =>
      obtain rfl := Option.some.inj ho
      have ii : b.tmps[67]? = some (.pointer (some ⟨g, B, none⟩)) := tDone y f.1 (t ⟨22, .data⟩ (by simp) rfl) rfl (by simp) (by rw [a]; rfl)
      have ig : b.tmps[66]? = some (.string (z4 ++ z15 ++ z20)) := tDone y f.1 (t ⟨21, .data⟩ (by simp) rfl) rfl (by simp) (by rw [a]; rfl)
      obtain ⟨s9, fp, fc⟩ := f.2.tu.cell B F
      refine Oper.wp_mono (K := fun Z w' => Z = b /\ w' = W.setCell ⟨g, B, none⟩ (.string (z4 ++ z15 ++ z20))) (by rintro Z w' ⟨rfl, rfl⟩; exact ⟨undef, rfl, vals_free f.1 (by rw [a]; rfl), f.2.set B F _⟩) ?_
      clear ho t y f C a
      go_simp
    ·exact ⟨fun _ _ _ h => (by simp at h), ⟨V, fun q => (by simp at q)⟩⟩
    ·intro D W f
     have e0 : D 0 = .slice (some ⟨g, 0, none⟩) n c1 := f.1 0 _ (by rw [a]; rfl) rfl
     have e1 : D 1 = .int .i64 (B : Int) := f.1 1 _ (by rw [a]; rfl) rfl
     have e2 : D 2 = .string s := f.1 2 _ (by rw [a]; rfl) rfl
     have e3 : D 3 = .int .i64 (kk : Int) := f.1 3 _ (by rw [a]; rfl) rfl
     have e4 : D 4 = .string z4 := f.1 4 _ (by rw [a]; rfl) rfl
     have e5 : D 5 = .string s := f.1 5 _ (by rw [a]; rfl) rfl
     have e6 : D 6 = .int .i64 (kk : Int) := f.1 6 _ (by rw [a]; rfl) rfl
     have e7 : D 7 = .int .u8 (z7 : Int) := f.1 7 _ (by rw [a]; rfl) rfl
     have e8 : D 8 = .int .i64 by_ := f.1 8 _ (by rw [a]; rfl) rfl
     have X : D 9 = .int .i64 z9 := f.1 9 _ (by rw [a]; rfl) rfl
     have ar : D 10 = .int .i64 (r : Int) := f.1 10 _ (by rw [a]; rfl) rfl
     have au : D 11 = .int .i64 (1 + (r : Int)) := f.1 11 _ (by rw [a]; rfl) rfl
     have aw : D 12 = .int .u8 (1 + (r : Int)) := f.1 12 _ (by rw [a]; rfl) rfl
     have ay : D 13 = .int .u8 (S : Int) := f.1 13 _ (by rw [a]; rfl) rfl
     have az : D 15 = .string z15 := f.1 15 _ (by rw [a]; rfl) rfl
     have b9 : D 16 = .string (z4 ++ z15) := f.1 16 _ (by rw [a]; rfl) rfl
     have ba : D 17 = .string s := f.1 17 _ (by rw [a]; rfl) rfl
     have bc : D 18 = .int .i64 (kk : Int) := f.1 18 _ (by rw [a]; rfl) rfl
     have bf : D 19 = .int .i64 ((kk : Int) + 1) := f.1 19 _ (by rw [a]; rfl) rfl
     have bg : D 20 = .string z20 := f.1 20 _ (by rw [a]; rfl) rfl
     have bi : D 21 = .string (z4 ++ z15 ++ z20) := f.1 21 _ (by rw [a]; rfl) rfl
     have bj : D 22 = .pointer (some ⟨g, B, none⟩) := f.1 22 _ (by rw [a]; rfl) rfl
     have hX := f.2
     simp only [runFrom, Act.put, Nat.zero_add, Nat.reduceAdd, List.setIfInBounds_toArray, List.set_cons_zero, List.set_cons_succ, e0, e1, e2, e3, e4, e5, e6, e7, e8, X, ar, au, aw, ay, az, b9, ba, bc, bf, bg, bi, bj]
     clear f a e0 e1 e2 e3 e4 e5 e6 e7 e8 X ar au aw ay az b9 ba bc bf bg bi bj
     have HX : Hid (TuP w g n c1 W) := hX.tu
     clear hX
     (try go_wp2)
     go_ret
     exact HX.out.said (by have := H.out.1; omega)
  ·have F := H.out.2.1
   go_upto_region 14 with fail
   obtain ⟨W1, aj⟩ : ∃ W1, World.drew w2 = W1 := ⟨_, rfl⟩
   have V : TuP w g n c1 W1 := by rw [<- aj]; exact M.out.more (Below.refl _ _).drew
   obtain ⟨R, bm, ai⟩ := V.row
   have P := ai.head B (by omega)
   rw [<- List.map_take] at P
   have bn := V.lt
   obtain ⟨px, dt⟩ : ∃ px, (if c1 = B + 1 then some (⟨g, 0, none⟩ : Addr) else some ⟨g, B + 1, none⟩) = px := ⟨_, rfl⟩
   have bk : (R.drop (B + 1)).length = n - (B + 1) := by simp; omega
   have bx : StrRow W1 px (R.drop (B + 1)) (c1 - (B + 1)) := by
    have hc := H.out.2.2.1
    rw [<- dt]
    by_cases h0 : c1 = B + 1
    ·rw [if_pos h0, List.eq_nil_of_length_eq_zero (by omega : (R.drop (B + 1)).length = 0)]
     exact .inr ⟨g, 0, rfl, by simp, fun q => (by simp at q), fun j u hu => (by simp at hu)⟩
    ·rw [if_neg h0]
     exact .inr ⟨g, B + 1, rfl, by omega, fun _ => bn.2, fun j u hu => (ai.cellAt (B + 1 + j) u (by rw [List.getElem?_map, <- List.getElem?_drop, <- List.getElem?_map]; exact hu)).1⟩
   have aa : Hid (OwnC W1 w.heap.size 1 (.slice (some ⟨g, 0, none⟩) B c1) B ((R.take B).map Value.string) /\ StrRow W1 px (R.drop (B + 1)) (c1 - (B + 1)) /\ (R.drop (B + 1)).length = n - (B + 1)) := ⟨P, bx, bk⟩
   have df : w.heap.size <= W1.heap.size := by omega
   have cu : Hid (∀ v' w' v8, OwnC w' w.heap.size 1 v' (B + (R.drop (B + 1)).length) ((R.take B).map Value.string ++ (R.drop (B + 1)).map Value.string) -> W1.grownBy w' (some g) -> ∀ {b0 b3 b8 : Bool}, b8 = false -> Tu14 w W1 b0 b3 true v' b8 v8 w') := fun v' w' v8 hO hg _ _ _ h8 => Tu14.made V H.out.1 bm F hO hg v8 h8
   have fu := wrap_more B (by have := H.out.1; omega)
   have dn : B <= c1 := by have := H.out; omega
   have fg : (0 : Int) <= (B : Int) + 1 := by omega
   have fh : (B : Int) + 1 <= (n : Int) := by omega
   clear V ai P bn bm bx bk
   refine wp_region_any (by kernel_rfl) ?_
   change wpAny _ _ _ _ _ _ _ (World.drew _)
   obtain ⟨vf, a⟩ : ∃ vf : Nat -> Option Value, vf = fun i => ([some (.slice (some ⟨g, 0, none⟩) n c1), some (.int .i64 (B : Int)), some (.slice (some ⟨g, 0, none⟩) B c1), some (.slice (some ⟨g, 0, none⟩) n c1), some (.int .i64 (B : Int)), some (.int .i64 ((B : Int) + 1)), some (.slice px (n - (B + 1)) (c1 - (B + 1))), none, none] : List (Option Value)).getD i none := ⟨_, rfl⟩
   refine wpAny_vary _ (fun d v w' => (∀ i x, vf i = some x -> d i = true -> v i = x) /\ (fun d v w' => Tu14 w W1 (d 0) (d 3) (d 7) (v 7) (d 8) (v 8) w') d v w') (by kernel_rfl) (by kernel_rfl) ?_ _ (fun _ => undef) ?_ ?_
   ·intro i o ho E D b W y C t f
    have hi : i < 9 := (Array.getElem?_eq_some_iff.1 ho).1
    match i, hi with
    | 0, _ =>
     obtain rfl := Option.some.inj ho
     have h8 : E.getD 8 false = false := by
      cases hq : E.getD 8 false with
      | false => rfl
      | true => exact absurd (f.2.dep hq).1 (by show ¬ E.getD 0 false = true; rw [C]; simp)
     have cf : b.tmps[11]? = some (.slice (some ⟨g, 0, none⟩) n c1) := (y.rest 11 (noDst_but (k := 8) (by kernel_rfl) h8)).trans rfl
     refine opPlain f.1 (by rw [a]; rfl) (f.2.m0) ?_
     clear ho t y f C a h8
     go_simp
    | 1, _ =>
     obtain rfl := Option.some.inj ho
     have ch : b.tmps[12]? = some (.int .i64 (B : Int)) := (y.rest 12 (fun i _ => noDst_of (by kernel_rfl) i)).trans rfl
     refine opPlain f.1 (by rw [a]; rfl) f.2 ?_
     clear ho t y f C a
     go_simp
    | 2, _ =>
     obtain rfl := Option.some.inj ho
     have ij : b.tmps[70]? = some (.slice (some ⟨g, 0, none⟩) n c1) := tDone y f.1 (t ⟨0, .data⟩ (by simp) rfl) rfl (by simp) (by rw [a]; rfl)
     have ik : b.tmps[71]? = some (.int .i64 (B : Int)) := tDone y f.1 (t ⟨1, .data⟩ (by simp) rfl) rfl (by simp) (by rw [a]; rfl)
     refine opPlain f.1 (by rw [a]; rfl) f.2 ?_
     clear ho t y f C a
     go_simp
    | 3, _ =>
     obtain rfl := Option.some.inj ho
     have h8 : E.getD 8 false = false := by
      cases hq : E.getD 8 false with
      | false => rfl
      | true => exact absurd (f.2.dep hq).2.1 (by show ¬ E.getD 3 false = true; rw [C]; simp)
     have cf : b.tmps[11]? = some (.slice (some ⟨g, 0, none⟩) n c1) := (y.rest 11 (noDst_but (k := 8) (by kernel_rfl) h8)).trans rfl
     refine opPlain f.1 (by rw [a]; rfl) (f.2.m3) ?_
     clear ho t y f C a h8
     go_simp
    | 4, _ =>
     obtain rfl := Option.some.inj ho
     have ch : b.tmps[12]? = some (.int .i64 (B : Int)) := (y.rest 12 (fun i _ => noDst_of (by kernel_rfl) i)).trans rfl
     refine opPlain f.1 (by rw [a]; rfl) f.2 ?_
     clear ho t y f C a
     go_simp
    | 5, _ =>
     obtain rfl := Option.some.inj ho
     have im : b.tmps[74]? = some (.int .i64 (B : Int)) := tDone y f.1 (t ⟨4, .data⟩ (by simp) rfl) rfl (by simp) (by rw [a]; rfl)
     refine opPlain f.1 (by rw [a]; rfl) f.2 ?_
     clear ho t y f C a
     go_simp
    | 6, _ =>
     obtain rfl := Option.some.inj ho
     have il : b.tmps[73]? = some (.slice (some ⟨g, 0, none⟩) n c1) := tDone y f.1 (t ⟨3, .data⟩ (by simp) rfl) rfl (by simp) (by rw [a]; rfl)
     have io : b.tmps[75]? = some (.int .i64 ((B : Int) + 1)) := tDone y f.1 (t ⟨5, .data⟩ (by simp) rfl) rfl (by simp) (by rw [a]; rfl)
     refine opPlain f.1 (by rw [a]; rfl) f.2 ?_
     clear ho t y f C a
     go_simp
    | 7, _ =>
     obtain rfl := Option.some.inj ho
     have em : b.tmps[72]? = some (.slice (some ⟨g, 0, none⟩) B c1) := tDone y f.1 (t ⟨2, .data⟩ (by simp) rfl) rfl (by simp) (by rw [a]; rfl)
     have eo : b.tmps[76]? = some (.slice px (n - (B + 1)) (c1 - (B + 1))) := tDone y f.1 (t ⟨6, .data⟩ (by simp) rfl) rfl (by simp) (by rw [a]; rfl)
     obtain rfl := f.2.old C
     have di : E.getD 8 false = false := by
      cases hq : E.getD 8 false with
      | false => rfl
      | true => exact absurd (f.2.dep hq).2.2 (by show ¬ E.getD 7 false = true; rw [C]; simp)
     have e1 : b.eval (.tmp 72) = .slice (some ⟨g, 0, none⟩) B c1 := by simp only [Act.eval, Array.getD_eq_getD_getElem?, em, Option.getD_some]
     have e2 : b.eval (.tmp 76) = .slice px (R.drop (B + 1)).length (c1 - (B + 1)) := by rw [aa.out.2.2]; simp only [Act.eval, Array.getD_eq_getD_getElem?, eo, Option.getD_some]
     refine step_append_str W (.tmp 72) (.tmp 76) rfl w.heap.size _ B _ e1 aa.out.1 _ (R.drop (B + 1)) _ e2 aa.out.2.1 (by have := H.out; rw [aa.out.2.2]; omega) df ?_
     intro v' w' U dj
     exact ⟨v', rfl, vals_free f.1 (by rw [a]; rfl), cu.out v' w' _ U dj di⟩
    | 8, _ =>
     obtain rfl := Option.some.inj ho
     have d7 := t ⟨7, .data⟩ (by simp) rfl
     obtain ⟨p9, m9, c9, X⟩ := f.2.shape d7
     have ip : b.tmps[77]? = some (.slice p9 m9 c9) := (y.done 7 77 d7 rfl (by simp)).trans (congrArg some X)
     refine Oper.wp_mono (K := fun Z w' => Z = b.put (some 11) (.slice p9 m9 c9) /\ w' = W) (by rintro Z w' ⟨rfl, rfl⟩; exact ⟨_, rfl, vals_free f.1 (by rw [a]; rfl), f.2.assign (t ⟨0, .phase⟩ (by simp) rfl) (t ⟨3, .phase⟩ (by simp) rfl) d7 X⟩) ?_
     clear ho t y f C a
     go_simp
   ·exact ⟨fun _ _ _ h => (by simp at h), Tu14.start aj (by simp) (by simp)⟩
   ·intro D W f
    have e0 : D 0 = .slice (some ⟨g, 0, none⟩) n c1 := f.1 0 _ (by rw [a]; rfl) rfl
    have e1 : D 1 = .int .i64 (B : Int) := f.1 1 _ (by rw [a]; rfl) rfl
    have e2 : D 2 = .slice (some ⟨g, 0, none⟩) B c1 := f.1 2 _ (by rw [a]; rfl) rfl
    have e3 : D 3 = .slice (some ⟨g, 0, none⟩) n c1 := f.1 3 _ (by rw [a]; rfl) rfl
    have e4 : D 4 = .int .i64 (B : Int) := f.1 4 _ (by rw [a]; rfl) rfl
    have e5 : D 5 = .int .i64 ((B : Int) + 1) := f.1 5 _ (by rw [a]; rfl) rfl
    have e6 : D 6 = .slice px (n - (B + 1)) (c1 - (B + 1)) := f.1 6 _ (by rw [a]; rfl) rfl
    have hX := f.2
    simp only [runFrom, Act.put, Nat.zero_add, Nat.reduceAdd, List.setIfInBounds_toArray, List.set_cons_zero, List.set_cons_succ, e0, e1, e2, e3, e4, e5, e6]
    clear f a e0 e1 e2 e3 e4 e5 e6
    obtain ⟨l', h1, h2, h3⟩ := hX.fin rfl
    obtain ⟨p9, m9, c9, X⟩ := hX.shape rfl
    have e8 : D 8 = .slice p9 m9 c9 := (hX.same rfl).trans X
    rw [X] at h2
    rw [e8]
    have HX := Hid.hide (h2.turned h1 h3)
    clear hX h1 h2 h3 e8 X
    (try go_wp2)
    go_ret
    exact HX.out
  ·have F := H.out.2.1
   obtain ⟨s, hs, ak⟩ := M.out.cell B F
   obtain ⟨l', dr, U⟩ := M.out.row
   go_wp2_with (at_builtin; refine wpList_append_str _ rfl _ _ rfl w.heap.size (.slice (some ⟨g, 0, none⟩) n c1) n (l'.map Value.string) rfl (U.below (strRow_new _ s).2) (some ⟨_, 0, none⟩) [s] 1 rfl (strRow_new _ s).1 (by have := H.out.1; simp; omega) (Nat.le_trans L.out.size (strRow_new _ s).2.size) ?_; intro v2 w3 I O; have HE : Hid (TurSaid w (.returned v2) w3) := OwnC.turned (l := l' ++ [s]) (n := n + [s].length) (by simpa using I) (by have := H.out.1; simp; omega) (belowGrown (L.out.behind' (strRow_new _ s).2) (Nat.le_refl _) O fun k Y => (U.block k Y).1); obtain ⟨p2, m2, c2, rfl⟩ := I.shape; clear I O)
   go_ret
   exact HE.out
  ·by_cases ho : o.length = 0
   ·rw [ho]
    go_wp2
    go_ret
    exact M.out.said (by have := H.out.1; omega)
   ·have F := H.out.2.1
    obtain ⟨s, hs, ak⟩ := M.out.cell B F
    rcases ae.out with ⟨-, rfl, -⟩ | ⟨gq, oq, rfl, hq1, hq2, hq3⟩
    ·exact absurd rfl ho
    obtain ⟨kk, Q, J⟩ := kpick_ex by_ o.length T.out.2.2.1 T.out.2.2.2 (by omega)
    have N := Hid.hide J
    have bz : w2.cell? ⟨gq, oq + kk, none⟩ = some (.string (o[kk])) := by
     have := hq3 kk (.string (o[kk])) (by simp)
     rw [L.out.cell (p := ⟨gq, oq + kk, none⟩) (hq2 (by omega))]
     exact this
    obtain ⟨u, hu⟩ : ∃ u, o[kk] = u := ⟨_, rfl⟩
    rw [hu] at bz
    obtain ⟨mo, bo⟩ : ∃ m, o.length = m := ⟨_, rfl⟩
    rw [bo] at Q N ⊢
    have fm : (0 : Int) < (mo : Int) := by omega
    clear J hq1 hq2 hq3 hu ho bo
    have HS := Hid.hide (M.out.set B F u)
    go_wp2_with fail
    refine (N.out _).mono ?_
    rintro e w3 ⟨rfl, rfl⟩
    go_wp2
    go_ret
    exact HS.out.said (by have := H.out.1; omega)
  ·have F := H.out.2.1
   obtain ⟨s, hs, ak⟩ := M.out.cell B F
   obtain ⟨kk, Q, J⟩ := kpick_ex by_ n T.out.2.2.1 T.out.2.2.2 (by omega)
   have N := Hid.hide J
   obtain ⟨s2, bz, ez⟩ := M.out.cell kk Q
   obtain ⟨s3, fo, f9⟩ := (M.out.set B F s2).cell kk Q
   have HS := Hid.hide ((M.out.set B F s2).set kk Q s)
   clear J
   go_wp2_with fail
   refine (N.out _).mono ?_
   rintro e w3 ⟨rfl, rfl⟩
   go_wp2
   go_ret
   exact HS.out.said (by have := H.out.1; omega)
  ·have F := H.out.2.1
   have dn : B <= c1 := by have := H.out; omega
   obtain ⟨l', dr, U⟩ := M.out.row
   have P := U.head B (by omega)
   rw [<- List.map_take] at P
   go_wp2_with (at_builtin; refine wpList_append_str _ rfl _ _ rfl w.heap.size (.slice (some ⟨g, 0, none⟩) B c1) B _ rfl P q o d rfl (ae.out.below L.out) (by have := HL.out.2.1; have := H.out.1; omega) L.out.size ?_; intro v2 w3 I O; have HE : Hid (TurSaid w (.returned v2) w3) := OwnC.turned (l := l'.take B ++ o) (n := B + o.length) (by simpa using I) (by have := HL.out.2.1; have := H.out.1; simp; omega) (belowGrown L.out (Nat.le_refl _) O fun k Y => (P.block k Y).1); obtain ⟨p2, m2, c2, rfl⟩ := I.shape; clear I O)
   go_ret
   exact HE.out
theorem rowZ : (Tryz.prog.info? 24).map (fun i => (i.zero, i.size, i.bytes)) = some (some (.slice none 0 0), 1, 24) := by kernel_rfl
end Go.Proofs.YtoohdfiddbfacaaGreatDoor
