/-
  Decode of package item.
  Encode of package item, where nothing is too deep.
  Which faults reading gives. Plain facts.
  Decode and Encode of package twigs.
-/
import Derived.Test.YtjiikjpnlgogfaaGreatDoorBarG
import Derived.Test.YtjiikjpnlgogfaaGreatDoorDeeG
import Derived.Test.YtjiikjpnlgogfaaGreatDoorSmaG
import Derived.Test.YtjiikjpnlgogfaaGreatDoorReaG
namespace Go.Proofs.YtjiikjpnlgogfaaGreatDoor
open Go.RowKit

/-- What Decode answers. -/
def DecSaid (s : ByteArray) (sent : Nat → Addr) (w : World) (e : Ending) (w' : World) : Prop :=
  Below w.heap.size w w' ∧ (∀ er, decF (bytesOf s) = .error er → ∃ t v, er.val sent = .iface t v ∧ e = .returned (.tuple #[zeroP, .iface t v])) ∧
    ∀ x, decF (bytesOf s) = .ok x → ∃ (fr en : Nat) (l : Bool) (tx : ByteArray) (p : Option Addr) (m c : Nat), Tree encP kP 6 w' (fun k => w.heap.size ≤ k) ⟨fr, en, l, tx, .slice p m c⟩ x ∧ e = .returned (.tuple #[valP ⟨fr, en, l, tx, .slice p m c⟩, .nilIface])

theorem DecSaid.err {s : ByteArray} {sent : Nat → Addr} {w : World} {e : Ending} {w' : World} {er : Er} {t : TypeId} {v : Value} (h : decF (bytesOf s) = .error er) (hb : Below w.heap.size w w') (hv : er.val sent = .iface t v) (he : e = .returned (.tuple #[zeroP, .iface t v])) : DecSaid s sent w e w' :=
  ⟨hb, fun er' h' => (by rw [h] at h'; cases h'; exact ⟨t, v, hv, he⟩), fun x h' => by rw [h] at h'; cases h'⟩

set_option maxRecDepth 100000 in
set_option maxHeartbeats 1600000 in
theorem dec_long (s : ByteArray) (sent : Nat → Addr) (w : World) (hF : Faults w sent) (hs : 2048 < s.size) :
    Calls Tryz.prog 88 #[.string s] w (DecSaid s sent w) := by
  have hg : w.cell? ⟨0, 0, none⟩ = some (.iface 423 (.pointer (some (sent 1)))) := hF.var 1 (by decide)
  have hgl : 0 < w.heap.size := hF.low (n := 1) (by decide)
  have hg2 := fun o => cell_past o hg hgl
  have hne : ¬ w.heap.size = 0 := by omega
  have hne2 : ¬ 0 = w.heap.size := by omega
  have hsi : (2048 : Int) < (s.size : Int) := by omega
  have A : Aside (decF (bytesOf s) = .error (.base 1)) := by
    show decF (bytesOf s) = .error (.base 1)
    unfold decF
    rw [if_pos (by rw [bytesOf_length]; exact hs)]
  clear hF hs
  go_enter Tryz.func88, Tryz.ntmps88
  go_wp2
  go_region
  go_wp2
  refine bodyPost_ret (v := .tuple #[zeroP, .iface 423 (.pointer (some (sent 1)))]) (by simp [results, Tryz.results88, go_sem]) rfl ?_
  exact .err A.out ((Below.refl _ _).alloc (Nat.le_refl _) _).drew rfl rfl

set_option maxRecDepth 100000 in
set_option maxHeartbeats 3200000 in
theorem dec_any (s : ByteArray) (sent : Nat → Addr) (w : World) (hF : Faults w sent) :
    Calls Tryz.prog 88 #[.string s] w (DecSaid s sent w) := by
  by_cases hbig : 2048 < s.size
  · exact dec_long s sent w hF hbig
  · have hsi : (s.size : Int) ≤ 2048 := by omega
    have hdec : decF (bytesOf s) = (match readIt 6 (bytesOf s) 0 with | .error e => .error e | .ok x => if x.to < (bytesOf s).length then .error (.place x.to (.base 4)) else .ok x) := by
      unfold decF
      rw [if_neg (by rw [bytesOf_length]; exact hbig)]
      cases readIt 6 (bytesOf s) 0 <;> rfl
    rw [bytesOf_length] at hdec
    have HI : Hid (∀ W, Below w.heap.size w W → Calls Tryz.prog 150 #[.string s, .int .i64 0, .int .i64 0] W (ItemSaid 6 s 0 sent W)) := fun W hW => item_any sent 6 0 s 0 W rfl (by omega) (by omega) (hF.below hW)
    have HF := Hid.hide hF
    have HD := Hid.hide hdec
    clear hF hdec hbig
    go_enter Tryz.func88, Tryz.ntmps88
    go_wp2_with fail
    refine (HI.out _ ((Below.refl _ _).alloc (Nat.le_refl _) _)).mono ?_
    rintro e w1 ⟨hb1, hd1, hd2⟩
    obtain ⟨c0, f0⟩ := newCell hb1 0 (v := .int .i64 0) rfl
    obtain ⟨c1, f1⟩ := newCell hb1 1 (v := .int .i64 0) rfl
    obtain ⟨c2, f2⟩ := newCell hb1 2 (v := .bool false) rfl
    obtain ⟨c3, f3⟩ := newCell hb1 3 (v := .string ⟨#[]⟩) rfl
    obtain ⟨c4, f4⟩ := newCell hb1 4 (v := .slice none 0 0) rfl
    have AS : Aside (Below w.heap.size w w1) := Below.up hb1
    have hs1 : w.heap.size < w1.heap.size := by have := hb1.size; simp at this; omega
    have hs0 : w.heap.size ≠ w1.heap.size := Nat.ne_of_lt hs1
    rcases hr : readIt 6 (bytesOf s) 0 with er | x
    · obtain ⟨t, v, hv, rfl⟩ := hd1 er hr
      have A1 : Aside (decF (bytesOf s) = .error er ∧ er.val sent = .iface t v) := ⟨by rw [HD.out, hr], hv⟩
      clear hb1 hd1 hd2 hr hv
      go_wp2
      refine bodyPost_ret (v := .tuple #[zeroP, .iface t v]) (by simp [results, Tryz.results88, go_sem, hs1, c0, c1, c2, c3, c4]) rfl ?_
      refine .err A1.out.1 ?_ A1.out.2 rfl
      exact (((((AS.out.setCell (Nat.le_refl _) _).setCell (Nat.le_refl _) _).setCell (Nat.le_refl _) _).setCell (Nat.le_refl _) _).setCell (Nat.le_refl _) _).alloc (by simp; omega) _
    · obtain ⟨l, tx, p, m, c, hT, rfl⟩ := hd2 x hr
      obtain ⟨h0, h1, h2⟩ := readIt_to (by omega) hr
      obtain ⟨en, hen⟩ : ∃ en, x.to = en := ⟨_, rfl⟩
      rw [hen] at hT h1 h2 ⊢
      by_cases hlt : en < s.size
      · have hlti : (en : Int) < (s.size : Int) := by omega
        have A1 : Aside (decF (bytesOf s) = .error (.place en (.base 4))) := by
          show decF (bytesOf s) = .error (.place en (.base 4))
          rw [HD.out, hr]
          simp only
          rw [hen, if_pos hlt]
        have hFr := HF.out.below AS.out
        have g0 : w1.cell? ⟨2, 0, none⟩ = some (.iface 423 (.pointer (some (sent 4)))) := hFr.var 4 (by decide)
        have g1 : 2 < w1.heap.size := hFr.low (n := 4) (by decide)
        have g3 : 2 < w.heap.size := HF.out.low (n := 4) (by decide)
        have g2 : ¬ 2 = w.heap.size := by omega
        have g4 : ¬ 2 = w1.heap.size := by omega
        clear hb1 hd1 hd2 hr hT hFr
        go_wp2
        go_region
        go_wp2
        refine bodyPost_ret (v := .tuple #[zeroP, placeV en (.iface 423 (.pointer (some (sent 4))))]) (by simp [results, Tryz.results88, go_sem, hs1, c0, c1, c2, c3, c4]) rfl ?_
        refine .err A1.out ?_ rfl rfl
        exact ((((((AS.out.setCell (Nat.le_refl _) _).setCell (Nat.le_refl _) _).setCell (Nat.le_refl _) _).setCell (Nat.le_refl _) _).setCell (Nat.le_refl _) _).alloc (by simp; omega) _).drew
      · have hlti : (s.size : Int) ≤ (en : Int) := by omega
        have A1 : Aside (decF (bytesOf s) = .ok x) := by
          show decF (bytesOf s) = .ok x
          rw [HD.out, hr]
          simp only
          rw [hen, if_neg hlt]
        have hT2 : Tree encP kP 6 w1 (fun k => w.heap.size < k) ⟨0, en, l, tx, .slice p m c⟩ x := Tree.keep (fun k hk => by simp at hk; omega) (Nat.le_refl _) (fun _ _ _ => rfl) 6 hT
        have A2 : Aside (Tree encP kP 6 w1 (fun k => w.heap.size < k) ⟨0, en, l, tx, .slice p m c⟩ x) := hT2
        clear hb1 hd1 hd2 hr hT hT2
        go_wp2
        refine bodyPost_ret (v := .tuple #[valP ⟨0, en, l, tx, .slice p m c⟩, .nilIface]) (by simp [results, Tryz.results88, go_sem, hs1, c0, c1, c2, c3, c4]) rfl ?_
        refine ⟨(((((AS.out.setCell (Nat.le_refl _) _).setCell (Nat.le_refl _) _).setCell (Nat.le_refl _) _).setCell (Nat.le_refl _) _).setCell (Nat.le_refl _) _).alloc (by simp; omega) _, fun er he => ?_, fun y hy => ?_⟩
        · rw [A1.out] at he
          cases he
        · rw [A1.out] at hy
          cases hy
          refine ⟨0, en, l, tx, p, m, c, ?_, rfl⟩
          refine Tree.keep (fun k hk => Nat.le_of_lt hk) (by simp) (fun k hk hks => ?_) 6 A2.out
          rw [Below.heap_alloc _ _ _ (by simpa using hks), Below.heap_setCell _ _ _ _ (by simp only; omega), Below.heap_setCell _ _ _ _ (by simp only; omega), Below.heap_setCell _ _ _ _ (by simp only; omega), Below.heap_setCell _ _ _ _ (by simp only; omega), Below.heap_setCell _ _ _ _ (by simp only; omega)]
end Go.Proofs.YtjiikjpnlgogfaaGreatDoor

namespace Go.Proofs.YtjiikjpnlgogfaaGreatDoor
open Go.RowKit

def EncSaid (c : List Nat) (sent : Nat → Addr) (w : World) (e : Ending) (w' : World) : Prop :=
  Below w.heap.size w w' ∧ ((c.length ≤ 2048 ∧ e = .returned (.tuple #[.string (textB c), .nilIface])) ∨ (2048 < c.length ∧ e = .returned (.tuple #[.string ⟨#[]⟩, .iface 423 (.pointer (some (sent 1)))])))

set_option maxRecDepth 100000 in
set_option maxHeartbeats 3200000 in
theorem encode_body (l : Bool) (tx : ByteArray) (q : Option Addr) (m c : Nat) (cd : List Nat) (sent : Nat → Addr) (w : World)
    (hD : l = true → ∀ W mb, Below w.heap.size w W → MapOK W mb → w.heap.size ≤ mb → Calls Tryz.prog 90 #[.map (some mb), .slice q m c, .int .i64 1] W (DeepSaid mb W))
    (hA : ∀ W, Below w.heap.size w W → Calls Tryz.prog 91 #[.slice none 0 0, .agg #[.bool l, .string tx, .slice q m c]] W (AppSaid w.heap.size (.slice none 0 0) [] cd sent W)) :
    Calls Tryz.prog 53 #[.agg #[.bool l, .string tx, .slice q m c]] w (EncSaid cd sent w) := by
  have HA := Hid.hide hA
  have hend : ∀ w2 W, Below w.heap.size w W → ∀ p n k, Grew W w2 w.heap.size (.slice none 0 0) (.slice p n k) cd → (convert 111 9 (.slice p n k)).run Tryz.prog w2 = .ok (.string (textB cd)) w2 ∧ Below w.heap.size w w2 := fun w2 W hW p n k hg => ⟨run_own_text w2 _ _ _ Tryz.underlying111 Tryz.underlying5 Tryz.underlying9 hg.own, hg.below (Own.nil _ _) hW hW.size⟩
  have HE := Hid.hide hend
  clear hA hend
  cases l with
  | true =>
    have HD := Hid.hide (hD rfl)
    have hmk := fun W : World => run_makeMap (P := Tryz.prog) 179 W
    clear hD
    go_enter Tryz.func53, Tryz.ntmps53
    go_wp2_with fail
    refine (HD.out _ _ (((Below.refl _ _).alloc (Nat.le_refl _) _).alloc (by simp) _) ⟨#[], 0, ?mk, by simp⟩ (by simp)).mono ?_
    case mk =>
      have := heap_alloc_new (w.alloc (.cells #[.bool true, .string tx, .slice q m c] 45)) (.map #[] 0)
      simpa using this
    rintro e w1 ⟨rfl, hO, _⟩
    have hB : Below w.heap.size w w1 := hO.below (((Below.refl _ _).alloc (Nat.le_refl _) _).alloc (by simp) _) (by omega) (by simp; omega)
    have hbl : w1.heap[w.heap.size]? = some (.cells #[.bool true, .string tx, .slice q m c] 45) := (hO.block w.heap.size (by simp; omega) (by omega)).trans ((Below.heap_alloc _ _ _ (by simp)).trans (heap_alloc_new _ _))
    have k0 : w1.cell? ⟨w.heap.size, 0, none⟩ = some (.bool true) := by rw [World.cell?, hbl]; rfl
    have k1 : w1.cell? ⟨w.heap.size, 1, none⟩ = some (.string tx) := by rw [World.cell?, hbl]; rfl
    have k2 : w1.cell? ⟨w.heap.size, 2, none⟩ = some (.slice q m c) := by rw [World.cell?, hbl]; rfl
    have B1 : Aside (Below w.heap.size w w1) := hB
    clear hO hB hbl
    go_wp2_with fail
    refine (HA.out _ B1.out).mono ?_
    rintro e w2 hd
    rcases hd with ⟨h1, p2, c2, rfl, hg⟩ | ⟨h1, hg, rfl⟩
    · simp only [List.length_nil, Nat.zero_add, List.nil_append] at h1 hg ⊢
      obtain ⟨hcv, hb⟩ := HE.out w2 _ B1.out _ _ _ hg
      have A1 : Aside (cd.length ≤ 2048 ∧ Below w.heap.size w w2) := ⟨h1, hb⟩
      clear hg h1 hb
      go_wp2
      go_ret2
      exact ⟨A1.out.2, .inl ⟨A1.out.1, rfl⟩⟩
    · have A1 : Aside (2048 < cd.length ∧ Below w.heap.size w w2) := ⟨by simpa using h1, (Own.nil _ _).grown hg B1.out B1.out.size⟩
      clear hg h1
      go_wp2
      go_ret2
      exact ⟨A1.out.2, .inr ⟨A1.out.1, rfl⟩⟩
  | false =>
    clear hD
    go_enter Tryz.func53, Tryz.ntmps53
    go_wp2_with fail
    refine (HA.out _ ((Below.refl _ _).alloc (Nat.le_refl _) _)).mono ?_
    rintro e w1 hd
    rcases hd with ⟨h1, p2, c2, rfl, hg⟩ | ⟨h1, hg, rfl⟩
    · simp only [List.length_nil, Nat.zero_add, List.nil_append] at h1 hg ⊢
      obtain ⟨hcv, hb⟩ := HE.out w1 _ ((Below.refl _ _).alloc (Nat.le_refl _) _) _ _ _ hg
      have A1 : Aside (cd.length ≤ 2048 ∧ Below w.heap.size w w1) := ⟨h1, hb⟩
      clear hg h1 hb
      go_wp2
      go_ret2
      exact ⟨A1.out.2, .inl ⟨A1.out.1, rfl⟩⟩
    · have A1 : Aside (2048 < cd.length ∧ Below w.heap.size w w1) := ⟨by simpa using h1, Below.up ((Own.nil _ _).grown hg (Below.refl _ _) (Nat.le_refl _))⟩
      clear hg h1
      go_wp2
      go_ret2
      exact ⟨A1.out.2, .inr ⟨A1.out.1, rfl⟩⟩

set_option maxRecDepth 100000 in
/-- Encode, of at most six lists in one another. -/
theorem encode_any (n : Nat) (hn : n ≤ 5) (e : El) (cd : List Nat) (sent : Nat → Addr) (w : World) (F : Nat → Prop) (h : Tree encI kC (n + 1) w F e cd) (hl : cd.length ≤ 1048576) (hF : Faults w sent) : Calls Tryz.prog 53 #[valI e] w (EncSaid cd sent w) := by
  obtain ⟨q, m, c, hs⟩ := h.sub
  obtain ⟨fr, en, l, tx, sub⟩ := e
  simp only at hs
  subst hs
  refine encode_body l tx q m c cd sent w (fun hlt W mb hW hM hmb => ?_) (fun W hW => ai_any sent (n + 1) ⟨fr, en, l, tx, .slice q m c⟩ cd w W F none 0 0 [] h hl hF hW rfl (Own.nil _ _) (by omega))
  subst hlt
  rcases h with h | ⟨_, ps, h2, h3, h4, h5⟩
  · have := h.1.1
    cases this
  · have h5 : cd = listCode (flatCodes ps) := by rw [h5]; unfold flatCodes; rw [List.flatMap_def]
    have h7 := listCode_le (flatCodes ps)
    have hm : m = ps.length := by
      rcases h2 with ⟨h, h', _⟩ | ⟨g, cap, h, _⟩
      · simp only [Value.slice.injEq] at h
        omega
      · simp only [Value.slice.injEq] at h
        exact h.2.1
    rw [show (1 : Int) = ((1 : Nat) : Int) from rfl]
    exact deep_any n 1 mb q m c ps F w W (by omega) hm h3 (by rw [h5] at hl; omega) h2 hW hM hmb
end Go.Proofs.YtjiikjpnlgogfaaGreatDoor

namespace Go.Proofs.YtjiikjpnlgogfaaGreatDoor
open Go.RowKit

theorem headF_err {l : List Nat} {e : Nat} (h : headF l = .error e) : e = 2 ∨ e = 3 := by
  unfold headF at h
  split at h
  · cases h; exact .inl rfl
  · split at h
    · cases h
    · split at h
      · cases hf : lenF l 128 with
        | error x =>
          rw [hf] at h
          cases h
          cases x <;> simp
        | ok p =>
          obtain ⟨a, b⟩ := p
          rw [hf] at h
          simp only at h
          split at h
          · cases h; exact .inr rfl
          · cases h
      · cases hf : lenF l 192 with
        | error x =>
          rw [hf] at h
          cases h
          cases x <;> simp
        | ok p =>
          obtain ⟨a, b⟩ := p
          rw [hf] at h
          cases h

def ErrAt (n : Nat) (er : Er) : Prop := ∃ k e, er = .place k (.base e) ∧ k ≤ n ∧ (e = 2 ∨ e = 3 ∨ e = 5)
theorem ErrAt.mono {m n : Nat} {er : Er} (h : ErrAt m er) (hmn : m ≤ n) : ErrAt n er := by
  obtain ⟨k, e, h1, h2, h3⟩ := h
  exact ⟨k, e, h1, by omega, h3⟩

theorem readIts_err {rd : Nat → Except Er It} {n m : Nat} (hr : ∀ fr er, fr ≤ n → rd fr = .error er → ErrAt m er) (ht : ∀ fr x, fr ≤ n → rd fr = .ok x → x.to ≤ n) : ∀ (k fr : Nat) (er : Er), fr ≤ n → readIts rd n k fr = .error er → ErrAt m er := by
  intro k
  induction k with
  | zero => intro fr er _ h; cases h
  | succ k ih =>
    intro fr er hfr h
    rw [readIts] at h
    split at h
    · cases h1 : rd fr with
      | error e => rw [h1] at h; cases h; exact hr fr _ hfr h1
      | ok x =>
        rw [h1] at h
        simp only at h
        cases h2 : readIts rd n k x.to with
        | error e => rw [h2] at h; cases h; exact ih x.to _ (ht fr x hfr h1) h2
        | ok l => rw [h2] at h; cases h
    · cases h

theorem readIt_err : ∀ (d : Nat) (l : List Nat) (fr : Nat) (er : Er), (∀ y ∈ l, y < 256) → fr ≤ l.length → readIt d l fr = .error er → ErrAt l.length er := by
  intro d
  induction d with
  | zero =>
    intro l fr er hl hfr h
    rw [readIt] at h
    cases h1 : headF (l.drop fr) with
    | error e =>
      rw [h1] at h
      cases h
      rcases headF_err h1 with rfl | rfl
      · exact ⟨fr, 2, rfl, hfr, .inl rfl⟩
      · exact ⟨fr, 3, rfl, hfr, .inr (.inl rfl)⟩
    | ok p =>
      obtain ⟨lst, a, b⟩ := p
      rw [h1] at h
      cases lst with
      | true => cases h; exact ⟨fr, 5, rfl, hfr, .inr (.inr rfl)⟩
      | false => cases h
  | succ d ih =>
    intro l fr er hl hfr h
    rw [readIt] at h
    cases h1 : headF (l.drop fr) with
    | error e =>
      rw [h1] at h
      cases h
      rcases headF_err h1 with rfl | rfl
      · exact ⟨fr, 2, rfl, hfr, .inl rfl⟩
      · exact ⟨fr, 3, rfl, hfr, .inr (.inl rfl)⟩
    | ok p =>
      obtain ⟨lst, a, b⟩ := p
      rw [h1] at h
      cases lst with
      | false => cases h
      | true =>
        simp only [if_true] at h
        obtain ⟨e1, _⟩ := headF_ok (bytes_drop hl fr) h1
        rw [List.length_drop] at e1
        have hlen : (l.take (fr + a + b)).length = fr + a + b := by rw [List.length_take]; omega
        cases h2 : readIts (readIt d (l.take (fr + a + b))) (fr + a + b) b (fr + a) with
        | error e =>
          rw [h2] at h
          cases h
          refine readIts_err (n := fr + a + b) (m := l.length) (fun fr' er' h1' h2' => ?_) (fun fr' x' h1' h2' => ?_) b (fr + a) _ (by omega) h2
          · exact (ih _ fr' er' (bytes_take hl _) (by omega) h2').mono (by omega)
          · have := (readIt_ok d _ fr' x' (bytes_take hl _) (by omega) h2').2.2.1
            omega
        | ok its => rw [h2] at h; cases h

/-- A fault of Decode: one place at most, within; told by its number. -/
theorem decF_err {l : List Nat} (hl : ∀ y ∈ l, y < 256) {er : Er} (h : decF l = .error er) : er.simple ∧ er.num ≠ 0 ∧ er.at_ ≤ l.length ∧ er.node = 0 ∧ er.proof = 0 := by
  have hp : ∀ k e, k ≤ l.length → (e = 2 ∨ e = 3 ∨ e = 4 ∨ e = 5) → (Er.place k (.base e)).simple ∧ (Er.place k (.base e)).num ≠ 0 ∧ (Er.place k (.base e)).at_ ≤ l.length ∧ (Er.place k (.base e)).node = 0 ∧ (Er.place k (.base e)).proof = 0 := by
    intro k e hk he
    refine ⟨?_, ?_, hk, rfl, rfl⟩
    · rcases he with rfl | rfl | rfl | rfl <;> (show _ ∈ nums; decide)
    · rcases he with rfl | rfl | rfl | rfl <;> simp [Er.num]
  unfold decF at h
  split at h
  · cases h
    exact ⟨(by decide : 1 ∈ nums), (by decide : ¬ 1 = 0), Nat.zero_le _, rfl, rfl⟩
  · cases h1 : readIt 6 l 0 with
    | error e =>
      rw [h1] at h
      cases h
      obtain ⟨k, e, rfl, hk, he⟩ := readIt_err 6 l 0 _ hl (Nat.zero_le _) h1
      exact hp k e hk (by omega)
    | ok x =>
      rw [h1] at h
      simp only at h
      split at h
      · cases h
        exact hp x.to 4 (by omega) (by omega)
      · cases h
end Go.Proofs.YtjiikjpnlgogfaaGreatDoor

namespace Go.Proofs.YtjiikjpnlgogfaaGreatDoor
open Go.RowKit

theorem bare_zero (w : World) : Calls Tryz.prog 89 #[zeroP] w fun e w' => e = .returned zeroI ∧ Below w.heap.size w w' := by
  refine (bare_body 0 0 0 false ⟨#[]⟩ none 0 0 [] (fun _ => False) w (by decide) rfl (by omega) (.inl ⟨rfl, rfl, rfl⟩) (by simp) (by simp)).mono ?_
  rintro e w' ⟨hb, p', m', c', qs, rfl, _, _, _, hq⟩
  refine ⟨?_, hb⟩
  have := hq rfl
  simp only [Value.slice.injEq] at this
  obtain ⟨rfl, rfl, rfl⟩ := this
  rfl

/-- What Decode answers: the item by its code, or what is wrong. -/
def TDecSaid (s : ByteArray) (w : World) (e : Ending) (w' : World) : Prop :=
  Below w.heap.size w w' ∧ (∀ er, decF (bytesOf s) = .error er → e = .returned (.tuple #[zeroI, faultV er.num 0 0 er.at_])) ∧
    ∀ x, decF (bytesOf s) = .ok x → ∃ (l : Bool) (tx : ByteArray) (p : Option Addr) (m c : Nat), Tree encI kB 6 w' (fun k => w.heap.size ≤ k) ⟨0, 0, l, tx, .slice p m c⟩ x.bare ∧ e = .returned (.tuple #[valI ⟨0, 0, l, tx, .slice p m c⟩, faultV 0 0 0 0])

set_option maxRecDepth 100000 in
set_option maxHeartbeats 3200000 in
theorem tdec_any (s : ByteArray) (sent : Nat → Addr) (w : World) (hF : Faults w sent) (hT : typeAt w) :
    Calls Tryz.prog 52 #[.string s] w (TDecSaid s w) := by
  have HD : Hid (∀ W, Below w.heap.size w W → Calls Tryz.prog 88 #[.string s] W (DecSaid s sent W)) := fun W hW => dec_any s sent W (hF.below hW)
  have hlg : 12 < w.heap.size := World.block_lt_of_cell? w _ hT
  have HB := Hid.hide (fun W => bare_zero W)
  cases hd : decF (bytesOf s) with
  | error er =>
    obtain ⟨q1, q2, q3, q4, q5⟩ := decF_err (byte_lt s) hd
    obtain ⟨t, v, hv⟩ := er.shape sent
    have HT : Hid (∀ W, Below w.heap.size w W → Calls Tryz.prog 58 #[.iface t v] W fun e w' => e = .returned (faultV er.num 0 0 er.at_) ∧ Below W.heap.size W w') := fun W hW => by
      have := tell_any sent er q1 W (hF.below hW) ((hW.cell hlg).trans hT)
      rw [hv, q4, q5] at this
      exact this
    have HD2 : Hid (∀ W, Below w.heap.size w W → Calls Tryz.prog 88 #[.string s] W fun e w' => Below W.heap.size W w' ∧ e = .returned (.tuple #[zeroP, .iface t v])) := fun W hW => (HD.out W hW).mono fun e w' h => by
      obtain ⟨hb, h1, _⟩ := h
      obtain ⟨t', v', hv', he⟩ := h1 er hd
      rw [hv] at hv'
      cases hv'
      exact ⟨hb, he⟩
    have A : Aside (decF (bytesOf s) = .error er) := hd
    clear HD hv hF hT hlg hd q1 q2 q3 q4 q5
    go_enter Tryz.func52, Tryz.ntmps52
    go_wp2_with fail
    refine (HD2.out _ (((Below.refl _ _).alloc (Nat.le_refl _) _).alloc (by simp) _)).mono ?_
    rintro e w1 ⟨hb1, rfl⟩
    have B1 : Aside (Below w.heap.size w w1) := Below.behind (((Below.refl _ _).alloc (Nat.le_refl _) _).alloc (by simp) _) hb1
    have H1 : Aside (Held w1 w.heap.size [.bool false, .string ⟨#[]⟩, .slice none 0 0] ∧ Held w1 (w.heap.size + 1) [.int .i64 0, .int .i64 0, .int .i64 0, .int .i64 0]) := by
      refine ⟨((Held.fresh w [.bool false, .string ⟨#[]⟩, .slice none 0 0] _).alloc _).below hb1, ?_⟩
      have := (Held.fresh (w.alloc (.cells #[.bool false, .string ⟨#[]⟩, .slice none 0 0] 45)) [.int .i64 0, .int .i64 0, .int .i64 0, .int .i64 0] 66).below hb1
      simpa using this
    clear hb1
    go_wp2_with fail
    refine (HB.out _).mono ?_
    rintro e w2 ⟨rfl, hb2⟩
    have B2 : Aside (Below w.heap.size w w2) := B1.out.trans ((Below.up hb2).mono B1.out.size)
    have H2 : Aside (Held w2 w.heap.size [.bool false, .string ⟨#[]⟩, .slice none 0 0] ∧ Held w2 (w.heap.size + 1) [.int .i64 0, .int .i64 0, .int .i64 0, .int .i64 0]) := ⟨H1.out.1.below (Below.up hb2), H1.out.2.below (Below.up hb2)⟩
    clear hb2
    go_wp2_with fail
    refine (HT.out _ B2.out).mono ?_
    rintro e w3 ⟨rfl, hb3⟩
    have B3 : Aside (Below w.heap.size w w3) := Below.behind B2.out hb3
    obtain ⟨a0, f0⟩ := (H2.out.1.below hb3).2 0 _ rfl
    obtain ⟨a1, f1⟩ := (H2.out.1.below hb3).2 1 _ rfl
    obtain ⟨a2, f2⟩ := (H2.out.1.below hb3).2 2 _ rfl
    obtain ⟨b0, g0⟩ := (H2.out.2.below hb3).2 0 _ rfl
    obtain ⟨b1, g1⟩ := (H2.out.2.below hb3).2 1 _ rfl
    obtain ⟨b2, g2⟩ := (H2.out.2.below hb3).2 2 _ rfl
    obtain ⟨b3, g3⟩ := (H2.out.2.below hb3).2 3 _ rfl
    clear hb3
    go_wp2
    refine bodyPost_ret (v := .tuple #[zeroI, faultV er.num 0 0 er.at_]) (by simp [results, Tryz.results52, go_sem, a0, a1, a2, b0, b1, b2, b3]) rfl ?_
    refine ⟨?_, fun er' he => ?_, fun x he => ?_⟩
    · exact ((((((B3.out.setCell (Nat.le_refl _) _).setCell (Nat.le_refl _) _).setCell (Nat.le_refl _) _).setCell (by simp) _).setCell (by simp) _).setCell (by simp) _).setCell (by simp) _
    · rw [A.out] at he
      cases he
      rfl
    · rw [A.out] at he
      cases he
  | ok x =>
    obtain ⟨q1, q2, q3, q4⟩ := decF_ok (byte_lt s) hd
    have A : Aside (decF (bytesOf s) = .ok x ∧ x.code = bytesOf s) := ⟨hd, q4⟩
    have HBx : Hid (∀ (e : El) (W : World) (F : Nat → Prop), Tree encP kP 6 W F e x → Calls Tryz.prog 89 #[valP e] W (BareSaid 6 x W)) := fun e W F h => bare_any 6 x e W F h (by rw [q4]; exact q1)
    clear hd hF hT hlg HB q1 q2 q3 q4
    go_enter Tryz.func52, Tryz.ntmps52
    go_wp2_with fail
    refine (HD.out _ (((Below.refl _ _).alloc (Nat.le_refl _) _).alloc (by simp) _)).mono ?_
    rintro e w1 ⟨hb1, _, hd2⟩
    obtain ⟨fr, en, l, tx, p, m, c, hTr, rfl⟩ := hd2 x A.out.1
    have B1 : Aside (Below w.heap.size w w1) := Below.behind (((Below.refl _ _).alloc (Nat.le_refl _) _).alloc (by simp) _) hb1
    have H1 : Aside (Held w1 w.heap.size [.bool false, .string ⟨#[]⟩, .slice none 0 0] ∧ Held w1 (w.heap.size + 1) [.int .i64 0, .int .i64 0, .int .i64 0, .int .i64 0]) := by
      refine ⟨((Held.fresh w [.bool false, .string ⟨#[]⟩, .slice none 0 0] _).alloc _).below hb1, ?_⟩
      have := (Held.fresh (w.alloc (.cells #[.bool false, .string ⟨#[]⟩, .slice none 0 0] 45)) [.int .i64 0, .int .i64 0, .int .i64 0, .int .i64 0] 66).below hb1
      simpa using this
    have T1 : Aside (Tree encP kP 6 w1 (fun _ => True) ⟨fr, en, l, tx, .slice p m c⟩ x) := Tree.keep (fun _ _ => trivial) (Nat.le_refl _) (fun _ _ _ => rfl) 6 hTr
    clear hb1 hd2 hTr
    go_wp2_with fail
    refine (HBx.out _ _ (fun _ => True) (T1.out.below ((Below.refl _ _).alloc (Nat.le_refl _) _))).mono ?_
    rintro e w2 ⟨hb2, l2, tx2, p2, m2, c2, rfl, hT2⟩
    have B2 : Aside (Below w.heap.size w w2) := B1.out.trans ((Below.up hb2).mono B1.out.size)
    have H2 : Aside (Held w2 w.heap.size [.bool false, .string ⟨#[]⟩, .slice none 0 0] ∧ Held w2 (w.heap.size + 1) [.int .i64 0, .int .i64 0, .int .i64 0, .int .i64 0]) := ⟨H1.out.1.below (Below.up hb2), H1.out.2.below (Below.up hb2)⟩
    have T2 : Aside (Tree encI kB 6 w2 (fun k => w.heap.size + 2 ≤ k) ⟨0, 0, l2, tx2, .slice p2 m2 c2⟩ x.bare) := Tree.keep (fun k hk => by have := H1.out.2.1; simp at hk; omega) (Nat.le_refl _) (fun _ _ _ => rfl) 6 hT2
    clear hb2 hT2 T1
    go_wp2_with fail
    refine (tell_nil _).mono ?_
    rintro e w3 ⟨rfl, hb3⟩
    have B3 : Aside (Below w.heap.size w w3) := Below.behind B2.out hb3
    have T3 : Aside (Tree encI kB 6 w3 (fun k => w.heap.size + 2 ≤ k) ⟨0, 0, l2, tx2, .slice p2 m2 c2⟩ x.bare) := T2.out.below hb3
    obtain ⟨a0, f0⟩ := (H2.out.1.below hb3).2 0 _ rfl
    obtain ⟨a1, f1⟩ := (H2.out.1.below hb3).2 1 _ rfl
    obtain ⟨a2, f2⟩ := (H2.out.1.below hb3).2 2 _ rfl
    obtain ⟨b0, g0⟩ := (H2.out.2.below hb3).2 0 _ rfl
    obtain ⟨b1, g1⟩ := (H2.out.2.below hb3).2 1 _ rfl
    obtain ⟨b2, g2⟩ := (H2.out.2.below hb3).2 2 _ rfl
    obtain ⟨b3, g3⟩ := (H2.out.2.below hb3).2 3 _ rfl
    clear hb3
    go_wp2
    refine bodyPost_ret (v := .tuple #[valI ⟨0, 0, l2, tx2, .slice p2 m2 c2⟩, faultV 0 0 0 0]) (by simp [results, Tryz.results52, go_sem, a0, a1, a2, b0, b1, b2, b3]) rfl ?_
    refine ⟨?_, fun er' he => ?_, fun y he => ?_⟩
    · exact ((((((B3.out.setCell (Nat.le_refl _) _).setCell (Nat.le_refl _) _).setCell (Nat.le_refl _) _).setCell (by simp) _).setCell (by simp) _).setCell (by simp) _).setCell (by simp) _
    · rw [A.out.1] at he
      cases he
    · refine ⟨l2, tx2, p2, m2, c2, ?_, rfl⟩
      have := T3.out
      rw [A.out.1] at he
      cases he
      refine Tree.keep (fun k hk => by omega) (by simp) (fun k hk _ => ?_) 6 this
      rw [Below.heap_setCell _ _ _ _ (by simp only; omega), Below.heap_setCell _ _ _ _ (by simp only; omega), Below.heap_setCell _ _ _ _ (by simp only; omega), Below.heap_setCell _ _ _ _ (by simp only; omega), Below.heap_setCell _ _ _ _ (by simp only; omega), Below.heap_setCell _ _ _ _ (by simp only; omega), Below.heap_setCell _ _ _ _ (by simp only; omega)]

/-- What Encode answers. -/
def TEncSaid (c : List Nat) (w : World) (e : Ending) (w' : World) : Prop :=
  Below w.heap.size w w' ∧ ((c.length ≤ 2048 ∧ e = .returned (.tuple #[.string (textB c), .int .i64 0])) ∨ (2048 < c.length ∧ e = .returned (.tuple #[.string ⟨#[]⟩, .int .i64 1])))

set_option maxRecDepth 100000 in
theorem tenc_any (n : Nat) (hn : n ≤ 5) (fr en : Nat) (l : Bool) (tx : ByteArray) (p : Option Addr) (m c : Nat) (cd : List Nat) (sent : Nat → Addr) (w : World) (F : Nat → Prop) (h : Tree encI kC (n + 1) w F ⟨fr, en, l, tx, .slice p m c⟩ cd) (hl : cd.length ≤ 1048576) (hF : Faults w sent) :
    Calls Tryz.prog 23 #[.agg #[.bool l, .string tx, .slice p m c]] w (TEncSaid cd w) := by
  have HE : Hid (∀ W, Below w.heap.size w W → Calls Tryz.prog 53 #[.agg #[.bool l, .string tx, .slice p m c]] W (EncSaid cd sent W)) := fun W hW => encode_any n hn ⟨fr, en, l, tx, .slice p m c⟩ cd sent W F (h.below hW) hl (hF.below hW)
  have HN : Hid (∀ W, Below w.heap.size w W → Calls Tryz.prog 49 #[.iface 423 (.pointer (some (sent 1)))] W fun e w' => e = .returned (.int .i64 1) ∧ Below W.heap.size W w') := fun W hW => errno_any sent (.base 1) (by show 1 ∈ nums; decide) W (hF.below hW)
  clear h hF
  go_enter Tryz.func23, Tryz.ntmps23
  go_wp2_with fail
  refine (HE.out _ ((Below.refl _ _).alloc (Nat.le_refl _) _)).mono ?_
  rintro e w1 ⟨hb1, hd⟩
  have B1 : Aside (Below w.heap.size w w1) := Below.up hb1
  clear hb1
  rcases hd with ⟨h1, rfl⟩ | ⟨h1, rfl⟩
  · have A1 : Aside (cd.length ≤ 2048) := h1
    clear h1
    go_wp2_with (go_at_call 49; refine (errno_nil _).mono ?_; rintro e w1 ⟨rfl, rfl⟩)
    go_ret2
    exact ⟨B1.out, .inl ⟨A1.out, rfl⟩⟩
  · have A1 : Aside (2048 < cd.length) := h1
    clear h1
    go_wp2_with fail
    refine (HN.out _ B1.out).mono ?_
    rintro e w2 ⟨rfl, hb2⟩
    go_wp2
    go_ret2
    exact ⟨Below.behind B1.out hb2, .inr ⟨A1.out, rfl⟩⟩
end Go.Proofs.YtjiikjpnlgogfaaGreatDoor
