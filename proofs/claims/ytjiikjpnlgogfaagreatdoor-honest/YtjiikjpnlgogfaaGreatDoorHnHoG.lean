/-
  Package twigskeep: Honest, up to its loop.
  Package twigskeep: Honest: what its loop needs.
  Package twigskeep: Honest: a proof with a node more.
-/
import Derived.Test.YtjiikjpnlgogfaaGreatDoorHnLvG
import Derived.Test.YtjiikjpnlgogfaaGreatDoorHnAppR
import Derived.Test.YtjiikjpnlgogfaaGreatDoorHnOrE
namespace Go.Proofs.YtjiikjpnlgogfaaGreatDoor
open Go.RowKit

abbrev zeroHash : Array Value := #[.int .u8 0, .int .u8 0, .int .u8 0, .int .u8 0, .int .u8 0, .int .u8 0, .int .u8 0, .int .u8 0, .int .u8 0, .int .u8 0, .int .u8 0, .int .u8 0, .int .u8 0, .int .u8 0, .int .u8 0, .int .u8 0, .int .u8 0, .int .u8 0, .int .u8 0, .int .u8 0, .int .u8 0, .int .u8 0, .int .u8 0, .int .u8 0, .int .u8 0, .int .u8 0, .int .u8 0, .int .u8 0, .int .u8 0, .int .u8 0, .int .u8 0, .int .u8 0]
theorem laidH (w : World) (h : List Nat) (hh : h.length = 32) : (w.alloc (.cells zeroHash 34)).there w.heap.size 0 (h.map encB).toArray.size ∧ (Tryz.prog.info? 34).map (·.size) = some (h.map encB).toArray.size ∧ (h.map encB).toArray.all (·.oneCell') = true ∧ Below w.heap.size w ((w.alloc (.cells zeroHash 34)).setCells w.heap.size 0 (h.map encB)) ∧ ((w.alloc (.cells zeroHash 34)).setCells w.heap.size 0 (h.map encB)).rangeAt w.heap.size 0 (h.map encB) ∧ w.heap.size < ((w.alloc (.cells zeroHash 34)).setCells w.heap.size 0 (h.map encB)).heap.size := by
  obtain ⟨t1, z1, z2, o1, b1, r1, s1⟩ := laid_hash w h.toArray (by simpa using hh)
  exact ⟨t1, z1, o1, b1, r1, s1⟩

/-- Keys in a row. -/
def kRow (Ks : List (Array Nat)) : List Value := Ks.flatMap fun x => x.toList.map encB
theorem kRow_one (Ks : List (Array Nat)) : ∀ u ∈ kRow Ks, u.oneCell' = true := fun u hu => by
  obtain ⟨K, _, hu⟩ := List.mem_flatMap.1 hu
  exact oneCell_key K u hu
theorem kRow_app (a b : List (Array Nat)) : kRow (a ++ b) = kRow a ++ kRow b := List.flatMap_append
theorem kRow_at : ∀ (Ks : List (Array Nat)) (_ : ∀ K ∈ Ks, K.size = 32) (k : Nat) (hk : k < Ks.length) (j : Nat) (_ : j < 32), (kRow Ks)[k * 32 + j]? = (Ks[k].toList.map encB)[j]?
  | [], _, k, hk, _, _ => by cases hk
  | K :: Ks, h32, k, hk, j, hj => by
    have hl : (K.toList.map encB).length = 32 := by rw [List.length_map, Array.length_toList, h32 K (List.mem_cons_self ..)]
    have e : kRow (K :: Ks) = K.toList.map encB ++ kRow Ks := by unfold kRow; rw [List.flatMap_cons]
    rw [e]
    cases k with
    | zero => rw [Nat.zero_mul, Nat.zero_add, List.getElem?_append_left (by omega)]; rfl
    | succ k =>
      rw [List.getElem?_append_right (by omega), hl, show (k + 1) * 32 + j - 32 = k * 32 + j by omega]
      exact kRow_at Ks (fun K hK => h32 K (List.mem_cons_of_mem _ hK)) k (by simpa using hk) j hj
theorem key_row {w : World} {C : Nat} {v : Value} {Ks : List (Array Nat)} (h : OwnC w C 32 v Ks.length (kRow Ks)) (h32 : ∀ K ∈ Ks, K.size = 32) {k : Nat} (hk : k < Ks.length) : ∃ g cap, v = .slice (some ⟨g, 0, none⟩) Ks.length cap ∧ C ≤ g ∧ g < w.heap.size ∧ w.rangeAt g (k * 32) (Ks[k].toList.map encB) := by
  rcases h.2 with ⟨_, e⟩ | ⟨g, cap, e1, e2, e3, _, _, _, hr⟩
  · omega
  · refine ⟨g, cap, e1, e2, e3, fun j u hu => ?_⟩
    have hj : j < 32 := by
      have := (List.getElem?_eq_some_iff.1 hu).1
      rw [List.length_map, Array.length_toList, h32 _ (List.getElem_mem hk)] at this
      exact this
    have := hr (k * 32 + j) u (by rw [kRow_at Ks h32 k hk j hj]; exact hu)
    rw [Nat.zero_add] at this
    exact this

/-- What holds at Honest's loop. -/
structure HonS (w : World) (B : Nat) (S : Wood) (n1 hb bt : Nat) (ks vs keys : Value) (m : Mp) (Ks : List (Array Nat)) (t : Nd) (W1 : World) : Prop where
  below : Below w.heap.size w W1
  forest : Forest B S W1
  lowB : w.heap.size ≤ B
  tree : TreeAt S W1 bt t
  can : t.can 64
  get : ∀ s, s.length = 64 → t.get s = getN m s
  box : W1.heap[n1]? = some (.cells #[ks, vs] 54 (0, 0))
  boxS : S n1 = none
  kn : Kn W1 w.heap.size ks vs m
  knS : ∀ g, ks.ownBlock = some g ∨ vs.ownBlock = some g → S g = none
  hash : W1.rangeAt hb 0 (t.dig.map encB)
  hashS : S hb = none ∧ hb < W1.heap.size
  row : OwnC W1 w.heap.size 32 keys Ks.length (kRow Ks)
  rowS : ∀ g, keys.ownBlock = some g → S g = none
  keysOK : ∀ K ∈ Ks, K.size = 32 ∧ Bytes K
  few : m.length ≤ 12 ∧ (m.map pth).Nodup ∧ Ks.length ≤ 25
theorem HonS.frame {w : World} {B : Nat} {S : Wood} {n1 hb bt : Nat} {ks vs keys : Value} {m : Mp} {Ks : List (Array Nat)} {t : Nd} {W1 wr : World} (h : HonS w B S n1 hb bt ks vs keys m Ks t W1) (hf : Fr B S S W1 wr) : HonS w B S n1 hb bt ks vs keys m Ks t wr := by
  have hbl := (Array.getElem?_eq_some_iff.1 h.box).1
  refine ⟨h.below.trans ((hf.below h.forest).mono h.lowB), hf.forest, h.lowB, h.tree.frame hf, h.can, h.get, (hf.other _ hbl h.boxS).trans h.box, h.boxS, ?_, h.knS, rangeAt_block h.hash (hf.other _ h.hashS.2 h.hashS.1), ⟨h.hashS.1, Nat.lt_of_lt_of_le h.hashS.2 hf.size⟩, h.row.frame hf h.rowS, h.rowS, h.keysOK, h.few⟩
  exact ⟨h.kn.keys.frame hf fun g hg => h.knS g (.inl hg), h.kn.vals.frame hf fun g hg => h.knS g (.inr hg), h.kn.ok, h.kn.apart⟩
end Go.Proofs.YtjiikjpnlgogfaaGreatDoor

namespace Go.Proofs.YtjiikjpnlgogfaaGreatDoor
open Go.RowKit

theorem ways_can : ∀ (n : Nat) (t : Nd) (r : ByteArray), t.can r.size → r.size ≤ 64 → ∀ u ∈ t.ways n r, u.ok
  | 0, t, r, hc, h64, u, hu => by
    rw [Nd.ways] at hu
    unfold Nd.shownL at hu
    split at hu
    · cases hu
    · obtain rfl : u = t := by simpa using hu
      exact (u.can_ok _ hc h64).1
  | n + 1, t, r, hc, h64, u, hu => by
    have hs : u ∈ t.shownL → u.ok := fun hu => by
      unfold Nd.shownL at hu
      split at hu
      · cases hu
      · obtain rfl : u = t := by simpa using hu
        exact (u.can_ok _ hc h64).1
    rw [Nd.ways] at hu
    split at hu
    · exact hs hu
    · rename_i hx
      have hx' : (t.next r).1 ≠ .no := fun e => hx (Nd.isNo_iff.2 e)
      obtain ⟨_, k1, k2, k3, _⟩ := next_can hc hx'
      rcases List.mem_cons.1 hu with rfl | hu
      · exact (u.can_ok _ hc h64).1
      · exact ways_can n _ _ (by rw [extract_size]; exact k3) (by rw [extract_size]; omega) u hu
theorem prove_byte {t : Nd} {r : ByteArray} (hc : t.can r.size) (h64 : r.size ≤ 64) : ∀ c ∈ t.prove r, ∀ y ∈ c, y < 256 := by
  have hw := ways_can 64 t r hc h64
  unfold Nd.prove
  intro c hc' y hy
  cases hts : t.ways 64 r with
  | nil => rw [hts] at hc'; cases hc'
  | cons u us =>
    rw [hts] at hw hc'
    rw [provL_cons] at hc'
    rcases List.mem_cons.1 hc' with rfl | h
    · exact u.code_byte (hw u (List.mem_cons_self ..)) y hy
    · unfold longs at h
      obtain ⟨v, hv, rfl⟩ := List.mem_map.1 (List.mem_filter.1 h).1
      exact v.code_byte (hw v (List.mem_cons_of_mem _ hv)) y hy
theorem ways_len : ∀ (n : Nat) (t : Nd) (r : ByteArray), (t.ways n r).length ≤ n + 1
  | 0, t, r => by rw [Nd.ways]; unfold Nd.shownL; split <;> simp
  | n + 1, t, r => by
    rw [Nd.ways]
    split
    · unfold Nd.shownL; split <;> simp
    · rw [List.length_cons]; have := ways_len n (t.next r).1 (r.extract (t.next r).2 r.size); omega
theorem prove_len (t : Nd) (r : ByteArray) : (t.prove r).length ≤ 65 := Nat.le_trans (provL_length _) (ways_len 64 t r)
/-- Texts in a row of one's own. -/
theorem strRow_of {w : World} {C : Nat} {v : Value} {L : List (List Nat)} (h : OwnC w C 1 v L.length (strs L)) : ∃ p c, v = .slice p L.length c ∧ StrRow w p (L.map textB) c ∧ (p.isSome = true → ∃ g, p = some ⟨g, 0, none⟩) := by
  rcases h.2 with ⟨e1, e2⟩ | ⟨g, cap, e1, _, e3, e4, _, _, hr⟩
  · have : L = [] := List.eq_nil_of_length_eq_zero e2
    subst this
    exact ⟨none, 0, e1, .inl ⟨rfl, rfl, rfl⟩, by simp⟩
  · refine ⟨_, cap, e1, .inr ⟨g, 0, rfl, by rw [List.length_map]; exact e4, fun _ => e3, ?_⟩, fun _ => ⟨g, rfl⟩⟩
    rw [List.map_map]
    exact hr
theorem StrRow.below {w w' : World} {p : Option Addr} {l : List ByteArray} {c : Nat} (h : StrRow w p l c) (hb : Below w.heap.size w w') : StrRow w' p l c := by
  rcases h with h | ⟨g, o, e1, e2, e3, e4⟩
  · exact .inl h
  · exact .inr ⟨g, o, e1, e2, fun h => Nat.lt_of_lt_of_le (e3 h) hb.size, fun j u hu => by
      have hj : 0 < l.length := by
        have := (List.getElem?_eq_some_iff.1 hu).1
        simp at this
        omega
      exact (hb.cell (p := ⟨g, o + j, none⟩) (e3 hj)).trans (e4 j u hu)⟩
theorem texts_back {L : List (List Nat)} (h : ∀ c ∈ L, ∀ y ∈ c, y < 256) : (L.map textB).map bytesOf = L := by
  rw [List.map_map]
  conv => rhs; rw [← List.map_id L]
  exact List.map_congr_left fun c hc => bytesOf_textB (h c hc)
/-- Verify, of texts that are codes, in whichever world. -/
theorem xver_codes {w W : World} (sent : Nat → Addr) (hE : Env w.heap.size sent w ∧ typeAt w ∧ 12 < w.heap.size) (hb : Below w.heap.size w W) (h : List Nat) (K : Array Nat) (L : List (List Nat)) (p : Option Addr) (c : Nat) (hh : h.length = 32) (hhb : ∀ x ∈ h, x < 256) (hK : K.size = 32) (hKb : Bytes K) (hr : StrRow W p (L.map textB) c) (hl : L.length ≤ 1000) (hB : ∀ c ∈ L, ∀ y ∈ c, y < 256) {q : Except Er (Option ByteArray)} (hq : verF h (textB (nibs K.toList)) L = q) :
    Calls Tryz.prog 30 #[.agg (h.map encB).toArray, .agg (K.toList.map encB).toArray, .slice p L.length c] W fun e w' => e = .returned (.tuple #[.string (verStr q), .bool (verHas q), verFault q]) ∧ Below W.heap.size W w' := by
  have := xverify_any sent h K (L.map textB) p c ((hE.1.below hb).raise hb.size) ((hb.cell (p := ⟨12, 0, none⟩) hE.2.2).trans hE.2.1) (Nat.lt_of_lt_of_le hE.2.2 hb.size) hh hhb hK hKb hr (by rw [List.length_map]; omega) (q := q) (by rw [texts_back hB]; exact hq)
  rw [List.length_map] at this
  exact this
theorem dig_byte {t : Nd} (hc : t.can 64) : ∀ x ∈ t.dig, x < 256 := by
  obtain ⟨hok, _⟩ := t.can_ok 64 hc (Nat.le_refl _)
  by_cases h : t = .no
  · subst h; rw [Nd.dig_no]; exact digB_byte _
  · rw [dig_can hc h]; exact digB_byte _
/-- A fault's block, made ahead of a call and written behind it. -/
theorem fault_set {w : World} {b : Nat} {x0 x1 x2 x3 : Value} {t : TypeId} (h : w.heap[b]? = some (.cells #[x0, x1, x2, x3] t (0, 0))) (y0 y1 y2 y3 : Value) : ((((w.setCell ⟨b, 0, none⟩ y0).setCell ⟨b, 1, none⟩ y1).setCell ⟨b, 2, none⟩ y2).setCell ⟨b, 3, none⟩ y3).heap[b]? = some (.cells #[y0, y1, y2, y3] t (0, 0)) :=
  heap_setCell_list (heap_setCell_list (heap_setCell_list (heap_setCell_list (cs := [x0, x1, x2, x3]) h 0 _) 1 _) 2 _) 3 _
theorem fault_below {B : Nat} {w0 w : World} (h : Below B w0 w) {b : Nat} (hb : B ≤ b) (y0 y1 y2 y3 : Value) : Below B w0 ((((w.setCell ⟨b, 0, none⟩ y0).setCell ⟨b, 1, none⟩ y1).setCell ⟨b, 2, none⟩ y2).setCell ⟨b, 3, none⟩ y3) :=
  (((h.setCell (p := ⟨b, 0, none⟩) hb _).setCell (p := ⟨b, 1, none⟩) hb _).setCell (p := ⟨b, 2, none⟩) hb _).setCell (p := ⟨b, 3, none⟩) hb _
/-- The map is empty just if the tree is. -/
theorem no_iff {t : Nd} {m : Mp} (hc : t.can 64) (hg : ∀ s, s.length = 64 → t.get s = getN m s) (hm : ∀ x ∈ m, x.1.size = 32) (p : ByteArray) : (t.prove p).length = 0 ↔ m.length = 0 := by
  constructor
  · intro h
    by_cases hno : t = .no
    · subst hno
      cases m with
      | nil => rfl
      | cons x m =>
        have h1 := hg (pth x) (by unfold pth; rw [nibs_length, Array.length_toList, hm x (List.mem_cons_self ..)])
        rw [get_no] at h1
        unfold getN at h1
        simp at h1
    · obtain ⟨L, hL⟩ := prove_some hno p
      rw [hL] at h
      cases h
  · intro h
    have : m = [] := List.eq_nil_of_length_eq_zero h
    subst this
    have : t = .no := none_no hc fun s h1 _ => by rw [hg s h1, get_no]; rfl
    rw [this, prove_no]
    rfl
theorem fault_other {w : World} {b k : Nat} (h : k ≠ b) (y0 y1 y2 y3 : Value) : ((((w.setCell ⟨b, 0, none⟩ y0).setCell ⟨b, 1, none⟩ y1).setCell ⟨b, 2, none⟩ y2).setCell ⟨b, 3, none⟩ y3).heap[k]? = w.heap[k]? :=
  (Below.heap_setCell _ _ _ _ h).trans ((Below.heap_setCell _ _ _ _ h).trans ((Below.heap_setCell _ _ _ _ h).trans (Below.heap_setCell _ _ _ _ h)))
/-- A fault, as four numbers. -/
theorem fault_four (q : Except Er (Option ByteArray)) : ∃ en ep ed ea : Nat, verFault q = faultV en ep ed ea ∧ (∀ er, q = .error er → en = er.num ∧ ed = er.node) ∧ (∀ o, q = .ok o → en = 0) := by
  cases q with
  | error er => exact ⟨_, _, _, _, rfl, fun e h => (by cases h; exact ⟨rfl, rfl⟩), fun o h => (by cases h)⟩
  | ok o => exact ⟨0, 0, 0, 0, rfl, fun e h => (by cases h), fun _ _ => rfl⟩
theorem range_lt {w : World} {b o : Nat} {cs : List Value} (h : w.rangeAt b o cs) (hl : 0 < cs.length) : b < w.heap.size := by
  have := h 0 cs[0] (List.getElem?_eq_getElem hl)
  exact World.block_lt_of_cell? w _ this
end Go.Proofs.YtjiikjpnlgogfaaGreatDoor

namespace Go.Proofs.YtjiikjpnlgogfaaGreatDoor
open Go.RowKit

theorem step_append_keep {P : Program} (w : World) {o : Oper} {a : Act} {K : Act → World → Prop} {Q : Exit → Act → World → Prop} (s x : Operand) (t : TypeId)
    (ho : o.op = .call { callee := .builtin .append, args := #[s, x], argTypes := #[t, t] })
    (e : TypeId) (i : TypeInfo) (z : Value) (size bytes : Nat) (ht : P.underlying t = some (.slice e)) (hi : P.info? e = some i) (hz : i.zero = some z) (hsize : i.size = size) (hby : i.bytes = bytes) (hzs : z.cells.size = size) (hsz : 0 < size)
    (B : Nat) (v : Value) (n : Nat) (cs : List Value) (hs : a.eval s = v) (hown : OwnC w B size v n cs) (b p m c : Nat) (news : List Value) (hx : a.eval x = .slice (some ⟨b, p, none⟩) m c)
    (hl : news.length = m * size) (hnews : w.rangeAt b p news) (h1 : ∀ u ∈ news, u.oneCell' = true) (hm : n + m ≤ maxLen) (hb : (n + m) * bytes ≤ 140737488355328) (hB : B ≤ w.heap.size)
    (hK : ∀ v' w', OwnC w' B size v' (n + m) (cs ++ news) → OwnC w' B size v n cs → w.grownBy w' v.ownBlock → (∀ k, v'.ownBlock = Option.some k → v.ownBlock = Option.some k ∨ w.heap.size ≤ k) → K (a.put o.dst v') w') : Oper.wp P o a w K Q := by
  obtain ⟨v', w', hrun, r1, r2, r3, r4, _, _⟩ := run_append_keep (P := P) w t o.type e i z size bytes ht hi hz hsize hby hzs hsz B v n cs hown b p m c news hl hnews h1 hm hb hB
  unfold Oper.wp
  simp [execOp, ho, resolve, invoke, builtin, hs, hx, hrun, Result.andThen]
  exact hK v' w' r1 r2 r3 r4

/-- In the midst of the statement. -/
structure App23 (w2 : World) (C gp cr f : Nat) (L : List (List Nat)) (sc : ByteArray) (en ep ed ea : Nat) (d9 d10 d16 : Bool) (v9 v10 : Value) (w' : World) : Prop where
  only : Only gp w2 w'
  row : OwnC w' C 1 (.slice (some ⟨gp, 0, none⟩) L.length cr) L.length (strs L)
  flt0 : d16 = false → w'.heap[f]? = some (.cells #[.int .i64 (en : Int), .int .i64 (ep : Int), .int .i64 (ed : Int), .int .i64 (ea : Int)] 66 (0, 0))
  flt1 : d16 = true → w'.heap[f]? = some (.cells #[.int .i64 4, .int .i64 0, .int .i64 (L.length : Int), .int .i64 0] 66 (0, 0))
  new9 : d9 = true → ∃ b9, v9 = .slice (some ⟨b9, 0, none⟩) 1 1 ∧ w'.rangeAt b9 0 [.string sc] ∧ w2.heap.size ≤ b9 ∧ b9 < w'.heap.size ∧ b9 ≠ f
  new10 : d10 = true → OwnC w' C 1 v10 (L.length + 1) (strs L ++ [.string sc]) ∧ (∀ k, v10.ownBlock = some k → k = gp ∨ w2.heap.size ≤ k) ∧ v10.ownBlock ≠ some f
  ord10 : d10 = true → d9 = true
  ord16 : d16 = true → d10 = true

section
variable {w2 : World} {C gp cr f : Nat} {L : List (List Nat)} {sc : ByteArray} {en ep ed ea : Nat} {d9 d10 d16 : Bool} {v9 v10 : Value} {W W' : World}
theorem App23.flt (h : App23 w2 C gp cr f L sc en ep ed ea d9 d10 d16 v9 v10 W) : ∃ x0 x1 x2 x3, W.heap[f]? = some (.cells #[x0, x1, x2, x3] 66 (0, 0)) := by
  cases d16 with
  | false => exact ⟨_, _, _, _, h.flt0 rfl⟩
  | true => exact ⟨_, _, _, _, h.flt1 rfl⟩
theorem App23.fl (h : App23 w2 C gp cr f L sc en ep ed ea d9 d10 d16 v9 v10 W) : f < W.heap.size := by
  obtain ⟨_, _, _, _, q⟩ := h.flt
  exact (Array.getElem?_eq_some_iff.1 q).1
/-- New blocks change nothing of it. -/
theorem App23.below (h : App23 w2 C gp cr f L sc en ep ed ea d9 d10 d16 v9 v10 W) (hb : Below W.heap.size W W') : App23 w2 C gp cr f L sc en ep ed ea d9 d10 d16 v9 v10 W' := by
  have hf := hb.block f h.fl
  refine ⟨h.only.trans (.of_below hb), h.row.below hb, fun q => hf.trans (h.flt0 q), fun q => hf.trans (h.flt1 q), fun q => ?_, fun q => ?_, h.ord10, h.ord16⟩
  · obtain ⟨b9, a1, a2, a3, a4, a5⟩ := h.new9 q
    exact ⟨b9, a1, rangeAt_block a2 (hb.block b9 a4), a3, Nat.lt_of_lt_of_le a4 hb.size, a5⟩
  · obtain ⟨a1, a2, a3⟩ := h.new10 q
    exact ⟨a1.below hb, a2, a3⟩
theorem App23.made (h : App23 w2 C gp cr f L sc en ep ed ea false d10 d16 v9 v10 W) : App23 w2 C gp cr f L sc en ep ed ea true d10 d16 (.slice (some ⟨W.heap.size, 0, none⟩) 1 1) v10 (W.alloc (.cells #[.string sc] 9)) := by
  have h' := h.below ((Below.refl W.heap.size W).alloc (Nat.le_refl _) (.cells #[.string sc] 9))
  refine ⟨h'.only, h'.row, h'.flt0, h'.flt1, fun _ => ⟨W.heap.size, rfl, rangeAt_new W [.string sc] 9, h.only.size, by simp, by have := h.fl; omega⟩, h'.new10, fun _ => rfl, h'.ord16⟩
theorem App23.grown (h : App23 w2 C gp cr f L sc en ep ed ea true false d16 v9 v10 W) (hgf : gp ≠ f) (hgp : gp < w2.heap.size) {v : Value} (hO : OwnC W' C 1 v (L.length + 1) (strs L ++ [.string sc])) (hR : OwnC W' C 1 (.slice (some ⟨gp, 0, none⟩) L.length cr) L.length (strs L)) (hg : W.grownBy W' (some gp)) (hf : ∀ k, v.ownBlock = some k → k = gp ∨ W.heap.size ≤ k) : App23 w2 C gp cr f L sc en ep ed ea true true d16 v9 v W' := by
  have hs := h.only.size
  have e16 : d16 = false := by
    cases d16 with
    | false => rfl
    | true => have := h.ord16 rfl; cases this
  subst e16
  refine ⟨⟨hg.os.trans h.only.os, hg.tape.trans h.only.tape, hg.output.trans h.only.output, Nat.le_trans hs hg.size, fun k hk hne => (hg.block k (by omega) (fun e => hne (by cases e; rfl))).trans (h.only.block k hk hne)⟩, hR, fun _ => (hg.block f h.fl (fun e => hgf (by cases e; rfl))).trans (h.flt0 rfl), fun q => (by cases q), fun _ => ?_, fun _ => ⟨hO, fun k hk => ?_, fun e => ?_⟩, fun _ => rfl, fun q => (by cases q)⟩
  · obtain ⟨b9, a1, a2, a3, a4, a5⟩ := h.new9 rfl
    exact ⟨b9, a1, rangeAt_block a2 (hg.block b9 a4 (fun e => by cases e; omega)), a3, Nat.lt_of_lt_of_le a4 hg.size, a5⟩
  · rcases hf k hk with e | e
    · exact .inl e
    · exact .inr (Nat.le_trans hs e)
  · rcases hf f e with e | e
    · exact hgf e.symm
    · have := h.fl; omega
theorem App23.wrote (h : App23 w2 C gp cr f L sc en ep ed ea true true false v9 v10 W) (hff : w2.heap.size ≤ f) (hgf : gp ≠ f) : App23 w2 C gp cr f L sc en ep ed ea true true true v9 v10 ((((W.setCell ⟨f, 0, none⟩ (.int .i64 4)).setCell ⟨f, 1, none⟩ (.int .i64 0)).setCell ⟨f, 2, none⟩ (.int .i64 (L.length : Int))).setCell ⟨f, 3, none⟩ (.int .i64 0)) := by
  have ho : ∀ k, k ≠ f → _ := fun k hk => fault_other (w := W) (b := f) (k := k) hk (.int .i64 4) (.int .i64 0) (.int .i64 (L.length : Int)) (.int .i64 0)
  refine ⟨⟨h.only.os, h.only.tape, h.only.output, by simpa using h.only.size, fun k hk hne => (ho k (by omega)).trans (h.only.block k hk hne)⟩, h.row.keep (by simp) fun k _ hk => ho k (fun e => hgf (by rw [← e]; simpa [Value.ownBlock] using hk)), fun q => (by cases q), fun _ => fault_set (h.flt0 rfl) _ _ _ _, fun _ => ?_, fun _ => ?_, fun _ => rfl, fun _ => rfl⟩
  · obtain ⟨b9, a1, a2, a3, a4, a5⟩ := h.new9 rfl
    exact ⟨b9, a1, rangeAt_block a2 (ho b9 a5), a3, by simpa using a4, a5⟩
  · obtain ⟨a1, a2, a3⟩ := h.new10 rfl
    exact ⟨a1.keep (by simp) fun k _ hk => ho k (fun e => a3 (by rw [← e]; exact hk)), a2, a3⟩
end
/-- From the loop's start on: a row of our own may have turned. -/
theorem Fr.only {B : Nat} {S : Wood} {w0 w w' : World} {g : Nat} (h : Fr B S S w0 w) (ho : Only g w w') (hg : w0.heap.size ≤ g) (hS : S g = none) : Fr B S S w0 w' := by
  refine ⟨ho.os.trans h.os, ho.tape.trans h.tape, ho.output.trans h.output, Nat.le_trans h.size ho.size, fun k hk hn => (ho.block k (Nat.lt_of_lt_of_le hk h.size) (by omega)).trans (h.other k hk hn), ?_, h.sub, h.new, fun b t hb j hj => ?_⟩
  · exact h.forest.keep ho.size fun k t hk => ho.block k (h.forest.lt hk) (fun e => by rw [e, hS] at hk; cases hk)
  · have hb' := h.sub b t hb
    exact (World.cell?_of_block (ho.block b (h.forest.lt hb') (fun e => by rw [e, hS] at hb'; cases hb'))).trans (h.kids b t hb j hj)
theorem only_fault {g : Nat} {w w' : World} (h : Only g w w') {b : Nat} (hb : w.heap.size ≤ b) (y0 y1 y2 y3 : Value) : Only g w ((((w'.setCell ⟨b, 0, none⟩ y0).setCell ⟨b, 1, none⟩ y1).setCell ⟨b, 2, none⟩ y2).setCell ⟨b, 3, none⟩ y3) :=
  ⟨h.os, h.tape, h.output, by simpa using h.size, fun k hk hne => (fault_other (by omega) _ _ _ _).trans (h.block k hk hne)⟩
theorem strRow_take {w : World} {C gp cr : Nat} {L : List (List Nat)} (h : OwnC w C 1 (.slice (some ⟨gp, 0, none⟩) L.length cr) L.length (strs L)) (n : Nat) : StrRow w (some ⟨gp, 0, none⟩) ((L.take n).map textB) cr := by
  rcases h.2 with ⟨e1, _⟩ | ⟨g, cap, e1, _, e3, e4, _, _, hr⟩
  · simp at e1
  · simp only [Value.slice.injEq, Option.some.injEq, Addr.mk.injEq, and_true, true_and] at e1
    obtain ⟨rfl, rfl⟩ := e1
    refine .inr ⟨gp, 0, rfl, by rw [List.length_map, List.length_take]; omega, fun _ => e3, fun j u hu => hr j u ?_⟩
    rw [List.map_map, List.map_take] at hu
    have hlt := (List.getElem?_eq_some_iff.1 hu).1
    rw [List.length_take] at hlt
    rw [List.getElem?_take_of_lt (by omega)] at hu
    exact hu
end Go.Proofs.YtjiikjpnlgogfaaGreatDoor
