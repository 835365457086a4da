/-
  Package twigsref: DecodeAccount, whole.
-/
import Derived.Test.YtjiikjpnlgogfaaGreatDoorRaA
import Derived.Test.YtjiikjpnlgogfaaGreatDoorAccT
import Derived.Test.YtjiikjpnlgogfaaGreatDoorBaS
namespace Go.Proofs.YtjiikjpnlgogfaaGreatDoor
open Go.RowKit

theorem el_of_treeR {enc : El → List Value} {d : Nat} {w : World} {F : Nat → Prop} {e : El} {y : It} (h : Tree enc kP d w F e y) : e.fr = y.fr ∧ e.lst = y.isList ∧ bytesOf e.text = y.txt := by
  have ht : IsText e ∧ kP.tx e y → e.fr = y.fr ∧ e.lst = y.isList ∧ bytesOf e.text = y.txt := by
    rintro ⟨⟨h1, _⟩, h2⟩
    have h2 : y = .text e.fr e.to (bytesOf e.text) := h2
    subst h2
    exact ⟨rfl, h1, rfl⟩
  cases d with
  | zero => exact ht h
  | succ d =>
    rcases h with h | ⟨h1, ps, _, _, h2, h3⟩
    · exact ht h
    · have h3 : y = .list e.fr e.to (ps.map (·.2)) := h3
      subst h3
      exact ⟨rfl, h1, by rw [h2]; rfl⟩

def AccIs (s : ByteArray) (e : Ending) : Prop :=
  (∀ er, accF (bytesOf s) = .error er → e = .returned (.tuple #[.agg (accL zeroAcc).toArray, faultV er.num 0 0 er.at_])) ∧ ∀ a, accF (bytesOf s) = .ok a → e = .returned (.tuple #[.agg (accL a).toArray, faultV 0 0 0 0])
theorem AccIs.bad {s : ByteArray} {er : Er} (h : accF (bytesOf s) = .error er) : AccIs s (.returned (.tuple #[.agg (accL zeroAcc).toArray, faultV er.num 0 0 er.at_])) :=
  ⟨(fun er' he => by rw [h] at he; cases he; rfl), (fun a he => by rw [h] at he; cases he)⟩
theorem AccIs.good {s : ByteArray} {a : Acc} (h : accF (bytesOf s) = .ok a) : AccIs s (.returned (.tuple #[.agg (accL a).toArray, faultV 0 0 0 0])) :=
  ⟨(fun er' he => by rw [h] at he; cases he), (fun a he => by rw [h] at he; cases he; rfl)⟩

theorem badAt_it {k : Nat} {e : El} {y : It} (h : e.lst = y.isList ∧ bytesOf e.text = y.txt) : badAt k e = if k < 2 then !(decide (numIt y)) else !(decide (hashIt y)) := by
  unfold badAt numIt hashIt
  have hs : e.text.size = y.txt.length := by rw [← h.2, bytesOf_length]
  by_cases hk : k < 2
  · rw [if_pos hk, if_pos hk]
    congr 1
    rw [h.1, h.2]
  · rw [if_neg hk, if_neg hk]
    congr 1
    rw [h.1, hs]

set_option maxRecDepth 4000 in
theorem rdecacc_any (s : ByteArray) (w : World) : Calls Tryz.prog 122 #[.string s] w fun e w' => AccIs s e ∧ Below w.heap.size w w' := by
  cases h : decF (bytesOf s) with
  | error er =>
    have hacc : accF (bytesOf s) = .error er := by unfold accF; rw [h]
    by_cases hn : 0 < er.num
    · refine (da_err s w 0 0 false ⟨#[]⟩ none 0 0 er.num er.at_ hn (fun W => (rdec_any s W).mono ?_)).mono ?_
      · rintro r w' ⟨hb, h1, _⟩
        exact ⟨hb, (h1 er h).2⟩
      · rintro r w' ⟨rfl, hb⟩
        exact ⟨AccIs.bad hacc, hb⟩
    · have := (accF_error (byte_lt s) hacc).2.1
      omega
  | ok x =>
    obtain ⟨_, hfr, _, _⟩ := decF_ok (byte_lt s) h
    by_cases h4 : x.items.length = 4
    · obtain ⟨y0, y1, y2, y3, hy⟩ : ∃ y0 y1 y2 y3, x.items = [y0, y1, y2, y3] := by
        match hx : x.items with
        | [y0, y1, y2, y3] => exact ⟨y0, y1, y2, y3, rfl⟩
        | [] => rw [hx] at h4; simp at h4
        | [_] => rw [hx] at h4; simp at h4
        | [_, _] => rw [hx] at h4; simp at h4
        | [_, _, _] => rw [hx] at h4; simp at h4
        | _ :: _ :: _ :: _ :: _ :: _ => rw [hx] at h4; simp at h4
      have hacc : accF (bytesOf s) = readAcc y0 y1 y2 y3 := by
        unfold accF
        rw [h]
        simp only
        rw [hy]
      refine (da_four s w (fun v => AccIs s (.returned v)) (fun W => (rdec_any s W).mono ?_)).mono ?_
      · rintro r w' ⟨hb, _, h2⟩
        refine ⟨hb, ?_⟩
        obtain ⟨b, tx, p, m, c, hT, rfl⟩ := h2 x h
        rcases hT with hT | ⟨h1, ps, hrow, htr, _, hx⟩
        · have hx : x = .text _ _ _ := hT.2
          rw [hx] at hy
          cases hy
        · have hx : x = .list _ _ (ps.map (·.2)) := hx
          have hits : ps.map (·.2) = [y0, y1, y2, y3] := by rw [hx] at hy; exact hy
          have hpl : ps.length = 4 := by
            have := congrArg List.length hits
            simpa using this
          simp only at h1 hrow
          subst h1
          obtain ⟨g, cap, hs, _, _, _, _, hcells⟩ := RowAt.cells (enc := encR) (size := 5) (fun _ => rfl) hrow (by omega)
          rw [hs] at hrow ⊢
          rw [hpl]
          have hel : ∀ i (hi : i < ps.length), ps[i].1.fr = ps[i].2.fr ∧ ps[i].1.lst = ps[i].2.isList ∧ bytesOf ps[i].1.text = ps[i].2.txt := fun i hi => el_of_treeR (htr _ (List.getElem_mem hi))
          have hyi : ∀ i (hi : i < ps.length), ([y0, y1, y2, y3] : List It)[i]? = some ps[i].2 := fun i hi => by
            rw [← hits, List.getElem?_map, List.getElem?_eq_getElem hi]
            rfl
          have Y0 : ps[0].2 = y0 := by have := hyi 0 (by omega); simpa using this.symm
          have Y1 : ps[1].2 = y1 := by have := hyi 1 (by omega); simpa using this.symm
          have Y2 : ps[2].2 = y2 := by have := hyi 2 (by omega); simpa using this.symm
          have Y3 : ps[3].2 = y3 := by have := hyi 3 (by omega); simpa using this.symm
          have E0 := hel 0 (by omega)
          have E1 := hel 1 (by omega)
          have E2 := hel 2 (by omega)
          have E3 := hel 3 (by omega)
          rw [Y0] at E0
          rw [Y1] at E1
          rw [Y2] at E2
          rw [Y3] at E3
          have B0 : badAt 0 ps[0].1 = !(decide (numIt y0)) := badAt_it (k := 0) E0.2
          have B1 : badAt 1 ps[1].1 = !(decide (numIt y1)) := badAt_it (k := 1) E1.2
          have B2 : badAt 2 ps[2].1 = !(decide (hashIt y2)) := badAt_it (k := 2) E2.2
          have B3 : badAt 3 ps[3].1 = !(decide (hashIt y3)) := badAt_it (k := 3) E3.2
          have tr : ∀ {P : Prop} [Decidable P], (!(decide P)) = false → P := fun h => by simpa using h
          have fa : ∀ {P : Prop} [Decidable P], (!(decide P)) = true → ¬ P := fun h => by simpa using h
          refine ⟨_, _, _, g, cap, ps.map (·.1), by rw [List.length_map]; exact hpl, rfl, fun i hi => ?_, fun e he => ?_, fun k hk hprev hbad => ?_, fun q0 q1 q2 q3 hall => ?_⟩
          · rw [List.getElem_map]
            exact hcells i (by simpa using hi)
          · obtain ⟨q, hq, rfl⟩ := List.mem_map.1 he
            exact (htr q hq).sub
          · have hk4 : k < 4 := by rw [List.length_map, hpl] at hk; exact hk
            have pv : ∀ i (hi : i < ps.length), i < k → badAt i ps[i].1 = false := fun i hi hik => by
              have := hprev i (by simpa using hi) hik
              rwa [List.getElem_map] at this
            rw [List.getElem_map] at hbad ⊢
            have hk' : k = 0 ∨ k = 1 ∨ k = 2 ∨ k = 3 := by omega
            rcases hk' with rfl | rfl | rfl | rfl
            · rw [B0] at hbad
              have e : accF (bytesOf s) = .error (.place y0.fr (.base 13)) := by rw [hacc]; unfold readAcc; rw [if_pos (fa hbad)]
              rw [E0.1]
              exact AccIs.bad e
            · have p0 := pv 0 (by omega) (by omega)
              rw [B0] at p0
              rw [B1] at hbad
              have e : accF (bytesOf s) = .error (.place y1.fr (.base 13)) := by rw [hacc]; unfold readAcc; rw [if_neg (fun h => h (tr p0)), if_pos (fa hbad)]
              rw [E1.1]
              exact AccIs.bad e
            · have p0 := pv 0 (by omega) (by omega)
              have p1 := pv 1 (by omega) (by omega)
              rw [B0] at p0
              rw [B1] at p1
              rw [B2] at hbad
              have e : accF (bytesOf s) = .error (.place y2.fr (.base 13)) := by rw [hacc]; unfold readAcc; rw [if_neg (fun h => h (tr p0)), if_neg (fun h => h (tr p1)), if_pos (fa hbad)]
              rw [E2.1]
              exact AccIs.bad e
            · have p0 := pv 0 (by omega) (by omega)
              have p1 := pv 1 (by omega) (by omega)
              have p2 := pv 2 (by omega) (by omega)
              rw [B0] at p0
              rw [B1] at p1
              rw [B2] at p2
              rw [B3] at hbad
              have e : accF (bytesOf s) = .error (.place y3.fr (.base 13)) := by rw [hacc]; unfold readAcc; rw [if_neg (fun h => h (tr p0)), if_neg (fun h => h (tr p1)), if_neg (fun h => h (tr p2)), if_pos (fa hbad)]
              rw [E3.1]
              exact AccIs.bad e
          · have pv : ∀ i (hi : i < ps.length), badAt i ps[i].1 = false := fun i hi => by
              have := hall i (by simpa using hi)
              rwa [List.getElem_map] at this
            have p0 := pv 0 (by omega)
            have p1 := pv 1 (by omega)
            have p2 := pv 2 (by omega)
            have p3 := pv 3 (by omega)
            rw [B0] at p0
            rw [B1] at p1
            rw [B2] at p2
            rw [B3] at p3
            simp only [List.getElem_map]
            rw [E0.2.2, E1.2.2, E2.2.2, E3.2.2]
            refine AccIs.good ?_
            rw [hacc]
            unfold readAcc
            rw [if_neg (fun h => h (tr p0)), if_neg (fun h => h (tr p1)), if_neg (fun h => h (tr p2)), if_neg (fun h => h (tr p3))]
      · rintro r w' ⟨⟨v, hv, rfl⟩, hb⟩
        exact ⟨hv, hb⟩
    · have hacc : accF (bytesOf s) = .error (.place x.fr (.base 13)) := by
        unfold accF
        rw [h]
        simp only
        split
        · rename_i y0 y1 y2 y3 hy
          rw [hy] at h4
          simp at h4
        · rfl
      refine (da_not4 s w (fun W => (rdec_any s W).mono ?_)).mono ?_
      · rintro r w' ⟨hb, _, h2⟩
        refine ⟨hb, ?_⟩
        obtain ⟨b, tx, p, m, c, hT, rfl⟩ := h2 x h
        refine ⟨0, x.to, b, tx, p, m, c, ?_, rfl⟩
        rcases hT with hT | ⟨h1, ps, hrow, _, _, hx⟩
        · exact .inl hT.1.1
        · have hx : x = .list _ _ (ps.map (·.2)) := hx
          have hm : m = ps.length := RowOff.len (RowAt.rowOff hrow)
          refine .inr fun hm4 => h4 ?_
          rw [hx]
          show (ps.map (·.2)).length = 4
          rw [List.length_map, ← hm, hm4]
      · rintro r w' ⟨rfl, hb⟩
        have := AccIs.bad hacc
        rw [hfr] at this
        exact ⟨this, hb⟩
end Go.Proofs.YtjiikjpnlgogfaaGreatDoor
