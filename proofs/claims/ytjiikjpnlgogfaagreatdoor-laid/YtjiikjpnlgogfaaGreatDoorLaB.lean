/-
  Package twigskeep: laid (the code of a node: of a path's code and one thing more), reference (to a node with that code).
-/
import Derived.Test.YtjiikjpnlgogfaaGreatDoorLaA
import Derived.Test.YtjiikjpnlgogfaaGreatDoorUnpack
import Derived.Test.YtjiikjpnlgogfaaGreatDoorEndG
import Derived.Test.YtjiikjpnlgogfaaGreatDoorFull
import Derived.Test.YtjiikjpnlgogfaaGreatDoorFixG
import Derived.Test.YtjiikjpnlgogfaaGreatDoorNdA
namespace Go.Proofs.YtjiikjpnlgogfaaGreatDoor
open Go.RowKit

/-- What a tree of items stands for is no deeper than it is. -/
theorem Tree.fit {enc : El → List Value} {w : World} {F : Nat → Prop} : ∀ (n d : Nat) {e : El} {x : It}, fits d x → Tree enc kB n w F e x → Tree enc kB d w F e x
  | 0, d, _, _, _, h => Tree.text h d
  | n + 1, d, e, x, hf, h => by
    rcases h with h | ⟨h1, ps, h2, h3, h4⟩
    · exact Tree.text h d
    · obtain ⟨h5, rfl⟩ := h4
      match d, hf with
      | d + 1, hf =>
        exact .inr ⟨h1, ps, h2, fun p hp => Tree.fit n d (hf p.2 (List.mem_map_of_mem hp)) (h3 p hp), h5, rfl⟩
theorem Tree.pair {w : World} {F : Nat → Prop} {n : Nat} {e1 e2 : El} {c1 c2 : List Nat} {g cap : Nat} (h1 : Tree encI kC n w F e1 c1) (h2 : Tree encI kC n w F e2 c2) (hc : 2 ≤ cap) (hg : F g) (hp : Plain w g) (hr : w.rangeAt g 0 (encI e1 ++ encI e2)) (fr en : Nat) : Tree encI kC (n + 1) w F ⟨fr, en, true, ⟨#[]⟩, .slice (some ⟨g, 0, none⟩) 2 cap⟩ (listCode (c1 ++ c2)) := by
  refine .inr ⟨rfl, [(e1, c1), (e2, c2)], .inr ⟨g, cap, rfl, hc, hg, hp.lt, hp, ?_⟩, ?_, rfl, ?_⟩
  · simpa using hr
  · intro p hp
    rcases List.mem_cons.1 hp with rfl | hp
    · exact h1
    · rw [List.mem_singleton.1 hp]; exact h2
  · simp

set_option maxRecDepth 100000 in
set_option maxHeartbeats 3200000 in
theorem klaid_any {n : Nat} (hn : n ≤ 4) {w : World} {F : Nat → Prop} {l : Bool} {tx : ByteArray} {px : Option Addr} {mx cx : Nat} {c : List Nat} {p : ByteArray} (leaf : Bool) (sent : Nat → Addr) (hx : Tree encI kC n w F ⟨0, 0, l, tx, .slice px mx cx⟩ c) (hp : p.size ≤ 64) (hb : ∀ x ∈ bytesOf p, x < 16) (hc : (listCode (textCode (pathCode (bytesOf p) leaf) ++ c)).length ≤ 2048) (hF : Faults w sent) :
    Calls Tryz.prog 21 #[.string p, .bool leaf, .agg #[.bool l, .string tx, .slice px mx cx]] w fun e w' => e = .returned (.tuple #[.string (textB (listCode (textCode (pathCode (bytesOf p) leaf) ++ c))), .bool true]) ∧ Below w.heap.size w w' := by
  obtain ⟨C, hC⟩ : ∃ C, listCode (textCode (pathCode (bytesOf p) leaf) ++ c) = C := ⟨_, rfl⟩
  obtain ⟨pc, hpc⟩ : ∃ pc, pathCode (bytesOf p) leaf = pc := ⟨_, rfl⟩
  have HP : Hid (∀ W, Calls Tryz.prog 51 #[.string p, .bool leaf] W fun e w' => e = .returned (.tuple #[.string (textB pc), .int .i64 0]) ∧ Below W.heap.size W w') := fun W => by
    rw [← hpc]
    exact tpack_ok p leaf W (by omega) hb
  have hpb : bytesOf (textB pc) = pc := by
    refine bytesOf_textB fun x hx => ?_
    rw [← hpc] at hx
    exact pathCode_byte _ hb x hx
  have HE : Hid (∀ W, Below w.heap.size w W → Calls Tryz.prog 23 #[.agg #[.bool true, .string ⟨#[]⟩, .slice (some ⟨W.heap.size, 0, none⟩) 2 2]] (W.alloc (.cells #[.bool false, .string (textB pc), .slice none 0 0, .bool l, .string tx, .slice px mx cx] 45)) (TEncSaid C (W.alloc (.cells #[.bool false, .string (textB pc), .slice none 0 0, .bool l, .string tx, .slice px mx cx] 45)))) := fun W hW => by
    have hb2 : Below w.heap.size w (W.alloc (.cells #[.bool false, .string (textB pc), .slice none 0 0, .bool l, .string tx, .slice px mx cx] 45)) := hW.alloc hW.size _
    refine tenc_any n (by omega) 0 0 true ⟨#[]⟩ _ 2 2 C sent _ (fun k => F k ∨ k = W.heap.size) ?_ (by rw [← hC]; omega) (hF.below hb2)
    rw [← hC, hpc]
    refine Tree.pair (e1 := ⟨0, 0, false, textB pc, .slice none 0 0⟩) (Tree.text ⟨⟨rfl, rfl⟩, ?_⟩ n) (Tree.keep (fun k hk => .inl hk) hb2.size (fun k _ hk => hb2.block k hk) n hx) (Nat.le_refl _) (.inr rfl) ⟨_, _, Array.getElem?_push_size⟩ (rangeAt_new W _ _) 0 0
    show _ = textCode (bytesOf (textB pc))
    rw [hpb]
  have HX : Hid (C.length ≤ 2048) := by rw [hC] at hc; exact hc
  rw [hC]
  clear hx hb hc hF hC hpc hpb
  go_enter Tryz.func21, Tryz.ntmps21
  go_wp2_with fail
  refine (HP.out _).mono ?_
  rintro e w1 ⟨rfl, hb1⟩
  have c0 : w1.cell? ⟨w.heap.size, 0, none⟩ = some (.bool l) := (World.cell?_of_block (hb1.block _ (by simp))).trans (by rw [World.cell?_alloc_new]; rfl)
  have c1 : w1.cell? ⟨w.heap.size, 1, none⟩ = some (.string tx) := (World.cell?_of_block (hb1.block _ (by simp))).trans (by rw [World.cell?_alloc_new]; rfl)
  have c2 : w1.cell? ⟨w.heap.size, 2, none⟩ = some (.slice px mx cx) := (World.cell?_of_block (hb1.block _ (by simp))).trans (by rw [World.cell?_alloc_new]; rfl)
  have H1 : Hid (Below w.heap.size w w1) := Below.up hb1
  clear hb1
  go_wp2_with fail
  refine (HE.out w1 H1.out).mono ?_
  rintro e w2 ⟨hb2, ⟨-, rfl⟩ | ⟨h, -⟩⟩
  · have H2 : Hid (Below w.heap.size w w2) := H1.out.trans ((Below.up hb2).mono H1.out.size)
    clear hb2
    go_wp2
    go_ret2
    exact ⟨rfl, H2.out⟩
  · exact absurd HX.out (by omega)
end Go.Proofs.YtjiikjpnlgogfaaGreatDoor
