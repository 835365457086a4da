/-
  The two digests that the document names: of the empty text, and of the byte 128 (fixed): worked out by the kernel.
-/
import Derived.Test.YtjiikjpnlgogfaaDoorLet
namespace Go.Proofs.YtjiikjpnlgogfaaDoor
open Go.RowKit

def dig1 : List Nat := [197, 210, 70, 1, 134, 247, 35, 60, 146, 126, 125, 178, 220, 199, 3, 192, 229, 0, 182, 83, 202, 130, 39, 59, 123, 250, 216, 4, 93, 133, 164, 112]
def dig2 : List Nat := [86, 232, 31, 23, 27, 204, 85, 166, 255, 131, 69, 230, 146, 192, 248, 110, 91, 72, 224, 27, 153, 108, 173, 192, 1, 98, 47, 181, 227, 99, 180, 33]

set_option maxRecDepth 100000 in
theorem dig_empty : (digF ⟨#[]⟩).toList = dig1 := by decide +kernel
set_option maxRecDepth 100000 in
theorem dig_80 : (digF ⟨#[128]⟩).toList = dig2 := by decide +kernel

theorem text1 : textOf dig1 = ⟨#[197, 210, 70, 1, 134, 247, 35, 60, 146, 126, 125, 178, 220, 199, 3, 192, 229, 0, 182, 83, 202, 130, 39, 59, 123, 250, 216, 4, 93, 133, 164, 112]⟩ := by kernel_rfl
theorem text2 : textOf dig2 = ⟨#[86, 232, 31, 23, 27, 204, 85, 166, 255, 131, 69, 230, 146, 192, 248, 110, 91, 72, 224, 27, 153, 108, 173, 192, 1, 98, 47, 181, 227, 99, 180, 33]⟩ := by kernel_rfl

theorem bytes_of_list (D : Array Nat) (h : ∀ x ∈ D.toList, x < 256) : Bytes D := by
  intro j
  by_cases hj : j < D.size
  · rw [getElem!_pos D j hj]
    exact h _ (by simp)
  · have : D[j]! = 0 := by simp [hj]
    rw [this]; decide

end Go.Proofs.YtjiikjpnlgogfaaDoor
