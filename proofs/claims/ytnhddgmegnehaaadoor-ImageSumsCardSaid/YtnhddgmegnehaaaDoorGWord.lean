/-
  THE LAW's word: eight bytes of a content.
-/
import Derived.Test.YtnhddgmegnehaaaDoorDBase
import Derived.Test.YtnhddgmegnehaaaDoorPackMath
import Derived.Test.YtnhddgmegnehaaaDoorArgs
set_option linter.unusedVariables false
set_option linter.unusedSimpArgs false
namespace Go.Proofs.YtnhddgmegnehaaaDoor.Dev
open Go.ChangeShapes Go.WideShapes Go.ChangeAt Go.RowKit Go.Proofs.YtnhddgmegnehaaaDoor.Mem Go.Proofs.YtnhddgmegnehaaaDoor.Args Go.Proofs.YtnhddgmegnehaaaDoor.PackMath
/-- The first k bytes from o on, as a number. -/
def leTo (zs : List Int) (o k : Nat) : Nat := (le ((zs.drop o).take k)).toNat
theorem leTo_succ (zs : List Int) (o k : Nat) (h : o + k < zs.length) (hz : ∀ z ∈ zs, 0 ≤ z ∧ z ≤ 255) :
    ∃ b : Nat, b < 256 ∧ zs.getD (o + k) 0 = (b : Int) ∧ leTo zs o (k + 1) = leTo zs o k + b * 256 ^ k ∧ leTo zs o k < 256 ^ k := by
  have hg : zs.getD (o + k) 0 = zs[o + k] := getD_at h
  have hb := hz _ (List.getElem_mem h)
  have hl : ((zs.drop o).take k).length = k := by rw [List.length_take, List.length_drop]; omega
  have hr := le_range ((zs.drop o).take k) (fun b hb => hz b (List.mem_of_mem_drop (List.mem_of_mem_take hb)))
  rw [hl] at hr
  refine ⟨zs[o + k].toNat, by omega, by rw [hg]; omega, ?_, ?_⟩
  · unfold leTo
    rw [List.take_succ_eq_append_getElem (by rw [List.length_drop]; omega), le_snoc, hl, List.getElem_drop]
    have h2 : (0 : Int) ≤ zs[o + k] * 256 ^ k := Int.mul_nonneg hb.1 (Int.le_of_lt (Int.pow_pos (by omega)))
    have h3 : ((zs[o + k].toNat * 256 ^ k : Nat) : Int) = zs[o + k] * 256 ^ k := by
      rw [Int.natCast_mul, Int.natCast_pow, Int.toNat_of_nonneg hb.1]; rfl
    omega
  · have h4 : ((256 ^ k : Nat) : Int) = 256 ^ k := by rw [Int.natCast_pow]; rfl
    unfold leTo
    omega
end Go.Proofs.YtnhddgmegnehaaaDoor.Dev
