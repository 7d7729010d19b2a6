/-
  SCHED, THE LAW SchedGreat: Pascal's triangle, saturated.
-/
import Derived.Test.YthnaogfcffmphaaSAwake
import Derived.Deep.AppendLies
import Derived.Deep.RegionHeld3
set_option linter.unusedVariables false
set_option linter.unusedSimpArgs false
namespace Go.Proofs.Ythnaogfcffmphaa.Sched
open Go.ChangeShapes Go.WideShapes Go.ChangeAt Go.RowKit Go.Proofs.Ythnaogfcffmphaa.Mem Go.Proofs.Ythnaogfcffmphaa.Law Go.Proofs.Ythnaogfcffmphaa.Args Go.Proofs.Ythnaogfcffmphaa.Own
theorem info64 : (Try.prog.info? 51).map (fun i => (i.zero, i.size, i.bytes)) = some (some (.int .u64 0), 1, 8) := by kernel_rfl
def sat (n k : Nat) : Nat := min (bin n k) (most + 1)
def rowZ (n k : Nat) : List Int := (List.range k).map fun i => (sat n i : Int)
theorem rowZ_len (n k : Nat) : (rowZ n k).length = k := by simp [rowZ]
theorem rowZ_at {n k i : Nat} (h : i < k) : (rowZ n k).getD i 0 = (sat n i : Int) := by simp [rowZ, List.getD, h]
theorem rowZ_snoc (n k : Nat) : rowZ n (k + 1) = rowZ n k ++ [(sat n k : Int)] := by unfold rowZ; rw [List.range_succ, List.map_append]; rfl
theorem rowZ_one (n : Nat) : rowZ n 1 = [1] := by
  have : sat n 0 = 1 := by unfold sat; rw [bin_zero]; rfl
  simp [rowZ, this]
theorem sat_self (n : Nat) : sat n n = 1 := by unfold sat; rw [bin_self]; rfl
theorem sat_le (n k : Nat) : sat n k ≤ 4611686018427387905 := by unfold sat most; omega
theorem sat_step (n k : Nat) : min (sat n k + sat n (k + 1)) (most + 1) = sat (n + 1) (k + 1) := by unfold sat; rw [bin_succ]; omega
theorem cnt2 (x y : Nat) : (cntFold [(x : Int), (y : Int)]).1 = bin (x + y) x := by
  have h1 : cntFold [(x : Int), (y : Int)] = (tim (tim 1 0 x) x y, x + y) := by
    unfold cntFold cntStep
    simp
  rw [h1]
  have h2 : tim 1 0 x = 1 := by unfold tim; simp [ch_zero]
  rw [h2]
  unfold tim
  simp only [Nat.one_mul]
  rw [ch_maxmin, bin_symm (x + y) x (by omega), show x + y - x = y by omega]
theorem own_lit1 (w : World) (base : Nat) (z : Int) (hb : base ≤ w.heap.size) : OwnInts .u64 51 (w.alloc (.cells #[.int .u64 z] 51)) base (.slice (some ⟨w.heap.size, 0, none⟩) 1 1) [z] := by
  refine ⟨by simp, .inr ⟨w.heap.size, 1, #[.int .u64 z], rfl, hb, heap_alloc_new w _, ?_⟩⟩
  simp [maxLen]
end Go.Proofs.Ythnaogfcffmphaa.Sched
