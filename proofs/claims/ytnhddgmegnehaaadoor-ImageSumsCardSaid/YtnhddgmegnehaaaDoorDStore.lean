/-
  DEVICE, A LINE IN THE LINES' BLOCK: (*line).store.
-/
import Derived.Test.YtnhddgmegnehaaaDoorDClone
set_option linter.unusedVariables false
set_option linter.unusedSimpArgs false
namespace Go.Proofs.YtnhddgmegnehaaaDoor.Dev
open Go.ChangeShapes Go.WideShapes Go.ChangeAt Go.RowKit Go.Proofs.YtnhddgmegnehaaaDoor.Mem
theorem place_at (o p : Nat) (w : World) (ho : o < 18446744073709551616) (hp : o / 8 % 8 = p) : Calls Tryd.prog 67 #[.int .u64 (o : Int)] w fun e w' => e = .returned (.int .u64 (p : Int)) ∧ w' = w :=
  (place_any o w ho).mono fun e w' ⟨h1, h2⟩ => ⟨by rw [h1, hp], h2.symm⟩
theorem new_cells (w : World) (cs : Array Value) (T : TypeId) (n : Nat) (hn : w.heap.size = n) (l : List Value) (hl : cs.toList = l) : ∀ j u, l[j]? = some u → (w.alloc (.cells cs T)).cell? ((⟨n, 0, none⟩ : Addr).add j) = some u := fun j u hu => by
  subst hn hl
  rw [show (⟨w.heap.size, 0, none⟩ : Addr).add j = ⟨w.heap.size, j, none⟩ by unfold Addr.add; split <;> simp_all, cell_of_row _ _ j cs T (0, 0) (heap_alloc_new w _), ← Array.getElem?_toList]
  exact hu
theorem write_one (o x : Nat) : ∀ u ∈ [Value.int .u64 (o : Int), .int .u64 (x : Int)], u.oneCell' = true := by
  intro u h
  simp only [List.mem_cons, List.not_mem_nil, or_false] at h
  rcases h with rfl | rfl <;> rfl
end Go.Proofs.YtnhddgmegnehaaaDoor.Dev
