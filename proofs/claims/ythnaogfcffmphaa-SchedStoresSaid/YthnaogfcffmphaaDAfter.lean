/-
  DEVICE, A LINE IN THE LINES' BLOCK: (*line).after: the words with the first k stores.
-/
import Derived.Test.YthnaogfcffmphaaDStore
import Derived.Outline
set_option linter.unusedVariables false
set_option linter.unusedSimpArgs false
namespace Go.Proofs.Ythnaogfcffmphaa.Dev
open Go.ChangeShapes Go.WideShapes Go.ChangeAt Go.RowKit Go.Proofs.Ythnaogfcffmphaa.Mem
/-- The words of a line with a list of stores. -/
def applyW (b : Nat → Nat) : List (Nat × Nat) → Nat → Nat
  | [] => b
  | p :: l => applyW (fun j => if j = p.1 / 8 % 8 then p.2 else b j) l
theorem applyW_append : ∀ (l r : List (Nat × Nat)) (b : Nat → Nat), applyW b (l ++ r) = applyW (applyW b l) r
  | [], _, _ => rfl
  | p :: l, r, b => by simp only [List.cons_append, applyW]; exact applyW_append l r _
theorem applyW_snoc (l : List (Nat × Nat)) (p : Nat × Nat) (b : Nat → Nat) : applyW b (l ++ [p]) = fun j => if j = p.1 / 8 % 8 then p.2 else applyW b l j := by
  rw [applyW_append]; rfl
def wordG (f : Nat → Nat) (j : Nat) : Value := .int .u64 (f j : Int)
def words8 (f : Nat → Nat) : Value := .agg #[wordG f 0, wordG f 1, wordG f 2, wordG f 3, wordG f 4, wordG f 5, wordG f 6, wordG f 7]
theorem wordG_upd (f : Nat → Nat) (k x : Nat) : upd (wordG f) k (.int .u64 (x : Int)) = wordG (fun j => if j = k then x else f j) := by
  funext j
  by_cases h : j = k <;> simp [upd, wordG, h]
theorem new_cell (w : World) (cs : Array Value) (T : TypeId) (j : Nat) {v : Value} (hv : cs[j]? = some v) : (w.alloc (.cells cs T (0, 0))).cell? ⟨w.heap.size, j, none⟩ = some v := by
  rw [cell_of_row _ _ j cs T (0, 0) (heap_alloc_new w _), hv]
theorem words_blk (w : World) (T : TypeId) (f : Nat → Nat) (n : Nat) (hn : w.heap.size = n) : Blk (w.alloc (.cells #[wordG f 0, wordG f 1, wordG f 2, wordG f 3, wordG f 4, wordG f 5, wordG f 6, wordG f 7] T)) n T 8 (wordG f) := by
  subst hn
  refine Blk.newOf w _ T rfl fun o ho => ?_
  match o, ho with
  | 0, _ => rfl
  | 1, _ => rfl
  | 2, _ => rfl
  | 3, _ => rfl
  | 4, _ => rfl
  | 5, _ => rfl
  | 6, _ => rfl
  | 7, _ => rfl
/-- A history's stores are words. -/
def Fine (hs : List (Nat × Nat)) : Prop := ∀ p ∈ hs, p.1 < 18446744073709551616 ∧ p.2 < 18446744073709551616
end Go.Proofs.Ythnaogfcffmphaa.Dev
