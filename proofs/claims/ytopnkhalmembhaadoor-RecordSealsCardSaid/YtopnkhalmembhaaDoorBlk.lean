/-
  A BLOCK KNOWN CELL BY CELL: block b is of type T, has n cells or more, is not frozen, and cell o holds g o. Over any program. No condition but those written.
-/
import Derived.WalkKit
import Derived.ProofKit
import Derived.Maps.AppendAt
import Derived.Laws.OwnMore
import Derived.Deep.Draws
import Derived.Lib.Hide
set_option linter.unusedVariables false
set_option linter.unusedSimpArgs false
namespace Go.Proofs.YtopnkhalmembhaaDoor.Mem
open Go.ChangeShapes Go.WideShapes Go.ChangeAt Go.RowKit
def Blk (w : World) (b : Nat) (T : TypeId) (n : Nat) (g : Nat → Value) : Prop :=
  ∃ cs : Array Value, w.heap[b]? = some (.cells cs T (0, 0)) ∧ n ≤ cs.size ∧ ∀ o, o < n → cs[o]? = some (g o)
def upd (g : Nat → Value) (k : Nat) (v : Value) : Nat → Value := fun o => if o = k then v else g o
theorem upd_same (g : Nat → Value) (k : Nat) (v : Value) : upd g k v k = v := by simp [upd]
theorem upd_other (g : Nat → Value) {k o : Nat} (v : Value) (h : o ≠ k) : upd g k v o = g o := by simp [upd, h]
section
variable {w w' : World} {b n : Nat} {T : TypeId} {g : Nat → Value}
theorem Blk.lt (h : Blk w b T n g) : b < w.heap.size := by
  obtain ⟨cs, hg, _⟩ := h
  exact (Array.getElem?_eq_some_iff.1 hg).1
theorem Blk.cell (h : Blk w b T n g) {o : Nat} (ho : o < n) : w.cell? ⟨b, o, none⟩ = some (g o) := by
  obtain ⟨cs, hg, _, hc⟩ := h
  rw [cell_of_row w b o cs T (0, 0) hg, hc o ho]
theorem Blk.frozen (h : Blk w b T n g) (o : Nat) : w.frozen? ⟨b, o, none⟩ = false := by
  obtain ⟨cs, hg, _, _⟩ := h
  exact frozen_of_row w b o cs T hg
theorem Blk.ext (h : Blk w b T n g) {g' : Nat → Value} (he : ∀ o, o < n → g' o = g o) : Blk w b T n g' := by
  obtain ⟨cs, hg, hs, hc⟩ := h
  exact ⟨cs, hg, hs, fun o ho => by rw [hc o ho, he o ho]⟩
theorem Blk.set (h : Blk w b T n g) (k : Nat) (v : Value) : Blk (w.setCell ⟨b, k, none⟩ v) b T n (upd g k v) := by
  obtain ⟨cs, hg, hs, hc⟩ := h
  refine ⟨cs.setIfInBounds k v, heap_setCell_same w b k cs T v hg, by simp [hs], fun o ho => ?_⟩
  by_cases e : o = k
  · subst e; have := Nat.lt_of_lt_of_le ho hs; simp [upd, this]
  · rw [Array.getElem?_setIfInBounds, if_neg (by omega), hc o ho, upd_other _ _ e]
theorem Blk.setOther (h : Blk w b T n g) {a : Addr} (hne : b ≠ a.block) (v : Value) : Blk (w.setCell a v) b T n g := by
  obtain ⟨cs, hg, hs, hc⟩ := h
  exact ⟨cs, by rw [heap_setCell_other w a b v hne]; exact hg, hs, hc⟩
theorem Blk.alloc (h : Blk w b T n g) (o : Obj) : Blk (w.alloc o) b T n g := by
  have hl := h.lt
  obtain ⟨cs, hg, hs, hc⟩ := h
  exact ⟨cs, by rw [Below.heap_alloc w o b hl]; exact hg, hs, hc⟩
theorem Blk.drew (h : Blk w b T n g) : Blk w.drew b T n g := h
theorem Blk.drewN (h : Blk w b T n g) (k : Nat) : Blk (w.drewN k) b T n g := h
theorem Blk.of_block (h : Blk w b T n g) (he : w'.heap[b]? = w.heap[b]?) : Blk w' b T n g := by
  obtain ⟨cs, hg, hs, hc⟩ := h
  exact ⟨cs, by rw [he]; exact hg, hs, hc⟩
theorem Blk.grown {row : Option Nat} (h : Blk w b T n g) (hg : w.grownBy w' row) (hne : some b ≠ row) : Blk w' b T n g := h.of_block (hg.block b h.lt hne)
theorem Blk.below {B : Nat} (h : Blk w b T n g) (hb : Below B w w') (hlt : b < B) : Blk w' b T n g := h.of_block (hb.block b hlt)
theorem Blk.new (w : World) (cs : Array Value) (T : TypeId) : Blk (w.alloc (.cells cs T)) w.heap.size T cs.size (fun o => cs.getD o default) :=
  ⟨cs, heap_alloc_new w _, Nat.le_refl _, fun o ho => by simp [Array.getElem?_eq_getElem ho, Array.getD, ho]⟩
theorem Blk.newOf (w : World) (cs : Array Value) (T : TypeId) {n : Nat} {g : Nat → Value} (hn : cs.size = n) (hg : ∀ o, o < n → cs[o]? = some (g o)) : Blk (w.alloc (.cells cs T)) w.heap.size T n g :=
  ⟨cs, heap_alloc_new w _, Nat.le_of_eq hn.symm, hg⟩
end
/-- WHAT A CALL MAY HAVE WRITTEN: of what was there, blocks that F names alone; nothing has gone. -/
structure Only (F : Nat → Prop) (w w' : World) : Prop where
  os : w'.os = w.os
  tape : w'.tape = w.tape
  output : w'.output = w.output
  size : w.heap.size ≤ w'.heap.size
  block : ∀ k, k < w.heap.size → ¬ F k → w'.heap[k]? = w.heap[k]?
section
variable {F G : Nat → Prop} {w w' w'' : World}
theorem Only.refl (F : Nat → Prop) (w : World) : Only F w w := ⟨rfl, rfl, rfl, Nat.le_refl _, fun _ _ _ => rfl⟩
theorem Only.trans (h : Only F w w') (k : Only F w' w'') : Only F w w'' :=
  ⟨k.os.trans h.os, k.tape.trans h.tape, k.output.trans h.output, Nat.le_trans h.size k.size, fun i hi hn => (k.block i (Nat.lt_of_lt_of_le hi h.size) hn).trans (h.block i hi hn)⟩
/-- The second step may write besides what the first has made. -/
theorem Only.trans' (h : Only F w w') (k : Only G w' w'') (hG : ∀ b, G b → F b ∨ w.heap.size ≤ b) : Only F w w'' :=
  ⟨k.os.trans h.os, k.tape.trans h.tape, k.output.trans h.output, Nat.le_trans h.size k.size, fun i hi hn =>
    (k.block i (Nat.lt_of_lt_of_le hi h.size) (fun g => by rcases hG i g with h1 | h1; exact hn h1; omega)).trans (h.block i hi hn)⟩
theorem Only.mono (h : Only F w w') (hF : ∀ b, F b → G b) : Only G w w' := ⟨h.os, h.tape, h.output, h.size, fun i hi hn => h.block i hi (fun f => hn (hF i f))⟩
theorem Only.drew (h : Only F w w') : Only F w w'.drew := ⟨h.os, h.tape, h.output, h.size, h.block⟩
theorem Only.drewN (h : Only F w w') (n : Nat) : Only F w (w'.drewN n) := ⟨h.os, h.tape, h.output, h.size, h.block⟩
theorem Only.alloc (h : Only F w w') (o : Obj) : Only F w (w'.alloc o) :=
  ⟨h.os, h.tape, h.output, by simp; exact Nat.le_succ_of_le h.size, fun i hi hn => by rw [Below.heap_alloc _ _ _ (Nat.lt_of_lt_of_le hi h.size)]; exact h.block i hi hn⟩
theorem Only.set (h : Only F w w') (a : Addr) (v : Value) (ha : F a.block ∨ w.heap.size ≤ a.block) : Only F w (w'.setCell a v) :=
  ⟨h.os, h.tape, h.output, by simpa using h.size, fun i hi hn => by rw [heap_setCell_other _ _ _ _ (fun e => by subst e; rcases ha with h1 | h1; exact hn h1; omega)]; exact h.block i hi hn⟩
theorem Only.below (h : Only F w w') {B : Nat} (hB : B ≤ w.heap.size) (hF : ∀ b, F b → B ≤ b) : Below B w w' :=
  ⟨h.os, h.tape, h.output, h.size, fun k hk => h.block k (by omega) (fun f => by have := hF k f; omega)⟩
theorem Only.ofBelow (h : Below w.heap.size w w') (F : Nat → Prop) : Only F w w' := ⟨h.os, h.tape, h.output, h.size, fun k hk _ => h.block k hk⟩
theorem Only.ofGrown {row : Option Nat} (h : w.grownBy w' row) (hr : ∀ k, row = some k → F k ∨ w.heap.size ≤ k) : Only F w w' :=
  ⟨h.os, h.tape, h.output, h.size, fun k hk hn => h.block k hk (fun e => by rcases hr k e.symm with h1 | h1; exact hn h1; omega)⟩
theorem Only.blk {b n : Nat} {T : TypeId} {g : Nat → Value} (h : Only F w w') (hb : Blk w b T n g) (hn : ¬ F b) : Blk w' b T n g := hb.of_block (h.block b hb.lt hn)
end
end Go.Proofs.YtopnkhalmembhaaDoor.Mem
