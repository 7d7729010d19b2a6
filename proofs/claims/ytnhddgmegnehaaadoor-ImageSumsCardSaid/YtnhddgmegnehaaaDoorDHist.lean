/-
  DEVICE, HISTORIES: a slice of stores that the device owns; slices.Clone and slices.Delete(s, 0, k) at it.
-/
import Derived.Test.YtnhddgmegnehaaaDoorDBase
import Derived.Lib.SliceRun
import Derived.Deep.RegionLaw
import Derived.Deep.AppendLies
set_option linter.unusedVariables false
set_option linter.unusedSimpArgs false
namespace Go.Proofs.YtnhddgmegnehaaaDoor.Dev
open Go.ChangeShapes Go.WideShapes Go.ChangeAt Go.RowKit Go.Proofs.YtnhddgmegnehaaaDoor.Mem
/-- The cells of a list of stores. -/
def hcells : List (Nat × Nat) → List Value
  | [] => []
  | p :: l => .int .u64 (p.1 : Int) :: .int .u64 (p.2 : Int) :: hcells l
theorem hcells_len : ∀ l : List (Nat × Nat), (hcells l).length = l.length * 2
  | [] => rfl
  | p :: l => by simp [hcells, hcells_len l]; omega
theorem hcells_append : ∀ l r : List (Nat × Nat), hcells (l ++ r) = hcells l ++ hcells r
  | [], _ => rfl
  | p :: l, r => by simp [hcells, hcells_append l r]
theorem hcells_drop : ∀ (k : Nat) (l : List (Nat × Nat)), (hcells l).drop (k * 2) = hcells (l.drop k)
  | 0, l => by simp
  | k + 1, [] => by simp [hcells]
  | k + 1, p :: l => by
    rw [show (k + 1) * 2 = k * 2 + 1 + 1 by omega]
    simp [hcells, hcells_drop k l]
theorem hcells_one (l : List (Nat × Nat)) : ∀ u ∈ hcells l, u.oneCell' = true := by
  induction l with
  | nil => intro u h; cases h
  | cons p l ih =>
    intro u h
    simp only [hcells, List.mem_cons] at h
    rcases h with rfl | rfl | h
    · rfl
    · rfl
    · exact ih u h
theorem hcells_at : ∀ (l : List (Nat × Nat)) (i : Nat) (h : i < l.length), (hcells l)[i * 2]? = some (.int .u64 (l[i].1 : Int)) ∧ (hcells l)[i * 2 + 1]? = some (.int .u64 (l[i].2 : Int))
  | [], _, h => absurd h (by simp)
  | p :: l, 0, _ => by simp [hcells]
  | p :: l, i + 1, h => by
    rw [show (i + 1) * 2 = i * 2 + 1 + 1 by omega]
    simpa [hcells] using hcells_at l i (by simpa using h)
/-- v IS A SLICE OF STORES OF ITS OWN, FROM BLOCK 'base' ON, THAT READS hs. -/
def Hist (w : World) (base : Nat) (v : Value) (hs : List (Nat × Nat)) : Prop := w.ownsRow base 112 2 v hs.length (hcells hs)
section
variable {w w' : World} {base : Nat} {v : Value} {hs : List (Nat × Nat)}
theorem Hist.nil_ (w : World) (base : Nat) : Hist w base (.slice none 0 0) [] := World.ownsRow_nil w base _ 2
theorem Hist.lt (h : Hist w base v hs) : ∀ g, v.ownBlock = some g → base ≤ g ∧ g < w.heap.size := World.ownsRow.lt h
theorem Hist.of_block (h : Hist w base v hs) (hb : ∀ g, v.ownBlock = some g → w'.heap[g]? = w.heap[g]?) : Hist w' base v hs := by
  refine ⟨h.1, ?_⟩
  rcases h.2 with hn | ⟨g, cap, cur, rfl, hbg, hgg, rest⟩
  · exact .inl hn
  · exact .inr ⟨g, cap, cur, rfl, hbg, by rw [hb g rfl]; exact hgg, rest⟩
theorem Hist.only {F : Nat → Prop} (h : Hist w base v hs) (ho : Only F w w') (hn : ∀ g, v.ownBlock = some g → ¬ F g) : Hist w' base v hs :=
  h.of_block fun g hg => ho.block g (h.lt g hg).2 (hn g hg)
theorem Hist.mono {b : Nat} (h : Hist w base v hs) (hb : b ≤ base) : Hist w b v hs := by
  refine ⟨h.1, ?_⟩
  rcases h.2 with hn | ⟨g, cap, cur, rfl, hbg, rest⟩
  · exact .inl hn
  · exact .inr ⟨g, cap, cur, rfl, Nat.le_trans hb hbg, rest⟩
/-- The two shapes. -/
theorem Hist.form (h : Hist w base v hs) : (v = .slice none 0 0 ∧ hs = []) ∨ ∃ g cap cur, v = .slice (some ⟨g, 0, none⟩) hs.length cap ∧ base ≤ g ∧ w.heap[g]? = some (.cells cur 112 (0, 0)) ∧ hs.length ≤ cap ∧ cap ≤ maxLen ∧ cur.size = cap * 2 ∧ cur.toList.take (hs.length * 2) = hcells hs := by
  rcases h.2 with ⟨h1, h2⟩ | h
  · exact .inl ⟨h1, List.length_eq_zero_iff.1 h2⟩
  · exact .inr h
theorem row_cell {g o : Nat} {cur : Array Value} {T : TypeId} {m : Nat} {xs : List Value} (hg : w.heap[g]? = some (.cells cur T (0, 0))) (ht : cur.toList.take m = xs) (ho : o < m) : w.cell? ⟨g, o, none⟩ = xs[o]? := by
  rw [cell_of_row w g o cur T (0, 0) hg, ← ht, List.getElem?_take, if_pos ho, Array.getElem?_toList]
end
theorem infoWrite : (Tryd.prog.info? 112).map (fun i => (i.zero, i.size, i.bytes)) = some (some (.agg #[.int .u64 0, .int .u64 0]), 2, 16) := by kernel_rfl
theorem zeroWrite (w : World) : (zeroValue 112).run Tryd.prog w = .ok (.agg #[.int .u64 0, .int .u64 0]) w := by kernel_rfl
section
variable {w : World} {b : Nat} {T : TypeId}
theorem setCells_same : ∀ (vs : List Value) (o : Nat) (w : World), (w.setCells b o vs).os = w.os ∧ (w.setCells b o vs).tape = w.tape ∧ (w.setCells b o vs).output = w.output ∧ (w.setCells b o vs).heap.size = w.heap.size ∧ ∀ k, k ≠ b → (w.setCells b o vs).heap[k]? = w.heap[k]?
  | [], _, _ => ⟨rfl, rfl, rfl, rfl, fun _ _ => rfl⟩
  | v :: vs, o, w => by
    obtain ⟨h1, h2, h3, h4, h5⟩ := setCells_same vs (o + 1) (w.setCell ⟨b, o, none⟩ v)
    exact ⟨h1, h2, h3, h4.trans (by simp), fun k hk => (h5 k hk).trans (heap_setCell_other w _ k v hk)⟩
theorem setCells_block : ∀ (vs : List Value) (o : Nat) (w : World) (cur : Array Value), w.heap[b]? = some (.cells cur T (0, 0)) → o + vs.length ≤ cur.size →
    ∃ cur', (w.setCells b o vs).heap[b]? = some (.cells cur' T (0, 0)) ∧ cur'.size = cur.size ∧ (∀ i, (i < o ∨ o + vs.length ≤ i) → cur'[i]? = cur[i]?) ∧ ∀ j, j < vs.length → cur'[o + j]? = vs[j]?
  | [], _, _, cur, h, _ => ⟨cur, h, rfl, fun _ _ => rfl, fun j hj => absurd hj (by simp)⟩
  | v :: vs, o, w, cur, h, hl => by
    simp only [List.length_cons] at hl
    obtain ⟨cur', h1, h2, h3, h4⟩ := setCells_block vs (o + 1) (w.setCell ⟨b, o, none⟩ v) (cur.setIfInBounds o v) (heap_setCell_same w b o cur T v h) (by simp; omega)
    refine ⟨cur', h1, by simpa using h2, fun i hi => ?_, fun j hj => ?_⟩
    · simp only [List.length_cons] at hi
      rw [h3 i (by omega), Array.getElem?_setIfInBounds, if_neg (by omega)]
    · rcases j with _ | j
      · have := h3 o (by omega)
        rw [Nat.add_zero, this]
        simp [show o < cur.size by omega]
      · have := h4 j (by simpa using hj)
        rw [show o + (j + 1) = o + 1 + j by omega, this]; simp
theorem Only.setCells (w : World) (b o : Nat) (vs : List Value) {F : Nat → Prop} (hF : F b) : Only F w (w.setCells b o vs) := by
  obtain ⟨h1, h2, h3, h4, h5⟩ := setCells_same (b := b) vs o w
  exact ⟨h1, h2, h3, by omega, fun k _ hn => h5 k (fun e => hn (e ▸ hF))⟩
end
theorem run_clear_writes (w : World) (ty : TypeId) (b o n c : Nat) (hn : 0 < n)
    (hc : ∀ j, j < n * 2 → (w.cell? ⟨b, o + j, none⟩).isSome = true) (hf : ∀ j, j < n * 2 → w.frozen? ⟨b, o + j, none⟩ = false) :
    (Builtin.clear_ #[79] ty #[.slice (some ⟨b, o, none⟩) n c]).run Tryd.prog w = .ok (.tuple #[]) (w.setCells b o (hcells (List.replicate n (0, 0)))) := by
  have hzc : (Builtin.zeroCells (Value.agg #[.int .u64 0, .int .u64 0]).cells n).toList = hcells (List.replicate n (0, 0)) := by
    have e0 : (Value.agg #[.int .u64 0, .int .u64 0]).cells = #[.int .u64 0, .int .u64 0] := by simp [Value.cells]
    rw [e0]
    apply List.ext_getElem?
    intro i
    rcases Nat.lt_or_ge i (n * 2) with hi | hi
    · have h1 := hcells_at (List.replicate n (0, 0)) (i / 2) (by simp; omega)
      have hz : ∀ m, m < 2 → (#[Value.int .u64 0, .int .u64 0] : Array Value)[m]! = .int .u64 0 := by
        intro m hm
        rcases m with _ | _ | m
        · rfl
        · rfl
        · omega
      have hL : (Builtin.zeroCells #[Value.int .u64 0, .int .u64 0] n).toList[i]? = some (.int .u64 0) := by
        simp only [Builtin.zeroCells, Array.toList_map, List.getElem?_map, Array.toList_range]
        rw [List.getElem?_range (by simpa using hi)]
        simp only [Option.map_some, List.size_toArray, List.length_cons, List.length_nil]
        rw [hz _ (by omega)]
      rw [hL]
      rcases Nat.mod_two_eq_zero_or_one i with e | e
      · have := h1.1; rw [show i / 2 * 2 = i by omega] at this; rw [this]; simp
      · have := h1.2; rw [show i / 2 * 2 + 1 = i by omega] at this; rw [this]; simp
    · rw [List.getElem?_eq_none (by simp [Builtin.zeroCells]; omega), List.getElem?_eq_none (by rw [hcells_len]; simp; omega)]
  have hst := run_storeCells_cells (P := Tryd.prog) b o (hcells (List.replicate n (0, 0))) 0 w (by rw [hcells_len]; simpa using hc) (by rw [hcells_len]; simpa using hf) (hcells_one _)
  simp only [Nat.add_zero] at hst
  obtain ⟨m, rfl⟩ : ∃ m, n = m + 1 := ⟨n - 1, by omega⟩
  simp [Builtin.clear_, run_underlying Tryd.underlying79, zeroWrite, hzc, hst]
end Go.Proofs.YtnhddgmegnehaaaDoor.Dev
