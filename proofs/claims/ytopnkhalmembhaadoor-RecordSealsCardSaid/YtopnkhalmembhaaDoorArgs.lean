/-
  ARGUMENTS OPENED: an array of integers by value; a slice of integers, nil or not, in one word. Over any program. No condition.
-/
import Derived.Test.YtopnkhalmembhaaDoorRows
import Derived.WalkKit
import Derived.ProofKit
import Derived.OpenShut
import Derived.SizedLaws
import Derived.Deep.Draws
set_option linter.unusedVariables false
set_option linter.unusedSimpArgs false
namespace Go.Proofs.YtopnkhalmembhaaDoor.Args
open Go.ChangeShapes Go.WideShapes Go.ChangeAt Go.RowKit
theorem gather {α : Type} {n : Nat} {Q : Nat → α → Prop} [Inhabited α] (h : ∀ i, i < n → ∃ z, Q i z) : ∃ zs : List α, zs.length = n ∧ ∀ i, i < n → ∃ z, zs[i]? = some z ∧ Q i z := by
  refine ⟨(List.range n).map fun i => if hi : i < n then Classical.choose (h i hi) else default, by simp, fun i hi => ⟨Classical.choose (h i hi), ?_, Classical.choose_spec (h i hi)⟩⟩
  simp [List.getElem?_map, List.getElem?_range hi, hi]
section
variable {H : Type} {enc : TypeId × Value → H} {P : Program} {w : World} {base : Nat} {spare : Nat → Bool} {held : Bool}
theorem open_arr_ints {r : Reach} {b0 n : Nat} {k : IntKind} {t e : TypeId} {v : Value} {d : DataW H} {p : List MemPlace} (ht : P.underlying t = some (.array n e)) (he : P.underlying e = some (.int k))
    (hce : P.cellsOf e = 1) (hct : P.cellsOf t = n) (hv : Value.okWide P w r b0 t v) (h : DataW.Trod enc P w base spare held t v d p) :
    ∃ zs : List Int, zs.length = n ∧ v = .agg (zs.map (Value.int k)).toArray ∧ d = .agg (zs.map fun z => .lit (.int k z)) ∧ p = [] ∧ ∀ z ∈ zs, (Lit.int k z).wf = true := by
  obtain ⟨cs, rfl, hsz, _⟩ : ∃ cs, v = .agg cs ∧ cs.size = P.cellsOf t ∧ Row.okWide P w r b0 t cs := by
    simpa [Value.okWide, ht] using hv
  obtain ⟨fuel, hf⟩ := h
  obtain ⟨xs, m, _, hx, hl, hxl, hi⟩ := DataW.trod_array ht hf
  simp only [Prod.mk.injEq] at hx
  obtain ⟨rfl, rfl⟩ := hx
  rw [hct] at hsz
  have key : ∀ i, i < n → ∃ z : Int, cs.toList[i]? = some (.int k z) ∧ xs[i]? = some (.lit (.int k z), []) ∧ (Lit.int k z).wf = true := by
    intro i hin
    have h1 := hi i hin
    rw [hce] at h1
    obtain ⟨y, hy⟩ : ∃ y, xs[i]? = some y := ⟨xs[i]'(by omega), List.getElem?_eq_getElem _⟩
    rw [hy] at h1
    obtain ⟨z, e0, hz, wz⟩ := DataW.trod_int he h1
    refine ⟨z, ?_, by rw [hy, hz], wz⟩
    have e1 := congrArg (fun l => l[0]?) e0
    simpa [Value.cells, List.getElem?_take, List.getElem?_drop] using e1
  obtain ⟨zs, hzl, hz⟩ := gather key
  refine ⟨zs, hzl, ?_, ?_, ?_, ?_⟩
  · congr 1
    apply Array.ext'
    apply List.ext_getElem?
    intro i
    by_cases hin : i < n
    · obtain ⟨z, e1, e2, _, _⟩ := hz i hin
      rw [e2]; simp [e1]
    · rw [List.getElem?_eq_none (by simpa [hsz] using hin), List.getElem?_eq_none (by simp [hzl]; omega)]
  · congr 1
    apply List.ext_getElem?
    intro i
    by_cases hin : i < n
    · obtain ⟨z, e1, _, e2, _⟩ := hz i hin
      simp [e1, e2]
    · rw [List.getElem?_eq_none (by simp [hxl]; omega), List.getElem?_eq_none (by simp [hzl]; omega)]
  · rw [List.flatMap_eq_nil_iff]
    intro y hy
    obtain ⟨i, hin, rfl⟩ := List.getElem_of_mem hy
    obtain ⟨z, _, _, e2, _⟩ := hz i (by omega)
    rw [List.getElem?_eq_getElem hin] at e2
    rw [Option.some.inj e2]
  · intro z hm
    obtain ⟨i, hin, rfl⟩ := List.getElem_of_mem hm
    obtain ⟨z, e1, _, _, e2⟩ := hz i (by omega)
    rw [List.getElem?_eq_getElem hin] at e1
    rw [Option.some.inj e1]; exact e2
theorem shut_arr2 {k : IntKind} {t e : TypeId} (ht : P.underlying t = some (.array 2 e)) (he : P.underlying e = some (.int k)) (hce : P.cellsOf e = 1) (hct : P.cellsOf t = 2) {a b : Int}
    (w0 : (Lit.int k a).wf = true) (w1 : (Lit.int k b).wf = true) : DataW.Trod enc P w base spare held t (.agg #[.int k a, .int k b]) (.agg [.lit (.int k a), .lit (.int k b)]) [] :=
  ⟨2, by simp [DataW.trod, Value.cells, ht, he, hct, hce, w0, w1, show List.range 2 = [0, 1] from rfl]⟩
theorem shut_arr3 {k : IntKind} {t e : TypeId} (ht : P.underlying t = some (.array 3 e)) (he : P.underlying e = some (.int k)) (hce : P.cellsOf e = 1) (hct : P.cellsOf t = 3) {a b c : Int}
    (w0 : (Lit.int k a).wf = true) (w1 : (Lit.int k b).wf = true) (w2 : (Lit.int k c).wf = true) : DataW.Trod enc P w base spare held t (.agg #[.int k a, .int k b, .int k c]) (.agg [.lit (.int k a), .lit (.int k b), .lit (.int k c)]) [] :=
  ⟨2, by simp [DataW.trod, Value.cells, ht, he, hct, hce, w0, w1, w2, show List.range 3 = [0, 1, 2] from rfl]⟩
end
theorem list2 {α : Type} (l : List α) (h : l.length = 2) : ∃ a b, l = [a, b] := by
  match l, h with
  | [a, b], _ => exact ⟨a, b, rfl⟩
theorem list3 {α : Type} (l : List α) (h : l.length = 3) : ∃ a b c, l = [a, b, c] := by
  match l, h with
  | [a, b, c], _ => exact ⟨a, b, c, rfl⟩
theorem getD_at {zs : List Int} {k : Nat} (h : k < zs.length) : zs.getD k 0 = zs[k] := by simp [List.getD, h]
theorem wf_at {kd : IntKind} {zs : List Int} (hw : ∀ z ∈ zs, (Lit.int kd z).wf = true) {k : Nat} (h : k < zs.length) : (Lit.int kd (zs.getD k 0)).wf = true := by
  rw [getD_at h]; exact hw _ (List.getElem_mem h)
/-- THE SLICE AT A READS AS THE INTEGERS zs, IN BLOCKS BELOW B. -/
def IntsAt (k : IntKind) (w : World) (B : Nat) (A : Option Addr) (zs : List Int) : Prop :=
  ∀ i, i < zs.length → ∃ ad, A = some ad ∧ ad.block < B ∧ w.cell? (ad.add i) = some (.int k (zs.getD i 0))
theorem add_block (a : Addr) (n : Nat) : (a.add n).block = a.block := by unfold Addr.add; split <;> rfl
theorem cell_lt {w : World} {a : Addr} {v : Value} (h : w.cell? a = some v) : a.block < w.heap.size := by
  rcases Nat.lt_or_ge a.block w.heap.size with hlt | hge
  · exact hlt
  · have : w.heap[a.block]? = Option.none := Array.getElem?_eq_none hge
    simp [World.cell?, this] at h
section
variable {k : IntKind} {w w' : World} {B : Nat} {A : Option Addr} {zs : List Int}
theorem IntsAt.nil_ : IntsAt k w B A [] := fun i h => absurd h (by simp)
theorem IntsAt.drewN (h : IntsAt k w B A zs) (n : Nat) : IntsAt k (w.drewN n) B A zs := h
theorem IntsAt.unhid (h : Hid (IntsAt k w B A zs)) : IntsAt k w B A zs := h.out
theorem IntsAt.below (h : IntsAt k w B A zs) (hb : Below B w w') : IntsAt k w' B A zs := fun i hi => by
  obtain ⟨ad, e, hlt, hc⟩ := h i hi
  exact ⟨ad, e, hlt, (hb.cell (p := ad.add i) (by rw [add_block]; exact hlt)).trans hc⟩
theorem IntsAt.more {B' : Nat} (h : IntsAt k w B A zs) (hb : B ≤ B') : IntsAt k w B' A zs := fun i hi => by
  obtain ⟨ad, e, hlt, hc⟩ := h i hi
  exact ⟨ad, e, by omega, hc⟩
theorem addr_add (g i : Nat) : (⟨g, 0, none⟩ : Addr).add i = ⟨g, i, none⟩ := by
  unfold Addr.add
  split <;> simp_all
theorem IntsAt.new (k : IntKind) (w : World) (t : TypeId) (fr : Nat × Nat) (zs : List Int) : IntsAt k (w.alloc (.cells (zs.map (Value.int k)).toArray t fr)) (w.heap.size + 1) (some ⟨w.heap.size, 0, none⟩) zs := fun i hi => by
  refine ⟨_, rfl, Nat.lt_succ_self _, ?_⟩
  rw [addr_add, cell_of_row _ w.heap.size i _ t fr (heap_alloc_new w _)]
  simp [List.getD, hi]
theorem IntsAt.take (h : IntsAt k w B A zs) (n : Nat) : IntsAt k w B A (zs.take n) := fun i hi => by
  rw [List.length_take] at hi
  obtain ⟨ad, e, hlt, hc⟩ := h i (by omega)
  refine ⟨ad, e, hlt, hc.trans ?_⟩
  simp [List.getD, List.getElem?_take, show i < n by omega]
end
section
variable {H : Type} {enc : TypeId × Value → H} {P : Program} {w : World}
theorem open_slice_ints {base : Nat} {ts : List TypeId} {ds : List (DataW H)} {j bytes : Nat} {k : IntKind} {t e : TypeId} {v : Value} {d : DataW H} {p : List MemPlace} (ht : P.underlying t = some (.slice e)) (he : P.underlying e = some (.int k)) (hce : P.cellsOf e = 1) (hbe : P.bytesOf e = bytes)
    (hv : Value.okWide P w .any base t v) (h : DataW.Trod enc P w 0 (fun _ => true) true t v d p)
    (hsz : (DataW.weightsEach P ts ds).all (· ≤ reachBytes) = true) (htj : ts[j]? = some t) (hdj : ds[j]? = some d) :
    ∃ (A : Option Addr) (n c : Nat) (zs : List Int), v = .slice A n c ∧ zs.length = n ∧ n ≤ c ∧ c ≤ maxLen ∧ c * bytes ≤ 140737488351232 ∧ IntsAt k w w.heap.size A zs ∧ ∀ z ∈ zs, (Lit.int k z).wf = true := by
  obtain ⟨A, n, c, rfl⟩ := okWide_slice ht hv
  obtain ⟨fuel, hf⟩ := h
  rcases open_ints ht he hce hf with ⟨hcs, hx⟩ | ⟨a, len', cap', zs, hcs, _, hl, hm, hz, hx, hcell, hwz⟩
  · simp [Value.cells] at hcs
    obtain ⟨rfl, rfl, rfl⟩ := hcs
    exact ⟨_, _, _, [], rfl, rfl, Nat.le_refl _, by simp [maxLen], by simp, IntsAt.nil_, by simp⟩
  · simp [Value.cells] at hcs
    obtain ⟨rfl, rfl, rfl⟩ := hcs
    simp only [Prod.mk.injEq] at hx
    obtain ⟨rfl, rfl⟩ := hx
    simp only [if_true] at hz
    have hw := sized_slice hsz htj hdj ht
    rw [hbe] at hw
    simp only [lits, List.length_map, List.length_take, List.length_drop] at hw
    rw [show min n zs.length + (zs.length - n) = c by omega] at hw
    refine ⟨_, _, _, zs.take n, rfl, by simp; omega, hl, hm, hw, fun i hi => ?_, fun z hz' => hwz z (List.mem_of_mem_take hz')⟩
    rw [List.length_take] at hi
    have hc := hcell i (by omega)
    refine ⟨a, rfl, ?_, ?_⟩
    · have := cell_lt hc; rwa [add_block] at this
    · rw [hc]; simp [List.getD, List.getElem?_take, show i < n by omega]
end
end Go.Proofs.YtopnkhalmembhaaDoor.Args
