/-
  JOINED TEXTS: Law Args Blk Own DBase DHist DClone DStore DAfter DPersist DState DThread DCount DFrame DOps DMore DBack DMaps DFlush DFlush2 DFence.
-/
import Derived.Test.YtbonponclcehiaaRows
import Derived.WalkKit
import Derived.ProofKit
import Derived.OpenShut
import Derived.SizedLaws
import Derived.Lib.Hide
import Derived.Deep.QuietTactic
import Derived.Deep.Draws
import Derived.Maps.AppendAt
import Derived.Laws.OwnMore
import Derived.Laws.BytesString
import Derived.IntWalk
import Derived.BigQuiet
import Derived.Handy
import Derived.StillTailTactics
import Derived.Deep.MidRow
import Derived.Deep.RegionHeld3
import Derived.RegionTactic
import Derived.WalkSpells
import Derived.Lib.SliceRun
import Derived.Deep.RegionLaw
import Derived.Deep.AppendLies
import Derived.Outline
import Derived.Maps.RangeWalk
import Derived.Maps.OwnOps
import Derived.Maps.OwnSet
import Derived.Deep.RegionWith
set_option linter.unusedVariables false
set_option linter.unusedSimpArgs false
/-
  THE FRAME OF A LAW'S PROOF, ONCE, OVER ANY PROGRAM: from 'called with arguments that can be read, the law returns true and has at most laid new memory' to the row's step.
  Conditions: those of the theorem, each a closed fact of the program at hand.
-/
namespace Go.Proofs.Ytbonponclcehiaa.Law
open Go.ChangeShapes Go.WideShapes Go.ChangeAt Go.RowKit
/-! ### worlds after draws -/
theorem below_draws {B : Nat} {a w : World} (h : Below B a w) (n : Nat) : Below B a (w.drewN n) := by
  induction n with
  | zero => exact h
  | succ n ih => exact ih.drew
theorem quiet_more {P : Program} {f : FuncId} {args : Array Value} {w : World} {a n : Nat} {v : Value}
    (h : Calls P f args (w.drewN (a + n)) fun e w' => e = .returned v ∧ ∃ m, w' = (w.drewN (a + n)).drewN m) : Calls P f args (w.drewN (a + n)) fun e w' => e = .returned v ∧ ∃ m, w' = w.drewN (a + m) :=
  h.mono fun _ _ ⟨he, m, hm⟩ => ⟨he, n + m, by rw [hm, World.drewN_drewN, Nat.add_assoc]⟩
theorem quiet_more_same {P : Program} {f : FuncId} {args : Array Value} {w : World} {a n : Nat} {v : Value}
    (h : Calls P f args (w.drewN (a + n)) fun e w' => e = .returned v ∧ w' = w.drewN (a + n)) : Calls P f args (w.drewN (a + n)) fun e w' => e = .returned v ∧ ∃ m, w' = w.drewN (a + m) :=
  h.mono fun _ _ ⟨he, hm⟩ => ⟨he, n, hm⟩
section
variable {H : Type} {enc : TypeId × Value → H}
theorem trodAll_below {P : Program} (hl : laidOutB P = true) {W W' : World} (hb : Below W.heap.size W W') :
    ∀ {ts : List TypeId} {vs : List Value} {ds : List (DataW H)} {p : List MemPlace}, (∀ t ∈ ts, P.readableRec t = true ∧ t < P.types.size) → DataW.TrodAll enc P W 0 (fun _ => true) true ts vs ds p →
      (∀ x ∈ p, x.block < W.heap.size) → DataW.TrodAll enc P W' 0 (fun b => decide (b < W.heap.size)) true ts vs ds p
  | [], [], [], p, _, h, _ => by simpa [DataW.TrodAll] using h
  | t :: ts, vs, ds, p, hr, h, hlt => by
    obtain ⟨v, vs', d, ds', p0, q0, rfl, rfl, rfl, h0, h1⟩ := trodAll_cons h
    exact trodAll_cons_mk (Below.trod hl (hr t (by simp)).1 (hr t (by simp)).2 h0 hb (fun x hx => hlt x (List.mem_append.2 (.inl hx))))
      (trodAll_below hl hb (fun t ht => hr t (by simp [ht])) h1 (fun x hx => hlt x (List.mem_append.2 (.inr hx))))
  | [], _ :: _, _, _, _, h, _ => by simp [DataW.TrodAll] at h
  | [], [], _ :: _, _, _, h, _ => by simp [DataW.TrodAll] at h

theorem law_lifted {C : Checked} {f : FuncId} {fn : Func} {s : ChangeSpec} {b : TypeId}
    (own : ownKnob C.prog.godebug = none) (noInit : C.prog.inits.idxOf? f = none) (hfn : C.prog.funcs[f]? = some fn) (hl : laidOutB C.prog = true)
    (hr : fn.params.toList.all (fun t => C.prog.readableRec t && decide (t < C.prog.types.size)) = true)
    (hres : fn.resultTypes = #[b]) (hb : C.prog.underlying b = some .bool) (hv : s.vars = [])
    (hs : ∀ ds : List (DataW H), ds.length = fn.params.toList.length → s.fn H (ds ++ []) = { results := [.lit (.bool true)], args := ds })
    (calls : ∀ (W : World) (base : Nat) (args : Array Value) (ds : List (DataW H)) (p : List MemPlace),
      (∀ (j : Nat) t v, fn.params[j]? = some t → args[j]? = some v → Value.okWide C.prog W .any base t v) →
      DataW.TrodAll enc C.prog W 0 (fun _ => true) true fn.params.toList args.toList ds p → W.noneFrozen p →
      (DataW.weightsEach C.prog fn.params.toList ds).all (· ≤ reachBytes) = true →
      Calls C.prog f args W fun e W' => e = .returned (.bool true) ∧ Below W.heap.size W W')
    (os : Os) (started : os.Started)
    (witness : ∃ (w : World) (tape : Tape) (i : Input), w.os = os ∧ (w.forCall tape i).Shaped C.prog ∧ i.vars = [] ∧ Input.okWide C.prog (w.forCall tape i) .any w.heap.size f i ∧
      s.pre6 enc C.prog fn [] false (w.forCall tape i).memory i.args ∧ (({} : Assume)).holds C.prog (lone (Frame.enter C.prog f i.args .normal) [] (w.forCall tape i))) :
    ReturnsInHanded {} C os f .any (s.pre6 enc C.prog fn [] false) (s.post enc C.prog fn false true false false) := by
  refine returnsInHanded_of_change_sized own started noInit hfn witness ?_
  intro W base args ds gs before hval hW _ hsz _
  have hW' := hW
  obtain ⟨p, q, hA, hV, rfl, hfz, _⟩ := hW
  rw [hv] at hV
  obtain ⟨rfl, rfl⟩ := trodVars_none hV
  have hsz' : (DataW.weightsEach C.prog fn.params.toList ds).all (· ≤ reachBytes) = true := by
    have hvt : s.plain.varTypes C.prog = [] := by simp [ChangeSpec.plain, DataSpec.varTypes, hv]
    rw [hvt] at hsz
    simpa using hsz
  have hlt : ∀ x ∈ p, x.block < W.heap.size := fun x hx => by simpa using hW'.lt x (by simpa using hx)
  have hlen : ds.length = fn.params.toList.length := by
    have : ∀ {ts : List TypeId} {vs : List Value} {ds : List (DataW H)} {p : List MemPlace}, DataW.TrodAll enc C.prog W 0 (fun _ => true) true ts vs ds p → ds.length = ts.length := by
      intro ts
      induction ts with
      | nil => intro vs ds p h; obtain ⟨_, rfl, _⟩ := trodAll_nil h; rfl
      | cons t ts ih =>
        intro vs ds p h
        obtain ⟨v, vs', d, ds', p0, q0, rfl, rfl, rfl, h0, h1⟩ := trodAll_cons h
        simp [ih h1]
    exact this hA
  refine (calls W base args ds p hval hA (by simpa using hfz) hsz').mono fun e W' ⟨he, hbel⟩ => ?_
  subst he
  have hall := trodAll_below hl hbel (fun t ht => by simpa using List.all_eq_true.1 hr t ht) hA hlt
  refine ⟨_, rfl, ds, [], p ++ [], [], p, [], hW', ?_, ?_, ?_, hbel.frame _, fun h => by cases h⟩
  · rw [hs ds hlen, hres]
    exact trodAll_mk1 (shut_bool hb _)
  · rw [hs ds hlen]; exact hall
  · rw [hs ds hlen, hv]; rfl
end
end Go.Proofs.Ytbonponclcehiaa.Law
/-
  ARGUMENTS OPENED: an array of integers by value; a slice of integers, nil or not, in one word. Over any program. No condition.
-/
namespace Go.Proofs.Ytbonponclcehiaa.Args
open Go.ChangeShapes Go.WideShapes Go.ChangeAt Go.RowKit
theorem gather {α : Type} {n : Nat} {Q : Nat → α → Prop} [Inhabited α] (h : ∀ i, i < n → ∃ z, Q i z) : ∃ zs : List α, zs.length = n ∧ ∀ i, i < n → ∃ z, zs[i]? = some z ∧ Q i z := by
  refine ⟨(List.range n).map fun i => if hi : i < n then Classical.choose (h i hi) else default, by simp, fun i hi => ⟨Classical.choose (h i hi), ?_, Classical.choose_spec (h i hi)⟩⟩
  simp [List.getElem?_map, List.getElem?_range hi, hi]
section
variable {H : Type} {enc : TypeId × Value → H} {P : Program} {w : World} {base : Nat} {spare : Nat → Bool} {held : Bool}
theorem open_arr_ints {r : Reach} {b0 n : Nat} {k : IntKind} {t e : TypeId} {v : Value} {d : DataW H} {p : List MemPlace} (ht : P.underlying t = some (.array n e)) (he : P.underlying e = some (.int k))
    (hce : P.cellsOf e = 1) (hct : P.cellsOf t = n) (hv : Value.okWide P w r b0 t v) (h : DataW.Trod enc P w base spare held t v d p) :
    ∃ zs : List Int, zs.length = n ∧ v = .agg (zs.map (Value.int k)).toArray ∧ d = .agg (zs.map fun z => .lit (.int k z)) ∧ p = [] ∧ ∀ z ∈ zs, (Lit.int k z).wf = true := by
  obtain ⟨cs, rfl, hsz, _⟩ : ∃ cs, v = .agg cs ∧ cs.size = P.cellsOf t ∧ Row.okWide P w r b0 t cs := by
    simpa [Value.okWide, ht] using hv
  obtain ⟨fuel, hf⟩ := h
  obtain ⟨xs, m, _, hx, hl, hxl, hi⟩ := DataW.trod_array ht hf
  simp only [Prod.mk.injEq] at hx
  obtain ⟨rfl, rfl⟩ := hx
  rw [hct] at hsz
  have key : ∀ i, i < n → ∃ z : Int, cs.toList[i]? = some (.int k z) ∧ xs[i]? = some (.lit (.int k z), []) ∧ (Lit.int k z).wf = true := by
    intro i hin
    have h1 := hi i hin
    rw [hce] at h1
    obtain ⟨y, hy⟩ : ∃ y, xs[i]? = some y := ⟨xs[i]'(by omega), List.getElem?_eq_getElem _⟩
    rw [hy] at h1
    obtain ⟨z, e0, hz, wz⟩ := DataW.trod_int he h1
    refine ⟨z, ?_, by rw [hy, hz], wz⟩
    have e1 := congrArg (fun l => l[0]?) e0
    simpa [Value.cells, List.getElem?_take, List.getElem?_drop] using e1
  obtain ⟨zs, hzl, hz⟩ := gather key
  refine ⟨zs, hzl, ?_, ?_, ?_, ?_⟩
  · congr 1
    apply Array.ext'
    apply List.ext_getElem?
    intro i
    by_cases hin : i < n
    · obtain ⟨z, e1, e2, _, _⟩ := hz i hin
      rw [e2]; simp [e1]
    · rw [List.getElem?_eq_none (by simpa [hsz] using hin), List.getElem?_eq_none (by simp [hzl]; omega)]
  · congr 1
    apply List.ext_getElem?
    intro i
    by_cases hin : i < n
    · obtain ⟨z, e1, _, e2, _⟩ := hz i hin
      simp [e1, e2]
    · rw [List.getElem?_eq_none (by simp [hxl]; omega), List.getElem?_eq_none (by simp [hzl]; omega)]
  · rw [List.flatMap_eq_nil_iff]
    intro y hy
    obtain ⟨i, hin, rfl⟩ := List.getElem_of_mem hy
    obtain ⟨z, _, _, e2, _⟩ := hz i (by omega)
    rw [List.getElem?_eq_getElem hin] at e2
    rw [Option.some.inj e2]
  · intro z hm
    obtain ⟨i, hin, rfl⟩ := List.getElem_of_mem hm
    obtain ⟨z, e1, _, _, e2⟩ := hz i (by omega)
    rw [List.getElem?_eq_getElem hin] at e1
    rw [Option.some.inj e1]; exact e2
theorem shut_arr2 {k : IntKind} {t e : TypeId} (ht : P.underlying t = some (.array 2 e)) (he : P.underlying e = some (.int k)) (hce : P.cellsOf e = 1) (hct : P.cellsOf t = 2) {a b : Int}
    (w0 : (Lit.int k a).wf = true) (w1 : (Lit.int k b).wf = true) : DataW.Trod enc P w base spare held t (.agg #[.int k a, .int k b]) (.agg [.lit (.int k a), .lit (.int k b)]) [] :=
  ⟨2, by simp [DataW.trod, Value.cells, ht, he, hct, hce, w0, w1, show List.range 2 = [0, 1] from rfl]⟩
theorem shut_arr3 {k : IntKind} {t e : TypeId} (ht : P.underlying t = some (.array 3 e)) (he : P.underlying e = some (.int k)) (hce : P.cellsOf e = 1) (hct : P.cellsOf t = 3) {a b c : Int}
    (w0 : (Lit.int k a).wf = true) (w1 : (Lit.int k b).wf = true) (w2 : (Lit.int k c).wf = true) : DataW.Trod enc P w base spare held t (.agg #[.int k a, .int k b, .int k c]) (.agg [.lit (.int k a), .lit (.int k b), .lit (.int k c)]) [] :=
  ⟨2, by simp [DataW.trod, Value.cells, ht, he, hct, hce, w0, w1, w2, show List.range 3 = [0, 1, 2] from rfl]⟩
end
theorem list2 {α : Type} (l : List α) (h : l.length = 2) : ∃ a b, l = [a, b] := by
  match l, h with
  | [a, b], _ => exact ⟨a, b, rfl⟩
theorem list3 {α : Type} (l : List α) (h : l.length = 3) : ∃ a b c, l = [a, b, c] := by
  match l, h with
  | [a, b, c], _ => exact ⟨a, b, c, rfl⟩
theorem getD_at {zs : List Int} {k : Nat} (h : k < zs.length) : zs.getD k 0 = zs[k] := by simp [List.getD, h]
theorem wf_at {kd : IntKind} {zs : List Int} (hw : ∀ z ∈ zs, (Lit.int kd z).wf = true) {k : Nat} (h : k < zs.length) : (Lit.int kd (zs.getD k 0)).wf = true := by
  rw [getD_at h]; exact hw _ (List.getElem_mem h)
/-- THE SLICE AT A READS AS THE INTEGERS zs, IN BLOCKS BELOW B. -/
def IntsAt (k : IntKind) (w : World) (B : Nat) (A : Option Addr) (zs : List Int) : Prop :=
  ∀ i, i < zs.length → ∃ ad, A = some ad ∧ ad.block < B ∧ w.cell? (ad.add i) = some (.int k (zs.getD i 0))
theorem add_block (a : Addr) (n : Nat) : (a.add n).block = a.block := by unfold Addr.add; split <;> rfl
theorem cell_lt {w : World} {a : Addr} {v : Value} (h : w.cell? a = some v) : a.block < w.heap.size := by
  rcases Nat.lt_or_ge a.block w.heap.size with hlt | hge
  · exact hlt
  · have : w.heap[a.block]? = Option.none := Array.getElem?_eq_none hge
    simp [World.cell?, this] at h
section
variable {k : IntKind} {w w' : World} {B : Nat} {A : Option Addr} {zs : List Int}
theorem IntsAt.nil_ : IntsAt k w B A [] := fun i h => absurd h (by simp)
theorem IntsAt.drewN (h : IntsAt k w B A zs) (n : Nat) : IntsAt k (w.drewN n) B A zs := h
theorem IntsAt.unhid (h : Hid (IntsAt k w B A zs)) : IntsAt k w B A zs := h.out
theorem IntsAt.below (h : IntsAt k w B A zs) (hb : Below B w w') : IntsAt k w' B A zs := fun i hi => by
  obtain ⟨ad, e, hlt, hc⟩ := h i hi
  exact ⟨ad, e, hlt, (hb.cell (p := ad.add i) (by rw [add_block]; exact hlt)).trans hc⟩
theorem IntsAt.more {B' : Nat} (h : IntsAt k w B A zs) (hb : B ≤ B') : IntsAt k w B' A zs := fun i hi => by
  obtain ⟨ad, e, hlt, hc⟩ := h i hi
  exact ⟨ad, e, by omega, hc⟩
theorem addr_add (g i : Nat) : (⟨g, 0, none⟩ : Addr).add i = ⟨g, i, none⟩ := by
  unfold Addr.add
  split <;> simp_all
theorem IntsAt.new (k : IntKind) (w : World) (t : TypeId) (fr : Nat × Nat) (zs : List Int) : IntsAt k (w.alloc (.cells (zs.map (Value.int k)).toArray t fr)) (w.heap.size + 1) (some ⟨w.heap.size, 0, none⟩) zs := fun i hi => by
  refine ⟨_, rfl, Nat.lt_succ_self _, ?_⟩
  rw [addr_add, cell_of_row _ w.heap.size i _ t fr (heap_alloc_new w _)]
  simp [List.getD, hi]
theorem IntsAt.take (h : IntsAt k w B A zs) (n : Nat) : IntsAt k w B A (zs.take n) := fun i hi => by
  rw [List.length_take] at hi
  obtain ⟨ad, e, hlt, hc⟩ := h i (by omega)
  refine ⟨ad, e, hlt, hc.trans ?_⟩
  simp [List.getD, List.getElem?_take, show i < n by omega]
end
section
variable {H : Type} {enc : TypeId × Value → H} {P : Program} {w : World}
theorem open_slice_ints {base : Nat} {ts : List TypeId} {ds : List (DataW H)} {j bytes : Nat} {k : IntKind} {t e : TypeId} {v : Value} {d : DataW H} {p : List MemPlace} (ht : P.underlying t = some (.slice e)) (he : P.underlying e = some (.int k)) (hce : P.cellsOf e = 1) (hbe : P.bytesOf e = bytes)
    (hv : Value.okWide P w .any base t v) (h : DataW.Trod enc P w 0 (fun _ => true) true t v d p)
    (hsz : (DataW.weightsEach P ts ds).all (· ≤ reachBytes) = true) (htj : ts[j]? = some t) (hdj : ds[j]? = some d) :
    ∃ (A : Option Addr) (n c : Nat) (zs : List Int), v = .slice A n c ∧ zs.length = n ∧ n ≤ c ∧ c ≤ maxLen ∧ c * bytes ≤ 140737488351232 ∧ IntsAt k w w.heap.size A zs ∧ ∀ z ∈ zs, (Lit.int k z).wf = true := by
  obtain ⟨A, n, c, rfl⟩ := okWide_slice ht hv
  obtain ⟨fuel, hf⟩ := h
  rcases open_ints ht he hce hf with ⟨hcs, hx⟩ | ⟨a, len', cap', zs, hcs, _, hl, hm, hz, hx, hcell, hwz⟩
  · simp [Value.cells] at hcs
    obtain ⟨rfl, rfl, rfl⟩ := hcs
    exact ⟨_, _, _, [], rfl, rfl, Nat.le_refl _, by simp [maxLen], by simp, IntsAt.nil_, by simp⟩
  · simp [Value.cells] at hcs
    obtain ⟨rfl, rfl, rfl⟩ := hcs
    simp only [Prod.mk.injEq] at hx
    obtain ⟨rfl, rfl⟩ := hx
    simp only [if_true] at hz
    have hw := sized_slice hsz htj hdj ht
    rw [hbe] at hw
    simp only [lits, List.length_map, List.length_take, List.length_drop] at hw
    rw [show min n zs.length + (zs.length - n) = c by omega] at hw
    refine ⟨_, _, _, zs.take n, rfl, by simp; omega, hl, hm, hw, fun i hi => ?_, fun z hz' => hwz z (List.mem_of_mem_take hz')⟩
    rw [List.length_take] at hi
    have hc := hcell i (by omega)
    refine ⟨a, rfl, ?_, ?_⟩
    · have := cell_lt hc; rwa [add_block] at this
    · rw [hc]; simp [List.getD, List.getElem?_take, show i < n by omega]
end
end Go.Proofs.Ytbonponclcehiaa.Args
/-
  A BLOCK KNOWN CELL BY CELL: block b is of type T, has n cells, is not frozen, and cell o holds g o. Over any program. No condition but those written.
-/
namespace Go.Proofs.Ytbonponclcehiaa.Mem
open Go.ChangeShapes Go.WideShapes Go.ChangeAt Go.RowKit
def Blk (w : World) (b : Nat) (T : TypeId) (n : Nat) (g : Nat → Value) : Prop :=
  ∃ cs : Array Value, w.heap[b]? = some (.cells cs T (0, 0)) ∧ cs.size = n ∧ ∀ o, o < n → cs[o]? = some (g o)
def upd (g : Nat → Value) (k : Nat) (v : Value) : Nat → Value := fun o => if o = k then v else g o
theorem upd_same (g : Nat → Value) (k : Nat) (v : Value) : upd g k v k = v := by simp [upd]
theorem upd_other (g : Nat → Value) {k o : Nat} (v : Value) (h : o ≠ k) : upd g k v o = g o := by simp [upd, h]
section
variable {w w' : World} {b n : Nat} {T : TypeId} {g : Nat → Value}
theorem Blk.lt (h : Blk w b T n g) : b < w.heap.size := by
  obtain ⟨cs, hg, _⟩ := h
  exact (Array.getElem?_eq_some_iff.1 hg).1
theorem Blk.cell (h : Blk w b T n g) {o : Nat} (ho : o < n) : w.cell? ⟨b, o, none⟩ = some (g o) := by
  obtain ⟨cs, hg, _, hc⟩ := h
  rw [cell_of_row w b o cs T (0, 0) hg, hc o ho]
theorem Blk.frozen (h : Blk w b T n g) (o : Nat) : w.frozen? ⟨b, o, none⟩ = false := by
  obtain ⟨cs, hg, _, _⟩ := h
  exact frozen_of_row w b o cs T hg
theorem Blk.shape (h : Blk w b T n g) : w.shape? b = some (T, n) := by
  obtain ⟨cs, hg, hs, _⟩ := h
  simp [World.shape?, hg, hs]
theorem Blk.ext (h : Blk w b T n g) {g' : Nat → Value} (he : ∀ o, o < n → g' o = g o) : Blk w b T n g' := by
  obtain ⟨cs, hg, hs, hc⟩ := h
  exact ⟨cs, hg, hs, fun o ho => by rw [hc o ho, he o ho]⟩
theorem Blk.set (h : Blk w b T n g) (k : Nat) (v : Value) : Blk (w.setCell ⟨b, k, none⟩ v) b T n (upd g k v) := by
  obtain ⟨cs, hg, hs, hc⟩ := h
  refine ⟨cs.setIfInBounds k v, heap_setCell_same w b k cs T v hg, by simp [hs], fun o ho => ?_⟩
  by_cases e : o = k
  · subst e; simp [upd, hs, ho]
  · rw [Array.getElem?_setIfInBounds, if_neg (by omega), hc o ho, upd_other _ _ e]
theorem Blk.setOther (h : Blk w b T n g) {a : Addr} (hne : b ≠ a.block) (v : Value) : Blk (w.setCell a v) b T n g := by
  obtain ⟨cs, hg, hs, hc⟩ := h
  exact ⟨cs, by rw [heap_setCell_other w a b v hne]; exact hg, hs, hc⟩
theorem Blk.alloc (h : Blk w b T n g) (o : Obj) : Blk (w.alloc o) b T n g := by
  have hl := h.lt
  obtain ⟨cs, hg, hs, hc⟩ := h
  exact ⟨cs, by rw [Below.heap_alloc w o b hl]; exact hg, hs, hc⟩
theorem Blk.drew (h : Blk w b T n g) : Blk w.drew b T n g := h
theorem Blk.drewN (h : Blk w b T n g) (k : Nat) : Blk (w.drewN k) b T n g := h
theorem Blk.of_block (h : Blk w b T n g) (he : w'.heap[b]? = w.heap[b]?) : Blk w' b T n g := by
  obtain ⟨cs, hg, hs, hc⟩ := h
  exact ⟨cs, by rw [he]; exact hg, hs, hc⟩
theorem Blk.grown {row : Option Nat} (h : Blk w b T n g) (hg : w.grownBy w' row) (hne : some b ≠ row) : Blk w' b T n g := h.of_block (hg.block b h.lt hne)
theorem Blk.below {B : Nat} (h : Blk w b T n g) (hb : Below B w w') (hlt : b < B) : Blk w' b T n g := h.of_block (hb.block b hlt)
theorem Blk.new (w : World) (cs : Array Value) (T : TypeId) : Blk (w.alloc (.cells cs T)) w.heap.size T cs.size (fun o => cs.getD o default) :=
  ⟨cs, heap_alloc_new w _, rfl, fun o ho => by simp [Array.getElem?_eq_getElem ho, Array.getD, ho]⟩
theorem Blk.newOf (w : World) (cs : Array Value) (T : TypeId) {n : Nat} {g : Nat → Value} (hn : cs.size = n) (hg : ∀ o, o < n → cs[o]? = some (g o)) : Blk (w.alloc (.cells cs T)) w.heap.size T n g :=
  ⟨cs, heap_alloc_new w _, hn, hg⟩
end
/-- WHAT A CALL MAY HAVE WRITTEN: of what was there, blocks that F names alone; nothing has gone. -/
structure Only (F : Nat → Prop) (w w' : World) : Prop where
  os : w'.os = w.os
  tape : w'.tape = w.tape
  output : w'.output = w.output
  size : w.heap.size ≤ w'.heap.size
  block : ∀ k, k < w.heap.size → ¬ F k → w'.heap[k]? = w.heap[k]?
section
variable {F G : Nat → Prop} {w w' w'' : World}
theorem Only.refl (F : Nat → Prop) (w : World) : Only F w w := ⟨rfl, rfl, rfl, Nat.le_refl _, fun _ _ _ => rfl⟩
theorem Only.trans (h : Only F w w') (k : Only F w' w'') : Only F w w'' :=
  ⟨k.os.trans h.os, k.tape.trans h.tape, k.output.trans h.output, Nat.le_trans h.size k.size, fun i hi hn => (k.block i (Nat.lt_of_lt_of_le hi h.size) hn).trans (h.block i hi hn)⟩
/-- The second step may write besides what the first has made. -/
theorem Only.trans' (h : Only F w w') (k : Only G w' w'') (hG : ∀ b, G b → F b ∨ w.heap.size ≤ b) : Only F w w'' :=
  ⟨k.os.trans h.os, k.tape.trans h.tape, k.output.trans h.output, Nat.le_trans h.size k.size, fun i hi hn =>
    (k.block i (Nat.lt_of_lt_of_le hi h.size) (fun g => by rcases hG i g with h1 | h1; exact hn h1; omega)).trans (h.block i hi hn)⟩
theorem Only.mono (h : Only F w w') (hF : ∀ b, F b → G b) : Only G w w' := ⟨h.os, h.tape, h.output, h.size, fun i hi hn => h.block i hi (fun f => hn (hF i f))⟩
theorem Only.drew (h : Only F w w') : Only F w w'.drew := ⟨h.os, h.tape, h.output, h.size, h.block⟩
theorem Only.drewN (h : Only F w w') (n : Nat) : Only F w (w'.drewN n) := ⟨h.os, h.tape, h.output, h.size, h.block⟩
theorem Only.alloc (h : Only F w w') (o : Obj) : Only F w (w'.alloc o) :=
  ⟨h.os, h.tape, h.output, by simp; exact Nat.le_succ_of_le h.size, fun i hi hn => by rw [Below.heap_alloc _ _ _ (Nat.lt_of_lt_of_le hi h.size)]; exact h.block i hi hn⟩
theorem Only.set (h : Only F w w') (a : Addr) (v : Value) (ha : F a.block ∨ w.heap.size ≤ a.block) : Only F w (w'.setCell a v) :=
  ⟨h.os, h.tape, h.output, by simpa using h.size, fun i hi hn => by rw [heap_setCell_other _ _ _ _ (fun e => by subst e; rcases ha with h1 | h1; exact hn h1; omega)]; exact h.block i hi hn⟩
theorem Only.below (h : Only F w w') {B : Nat} (hB : B ≤ w.heap.size) (hF : ∀ b, F b → B ≤ b) : Below B w w' :=
  ⟨h.os, h.tape, h.output, h.size, fun k hk => h.block k (by omega) (fun f => by have := hF k f; omega)⟩
theorem Only.ofBelow (h : Below w.heap.size w w') (F : Nat → Prop) : Only F w w' := ⟨h.os, h.tape, h.output, h.size, fun k hk _ => h.block k hk⟩
theorem Only.ofGrown {row : Option Nat} (h : w.grownBy w' row) (hr : ∀ k, row = some k → F k ∨ w.heap.size ≤ k) : Only F w w' :=
  ⟨h.os, h.tape, h.output, h.size, fun k hk hn => h.block k hk (fun e => by rcases hr k e.symm with h1 | h1; exact hn h1; omega)⟩
theorem Only.blk {b n : Nat} {T : TypeId} {g : Nat → Value} (h : Only F w w') (hb : Blk w b T n g) (hn : ¬ F b) : Blk w' b T n g := hb.of_block (h.block b hb.lt hn)
end
end Go.Proofs.Ytbonponclcehiaa.Mem
/-
  SLICES OF INTEGERS THAT A CALL MAKES ITSELF (owned rows), append onto them from any slice, nil or not; []byte to string. Over any program. No condition but those written.
-/
namespace Go.Proofs.Ytbonponclcehiaa.Own
open Go.ChangeShapes Go.WideShapes Go.ChangeAt Go.RowKit Go.Proofs.Ytbonponclcehiaa.Args
/-- v IS A SLICE OF THE CALL's OWN, ITS ROW FROM BLOCK 'base' ON, THAT READS zs. -/
def OwnInts (k : IntKind) (e : TypeId) (w : World) (base : Nat) (v : Value) (zs : List Int) : Prop := w.ownsRow base e 1 v zs.length (zs.map (Value.int k))
section
variable {k : IntKind} {e : TypeId} {w w' : World} {base : Nat} {v : Value} {zs : List Int}
theorem OwnInts.nil_ (k : IntKind) (e : TypeId) (w : World) (base : Nat) : OwnInts k e w base (.slice none 0 0) [] := World.ownsRow_nil w base e 1
theorem OwnInts.empty (k : IntKind) (e : TypeId) (w : World) {base : Nat} (hb : base ≤ w.heap.size) : OwnInts k e (w.alloc (.cells #[] e)) base (.slice (some ⟨w.heap.size, 0, none⟩) 0 0) [] :=
  World.ownsRow_made w #[] 0 hb (by simp [maxLen]) (by simp)
theorem OwnInts.drewN (h : OwnInts k e w base v zs) (n : Nat) : OwnInts k e (w.drewN n) base v zs := h
theorem OwnInts.alloc (h : OwnInts k e w base v zs) (o : Obj) : OwnInts k e (w.alloc o) base v zs := World.ownsRow.alloc h o
theorem OwnInts.kept {row : Option Nat} (h : OwnInts k e w base v zs) (hg : w.grownBy w' row) (hne : v.ownBlock = none ∨ v.ownBlock ≠ row) : OwnInts k e w' base v zs := World.ownsRow.kept h hg hne
/-- Behind a call that touches nothing that was there. -/
theorem OwnInts.below (h : OwnInts k e w base v zs) (hb : Below w.heap.size w w') : OwnInts k e w' base v zs := by
  refine ⟨h.1, ?_⟩
  rcases h.2 with hn | ⟨g, cap, cur, rfl, hbg, hgg, rest⟩
  · exact .inl hn
  · refine .inr ⟨g, cap, cur, rfl, hbg, ?_, rest⟩
    rw [hb.block g (Array.getElem?_eq_some_iff.1 hgg).1]; exact hgg
theorem OwnInts.form (h : OwnInts k e w base v zs) : ∃ A c, v = .slice A zs.length c ∧ zs.length ≤ c ∧ c ≤ maxLen ∧ (A = none → c = 0) ∧ IntsAt k w w.heap.size A zs := by
  rcases h.2 with ⟨rfl, hn⟩ | ⟨g, cap, cur, rfl, hb, hg, hnc, hcm, hcs, ht⟩
  · rw [hn]
    exact ⟨none, 0, rfl, Nat.le_refl _, by simp [maxLen], fun _ => rfl, fun i hi => absurd hi (by omega)⟩
  · refine ⟨_, cap, rfl, hnc, hcm, fun h => (by cases h), fun i hi => ⟨_, rfl, (Array.getElem?_eq_some_iff.1 hg).1, ?_⟩⟩
    rw [addr_add, cell_of_row w g i cur e (0, 0) hg]
    have h2 : (cur.toList.take (zs.length * 1))[i]? = (zs.map (Value.int k))[i]? := by rw [ht]
    rw [List.getElem?_take, if_pos (by omega)] at h2
    rw [← Array.getElem?_toList, h2]
    simp [List.getD, hi]
theorem OwnInts.lt (h : OwnInts k e w base v zs) : ∀ g, v.ownBlock = some g → base ≤ g ∧ g < w.heap.size := World.ownsRow.lt h
theorem OwnInts.grownBelow (h : OwnInts k e w base v zs) (hg : w.grownBy w' v.ownBlock) (hB : base ≤ w.heap.size) : Below base w w' :=
  (Below.refl _ _).grown hg hB (fun g hg' => (h.lt g hg').1)
theorem OwnInts.stored {g n cap : Nat} (h : OwnInts k e w base (.slice (some ⟨g, 0, none⟩) n cap) zs) (hl : zs.length = n) (j : Nat) (x : Int) :
    OwnInts k e (w.setCell ⟨g, j, none⟩ (.int k x)) base (.slice (some ⟨g, 0, none⟩) n cap) (zs.set j x) := by
  unfold OwnInts at h ⊢
  rw [hl] at h
  have h2 := (World.ownsRow.stored h j (.int k x)).1
  rw [List.length_set, hl, List.map_set]
  exact h2
theorem OwnInts.cell {g n cap : Nat} (h : OwnInts k e w base (.slice (some ⟨g, 0, none⟩) n cap) zs) (j : Nat) (hj : j < zs.length) : w.cell? ⟨g, j, none⟩ = some (.int k (zs.getD j 0)) ∧ w.frozen? ⟨g, j, none⟩ = false := by
  rcases h.2 with ⟨h', _⟩ | ⟨g', cap', cur, h', hb, hg, _, _, _, ht⟩
  · cases h'
  · simp only [Value.slice.injEq, Option.some.injEq, Addr.mk.injEq, and_true, true_and] at h'
    obtain ⟨rfl, _, rfl⟩ := h'
    refine ⟨?_, frozen_of_row w g j cur e hg⟩
    rw [cell_of_row w g j cur e (0, 0) hg]
    have h2 : (cur.toList.take (zs.length * 1))[j]? = (zs.map (Value.int k))[j]? := by rw [ht]
    rw [List.getElem?_take, if_pos (by omega)] at h2
    rw [← Array.getElem?_toList, h2]
    simp [List.getD, hj]
theorem OwnInts.made {w' : World} {g n : Nat} (h : w'.ownsRow base e 1 (.slice (some ⟨g, 0, none⟩) n n) n (madeCells (Value.int k 0).cells (n * 1)).toList) : OwnInts k e w' base (.slice (some ⟨g, 0, none⟩) n n) (List.replicate n 0) := by
  unfold OwnInts
  rw [List.length_replicate, List.map_replicate]
  have e1 : (madeCells (Value.int k 0).cells (n * 1)).toList = List.replicate n (Value.int k 0) := by
    rw [Nat.mul_one]
    apply List.ext_getElem
    · simp [madeCells]
    · intro i h1 h2
      simp [madeCells, Value.cells, Nat.mod_one]
  rw [← e1]; exact h
end
section
variable {P : Program}
theorem run_app {w : World} {base bytes m c B : Nat} {t ty e : TypeId} {i : TypeInfo} {z : Value} {k : IntKind} {v : Value} {xs zs : List Int} {A : Option Addr} (ht : P.underlying t = some (.slice e)) (hi : P.info? e = some i) (hz : i.zero = some z)
    (hsize : i.size = 1) (hby : i.bytes = bytes) (hzs : z.cells.size = 1) (hown : OwnInts k e w base v xs) (hr : IntsAt k w B A zs) (hm : zs.length = m)
    (h63 : xs.length + m ≤ maxLen) (hbytes : (xs.length + m) * bytes ≤ 140737488355328) (hbase : base ≤ w.heap.size) :
    ∃ v' w', (Builtin.append_ #[t, t] ty #[v, .slice A m c]).run P w = .ok v' w' ∧ OwnInts k e w' base v' (xs ++ zs) ∧ w.grownBy w' v.ownBlock ∧ (v'.ownBlock = v.ownBlock ∨ v'.ownBlock = some w.heap.size) := by
  rcases A with _ | ad
  · have h0 : zs = [] := by
      rcases zs with _ | ⟨y, ys⟩
      · rfl
      · obtain ⟨ad, h, _⟩ := hr 0 (by simp)
        cases h
    subst h0
    simp only [List.length_nil] at hm
    subst hm
    refine ⟨v, w, ?_, by simpa using hown, World.grownBy.refl w _, .inl rfl⟩
    rcases hown.2 with ⟨rfl, _⟩ | ⟨g, cap, cur, rfl, _, _, hnc, _⟩
    · simp [Builtin.append_, run_underlying ht, sizeOf, typeInfo, hi, Builtin.lenOf, Builtin.firstCells]
    · simp [Builtin.append_, run_underlying ht, sizeOf, typeInfo, hi, Builtin.lenOf, Builtin.firstCells, hnc, storeCells]
  · have hcells : ∀ j u, (zs.map (Value.int k))[j]? = some u → w.cell? (ad.add j) = some u := by
      intro j u hu
      have hj : j < zs.length := by
        rcases Nat.lt_or_ge j zs.length with h | h
        · exact h
        · rw [List.getElem?_eq_none (by simpa using h)] at hu; cases hu
      obtain ⟨ad', h, _, hc⟩ := hr j hj
      injection h with h
      subst h
      rw [hc, getD_at hj]
      simpa [hj] using hu
    obtain ⟨v', w', hrun, h2, h3, _, h5⟩ := run_append_own_at (P := P) w base t ty e i z 1 bytes ht hi hz hsize hby hzs (by omega) v xs.length (xs.map (Value.int k)) hown ad m c (zs.map (Value.int k)) (by simp [hm]) hcells
      (by intro u hu; obtain ⟨y, _, rfl⟩ := List.mem_map.1 hu; rfl) h63 hbytes hbase
    refine ⟨v', w', hrun, ?_, h3, h5⟩
    unfold OwnInts
    rw [List.length_append, hm, List.map_append]
    exact h2
/-- The walk's law: append of any slice onto a slice of the call's own. 'hgd': the operation is wanted (its guard has been met). -/
theorem wpList_app {ops : Array Oper} {rest : List Oper} {o : Oper} {a : Act} {Q : Exit → Act → World → Prop} {w : World} (hgd : Region.wanted o (yielded ops a.tmps) = true) (s x : Operand) (t : TypeId)
    (ho : o.op = .call { callee := .builtin .append, args := #[s, x], argTypes := #[t, t] })
    {base bytes m c B : Nat} {e : TypeId} {i : TypeInfo} {z : Value} {k : IntKind} {v : Value} {xs zs : List Int} {A : Option Addr} (ht : P.underlying t = some (.slice e)) (hi : P.info? e = some i) (hz : i.zero = some z)
    (hsize : i.size = 1) (hby : i.bytes = bytes) (hzs : z.cells.size = 1) (hs : a.eval s = v) (hown : OwnInts k e w base v xs) (hx : a.eval x = .slice A m c) (hr : IntsAt k w B A zs) (hm : zs.length = m)
    (h63 : xs.length + m ≤ maxLen) (hbytes : (xs.length + m) * bytes ≤ 140737488355328) (hbase : base ≤ w.heap.size)
    (h : ∀ v' w', OwnInts k e w' base v' (xs ++ zs) → w.grownBy w' v.ownBlock → (v'.ownBlock = v.ownBlock ∨ v'.ownBlock = some w.heap.size) → wpList P ops Q rest (a.put o.dst v') w') : wpList P ops Q (o :: rest) a w := by
  refine wpList_step fun K hK => ?_
  rw [if_pos hgd]
  obtain ⟨v', w', hrun, h2, h3, h4⟩ := run_app (P := P) (w := w) (base := base) (ty := o.type) (c := c) ht hi hz hsize hby hzs hown hr hm h63 hbytes hbase
  unfold Oper.wp execOp
  simp only [ho, resolve, invoke, builtin, Sem.run_bind, Sem.run_pure, Result.andThen_ok, List.map_toArray, List.map_cons, List.map_nil, hs, hx, hrun]
  exact hK _ _ (h v' w' h2 h3 h4)

/-! ### []byte to string -/
def bstr (zs : List Int) : ByteArray := zs.foldl (fun r n => r.push (UInt8.ofNat n.toNat)) ByteArray.empty
theorem bstr_data (zs : List Int) : (bstr zs).data.toList = zs.map fun z => UInt8.ofNat z.toNat := by
  unfold bstr
  have : ∀ (l : List Int) (r : ByteArray), (l.foldl (fun r n => r.push (UInt8.ofNat n.toNat)) r).data.toList = r.data.toList ++ l.map fun z => UInt8.ofNat z.toNat := by
    intro l
    induction l with
    | nil => intro r; simp
    | cons y l ih => intro r; simp only [List.foldl_cons, ih]; simp
  rw [this]; rfl
theorem map_inj8 : ∀ {xs ys : List Int}, (∀ z ∈ xs, 0 ≤ z ∧ z ≤ 255) → (∀ z ∈ ys, 0 ≤ z ∧ z ≤ 255) → (xs.map fun z => UInt8.ofNat z.toNat) = (ys.map fun z => UInt8.ofNat z.toNat) → xs = ys
  | [], [], _, _, _ => rfl
  | [], _ :: _, _, _, h => by simp at h
  | _ :: _, [], _, _, h => by simp at h
  | x :: xs, y :: ys, hx, hy, h => by
    simp only [List.map_cons, List.cons.injEq] at h
    have a := hx x (by simp)
    have b := hy y (by simp)
    have e := congrArg UInt8.toNat h.1
    simp only [UInt8.toNat_ofNat'] at e
    rw [map_inj8 (fun z hz => hx z (by simp [hz])) (fun z hz => hy z (by simp [hz])) h.2, show x = y by omega]
theorem bstr_inj {xs ys : List Int} (hx : ∀ z ∈ xs, 0 ≤ z ∧ z ≤ 255) (hy : ∀ z ∈ ys, 0 ≤ z ∧ z ≤ 255) : (bstr xs).data.toList = (bstr ys).data.toList ↔ xs = ys := by
  rw [bstr_data, bstr_data]
  exact ⟨map_inj8 hx hy, fun h => by rw [h]⟩
theorem conv_bytes {w : World} {src dst e : TypeId} {A : Option Addr} {n c B : Nat} {zs : List Int} (hs : P.underlying src = some (.slice e)) (he : P.underlying e = some (.int .u8)) (hd : P.underlying dst = some .string)
    (hr : IntsAt .u8 w B A zs) (hl : zs.length = n) : (convert src dst (.slice A n c)).run P w = .ok (.string (bstr zs)) w := by
  rw [run_convert_bytes_string w src dst e A n c hs he hd]
  rcases A with _ | ad
  · have h0 : zs = [] := by
      rcases zs with _ | ⟨y, ys⟩
      · rfl
      · obtain ⟨ad, h, _⟩ := hr 0 (by simp)
        cases h
    subst h0
    simp only [List.length_nil] at hl
    subst hl
    rfl
  · refine run_bytesToString w ad n c zs ?_
    have h := run_loadCells_list (P := P) (w := w) ad (zs.map (Value.int .u8)) (by
      intro j u hu
      have hj : j < zs.length := by
        rcases Nat.lt_or_ge j zs.length with h | h
        · exact h
        · rw [List.getElem?_eq_none (by simpa using h)] at hu; cases hu
      obtain ⟨ad', h, _, hc⟩ := hr j hj
      injection h with h
      subst h
      rw [hc, getD_at hj]
      simpa [hj] using hu)
    rw [List.length_map, hl] at h
    exact h
end
end Go.Proofs.Ytbonponclcehiaa.Own
/-
  DEVICE, THE SMALL FUNCTIONS OF A LINE: place, lineOf, end. What each returns; the world stays.
-/
namespace Go.Proofs.Ytbonponclcehiaa.Dev
open Go.ChangeShapes Go.WideShapes Go.ChangeAt Go.RowKit Go.Proofs.Ytbonponclcehiaa.Mem
theorem ret_int {k : IntKind} {a b : Int} (h : a = b) : Ending.returned (.int k a) = .returned (.int k b) := by rw [h]
theorem ret_bool {a b : Bool} (h : a = b) : Ending.returned (.bool a) = .returned (.bool b) := by rw [h]
theorem place_any (o : Nat) (w : World) (ho : o < 18446744073709551616) : Calls Try.prog 72 #[.int .u64 (o : Int)] w fun e w' => e = .returned (.int .u64 ((o / 8 % 8 : Nat) : Int)) ∧ w = w' := by
  go_enter Try.func72, Try.ntmps72
  go_wp2
  go_ret
  exact ⟨ret_int (by simp), rfl⟩
theorem lineOf_any (d lb n k c : Nat) (w : World) (hc : w.cell? ⟨d, 0, none⟩ = some (.slice (some ⟨lb, 0, none⟩) n c)) (o : Nat) (ho : o < 18446744073709551616) (hk : o / 64 = k) (hkn : k < n) (hn : n ≤ 4096) :
    Calls Try.prog 60 #[.pointer (some ⟨d, 0, none⟩), .int .u64 (o : Int)] w fun e w' => e = .returned (.pointer (some ⟨lb, k * 18, none⟩)) ∧ w = w' := by
  have hd : (o : Int) / 64 = (k : Int) := by omega
  have HK := Lib.hid hk
  clear hk
  go_enter Try.func60, Try.ntmps60
  go_wp2
  go_ret
  exact ⟨rfl, rfl⟩
theorem end_any (lb q n c g : Nat) (A : Option Addr) (w : World) (hh : w.cell? ⟨lb, q + 16, none⟩ = some (.slice A n c)) (hg : w.cell? ⟨lb, q + 17, none⟩ = some (.int .u64 (g : Int))) (hb : g + n < 4294967296) :
    Calls Try.prog 62 #[.pointer (some ⟨lb, q, none⟩)] w fun e w' => e = .returned (.int .u64 ((g + n : Nat) : Int)) ∧ ∃ j, w' = w.drewN j := by
  go_enter Try.func62, Try.ntmps62
  go_wp2
  go_quiet (fail)
  go_wp2
  go_ret
  exact ⟨ret_int (by simp), _, rfl⟩
end Go.Proofs.Ytbonponclcehiaa.Dev
/-
  DEVICE, HISTORIES: a slice of stores that the device owns; slices.Clone and slices.Delete(s, 0, k) at it.
-/
namespace Go.Proofs.Ytbonponclcehiaa.Dev
open Go.ChangeShapes Go.WideShapes Go.ChangeAt Go.RowKit Go.Proofs.Ytbonponclcehiaa.Mem
/-- The cells of a list of stores. -/
def hcells : List (Nat × Nat) → List Value
  | [] => []
  | p :: l => .int .u64 (p.1 : Int) :: .int .u64 (p.2 : Int) :: hcells l
theorem hcells_len : ∀ l : List (Nat × Nat), (hcells l).length = l.length * 2
  | [] => rfl
  | p :: l => by simp [hcells, hcells_len l]; omega
theorem hcells_append : ∀ l r : List (Nat × Nat), hcells (l ++ r) = hcells l ++ hcells r
  | [], _ => rfl
  | p :: l, r => by simp [hcells, hcells_append l r]
theorem hcells_drop : ∀ (k : Nat) (l : List (Nat × Nat)), (hcells l).drop (k * 2) = hcells (l.drop k)
  | 0, l => by simp
  | k + 1, [] => by simp [hcells]
  | k + 1, p :: l => by
    rw [show (k + 1) * 2 = k * 2 + 1 + 1 by omega]
    simp [hcells, hcells_drop k l]
theorem hcells_one (l : List (Nat × Nat)) : ∀ u ∈ hcells l, u.oneCell' = true := by
  induction l with
  | nil => intro u h; cases h
  | cons p l ih =>
    intro u h
    simp only [hcells, List.mem_cons] at h
    rcases h with rfl | rfl | h
    · rfl
    · rfl
    · exact ih u h
theorem hcells_at : ∀ (l : List (Nat × Nat)) (i : Nat) (h : i < l.length), (hcells l)[i * 2]? = some (.int .u64 (l[i].1 : Int)) ∧ (hcells l)[i * 2 + 1]? = some (.int .u64 (l[i].2 : Int))
  | [], _, h => absurd h (by simp)
  | p :: l, 0, _ => by simp [hcells]
  | p :: l, i + 1, h => by
    rw [show (i + 1) * 2 = i * 2 + 1 + 1 by omega]
    simpa [hcells] using hcells_at l i (by simpa using h)
/-- v IS A SLICE OF STORES OF ITS OWN, FROM BLOCK 'base' ON, THAT READS hs. -/
def Hist (w : World) (base : Nat) (v : Value) (hs : List (Nat × Nat)) : Prop := w.ownsRow base 71 2 v hs.length (hcells hs)
section
variable {w w' : World} {base : Nat} {v : Value} {hs : List (Nat × Nat)}
theorem Hist.nil_ (w : World) (base : Nat) : Hist w base (.slice none 0 0) [] := World.ownsRow_nil w base _ 2
theorem Hist.lt (h : Hist w base v hs) : ∀ g, v.ownBlock = some g → base ≤ g ∧ g < w.heap.size := World.ownsRow.lt h
theorem Hist.of_block (h : Hist w base v hs) (hb : ∀ g, v.ownBlock = some g → w'.heap[g]? = w.heap[g]?) : Hist w' base v hs := by
  refine ⟨h.1, ?_⟩
  rcases h.2 with hn | ⟨g, cap, cur, rfl, hbg, hgg, rest⟩
  · exact .inl hn
  · exact .inr ⟨g, cap, cur, rfl, hbg, by rw [hb g rfl]; exact hgg, rest⟩
theorem Hist.only {F : Nat → Prop} (h : Hist w base v hs) (ho : Only F w w') (hn : ∀ g, v.ownBlock = some g → ¬ F g) : Hist w' base v hs :=
  h.of_block fun g hg => ho.block g (h.lt g hg).2 (hn g hg)
theorem Hist.mono {b : Nat} (h : Hist w base v hs) (hb : b ≤ base) : Hist w b v hs := by
  refine ⟨h.1, ?_⟩
  rcases h.2 with hn | ⟨g, cap, cur, rfl, hbg, rest⟩
  · exact .inl hn
  · exact .inr ⟨g, cap, cur, rfl, Nat.le_trans hb hbg, rest⟩
/-- The two shapes. -/
theorem Hist.form (h : Hist w base v hs) : (v = .slice none 0 0 ∧ hs = []) ∨ ∃ g cap cur, v = .slice (some ⟨g, 0, none⟩) hs.length cap ∧ base ≤ g ∧ w.heap[g]? = some (.cells cur 71 (0, 0)) ∧ hs.length ≤ cap ∧ cap ≤ maxLen ∧ cur.size = cap * 2 ∧ cur.toList.take (hs.length * 2) = hcells hs := by
  rcases h.2 with ⟨h1, h2⟩ | h
  · exact .inl ⟨h1, List.length_eq_zero_iff.1 h2⟩
  · exact .inr h
theorem row_cell {g o : Nat} {cur : Array Value} {T : TypeId} {m : Nat} {xs : List Value} (hg : w.heap[g]? = some (.cells cur T (0, 0))) (ht : cur.toList.take m = xs) (ho : o < m) : w.cell? ⟨g, o, none⟩ = xs[o]? := by
  rw [cell_of_row w g o cur T (0, 0) hg, ← ht, List.getElem?_take, if_pos ho, Array.getElem?_toList]
end
theorem infoWrite : (Try.prog.info? 71).map (fun i => (i.zero, i.size, i.bytes)) = some (some (.agg #[.int .u64 0, .int .u64 0]), 2, 16) := by kernel_rfl
theorem zeroWrite (w : World) : (zeroValue 71).run Try.prog w = .ok (.agg #[.int .u64 0, .int .u64 0]) w := by kernel_rfl
section
variable {w : World} {b : Nat} {T : TypeId}
theorem setCells_same : ∀ (vs : List Value) (o : Nat) (w : World), (w.setCells b o vs).os = w.os ∧ (w.setCells b o vs).tape = w.tape ∧ (w.setCells b o vs).output = w.output ∧ (w.setCells b o vs).heap.size = w.heap.size ∧ ∀ k, k ≠ b → (w.setCells b o vs).heap[k]? = w.heap[k]?
  | [], _, _ => ⟨rfl, rfl, rfl, rfl, fun _ _ => rfl⟩
  | v :: vs, o, w => by
    obtain ⟨h1, h2, h3, h4, h5⟩ := setCells_same vs (o + 1) (w.setCell ⟨b, o, none⟩ v)
    exact ⟨h1, h2, h3, h4.trans (by simp), fun k hk => (h5 k hk).trans (heap_setCell_other w _ k v hk)⟩
theorem setCells_block : ∀ (vs : List Value) (o : Nat) (w : World) (cur : Array Value), w.heap[b]? = some (.cells cur T (0, 0)) → o + vs.length ≤ cur.size →
    ∃ cur', (w.setCells b o vs).heap[b]? = some (.cells cur' T (0, 0)) ∧ cur'.size = cur.size ∧ (∀ i, (i < o ∨ o + vs.length ≤ i) → cur'[i]? = cur[i]?) ∧ ∀ j, j < vs.length → cur'[o + j]? = vs[j]?
  | [], _, _, cur, h, _ => ⟨cur, h, rfl, fun _ _ => rfl, fun j hj => absurd hj (by simp)⟩
  | v :: vs, o, w, cur, h, hl => by
    simp only [List.length_cons] at hl
    obtain ⟨cur', h1, h2, h3, h4⟩ := setCells_block vs (o + 1) (w.setCell ⟨b, o, none⟩ v) (cur.setIfInBounds o v) (heap_setCell_same w b o cur T v h) (by simp; omega)
    refine ⟨cur', h1, by simpa using h2, fun i hi => ?_, fun j hj => ?_⟩
    · simp only [List.length_cons] at hi
      rw [h3 i (by omega), Array.getElem?_setIfInBounds, if_neg (by omega)]
    · rcases j with _ | j
      · have := h3 o (by omega)
        rw [Nat.add_zero, this]
        simp [show o < cur.size by omega]
      · have := h4 j (by simpa using hj)
        rw [show o + (j + 1) = o + 1 + j by omega, this]; simp
theorem Only.setCells (w : World) (b o : Nat) (vs : List Value) {F : Nat → Prop} (hF : F b) : Only F w (w.setCells b o vs) := by
  obtain ⟨h1, h2, h3, h4, h5⟩ := setCells_same (b := b) vs o w
  exact ⟨h1, h2, h3, by omega, fun k _ hn => h5 k (fun e => hn (e ▸ hF))⟩
end
theorem run_clear_writes (w : World) (ty : TypeId) (b o n c : Nat) (hn : 0 < n)
    (hc : ∀ j, j < n * 2 → (w.cell? ⟨b, o + j, none⟩).isSome = true) (hf : ∀ j, j < n * 2 → w.frozen? ⟨b, o + j, none⟩ = false) :
    (Builtin.clear_ #[47] ty #[.slice (some ⟨b, o, none⟩) n c]).run Try.prog w = .ok (.tuple #[]) (w.setCells b o (hcells (List.replicate n (0, 0)))) := by
  have hzc : (Builtin.zeroCells (Value.agg #[.int .u64 0, .int .u64 0]).cells n).toList = hcells (List.replicate n (0, 0)) := by
    have e0 : (Value.agg #[.int .u64 0, .int .u64 0]).cells = #[.int .u64 0, .int .u64 0] := by simp [Value.cells]
    rw [e0]
    apply List.ext_getElem?
    intro i
    rcases Nat.lt_or_ge i (n * 2) with hi | hi
    · have h1 := hcells_at (List.replicate n (0, 0)) (i / 2) (by simp; omega)
      have hz : ∀ m, m < 2 → (#[Value.int .u64 0, .int .u64 0] : Array Value)[m]! = .int .u64 0 := by
        intro m hm
        rcases m with _ | _ | m
        · rfl
        · rfl
        · omega
      have hL : (Builtin.zeroCells #[Value.int .u64 0, .int .u64 0] n).toList[i]? = some (.int .u64 0) := by
        simp only [Builtin.zeroCells, Array.toList_map, List.getElem?_map, Array.toList_range]
        rw [List.getElem?_range (by simpa using hi)]
        simp only [Option.map_some, List.size_toArray, List.length_cons, List.length_nil]
        rw [hz _ (by omega)]
      rw [hL]
      rcases Nat.mod_two_eq_zero_or_one i with e | e
      · have := h1.1; rw [show i / 2 * 2 = i by omega] at this; rw [this]; simp
      · have := h1.2; rw [show i / 2 * 2 + 1 = i by omega] at this; rw [this]; simp
    · rw [List.getElem?_eq_none (by simp [Builtin.zeroCells]; omega), List.getElem?_eq_none (by rw [hcells_len]; simp; omega)]
  have hst := run_storeCells_cells (P := Try.prog) b o (hcells (List.replicate n (0, 0))) 0 w (by rw [hcells_len]; simpa using hc) (by rw [hcells_len]; simpa using hf) (hcells_one _)
  simp only [Nat.add_zero] at hst
  obtain ⟨m, rfl⟩ : ∃ m, n = m + 1 := ⟨n - 1, by omega⟩
  simp [Builtin.clear_, run_underlying Try.underlying47, zeroWrite, hzc, hst]
end Go.Proofs.Ytbonponclcehiaa.Dev
/-
  DEVICE: slices.Clone and slices.Delete(s, 0, k) at a history that the device owns.
-/
namespace Go.Proofs.Ytbonponclcehiaa.Dev
open Go.ChangeShapes Go.WideShapes Go.ChangeAt Go.RowKit Go.Proofs.Ytbonponclcehiaa.Mem
set_option maxRecDepth 100000 in
theorem clone_any (w : World) (base : Nat) (v : Value) (hs : List (Nat × Nat)) (h : Hist w base v hs) (hl : hs.length ≤ 1000000) :
    Calls Try.prog 66 #[v] w fun e w' => ∃ v', e = .returned v' ∧ Hid (Hist w' w.heap.size v' hs ∧ Below w.heap.size w w') := by
  obtain ⟨i0, hi, hz0, hz1, hz2⟩ := info_parts infoWrite
  have HI := Lib.hid hi
  have HZ0 := Lib.hid hz0
  have HZ1 := Lib.hid hz1
  have HZ2 := Lib.hid hz2
  clear hi hz0 hz1 hz2
  have qT : ∀ (w : World) (a : Option Addr) (n c : Nat), (binOp .eql 47 (.slice a n c) (.slice none 0 0)).run Try.prog w = .ok (.bool a.isNone) w := fun w a n c => Lib.run_eql_slice_nil w _ _ a n c 0 0 Try.underlying47
  rcases h.form with ⟨rfl, rfl⟩ | ⟨g, cap, cur, rfl, hb, hg, hn, hm, hsz, ht⟩
  · clear h
    go_enter Try.func66, Try.ntmps66
    go_wp2
    go_ret
    exact ⟨_, rfl, Lib.hid ⟨Hist.nil_ _ _, Below.refl _ _⟩⟩
  · have hlt : g < w.heap.size := (Array.getElem?_eq_some_iff.1 hg).1
    have HG := Lib.hid hg
    have HT := Lib.hid ht
    have HS := Lib.hid hsz
    obtain ⟨n, hnn⟩ : ∃ n, hs.length = n := ⟨_, rfl⟩
    rw [hnn] at hl hn HT ⊢
    have HN := Lib.hid hnn
    have HCC : Hid (∀ j u, (hcells hs)[j]? = some u → (w.alloc (.cells #[] 71 (0, 0))).cell? ((⟨g, 0, none⟩ : Addr).add j) = some u) := fun j u hu => by
      have hj : j < n * 2 := by have := (List.getElem?_eq_some_iff.1 hu).1; rwa [hcells_len, HN.out] at this
      rw [show (⟨g, 0, none⟩ : Addr).add j = ⟨g, j, none⟩ by unfold Addr.add; split <;> simp_all, ← hu]
      exact row_cell (by rw [Below.heap_alloc _ _ _ hlt]; exact HG.out) HT.out hj
    clear h hg ht hsz hnn
    go_enter Try.func66, Try.ntmps66
    go_wp2_with (at_builtin; refine wpList_append_own_at _ rfl _ _ 47 rfl w.heap.size 71 i0 (.agg #[.int .u64 0, .int .u64 0]) 2 16 Try.underlying47 HI.out HZ0.out HZ1.out HZ2.out rfl (by decide) (.slice (some ⟨w.heap.size, 0, none⟩) 0 0) 0 [] rfl (World.ownsRow_made w #[] 0 (Nat.le_refl _) (by simp [maxLen]) rfl) ⟨g, 0, none⟩ n cap (hcells hs) rfl (by rw [hcells_len, HN.out]) HCC.out (hcells_one _) (by simp [maxLen]; omega) (by omega) (by simp) ?_; intro v' w1 ho hgr _ _)
    go_ret
    refine ⟨_, rfl, Lib.hid ⟨?_, ?_⟩⟩
    · simp only [Nat.zero_add, List.nil_append] at ho
      unfold Hist
      rw [HN.out]; exact ho
    · exact (((Below.refl _ _).alloc (Nat.le_refl _) _).grown hgr (by simp) (fun k hk => by simp [Value.ownBlock] at hk; omega))
set_option maxRecDepth 100000 in
theorem delete_any (w : World) (base : Nat) (v : Value) (hs : List (Nat × Nat)) (k : Nat) (h : Hist w base v hs) (hk : k ≤ hs.length) :
    Calls Try.prog 83 #[v, .int .i64 0, .int .i64 (k : Int)] w fun e w' => ∃ v', e = .returned v' ∧ Hid (Hist w' base v' (hs.drop k) ∧ Only (fun b => v.ownBlock = some b) w w' ∧ v'.ownBlock = v.ownBlock) := by
  obtain ⟨i0, hi, hz0, hz1, hz2⟩ := info_parts infoWrite
  have HI := Lib.hid hi
  have HZ1 := Lib.hid hz1
  clear hi hz0 hz1 hz2
  rcases h.form with ⟨rfl, rfl⟩ | ⟨g, cap, cur, rfl, hb, hg, hn, hm, hsz, ht⟩
  · obtain rfl : k = 0 := by simpa using hk
    clear h hk
    go_enter Try.func83, Try.ntmps83
    go_wp2
    go_ret
    exact ⟨_, rfl, Lib.hid ⟨Hist.nil_ _ _, Only.refl _ _, rfl⟩⟩
  · have HG := Lib.hid hg
    have HT := Lib.hid ht
    have hlt : g < w.heap.size := (Array.getElem?_eq_some_iff.1 hg).1
    obtain ⟨n, hnn⟩ : ∃ n, hs.length = n := ⟨_, rfl⟩
    rw [hnn] at hk hn HT h ⊢
    have HN := Lib.hid hnn
    have hcell : ∀ o, o < cap * 2 → (w.cell? ⟨g, o, none⟩).isSome = true ∧ w.frozen? ⟨g, o, none⟩ = false := fun o ho => ⟨by rw [cell_of_row w g o cur _ (0, 0) hg, Array.getElem?_eq_getElem (by omega)]; rfl, frozen_of_row w g o cur _ hg⟩
    have hreal : ∀ o, o < n * 2 → w.cell? ⟨g, o, none⟩ = (hcells hs)[o]? := fun o ho => row_cell hg ht (by omega)
    have HR := Lib.hid hreal
    have HC := Lib.hid hcell
    have HS := Lib.hid hsz
    have HH := Lib.hid h
    unfold maxLen at hm
    clear h hg ht hsz hnn hreal hcell
    by_cases h0 : k = 0
    · subst h0
      go_enter Try.func83, Try.ntmps83
      go_wp2
      all_goals go_ret
      all_goals exact ⟨_, rfl, Lib.hid ⟨by rw [List.drop_zero]; exact HH.out, Only.refl _ _, rfl⟩⟩
    · have hne : ((0 : Int) == (k : Int)) = false := by simp; omega
      obtain ⟨news, hnews⟩ : ∃ news, news = hcells (hs.drop k) := ⟨_, rfl⟩
      have hnl : news.length = (n - k) * 2 := by rw [hnews, hcells_len, List.length_drop, HN.out]
      obtain ⟨A, hA, hsrc⟩ : ∃ A : Addr, (if cap = k then some (⟨g, 0, none⟩ : Addr) else some ⟨g, k * 2, none⟩) = some A ∧ Hid (∀ t u, news[t]? = some u → w.drew.cell? (A.add t) = some u) := by
        by_cases hck : cap = k
        · refine ⟨(⟨g, 0, none⟩ : Addr), by simp [hck], fun t u hu => ?_⟩
          have := (List.getElem?_eq_some_iff.1 hu).1
          omega
        · refine ⟨(⟨g, k * 2, none⟩ : Addr), by simp [hck], fun t u hu => ?_⟩
          have ht := (List.getElem?_eq_some_iff.1 hu).1
          rw [show (⟨g, k * 2, none⟩ : Addr).add t = ⟨g, k * 2 + t, none⟩ by unfold Addr.add; split <;> simp_all]
          show w.cell? _ = _
          rw [HR.out _ (by omega), ← hu, hnews, ← hcells_drop, List.getElem?_drop]
      have s1 : Hid (news.length = (n - k) * 2) := hnl
      have s2 : Hid (∀ u ∈ news, u.oneCell' = true) := by rw [hnews]; exact hcells_one _
      have s3 : Hid (∀ t, t < news.length → (w.drew.cell? ⟨g, 0 + 0 * 2 + t, none⟩).isSome = true ∧ w.drew.frozen? ⟨g, 0 + 0 * 2 + t, none⟩ = false) := fun t ht => by
        rw [show 0 + 0 * 2 + t = t by omega]
        exact HC.out t (by omega)
      obtain ⟨W1, hW1⟩ : ∃ W1, W1 = w.drew.setCells g (0 + 0 * 2) news := ⟨_, rfl⟩
      obtain ⟨cur1, b1, b2, b3, b4⟩ := setCells_block (b := g) news 0 w.drew cur HG.out (by have := HS.out; omega)
      have hcl : ∀ ty, (Builtin.clear_ #[47] ty #[.slice (some ⟨g, (n - k) * 2, none⟩) (n - (n - k)) (cap - (n - k))]).run Try.prog W1 = .ok (.tuple #[]) (W1.setCells g ((n - k) * 2) (hcells (List.replicate k (0, 0)))) := by
        rw [show n - (n - k) = k by omega]
        exact fun ty => run_clear_writes W1 ty g ((n - k) * 2) k _ (by omega) (fun j hj => by rw [hW1, cell_of_row _ g _ cur1 _ (0, 0) b1, Array.getElem?_eq_getElem (by have := HS.out; omega)]; rfl) (fun j hj => by rw [hW1]; exact frozen_of_row _ g _ cur1 _ b1)
      have hW : Hid (W1 = w.drew.setCells g (0 + 0 * 2) news) := hW1
      have hfin : Hid (Hist (W1.setCells g ((n - k) * 2) (hcells (List.replicate k (0, 0)))) base (.slice (some ⟨g, 0, none⟩) (n - k) cap) (hs.drop k) ∧ Only (fun b => (Value.slice (some ⟨g, 0, none⟩) n cap).ownBlock = some b) w (W1.setCells g ((n - k) * 2) (hcells (List.replicate k (0, 0))))) := by
        have hS := HS.out
        have c1 : cur1.size = cap * 2 := by rw [b2]; exact hS
        have d1 : W1.heap[g]? = some (.cells cur1 71 (0, 0)) := by rw [hW1]; exact b1
        obtain ⟨cur2, e1, e2, e3, e4⟩ := setCells_block (b := g) (hcells (List.replicate k (0, 0))) ((n - k) * 2) W1 cur1 d1 (by rw [hcells_len]; simp; omega)
        refine ⟨?_, ?_⟩
        · refine ⟨hcells_len _, .inr ⟨g, cap, cur2, ?_, hb, e1, ?_, hm, by omega, ?_⟩⟩
          · rw [List.length_drop, HN.out]
          · rw [List.length_drop, HN.out]; omega
          · rw [List.length_drop, HN.out]
            apply List.ext_getElem?
            intro j
            rcases Nat.lt_or_ge j ((n - k) * 2) with hj | hj
            · rw [List.getElem?_take, if_pos hj, Array.getElem?_toList, e3 j (.inl hj), ← hnews]
              have := b4 j (by omega)
              rwa [Nat.zero_add] at this
            · rw [List.getElem?_take, if_neg (by omega), ← hnews, List.getElem?_eq_none (by omega)]
        · have o1 : Only (fun b => (Value.slice (some ⟨g, 0, none⟩) n cap).ownBlock = some b) w W1 := by rw [hW1]; exact (Only.refl _ _).drew.trans (Only.setCells _ g _ _ rfl)
          exact o1.trans (Only.setCells _ g _ _ rfl)
      have B1 := Lib.hid b1
      have B4 := Lib.hid b4
      clear hW1 hnews hnl b1 b2 b3 b4
      go_enter Try.func83, Try.ntmps83
      go_wp2_with fail
      go_region_law (refine step_append_room rfl (.tmp 22) (.tmp 25) 47 rfl 71 i0 2 Try.underlying47 HI.out HZ1.out g 0 0 cap (by simp [Act.eval, Act.put]) A (n - k) (cap - k) news (by simp [Act.eval, Act.put]) s1.out hsrc.out s2.out (by omega) s3.out ?_; rw [← hW.out])
      go_wp2
      go_ret
      exact ⟨_, rfl, Lib.hid ⟨hfin.out.1, hfin.out.2, rfl⟩⟩
end Go.Proofs.Ytbonponclcehiaa.Dev
/-
  DEVICE, A LINE IN THE LINES' BLOCK: (*line).store.
-/
namespace Go.Proofs.Ytbonponclcehiaa.Dev
open Go.ChangeShapes Go.WideShapes Go.ChangeAt Go.RowKit Go.Proofs.Ytbonponclcehiaa.Mem
theorem place_at (o p : Nat) (w : World) (ho : o < 18446744073709551616) (hp : o / 8 % 8 = p) : Calls Try.prog 72 #[.int .u64 (o : Int)] w fun e w' => e = .returned (.int .u64 (p : Int)) ∧ w' = w :=
  (place_any o w ho).mono fun e w' ⟨h1, h2⟩ => ⟨by rw [h1, hp], h2.symm⟩
theorem new_cells (w : World) (cs : Array Value) (T : TypeId) (n : Nat) (hn : w.heap.size = n) (l : List Value) (hl : cs.toList = l) : ∀ j u, l[j]? = some u → (w.alloc (.cells cs T)).cell? ((⟨n, 0, none⟩ : Addr).add j) = some u := fun j u hu => by
  subst hn hl
  rw [show (⟨w.heap.size, 0, none⟩ : Addr).add j = ⟨w.heap.size, j, none⟩ by unfold Addr.add; split <;> simp_all, cell_of_row _ _ j cs T (0, 0) (heap_alloc_new w _), ← Array.getElem?_toList]
  exact hu
theorem write_one (o x : Nat) : ∀ u ∈ [Value.int .u64 (o : Int), .int .u64 (x : Int)], u.oneCell' = true := by
  intro u h
  simp only [List.mem_cons, List.not_mem_nil, or_false] at h
  rcases h with rfl | rfl <;> rfl
set_option maxRecDepth 100000 in
theorem store_any (w : World) (lb N q o x p base : Nat) (hv : Value) (hs : List (Nat × Nat)) (g : Nat → Value) (hB : Blk w lb 106 N g) (hq : q + 18 ≤ N) (hg : g (q + 16) = hv) (hown : Hist w base hv hs) (hbw : base ≤ w.heap.size)
    (hne : hv.ownBlock ≠ some lb) (hl : hs.length ≤ 1000000) (ho : o < 18446744073709551616) (hp : o / 8 % 8 = p) :
    Calls Try.prog 61 #[.pointer (some ⟨lb, q, none⟩), .int .u64 (o : Int), .int .u64 (x : Int)] w fun e w' => e = .returned (.tuple #[]) ∧ ∃ hv', Hid (Blk w' lb 106 N (upd (upd g (q + 8 + p) (.int .u64 (x : Int))) (q + 16) hv') ∧ Hist w' base hv' (hs ++ [(o, x)]) ∧
      Only (fun b => b = lb ∨ hv.ownBlock = some b) w w' ∧ (hv'.ownBlock = hv.ownBlock ∨ ∃ b, hv'.ownBlock = some b ∧ w.heap.size ≤ b ∧ b < w'.heap.size)) := by
  obtain ⟨i0, hi, hz0, hz1, hz2⟩ := info_parts infoWrite
  have HI := Lib.hid hi
  have HZ0 := Lib.hid hz0
  have HZ1 := Lib.hid hz1
  have HZ2 := Lib.hid hz2
  clear hi hz0 hz1 hz2
  have hp8 : p < 8 := by omega
  have hc1 : w.drew.cell? ⟨lb, q + 8 + p, none⟩ = some (g (q + 8 + p)) := hB.cell (by omega)
  have hf1 : w.drew.frozen? ⟨lb, q + 8 + p, none⟩ = false := hB.frozen _
  have B1 : Hid (Blk (w.drew.setCell ⟨lb, q + 8 + p, none⟩ (.int .u64 (x : Int))) lb 106 N (upd g (q + 8 + p) (.int .u64 (x : Int)))) := hB.drew.set _ _
  have O1 : Hid (Only (fun b => b = lb ∨ hv.ownBlock = some b) w (w.drew.setCell ⟨lb, q + 8 + p, none⟩ (.int .u64 (x : Int)))) := (Only.refl _ _).drew.set _ _ (.inl (.inl rfl))
  have hc2 : (w.drew.setCell ⟨lb, q + 8 + p, none⟩ (.int .u64 (x : Int))).cell? ⟨lb, q + 16, none⟩ = some hv := by rw [B1.out.cell (by omega), upd_other _ _ (by omega), hg]
  have H1 : Hid (Hist (w.drew.setCell ⟨lb, q + 8 + p, none⟩ (.int .u64 (x : Int))) base hv hs) := hown.of_block fun b hb => by
    rw [heap_setCell_other _ _ _ _ (fun e => hne (by rw [hb]; exact congrArg some e))]; rfl
  have hzw : Hid (w.heap.size = (w.drew.setCell ⟨lb, q + 8 + p, none⟩ (.int .u64 (x : Int))).heap.size) := by simp [Hid]
  have HNE := Lib.hid hne
  have HP := Lib.hid hp
  clear hB hg hown hp hne
  have hwp : IntKind.i64.wrap (p : Int) = (p : Int) := IntWalk.i64_in _ ⟨by omega, by omega⟩
  have hwu : IntKind.u64.wrap (p : Int) = (p : Int) := IntWalk.u64_in _ ⟨by omega, by omega⟩
  have hp0 : (0 : Int) ≤ (p : Int) := by omega
  have hp88 : (p : Int) < 8 := by omega
  go_enter Try.func61, Try.ntmps61
  go_wp2_with fail
  go_still_tail 7, (by kernel_rfl)
  still_call (place_at o p _ ho HP.out)
  repeat still_step
  try refine wpStill_nil ?_
  change wpList _ _ _ _ _ w.drew
  generalize w.drew = wd at *
  have hws : wd.heap.size = w.heap.size := by have := hzw.out; simpa using this.symm
  have HWS := Lib.hid hws
  clear hws
  go_wp2_with (at_builtin; refine wpList_append_lies _ rfl _ _ 47 rfl base 71 i0 (.agg #[.int .u64 0, .int .u64 0]) 2 16 Try.underlying47 HI.out HZ0.out HZ1.out HZ2.out rfl (by decide) hv hs.length (hcells hs) rfl (World.ownsRow.alloc H1.out _) ⟨wd.heap.size, 0, none⟩ 1 1 [.int .u64 (o : Int), .int .u64 (x : Int)] rfl rfl (new_cells _ _ _ _ (by simp) _ rfl) (write_one o x) (by decide) (by simp [maxLen]; omega) (by omega) (by have := HWS.out; simp; omega) (wd.heap.size + 1) (by simp) ?_; intro gb cap w1 hown' hgr hob hlt; have Bw := (B1.out.alloc (.cells #[.int .u64 (o : Int), .int .u64 (x : Int)] 71 (0, 0))).grown hgr (Ne.symm HNE.out); have hc3 : w1.cell? ⟨lb, q + 16, none⟩ = some hv := (by rw [Bw.cell (by omega), upd_other _ _ (by omega)]; have := B1.out.cell (o := q + 16) (by omega); rw [upd_other _ _ (by omega), hc2] at this; exact this.symm); have hf3 : w1.frozen? ⟨lb, q + 16, none⟩ = false := Bw.frozen _; have BW := Lib.hid Bw; have HO := Lib.hid hown'; have HGR := Lib.hid hgr; have HOB := Lib.hid hob; clear Bw hown' hgr hob)
  go_end0
  have hneb : gb ≠ lb := by
    rcases HOB.out with h | h
    · intro e; exact HNE.out (by rw [h, e])
    · have h1 := B1.out.lt
      have h2 := HWS.out
      simp at h1
      omega
  refine ⟨rfl, .slice (some ⟨gb, 0, none⟩) (hs.length + 1) cap, Lib.hid ⟨BW.out.set _ _, ?_, ?_, ?_⟩⟩
  · refine Hist.of_block (w := w1) ?_ (fun b hb => ?_)
    · unfold Hist
      rw [hcells_append, List.length_append]
      exact HO.out
    · rw [heap_setCell_other]
      simp [Value.ownBlock] at hb
      show b ≠ lb
      omega
  · have h2 := HWS.out
    refine Only.set ?_ _ _ (.inl (.inl rfl))
    refine (O1.out.alloc (.cells #[.int .u64 (o : Int), .int .u64 (x : Int)] 71 (0, 0))).trans (Only.ofGrown HGR.out ?_)
    intro k hk
    exact .inl (.inr hk)
  · rcases HOB.out with h | h
    · exact .inl (by rw [h]; rfl)
    · have h2 := HWS.out
      exact .inr ⟨gb, rfl, by omega, by simpa using hlt⟩
end Go.Proofs.Ytbonponclcehiaa.Dev
/-
  DEVICE, A LINE IN THE LINES' BLOCK: (*line).after: the words with the first k stores.
-/
namespace Go.Proofs.Ytbonponclcehiaa.Dev
open Go.ChangeShapes Go.WideShapes Go.ChangeAt Go.RowKit Go.Proofs.Ytbonponclcehiaa.Mem
/-- The words of a line with a list of stores. -/
def applyW (b : Nat → Nat) : List (Nat × Nat) → Nat → Nat
  | [] => b
  | p :: l => applyW (fun j => if j = p.1 / 8 % 8 then p.2 else b j) l
theorem applyW_append : ∀ (l r : List (Nat × Nat)) (b : Nat → Nat), applyW b (l ++ r) = applyW (applyW b l) r
  | [], _, _ => rfl
  | p :: l, r, b => by simp only [List.cons_append, applyW]; exact applyW_append l r _
theorem applyW_snoc (l : List (Nat × Nat)) (p : Nat × Nat) (b : Nat → Nat) : applyW b (l ++ [p]) = fun j => if j = p.1 / 8 % 8 then p.2 else applyW b l j := by
  rw [applyW_append]; rfl
def wordG (f : Nat → Nat) (j : Nat) : Value := .int .u64 (f j : Int)
def words8 (f : Nat → Nat) : Value := .agg #[wordG f 0, wordG f 1, wordG f 2, wordG f 3, wordG f 4, wordG f 5, wordG f 6, wordG f 7]
theorem wordG_upd (f : Nat → Nat) (k x : Nat) : upd (wordG f) k (.int .u64 (x : Int)) = wordG (fun j => if j = k then x else f j) := by
  funext j
  by_cases h : j = k <;> simp [upd, wordG, h]
set_option maxRecDepth 100000 in
theorem after_nil (w : World) (lb q k : Nat) (b : Nat → Nat) (hc : ∀ j, j < 8 → w.cell? ⟨lb, q + j, none⟩ = some (wordG b j)) (hh : w.cell? ⟨lb, q + 16, none⟩ = some (.slice none 0 0)) :
    Calls Try.prog 68 #[.pointer (some ⟨lb, q, none⟩), .int .i64 0] w fun e w' => e = .returned (words8 b) ∧ Below w.heap.size w w' := by
  have h0 := hc 0 (by decide)
  have h1 := hc 1 (by decide)
  have h2 := hc 2 (by decide)
  have h3 := hc 3 (by decide)
  have h4 := hc 4 (by decide)
  have h5 := hc 5 (by decide)
  have h6 := hc 6 (by decide)
  have h7 := hc 7 (by decide)
  unfold wordG at h0 h1 h2 h3 h4 h5 h6 h7
  rw [Nat.add_zero] at h0
  have hlt : lb < w.heap.size := World.block_lt_of_cell? w _ hh

  clear hc
  go_enter Try.func68, Try.ntmps68
  go_wp2
  refine wp_loop_rounds 1 ?_
  rw [rounds_succ]
  go_wp2
  refine bodyPost_ret (v := words8 b) (by simp [results, Try.results68, go_sem, words8, wordG]) rfl ⟨rfl, ?_⟩
  exact (((Below.refl _ _).alloc (Nat.le_refl _) _).alloc (by simp) _)
theorem new_cell (w : World) (cs : Array Value) (T : TypeId) (j : Nat) {v : Value} (hv : cs[j]? = some v) : (w.alloc (.cells cs T (0, 0))).cell? ⟨w.heap.size, j, none⟩ = some v := by
  rw [cell_of_row _ _ j cs T (0, 0) (heap_alloc_new w _), hv]
theorem words_blk (w : World) (T : TypeId) (f : Nat → Nat) (n : Nat) (hn : w.heap.size = n) : Blk (w.alloc (.cells #[wordG f 0, wordG f 1, wordG f 2, wordG f 3, wordG f 4, wordG f 5, wordG f 6, wordG f 7] T)) n T 8 (wordG f) := by
  subst hn
  refine Blk.newOf w _ T rfl fun o ho => ?_
  match o, ho with
  | 0, _ => rfl
  | 1, _ => rfl
  | 2, _ => rfl
  | 3, _ => rfl
  | 4, _ => rfl
  | 5, _ => rfl
  | 6, _ => rfl
  | 7, _ => rfl
set_option maxRecDepth 100000 in
theorem after_row (w : World) (lb q k g cap n : Nat) (b : Nat → Nat) (hs : List (Nat × Nat)) (hc : ∀ j, j < 8 → w.cell? ⟨lb, q + j, none⟩ = some (wordG b j)) (hh : w.cell? ⟨lb, q + 16, none⟩ = some (.slice (some ⟨g, 0, none⟩) n cap))
    (hk : k ≤ n) (hn : n ≤ cap) (hcap : cap ≤ maxLen) (hl : hs.length = n) (hr : ∀ o, o < n * 2 → w.cell? ⟨g, o, none⟩ = (hcells hs)[o]?) (hglt : g < w.heap.size) (hw : ∀ p ∈ hs, p.1 < 18446744073709551616 ∧ p.2 < 18446744073709551616) :
    Calls Try.prog 68 #[.pointer (some ⟨lb, q, none⟩), .int .i64 (k : Int)] w fun e w' => e = .returned (words8 (applyW b (hs.take k))) ∧ Below w.heap.size w w' := by
  have h0 := hc 0 (by decide)
  have h1 := hc 1 (by decide)
  have h2 := hc 2 (by decide)
  have h3 := hc 3 (by decide)
  have h4 := hc 4 (by decide)
  have h5 := hc 5 (by decide)
  have h6 := hc 6 (by decide)
  have h7 := hc 7 (by decide)
  unfold wordG at h0 h1 h2 h3 h4 h5 h6 h7
  rw [Nat.add_zero] at h0
  have hlt : lb < w.heap.size := World.block_lt_of_cell? w _ hh
  have HR := Lib.hid hr
  have HL := Lib.hid hl
  have HW := Lib.hid hw
  unfold maxLen at hcap
  clear hc hr hl hw
  go_enter Try.func68, Try.ntmps68
  go_wp2
  clear h0 h1 h2 h3 h4 h5 h6 h7 hh
  go_loopw [19] (fun i wr => ∃ j : Nat, j ≤ k ∧ i = .int .i64 j ∧ Hid (Blk wr (w.heap.size + 1) 103 8 (wordG (applyW b (hs.take j))) ∧ Blk wr w.heap.size 103 8 (wordG fun _ => 0) ∧ Below w.heap.size w wr)) (fun i _ => k - (intOf i).toNat)
  case atStart => exact ⟨0, by omega, rfl, Lib.hid ⟨words_blk _ _ b _ (by simp), (words_blk w _ (fun _ => 0) _ rfl).alloc _, ((Below.refl _ _).alloc (Nat.le_refl _) _).alloc (by simp) _⟩⟩
  case round =>
    obtain ⟨j, hj, rfl, HO⟩ := hrel
    by_cases hjk : j < k
    · have hjl : j < hs.length := by have := HL.out; omega
      have e0 := (HO.out.2.2.cell (p := ⟨g, j * 2, none⟩) hglt).trans (HR.out (j * 2) (by omega))
      have e1 := (HO.out.2.2.cell (p := ⟨g, j * 2 + 1, none⟩) hglt).trans (HR.out (j * 2 + 1) (by omega))
      obtain ⟨f0, f1⟩ := hcells_at hs j hjl
      rw [f0] at e0
      rw [f1] at e1
      have hwj := HW.out _ (List.getElem_mem hjl)
      have HT := Lib.hid (show hs.take (j + 1) = hs.take j ++ [hs[j]] from List.take_succ_eq_append_getElem hjl)
      generalize hs[j] = pr at *
      obtain ⟨o, x⟩ := pr
      simp only at e0 e1 hwj
      obtain ⟨ho, hx⟩ := hwj
      obtain ⟨p, hp⟩ : ∃ p, o / 8 % 8 = p := ⟨_, rfl⟩
      have hp8 : p < 8 := by omega
      have hgw : g < wr.heap.size := Nat.lt_of_lt_of_le hglt HO.out.2.2.size
      obtain ⟨wa, hwa⟩ : ∃ wa, wa = wr.alloc (.cells #[.int .u64 (o : Int), .int .u64 (x : Int)] 71 (0, 0)) := ⟨_, rfl⟩
      obtain ⟨wo, hwo⟩ : ∃ wo, wo = wa.drew := ⟨_, rfl⟩
      have n0 : wa.drew.cell? ⟨wr.heap.size, 0, none⟩ = some (.int .u64 (o : Int)) := by rw [hwa]; exact new_cell wr _ _ 0 rfl
      have n1 : wa.drew.cell? ⟨wr.heap.size, 1, none⟩ = some (.int .u64 (x : Int)) := by rw [hwa]; exact new_cell wr _ _ 1 rfl
      have B1 : Blk wo (w.heap.size + 1) 103 8 (wordG (applyW b (hs.take j))) := by rw [hwo, hwa]; exact (HO.out.1.alloc _).drew
      have B2 : Blk wo w.heap.size 103 8 (wordG fun _ => 0) := by rw [hwo, hwa]; exact (HO.out.2.1.alloc _).drew
      have B3 : Below w.heap.size w wo := by rw [hwo, hwa]; exact (HO.out.2.2.alloc HO.out.2.2.size _).drew
      have HX := Lib.hid (show Blk (wo.setCell ⟨w.heap.size + 1, p, none⟩ (.int .u64 (x : Int))) (w.heap.size + 1) 103 8 (wordG (applyW b (hs.take (j + 1)))) ∧ Blk (wo.setCell ⟨w.heap.size + 1, p, none⟩ (.int .u64 (x : Int))) w.heap.size 103 8 (wordG fun _ => 0) ∧ Below w.heap.size w (wo.setCell ⟨w.heap.size + 1, p, none⟩ (.int .u64 (x : Int))) from by
        refine ⟨?_, B2.setOther (by simp) _, B3.setCell (by simp) _⟩
        rw [HT.out, applyW_snoc]
        have := B1.set p (.int .u64 (x : Int))
        rw [wordG_upd] at this
        simp only [hp]
        exact this)
      have hc1 : wo.cell? ⟨w.heap.size + 1, p, none⟩ = some (wordG (applyW b (hs.take j)) p) := B1.cell hp8
      have hf1 : wo.frozen? ⟨w.heap.size + 1, p, none⟩ = false := B1.frozen _
      have HP := Lib.hid hp
      have hwp : IntKind.i64.wrap (p : Int) = (p : Int) := IntWalk.i64_in _ ⟨by omega, by omega⟩
      have hwu : IntKind.u64.wrap (p : Int) = (p : Int) := IntWalk.u64_in _ ⟨by omega, by omega⟩
      have hp0 : (0 : Int) ≤ (p : Int) := by omega
      have hp88 : (p : Int) < 8 := by omega
      have hcz : w.heap.size + 1 < wr.heap.size := HO.out.1.lt
      rw [hwo] at hc1 hf1
      have HWO := Lib.hid hwo
      have HWA := Lib.hid hwa
      clear hp f0 f1 HT B1 B2 B3 hwo hwa
      go_wp2_with fail
      rw [← HWA.out]
      go_still_tail 6, (by kernel_rfl)
      still_call (place_at o p _ ho HP.out)
      repeat still_step
      try refine wpStill_nil ?_
      change wpList _ _ _ _ _ wa.drew
      rw [← HWO.out]
      have hc2 : wo.cell? ⟨w.heap.size + 1, p, none⟩ = some (wordG (applyW b (hs.take j)) p) := by rw [HWO.out]; exact hc1
      have hf2 : wo.frozen? ⟨w.heap.size + 1, p, none⟩ = false := by rw [HWO.out]; exact hf1
      clear hc1 hf1 e0 e1
      go_wp2
      go_roundw
      case rel => exact ⟨j + 1, by omega, by go_num, HX⟩
      case measure => simp [intOf]; omega
    · have hkj : j = k := by omega
      subst hkj
      obtain ⟨F, hF⟩ : ∃ F, applyW b (hs.take j) = F := ⟨_, rfl⟩
      rw [hF] at HO
      have HF := Lib.hid hF
      clear hF
      have h0 := HO.out.1.cell (o := 0) (by decide)
      have r0 := HO.out.2.1.cell (o := 0) (by decide)
      have z0 := HO.out.2.1.frozen 0
      have h1 := HO.out.1.cell (o := 1) (by decide)
      have r1 := HO.out.2.1.cell (o := 1) (by decide)
      have z1 := HO.out.2.1.frozen 1
      have h2 := HO.out.1.cell (o := 2) (by decide)
      have r2 := HO.out.2.1.cell (o := 2) (by decide)
      have z2 := HO.out.2.1.frozen 2
      have h3 := HO.out.1.cell (o := 3) (by decide)
      have r3 := HO.out.2.1.cell (o := 3) (by decide)
      have z3 := HO.out.2.1.frozen 3
      have h4 := HO.out.1.cell (o := 4) (by decide)
      have r4 := HO.out.2.1.cell (o := 4) (by decide)
      have z4 := HO.out.2.1.frozen 4
      have h5 := HO.out.1.cell (o := 5) (by decide)
      have r5 := HO.out.2.1.cell (o := 5) (by decide)
      have z5 := HO.out.2.1.frozen 5
      have h6 := HO.out.1.cell (o := 6) (by decide)
      have r6 := HO.out.2.1.cell (o := 6) (by decide)
      have z6 := HO.out.2.1.frozen 6
      have h7 := HO.out.1.cell (o := 7) (by decide)
      have r7 := HO.out.2.1.cell (o := 7) (by decide)
      have z7 := HO.out.2.1.frozen 7
      unfold wordG at h0 h1 h2 h3 h4 h5 h6 h7 r0 r1 r2 r3 r4 r5 r6 r7
      go_wp2
      refine bodyPost_ret (v := words8 F) (by simp [results, Try.results68, go_sem, words8, wordG, r0, r1, r2, r3, r4, r5, r6, r7]) rfl ⟨by rw [HF.out], ?_⟩
      have hB := HO.out.2.2
      exact ((((((((hB.setCell (Nat.le_refl _) _).setCell (Nat.le_refl _) _).setCell (Nat.le_refl _) _).setCell (Nat.le_refl _) _).setCell (Nat.le_refl _) _).setCell (Nat.le_refl _) _).setCell (Nat.le_refl _) _).setCell (Nat.le_refl _) _)
/-- A history's stores are words. -/
def Fine (hs : List (Nat × Nat)) : Prop := ∀ p ∈ hs, p.1 < 18446744073709551616 ∧ p.2 < 18446744073709551616
theorem after_any (w : World) (lb N q k base : Nat) (hv : Value) (b : Nat → Nat) (hs : List (Nat × Nat)) (g : Nat → Value) (hB : Blk w lb 106 N g) (hq : q + 18 ≤ N) (hb : ∀ j, j < 8 → g (q + j) = wordG b j) (hg : g (q + 16) = hv)
    (hown : Hist w base hv hs) (hk : k ≤ hs.length) (hF : Fine hs) :
    Calls Try.prog 68 #[.pointer (some ⟨lb, q, none⟩), .int .i64 (k : Int)] w fun e w' => e = .returned (words8 (applyW b (hs.take k))) ∧ Below w.heap.size w w' := by
  have hc : ∀ j, j < 8 → w.cell? ⟨lb, q + j, none⟩ = some (wordG b j) := fun j hj => by rw [hB.cell (by omega), hb j hj]
  have hh := hB.cell (o := q + 16) (by omega)
  rw [hg] at hh
  rcases hown.form with ⟨rfl, rfl⟩ | ⟨gb, cap, cur, rfl, hbb, hgg, hn, hm, hsz, ht⟩
  · obtain rfl : k = 0 := by simpa using hk
    exact after_nil w lb q 0 b hc hh
  · exact after_row w lb q k gb cap hs.length b hs hc hh hk hn hm rfl (fun o ho => row_cell hgg ht ho) (Array.getElem?_eq_some_iff.1 hgg).1 hF
end Go.Proofs.Ytbonponclcehiaa.Dev
/-
  DEVICE, A LINE IN THE LINES' BLOCK: (*line).persist, persistTo.
-/
namespace Go.Proofs.Ytbonponclcehiaa.Dev
open Go.ChangeShapes Go.WideShapes Go.ChangeAt Go.RowKit Go.Proofs.Ytbonponclcehiaa.Mem
theorem Hist.setOther {w : World} {base : Nat} {v : Value} {hs : List (Nat × Nat)} (h : Hist w base v hs) {a : Addr} (hne : v.ownBlock ≠ some a.block) (u : Value) : Hist (w.setCell a u) base v hs :=
  h.of_block fun g hg => heap_setCell_other w a g u (fun e => hne (by rw [hg, e]))
theorem Hist.below {w w' : World} {base B : Nat} {v : Value} {hs : List (Nat × Nat)} (h : Hist w base v hs) (hb : Below B w w') (hB : w.heap.size ≤ B) : Hist w' base v hs :=
  h.of_block fun g hg => hb.block g (Nat.lt_of_lt_of_le (h.lt g hg).2 hB)
set_option maxRecDepth 100000 in
set_option maxHeartbeats 400000 in
theorem persist_any (w : World) (lb N q k gone base : Nat) (hv : Value) (b : Nat → Nat) (hs : List (Nat × Nat)) (g : Nat → Value) (hB : Blk w lb 106 N g) (hq : q + 18 ≤ N) (hb : ∀ j, j < 8 → g (q + j) = wordG b j) (hg : g (q + 16) = hv)
    (hgo : g (q + 17) = .int .u64 (gone : Int)) (hown : Hist w base hv hs) (hne : hv.ownBlock ≠ some lb) (hk : k ≤ hs.length) (hF : Fine hs) (hsum : gone + hs.length ≤ 4294967295) :
    Calls Try.prog 65 #[.pointer (some ⟨lb, q, none⟩), .int .i64 (k : Int)] w fun e w' => e = .returned (.tuple #[]) ∧ ∃ hv' g', Hid (Blk w' lb 106 N g' ∧ (∀ o, o < q ∨ q + 18 ≤ o → g' o = g o) ∧ (∀ j, j < 8 → g' (q + j) = wordG (applyW b (hs.take k)) j) ∧
      (∀ j, j < 8 → g' (q + 8 + j) = g (q + 8 + j)) ∧ g' (q + 16) = hv' ∧ g' (q + 17) = .int .u64 ((gone + k : Nat) : Int) ∧ Hist w' base hv' (hs.drop k) ∧ Only (fun b => b = lb ∨ hv.ownBlock = some b) w w' ∧ hv'.ownBlock = hv.ownBlock) := by
  have HA := Lib.hid (after_any w lb N q k base hv b hs g hB hq hb hg hown hk hF)
  obtain ⟨F, hFF⟩ : ∃ F, applyW b (hs.take k) = F := ⟨_, rfl⟩
  rw [hFF] at HA ⊢
  have HB := Lib.hid hB
  have HG := Lib.hid hg
  have HGO := Lib.hid hgo
  have HOWN := Lib.hid hown
  have HNE := Lib.hid hne
  clear hB hb hg hgo hown hne hF hFF
  go_enter Try.func65, Try.ntmps65
  go_wp2_with (go_at_call 68; refine HA.out.mono ?_; rintro e w1 ⟨he, hb1⟩; simp only [words8, wordG] at he; subst he; have HB1 := Lib.hid (HB.out.below hb1 HB.out.lt); have HO1 := Lib.hid (HOWN.out.below hb1 (Nat.le_refl _)); have HBL := Lib.hid hb1; clear hb1; have c0 := HB1.out.cell (o := q + 0) (by omega); have z0 := HB1.out.frozen (q + 0); have c1 := HB1.out.cell (o := q + 1) (by omega); have z1 := HB1.out.frozen (q + 1); have c2 := HB1.out.cell (o := q + 2) (by omega); have z2 := HB1.out.frozen (q + 2); have c3 := HB1.out.cell (o := q + 3) (by omega); have z3 := HB1.out.frozen (q + 3); have c4 := HB1.out.cell (o := q + 4) (by omega); have z4 := HB1.out.frozen (q + 4); have c5 := HB1.out.cell (o := q + 5) (by omega); have z5 := HB1.out.frozen (q + 5); have c6 := HB1.out.cell (o := q + 6) (by omega); have z6 := HB1.out.frozen (q + 6); have c7 := HB1.out.cell (o := q + 7) (by omega); have z7 := HB1.out.frozen (q + 7); have c16 := HB1.out.cell (o := q + 16) (by omega); have z16 := HB1.out.frozen (q + 16); have c17 := HB1.out.cell (o := q + 17) (by omega); have z17 := HB1.out.frozen (q + 17); rw [Nat.add_zero] at c0 z0; rw [HG.out] at c16; rw [HGO.out] at c17)
  obtain ⟨wc, hwc⟩ : ∃ wc, wc = ((((((((w1.setCell ⟨lb, q, none⟩ (.int .u64 (F 0 : Int))).setCell ⟨lb, q + 1, none⟩ (.int .u64 (F 1 : Int))).setCell ⟨lb, q + 2, none⟩ (.int .u64 (F 2 : Int))).setCell ⟨lb, q + 3, none⟩ (.int .u64 (F 3 : Int))).setCell ⟨lb, q + 4, none⟩ (.int .u64 (F 4 : Int))).setCell ⟨lb, q + 5, none⟩ (.int .u64 (F 5 : Int))).setCell ⟨lb, q + 6, none⟩ (.int .u64 (F 6 : Int))).setCell ⟨lb, q + 7, none⟩ (.int .u64 (F 7 : Int))) := ⟨_, rfl⟩
  rw [← hwc]
  have OC : Only (fun b => b = lb ∨ hv.ownBlock = some b) w wc := by rw [hwc]; exact (((((((((Only.ofBelow HBL.out _).set _ _ (.inl (.inl rfl))).set _ _ (.inl (.inl rfl))).set _ _ (.inl (.inl rfl))).set _ _ (.inl (.inl rfl))).set _ _ (.inl (.inl rfl))).set _ _ (.inl (.inl rfl))).set _ _ (.inl (.inl rfl))).set _ _ (.inl (.inl rfl)))
  have HC : Hist wc base hv hs := by rw [hwc]; exact ((((((((HO1.out.setOther HNE.out _).setOther HNE.out _).setOther HNE.out _).setOther HNE.out _).setOther HNE.out _).setOther HNE.out _).setOther HNE.out _).setOther HNE.out _)
  have BC : ∃ gc, Blk wc lb 106 N gc ∧ (∀ o, o < q ∨ q + 8 ≤ o → gc o = g o) ∧ ∀ j, j < 8 → gc (q + j) = wordG F j := by
    rw [hwc]
    refine ⟨_, ((((((((HB1.out.set _ _).set _ _).set _ _).set _ _).set _ _).set _ _).set _ _).set _ _), fun o ho => ?_, fun j hj => ?_⟩
    · simp only [upd]
      repeat (rw [if_neg (by omega)])
    · match j, hj with
      | 0, _ => simp [upd, wordG]
      | 1, _ => simp [upd, wordG]
      | 2, _ => simp [upd, wordG]
      | 3, _ => simp [upd, wordG]
      | 4, _ => simp [upd, wordG]
      | 5, _ => simp [upd, wordG]
      | 6, _ => simp [upd, wordG]
      | 7, _ => simp [upd, wordG]
  obtain ⟨gc, BC, hgc1, hgc2⟩ := BC
  clear hwc HB1 HO1 HBL c0 c1 c2 c3 c4 c5 c6 c7 z0 z1 z2 z3 z4 z5 z6 z7 c16 z16 c17 z17
  refine (delete_any wc base hv hs k HC hk).mono ?_
  rintro e w2 ⟨v', rfl, HD⟩
  have hform : ∃ A n c, v' = .slice A n c := by
    rcases HD.out.1.form with ⟨rfl, _⟩ | ⟨gb, cap, cur, rfl, _⟩
    · exact ⟨_, _, _, rfl⟩
    · exact ⟨_, _, _, rfl⟩
  obtain ⟨A, n', c', rfl⟩ := hform
  have B2 : Blk w2 lb 106 N gc := HD.out.2.1.blk BC (fun e => HNE.out e)
  have c16 := B2.cell (o := q + 16) (by omega)
  have c17 := B2.cell (o := q + 17) (by omega)
  have z16 := B2.frozen (q + 16)
  have z17 := B2.frozen (q + 17)
  rw [hgc1 _ (by omega), HG.out] at c16
  rw [hgc1 _ (by omega), HGO.out] at c17
  have HB2 := Lib.hid B2
  have HOC := Lib.hid OC
  have HG1 := Lib.hid hgc1
  have HG2 := Lib.hid hgc2
  clear B2 OC HC BC hgc1 hgc2
  go_wp2
  go_end0
  refine ⟨rfl, .slice A n' c', _, Lib.hid ⟨((HB2.out.set _ _).set _ _), fun o ho => ?_, fun j hj => ?_, fun j hj => ?_, ?_, ?_, ?_, ?_, ?_⟩⟩
  · rw [upd_other _ _ (by omega), upd_other _ _ (by omega)]; exact HG1.out o (by omega)
  · rw [upd_other _ _ (by omega), upd_other _ _ (by omega)]; exact HG2.out j hj
  · rw [upd_other _ _ (by omega), upd_other _ _ (by omega)]; exact HG1.out _ (by omega)
  · rw [upd_other _ _ (by omega), upd_same]
  · rw [upd_same]; simp
  · refine ((HD.out.1.setOther ?_ _).setOther ?_ _) <;> (rw [HD.out.2.2]; exact HNE.out)
  · exact (HOC.out.trans (HD.out.2.1.mono fun b hb => .inr hb)).set _ _ (.inl (.inl rfl)) |>.set _ _ (.inl (.inl rfl))
  · exact HD.out.2.2
set_option maxRecDepth 100000 in
theorem persistTo_any (w : World) (lb N q pos gone base : Nat) (hv : Value) (b : Nat → Nat) (hs : List (Nat × Nat)) (g : Nat → Value) (hB : Blk w lb 106 N g) (hq : q + 18 ≤ N) (hb : ∀ j, j < 8 → g (q + j) = wordG b j) (hg : g (q + 16) = hv)
    (hgo : g (q + 17) = .int .u64 (gone : Int)) (hown : Hist w base hv hs) (hne : hv.ownBlock ≠ some lb) (hk : pos ≤ gone + hs.length) (hF : Fine hs) (hsum : gone + hs.length ≤ 4294967295) :
    Calls Try.prog 63 #[.pointer (some ⟨lb, q, none⟩), .int .u64 (pos : Int)] w fun e w' => e = .returned (.tuple #[]) ∧ ∃ hv' g', Hid (Blk w' lb 106 N g' ∧ (∀ o, o < q ∨ q + 18 ≤ o → g' o = g o) ∧ (∀ j, j < 8 → g' (q + j) = wordG (applyW b (hs.take (pos - gone))) j) ∧
      (∀ j, j < 8 → g' (q + 8 + j) = g (q + 8 + j)) ∧ g' (q + 16) = hv' ∧ g' (q + 17) = .int .u64 ((gone + (pos - gone) : Nat) : Int) ∧ Hist w' base hv' (hs.drop (pos - gone)) ∧ Only (fun b => b = lb ∨ hv.ownBlock = some b) w w' ∧ hv'.ownBlock = hv.ownBlock) := by
  have c17 := hB.cell (o := q + 17) (by omega)
  rw [hgo] at c17
  by_cases hlt : gone < pos
  · have HP := Lib.hid (persist_any w lb N q (pos - gone) gone base hv b hs g hB hq hb hg hgo hown hne (by omega) hF hsum)
    have hsub : (pos : Int) - (gone : Int) = ((pos - gone : Nat) : Int) := by omega
    clear hB hb hg hgo hown hne hF
    obtain ⟨k, hk2⟩ : ∃ k, pos - gone = k := ⟨_, rfl⟩
    rw [hk2] at hsub HP ⊢
    have hkb : k ≤ 4294967295 := by omega
    clear hk2
    go_enter Try.func63, Try.ntmps63
    go_wp2_with (go_at_call 65; refine HP.out.mono ?_; rintro e w1 ⟨rfl, HQ⟩)
    go_end0
    exact ⟨rfl, HQ⟩
  · have h0 : pos - gone = 0 := by omega
    rw [h0]
    have HQ : Hid (Blk w lb 106 N g ∧ (∀ o, o < q ∨ q + 18 ≤ o → g o = g o) ∧ (∀ j, j < 8 → g (q + j) = wordG (applyW b (hs.take 0)) j) ∧
      (∀ j, j < 8 → g (q + 8 + j) = g (q + 8 + j)) ∧ g (q + 16) = hv ∧ g (q + 17) = .int .u64 ((gone + 0 : Nat) : Int) ∧ Hist w base hv (hs.drop 0) ∧ Only (fun b => b = lb ∨ hv.ownBlock = some b) w w ∧ hv.ownBlock = hv.ownBlock) :=
      Lib.hid ⟨hB, fun _ _ => rfl, fun j hj => by rw [List.take_zero]; exact hb j hj, fun _ _ => rfl, hg, hgo, by rw [List.drop_zero]; exact hown, Only.refl _ _, rfl⟩
    clear hB hb hg hgo hown hne hF h0
    go_enter Try.func63, Try.ntmps63
    go_wp2
    go_end0
    obtain ⟨q1, _, q3, _, q5, q6, q7, q8, _⟩ := HQ.out
    exact ⟨rfl, hv, g, Lib.hid ⟨q1, fun _ _ => rfl, by simpa using q3, fun _ _ => rfl, q5, by simpa using q6, by simpa using q7, q8, rfl⟩⟩
end Go.Proofs.Ytbonponclcehiaa.Dev
/-
  THE DEVICE AS DATA: its state, its operations, and what it is for blocks of memory to hold a device in that state.
-/
namespace Go.Proofs.Ytbonponclcehiaa.Dev
open Go.ChangeShapes Go.WideShapes Go.ChangeAt Go.RowKit Go.Proofs.Ytbonponclcehiaa.Mem
structure St where
  n : Nat
  pers : Nat → Nat → Nat
  hist : Nat → List (Nat × Nat)
  gone : Nat → Nat
  notes : Nat → List (Nat × Nat)
  err : Nat → Nat
  ex : Nat
  off : Bool
  left : Option Nat
namespace St
def cur (S : St) (i : Nat) : Nat → Nat := applyW (S.pers i) (S.hist i)
def setErr (S : St) (t e : Nat) : St := { S with err := fun u => if u = t ∧ S.err t = 0 then e else S.err u }
/-- Is the instruction admitted? -/
def may (S : St) (v : Bool) : Bool := !S.off && v
def mayS (S : St) (t : Nat) (v : Bool) : St := if S.off then S.setErr t 3 else if v then S else S.setErr t 2
/-- A counted instruction. -/
def tickS (S : St) : St := { S with left := S.left.map (· - 1), ex := S.ex + 1 }
def dead (S : St) : Bool := S.left == some 0
def tk (S : St) : St := if S.dead then { S with off := true } else S.tickS
def cntS (S : St) (t : Nat) (v : Bool) : St :=
  if S.off then S.setErr t 3 else if v then (if S.dead then S.tk.setErr t 3 else S.tk) else S.setErr t 2
def cnt (S : St) (v : Bool) : Bool := !S.off && v && !S.dead
def isW (S : St) (o : Nat) : Bool := decide (o % 8 = 0) && decide (o < S.n * 64)
def val (S : St) (o : Nat) : Nat := S.cur (o / 64) (o / 8 % 8)
def put (S : St) (o x : Nat) : St := { S with hist := fun i => if i = o / 64 then S.hist i ++ [(o, x)] else S.hist i }
def pst (S : St) (l k : Nat) : St :=
  { S with pers := fun i => if i = l then applyW (S.pers i) ((S.hist i).take k) else S.pers i,
           hist := fun i => if i = l then (S.hist i).drop k else S.hist i,
           gone := fun i => if i = l then S.gone i + k else S.gone i }
def loadS (S : St) (t o : Nat) : St := S.mayS t (S.isW o)
def load (S : St) (o : Nat) : Nat := if S.may (S.isW o) then S.val o else 0
def storeS (S : St) (t o x : Nat) : St := if S.cnt (S.isW o) then (S.cntS t (S.isW o)).put o x else S.cntS t (S.isW o)
def cas (S : St) (o old : Nat) : Bool := S.cnt (S.isW o) && S.val o == old
def casS (S : St) (t o old x : Nat) : St := if S.cas o old then (S.cntS t (S.isW o)).put o x else S.cntS t (S.isW o)
def flushV (S : St) (o : Nat) : Bool := decide (o < S.n * 64)
def note (S : St) (t l at_ : Nat) : St := { S with notes := fun u => if u = t then (S.notes t).filter (fun p => p.1 != l) ++ [(l, at_)] else S.notes u }
def flushS (S : St) (t o : Nat) : St :=
  if S.cnt (S.flushV o) then (S.cntS t (S.flushV o)).note t (o / 64) (S.gone (o / 64) + (S.hist (o / 64)).length) else S.cntS t (S.flushV o)
/-- The first f i stores of each line i are persisted. -/
def pstF (S : St) (f : Nat → Nat) : St :=
  { S with pers := fun i => applyW (S.pers i) ((S.hist i).take (f i)), hist := fun i => (S.hist i).drop (f i), gone := fun i => S.gone i + f i }
/-- How many stores of line i a fence persists that has these notes. -/
def kof (S : St) (l : List (Nat × Nat)) (i : Nat) : Nat := match l.find? (fun p => p.1 == i) with
  | some p => p.2 - S.gone i
  | none => 0
def clr (S : St) (t : Nat) : St := { S with notes := fun u => if u = t then [] else S.notes u }
def fenceS (S : St) (t : Nat) : St := if S.cnt true then ((S.cntS t true).pstF (S.kof (S.notes t))).clr t else S.cntS t true
def wb (S : St) (l k : Int) : Bool := !S.off && decide (0 ≤ l) && decide (l < S.n) && decide (0 ≤ k) && decide (k ≤ ((S.hist l.toNat).length : Int))
def wbS (S : St) (l k : Int) : St := if S.wb l k then S.pst l.toNat k.toNat else S
def armS (S : St) (m : Int) : St := if S.off then S else { S with left := if 0 ≤ m then some m.toNat else none }
/-- What every state has. M bounds all counts. -/
structure Ok (S : St) (M : Nat) : Prop where
  n0 : 1 ≤ S.n
  n1 : S.n ≤ 4096
  pers : ∀ i j, S.pers i j < 18446744073709551616
  hist : ∀ i, ∀ p ∈ S.hist i, p.1 / 64 = i ∧ p.1 % 8 = 0 ∧ p.1 < S.n * 64 ∧ p.2 < 18446744073709551616
  sum : ∀ i, S.gone i + (S.hist i).length ≤ M
  ex : S.ex ≤ M
  err : ∀ t, S.err t ≤ 3
  left : ∀ m, S.left = some m → m ≤ 9223372036854775807
  note : ∀ t, ∀ p ∈ S.notes t, p.1 < S.n ∧ p.2 ≤ S.gone p.1 + (S.hist p.1).length
  keys : ∀ t, (S.notes t).Pairwise (fun p q => p.1 ≠ q.1)
  cnt : ∀ t, (S.notes t).length ≤ 4096
end St
/-- Where a device lies: its own block, its lines' block, the histories' slices, the notes' maps. -/
structure Adr where
  d : Nat
  lb : Nat
  hv : Nat → Value
  mv : Nat → Option Nat
def Adr.foot (A : Adr) (n b : Nat) : Prop := b = A.d ∨ b = A.lb ∨ (∃ i, i < n ∧ (A.hv i).ownBlock = some b) ∨ ∃ t, t < 8 ∧ A.mv t = some b
structure Apart (n : Nat) (A : Adr) : Prop where
  dl : A.d ≠ A.lb
  hd : ∀ i, i < n → (A.hv i).ownBlock ≠ some A.d
  hl : ∀ i, i < n → (A.hv i).ownBlock ≠ some A.lb
  hh : ∀ i j, i < n → j < n → i ≠ j → ∀ b, (A.hv i).ownBlock = some b → (A.hv j).ownBlock ≠ some b
  md : ∀ t, t < 8 → A.mv t ≠ some A.d
  ml : ∀ t, t < 8 → A.mv t ≠ some A.lb
  mh : ∀ t i, t < 8 → i < n → ∀ b, A.mv t = some b → (A.hv i).ownBlock ≠ some b
  mm : ∀ t u, t < 8 → u < 8 → t ≠ u → ∀ b, A.mv t = some b → A.mv u ≠ some b
def devG (A : Adr) (S : St) (o : Nat) : Value :=
  if o = 0 then .slice (some ⟨A.lb, 0, none⟩) S.n S.n
  else if o < 33 then
    (if (o - 1) % 4 = 0 then .pointer (some ⟨A.d, 0, none⟩) else if (o - 1) % 4 = 1 then .int .i64 (((o - 1) / 4 : Nat) : Int)
     else if (o - 1) % 4 = 2 then .int .i64 (S.err ((o - 1) / 4) : Int) else .map (A.mv ((o - 1) / 4)))
  else if o = 33 then .int .u64 (S.ex : Int) else if o = 34 then .bool S.off else if o = 35 then .bool S.left.isSome else .int .i64 ((S.left.getD 0 : Nat) : Int)
def linesG (A : Adr) (S : St) (o : Nat) : Value :=
  if o % 18 < 8 then wordG (S.pers (o / 18)) (o % 18) else if o % 18 < 16 then wordG (S.cur (o / 18)) (o % 18 - 8) else if o % 18 = 16 then A.hv (o / 18) else .int .u64 (S.gone (o / 18) : Int)
def MapAt (w : World) (b m : Nat) (l : List (Nat × Nat)) : Prop :=
  ∃ (n : Nat) (D : DataW Unit), n ≤ m ∧ w.ownsMap Try.prog 3 (plainElem Try.prog 40) b n D ∧ (∀ k, Maps.has D k = true ↔ ∃ p ∈ l, k = Lit.int .i64 (p.1 : Int)) ∧ ∀ p ∈ l, ∀ z, D.atKey (Lit.int .i64 (p.1 : Int)) z = .lit (.int .u64 (p.2 : Int))
structure IsDev (w : World) (base : Nat) (A : Adr) (S : St) : Prop where
  dev : Blk w A.d 98 37 (devG A S)
  lines : Blk w A.lb 106 (S.n * 18) (linesG A S)
  hist : ∀ i, i < S.n → Hist w base (A.hv i) (S.hist i)
  maps : ∀ t, t < 8 → (A.mv t = none ∧ S.notes t = []) ∨ ∃ b, A.mv t = some b ∧ base ≤ b ∧ MapAt w b S.ex (S.notes t)
  apart : Apart S.n A
  bd : base ≤ A.d
  bl : base ≤ A.lb
end Go.Proofs.Ytbonponclcehiaa.Dev
/-
  DEVICE: the functions that touch the device's own block alone: fail, tick, Lines, Size, isWord, admit, count, Off, Executed, Arm, Err, ID, Thread.
-/
namespace Go.Proofs.Ytbonponclcehiaa.Dev
open Go.ChangeShapes Go.WideShapes Go.ChangeAt Go.RowKit Go.Proofs.Ytbonponclcehiaa.Mem
theorem devG_ptr (A : Adr) (S : St) {t : Nat} (ht : t < 8) : devG A S (1 + t * 4) = .pointer (some ⟨A.d, 0, none⟩) := by
  unfold devG; rw [if_neg (by omega), if_pos (by omega), if_pos (by omega)]
theorem devG_id (A : Adr) (S : St) {t : Nat} (ht : t < 8) : devG A S (1 + t * 4 + 1) = .int .i64 (t : Int) := by
  unfold devG; rw [if_neg (by omega), if_pos (by omega), if_neg (by omega), if_pos (by omega), show (1 + t * 4 + 1 - 1) / 4 = t by omega]
theorem devG_err (A : Adr) (S : St) {t : Nat} (ht : t < 8) : devG A S (1 + t * 4 + 2) = .int .i64 (S.err t : Int) := by
  unfold devG; rw [if_neg (by omega), if_pos (by omega), if_neg (by omega), if_neg (by omega), if_pos (by omega), show (1 + t * 4 + 2 - 1) / 4 = t by omega]
theorem devG_map (A : Adr) (S : St) {t : Nat} (ht : t < 8) : devG A S (1 + t * 4 + 3) = .map (A.mv t) := by
  unfold devG; rw [if_neg (by omega), if_pos (by omega), if_neg (by omega), if_neg (by omega), if_neg (by omega), show (1 + t * 4 + 3 - 1) / 4 = t by omega]
/-- The device's block alone. -/
def DB (w : World) (A : Adr) (S : St) : Prop := Blk w A.d 98 37 (devG A S)
theorem St.setErr_same (S : St) (t e : Nat) (h : S.err t ≠ 0) : S.setErr t e = S := by
  have e1 : (fun u => if u = t ∧ S.err t = 0 then e else S.err u) = S.err := by funext u; rw [if_neg (fun h' => h h'.2)]
  unfold St.setErr
  rw [e1]
theorem DB.setErr {w : World} {A : Adr} {S : St} (h : DB w A S) {t : Nat} (ht : t < 8) (e : Nat) (h0 : S.err t = 0) : DB (w.setCell ⟨A.d, 1 + t * 4 + 2, none⟩ (.int .i64 (e : Int))) A (S.setErr t e) := by
  refine (Blk.set h (1 + t * 4 + 2) (.int .i64 (e : Int))).ext fun o ho => ?_
  by_cases h1 : o = 1 + t * 4 + 2
  · subst h1; rw [upd_same, devG_err _ _ ht]; simp [St.setErr, h0]
  · rw [upd_other _ _ h1]
    unfold devG St.setErr
    simp only
    by_cases h2 : (o - 1) % 4 = 2
    · simp only [h2, show ¬ ((o - 1) / 4 = t) by omega, false_and, if_false]
    · simp only [h2, if_false]
theorem fail_any (w : World) (A : Adr) (S : St) (t e : Nat) (h : DB w A S) (ht : t < 8) (he : e ≤ 3) :
    Calls Try.prog 82 #[.pointer (some ⟨A.d, 1 + t * 4, none⟩), .int .i64 (e : Int)] w fun r w' => r = .returned (.tuple #[]) ∧ Hid (DB w' A (S.setErr t e) ∧ Only (fun b => b = A.d) w w') := by
  have hc := h.cell (o := 1 + t * 4 + 2) (by omega)
  have hz := h.frozen (1 + t * 4 + 2)
  rw [devG_err _ _ ht] at hc
  have HD := Lib.hid h
  clear h
  by_cases h0 : S.err t = 0
  · have H0 := Lib.hid h0
    rw [h0] at hc
    clear h0
    go_enter Try.func82, Try.ntmps82
    go_wp2
    go_end0
    exact ⟨rfl, Lib.hid ⟨HD.out.setErr ht e H0.out, (Only.refl _ _).set _ _ (.inl rfl)⟩⟩
  · have hb : ((S.err t : Int) == 0) = false := by simp; omega
    have HS := Lib.hid (S.setErr_same t e h0)
    generalize hE : S.err t = E at hc hb
    clear h0 hE
    go_enter Try.func82, Try.ntmps82
    go_wp2
    go_end0
    exact ⟨rfl, Lib.hid ⟨by rw [HS.out]; exact HD.out, Only.refl _ _⟩⟩
theorem devG_upd (A : Adr) (S S' : St) (k : Nat) (v : Value) (hk : devG A S' k = v) (ho : ∀ o, o < 37 → o ≠ k → devG A S' o = devG A S o) : ∀ o, o < 37 → devG A S' o = upd (devG A S) k v o := fun o h => by
  by_cases h1 : o = k
  · subst h1; rw [upd_same, hk]
  · rw [upd_other _ _ h1, ho o h h1]
theorem DB.off {w : World} {A : Adr} {S : St} (h : DB w A S) : DB (w.setCell ⟨A.d, 34, none⟩ (.bool true)) A { S with off := true } :=
  (Blk.set h 34 (.bool true)).ext (devG_upd A S _ 34 _ rfl fun o ho h1 => by
    unfold devG
    simp only
    rw [if_neg h1, if_neg h1])
theorem DB.ticked {w : World} {A : Adr} {S : St} (h : DB w A S) (h0 : S.left = none) : DB (w.setCell ⟨A.d, 33, none⟩ (.int .u64 ((S.ex + 1 : Nat) : Int))) A S.tickS :=
  (Blk.set h 33 _).ext (devG_upd A S _ 33 _ rfl fun o ho h1 => by
    unfold devG St.tickS
    simp only [h0, Option.map_none]
    rw [if_neg h1, if_neg h1])
theorem DB.ticked' {w : World} {A : Adr} {S : St} {m : Nat} (h : DB w A S) (h0 : S.left = some (m + 1)) : DB ((w.setCell ⟨A.d, 36, none⟩ (.int .i64 (m : Int))).setCell ⟨A.d, 33, none⟩ (.int .u64 ((S.ex + 1 : Nat) : Int))) A S.tickS := by
  refine (Blk.set (Blk.set h 36 (.int .i64 (m : Int))) 33 _).ext fun o ho => ?_
  by_cases h1 : o = 33
  · subst h1; rw [upd_same]; rfl
  · rw [upd_other _ _ h1]
    by_cases h2 : o = 36
    · subst h2; rw [upd_same]; unfold devG St.tickS; simp [h0]
    · rw [upd_other _ _ h2]
      unfold devG St.tickS
      simp only [h0, Option.map_some, Option.isSome_some]
      by_cases h3 : o = 0
      · simp [h3]
      · by_cases h4 : o < 33
        · simp [h3, h4]
        · by_cases h5 : o = 34
          · simp [h5]
          · by_cases h6 : o = 35
            · simp [h6]
            · omega
theorem tick_any (w : World) (A : Adr) (S : St) (h : DB w A S) (hx : S.ex ≤ 4294967295) (hm : ∀ m, S.left = some m → m ≤ 9223372036854775807) :
    Calls Try.prog 81 #[.pointer (some ⟨A.d, 0, none⟩)] w fun r w' => r = .returned (.bool (!S.dead)) ∧ Hid (DB w' A S.tk ∧ Only (fun b => b = A.d) w w') := by
  have c33 := h.cell (o := 33) (by omega)
  have c34 := h.cell (o := 34) (by omega)
  have c35 := h.cell (o := 35) (by omega)
  have c36 := h.cell (o := 36) (by omega)
  have z33 := h.frozen 33
  have z34 := h.frozen 34
  have z36 := h.frozen 36
  rw [show devG A S 33 = .int .u64 (S.ex : Int) from rfl] at c33
  rw [show devG A S 34 = .bool S.off from rfl] at c34
  rw [show devG A S 35 = .bool S.left.isSome from rfl] at c35
  rw [show devG A S 36 = .int .i64 ((S.left.getD 0 : Nat) : Int) from rfl] at c36
  have HD := Lib.hid h
  clear h
  rcases hL : S.left with _ | m
  · have H1 := Lib.hid (HD.out.ticked hL)
    have hdd : S.dead = false := by simp [St.dead, hL]
    have HT := Lib.hid (show S.tk = S.tickS by simp [St.tk, hdd])
    rw [hdd]
    clear hdd
    rw [hL] at c35 c36
    simp only [Option.isSome_none, Option.getD_none] at c35 c36
    clear hL hm c34 z34
    generalize S.ex = X at *
    go_enter Try.func81, Try.ntmps81
    go_wp2
    go_ret
    exact ⟨rfl, Lib.hid ⟨by rw [HT.out]; exact H1.out, (Only.refl _ _).set _ _ (.inl rfl)⟩⟩
  · rcases m with _ | m
    · have H1 := Lib.hid HD.out.off
      have hdd : S.dead = true := by simp [St.dead, hL]
      have HT := Lib.hid (show S.tk = { S with off := true } by simp [St.tk, hdd])
      rw [hdd]
      clear hdd
      rw [hL] at c35 c36
      simp only [Option.isSome_some, Option.getD_some] at c35 c36
      have c36' : w.cell? ⟨A.d, 36, none⟩ = some (.int .i64 0) := c36
      clear hL hm c36 c33 z33
      go_enter Try.func81, Try.ntmps81
      go_wp2
      go_ret
      exact ⟨rfl, Lib.hid ⟨by rw [HT.out]; exact H1.out, (Only.refl _ _).set _ _ (.inl rfl)⟩⟩
    · have H1 := Lib.hid (HD.out.ticked' hL)
      have hdd : S.dead = false := by simp [St.dead, hL]
      have HT := Lib.hid (show S.tk = S.tickS by simp [St.tk, hdd])
      rw [hdd]
      clear hdd
      have hm' := hm _ hL
      rw [hL] at c35 c36
      simp only [Option.isSome_some, Option.getD_some] at c35 c36
      have hb : (((m + 1 : Nat) : Int) == 0) = false := by simp; omega
      obtain ⟨m1, hm1⟩ : ∃ m1, m + 1 = m1 := ⟨_, rfl⟩
      have hms : (m1 : Int) - 1 = (m : Int) := by omega
      rw [hm1] at c36 hb hm'
      have HN := Lib.hid hm1
      clear hL hm c34 z34 hm1
      generalize S.ex = X at *
      go_enter Try.func81, Try.ntmps81
      go_wp2
      go_ret
      exact ⟨rfl, Lib.hid ⟨by rw [HT.out]; exact H1.out, (((Only.refl (fun b => b = A.d) w).set _ _ (.inl rfl)).set _ _ (.inl rfl))⟩⟩
end Go.Proofs.Ytbonponclcehiaa.Dev
/-
  DEVICE: Lines, Size, isWord, admit, count.
-/
namespace Go.Proofs.Ytbonponclcehiaa.Dev
open Go.ChangeShapes Go.WideShapes Go.ChangeAt Go.RowKit Go.Proofs.Ytbonponclcehiaa.Mem
theorem DB.c0 {w : World} {A : Adr} {S : St} (h : DB w A S) : w.cell? ⟨A.d, 0, none⟩ = some (.slice (some ⟨A.lb, 0, none⟩) S.n S.n) := by
  have := h.cell (o := 0) (by omega)
  simpa [devG] using this
theorem DB.cOff {w : World} {A : Adr} {S : St} (h : DB w A S) : w.cell? ⟨A.d, 34, none⟩ = some (.bool S.off) := by
  rw [h.cell (o := 34) (by omega)]; rfl
theorem DB.cPtr {w : World} {A : Adr} {S : St} (h : DB w A S) {t : Nat} (ht : t < 8) : w.cell? ⟨A.d, 1 + t * 4, none⟩ = some (.pointer (some ⟨A.d, 0, none⟩)) := by
  rw [h.cell (o := 1 + t * 4) (by omega), devG_ptr _ _ ht]
theorem lines_any (w : World) (A : Adr) (S : St) (h : DB w A S) :
    Calls Try.prog 25 #[.pointer (some ⟨A.d, 0, none⟩)] w fun r w' => r = .returned (.int .i64 (S.n : Int)) ∧ w' = w := by
  have c0 := h.c0
  clear h
  go_enter Try.func25, Try.ntmps25
  go_wp2
  go_ret
  exact ⟨rfl, rfl⟩
theorem lines_nil (w : World) : Calls Try.prog 25 #[.pointer none] w fun r w' => r = .returned (.int .i64 0) ∧ w' = w := by
  go_enter Try.func25, Try.ntmps25
  go_wp2
  go_ret
  exact ⟨rfl, rfl⟩
theorem size_any (w : World) (A : Adr) (S : St) (h : DB w A S) (hn : S.n ≤ 4096) :
    Calls Try.prog 26 #[.pointer (some ⟨A.d, 0, none⟩)] w fun r w' => r = .returned (.int .u64 ((S.n * 64 : Nat) : Int)) ∧ w' = w := by
  have HL := Lib.hid (lines_any w A S h)
  obtain ⟨n, hnn⟩ : ∃ n, S.n = n := ⟨_, rfl⟩
  rw [hnn] at hn HL ⊢
  clear h hnn
  go_enter Try.func26, Try.ntmps26
  go_wp2_with (go_at_call 25; refine HL.out.mono ?_; rintro e w' ⟨rfl, rfl⟩)
  go_ret
  exact ⟨ret_int (by simp), rfl⟩
theorem size_nil (w : World) : Calls Try.prog 26 #[.pointer none] w fun r w' => r = .returned (.int .u64 0) ∧ w' = w := by
  go_enter Try.func26, Try.ntmps26
  go_wp2_with (go_at_call 25; refine (lines_nil w).mono ?_; rintro e w' ⟨rfl, rfl⟩)
  go_ret
  exact ⟨rfl, rfl⟩
theorem tsize_any (w : World) (A : Adr) (S : St) (t : Nat) (h : DB w A S) (ht : t < 8) (hn : S.n ≤ 4096) :
    Calls Try.prog 38 #[.pointer (some ⟨A.d, 1 + t * 4, none⟩)] w fun r w' => r = .returned (.int .u64 ((S.n * 64 : Nat) : Int)) ∧ w' = w := by
  have HL := Lib.hid (size_any w A S h hn)
  have c := h.cPtr ht
  generalize ((S.n * 64 : Nat) : Int) = n at *
  clear h
  go_enter Try.func38, Try.ntmps38
  go_wp2_with (go_at_call 26; refine HL.out.mono ?_; rintro e w' ⟨rfl, rfl⟩)
  go_ret
  exact ⟨rfl, rfl⟩
theorem isWord_any (w : World) (A : Adr) (S : St) (t o : Nat) (h : DB w A S) (ht : t < 8) (hn : S.n ≤ 4096) (ho : o < 18446744073709551616) :
    Calls Try.prog 59 #[.pointer (some ⟨A.d, 1 + t * 4, none⟩), .int .u64 (o : Int)] w fun r w' => r = .returned (.bool (S.isW o)) ∧ w' = w := by
  have HL := Lib.hid (tsize_any w A S t h ht hn)
  obtain ⟨z, hz⟩ : ∃ z, S.n * 64 = z := ⟨_, rfl⟩
  have HE : Hid (S.isW o = (decide (o % 8 = 0) && decide (o < z))) := by rw [← hz]; rfl
  rw [hz] at HL
  clear hz h
  by_cases h8 : o % 8 = 0
  · have hb : (((o : Int) % 8) == 0) = true := by simp; omega
    have hb2 : (((o : Int).tmod 8) == 0) = true := by rw [Int.tmod_eq_emod_of_nonneg (by omega)]; exact hb
    go_enter Try.func59, Try.ntmps59
    go_wp2_with (go_at_call 38; refine HL.out.mono ?_; rintro e w' ⟨rfl, rfl⟩)
    go_ret
    exact ⟨ret_bool (by rw [HE.out, decide_eq_true h8, Bool.true_and]), rfl⟩
  · have hb : (((o : Int) % 8) == 0) = false := by simp; omega
    have hb2 : (((o : Int).tmod 8) == 0) = false := by rw [Int.tmod_eq_emod_of_nonneg (by omega)]; exact hb
    go_enter Try.func59, Try.ntmps59
    go_wp2_with (go_at_call 38; refine HL.out.mono ?_; rintro e w' ⟨rfl, rfl⟩)
    go_ret
    exact ⟨ret_bool (by rw [HE.out, decide_eq_false h8, Bool.false_and]), rfl⟩
theorem admit_any (w : World) (A : Adr) (S : St) (t : Nat) (v : Bool) (h : DB w A S) (ht : t < 8) :
    Calls Try.prog 71 #[.pointer (some ⟨A.d, 1 + t * 4, none⟩), .bool v] w fun r w' => r = .returned (.bool (S.may v)) ∧ Hid (DB w' A (S.mayS t v) ∧ Only (fun b => b = A.d) w w') := by
  have cp := h.cPtr ht
  have co := h.cOff
  have HD := Lib.hid h
  have HF := fun e he => Lib.hid (fail_any w A S t e h ht he)
  have HF3 := HF 3 (by omega)
  have HF2 := HF 2 (by omega)
  clear h HF
  by_cases h1 : S.off = true
  · have HE : Hid (S.may v = false ∧ S.mayS t v = S.setErr t 3) := by simp [Hid, St.may, St.mayS, h1]
    rw [h1] at co
    clear h1
    go_enter Try.func71, Try.ntmps71
    go_wp2_with (go_at_call 82; refine HF3.out.mono ?_; rintro e w' ⟨rfl, HQ⟩)
    go_ret
    exact ⟨ret_bool HE.out.1.symm, Lib.hid (by rw [HE.out.2]; exact HQ.out)⟩
  · rw [show S.off = false by simpa using h1] at co
    cases v
    · have HE : Hid (S.may false = false ∧ S.mayS t false = S.setErr t 2) := by simp [Hid, St.may, St.mayS, h1]
      clear h1
      go_enter Try.func71, Try.ntmps71
      go_wp2_with (go_at_call 82; refine HF2.out.mono ?_; rintro e w' ⟨rfl, HQ⟩)
      go_ret
      exact ⟨ret_bool HE.out.1.symm, Lib.hid (by rw [HE.out.2]; exact HQ.out)⟩
    · have HE : Hid (S.may true = true ∧ S.mayS t true = S) := by simp [Hid, St.may, St.mayS, h1]
      clear h1
      go_enter Try.func71, Try.ntmps71
      go_wp2_with (go_at_call 82; refine HF2.out.mono ?_; rintro e w' ⟨rfl, HQ⟩)
      go_ret
      exact ⟨ret_bool HE.out.1.symm, Lib.hid (by rw [HE.out.2]; exact ⟨HD.out, Only.refl _ _⟩)⟩
theorem count_any (w : World) (A : Adr) (S : St) (t : Nat) (v : Bool) (h : DB w A S) (ht : t < 8) (hx : S.ex ≤ 4294967295) (hm : ∀ m, S.left = some m → m ≤ 9223372036854775807) :
    Calls Try.prog 58 #[.pointer (some ⟨A.d, 1 + t * 4, none⟩), .bool v] w fun r w' => r = .returned (.bool (S.cnt v)) ∧ Hid (DB w' A (S.cntS t v) ∧ Only (fun b => b = A.d) w w') := by
  have HA := Lib.hid (admit_any w A S t v h ht)
  by_cases h1 : S.may v = true
  · have h2 : S.off = false ∧ v = true := by simpa [St.may] using h1
    obtain ⟨hoff, rfl⟩ := h2
    have HT := Lib.hid (show S.mayS t true = S by simp [St.mayS, hoff])
    have hx2 := Lib.hid hx
    have hm2 := Lib.hid hm
    rw [h1] at HA
    have HE : Hid (S.cnt true = !S.dead ∧ S.cntS t true = if S.dead then S.tk.setErr t 3 else S.tk) := by simp [Hid, St.cnt, St.cntS, hoff]
    clear h h1 hoff hx hm
    cases hd : S.dead
    · have HD2 := Lib.hid hd
      clear hd
      go_enter Try.func58, Try.ntmps58
      go_wp2_with (first
        | (go_at_call 71; refine HA.out.mono ?_; rintro e w1 ⟨rfl, HQ⟩; rw [HT.out] at HQ; have cp := HQ.out.1.cPtr ht)
        | (go_at_call 81; refine (tick_any _ A S HQ.out.1 hx2.out hm2.out).mono ?_; rintro e w2 ⟨he, HR⟩; rw [HD2.out] at he; simp only [Bool.not_false] at he; subst he))
      go_ret
      exact ⟨ret_bool (by rw [HE.out.1, HD2.out]; rfl), Lib.hid ⟨by rw [HE.out.2, HD2.out]; exact HR.out.1, HQ.out.2.trans HR.out.2⟩⟩
    · have HD2 := Lib.hid hd
      clear hd
      go_enter Try.func58, Try.ntmps58
      go_wp2_with (first
        | (go_at_call 71; refine HA.out.mono ?_; rintro e w1 ⟨rfl, HQ⟩; rw [HT.out] at HQ; have cp := HQ.out.1.cPtr ht)
        | (go_at_call 81; refine (tick_any _ A S HQ.out.1 hx2.out hm2.out).mono ?_; rintro e w2 ⟨he, HR⟩; rw [HD2.out] at he; simp only [Bool.not_true] at he; subst he)
        | (go_at_call 82; refine (fail_any _ A S.tk t 3 HR.out.1 ht (by omega)).mono ?_; rintro e w3 ⟨rfl, HZ⟩))
      go_ret
      exact ⟨ret_bool (by rw [HE.out.1, HD2.out]; rfl), Lib.hid ⟨by rw [HE.out.2, HD2.out]; exact HZ.out.1, (HQ.out.2.trans HR.out.2).trans HZ.out.2⟩⟩
  · have h1' : S.may v = false := by simpa using h1
    have HE : Hid (S.cnt v = false ∧ S.cntS t v = S.mayS t v) := by
      unfold Hid St.cnt St.cntS St.mayS
      unfold St.may at h1'
      cases hoff : S.off <;> cases v <;> simp_all
    rw [h1'] at HA
    clear h h1 h1' hx hm
    go_enter Try.func58, Try.ntmps58
    go_wp2_with (go_at_call 71; refine HA.out.mono ?_; rintro e w1 ⟨rfl, HQ⟩)
    go_ret
    exact ⟨ret_bool HE.out.1.symm, Lib.hid (by rw [HE.out.2]; exact HQ.out)⟩
end Go.Proofs.Ytbonponclcehiaa.Dev
/-
  DEVICE: what a change of one part leaves of the whole.
-/
namespace Go.Proofs.Ytbonponclcehiaa.Dev
open Go.ChangeShapes Go.WideShapes Go.ChangeAt Go.RowKit Go.Proofs.Ytbonponclcehiaa.Mem
structure SameData (S S' : St) : Prop where
  n : S'.n = S.n
  pers : S'.pers = S.pers
  hist : S'.hist = S.hist
  gone : S'.gone = S.gone
  notes : S'.notes = S.notes
  ex : S.ex ≤ S'.ex
theorem SameData.refl (S : St) : SameData S S := ⟨rfl, rfl, rfl, rfl, rfl, Nat.le_refl _⟩
theorem SameData.setErr (S : St) (t e : Nat) : SameData S (S.setErr t e) := ⟨rfl, rfl, rfl, rfl, rfl, Nat.le_refl _⟩
theorem SameData.trans {S S' S'' : St} (h : SameData S S') (k : SameData S' S'') : SameData S S'' := ⟨k.n.trans h.n, k.pers.trans h.pers, k.hist.trans h.hist, k.gone.trans h.gone, k.notes.trans h.notes, Nat.le_trans h.ex k.ex⟩
theorem SameData.tk (S : St) : SameData S S.tk := by
  unfold St.tk
  split
  · exact ⟨rfl, rfl, rfl, rfl, rfl, Nat.le_refl _⟩
  · exact ⟨rfl, rfl, rfl, rfl, rfl, Nat.le_succ _⟩
theorem SameData.mayS (S : St) (t : Nat) (v : Bool) : SameData S (S.mayS t v) := by
  unfold St.mayS
  split
  · exact .setErr _ _ _
  · split
    · exact .refl _
    · exact .setErr _ _ _
theorem SameData.cntS (S : St) (t : Nat) (v : Bool) : SameData S (S.cntS t v) := by
  unfold St.cntS
  split
  · exact .setErr _ _ _
  · split
    · split
      · exact (SameData.tk S).trans (.setErr _ _ _)
      · exact .tk _
    · exact .setErr _ _ _
/-- The device lies as before but for what the step has written. -/
def Step (w w' : World) (base : Nat) (A : Adr) (S S' : St) : Prop :=
  ∃ A', A'.d = A.d ∧ A'.lb = A.lb ∧ IsDev w' base A' S' ∧ Only (A.foot S.n) w w' ∧ ∀ b, A'.foot S.n b → A.foot S.n b ∨ w.heap.size ≤ b
theorem linesG_ext {A A' : Adr} {S S' : St} {o : Nat} (h1 : S'.pers (o / 18) = S.pers (o / 18)) (h2 : S'.hist (o / 18) = S.hist (o / 18)) (h3 : S'.gone (o / 18) = S.gone (o / 18)) (h4 : A'.hv (o / 18) = A.hv (o / 18)) : linesG A' S' o = linesG A S o := by
  unfold linesG St.cur
  rw [h1, h2, h3, h4]
section
variable {w w' : World} {base : Nat} {A : Adr} {S S' : St}
theorem IsDev.db (h : IsDev w base A S) : DB w A S := h.dev
theorem IsDev.ownLt (h : IsDev w base A S) : ∀ b, A.foot S.n b → b < w.heap.size := fun b hb => by
  rcases hb with rfl | rfl | ⟨i, hi, hb⟩ | ⟨t, ht, hb⟩
  · exact h.dev.lt
  · exact h.lines.lt
  · exact ((h.hist i hi).lt b hb).2
  · rcases h.maps t ht with ⟨h1, _⟩ | ⟨c, h1, _, n, D, _, h2, _⟩
    · rw [h1] at hb; cases hb
    · rw [h1] at hb; cases hb
      exact h2.lt
theorem IsDev.baseLe (h : IsDev w base A S) : ∀ b, A.foot S.n b → base ≤ b := fun b hb => by
  rcases hb with rfl | rfl | ⟨i, hi, hb⟩ | ⟨t, ht, hb⟩
  · exact h.bd
  · exact h.bl
  · exact ((h.hist i hi).lt b hb).1
  · rcases h.maps t ht with ⟨h1, _⟩ | ⟨c, h1, h2, _⟩
    · rw [h1] at hb; cases hb
    · rw [h1] at hb; cases hb
      exact h2
theorem MapAt.mono {b m m' : Nat} {l : List (Nat × Nat)} (h : MapAt w b m l) (hm : m ≤ m') : MapAt w b m' l := by
  obtain ⟨n, D, h1, h2⟩ := h
  exact ⟨n, D, Nat.le_trans h1 hm, h2⟩
theorem MapAt.of_block {b m : Nat} {l : List (Nat × Nat)} (h : MapAt w b m l) (he : w'.heap[b]? = w.heap[b]?) : MapAt w' b m l := by
  obtain ⟨n, D, h0, h1, h2⟩ := h
  refine ⟨n, D, h0, ?_, h2⟩
  obtain ⟨es, clock, hb, r⟩ := h1
  exact ⟨es, clock, by rw [he]; exact hb, r⟩
/-- Another world in which all its blocks are as they were. -/
theorem IsDev.only {F : Nat → Prop} (h : IsDev w base A S) (ho : Only F w w') (hn : ∀ b, A.foot S.n b → ¬ F b) : IsDev w' base A S where
  dev := ho.blk h.dev (hn _ (.inl rfl))
  lines := ho.blk h.lines (hn _ (.inr (.inl rfl)))
  hist i hi := (h.hist i hi).only ho fun b hb => hn b (.inr (.inr (.inl ⟨i, hi, hb⟩)))
  maps t ht := by
    rcases h.maps t ht with h1 | ⟨b, h1, h2, h3⟩
    · exact .inl h1
    · exact .inr ⟨b, h1, h2, h3.of_block (ho.block b (h.ownLt b (.inr (.inr (.inr ⟨t, ht, h1⟩)))) (hn b (.inr (.inr (.inr ⟨t, ht, h1⟩)))))⟩
  apart := h.apart
  bd := h.bd
  bl := h.bl
theorem IsDev.below {B : Nat} (h : IsDev w base A S) (hb : Below B w w') (hB : w.heap.size ≤ B) : IsDev w' base A S :=
  h.only (F := fun _ => False) ⟨hb.os, hb.tape, hb.output, hb.size, fun k hk _ => hb.block k (by omega)⟩ (fun _ _ h => h)
/-- The device's own block alone was written. -/
theorem IsDev.ctl (h : IsDev w base A S) (hd : DB w' A S') (ho : Only (fun b => b = A.d) w w') (hs : SameData S S') : IsDev w' base A S' where
  dev := hd
  lines := by
    have := ho.blk h.lines (fun e => h.apart.dl e.symm)
    rw [hs.n]
    exact this.ext fun o _ => linesG_ext (by rw [hs.pers]) (by rw [hs.hist]) (by rw [hs.gone]) rfl
  hist i hi := by
    rw [hs.hist]; rw [hs.n] at hi
    exact (h.hist i hi).only ho fun b hb e => h.apart.hd i hi (by rw [hb, e])
  maps t ht := by
    rw [hs.notes]
    rcases h.maps t ht with h1 | ⟨b, h1, h2, h3⟩
    · exact .inl h1
    · exact .inr ⟨b, h1, h2, (h3.of_block (ho.block b (h.ownLt b (.inr (.inr (.inr ⟨t, ht, h1⟩)))) (fun e => h.apart.md t ht (by rw [h1, e])))).mono hs.ex⟩
  apart := by rw [hs.n]; exact h.apart
  bd := h.bd
  bl := h.bl
theorem IsDev.ctlStep (h : IsDev w base A S) (hd : DB w' A S') (ho : Only (fun b => b = A.d) w w') (hs : SameData S S') : Step w w' base A S S' :=
  ⟨A, rfl, rfl, h.ctl hd ho hs, ho.mono fun b hb => .inl hb, fun b hb => .inl hb⟩
theorem Step.refl (h : IsDev w base A S) : Step w w base A S S := ⟨A, rfl, rfl, h, Only.refl _ _, fun b hb => .inl hb⟩
theorem Step.trans {w'' : World} {S'' : St} (h : Step w w' base A S S') (hn : S'.n = S.n) (k : ∀ A', A'.d = A.d → A'.lb = A.lb → IsDev w' base A' S' → Step w' w'' base A' S' S'') : Step w w'' base A S S'' := by
  obtain ⟨A', a1, a2, a3, a4, a5⟩ := h
  obtain ⟨A'', b1, b2, b3, b4, b5⟩ := k A' a1 a2 a3
  rw [hn] at b4 b5
  refine ⟨A'', b1.trans a1, b2.trans a2, b3, a4.trans' b4 a5, fun b hb => ?_⟩
  rcases b5 b hb with h1 | h1
  · exact a5 b h1
  · exact .inr (Nat.le_trans a4.size h1)
/-- Worlds that differ in no block. -/
theorem Step.after {w0 : World} (h0 : IsDev w0 base A S) (hb : Below w0.heap.size w0 w) (h : Step w w' base A S S') : Step w0 w' base A S S' := by
  obtain ⟨A', a1, a2, a3, a4, a5⟩ := h
  refine ⟨A', a1, a2, a3, (Only.ofBelow hb _).trans a4, fun b hbb => ?_⟩
  rcases a5 b hbb with h1 | h1
  · exact .inl h1
  · exact .inr (Nat.le_trans hb.size h1)
theorem Step.then (h : Step w w' base A S S') {w'' : World} (hb : Below w'.heap.size w' w'') : Step w w'' base A S S' := by
  obtain ⟨A', a1, a2, a3, a4, a5⟩ := h
  exact ⟨A', a1, a2, a3.below hb (Nat.le_refl _), a4.trans (Only.ofBelow hb _), a5⟩
theorem foot_hv {A : Adr} {n l : Nat} {hv' : Value} {m : Nat} (hown : hv'.ownBlock = (A.hv l).ownBlock ∨ ∃ b, hv'.ownBlock = some b ∧ m ≤ b) (hl : l < n) :
    ∀ b, ({ A with hv := fun i => if i = l then hv' else A.hv i } : Adr).foot n b → A.foot n b ∨ m ≤ b := fun b hb => by
  rcases hb with h | h | ⟨i, hi, h⟩ | h
  · exact .inl (.inl h)
  · exact .inl (.inr (.inl h))
  · simp only at h
    by_cases e : i = l
    · rw [if_pos e] at h
      rcases hown with h1 | ⟨c, h1, h2⟩
      · exact .inl (.inr (.inr (.inl ⟨l, hl, by rw [← h1]; exact h⟩)))
      · rw [h1] at h; cases h; exact .inr h2
    · rw [if_neg e] at h
      exact .inl (.inr (.inr (.inl ⟨i, hi, h⟩)))
  · exact .inl (.inr (.inr (.inr h)))
/-- One line was written. -/
theorem IsDev.lineI (h : IsDev w base A S) {l : Nat} (hl : l < S.n) (hn : S'.n = S.n) (hnt : S'.notes = S.notes) (her : S'.err = S.err) (hex : S'.ex = S.ex) (hof : S'.off = S.off) (hle : S'.left = S.left)
    (hot : ∀ i, i ≠ l → S'.pers i = S.pers i ∧ S'.hist i = S.hist i ∧ S'.gone i = S.gone i) (hv' : Value) (g' : Nat → Value) (hB : Blk w' A.lb 106 (S.n * 18) g') (hg : ∀ o, (o < l * 18 ∨ l * 18 + 18 ≤ o) → g' o = linesG A S o)
    (h1 : ∀ j, j < 8 → g' (l * 18 + j) = wordG (S'.pers l) j) (h2 : ∀ j, j < 8 → g' (l * 18 + 8 + j) = wordG (S'.cur l) j) (h3 : g' (l * 18 + 16) = hv') (h4 : g' (l * 18 + 17) = .int .u64 (S'.gone l : Int)) (hh : Hist w' base hv' (S'.hist l))
    (ho : Only (fun b => b = A.lb ∨ (A.hv l).ownBlock = some b) w w') (hown : hv'.ownBlock = (A.hv l).ownBlock ∨ ∃ b, hv'.ownBlock = some b ∧ w.heap.size ≤ b) : IsDev w' base { A with hv := fun i => if i = l then hv' else A.hv i } S' := by
  have fr : ∀ b, b < w.heap.size → ∀ c, hv'.ownBlock = some c → c = b → (A.hv l).ownBlock = some b := fun b hb c hc e => by
    subst e
    rcases hown with k | ⟨b', k1, k2⟩
    · rw [← k]; exact hc
    · rw [k1] at hc; cases hc; omega
  · refine ⟨?_, ?_, fun i hi => ?_, fun t ht => ?_, ?_, h.bd, h.bl⟩
    · have := ho.blk h.dev (fun e => by rcases e with e | e; exact h.apart.dl e; exact h.apart.hd l hl e)
      refine this.ext fun o _ => ?_
      unfold devG
      simp only [hn, her, hex, hof, hle]
    · rw [hn]
      refine hB.ext fun o ho' => ?_
      by_cases e : o / 18 = l
      · have e2 : o = l * 18 + o % 18 := by omega
        unfold linesG
        simp only
        by_cases k1 : o % 18 < 8
        · rw [if_pos k1, e, e2, h1 _ k1, show (l * 18 + o % 18) % 18 = o % 18 by omega]
        · by_cases k2 : o % 18 < 16
          · rw [if_neg k1, if_pos k2, e, show g' o = g' (l * 18 + 8 + (o % 18 - 8)) by congr 1; omega, h2 _ (by omega)]
          · by_cases k3 : o % 18 = 16
            · rw [if_neg k1, if_neg k2, if_pos k3, e, if_pos rfl, show g' o = g' (l * 18 + 16) by congr 1; omega, h3]
            · rw [if_neg k1, if_neg k2, if_neg k3, e, show g' o = g' (l * 18 + 17) by congr 1; omega, h4]
      · rw [hg o (by omega)]
        obtain ⟨a1, a2, a3⟩ := hot _ e
        exact linesG_ext a1 a2 a3 (by simp only; rw [if_neg e])
    · rw [hn] at hi
      by_cases e : i = l
      · subst e; simp only [if_true]; exact hh
      · simp only [if_neg e]
        rw [(hot i e).2.1]
        refine (h.hist i hi).only ho fun b hb hx => ?_
        rcases hx with hx | hx
        · exact h.apart.hl i hi (by rw [hb, hx])
        · exact h.apart.hh i l hi hl e b hb hx
    · rw [hnt, hex]
      rcases h.maps t ht with m1 | ⟨b, m1, m2, m3⟩
      · exact .inl m1
      · refine .inr ⟨b, m1, m2, m3.of_block (ho.block b (h.ownLt b (.inr (.inr (.inr ⟨t, ht, m1⟩)))) fun e => ?_)⟩
        rcases e with e | e
        · exact h.apart.ml t ht (by rw [m1, e])
        · exact h.apart.mh t l ht hl b m1 e
    · rw [hn]
      have hdlt := h.dev.lt
      have hllt := h.lines.lt
      refine ⟨h.apart.dl, fun i hi => ?_, fun i hi => ?_, fun i j hi hj hne b hb => ?_, h.apart.md, h.apart.ml, fun t i ht hi b hb => ?_, h.apart.mm⟩
      · simp only
        split
        · intro e; exact h.apart.hd l hl (fr _ hdlt _ e rfl)
        · exact h.apart.hd i hi
      · simp only
        split
        · intro e; exact h.apart.hl l hl (fr _ hllt _ e rfl)
        · exact h.apart.hl i hi
      · simp only at hb ⊢
        by_cases e1 : i = l
        · have e2 : j ≠ l := fun e => hne (by rw [e1, e])
          rw [if_pos e1] at hb
          rw [if_neg e2]
          intro e3
          have := fr b ((h.hist j hj).lt b e3).2 b hb rfl
          exact h.apart.hh l j hl hj (by omega) b this e3
        · rw [if_neg e1] at hb
          by_cases e2 : j = l
          · rw [if_pos e2]
            intro e3
            have := fr b ((h.hist i hi).lt b hb).2 b e3 rfl
            exact h.apart.hh i l hi hl e1 b hb this
          · rw [if_neg e2]; exact h.apart.hh i j hi hj hne b hb
      · simp only
        split
        · intro e
          exact h.apart.mh t l ht hl b hb (fr b (h.ownLt b (.inr (.inr (.inr ⟨t, ht, hb⟩)))) b e rfl)
        · exact h.apart.mh t i ht hi b hb
theorem IsDev.line (h : IsDev w base A S) {l : Nat} (hl : l < S.n) (hn : S'.n = S.n) (hnt : S'.notes = S.notes) (her : S'.err = S.err) (hex : S'.ex = S.ex) (hof : S'.off = S.off) (hle : S'.left = S.left)
    (hot : ∀ i, i ≠ l → S'.pers i = S.pers i ∧ S'.hist i = S.hist i ∧ S'.gone i = S.gone i) (hv' : Value) (g' : Nat → Value) (hB : Blk w' A.lb 106 (S.n * 18) g') (hg : ∀ o, (o < l * 18 ∨ l * 18 + 18 ≤ o) → g' o = linesG A S o)
    (h1 : ∀ j, j < 8 → g' (l * 18 + j) = wordG (S'.pers l) j) (h2 : ∀ j, j < 8 → g' (l * 18 + 8 + j) = wordG (S'.cur l) j) (h3 : g' (l * 18 + 16) = hv') (h4 : g' (l * 18 + 17) = .int .u64 (S'.gone l : Int)) (hh : Hist w' base hv' (S'.hist l))
    (ho : Only (fun b => b = A.lb ∨ (A.hv l).ownBlock = some b) w w') (hown : hv'.ownBlock = (A.hv l).ownBlock ∨ ∃ b, hv'.ownBlock = some b ∧ w.heap.size ≤ b) : Step w w' base A S S' :=
  ⟨{ A with hv := fun i => if i = l then hv' else A.hv i }, rfl, rfl, h.lineI hl hn hnt her hex hof hle hot hv' g' hB hg h1 h2 h3 h4 hh ho hown, ho.mono fun b hb => by
    rcases hb with hb | hb
    · exact .inr (.inl hb)
    · exact .inr (.inr (.inl ⟨l, hl, hb⟩)), foot_hv hown hl⟩
end
end Go.Proofs.Ytbonponclcehiaa.Dev
/-
  DEVICE: Load, Store, CAS of a thread.
-/
namespace Go.Proofs.Ytbonponclcehiaa.Dev
open Go.ChangeShapes Go.WideShapes Go.ChangeAt Go.RowKit Go.Proofs.Ytbonponclcehiaa.Mem
theorem lineOf_at (A : Adr) (S : St) (w : World) (hc : w.cell? ⟨A.d, 0, none⟩ = some (.slice (some ⟨A.lb, 0, none⟩) S.n S.n)) (o k : Nat) (ho : o < 18446744073709551616) (hk : o / 64 = k) (hkn : k < S.n) (hn : S.n ≤ 4096) :
    Calls Try.prog 60 #[.pointer (some ⟨A.d, 0, none⟩), .int .u64 (o : Int)] w fun e w' => e = .returned (.pointer (some ⟨A.lb, k * 18, none⟩)) ∧ w' = w :=
  (lineOf_any A.d A.lb S.n k S.n w hc o ho hk hkn hn).mono fun _ _ h => ⟨h.1, h.2.symm⟩
section
variable {w : World} {base : Nat} {A : Adr} {S : St}
theorem IsDev.cCur (h : IsDev w base A S) {k p : Nat} (hk : k < S.n) (hp : p < 8) : w.cell? ⟨A.lb, k * 18 + 8 + p, none⟩ = some (.int .u64 (S.cur k p : Int)) := by
  rw [h.lines.cell (by omega)]
  unfold linesG
  rw [if_neg (by omega), if_pos (by omega), show (k * 18 + 8 + p) / 18 = k by omega, show (k * 18 + 8 + p) % 18 - 8 = p by omega]
  rfl
theorem linesG_pers (A : Adr) (S : St) (k j : Nat) (hj : j < 8) : linesG A S (k * 18 + j) = wordG (S.pers k) j := by
  unfold linesG
  rw [if_pos (by omega), show (k * 18 + j) / 18 = k by omega, show (k * 18 + j) % 18 = j by omega]
theorem linesG_cur (A : Adr) (S : St) (k j : Nat) (hj : j < 8) : linesG A S (k * 18 + 8 + j) = wordG (S.cur k) j := by
  unfold linesG
  rw [if_neg (by omega), if_pos (by omega), show (k * 18 + 8 + j) / 18 = k by omega, show (k * 18 + 8 + j) % 18 - 8 = j by omega]
theorem linesG_hist (A : Adr) (S : St) (k : Nat) : linesG A S (k * 18 + 16) = A.hv k := by
  unfold linesG
  rw [if_neg (by omega), if_neg (by omega), if_pos (by omega), show (k * 18 + 16) / 18 = k by omega]
theorem linesG_gone (A : Adr) (S : St) (k : Nat) : linesG A S (k * 18 + 17) = .int .u64 (S.gone k : Int) := by
  unfold linesG
  rw [if_neg (by omega), if_neg (by omega), if_neg (by omega), show (k * 18 + 17) / 18 = k by omega]
theorem St.isW_lt {o : Nat} (h : S.isW o = true) : o / 64 < S.n ∧ o % 8 = 0 := by
  simp [St.isW] at h; omega
theorem St.Ok.fine {M : Nat} (h : S.Ok M) (i : Nat) : Fine (S.hist i) := fun p hp => by
  obtain ⟨_, _, h1, h2⟩ := h.hist i p hp
  have := h.n1
  exact ⟨by omega, h2⟩
end
theorem below_drewN (B : Nat) (w : World) (n : Nat) : Below B w (w.drewN n) := ⟨rfl, rfl, rfl, Nat.le_refl _, fun _ _ => rfl⟩
theorem load_any (w : World) (base M : Nat) (A : Adr) (S : St) (t o : Nat) (h : IsDev w base A S) (hS : S.Ok M) (ht : t < 8) (ho : o < 18446744073709551616) :
    Calls Try.prog 36 #[.pointer (some ⟨A.d, 1 + t * 4, none⟩), .int .u64 (o : Int)] w fun r w' => r = .returned (.int .u64 (S.load o : Int)) ∧ Hid (Step w w' base A S (S.loadS t o)) := by
  have HI := Lib.hid (isWord_any w A S t o h.db ht hS.n1 ho)
  have HD := Lib.hid h
  have hn := hS.n1
  clear h
  by_cases hm : S.may (S.isW o) = true
  · have hw : S.isW o = true := by simp [St.may] at hm; exact hm.2
    obtain ⟨hk, h8⟩ := St.isW_lt hw
    have HE : Hid (S.load o = S.cur (o / 64) (o / 8 % 8)) := by simp [Hid, St.load, hm, St.val]
    have HA := fun w1 (e : w1 = w) => Lib.hid (admit_any w1 A S t true (e ▸ HD.out.db) ht)
    rw [hw] at HI
    have HM := Lib.hid (show S.may true = true by rw [hw] at hm; exact hm)
    have HS := Lib.hid (show S.loadS t o = S.mayS t true by unfold St.loadS; rw [hw])
    obtain ⟨k, hkk⟩ : ∃ k, o / 64 = k := ⟨_, rfl⟩
    obtain ⟨p, hp⟩ : ∃ p, o / 8 % 8 = p := ⟨_, rfl⟩
    rw [hkk, hp] at HE
    rw [hkk] at hk
    have hp8 : p < 8 := by omega
    have HK := Lib.hid hkk
    have HP := Lib.hid hp
    have hwp : IntKind.i64.wrap (p : Int) = (p : Int) := IntWalk.i64_in _ ⟨by omega, by omega⟩
    have hwu : IntKind.u64.wrap (p : Int) = (p : Int) := IntWalk.u64_in _ ⟨by omega, by omega⟩
    have hp0 : (0 : Int) ≤ (p : Int) := by omega
    have hp88 : (p : Int) < 8 := by omega
    have HA0 := HA w rfl
    clear hm hw h8 hkk hp HA
    go_enter Try.func36, Try.ntmps36
    go_wp2_with (first
      | (go_at_call 59; refine HI.out.mono ?_; rintro e w' ⟨rfl, rfl⟩)
      | (go_at_call 71; refine HA0.out.mono ?_; rintro e w1 ⟨he, HQ⟩; rw [HM.out] at he; subst he))
    have I1 := HD.out.ctl HQ.out.1 HQ.out.2 (SameData.mayS S t true)
    have HI1 := Lib.hid I1
    have cp := HQ.out.1.cPtr ht
    have c0 := HQ.out.1.c0
    have cc := I1.cCur (k := k) (p := p) (by rw [(SameData.mayS S t true).n]; exact hk) hp8
    rw [(SameData.mayS S t true).n] at c0
    have HX : Hid ((S.mayS t true).cur k p = S.cur k p) := by
      have hs := SameData.mayS S t true
      unfold Hid St.cur; rw [hs.pers, hs.hist]
    rw [HX.out] at cc
    generalize S.cur k p = X at *
    clear I1
    go_quiet ((first | (go_at_call 60; exact Calls.quiet_of_same (lineOf_at A S _ (by exact c0) o k ho HK.out hk hn)) | (go_at_call 72; exact Calls.quiet_of_same (place_at o p _ ho HP.out))))
    go_wp2
    go_ret
    exact ⟨ret_int (by rw [HE.out]), Lib.hid (by rw [HS.out]; exact (HD.out.ctlStep HQ.out.1 HQ.out.2 (SameData.mayS S t true)).then (below_drewN _ _ _))⟩
  · have hm' : S.may (S.isW o) = false := by simpa using hm
    have HE : Hid (S.load o = 0) := by simp [Hid, St.load, hm']
    have HA0 := Lib.hid (admit_any w A S t (S.isW o) HD.out.db ht)
    rw [hm'] at HA0
    clear hm hm'
    generalize hv : S.isW o = v at *
    have HS := Lib.hid (show S.loadS t o = S.mayS t v by unfold St.loadS; rw [hv])
    clear hv
    go_enter Try.func36, Try.ntmps36
    go_wp2_with (first
      | (go_at_call 59; refine HI.out.mono ?_; rintro e w' ⟨rfl, rfl⟩)
      | (go_at_call 71; refine HA0.out.mono ?_; rintro e w1 ⟨rfl, HQ⟩))
    go_ret
    exact ⟨ret_int (by rw [HE.out]; rfl), Lib.hid (by rw [HS.out]; exact HD.out.ctlStep HQ.out.1 HQ.out.2 (SameData.mayS S t v))⟩
theorem St.put_cur (S : St) (o x i : Nat) : (S.put o x).cur i = if i = o / 64 then (fun j => if j = o / 8 % 8 then x else S.cur i j) else S.cur i := by
  unfold St.cur St.put
  simp only
  by_cases h : i = o / 64
  · rw [if_pos h, if_pos h, applyW_snoc]
  · rw [if_neg h, if_neg h]
theorem lineStore_any (w : World) (base M : Nat) (A : Adr) (S : St) (o x k : Nat) (h : IsDev w base A S) (hS : S.Ok M) (hM : M ≤ 1000000) (hw : S.isW o = true) (hk : o / 64 = k) (ho : o < 18446744073709551616) (hb : base ≤ w.heap.size) :
    Calls Try.prog 61 #[.pointer (some ⟨A.lb, k * 18, none⟩), .int .u64 (o : Int), .int .u64 (x : Int)] w fun e w' => e = .returned (.tuple #[]) ∧ Hid (Step w w' base A S (S.put o x)) := by
  obtain ⟨hkn, h8⟩ := St.isW_lt hw
  rw [hk] at hkn
  obtain ⟨p, hp⟩ : ∃ p, o / 8 % 8 = p := ⟨_, rfl⟩
  have hp8 : p < 8 := by omega
  have hsum := hS.sum k
  refine (store_any w A.lb (S.n * 18) (k * 18) o x p base (A.hv k) (S.hist k) (linesG A S) h.lines (by omega) (linesG_hist A S k) (h.hist k hkn) hb (h.apart.hl k hkn) (by omega) ho hp).mono ?_
  rintro e w' ⟨rfl, hv', HQ⟩
  obtain ⟨q1, q2, q3, q4⟩ := HQ.out
  refine ⟨rfl, Lib.hid (h.line hkn rfl rfl rfl rfl rfl rfl (fun i hi => ⟨rfl, ?_, rfl⟩) hv' _ q1 (fun o' ho' => ?_) (fun j hj => ?_) (fun j hj => ?_) ?_ ?_ ?_ q3 ?_)⟩
  · show (if i = o / 64 then _ else _) = _
    rw [if_neg (by omega)]
  · rw [upd_other _ _ (by omega), upd_other _ _ (by omega)]
  · rw [upd_other _ _ (by omega), upd_other _ _ (by omega), linesG_pers _ _ _ _ hj]; rfl
  · rw [upd_other _ _ (by omega), St.put_cur, if_pos hk.symm]
    by_cases e : j = p
    · subst e; rw [upd_same]; show _ = Value.int _ ((if j = o / 8 % 8 then x else S.cur k j : Nat) : Int); rw [if_pos hp.symm]
    · rw [upd_other _ _ (by omega), linesG_cur _ _ _ _ hj]; show _ = Value.int _ ((if j = o / 8 % 8 then x else S.cur k j : Nat) : Int); rw [if_neg (by omega)]; rfl
  · rw [upd_same]
  · rw [upd_other _ _ (by omega), upd_other _ _ (by omega), linesG_gone]; rfl
  · show Hist w' base hv' (if k = o / 64 then _ else _)
    rw [if_pos hk.symm]; exact q2
  · rcases q4 with h1 | ⟨b, h1, h2, _⟩
    · exact .inl h1
    · exact .inr ⟨b, h1, h2⟩
theorem St.cntS_n (S : St) (t : Nat) (v : Bool) : (S.cntS t v).n = S.n := (SameData.cntS S t v).n
theorem Step.pre {w w1 w2 : World} {base : Nat} {A : Adr} {S S1 S2 : St} (ho : Only (fun b => b = A.d) w w1) (hn : S1.n = S.n) (k : Step w1 w2 base A S1 S2) : Step w w2 base A S S2 := by
  obtain ⟨A', b1, b2, b3, b4, b5⟩ := k
  rw [hn] at b4 b5
  refine ⟨A', b1, b2, b3, (ho.mono fun b hb => .inl hb).trans b4, fun b hb => ?_⟩
  rcases b5 b hb with h1 | h1
  · exact .inl h1
  · exact .inr (Nat.le_trans ho.size h1)
theorem store_thread_any (w : World) (base M : Nat) (A : Adr) (S : St) (t o x : Nat) (h : IsDev w base A S) (hS : S.Ok M) (hS' : (S.cntS t (S.isW o)).Ok M) (hM : M ≤ 1000000) (ht : t < 8) (ho : o < 18446744073709551616) (hb : base ≤ w.heap.size) :
    Calls Try.prog 22 #[.pointer (some ⟨A.d, 1 + t * 4, none⟩), .int .u64 (o : Int), .int .u64 (x : Int)] w fun r w' => r = .returned (.tuple #[]) ∧ Hid (Step w w' base A S (S.storeS t o x)) := by
  have HI := Lib.hid (isWord_any w A S t o h.db ht hS.n1 ho)
  have HC := Lib.hid (count_any w A S t (S.isW o) h.db ht (by have := hS.ex; omega) hS.left)
  have HD := Lib.hid h
  have hn := hS.n1
  have HS2 := Lib.hid hS'
  clear h hS hS'
  by_cases hm : S.cnt (S.isW o) = true
  · have hw : S.isW o = true := by simp [St.cnt] at hm; exact hm.1.2
    obtain ⟨hk, h8⟩ := St.isW_lt hw
    have HE : Hid (S.storeS t o x = (S.cntS t true).put o x) := by simp only [Hid, St.storeS]; rw [if_pos hm, hw]
    rw [hm, hw] at HC
    rw [hw] at HI HS2
    obtain ⟨k, hkk⟩ : ∃ k, o / 64 = k := ⟨_, rfl⟩
    rw [hkk] at hk
    have HK := Lib.hid hkk
    have HW := Lib.hid (show (S.cntS t true).isW o = true by unfold St.isW; rw [St.cntS_n]; exact hw)
    clear hm hw h8 hkk
    go_enter Try.func22, Try.ntmps22
    go_wp2_with (first
      | (go_at_call 59; refine HI.out.mono ?_; rintro e w' ⟨rfl, rfl⟩)
      | (go_at_call 58; refine HC.out.mono ?_; rintro e w1 ⟨rfl, HQ⟩; have cp := HQ.out.1.cPtr ht; have c0 := HQ.out.1.c0; rw [St.cntS_n] at c0; have HI1 := Lib.hid (HD.out.ctl HQ.out.1 HQ.out.2 (SameData.cntS S t true)))
      | (go_at_call 60; refine (lineOf_at A S _ c0 o k ho HK.out hk hn).mono ?_; rintro e w2 ⟨rfl, rfl⟩)
      | (go_at_call 61; refine (lineStore_any _ base M A (S.cntS t true) o x k HI1.out HS2.out hM HW.out HK.out ho (by have := HQ.out.2.size; omega)).mono ?_; rintro e w3 ⟨rfl, HR⟩))
    go_end0
    refine ⟨rfl, Lib.hid ?_⟩
    rw [HE.out]
    exact Step.pre HQ.out.2 (St.cntS_n _ _ _) HR.out
  · have hm' : S.cnt (S.isW o) = false := by simpa using hm
    have HE : Hid (S.storeS t o x = S.cntS t (S.isW o)) := by simp only [Hid, St.storeS]; rw [if_neg hm]
    rw [hm'] at HC
    clear hm hm'
    generalize S.isW o = v at *
    go_enter Try.func22, Try.ntmps22
    go_wp2_with (first
      | (go_at_call 59; refine HI.out.mono ?_; rintro e w' ⟨rfl, rfl⟩)
      | (go_at_call 58; refine HC.out.mono ?_; rintro e w1 ⟨rfl, HQ⟩))
    go_end0
    exact ⟨rfl, Lib.hid (by rw [HE.out]; exact HD.out.ctlStep HQ.out.1 HQ.out.2 (SameData.cntS S t v))⟩
set_option maxRecDepth 100000 in
theorem cas_any (w : World) (base M : Nat) (A : Adr) (S : St) (t o old x : Nat) (h : IsDev w base A S) (hS : S.Ok M) (hS' : (S.cntS t (S.isW o)).Ok M) (hM : M ≤ 1000000) (ht : t < 8) (ho : o < 18446744073709551616) (hb : base ≤ w.heap.size) :
    Calls Try.prog 37 #[.pointer (some ⟨A.d, 1 + t * 4, none⟩), .int .u64 (o : Int), .int .u64 (old : Int), .int .u64 (x : Int)] w fun r w' => r = .returned (.bool (S.cas o old)) ∧ Hid (Step w w' base A S (S.casS t o old x)) := by
  have HI := Lib.hid (isWord_any w A S t o h.db ht hS.n1 ho)
  have HC := Lib.hid (count_any w A S t (S.isW o) h.db ht (by have := hS.ex; omega) hS.left)
  have HD := Lib.hid h
  have hn := hS.n1
  have HS2 := Lib.hid hS'
  clear h hS hS'
  by_cases hm : S.cnt (S.isW o) = true
  · have hw : S.isW o = true := by simp [St.cnt] at hm; exact hm.1.2
    obtain ⟨hk, h8⟩ := St.isW_lt hw
    rw [hw] at HI HS2
    obtain ⟨k, hkk⟩ : ∃ k, o / 64 = k := ⟨_, rfl⟩
    obtain ⟨p, hp⟩ : ∃ p, o / 8 % 8 = p := ⟨_, rfl⟩
    have HV : Hid (S.val o = S.cur k p) := by simp only [Hid, St.val]; rw [hkk, hp]
    rw [hkk] at hk
    have hp8 : p < 8 := by omega
    have HK := Lib.hid hkk
    have HP := Lib.hid hp
    have HW := Lib.hid (show (S.cntS t true).isW o = true by unfold St.isW; rw [St.cntS_n]; exact hw)
    have hwp : IntKind.i64.wrap (p : Int) = (p : Int) := IntWalk.i64_in _ ⟨by omega, by omega⟩
    have hwu : IntKind.u64.wrap (p : Int) = (p : Int) := IntWalk.u64_in _ ⟨by omega, by omega⟩
    have hp0 : (0 : Int) ≤ (p : Int) := by omega
    have hp88 : (p : Int) < 8 := by omega
    have HX : Hid ((S.cntS t true).cur k p = S.cur k p) := by
      have hs := SameData.cntS S t true
      unfold Hid St.cur; rw [hs.pers, hs.hist]
    by_cases hv : S.cur k p = old
    · have HE : Hid (S.cas o old = true ∧ S.casS t o old x = (S.cntS t true).put o x) := by
        have : S.cas o old = true := by simp [St.cas, hm, HV.out, hv]
        refine ⟨this, ?_⟩
        simp only [St.casS]; rw [if_pos this, hw]
      rw [hm, hw] at HC
      have HX2 := Lib.hid (HX.out.trans hv)
      clear hm hw h8 hkk hp hv
      go_enter Try.func37, Try.ntmps37
      go_wp2_with (first
        | (go_at_call 59; refine HI.out.mono ?_; rintro e w' ⟨rfl, rfl⟩)
        | (go_at_call 58; refine HC.out.mono ?_; rintro e w1 ⟨rfl, HQ⟩; have cp := HQ.out.1.cPtr ht; have c0 := HQ.out.1.c0; rw [St.cntS_n] at c0; have HI1 := Lib.hid (HD.out.ctl HQ.out.1 HQ.out.2 (SameData.cntS S t true)))
        | (go_at_call 60; refine (lineOf_at A S _ c0 o k ho HK.out hk hn).mono ?_; rintro e w2 ⟨rfl, rfl⟩))
      have cc := HI1.out.cCur (k := k) (p := p) (by rw [St.cntS_n]; exact hk) hp8
      rw [HX2.out] at cc
      have hne : ((old : Int) != (old : Int)) = false := by simp
      go_quiet ((go_at_call 72; exact Calls.quiet_of_same (place_at o p _ ho HP.out)))
      go_wp2_with (go_at_call 61; refine (lineStore_any _ base M A (S.cntS t true) o x k (HI1.out.below (below_drewN _ _ _) (Nat.le_refl _)) HS2.out hM HW.out HK.out ho (by exact Nat.le_trans hb HQ.out.2.size)).mono ?_; rintro e w3 ⟨rfl, HR⟩)
      go_ret
      refine ⟨ret_bool HE.out.1.symm, Lib.hid ?_⟩
      rw [HE.out.2]
      exact Step.pre (HQ.out.2.drewN _) (St.cntS_n _ _ _) HR.out
    · have HE : Hid (S.cas o old = false ∧ S.casS t o old x = S.cntS t true) := by
        have : S.cas o old = false := by simp [St.cas, HV.out, hv]
        refine ⟨this, ?_⟩
        simp only [St.casS]; rw [this, hw]; rfl
      rw [hm, hw] at HC
      have hne : ((S.cur k p : Int) != (old : Int)) = true := by simp; omega
      have HX2 := Lib.hid HX.out
      clear hm hw h8 hkk hp hv HX
      go_enter Try.func37, Try.ntmps37
      go_wp2_with (first
        | (go_at_call 59; refine HI.out.mono ?_; rintro e w' ⟨rfl, rfl⟩)
        | (go_at_call 58; refine HC.out.mono ?_; rintro e w1 ⟨rfl, HQ⟩; have cp := HQ.out.1.cPtr ht; have c0 := HQ.out.1.c0; rw [St.cntS_n] at c0; have HI1 := Lib.hid (HD.out.ctl HQ.out.1 HQ.out.2 (SameData.cntS S t true)))
        | (go_at_call 60; refine (lineOf_at A S _ c0 o k ho HK.out hk hn).mono ?_; rintro e w2 ⟨rfl, rfl⟩))
      have cc := HI1.out.cCur (k := k) (p := p) (by rw [St.cntS_n]; exact hk) hp8
      rw [HX2.out] at cc
      generalize (S.cur k p : Int) = X at *
      go_quiet ((go_at_call 72; exact Calls.quiet_of_same (place_at o p _ ho HP.out)))
      go_wp2
      go_ret
      refine ⟨ret_bool HE.out.1.symm, Lib.hid ?_⟩
      rw [HE.out.2]
      exact HD.out.ctlStep HQ.out.1 (HQ.out.2) (SameData.cntS S t true) |>.then (below_drewN _ _ _)
  · have hm' : S.cnt (S.isW o) = false := by simpa using hm
    have HE : Hid (S.cas o old = false ∧ S.casS t o old x = S.cntS t (S.isW o)) := by
      have : S.cas o old = false := by simp only [St.cas]; rw [hm']; rfl
      refine ⟨this, ?_⟩
      simp only [St.casS]; rw [this]; rfl
    rw [hm'] at HC
    clear hm hm'
    generalize S.isW o = v at *
    go_enter Try.func37, Try.ntmps37
    go_wp2_with (first
      | (go_at_call 59; refine HI.out.mono ?_; rintro e w' ⟨rfl, rfl⟩)
      | (go_at_call 58; refine HC.out.mono ?_; rintro e w1 ⟨rfl, HQ⟩))
    go_ret
    exact ⟨ret_bool HE.out.1.symm, Lib.hid (by rw [HE.out.2]; exact HD.out.ctlStep HQ.out.1 HQ.out.2 (SameData.cntS S t v))⟩
end Go.Proofs.Ytbonponclcehiaa.Dev
/-
  DEVICE: Off, Executed, Arm, Thread, Err, ID, lineAt, History, WriteBack.
-/
namespace Go.Proofs.Ytbonponclcehiaa.Dev
open Go.ChangeShapes Go.WideShapes Go.ChangeAt Go.RowKit Go.Proofs.Ytbonponclcehiaa.Mem
theorem off_any (w : World) (A : Adr) (S : St) (h : DB w A S) :
    Calls Try.prog 27 #[.pointer (some ⟨A.d, 0, none⟩)] w fun r w' => r = .returned (.bool S.off) ∧ w' = w := by
  have c := h.cOff
  clear h
  generalize S.off = b at *
  go_enter Try.func27, Try.ntmps27
  go_wp2
  go_ret
  exact ⟨rfl, rfl⟩
theorem executed_any (w : World) (A : Adr) (S : St) (h : DB w A S) :
    Calls Try.prog 28 #[.pointer (some ⟨A.d, 0, none⟩)] w fun r w' => r = .returned (.int .u64 (S.ex : Int)) ∧ w' = w := by
  have c : w.cell? ⟨A.d, 33, none⟩ = some (.int .u64 (S.ex : Int)) := h.cell (o := 33) (by omega)
  clear h
  generalize S.ex = b at *
  go_enter Try.func28, Try.ntmps28
  go_wp2
  go_ret
  exact ⟨rfl, rfl⟩
theorem err_any (w : World) (A : Adr) (S : St) (t : Nat) (h : DB w A S) (ht : t < 8) :
    Calls Try.prog 40 #[.pointer (some ⟨A.d, 1 + t * 4, none⟩)] w fun r w' => r = .returned (.int .i64 (S.err t : Int)) ∧ w' = w := by
  have c := h.cell (o := 1 + t * 4 + 2) (by omega)
  rw [devG_err _ _ ht] at c
  clear h
  generalize S.err t = b at *
  go_enter Try.func40, Try.ntmps40
  go_wp2
  go_ret
  exact ⟨rfl, rfl⟩
theorem id_any (w : World) (A : Adr) (S : St) (t : Nat) (h : DB w A S) (ht : t < 8) :
    Calls Try.prog 39 #[.pointer (some ⟨A.d, 1 + t * 4, none⟩)] w fun r w' => r = .returned (.int .i64 (t : Int)) ∧ w' = w := by
  have c := h.cell (o := 1 + t * 4 + 1) (by omega)
  rw [devG_id _ _ ht] at c
  clear h
  go_enter Try.func39, Try.ntmps39
  go_wp2
  go_ret
  exact ⟨rfl, rfl⟩
theorem thread_any (w : World) (d t : Nat) (ht : t < 8) :
    Calls Try.prog 17 #[.pointer (some ⟨d, 0, none⟩), .int .i64 (t : Int)] w fun r w' => r = .returned (.pointer (some ⟨d, 1 + t * 4, none⟩)) ∧ w' = w := by
  have h8 : (t : Int) < 8 := by omega
  go_enter Try.func17, Try.ntmps17
  go_wp2
  go_ret
  exact ⟨rfl, rfl⟩
theorem thread_out (w : World) (d : Nat) (t : Int) (ht : t < 0 ∨ 8 ≤ t) :
    Calls Try.prog 17 #[.pointer (some ⟨d, 0, none⟩), .int .i64 t] w fun r w' => r = .returned (.pointer none) ∧ w' = w := by
  rcases ht with ht | ht
  · go_enter Try.func17, Try.ntmps17
    go_wp2
    go_ret
    exact ⟨rfl, rfl⟩
  · have h0 : ¬ t < 0 := by omega
    go_enter Try.func17, Try.ntmps17
    go_wp2
    go_ret
    exact ⟨rfl, rfl⟩
theorem lineAt_any (w : World) (A : Adr) (S : St) (l : Nat) (h : DB w A S) (hl : l < S.n) (hn : S.n ≤ 4096) :
    Calls Try.prog 64 #[.pointer (some ⟨A.d, 0, none⟩), .int .i64 (l : Int)] w fun r w' => r = .returned (.pointer (some ⟨A.lb, l * 18, none⟩)) ∧ w' = w := by
  have c := h.c0
  clear h
  generalize S.n = n at *
  have h1 : (l : Int) < (n : Int) := by omega
  go_enter Try.func64, Try.ntmps64
  go_wp2
  go_ret
  exact ⟨rfl, rfl⟩
theorem lineAt_out (w : World) (A : Adr) (S : St) (l : Int) (h : DB w A S) (hl : l < 0 ∨ (S.n : Int) ≤ l) (hn : S.n ≤ 4096) :
    Calls Try.prog 64 #[.pointer (some ⟨A.d, 0, none⟩), .int .i64 l] w fun r w' => r = .returned (.pointer none) ∧ w' = w := by
  have c := h.c0
  clear h
  generalize S.n = n at *
  rcases hl with ht | ht
  · go_enter Try.func64, Try.ntmps64
    go_wp2
    go_ret
    exact ⟨rfl, rfl⟩
  · have h0 : ¬ l < 0 := by omega
    go_enter Try.func64, Try.ntmps64
    go_wp2
    go_ret
    exact ⟨rfl, rfl⟩
theorem arm_any (w : World) (base : Nat) (A : Adr) (S : St) (m : Int) (h : IsDev w base A S) (h0 : -9223372036854775808 ≤ m) (h1 : m ≤ 9223372036854775807) :
    Calls Try.prog 21 #[.pointer (some ⟨A.d, 0, none⟩), .int .i64 m] w fun r w' => r = .returned (.tuple #[]) ∧ Hid (Step w w' base A S (S.armS m)) := by
  have c34 := h.db.cOff
  have c35 := h.db.cell (o := 35) (by omega)
  have c36 := h.db.cell (o := 36) (by omega)
  have z35 := h.db.frozen 35
  have z36 := h.db.frozen 36
  have HD := Lib.hid h
  clear h
  by_cases ho : S.off = true
  · have HE := Lib.hid (show S.armS m = S by simp [St.armS, ho])
    rw [ho] at c34
    clear ho
    go_enter Try.func21, Try.ntmps21
    go_wp2
    try simp only [Exit.inBlock, Exit.then]
    refine bodyPost_ret (results_none rfl _ _ _) rfl ?_
    exact ⟨rfl, Lib.hid (by rw [HE.out]; exact .refl HD.out)⟩
  · have hof : S.off = false := by simpa using ho
    rw [hof] at c34
    by_cases hm : 0 ≤ m
    · have HE := Lib.hid (show S.armS m = { S with left := some m.toNat } by simp [St.armS, hof, hm])
      have hd : decide (0 ≤ m) = true := by simpa using hm
      clear ho hof
      have H2 := Lib.hid (show ∀ v, v = (Value.int .i64 m) → DB ((w.setCell ⟨A.d, 35, none⟩ (.bool true)).setCell ⟨A.d, 36, none⟩ v) A { S with left := some m.toNat } from fun v hv => by
        subst hv
        refine (Blk.set (Blk.set HD.out.db 35 (.bool true)) 36 _).ext fun o ho => ?_
        by_cases k : o = 36
        · subst k; rw [upd_same]; unfold devG; simp; omega
        · rw [upd_other _ _ k]
          by_cases k : o = 35
          · subst k; rw [upd_same]; rfl
          · rw [upd_other _ _ k]
            unfold devG
            simp only
            by_cases k1 : o = 0
            · simp [k1]
            · by_cases k2 : o < 33
              · simp [k1, k2]
              · by_cases k3 : o = 33
                · simp [k3]
                · by_cases k4 : o = 34
                  · simp [k4]
                  · omega)
      have hmx : max m 0 = m := by omega
      go_enter Try.func21, Try.ntmps21
      go_wp2
      go_end0
      refine ⟨rfl, Lib.hid ?_⟩
      rw [HE.out]
      exact HD.out.ctlStep (H2.out _ rfl) (((Only.refl (fun b => b = A.d) w).set _ _ (.inl rfl)).set _ _ (.inl rfl)) ⟨rfl, rfl, rfl, rfl, rfl, Nat.le_refl _⟩
    · have HE := Lib.hid (show S.armS m = { S with left := none } by simp [St.armS, hof, hm])
      have hd : decide (0 ≤ m) = false := by simpa using hm
      clear ho hof
      have H2 := Lib.hid (show ∀ v, v = (Value.int .i64 0) → DB ((w.setCell ⟨A.d, 35, none⟩ (.bool false)).setCell ⟨A.d, 36, none⟩ v) A { S with left := none } from fun v hv => by
        subst hv
        refine (Blk.set (Blk.set HD.out.db 35 (.bool false)) 36 _).ext fun o ho => ?_
        by_cases k : o = 36
        · subst k; rw [upd_same]; rfl
        · rw [upd_other _ _ k]
          by_cases k : o = 35
          · subst k; rw [upd_same]; rfl
          · rw [upd_other _ _ k]
            unfold devG
            simp only
            by_cases k1 : o = 0
            · simp [k1]
            · by_cases k2 : o < 33
              · simp [k1, k2]
              · by_cases k3 : o = 33
                · simp [k3]
                · by_cases k4 : o = 34
                  · simp [k4]
                  · omega)
      have hmx : max m 0 = 0 := by omega
      go_enter Try.func21, Try.ntmps21
      go_wp2
      go_end0
      refine ⟨rfl, Lib.hid ?_⟩
      rw [HE.out]
      exact HD.out.ctlStep (H2.out _ rfl) (((Only.refl (fun b => b = A.d) w).set _ _ (.inl rfl)).set _ _ (.inl rfl)) ⟨rfl, rfl, rfl, rfl, rfl, Nat.le_refl _⟩
theorem history_any (w : World) (base M : Nat) (A : Adr) (S : St) (l : Nat) (h : IsDev w base A S) (hS : S.Ok M) (hM : M ≤ 1000000) (hl : l < S.n) :
    Calls Try.prog 31 #[.pointer (some ⟨A.d, 0, none⟩), .int .i64 (l : Int)] w fun r w' => ∃ v, r = .returned v ∧ Hid (Hist w' w.heap.size v (S.hist l) ∧ Below w.heap.size w w') := by
  have HL := Lib.hid (lineAt_any w A S l h.db hl hS.n1)
  have HC := Lib.hid (clone_any w base (A.hv l) (S.hist l) (h.hist l hl) (by have := hS.sum l; omega))
  have c := h.lines.cell (o := l * 18 + 16) (by omega)
  rw [linesG_hist] at c
  clear h hS
  go_enter Try.func31, Try.ntmps31
  go_wp2_with (first
    | (go_at_call 64; refine HL.out.mono ?_; rintro e w' ⟨rfl, rfl⟩)
    | (go_at_call 66; refine HC.out.mono ?_; rintro e w1 ⟨v, rfl, HQ⟩))
  go_ret
  exact ⟨_, rfl, HQ⟩
end Go.Proofs.Ytbonponclcehiaa.Dev
/-
  DEVICE: persist at the device's line; WriteBack.
-/
namespace Go.Proofs.Ytbonponclcehiaa.Dev
open Go.ChangeShapes Go.WideShapes Go.ChangeAt Go.RowKit Go.Proofs.Ytbonponclcehiaa.Mem
theorem St.pst_cur (S : St) (l k : Nat) (hk : k ≤ (S.hist l).length) (i : Nat) : (S.pst l k).cur i = S.cur i := by
  unfold St.cur St.pst
  simp only
  by_cases h : i = l
  · subst h; rw [if_pos rfl, if_pos rfl, ← applyW_append, List.take_append_drop]
  · rw [if_neg h, if_neg h]
/-- What persistTo's and persist's contracts leave, said of the device. -/
theorem IsDev.persisted {w w' : World} {base : Nat} {A : Adr} {S : St} (h : IsDev w base A S) {l k : Nat} (hl : l < S.n) (hk : k ≤ (S.hist l).length) {hv' : Value} {g' : Nat → Value}
    (q1 : Blk w' A.lb 106 (S.n * 18) g') (q2 : ∀ o, o < l * 18 ∨ l * 18 + 18 ≤ o → g' o = linesG A S o) (q3 : ∀ j, j < 8 → g' (l * 18 + j) = wordG (applyW (S.pers l) ((S.hist l).take k)) j)
    (q4 : ∀ j, j < 8 → g' (l * 18 + 8 + j) = linesG A S (l * 18 + 8 + j)) (q5 : g' (l * 18 + 16) = hv') (q6 : g' (l * 18 + 17) = .int .u64 ((S.gone l + k : Nat) : Int)) (q7 : Hist w' base hv' ((S.hist l).drop k))
    (q8 : Only (fun b => b = A.lb ∨ (A.hv l).ownBlock = some b) w w') (q9 : hv'.ownBlock = (A.hv l).ownBlock) : Step w w' base A S (S.pst l k) := by
  refine h.line hl rfl rfl rfl rfl rfl rfl (fun i hi => ⟨if_neg hi, if_neg hi, if_neg hi⟩) hv' g' q1 q2 (fun j hj => ?_) (fun j hj => ?_) q5 ?_ ?_ q8 (.inl q9)
  · rw [q3 j hj]; unfold St.pst; simp only [if_true]
  · rw [q4 j hj, linesG_cur _ _ _ _ hj, St.pst_cur _ _ _ hk]
  · rw [q6]; unfold St.pst; simp only [if_true]
  · unfold St.pst; simp only [if_true]; exact q7
/-- What persistTo's and persist's contracts leave, said of the device. -/
theorem IsDev.persistedI {w w' : World} {base : Nat} {A : Adr} {S : St} (h : IsDev w base A S) {l k : Nat} (hl : l < S.n) (hk : k ≤ (S.hist l).length) {hv' : Value} {g' : Nat → Value}
    (q1 : Blk w' A.lb 106 (S.n * 18) g') (q2 : ∀ o, o < l * 18 ∨ l * 18 + 18 ≤ o → g' o = linesG A S o) (q3 : ∀ j, j < 8 → g' (l * 18 + j) = wordG (applyW (S.pers l) ((S.hist l).take k)) j)
    (q4 : ∀ j, j < 8 → g' (l * 18 + 8 + j) = linesG A S (l * 18 + 8 + j)) (q5 : g' (l * 18 + 16) = hv') (q6 : g' (l * 18 + 17) = .int .u64 ((S.gone l + k : Nat) : Int)) (q7 : Hist w' base hv' ((S.hist l).drop k))
    (q8 : Only (fun b => b = A.lb ∨ (A.hv l).ownBlock = some b) w w') (q9 : hv'.ownBlock = (A.hv l).ownBlock) : IsDev w' base { A with hv := fun i => if i = l then hv' else A.hv i } (S.pst l k) := by
  refine h.lineI (S' := S.pst l k) hl rfl rfl rfl rfl rfl rfl (fun i hi => ⟨if_neg hi, if_neg hi, if_neg hi⟩) hv' g' q1 q2 (fun j hj => ?_) (fun j hj => ?_) q5 ?_ ?_ q8 (.inl q9)
  · rw [q3 j hj]; unfold St.pst; simp only [if_true]
  · rw [q4 j hj, linesG_cur _ _ _ _ hj, St.pst_cur _ _ _ hk]
  · rw [q6]; unfold St.pst; simp only [if_true]
  · unfold St.pst; simp only [if_true]; exact q7
theorem linePersist_any (w : World) (base M : Nat) (A : Adr) (S : St) (l k : Nat) (h : IsDev w base A S) (hS : S.Ok M) (hM : M ≤ 1000000) (hl : l < S.n) (hk : k ≤ (S.hist l).length) :
    Calls Try.prog 65 #[.pointer (some ⟨A.lb, l * 18, none⟩), .int .i64 (k : Int)] w fun e w' => e = .returned (.tuple #[]) ∧ Hid (Step w w' base A S (S.pst l k)) := by
  have hsum := hS.sum l
  refine (persist_any w A.lb (S.n * 18) (l * 18) k (S.gone l) base (A.hv l) (S.pers l) (S.hist l) (linesG A S) h.lines (by omega) (fun j hj => linesG_pers _ _ _ _ hj) (linesG_hist _ _ _) (linesG_gone _ _ _) (h.hist l hl) (h.apart.hl l hl) hk (hS.fine l) (by omega)).mono ?_
  rintro e w' ⟨rfl, hv', g', HQ⟩
  obtain ⟨q1, q2, q3, q4, q5, q6, q7, q8, q9⟩ := HQ.out
  exact ⟨rfl, Lib.hid (h.persisted hl hk q1 q2 q3 q4 q5 q6 q7 q8 q9)⟩
theorem linePersistTo_any (w : World) (base M : Nat) (A : Adr) (S : St) (l pos : Nat) (h : IsDev w base A S) (hS : S.Ok M) (hM : M ≤ 1000000) (hl : l < S.n) (hk : pos ≤ S.gone l + (S.hist l).length) :
    Calls Try.prog 63 #[.pointer (some ⟨A.lb, l * 18, none⟩), .int .u64 (pos : Int)] w fun e w' => e = .returned (.tuple #[]) ∧ Hid (Step w w' base A S (S.pst l (pos - S.gone l))) := by
  have hsum := hS.sum l
  refine (persistTo_any w A.lb (S.n * 18) (l * 18) pos (S.gone l) base (A.hv l) (S.pers l) (S.hist l) (linesG A S) h.lines (by omega) (fun j hj => linesG_pers _ _ _ _ hj) (linesG_hist _ _ _) (linesG_gone _ _ _) (h.hist l hl) (h.apart.hl l hl) hk (hS.fine l) (by omega)).mono ?_
  rintro e w' ⟨rfl, hv', g', HQ⟩
  obtain ⟨q1, q2, q3, q4, q5, q6, q7, q8, q9⟩ := HQ.out
  exact ⟨rfl, Lib.hid (h.persisted hl (by omega) q1 q2 q3 q4 q5 q6 q7 q8 q9)⟩
/-- The same, and no other block is written. -/
theorem linePersistTo_fine (w : World) (base M : Nat) (A : Adr) (S : St) (l pos : Nat) (h : IsDev w base A S) (hS : S.Ok M) (hM : M ≤ 1000000) (hl : l < S.n) (hk : pos ≤ S.gone l + (S.hist l).length) :
    Calls Try.prog 63 #[.pointer (some ⟨A.lb, l * 18, none⟩), .int .u64 (pos : Int)] w fun e w' => e = .returned (.tuple #[]) ∧ ∃ hv', Hid (IsDev w' base { A with hv := fun i => if i = l then hv' else A.hv i } (S.pst l (pos - S.gone l)) ∧ hv'.ownBlock = (A.hv l).ownBlock ∧ Only (fun b => b = A.lb ∨ (A.hv l).ownBlock = some b) w w') := by
  have hsum := hS.sum l
  refine (persistTo_any w A.lb (S.n * 18) (l * 18) pos (S.gone l) base (A.hv l) (S.pers l) (S.hist l) (linesG A S) h.lines (by omega) (fun j hj => linesG_pers _ _ _ _ hj) (linesG_hist _ _ _) (linesG_gone _ _ _) (h.hist l hl) (h.apart.hl l hl) hk (hS.fine l) (by omega)).mono ?_
  rintro e w' ⟨rfl, hv', g', HQ⟩
  obtain ⟨q1, q2, q3, q4, q5, q6, q7, q8, q9⟩ := HQ.out
  exact ⟨rfl, hv', Lib.hid ⟨h.persistedI hl (by omega) q1 q2 q3 q4 q5 q6 q7 q8 q9, q9, q8⟩⟩
theorem hist_slice {w : World} {base : Nat} {v : Value} {hs : List (Nat × Nat)} (h : Hist w base v hs) : ∃ a c, v = .slice a hs.length c := by
  rcases h.form with ⟨rfl, rfl⟩ | ⟨g, cap, cur, rfl, _⟩
  · exact ⟨_, _, rfl⟩
  · exact ⟨_, _, rfl⟩
set_option maxRecDepth 100000 in
theorem writeBack_any (w : World) (base M : Nat) (A : Adr) (S : St) (l k : Int) (h : IsDev w base A S) (hS : S.Ok M) (hM : M ≤ 1000000) (hk1 : -9223372036854775808 ≤ k) (hk2 : k ≤ 9223372036854775807) :
    Calls Try.prog 29 #[.pointer (some ⟨A.d, 0, none⟩), .int .i64 l, .int .i64 k] w fun r w' => r = .returned (.bool (S.wb l k)) ∧ Hid (Step w w' base A S (S.wbS l k)) := by
  have HD := Lib.hid h
  by_cases hl : 0 ≤ l ∧ l < S.n
  · obtain ⟨l', rfl⟩ := Int.eq_ofNat_of_zero_le hl.1
    have hln : l' < S.n := by omega
    have HL := Lib.hid (lineAt_any w A S l' h.db hln hS.n1)
    have co := h.db.cOff
    have ch := h.lines.cell (o := l' * 18 + 16) (by omega)
    rw [linesG_hist] at ch
    obtain ⟨a, c, hv⟩ := hist_slice (h.hist l' hln)
    rw [hv] at ch
    have hsum := hS.sum l'
    have HS := Lib.hid hS
    have HLN := Lib.hid hln
    have HWB : Hid (S.wb (l' : Int) k = (!S.off && decide (0 ≤ k) && decide (k ≤ ((S.hist l').length : Int)))) := by
      unfold Hid St.wb
      rw [decide_eq_true (show (0 : Int) ≤ (l' : Int) by omega), decide_eq_true (show (l' : Int) < (S.n : Int) by omega)]
      simp
    clear h hv hS hl hln
    by_cases ho : S.off = true
    · have HE : Hid (S.wb (l' : Int) k = false ∧ S.wbS (l' : Int) k = S) := by
        have : S.wb (l' : Int) k = false := by rw [HWB.out, ho]; rfl
        exact ⟨this, by unfold St.wbS; rw [this]; rfl⟩
      rw [ho] at co
      clear ho HWB
      go_enter Try.func29, Try.ntmps29
      go_wp2_with (go_at_call 64; refine HL.out.mono ?_; rintro e w' ⟨rfl, rfl⟩)
      go_ret
      exact ⟨ret_bool HE.out.1.symm, Lib.hid (by rw [HE.out.2]; exact .refl HD.out)⟩
    · have hof : S.off = false := by simpa using ho
      rw [hof] at co
      generalize hlen : (S.hist l').length = n at *
      by_cases hk : 0 ≤ k ∧ k ≤ n
      · obtain ⟨k', rfl⟩ := Int.eq_ofNat_of_zero_le hk.1
        have HE : Hid (S.wb (l' : Int) (k' : Int) = true ∧ S.wbS (l' : Int) (k' : Int) = S.pst l' k') := by
          have : S.wb (l' : Int) (k' : Int) = true := by rw [HWB.out, hof]; simp; omega
          exact ⟨this, by unfold St.wbS; rw [this]; rfl⟩
        have hkn : k' ≤ n := by omega
        have HP := Lib.hid (linePersist_any w base M A S l' k' HD.out HS.out hM HLN.out (by omega))
        clear ho HWB hof hlen hk
        go_enter Try.func29, Try.ntmps29
        go_wp2_with (first
          | (go_at_call 64; refine HL.out.mono ?_; rintro e w' ⟨rfl, rfl⟩)
          | (go_at_call 65; refine HP.out.mono ?_; rintro e w1 ⟨rfl, HQ⟩))
        go_ret
        exact ⟨ret_bool HE.out.1.symm, Lib.hid (by rw [HE.out.2]; exact HQ.out)⟩
      · have HE : Hid (S.wb (l' : Int) k = false ∧ S.wbS (l' : Int) k = S) := by
          have : S.wb (l' : Int) k = false := by rw [HWB.out]; simp; omega
          exact ⟨this, by unfold St.wbS; rw [this]; rfl⟩
        clear ho HWB hof hlen
        by_cases hk0 : k < 0
        · clear hk
          go_enter Try.func29, Try.ntmps29
          go_wp2_with (go_at_call 64; refine HL.out.mono ?_; rintro e w' ⟨rfl, rfl⟩)
          go_ret
          exact ⟨ret_bool HE.out.1.symm, Lib.hid (by rw [HE.out.2]; exact .refl HD.out)⟩
        · have hk3 : (n : Int) < k := by omega
          clear hk
          go_enter Try.func29, Try.ntmps29
          go_wp2_with (go_at_call 64; refine HL.out.mono ?_; rintro e w' ⟨rfl, rfl⟩)
          go_ret
          exact ⟨ret_bool HE.out.1.symm, Lib.hid (by rw [HE.out.2]; exact .refl HD.out)⟩
  · have HL := Lib.hid (lineAt_out w A S l h.db (by omega) hS.n1)
    have HE : Hid (S.wb l k = false ∧ S.wbS l k = S) := by
      have : S.wb l k = false := by
        unfold St.wb
        by_cases h1 : 0 ≤ l
        · rw [decide_eq_false (show ¬ l < (S.n : Int) by omega)]; simp
        · rw [decide_eq_false h1]; simp
      exact ⟨this, by unfold St.wbS; rw [this]; rfl⟩
    clear h hl
    go_enter Try.func29, Try.ntmps29
    go_wp2_with (go_at_call 64; refine HL.out.mono ?_; rintro e w' ⟨rfl, rfl⟩)
    go_ret
    exact ⟨ret_bool HE.out.1.symm, Lib.hid (by rw [HE.out.2]; exact .refl HD.out)⟩
end Go.Proofs.Ytbonponclcehiaa.Dev
/-
  DEVICE: the maps of notes: a new one, one more note; ranging.
-/
namespace Go.Proofs.Ytbonponclcehiaa.Dev
open Go.ChangeShapes Go.WideShapes Go.ChangeAt Go.RowKit Go.Proofs.Ytbonponclcehiaa.Mem
theorem keyInt : Go.Maps.Keyed Try.prog 3 := Go.Maps.int_keyed Try.underlying3
theorem lit_eq {a b : Nat} : (Lit.int .i64 (a : Int)) = Lit.int .i64 (b : Int) ↔ a = b := ⟨fun h => by injection h with _ h; omega, fun h => by rw [h]⟩
theorem wf_nat {a : Nat} (h : a ≤ 9223372036854775807) : (Lit.int .i64 (a : Int)).wf = true := WalkArith.wf_i64 (by omega)
theorem wf_natu {a : Nat} (h : a ≤ 9223372036854775807) : (Lit.int .u64 (a : Int)).wf = true := by
  simp [Lit.wf, IntKind.min, IntKind.max, IntKind.bits, IntKind.signed]; omega
theorem keyLit (a : Nat) : Go.WideAt.IsKeyLit (Lit.int .i64 (a : Int)) := by simp [Go.WideAt.IsKeyLit]
theorem MapAt.new (w : World) (m : Nat) : MapAt (w.alloc (.map #[] 0)) w.heap.size m [] := by
  refine ⟨0, .map [], Nat.zero_le _, World.ownsMap_made _ _ _ _, fun k => ?_, fun p hp => by cases hp⟩
  simp [Maps.has]
theorem MapAt.put {w' : World} {b n : Nat} {D : DataW Unit} {l : List (Nat × Nat)} {m : Nat} (hn : n ≤ m) (hD : Go.Maps.IsMap D)
    (h1 : ∀ k, Maps.has D k = true ↔ ∃ p ∈ l, k = Lit.int .i64 (p.1 : Int)) (h2 : ∀ p ∈ l, ∀ z, D.atKey (Lit.int .i64 (p.1 : Int)) z = .lit (.int .u64 (p.2 : Int))) (a x : Nat)
    (ho : w'.ownsMap Try.prog 3 (plainElem Try.prog 40) b (n + 1) (D.put (.int .i64 (a : Int)) (.lit (.int .u64 (x : Int))))) : MapAt w' b (m + 1) (l.filter (fun p => p.1 != a) ++ [(a, x)]) := by
  refine ⟨n + 1, _, by omega, ho, fun k => ?_, fun p hp z => ?_⟩
  · by_cases e : k = Lit.int .i64 (a : Int)
    · subst e
      rw [Go.Maps.has_put_same hD (keyLit a)]
      simp
    · rw [Go.Maps.has_put_other e, h1]
      constructor
      · rintro ⟨p, hp, rfl⟩
        refine ⟨p, List.mem_append_left _ (List.mem_filter.2 ⟨hp, ?_⟩), rfl⟩
        have : p.1 ≠ a := fun h => e (by rw [h])
        simpa using this
      · rintro ⟨p, hp, rfl⟩
        rcases List.mem_append.1 hp with h | h
        · exact ⟨p, (List.mem_filter.1 h).1, rfl⟩
        · simp only [List.mem_singleton] at h
          subst h; exact absurd rfl e
  · rcases List.mem_append.1 hp with h | h
    · obtain ⟨h3, h4⟩ := List.mem_filter.1 h
      have h5 : p.1 ≠ a := by simpa using h4
      rw [Go.Maps.atKey_put_other (fun e => h5 (lit_eq.1 e))]
      exact h2 p h3 z
    · simp only [List.mem_singleton] at h
      subst h
      exact Go.Maps.atKey_put_same hD (keyLit _) _ _
theorem foot_mv {A : Adr} {n t b m : Nat} (hb : m ≤ b) : ∀ c, ({ A with mv := fun u => if u = t then some b else A.mv u } : Adr).foot n c → A.foot n c ∨ m ≤ c := fun c hc => by
  rcases hc with h | h | h | ⟨u, hu, h⟩
  · exact .inl (.inl h)
  · exact .inl (.inr (.inl h))
  · exact .inl (.inr (.inr (.inl h)))
  · simp only at h
    by_cases e : u = t
    · rw [if_pos e] at h; cases h; exact .inr hb
    · rw [if_neg e] at h; exact .inl (.inr (.inr (.inr ⟨u, hu, h⟩)))
section
variable {w w' : World} {base : Nat} {A : Adr} {S S' : St}
/-- A thread gets a map. -/
theorem IsDev.newMap (h : IsDev w base A S) (hb : base ≤ w.heap.size) {t : Nat} (ht : t < 8) (h0 : S.notes t = []) :
    IsDev ((w.alloc (.map #[] 0)).setCell ⟨A.d, 1 + t * 4 + 3, none⟩ (.map (some w.heap.size))) base { A with mv := fun u => if u = t then some w.heap.size else A.mv u } S := by
  have ho : Only (fun b => b = A.d) w ((w.alloc (.map #[] 0)).setCell ⟨A.d, 1 + t * 4 + 3, none⟩ (.map (some w.heap.size))) := ((Only.refl (fun b => b = A.d) w).alloc _).set _ _ (.inl rfl)
  have hlt := h.ownLt
  refine ⟨?_, ?_, fun i hi => ?_, fun u hu => ?_, ?_, h.bd, h.bl⟩
  · refine (Blk.set (h.dev.alloc (.map #[] 0)) (1 + t * 4 + 3) (.map (some w.heap.size))).ext fun o ho => ?_
    by_cases e : o = 1 + t * 4 + 3
    · subst e; rw [upd_same, devG_map _ _ ht]; simp
    · rw [upd_other _ _ e]
      unfold devG
      simp only
      by_cases k1 : o = 0
      · simp [k1]
      · by_cases k2 : o < 33
        · by_cases k3 : (o - 1) % 4 = 0 ∨ (o - 1) % 4 = 1 ∨ (o - 1) % 4 = 2
          · rcases k3 with k3 | k3 | k3 <;> simp [k1, k2, k3]
          · have k4 : ¬ (o - 1) / 4 = t := by omega
            simp only [k4, if_false]
        · simp [k1, k2]
  · exact ho.blk h.lines (fun e => h.apart.dl e.symm)
  · exact (h.hist i hi).only ho fun b hb e => h.apart.hd i hi (by rw [hb, e])
  · by_cases e : u = t
    · refine .inr ⟨w.heap.size, by simp [e], hb, ?_⟩
      rw [e, h0]
      refine (MapAt.new w S.ex).of_block ?_
      rw [heap_setCell_other]
      show w.heap.size ≠ A.d
      have := h.dev.lt
      omega
    · rcases h.maps u hu with m1 | ⟨b, m1, m2, m3⟩
      · exact .inl ⟨by simp only [if_neg e]; exact m1.1, m1.2⟩
      · exact .inr ⟨b, by simp only [if_neg e]; exact m1, m2, m3.of_block (ho.block b (hlt b (.inr (.inr (.inr ⟨u, hu, m1⟩)))) (fun e => h.apart.md u hu (by rw [m1, e])))⟩
  · have f1 := hlt A.d (.inl rfl)
    have f2 := hlt A.lb (.inr (.inl rfl))
    refine ⟨h.apart.dl, h.apart.hd, h.apart.hl, h.apart.hh, fun u hu => ?_, fun u hu => ?_, fun u i hu hi b hb => ?_, fun u v hu hv hne b hb => ?_⟩
    · simp only
      split
      · intro e; have := Option.some.inj e; omega
      · exact h.apart.md u hu
    · simp only
      split
      · intro e; have := Option.some.inj e; omega
      · exact h.apart.ml u hu
    · simp only at hb
      split at hb
      · cases hb
        intro e
        have := ((h.hist i hi).lt _ e).2
        omega
      · exact h.apart.mh u i hu hi b hb
    · simp only at hb ⊢
      by_cases e1 : u = t
      · have e2 : v ≠ t := fun e => hne (by rw [e1, e])
        rw [if_pos e1] at hb; rw [if_neg e2]
        cases hb
        intro e
        have := hlt _ (.inr (.inr (.inr ⟨v, hv, e⟩)))
        omega
      · rw [if_neg e1] at hb
        by_cases e2 : v = t
        · rw [if_pos e2]
          intro e; cases e
          have := hlt _ (.inr (.inr (.inr ⟨u, hu, hb⟩)))
          omega
        · rw [if_neg e2]; exact h.apart.mm u v hu hv hne b hb
/-- A thread's map was written. -/
theorem IsDev.mapped (h : IsDev w base A S) {t b : Nat} {l : List (Nat × Nat)} (ht : t < 8) (hb : A.mv t = some b) (ho : Only (fun c => c = b) w w') (hm : MapAt w' b S.ex l) :
    IsDev w' base A { S with notes := fun u => if u = t then l else S.notes u } := by
  refine ⟨?_, ?_, fun i hi => ?_, fun u hu => ?_, h.apart, h.bd, h.bl⟩
  · exact (ho.blk h.dev (fun e => h.apart.md t ht (by rw [hb, e]))).ext fun o _ => rfl
  · exact (ho.blk h.lines (fun e => h.apart.ml t ht (by rw [hb, e]))).ext fun o _ => rfl
  · exact (h.hist i hi).only ho fun c hc e => h.apart.mh t i ht hi b hb (by rw [hc, e])
  · by_cases e : u = t
    · subst e
      exact .inr ⟨b, hb, h.baseLe b (.inr (.inr (.inr ⟨u, ht, hb⟩))), by simpa using hm⟩
    · rcases h.maps u hu with m1 | ⟨c, m1, m2, m3⟩
      · exact .inl ⟨m1.1, by simp only [if_neg e]; exact m1.2⟩
      · refine .inr ⟨c, m1, m2, ?_⟩
        simp only [if_neg e]
        exact m3.of_block (ho.block c (h.ownLt c (.inr (.inr (.inr ⟨u, hu, m1⟩)))) (fun e2 => h.apart.mm u t hu ht e c m1 (by rw [hb, e2])))
end
end Go.Proofs.Ytbonponclcehiaa.Dev
/-
  DEVICE: Flush.
-/
namespace Go.Proofs.Ytbonponclcehiaa.Dev
open Go.ChangeShapes Go.WideShapes Go.ChangeAt Go.RowKit Go.Proofs.Ytbonponclcehiaa.Mem
theorem St.flushV_lt {S : St} {o : Nat} (h : S.flushV o = true) : o / 64 < S.n := by
  simp [St.flushV] at h; omega
set_option maxRecDepth 100000 in
set_option maxHeartbeats 2000000 in
/-- The last statement of Flush, at a thread that has a map: from the world w on. -/
theorem flush_yes (w : World) (base M : Nat) (A : Adr) (S : St) (t o mb : Nat) (h : IsDev w base A S) (hS : S.Ok M) (hM : M ≤ 1000000) (ht : t < 8) (ho : o < 18446744073709551616) (hc : S.cnt (S.flushV o) = true) (hS' : (S.cntS t true).Ok M) (hm : A.mv t = some mb) :
    Calls Try.prog 23 #[.pointer (some ⟨A.d, 1 + t * 4, none⟩), .int .u64 (o : Int)] w fun r w' => r = .returned (.tuple #[]) ∧ Hid (Step w w' base A S (S.flushS t o)) := by
  have hv : S.flushV o = true := by simp [St.cnt] at hc; exact hc.1.2
  have hkn := St.flushV_lt hv
  have HSz := Lib.hid (tsize_any w A S t h.db ht hS.n1)
  have HC := Lib.hid (count_any w A S t true h.db ht (by have := hS.ex; omega) hS.left)
  have HD := Lib.hid h
  have hn := hS.n1
  have hexM := hS.ex
  have HS2 := Lib.hid hS'
  have hlt : ((o : Int) < ((S.n * 64 : Nat) : Int)) := by simp [St.flushV] at hv; omega
  generalize ((S.n * 64 : Nat) : Int) = z at *
  have HE : Hid (S.flushS t o = (S.cntS t true).note t (o / 64) (S.gone (o / 64) + (S.hist (o / 64)).length)) := by simp only [Hid, St.flushS]; rw [if_pos hc, hv]
  rw [hv] at hc
  have HX := Lib.hid hc
  rw [hc] at HC
  obtain ⟨k, hkk⟩ : ∃ k, o / 64 = k := ⟨_, rfl⟩
  rw [hkk] at hkn HE
  have hd : (o : Int) / 64 = (k : Int) := by omega
  have hdt : (o : Int).tdiv 64 = (k : Int) := by rw [Int.tdiv_eq_ediv_of_nonneg (by omega)]; exact hd
  have hkw : IntKind.i64.wrap (k : Int) = (k : Int) := IntWalk.i64_in _ ⟨by omega, by omega⟩
  have hkw2 : IntKind.u64.wrap (k : Int) = (k : Int) := IntWalk.u64_in _ ⟨by omega, by omega⟩
  have HK := Lib.hid hkk
  have HM := Lib.hid hm
  have qT : ∀ (w : World) (r : Option Nat), (binOp .eql 93 (.map r) (.map none)).run Try.prog w = .ok (.bool r.isNone) w := fun w r => run_eql_map_nil w _ _ _ r Try.underlying93
  have hld := h.dev.lt
  clear h hS hS' hv hc hkk hm
  go_enter Try.func23, Try.ntmps23
  go_wp2_with (first
    | (go_at_call 38; refine HSz.out.mono ?_; rintro e w' ⟨rfl, hw⟩; have hw2 := hw.symm; clear hw; subst hw2)
    | (go_at_call 58; refine HC.out.mono ?_; rintro e w1 ⟨rfl, HQ⟩; have cp := HQ.out.1.cPtr ht; have c0 := HQ.out.1.c0; rw [St.cntS_n] at c0; have cm := HQ.out.1.cell (o := 1 + t * 4 + 3) (by omega); rw [devG_map _ _ ht, HM.out] at cm; have HI1 := Lib.hid (HD.out.ctl HQ.out.1 HQ.out.2 (SameData.cntS S t true))))
  have ch := HI1.out.lines.cell (o := k * 18 + 16) (by rw [St.cntS_n]; omega)
  have cg := HI1.out.lines.cell (o := k * 18 + 17) (by rw [St.cntS_n]; omega)
  rw [linesG_hist] at ch
  rw [linesG_gone] at cg
  obtain ⟨a, c, hhv⟩ := hist_slice (HI1.out.hist k (by rw [St.cntS_n]; exact hkn))
  rw [hhv] at ch
  have hsum := HS2.out.sum k
  have HEnd := fun w' => Lib.hid (end_any A.lb (k * 18) ((S.cntS t true).hist k).length c ((S.cntS t true).gone k) a w')
  generalize hPos : (S.cntS t true).gone k + ((S.cntS t true).hist k).length = pos at *
  obtain ⟨n0, D, hn0, hown, hD1, hD2⟩ : MapAt w1 mb S.ex (S.notes t) := by
    rcases HD.out.maps t ht with h | ⟨b, h1, _, h3⟩
    · rw [HM.out] at h; cases h.1
    · rw [HM.out] at h1; cases h1
      exact h3.of_block (HQ.out.2.block mb (HD.out.ownLt mb (.inr (.inr (.inr ⟨t, ht, HM.out⟩)))) (fun e => HD.out.apart.md t ht (by rw [HM.out, e])))
  have hex := HS2.out.ex
  have hup : ∀ j, ∃ w', (Instr.mapUpdate 93 (.map (some mb)) (.int .i64 (k : Int)) (.int .u64 (pos : Int))).run Try.prog (w1.drewN j) = .ok () w' ∧ w'.ownsMap Try.prog 3 (plainElem Try.prog 40) mb (n0 + 1) (D.put (.int .i64 (k : Int)) (.lit (.int .u64 (pos : Int)))) ∧ (w1.drewN j).grownBy w' (some mb) := fun j =>
    World.ownsMap.update (w := w1.drewN j) hown keyInt Try.underlying93 (by unfold maxLen; omega) (Go.Maps.keyOf_int_mk Try.underlying3 (wf_nat (by omega))) (plainElem_int Try.underlying40 (wf_natu (by omega)))
  obtain ⟨f, hf⟩ := Classical.skolem.1 hup
  have hrun := fun j => (hf j).1
  have hexx : (S.cntS t true).ex = S.ex + 1 := by
    have := HX.out
    simp only [St.cnt, Bool.and_true, Bool.and_eq_true, Bool.not_eq_true'] at this
    simp [St.cntS, this.1, this.2, St.tk, St.tickS]
  have HFIN : Hid (∀ j, Step w (f j) base A S ((S.cntS t true).note t k ((S.cntS t true).gone k + ((S.cntS t true).hist k).length))) := fun j => by
    refine Step.pre (S1 := S.cntS t true) HQ.out.2 (St.cntS_n S t true) ⟨A, rfl, rfl, ?_, ?_, fun b hb => .inl hb⟩
    · rw [hPos]
      refine (HI1.out.below (below_drewN _ _ j) (Nat.le_refl _)).mapped ht HM.out (Only.ofGrown (hf j).2.2 fun c hc => .inl (Option.some.inj hc).symm) ?_
      rw [(SameData.cntS S t true).notes, hexx]
      exact MapAt.put hn0 hown.isMap hD1 hD2 k pos (hf j).2.1
    · refine ((Only.refl _ _).drewN j).trans (Only.ofGrown (hf j).2.2 fun c hc => .inl (.inr (.inr (.inr ⟨t, ht, ?_⟩))))
      rw [HM.out, ← Option.some.inj hc]
  clear hhv hf hup hown hD1 hD2 hn0 hexx hPos
  go_region_with ((first
    | (go_at_call 60; refine (lineOf_at A S _ (by exact c0) o k ho HK.out hkn hn).mono ?_; rintro e w2 ⟨rfl, rfl⟩)
    | (go_at_call 62; refine ((HEnd _).out (by exact ch) (by exact cg) (by omega)).mono ?_; rintro e w3 ⟨rfl, j, rfl⟩)))
  all_goals
    go_end0
    refine ⟨rfl, Lib.hid ?_⟩
    rw [HE.out]
    have hs := SameData.cntS S t true
    have := HFIN.out
    rw [hs.gone, hs.hist] at this
    exact this _
end Go.Proofs.Ytbonponclcehiaa.Dev
/-
  DEVICE: Flush at a thread without notes; Flush.
-/
namespace Go.Proofs.Ytbonponclcehiaa.Dev
open Go.ChangeShapes Go.WideShapes Go.ChangeAt Go.RowKit Go.Proofs.Ytbonponclcehiaa.Mem
set_option maxRecDepth 100000 in
set_option maxHeartbeats 2000000 in
/-- The last statement of Flush, at a thread that has none: from the world w on. -/
theorem flush_new (w : World) (base M : Nat) (A : Adr) (S : St) (t o : Nat) (h : IsDev w base A S) (hS : S.Ok M) (hM : M ≤ 1000000) (ht : t < 8) (ho : o < 18446744073709551616) (hc : S.cnt (S.flushV o) = true) (hS' : (S.cntS t true).Ok M) (hm : A.mv t = none) (hbw : base ≤ w.heap.size) :
    Calls Try.prog 23 #[.pointer (some ⟨A.d, 1 + t * 4, none⟩), .int .u64 (o : Int)] w fun r w' => r = .returned (.tuple #[]) ∧ Hid (Step w w' base A S (S.flushS t o)) := by
  have hv : S.flushV o = true := by simp [St.cnt] at hc; exact hc.1.2
  have hkn := St.flushV_lt hv
  have HSz := Lib.hid (tsize_any w A S t h.db ht hS.n1)
  have HC := Lib.hid (count_any w A S t true h.db ht (by have := hS.ex; omega) hS.left)
  have HD := Lib.hid h
  have hn := hS.n1
  have hexM := hS.ex
  have HS2 := Lib.hid hS'
  have hlt : ((o : Int) < ((S.n * 64 : Nat) : Int)) := by simp [St.flushV] at hv; omega
  generalize ((S.n * 64 : Nat) : Int) = z at *
  have HE : Hid (S.flushS t o = (S.cntS t true).note t (o / 64) (S.gone (o / 64) + (S.hist (o / 64)).length)) := by simp only [Hid, St.flushS]; rw [if_pos hc, hv]
  rw [hv] at hc
  have HX := Lib.hid hc
  rw [hc] at HC
  obtain ⟨k, hkk⟩ : ∃ k, o / 64 = k := ⟨_, rfl⟩
  rw [hkk] at hkn HE
  have hd : (o : Int) / 64 = (k : Int) := by omega
  have hdt : (o : Int).tdiv 64 = (k : Int) := by rw [Int.tdiv_eq_ediv_of_nonneg (by omega)]; exact hd
  have hkw : IntKind.i64.wrap (k : Int) = (k : Int) := IntWalk.i64_in _ ⟨by omega, by omega⟩
  have hkw2 : IntKind.u64.wrap (k : Int) = (k : Int) := IntWalk.u64_in _ ⟨by omega, by omega⟩
  have HK := Lib.hid hkk
  have HM := Lib.hid hm
  have qT : ∀ (w : World) (r : Option Nat), (binOp .eql 93 (.map r) (.map none)).run Try.prog w = .ok (.bool r.isNone) w := fun w r => run_eql_map_nil w _ _ _ r Try.underlying93
  have hld := h.dev.lt
  clear h hS hS' hv hc hkk hm
  have hmm := @run_makeMap Try.prog
  go_enter Try.func23, Try.ntmps23
  go_wp2_with (first
    | (go_at_call 38; refine HSz.out.mono ?_; rintro e w' ⟨rfl, hw⟩; have hw2 := hw.symm; clear hw; subst hw2)
    | (go_at_call 58; refine HC.out.mono ?_; rintro e w1 ⟨rfl, HQ⟩; have cp := HQ.out.1.cPtr ht; have c0 := HQ.out.1.c0; rw [St.cntS_n] at c0; have cm := HQ.out.1.cell (o := 1 + t * 4 + 3) (by omega); rw [devG_map _ _ ht, HM.out] at cm; have HI0 := Lib.hid (HD.out.ctl HQ.out.1 HQ.out.2 (SameData.cntS S t true)); have zm := HQ.out.1.frozen (1 + t * 4 + 3); have hld1 := HQ.out.1.lt))
  obtain ⟨w2, hw2⟩ : ∃ w2, w2 = (w1.setCell ⟨A.d, 1 + t * 4 + 3, none⟩ (.map (some w1.heap.size))).alloc (.map #[] 0) := ⟨_, rfl⟩
  rw [← hw2]
  rw [← World.setCell_alloc_past _ _ _ _ hld1] at hw2
  have hnt : S.notes t = [] := by
    rcases HD.out.maps t ht with h | ⟨b, h1, _⟩
    · exact h.2
    · rw [HM.out] at h1; cases h1
  have I1 := HI0.out.newMap (Nat.le_trans hbw HQ.out.2.size) ht (by rw [(SameData.cntS S t true).notes]; exact hnt)
  rw [← hw2] at I1
  have O1 : Only (A.foot S.n) w w2 := by rw [hw2]; exact ((HQ.out.2.mono fun b hb => .inl hb).alloc _).set _ _ (.inl (.inl rfl))
  obtain ⟨mb, hmb⟩ : ∃ mb, w1.heap.size = mb := ⟨_, rfl⟩
  obtain ⟨A2, hA2⟩ : ∃ A2 : Adr, A2 = { A with mv := fun u => if u = t then some w1.heap.size else A.mv u } := ⟨_, rfl⟩
  rw [← hA2] at I1
  have hfoot : ∀ c, A2.foot S.n c → A.foot S.n c ∨ w.heap.size ≤ c := by rw [hA2]; exact foot_mv HQ.out.2.size
  have eA1 : A2.d = A.d := by rw [hA2]
  have eA2 : A2.lb = A.lb := by rw [hA2]
  have hmv : A2.mv t = some mb := by rw [hA2, hmb]; simp
  have HI1 := Lib.hid I1
  have HMV := Lib.hid hmv
  have cp2 := I1.db.cPtr ht
  have c02 := I1.db.c0
  have cm2 := I1.db.cell (o := 1 + t * 4 + 3) (by omega)
  rw [devG_map _ _ ht, hmv] at cm2
  rw [St.cntS_n, eA2] at c02
  rw [eA1] at cp2 c02 cm2
  have hMA : MapAt w2 mb 0 [] := by
    rw [hw2, ← hmb]
    refine (MapAt.new w1 0).of_block ?_
    rw [heap_setCell_other]
    show w1.heap.size ≠ A.d
    omega
  have HEA1 := Lib.hid eA1
  have HEA2 := Lib.hid eA2
  have HWM := Lib.hid (show w.heap.size ≤ mb by rw [← hmb]; exact HQ.out.2.size)
  have HO1 := Lib.hid O1
  have HFT := Lib.hid hfoot
  have HHV := Lib.hid (show A2.hv = A.hv by rw [hA2])
  clear cp c0 cm zm hw2 I1 O1 hA2 hfoot eA1 eA2 hmv hmb
  have ch := HI1.out.lines.cell (o := k * 18 + 16) (by rw [St.cntS_n]; omega)
  have cg := HI1.out.lines.cell (o := k * 18 + 17) (by rw [St.cntS_n]; omega)
  rw [linesG_hist] at ch
  rw [linesG_gone] at cg
  rw [HEA2.out] at ch cg
  obtain ⟨a, c, hhv⟩ := hist_slice (HI1.out.hist k (by rw [St.cntS_n]; exact hkn))
  rw [hhv] at ch
  have hsum := HS2.out.sum k
  have HEnd := fun w' => Lib.hid (end_any A.lb (k * 18) ((S.cntS t true).hist k).length c ((S.cntS t true).gone k) a w')
  generalize hPos : (S.cntS t true).gone k + ((S.cntS t true).hist k).length = pos at *
  obtain ⟨n0, D, hn0, hown, hD1, hD2⟩ := hMA
  have hup : ∀ j, ∃ w', (Instr.mapUpdate 93 (.map (some mb)) (.int .i64 (k : Int)) (.int .u64 (pos : Int))).run Try.prog (w2.drewN j) = .ok () w' ∧ w'.ownsMap Try.prog 3 (plainElem Try.prog 40) mb (n0 + 1) (D.put (.int .i64 (k : Int)) (.lit (.int .u64 (pos : Int)))) ∧ (w2.drewN j).grownBy w' (some mb) := fun j =>
    World.ownsMap.update (w := w2.drewN j) hown keyInt Try.underlying93 (by unfold maxLen; omega) (Go.Maps.keyOf_int_mk Try.underlying3 (wf_nat (by omega))) (plainElem_int Try.underlying40 (wf_natu (by omega)))
  obtain ⟨f, hf⟩ := Classical.skolem.1 hup
  have hrun := fun j => (hf j).1
  have hexx : (S.cntS t true).ex = S.ex + 1 := by
    have := HX.out
    simp only [St.cnt, Bool.and_true, Bool.and_eq_true, Bool.not_eq_true'] at this
    simp [St.cntS, this.1, this.2, St.tk, St.tickS]
  have HFIN : Hid (∀ j, Step w (f j) base A S ((S.cntS t true).note t k ((S.cntS t true).gone k + ((S.cntS t true).hist k).length))) := fun j => by
    refine ⟨A2, HEA1.out, HEA2.out, ?_, ?_, HFT.out⟩
    · rw [hPos]
      refine (HI1.out.below (below_drewN _ _ j) (Nat.le_refl _)).mapped ht HMV.out (Only.ofGrown (hf j).2.2 fun c hc => .inl (Option.some.inj hc).symm) ?_
      rw [(SameData.cntS S t true).notes, hexx, hnt]
      have := MapAt.put hn0 hown.isMap hD1 hD2 k pos (hf j).2.1
      exact this.mono (by omega)
    · refine (HO1.out.drewN j).trans' (G := fun c => c = mb) (Only.ofGrown (hf j).2.2 fun c hc => .inl (Option.some.inj hc).symm) fun b hb => .inr ?_
      rw [hb]; exact HWM.out
  clear hhv hf hup hown hD1 hD2 hn0 hexx hPos hnt
  go_region_with ((first
    | (go_at_call 60; refine (lineOf_at A S _ (by exact c02) o k ho HK.out hkn hn).mono ?_; rintro e w2 ⟨rfl, rfl⟩)
    | (go_at_call 62; refine ((HEnd _).out (by exact ch) (by exact cg) (by omega)).mono ?_; rintro e w3 ⟨rfl, j, rfl⟩)))
  all_goals
    go_end0
    refine ⟨rfl, Lib.hid ?_⟩
    rw [HE.out]
    have hs := SameData.cntS S t true
    have := HFIN.out
    rw [hs.gone, hs.hist] at this
    exact this _
theorem flush_no (w : World) (base M : Nat) (A : Adr) (S : St) (t o : Nat) (h : IsDev w base A S) (hS : S.Ok M) (hM : M ≤ 1000000) (ht : t < 8) (ho : o < 18446744073709551616) (hc : S.cnt (S.flushV o) = false) :
    Calls Try.prog 23 #[.pointer (some ⟨A.d, 1 + t * 4, none⟩), .int .u64 (o : Int)] w fun r w' => r = .returned (.tuple #[]) ∧ Hid (Step w w' base A S (S.flushS t o)) := by
  have HSz := Lib.hid (tsize_any w A S t h.db ht hS.n1)
  have HC := Lib.hid (count_any w A S t (S.flushV o) h.db ht (by have := hS.ex; omega) hS.left)
  have HD := Lib.hid h
  have HE : Hid (S.flushS t o = S.cntS t (S.flushV o)) := by simp only [Hid, St.flushS]; rw [hc]; rfl
  rw [hc] at HC
  have hv : S.flushV o = decide (o < S.n * 64) := rfl
  obtain ⟨z, hz⟩ : ∃ z, S.n * 64 = z := ⟨_, rfl⟩
  rw [hz] at HSz hv
  generalize S.flushV o = v at *
  clear h hS hc hz
  by_cases hlt : o < z
  · rw [decide_eq_true hlt] at hv
    subst hv
    have hl2 : (o : Int) < (z : Int) := by omega
    go_enter Try.func23, Try.ntmps23
    go_wp2_with (first
      | (go_at_call 38; refine HSz.out.mono ?_; rintro e w' ⟨rfl, hw⟩; have hw2 := hw.symm; clear hw; subst hw2)
      | (go_at_call 58; refine HC.out.mono ?_; rintro e w1 ⟨rfl, HQ⟩))
    try simp only [Exit.inBlock, Exit.then]
    refine bodyPost_ret (results_none rfl _ _ _) rfl ?_
    refine ⟨rfl, Lib.hid ?_⟩
    rw [HE.out]
    exact HD.out.ctlStep HQ.out.1 HQ.out.2 (SameData.cntS S t _)
  · rw [decide_eq_false hlt] at hv
    subst hv
    have hl2 : ¬ (o : Int) < (z : Int) := by omega
    go_enter Try.func23, Try.ntmps23
    go_wp2_with (first
      | (go_at_call 38; refine HSz.out.mono ?_; rintro e w' ⟨rfl, hw⟩; have hw2 := hw.symm; clear hw; subst hw2)
      | (go_at_call 58; refine HC.out.mono ?_; rintro e w1 ⟨rfl, HQ⟩))
    try simp only [Exit.inBlock, Exit.then]
    refine bodyPost_ret (results_none rfl _ _ _) rfl ?_
    refine ⟨rfl, Lib.hid ?_⟩
    rw [HE.out]
    exact HD.out.ctlStep HQ.out.1 HQ.out.2 (SameData.cntS S t _)
theorem flush_any (w : World) (base M : Nat) (A : Adr) (S : St) (t o : Nat) (h : IsDev w base A S) (hS : S.Ok M) (hM : M ≤ 1000000) (ht : t < 8) (ho : o < 18446744073709551616) (hS' : (S.cntS t (S.flushV o)).Ok M) :
    Calls Try.prog 23 #[.pointer (some ⟨A.d, 1 + t * 4, none⟩), .int .u64 (o : Int)] w fun r w' => r = .returned (.tuple #[]) ∧ Hid (Step w w' base A S (S.flushS t o)) := by
  cases hc : S.cnt (S.flushV o)
  · exact flush_no w base M A S t o h hS hM ht ho hc
  · have hv : S.flushV o = true := by simp [St.cnt] at hc; exact hc.1.2
    rw [hv] at hS'
    cases hm : A.mv t with
    | none => exact flush_new w base M A S t o h hS hM ht ho hc hS' hm (Nat.le_trans h.bd (Nat.le_of_lt h.dev.lt))
    | some mb => exact flush_yes w base M A S t o mb h hS hM ht ho hc hS' hm
end Go.Proofs.Ytbonponclcehiaa.Dev
/-
  DEVICE: Fence.
-/
namespace Go.Proofs.Ytbonponclcehiaa.Dev
open Go.ChangeShapes Go.WideShapes Go.ChangeAt Go.RowKit Go.Proofs.Ytbonponclcehiaa.Mem Go.ChangeMaps
theorem has_of_atKey {D : DataW Unit} (hm : Go.Maps.IsMap D) {k : Lit} {c : Int} (h : ∀ z, D.atKey k z = .lit (.int .u64 c)) : Maps.has D k = true := by
  cases hh : Maps.has D k
  · obtain ⟨es, rfl⟩ := hm
    have h1 := h .nil
    have h2 : es.find? (fun p => p.1.sameKey k) = none := by
      rw [List.find?_eq_none]
      intro p hp
      have := List.any_eq_false.1 hh p hp
      simpa using this
    simp [DataW.atKey, h2] at h1
  · rfl
theorem run_clear_map (w : World) (ty : TypeId) (b : Nat) (es : Array MapEntry) (clock : Nat) (hb : w.heap[b]? = some (.map es clock)) :
    (Builtin.clear_ #[93] ty #[.map (some b)]).run Try.prog w = .ok (.tuple #[]) (setBlock w b (.map #[] clock)) := by
  have hlt : b < w.heap.size := (Array.getElem?_eq_some_iff.1 hb).1
  simp [Builtin.clear_, run_underlying Try.underlying93, MapKept.run_getObj_map hb, MapKept.run_setObj_map _ hb, Result.andThen, setBlock]
theorem run_clear_nilmap (w : World) (ty : TypeId) : (Builtin.clear_ #[93] ty #[.map none]).run Try.prog w = .ok (.tuple #[]) w := by
  simp [Builtin.clear_, run_underlying Try.underlying93]
theorem MapAt.cleared {w : World} {b clock m : Nat} {es : Array MapEntry} (hb : w.heap[b]? = some (.map es clock)) : MapAt (setBlock w b (.map #[] clock)) b m [] := by
  refine ⟨0, .map [], Nat.zero_le _, ⟨#[], clock, heap_setBlock_same hb _, ⟨by simp [maxLen], ⟨by simp, by simp, by simp⟩, by simp⟩, by simp, rfl⟩, fun k => ?_, fun p hp => by cases hp⟩
  simp [Maps.has]
theorem Only.setBlock {w : World} {b clock : Nat} {es : Array MapEntry} (hb : w.heap[b]? = some (.map es clock)) (o : Obj) : Only (fun c => c = b) w (Go.ChangeMaps.setBlock w b o) :=
  ⟨rfl, rfl, rfl, by simp [Go.ChangeMaps.setBlock], fun k _ hk => heap_setBlock_other hb o hk⟩
/-! ### what the rounds do, as data -/
theorem pstF_zero (S : St) (f : Nat → Nat) (h : ∀ i, f i = 0) : S.pstF f = S := by
  have e : f = fun _ => 0 := funext h
  subst e
  cases S
  simp [St.pstF, applyW]
theorem pstF_pst (S : St) (f : Nat → Nat) (x k : Nat) (h0 : f x = 0) : (S.pstF f).pst x k = S.pstF (fun i => if i = x then k else f i) := by
  simp only [St.pstF, St.pst, St.mk.injEq, true_and, and_true]
  refine ⟨?_, ?_, ?_⟩ <;> funext i <;> by_cases e : i = x
  · subst e; simp [h0, applyW]
  · simp [e]
  · subst e; simp [h0]
  · simp [e]
  · subst e; simp [h0]
  · simp [e]
theorem St.Ok.pstF {S : St} {M : Nat} (h : S.Ok M) (f : Nat → Nat) (hf : ∀ i, f i ≤ (S.hist i).length) : (S.pstF f).Ok M := by
  refine ⟨h.n0, h.n1, fun i j => ?_, fun i p hp => h.hist i p (List.mem_of_mem_drop hp), fun i => ?_, h.ex, h.err, h.left, fun t p hp => ?_, h.keys, h.cnt⟩
  · have : ∀ (l : List (Nat × Nat)) (b : Nat → Nat), (∀ j, b j < 18446744073709551616) → (∀ p ∈ l, p.2 < 18446744073709551616) → ∀ j, applyW b l j < 18446744073709551616 := by
      intro l
      induction l with
      | nil => intro b hb _ j; exact hb j
      | cons p l ih =>
        intro b hb hp j
        refine ih _ (fun j => ?_) (fun q hq => hp q (List.mem_cons_of_mem _ hq)) j
        split
        · exact hp p (List.mem_cons_self ..)
        · exact hb j
    exact this _ _ (h.pers i) (fun p hp => (h.hist i p (List.mem_of_mem_take hp)).2.2.2) j
  · have := h.sum i
    have := hf i
    simp [St.pstF]
    omega
  · obtain ⟨h1, h2⟩ := h.note t p hp
    refine ⟨h1, ?_⟩
    have := hf p.1
    simp [St.pstF]
    omega
theorem kof_note {S : St} {l : List (Nat × Nat)} (hk : l.Pairwise (fun p q => p.1 ≠ q.1)) {p : Nat × Nat} (hp : p ∈ l) : S.kof l p.1 = p.2 - S.gone p.1 := by
  have : l.find? (fun q => q.1 == p.1) = some p := by
    induction l with
    | nil => cases hp
    | cons q l ih =>
      obtain ⟨h1, h2⟩ := List.pairwise_cons.1 hk
      rcases List.mem_cons.1 hp with rfl | h
      · simp
      · rw [List.find?_cons_of_neg (by simpa using h1 p h)]
        exact ih h2 h
  simp [St.kof, this]
theorem kof_none {S : St} {l : List (Nat × Nat)} {i : Nat} (h : ∀ p ∈ l, p.1 ≠ i) : S.kof l i = 0 := by
  have : l.find? (fun q => q.1 == i) = none := by
    rw [List.find?_eq_none]; intro p hp; simpa using h p hp
  simp [St.kof, this]
theorem kof_le {S : St} {M t : Nat} (h : S.Ok M) (i : Nat) : S.kof (S.notes t) i ≤ (S.hist i).length := by
  unfold St.kof
  split
  · rename_i p hp
    have h1 := List.mem_of_find?_eq_some hp
    have h2 := List.find?_some hp
    have h3 := (h.note t p h1).2
    have : p.1 = i := by simpa using h2
    rw [this] at h3
    omega
  · omega
/-- What is persisted while these keys are still to come. -/
def todo (S : St) (l : List (Nat × Nat)) (left : Lit → Bool) (i : Nat) : Nat := if left (.int .i64 (i : Int)) = true then 0 else S.kof l i
theorem todo_start {S : St} {l : List (Nat × Nat)} {D : DataW Unit} (h : ∀ k, Maps.has D k = true ↔ ∃ p ∈ l, k = Lit.int .i64 (p.1 : Int)) (i : Nat) : todo S l (Maps.has D) i = 0 := by
  unfold todo
  split
  · rfl
  · rename_i hn
    refine kof_none fun p hp e => hn ((h _).2 ⟨p, hp, by rw [e]⟩)
theorem todo_step (S : St) (l : List (Nat × Nat)) (left : Lit → Bool) (x : Nat) : todo S l (fun z => left z && !z.sameKey (.int .i64 (x : Int))) = fun i => if i = x then S.kof l x else todo S l left i := by
  funext i
  unfold todo
  by_cases e : i = x
  · subst e; simp [Lit.sameKey]
  · have : (Lit.int .i64 (i : Int)).sameKey (.int .i64 (x : Int)) = false := Go.Maps.sameKey_ne (fun h => e (lit_eq.1 h))
    simp [this, e]
theorem World.ranges.of_blocks {w w' : World} {P : Program} {k : TypeId} {R : Value → Option (DataW Unit × List MemPlace)} {b r n cnt : Nat} {D : DataW Unit} {left : Lit → Bool} (h : w.ranges P k R b r n D left cnt)
    (hb : w'.heap[b]? = w.heap[b]?) (hr : w'.heap[r]? = w.heap[r]?) : w'.ranges P k R b r n D left cnt := by
  obtain ⟨es, clock, since, seen, c0, h1, F, hs, hD, h2, rest⟩ := h
  exact ⟨es, clock, since, seen, c0, by rw [hb]; exact h1, F, hs, hD, by rw [hr]; exact h2, rest⟩
/-- The device lies in the blocks where it lay: the histories' rows are the same blocks. -/
structure SamePlaces (A A' : Adr) : Prop where
  d : A'.d = A.d
  lb : A'.lb = A.lb
  mv : A'.mv = A.mv
  hv : ∀ i, (A'.hv i).ownBlock = (A.hv i).ownBlock
theorem SamePlaces.foot {A A' : Adr} (h : SamePlaces A A') (n b : Nat) : A'.foot n b ↔ A.foot n b := by
  unfold Adr.foot
  rw [h.d, h.lb, h.mv]
  simp only [h.hv]
theorem SamePlaces.set {A A' : Adr} (h : SamePlaces A A') {l : Nat} {v : Value} (hv : v.ownBlock = (A'.hv l).ownBlock) : SamePlaces A { A' with hv := fun i => if i = l then v else A'.hv i } :=
  ⟨h.d, h.lb, h.mv, fun i => by
    simp only
    split
    · rename_i e; subst e; rw [hv]; exact h.hv i
    · exact h.hv i⟩
theorem IsDev.mapAfter {w w1 : World} {base : Nat} {A : Adr} {S : St} {t mb : Nat} (h : IsDev w base A S) (ht : t < 8) (hm : A.mv t = some mb) (ho : Only (fun b => b = A.d) w w1) : MapAt w1 mb S.ex (S.notes t) := by
  rcases h.maps t ht with h0 | ⟨b, h1, _, h3⟩
  · rw [hm] at h0; cases h0.1
  · rw [hm] at h1; cases h1
    exact h3.of_block (ho.block mb (h.ownLt mb (.inr (.inr (.inr ⟨t, ht, hm⟩)))) (fun e => h.apart.md t ht (by rw [hm, e])))
def FenceRel (w1 : World) (base : Nat) (A : Adr) (S S1 : St) (t mb n0 : Nat) (D : DataW Unit) (left : Lit → Bool) (cnt : Nat) (A1 : Adr) (wr : World) : Prop :=
  wr.ranges Try.prog 3 (plainElem Try.prog 40) mb w1.heap.size n0 D left cnt ∧ IsDev wr base A1 (S1.pstF (todo S1 (S.notes t) left)) ∧ SamePlaces A A1 ∧ Only (fun b => b = A.lb ∨ ∃ i, i < S.n ∧ (A.hv i).ownBlock = some b) w1 wr
set_option maxRecDepth 100000 in
set_option maxHeartbeats 1000000 in
theorem fence_map (w : World) (base M : Nat) (A : Adr) (S : St) (t mb : Nat) (h : IsDev w base A S) (hS : S.Ok M) (hM : M ≤ 1000000) (ht : t < 8) (hc : S.cnt true = true) (hS' : (S.cntS t true).Ok M) (hm : A.mv t = some mb) :
    Calls Try.prog 24 #[.pointer (some ⟨A.d, 1 + t * 4, none⟩)] w fun r w' => r = .returned (.tuple #[]) ∧ Hid (Step w w' base A S (S.fenceS t)) := by
  have HC := Lib.hid (count_any w A S t true h.db ht (by have := hS.ex; omega) hS.left)
  have HD := Lib.hid h
  have HS2 := Lib.hid hS'
  have hn := hS.n1
  have hexM := hS.ex
  have HE : Hid (S.fenceS t = ((S.cntS t true).pstF (S.kof (S.notes t))).clr t) := by simp only [Hid, St.fenceS]; rw [if_pos hc]
  rw [hc] at HC
  have HM := Lib.hid hm
  clear h hS hS' hc hm
  go_enter Try.func24, Try.ntmps24
  go_wp2_with (first
    | (go_at_call 58; refine HC.out.mono ?_; rintro e w1 ⟨rfl, HQ⟩; have cm := HQ.out.1.cell (o := 1 + t * 4 + 3) (by omega); rw [devG_map _ _ ht, HM.out] at cm; have HMP := Lib.hid (HD.out.mapAfter ht HM.out HQ.out.2); have HI1 := Lib.hid (HD.out.ctl HQ.out.1 HQ.out.2 (SameData.cntS S t true)))
    | (at_range; obtain ⟨n0, D, hn0, hown, hD1, hD2⟩ := HMP.out; have HOW := Lib.hid hown; have HIM : Hid (Go.Maps.IsMap D) := hown.isMap; have HD1 := Lib.hid hD1; have HD2 := Lib.hid hD2; clear hn0 hown hD1 hD2; refine wpList_range_own _ rfl _ 93 rfl 3 40 keyInt Try.underlying93 _ mb n0 D rfl HOW.out ?_; intro w0 hrg0 hg0 hs0; have HRG := Lib.hid hrg0; have HG := Lib.hid hg0; have HSZ := Lib.hid hs0; clear hrg0 hg0 hs0 cm))
  go_frame
  have hsd := SameData.cntS S t true
  have HSD := Lib.hid hsd
  have hl1 : mb < w1.heap.size := Nat.lt_of_lt_of_le (HD.out.ownLt mb (.inr (.inr (.inr ⟨t, ht, HM.out⟩)))) HQ.out.2.size
  have H0 : Hid (FenceRel w1 base A S (S.cntS t true) t mb n0 D (Maps.has D) (Maps.size D) A w0) :=
    ⟨HRG.out, by rw [pstF_zero _ _ (fun i => todo_start HD1.out i)]; exact HI1.out.only (F := fun _ => False) (Only.ofGrown HG.out (fun k hk => by cases hk)) (fun _ _ h => h), ⟨rfl, rfl, rfl, fun _ => rfl⟩, Only.ofGrown HG.out (fun k hk => by cases hk)⟩
  clear hsd
  go_loopw [2] (fun _ wr => ∃ left cnt A1, Hid (FenceRel w1 base A S (S.cntS t true) t mb n0 D left cnt A1 wr)) (fun _ wr => wr.rangeLeft mb w1.heap.size)
  case atStart => exact ⟨_, _, _, H0⟩
  case round =>
    obtain ⟨left, cnt, A1, HR⟩ := hrel
    obtain ⟨R1, R2, R3, R4⟩ := HR.out
    have HR1 := Lib.hid R1
    have HR2 := Lib.hid R2
    have HR3 := Lib.hid R3
    have HR4 := Lib.hid R4
    clear R1 R2 R3 R4
    go_wp2_with (at_next; refine wpList_next_ranges_ii _ rfl _ rfl 3 40 .i64 .u64 keyInt Try.underlying3 Try.underlying40 mb w1.heap.size n0 _ _ _ rfl HR1.out ?_ ?_)
    · intro _ hl0
      obtain ⟨es, clock, hb, _⟩ := HR1.out.owns
      have hcl := fun ty => run_clear_map wr ty mb es clock hb
      have cm := HR2.out.db.cell (o := 1 + t * 4 + 3) (by omega)
      rw [devG_map _ _ ht, HR3.out.mv, HM.out, HR3.out.d] at cm
      have HTD : Hid (todo (S.cntS t true) (S.notes t) left = S.kof (S.notes t)) := by
        funext i
        unfold todo
        rw [if_neg (by simp [hl0])]
        unfold St.kof
        rw [HSD.out.gone]
      have HFIN : Hid (Step w (setBlock wr mb (.map #[] clock)) base A S (S.fenceS t)) := by
        rw [HE.out, ← HTD.out]
        refine ⟨A1, HR3.out.d, HR3.out.lb, HR2.out.mapped ht (by rw [HR3.out.mv]; exact HM.out) (Only.setBlock hb _) (MapAt.cleared hb), ?_, fun b hbb => .inl ((HR3.out.foot _ b).1 hbb)⟩
        refine ((HQ.out.2.mono fun b hbb => .inl hbb).trans (HR4.out.mono fun b hbb => ?_)).trans ((Only.setBlock hb _).mono fun b hbb => .inr (.inr (.inr ⟨t, ht, by rw [hbb]; exact HM.out⟩)))
        rcases hbb with h1 | h1
        · exact .inr (.inl h1)
        · exact .inr (.inr (.inl h1))
      clear hb hl0
      go_wp2
      go_end0
      exact ⟨rfl, HFIN⟩
    · intro x c w2 cnt1 hwx hwc hlx hat hrg1 hlt hg1 hs1 hen
      obtain ⟨p, hp, hxp⟩ := (HD1.out _).1 (has_of_atKey HIM.out hat)
      have hx2 : x = (p.1 : Int) := by injection hxp
      subst hx2
      have hc2 : c = (p.2 : Int) := by
        have h1 := hat .nil
        rw [HD2.out p hp] at h1
        injection h1 with h1; injection h1 with h1 h1; exact h1.symm
      subst hc2
      obtain ⟨l, pos⟩ := p
      simp only at hlx hat hrg1 hen hp hwx hwc
      have hne1 : w1.heap.size ≠ mb := by omega
      have I2 : IsDev w2 base A1 ((S.cntS t true).pstF (todo (S.cntS t true) (S.notes t) left)) := by
        refine HR2.out.only (Only.ofGrown hg1 (F := fun b => b = w1.heap.size) fun k hk => .inl (Option.some.inj hk).symm) fun b hb e => ?_
        have h1 := (HR3.out.foot _ b).1 hb
        have h2 : (A.foot S.n b) := by rw [show ((S.cntS t true).pstF (todo (S.cntS t true) (S.notes t) left)).n = S.n from St.cntS_n S t true] at h1; exact h1
        have h3 := HD.out.ownLt b h2
        have := HQ.out.2.size
        omega
      have hO := HS2.out.note t (l, pos) (by rw [HSD.out.notes]; exact hp)
      simp only at hO
      rw [HSD.out.n] at hO
      obtain ⟨hln, hpos⟩ := hO
      have ht0 : todo (S.cntS t true) (S.notes t) left l = 0 := by unfold todo; rw [if_pos hlx]
      have HOk := HS2.out.pstF (todo (S.cntS t true) (S.notes t) left) (fun i => by
        unfold todo
        split
        · exact Nat.zero_le _
        · have := kof_le (t := t) HS2.out i
          rw [HSD.out.notes] at this; exact this)
      have hg2 : ((S.cntS t true).pstF (todo (S.cntS t true) (S.notes t) left)).gone l = (S.cntS t true).gone l := by simp [St.pstF, ht0]
      have hh2 : ((S.cntS t true).pstF (todo (S.cntS t true) (S.notes t) left)).hist l = (S.cntS t true).hist l := by simp [St.pstF, ht0]
      have HP := Lib.hid (linePersistTo_fine w2 base M A1 ((S.cntS t true).pstF (todo (S.cntS t true) (S.notes t) left)) l pos I2 HOk hM (by show l < (S.cntS t true).n; rw [HSD.out.n]; exact hln) (by rw [hg2, hh2]; exact hpos))
      rw [hg2] at HP
      have hkey : pos - (S.cntS t true).gone l = (S.cntS t true).kof (S.notes t) l := by
        have hk := HS2.out.keys t
        rw [HSD.out.notes] at hk
        exact (kof_note hk hp).symm
      rw [hkey, pstF_pst _ _ _ _ ht0, ← todo_step] at HP
      have cp := I2.db.cPtr ht
      have c0 := I2.db.c0
      rw [HR3.out.d] at cp c0
      rw [show ((S.cntS t true).pstF (todo (S.cntS t true) (S.notes t) left)).n = S.n from St.cntS_n S t true] at c0
      have hli : (l : Int) < (S.n : Int) := by omega
      have hn64 : S.n ≤ 9223372036854775807 := by omega
      have HRG1 := Lib.hid hrg1
      have HG1 := Lib.hid hg1
      have HT0 := Lib.hid ht0
      clear hrg1 hg1 hat hxp hg2 hh2 hkey ht0 I2 HOk hs1 hlx
      go_wp2_with (go_at_call 63; refine HP.out.mono ?_; rintro e w3 ⟨rfl, hv', HZ⟩)
      have HZ3 : Hid (w3.ranges Try.prog 3 (plainElem Try.prog 40) mb w1.heap.size n0 D (fun z => left z && !z.sameKey (.int .i64 (l : Int))) cnt1) := by
        have h2 := HRG1.out.owns.lt
        have h3 := HRG1.out.lt
        have hA1m : A1.mv t = some mb := by rw [HR3.out.mv]; exact HM.out
        have hnS : ((S.cntS t true).pstF (todo (S.cntS t true) (S.notes t) left)).n = S.n := St.cntS_n S t true
        refine World.ranges.of_blocks HRG1.out (HZ.out.2.2.block mb h2 fun e => ?_) (HZ.out.2.2.block w1.heap.size h3 fun e => ?_)
        · rcases e with e | e
          · exact HD.out.apart.ml t ht (by rw [HM.out, e, HR3.out.lb])
          · exact HR2.out.apart.mh t l ht (by rw [hnS]; exact hln) mb hA1m e
        · have hsz := HQ.out.2.size
          have hf : ∀ b, A.foot S.n b → b < w.heap.size := HD.out.ownLt
          rcases e with e | e
          · have := hf _ (.inr (.inl (e.trans HR3.out.lb))); omega
          · have := hf _ (.inr (.inr (.inl ⟨l, hln, by rw [← HR3.out.hv l]; exact e⟩))); omega
      go_roundw
      case rel =>
        refine ⟨_, cnt1, _, Lib.hid ⟨HZ3.out, HZ.out.1, HR3.out.set HZ.out.2.1, ?_⟩⟩
        refine (HR4.out.trans' (G := fun b => b = w1.heap.size) (Only.ofGrown HG1.out fun k hk => .inl (Option.some.inj hk).symm) fun b hb => .inr (by rw [hb]; exact Nat.le_refl _)).trans (HZ.out.2.2.mono fun b hb => ?_)
        rcases hb with hb | hb
        · exact .inl (by rw [hb, HR3.out.lb])
        · exact .inr ⟨l, hln, by rw [← HR3.out.hv l]; exact hb⟩
      case measure => rw [HZ3.out.left_eq, HR1.out.left_eq]; exact hlt
theorem fence_nil (w : World) (base M : Nat) (A : Adr) (S : St) (t : Nat) (h : IsDev w base A S) (hS : S.Ok M) (hM : M ≤ 1000000) (ht : t < 8) (hc : S.cnt true = true) (hm : A.mv t = none) :
    Calls Try.prog 24 #[.pointer (some ⟨A.d, 1 + t * 4, none⟩)] w fun r w' => r = .returned (.tuple #[]) ∧ Hid (Step w w' base A S (S.fenceS t)) := by
  have HC := Lib.hid (count_any w A S t true h.db ht (by have := hS.ex; omega) hS.left)
  have HD := Lib.hid h
  have hnt : S.notes t = [] := by
    rcases h.maps t ht with h | ⟨b, h1, _⟩
    · exact h.2
    · rw [hm] at h1; cases h1
  have hsd := SameData.cntS S t true
  have HE : Hid (S.fenceS t = S.cntS t true) := by
    simp only [Hid, St.fenceS]; rw [if_pos hc, hnt, pstF_zero _ (S.kof []) (fun i => rfl)]
    have e1 : (fun u => if u = t then [] else (S.cntS t true).notes u) = (S.cntS t true).notes := by
      funext u
      split
      · rename_i e; subst e; rw [hsd.notes, hnt]
      · rfl
    unfold St.clr
    rw [e1]
  rw [hc] at HC
  have HM := Lib.hid hm
  have hcl := fun w ty => run_clear_nilmap w ty
  have hrg := fun w => run_range_nilMap (P := Try.prog) w 93 3 40 Try.underlying93
  have hnx : ∀ (w : World) ty, (Instr.next (.pointer (some ⟨w.heap.size, 0, none⟩)) false ty).run Try.prog (w.alloc (.mapIter none 0 #[] 0)) = _ := fun w ty => run_next_nilMap w ty 0 0 #[]
  have hld := h.dev.lt
  clear h hS hc hm hnt hsd
  go_enter Try.func24, Try.ntmps24
  go_wp2_with (go_at_call 58; refine HC.out.mono ?_; rintro e w1 ⟨rfl, HQ⟩; have hld1 := HQ.out.1.lt; have cm := HQ.out.1.cell (o := 1 + t * 4 + 3) (by omega); rw [devG_map _ _ ht, HM.out] at cm)
  refine wp_loop_rounds 1 ?_
  rw [rounds_succ]
  go_wp2
  go_end0
  refine ⟨rfl, Lib.hid ?_⟩
  rw [HE.out]
  exact (HD.out.ctlStep HQ.out.1 HQ.out.2 (SameData.cntS S t true)).then ((Below.refl _ _).alloc (Nat.le_refl _) _)
theorem fence_no (w : World) (base M : Nat) (A : Adr) (S : St) (t : Nat) (h : IsDev w base A S) (hS : S.Ok M) (hM : M ≤ 1000000) (ht : t < 8) (hc : S.cnt true = false) :
    Calls Try.prog 24 #[.pointer (some ⟨A.d, 1 + t * 4, none⟩)] w fun r w' => r = .returned (.tuple #[]) ∧ Hid (Step w w' base A S (S.fenceS t)) := by
  have HC := Lib.hid (count_any w A S t true h.db ht (by have := hS.ex; omega) hS.left)
  have HD := Lib.hid h
  have HE : Hid (S.fenceS t = S.cntS t true) := by simp only [Hid, St.fenceS]; rw [hc]; rfl
  rw [hc] at HC
  clear h hS hc
  go_enter Try.func24, Try.ntmps24
  go_wp2_with (go_at_call 58; refine HC.out.mono ?_; rintro e w1 ⟨rfl, HQ⟩)
  try simp only [Exit.inBlock, Exit.then]
  refine bodyPost_ret (results_none rfl _ _ _) rfl ?_
  refine ⟨rfl, Lib.hid ?_⟩
  rw [HE.out]
  exact HD.out.ctlStep HQ.out.1 HQ.out.2 (SameData.cntS S t true)
theorem fence_any (w : World) (base M : Nat) (A : Adr) (S : St) (t : Nat) (h : IsDev w base A S) (hS : S.Ok M) (hM : M ≤ 1000000) (ht : t < 8) (hS' : (S.cntS t true).Ok M) :
    Calls Try.prog 24 #[.pointer (some ⟨A.d, 1 + t * 4, none⟩)] w fun r w' => r = .returned (.tuple #[]) ∧ Hid (Step w w' base A S (S.fenceS t)) := by
  cases hc : S.cnt true
  · exact fence_no w base M A S t h hS hM ht hc
  · cases hm : A.mv t with
    | none => exact fence_nil w base M A S t h hS hM ht hc hm
    | some mb => exact fence_map w base M A S t mb h hS hM ht hc hS' hm
end Go.Proofs.Ytbonponclcehiaa.Dev
