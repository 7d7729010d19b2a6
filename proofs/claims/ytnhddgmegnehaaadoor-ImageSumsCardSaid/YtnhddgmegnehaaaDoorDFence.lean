/-
  DEVICE: Fence.
-/
import Derived.Test.YtnhddgmegnehaaaDoorDMaps
set_option linter.unusedVariables false
set_option linter.unusedSimpArgs false
namespace Go.Proofs.YtnhddgmegnehaaaDoor.Dev
open Go.ChangeShapes Go.WideShapes Go.ChangeAt Go.RowKit Go.Proofs.YtnhddgmegnehaaaDoor.Mem Go.ChangeMaps
theorem has_of_atKey {D : DataW Unit} (hm : Go.Maps.IsMap D) {k : Lit} {c : Int} (h : ∀ z, D.atKey k z = .lit (.int .u64 c)) : Maps.has D k = true := by
  cases hh : Maps.has D k
  · obtain ⟨es, rfl⟩ := hm
    have h1 := h .nil
    have h2 : es.find? (fun p => p.1.sameKey k) = none := by
      rw [List.find?_eq_none]
      intro p hp
      have := List.any_eq_false.1 hh p hp
      simpa using this
    simp [DataW.atKey, h2] at h1
  · rfl
theorem run_clear_map (w : World) (ty : TypeId) (b : Nat) (es : Array MapEntry) (clock : Nat) (hb : w.heap[b]? = some (.map es clock)) :
    (Builtin.clear_ #[71] ty #[.map (some b)]).run Tryd.prog w = .ok (.tuple #[]) (setBlock w b (.map #[] clock)) := by
  have hlt : b < w.heap.size := (Array.getElem?_eq_some_iff.1 hb).1
  simp [Builtin.clear_, run_underlying Tryd.underlying71, MapKept.run_getObj_map hb, MapKept.run_setObj_map _ hb, Result.andThen, setBlock]
theorem run_clear_nilmap (w : World) (ty : TypeId) : (Builtin.clear_ #[71] ty #[.map none]).run Tryd.prog w = .ok (.tuple #[]) w := by
  simp [Builtin.clear_, run_underlying Tryd.underlying71]
theorem MapAt.cleared {w : World} {b clock m : Nat} {es : Array MapEntry} (hb : w.heap[b]? = some (.map es clock)) : MapAt (setBlock w b (.map #[] clock)) b m [] := by
  refine ⟨0, .map [], Nat.zero_le _, ⟨#[], clock, heap_setBlock_same hb _, ⟨by simp [maxLen], ⟨by simp, by simp, by simp⟩, by simp⟩, by simp, rfl⟩, fun k => ?_, fun p hp => by cases hp⟩
  simp [Maps.has]
theorem Only.setBlock {w : World} {b clock : Nat} {es : Array MapEntry} (hb : w.heap[b]? = some (.map es clock)) (o : Obj) : Only (fun c => c = b) w (Go.ChangeMaps.setBlock w b o) :=
  ⟨rfl, rfl, rfl, by simp [Go.ChangeMaps.setBlock], fun k _ hk => heap_setBlock_other hb o hk⟩
/-! ### what the rounds do, as data -/
theorem pstF_zero (S : St) (f : Nat → Nat) (h : ∀ i, f i = 0) : S.pstF f = S := by
  have e : f = fun _ => 0 := funext h
  subst e
  cases S
  simp [St.pstF, applyW]
theorem pstF_pst (S : St) (f : Nat → Nat) (x k : Nat) (h0 : f x = 0) : (S.pstF f).pst x k = S.pstF (fun i => if i = x then k else f i) := by
  simp only [St.pstF, St.pst, St.mk.injEq, true_and, and_true]
  refine ⟨?_, ?_, ?_⟩ <;> funext i <;> by_cases e : i = x
  · subst e; simp [h0, applyW]
  · simp [e]
  · subst e; simp [h0]
  · simp [e]
  · subst e; simp [h0]
  · simp [e]
theorem St.Ok.pstF {S : St} {M : Nat} (h : S.Ok M) (f : Nat → Nat) (hf : ∀ i, f i ≤ (S.hist i).length) : (S.pstF f).Ok M := by
  refine ⟨h.n0, h.n1, fun i j => ?_, fun i p hp => h.hist i p (List.mem_of_mem_drop hp), fun i => ?_, h.ex, h.err, h.left, fun t p hp => ?_, h.keys, h.cnt⟩
  · have : ∀ (l : List (Nat × Nat)) (b : Nat → Nat), (∀ j, b j < 18446744073709551616) → (∀ p ∈ l, p.2 < 18446744073709551616) → ∀ j, applyW b l j < 18446744073709551616 := by
      intro l
      induction l with
      | nil => intro b hb _ j; exact hb j
      | cons p l ih =>
        intro b hb hp j
        refine ih _ (fun j => ?_) (fun q hq => hp q (List.mem_cons_of_mem _ hq)) j
        split
        · exact hp p (List.mem_cons_self ..)
        · exact hb j
    exact this _ _ (h.pers i) (fun p hp => (h.hist i p (List.mem_of_mem_take hp)).2.2.2) j
  · have := h.sum i
    have := hf i
    simp [St.pstF]
    omega
  · obtain ⟨h1, h2⟩ := h.note t p hp
    refine ⟨h1, ?_⟩
    have := hf p.1
    simp [St.pstF]
    omega
theorem kof_note {S : St} {l : List (Nat × Nat)} (hk : l.Pairwise (fun p q => p.1 ≠ q.1)) {p : Nat × Nat} (hp : p ∈ l) : S.kof l p.1 = p.2 - S.gone p.1 := by
  have : l.find? (fun q => q.1 == p.1) = some p := by
    induction l with
    | nil => cases hp
    | cons q l ih =>
      obtain ⟨h1, h2⟩ := List.pairwise_cons.1 hk
      rcases List.mem_cons.1 hp with rfl | h
      · simp
      · rw [List.find?_cons_of_neg (by simpa using h1 p h)]
        exact ih h2 h
  simp [St.kof, this]
theorem kof_none {S : St} {l : List (Nat × Nat)} {i : Nat} (h : ∀ p ∈ l, p.1 ≠ i) : S.kof l i = 0 := by
  have : l.find? (fun q => q.1 == i) = none := by
    rw [List.find?_eq_none]; intro p hp; simpa using h p hp
  simp [St.kof, this]
theorem kof_le {S : St} {M t : Nat} (h : S.Ok M) (i : Nat) : S.kof (S.notes t) i ≤ (S.hist i).length := by
  unfold St.kof
  split
  · rename_i p hp
    have h1 := List.mem_of_find?_eq_some hp
    have h2 := List.find?_some hp
    have h3 := (h.note t p h1).2
    have : p.1 = i := by simpa using h2
    rw [this] at h3
    omega
  · omega
/-- What is persisted while these keys are still to come. -/
def todo (S : St) (l : List (Nat × Nat)) (left : Lit → Bool) (i : Nat) : Nat := if left (.int .i64 (i : Int)) = true then 0 else S.kof l i
theorem todo_start {S : St} {l : List (Nat × Nat)} {D : DataW Unit} (h : ∀ k, Maps.has D k = true ↔ ∃ p ∈ l, k = Lit.int .i64 (p.1 : Int)) (i : Nat) : todo S l (Maps.has D) i = 0 := by
  unfold todo
  split
  · rfl
  · rename_i hn
    refine kof_none fun p hp e => hn ((h _).2 ⟨p, hp, by rw [e]⟩)
theorem todo_step (S : St) (l : List (Nat × Nat)) (left : Lit → Bool) (x : Nat) : todo S l (fun z => left z && !z.sameKey (.int .i64 (x : Int))) = fun i => if i = x then S.kof l x else todo S l left i := by
  funext i
  unfold todo
  by_cases e : i = x
  · subst e; simp [Lit.sameKey]
  · have : (Lit.int .i64 (i : Int)).sameKey (.int .i64 (x : Int)) = false := Go.Maps.sameKey_ne (fun h => e (lit_eq.1 h))
    simp [this, e]
theorem World.ranges.of_blocks {w w' : World} {P : Program} {k : TypeId} {R : Value → Option (DataW Unit × List MemPlace)} {b r n cnt : Nat} {D : DataW Unit} {left : Lit → Bool} (h : w.ranges P k R b r n D left cnt)
    (hb : w'.heap[b]? = w.heap[b]?) (hr : w'.heap[r]? = w.heap[r]?) : w'.ranges P k R b r n D left cnt := by
  obtain ⟨es, clock, since, seen, c0, h1, F, hs, hD, h2, rest⟩ := h
  exact ⟨es, clock, since, seen, c0, by rw [hb]; exact h1, F, hs, hD, by rw [hr]; exact h2, rest⟩
/-- The device lies in the blocks where it lay: the histories' rows are the same blocks. -/
structure SamePlaces (A A' : Adr) : Prop where
  d : A'.d = A.d
  lb : A'.lb = A.lb
  mv : A'.mv = A.mv
  hv : ∀ i, (A'.hv i).ownBlock = (A.hv i).ownBlock
theorem SamePlaces.foot {A A' : Adr} (h : SamePlaces A A') (n b : Nat) : A'.foot n b ↔ A.foot n b := by
  unfold Adr.foot
  rw [h.d, h.lb, h.mv]
  simp only [h.hv]
theorem SamePlaces.set {A A' : Adr} (h : SamePlaces A A') {l : Nat} {v : Value} (hv : v.ownBlock = (A'.hv l).ownBlock) : SamePlaces A { A' with hv := fun i => if i = l then v else A'.hv i } :=
  ⟨h.d, h.lb, h.mv, fun i => by
    simp only
    split
    · rename_i e; subst e; rw [hv]; exact h.hv i
    · exact h.hv i⟩
theorem IsDev.mapAfter {w w1 : World} {base : Nat} {A : Adr} {S : St} {t mb : Nat} (h : IsDev w base A S) (ht : t < 8) (hm : A.mv t = some mb) (ho : Only (fun b => b = A.d) w w1) : MapAt w1 mb S.ex (S.notes t) := by
  rcases h.maps t ht with h0 | ⟨b, h1, _, h3⟩
  · rw [hm] at h0; cases h0.1
  · rw [hm] at h1; cases h1
    exact h3.of_block (ho.block mb (h.ownLt mb (.inr (.inr (.inr ⟨t, ht, hm⟩)))) (fun e => h.apart.md t ht (by rw [hm, e])))
def FenceRel (w1 : World) (base : Nat) (A : Adr) (S S1 : St) (t mb n0 : Nat) (D : DataW Unit) (left : Lit → Bool) (cnt : Nat) (A1 : Adr) (wr : World) : Prop :=
  wr.ranges Tryd.prog 3 (plainElem Tryd.prog 33) mb w1.heap.size n0 D left cnt ∧ IsDev wr base A1 (S1.pstF (todo S1 (S.notes t) left)) ∧ SamePlaces A A1 ∧ Only (fun b => b = A.lb ∨ ∃ i, i < S.n ∧ (A.hv i).ownBlock = some b) w1 wr
end Go.Proofs.YtnhddgmegnehaaaDoor.Dev
