/-
  ROWS OF NUMBERS THAT A CALL WRITES: several cells of a block at once; copy and clear into a block that is known cell by cell; owned rows as such blocks. Over any program. No condition but those written.
-/
import Derived.Test.YtopnkhalmembhaaDoorRecSize
import Derived.Laws.CopyOwn
import Derived.Lib.SliceRun
import Derived.Deep.RegionHeld3
import Derived.Deep.DeepMust
set_option linter.unusedVariables false
set_option linter.unusedSimpArgs false
namespace Go.Proofs.YtopnkhalmembhaaDoor.Rec
open Go.ChangeShapes Go.WideShapes Go.ChangeAt Go.RowKit Go.Proofs.YtopnkhalmembhaaDoor.Mem Go.Proofs.YtopnkhalmembhaaDoor.Law Go.Proofs.YtopnkhalmembhaaDoor.Args Go.Proofs.YtopnkhalmembhaaDoor.Own
/-- The cells cs laid over g from place o on. -/
def put (g : Nat → Value) (o : Nat) (cs : List Value) : Nat → Value := fun i => if o ≤ i ∧ i < o + cs.length then cs.getD (i - o) default else g i
theorem put_nil (g : Nat → Value) (o : Nat) : put g o [] = g := by
  funext i
  unfold put
  rw [if_neg (by simp)]
theorem put_in (g : Nat → Value) (o : Nat) (cs : List Value) {j : Nat} (h : j < cs.length) : put g o cs (o + j) = cs.getD j default := by
  unfold put
  rw [if_pos ⟨by omega, by omega⟩, Nat.add_sub_cancel_left]
theorem put_out (g : Nat → Value) (o : Nat) (cs : List Value) {i : Nat} (h : i < o ∨ o + cs.length ≤ i) : put g o cs i = g i := by
  unfold put
  rw [if_neg (by omega)]
theorem put_cons (g : Nat → Value) (o : Nat) (v : Value) (cs : List Value) : put g o (v :: cs) = put (upd g o v) (o + 1) cs := by
  funext i
  unfold put upd
  simp only [List.length_cons]
  by_cases h1 : i = o
  · subst h1
    rw [if_pos ⟨Nat.le_refl _, by omega⟩, if_neg (by omega), if_pos rfl, Nat.sub_self]
    rfl
  · by_cases h2 : o ≤ i ∧ i < o + (cs.length + 1)
    · rw [if_pos h2, if_pos ⟨by omega, by omega⟩]
      obtain ⟨d, hd⟩ : ∃ d, i - o = d + 1 := ⟨i - o - 1, by omega⟩
      rw [hd, show i - (o + 1) = d by omega]
      rfl
    · rw [if_neg h2, if_neg (by omega), if_neg h1]
theorem put_one (g : Nat → Value) (o : Nat) (v : Value) : put g o [v] = upd g o v := by rw [put_cons, put_nil]
section
variable {w : World} {b n : Nat} {T : TypeId}
theorem blk_setCells : ∀ (cs : List Value) {w : World} {g : Nat → Value} (o : Nat), Blk w b T n g → Blk (w.setCells b o cs) b T n (put g o cs)
  | [], w, g, o, h => by rw [put_nil]; exact h
  | v :: cs, w, g, o, h => by
    rw [put_cons]
    exact blk_setCells cs (o + 1) (h.set o v)
theorem only_setCells : ∀ (cs : List Value) (w : World) (o : Nat), Only (· = b) w (w.setCells b o cs)
  | [], w, o => Only.refl _ _
  | v :: cs, w, o => (((Only.refl (· = b) w).set ⟨b, o, none⟩ v (.inl rfl))).trans (only_setCells cs _ (o + 1))
/-- copy: the whole of a source over as many cells of a block. -/
theorem run_copy_blk {P : Program} {g : Nat → Value} (h : Blk w b T n g) (dT sT ty e : TypeId) (hu : P.underlying dT = some (.slice e)) (hsz : (P.info? e).map (·.size) = some 1) (o L dC sC : Nat) (a : Addr) (cs : List Value) (hl : cs.length = L)
    (hsrc : ∀ j, j < L → w.cell? (a.add j) = some (cs.getD j default)) (hfit : o + L ≤ n) (h1 : ∀ v ∈ cs, v.oneCell' = true) :
    ∃ w', (Builtin.copy_ #[dT, sT] ty #[.slice (some ⟨b, o, none⟩) L dC, .slice (some a) L sC]).run P w = .ok (goInt L) w' ∧ Blk w' b T n (put g o cs) ∧ Only (· = b) w w' := by
  refine ⟨w.setCells b o cs, ?_, blk_setCells cs o h, only_setCells cs w o⟩
  have := run_copy_cells (P := P) w dT sT ty e b o L dC a L sC cs hu hsz (by rw [hl]; simp) (fun j v hv => by
    obtain ⟨hj, rfl⟩ := List.getElem?_eq_some_iff.1 hv
    rw [hsrc j (by omega)]
    simp [List.getD, hj]) (fun j hj => by rw [h.cell (by omega)]; rfl) (fun j hj => h.frozen _) h1
  rw [hl] at this
  exact this
theorem wpList_copy_blk {P : Program} {ops : Array Oper} {rest : List Oper} {o : Oper} {a : Act} {Q : Exit → Act → World → Prop} (hgd : Region.wanted o (yielded ops a.tmps) = true) (d s : Operand) (dT sT : TypeId)
    (ho : o.op = .call { callee := .builtin .copy, args := #[d, s], argTypes := #[dT, sT] }) (e : TypeId) (hu : P.underlying dT = some (.slice e)) (hsz : (P.info? e).map (·.size) = some 1)
    {g : Nat → Value} (h : Blk w b T n g) (x L dC sC : Nat) (ad : Addr) (cs : List Value) (hl : cs.length = L) (hd : a.eval d = .slice (some ⟨b, x, none⟩) L dC) (hs : a.eval s = .slice (some ad) L sC)
    (hsrc : ∀ j, j < L → w.cell? (ad.add j) = some (cs.getD j default)) (hfit : x + L ≤ n) (h1 : ∀ v ∈ cs, v.oneCell' = true)
    (hk : ∀ w', Blk w' b T n (put g x cs) → Only (· = b) w w' → wpList P ops Q rest (a.put o.dst (goInt L)) w') : wpList P ops Q (o :: rest) a w := by
  refine wpList_step fun K hK => ?_
  rw [if_pos hgd]
  obtain ⟨w', hrun, h2, h3⟩ := run_copy_blk (P := P) h dT sT o.type e hu hsz x L dC sC ad cs hl hsrc hfit h1
  unfold Oper.wp execOp
  simp only [ho, resolve, invoke, builtin, Sem.run_bind, Sem.run_pure, Result.andThen_ok, List.map_toArray, List.map_cons, List.map_nil, hd, hs, hrun]
  exact hK _ _ (hk w' h2 h3)
end
theorem al0 (w : World) : Below w.heap.size w w := Below.refl _ _
theorem al1 (w : World) (o : Obj) : Below w.heap.size w (w.alloc o) := (Below.refl _ w).alloc (Nat.le_refl _) _
theorem al2 (w : World) (o p : Obj) : Below w.heap.size w ((w.alloc o).alloc p) := (al1 w o).alloc (by simp) _
theorem al3 (w : World) (o p q : Obj) : Below w.heap.size w (((w.alloc o).alloc p).alloc q) := (al2 w o p).alloc (by simp; omega) _
theorem al4 (w : World) (o p q r : Obj) : Below w.heap.size w ((((w.alloc o).alloc p).alloc q).alloc r) := (al3 w o p q).alloc (by simp; omega) _
/-- A step that touches nothing old, then another. -/
theorem Below.after {w w1 w2 : World} (h : Below w.heap.size w w1) (k : Below w1.heap.size w1 w2) : Below w.heap.size w w2 := h.trans (k.mono h.size)
theorem Only.after {F : Nat → Prop} {w w1 w2 : World} (h : Below w.heap.size w w1) (k : Only F w1 w2) : Only F w w2 := (Only.ofBelow h F).trans k
theorem Only.before {F : Nat → Prop} {w w1 w2 : World} (h : Only F w w1) (k : Below w1.heap.size w1 w2) : Only F w w2 := h.trans (Only.ofBelow k F)
theorem blk_below {w w1 : World} {b n : Nat} {T : TypeId} {g : Nat → Value} (h : Blk w b T n g) (k : Below w.heap.size w w1) : Blk w1 b T n g := h.below k h.lt
theorem own_blk {k : IntKind} {e : TypeId} {w : World} {base : Nat} {v : Value} {zs : List Int} (h : OwnInts k e w base v zs) (hn : 0 < zs.length) :
    ∃ g cap, v = .slice (some ⟨g, 0, none⟩) zs.length cap ∧ zs.length ≤ cap ∧ base ≤ g ∧ Blk w g e zs.length (fun o => .int k (zs.getD o 0)) := by
  rcases h.2 with ⟨_, h0⟩ | ⟨g, cap, cur, rfl, hb, hg, hnc, hcm, hcs, ht⟩
  · omega
  · refine ⟨g, cap, rfl, hnc, hb, cur, hg, by omega, fun o ho => ?_⟩
    have h1 : cur.toList.take zs.length = zs.map (Value.int k) := by simpa using ht
    have h2 : (cur.toList.take zs.length)[o]? = cur.toList[o]? := List.getElem?_take_of_lt ho
    show _ = some (Value.int k (zs.getD o 0))
    rw [← Array.getElem?_toList, ← h2, h1, List.getElem?_map, List.getElem?_eq_getElem ho, getD_at ho]
    rfl
end Go.Proofs.YtopnkhalmembhaaDoor.Rec
