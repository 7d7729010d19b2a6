/-
  CONTRACTS: Array[int64]: sizes, Words, Encode.
-/
import Derived.Test.YtopnkhalmembhaaDoorRecNum
set_option linter.unusedVariables false
set_option linter.unusedSimpArgs false
namespace Go.Proofs.YtopnkhalmembhaaDoor.Rec
open Go.ChangeShapes Go.WideShapes Go.ChangeAt Go.RowKit Go.Proofs.YtopnkhalmembhaaDoor.Mem Go.Proofs.YtopnkhalmembhaaDoor.Law Go.Proofs.YtopnkhalmembhaaDoor.Args Go.Proofs.YtopnkhalmembhaaDoor.Own
abbrev intC : Value := .iface 36 (.agg #[])
theorem ret_two {a b c : Int} {k l : IntKind} (h : b = c) : Ending.returned (.tuple #[.int k a, .int l b]) = .returned (.tuple #[.int k a, .int l c]) := by rw [h]
theorem vs1 : vs 1 = 1 := rfl
theorem vs3 : vs 3 = 3 := rfl
theorem size_int (w : World) : Calls Tryd.prog 22 #[intC] w fun e w' => e = .returned (.int .i64 1) ∧ Below w.heap.size w w' :=
  (size_i64 (.agg #[]) 1 w (by omega) (by omega) (Lib.hid (words_int w)))
theorem asz_ok (n : Nat) (w : World) (hn : n ≤ 4095) : Calls Tryd.prog 18 #[.agg #[.int .i64 (n : Int), intC]] w fun e w' => e = .returned (.tuple #[.int .i64 1, .int .i64 (1 + (n : Int))]) ∧ Below w.heap.size w w' := by
  have hb := fun w1 (h : Below (w.alloc (.cells #[.int .i64 (n : Int), intC] 40)).heap.size (w.alloc (.cells #[.int .i64 (n : Int), intC] 40)) w1) =>
    blk_below (Blk.newOf w #[.int .i64 (n : Int), intC] 40 (n := 2) (g := fun o => if o = 0 then .int .i64 (n : Int) else intC) rfl (fun o ho => by
      rcases (show o = 0 ∨ o = 1 by omega) with rfl | rfl <;> rfl)) h
  have HB := Lib.hid hb
  clear hb
  have hd1 : decide ((n : Int) < 0) = false := decide_eq_false (by omega)
  have hd2 : decide (4095 < (n : Int)) = false := decide_eq_false (by omega)
  go_enter Tryd.func18, Tryd.ntmps18
  go_wp2_with (go_at_call 22; refine (size_int _).mono ?_; rintro e w1 ⟨rfl, H1⟩; have hx0 := (HB.out w1 H1).cell (o := 0) (by omega); simp only [if_true] at hx0)
  go_quiet (fail)
  go_wp2
  go_quiet (fail)
  go_wp2
  go_ret2
  exact ⟨ret_two (by go_num), below_draws (below_draws (Below.after (al1 _ _) H1) _) _⟩
theorem asz_bad (N : Int) (w : World) (hN : N < 0 ∨ 4095 < N) (hw : (Lit.int .i64 N).wf = true) : Calls Tryd.prog 18 #[.agg #[.int .i64 N, intC]] w fun e w' => e = .returned (.tuple #[.int .i64 0, .int .i64 0]) ∧ Below w.heap.size w w' := by
  have hb := fun w1 (h : Below (w.alloc (.cells #[.int .i64 N, intC] 40)).heap.size (w.alloc (.cells #[.int .i64 N, intC] 40)) w1) =>
    blk_below (Blk.newOf w #[.int .i64 N, intC] 40 (n := 2) (g := fun o => if o = 0 then .int .i64 N else intC) rfl (fun o ho => by
      rcases (show o = 0 ∨ o = 1 by omega) with rfl | rfl <;> rfl)) h
  have HB := Lib.hid hb
  have hwf := wf_i64 hw
  clear hb hw
  go_enter Tryd.func18, Tryd.ntmps18
  rcases hN with h | h
  · have hd1 : decide (N < 0) = true := decide_eq_true h
    go_wp2_with (go_at_call 22; refine (size_int _).mono ?_; rintro e w1 ⟨rfl, H1⟩; have hx0 := (HB.out w1 H1).cell (o := 0) (by omega); simp only [if_true] at hx0)
    go_quiet (fail)
    go_wp2
    go_ret2
    exact ⟨rfl, below_draws (Below.after (al1 _ _) H1) _⟩
  · have hd1 : decide (N < 0) = false := decide_eq_false (by omega)
    have hd2 : decide (4095 < N) = true := decide_eq_true h
    go_wp2_with (go_at_call 22; refine (size_int _).mono ?_; rintro e w1 ⟨rfl, H1⟩; have hx0 := (HB.out w1 H1).cell (o := 0) (by omega); simp only [if_true] at hx0)
    go_quiet (fail)
    go_wp2
    go_ret2
    exact ⟨rfl, below_draws (Below.after (al1 _ _) H1) _⟩
theorem awords_ok (n : Nat) (w : World) (hn : n ≤ 4095) : Calls Tryd.prog 10 #[.agg #[.int .i64 (n : Int), intC]] w fun e w' => e = .returned (.int .i64 (1 + (n : Int))) ∧ Below w.heap.size w w' := by
  go_enter Tryd.func10, Tryd.ntmps10
  go_wp2_with (go_at_call 18; refine (asz_ok n _ hn).mono ?_; rintro e w1 ⟨rfl, H1⟩)
  go_ret
  exact ⟨rfl, Below.after (al1 _ _) H1⟩
theorem awords_bad (N : Int) (w : World) (hN : N < 0 ∨ 4095 < N) (hw : (Lit.int .i64 N).wf = true) : Calls Tryd.prog 10 #[.agg #[.int .i64 N, intC]] w fun e w' => e = .returned (.int .i64 0) ∧ Below w.heap.size w w' := by
  go_enter Tryd.func10, Tryd.ntmps10
  go_wp2_with (go_at_call 18; refine (asz_bad N _ hN hw).mono ?_; rintro e w1 ⟨rfl, H1⟩)
  go_ret
  exact ⟨rfl, Below.after (al1 _ _) H1⟩
/-- The words of an array of at most n numbers. -/
def arr (n : Nat) (ys : List Int) : List Int := (ys.length : Int) :: (ys.map u64 ++ List.replicate (n - ys.length) 0)
theorem arr_len (n : Nat) (ys : List Int) (h : ys.length ≤ n) : (arr n ys).length = n + 1 := by simp [arr]; omega
/-- The row of words while k elements are laid. -/
def arrG (ys : List Int) (k : Nat) : Nat → Value := fun o => if o = 0 then .int .u64 (ys.length : Int) else if o ≤ k then .int .u64 (u64 (ys.getD (o - 1) 0)) else .int .u64 0
theorem arrG_step (ys : List Int) (k : Nat) : upd (arrG ys k) (1 + k) (.int .u64 (u64 (ys.getD k 0))) = arrG ys (k + 1) := by
  funext o
  unfold upd arrG
  by_cases h : o = 1 + k
  · subst h
    rw [if_pos rfl, if_neg (by omega), if_pos (by omega), show 1 + k - 1 = k by omega]
  · rw [if_neg h]
    by_cases h0 : o = 0
    · rw [if_pos h0, if_pos h0]
    · rw [if_neg h0, if_neg h0]
      by_cases h1 : o ≤ k
      · rw [if_pos h1, if_pos (by omega)]
      · rw [if_neg h1, if_neg (by omega)]
theorem arr_at (n : Nat) (ys : List Int) (h : ys.length ≤ n) (j : Nat) (hj : j < n + 1) : ((arr n ys).map (Value.int .u64)).getD j default = arrG ys ys.length j := by
  unfold arrG arr
  rw [List.map_cons]
  rcases j with _ | j
  · rw [if_pos rfl]; rfl
  · rw [if_neg (by omega)]
    simp only [List.getD_cons_succ]
    by_cases h1 : j + 1 ≤ ys.length
    · rw [if_pos h1]
      simp [List.getD, List.getElem?_append, List.getElem?_map, show j < ys.length by omega]
    · rw [if_neg h1]
      simp only [List.getD, List.getElem?_map, List.getElem?_append, List.length_map, if_neg (show ¬ j < ys.length by omega), List.getElem?_replicate]
      rw [if_pos (by omega)]
      rfl
end Go.Proofs.YtopnkhalmembhaaDoor.Rec
