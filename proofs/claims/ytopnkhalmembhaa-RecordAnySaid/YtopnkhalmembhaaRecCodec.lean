/-
  CONTRACTS: the sizes of the statements' codec, part by part; Codec.
-/
import Derived.Test.YtopnkhalmembhaaRecArrE
set_option linter.unusedVariables false
set_option linter.unusedSimpArgs false
namespace Go.Proofs.Ytopnkhalmembhaa.Rec
open Go.ChangeShapes Go.WideShapes Go.ChangeAt Go.RowKit Go.Proofs.Ytopnkhalmembhaa.Mem Go.Proofs.Ytopnkhalmembhaa.Law Go.Proofs.Ytopnkhalmembhaa.Args Go.Proofs.Ytopnkhalmembhaa.Own
abbrev nameC : Value := .iface 44 (.agg #[])
abbrev boolC : Value := .iface 31 (.agg #[])
abbrev strsV : Value := .agg #[.int .i64 2, nameC]
abbrev strsC : Value := .iface 141 strsV
abbrev pintV : Value := .agg #[intC]
abbrev pintC : Value := .iface 143 pintV
abbrev prV : Value := .agg #[strsC, pintC]
abbrev prC : Value := .iface 149 prV
abbrev valV : Value := .agg #[boolC, prC]
abbrev valC : Value := .iface 155 valV
def twoG (a b : Value) : Nat → Value := fun o => if o = 0 then a else b
theorem two_new (w : World) (a b : Value) (T : TypeId) : Blk (w.alloc (.cells #[a, b] T)) w.heap.size T 2 (twoG a b) :=
  Blk.newOf w #[a, b] T rfl (fun o ho => by
    rcases (show o = 0 ∨ o = 1 by omega) with rfl | rfl <;> rfl)
theorem two0 {w : World} {b : Nat} {T : TypeId} {x y : Value} (h : Blk w b T 2 (twoG x y)) : w.cell? ⟨b, 0, none⟩ = some x := by
  rw [h.cell (by omega)]; rfl
theorem two1 {w : World} {b : Nat} {T : TypeId} {x y : Value} (h : Blk w b T 2 (twoG x y)) : w.cell? ⟨b, 1, none⟩ = some y := by
  rw [h.cell (by omega)]; rfl
theorem size_name (w : World) : Calls Try.prog 84 #[nameC] w fun e w' => e = .returned (.int .i64 3) ∧ Below w.heap.size w w' :=
  (size_str (.agg #[]) 3 w (by omega) (by omega) (Lib.hid (words_name w)))
theorem size_boolC (w : World) : Calls Try.prog 152 #[boolC] w fun e w' => e = .returned (.int .i64 1) ∧ Below w.heap.size w w' :=
  (size_bool (.agg #[]) 1 w (by omega) (by omega) (Lib.hid (words_bool w)))
theorem strs_sizes (w : World) : Calls Try.prog 131 #[strsV] w fun e w' => e = .returned (.tuple #[.int .i64 3, .int .i64 7]) ∧ Below w.heap.size w w' := by
  have HB := Lib.hid (fun w1 (h : Below (w.alloc (.cells #[.int .i64 2, nameC] 141)).heap.size (w.alloc (.cells #[.int .i64 2, nameC] 141)) w1) => blk_below (two_new w (.int .i64 2) nameC 141) h)
  go_enter Try.func131, Try.ntmps131
  go_wp2_with (go_at_call 84; refine (size_name _).mono ?_; rintro e w1 ⟨rfl, H1⟩; have hx0 := two0 (HB.out w1 H1))
  go_quiet (fail)
  go_wp2
  go_quiet (fail)
  go_wp2
  go_ret2
  exact ⟨rfl, below_draws (below_draws (Below.after (al1 _ _) H1) _) _⟩
theorem strs_words (w : World) : Calls Try.prog 130 #[strsV] w fun e w' => e = .returned (.int .i64 7) ∧ Below w.heap.size w w' := by
  go_enter Try.func130, Try.ntmps130
  go_wp2_with (go_at_call 131; refine (strs_sizes _).mono ?_; rintro e w1 ⟨rfl, H1⟩)
  go_ret
  exact ⟨rfl, Below.after (al1 _ _) H1⟩
theorem pint_words (w : World) : Calls Try.prog 135 #[pintV] w fun e w' => e = .returned (.int .i64 2) ∧ Below w.heap.size w w' := by
  go_enter Try.func135, Try.ntmps135
  go_wp2_with (go_at_call 86; refine (size_int _).mono ?_; rintro e w1 ⟨rfl, H1⟩)
  go_ret
  exact ⟨rfl, Below.after (al1 _ _) H1⟩
theorem size_strsC (w : World) : Calls Try.prog 142 #[strsC] w fun e w' => e = .returned (.int .i64 7) ∧ Below w.heap.size w w' :=
  (size_strs strsV 7 w (by omega) (by omega) (Lib.hid (strs_words w)))
theorem size_pintC (w : World) : Calls Try.prog 143 #[pintC] w fun e w' => e = .returned (.int .i64 2) ∧ Below w.heap.size w w' :=
  (size_pi64 pintV 2 w (by omega) (by omega) (Lib.hid (pint_words w)))
theorem pr_sizes (w : World) : Calls Try.prog 139 #[prV] w fun e w' => e = .returned (.tuple #[.int .i64 7, .int .i64 9]) ∧ Below w.heap.size w w' := by
  have HB := Lib.hid (fun w1 (h : Below (w.alloc (.cells #[strsC, pintC] 149)).heap.size (w.alloc (.cells #[strsC, pintC] 149)) w1) => blk_below (two_new w strsC pintC 149) h)
  go_enter Try.func139, Try.ntmps139
  go_wp2_with (first
    | (go_at_call 142; refine (size_strsC _).mono ?_; rintro e w1 ⟨rfl, H1⟩; have hx1 := two1 (HB.out w1 H1))
    | (go_at_call 143; refine (size_pintC _).mono ?_; rintro e w2 ⟨rfl, H2⟩))
  go_ret2
  exact ⟨rfl, Below.after (Below.after (al1 _ _) H1) H2⟩
theorem pr_words (w : World) : Calls Try.prog 138 #[prV] w fun e w' => e = .returned (.int .i64 9) ∧ Below w.heap.size w w' := by
  go_enter Try.func138, Try.ntmps138
  go_wp2_with (go_at_call 139; refine (pr_sizes _).mono ?_; rintro e w1 ⟨rfl, H1⟩)
  go_ret
  exact ⟨rfl, Below.after (al1 _ _) H1⟩
theorem size_prC (w : World) : Calls Try.prog 153 #[prC] w fun e w' => e = .returned (.int .i64 9) ∧ Below w.heap.size w w' :=
  (size_pr prV 9 w (by omega) (by omega) (Lib.hid (pr_words w)))
theorem val_sizes (w : World) : Calls Try.prog 149 #[valV] w fun e w' => e = .returned (.tuple #[.int .i64 1, .int .i64 10]) ∧ Below w.heap.size w w' := by
  have HB := Lib.hid (fun w1 (h : Below (w.alloc (.cells #[boolC, prC] 155)).heap.size (w.alloc (.cells #[boolC, prC] 155)) w1) => blk_below (two_new w boolC prC 155) h)
  go_enter Try.func149, Try.ntmps149
  go_wp2_with (first
    | (go_at_call 152; refine (size_boolC _).mono ?_; rintro e w1 ⟨rfl, H1⟩; have hx1 := two1 (HB.out w1 H1))
    | (go_at_call 153; refine (size_prC _).mono ?_; rintro e w2 ⟨rfl, H2⟩))
  go_ret2
  exact ⟨rfl, Below.after (Below.after (al1 _ _) H1) H2⟩
theorem val_words (w : World) : Calls Try.prog 148 #[valV] w fun e w' => e = .returned (.int .i64 10) ∧ Below w.heap.size w w' := by
  go_enter Try.func148, Try.ntmps148
  go_wp2_with (go_at_call 149; refine (val_sizes _).mono ?_; rintro e w1 ⟨rfl, H1⟩)
  go_ret
  exact ⟨rfl, Below.after (al1 _ _) H1⟩
theorem codec_any (w : World) : Calls Try.prog 34 #[] w fun e w' => e = .returned valC ∧ w' = w := by
  go_enter Try.func34, Try.ntmps34
  go_wp2
  go_ret
  exact ⟨rfl, rfl⟩
end Go.Proofs.Ytopnkhalmembhaa.Rec
