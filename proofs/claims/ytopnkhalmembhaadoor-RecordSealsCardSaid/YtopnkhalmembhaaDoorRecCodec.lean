/-
  CONTRACTS: the sizes of the statements' codec, part by part; Codec.
-/
import Derived.Test.YtopnkhalmembhaaDoorRecArrE
set_option linter.unusedVariables false
set_option linter.unusedSimpArgs false
namespace Go.Proofs.YtopnkhalmembhaaDoor.Rec
open Go.ChangeShapes Go.WideShapes Go.ChangeAt Go.RowKit Go.Proofs.YtopnkhalmembhaaDoor.Mem Go.Proofs.YtopnkhalmembhaaDoor.Law Go.Proofs.YtopnkhalmembhaaDoor.Args Go.Proofs.YtopnkhalmembhaaDoor.Own
abbrev nameC : Value := .iface 47 (.agg #[])
abbrev boolC : Value := .iface 63 (.agg #[])
abbrev strsV : Value := .agg #[.int .i64 2, nameC]
abbrev strsC : Value := .iface 67 strsV
abbrev pintV : Value := .agg #[intC]
abbrev pintC : Value := .iface 69 pintV
abbrev prV : Value := .agg #[strsC, pintC]
abbrev prC : Value := .iface 75 prV
abbrev valV : Value := .agg #[boolC, prC]
abbrev valC : Value := .iface 81 valV
def twoG (a b : Value) : Nat → Value := fun o => if o = 0 then a else b
theorem two_new (w : World) (a b : Value) (T : TypeId) : Blk (w.alloc (.cells #[a, b] T)) w.heap.size T 2 (twoG a b) :=
  Blk.newOf w #[a, b] T rfl (fun o ho => by
    rcases (show o = 0 ∨ o = 1 by omega) with rfl | rfl <;> rfl)
theorem two0 {w : World} {b : Nat} {T : TypeId} {x y : Value} (h : Blk w b T 2 (twoG x y)) : w.cell? ⟨b, 0, none⟩ = some x := by
  rw [h.cell (by omega)]; rfl
theorem two1 {w : World} {b : Nat} {T : TypeId} {x y : Value} (h : Blk w b T 2 (twoG x y)) : w.cell? ⟨b, 1, none⟩ = some y := by
  rw [h.cell (by omega)]; rfl
theorem size_name (w : World) : Calls Tryd.prog 55 #[nameC] w fun e w' => e = .returned (.int .i64 3) ∧ Below w.heap.size w w' :=
  (size_str (.agg #[]) 3 w (by omega) (by omega) (Lib.hid (words_name w)))
theorem size_boolC (w : World) : Calls Tryd.prog 76 #[boolC] w fun e w' => e = .returned (.int .i64 1) ∧ Below w.heap.size w w' :=
  (size_bool (.agg #[]) 1 w (by omega) (by omega) (Lib.hid (words_bool w)))
theorem strs_sizes (w : World) : Calls Tryd.prog 53 #[strsV] w fun e w' => e = .returned (.tuple #[.int .i64 3, .int .i64 7]) ∧ Below w.heap.size w w' := by
  have HB := Lib.hid (fun w1 (h : Below (w.alloc (.cells #[.int .i64 2, nameC] 67)).heap.size (w.alloc (.cells #[.int .i64 2, nameC] 67)) w1) => blk_below (two_new w (.int .i64 2) nameC 67) h)
  go_enter Tryd.func53, Tryd.ntmps53
  go_wp2_with (go_at_call 55; refine (size_name _).mono ?_; rintro e w1 ⟨rfl, H1⟩; have hx0 := two0 (HB.out w1 H1))
  go_quiet (fail)
  go_wp2
  go_quiet (fail)
  go_wp2
  go_ret2
  exact ⟨rfl, below_draws (below_draws (Below.after (al1 _ _) H1) _) _⟩
theorem strs_words (w : World) : Calls Tryd.prog 52 #[strsV] w fun e w' => e = .returned (.int .i64 7) ∧ Below w.heap.size w w' := by
  go_enter Tryd.func52, Tryd.ntmps52
  go_wp2_with (go_at_call 53; refine (strs_sizes _).mono ?_; rintro e w1 ⟨rfl, H1⟩)
  go_ret
  exact ⟨rfl, Below.after (al1 _ _) H1⟩
theorem pint_words (w : World) : Calls Tryd.prog 59 #[pintV] w fun e w' => e = .returned (.int .i64 2) ∧ Below w.heap.size w w' := by
  go_enter Tryd.func59, Tryd.ntmps59
  go_wp2_with (go_at_call 22; refine (size_int _).mono ?_; rintro e w1 ⟨rfl, H1⟩)
  go_ret
  exact ⟨rfl, Below.after (al1 _ _) H1⟩
theorem size_strsC (w : World) : Calls Tryd.prog 66 #[strsC] w fun e w' => e = .returned (.int .i64 7) ∧ Below w.heap.size w w' :=
  (size_strs strsV 7 w (by omega) (by omega) (Lib.hid (strs_words w)))
theorem size_pintC (w : World) : Calls Tryd.prog 67 #[pintC] w fun e w' => e = .returned (.int .i64 2) ∧ Below w.heap.size w w' :=
  (size_pi64 pintV 2 w (by omega) (by omega) (Lib.hid (pint_words w)))
theorem pr_sizes (w : World) : Calls Tryd.prog 63 #[prV] w fun e w' => e = .returned (.tuple #[.int .i64 7, .int .i64 9]) ∧ Below w.heap.size w w' := by
  have HB := Lib.hid (fun w1 (h : Below (w.alloc (.cells #[strsC, pintC] 75)).heap.size (w.alloc (.cells #[strsC, pintC] 75)) w1) => blk_below (two_new w strsC pintC 75) h)
  go_enter Tryd.func63, Tryd.ntmps63
  go_wp2_with (first
    | (go_at_call 66; refine (size_strsC _).mono ?_; rintro e w1 ⟨rfl, H1⟩; have hx1 := two1 (HB.out w1 H1))
    | (go_at_call 67; refine (size_pintC _).mono ?_; rintro e w2 ⟨rfl, H2⟩))
  go_ret2
  exact ⟨rfl, Below.after (Below.after (al1 _ _) H1) H2⟩
theorem pr_words (w : World) : Calls Tryd.prog 62 #[prV] w fun e w' => e = .returned (.int .i64 9) ∧ Below w.heap.size w w' := by
  go_enter Tryd.func62, Tryd.ntmps62
  go_wp2_with (go_at_call 63; refine (pr_sizes _).mono ?_; rintro e w1 ⟨rfl, H1⟩)
  go_ret
  exact ⟨rfl, Below.after (al1 _ _) H1⟩
theorem size_prC (w : World) : Calls Tryd.prog 77 #[prC] w fun e w' => e = .returned (.int .i64 9) ∧ Below w.heap.size w w' :=
  (size_pr prV 9 w (by omega) (by omega) (Lib.hid (pr_words w)))
theorem val_sizes (w : World) : Calls Tryd.prog 73 #[valV] w fun e w' => e = .returned (.tuple #[.int .i64 1, .int .i64 10]) ∧ Below w.heap.size w w' := by
  have HB := Lib.hid (fun w1 (h : Below (w.alloc (.cells #[boolC, prC] 81)).heap.size (w.alloc (.cells #[boolC, prC] 81)) w1) => blk_below (two_new w boolC prC 81) h)
  go_enter Tryd.func73, Tryd.ntmps73
  go_wp2_with (first
    | (go_at_call 76; refine (size_boolC _).mono ?_; rintro e w1 ⟨rfl, H1⟩; have hx1 := two1 (HB.out w1 H1))
    | (go_at_call 77; refine (size_prC _).mono ?_; rintro e w2 ⟨rfl, H2⟩))
  go_ret2
  exact ⟨rfl, Below.after (Below.after (al1 _ _) H1) H2⟩
theorem val_words (w : World) : Calls Tryd.prog 72 #[valV] w fun e w' => e = .returned (.int .i64 10) ∧ Below w.heap.size w w' := by
  go_enter Tryd.func72, Tryd.ntmps72
  go_wp2_with (go_at_call 73; refine (val_sizes _).mono ?_; rintro e w1 ⟨rfl, H1⟩)
  go_ret
  exact ⟨rfl, Below.after (al1 _ _) H1⟩
theorem codec_any (w : World) : Calls Tryd.prog 15 #[] w fun e w' => e = .returned valC ∧ w' = w := by
  go_enter Tryd.func15, Tryd.ntmps15
  go_wp2
  go_ret
  exact ⟨rfl, rfl⟩
end Go.Proofs.YtopnkhalmembhaaDoor.Rec
