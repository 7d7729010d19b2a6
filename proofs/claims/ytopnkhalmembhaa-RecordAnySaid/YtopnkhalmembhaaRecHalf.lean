/-
  CONTRACTS: codecs without their parts; reads and plans without a memory or a codec.
-/
import Derived.Test.YtopnkhalmembhaaRecCodec
import Derived.Test.YtopnkhalmembhaaRecNum
set_option linter.unusedVariables false
set_option linter.unusedSimpArgs false
namespace Go.Proofs.Ytopnkhalmembhaa.Rec
open Go.ChangeShapes Go.WideShapes Go.ChangeAt Go.RowKit Go.Proofs.Ytopnkhalmembhaa.Mem Go.Proofs.Ytopnkhalmembhaa.Law Go.Proofs.Ytopnkhalmembhaa.Args Go.Proofs.Ytopnkhalmembhaa.Own
abbrev uintC : Value := .iface 27 (.agg #[])
theorem size_uintC (w : World) : Calls Try.prog 71 #[uintC] w fun e w' => e = .returned (.int .i64 1) ∧ Below w.heap.size w w' :=
  (size_own0 w)
where size_own0 (w : World) : Calls Try.prog 71 #[uintC] w fun e w' => e = .returned (.int .i64 1) ∧ Below w.heap.size w w' := size_u64 (.agg #[]) 1 w (by omega) (by omega) (Lib.hid (words_uint w))
theorem half_sizes_a (w : World) : Calls Try.prog 69 #[.agg #[uintC, .nilIface]] w fun e w' => e = .returned (.tuple #[.int .i64 0, .int .i64 0]) ∧ Below w.heap.size w w' := by
  have HB := Lib.hid (fun w1 (h : Below (w.alloc (.cells #[uintC, .nilIface] 87)).heap.size (w.alloc (.cells #[uintC, .nilIface] 87)) w1) => blk_below (two_new w uintC .nilIface 87) h)
  have T1 : True := trivial
  go_enter Try.func69, Try.ntmps69
  go_wp2_with (first
    | (go_at_call 71; have tt := T1; clear T1 tt; go_must (refine (size_uintC _).mono ?_); rintro e w1 ⟨rfl, H1⟩; have hx1 := two1 (HB.out w1 H1))
    | (go_at_call 71; go_must (refine (size_u64_nil _).mono ?_); rintro e w2 ⟨rfl, rfl⟩))
  go_ret2
  exact ⟨rfl, Below.after (al1 _ _) H1⟩
theorem half_sizes_b (w : World) : Calls Try.prog 69 #[.agg #[.nilIface, uintC]] w fun e w' => e = .returned (.tuple #[.int .i64 0, .int .i64 0]) ∧ Below w.heap.size w w' := by
  have T1 : True := trivial
  go_enter Try.func69, Try.ntmps69
  go_wp2_with (first
    | (go_at_call 71; have tt := T1; clear T1 tt; go_must (refine (size_u64_nil _).mono ?_); rintro e w1 ⟨rfl, hw⟩; have hw2 := hw.symm; clear hw; subst hw2)
    | (go_at_call 71; go_must (refine (size_uintC _).mono ?_); rintro e w2 ⟨rfl, H2⟩))
  go_ret2
  exact ⟨rfl, Below.after (al1 _ _) H2⟩
theorem half_words_a (w : World) : Calls Try.prog 41 #[.agg #[uintC, .nilIface]] w fun e w' => e = .returned (.int .i64 0) ∧ Below w.heap.size w w' := by
  go_enter Try.func41, Try.ntmps41
  go_wp2_with (go_at_call 69; go_must (refine (half_sizes_a _).mono ?_); rintro e w1 ⟨rfl, H1⟩)
  go_ret
  exact ⟨rfl, Below.after (al1 _ _) H1⟩
theorem half_words_b (w : World) : Calls Try.prog 41 #[.agg #[.nilIface, uintC]] w fun e w' => e = .returned (.int .i64 0) ∧ Below w.heap.size w w' := by
  go_enter Try.func41, Try.ntmps41
  go_wp2_with (go_at_call 69; go_must (refine (half_sizes_b _).mono ?_); rintro e w1 ⟨rfl, H1⟩)
  go_ret
  exact ⟨rfl, Below.after (al1 _ _) H1⟩
theorem none_words (w : World) : Calls Try.prog 43 #[.agg #[.nilIface]] w fun e w' => e = .returned (.int .i64 0) ∧ Below w.heap.size w w' := by
  go_enter Try.func43, Try.ntmps43
  go_wp2_with (go_at_call 71; go_must (refine (size_u64_nil _).mono ?_); rintro e w2 ⟨rfl, rfl⟩)
  go_ret
  exact ⟨rfl, al1 _ _⟩
theorem narr_sizes (N : Int) (w : World) : Calls Try.prog 70 #[.agg #[.int .i64 N, .nilIface]] w fun e w' => e = .returned (.tuple #[.int .i64 0, .int .i64 0]) ∧ Below w.heap.size w w' := by
  go_enter Try.func70, Try.ntmps70
  go_wp2_with (go_at_call 71; go_must (refine (size_u64_nil _).mono ?_); rintro e w2 ⟨rfl, rfl⟩)
  go_quiet (fail)
  go_wp2
  go_ret2
  exact ⟨rfl, below_draws (al1 _ _) _⟩
theorem narr_words (N : Int) (w : World) : Calls Try.prog 42 #[.agg #[.int .i64 N, .nilIface]] w fun e w' => e = .returned (.int .i64 0) ∧ Below w.heap.size w w' := by
  go_enter Try.func42, Try.ntmps42
  go_wp2_with (go_at_call 70; go_must (refine (narr_sizes N _).mono ?_); rintro e w1 ⟨rfl, H1⟩)
  go_ret
  exact ⟨rfl, Below.after (al1 _ _) H1⟩
theorem narr_enc (N : Int) (v : Value) (A : Option Addr) (l c : Nat) (w : World) :
    Calls Try.prog 56 #[.agg #[.int .i64 N, .nilIface], v, .slice A l c] w fun e w' => e = .returned (.bool false) ∧ Below w.heap.size w w' := by
  go_enter Try.func56, Try.ntmps56
  go_wp2_with (first
    | (go_at_call 70; go_must (refine (narr_sizes N _).mono ?_); rintro e w1 ⟨rfl, H1⟩)
    | (go_at_call 66; refine (fills_no A l c 0 _ (by omega)).mono ?_; rintro e w2 ⟨rfl, rfl⟩))
  go_ret
  exact ⟨rfl, Below.after (al1 _ _) H1⟩
theorem narr_dec (N : Int) (A : Option Addr) (l c : Nat) (w : World) :
    Calls Try.prog 55 #[.agg #[.int .i64 N, .nilIface], .slice A l c] w fun e w' => e = .returned (.tuple #[.slice none 0 0, .bool false]) ∧ Below w.heap.size w w' := by
  go_enter Try.func55, Try.ntmps55
  go_wp2_with (go_at_call 70; go_must (refine (narr_sizes N _).mono ?_); rintro e w1 ⟨rfl, H1⟩)
  go_quiet (first | (go_at_call 66; exact Calls.quiet_of_same ((fills_no A l c 0 _ (by omega)).mono (fun e w' h => ⟨h.1, h.2.symm⟩))))
  go_wp2
  go_ret2
  exact ⟨rfl, below_draws (Below.after (al1 _ _) H1) _⟩
theorem read_nomem (a0 : Int) (w : World) : Calls Try.prog 50 #[.nilIface, .int .u64 a0, uintC] w fun e w' => e = .returned (.tuple #[.int .u64 0, .int .i64 1]) ∧ Below w.heap.size w w' := by
  go_enter Try.func50, Try.ntmps50
  go_wp2_with (go_at_call 71; go_must (refine (size_uintC _).mono ?_); rintro e w1 ⟨rfl, H1⟩)
  go_ret2
  exact ⟨rfl, H1⟩
theorem read_nocodec (a0 : Int) (p : Option Addr) (w : World) : Calls Try.prog 50 #[.iface 111 (.pointer p), .int .u64 a0, .nilIface] w fun e w' => e = .returned (.tuple #[.int .u64 0, .int .i64 1]) ∧ w = w' := by
  go_enter Try.func50, Try.ntmps50
  go_wp2_with (go_at_call 71; go_must (refine (size_u64_nil _).mono ?_); rintro e w1 ⟨rfl, rfl⟩)
  go_ret2
  exact ⟨rfl, rfl⟩
theorem plan_nocodec (a0 x : Int) (w : World) : Calls Try.prog 53 #[.int .u64 a0, .nilIface, .int .u64 x] w fun e w' => e = .returned (.tuple #[.slice none 0 0, .int .i64 1]) ∧ w = w' := by
  go_enter Try.func53, Try.ntmps53
  go_wp2_with (go_at_call 71; go_must (refine (size_u64_nil _).mono ?_); rintro e w1 ⟨rfl, rfl⟩)
  go_ret2
  exact ⟨rfl, rfl⟩
theorem plan_none (a0 : Int) (w : World) : Calls Try.prog 54 #[.int .u64 a0, .iface 91 (.agg #[.nilIface]), .pointer none] w fun e w' => e = .returned (.tuple #[.slice none 0 0, .int .i64 1]) ∧ Below w.heap.size w w' := by
  have HS : ∀ w, Calls Try.prog 76 #[.iface 91 (.agg #[.nilIface])] w fun e w' => e = .returned (.int .i64 0) ∧ Below w.heap.size w w' := fun w => size_popt (.agg #[.nilIface]) 0 w (by omega) (by omega) (Lib.hid (none_words w))
  go_enter Try.func54, Try.ntmps54
  go_wp2_with (go_at_call 76; go_must (refine (HS _).mono ?_); rintro e w1 ⟨rfl, H1⟩)
  go_ret2
  exact ⟨rfl, H1⟩
theorem half_dec (w : World) : Calls Try.prog 44 #[.agg #[uintC, .nilIface], .slice none 0 0] w fun e w' => e = .returned (.tuple #[.agg #[.int .u64 0, .int .u64 0], .bool false]) ∧ Below w.heap.size w w' := by
  have HB : Hid (∀ w1, Below ((w.alloc (.cells #[uintC, .nilIface] 87)).alloc (.cells #[.int .u64 0, .int .u64 0] 93)).heap.size ((w.alloc (.cells #[uintC, .nilIface] 87)).alloc (.cells #[.int .u64 0, .int .u64 0] 93)) w1 → Blk w1 (w.heap.size + 1) 93 2 (twoG (.int .u64 0) (.int .u64 0))) := Lib.hid (fun w1 h => blk_below (by
    have := two_new (w.alloc (.cells #[uintC, .nilIface] 87)) (.int .u64 0) (.int .u64 0) 93
    simpa using this) h)
  go_enter Try.func44, Try.ntmps44
  go_wp2_with (first
    | (go_at_call 69; go_must (refine (half_sizes_a _).mono ?_); rintro e w1 ⟨rfl, H1⟩; have HX := Lib.hid (HB.out w1 H1); have x0 := two0 HX.out; have x1 := two1 HX.out; have z0 := HX.out.frozen 0; have z1 := HX.out.frozen 1)
    | (go_at_call 66; refine (fills_no none 0 0 0 _ (by omega)).mono ?_; rintro e w2 ⟨rfl, rfl⟩))
  have HY : Blk ((w1.setCell ⟨w.heap.size + 1, 0, none⟩ (.int .u64 0)).setCell ⟨w.heap.size + 1, 1, none⟩ (.int .u64 0)) (w.heap.size + 1) 93 2 (twoG (.int .u64 0) (.int .u64 0)) := ((HX.out.set 0 (.int .u64 0)).set 1 (.int .u64 0)).ext (fun o ho => by
    rcases (show o = 0 ∨ o = 1 by omega) with rfl | rfl <;> rfl)
  have y0 := two0 HY
  have y1 := two1 HY
  have HB1 : Below w.heap.size w ((w1.setCell ⟨w.heap.size + 1, 0, none⟩ (.int .u64 0)).setCell ⟨w.heap.size + 1, 1, none⟩ (.int .u64 0)) := ((Below.after (al2 w _ _) H1).setCell (by simp) _).setCell (by simp) _
  generalize (w1.setCell ⟨w.heap.size + 1, 0, none⟩ (.int .u64 0)).setCell ⟨w.heap.size + 1, 1, none⟩ (.int .u64 0) = ws at *
  refine bodyPost_ret (v := .tuple #[.agg #[.int .u64 0, .int .u64 0], .bool false]) (by simp [results, Try.results44, go_sem, y0, y1]) rfl ?_
  exact ⟨rfl, HB1⟩
theorem size_half (w : World) : Calls Try.prog 73 #[.iface 87 (.agg #[uintC, .nilIface])] w fun e w' => e = .returned (.int .i64 0) ∧ Below w.heap.size w w' :=
  size_two (.agg #[uintC, .nilIface]) 0 w (by omega) (by omega) (Lib.hid (half_words_a w))
theorem read_half (a0 : Int) (p : Option Addr) (w : World) : Calls Try.prog 52 #[.iface 111 (.pointer p), .int .u64 a0, .iface 87 (.agg #[uintC, .nilIface])] w fun e w' => e = .returned (.tuple #[.agg #[.int .u64 0, .int .u64 0], .int .i64 1]) ∧ Below w.heap.size w w' := by
  have HB : Hid (∀ w1, Below ((w.alloc (.cells #[.int .u64 0, .int .u64 0] 93)).alloc (.cells #[.int .u64 0, .int .u64 0] 93)).heap.size ((w.alloc (.cells #[.int .u64 0, .int .u64 0] 93)).alloc (.cells #[.int .u64 0, .int .u64 0] 93)) w1 → Blk w1 (w.heap.size + 1) 93 2 (twoG (.int .u64 0) (.int .u64 0)) ∧ Blk w1 w.heap.size 93 2 (twoG (.int .u64 0) (.int .u64 0))) := Lib.hid (fun w1 h => ⟨blk_below (by
    have := two_new (w.alloc (.cells #[.int .u64 0, .int .u64 0] 93)) (.int .u64 0) (.int .u64 0) 93
    simpa using this) h, blk_below ((two_new w (.int .u64 0) (.int .u64 0) 93).alloc _) h⟩)
  go_enter Try.func52, Try.ntmps52
  go_wp2_with (go_at_call 73; go_must (refine (size_half _).mono ?_); rintro e w1 ⟨rfl, H1⟩; have HX := Lib.hid (HB.out w1 H1); have x0 := two0 HX.out.1; have x1 := two1 HX.out.1; have z0 := HX.out.1.frozen 0; have z1 := HX.out.1.frozen 1; have u0 := two0 HX.out.2; have u1 := two1 HX.out.2; have v0 := HX.out.2.frozen 0; have v1 := HX.out.2.frozen 1)
  have HY : Blk ((w1.setCell ⟨w.heap.size, 0, none⟩ (.int .u64 0)).setCell ⟨w.heap.size, 1, none⟩ (.int .u64 0)) w.heap.size 93 2 (twoG (.int .u64 0) (.int .u64 0)) := ((HX.out.2.set 0 (.int .u64 0)).set 1 (.int .u64 0)).ext (fun o ho => by
    rcases (show o = 0 ∨ o = 1 by omega) with rfl | rfl <;> rfl)
  have y0 := two0 HY
  have y1 := two1 HY
  have HB1 : Below w.heap.size w ((w1.setCell ⟨w.heap.size, 0, none⟩ (.int .u64 0)).setCell ⟨w.heap.size, 1, none⟩ (.int .u64 0)) := ((Below.after (al2 w _ _) H1).setCell (Nat.le_refl _) _).setCell (Nat.le_refl _) _
  generalize (w1.setCell ⟨w.heap.size, 0, none⟩ (.int .u64 0)).setCell ⟨w.heap.size, 1, none⟩ (.int .u64 0) = ws at *
  refine bodyPost_ret (v := .tuple #[.agg #[.int .u64 0, .int .u64 0], .int .i64 1]) (by simp [results, Try.results52, go_sem, y0, y1]) rfl ?_
  exact ⟨rfl, HB1⟩
theorem thr0 (w : World) (d : Nat) : Calls Try.prog 51 #[.pointer (some ⟨d, 0, none⟩), .int .i64 0] w fun r w' => r = .returned (.pointer (some ⟨d, 1, none⟩)) ∧ w' = w := by
  go_enter Try.func51, Try.ntmps51
  go_wp2
  go_ret
  exact ⟨rfl, rfl⟩
end Go.Proofs.Ytopnkhalmembhaa.Rec
