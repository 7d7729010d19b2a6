/-
  CONTRACTS: an invalid Pair and an invalid Option of own: Encode, Decode, Plan.
-/
import Derived.Test.YtopnkhalmembhaaRecOwnA
import Derived.Test.YtopnkhalmembhaaRecOwnB
import Derived.Test.YtopnkhalmembhaaRecHalf
set_option linter.unusedVariables false
set_option linter.unusedSimpArgs false
namespace Go.Proofs.Ytopnkhalmembhaa.Rec
open Go.ChangeShapes Go.WideShapes Go.ChangeAt Go.RowKit Go.Proofs.Ytopnkhalmembhaa.Mem Go.Proofs.Ytopnkhalmembhaa.Law Go.Proofs.Ytopnkhalmembhaa.Args Go.Proofs.Ytopnkhalmembhaa.Own
theorem vs_rng (n : Int) : 0 ≤ vs n ∧ vs n ≤ 4096 := by
  unfold vs
  split <;> omega
theorem tf_zero {x y : Int} (hx : 0 ≤ x) (hy : 0 ≤ y) (h : tw x y = 0) : tf x y = 0 := by
  unfold tw at h
  unfold tf
  split at h
  · rename_i h1; exact if_pos h1
  · rename_i h1; exfalso; apply h1; left; omega
abbrev o2 (a b : Int) : Value := .agg #[ownC a, ownC b]
theorem o2_sizes (a b : Int) (ha : (Lit.int .i64 a).wf = true) (hb : (Lit.int .i64 b).wf = true) (w : World) :
    Calls Try.prog 69 #[o2 a b] w fun e w' => e = .returned (.tuple #[.int .i64 (tf (vs a) (vs b)), .int .i64 (tw (vs a) (vs b))]) ∧ Below w.heap.size w w' :=
  pair_sizes (ownC a) (ownC b) (vs a) (vs b) (vs_rng a).1 (vs_rng a).2 (vs_rng b).1 (vs_rng b).2 (Lib.hid (size_ownC a ha)) (Lib.hid (size_ownC b hb)) w
theorem o2_words (a b : Int) (ha : (Lit.int .i64 a).wf = true) (hb : (Lit.int .i64 b).wf = true) (w : World) :
    Calls Try.prog 41 #[o2 a b] w fun e w' => e = .returned (.int .i64 (tw (vs a) (vs b))) ∧ Below w.heap.size w w' :=
  pair_words (ownC a) (ownC b) (vs a) (vs b) (vs_rng a).1 (vs_rng a).2 (vs_rng b).1 (vs_rng b).2 (Lib.hid (size_ownC a ha)) (Lib.hid (size_ownC b hb)) w
theorem o2_sizes_bad (a b : Int) (ha : (Lit.int .i64 a).wf = true) (hb : (Lit.int .i64 b).wf = true) (h : tw (vs a) (vs b) = 0) (w : World) :
    Calls Try.prog 69 #[o2 a b] w fun e w' => e = .returned (.tuple #[.int .i64 0, .int .i64 0]) ∧ Below w.heap.size w w' := by
  have := o2_sizes a b ha hb w
  rw [h, tf_zero (vs_rng a).1 (vs_rng b).1 h] at this
  exact this
theorem o2_words_bad (a b : Int) (ha : (Lit.int .i64 a).wf = true) (hb : (Lit.int .i64 b).wf = true) (h : tw (vs a) (vs b) = 0) (w : World) :
    Calls Try.prog 41 #[o2 a b] w fun e w' => e = .returned (.int .i64 0) ∧ Below w.heap.size w w' := by
  have := o2_words a b ha hb w
  rw [h] at this
  exact this
theorem o2_enc_bad (a b x y : Int) (ha : Hid ((Lit.int .i64 a).wf = true)) (hb : Hid ((Lit.int .i64 b).wf = true)) (h : Hid (tw (vs a) (vs b) = 0)) (w : World) :
    Calls Try.prog 46 #[o2 a b, .agg #[.int .u64 x, .int .u64 y], .slice none 0 0] w fun e w' => e = .returned (.bool false) ∧ Below w.heap.size w w' := by
  go_enter Try.func46, Try.ntmps46
  go_wp2_with (first
    | (go_at_call 69; go_must (refine (o2_sizes_bad a b ha.out hb.out h.out _).mono ?_); rintro e w1 ⟨rfl, H1⟩)
    | (go_at_call 66; refine (fills_no none 0 0 0 _ (by omega)).mono ?_; rintro e w2 ⟨rfl, rfl⟩))
  go_ret
  exact ⟨rfl, Below.after (al2 _ _ _) H1⟩
theorem o2_dec_bad (a b : Int) (ha : Hid ((Lit.int .i64 a).wf = true)) (hb : Hid ((Lit.int .i64 b).wf = true)) (h : Hid (tw (vs a) (vs b) = 0)) (w : World) : Calls Try.prog 44 #[o2 a b, .slice none 0 0] w fun e w' => e = .returned (.tuple #[.agg #[.int .u64 0, .int .u64 0], .bool false]) ∧ Below w.heap.size w w' := by
  have HB : Hid (∀ w1, Below ((w.alloc (.cells #[ownC a, ownC b] 87)).alloc (.cells #[.int .u64 0, .int .u64 0] 93)).heap.size ((w.alloc (.cells #[ownC a, ownC b] 87)).alloc (.cells #[.int .u64 0, .int .u64 0] 93)) w1 → Blk w1 (w.heap.size + 1) 93 2 (twoG (.int .u64 0) (.int .u64 0))) := Lib.hid (fun w1 h => blk_below (by
    have := two_new (w.alloc (.cells #[ownC a, ownC b] 87)) (.int .u64 0) (.int .u64 0) 93
    simpa using this) h)
  go_enter Try.func44, Try.ntmps44
  go_wp2_with (first
    | (go_at_call 69; go_must (refine (o2_sizes_bad a b ha.out hb.out h.out _).mono ?_); rintro e w1 ⟨rfl, H1⟩; have HX := Lib.hid (HB.out w1 H1); have x0 := two0 HX.out; have x1 := two1 HX.out; have z0 := HX.out.frozen 0; have z1 := HX.out.frozen 1)
    | (go_at_call 66; refine (fills_no none 0 0 0 _ (by omega)).mono ?_; rintro e w2 ⟨rfl, rfl⟩))
  have HY : Blk ((w1.setCell ⟨w.heap.size + 1, 0, none⟩ (.int .u64 0)).setCell ⟨w.heap.size + 1, 1, none⟩ (.int .u64 0)) (w.heap.size + 1) 93 2 (twoG (.int .u64 0) (.int .u64 0)) := ((HX.out.set 0 (.int .u64 0)).set 1 (.int .u64 0)).ext (fun o ho => by
    rcases (show o = 0 ∨ o = 1 by omega) with rfl | rfl <;> rfl)
  have y0 := two0 HY
  have y1 := two1 HY
  have HB1 : Below w.heap.size w ((w1.setCell ⟨w.heap.size + 1, 0, none⟩ (.int .u64 0)).setCell ⟨w.heap.size + 1, 1, none⟩ (.int .u64 0)) := ((Below.after (al2 w _ _) H1).setCell (by simp) _).setCell (by simp) _
  generalize (w1.setCell ⟨w.heap.size + 1, 0, none⟩ (.int .u64 0)).setCell ⟨w.heap.size + 1, 1, none⟩ (.int .u64 0) = ws at *
  refine bodyPost_ret (v := .tuple #[.agg #[.int .u64 0, .int .u64 0], .bool false]) (by simp [results, Try.results44, go_sem, y0, y1]) rfl ?_
  exact ⟨rfl, HB1⟩
theorem size_o2_bad (a b : Int) (ha : Hid ((Lit.int .i64 a).wf = true)) (hb : Hid ((Lit.int .i64 b).wf = true)) (h : Hid (tw (vs a) (vs b) = 0)) (w : World) : Calls Try.prog 73 #[.iface 87 (o2 a b)] w fun e w' => e = .returned (.int .i64 0) ∧ Below w.heap.size w w' :=
  size_two (o2 a b) 0 w (by omega) (by omega) (Lib.hid (o2_words_bad a b ha.out hb.out h.out w))
theorem o2_plan_bad (a b a0 x y : Int) (ha : Hid ((Lit.int .i64 a).wf = true)) (hb : Hid ((Lit.int .i64 b).wf = true)) (h : Hid (tw (vs a) (vs b) = 0)) (w : World) : Calls Try.prog 45 #[.int .u64 a0, .iface 87 (o2 a b), .agg #[.int .u64 x, .int .u64 y]] w fun e w' => e = .returned (.tuple #[.slice none 0 0, .int .i64 1]) ∧ Below w.heap.size w w' := by
  go_enter Try.func45, Try.ntmps45
  go_wp2_with (go_at_call 73; go_must (refine (size_o2_bad a b ha hb h _).mono ?_); rintro e w1 ⟨rfl, H1⟩)
  go_ret2
  exact ⟨rfl, Below.after (al1 _ _) H1⟩
abbrev o1 (b : Int) : Value := .agg #[ownC b]
theorem o1_words (b : Int) (hb : (Lit.int .i64 b).wf = true) (w : World) :
    Calls Try.prog 43 #[o1 b] w fun e w' => e = .returned (.int .i64 (ow (vs b))) ∧ Below w.heap.size w w' :=
  opt_words (ownC b) (vs b) (vs_rng b).1 (vs_rng b).2 (Lib.hid (size_ownC b hb)) w
theorem o1_words_bad (b : Int) (hb : (Lit.int .i64 b).wf = true) (h : ow (vs b) = 0) (w : World) :
    Calls Try.prog 43 #[o1 b] w fun e w' => e = .returned (.int .i64 0) ∧ Below w.heap.size w w' := by
  have := o1_words b hb w
  rw [h] at this
  exact this
theorem o1_enc_bad (b : Int) (p : Option Addr) (hb : Hid ((Lit.int .i64 b).wf = true)) (h : Hid (ow (vs b) = 0)) (w : World) :
    Calls Try.prog 48 #[o1 b, .pointer p, .slice none 0 0] w fun e w' => e = .returned (.bool false) ∧ Below w.heap.size w w' := by
  go_enter Try.func48, Try.ntmps48
  go_wp2_with (first
    | (go_at_call 43; go_must (refine (o1_words_bad b hb.out h.out _).mono ?_); rintro e w1 ⟨rfl, H1⟩)
    | (go_at_call 66; refine (fills_no none 0 0 0 _ (by omega)).mono ?_; rintro e w2 ⟨rfl, rfl⟩))
  go_ret
  exact ⟨rfl, Below.after (al1 _ _) H1⟩
theorem o1_dec_bad (b : Int) (hb : Hid ((Lit.int .i64 b).wf = true)) (h : Hid (ow (vs b) = 0)) (w : World) :
    Calls Try.prog 47 #[o1 b, .slice none 0 0] w fun e w' => e = .returned (.tuple #[.pointer none, .bool false]) ∧ Below w.heap.size w w' := by
  go_enter Try.func47, Try.ntmps47
  go_wp2_with (first
    | (go_at_call 43; go_must (refine (o1_words_bad b hb.out h.out _).mono ?_); rintro e w1 ⟨rfl, H1⟩)
    | (go_at_call 66; refine (fills_no none 0 0 0 _ (by omega)).mono ?_; rintro e w2 ⟨rfl, rfl⟩))
  go_ret2
  exact ⟨rfl, Below.after (al1 _ _) H1⟩
end Go.Proofs.Ytopnkhalmembhaa.Rec
