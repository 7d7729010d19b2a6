/-
  PROVED: the law PptrTwoMoves answers true for every input, and each argument reads behind the call as before (Rows.PptrTwoMovesCardSaid). No condition.
-/
import Derived.Test.YtkngmanfekcjmaaDoorCards
import Derived.Test.YtkngmanfekcjmaaDoorTie
import Derived.Test.YtkngmanfekcjmaaDoorLaid
import Derived.Test.YtkngmanfekcjmaaDoorLaw
import Derived.Test.YtkngmanfekcjmaaDoorArgs
import Derived.Test.YtkngmanfekcjmaaDoorPLaid
namespace Go.Proofs.YtkngmanfekcjmaaDoor.pptrTwoMoves
open Go.ChangeShapes Go.WideShapes Go.ChangeAt Go.RowKit Go.Proofs.YtkngmanfekcjmaaDoor.Law Go.Proofs.YtkngmanfekcjmaaDoor.Args Go.Proofs.YtkngmanfekcjmaaDoor.Base
set_option linter.unusedVariables false
set_option linter.unusedSimpArgs false
open Go.Proofs.YtkngmanfekcjmaaDoor.PM
set_option maxRecDepth 100000 in
theorem walk {W : World} (HP : Pow W.heap.size W) (p : Int) (w0 : (Lit.int .u64 p).wf = true) (a : Int) (w1 : (Lit.int .i32 a).wf = true) (b : Int) (w2 : (Lit.int .i32 b).wf = true) : Calls Tryd.prog 7 #[.int .u64 p, .int .i32 a, .int .i32 b] W fun e W' => e = .returned (.bool true) ∧ Below W.heap.size W W' := by
  obtain ⟨h0, h1⟩ := wf_u64 w0
  obtain ⟨a0, a1⟩ := wf_i32 w1
  obtain ⟨b0, b1⟩ := wf_i32 w2
  clear w0 w1 w2
  have HA := Lib.hid (awake_any W.heap.size W (Nat.le_refl _) HP)
  have H1 := Lib.hid (reloc_any p (8 * a) W h0 h1 (by omega) (by omega))
  have hv := rVal_range p (8 * a) ⟨h0, h1⟩
  have ht := r_twice p a b h0 h1
  clear HP
  obtain ⟨q, hq⟩ : ∃ q, rVal p (8 * a) = q := ⟨_, rfl⟩
  obtain ⟨x, hx⟩ : ∃ x, rErr p (8 * a) = x := ⟨_, rfl⟩
  rw [hq] at H1 hv ht
  rw [hx] at H1 ht
  obtain ⟨hv0, hv1⟩ := hv
  by_cases hx0 : x = 0
  · subst hx0
    obtain ⟨t1, t2⟩ := ht rfl
    have H2 := Lib.hid (reloc_any q (8 * b) W hv0 hv1 (by omega) (by omega))
    have H3 := Lib.hid (reloc_any p (8 * (a + b)) W h0 h1 (by omega) (by omega))
    rw [t1, t2] at H2
    generalize rVal p (8 * (a + b)) = r at *
    generalize rErr p (8 * (a + b)) = y at *
    clear ht hx hq t1 t2
    have TK1 := HA
    have TK2 := HA
    have TK3 := HA
    go_enter Tryd.func7, Tryd.ntmps7
    go_wp2_with (first
      | (go_at_call 13; refine HA.out.mono ?_; rintro e w' ⟨rfl, hb⟩)
      | (go_at_call 24; have tt := TK1; clear TK1 tt; go_must (refine H1.out.mono ?_); rintro e w' ⟨rfl, hw⟩; have hw2 := hw.symm; clear hw; subst hw2)
      | (go_at_call 24; have tt := TK2; clear TK2 tt; go_must (refine H2.out.mono ?_); rintro e w' ⟨rfl, hw⟩; have hw2 := hw.symm; clear hw; subst hw2)
      | (go_at_call 24; have tt := TK3; clear TK3 tt; go_must (refine H3.out.mono ?_); rintro e w' ⟨rfl, hw⟩; have hw2 := hw.symm; clear hw; subst hw2))
    all_goals (go_ret; exact ⟨ret_bool (by simp), hb⟩)
  · have hx2 : (x == 0) = false := by simpa using hx0
    clear ht hx hq
    go_enter Tryd.func7, Tryd.ntmps7
    go_wp2_with (first
      | (go_at_call 13; refine HA.out.mono ?_; rintro e w' ⟨rfl, hb⟩)
      | (go_at_call 24; refine H1.out.mono ?_; rintro e w' ⟨rfl, hw⟩; have hw2 := hw.symm; clear hw; subst hw2))
    all_goals (go_ret; exact ⟨rfl, hb⟩)

/-! ### the frame -/
theorem own : ownKnob Tryd.prog.godebug = none := by kernel_rfl
set_option maxRecDepth 100000 in
theorem calls {H : Type} {enc : TypeId × Value → H} (W : World) (base : Nat) (args : Array Value) (ds : List (DataW H)) (p : List MemPlace)
    (hval0 : ∀ (j : Nat) t v, Tryd.f7.params[j]? = some t → args[j]? = some v → Value.okWide Tryd.prog W .any base t v)
    (hA : DataW.TrodAll enc Tryd.prog W 0 (fun _ => true) true Tryd.f7.params.toList args.toList ds p) (_ : W.noneFrozen p)
    (hsz : (DataW.weightsEach Tryd.prog Tryd.f7.params.toList ds).all (· ≤ reachBytes) = true) (hL : laidMetH Tryd.prog Rows.pptrTwoMovesRow.laid W) :
    Calls Tryd.prog 7 args W fun e W' => e = .returned (.bool true) ∧ Below W.heap.size W W' := by
  have hval : ∀ (j : Nat) t v, Tryd.f7.params[j]? = some t → args[j]? = some v → Value.okWide Tryd.prog W .any base t v := hval0
  clear hval0
  rw [Tryd.params7] at hA hval hsz
  obtain ⟨v0, vs0, d0, ds0, p0, q0, hargs, rfl, rfl, h0, r'0⟩ := trodAll_cons hA
  obtain ⟨v1, vs1, d1, ds1, p1, q1, rfl, rfl, rfl, h1, r'1⟩ := trodAll_cons r'0
  obtain ⟨v2, vs2, d2, ds2, p2, q2, rfl, rfl, rfl, h2, r'2⟩ := trodAll_cons r'1
  obtain ⟨rfl, rfl, rfl⟩ := trodAll_nil r'2
  obtain rfl : args = #[v0, v1, v2] := by cases args; simp_all
  obtain ⟨a0, rfl, rfl, rfl, w0⟩ := open_int Tryd.underlying22 (hval 0 22 v0 rfl rfl) h0
  obtain ⟨a1, rfl, rfl, rfl, w1⟩ := open_int Tryd.underlying21 (hval 1 21 v1 rfl rfl) h1
  obtain ⟨a2, rfl, rfl, rfl, w2⟩ := open_int Tryd.underlying21 (hval 2 21 v2 rfl rfl) h2
  exact walk (W := W) (Base.tabs hL) a0 w0 a1 w1 a2 w2
theorem laid_met (os : Os) : laidMet Tryd.prog Rows.pptrTwoMovesRow.laid ((Base.laidWorld os).forCall (fun _ _ => 0) ⟨#[], #[.int .u64 0, .int .i32 0, .int .i32 0], []⟩).memory := laidMet_of_run' 8 (by kernel_rfl) (by kernel_rfl)
theorem reads (os : Os) {H : Type} (enc : TypeId × Value → H) : ∃ places, DataW.whole enc Tryd.prog ((Base.laidWorld os).forCall (fun _ _ => 0) ⟨#[], #[.int .u64 0, .int .i32 0, .int .i32 0], []⟩).memory Tryd.f7.params.toList Rows.pptrTwoMovesSpec.vars false #[(Value.int .u64 0), (Value.int .i32 0), (Value.int .i32 0)].toList 8 = some ([.lit (.int .u64 0), .lit (.int .i32 0), .lit (.int .i32 0)], [], places) := ⟨[], by kernel_rfl⟩
set_option maxRecDepth 100000 in
theorem lifted (os : Os) (started : os.Started) (H : Type) (enc : TypeId × Value → H) (F : Stop.Interp) :
    ReturnsInHanded {} Tryd.checked os 7 .any ((OpenSpec.ofChange Rows.pptrTwoMovesSpec).preRow enc Tryd.prog Tryd.f7 Rows.pptrTwoMovesRow.domain false Rows.pptrTwoMovesRow.laid) (((OpenSpec.ofChange Rows.pptrTwoMovesSpec).at F).post enc Tryd.prog Tryd.f7 false true false false) := by
  obtain ⟨places, hx⟩ := reads os enc
  exact laid_lifted (C := Tryd.checked) (s := Rows.pptrTwoMovesSpec) (b := 4) own (by kernel_rfl) Tryd.func7 (by kernel_rfl) (by kernel_rfl) rfl Tryd.underlying4 rfl
    (fun ds h => by match ds, h with | [_, _, _], _ => rfl) calls os started F
    (witness_row_at (enc := enc) (C := Tryd.checked) false (Base.laidWorld os) #[.int .u64 0, .int .i32 0, .int .i32 0] rfl (by kernel_rfl) (by kernel_rfl) (by kernel_rfl)
      (OpenSpec.preRow_of_cond 8 hx (by kernel_rfl) (fun k hk => by cases hk) (by kernel_rfl) (laid_met os)))
theorem said : Rows.PptrTwoMovesSaid :=
  OpenClaim.holds_of_cond 7 Tryd.f7 rfl rfl rfl rfl rfl rfl rfl ⟨rfl, rfl, rfl, rfl, rfl⟩ rfl rfl rfl rfl rfl (by kernel_rfl) Tryd.func7 (by kernel_rfl)
    (of_decide_eq_true (by kernel_rfl)) (by unfold Func.isWrapper; first | (rw [if_pos (by decide +kernel)]; kernel_rfl) | (rw [if_neg (by decide +kernel)]; exact ⟨rfl, rfl⟩))
    (fun os started H enc _ F => by rw [OpenClaim.pre_eq_preRow]; exact lifted os started H enc F)
theorem plain (f : FuncId) (fn : Func) (hf : Tryd.pinned.checked.prog.funcNamed "bedrock/bedrocklaw09.PptrTwoMoves" = some f) (hfn : Tryd.pinned.checked.prog.funcs[f]? = some fn) :
    true = Tryd.pinned.checked.prog.looks [] ∧ ∀ (j : Nat) t, fn.params[j]? = some t → Tryd.pinned.checked.prog.wantsStandIn t = false := by
  obtain rfl : f = 7 := Option.some.inj ((show Tryd.prog.funcNamed "bedrock/bedrocklaw09.PptrTwoMoves" = some 7 by kernel_rfl).symm.trans hf) |>.symm
  obtain rfl : fn = Tryd.f7 := (Option.some.inj (Tryd.func7.symm.trans hfn)).symm
  have hall : Tryd.f7.params.toList.all (fun t => !Tryd.prog.wantsStandIn t) = true := by kernel_rfl
  refine ⟨by kernel_rfl, fun j t ht => ?_⟩
  have := List.all_eq_true.1 hall t (by simpa using Array.mem_of_getElem? ht)
  exact (show Tryd.prog.wantsStandIn t = false by simpa using this)
/-- ████ THE STATEMENT: THE CARD ████ -/
theorem proved : Rows.PptrTwoMovesCardSaid :=
  Claim7.holds_tied_plain_at .later [] _ _ _ _ said (fun _ h => by cases h) (by kernel_rfl) (fun _ h => by cases h) pptrTwoMoves_row_tie rfl ⟨rfl, rfl⟩ (by kernel_rfl) rfl plain (by kernel_rfl)
#print axioms proved
end Go.Proofs.YtkngmanfekcjmaaDoor.pptrTwoMoves
