/-
  PROVED: the law PptrWords answers true for every input, and each argument reads behind the call as before (Rows.PptrWordsCardSaid). No condition.
-/
import Derived.Test.YtkngmanfekcjmaaDoorCards
import Derived.Test.YtkngmanfekcjmaaDoorTie
import Derived.Test.YtkngmanfekcjmaaDoorLaid
import Derived.Test.YtkngmanfekcjmaaDoorLaw
import Derived.Test.YtkngmanfekcjmaaDoorArgs
import Derived.Test.YtkngmanfekcjmaaDoorPLaid
namespace Go.Proofs.YtkngmanfekcjmaaDoor.pptrWords
open Go.ChangeShapes Go.WideShapes Go.ChangeAt Go.RowKit Go.Proofs.YtkngmanfekcjmaaDoor.Law Go.Proofs.YtkngmanfekcjmaaDoor.Args Go.Proofs.YtkngmanfekcjmaaDoor.Base
set_option linter.unusedVariables false
set_option linter.unusedSimpArgs false
open Go.Proofs.YtkngmanfekcjmaaDoor.PM
set_option maxRecDepth 100000 in
theorem walk {W : World} (HP : Pow W.heap.size W) (p : Int) (w0 : (Lit.int .u64 p).wf = true) (x : Int) (w1 : (Lit.int .i64 x).wf = true) : Calls Tryd.prog 5 #[.int .u64 p, .int .i64 x] W fun e W' => e = .returned (.bool true) ∧ Below W.heap.size W W' := by
  obtain ⟨h0, h1⟩ := wf_u64 w0
  obtain ⟨x0, x1⟩ := wf_i64 w1
  clear w0 w1
  have HA := Lib.hid (awake_any W.heap.size W (Nat.le_refl _) HP)
  have H1 := Lib.hid (at_any p x W h0 h1 x0 x1)
  have H2 := Lib.hid (fun w => at_any p 0 w h0 h1 (by omega) (by omega))
  have R1 := Lib.hid (fun w => roff_any p w h0 h1)
  have ho := pOff_range p
  clear HP
  by_cases hc : p = 0 ∨ x < 0 ∨ 60 ≤ x
  · rw [at_none hc] at H1
    go_enter Tryd.func5, Tryd.ntmps5
    go_wp2_with (first
      | (go_at_call 13; refine HA.out.mono ?_; rintro e w' ⟨rfl, hb⟩)
      | (go_at_call_of 23 (Value.int .u64 p); refine H1.out.mono ?_; rintro e w' ⟨rfl, hw⟩; have hw2 := hw.symm; clear hw; subst hw2)
      | (go_at_call 19; refine (R1.out _).mono ?_; rintro e w' ⟨rfl, hw⟩; have hw2 := hw.symm; clear hw; subst hw2))
    all_goals first | (exfalso; omega) | (go_ret; exact ⟨ret_bool rfl, by assumption⟩)
  · rw [at_word hc] at H1
    rw [at_word (by omega), Int.zero_mul, Int.add_zero] at H2
    obtain ⟨c1, c2, c3⟩ : ¬ p = 0 ∧ 0 ≤ x ∧ x < 60 := by omega
    have e8 : (8 : Int) * x = x * 8 := by omega
    clear hc
    generalize pOff p = o at *
    have TK1 := HA
    go_enter Tryd.func5, Tryd.ntmps5
    go_wp2_with (first
      | (go_at_call 13; refine HA.out.mono ?_; rintro e w' ⟨rfl, hb⟩)
      | (go_at_call 23; have tt := TK1; clear TK1; go_must (refine H1.out.mono ?_); rintro e w' ⟨rfl, hw⟩; have hw2 := hw.symm; clear hw; subst hw2)
      | (go_at_call 23; go_must (refine (H2.out _).mono ?_); rintro e w' ⟨rfl, hw⟩; have hw2 := hw.symm; clear hw; subst hw2)
      | (go_at_call 19; refine (R1.out _).mono ?_; rintro e w' ⟨rfl, hw⟩; have hw2 := hw.symm; clear hw; subst hw2))
    all_goals first
      | (exfalso; have hh := ‹((p == 0) = true ∨ x < 0) ∨ 60 ≤ x›; rw [show (p == 0) = false by simpa using c1] at hh; simp at hh; omega)
      | (go_ret; exact ⟨ret_bool (by simp), by assumption⟩)

/-! ### the frame -/
theorem own : ownKnob Tryd.prog.godebug = none := by kernel_rfl
set_option maxRecDepth 100000 in
theorem calls {H : Type} {enc : TypeId × Value → H} (W : World) (base : Nat) (args : Array Value) (ds : List (DataW H)) (p : List MemPlace)
    (hval0 : ∀ (j : Nat) t v, Tryd.f5.params[j]? = some t → args[j]? = some v → Value.okWide Tryd.prog W .any base t v)
    (hA : DataW.TrodAll enc Tryd.prog W 0 (fun _ => true) true Tryd.f5.params.toList args.toList ds p) (_ : W.noneFrozen p)
    (hsz : (DataW.weightsEach Tryd.prog Tryd.f5.params.toList ds).all (· ≤ reachBytes) = true) (hL : laidMetH Tryd.prog Rows.pptrWordsRow.laid W) :
    Calls Tryd.prog 5 args W fun e W' => e = .returned (.bool true) ∧ Below W.heap.size W W' := by
  have hval : ∀ (j : Nat) t v, Tryd.f5.params[j]? = some t → args[j]? = some v → Value.okWide Tryd.prog W .any base t v := hval0
  clear hval0
  rw [Tryd.params5] at hA hval hsz
  obtain ⟨v0, vs0, d0, ds0, p0, q0, hargs, rfl, rfl, h0, r'0⟩ := trodAll_cons hA
  obtain ⟨v1, vs1, d1, ds1, p1, q1, rfl, rfl, rfl, h1, r'1⟩ := trodAll_cons r'0
  obtain ⟨rfl, rfl, rfl⟩ := trodAll_nil r'1
  obtain rfl : args = #[v0, v1] := by cases args; simp_all
  obtain ⟨a0, rfl, rfl, rfl, w0⟩ := open_int Tryd.underlying22 (hval 0 22 v0 rfl rfl) h0
  obtain ⟨a1, rfl, rfl, rfl, w1⟩ := open_int Tryd.underlying3 (hval 1 3 v1 rfl rfl) h1
  exact walk (W := W) (Base.tabs hL) a0 w0 a1 w1
theorem laid_met (os : Os) : laidMet Tryd.prog Rows.pptrWordsRow.laid ((Base.laidWorld os).forCall (fun _ _ => 0) ⟨#[], #[.int .u64 0, .int .i64 0], []⟩).memory := laidMet_of_run' 8 (by kernel_rfl) (by kernel_rfl)
theorem reads (os : Os) {H : Type} (enc : TypeId × Value → H) : ∃ places, DataW.whole enc Tryd.prog ((Base.laidWorld os).forCall (fun _ _ => 0) ⟨#[], #[.int .u64 0, .int .i64 0], []⟩).memory Tryd.f5.params.toList Rows.pptrWordsSpec.vars false #[(Value.int .u64 0), (Value.int .i64 0)].toList 8 = some ([.lit (.int .u64 0), .lit (.int .i64 0)], [], places) := ⟨[], by kernel_rfl⟩
set_option maxRecDepth 100000 in
theorem lifted (os : Os) (started : os.Started) (H : Type) (enc : TypeId × Value → H) (F : Stop.Interp) :
    ReturnsInHanded {} Tryd.checked os 5 .any ((OpenSpec.ofChange Rows.pptrWordsSpec).preRow enc Tryd.prog Tryd.f5 Rows.pptrWordsRow.domain false Rows.pptrWordsRow.laid) (((OpenSpec.ofChange Rows.pptrWordsSpec).at F).post enc Tryd.prog Tryd.f5 false true false false) := by
  obtain ⟨places, hx⟩ := reads os enc
  exact laid_lifted (C := Tryd.checked) (s := Rows.pptrWordsSpec) (b := 4) own (by kernel_rfl) Tryd.func5 (by kernel_rfl) (by kernel_rfl) rfl Tryd.underlying4 rfl
    (fun ds h => by match ds, h with | [_, _], _ => rfl) calls os started F
    (witness_row_at (enc := enc) (C := Tryd.checked) false (Base.laidWorld os) #[.int .u64 0, .int .i64 0] rfl (by kernel_rfl) (by kernel_rfl) (by kernel_rfl)
      (OpenSpec.preRow_of_cond 8 hx (by kernel_rfl) (fun k hk => by cases hk) (by kernel_rfl) (laid_met os)))
theorem said : Rows.PptrWordsSaid :=
  OpenClaim.holds_of_cond 5 Tryd.f5 rfl rfl rfl rfl rfl rfl rfl ⟨rfl, rfl, rfl, rfl, rfl⟩ rfl rfl rfl rfl rfl (by kernel_rfl) Tryd.func5 (by kernel_rfl)
    (of_decide_eq_true (by kernel_rfl)) (by unfold Func.isWrapper; first | (rw [if_pos (by decide +kernel)]; kernel_rfl) | (rw [if_neg (by decide +kernel)]; exact ⟨rfl, rfl⟩))
    (fun os started H enc _ F => by rw [OpenClaim.pre_eq_preRow]; exact lifted os started H enc F)
theorem plain (f : FuncId) (fn : Func) (hf : Tryd.pinned.checked.prog.funcNamed "bedrock/bedrocklaw09.PptrWords" = some f) (hfn : Tryd.pinned.checked.prog.funcs[f]? = some fn) :
    true = Tryd.pinned.checked.prog.looks [] ∧ ∀ (j : Nat) t, fn.params[j]? = some t → Tryd.pinned.checked.prog.wantsStandIn t = false := by
  obtain rfl : f = 5 := Option.some.inj ((show Tryd.prog.funcNamed "bedrock/bedrocklaw09.PptrWords" = some 5 by kernel_rfl).symm.trans hf) |>.symm
  obtain rfl : fn = Tryd.f5 := (Option.some.inj (Tryd.func5.symm.trans hfn)).symm
  have hall : Tryd.f5.params.toList.all (fun t => !Tryd.prog.wantsStandIn t) = true := by kernel_rfl
  refine ⟨by kernel_rfl, fun j t ht => ?_⟩
  have := List.all_eq_true.1 hall t (by simpa using Array.mem_of_getElem? ht)
  exact (show Tryd.prog.wantsStandIn t = false by simpa using this)
/-- ████ THE STATEMENT: THE CARD ████ -/
theorem proved : Rows.PptrWordsCardSaid :=
  Claim7.holds_tied_plain_at .later [] _ _ _ _ said (fun _ h => by cases h) (by kernel_rfl) (fun _ h => by cases h) pptrWords_row_tie rfl ⟨rfl, rfl⟩ (by kernel_rfl) rfl plain (by kernel_rfl)
#print axioms proved
end Go.Proofs.YtkngmanfekcjmaaDoor.pptrWords
