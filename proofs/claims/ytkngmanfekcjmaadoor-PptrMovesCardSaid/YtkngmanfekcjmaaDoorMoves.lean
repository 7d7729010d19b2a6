/-
  PROVED: the law PptrMoves answers true for every input, and each argument reads behind the call as before (Rows.PptrMovesCardSaid). No condition.
-/
import Derived.Test.YtkngmanfekcjmaaDoorCards
import Derived.Test.YtkngmanfekcjmaaDoorTie
import Derived.Test.YtkngmanfekcjmaaDoorLaid
import Derived.Test.YtkngmanfekcjmaaDoorLaw
import Derived.Test.YtkngmanfekcjmaaDoorArgs
import Derived.Test.YtkngmanfekcjmaaDoorPLaid
namespace Go.Proofs.YtkngmanfekcjmaaDoor.pptrMoves
open Go.ChangeShapes Go.WideShapes Go.ChangeAt Go.RowKit Go.Proofs.YtkngmanfekcjmaaDoor.Law Go.Proofs.YtkngmanfekcjmaaDoor.Args Go.Proofs.YtkngmanfekcjmaaDoor.Base
set_option linter.unusedVariables false
set_option linter.unusedSimpArgs false
open Go.Proofs.YtkngmanfekcjmaaDoor.PM
set_option maxRecDepth 100000 in
theorem walk {W : World} (HP : Pow W.heap.size W) (p : Int) (w0 : (Lit.int .u64 p).wf = true) (d : Int) (w1 : (Lit.int .i64 d).wf = true) : Calls Tryd.prog 6 #[.int .u64 p, .int .i64 d] W fun e W' => e = .returned (.bool true) ∧ Below W.heap.size W W' := by
  obtain ⟨h0, h1⟩ := wf_u64 w0
  obtain ⟨d0, d1⟩ := wf_i64 w1
  clear w0 w1
  have HA := Lib.hid (awake_any W.heap.size W (Nat.le_refl _) HP)
  have H1 := Lib.hid (reloc_any p d W h0 h1 d0 d1)
  have R1 := Lib.hid (rreloc_any p d W h0 h1 d0 d1)
  have hv := rVal_range p d ⟨h0, h1⟩
  have hb := r_back p d
  have HD : Hid (rErr p d = 0 → -36028797018963968 ≤ d ∧ d ≤ 36028797018963967) := Lib.hid (r_small p d h0 h1)
  clear HP
  obtain ⟨q, hq⟩ : ∃ q, rVal p d = q := ⟨_, rfl⟩
  obtain ⟨x, hx⟩ : ∃ x, rErr p d = x := ⟨_, rfl⟩
  rw [hq] at H1 R1 hv hb
  rw [hx] at H1 R1 hb
  obtain ⟨hv0, hv1⟩ := hv
  by_cases hx0 : x = 0
  · subst hx0
    obtain ⟨b1, b2, b3, b4, b5⟩ := hb h0 h1 rfl
    obtain ⟨e0, e1⟩ := HD.out hx
    have hw : IntKind.i64.wrap (-d) = -d := IntWalk.i64_in _ (by omega)
    have H2 := Lib.hid (fun w => reloc_any q (-d) w hv0 hv1 (by omega) (by omega))
    rw [b1, b2] at H2
    have P1 := Lib.hid (fun w => off_any p w h0 h1)
    have P2 := Lib.hid (fun w => gen_any p w h0 h1)
    have P3 := Lib.hid (fun w => kind_any p w h0 h1)
    have Q1 := Lib.hid (fun w => off_any q w hv0 hv1)
    have Q2 := Lib.hid (fun w => gen_any q w hv0 hv1)
    have Q3 := Lib.hid (fun w => kind_any q w hv0 hv1)
    rw [b3] at Q2
    rw [b4] at Q3
    have ho := pOff_range p
    have ho2 := pOff_range q
    rw [b5] at Q1 ho2
    clear hb hx hq HD b1 b2 b3 b4 b5
    generalize pOff p = o at *
    generalize pGen p = g at *
    generalize pKnd p = k at *
    go_enter Tryd.func6, Tryd.ntmps6
    go_wp2_with (first
      | (go_at_call 13; refine HA.out.mono ?_; rintro e w' ⟨rfl, hb⟩)
      | (go_at_call_of 24 (Value.int .u64 p); refine H1.out.mono ?_; rintro e w' ⟨rfl, hw⟩; have hw2 := hw.symm; clear hw; subst hw2)
      | (go_at_call 25; refine R1.out.mono ?_; rintro e w' ⟨rfl, hw⟩; have hw2 := hw.symm; clear hw; subst hw2)
      | (go_at_call_of 24 (Value.int .u64 q); go_must (refine (H2.out _).mono ?_); rintro e w' ⟨rfl, hw⟩; have hw2 := hw.symm; clear hw; subst hw2)
      | (go_at_call_of 15 (Value.int .u64 p); refine (P1.out _).mono ?_; rintro e w' ⟨rfl, hw⟩; have hw2 := hw.symm; clear hw; subst hw2)
      | (go_at_call_of 16 (Value.int .u64 p); refine (P2.out _).mono ?_; rintro e w' ⟨rfl, hw⟩; have hw2 := hw.symm; clear hw; subst hw2)
      | (go_at_call_of 17 (Value.int .u64 p); refine (P3.out _).mono ?_; rintro e w' ⟨rfl, hw⟩; have hw2 := hw.symm; clear hw; subst hw2)
      | (go_at_call_of 15 (Value.int .u64 q); refine (Q1.out _).mono ?_; rintro e w' ⟨rfl, hw⟩; have hw2 := hw.symm; clear hw; subst hw2)
      | (go_at_call_of 16 (Value.int .u64 q); refine (Q2.out _).mono ?_; rintro e w' ⟨rfl, hw⟩; have hw2 := hw.symm; clear hw; subst hw2)
      | (go_at_call_of 17 (Value.int .u64 q); refine (Q3.out _).mono ?_; rintro e w' ⟨rfl, hw⟩; have hw2 := hw.symm; clear hw; subst hw2))
    all_goals (go_ret; exact ⟨ret_bool (by rw [show o + d - o = d by omega]; simp), hb⟩)
  · have hx2 : (x == 0) = false := by simpa using hx0
    clear hb hx hq HD
    go_enter Tryd.func6, Tryd.ntmps6
    go_wp2_with (first
      | (go_at_call 13; refine HA.out.mono ?_; rintro e w' ⟨rfl, hb⟩)
      | (go_at_call 24; refine H1.out.mono ?_; rintro e w' ⟨rfl, hw⟩; have hw2 := hw.symm; clear hw; subst hw2)
      | (go_at_call 25; refine R1.out.mono ?_; rintro e w' ⟨rfl, hw⟩; have hw2 := hw.symm; clear hw; subst hw2))
    all_goals (go_ret; exact ⟨rfl, hb⟩)

/-! ### the frame -/
theorem own : ownKnob Tryd.prog.godebug = none := by kernel_rfl
set_option maxRecDepth 100000 in
theorem calls {H : Type} {enc : TypeId × Value → H} (W : World) (base : Nat) (args : Array Value) (ds : List (DataW H)) (p : List MemPlace)
    (hval0 : ∀ (j : Nat) t v, Tryd.f6.params[j]? = some t → args[j]? = some v → Value.okWide Tryd.prog W .any base t v)
    (hA : DataW.TrodAll enc Tryd.prog W 0 (fun _ => true) true Tryd.f6.params.toList args.toList ds p) (_ : W.noneFrozen p)
    (hsz : (DataW.weightsEach Tryd.prog Tryd.f6.params.toList ds).all (· ≤ reachBytes) = true) (hL : laidMetH Tryd.prog Rows.pptrMovesRow.laid W) :
    Calls Tryd.prog 6 args W fun e W' => e = .returned (.bool true) ∧ Below W.heap.size W W' := by
  have hval : ∀ (j : Nat) t v, Tryd.f6.params[j]? = some t → args[j]? = some v → Value.okWide Tryd.prog W .any base t v := hval0
  clear hval0
  rw [Tryd.params6] at hA hval hsz
  obtain ⟨v0, vs0, d0, ds0, p0, q0, hargs, rfl, rfl, h0, r'0⟩ := trodAll_cons hA
  obtain ⟨v1, vs1, d1, ds1, p1, q1, rfl, rfl, rfl, h1, r'1⟩ := trodAll_cons r'0
  obtain ⟨rfl, rfl, rfl⟩ := trodAll_nil r'1
  obtain rfl : args = #[v0, v1] := by cases args; simp_all
  obtain ⟨a0, rfl, rfl, rfl, w0⟩ := open_int Tryd.underlying22 (hval 0 22 v0 rfl rfl) h0
  obtain ⟨a1, rfl, rfl, rfl, w1⟩ := open_int Tryd.underlying2 (hval 1 2 v1 rfl rfl) h1
  exact walk (W := W) (Base.tabs hL) a0 w0 a1 w1
theorem laid_met (os : Os) : laidMet Tryd.prog Rows.pptrMovesRow.laid ((Base.laidWorld os).forCall (fun _ _ => 0) ⟨#[], #[.int .u64 0, .int .i64 0], []⟩).memory := laidMet_of_run' 8 (by kernel_rfl) (by kernel_rfl)
theorem reads (os : Os) {H : Type} (enc : TypeId × Value → H) : ∃ places, DataW.whole enc Tryd.prog ((Base.laidWorld os).forCall (fun _ _ => 0) ⟨#[], #[.int .u64 0, .int .i64 0], []⟩).memory Tryd.f6.params.toList Rows.pptrMovesSpec.vars false #[(Value.int .u64 0), (Value.int .i64 0)].toList 8 = some ([.lit (.int .u64 0), .lit (.int .i64 0)], [], places) := ⟨[], by kernel_rfl⟩
set_option maxRecDepth 100000 in
theorem lifted (os : Os) (started : os.Started) (H : Type) (enc : TypeId × Value → H) (F : Stop.Interp) :
    ReturnsInHanded {} Tryd.checked os 6 .any ((OpenSpec.ofChange Rows.pptrMovesSpec).preRow enc Tryd.prog Tryd.f6 Rows.pptrMovesRow.domain false Rows.pptrMovesRow.laid) (((OpenSpec.ofChange Rows.pptrMovesSpec).at F).post enc Tryd.prog Tryd.f6 false true false false) := by
  obtain ⟨places, hx⟩ := reads os enc
  exact laid_lifted (C := Tryd.checked) (s := Rows.pptrMovesSpec) (b := 4) own (by kernel_rfl) Tryd.func6 (by kernel_rfl) (by kernel_rfl) rfl Tryd.underlying4 rfl
    (fun ds h => by match ds, h with | [_, _], _ => rfl) calls os started F
    (witness_row_at (enc := enc) (C := Tryd.checked) false (Base.laidWorld os) #[.int .u64 0, .int .i64 0] rfl (by kernel_rfl) (by kernel_rfl) (by kernel_rfl)
      (OpenSpec.preRow_of_cond 8 hx (by kernel_rfl) (fun k hk => by cases hk) (by kernel_rfl) (laid_met os)))
theorem said : Rows.PptrMovesSaid :=
  OpenClaim.holds_of_cond 6 Tryd.f6 rfl rfl rfl rfl rfl rfl rfl ⟨rfl, rfl, rfl, rfl, rfl⟩ rfl rfl rfl rfl rfl (by kernel_rfl) Tryd.func6 (by kernel_rfl)
    (of_decide_eq_true (by kernel_rfl)) (by unfold Func.isWrapper; first | (rw [if_pos (by decide +kernel)]; kernel_rfl) | (rw [if_neg (by decide +kernel)]; exact ⟨rfl, rfl⟩))
    (fun os started H enc _ F => by rw [OpenClaim.pre_eq_preRow]; exact lifted os started H enc F)
theorem plain (f : FuncId) (fn : Func) (hf : Tryd.pinned.checked.prog.funcNamed "bedrock/bedrocklaw09.PptrMoves" = some f) (hfn : Tryd.pinned.checked.prog.funcs[f]? = some fn) :
    true = Tryd.pinned.checked.prog.looks [] ∧ ∀ (j : Nat) t, fn.params[j]? = some t → Tryd.pinned.checked.prog.wantsStandIn t = false := by
  obtain rfl : f = 6 := Option.some.inj ((show Tryd.prog.funcNamed "bedrock/bedrocklaw09.PptrMoves" = some 6 by kernel_rfl).symm.trans hf) |>.symm
  obtain rfl : fn = Tryd.f6 := (Option.some.inj (Tryd.func6.symm.trans hfn)).symm
  have hall : Tryd.f6.params.toList.all (fun t => !Tryd.prog.wantsStandIn t) = true := by kernel_rfl
  refine ⟨by kernel_rfl, fun j t ht => ?_⟩
  have := List.all_eq_true.1 hall t (by simpa using Array.mem_of_getElem? ht)
  exact (show Tryd.prog.wantsStandIn t = false by simpa using this)
/-- ████ THE STATEMENT: THE CARD ████ -/
theorem proved : Rows.PptrMovesCardSaid :=
  Claim7.holds_tied_plain_at .later [] _ _ _ _ said (fun _ h => by cases h) (by kernel_rfl) (fun _ h => by cases h) pptrMoves_row_tie rfl ⟨rfl, rfl⟩ (by kernel_rfl) rfl plain (by kernel_rfl)
#print axioms proved
end Go.Proofs.YtkngmanfekcjmaaDoor.pptrMoves
