/-
  PROVED: the law PptrMakes answers true for every input, and each argument reads behind the call as before (Rows.PptrMakesCardSaid). No condition.
-/
import Derived.Test.YtkngmanfekcjmaaDoorCards
import Derived.Test.YtkngmanfekcjmaaDoorTie
import Derived.Test.YtkngmanfekcjmaaDoorLaid
import Derived.Test.YtkngmanfekcjmaaDoorLaw
import Derived.Test.YtkngmanfekcjmaaDoorArgs
import Derived.Test.YtkngmanfekcjmaaDoorPLaid
namespace Go.Proofs.YtkngmanfekcjmaaDoor.pptrMakes
open Go.ChangeShapes Go.WideShapes Go.ChangeAt Go.RowKit Go.Proofs.YtkngmanfekcjmaaDoor.Law Go.Proofs.YtkngmanfekcjmaaDoor.Args Go.Proofs.YtkngmanfekcjmaaDoor.Base
set_option linter.unusedVariables false
set_option linter.unusedSimpArgs false
open Go.Proofs.YtkngmanfekcjmaaDoor.PM
set_option maxRecDepth 100000 in
theorem walk {W : World} (HP : Pow W.heap.size W) (o : Int) (w0 : (Lit.int .u64 o).wf = true) (g : Int) (w1 : (Lit.int .u16 g).wf = true) (k : Int) (w2 : (Lit.int .u8 k).wf = true) : Calls Tryd.prog 3 #[.int .u64 o, .int .u16 g, .int .u8 k] W fun e W' => e = .returned (.bool true) ∧ Below W.heap.size W W' := by
  obtain ⟨o0, o1⟩ := wf_u64 w0
  obtain ⟨g0, g1⟩ := wf_u16 w1
  obtain ⟨k0, k1⟩ := wf_u8 w2
  clear w0 w1 w2
  have HA := Lib.hid (awake_any W.heap.size W (Nat.le_refl _) HP)
  have H1 := Lib.hid (make_any o g k W ⟨o0, o1⟩ ⟨g0, g1⟩ ⟨k0, k1⟩)
  have R1 := Lib.hid (rmake_any o g k W ⟨o0, o1⟩ ⟨g0, g1⟩ ⟨k0, k1⟩)
  have hv := mVal_range o g k ⟨o0, o1⟩ ⟨g0, g1⟩ ⟨k0, k1⟩
  have hz := mErr_mVal o g k
  have hp := mVal_parts o g k ⟨o0, o1⟩ ⟨g0, g1⟩ ⟨k0, k1⟩
  have hs := m_small o g k
  clear HP
  generalize mVal o g k = q at *
  generalize mErr o g k = x at *
  obtain ⟨hv0, hv1⟩ := hv
  by_cases hx0 : x = 0
  · subst hx0
    obtain ⟨p1, p2, p3, p4, p5⟩ := hp rfl
    have hs2 := hs rfl
    have P1 := Lib.hid (fun w => off_any q w hv0 (by omega))
    have P2 := Lib.hid (fun w => gen_any q w hv0 (by omega))
    have P3 := Lib.hid (fun w => kind_any q w hv0 (by omega))
    have P4 := Lib.hid (fun w => nil_any q w)
    have P5 := Lib.hid (fun w => valid_any q (o + 8) w hv0 (by omega) (by omega) (by omega))
    have P6 := Lib.hid (fun w => valid_any q o w hv0 (by omega) (by omega) (by omega))
    rw [show decide (q = 0) = false by simpa using p5] at P4
    rw [show (decide (Formed q) && decide (pOff q < o + 8)) = true by rw [p1]; simp [p4]; omega] at P5
    rw [show (decide (Formed q) && decide (pOff q < o)) = false by rw [p1]; simp] at P6
    rw [p1] at P1
    rw [p2] at P2
    rw [p3] at P3
    clear hz hp hs p1 p2 p3 p4
    have TK1 := HA
    go_enter Tryd.func3, Tryd.ntmps3
    go_wp2_with (first
      | (go_at_call 13; refine HA.out.mono ?_; rintro e w' ⟨rfl, hb⟩)
      | (go_at_call 11; refine H1.out.mono ?_; rintro e w' ⟨rfl, hw⟩; have hw2 := hw.symm; clear hw; subst hw2)
      | (go_at_call 12; refine R1.out.mono ?_; rintro e w' ⟨rfl, hw⟩; have hw2 := hw.symm; clear hw; subst hw2)
      | (go_at_call 15; refine (P1.out _).mono ?_; rintro e w' ⟨rfl, hw⟩; have hw2 := hw.symm; clear hw; subst hw2)
      | (go_at_call 16; refine (P2.out _).mono ?_; rintro e w' ⟨rfl, hw⟩; have hw2 := hw.symm; clear hw; subst hw2)
      | (go_at_call 17; refine (P3.out _).mono ?_; rintro e w' ⟨rfl, hw⟩; have hw2 := hw.symm; clear hw; subst hw2)
      | (go_at_call 14; refine (P4.out _).mono ?_; rintro e w' ⟨rfl, hw⟩; have hw2 := hw.symm; clear hw; subst hw2)
      | (go_at_call 18; have tt := TK1; clear TK1 tt; go_must (refine (P5.out _).mono ?_); rintro e w' ⟨rfl, hw⟩; have hw2 := hw.symm; clear hw; subst hw2)
      | (go_at_call 18; go_must (refine (P6.out _).mono ?_); rintro e w' ⟨rfl, hw⟩; have hw2 := hw.symm; clear hw; subst hw2))
    all_goals (go_ret; exact ⟨ret_bool (by simp), hb⟩)
  · have hx2 : (x == 0) = false := by simpa using hx0
    have hq0 := hz hx0
    subst hq0
    have P4 := Lib.hid (fun w => nil_any 0 w)
    clear hp hs hz
    go_enter Tryd.func3, Tryd.ntmps3
    go_wp2_with (first
      | (go_at_call 13; refine HA.out.mono ?_; rintro e w' ⟨rfl, hb⟩)
      | (go_at_call 11; refine H1.out.mono ?_; rintro e w' ⟨rfl, hw⟩; have hw2 := hw.symm; clear hw; subst hw2)
      | (go_at_call 12; refine R1.out.mono ?_; rintro e w' ⟨rfl, hw⟩; have hw2 := hw.symm; clear hw; subst hw2)
      | (go_at_call 14; refine (P4.out _).mono ?_; rintro e w' ⟨rfl, hw⟩; have hw2 := hw.symm; clear hw; subst hw2))
    all_goals (go_ret; exact ⟨ret_bool (by simp), hb⟩)

/-! ### the frame -/
theorem own : ownKnob Tryd.prog.godebug = none := by kernel_rfl
set_option maxRecDepth 100000 in
theorem calls {H : Type} {enc : TypeId × Value → H} (W : World) (base : Nat) (args : Array Value) (ds : List (DataW H)) (p : List MemPlace)
    (hval0 : ∀ (j : Nat) t v, Tryd.f3.params[j]? = some t → args[j]? = some v → Value.okWide Tryd.prog W .any base t v)
    (hA : DataW.TrodAll enc Tryd.prog W 0 (fun _ => true) true Tryd.f3.params.toList args.toList ds p) (_ : W.noneFrozen p)
    (hsz : (DataW.weightsEach Tryd.prog Tryd.f3.params.toList ds).all (· ≤ reachBytes) = true) (hL : laidMetH Tryd.prog Rows.pptrMakesRow.laid W) :
    Calls Tryd.prog 3 args W fun e W' => e = .returned (.bool true) ∧ Below W.heap.size W W' := by
  have hval : ∀ (j : Nat) t v, Tryd.f3.params[j]? = some t → args[j]? = some v → Value.okWide Tryd.prog W .any base t v := hval0
  clear hval0
  rw [Tryd.params3] at hA hval hsz
  obtain ⟨v0, vs0, d0, ds0, p0, q0, hargs, rfl, rfl, h0, r'0⟩ := trodAll_cons hA
  obtain ⟨v1, vs1, d1, ds1, p1, q1, rfl, rfl, rfl, h1, r'1⟩ := trodAll_cons r'0
  obtain ⟨v2, vs2, d2, ds2, p2, q2, rfl, rfl, rfl, h2, r'2⟩ := trodAll_cons r'1
  obtain ⟨rfl, rfl, rfl⟩ := trodAll_nil r'2
  obtain rfl : args = #[v0, v1, v2] := by cases args; simp_all
  obtain ⟨a0, rfl, rfl, rfl, w0⟩ := open_int Tryd.underlying22 (hval 0 22 v0 rfl rfl) h0
  obtain ⟨a1, rfl, rfl, rfl, w1⟩ := open_int Tryd.underlying23 (hval 1 23 v1 rfl rfl) h1
  obtain ⟨a2, rfl, rfl, rfl, w2⟩ := open_int Tryd.underlying5 (hval 2 5 v2 rfl rfl) h2
  exact walk (W := W) (Base.tabs hL) a0 w0 a1 w1 a2 w2
theorem laid_met (os : Os) : laidMet Tryd.prog Rows.pptrMakesRow.laid ((Base.laidWorld os).forCall (fun _ _ => 0) ⟨#[], #[.int .u64 0, .int .u16 0, .int .u8 0], []⟩).memory := laidMet_of_run' 8 (by kernel_rfl) (by kernel_rfl)
theorem reads (os : Os) {H : Type} (enc : TypeId × Value → H) : ∃ places, DataW.whole enc Tryd.prog ((Base.laidWorld os).forCall (fun _ _ => 0) ⟨#[], #[.int .u64 0, .int .u16 0, .int .u8 0], []⟩).memory Tryd.f3.params.toList Rows.pptrMakesSpec.vars false #[(Value.int .u64 0), (Value.int .u16 0), (Value.int .u8 0)].toList 8 = some ([.lit (.int .u64 0), .lit (.int .u16 0), .lit (.int .u8 0)], [], places) := ⟨[], by kernel_rfl⟩
set_option maxRecDepth 100000 in
theorem lifted (os : Os) (started : os.Started) (H : Type) (enc : TypeId × Value → H) (F : Stop.Interp) :
    ReturnsInHanded {} Tryd.checked os 3 .any ((OpenSpec.ofChange Rows.pptrMakesSpec).preRow enc Tryd.prog Tryd.f3 Rows.pptrMakesRow.domain false Rows.pptrMakesRow.laid) (((OpenSpec.ofChange Rows.pptrMakesSpec).at F).post enc Tryd.prog Tryd.f3 false true false false) := by
  obtain ⟨places, hx⟩ := reads os enc
  exact laid_lifted (C := Tryd.checked) (s := Rows.pptrMakesSpec) (b := 4) own (by kernel_rfl) Tryd.func3 (by kernel_rfl) (by kernel_rfl) rfl Tryd.underlying4 rfl
    (fun ds h => by match ds, h with | [_, _, _], _ => rfl) calls os started F
    (witness_row_at (enc := enc) (C := Tryd.checked) false (Base.laidWorld os) #[.int .u64 0, .int .u16 0, .int .u8 0] rfl (by kernel_rfl) (by kernel_rfl) (by kernel_rfl)
      (OpenSpec.preRow_of_cond 8 hx (by kernel_rfl) (fun k hk => by cases hk) (by kernel_rfl) (laid_met os)))
theorem said : Rows.PptrMakesSaid :=
  OpenClaim.holds_of_cond 3 Tryd.f3 rfl rfl rfl rfl rfl rfl rfl ⟨rfl, rfl, rfl, rfl, rfl⟩ rfl rfl rfl rfl rfl (by kernel_rfl) Tryd.func3 (by kernel_rfl)
    (of_decide_eq_true (by kernel_rfl)) (by unfold Func.isWrapper; first | (rw [if_pos (by decide +kernel)]; kernel_rfl) | (rw [if_neg (by decide +kernel)]; exact ⟨rfl, rfl⟩))
    (fun os started H enc _ F => by rw [OpenClaim.pre_eq_preRow]; exact lifted os started H enc F)
theorem plain (f : FuncId) (fn : Func) (hf : Tryd.pinned.checked.prog.funcNamed "bedrock/bedrocklaw09.PptrMakes" = some f) (hfn : Tryd.pinned.checked.prog.funcs[f]? = some fn) :
    true = Tryd.pinned.checked.prog.looks [] ∧ ∀ (j : Nat) t, fn.params[j]? = some t → Tryd.pinned.checked.prog.wantsStandIn t = false := by
  obtain rfl : f = 3 := Option.some.inj ((show Tryd.prog.funcNamed "bedrock/bedrocklaw09.PptrMakes" = some 3 by kernel_rfl).symm.trans hf) |>.symm
  obtain rfl : fn = Tryd.f3 := (Option.some.inj (Tryd.func3.symm.trans hfn)).symm
  have hall : Tryd.f3.params.toList.all (fun t => !Tryd.prog.wantsStandIn t) = true := by kernel_rfl
  refine ⟨by kernel_rfl, fun j t ht => ?_⟩
  have := List.all_eq_true.1 hall t (by simpa using Array.mem_of_getElem? ht)
  exact (show Tryd.prog.wantsStandIn t = false by simpa using this)
/-- ████ THE STATEMENT: THE CARD ████ -/
theorem proved : Rows.PptrMakesCardSaid :=
  Claim7.holds_tied_plain_at .later [] _ _ _ _ said (fun _ h => by cases h) (by kernel_rfl) (fun _ h => by cases h) pptrMakes_row_tie rfl ⟨rfl, rfl⟩ (by kernel_rfl) rfl plain (by kernel_rfl)
#print axioms proved
end Go.Proofs.YtkngmanfekcjmaaDoor.pptrMakes
