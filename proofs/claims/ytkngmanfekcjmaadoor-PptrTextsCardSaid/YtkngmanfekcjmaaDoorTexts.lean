/-
  PROVED: the law PptrTexts answers true for every input, and each argument reads behind the call as before (Rows.PptrTextsCardSaid). No condition.
-/
import Derived.Test.YtkngmanfekcjmaaDoorCards
import Derived.Test.YtkngmanfekcjmaaDoorTie
import Derived.Test.YtkngmanfekcjmaaDoorLaid
import Derived.Test.YtkngmanfekcjmaaDoorLaw
import Derived.Test.YtkngmanfekcjmaaDoorArgs
import Derived.Test.YtkngmanfekcjmaaDoorPEnvT
namespace Go.Proofs.YtkngmanfekcjmaaDoor.pptrTexts
open Go.ChangeShapes Go.WideShapes Go.ChangeAt Go.RowKit Go.Proofs.YtkngmanfekcjmaaDoor.Law Go.Proofs.YtkngmanfekcjmaaDoor.Args Go.Proofs.YtkngmanfekcjmaaDoor.Base
set_option linter.unusedVariables false
set_option linter.unusedSimpArgs false
open Go.Proofs.YtkngmanfekcjmaaDoor.PM
set_option maxRecDepth 100000 in
theorem walk {W : World} (HE : Env W.heap.size W ∧ Tz W.heap.size W) (p : Int) (w0 : (Lit.int .u64 p).wf = true) : Calls Tryd.prog 9 #[.int .u64 p] W fun e W' => e = .returned (.bool true) ∧ Below W.heap.size W W' := by
  obtain ⟨h0, h1⟩ := wf_u64 w0
  clear w0
  obtain ⟨HE, HTZ⟩ := HE
  have HEV := Lib.hid HE
  have HA := Lib.hid (fun w (hb : Below W.heap.size W w) => awake_any W.heap.size w hb.size (HEV.out.on hb).pow)
  have HF := Lib.hid (fun w => formed_any p w h0 h1)
  by_cases hp : p = 0
  · subst hp
    have H1 := Lib.hid (text_nil W)
    have H2 := Lib.hid (parse_hyphen W)
    have H3 := Lib.hid rtext_nil
    clear HE HTZ HF
    go_enter Tryd.func9, Tryd.ntmps9
    go_wp2_with (first
      | (go_at_call 27; refine H1.out.mono ?_; rintro e w' ⟨rfl, hw⟩; have hw2 := hw.symm; clear hw; subst hw2)
      | (go_at_call 28; refine H2.out.mono ?_; rintro e w' ⟨rfl, hw⟩; have hw2 := hw.symm; clear hw; subst hw2)
      | (go_at_call 29; refine (H3.out _).mono ?_; rintro e w' ⟨rfl, hw⟩; have hw2 := hw.symm; clear hw; subst hw2)
      | (go_at_call 13; refine (HA.out _ (Below.refl _ _)).mono ?_; rintro e w' ⟨rfl, hb⟩))
    go_ret
    exact ⟨rfl, hb⟩
  · have hpz : (p == 0) = false := by rw [beq_eq_false_iff_ne]; exact hp
    by_cases hf : Formed p
    · rw [show decide (Formed p) = true by simpa using hf] at HF
      have H1 := Lib.hid (text_formed W.heap.size p W h0 h1 hf (Nat.le_refl _) HE.pow)
      have hl : (textL p).length ≤ 100 := by
        have ho := pOff_range p
        have hg := pGen_range p
        have hk := pKnd_range p
        have lk := dec_len (pKnd p).toNat (by omega)
        have lo := dec_len (pOff p).toNat (by omega)
        have lg := dec_len (pGen p).toNat (by omega)
        unfold textL; simp; omega
      have hne : textL p ≠ [45] := by
        intro h
        have := congrArg List.length h
        have a1 := List.length_pos_iff.2 (dec_facts (pKnd p).toNat).2.2
        unfold textL at this; simp at this; omega
      have H2 := Lib.hid (fun w (hb : Below W.heap.size W w) => parse_any W.heap.size (textL p) w (by omega) (HEV.out.on hb) hb.size hne)
      have H3 := Lib.hid (fun w => rtext_formed p w h0 h1 hf)
      have HS : Hid (∀ q x, PSpec (textL p) q x → q = p ∧ x = 0) := Lib.hid (fun q x h => h.uniq (.inl ⟨rfl, h0, h1, hf, rfl⟩))
      generalize textL p = l at *
      clear HE HTZ hf hp hne
      go_enter Tryd.func9, Tryd.ntmps9
      go_wp2_with (first
        | (go_at_call 27; refine H1.out.mono ?_; rintro e w1 ⟨rfl, hb1⟩)
        | (go_at_call 28; refine (H2.out _ hb1).mono ?_; rintro e w2 ⟨q, x, rfl, hb2, hP⟩; obtain ⟨eq, ex⟩ := HS.out q x hP; subst eq; subst ex; clear hP; have hb3 := hb1.trans (hb2.mono hb1.size))
        | (go_at_call 13; refine (HA.out _ hb3).mono ?_; rintro e w4 ⟨rfl, hb4⟩; have hb5 := hb3.trans (hb4.mono hb3.size))
        | (go_at_call 29; refine (H3.out _).mono ?_; rintro e w6 ⟨rfl, hb6⟩; have hb7 := hb5.trans (hb6.mono hb5.size))
        | (go_at_call 22; refine (HF.out _).mono ?_; rintro e w' ⟨rfl, hw⟩; have hw2 := hw.symm; clear hw; subst hw2))
      go_ret
      exact ⟨ret_bool (by simp), hb7⟩
    · rw [show decide (Formed p) = false by simpa using hf] at HF
      have H1 := Lib.hid (text_hex W.heap.size p W h0 h1 hp hf HTZ (Nat.le_refl _))
      have hl := hexL_length p
      have hne : hexL p ≠ [45] := by
        intro h
        rw [h] at hl; simp at hl
      have H2 := Lib.hid (fun w (hb : Below W.heap.size W w) => parse_any W.heap.size (hexL p) w (by omega) (HEV.out.on hb) hb.size hne)
      have H3 := Lib.hid (fun w => rtext_hex p w h0 h1 hp hf)
      have HS : Hid (∀ q x, PSpec (hexL p) q x → q = 0 ∧ x = 11) := Lib.hid (fun q x h => h.uniq (.inr ⟨rfl, rfl, hexL_spells p⟩))
      generalize hexL p = l at *
      clear HE HTZ hf hp hne
      go_enter Tryd.func9, Tryd.ntmps9
      go_wp2_with (first
        | (go_at_call 27; refine H1.out.mono ?_; rintro e w1 ⟨rfl, hb1⟩)
        | (go_at_call 28; refine (H2.out _ hb1).mono ?_; rintro e w2 ⟨q, x, rfl, hb2, hP⟩; obtain ⟨eq, ex⟩ := HS.out q x hP; subst eq; subst ex; clear hP; have hb3 := hb1.trans (hb2.mono hb1.size))
        | (go_at_call 13; refine (HA.out _ hb3).mono ?_; rintro e w4 ⟨rfl, hb4⟩; have hb5 := hb3.trans (hb4.mono hb3.size))
        | (go_at_call 29; refine (H3.out _).mono ?_; rintro e w6 ⟨rfl, hb6⟩; have hb7 := hb5.trans (hb6.mono hb5.size))
        | (go_at_call 22; refine (HF.out _).mono ?_; rintro e w' ⟨rfl, hw⟩; have hw2 := hw.symm; clear hw; subst hw2))
      go_ret
      exact ⟨ret_bool rfl, hb7⟩

/-! ### the frame -/
theorem own : ownKnob Tryd.prog.godebug = none := by kernel_rfl
set_option maxRecDepth 100000 in
theorem calls {H : Type} {enc : TypeId × Value → H} (W : World) (base : Nat) (args : Array Value) (ds : List (DataW H)) (p : List MemPlace)
    (hval0 : ∀ (j : Nat) t v, Tryd.f9.params[j]? = some t → args[j]? = some v → Value.okWide Tryd.prog W .any base t v)
    (hA : DataW.TrodAll enc Tryd.prog W 0 (fun _ => true) true Tryd.f9.params.toList args.toList ds p) (_ : W.noneFrozen p)
    (hsz : (DataW.weightsEach Tryd.prog Tryd.f9.params.toList ds).all (· ≤ reachBytes) = true) (hL : laidMetH Tryd.prog Rows.pptrTextsRow.laid W) (hS : W.ShapedOpen Tryd.prog) :
    Calls Tryd.prog 9 args W fun e W' => e = .returned (.bool true) ∧ Below W.heap.size W W' := by
  have hval : ∀ (j : Nat) t v, Tryd.f9.params[j]? = some t → args[j]? = some v → Value.okWide Tryd.prog W .any base t v := hval0
  clear hval0
  rw [Tryd.params9] at hA hval hsz
  obtain ⟨v0, vs0, d0, ds0, p0, q0, hargs, rfl, rfl, h0, r'0⟩ := trodAll_cons hA
  obtain ⟨rfl, rfl, rfl⟩ := trodAll_nil r'0
  obtain rfl : args = #[v0] := by cases args; simp_all
  obtain ⟨a0, rfl, rfl, rfl, w0⟩ := open_int Tryd.underlying22 (hval 0 22 v0 rfl rfl) h0
  exact walk (W := W) (Base.envsT hL hS) a0 w0
theorem laid_met (os : Os) : laidMet Tryd.prog Rows.pptrTextsRow.laid ((Base.laidWorldE os).forCall (fun _ _ => 0) ⟨#[], #[.int .u64 0], []⟩).memory := laidMet_laidAll _ (by kernel_rfl) (by kernel_rfl)
theorem reads (os : Os) {H : Type} (enc : TypeId × Value → H) : ∃ places, DataW.whole enc Tryd.prog ((Base.laidWorldE os).forCall (fun _ _ => 0) ⟨#[], #[.int .u64 0], []⟩).memory Tryd.f9.params.toList Rows.pptrTextsSpec.vars false #[(Value.int .u64 0)].toList 8 = some ([.lit (.int .u64 0)], [], places) := ⟨[], by kernel_rfl⟩
set_option maxRecDepth 100000 in
theorem lifted (os : Os) (started : os.Started) (H : Type) (enc : TypeId × Value → H) (F : Stop.Interp) :
    ReturnsInHanded {} Tryd.checked os 9 .any ((OpenSpec.ofChange Rows.pptrTextsSpec).preRow enc Tryd.prog Tryd.f9 Rows.pptrTextsRow.domain false Rows.pptrTextsRow.laid) (((OpenSpec.ofChange Rows.pptrTextsSpec).at F).post enc Tryd.prog Tryd.f9 false true false false) := by
  obtain ⟨places, hx⟩ := reads os enc
  exact laid_lifted_s (C := Tryd.checked) (s := Rows.pptrTextsSpec) (b := 4) own (by kernel_rfl) Tryd.func9 (by kernel_rfl) (by kernel_rfl) rfl Tryd.underlying4 rfl
    (fun ds h => by match ds, h with | [_], _ => rfl) calls os started F
    (witness_row_at (enc := enc) (C := Tryd.checked) false (Base.laidWorldE os) #[.int .u64 0] rfl (by kernel_rfl) (by kernel_rfl) (by kernel_rfl)
      (OpenSpec.preRow_of_cond 8 hx (by kernel_rfl) (fun k hk => by cases hk) (by kernel_rfl) (laid_met os)))
theorem said : Rows.PptrTextsSaid :=
  OpenClaim.holds_of_cond 9 Tryd.f9 rfl rfl rfl rfl rfl rfl rfl ⟨rfl, rfl, rfl, rfl, rfl⟩ rfl rfl rfl rfl rfl (by kernel_rfl) Tryd.func9 (by kernel_rfl)
    (of_decide_eq_true (by kernel_rfl)) (by unfold Func.isWrapper; first | (rw [if_pos (by decide +kernel)]; kernel_rfl) | (rw [if_neg (by decide +kernel)]; exact ⟨rfl, rfl⟩))
    (fun os started H enc _ F => by rw [OpenClaim.pre_eq_preRow]; exact lifted os started H enc F)
theorem plain (f : FuncId) (fn : Func) (hf : Tryd.pinned.checked.prog.funcNamed "bedrock/bedrocklaw09.PptrTexts" = some f) (hfn : Tryd.pinned.checked.prog.funcs[f]? = some fn) :
    true = Tryd.pinned.checked.prog.looks [] ∧ ∀ (j : Nat) t, fn.params[j]? = some t → Tryd.pinned.checked.prog.wantsStandIn t = false := by
  obtain rfl : f = 9 := Option.some.inj ((show Tryd.prog.funcNamed "bedrock/bedrocklaw09.PptrTexts" = some 9 by kernel_rfl).symm.trans hf) |>.symm
  obtain rfl : fn = Tryd.f9 := (Option.some.inj (Tryd.func9.symm.trans hfn)).symm
  have hall : Tryd.f9.params.toList.all (fun t => !Tryd.prog.wantsStandIn t) = true := by kernel_rfl
  refine ⟨by kernel_rfl, fun j t ht => ?_⟩
  have := List.all_eq_true.1 hall t (by simpa using Array.mem_of_getElem? ht)
  exact (show Tryd.prog.wantsStandIn t = false by simpa using this)
/-- ████ THE STATEMENT: THE CARD ████ -/
theorem proved : Rows.PptrTextsCardSaid :=
  Claim7.holds_tied_plain_at .later [] _ _ _ _ said (fun _ h => by cases h) (by kernel_rfl) (fun _ h => by cases h) pptrTexts_row_tie rfl ⟨rfl, rfl⟩ (by kernel_rfl) rfl plain (by kernel_rfl)
#print axioms proved
end Go.Proofs.YtkngmanfekcjmaaDoor.pptrTexts
