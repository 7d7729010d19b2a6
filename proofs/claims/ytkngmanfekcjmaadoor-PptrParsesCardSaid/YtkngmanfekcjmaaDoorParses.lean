/-
  PROVED: the law PptrParses answers true for every input, and each argument reads behind the call as before (Rows.PptrParsesCardSaid). No condition.
-/
import Derived.Test.YtkngmanfekcjmaaDoorCards
import Derived.Test.YtkngmanfekcjmaaDoorTie
import Derived.Test.YtkngmanfekcjmaaDoorLaid
import Derived.Test.YtkngmanfekcjmaaDoorLaw
import Derived.Test.YtkngmanfekcjmaaDoorArgs
import Derived.Test.YtkngmanfekcjmaaDoorPEnv
namespace Go.Proofs.YtkngmanfekcjmaaDoor.pptrParses
open Go.ChangeShapes Go.WideShapes Go.ChangeAt Go.RowKit Go.Proofs.YtkngmanfekcjmaaDoor.Law Go.Proofs.YtkngmanfekcjmaaDoor.Args Go.Proofs.YtkngmanfekcjmaaDoor.Base
set_option linter.unusedVariables false
set_option linter.unusedSimpArgs false
open Go.Proofs.YtkngmanfekcjmaaDoor.PM
set_option maxRecDepth 100000 in
theorem walk {W : World} (HE : Env W.heap.size W) (s : ByteArray) (ws : s.size ≤ maxLen) : Calls Tryd.prog 10 #[.string s] W fun e W' => e = .returned (.bool true) ∧ Below W.heap.size W W' := by
  obtain ⟨l, rfl⟩ : ∃ l : List UInt8, s = ⟨l.toArray⟩ := ⟨s.data.toList, ba_of s _ rfl⟩
  have hs := str_size l
  rw [hs] at ws
  have HEV := Lib.hid HE
  have HA := Lib.hid (fun w (hb : Below W.heap.size W w) => awake_any W.heap.size w hb.size (HEV.out.on hb).pow)
  have hb0 : Below W.heap.size W W := Below.refl _ _
  have hml : maxLen = 140737488355327 ∨ True := .inr trivial
  clear HE hml
  by_cases h200 : l.length ≤ 200
  · by_cases hy : l = [45]
    · subst hy
      have H1 := Lib.hid (parse_hyphen W)
      have H2 := Lib.hid (rparse_hyphen W)
      have H3 := Lib.hid text_nil
      clear hs ws
      go_enter Tryd.func10, Tryd.ntmps10
      go_wp2_with (first
        | (go_at_call 28; refine H1.out.mono ?_; rintro e w' ⟨rfl, hw⟩; have hw2 := hw.symm; clear hw; subst hw2)
        | (go_at_call 30; refine H2.out.mono ?_; rintro e w' ⟨rfl, hw⟩; have hw2 := hw.symm; clear hw; subst hw2)
        | (go_at_call 13; refine (HA.out _ (by assumption)).mono ?_; rintro e w' ⟨rfl, hb⟩)
        | (go_at_call 27; refine (H3.out _).mono ?_; rintro e w' ⟨rfl, hw⟩; have hw2 := hw.symm; clear hw; subst hw2))
      go_ret
      exact ⟨ret_bool rfl, hb⟩
    · have H1 := Lib.hid (parse_any W.heap.size l W (by omega) HEV.out (Nat.le_refl _) hy)
      have H2 := Lib.hid (fun w => rparse_any l w (by omega) hy)
      have HT := Lib.hid (fun q w (hb : Below W.heap.size W w) (hsp : Spells l q) => text_formed W.heap.size q w hsp.1 hsp.2.1 hsp.2.2.1 hb.size (HEV.out.on hb).pow)
      clear hy ws
      go_enter Tryd.func10, Tryd.ntmps10
      go_wp2_with (first
        | (go_at_call 28; refine H1.out.mono ?_; rintro e w1 ⟨q, x, rfl, hb1, hP⟩; have HP := Lib.hid hP; clear hP)
        | (go_at_call 30; refine (H2.out _).mono ?_; rintro e w2 ⟨q2, x2, rfl, hb2, hP2⟩; have HP2 := hP2; clear hP2; refine Hid.out ?_))
      obtain ⟨rfl, rfl⟩ := HP.out.uniq HP2.out
      have hbb := hb1.trans (hb2.mono hb1.size)
      rcases HP.out with ⟨rfl, hsp⟩ | ⟨rfl, rfl, hno⟩
      · have HSP := Lib.hid hsp
        have HT2 := Lib.hid (fun w hb => HT.out q w hb hsp)
        rw [hsp.2.2.2] at HT2
        clear hsp hb0 hb1 hb2 HP HP2
        refine Lib.hid ?_
        go_wp2_with (first
          | (go_at_call 13; refine (HA.out _ hbb).mono ?_; rintro e w3 ⟨rfl, hb3⟩; have hb4 := hbb.trans (hb3.mono hbb.size))
          | (go_at_call 27; refine (HT2.out _ hb4).mono ?_; rintro e w5 ⟨rfl, hb5⟩))
        go_ret
        exact ⟨ret_bool (by simp), hb4.trans (hb5.mono hb4.size)⟩
      · clear hno hb0 hb1 hb2 HP HP2
        refine Lib.hid ?_
        go_wp2_with (go_at_call 13; refine (HA.out _ hbb).mono ?_; rintro e w3 ⟨rfl, hb3⟩)
        go_ret
        exact ⟨ret_bool rfl, hbb.trans (hb3.mono hbb.size)⟩
  · clear ws
    go_enter Tryd.func10, Tryd.ntmps10
    go_wp2_with (go_at_call 13; refine (HA.out _ (by assumption)).mono ?_; rintro e w' ⟨rfl, hb⟩)
    go_ret
    exact ⟨rfl, hb⟩

/-! ### the frame -/
theorem own : ownKnob Tryd.prog.godebug = none := by kernel_rfl
set_option maxRecDepth 100000 in
theorem calls {H : Type} {enc : TypeId × Value → H} (W : World) (base : Nat) (args : Array Value) (ds : List (DataW H)) (p : List MemPlace)
    (hval0 : ∀ (j : Nat) t v, Tryd.f10.params[j]? = some t → args[j]? = some v → Value.okWide Tryd.prog W .any base t v)
    (hA : DataW.TrodAll enc Tryd.prog W 0 (fun _ => true) true Tryd.f10.params.toList args.toList ds p) (_ : W.noneFrozen p)
    (hsz : (DataW.weightsEach Tryd.prog Tryd.f10.params.toList ds).all (· ≤ reachBytes) = true) (hL : laidMetH Tryd.prog Rows.pptrParsesRow.laid W) (hS : W.ShapedOpen Tryd.prog) :
    Calls Tryd.prog 10 args W fun e W' => e = .returned (.bool true) ∧ Below W.heap.size W W' := by
  have hval : ∀ (j : Nat) t v, Tryd.f10.params[j]? = some t → args[j]? = some v → Value.okWide Tryd.prog W .any base t v := hval0
  clear hval0
  rw [Tryd.params10] at hA hval hsz
  obtain ⟨v0, vs0, d0, ds0, p0, q0, hargs, rfl, rfl, h0, r'0⟩ := trodAll_cons hA
  obtain ⟨rfl, rfl, rfl⟩ := trodAll_nil r'0
  obtain rfl : args = #[v0] := by cases args; simp_all
  obtain ⟨s0, rfl, rfl, rfl, ws0⟩ := Go.ChangeMaps.open_string Tryd.underlying9 (hval 0 9 v0 rfl rfl) h0
  exact walk (W := W) (Base.envs hL hS) s0 ws0
theorem laid_met (os : Os) : laidMet Tryd.prog Rows.pptrParsesRow.laid ((Base.laidWorldE os).forCall (fun _ _ => 0) ⟨#[], #[.string ⟨#[]⟩], []⟩).memory := laidMet_laidAll _ (by kernel_rfl) (by kernel_rfl)
theorem reads (os : Os) {H : Type} (enc : TypeId × Value → H) : ∃ places, DataW.whole enc Tryd.prog ((Base.laidWorldE os).forCall (fun _ _ => 0) ⟨#[], #[.string ⟨#[]⟩], []⟩).memory Tryd.f10.params.toList Rows.pptrParsesSpec.vars false #[(Value.string ⟨#[]⟩)].toList 8 = some ([.lit (.string [])], [], places) := ⟨[], by kernel_rfl⟩
set_option maxRecDepth 100000 in
theorem lifted (os : Os) (started : os.Started) (H : Type) (enc : TypeId × Value → H) (F : Stop.Interp) :
    ReturnsInHanded {} Tryd.checked os 10 .any ((OpenSpec.ofChange Rows.pptrParsesSpec).preRow enc Tryd.prog Tryd.f10 Rows.pptrParsesRow.domain false Rows.pptrParsesRow.laid) (((OpenSpec.ofChange Rows.pptrParsesSpec).at F).post enc Tryd.prog Tryd.f10 false true false false) := by
  obtain ⟨places, hx⟩ := reads os enc
  exact laid_lifted_s (C := Tryd.checked) (s := Rows.pptrParsesSpec) (b := 4) own (by kernel_rfl) Tryd.func10 (by kernel_rfl) (by kernel_rfl) rfl Tryd.underlying4 rfl
    (fun ds h => by match ds, h with | [_], _ => rfl) calls os started F
    (witness_row_at (enc := enc) (C := Tryd.checked) false (Base.laidWorldE os) #[.string ⟨#[]⟩] rfl (by kernel_rfl) (by kernel_rfl) (by kernel_rfl)
      (OpenSpec.preRow_of_cond 8 hx (by kernel_rfl) (fun k hk => by cases hk) (by kernel_rfl) (laid_met os)))
theorem said : Rows.PptrParsesSaid :=
  OpenClaim.holds_of_cond 10 Tryd.f10 rfl rfl rfl rfl rfl rfl rfl ⟨rfl, rfl, rfl, rfl, rfl⟩ rfl rfl rfl rfl rfl (by kernel_rfl) Tryd.func10 (by kernel_rfl)
    (of_decide_eq_true (by kernel_rfl)) (by unfold Func.isWrapper; first | (rw [if_pos (by decide +kernel)]; kernel_rfl) | (rw [if_neg (by decide +kernel)]; exact ⟨rfl, rfl⟩))
    (fun os started H enc _ F => by rw [OpenClaim.pre_eq_preRow]; exact lifted os started H enc F)
theorem plain (f : FuncId) (fn : Func) (hf : Tryd.pinned.checked.prog.funcNamed "bedrock/bedrocklaw09.PptrParses" = some f) (hfn : Tryd.pinned.checked.prog.funcs[f]? = some fn) :
    true = Tryd.pinned.checked.prog.looks [] ∧ ∀ (j : Nat) t, fn.params[j]? = some t → Tryd.pinned.checked.prog.wantsStandIn t = false := by
  obtain rfl : f = 10 := Option.some.inj ((show Tryd.prog.funcNamed "bedrock/bedrocklaw09.PptrParses" = some 10 by kernel_rfl).symm.trans hf) |>.symm
  obtain rfl : fn = Tryd.f10 := (Option.some.inj (Tryd.func10.symm.trans hfn)).symm
  have hall : Tryd.f10.params.toList.all (fun t => !Tryd.prog.wantsStandIn t) = true := by kernel_rfl
  refine ⟨by kernel_rfl, fun j t ht => ?_⟩
  have := List.all_eq_true.1 hall t (by simpa using Array.mem_of_getElem? ht)
  exact (show Tryd.prog.wantsStandIn t = false by simpa using this)
/-- ████ THE STATEMENT: THE CARD ████ -/
theorem proved : Rows.PptrParsesCardSaid :=
  Claim7.holds_tied_plain_at .later [] _ _ _ _ said (fun _ h => by cases h) (by kernel_rfl) (fun _ h => by cases h) pptrParses_row_tie rfl ⟨rfl, rfl⟩ (by kernel_rfl) rfl plain (by kernel_rfl)
#print axioms proved
end Go.Proofs.YtkngmanfekcjmaaDoor.pptrParses
