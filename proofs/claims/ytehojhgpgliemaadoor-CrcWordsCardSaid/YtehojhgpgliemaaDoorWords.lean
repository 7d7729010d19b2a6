/-
  PROVED: the law CrcWords answers true for every input, and each argument reads behind the call as before (Rows.CrcWordsCardSaid). No condition.
-/
import Derived.Test.YtehojhgpgliemaaDoorCards
import Derived.Test.YtehojhgpgliemaaDoorTie
import Derived.Test.YtehojhgpgliemaaDoorLaid
import Derived.Test.YtehojhgpgliemaaDoorLaw
import Derived.Test.YtehojhgpgliemaaDoorArgs
import Derived.Test.YtehojhgpgliemaaDoorCrcBase
import Derived.Test.YtehojhgpgliemaaDoorCrcLaid
import Derived.Test.YtehojhgpgliemaaDoorCrcOwn
import Derived.Test.YtehojhgpgliemaaDoorOwn
import Derived.Test.YtehojhgpgliemaaDoorCrcWords
namespace Go.Proofs.YtehojhgpgliemaaDoor.crcWords
open Go.ChangeShapes Go.WideShapes Go.ChangeAt Go.RowKit Go.Proofs.YtehojhgpgliemaaDoor.Law Go.Proofs.YtehojhgpgliemaaDoor.Args Go.Proofs.YtehojhgpgliemaaDoor.Base
set_option linter.unusedVariables false
set_option linter.unusedSimpArgs false
open Go.Proofs.YtehojhgpgliemaaDoor.CrcMath Go.Proofs.YtehojhgpgliemaaDoor.Own
/-! ### the walk -/
theorem walk (W : World) (tb : Tab W) (A0 : Option Addr) (n0 c0 : Nat) (z0 : List Int) (l0 : z0.length = n0) (b0 : n0 ≤ c0) (m0 : c0 ≤ maxLen) (s0 : c0 * 8 ≤ 140737488351232) (r0 : IntsAt .u64 W W.heap.size A0 z0) (w0 : ∀ z ∈ z0, (Lit.int .u64 z).wf = true) :
    Calls Tryd.prog 6 #[.slice A0 n0 c0] W fun e W' => e = .returned (.bool true) ∧ Below W.heap.size W W' := by
  have HT := Lib.hid tb
  by_cases h60 : 60 < n0
  · have hc60 : 60 ≤ c0 := by omega
    have HR := Lib.hid (r0.take 60)
    have HW : Hid (∀ z ∈ z0.take 60, (Lit.int .u64 z).wf = true) := Lib.hid (fun z hz => w0 z (List.mem_of_mem_take hz))
    have HL : Hid ((z0.take 60).length = 60) := Lib.hid (by rw [List.length_take, l0]; omega)
    obtain ⟨zs, hzs⟩ : ∃ zs, z0.take 60 = zs := ⟨_, rfl⟩
    rw [hzs] at HR HW HL
    have HWF : Hid (∀ z ∈ wbytes zs, (Lit.int .u8 z).wf = true) := Lib.hid (fun z hz => lit8 (wbytes_wf zs z hz))
    have HLn : Hid ((wbytes zs).length = 480) := Lib.hid (by rw [wbytes_len, HL.out])
    clear tb r0 w0 l0 hzs
    go_enter Tryd.func6, Tryd.ntmps6
    go_wp2_with (fail)
    go_at_call 14; refine (awake_any W HT).mono ?_; rintro e w1 ⟨rfl, hb⟩
    have HB := Lib.hid hb
    have HT1 := Lib.hid (HT.out.below hb)
    have HX := Lib.hid (HR.out.below hb)
    have HBs := hb.size
    clear hb
    go_wp2_with (first
      | (go_at_call 20; ((with_reducible refine (words_any A0 60 c0 _ zs w1 HL.out (by omega) HT1 HX HW).mono ?_); rintro e w' ⟨rfl, k1, rfl⟩))
      | (go_at_call 21; refine (rwords_any A0 60 c0 _ zs _ HL.out (by omega) (Lib.hid (HX.out.drewN k1)) HBs HW).mono ?_; rintro e w2 ⟨rfl, HB2⟩))
    have HB12 := Lib.hid (HB.out.trans ((below_draws (Below.refl W.heap.size w1) k1).trans (HB2.out.mono HB.out.size)))
    have U2 := Lib.hid (words_any A0 60 c0 _ zs w2 HL.out (by omega) (Lib.hid (HT.out.below HB12.out)) (Lib.hid (HR.out.below HB12.out)) HW)
    refine (U2.out).mono ?_; rintro e w' ⟨rfl, k2, rfl⟩
    go_wp2_with (go_at_call 22; refine (bytes_any A0 60 c0 W.heap.size zs _ HL.out (by omega) (Lib.hid ((HR.out.below HB12.out).drewN k2)) HB12.out.size HW).mono ?_; rintro e w3 ⟨v, rfl, H3⟩)
    obtain ⟨A1, c1, rfl, hn1, hc1, _, hi1⟩ := H3.out.1.form
    have hb3 := HB12.out.trans ((below_draws (Below.refl W.heap.size w2) k2).trans (H3.out.2.mono HB12.out.size))
    have HS := Lib.hid (sum_any A1 480 c1 _ (wbytes zs) w3 HLn.out (by omega) (Lib.hid (HT.out.below hb3)) (Lib.hid hi1) HWF)
    have HB3 := Lib.hid hb3
    rw [HLn.out]
    clear hn1 hc1 hi1 hb3
    go_wp2_with (go_at_call 15; refine (HS.out).mono ?_; rintro e w' ⟨rfl, k3, rfl⟩)
    go_ret
    exact ⟨ret_bool (by simp), below_draws HB3.out _⟩
  · have hn60 : n0 ≤ 60 := by omega
    have HR := Lib.hid r0
    have HW := Lib.hid w0
    have HL := Lib.hid l0
    obtain ⟨zs, hzs⟩ : ∃ zs, z0 = zs := ⟨_, rfl⟩
    rw [hzs] at HR HW HL
    have HWF : Hid (∀ z ∈ wbytes zs, (Lit.int .u8 z).wf = true) := Lib.hid (fun z hz => lit8 (wbytes_wf zs z hz))
    have HLn : Hid ((wbytes zs).length = 8 * n0) := Lib.hid (by rw [wbytes_len, HL.out])
    clear tb r0 w0 l0 hzs h60
    go_enter Tryd.func6, Tryd.ntmps6
    go_wp2_with (fail)
    go_at_call 14; refine (awake_any W HT).mono ?_; rintro e w1 ⟨rfl, hb⟩
    have HB := Lib.hid hb
    have HT1 := Lib.hid (HT.out.below hb)
    have HX := Lib.hid (HR.out.below hb)
    have HBs := hb.size
    clear hb
    go_wp2_with (first
      | (go_at_call 20; ((with_reducible refine (words_any A0 n0 c0 _ zs w1 HL.out (by omega) HT1 HX HW).mono ?_); rintro e w' ⟨rfl, k1, rfl⟩))
      | (go_at_call 21; refine (rwords_any A0 n0 c0 _ zs _ HL.out (by omega) (Lib.hid (HX.out.drewN k1)) HBs HW).mono ?_; rintro e w2 ⟨rfl, HB2⟩))
    have HB12 := Lib.hid (HB.out.trans ((below_draws (Below.refl W.heap.size w1) k1).trans (HB2.out.mono HB.out.size)))
    have U2 := Lib.hid (words_any A0 n0 c0 _ zs w2 HL.out (by omega) (Lib.hid (HT.out.below HB12.out)) (Lib.hid (HR.out.below HB12.out)) HW)
    refine (U2.out).mono ?_; rintro e w' ⟨rfl, k2, rfl⟩
    go_wp2_with (go_at_call 22; refine (bytes_any A0 n0 c0 W.heap.size zs _ HL.out (by omega) (Lib.hid ((HR.out.below HB12.out).drewN k2)) HB12.out.size HW).mono ?_; rintro e w3 ⟨v, rfl, H3⟩)
    obtain ⟨A1, c1, rfl, hn1, hc1, _, hi1⟩ := H3.out.1.form
    have hb3 := HB12.out.trans ((below_draws (Below.refl W.heap.size w2) k2).trans (H3.out.2.mono HB12.out.size))
    have HS := Lib.hid (sum_any A1 (8 * n0) c1 _ (wbytes zs) w3 HLn.out (by omega) (Lib.hid (HT.out.below hb3)) (Lib.hid hi1) HWF)
    have HB3 := Lib.hid hb3
    rw [HLn.out]
    clear hn1 hc1 hi1 hb3
    go_wp2_with (go_at_call 15; refine (HS.out).mono ?_; rintro e w' ⟨rfl, k3, rfl⟩)
    go_ret
    exact ⟨ret_bool (by simp), below_draws HB3.out _⟩

/-! ### the frame -/
theorem cells42 : Tryd.prog.cellsOf 42 = 1 := by kernel_rfl
theorem own : ownKnob Tryd.prog.godebug = none := by kernel_rfl
set_option maxRecDepth 100000 in
theorem calls {H : Type} {enc : TypeId × Value → H} (W : World) (base : Nat) (args : Array Value) (ds : List (DataW H)) (p : List MemPlace)
    (hval0 : ∀ (j : Nat) t v, Tryd.f6.params[j]? = some t → args[j]? = some v → Value.okWide Tryd.prog W .any base t v)
    (hA : DataW.TrodAll enc Tryd.prog W 0 (fun _ => true) true Tryd.f6.params.toList args.toList ds p) (_ : W.noneFrozen p)
    (hsz : (DataW.weightsEach Tryd.prog Tryd.f6.params.toList ds).all (· ≤ reachBytes) = true) (hL : laidMetH Tryd.prog Rows.crcWordsRow.laid W) :
    Calls Tryd.prog 6 args W fun e W' => e = .returned (.bool true) ∧ Below W.heap.size W W' := by
  have hval : ∀ (j : Nat) t v, Tryd.f6.params[j]? = some t → args[j]? = some v → Value.okWide Tryd.prog W .any base t v := hval0
  clear hval0
  rw [Tryd.params6] at hA hval hsz
  obtain ⟨v0, vs0, d0, ds0, p0, q0, hargs, rfl, rfl, h0, r'0⟩ := trodAll_cons hA
  obtain ⟨rfl, rfl, rfl⟩ := trodAll_nil r'0
  obtain rfl : args = #[v0] := by cases args; simp_all
  obtain ⟨A0, n0, c0, z0, rfl, l0, b0, m0, s0, r0, w0⟩ := open_slice_ints (j := 0) (bytes := 8) Tryd.underlying31 Tryd.underlying42 cells42 (by kernel_rfl) (hval 0 31 v0 rfl rfl) h0 hsz rfl rfl
  exact walk (W := W) (Base.tabs hL) A0 n0 c0 z0 l0 b0 m0 s0 r0 w0
theorem laid_met (os : Os) : laidMet Tryd.prog Rows.crcWordsRow.laid ((Base.laidWorld os).forCall (fun _ _ => 0) ⟨#[], #[.slice none 0 0], []⟩).memory := laidMet_of_run' 8 (by kernel_rfl) (by kernel_rfl)
theorem reads (os : Os) {H : Type} (enc : TypeId × Value → H) : ∃ places, DataW.whole enc Tryd.prog ((Base.laidWorld os).forCall (fun _ _ => 0) ⟨#[], #[.slice none 0 0], []⟩).memory Tryd.f6.params.toList Rows.crcWordsSpec.vars false #[(Value.slice none 0 0)].toList 8 = some ([.nil], [], places) := ⟨[], by kernel_rfl⟩
set_option maxRecDepth 100000 in
theorem lifted (os : Os) (started : os.Started) (H : Type) (enc : TypeId × Value → H) (F : Stop.Interp) :
    ReturnsInHanded {} Tryd.checked os 6 .any ((OpenSpec.ofChange Rows.crcWordsSpec).preRow enc Tryd.prog Tryd.f6 Rows.crcWordsRow.domain false Rows.crcWordsRow.laid) (((OpenSpec.ofChange Rows.crcWordsSpec).at F).post enc Tryd.prog Tryd.f6 false true false false) := by
  obtain ⟨places, hx⟩ := reads os enc
  exact laid_lifted (C := Tryd.checked) (s := Rows.crcWordsSpec) (b := 4) own (by kernel_rfl) Tryd.func6 (by kernel_rfl) (by kernel_rfl) rfl Tryd.underlying4 rfl
    (fun ds h => by match ds, h with | [_], _ => rfl) calls os started F
    (witness_row_at (enc := enc) (C := Tryd.checked) false (Base.laidWorld os) #[.slice none 0 0] rfl (by kernel_rfl) (by kernel_rfl) (by kernel_rfl)
      (OpenSpec.preRow_of_cond 8 hx (by kernel_rfl) (fun k hk => by cases hk) (by kernel_rfl) (laid_met os)))
theorem said : Rows.CrcWordsSaid :=
  OpenClaim.holds_of_cond 6 Tryd.f6 rfl rfl rfl rfl rfl rfl rfl ⟨rfl, rfl, rfl, rfl, rfl⟩ rfl rfl rfl rfl rfl (by kernel_rfl) Tryd.func6 (by kernel_rfl)
    (of_decide_eq_true (by kernel_rfl)) (by unfold Func.isWrapper; first | (rw [if_pos (by decide +kernel)]; kernel_rfl) | (rw [if_neg (by decide +kernel)]; exact ⟨rfl, rfl⟩))
    (fun os started H enc _ F => by rw [OpenClaim.pre_eq_preRow]; exact lifted os started H enc F)
theorem plain (f : FuncId) (fn : Func) (hf : Tryd.pinned.checked.prog.funcNamed "bedrock/bedrocklaw02.CrcWords" = some f) (hfn : Tryd.pinned.checked.prog.funcs[f]? = some fn) :
    false = Tryd.pinned.checked.prog.looks [] ∧ ∀ (j : Nat) t, fn.params[j]? = some t → Tryd.pinned.checked.prog.wantsStandIn t = false := by
  obtain rfl : f = 6 := Option.some.inj ((show Tryd.prog.funcNamed "bedrock/bedrocklaw02.CrcWords" = some 6 by kernel_rfl).symm.trans hf) |>.symm
  obtain rfl : fn = Tryd.f6 := (Option.some.inj (Tryd.func6.symm.trans hfn)).symm
  have hall : Tryd.f6.params.toList.all (fun t => !Tryd.prog.wantsStandIn t) = true := by kernel_rfl
  refine ⟨by kernel_rfl, fun j t ht => ?_⟩
  have := List.all_eq_true.1 hall t (by simpa using Array.mem_of_getElem? ht)
  exact (show Tryd.prog.wantsStandIn t = false by simpa using this)
/-- ████ THE STATEMENT: THE CARD ████ -/
theorem proved : Rows.CrcWordsCardSaid :=
  Claim7.holds_tied_plain_at .later [] _ _ _ _ said (fun _ h => by cases h) (by kernel_rfl) (fun _ h => by cases h) crcWords_row_tie rfl ⟨rfl, rfl⟩ (by kernel_rfl) rfl plain (by kernel_rfl)
#print axioms proved
end Go.Proofs.YtehojhgpgliemaaDoor.crcWords
