/-
  PROVED: the law CrcSums answers true for every input, and each argument reads behind the call as before (Rows.CrcSumsCardSaid). No condition.
-/
import Derived.Test.YtehojhgpgliemaaDoorCards
import Derived.Test.YtehojhgpgliemaaDoorTie
import Derived.Test.YtehojhgpgliemaaDoorLaid
import Derived.Test.YtehojhgpgliemaaDoorLaw
import Derived.Test.YtehojhgpgliemaaDoorArgs
import Derived.Test.YtehojhgpgliemaaDoorCrcBase
import Derived.Test.YtehojhgpgliemaaDoorCrcLaid
import Derived.Test.YtehojhgpgliemaaDoorCrcOwn
import Derived.Test.YtehojhgpgliemaaDoorOwn
namespace Go.Proofs.YtehojhgpgliemaaDoor.crcSums
open Go.ChangeShapes Go.WideShapes Go.ChangeAt Go.RowKit Go.Proofs.YtehojhgpgliemaaDoor.Law Go.Proofs.YtehojhgpgliemaaDoor.Args Go.Proofs.YtehojhgpgliemaaDoor.Base
set_option linter.unusedVariables false
set_option linter.unusedSimpArgs false
open Go.Proofs.YtehojhgpgliemaaDoor.CrcMath Go.Proofs.YtehojhgpgliemaaDoor.Own
/-! ### the walk -/
theorem walk (W : World) (tb : Tab W) (A1 : Option Addr) (n1 c1 : Nat) (z1 : List Int) (l1 : z1.length = n1) (b1 : n1 ≤ c1) (m1 : c1 ≤ maxLen) (s1 : c1 * 1 ≤ 140737488351232) (r1 : IntsAt .u8 W W.heap.size A1 z1) (w1 : ∀ z ∈ z1, (Lit.int .u8 z).wf = true) :
    Calls Tryd.prog 3 #[.slice A1 n1 c1] W fun e W' => e = .returned (.bool true) ∧ Below W.heap.size W W' := by
  have HT := Lib.hid tb
  have HR := Lib.hid (r1.take 300)
  have HW : Hid (∀ z ∈ z1.take 300, (Lit.int .u8 z).wf = true) := Lib.hid (fun z hz => w1 z (List.mem_of_mem_take hz))
  have HL : Hid ((z1.take 300).length = min n1 300) := Lib.hid (by rw [List.length_take, l1]; omega)
  have HC := cut_any A1 n1 c1 300 W b1 (by omega) (by omega)
  obtain ⟨n, hn⟩ : ∃ n, min n1 300 = n := ⟨_, rfl⟩
  rw [hn] at HC HL
  have hn300 : n ≤ 300 := by omega
  have HD := Lib.hid HC
  obtain ⟨zs, hzs⟩ : ∃ zs, z1.take 300 = zs := ⟨_, rfl⟩
  rw [hzs] at HR HW HL
  clear tb r1 w1 l1 HC hn hzs
  obtain ⟨i8, hi, hz0, hz1, hz2⟩ := info_parts info8
  have HI := Lib.hid hi
  have HZ0 := Lib.hid hz0
  have HZ1 := Lib.hid hz1
  have HZ2 := Lib.hid hz2
  clear hi hz0 hz1 hz2
  go_enter Tryd.func3, Tryd.ntmps3
  have hb0 : Below W.heap.size W (W.alloc (.cells #[] 5)) := (Below.refl _ _).alloc (Nat.le_refl _) _
  have HB0 := Lib.hid hb0
  have HO0 := Lib.hid (OwnInts.empty .u8 5 W (Nat.le_refl _))
  clear hb0
  go_wp2_with (first
    | (go_at_call 13; refine (HD.out).mono ?_; rintro e w' ⟨rfl, rfl⟩)
    | (at_builtin; refine wpList_app (by simp [Region.wanted]) (.tmp 6) (.tmp 7) 22 rfl (v := .slice (some ⟨W.heap.size, 0, none⟩) 0 0) (B := W.heap.size) (c := c1) (zs := zs) Tryd.underlying22 HI.out HZ0.out HZ1.out HZ2.out rfl rfl HO0.out rfl (HR.out.below HB0.out) HL.out (by simp [maxLen]; omega) (by simp; omega) HB0.out.size ?_; intro v1 w1 ho1 hg1 ha1))
  rw [List.nil_append] at ho1
  have hb1 := HB0.out.trans (HO0.out.grownBelow hg1 HB0.out.size)
  obtain ⟨A2, c2, rfl, hn2, hc2, _, hi2⟩ := ho1.form
  clear hg1 ha1
  go_at_call 14; refine (awake_any w1 (Lib.hid (HT.out.below hb1))).mono ?_; rintro e w2 ⟨rfl, hb2⟩
  have hb12 := hb1.trans (hb2.mono hb1.size)
  have HB := Lib.hid hb12
  have HT2 := Lib.hid (HT.out.below hb12)
  have HR2 := Lib.hid (HR.out.below hb12)
  have HI2 := Lib.hid (hi2.below hb2)
  have hL := HL.out
  rw [hL] at hn2
  have U1 := Lib.hid (sum_any A1 n c1 _ zs w2 hL (by omega) HT2 HR2 HW)
  clear ho1 hb1 hb2 hb12 hi2 hL
  rw [HL.out]
  go_wp2_with (first
    | (go_at_call 15; refine (U1.out).mono ?_; rintro e w' ⟨rfl, m1, rfl⟩)
    | (go_at_call 16; refine (rsum_any A1 n c1 _ zs _ HL.out (by omega) (Lib.hid (HR2.out.drewN _)) HW).mono ?_; rintro e w' ⟨rfl, m2, rfl⟩)
    | (go_at_call 17; refine (same_any A1 n c1 _ zs A2 n c2 _ zs _ HL.out HL.out (Lib.hid (HR2.out.drewN _)) (Lib.hid (HI2.out.drewN _)) HW HW).mono ?_; rintro e w' ⟨rfl, rfl⟩))
  go_ret
  exact ⟨ret_bool (by simp), by repeat (first | exact HB.out | apply below_draws)⟩

/-! ### the frame -/
theorem cells5 : Tryd.prog.cellsOf 5 = 1 := by kernel_rfl
theorem own : ownKnob Tryd.prog.godebug = none := by kernel_rfl
set_option maxRecDepth 100000 in
theorem calls {H : Type} {enc : TypeId × Value → H} (W : World) (base : Nat) (args : Array Value) (ds : List (DataW H)) (p : List MemPlace)
    (hval0 : ∀ (j : Nat) t v, Tryd.f3.params[j]? = some t → args[j]? = some v → Value.okWide Tryd.prog W .any base t v)
    (hA : DataW.TrodAll enc Tryd.prog W 0 (fun _ => true) true Tryd.f3.params.toList args.toList ds p) (_ : W.noneFrozen p)
    (hsz : (DataW.weightsEach Tryd.prog Tryd.f3.params.toList ds).all (· ≤ reachBytes) = true) (hL : laidMetH Tryd.prog Rows.crcSumsRow.laid W) :
    Calls Tryd.prog 3 args W fun e W' => e = .returned (.bool true) ∧ Below W.heap.size W W' := by
  have hval : ∀ (j : Nat) t v, Tryd.f3.params[j]? = some t → args[j]? = some v → Value.okWide Tryd.prog W .any base t v := hval0
  clear hval0
  rw [Tryd.params3] at hA hval hsz
  obtain ⟨v0, vs0, d0, ds0, p0, q0, hargs, rfl, rfl, h0, r'0⟩ := trodAll_cons hA
  obtain ⟨rfl, rfl, rfl⟩ := trodAll_nil r'0
  obtain rfl : args = #[v0] := by cases args; simp_all
  obtain ⟨A0, n0, c0, z0, rfl, l0, b0, m0, s0, r0, w0⟩ := open_slice_ints (j := 0) (bytes := 1) Tryd.underlying22 Tryd.underlying5 cells5 (by kernel_rfl) (hval 0 22 v0 rfl rfl) h0 hsz rfl rfl
  exact walk (W := W) (Base.tabs hL) A0 n0 c0 z0 l0 b0 m0 s0 r0 w0
theorem laid_met (os : Os) : laidMet Tryd.prog Rows.crcSumsRow.laid ((Base.laidWorld os).forCall (fun _ _ => 0) ⟨#[], #[.slice none 0 0], []⟩).memory := laidMet_of_run' 8 (by kernel_rfl) (by kernel_rfl)
theorem reads (os : Os) {H : Type} (enc : TypeId × Value → H) : ∃ places, DataW.whole enc Tryd.prog ((Base.laidWorld os).forCall (fun _ _ => 0) ⟨#[], #[.slice none 0 0], []⟩).memory Tryd.f3.params.toList Rows.crcSumsSpec.vars false #[(Value.slice none 0 0)].toList 8 = some ([.nil], [], places) := ⟨[], by kernel_rfl⟩
set_option maxRecDepth 100000 in
theorem lifted (os : Os) (started : os.Started) (H : Type) (enc : TypeId × Value → H) (F : Stop.Interp) :
    ReturnsInHanded {} Tryd.checked os 3 .any ((OpenSpec.ofChange Rows.crcSumsSpec).preRow enc Tryd.prog Tryd.f3 Rows.crcSumsRow.domain false Rows.crcSumsRow.laid) (((OpenSpec.ofChange Rows.crcSumsSpec).at F).post enc Tryd.prog Tryd.f3 false true false false) := by
  obtain ⟨places, hx⟩ := reads os enc
  exact laid_lifted (C := Tryd.checked) (s := Rows.crcSumsSpec) (b := 4) own (by kernel_rfl) Tryd.func3 (by kernel_rfl) (by kernel_rfl) rfl Tryd.underlying4 rfl
    (fun ds h => by match ds, h with | [_], _ => rfl) calls os started F
    (witness_row_at (enc := enc) (C := Tryd.checked) false (Base.laidWorld os) #[.slice none 0 0] rfl (by kernel_rfl) (by kernel_rfl) (by kernel_rfl)
      (OpenSpec.preRow_of_cond 8 hx (by kernel_rfl) (fun k hk => by cases hk) (by kernel_rfl) (laid_met os)))
theorem said : Rows.CrcSumsSaid :=
  OpenClaim.holds_of_cond 3 Tryd.f3 rfl rfl rfl rfl rfl rfl rfl ⟨rfl, rfl, rfl, rfl, rfl⟩ rfl rfl rfl rfl rfl (by kernel_rfl) Tryd.func3 (by kernel_rfl)
    (of_decide_eq_true (by kernel_rfl)) (by unfold Func.isWrapper; first | (rw [if_pos (by decide +kernel)]; kernel_rfl) | (rw [if_neg (by decide +kernel)]; exact ⟨rfl, rfl⟩))
    (fun os started H enc _ F => by rw [OpenClaim.pre_eq_preRow]; exact lifted os started H enc F)
theorem plain (f : FuncId) (fn : Func) (hf : Tryd.pinned.checked.prog.funcNamed "bedrock/bedrocklaw02.CrcSums" = some f) (hfn : Tryd.pinned.checked.prog.funcs[f]? = some fn) :
    false = Tryd.pinned.checked.prog.looks [] ∧ ∀ (j : Nat) t, fn.params[j]? = some t → Tryd.pinned.checked.prog.wantsStandIn t = false := by
  obtain rfl : f = 3 := Option.some.inj ((show Tryd.prog.funcNamed "bedrock/bedrocklaw02.CrcSums" = some 3 by kernel_rfl).symm.trans hf) |>.symm
  obtain rfl : fn = Tryd.f3 := (Option.some.inj (Tryd.func3.symm.trans hfn)).symm
  have hall : Tryd.f3.params.toList.all (fun t => !Tryd.prog.wantsStandIn t) = true := by kernel_rfl
  refine ⟨by kernel_rfl, fun j t ht => ?_⟩
  have := List.all_eq_true.1 hall t (by simpa using Array.mem_of_getElem? ht)
  exact (show Tryd.prog.wantsStandIn t = false by simpa using this)
/-- ████ THE STATEMENT: THE CARD ████ -/
theorem proved : Rows.CrcSumsCardSaid :=
  Claim7.holds_tied_plain_at .later [] _ _ _ _ said (fun _ h => by cases h) (by kernel_rfl) (fun _ h => by cases h) crcSums_row_tie rfl ⟨rfl, rfl⟩ (by kernel_rfl) rfl plain (by kernel_rfl)
#print axioms proved
end Go.Proofs.YtehojhgpgliemaaDoor.crcSums
