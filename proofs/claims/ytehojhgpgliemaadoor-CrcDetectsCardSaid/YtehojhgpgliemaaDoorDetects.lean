/-
  PROVED: the law CrcDetects answers true for every input, and each argument reads behind the call as before (Rows.CrcDetectsCardSaid). No condition.
-/
import Derived.Test.YtehojhgpgliemaaDoorCards
import Derived.Test.YtehojhgpgliemaaDoorTie
import Derived.Test.YtehojhgpgliemaaDoorLaid
import Derived.Test.YtehojhgpgliemaaDoorLaw
import Derived.Test.YtehojhgpgliemaaDoorArgs
import Derived.Test.YtehojhgpgliemaaDoorDetMath
import Derived.Test.YtehojhgpgliemaaDoorCrcLaid
namespace Go.Proofs.YtehojhgpgliemaaDoor.crcDetects
open Go.ChangeShapes Go.WideShapes Go.ChangeAt Go.RowKit Go.Proofs.YtehojhgpgliemaaDoor.Law Go.Proofs.YtehojhgpgliemaaDoor.Args Go.Proofs.YtehojhgpgliemaaDoor.Base
set_option linter.unusedVariables false
set_option linter.unusedSimpArgs false
open Go.Proofs.YtehojhgpgliemaaDoor.CrcMath Go.Proofs.YtehojhgpgliemaaDoor.Own
/-! ### the walk -/
theorem walk (W : World) (tb : Tab W) (A0 : Option Addr) (n0 c0 : Nat) (z0 : List Int) (l0 : z0.length = n0) (b0 : n0 ≤ c0) (m0 : c0 ≤ maxLen) (s0 : c0 * 1 ≤ 140737488351232) (r0 : IntsAt .u8 W W.heap.size A0 z0) (w0 : ∀ z ∈ z0, (Lit.int .u8 z).wf = true)
    (a1 : Int) (w1 : (Lit.int .i64 a1).wf = true) (a2 : Int) (w2 : (Lit.int .u32 a2).wf = true) :
    Calls Tryd.prog 10 #[.slice A0 n0 c0, .int .i64 a1, .int .u32 a2] W fun e W' => e = .returned (.bool true) ∧ Below W.heap.size W W' := by
  have b1 := wf_i64 w1
  have b2 := wf_u32 w2
  obtain ⟨p, rfl⟩ := Int.eq_ofNat_of_zero_le b2.1
  have hp : p < 4294967296 := by omega
  have HT := Lib.hid tb
  have HR := Lib.hid (r0.take 200)
  have HW : Hid (∀ z ∈ z0.take 200, (Lit.int .u8 z).wf = true) := Lib.hid (fun z hz => w0 z (List.mem_of_mem_take hz))
  have HL : Hid ((z0.take 200).length = min n0 200) := Lib.hid (by rw [List.length_take, l0]; omega)
  have HC := cut_any A0 n0 c0 200 W b0 (by omega) (by omega)
  obtain ⟨n, hn⟩ : ∃ n, min n0 200 = n := ⟨_, rfl⟩
  rw [hn] at HC HL
  have hn200 : n ≤ 200 := by omega
  have HD := Lib.hid HC
  obtain ⟨zs, hzs⟩ : ∃ zs, z0.take 200 = zs := ⟨_, rfl⟩
  rw [hzs] at HR HW HL
  have HB := Lib.hid (burst_any A0 n c0 W.heap.size zs a1 p W HL.out (by omega) HR (Nat.le_refl _) HW hp b1.1 b1.2 (by omega))
  have HWB := Lib.hid (brs_wf a1 p HW.out 32)
  have HLB : Hid ((brs zs a1 p 32).length = n) := Lib.hid (by rw [brs_len, HL.out])
  have HDET := Lib.hid (detects zs a1 p (bytes_range HW.out) (bytes_range HWB.out))
  obtain ⟨ys, hys⟩ : ∃ ys, brs zs a1 p 32 = ys := ⟨_, rfl⟩
  rw [hys] at HB HWB HLB HDET
  clear w0 w1 w2 b1 b2 tb r0 l0 HC hn hzs hys
  go_enter Tryd.func10, Tryd.ntmps10
  go_wp2_with (first
    | (go_at_call 13; refine (HD.out).mono ?_; rintro e w' ⟨rfl, rfl⟩)
    | (go_at_call 25; refine (HB.out).mono ?_; rintro e wb ⟨v, rfl, HO⟩))
  have HTb := Lib.hid (HT.out.below HO.out.2)
  refine (awake_any wb HTb).mono ?_
  rintro e w1 ⟨rfl, hb1⟩
  have HB1 := Lib.hid hb1
  have HW1 : Hid (Below W.heap.size W w1) := Lib.hid (HO.out.2.trans (hb1.mono HO.out.2.size))
  obtain ⟨A1, c1, e1, _, _, _, hi1⟩ := (HO.out.1.below hb1).form
  rw [HLB.out] at e1
  subst e1
  have HI1 := Lib.hid hi1
  have HR1 := Lib.hid (HR.out.below HW1.out)
  have HT1 := Lib.hid (HT.out.below HW1.out)
  have hcl := crcN_lt 0 ys
  have hcl2 := crcN_lt 0 zs
  have U1 := Lib.hid (sum_any A1 n c1 _ ys w1 HLB.out (by omega) HT1 HI1 HWB)
  obtain ⟨x, hx⟩ : ∃ x, crcN 0 ys = x := ⟨_, rfl⟩
  obtain ⟨y, hy⟩ : ∃ y, crcN 0 zs = y := ⟨_, rfl⟩
  rw [hx] at U1 HDET
  rw [hy] at HDET
  have HY := Lib.hid hy
  clear hi1 hb1 hx hy hcl hcl2 HO HB
  go_wp2_with (first
    | (go_at_call_of 15 (Value.slice A1 n c1); ((with_reducible refine (U1.out).mono ?_); rintro e w' ⟨rfl, k1, rfl⟩))
    | (go_at_call_of 15 (Value.slice A0 n c0); refine (sum_any A0 n c0 _ zs _ HL.out (by omega) (Lib.hid (HT1.out.drewN _)) (Lib.hid (HR1.out.drewN _)) HW).mono ?_; rintro e w' ⟨rfl, k2, rfl⟩; rw [HY.out])
    | (go_at_call 17; refine (same_any A1 n c1 _ ys A0 n c0 _ zs _ HLB.out HL.out (Lib.hid (HI1.out.drewN _)) (Lib.hid (HR1.out.drewN _)) HWB HW).mono ?_; rintro e w' ⟨rfl, rfl⟩))
  go_ret
  refine ⟨ret_bool ?_, below_draws HW1.out _⟩
  have hd := HDET.out
  by_cases h : ys = zs
  · have hxy := hd.2 h
    simp [h, hxy]
  · have hxy : ¬ x = y := fun e => h (hd.1 e)
    have hxi : ¬ ((x : Int) = (y : Int)) := by omega
    simp [h, hxi, bne, hxy]

/-! ### the frame -/
theorem cells5 : Tryd.prog.cellsOf 5 = 1 := by kernel_rfl
theorem own : ownKnob Tryd.prog.godebug = none := by kernel_rfl
set_option maxRecDepth 100000 in
theorem calls {H : Type} {enc : TypeId × Value → H} (W : World) (base : Nat) (args : Array Value) (ds : List (DataW H)) (p : List MemPlace)
    (hval0 : ∀ (j : Nat) t v, Tryd.f10.params[j]? = some t → args[j]? = some v → Value.okWide Tryd.prog W .any base t v)
    (hA : DataW.TrodAll enc Tryd.prog W 0 (fun _ => true) true Tryd.f10.params.toList args.toList ds p) (_ : W.noneFrozen p)
    (hsz : (DataW.weightsEach Tryd.prog Tryd.f10.params.toList ds).all (· ≤ reachBytes) = true) (hL : laidMetH Tryd.prog Rows.crcDetectsRow.laid W) :
    Calls Tryd.prog 10 args W fun e W' => e = .returned (.bool true) ∧ Below W.heap.size W W' := by
  have hval : ∀ (j : Nat) t v, Tryd.f10.params[j]? = some t → args[j]? = some v → Value.okWide Tryd.prog W .any base t v := hval0
  clear hval0
  rw [Tryd.params10] at hA hval hsz
  obtain ⟨v0, vs0, d0, ds0, p0, q0, hargs, rfl, rfl, h0, r'0⟩ := trodAll_cons hA
  obtain ⟨v1, vs1, d1, ds1, p1, q1, rfl, rfl, rfl, h1, r'1⟩ := trodAll_cons r'0
  obtain ⟨v2, vs2, d2, ds2, p2, q2, rfl, rfl, rfl, h2, r'2⟩ := trodAll_cons r'1
  obtain ⟨rfl, rfl, rfl⟩ := trodAll_nil r'2
  obtain rfl : args = #[v0, v1, v2] := by cases args; simp_all
  obtain ⟨A0, n0, c0, z0, rfl, l0, b0, m0, s0, r0, w0⟩ := open_slice_ints (j := 0) (bytes := 1) Tryd.underlying22 Tryd.underlying5 cells5 (by kernel_rfl) (hval 0 22 v0 rfl rfl) h0 hsz rfl rfl
  obtain ⟨a1, rfl, rfl, rfl, w1⟩ := open_int Tryd.underlying3 (hval 1 3 v1 rfl rfl) h1
  obtain ⟨a2, rfl, rfl, rfl, w2⟩ := open_int Tryd.underlying25 (hval 2 25 v2 rfl rfl) h2
  exact walk (W := W) (Base.tabs hL) A0 n0 c0 z0 l0 b0 m0 s0 r0 w0 a1 w1 a2 w2
theorem laid_met (os : Os) : laidMet Tryd.prog Rows.crcDetectsRow.laid ((Base.laidWorld os).forCall (fun _ _ => 0) ⟨#[], #[.slice none 0 0, .int .i64 0, .int .u32 0], []⟩).memory := laidMet_of_run' 8 (by kernel_rfl) (by kernel_rfl)
theorem reads (os : Os) {H : Type} (enc : TypeId × Value → H) : ∃ places, DataW.whole enc Tryd.prog ((Base.laidWorld os).forCall (fun _ _ => 0) ⟨#[], #[.slice none 0 0, .int .i64 0, .int .u32 0], []⟩).memory Tryd.f10.params.toList Rows.crcDetectsSpec.vars false #[(Value.slice none 0 0), (Value.int .i64 0), (Value.int .u32 0)].toList 8 = some ([.nil, .lit (.int .i64 0), .lit (.int .u32 0)], [], places) := ⟨[], by kernel_rfl⟩
set_option maxRecDepth 100000 in
theorem lifted (os : Os) (started : os.Started) (H : Type) (enc : TypeId × Value → H) (F : Stop.Interp) :
    ReturnsInHanded {} Tryd.checked os 10 .any ((OpenSpec.ofChange Rows.crcDetectsSpec).preRow enc Tryd.prog Tryd.f10 Rows.crcDetectsRow.domain false Rows.crcDetectsRow.laid) (((OpenSpec.ofChange Rows.crcDetectsSpec).at F).post enc Tryd.prog Tryd.f10 false true false false) := by
  obtain ⟨places, hx⟩ := reads os enc
  exact laid_lifted (C := Tryd.checked) (s := Rows.crcDetectsSpec) (b := 4) own (by kernel_rfl) Tryd.func10 (by kernel_rfl) (by kernel_rfl) rfl Tryd.underlying4 rfl
    (fun ds h => by match ds, h with | [_, _, _], _ => rfl) calls os started F
    (witness_row_at (enc := enc) (C := Tryd.checked) false (Base.laidWorld os) #[.slice none 0 0, .int .i64 0, .int .u32 0] rfl (by kernel_rfl) (by kernel_rfl) (by kernel_rfl)
      (OpenSpec.preRow_of_cond 8 hx (by kernel_rfl) (fun k hk => by cases hk) (by kernel_rfl) (laid_met os)))
theorem said : Rows.CrcDetectsSaid :=
  OpenClaim.holds_of_cond 10 Tryd.f10 rfl rfl rfl rfl rfl rfl rfl ⟨rfl, rfl, rfl, rfl, rfl⟩ rfl rfl rfl rfl rfl (by kernel_rfl) Tryd.func10 (by kernel_rfl)
    (of_decide_eq_true (by kernel_rfl)) (by unfold Func.isWrapper; first | (rw [if_pos (by decide +kernel)]; kernel_rfl) | (rw [if_neg (by decide +kernel)]; exact ⟨rfl, rfl⟩))
    (fun os started H enc _ F => by rw [OpenClaim.pre_eq_preRow]; exact lifted os started H enc F)
theorem plain (f : FuncId) (fn : Func) (hf : Tryd.pinned.checked.prog.funcNamed "bedrock/bedrocklaw02.CrcDetects" = some f) (hfn : Tryd.pinned.checked.prog.funcs[f]? = some fn) :
    false = Tryd.pinned.checked.prog.looks [] ∧ ∀ (j : Nat) t, fn.params[j]? = some t → Tryd.pinned.checked.prog.wantsStandIn t = false := by
  obtain rfl : f = 10 := Option.some.inj ((show Tryd.prog.funcNamed "bedrock/bedrocklaw02.CrcDetects" = some 10 by kernel_rfl).symm.trans hf) |>.symm
  obtain rfl : fn = Tryd.f10 := (Option.some.inj (Tryd.func10.symm.trans hfn)).symm
  have hall : Tryd.f10.params.toList.all (fun t => !Tryd.prog.wantsStandIn t) = true := by kernel_rfl
  refine ⟨by kernel_rfl, fun j t ht => ?_⟩
  have := List.all_eq_true.1 hall t (by simpa using Array.mem_of_getElem? ht)
  exact (show Tryd.prog.wantsStandIn t = false by simpa using this)
/-- ████ THE STATEMENT: THE CARD ████ -/
theorem proved : Rows.CrcDetectsCardSaid :=
  Claim7.holds_tied_plain_at .later [] _ _ _ _ said (fun _ h => by cases h) (by kernel_rfl) (fun _ h => by cases h) crcDetects_row_tie rfl ⟨rfl, rfl⟩ (by kernel_rfl) rfl plain (by kernel_rfl)
#print axioms proved
end Go.Proofs.YtehojhgpgliemaaDoor.crcDetects
