/-
  PROVED: the law CrcResidue answers true for every input, and each argument reads behind the call as before (Rows.CrcResidueCardSaid). No condition.
-/
import Derived.Test.YtehojhgpgliemaaDoorCards
import Derived.Test.YtehojhgpgliemaaDoorTie
import Derived.Test.YtehojhgpgliemaaDoorLaid
import Derived.Test.YtehojhgpgliemaaDoorLaw
import Derived.Test.YtehojhgpgliemaaDoorArgs
import Derived.Test.YtehojhgpgliemaaDoorCrcBase
import Derived.Test.YtehojhgpgliemaaDoorCrcLaid
import Derived.Test.YtehojhgpgliemaaDoorCrcOwn
import Derived.Test.YtehojhgpgliemaaDoorOwn
namespace Go.Proofs.YtehojhgpgliemaaDoor.crcResidue
open Go.ChangeShapes Go.WideShapes Go.ChangeAt Go.RowKit Go.Proofs.YtehojhgpgliemaaDoor.Law Go.Proofs.YtehojhgpgliemaaDoor.Args Go.Proofs.YtehojhgpgliemaaDoor.Base
set_option linter.unusedVariables false
set_option linter.unusedSimpArgs false
open Go.Proofs.YtehojhgpgliemaaDoor.CrcMath Go.Proofs.YtehojhgpgliemaaDoor.Own
theorem u8_of (s d : Nat) : IntKind.u8.wrap ((s : Int) / (d : Int)) = ((s / d % 256 : Nat) : Int) := by rw [IntKind.wrap_u8]; rfl
/-! ### the walk -/
theorem walk (W : World) (tb : Tab W) (A1 : Option Addr) (n1 c1 : Nat) (z1 : List Int) (l1 : z1.length = n1) (b1 : n1 ≤ c1) (m1 : c1 ≤ maxLen) (s1 : c1 * 1 ≤ 140737488351232) (r1 : IntsAt .u8 W W.heap.size A1 z1) (w1 : ∀ z ∈ z1, (Lit.int .u8 z).wf = true) :
    Calls Tryd.prog 12 #[.slice A1 n1 c1] W fun e W' => e = .returned (.bool true) ∧ Below W.heap.size W W' := by
  have HT := Lib.hid tb
  have HR := Lib.hid (r1.take 300)
  have HW : Hid (∀ z ∈ z1.take 300, (Lit.int .u8 z).wf = true) := Lib.hid (fun z hz => w1 z (List.mem_of_mem_take hz))
  have HL : Hid ((z1.take 300).length = min n1 300) := Lib.hid (by rw [List.length_take, l1]; omega)
  have HC := cut_to A1 n1 c1 300 (min n1 300) 300 rfl rfl W b1 (by omega) (by omega)
  obtain ⟨n, hn⟩ : ∃ n, min n1 300 = n := ⟨_, rfl⟩
  rw [hn] at HC HL
  have hn300 : n ≤ 300 := by omega
  have HD := Lib.hid HC
  obtain ⟨zs, hzs⟩ : ∃ zs, z1.take 300 = zs := ⟨_, rfl⟩
  rw [hzs] at HR HW HL
  clear tb r1 w1 l1 HC hn hzs
  have hsl := crcN_lt 0 zs
  obtain ⟨s, hs⟩ : ∃ s, crcN 0 zs = s := ⟨_, rfl⟩
  have HE := Lib.hid (residue zs (bytes_range HW.out) s hs)
  rw [hs] at hsl
  have HS := Lib.hid hs
  clear hs
  have e0 : IntKind.u8.wrap (s : Int) = ((s % 256 : Nat) : Int) := by have := u8_of s 1; simpa using this
  have e1 : IntKind.u8.wrap ((s : Int) / 256) = ((s / 256 % 256 : Nat) : Int) := u8_of s 256
  have e2 : IntKind.u8.wrap ((s : Int) / 65536) = ((s / 65536 % 256 : Nat) : Int) := u8_of s 65536
  have e3 : IntKind.u8.wrap ((s : Int) / 16777216) = ((s / 16777216 % 256 : Nat) : Int) := u8_of s 16777216
  obtain ⟨x0, h0⟩ : ∃ x, s % 256 = x := ⟨_, rfl⟩
  obtain ⟨x1, h1⟩ : ∃ x, s / 256 % 256 = x := ⟨_, rfl⟩
  obtain ⟨x2, h2⟩ : ∃ x, s / 65536 % 256 = x := ⟨_, rfl⟩
  obtain ⟨x3, h3⟩ : ∃ x, s / 16777216 % 256 = x := ⟨_, rfl⟩
  have y0 : x0 < 256 := by omega
  have y1 : x1 < 256 := by omega
  have y2 : x2 < 256 := by omega
  have y3 : x3 < 256 := by omega
  rw [h0, h1, h2, h3] at HE
  rw [h0] at e0
  rw [h1] at e1
  rw [h2] at e2
  rw [h3] at e3
  clear h0 h1 h2 h3
  have HWW : Hid (∀ z ∈ zs ++ [(x0 : Int), (x1 : Int), (x2 : Int), (x3 : Int)], (Lit.int .u8 z).wf = true) := Lib.hid (by
    intro z hz
    rcases List.mem_append.1 hz with h | h
    · exact HW.out z h
    · simp only [List.mem_cons, List.not_mem_nil, or_false] at h
      rcases h with rfl | rfl | rfl | rfl <;> simp [Lit.wf, IntKind.min, IntKind.max, IntKind.bits, IntKind.signed] <;> omega)
  obtain ⟨i8, hi, hz0, hz1, hz2⟩ := info_parts info8
  have HI := Lib.hid hi
  have HZ0 := Lib.hid hz0
  have HZ1 := Lib.hid hz1
  have HZ2 := Lib.hid hz2
  clear hi hz0 hz1 hz2
  have HU := Lib.hid (sum_any A1 n c1 _ zs W HL.out (by omega) HT HR HW)
  have HO0 := Lib.hid (OwnInts.empty .u8 5 W (Nat.le_refl _))
  have HB0 : Hid (Below W.heap.size W (W.alloc (.cells #[] 5))) := Lib.hid ((Below.refl _ _).alloc (Nat.le_refl _) _)
  go_enter Tryd.func12, Tryd.ntmps12
  go_wp2_with (first
    | (go_at_call 13; refine (HD.out).mono ?_; rintro e w' ⟨rfl, rfl⟩)
    | (go_at_call 15; ((with_reducible refine (HU.out).mono ?_); rintro e w' ⟨rfl, k1, rfl⟩; rw [HS.out]))
    | (at_builtin; refine wpList_app (by simp [Region.wanted, yielded]) (.tmp 9) (.tmp 10) 22 rfl (v := .slice (some ⟨W.heap.size, 0, none⟩) 0 0) (B := W.heap.size) (c := c1) (zs := zs) Tryd.underlying22 HI.out HZ0.out HZ1.out HZ2.out rfl rfl (HO0.out.drewN k1) rfl ((HR.out.below HB0.out).drewN k1) HL.out (by simp [maxLen]; omega) (by simp; omega) HB0.out.size ?_; intro v2 w2 ho2 hg2 ha2; have hb2 := Lib.hid (((below_draws (Below.refl W.heap.size W) k1).alloc (Nat.le_refl _) _).trans ((HO0.out.drewN k1).grownBelow hg2 HB0.out.size)); have HO2 := Lib.hid ho2; clear ho2 hg2 ha2)
    | (at_builtin; refine wpList_app (by simp [Region.wanted, yielded]) (.tmp 11) (.tmp 23) 22 rfl (v := v2) (B := w2.heap.size + 1) (c := 4) (A := some ⟨w2.heap.size, 0, none⟩) (zs := [(x0 : Int), (x1 : Int), (x2 : Int), (x3 : Int)]) Tryd.underlying22 HI.out HZ0.out HZ1.out HZ2.out rfl rfl (HO2.out.alloc _) rfl (IntsAt.new .u8 w2 5 (0, 0) [(x0 : Int), (x1 : Int), (x2 : Int), (x3 : Int)]) rfl (by rw [List.nil_append, HL.out]; simp [maxLen]; omega) (by rw [List.nil_append, HL.out]; omega) (Nat.le_trans hb2.out.size (by simp)) ?_; intro v3 w3 ho3 hg3 ha3))
  rw [List.nil_append] at ho3
  have hb3 := hb2.out.trans (((Below.refl W.heap.size w2).alloc hb2.out.size _).trans ((HO2.out.alloc _).grownBelow hg3 (Nat.le_trans hb2.out.size (by simp))))
  obtain ⟨A3, c3, rfl, hn3, hc3, _, hi3⟩ := ho3.form
  have HT3 := Lib.hid (HT.out.below hb3)
  have hN : (zs ++ [(x0 : Int), (x1 : Int), (x2 : Int), (x3 : Int)]).length = n + 4 := by rw [List.length_append, HL.out]; rfl
  rw [hN]
  go_at_call 14; refine (awake_any w3 HT3).mono ?_; rintro e w4 ⟨rfl, hb4⟩
  have U3 := Lib.hid (sum_any A3 (n + 4) c3 _ (zs ++ [(x0 : Int), (x1 : Int), (x2 : Int), (x3 : Int)]) w4 hN (by omega) (Lib.hid (HT3.out.below hb4)) (Lib.hid (hi3.below hb4)) HWW)
  have HB4 := Lib.hid (hb3.trans (hb4.mono hb3.size))
  have EC : ((crcN 0 (zs ++ [(x0 : Int), (x1 : Int), (x2 : Int), (x3 : Int)]) : Nat) : Int) = 1214729159 := by rw [HE.out]; rfl
  rw [EC] at U3
  clear hg3 ha3 ho3 hb3 hn3 hc3 hi3 hb4 EC hN
  go_wp2_with (go_at_call 15; refine (U3.out).mono ?_; rintro e w' ⟨rfl, k3, rfl⟩)
  go_ret
  exact ⟨rfl, below_draws HB4.out _⟩

/-! ### the frame -/
theorem cells5 : Tryd.prog.cellsOf 5 = 1 := by kernel_rfl
theorem own : ownKnob Tryd.prog.godebug = none := by kernel_rfl
set_option maxRecDepth 100000 in
theorem calls {H : Type} {enc : TypeId × Value → H} (W : World) (base : Nat) (args : Array Value) (ds : List (DataW H)) (p : List MemPlace)
    (hval0 : ∀ (j : Nat) t v, Tryd.f12.params[j]? = some t → args[j]? = some v → Value.okWide Tryd.prog W .any base t v)
    (hA : DataW.TrodAll enc Tryd.prog W 0 (fun _ => true) true Tryd.f12.params.toList args.toList ds p) (_ : W.noneFrozen p)
    (hsz : (DataW.weightsEach Tryd.prog Tryd.f12.params.toList ds).all (· ≤ reachBytes) = true) (hL : laidMetH Tryd.prog Rows.crcResidueRow.laid W) :
    Calls Tryd.prog 12 args W fun e W' => e = .returned (.bool true) ∧ Below W.heap.size W W' := by
  have hval : ∀ (j : Nat) t v, Tryd.f12.params[j]? = some t → args[j]? = some v → Value.okWide Tryd.prog W .any base t v := hval0
  clear hval0
  rw [Tryd.params12] at hA hval hsz
  obtain ⟨v0, vs0, d0, ds0, p0, q0, hargs, rfl, rfl, h0, r'0⟩ := trodAll_cons hA
  obtain ⟨rfl, rfl, rfl⟩ := trodAll_nil r'0
  obtain rfl : args = #[v0] := by cases args; simp_all
  obtain ⟨A0, n0, c0, z0, rfl, l0, b0, m0, s0, r0, w0⟩ := open_slice_ints (j := 0) (bytes := 1) Tryd.underlying22 Tryd.underlying5 cells5 (by kernel_rfl) (hval 0 22 v0 rfl rfl) h0 hsz rfl rfl
  exact walk (W := W) (Base.tabs hL) A0 n0 c0 z0 l0 b0 m0 s0 r0 w0
theorem laid_met (os : Os) : laidMet Tryd.prog Rows.crcResidueRow.laid ((Base.laidWorld os).forCall (fun _ _ => 0) ⟨#[], #[.slice none 0 0], []⟩).memory := laidMet_of_run' 8 (by kernel_rfl) (by kernel_rfl)
theorem reads (os : Os) {H : Type} (enc : TypeId × Value → H) : ∃ places, DataW.whole enc Tryd.prog ((Base.laidWorld os).forCall (fun _ _ => 0) ⟨#[], #[.slice none 0 0], []⟩).memory Tryd.f12.params.toList Rows.crcResidueSpec.vars false #[(Value.slice none 0 0)].toList 8 = some ([.nil], [], places) := ⟨[], by kernel_rfl⟩
set_option maxRecDepth 100000 in
theorem lifted (os : Os) (started : os.Started) (H : Type) (enc : TypeId × Value → H) (F : Stop.Interp) :
    ReturnsInHanded {} Tryd.checked os 12 .any ((OpenSpec.ofChange Rows.crcResidueSpec).preRow enc Tryd.prog Tryd.f12 Rows.crcResidueRow.domain false Rows.crcResidueRow.laid) (((OpenSpec.ofChange Rows.crcResidueSpec).at F).post enc Tryd.prog Tryd.f12 false true false false) := by
  obtain ⟨places, hx⟩ := reads os enc
  exact laid_lifted (C := Tryd.checked) (s := Rows.crcResidueSpec) (b := 4) own (by kernel_rfl) Tryd.func12 (by kernel_rfl) (by kernel_rfl) rfl Tryd.underlying4 rfl
    (fun ds h => by match ds, h with | [_], _ => rfl) calls os started F
    (witness_row_at (enc := enc) (C := Tryd.checked) false (Base.laidWorld os) #[.slice none 0 0] rfl (by kernel_rfl) (by kernel_rfl) (by kernel_rfl)
      (OpenSpec.preRow_of_cond 8 hx (by kernel_rfl) (fun k hk => by cases hk) (by kernel_rfl) (laid_met os)))
theorem said : Rows.CrcResidueSaid :=
  OpenClaim.holds_of_cond 12 Tryd.f12 rfl rfl rfl rfl rfl rfl rfl ⟨rfl, rfl, rfl, rfl, rfl⟩ rfl rfl rfl rfl rfl (by kernel_rfl) Tryd.func12 (by kernel_rfl)
    (of_decide_eq_true (by kernel_rfl)) (by unfold Func.isWrapper; first | (rw [if_pos (by decide +kernel)]; kernel_rfl) | (rw [if_neg (by decide +kernel)]; exact ⟨rfl, rfl⟩))
    (fun os started H enc _ F => by rw [OpenClaim.pre_eq_preRow]; exact lifted os started H enc F)
theorem plain (f : FuncId) (fn : Func) (hf : Tryd.pinned.checked.prog.funcNamed "bedrock/bedrocklaw02.CrcResidue" = some f) (hfn : Tryd.pinned.checked.prog.funcs[f]? = some fn) :
    false = Tryd.pinned.checked.prog.looks [] ∧ ∀ (j : Nat) t, fn.params[j]? = some t → Tryd.pinned.checked.prog.wantsStandIn t = false := by
  obtain rfl : f = 12 := Option.some.inj ((show Tryd.prog.funcNamed "bedrock/bedrocklaw02.CrcResidue" = some 12 by kernel_rfl).symm.trans hf) |>.symm
  obtain rfl : fn = Tryd.f12 := (Option.some.inj (Tryd.func12.symm.trans hfn)).symm
  have hall : Tryd.f12.params.toList.all (fun t => !Tryd.prog.wantsStandIn t) = true := by kernel_rfl
  refine ⟨by kernel_rfl, fun j t ht => ?_⟩
  have := List.all_eq_true.1 hall t (by simpa using Array.mem_of_getElem? ht)
  exact (show Tryd.prog.wantsStandIn t = false by simpa using this)
/-- ████ THE STATEMENT: THE CARD ████ -/
theorem proved : Rows.CrcResidueCardSaid :=
  Claim7.holds_tied_plain_at .later [] _ _ _ _ said (fun _ h => by cases h) (by kernel_rfl) (fun _ h => by cases h) crcResidue_row_tie rfl ⟨rfl, rfl⟩ (by kernel_rfl) rfl plain (by kernel_rfl)
#print axioms proved
end Go.Proofs.YtehojhgpgliemaaDoor.crcResidue
