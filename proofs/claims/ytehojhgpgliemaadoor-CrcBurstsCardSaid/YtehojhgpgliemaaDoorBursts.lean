/-
  PROVED: the law CrcBursts answers true for every input, and each argument reads behind the call as before (Rows.CrcBurstsCardSaid). No condition.
-/
import Derived.Test.YtehojhgpgliemaaDoorCards
import Derived.Test.YtehojhgpgliemaaDoorTie
import Derived.Test.YtehojhgpgliemaaDoorLaid
import Derived.Test.YtehojhgpgliemaaDoorLaw
import Derived.Test.YtehojhgpgliemaaDoorArgs
import Derived.Test.YtehojhgpgliemaaDoorRburst
import Derived.Test.YtehojhgpgliemaaDoorCrcLaid
namespace Go.Proofs.YtehojhgpgliemaaDoor.crcBursts
open Go.ChangeShapes Go.WideShapes Go.ChangeAt Go.RowKit Go.Proofs.YtehojhgpgliemaaDoor.Law Go.Proofs.YtehojhgpgliemaaDoor.Args Go.Proofs.YtehojhgpgliemaaDoor.Base
set_option linter.unusedVariables false
set_option linter.unusedSimpArgs false
open Go.Proofs.YtehojhgpgliemaaDoor.CrcMath Go.Proofs.YtehojhgpgliemaaDoor.Own
/-! ### the walk -/
theorem walk (W : World) (tb : Tab W) (A0 : Option Addr) (n0 c0 : Nat) (z0 : List Int) (l0 : z0.length = n0) (b0 : n0 ≤ c0) (m0 : c0 ≤ maxLen) (s0 : c0 * 1 ≤ 140737488351232) (r0 : IntsAt .u8 W W.heap.size A0 z0) (w0 : ∀ z ∈ z0, (Lit.int .u8 z).wf = true)
    (a1 : Int) (w1 : (Lit.int .i64 a1).wf = true) (a2 : Int) (w2 : (Lit.int .u32 a2).wf = true) :
    Calls Tryd.prog 9 #[.slice A0 n0 c0, .int .i64 a1, .int .u32 a2] W fun e W' => e = .returned (.bool true) ∧ Below W.heap.size W W' := by
  have b1 := wf_i64 w1
  have b2 := wf_u32 w2
  obtain ⟨p, rfl⟩ := Int.eq_ofNat_of_zero_le b2.1
  have hp : p < 4294967296 := by omega
  have HT := Lib.hid tb
  have HR := Lib.hid (r0.take 200)
  have HW : Hid (∀ z ∈ z0.take 200, (Lit.int .u8 z).wf = true) := Lib.hid (fun z hz => w0 z (List.mem_of_mem_take hz))
  have HL : Hid ((z0.take 200).length = min n0 200) := Lib.hid (by rw [List.length_take, l0]; omega)
  have HC := cut_any A0 n0 c0 200 W b0 (by omega) (by omega)
  obtain ⟨n, hn⟩ : ∃ n, min n0 200 = n := ⟨_, rfl⟩
  rw [hn] at HC HL
  have hn200 : n ≤ 200 := by omega
  have HD := Lib.hid HC
  obtain ⟨zs, hzs⟩ : ∃ zs, z0.take 200 = zs := ⟨_, rfl⟩
  rw [hzs] at HR HW HL
  obtain ⟨i0, hi, hz0, hz1, hz2⟩ := info_parts info8
  have HI := Lib.hid hi
  have HZ0 := Lib.hid hz0
  have HZ1 := Lib.hid hz1
  have HZ2 := Lib.hid hz2
  have HWB := Lib.hid (brs_wf a1 p HW.out 32)
  have HLB : Hid ((brs zs a1 p 32).length = n) := Lib.hid (by rw [brs_len, HL.out])
  have HB1 := Lib.hid (And.intro b1.1 b1.2)
  have HO0 : Hid (OwnInts .u8 5 (W.alloc (.cells #[] 5)) W.heap.size (.slice (some ⟨W.heap.size, 0, none⟩) 0 0) [] ∧ Below W.heap.size W (W.alloc (.cells #[] 5))) := Lib.hid ⟨OwnInts.empty _ _ W (Nat.le_refl _), (Below.refl _ _).alloc (Nat.le_refl _) _⟩
  clear w0 w1 w2 b1 b2 tb r0 l0 HC hn hzs hi hz0 hz1 hz2 s0
  go_enter Tryd.func9, Tryd.ntmps9
  go_wp2_with (first
    | (go_at_call 13; refine (HD.out).mono ?_; rintro e w' ⟨rfl, rfl⟩)
    | (at_builtin; refine wpList_app (by simp [Region.wanted, yielded]) (.tmp 12) (.tmp 13) 22 rfl (v := .slice (some ⟨W.heap.size, 0, none⟩) 0 0) (B := W.heap.size) (c := c0) (zs := zs) Tryd.underlying22 HI.out HZ0.out HZ1.out HZ2.out rfl rfl HO0.out.1 rfl (HR.out.below HO0.out.2) HL.out (by simp [maxLen]; omega) (by simp; omega) HO0.out.2.size ?_; intro v2 w2 ho2 hg2 ha2; have HO2 : Hid (OwnInts .u8 5 w2 W.heap.size v2 zs ∧ Below W.heap.size W w2) := Lib.hid ⟨by rw [List.nil_append] at ho2; exact ho2, HO0.out.2.trans (HO0.out.1.grownBelow hg2 HO0.out.2.size)⟩; clear ho2 hg2 ha2)
    | (go_at_call 25; refine (burst_any A0 n c0 W.heap.size zs a1 p w2 HL.out (by omega) (Lib.hid (HR.out.below HO2.out.2)) HO2.out.2.size HW hp HB1.out.1 HB1.out.2 (by omega)).mono ?_; rintro e w3 ⟨v3, rfl, HO3⟩))
  have HB3 : Hid (Below W.heap.size W w3) := Lib.hid (HO2.out.2.trans (HO3.out.2.mono HO2.out.2.size))
  have HB2 := Lib.hid HO2.out.2
  obtain ⟨A2, c2, e2, _, _, _, hi2⟩ := HO2.out.1.form
  have HI2 := Lib.hid hi2
  rw [HL.out] at e2
  subst e2
  clear hi2
  refine (awake_any w3 (Lib.hid (HT.out.below HB3.out))).mono ?_
  rintro e w4 ⟨rfl, hb4⟩
  have HB4 : Hid (Below W.heap.size W w4) := Lib.hid (HB3.out.trans (hb4.mono HB3.out.size))
  have HC4 : Hid (Below w2.heap.size w2 w4) := Lib.hid (HO3.out.2.trans (hb4.mono HO3.out.2.size))
  have HO4 := Lib.hid (HO3.out.1.below hb4)
  clear hb4 HO3 HB3
  obtain ⟨A3, c3, e3, hn3, _, _, _⟩ := HO4.out.form
  rw [HLB.out] at e3 hn3
  subst e3
  go_wp2_with (go_at_call 26; refine (rburst_any A2 n c2 w2.heap.size zs a1 p w4 HL.out (Lib.hid (HI2.out.below HC4.out)) HC4.out.size HW hp HB1.out.1 HB1.out.2 (by omega)).mono ?_; rintro e w5 ⟨v5, rfl, HO5⟩)
  have HB5 : Hid (Below W.heap.size W w5) := Lib.hid (HB4.out.trans (HO5.out.2.mono HB4.out.size))
  have HC5 : Hid (Below w2.heap.size w2 w5) := Lib.hid (HC4.out.trans (HO5.out.2.mono HC4.out.size))
  have HO6 := Lib.hid (HO4.out.below HO5.out.2)
  obtain ⟨A5, c5, e5, _, _, _, hi5⟩ := HO5.out.1.form
  rw [HLB.out] at e5
  subst e5
  have hi3 := HO6.out.form
  obtain ⟨A3', c3', e3', _, _, _, hi3⟩ := hi3
  rw [HLB.out] at e3'
  injection e3' with g1 g2 g3
  subst g1 g3
  have HI3 := Lib.hid hi3
  have HI5 := Lib.hid hi5
  have S1 := Lib.hid (same_any A3 n c3 _ _ A5 n c5 _ _ w5 HLB.out HLB.out HI3 HI5 HWB HWB)
  have S2 := Lib.hid (same_any A0 n c0 _ zs A2 n c2 _ zs w5 HL.out HL.out (Lib.hid (HR.out.below HB5.out)) (Lib.hid (HI2.out.below HC5.out)) HW HW)
  clear hi3 hi5 HO5 HO4 HO2 HO0 HI3 HI5
  go_wp2_with (first
    | (go_at_call_of 17 (Value.slice A3 n c3); refine (S1.out).mono ?_; rintro e w' ⟨rfl, hw⟩; have hw2 := hw.symm; subst hw2; clear hw)
    | (go_at_call_of 17 (Value.slice A0 n c0); refine (S2.out).mono ?_; rintro e w' ⟨rfl, hw⟩; have hw2 := hw.symm; subst hw2; clear hw))
  have HL0 : Hid ((∃ ls : List Int, ls.length = n ∧ (∀ z ∈ ls, (Lit.int .u8 z).wf = true) ∧ OwnInts .u8 5 w5 w2.heap.size (.slice A3 n c3) ls) ∧ Below w2.heap.size w2 w5) := Lib.hid ⟨⟨_, HLB.out, HWB.out, HO6.out⟩, HC5.out⟩
  clear S1 S2 HO6
  go_loopw [38] (fun i wr => ∃ k : Nat, k ≤ n ∧ i = .int .i64 k ∧ Hid ((∃ ls : List Int, ls.length = n ∧ (∀ z ∈ ls, (Lit.int .u8 z).wf = true) ∧ OwnInts .u8 5 wr w2.heap.size (.slice A3 n c3) ls) ∧ Below w2.heap.size w2 wr)) (fun i _ => n - (intOf i).toNat)
  case atStart => exact ⟨0, by omega, rfl, HL0⟩
  case round =>
    obtain ⟨k, hk, rfl, HH⟩ := hrel
    clear HL0
    by_cases hlt : k < n
    · obtain ⟨⟨ls, hl, hwl, ho⟩, hbb⟩ := HH.out
      obtain ⟨g, cap', hv, hgb, _⟩ := own_addr ho (by omega)
      injection hv with g1 g2 g3
      subst g1
      obtain ⟨c1, f1⟩ := ho.cell k (by omega)
      obtain ⟨b, hb, eb⟩ := byte_at hwl (k := k) (by omega)
      rw [eb] at c1
      obtain ⟨y, hy⟩ : ∃ y : Nat, (b + 1) % 256 = y := ⟨_, rfl⟩
      have hyl : y < 256 := by omega
      have hyw : IntKind.u8.wrap ((b : Int) + 1) = (y : Int) := by rw [IntKind.wrap_u8]; omega
      have HOx : Hid (OwnInts .u8 5 (wr.setCell ⟨g, k, none⟩ (.int .u8 (y : Int))) w2.heap.size (.slice (some ⟨g, 0, none⟩) n c3) (ls.set k (y : Int))) := Lib.hid (ho.stored hl k (y : Int))
      have HBx : Hid (Below w2.heap.size w2 (wr.setCell ⟨g, k, none⟩ (.int .u8 (y : Int)))) := Lib.hid (hbb.setCell hgb _)
      have HLx : Hid ((ls.set k (y : Int)).length = n) := Lib.hid (by rw [List.length_set]; exact hl)
      have HWx : Hid (∀ z ∈ ls.set k (y : Int), (Lit.int .u8 z).wf = true) := Lib.hid (by
        intro z hz
        rcases List.mem_or_eq_of_mem_set hz with h1 | rfl
        · exact hwl z h1
        · exact byte_wf hyl)
      clear hy ho hl hwl hbb HH eb g2 g3 hgb
      go_wp2
      go_roundw
      case rel => exact ⟨k + 1, by omega, by go_num, Lib.hid ⟨⟨_, HLx.out, HWx.out, HOx.out⟩, HBx.out⟩⟩
      case measure => simp [intOf]; omega
    · have HBe : Hid (Below W.heap.size W wr) := Lib.hid (HB2.out.trans (HH.out.2.mono HB2.out.size))
      have S3 := Lib.hid (same_any A0 n c0 _ zs A2 n c2 _ zs wr HL.out HL.out (Lib.hid (HR.out.below HBe.out)) (Lib.hid (HI2.out.below HH.out.2)) HW HW)
      go_wp2_with (go_at_call 17; refine (S3.out).mono ?_; rintro e w' ⟨rfl, hw⟩; have hw2 := hw.symm; subst hw2; clear hw)
      go_ret
      exact ⟨ret_bool (by simp), HBe.out⟩

/-! ### the frame -/
theorem cells5 : Tryd.prog.cellsOf 5 = 1 := by kernel_rfl
theorem own : ownKnob Tryd.prog.godebug = none := by kernel_rfl
set_option maxRecDepth 100000 in
theorem calls {H : Type} {enc : TypeId × Value → H} (W : World) (base : Nat) (args : Array Value) (ds : List (DataW H)) (p : List MemPlace)
    (hval0 : ∀ (j : Nat) t v, Tryd.f9.params[j]? = some t → args[j]? = some v → Value.okWide Tryd.prog W .any base t v)
    (hA : DataW.TrodAll enc Tryd.prog W 0 (fun _ => true) true Tryd.f9.params.toList args.toList ds p) (_ : W.noneFrozen p)
    (hsz : (DataW.weightsEach Tryd.prog Tryd.f9.params.toList ds).all (· ≤ reachBytes) = true) (hL : laidMetH Tryd.prog Rows.crcBurstsRow.laid W) :
    Calls Tryd.prog 9 args W fun e W' => e = .returned (.bool true) ∧ Below W.heap.size W W' := by
  have hval : ∀ (j : Nat) t v, Tryd.f9.params[j]? = some t → args[j]? = some v → Value.okWide Tryd.prog W .any base t v := hval0
  clear hval0
  rw [Tryd.params9] at hA hval hsz
  obtain ⟨v0, vs0, d0, ds0, p0, q0, hargs, rfl, rfl, h0, r'0⟩ := trodAll_cons hA
  obtain ⟨v1, vs1, d1, ds1, p1, q1, rfl, rfl, rfl, h1, r'1⟩ := trodAll_cons r'0
  obtain ⟨v2, vs2, d2, ds2, p2, q2, rfl, rfl, rfl, h2, r'2⟩ := trodAll_cons r'1
  obtain ⟨rfl, rfl, rfl⟩ := trodAll_nil r'2
  obtain rfl : args = #[v0, v1, v2] := by cases args; simp_all
  obtain ⟨A0, n0, c0, z0, rfl, l0, b0, m0, s0, r0, w0⟩ := open_slice_ints (j := 0) (bytes := 1) Tryd.underlying22 Tryd.underlying5 cells5 (by kernel_rfl) (hval 0 22 v0 rfl rfl) h0 hsz rfl rfl
  obtain ⟨a1, rfl, rfl, rfl, w1⟩ := open_int Tryd.underlying3 (hval 1 3 v1 rfl rfl) h1
  obtain ⟨a2, rfl, rfl, rfl, w2⟩ := open_int Tryd.underlying25 (hval 2 25 v2 rfl rfl) h2
  exact walk (W := W) (Base.tabs hL) A0 n0 c0 z0 l0 b0 m0 s0 r0 w0 a1 w1 a2 w2
theorem laid_met (os : Os) : laidMet Tryd.prog Rows.crcBurstsRow.laid ((Base.laidWorld os).forCall (fun _ _ => 0) ⟨#[], #[.slice none 0 0, .int .i64 0, .int .u32 0], []⟩).memory := laidMet_of_run' 8 (by kernel_rfl) (by kernel_rfl)
theorem reads (os : Os) {H : Type} (enc : TypeId × Value → H) : ∃ places, DataW.whole enc Tryd.prog ((Base.laidWorld os).forCall (fun _ _ => 0) ⟨#[], #[.slice none 0 0, .int .i64 0, .int .u32 0], []⟩).memory Tryd.f9.params.toList Rows.crcBurstsSpec.vars false #[(Value.slice none 0 0), (Value.int .i64 0), (Value.int .u32 0)].toList 8 = some ([.nil, .lit (.int .i64 0), .lit (.int .u32 0)], [], places) := ⟨[], by kernel_rfl⟩
set_option maxRecDepth 100000 in
theorem lifted (os : Os) (started : os.Started) (H : Type) (enc : TypeId × Value → H) (F : Stop.Interp) :
    ReturnsInHanded {} Tryd.checked os 9 .any ((OpenSpec.ofChange Rows.crcBurstsSpec).preRow enc Tryd.prog Tryd.f9 Rows.crcBurstsRow.domain false Rows.crcBurstsRow.laid) (((OpenSpec.ofChange Rows.crcBurstsSpec).at F).post enc Tryd.prog Tryd.f9 false true false false) := by
  obtain ⟨places, hx⟩ := reads os enc
  exact laid_lifted (C := Tryd.checked) (s := Rows.crcBurstsSpec) (b := 4) own (by kernel_rfl) Tryd.func9 (by kernel_rfl) (by kernel_rfl) rfl Tryd.underlying4 rfl
    (fun ds h => by match ds, h with | [_, _, _], _ => rfl) calls os started F
    (witness_row_at (enc := enc) (C := Tryd.checked) false (Base.laidWorld os) #[.slice none 0 0, .int .i64 0, .int .u32 0] rfl (by kernel_rfl) (by kernel_rfl) (by kernel_rfl)
      (OpenSpec.preRow_of_cond 8 hx (by kernel_rfl) (fun k hk => by cases hk) (by kernel_rfl) (laid_met os)))
theorem said : Rows.CrcBurstsSaid :=
  OpenClaim.holds_of_cond 9 Tryd.f9 rfl rfl rfl rfl rfl rfl rfl ⟨rfl, rfl, rfl, rfl, rfl⟩ rfl rfl rfl rfl rfl (by kernel_rfl) Tryd.func9 (by kernel_rfl)
    (of_decide_eq_true (by kernel_rfl)) (by unfold Func.isWrapper; first | (rw [if_pos (by decide +kernel)]; kernel_rfl) | (rw [if_neg (by decide +kernel)]; exact ⟨rfl, rfl⟩))
    (fun os started H enc _ F => by rw [OpenClaim.pre_eq_preRow]; exact lifted os started H enc F)
theorem plain (f : FuncId) (fn : Func) (hf : Tryd.pinned.checked.prog.funcNamed "bedrock/bedrocklaw02.CrcBursts" = some f) (hfn : Tryd.pinned.checked.prog.funcs[f]? = some fn) :
    false = Tryd.pinned.checked.prog.looks [] ∧ ∀ (j : Nat) t, fn.params[j]? = some t → Tryd.pinned.checked.prog.wantsStandIn t = false := by
  obtain rfl : f = 9 := Option.some.inj ((show Tryd.prog.funcNamed "bedrock/bedrocklaw02.CrcBursts" = some 9 by kernel_rfl).symm.trans hf) |>.symm
  obtain rfl : fn = Tryd.f9 := (Option.some.inj (Tryd.func9.symm.trans hfn)).symm
  have hall : Tryd.f9.params.toList.all (fun t => !Tryd.prog.wantsStandIn t) = true := by kernel_rfl
  refine ⟨by kernel_rfl, fun j t ht => ?_⟩
  have := List.all_eq_true.1 hall t (by simpa using Array.mem_of_getElem? ht)
  exact (show Tryd.prog.wantsStandIn t = false by simpa using this)
/-- ████ THE STATEMENT: THE CARD ████ -/
theorem proved : Rows.CrcBurstsCardSaid :=
  Claim7.holds_tied_plain_at .later [] _ _ _ _ said (fun _ h => by cases h) (by kernel_rfl) (fun _ h => by cases h) crcBursts_row_tie rfl ⟨rfl, rfl⟩ (by kernel_rfl) rfl plain (by kernel_rfl)
#print axioms proved
end Go.Proofs.YtehojhgpgliemaaDoor.crcBursts
