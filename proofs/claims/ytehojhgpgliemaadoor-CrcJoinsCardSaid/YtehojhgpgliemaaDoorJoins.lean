/-
  PROVED: the law CrcJoins answers true for every input, and each argument reads behind the call as before (Rows.CrcJoinsCardSaid). No condition.
-/
import Derived.Test.YtehojhgpgliemaaDoorCards
import Derived.Test.YtehojhgpgliemaaDoorTie
import Derived.Test.YtehojhgpgliemaaDoorLaid
import Derived.Test.YtehojhgpgliemaaDoorLaw
import Derived.Test.YtehojhgpgliemaaDoorArgs
import Derived.Test.YtehojhgpgliemaaDoorCrcBase
import Derived.Test.YtehojhgpgliemaaDoorCrcLaid
import Derived.Test.YtehojhgpgliemaaDoorCrcOwn
import Derived.Test.YtehojhgpgliemaaDoorOwn
import Derived.Test.YtehojhgpgliemaaDoorCrcMul
namespace Go.Proofs.YtehojhgpgliemaaDoor.crcJoins
open Go.ChangeShapes Go.WideShapes Go.ChangeAt Go.RowKit Go.Proofs.YtehojhgpgliemaaDoor.Law Go.Proofs.YtehojhgpgliemaaDoor.Args Go.Proofs.YtehojhgpgliemaaDoor.Base
set_option linter.unusedVariables false
set_option linter.unusedSimpArgs false
open Go.Proofs.YtehojhgpgliemaaDoor.CrcMath Go.Proofs.YtehojhgpgliemaaDoor.Own
/-! ### the walk -/
theorem walk (W : World) (tb : Tab W) (A0 : Option Addr) (n0 c0 : Nat) (z0 : List Int) (l0 : z0.length = n0) (b0 : n0 ≤ c0) (m0 : c0 ≤ maxLen) (s0 : c0 * 1 ≤ 140737488351232) (r0 : IntsAt .u8 W W.heap.size A0 z0) (w0 : ∀ z ∈ z0, (Lit.int .u8 z).wf = true)
    (A1 : Option Addr) (n1 c1 : Nat) (z1 : List Int) (l1 : z1.length = n1) (b1 : n1 ≤ c1) (m1 : c1 ≤ maxLen) (s1 : c1 * 1 ≤ 140737488351232) (r1 : IntsAt .u8 W W.heap.size A1 z1) (w1 : ∀ z ∈ z1, (Lit.int .u8 z).wf = true) :
    Calls Tryd.prog 8 #[.slice A0 n0 c0, .slice A1 n1 c1] W fun e W' => e = .returned (.bool true) ∧ Below W.heap.size W W' := by
  have HT := Lib.hid tb
  have HC0 := cut_to A0 n0 c0 200 (min n0 200) 200 rfl rfl W b0 (by omega) (by omega)
  have HC1 := cut_to A1 n1 c1 200 (min n1 200) 200 rfl rfl W b1 (by omega) (by omega)
  have HR0 := Lib.hid (r0.take 200)
  have HR1 := Lib.hid (r1.take 200)
  have HW0 : Hid (∀ z ∈ z0.take 200, (Lit.int .u8 z).wf = true) := Lib.hid (fun z hz => w0 z (List.mem_of_mem_take hz))
  have HW1 : Hid (∀ z ∈ z1.take 200, (Lit.int .u8 z).wf = true) := Lib.hid (fun z hz => w1 z (List.mem_of_mem_take hz))
  have HL0 : Hid ((z0.take 200).length = min n0 200) := Lib.hid (by rw [List.length_take, l0]; omega)
  have HL1 : Hid ((z1.take 200).length = min n1 200) := Lib.hid (by rw [List.length_take, l1]; omega)
  obtain ⟨n, hn⟩ : ∃ n, min n0 200 = n := ⟨_, rfl⟩
  obtain ⟨m, hm⟩ : ∃ m, min n1 200 = m := ⟨_, rfl⟩
  obtain ⟨xs, hxs⟩ : ∃ zs, z0.take 200 = zs := ⟨_, rfl⟩
  obtain ⟨ys, hys⟩ : ∃ zs, z1.take 200 = zs := ⟨_, rfl⟩
  rw [hn] at HC0 HL0
  rw [hm] at HC1 HL1
  rw [hxs] at HR0 HW0 HL0
  rw [hys] at HR1 HW1 HL1
  have hn2 : n ≤ 200 := by omega
  have hm2 : m ≤ 200 := by omega
  have HD0 := Lib.hid HC0
  have HD1 := Lib.hid HC1
  clear tb r0 w0 l0 HC0 hn hxs r1 w1 l1 HC1 hm hys
  have EX : Hid (crcN 0 (xs ++ ys) = comb (crcN 0 xs) (crcN 0 ys) m) := Lib.hid (by rw [joins xs ys (bytes_range HW0.out) (bytes_range HW1.out)]; unfold comb; rw [HL1.out])
  have hcl := crcN_lt 0 xs
  have hcl2 := crcN_lt 0 ys
  obtain ⟨q, hq⟩ : ∃ q, crcN 0 xs = q := ⟨_, rfl⟩
  rw [hq] at EX hcl
  have HQ := Lib.hid hq
  obtain ⟨q2, hq2⟩ : ∃ q, crcN 0 ys = q := ⟨_, rfl⟩
  rw [hq2] at EX hcl2
  have HQ2 := Lib.hid hq2
  have HMM : Hid ((m : Int).toNat = m) := Lib.hid (Int.toNat_natCast m)
  clear hq hq2
  have HWW : Hid (∀ z ∈ xs ++ ys, (Lit.int .u8 z).wf = true) := Lib.hid (fun z hz => by rcases List.mem_append.1 hz with h | h; exact HW0.out z h; exact HW1.out z h)
  obtain ⟨i8, hi, hz0, hz1, hz2⟩ := info_parts info8
  have HI := Lib.hid hi
  have HZ0 := Lib.hid hz0
  have HZ1 := Lib.hid hz1
  have HZ2 := Lib.hid hz2
  clear hi hz0 hz1 hz2
  go_enter Tryd.func8, Tryd.ntmps8
  go_wp2_with (first
    | (go_at_call 13; ((with_reducible refine (HD0.out).mono ?_); rintro e w' ⟨rfl, rfl⟩))
    | (go_at_call 13; ((with_reducible refine (HD1.out).mono ?_); rintro e w' ⟨rfl, rfl⟩)))
  go_at_call 14; refine (awake_any W HT).mono ?_; rintro e w1 ⟨rfl, hb⟩
  have HB := Lib.hid hb
  have HT1 := Lib.hid (HT.out.below hb)
  have HX := Lib.hid (HR0.out.below hb)
  have HY := Lib.hid (HR1.out.below hb)
  have HO0 := Lib.hid (OwnInts.empty .u8 5 w1 hb.size)
  have ha0 : Below w1.heap.size w1 (w1.alloc (.cells #[] 5)) := (Below.refl _ _).alloc (Nat.le_refl _) _
  have HB1 := Lib.hid (hb.trans (ha0.mono hb.size))
  have HA0 := Lib.hid (ha0.mono hb.size)
  clear hb ha0
  go_wp2_with (first
    | (go_at_call 15; ((with_reducible refine (sum_any A0 n c0 _ xs _ HL0.out (by omega) HT1 HX HW0).mono ?_); rintro e w' ⟨rfl, k1, rfl⟩; rw [HQ.out]))
    | (go_at_call 15; ((with_reducible refine (sum_any A1 m c1 _ ys _ HL1.out (by omega) (Lib.hid (HT1.out.drewN _)) (Lib.hid (HY.out.drewN _)) HW1).mono ?_); rintro e w' ⟨rfl, k2, rfl⟩; rw [HQ2.out]))
    | (go_at_call 23; ((with_reducible refine (combine_any q q2 (m : Int) _ hcl hcl2 (by omega)).mono ?_); rintro e w' ⟨rfl, rfl⟩; rw [HMM.out]))
    | (at_builtin; refine wpList_app (by simp [Region.wanted, yielded]) (.tmp 18) (.tmp 19) 22 rfl (v := .slice (some ⟨w1.heap.size, 0, none⟩) 0 0) (B := W.heap.size) (c := c0) (zs := xs) Tryd.underlying22 HI.out HZ0.out HZ1.out HZ2.out rfl rfl (HO0.out.drewN _) rfl ((HX.out.below HA0.out).drewN _) HL0.out (by simp [maxLen]; omega) (by simp; omega) HB1.out.size ?_; intro v2 w2 ho2 hg2 ha2; have hb2 := Lib.hid (((below_draws (Below.refl W.heap.size w1) (k1 + k2)).alloc HB.out.size _).trans ((HO0.out.drewN (k1 + k2)).grownBelow hg2 HB1.out.size)); have HO2 := Lib.hid ho2; clear ho2 hg2 ha2)
    | (at_builtin; refine wpList_app (by simp [Region.wanted, yielded]) (.tmp 20) (.tmp 21) 22 rfl (v := v2) (B := W.heap.size) (c := c1) (zs := ys) Tryd.underlying22 HI.out HZ0.out HZ1.out HZ2.out rfl rfl HO2.out rfl (HY.out.below hb2.out) HL1.out (by rw [List.nil_append, HL0.out]; simp [maxLen]; omega) (by rw [List.nil_append, HL0.out]; omega) (Nat.le_trans HB.out.size hb2.out.size) ?_; intro v3 w3 ho3 hg3 ha3))
  rw [List.nil_append] at ho3
  have hb3 := HB.out.trans (hb2.out.trans (HO2.out.grownBelow hg3 (Nat.le_trans HB.out.size hb2.out.size)))
  obtain ⟨A3, c3, rfl, hn3, hc3, _, hi3⟩ := ho3.form
  have U3 := Lib.hid (sum_any A3 (xs ++ ys).length c3 _ (xs ++ ys) w3 rfl (by rw [List.length_append, HL0.out, HL1.out]; omega) (Lib.hid (HT.out.below hb3)) (Lib.hid hi3) HWW)
  have HB3 := Lib.hid hb3
  clear hg3 ha3 ho3 hb3 hn3 hc3 hi3
  go_wp2_with (go_at_call 15; refine (U3.out).mono ?_; rintro e w' ⟨rfl, k3, rfl⟩; rw [EX.out])
  go_ret
  exact ⟨ret_bool (by simp), below_draws HB3.out _⟩

/-! ### the frame -/
theorem cells5 : Tryd.prog.cellsOf 5 = 1 := by kernel_rfl
theorem own : ownKnob Tryd.prog.godebug = none := by kernel_rfl
set_option maxRecDepth 100000 in
theorem calls {H : Type} {enc : TypeId × Value → H} (W : World) (base : Nat) (args : Array Value) (ds : List (DataW H)) (p : List MemPlace)
    (hval0 : ∀ (j : Nat) t v, Tryd.f8.params[j]? = some t → args[j]? = some v → Value.okWide Tryd.prog W .any base t v)
    (hA : DataW.TrodAll enc Tryd.prog W 0 (fun _ => true) true Tryd.f8.params.toList args.toList ds p) (_ : W.noneFrozen p)
    (hsz : (DataW.weightsEach Tryd.prog Tryd.f8.params.toList ds).all (· ≤ reachBytes) = true) (hL : laidMetH Tryd.prog Rows.crcJoinsRow.laid W) :
    Calls Tryd.prog 8 args W fun e W' => e = .returned (.bool true) ∧ Below W.heap.size W W' := by
  have hval : ∀ (j : Nat) t v, Tryd.f8.params[j]? = some t → args[j]? = some v → Value.okWide Tryd.prog W .any base t v := hval0
  clear hval0
  rw [Tryd.params8] at hA hval hsz
  obtain ⟨v0, vs0, d0, ds0, p0, q0, hargs, rfl, rfl, h0, r'0⟩ := trodAll_cons hA
  obtain ⟨v1, vs1, d1, ds1, p1, q1, rfl, rfl, rfl, h1, r'1⟩ := trodAll_cons r'0
  obtain ⟨rfl, rfl, rfl⟩ := trodAll_nil r'1
  obtain rfl : args = #[v0, v1] := by cases args; simp_all
  obtain ⟨A0, n0, c0, z0, rfl, l0, b0, m0, s0, r0, w0⟩ := open_slice_ints (j := 0) (bytes := 1) Tryd.underlying22 Tryd.underlying5 cells5 (by kernel_rfl) (hval 0 22 v0 rfl rfl) h0 hsz rfl rfl
  obtain ⟨A1, n1, c1, z1, rfl, l1, b1, m1, s1, r1, w1⟩ := open_slice_ints (j := 1) (bytes := 1) Tryd.underlying22 Tryd.underlying5 cells5 (by kernel_rfl) (hval 1 22 v1 rfl rfl) h1 hsz rfl rfl
  exact walk (W := W) (Base.tabs hL) A0 n0 c0 z0 l0 b0 m0 s0 r0 w0 A1 n1 c1 z1 l1 b1 m1 s1 r1 w1
theorem laid_met (os : Os) : laidMet Tryd.prog Rows.crcJoinsRow.laid ((Base.laidWorld os).forCall (fun _ _ => 0) ⟨#[], #[.slice none 0 0, .slice none 0 0], []⟩).memory := laidMet_of_run' 8 (by kernel_rfl) (by kernel_rfl)
theorem reads (os : Os) {H : Type} (enc : TypeId × Value → H) : ∃ places, DataW.whole enc Tryd.prog ((Base.laidWorld os).forCall (fun _ _ => 0) ⟨#[], #[.slice none 0 0, .slice none 0 0], []⟩).memory Tryd.f8.params.toList Rows.crcJoinsSpec.vars false #[(Value.slice none 0 0), (Value.slice none 0 0)].toList 8 = some ([.nil, .nil], [], places) := ⟨[], by kernel_rfl⟩
set_option maxRecDepth 100000 in
theorem lifted (os : Os) (started : os.Started) (H : Type) (enc : TypeId × Value → H) (F : Stop.Interp) :
    ReturnsInHanded {} Tryd.checked os 8 .any ((OpenSpec.ofChange Rows.crcJoinsSpec).preRow enc Tryd.prog Tryd.f8 Rows.crcJoinsRow.domain false Rows.crcJoinsRow.laid) (((OpenSpec.ofChange Rows.crcJoinsSpec).at F).post enc Tryd.prog Tryd.f8 false true false false) := by
  obtain ⟨places, hx⟩ := reads os enc
  exact laid_lifted (C := Tryd.checked) (s := Rows.crcJoinsSpec) (b := 4) own (by kernel_rfl) Tryd.func8 (by kernel_rfl) (by kernel_rfl) rfl Tryd.underlying4 rfl
    (fun ds h => by match ds, h with | [_, _], _ => rfl) calls os started F
    (witness_row_at (enc := enc) (C := Tryd.checked) false (Base.laidWorld os) #[.slice none 0 0, .slice none 0 0] rfl (by kernel_rfl) (by kernel_rfl) (by kernel_rfl)
      (OpenSpec.preRow_of_cond 8 hx (by kernel_rfl) (fun k hk => by cases hk) (by kernel_rfl) (laid_met os)))
theorem said : Rows.CrcJoinsSaid :=
  OpenClaim.holds_of_cond 8 Tryd.f8 rfl rfl rfl rfl rfl rfl rfl ⟨rfl, rfl, rfl, rfl, rfl⟩ rfl rfl rfl rfl rfl (by kernel_rfl) Tryd.func8 (by kernel_rfl)
    (of_decide_eq_true (by kernel_rfl)) (by unfold Func.isWrapper; first | (rw [if_pos (by decide +kernel)]; kernel_rfl) | (rw [if_neg (by decide +kernel)]; exact ⟨rfl, rfl⟩))
    (fun os started H enc _ F => by rw [OpenClaim.pre_eq_preRow]; exact lifted os started H enc F)
theorem plain (f : FuncId) (fn : Func) (hf : Tryd.pinned.checked.prog.funcNamed "bedrock/bedrocklaw02.CrcJoins" = some f) (hfn : Tryd.pinned.checked.prog.funcs[f]? = some fn) :
    false = Tryd.pinned.checked.prog.looks [] ∧ ∀ (j : Nat) t, fn.params[j]? = some t → Tryd.pinned.checked.prog.wantsStandIn t = false := by
  obtain rfl : f = 8 := Option.some.inj ((show Tryd.prog.funcNamed "bedrock/bedrocklaw02.CrcJoins" = some 8 by kernel_rfl).symm.trans hf) |>.symm
  obtain rfl : fn = Tryd.f8 := (Option.some.inj (Tryd.func8.symm.trans hfn)).symm
  have hall : Tryd.f8.params.toList.all (fun t => !Tryd.prog.wantsStandIn t) = true := by kernel_rfl
  refine ⟨by kernel_rfl, fun j t ht => ?_⟩
  have := List.all_eq_true.1 hall t (by simpa using Array.mem_of_getElem? ht)
  exact (show Tryd.prog.wantsStandIn t = false by simpa using this)
/-- ████ THE STATEMENT: THE CARD ████ -/
theorem proved : Rows.CrcJoinsCardSaid :=
  Claim7.holds_tied_plain_at .later [] _ _ _ _ said (fun _ h => by cases h) (by kernel_rfl) (fun _ h => by cases h) crcJoins_row_tie rfl ⟨rfl, rfl⟩ (by kernel_rfl) rfl plain (by kernel_rfl)
#print axioms proved
end Go.Proofs.YtehojhgpgliemaaDoor.crcJoins
