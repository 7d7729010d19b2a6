/-
  PROVED: the law CrcLinear answers true for every input, and each argument reads behind the call as before (Rows.CrcLinearCardSaid). No condition.
-/
import Derived.Test.YtehojhgpgliemaaDoorCards
import Derived.Test.YtehojhgpgliemaaDoorTie
import Derived.Test.YtehojhgpgliemaaDoorLaid
import Derived.Test.YtehojhgpgliemaaDoorLaw
import Derived.Test.YtehojhgpgliemaaDoorArgs
import Derived.Test.YtehojhgpgliemaaDoorLinMath
import Derived.Test.YtehojhgpgliemaaDoorCrcLaid
namespace Go.Proofs.YtehojhgpgliemaaDoor.crcLinear
open Go.ChangeShapes Go.WideShapes Go.ChangeAt Go.RowKit Go.Proofs.YtehojhgpgliemaaDoor.Law Go.Proofs.YtehojhgpgliemaaDoor.Args Go.Proofs.YtehojhgpgliemaaDoor.Base
set_option linter.unusedVariables false
set_option linter.unusedSimpArgs false
open Go.Proofs.YtehojhgpgliemaaDoor.CrcMath Go.Proofs.YtehojhgpgliemaaDoor.Own
/-! ### the walk -/
theorem walk (W : World) (tb : Tab W) (A0 : Option Addr) (n0 c0 : Nat) (z0 : List Int) (l0 : z0.length = n0) (b0 : n0 ≤ c0) (m0 : c0 ≤ maxLen) (s0 : c0 * 1 ≤ 140737488351232) (r0 : IntsAt .u8 W W.heap.size A0 z0) (w0 : ∀ z ∈ z0, (Lit.int .u8 z).wf = true)
    (A1 : Option Addr) (n1 c1 : Nat) (z1 : List Int) (l1 : z1.length = n1) (b1 : n1 ≤ c1) (m1 : c1 ≤ maxLen) (s1 : c1 * 1 ≤ 140737488351232) (r1 : IntsAt .u8 W W.heap.size A1 z1) (w1 : ∀ z ∈ z1, (Lit.int .u8 z).wf = true)
    (A2 : Option Addr) (n2 c2 : Nat) (z2 : List Int) (l2 : z2.length = n2) (b2 : n2 ≤ c2) (m2 : c2 ≤ maxLen) (s2 : c2 * 1 ≤ 140737488351232) (r2 : IntsAt .u8 W W.heap.size A2 z2) (w2 : ∀ z ∈ z2, (Lit.int .u8 z).wf = true) :
    Calls Tryd.prog 11 #[.slice A0 n0 c0, .slice A1 n1 c1, .slice A2 n2 c2] W fun e W' => e = .returned (.bool true) ∧ Below W.heap.size W W' := by
  obtain ⟨n, hmn⟩ : ∃ n, min (min (min n0 n1) n2) 200 = n := ⟨_, rfl⟩
  have HM : (Builtin.min_ #[3, 3, 3, 3] 3 #[.int .i64 (n0 : Int), .int .i64 (n1 : Int), .int .i64 (n2 : Int), .int .i64 200]).run Tryd.prog W = .ok (.int .i64 (n : Int)) W := run_min4 _ _ n0 n1 n2 200 n hmn
  have hn0 : n ≤ n0 := by omega
  have hn1 : n ≤ n1 := by omega
  have hn2 : n ≤ n2 := by omega
  have hn200 : n ≤ 200 := by omega
  have hc0 : n ≤ c0 := by omega
  have hc1 : n ≤ c1 := by omega
  have hc2 : n ≤ c2 := by omega
  have H0 := Lib.hid (r0.take n)
  have H1 := Lib.hid (r1.take n)
  have H2 := Lib.hid (r2.take n)
  have W0 : Hid (∀ z ∈ z0.take n, (Lit.int .u8 z).wf = true) := Lib.hid fun z hz => w0 z (List.mem_of_mem_take hz)
  have W1 : Hid (∀ z ∈ z1.take n, (Lit.int .u8 z).wf = true) := Lib.hid fun z hz => w1 z (List.mem_of_mem_take hz)
  have W2 : Hid (∀ z ∈ z2.take n, (Lit.int .u8 z).wf = true) := Lib.hid fun z hz => w2 z (List.mem_of_mem_take hz)
  have L0 : Hid ((z0.take n).length = n) := Lib.hid (by rw [List.length_take]; omega)
  have L1 : Hid ((z1.take n).length = n) := Lib.hid (by rw [List.length_take]; omega)
  have L2 : Hid ((z2.take n).length = n) := Lib.hid (by rw [List.length_take]; omega)
  obtain ⟨xs, hxs⟩ : ∃ xs, z0.take n = xs := ⟨_, rfl⟩
  obtain ⟨ys, hys⟩ : ∃ ys, z1.take n = ys := ⟨_, rfl⟩
  obtain ⟨zs, hzs⟩ : ∃ zs, z2.take n = zs := ⟨_, rfl⟩
  rw [hxs] at H0 W0 L0
  rw [hys] at H1 W1 L1
  rw [hzs] at H2 W2 L2
  have HT := Lib.hid tb
  obtain ⟨i0, hi, hz0, hz1, hz2⟩ := info_parts info8
  have HI := Lib.hid hi
  have HZ0 := Lib.hid hz0
  have HZ1 := Lib.hid hz1
  have HZ2 := Lib.hid hz2
  clear hi hz0 hz1 hz2 hxs hys hzs r0 r1 r2 w0 w1 w2 s0 s1 s2 l0 l1 l2 hmn tb
  go_enter Tryd.func11, Tryd.ntmps11
  go_wp2_with (first
    | (at_make; refine wpList_make_full _ rfl _ _ 22 rfl W.heap.size 5 i0 (.int .u8 0) 1 Tryd.underlying22 HI.out HZ0.out HZ1.out .i64 .i64 (n : Int) (n : Int) n rfl rfl rfl rfl (by rw [HZ2.out]; omega) (by simp [maxLen]; omega) (Nat.le_refl _) ?_; intro w1 ho1 hg1))
  have HO0 : Hid (OwnInts .u8 5 w1 W.heap.size (.slice (some ⟨W.heap.size, 0, none⟩) n n) (xto xs ys zs n 0) ∧ Below W.heap.size W w1) := Lib.hid ⟨by rw [xto_zero]; exact OwnInts.made ho1, (Below.refl _ _).grown hg1 (Nat.le_refl _) (fun k hk => by cases hk)⟩
  clear ho1 hg1 HM
  go_loopw [21] (fun i wr => ∃ k : Nat, k ≤ n ∧ i = .int .i64 k ∧ Hid (OwnInts .u8 5 wr W.heap.size (.slice (some ⟨W.heap.size, 0, none⟩) n n) (xto xs ys zs n k) ∧ Below W.heap.size W wr)) (fun i _ => n - (intOf i).toNat)
  case atStart => exact ⟨0, by omega, rfl, HO0⟩
  case round =>
    obtain ⟨k, hk, rfl, HO⟩ := hrel
    by_cases hlt : k < n
    · obtain ⟨a0, rfl, _, e0⟩ := (H0.out.below HO.out.2) k (by rw [L0.out]; exact hlt)
      obtain ⟨a1, rfl, _, e1⟩ := (H1.out.below HO.out.2) k (by rw [L1.out]; exact hlt)
      obtain ⟨a2, rfl, _, e2⟩ := (H2.out.below HO.out.2) k (by rw [L2.out]; exact hlt)
      obtain ⟨x, hx, ex⟩ := byte_at W0.out (k := k) (by rw [L0.out]; exact hlt)
      obtain ⟨y, hy, ey⟩ := byte_at W1.out (k := k) (by rw [L1.out]; exact hlt)
      obtain ⟨z, hz, ez⟩ := byte_at W2.out (k := k) (by rw [L2.out]; exact hlt)
      rw [ex] at e0
      rw [ey] at e1
      rw [ez] at e2
      obtain ⟨f1, f2⟩ := HO.out.1.cell k (by rw [xto_len _ _ _ _ _ hk]; exact hlt)
      have HS := Lib.hid (xto_step xs ys zs n k hlt)
      have hxy := u8_xor_nat x y hx hy
      have hxyl : x ^^^ y < 256 := xor_lt 8 hx hy
      have HB := Lib.hid (xb_lt xs ys zs k hx hy hz ex ey ez)
      obtain ⟨q, hq⟩ : ∃ q, x ^^^ y = q := ⟨_, rfl⟩
      rw [hq] at hxy hxyl HB
      have hqz := u8_xor_nat q z hxyl hz
      obtain ⟨t, ht⟩ : ∃ t, q ^^^ z = t := ⟨_, rfl⟩
      rw [ht] at HB hqz
      rw [HB.out] at HS
      have hn0k : k < n0 := by omega
      have hn1k : k < n1 := by omega
      have hn2k : k < n2 := by omega
      have HOx := Lib.hid ((show OwnInts .u8 5 wr.drew _ _ _ from HO.out.1).stored (xto_len _ _ _ _ _ hk) k (t : Int))
      have HBx : Hid (Below W.heap.size W (wr.drew.setCell ⟨W.heap.size, k, none⟩ (.int .u8 (t : Int)))) := Lib.hid (HO.out.2.drew.setCell (Nat.le_refl _) _)
      rw [HS.out] at HOx
      have hf2 : wr.drew.frozen? ⟨W.heap.size, k, none⟩ = false := f2
      have hc2 := (show wr.drew.cell? ⟨W.heap.size, k, none⟩ = _ from f1)
      clear f1 f2 hq ht ex ey ez
      go_wp2
      go_still_tail 17, (by kernel_rfl)
      repeat still_step
      try refine wpStill_nil ?_
      change wpList _ _ _ _ _ wr.drew
      generalize wr.drew = wd at *
      clear e0 e1 e2 HO hxy hqz
      go_wp2
      go_roundw
      case rel => exact ⟨k + 1, by omega, by go_num, Lib.hid ⟨HOx.out, HBx.out⟩⟩
      case measure => simp [intOf]; omega
    · have hkn : k = n := by omega
      subst hkn
      have HO1 := HO
      rw [xto_full] at HO1
      have HV := Lib.hid (linear xs ys zs k L0.out L1.out L2.out (bytes_range W0.out) (bytes_range W1.out) (bytes_range W2.out))
      clear HO HO0
      obtain ⟨A3, c3, e3, _, _, _, hi3⟩ := HO1.out.1.form
      rw [xr_len] at e3
      injection e3 with e31 e32 e33
      subst e31
      have H3 := Lib.hid hi3
      have L3 := Lib.hid (xr_len xs ys zs k)
      have W3 : Hid (∀ z ∈ xr xs ys zs k, (Lit.int .u8 z).wf = true) := Lib.hid (xr_wf W0.out W1.out W2.out k)
      have HB1 := Lib.hid HO1.out.2
      clear HO1 hi3 e33 e32
      go_wp2
      have hx1 : Below W.heap.size W wr.drew := HB1.out.drew
      have hx2 : Below wr.heap.size wr wr.drew := (Below.refl _ _).drew
      go_region_held3 (fun w' => Below W.heap.size W w' ∧ Below wr.heap.size wr w') ((first | assumption | (constructor <;> assumption)))
        (first
          | (go_at_call 14; refine (awake_any _ (Lib.hid (HT.out.below (by assumption)))).mono ?_; rintro e w' ⟨rfl, hb⟩; have hS2 := held_on (A := W) (B := wr) ⟨by assumption, by assumption⟩ hb)
          | (go_at_call_of 15 (Value.slice A0 k c0); refine (sum_any _ _ _ _ _ _ L0.out (by omega) (Lib.hid (HT.out.below (‹Below W.heap.size W _ ∧ Below wr.heap.size wr _›).1)) (Lib.hid (H0.out.below (‹Below W.heap.size W _ ∧ Below wr.heap.size wr _›).1)) W0).mono ?_; rintro e w' ⟨rfl, m, hw⟩; have hS2 : Below W.heap.size W w' ∧ Below wr.heap.size wr w' := (by rw [hw]; exact held_draws ‹Below W.heap.size W _ ∧ Below wr.heap.size wr _› m); clear hw)
          | (go_at_call_of 15 (Value.slice A1 k c1); refine (sum_any _ _ _ _ _ _ L1.out (by omega) (Lib.hid (HT.out.below (‹Below W.heap.size W _ ∧ Below wr.heap.size wr _›).1)) (Lib.hid (H1.out.below (‹Below W.heap.size W _ ∧ Below wr.heap.size wr _›).1)) W1).mono ?_; rintro e w' ⟨rfl, m, hw⟩; have hS2 : Below W.heap.size W w' ∧ Below wr.heap.size wr w' := (by rw [hw]; exact held_draws ‹Below W.heap.size W _ ∧ Below wr.heap.size wr _› m); clear hw)
          | (go_at_call_of 15 (Value.slice A2 k c2); refine (sum_any _ _ _ _ _ _ L2.out (by omega) (Lib.hid (HT.out.below (‹Below W.heap.size W _ ∧ Below wr.heap.size wr _›).1)) (Lib.hid (H2.out.below (‹Below W.heap.size W _ ∧ Below wr.heap.size wr _›).1)) W2).mono ?_; rintro e w' ⟨rfl, m, hw⟩; have hS2 : Below W.heap.size W w' ∧ Below wr.heap.size wr w' := (by rw [hw]; exact held_draws ‹Below W.heap.size W _ ∧ Below wr.heap.size wr _› m); clear hw)
          | (go_at_call_of 15 (Value.slice (some ⟨W.heap.size, 0, none⟩) k k); refine (sum_any _ _ _ _ _ _ L3.out (by omega) (Lib.hid (HT.out.below (‹Below W.heap.size W _ ∧ Below wr.heap.size wr _›).1)) (Lib.hid (H3.out.below (‹Below W.heap.size W _ ∧ Below wr.heap.size wr _›).2)) W3).mono ?_; rintro e w' ⟨rfl, m, hw⟩; have hS2 : Below W.heap.size W w' ∧ Below wr.heap.size wr w' := (by rw [hw]; exact held_draws ‹Below W.heap.size W _ ∧ Below wr.heap.size wr _› m); clear hw))
      go_wp2
      go_ret
      exact ⟨ret_bool (by
        have c0 := crcN_lt 0 xs
        have c1 := crcN_lt 0 ys
        have c2 := crcN_lt 0 zs
        rw [u32_xor_nat _ _ (by omega) (by omega), u32_xor_nat _ _ (xor_lt 32 c0 c1) (by omega), HV.out]; simp), hS2.1⟩

/-! ### the frame -/
theorem cells5 : Tryd.prog.cellsOf 5 = 1 := by kernel_rfl
theorem own : ownKnob Tryd.prog.godebug = none := by kernel_rfl
set_option maxRecDepth 100000 in
theorem calls {H : Type} {enc : TypeId × Value → H} (W : World) (base : Nat) (args : Array Value) (ds : List (DataW H)) (p : List MemPlace)
    (hval0 : ∀ (j : Nat) t v, Tryd.f11.params[j]? = some t → args[j]? = some v → Value.okWide Tryd.prog W .any base t v)
    (hA : DataW.TrodAll enc Tryd.prog W 0 (fun _ => true) true Tryd.f11.params.toList args.toList ds p) (_ : W.noneFrozen p)
    (hsz : (DataW.weightsEach Tryd.prog Tryd.f11.params.toList ds).all (· ≤ reachBytes) = true) (hL : laidMetH Tryd.prog Rows.crcLinearRow.laid W) :
    Calls Tryd.prog 11 args W fun e W' => e = .returned (.bool true) ∧ Below W.heap.size W W' := by
  have hval : ∀ (j : Nat) t v, Tryd.f11.params[j]? = some t → args[j]? = some v → Value.okWide Tryd.prog W .any base t v := hval0
  clear hval0
  rw [Tryd.params11] at hA hval hsz
  obtain ⟨v0, vs0, d0, ds0, p0, q0, hargs, rfl, rfl, h0, r'0⟩ := trodAll_cons hA
  obtain ⟨v1, vs1, d1, ds1, p1, q1, rfl, rfl, rfl, h1, r'1⟩ := trodAll_cons r'0
  obtain ⟨v2, vs2, d2, ds2, p2, q2, rfl, rfl, rfl, h2, r'2⟩ := trodAll_cons r'1
  obtain ⟨rfl, rfl, rfl⟩ := trodAll_nil r'2
  obtain rfl : args = #[v0, v1, v2] := by cases args; simp_all
  obtain ⟨A0, n0, c0, z0, rfl, l0, b0, m0, s0, r0, w0⟩ := open_slice_ints (j := 0) (bytes := 1) Tryd.underlying22 Tryd.underlying5 cells5 (by kernel_rfl) (hval 0 22 v0 rfl rfl) h0 hsz rfl rfl
  obtain ⟨A1, n1, c1, z1, rfl, l1, b1, m1, s1, r1, w1⟩ := open_slice_ints (j := 1) (bytes := 1) Tryd.underlying22 Tryd.underlying5 cells5 (by kernel_rfl) (hval 1 22 v1 rfl rfl) h1 hsz rfl rfl
  obtain ⟨A2, n2, c2, z2, rfl, l2, b2, m2, s2, r2, w2⟩ := open_slice_ints (j := 2) (bytes := 1) Tryd.underlying22 Tryd.underlying5 cells5 (by kernel_rfl) (hval 2 22 v2 rfl rfl) h2 hsz rfl rfl
  exact walk (W := W) (Base.tabs hL) A0 n0 c0 z0 l0 b0 m0 s0 r0 w0 A1 n1 c1 z1 l1 b1 m1 s1 r1 w1 A2 n2 c2 z2 l2 b2 m2 s2 r2 w2
theorem laid_met (os : Os) : laidMet Tryd.prog Rows.crcLinearRow.laid ((Base.laidWorld os).forCall (fun _ _ => 0) ⟨#[], #[.slice none 0 0, .slice none 0 0, .slice none 0 0], []⟩).memory := laidMet_of_run' 8 (by kernel_rfl) (by kernel_rfl)
theorem reads (os : Os) {H : Type} (enc : TypeId × Value → H) : ∃ places, DataW.whole enc Tryd.prog ((Base.laidWorld os).forCall (fun _ _ => 0) ⟨#[], #[.slice none 0 0, .slice none 0 0, .slice none 0 0], []⟩).memory Tryd.f11.params.toList Rows.crcLinearSpec.vars false #[(Value.slice none 0 0), (Value.slice none 0 0), (Value.slice none 0 0)].toList 8 = some ([.nil, .nil, .nil], [], places) := ⟨[], by kernel_rfl⟩
set_option maxRecDepth 100000 in
theorem lifted (os : Os) (started : os.Started) (H : Type) (enc : TypeId × Value → H) (F : Stop.Interp) :
    ReturnsInHanded {} Tryd.checked os 11 .any ((OpenSpec.ofChange Rows.crcLinearSpec).preRow enc Tryd.prog Tryd.f11 Rows.crcLinearRow.domain false Rows.crcLinearRow.laid) (((OpenSpec.ofChange Rows.crcLinearSpec).at F).post enc Tryd.prog Tryd.f11 false true false false) := by
  obtain ⟨places, hx⟩ := reads os enc
  exact laid_lifted (C := Tryd.checked) (s := Rows.crcLinearSpec) (b := 4) own (by kernel_rfl) Tryd.func11 (by kernel_rfl) (by kernel_rfl) rfl Tryd.underlying4 rfl
    (fun ds h => by match ds, h with | [_, _, _], _ => rfl) calls os started F
    (witness_row_at (enc := enc) (C := Tryd.checked) false (Base.laidWorld os) #[.slice none 0 0, .slice none 0 0, .slice none 0 0] rfl (by kernel_rfl) (by kernel_rfl) (by kernel_rfl)
      (OpenSpec.preRow_of_cond 8 hx (by kernel_rfl) (fun k hk => by cases hk) (by kernel_rfl) (laid_met os)))
theorem said : Rows.CrcLinearSaid :=
  OpenClaim.holds_of_cond 11 Tryd.f11 rfl rfl rfl rfl rfl rfl rfl ⟨rfl, rfl, rfl, rfl, rfl⟩ rfl rfl rfl rfl rfl (by kernel_rfl) Tryd.func11 (by kernel_rfl)
    (of_decide_eq_true (by kernel_rfl)) (by unfold Func.isWrapper; first | (rw [if_pos (by decide +kernel)]; kernel_rfl) | (rw [if_neg (by decide +kernel)]; exact ⟨rfl, rfl⟩))
    (fun os started H enc _ F => by rw [OpenClaim.pre_eq_preRow]; exact lifted os started H enc F)
theorem plain (f : FuncId) (fn : Func) (hf : Tryd.pinned.checked.prog.funcNamed "bedrock/bedrocklaw02.CrcLinear" = some f) (hfn : Tryd.pinned.checked.prog.funcs[f]? = some fn) :
    false = Tryd.pinned.checked.prog.looks [] ∧ ∀ (j : Nat) t, fn.params[j]? = some t → Tryd.pinned.checked.prog.wantsStandIn t = false := by
  obtain rfl : f = 11 := Option.some.inj ((show Tryd.prog.funcNamed "bedrock/bedrocklaw02.CrcLinear" = some 11 by kernel_rfl).symm.trans hf) |>.symm
  obtain rfl : fn = Tryd.f11 := (Option.some.inj (Tryd.func11.symm.trans hfn)).symm
  have hall : Tryd.f11.params.toList.all (fun t => !Tryd.prog.wantsStandIn t) = true := by kernel_rfl
  refine ⟨by kernel_rfl, fun j t ht => ?_⟩
  have := List.all_eq_true.1 hall t (by simpa using Array.mem_of_getElem? ht)
  exact (show Tryd.prog.wantsStandIn t = false by simpa using this)
/-- ████ THE STATEMENT: THE CARD ████ -/
theorem proved : Rows.CrcLinearCardSaid :=
  Claim7.holds_tied_plain_at .later [] _ _ _ _ said (fun _ h => by cases h) (by kernel_rfl) (fun _ h => by cases h) crcLinear_row_tie rfl ⟨rfl, rfl⟩ (by kernel_rfl) rfl plain (by kernel_rfl)
#print axioms proved
end Go.Proofs.YtehojhgpgliemaaDoor.crcLinear
