/-
  PROVED: the law WordMixDiffers answers true for every input (Rows.WordMixDiffersSaid). No condition.
-/
import Derived.Test.YtgfiddjlbjlolaaRows
import Derived.WalkKit
import Derived.ProofKit
import Derived.OpenShut
import Derived.Test.YtgfiddjlbjlolaaAwake
namespace Go.Proofs.Ytgfiddjlbjlolaa.wordMixDiffers
open Go.ChangeShapes Go.WideShapes Go.ChangeAt Go.RowKit Go.Proofs.Ytgfiddjlbjlolaa.Base
set_option linter.unusedVariables false      -- a walk need not use every 'w<i>' (that an integer argument fits its kind)

theorem own : ownKnob Try.prog.godebug = none := by kernel_rfl

/-! ### the mathematics: over integers -/
def xsZ (k x : Int) : Int := bits .xor .u64 x (x / k)
def mlZ (c x : Int) : Int := IntKind.u64.wrap (x * c)
def mixZ (x : Int) : Int := xsZ 2147483648 (mlZ 10723151780598845931 (xsZ 134217728 (mlZ 13787848793156543929 (xsZ 1073741824 x))))
theorem xs_nat (j X Y : Nat) (hj : 1 ≤ j) (h : X ^^^ X / 2 ^ j = Y ^^^ Y / 2 ^ j) : X = Y := by
  have e : X ^^^ Y = (X ^^^ Y) / 2 ^ j := by
    have d : (X ^^^ Y) / 2 ^ j = X / 2 ^ j ^^^ Y / 2 ^ j := Nat.xor_div_two_pow
    rw [d]
    have h2 : (X ^^^ X / 2 ^ j) ^^^ (X / 2 ^ j ^^^ Y) = (Y ^^^ Y / 2 ^ j) ^^^ (X / 2 ^ j ^^^ Y) := by rw [h]
    apply Nat.eq_of_testBit_eq
    intro i
    have h3 := congrArg (fun z => z.testBit i) h
    simp only [Nat.testBit_xor] at h3 ⊢
    revert h3
    cases X.testBit i <;> cases Y.testBit i <;> cases (X / 2 ^ j).testBit i <;> cases (Y / 2 ^ j).testBit i <;> simp
  have z : X ^^^ Y = 0 := by
    generalize X ^^^ Y = D at e
    have p : 2 ≤ 2 ^ j := Nat.pow_le_pow_right (n := 2) (i := 1) (by omega) hj
    by_cases hD : D = 0
    · exact hD
    · have := Nat.div_lt_self (n := D) (k := 2 ^ j) (by omega) (by omega); omega
  apply Nat.eq_of_testBit_eq
  intro i
  have h3 := congrArg (fun z => z.testBit i) z
  simp only [Nat.testBit_xor, Nat.zero_testBit] at h3
  revert h3
  cases X.testBit i <;> cases Y.testBit i <;> simp
theorem xs_eq (j X : Nat) (h : X < 18446744073709551616) : xsZ ((2 ^ j : Nat) : Int) X = ((X ^^^ X / 2 ^ j : Nat) : Int) ∧ X ^^^ X / 2 ^ j < 18446744073709551616 := by
  have hd : X / 2 ^ j ≤ X := Nat.div_le_self _ _
  unfold xsZ
  rw [← Int.natCast_ediv, u64_xor_nat _ _ h (by omega)]
  exact ⟨rfl, Nat.xor_lt_two_pow (n := 64) h (by omega)⟩
theorem xs_range (j : Nat) (x : Int) (h0 : 0 ≤ x ∧ x ≤ 18446744073709551615) : 0 ≤ xsZ ((2 ^ j : Nat) : Int) x ∧ xsZ ((2 ^ j : Nat) : Int) x ≤ 18446744073709551615 := by
  obtain ⟨X, rfl⟩ := Int.eq_ofNat_of_zero_le h0.1
  have := xs_eq j X (by omega)
  omega
theorem xs_inj (j : Nat) (hj : 1 ≤ j) (x y : Int) (h0 : 0 ≤ x ∧ x ≤ 18446744073709551615) (h1 : 0 ≤ y ∧ y ≤ 18446744073709551615) (h : xsZ ((2 ^ j : Nat) : Int) x = xsZ ((2 ^ j : Nat) : Int) y) : x = y := by
  obtain ⟨X, rfl⟩ := Int.eq_ofNat_of_zero_le h0.1
  obtain ⟨Y, rfl⟩ := Int.eq_ofNat_of_zero_le h1.1
  rw [(xs_eq j X (by omega)).1, (xs_eq j Y (by omega)).1] at h
  rw [xs_nat j X Y hj (by omega)]
theorem ml_range (c x : Int) : 0 ≤ mlZ c x ∧ mlZ c x ≤ 18446744073709551615 := by
  unfold mlZ; rw [IntKind.wrap_u64]; omega
theorem ml_inj (c d x y : Int) (hc : c * d % 18446744073709551616 = 1) (h0 : 0 ≤ x ∧ x ≤ 18446744073709551615) (h1 : 0 ≤ y ∧ y ≤ 18446744073709551615) (h : mlZ c x = mlZ c y) : x = y := by
  unfold mlZ at h
  simp only [IntKind.wrap_u64] at h
  have back : ∀ z : Int, 0 ≤ z ∧ z ≤ 18446744073709551615 → z * c % 18446744073709551616 * d % 18446744073709551616 = z := by
    intro z hz
    rw [Int.mul_emod, Int.emod_emod, ← Int.mul_emod, Int.mul_assoc, Int.mul_emod, hc]
    omega
  rw [← back x h0, ← back y h1, h]
theorem mix_inj (x y : Int) (h0 : 0 ≤ x ∧ x ≤ 18446744073709551615) (h1 : 0 ≤ y ∧ y ≤ 18446744073709551615) (h : mixZ x = mixZ y) : x = y := by
  unfold mixZ at h
  have r1 := xs_range 30 x h0
  have r2 := xs_range 30 y h1
  have s1 := ml_range 13787848793156543929 (xsZ 1073741824 x)
  have s2 := ml_range 13787848793156543929 (xsZ 1073741824 y)
  have t1 := xs_range 27 _ s1
  have t2 := xs_range 27 _ s2
  have u1 := ml_range 10723151780598845931 (xsZ 134217728 (mlZ 13787848793156543929 (xsZ 1073741824 x)))
  have u2 := ml_range 10723151780598845931 (xsZ 134217728 (mlZ 13787848793156543929 (xsZ 1073741824 y)))
  have a := xs_inj 31 (by omega) _ _ u1 u2 h
  have b := ml_inj _ 3573116690164977347 _ _ (by decide) t1 t2 a
  have c := xs_inj 27 (by omega) _ _ s1 s2 b
  have d := ml_inj _ 10871156337175269513 _ _ (by decide) r1 r2 c
  exact xs_inj 30 (by omega) _ _ h0 h1 d
theorem mix_eqB (x y : Int) (h0 : 0 ≤ x ∧ x ≤ 18446744073709551615) (h1 : 0 ≤ y ∧ y ≤ 18446744073709551615) : (mixZ x == mixZ y) = (x == y) := by
  by_cases h : x = y
  · subst h; rw [beq_self_eq_true, beq_self_eq_true]
  · have h2 : ¬ mixZ x = mixZ y := fun h3 => h (mix_inj x y h0 h1 h3)
    rw [beq_eq_false_iff_ne.mpr h, beq_eq_false_iff_ne.mpr h2]
theorem mix_any (x : Int) (w : World) : Calls Try.prog 27 #[.int .u64 x] w fun e w' => e = .returned (.int .u64 (mixZ x)) ∧ w' = w := by
  go_enter Try.func27, Try.ntmps27
  go_wp2
  go_ret
  exact ⟨rfl, rfl⟩

/-! ### the walk -/
theorem walk (a0 : Int) (a1 : Int) (w0 : (Lit.int .u64 a0).wf = true) (w1 : (Lit.int .u64 a1).wf = true) (w : World) :
    Calls Try.prog 9 #[.int .u64 a0, .int .u64 a1] w fun e w' => e = .returned (.bool true) ∧ Grown w w' := by
  have b0 := wf_u64 w0
  have b1 := wf_u64 w1
  clear w0 w1
  have H := mix_eqB a0 a1 b0 b1
  go_enter Try.func9, Try.ntmps9
  go_wp2_with (first
    | (go_at_call 11; refine (awake_any _).mono ?_; rintro e w' ⟨rfl, n, rfl⟩)
    | (go_at_call 27; refine (mix_any _ _).mono ?_; rintro e w' ⟨rfl, rfl⟩))
  go_ret
  exact ⟨rfl, grown_drewN _ _⟩

/-! ### THE ROW's STEP: WRITTEN OUT: LEAVE IT -/
set_option maxRecDepth 100000 in
theorem lifted (os : Os) (started : os.Started) (H : Type) (enc : TypeId × Value → H) :
    ReturnsInHanded {} Try.checked os 9 .any (Rows.wordMixDiffersSpec.pre6 enc Try.prog Try.f9 Rows.wordMixDiffersRow.domain false) (Rows.wordMixDiffersSpec.post enc Try.prog Try.f9 false true false false) := by
  refine returnsInHanded_of_change (C := Try.checked) own started (by kernel_rfl) Try.func9
    (ChangeSpec.witness6 (enc := enc) (C := Try.checked) false ⟨#[], #[.int .u64 0, .int .u64 0], []⟩ 8 (by kernel_rfl) (by kernel_rfl) (by kernel_rfl) (by kernel_rfl)) ?_
  intro W base args ds gs before hval0 hW hcnd _
  have hval : ∀ (j : Nat) t v, Try.f9.params[j]? = some t → args[j]? = some v → Value.okWide Try.prog W .any base t v := hval0
  have hW' := hW
  obtain ⟨p, q, hA0, hV, rfl, hfz, hnd⟩ := hW
  have hA : DataW.TrodAll enc Try.prog W 0 (fun _ => true) true Try.f9.params.toList args.toList ds p := hA0
  rw [Try.params9] at hA hval
  obtain ⟨v0, vs0, d0, ds0, p0, q0, hargs, rfl, rfl, h0, r0⟩ := trodAll_cons hA
  obtain ⟨v1, vs1, d1, ds1, p1, q1, rfl, rfl, rfl, h1, r1⟩ := trodAll_cons r0
  obtain ⟨rfl, rfl, rfl⟩ := trodAll_nil r1
  obtain rfl : args = #[v0, v1] := by cases args; simp_all
  obtain ⟨rfl, rfl⟩ := trodVars_none hV
  obtain ⟨a0, rfl, rfl, rfl, w0⟩ := open_int Try.underlying22 (hval 0 22 v0 rfl rfl) h0
  obtain ⟨a1, rfl, rfl, rfl, w1⟩ := open_int Try.underlying22 (hval 1 22 v1 rfl rfl) h1
  clear hA0 hval0
  simp only [List.append_nil] at hW'
  refine (walk a0 a1 w0 w1 W).mono fun e W' ⟨he, hg⟩ => ?_
  subst he
  exact ⟨_, rfl, post_of_same (pa := []) (pv := []) hW' (fun _ _ _ => (trodAll_cons_mk (shut_bool Try.underlying4 _) trodAll_mk0)) (fun sp _ => (trodAll_cons_mk (shut_int Try.underlying22 w0) (trodAll_cons_mk (shut_int Try.underlying22 w1) trodAll_mk0))) (fun _ _ => rfl) rfl
    (hg.frame _) hg.2.1 (ok_one (by kernel_rfl) rfl (okWide_bool_mk Try.underlying4 _))⟩

theorem over : Rows.wordMixDiffersRow.holds Try.pinned (OpenSpec.ofChange Rows.wordMixDiffersSpec) :=
  OpenClaim.holds_of_wide 9 Try.f9 rfl rfl rfl rfl rfl rfl rfl ⟨rfl, rfl, rfl, rfl, rfl⟩ rfl rfl rfl rfl rfl (by kernel_rfl) Try.func9 (by kernel_rfl)
    (of_decide_eq_true (by kernel_rfl)) (by unfold Func.isWrapper; first | (rw [if_pos (by decide +kernel)]; kernel_rfl) | (rw [if_neg (by decide +kernel)]; exact ⟨rfl, rfl⟩))
    (fun os started H enc _ => lifted os started H enc)

/-- ████ THE STATEMENT ████ -/
theorem proved : Rows.WordMixDiffersSaid :=
  over
#print axioms proved
end Go.Proofs.Ytgfiddjlbjlolaa.wordMixDiffers
