/-
  PROVED: the law WordOrders answers true for every input (Rows.WordOrdersSaid). No condition.
-/
import Derived.Test.YtgfiddjlbjlolaaRows
import Derived.WalkKit
import Derived.ProofKit
import Derived.OpenShut
import Derived.Test.YtgfiddjlbjlolaaAwake
namespace Go.Proofs.Ytgfiddjlbjlolaa.wordOrders
open Go.ChangeShapes Go.WideShapes Go.ChangeAt Go.RowKit Go.Proofs.Ytgfiddjlbjlolaa.Base
set_option linter.unusedVariables false      -- a walk need not use every 'w<i>' (that an integer argument fits its kind)

theorem own : ownKnob Try.prog.godebug = none := by kernel_rfl

/-! ### the mathematics: over integers -/
def ordZ (x : Int) : Int := IntKind.u64.wrap (IntKind.u64.wrap x + 9223372036854775808)
def unordZ (u : Int) : Int := wrap64 (IntKind.u64.wrap (u - 9223372036854775808))
theorem xor_top (X : Nat) (h : X < 18446744073709551616) : X ^^^ 9223372036854775808 = (X + 9223372036854775808) % 18446744073709551616 := by
  have e : X ^^^ 2 ^ 63 = (X + 2 ^ 63) % 2 ^ 64 := by
    apply Nat.eq_of_testBit_eq
    intro i
    rw [Nat.testBit_xor, Nat.testBit_mod_two_pow, Nat.testBit_two_pow]
    by_cases h1 : i < 63
    · have : (X + 2 ^ 63).testBit i = X.testBit i := by
        rw [Nat.testBit_eq_decide_div_mod_eq, Nat.testBit_eq_decide_div_mod_eq]
        obtain ⟨k, hk⟩ : ∃ k, 63 = i + 1 + k := ⟨62 - i, by omega⟩
        have e1 : (2 : Nat) ^ 63 = 2 ^ i * (2 * 2 ^ k) := by rw [hk, Nat.pow_add, Nat.pow_succ, Nat.mul_assoc]
        rw [e1, Nat.add_mul_div_left _ _ (Nat.two_pow_pos i), Nat.add_mul_mod_self_left]
      rw [this, decide_eq_false (show ¬ 63 = i by omega), decide_eq_true (show i < 64 by omega)]; simp
    · by_cases h2 : i = 63
      · subst h2
        rw [Nat.testBit_eq_decide_div_mod_eq, Nat.testBit_eq_decide_div_mod_eq]
        by_cases h3 : X < 9223372036854775808
        · have a1 : X / 2 ^ 63 = 0 := by omega
          have a2 : (X + 2 ^ 63) / 2 ^ 63 = 1 := by omega
          rw [a1, a2]; decide
        · have a1 : X / 2 ^ 63 = 1 := by omega
          have a2 : (X + 2 ^ 63) / 2 ^ 63 = 2 := by omega
          rw [a1, a2]; decide
      · have h3 : ¬ i < 64 := by omega
        rw [Nat.testBit_lt_two_pow (Nat.lt_of_lt_of_le h (Nat.pow_le_pow_right (n := 2) (i := 64) (by omega) (by omega)))]
        rw [decide_eq_false (show ¬ 63 = i by omega), decide_eq_false h3]; rfl
  simpa using e
theorem ord_ref (x : Int) : bits .xor .u64 (IntKind.u64.wrap x) 9223372036854775808 = ordZ x := by
  unfold ordZ
  rw [IntKind.wrap_u64, IntKind.wrap_u64]
  obtain ⟨X, hX⟩ := Int.eq_ofNat_of_zero_le (a := x % 18446744073709551616) (by omega)
  rw [hX, show (9223372036854775808 : Int) = ((9223372036854775808 : Nat) : Int) from rfl, u64_xor_nat _ _ (by omega) (by omega), xor_top _ (by omega)]
  omega
theorem ord_lt (x y : Int) (w0 : -9223372036854775808 ≤ x ∧ x ≤ 9223372036854775807) (w1 : -9223372036854775808 ≤ y ∧ y ≤ 9223372036854775807) : decide (ordZ x < ordZ y) = decide (x < y) := by
  unfold ordZ
  simp only [IntKind.wrap_u64]
  by_cases h : x < y
  · rw [decide_eq_true h, decide_eq_true]; omega
  · rw [decide_eq_false h, decide_eq_false]; omega
theorem unord_ord (x : Int) (w0 : -9223372036854775808 ≤ x ∧ x ≤ 9223372036854775807) : unordZ (ordZ x) = x := by
  unfold unordZ ordZ wrap64
  simp only [IntKind.wrap_u64]; omega
theorem ord_unord (u : Int) (w2 : 0 ≤ u ∧ u ≤ 18446744073709551615) : ordZ (unordZ u) = u := by
  unfold unordZ ordZ wrap64
  simp only [IntKind.wrap_u64]; omega

/-! ### the contracts -/
theorem order_any (x : Int) (w : World) : Calls Try.prog 31 #[.int .i64 x] w fun e w' => e = .returned (.int .u64 (ordZ x)) ∧ w' = w := by
  go_enter Try.func31, Try.ntmps31
  go_wp2
  go_ret
  exact ⟨rfl, rfl⟩
theorem rorder_any (x : Int) (w : World) : Calls Try.prog 32 #[.int .i64 x] w fun e w' => e = .returned (.int .u64 (ordZ x)) ∧ w' = w := by
  have H := Lib.hid (ord_ref x)
  go_enter Try.func32, Try.ntmps32
  go_wp2
  go_ret
  exact ⟨ret_int H.out, rfl⟩
theorem unorder_any (u : Int) (w : World) : Calls Try.prog 33 #[.int .u64 u] w fun e w' => e = .returned (.int .i64 (unordZ u)) ∧ w' = w := by
  go_enter Try.func33, Try.ntmps33
  go_wp2
  go_ret
  exact ⟨rfl, rfl⟩
theorem unorder_order (x : Int) (w : World) (w0 : -9223372036854775808 ≤ x ∧ x ≤ 9223372036854775807) : Calls Try.prog 33 #[.int .u64 (ordZ x)] w fun e w' => e = .returned (.int .i64 x) ∧ w' = w :=
  (unorder_any (ordZ x) w).mono fun _ _ ⟨h, hw⟩ => ⟨h.trans (ret_int (unord_ord x w0)), hw⟩
theorem order_unorder (u : Int) (w : World) (w2 : 0 ≤ u ∧ u ≤ 18446744073709551615) : Calls Try.prog 31 #[.int .i64 (unordZ u)] w fun e w' => e = .returned (.int .u64 u) ∧ w' = w :=
  (order_any (unordZ u) w).mono fun _ _ ⟨h, hw⟩ => ⟨h.trans (ret_int (ord_unord u w2)), hw⟩

/-! ### the walk -/
theorem walk (a0 : Int) (a1 : Int) (a2 : Int) (w0 : (Lit.int .i64 a0).wf = true) (w1 : (Lit.int .i64 a1).wf = true) (w2 : (Lit.int .u64 a2).wf = true) (w : World) :
    Calls Try.prog 10 #[.int .i64 a0, .int .i64 a1, .int .u64 a2] w fun e w' => e = .returned (.bool true) ∧ Grown w w' := by
  have b0 : -9223372036854775808 ≤ a0 ∧ a0 ≤ 9223372036854775807 := wf_i64 w0
  have b1 : -9223372036854775808 ≤ a1 ∧ a1 ≤ 9223372036854775807 := wf_i64 w1
  have b2 : 0 ≤ a2 ∧ a2 ≤ 18446744073709551615 := wf_u64 w2
  clear w0 w1 w2
  have H := ord_lt a0 a1 b0 b1
  go_enter Try.func10, Try.ntmps10
  go_wp2_with (first
    | (go_at_call 11; refine (awake_any _).mono ?_; rintro e w' ⟨rfl, n, rfl⟩)
    | (go_at_call 33; ((with_reducible refine (unorder_order _ _ b0).mono ?_); rintro e w' ⟨rfl, rfl⟩))
    | (go_at_call 31; ((with_reducible refine (order_unorder _ _ b2).mono ?_); rintro e w' ⟨rfl, rfl⟩))
    | (go_at_call 31; refine (order_any _ _).mono ?_; rintro e w' ⟨rfl, rfl⟩)
    | (go_at_call 32; refine (rorder_any _ _).mono ?_; rintro e w' ⟨rfl, rfl⟩)
    | (go_at_call 33; refine (unorder_any _ _).mono ?_; rintro e w' ⟨rfl, rfl⟩))
  go_ret
  exact ⟨rfl, grown_drewN _ _⟩

/-! ### THE ROW's STEP: WRITTEN OUT: LEAVE IT -/
set_option maxRecDepth 100000 in
theorem lifted (os : Os) (started : os.Started) (H : Type) (enc : TypeId × Value → H) :
    ReturnsInHanded {} Try.checked os 10 .any (Rows.wordOrdersSpec.pre6 enc Try.prog Try.f10 Rows.wordOrdersRow.domain false) (Rows.wordOrdersSpec.post enc Try.prog Try.f10 false true false false) := by
  refine returnsInHanded_of_change (C := Try.checked) own started (by kernel_rfl) Try.func10
    (ChangeSpec.witness6 (enc := enc) (C := Try.checked) false ⟨#[], #[.int .i64 0, .int .i64 0, .int .u64 0], []⟩ 8 (by kernel_rfl) (by kernel_rfl) (by kernel_rfl) (by kernel_rfl)) ?_
  intro W base args ds gs before hval0 hW hcnd _
  have hval : ∀ (j : Nat) t v, Try.f10.params[j]? = some t → args[j]? = some v → Value.okWide Try.prog W .any base t v := hval0
  have hW' := hW
  obtain ⟨p, q, hA0, hV, rfl, hfz, hnd⟩ := hW
  have hA : DataW.TrodAll enc Try.prog W 0 (fun _ => true) true Try.f10.params.toList args.toList ds p := hA0
  rw [Try.params10] at hA hval
  obtain ⟨v0, vs0, d0, ds0, p0, q0, hargs, rfl, rfl, h0, r0⟩ := trodAll_cons hA
  obtain ⟨v1, vs1, d1, ds1, p1, q1, rfl, rfl, rfl, h1, r1⟩ := trodAll_cons r0
  obtain ⟨v2, vs2, d2, ds2, p2, q2, rfl, rfl, rfl, h2, r2⟩ := trodAll_cons r1
  obtain ⟨rfl, rfl, rfl⟩ := trodAll_nil r2
  obtain rfl : args = #[v0, v1, v2] := by cases args; simp_all
  obtain ⟨rfl, rfl⟩ := trodVars_none hV
  obtain ⟨a0, rfl, rfl, rfl, w0⟩ := open_int Try.underlying2 (hval 0 2 v0 rfl rfl) h0
  obtain ⟨a1, rfl, rfl, rfl, w1⟩ := open_int Try.underlying2 (hval 1 2 v1 rfl rfl) h1
  obtain ⟨a2, rfl, rfl, rfl, w2⟩ := open_int Try.underlying22 (hval 2 22 v2 rfl rfl) h2
  clear hA0 hval0
  simp only [List.append_nil] at hW'
  refine (walk a0 a1 a2 w0 w1 w2 W).mono fun e W' ⟨he, hg⟩ => ?_
  subst he
  exact ⟨_, rfl, post_of_same (pa := []) (pv := []) hW' (fun _ _ _ => (trodAll_cons_mk (shut_bool Try.underlying4 _) trodAll_mk0)) (fun sp _ => (trodAll_cons_mk (shut_int Try.underlying2 w0) (trodAll_cons_mk (shut_int Try.underlying2 w1) (trodAll_cons_mk (shut_int Try.underlying22 w2) trodAll_mk0)))) (fun _ _ => rfl) rfl
    (hg.frame _) hg.2.1 (ok_one (by kernel_rfl) rfl (okWide_bool_mk Try.underlying4 _))⟩

theorem over : Rows.wordOrdersRow.holds Try.pinned (OpenSpec.ofChange Rows.wordOrdersSpec) :=
  OpenClaim.holds_of_wide 10 Try.f10 rfl rfl rfl rfl rfl rfl rfl ⟨rfl, rfl, rfl, rfl, rfl⟩ rfl rfl rfl rfl rfl (by kernel_rfl) Try.func10 (by kernel_rfl)
    (of_decide_eq_true (by kernel_rfl)) (by unfold Func.isWrapper; first | (rw [if_pos (by decide +kernel)]; kernel_rfl) | (rw [if_neg (by decide +kernel)]; exact ⟨rfl, rfl⟩))
    (fun os started H enc _ => lifted os started H enc)

/-- ████ THE STATEMENT ████ -/
theorem proved : Rows.WordOrdersSaid :=
  over
#print axioms proved
end Go.Proofs.Ytgfiddjlbjlolaa.wordOrders
