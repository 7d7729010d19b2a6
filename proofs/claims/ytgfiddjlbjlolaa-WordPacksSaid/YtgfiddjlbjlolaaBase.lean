/-
  CONTRACTS OF THE SMALL FUNCTIONS OF PACKAGE word AND OF THE LAWS' 'awake': what each call gives, for every input that its premises admit.
-/
import Derived.Test.YtgfiddjlbjlolaaRows
import Derived.Test.YtgfiddjlbjlolaaFieldMath
import Derived.WalkKit
import Derived.IntWalk
import Derived.ProofKit
import Derived.OpenShut
import Derived.Deep.QuietTactic
import Derived.BigQuiet
import Derived.Handy
import Derived.Laws.Externs
import Derived.Lib.Hide
namespace Go.Proofs.Ytgfiddjlbjlolaa.Base
open Go.ChangeShapes Go.WideShapes Go.ChangeAt Go.RowKit Go.Proofs.Ytgfiddjlbjlolaa.WordMath

theorem grown_drewN (w : World) (n : Nat) : Grown w (w.drewN n) := by
  induction n with
  | zero => exact Grown.refl _
  | succ n ih => exact ih.drew

theorem wf_i64 {a : Int} (h : (Lit.int .i64 a).wf = true) : -9223372036854775808 ≤ a ∧ a ≤ 9223372036854775807 := by
  simpa [Lit.wf, IntKind.min, IntKind.max, IntKind.bits, IntKind.signed] using h
theorem wf_u64 {a : Int} (h : (Lit.int .u64 a).wf = true) : 0 ≤ a ∧ a ≤ 18446744073709551615 := by
  simpa [Lit.wf, IntKind.min, IntKind.max, IntKind.bits, IntKind.signed] using h
theorem wf_u8 {a : Int} (h : (Lit.int .u8 a).wf = true) : 0 ≤ a ∧ a ≤ 255 := by
  simpa [Lit.wf, IntKind.min, IntKind.max, IntKind.bits, IntKind.signed] using h

theorem add64_run (x y : Int) (hx : 0 ≤ x) (hy : 0 ≤ y) (w : World) :
    (callFunc 39 #[.int .u64 x, .int .u64 y, .int .u64 0]).run Try.prog w =
      .ok (.value (.tuple #[.int .u64 ((x + y) % 18446744073709551616), .int .u64 ((x + y) / 18446744073709551616)])) w := by
  rw [run_callFunc_extern (P := Try.prog) (f := 39) Try.func39 (by kernel_rfl) (by kernel_rfl) (by kernel_rfl) (e := add64Entry) (by kernel_rfl), run_add64 x y 0 hx hy (by omega) (by omega), Int.add_zero]
  rfl
theorem hash_nil (w : World) : Calls Try.prog 29 #[.slice none 0 0] w fun e w' => e = .returned (.int .u64 14695981039346656037) ∧ w' = w := by
  go_enter Try.func29, Try.ntmps29
  go_wp2
  refine wp_loop_rounds 1 ?_; rw [rounds_succ]
  go_wp2
  go_ret
  exact ⟨rfl, rfl⟩

/-! ### fields -/
theorem lowBits_any (x : Int) (w : World) (h1 : 1 ≤ x) (h2 : x ≤ 64) : Calls Try.prog 35 #[.int .i64 x] w fun e w' => e = .returned (.int .u64 (18446744073709551615 / 2 ^ (64 - x).toNat)) ∧ w' = w := by
  go_enter Try.func35, Try.ntmps35
  go_wp2
  go_ret
  exact ⟨rfl, rfl⟩
theorem ret_bool {a b : Bool} (h : a = b) : Ending.returned (.bool a) = .returned (.bool b) := by rw [h]
theorem ret_int {k : IntKind} {a b : Int} (h : a = b) : Ending.returned (.int k a) = .returned (.int k b) := by rw [h]
theorem valid_yes (x y : Int) (w : World) (h1 : 0 ≤ x) (h2 : 1 ≤ y) (h3 : x ≤ 64 - y) : Calls Try.prog 34 #[.int .i64 x, .int .i64 y] w fun e w' => e = .returned (.bool true) ∧ w' = w := by
  go_enter Try.func34, Try.ntmps34
  go_wp2
  go_ret; exact ⟨rfl, rfl⟩
theorem valid_no (x y : Int) (w : World) (h : ¬ (0 ≤ x ∧ 1 ≤ y ∧ x ≤ 64 - y)) (wy : y ≤ 9223372036854775807) : Calls Try.prog 34 #[.int .i64 x, .int .i64 y] w fun e w' => e = .returned (.bool false) ∧ w' = w := by
  by_cases h1 : 0 ≤ x
  · by_cases h2 : 1 ≤ y
    · have h3 : 64 - y < x := by omega
      clear h
      go_enter Try.func34, Try.ntmps34
      go_wp2
      go_ret; exact ⟨ret_bool (by simpa using h3), rfl⟩
    · clear h
      go_enter Try.func34, Try.ntmps34
      go_wp2
      go_ret; exact ⟨rfl, rfl⟩
  · clear h
    go_enter Try.func34, Try.ntmps34
    go_wp2
    go_ret; exact ⟨rfl, rfl⟩
/-- a field, over integers. -/
def fldZ (a x y : Int) : Int := (fld a.toNat x.toNat y.toNat : Nat)
def sfdZ (a x y v : Int) : Int := (sfd a.toNat x.toNat y.toNat v.toNat : Nat)
theorem pow_cast (n : Nat) : ((2 ^ n : Nat) : Int) = 2 ^ n := by simp
theorem low_nat (y : Nat) (h1 : 1 ≤ y) (h2 : y ≤ 64) : 18446744073709551615 / 2 ^ (64 - y) = 2 ^ y - 1 := by
  have e : (2 : Nat) ^ 64 = 2 ^ (64 - y) * 2 ^ y := by rw [← Nat.pow_add]; congr 1; omega
  have p1 : 0 < 2 ^ (64 - y) := Nat.two_pow_pos _
  have p2 : 0 < 2 ^ y := Nat.two_pow_pos _
  have e3 : 18446744073709551615 = 2 ^ (64 - y) * (2 ^ y - 1) + (2 ^ (64 - y) - 1) := by
    have : 2 ^ (64 - y) * (2 ^ y - 1) + 2 ^ (64 - y) = 2 ^ (64 - y) * 2 ^ y := by
      rw [← Nat.mul_succ]; congr 1; omega
    omega
  rw [e3, Nat.mul_add_div p1, Nat.div_eq_of_lt (by omega)]; rfl
theorem low_int (y : Int) (h1 : 1 ≤ y) (h2 : y ≤ 64) : (18446744073709551615 : Int) / 2 ^ (64 - y).toNat = ((2 ^ y.toNat - 1 : Nat) : Int) := by
  have e : (64 - y).toNat = 64 - y.toNat := by omega
  rw [e, ← low_nat y.toNat (by omega) (by omega), Int.natCast_ediv, pow_cast]; rfl
theorem fld_raw (a x y : Int) (h1 : 0 ≤ x) (h2 : 1 ≤ y) (h3 : x ≤ 64 - y) (ha : 0 ≤ a) (ha2 : a ≤ 18446744073709551615) :
    bits .and .u64 (a / 2 ^ x.toNat) (18446744073709551615 / 2 ^ (64 - y).toNat) = fldZ a x y := by
  rw [low_int y h2 (by omega)]
  obtain ⟨A, rfl⟩ := Int.eq_ofNat_of_zero_le ha
  have hA : A / 2 ^ x.toNat ≤ A := Nat.div_le_self _ _
  have p := Nat.two_pow_pos y.toNat
  have hp : 2 ^ y.toNat ≤ 2 ^ 64 := Nat.pow_le_pow_right (by omega) (by omega)
  rw [← pow_cast, ← Int.natCast_ediv, u64_and_nat _ _ (by omega) (by omega), Nat.and_two_pow_sub_one_eq_mod]; rfl
theorem field_yes (a x y : Int) (w : World) (h1 : 0 ≤ x) (h2 : 1 ≤ y) (h3 : x ≤ 64 - y) (ha : 0 ≤ a) (ha2 : a ≤ 18446744073709551615) :
    Calls Try.prog 12 #[.int .u64 a, .int .i64 x, .int .i64 y] w fun e w' => e = .returned (.int .u64 (fldZ a x y)) ∧ ∃ n, w' = w.drewN n := by
  have H := Lib.hid (fld_raw a x y h1 h2 h3 ha ha2)
  go_enter Try.func12, Try.ntmps12
  go_wp2_with (go_at_call 34; refine (valid_yes _ _ _ (by omega) (by omega) (by omega)).mono ?_; rintro e w' ⟨rfl, rfl⟩)
  go_quiet ((go_at_call 35; exact Calls.quiet_of_same (lowBits_any _ _ (by omega) (by omega))))
  go_wp2
  go_ret
  exact ⟨ret_int H.out, _, rfl⟩
theorem field_no (a x y : Int) (w : World) (h : ¬ (0 ≤ x ∧ 1 ≤ y ∧ x ≤ 64 - y)) (wy : y ≤ 9223372036854775807) :
    Calls Try.prog 12 #[.int .u64 a, .int .i64 x, .int .i64 y] w fun e w' => e = .returned (.int .u64 0) ∧ ∃ n, w' = w.drewN n := by
  have H := Lib.hid h
  clear h
  go_enter Try.func12, Try.ntmps12
  go_wp2_with (go_at_call 34; refine (valid_no _ _ _ H.out (by omega)).mono ?_; rintro e w' ⟨rfl, rfl⟩)
  go_ret
  exact ⟨rfl, 0, rfl⟩
theorem sfd_raw (a x y v : Int) (h1 : 0 ≤ x) (h2 : 1 ≤ y) (h3 : x ≤ 64 - y) (ha : 0 ≤ a) (ha2 : a ≤ 18446744073709551615) (hv : 0 ≤ v) (hv2 : v ≤ 18446744073709551615) :
    bits .or .u64 (bits .andNot .u64 a (IntKind.u64.wrap (18446744073709551615 / 2 ^ (64 - y).toNat * 2 ^ x.toNat))) (bits .and .u64 (IntKind.u64.wrap (v * 2 ^ x.toNat)) (IntKind.u64.wrap (18446744073709551615 / 2 ^ (64 - y).toNat * 2 ^ x.toNat))) = sfdZ a x y v := by
  rw [low_int y h2 (by omega), IntKind.wrap_u64, IntKind.wrap_u64]
  obtain ⟨A, rfl⟩ := Int.eq_ofNat_of_zero_le ha
  obtain ⟨V, rfl⟩ := Int.eq_ofNat_of_zero_le hv
  have hm := msk_lt x.toNat y.toNat (by omega)
  have e1 : (((2 ^ y.toNat - 1 : Nat) : Int) * 2 ^ x.toNat) % 18446744073709551616 = ((msk x.toNat y.toNat : Nat) : Int) := by
    have : (((2 ^ y.toNat - 1 : Nat) : Int) * 2 ^ x.toNat) = ((msk x.toNat y.toNat : Nat) : Int) := by unfold msk; rw [Int.natCast_mul, pow_cast]
    rw [this]; omega
  have e2 : ((V : Int) * 2 ^ x.toNat) % 18446744073709551616 = ((V * 2 ^ x.toNat % 18446744073709551616 : Nat) : Int) := by
    rw [Int.natCast_emod, Int.natCast_mul, pow_cast]; rfl
  have b1 : A &&& (18446744073709551615 - msk x.toNat y.toNat) ≤ A := Nat.and_le_left
  have b2 : (V * 2 ^ x.toNat % 18446744073709551616) &&& msk x.toNat y.toNat ≤ msk x.toNat y.toNat := Nat.and_le_right
  rw [e1, e2, u64_andNot_nat _ _ (by omega) (by omega), u64_and_nat _ _ (by omega) (by omega), u64_or_nat _ _ (by omega) (by omega)]; rfl
theorem setField_yes (a x y v : Int) (w : World) (h1 : 0 ≤ x) (h2 : 1 ≤ y) (h3 : x ≤ 64 - y) (ha : 0 ≤ a) (ha2 : a ≤ 18446744073709551615) (hv : 0 ≤ v) (hv2 : v ≤ 18446744073709551615) :
    Calls Try.prog 14 #[.int .u64 a, .int .i64 x, .int .i64 y, .int .u64 v] w fun e w' => e = .returned (.int .u64 (sfdZ a x y v)) ∧ w' = w := by
  have H := Lib.hid (sfd_raw a x y v h1 h2 h3 ha ha2 hv hv2)
  go_enter Try.func14, Try.ntmps14
  go_wp2_with (first | (go_at_call 34; refine (valid_yes _ _ _ (by omega) (by omega) (by omega)).mono ?_; rintro e w' ⟨rfl, rfl⟩) | (go_at_call 35; refine (lowBits_any _ _ (by omega) (by omega)).mono ?_; rintro e w' ⟨rfl, rfl⟩))
  go_ret
  exact ⟨ret_int H.out, rfl⟩
theorem setField_no (a x y v : Int) (w : World) (h : ¬ (0 ≤ x ∧ 1 ≤ y ∧ x ≤ 64 - y)) (wy : y ≤ 9223372036854775807) :
    Calls Try.prog 14 #[.int .u64 a, .int .i64 x, .int .i64 y, .int .u64 v] w fun e w' => e = .returned (.int .u64 a) ∧ w' = w := by
  have H := Lib.hid h
  clear h
  go_enter Try.func14, Try.ntmps14
  go_wp2_with (go_at_call 34; refine (valid_no _ _ _ H.out (by omega)).mono ?_; rintro e w' ⟨rfl, rfl⟩)
  go_ret
  exact ⟨rfl, rfl⟩
/-! ### the reference's single bit -/
def bitZ (a i : Int) : Int := (a.toNat / 2 ^ i.toNat % 2 : Nat)
theorem bitZ_range (a i : Int) : 0 ≤ bitZ a i ∧ bitZ a i ≤ 1 := by unfold bitZ; omega
theorem bit_raw (a i : Int) (ha : 0 ≤ a ∧ a ≤ 18446744073709551615) : bits .and .u64 (a / 2 ^ i.toNat) 1 = bitZ a i := by
  obtain ⟨A, rfl⟩ := Int.eq_ofNat_of_zero_le ha.1
  have hA : A / 2 ^ i.toNat ≤ A := Nat.div_le_self _ _
  unfold bitZ
  rw [← pow_cast, ← Int.natCast_ediv, show (1 : Int) = ((1 : Nat) : Int) from rfl, u64_and_nat _ _ (by omega) (by omega), Nat.and_one_is_mod]; rfl
theorem bit_any (a i : Int) (w : World) (ha : 0 ≤ a ∧ a ≤ 18446744073709551615) (hi : 0 ≤ i) (hi2 : i ≤ 63) : Calls Try.prog 37 #[.int .u64 a, .int .i64 i] w fun e w' => e = .returned (.int .u64 (bitZ a i)) ∧ w' = w := by
  have H := Lib.hid (bit_raw a i ha)
  go_enter Try.func37, Try.ntmps37
  go_wp2
  go_ret
  exact ⟨ret_int H.out, rfl⟩
theorem val_int {k : IntKind} {a b : Int} (h : a = b) : Value.int k a = Value.int k b := by rw [h]
end Go.Proofs.Ytgfiddjlbjlolaa.Base
