/-
  CONTRACTS: math/bits.OnesCount64, AlignUp, Line, Span, and the laws' 'awake' (the chapter's examples): it answers true.
-/
import Derived.Test.YtgfiddjlbjlolaaBase
import Derived.Test.YtgfiddjlbjlolaaOnesMath
namespace Go.Proofs.Ytgfiddjlbjlolaa.Base
open Go.ChangeShapes Go.WideShapes Go.ChangeAt Go.RowKit Go.Proofs.Ytgfiddjlbjlolaa.WordMath Go.Proofs.Ytgfiddjlbjlolaa.OnesMath

def on1 (x : Int) : Int := IntKind.u64.wrap (bits .and .u64 (x / 2) 6148914691236517205 + bits .and .u64 x 6148914691236517205)
def on2 (x : Int) : Int := IntKind.u64.wrap (bits .and .u64 (x / 4) 3689348814741910323 + bits .and .u64 x 3689348814741910323)
def on3 (x : Int) : Int := bits .and .u64 (IntKind.u64.wrap (x / 16 + x)) 1085102592571150095
def on4 (x : Int) : Int := IntKind.u64.wrap (x + x / 256)
def on5 (x : Int) : Int := IntKind.u64.wrap (x + x / 65536)
def on6 (x : Int) : Int := IntKind.u64.wrap (x + x / 4294967296)
def onRaw (x : Int) : Int := bits .and .i64 (wrap64 (on6 (on5 (on4 (on3 (on2 (on1 x))))))) 127
/-- how many bits are set. -/
def onesC (x : Int) : Int := (pcl x.toNat 64 : Nat)
theorem pcl8_lt (b : Nat) (_ : b < 256) : pcl b 8 < 256 := by have := pcl_le b 8; omega
theorem s2_lt : ∀ b, b < 256 → s2 b < 256 := by decide +kernel
theorem on1_eq (X : Nat) (h : X < 18446744073709551616) : on1 X = (bm s1 8 X : Nat) := by
  have hb := bm_lt s1 tab1 8 X
  have e := step1 X
  unfold on1
  rw [show ((X : Int) / 2) = ((X / 2 : Nat) : Int) from by omega, show (6148914691236517205 : Int) = ((6148914691236517205 : Nat) : Int) from rfl, u64_and_nat _ _ (by omega) (by omega), u64_and_nat _ _ (by omega) (by omega), IntKind.wrap_u64]
  omega
theorem on2_eq (X : Nat) (h : X < 18446744073709551616) : on2 X = (bm s2 8 X : Nat) := by
  have hb := bm_lt s2 s2_lt 8 X
  have e := step2 X
  unfold on2
  rw [show ((X : Int) / 4) = ((X / 4 : Nat) : Int) from by omega, show (3689348814741910323 : Int) = ((3689348814741910323 : Nat) : Int) from rfl, u64_and_nat _ _ (by omega) (by omega), u64_and_nat _ _ (by omega) (by omega), IntKind.wrap_u64]
  omega
theorem nib (n X : Nat) : bm (fun b => s2 (s1 b)) n X ≤ 68 * (256 ^ n / 255) := by
  induction n generalizing X with
  | zero => simp [bm]
  | succ n ih =>
    have := ih (X / 256)
    have h2 := tab2 (X % 256) (Nat.mod_lt _ (by omega))
    have e : 256 ^ (n + 1) / 255 = 256 * (256 ^ n / 255) + 1 := by
      have h3 : 256 ^ n % 255 = 1 := by rw [Nat.pow_mod]; simp
      rw [Nat.pow_succ]; omega
    simp only [bm]; rw [e]; omega
theorem on3_eq (X : Nat) : on3 (bm s2 8 (bm s1 8 X) : Nat) = (bm (fun b => pcl b 8) 8 X : Nat) := by
  have e := step3 X
  have hb := nib 8 X
  rw [← bm_comp s2 s1 8 X tab1] at hb
  generalize bm s2 8 (bm s1 8 X) = Z at e hb
  unfold on3
  rw [show ((Z : Int) / 16 + (Z : Int)) = ((Z / 16 + Z : Nat) : Int) from by omega, IntKind.wrap_u64, show (((Z / 16 + Z : Nat) : Int) % 18446744073709551616) = ((Z / 16 + Z : Nat) : Int) from by omega, show (1085102592571150095 : Int) = ((1085102592571150095 : Nat) : Int) from rfl, u64_and_nat _ _ (by omega) (by omega), e]
theorem on456 (T U V W : Nat) (hT : T ≤ 8 * 72340172838076673) (hU : U = T + T / 256) (hV : V = U + U / 65536) (hW : W = V + V / 4294967296) : on6 (on5 (on4 (T : Int))) = (W : Int) ∧ W < 18446744073709551616 := by
  have e4 : on4 T = (U : Int) := by unfold on4; rw [IntKind.wrap_u64]; omega
  have e5 : on5 U = (V : Int) := by unfold on5; rw [IntKind.wrap_u64]; omega
  have e6 : on6 V = (W : Int) := by unfold on6; rw [IntKind.wrap_u64]; omega
  rw [e4, e5, e6]; exact ⟨rfl, by omega⟩
theorem low7 (W : Nat) (h : W < 18446744073709551616) : bits .and .i64 (wrap64 (W : Int)) 127 = ((W % 128 : Nat) : Int) := by
  have hi : (BitVec.ofInt 64 (wrap64 (W : Int))) = BitVec.ofNat 64 W := by
    apply BitVec.eq_of_toNat_eq
    rw [BitVec.toNat_ofInt, BitVec.toNat_ofNat]
    unfold wrap64
    rw [show ((2 : Nat) ^ 64) = 18446744073709551616 from rfl]
    omega
  show IntKind.i64.wrap ((BitVec.ofInt 64 (wrap64 (W : Int)) &&& BitVec.ofInt 64 127).toNat : Int) = _
  rw [hi, show (BitVec.ofInt 64 127) = BitVec.ofNat 64 (2 ^ 7 - 1) from rfl, BitVec.toNat_and, BitVec.toNat_ofNat, BitVec.toNat_ofNat, show (2 ^ 7 - 1) % 2 ^ 64 = 2 ^ 7 - 1 from rfl, Nat.and_two_pow_sub_one_eq_mod, Nat.mod_eq_of_lt h]
  exact IntWalk.i64_in _ (by omega)
theorem onRaw_eq (x : Int) (h0 : 0 ≤ x) (h1 : x ≤ 18446744073709551615) : onRaw x = onesC x := by
  obtain ⟨X, rfl⟩ := Int.eq_ofNat_of_zero_le h0
  have b1 := bm_lt s1 tab1 8 X
  have e0 : on3 (on2 (on1 (X : Int))) = (bm (fun b => pcl b 8) 8 X : Nat) := by
    rw [on1_eq X (by omega), on2_eq _ (by omega), on3_eq]
  clear b1
  unfold onRaw onesC
  rw [e0, Int.toNat_natCast]
  clear e0 h0 h1
  obtain ⟨a, b, c, d, e, f, g, h, H, hT, hp⟩ := unroll X
  rw [hp]
  clear hp
  generalize bm (fun b => pcl b 8) 8 X = T at hT ⊢
  have hT2 : T ≤ 8 * 72340172838076673 := by omega
  have F := fold8 a b c d e f g h H T _ _ hT rfl rfl
  have G := on456 T _ _ _ hT2 rfl rfl rfl
  rw [G.1, low7 _ G.2, F.1]
theorem ones_any (x : Int) (w : World) (h0 : 0 ≤ x) (h1 : x ≤ 18446744073709551615) : Calls Try.prog 38 #[.int .u64 x] w fun e w' => e = .returned (.int .i64 (onesC x)) ∧ w' = w := by
  have H := Lib.hid (onRaw_eq x h0 h1)
  go_enter Try.func38, Try.ntmps38
  go_wp2
  go_ret
  exact ⟨ret_int H.out, rfl⟩
theorem line_any (x : Int) (w : World) (h0 : 0 ≤ x) (h1 : x ≤ 18446744073709551615) : Calls Try.prog 20 #[.int .u64 x] w fun e w' => e = .returned (.int .u64 (x / 64)) ∧ w' = w := by
  go_enter Try.func20, Try.ntmps20
  go_wp2
  go_ret
  exact ⟨rfl, rfl⟩
theorem add64_ok (x y : Int) (hx : 0 ≤ x) (hy : 0 ≤ y) (h : x + y ≤ 18446744073709551615) (w : World) :
    (callFunc 39 #[.int .u64 x, .int .u64 y, .int .u64 0]).run Try.prog w = .ok (.value (.tuple #[.int .u64 (x + y), .int .u64 0])) w := by
  rw [add64_run x y hx hy, show (x + y) % 18446744073709551616 = x + y from by omega, show (x + y) / 18446744073709551616 = 0 from by omega]
theorem add64_over (x y : Int) (hx : 0 ≤ x) (hy : 0 ≤ y) (hx2 : x ≤ 18446744073709551615) (hy2 : y ≤ 18446744073709551615) (h : 18446744073709551616 ≤ x + y) (w : World) :
    (callFunc 39 #[.int .u64 x, .int .u64 y, .int .u64 0]).run Try.prog w = .ok (.value (.tuple #[.int .u64 (x + y - 18446744073709551616), .int .u64 1])) w := by
  rw [add64_run x y hx hy, show (x + y) % 18446744073709551616 = x + y - 18446744073709551616 from by omega, show (x + y) / 18446744073709551616 = 1 from by omega]
theorem align_bad (x a : Int) (w : World) (h0 : 0 ≤ a) (h1 : a ≤ 18446744073709551615) (h : onesC a ≠ 1) :
    Calls Try.prog 16 #[.int .u64 x, .int .u64 a] w fun e w' => e = .returned (.tuple #[.int .u64 0, .int .i64 1]) ∧ w' = w := by
  have H : (onesC a != 1) = true := by simpa using h
  have H2 : (onesC a == 1) = false := by simpa using h
  clear h
  go_enter Try.func16, Try.ntmps16
  go_wp2_with (go_at_call 38; refine (ones_any _ _ (by omega) (by omega)).mono ?_; rintro e w' ⟨rfl, rfl⟩)
  go_ret2
  exact ⟨rfl, rfl⟩
theorem align_over (x a : Int) (w : World) (hx : 0 ≤ x) (hx1 : x ≤ 18446744073709551615) (h0 : 1 ≤ a) (h1 : a ≤ 18446744073709551615) (h : onesC a = 1) (ho : 18446744073709551616 ≤ x + (a - 1)) :
    Calls Try.prog 16 #[.int .u64 x, .int .u64 a] w fun e w' => e = .returned (.tuple #[.int .u64 0, .int .i64 2]) ∧ w' = w := by
  have A := add64_over x (a - 1) (by omega) (by omega) (by omega) (by omega) ho
  go_enter Try.func16, Try.ntmps16
  go_wp2_with (go_at_call 38; refine (ones_any _ _ (by omega) (by omega)).mono ?_; rintro e w' ⟨rfl, rfl⟩)
  go_ret2
  exact ⟨rfl, rfl⟩
theorem align_ok (x a : Int) (w : World) (hx : 0 ≤ x) (hx1 : x ≤ 18446744073709551615) (h0 : 1 ≤ a) (h1 : a ≤ 18446744073709551615) (h : onesC a = 1) (ho : x + (a - 1) ≤ 18446744073709551615) :
    Calls Try.prog 16 #[.int .u64 x, .int .u64 a] w fun e w' => e = .returned (.tuple #[.int .u64 (bits .andNot .u64 (x + (a - 1)) (a - 1)), .int .i64 0]) ∧ w' = w := by
  have A := add64_ok x (a - 1) (by omega) (by omega) ho
  go_enter Try.func16, Try.ntmps16
  go_wp2_with (go_at_call 38; refine (ones_any _ _ (by omega) (by omega)).mono ?_; rintro e w' ⟨rfl, rfl⟩)
  go_ret2
  exact ⟨rfl, rfl⟩
theorem span_zero (x : Int) (w : World) :
    Calls Try.prog 18 #[.int .u64 x, .int .u64 0] w fun e w' => e = .returned (.tuple #[.int .u64 0, .int .u64 0]) ∧ w' = w := by
  go_enter Try.func18, Try.ntmps18
  go_wp2
  go_ret2
  exact ⟨rfl, rfl⟩
theorem span_in (x n : Int) (w : World) (hx : 0 ≤ x) (hx1 : x ≤ 18446744073709551615) (h0 : 1 ≤ n) (h1 : n ≤ 18446744073709551615) (ho : x + (n - 1) ≤ 18446744073709551615) :
    Calls Try.prog 18 #[.int .u64 x, .int .u64 n] w fun e w' => e = .returned (.tuple #[.int .u64 (x / 64), .int .u64 ((x + (n - 1)) / 64 - x / 64 + 1)]) ∧ w' = w := by
  have A := add64_ok x (n - 1) (by omega) (by omega) ho
  have H : (n == 0) = false := by simp; omega
  go_enter Try.func18, Try.ntmps18
  go_wp2_with (go_at_call 20; refine (line_any _ _ (by omega) (by omega)).mono ?_; rintro e w' ⟨rfl, rfl⟩)
  go_ret2
  exact ⟨rfl, rfl⟩
theorem span_over (x n : Int) (w : World) (hx : 0 ≤ x) (hx1 : x ≤ 18446744073709551615) (h0 : 1 ≤ n) (h1 : n ≤ 18446744073709551615) (ho : 18446744073709551616 ≤ x + (n - 1)) :
    Calls Try.prog 18 #[.int .u64 x, .int .u64 n] w fun e w' => e = .returned (.tuple #[.int .u64 (x / 64), .int .u64 (288230376151711743 - x / 64 + 1)]) ∧ w' = w := by
  have A := add64_over x (n - 1) (by omega) (by omega) (by omega) (by omega) ho
  have H : (n == 0) = false := by simp; omega
  go_enter Try.func18, Try.ntmps18
  go_wp2_with (go_at_call 20; refine (line_any _ _ (by omega) (by omega)).mono ?_; rintro e w' ⟨rfl, rfl⟩)
  go_ret2
  exact ⟨rfl, rfl⟩
theorem align_65 (w : World) : Calls Try.prog 16 #[.int .u64 65, .int .u64 64] w fun e w' => e = .returned (.tuple #[.int .u64 128, .int .i64 0]) ∧ w' = w := align_ok 65 64 w (by omega) (by omega) (by omega) (by omega) (by decide +kernel) (by omega)
theorem span_60 (w : World) : Calls Try.prog 18 #[.int .u64 60, .int .u64 8] w fun e w' => e = .returned (.tuple #[.int .u64 0, .int .u64 2]) ∧ w' = w := span_in 60 8 w (by omega) (by omega) (by omega) (by omega) (by omega)
theorem field_c (w : World) : Calls Try.prog 12 #[.int .u64 65280, .int .i64 8, .int .i64 4] w fun e w' => e = .returned (.int .u64 15) ∧ ∃ n, w' = w.drewN n := field_yes 65280 8 4 w (by omega) (by omega) (by omega) (by omega) (by omega)
theorem setField_c (w : World) : Calls Try.prog 14 #[.int .u64 65280, .int .i64 8, .int .i64 4, .int .u64 3] w fun e w' => e = .returned (.int .u64 62208) ∧ w' = w := setField_yes 65280 8 4 3 w (by omega) (by omega) (by omega) (by omega) (by omega) (by omega) (by omega)
theorem awake_any (w : World) : Calls Try.prog 11 #[] w fun e w' => e = .returned (.bool true) ∧ ∃ n, w' = w.drewN n := by
  go_enter Try.func11, Try.ntmps11
  go_wp2_with (first
    | (go_at_call 16; refine (align_65 _).mono ?_; rintro e w' ⟨rfl, rfl⟩)
    | (go_at_call 18; refine (span_60 _).mono ?_; rintro e w' ⟨rfl, rfl⟩)
    | (go_at_call 12; refine (field_c _).mono ?_; rintro e w' ⟨rfl, n, rfl⟩)
    | (go_at_call 14; refine (setField_c _).mono ?_; rintro e w' ⟨rfl, rfl⟩)
    | (go_at_call 29; refine (hash_nil _).mono ?_; rintro e w' ⟨rfl, rfl⟩))
  go_ret
  exact ⟨rfl, _, rfl⟩
end Go.Proofs.Ytgfiddjlbjlolaa.Base
