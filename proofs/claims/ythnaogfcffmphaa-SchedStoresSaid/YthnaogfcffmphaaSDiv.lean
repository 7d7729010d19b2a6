/-
  LIBRARY: bits.Div64 at a divisor below 2^32.
-/
import Derived.Test.YthnaogfcffmphaaSBase
import Derived.Test.YthnaogfcffmphaaShelf
import Derived.Test.YthnaogfcffmphaaSDivMath
import Derived.Laws.BitsAllLaws
set_option linter.unusedVariables false
set_option linter.unusedSimpArgs false
namespace Go.Proofs.Ythnaogfcffmphaa.Sched
open Go.ChangeShapes Go.WideShapes Go.ChangeAt Go.RowKit Go.Proofs.Ythnaogfcffmphaa.Mem Go.Proofs.Ythnaogfcffmphaa.Law Go.Proofs.Ythnaogfcffmphaa.Args Go.Proofs.Ythnaogfcffmphaa.Own
set_option maxRecDepth 100000 in
set_option maxHeartbeats 1000000 in
theorem div64_low (lo y : Nat) (w : World) (hy : 0 < y) (hy2 : y < 18446744073709551616) (hlo : lo < 18446744073709551616) :
    Calls Try.prog 52 #[.int .u64 0, .int .u64 (lo : Int), .int .u64 (y : Int)] w fun e w' => ∃ r, e = .returned (.tuple #[.int .u64 ((lo / y : Nat) : Int), .int .u64 r]) ∧ ∃ n, w' = w.drewN n := by
  have hy0 : (0 : Int) < (y : Int) := by omega
  have hyz : ((y : Int) == 0) = false := by simp; omega
  have hyn : ¬ ((y : Int) ≤ 0) := by omega
  have hwd : IntKind.u64.wrap ((lo : Int) / (y : Int)) = ((lo / y : Nat) : Int) := by
    have := Nat.div_le_self lo y
    rw [← Int.natCast_ediv]
    generalize lo / y = z at *
    exact IntWalk.u64_in _ ⟨by omega, by omega⟩
  go_enter Try.func52, Try.ntmps52
  go_wp2_with fail
  go_quiet (fail)
  go_wp2
  go_ret2
  exact ⟨_, rfl, _, rfl⟩
set_option maxRecDepth 100000 in
set_option maxHeartbeats 1000000 in
theorem div64_high (hi lo y s k : Nat) (w : World) (h0 : 0 < hi) (hlt : hi < y) (hy : y < 4294967296) (hlo : lo < 18446744073709551616) (hk : Lib.bitLen y = k) (hs : s + k = 64) (hs1 : 32 ≤ s) (hs2 : s ≤ 63) :
    Calls Try.prog 52 #[.int .u64 (hi : Int), .int .u64 (lo : Int), .int .u64 (y : Int)] w fun e w' => ∃ r, e = .returned (.tuple #[.int .u64 (((hi * 18446744073709551616 + lo) / y : Nat) : Int), .int .u64 r]) ∧ w = w' := by
  have hLZ : Hid (Calls Try.prog 55 #[.int .u64 (y : Int)] w fun e w' => e = .returned (.int .i64 (s : Int)) ∧ w = w') := Lib.hid (by
    refine (Try.bits_LeadingZeros64 (y : Int) w (by omega) (by omega)).mono ?_
    rintro e w' ⟨rfl, rfl⟩
    exact ⟨ret_int (by rw [Int.toNat_natCast, hk]; omega), rfl⟩)
  obtain ⟨Y, y1, H, l1, U, T, t1, q1, r1, P1, Z, q0, r0, P0, D⟩ := div_math hi lo y s k hlt (by rw [← hk]; exact lt_bitLen y (by omega)) hlo hs hs1
  have HD := Lib.hid D
  obtain ⟨eY, lY, ey1, py1, eH, lH, el1, eU, lU, eT, et1, eq1, lq1, eP1, er1, lr1, eZ, lZ, big, eq0, lq0, eP0, er0, lr0, res⟩ := D
  have f1 : IntKind.u64.wrap ((y : Int) * 2 ^ s) = (Y : Int) := by
    have : ((y * 2 ^ s : Nat) : Int) = (y : Int) * 2 ^ s := by rw [Int.natCast_mul, Int.natCast_pow]; rfl
    rw [← this, eY]; exact IntWalk.u64_in _ ⟨by omega, by omega⟩
  have f2 : (Y : Int) / 4294967296 = (y1 : Int) := by omega
  have f3 : bits .and .u64 (Y : Int) 4294967295 = 0 := by
    have := u64_and_nat Y 4294967295 (by omega) (by omega)
    rw [show Y &&& 4294967295 = Y % 4294967296 from Nat.and_two_pow_sub_one_eq_mod Y 32, show Y % 4294967296 = 0 by omega] at this
    exact this
  have f4 : IntKind.u64.wrap ((hi : Int) * 2 ^ s) = (H : Int) := by
    have : ((hi * 2 ^ s : Nat) : Int) = (hi : Int) * 2 ^ s := by rw [Int.natCast_mul, Int.natCast_pow]; rfl
    rw [← this, eH]; exact IntWalk.u64_in _ ⟨by omega, by omega⟩
  have f5 : (lo : Int) / 2 ^ (64 - s) = (l1 : Int) := by
    rw [show 64 - s = k by omega, ← el1, Int.natCast_ediv, Int.natCast_pow]; rfl
  have ll1 : l1 < 18446744073709551616 := by rw [← el1]; exact Nat.lt_of_le_of_lt (Nat.div_le_self _ _) hlo
  have f6 : bits .or .u64 (H : Int) (l1 : Int) = (U : Int) := by rw [u64_or_nat _ _ lH ll1, eU]
  have lT : T < 18446744073709551616 := by rw [← eT]; exact Nat.mod_lt _ (by decide)
  have f7 : IntKind.u64.wrap ((lo : Int) * 2 ^ s) = (T : Int) := by
    have : ((lo * 2 ^ s : Nat) : Int) = (lo : Int) * 2 ^ s := by rw [Int.natCast_mul, Int.natCast_pow]; rfl
    rw [← this, IntKind.wrap_u64, ← eT]; rfl
  have f8 : (T : Int) / 4294967296 = (t1 : Int) := by omega
  have f9 : bits .and .u64 (T : Int) 4294967295 = 0 := by
    have := u64_and_nat T 4294967295 (by omega) (by omega)
    rw [show T &&& 4294967295 = T % 4294967296 from Nat.and_two_pow_sub_one_eq_mod T 32, show T % 4294967296 = 0 by omega] at this
    exact this
  have f10 : (U : Int) / (y1 : Int) = (q1 : Int) := by rw [← eq1, Int.natCast_ediv]
  have f10' : (U : Int).tdiv (y1 : Int) = (q1 : Int) := by rw [Int.tdiv_eq_ediv_of_nonneg (by omega)]; exact f10
  have f11 : IntKind.u64.wrap (q1 : Int) = (q1 : Int) := IntWalk.u64_in _ ⟨by omega, by omega⟩
  have f12 : IntKind.u64.wrap ((q1 : Int) * (y1 : Int)) = (P1 : Int) := by rw [← Int.natCast_mul, eP1]; exact IntWalk.u64_in _ ⟨by omega, by omega⟩
  have f13 : IntKind.u64.wrap ((U : Int) - (P1 : Int)) = (r1 : Int) := by rw [show (U : Int) - (P1 : Int) = (r1 : Int) by omega]; exact IntWalk.u64_in _ ⟨by omega, by omega⟩
  obtain ⟨R1, hR1⟩ : ∃ R1, r1 * 4294967296 = R1 := ⟨_, rfl⟩
  have f16 : IntKind.u64.wrap (4294967296 * (r1 : Int)) = (R1 : Int) := by rw [show 4294967296 * (r1 : Int) = (R1 : Int) by omega]; exact IntWalk.u64_in _ ⟨by omega, by omega⟩
  have f17 : IntKind.u64.wrap ((R1 : Int) + (t1 : Int)) = (Z : Int) := by rw [show (R1 : Int) + (t1 : Int) = (Z : Int) by omega]; exact IntWalk.u64_in _ ⟨by omega, by omega⟩
  obtain ⟨UU, hUU⟩ : ∃ UU, U * 4294967296 % 18446744073709551616 = UU := ⟨_, rfl⟩
  have f18 : IntKind.u64.wrap ((U : Int) * 4294967296) = (UU : Int) := by rw [IntKind.wrap_u64]; omega
  obtain ⟨V, hV⟩ : ∃ V, (UU + t1) % 18446744073709551616 = V := ⟨_, rfl⟩
  have f19 : IntKind.u64.wrap ((UU : Int) + (t1 : Int)) = (V : Int) := by rw [IntKind.wrap_u64]; omega
  obtain ⟨QY, hQY⟩ : ∃ QY, q1 * Y = QY := ⟨_, rfl⟩
  obtain ⟨W, hW⟩ : ∃ W, QY % 18446744073709551616 = W := ⟨_, rfl⟩
  have f20 : IntKind.u64.wrap ((q1 : Int) * (Y : Int)) = (W : Int) := by rw [IntKind.wrap_u64, ← Int.natCast_mul, hQY]; omega
  rw [hQY] at big
  have f21 : IntKind.u64.wrap ((V : Int) - (W : Int)) = (Z : Int) := wrap_sub _ _ _ _ _ _ _ hUU hV hW big (Nat.lt_trans lZ lY)
  have f22 : (Z : Int) / (y1 : Int) = (q0 : Int) := by rw [← eq0, Int.natCast_ediv]
  have f22' : (Z : Int).tdiv (y1 : Int) = (q0 : Int) := by rw [Int.tdiv_eq_ediv_of_nonneg (by omega)]; exact f22
  have f23 : IntKind.u64.wrap (q0 : Int) = (q0 : Int) := IntWalk.u64_in _ ⟨by omega, by omega⟩
  have f24 : IntKind.u64.wrap ((q0 : Int) * (y1 : Int)) = (P0 : Int) := by rw [← Int.natCast_mul, eP0]; exact IntWalk.u64_in _ ⟨by omega, by omega⟩
  have f25 : IntKind.u64.wrap ((Z : Int) - (P0 : Int)) = (r0 : Int) := by rw [show (Z : Int) - (P0 : Int) = (r0 : Int) by omega]; exact IntWalk.u64_in _ ⟨by omega, by omega⟩
  obtain ⟨R0, hR0⟩ : ∃ R0, r0 * 4294967296 = R0 := ⟨_, rfl⟩
  have lR0 : R0 < 18446744073709551616 := by omega
  have f26 : IntKind.u64.wrap (4294967296 * (r0 : Int)) = (R0 : Int) := by rw [show 4294967296 * (r0 : Int) = (R0 : Int) by omega]; exact IntWalk.u64_in _ ⟨by omega, by omega⟩
  have f26' : IntKind.u64.wrap (R0 : Int) = (R0 : Int) := IntWalk.u64_in _ ⟨by omega, by omega⟩
  obtain ⟨Q1, hQ1⟩ : ∃ Q1, q1 * 4294967296 = Q1 := ⟨_, rfl⟩
  obtain ⟨Q, hQ⟩ : ∃ Q, Q1 + q0 = Q := ⟨_, rfl⟩
  have f27 : IntKind.u64.wrap ((q1 : Int) * 4294967296) = (Q1 : Int) := by rw [show (q1 : Int) * 4294967296 = (Q1 : Int) by omega]; exact IntWalk.u64_in _ ⟨by omega, by omega⟩
  have f28 : IntKind.u64.wrap ((Q1 : Int) + (q0 : Int)) = (Q : Int) := by rw [show (Q1 : Int) + (q0 : Int) = (Q : Int) by omega]; exact IntWalk.u64_in _ ⟨by omega, by omega⟩
  have HRES : Hid ((hi * 18446744073709551616 + lo) / y = Q) := Lib.hid (res.trans (by rw [hQ1, hQ]))
  have hy1z : ¬ ((y1 : Int) = 0) := by omega
  have hyz : ((y : Int) == 0) = false := by simp; omega
  have hyn : ¬ ((y : Int) ≤ (hi : Int)) := by omega
  have hhz : ((hi : Int) == 0) = false := by simp; omega
  have hss : IntKind.u64.wrap (s : Int) = (s : Int) := IntWalk.u64_in _ ⟨by omega, by omega⟩
  have lq1i : (q1 : Int) < 4294967296 := by omega
  have lq0i : (q0 : Int) < 4294967296 := by omega
  have g1 : decide (4294967296 ≤ (q1 : Int)) = false := by simp; omega
  have g0 : decide (4294967296 ≤ (q0 : Int)) = false := by simp; omega
  clear lq1 lq0 lq1i lq0i lY lH lU ll1 lT lZ lR0 hlo hk eY ey1 eH el1 eU eT et1 eq1 eP1 er1 lr1 eZ big eq0 eP0 er0 lr0 res hR1 hUU hV hQY hW hR0 hQ1 hQ
  go_enter Try.func52, Try.ntmps52
  go_wp2_with (go_at_call 55; refine hLZ.out.mono ?_; rintro e w' ⟨rfl, rfl⟩)
  refine wp_loop_rounds 1 ?_
  rw [rounds_succ]
  go_wp2
  refine wp_loop_rounds 1 ?_
  rw [rounds_succ]
  go_wp2
  go_ret2
  exact ⟨_, congrArg (fun z : Nat => Ending.returned (.tuple #[.int .u64 (z : Int), .int .u64 (IntKind.u64.wrap (IntKind.u64.wrap (IntKind.u64.wrap ((Z : Int) * 4294967296)) - IntKind.u64.wrap ((q0 : Int) * (Y : Int))) / 2 ^ s)])) HRES.out.symm, rfl⟩
theorem div64_any (hi lo y : Nat) (w : World) (hlt : hi < y) (hy : y < 4294967296) (hlo : lo < 18446744073709551616) :
    Calls Try.prog 52 #[.int .u64 (hi : Int), .int .u64 (lo : Int), .int .u64 (y : Int)] w fun e w' => ∃ r, e = .returned (.tuple #[.int .u64 (((hi * 18446744073709551616 + lo) / y : Nat) : Int), .int .u64 r]) ∧ ∃ n, w' = w.drewN n := by
  rcases Nat.eq_zero_or_pos hi with h | h
  · subst h
    rw [Nat.zero_mul, Nat.zero_add]
    exact div64_low lo y w hlt (Nat.lt_trans hy (by decide)) hlo
  · have h1 := bitLen_pos (x := y) (by omega) (Nat.lt_trans hy (by decide))
    have h2 := bitLen_le 32 y hy (Nat.lt_trans hy (by decide))
    refine (div64_high hi lo y (64 - Lib.bitLen y) (Lib.bitLen y) w h hlt hy hlo rfl (by omega) (by omega) (by omega)).mono ?_
    rintro e w' ⟨r, rfl, rfl⟩
    exact ⟨r, rfl, 0, rfl⟩
end Go.Proofs.Ythnaogfcffmphaa.Sched
