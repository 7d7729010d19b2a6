/-
  CONTRACTS: crc.multiply and crc.Combine, for every register and every number.
-/
import Derived.Test.YtehojhgpgliemaaDoorCrcBase
import Derived.Test.YtehojhgpgliemaaDoorMulMath
import Derived.Deep.LoopGhost
namespace Go.Proofs.YtehojhgpgliemaaDoor.Base
open Go.ChangeShapes Go.WideShapes Go.ChangeAt Go.RowKit Go.Proofs.YtehojhgpgliemaaDoor.CrcMath Go.Proofs.YtehojhgpgliemaaDoor.Law Go.Proofs.YtehojhgpgliemaaDoor.Args
theorem and_top (x : Nat) (h : x < 4294967296) : bits .and .u32 (x : Int) 2147483648 = ((x / 2147483648 * 2147483648 : Nat) : Int) := by
  have h1 := u32_and_nat x 2147483648 h (by omega)
  have h2 : x &&& 2147483648 = x / 2147483648 * 2147483648 := by
    have h3 : x &&& 2147483648 = x / 2147483648 % 2 * 2147483648 := nat_bit 31 x
    rw [h3]; omega
  rw [h2] at h1
  exact h1
theorem T_raw (y : Nat) (h : y < 4294967296) : bits .xor .u32 ((y : Int) / 2) (2197175160 * ((y % 2 : Nat) : Int)) = ((T y : Nat) : Int) := by
  rw [show (y : Int) / 2 = ((y / 2 : Nat) : Int) by omega]
  unfold T
  rcases Nat.mod_two_eq_zero_or_one y with h2 | h2
  · rw [h2, if_neg (by omega), show (2197175160 : Int) * ((0 : Nat) : Int) = ((0 : Nat) : Int) from rfl, u32_xor_nat _ _ (by omega) (by omega)]
  · rw [h2, if_pos rfl, show (2197175160 : Int) * ((1 : Nat) : Int) = ((2197175160 : Nat) : Int) from rfl, u32_xor_nat _ _ (by omega) (by omega)]
theorem and_one32 (y : Nat) (h : y < 4294967296) : bits .and .u32 (y : Int) 1 = ((y % 2 : Nat) : Int) := by
  rw [show (1 : Int) = ((1 : Nat) : Int) from rfl, u32_and_nat _ _ h (by omega), Nat.and_one_is_mod]
theorem and_one64 (K : Nat) (h : K < 9223372036854775808) : bits .and .i64 (K : Int) 1 = ((K % 2 : Nat) : Int) := by
  show IntKind.i64.wrap ((BitVec.ofInt 64 (K : Int) &&& BitVec.ofInt 64 1).toNat : Int) = _
  rw [show (BitVec.ofInt 64 1) = BitVec.ofNat 64 1 from rfl, BitVec.toNat_and, BitVec.ofInt_natCast, BitVec.toNat_ofNat, BitVec.toNat_ofNat, Nat.mod_eq_of_lt (show K < 2 ^ 64 by omega), show 1 % 2 ^ 64 = 1 from rfl, Nat.and_one_is_mod]
  exact IntWalk.i64_in _ (by omega)
theorem multiply_any (a b : Nat) (w : World) (ha : a < 4294967296) (hb : b < 4294967296) :
    Calls Tryd.prog 29 #[.int .u32 (a : Int), .int .u32 (b : Int)] w fun e w' => e = .returned (.int .u32 ((mul a b : Nat) : Int)) ∧ w = w' := by
  go_enter Tryd.func29, Tryd.ntmps29
  go_wp2
  go_loopg [0, 1, 5] 32 (fun g x y p wr => wr = w ∧ ∃ j : Nat, j + g = 32 ∧ x = .int .u32 ((a * 2 ^ j % 4294967296 : Nat) : Int) ∧ y = .int .u32 ((Tn j b : Nat) : Int) ∧ p = .int .u32 ((pr a b j : Nat) : Int))
  case atStart => exact ⟨rfl, 0, rfl, by rw [Nat.pow_zero, Nat.mul_one, Nat.mod_eq_of_lt ha], rfl, rfl⟩
  case round =>
    obtain ⟨rfl, j, hj, rfl, rfl, rfl⟩ := hrel
    have hpl := pr_lt (a := a) hb j
    have hyl := Tn_lt j hb
    have hxl : a * 2 ^ j % 4294967296 < 4294967296 := Nat.mod_lt _ (by omega)
    have HN : Hid (a * 2 ^ (j + 1) % 4294967296 = a * 2 ^ j % 4294967296 * 2 % 4294967296) := Lib.hid (by rw [Nat.pow_succ, ← Nat.mul_assoc, Nat.mod_mul_mod])
    by_cases hz : a * 2 ^ j % 4294967296 = 0
    · have HE := Lib.hid (pr_rest a b j (by omega) hz)
      rw [hz]
      clear hz HN hxl
      go_wp2
      go_ret
      exact ⟨ret_int (by rw [HE.out]), rfl⟩
    · have hj31 : j ≤ 31 := by
        rcases Nat.lt_or_ge j 32 with h | h
        · omega
        · exfalso; apply hz
          have : j = 32 := by omega
          subst this; omega
      have ht := top_bit a j ha hj31
      have HP : Hid (pr a b (j + 1) = pr a b j ^^^ (if a / 2 ^ (31 - j) % 2 = 1 then Tn j b else 0)) := Lib.hid rfl
      have HT : Hid (Tn (j + 1) b = T (Tn j b)) := Lib.hid (Tn_succ j b)
      obtain ⟨x, hx⟩ : ∃ x, a * 2 ^ j % 4294967296 = x := ⟨_, rfl⟩
      obtain ⟨y, hy⟩ : ∃ y, Tn j b = y := ⟨_, rfl⟩
      obtain ⟨p, hp⟩ : ∃ p, pr a b j = p := ⟨_, rfl⟩
      obtain ⟨d, hd⟩ : ∃ d, a / 2 ^ (31 - j) % 2 = d := ⟨_, rfl⟩
      rw [hx] at hz hxl ht HN
      rw [hy] at hyl HT HP
      rw [hp] at hpl HP
      rw [hd] at ht HP
      rw [hx, hy, hp]
      have h1 := and_top x hxl
      rw [ht] at h1
      have h2 := and_one32 y hyl
      have h3 := T_raw y hyl
      obtain ⟨o, ho⟩ : ∃ o, y % 2 = o := ⟨_, rfl⟩
      rw [ho] at h2 h3
      have ho2 : o < 2 := by omega
      have h4 : IntKind.u32.wrap ((x : Int) * 2) = ((x * 2 % 4294967296 : Nat) : Int) := by rw [IntKind.wrap_u32]; omega
      have hz1 : ((x : Int) != 0) = true := by simp; omega
      obtain ⟨x2, hx2⟩ : ∃ x2, x * 2 % 4294967296 = x2 := ⟨_, rfl⟩
      rw [hx2] at h4 HN
      obtain ⟨g2, rfl⟩ : ∃ g2, gk = g2 + 1 := ⟨gk - 1, by omega⟩
      have hd2 : d = 0 ∨ d = 1 := by omega
      clear hx hy hp hd ho hz ht hx2
      rcases hd2 with rfl | rfl
      · have h1' : bits .and .u32 (x : Int) 2147483648 = 0 := by rw [h1]; rfl
        rw [if_neg (by omega), Nat.xor_zero] at HP
        clear h1
        go_wp2
        go_roundg g2
        case rel => exact ⟨rfl, j + 1, by omega, val_int (by rw [HN.out]), val_int (by rw [HT.out]), val_int (by rw [HP.out])⟩
        case measure => omega
      · have h1' : bits .and .u32 (x : Int) 2147483648 = 2147483648 := by rw [h1]; rfl
        rw [if_pos rfl] at HP
        have h5 := u32_xor_nat p y hpl hyl
        clear h1
        go_wp2
        go_roundg g2
        case rel => exact ⟨rfl, j + 1, by omega, val_int (by rw [HN.out]), val_int (by rw [HT.out]), val_int (by rw [HP.out])⟩
        case measure => omega
theorem combine_any (a b : Nat) (n : Int) (w : World) (ha : a < 4294967296) (hb : b < 4294967296) (hn : n ≤ 9223372036854775807) :
    Calls Tryd.prog 23 #[.int .u32 (a : Int), .int .u32 (b : Int), .int .i64 n] w fun e w' => e = .returned (.int .u32 ((comb a b n.toNat : Nat) : Int)) ∧ w = w' := by
  go_enter Tryd.func23, Tryd.ntmps23
  go_wp2
  go_loop [0, 2, 7] (fun x m p => ∃ (e c : Nat) (k : Int), x = .int .u32 ((Tn (8 * c) a : Nat) : Int) ∧ m = .int .i64 k ∧ p = .int .u32 ((Tn (8 * e) 2147483648 : Nat) : Int) ∧ Hid (e * k.toNat + c = n.toNat) ∧ k ≤ 9223372036854775807) (fun _ m _ => (intOf m).toNat)
  case atStart => exact ⟨1, 0, n, rfl, rfl, by rw [show Tn (8 * 1) 2147483648 = 8388608 by decide +kernel]; rfl, Lib.hid (by omega), hn⟩
  case round =>
    obtain ⟨e, c, k, rfl, rfl, rfl, HE, hk⟩ := hrel
    have hx := Tn_lt (8 * c) ha
    have hp := Tn_lt (8 * e) (show 2147483648 < 4294967296 by omega)
    have HM1 : Hid (mul (Tn (8 * c) a) (Tn (8 * e) 2147483648) = Tn (8 * (c + e)) a) := Lib.hid (by rw [mul_shift _ _ hx, ← Tn_add, show 8 * c + 8 * e = 8 * (c + e) by omega])
    have HM2 : Hid (mul (Tn (8 * e) 2147483648) (Tn (8 * e) 2147483648) = Tn (8 * (2 * e)) 2147483648) := Lib.hid (by rw [mul_shift _ _ hp, ← Tn_add, show 8 * e + 8 * e = 8 * (2 * e) by omega])
    have HC : Hid (k ≤ 0 → comb a b n.toNat = Tn (8 * c) a ^^^ b) := Lib.hid (fun h0 => by
      have h1 := HE.out
      rw [show k.toNat = 0 by omega, Nat.mul_zero, Nat.zero_add] at h1
      unfold comb; rw [h1])
    obtain ⟨x, hxx⟩ : ∃ x, Tn (8 * c) a = x := ⟨_, rfl⟩
    obtain ⟨p, hpp⟩ : ∃ p, Tn (8 * e) 2147483648 = p := ⟨_, rfl⟩
    rw [hxx] at hx HM1 HC ⊢
    rw [hpp] at hp HM1 HM2 ⊢
    have HX := Lib.hid hxx
    clear hxx hpp
    by_cases h0 : k ≤ 0
    · have HD := Lib.hid (HC.out h0)
      have h5 := u32_xor_nat x b hx hb
      clear HC
      go_wp2
      go_ret
      exact ⟨ret_int (by rw [HD.out]), rfl⟩
    · have hk0 : 0 < k := by omega
      obtain ⟨K, rfl⟩ := Int.eq_ofNat_of_zero_le (show 0 ≤ k by omega)
      have h1 : bits .and .i64 (K : Int) 1 = ((K % 2 : Nat) : Int) := and_one64 K (by omega)
      have h2 : ((K : Int) / 2).toNat = K / 2 := by omega
      obtain ⟨o, ho⟩ : ∃ o, K % 2 = o := ⟨_, rfl⟩
      rw [ho] at h1
      have ho2 : o = 0 ∨ o = 1 := by omega
      clear HC h0
      rcases ho2 with rfl | rfl
      · have HN : Hid (2 * e * ((K : Int) / 2).toNat + c = n.toNat) := Lib.hid (by
          have := HE.out
          rw [Int.toNat_natCast] at this
          rw [h2, Nat.mul_comm 2 e, Nat.mul_assoc, show 2 * (K / 2) = K by omega]; exact this)
        clear ho h2
        go_wp2_with (go_at_call 29; refine (multiply_any _ _ _ hp hp).mono ?_; rintro e w' ⟨rfl, rfl⟩)
        go_round
        case rel => exact ⟨2 * e, c, (K : Int) / 2, val_int (by rw [HX.out]), rfl, val_int (by rw [HM2.out]), HN, by omega⟩
        case measure => simp [intOf]; omega
      · have HN : Hid (2 * e * ((K : Int) / 2).toNat + (c + e) = n.toNat) := Lib.hid (by
          have := HE.out
          rw [Int.toNat_natCast] at this
          obtain ⟨H, hH⟩ : ∃ H, K / 2 = H := ⟨_, rfl⟩
          rw [h2, hH]
          have hK : K = 2 * H + 1 := by omega
          rw [hK, Nat.mul_add, Nat.mul_one, ← Nat.mul_assoc, Nat.mul_comm e 2] at this
          omega)
        clear ho h2
        go_wp2_with (first
          | (go_at_call 29; ((with_reducible refine (multiply_any x p _ hx hp).mono ?_); rintro e w' ⟨rfl, rfl⟩))
          | (go_at_call 29; ((with_reducible refine (multiply_any p p _ hp hp).mono ?_); rintro e w' ⟨rfl, rfl⟩)))
        go_round
        case rel => exact ⟨2 * e, c + e, (K : Int) / 2, val_int (by rw [HM1.out]), rfl, val_int (by rw [HM2.out]), HN, by omega⟩
        case measure => simp [intOf]; omega
end Go.Proofs.YtehojhgpgliemaaDoor.Base
