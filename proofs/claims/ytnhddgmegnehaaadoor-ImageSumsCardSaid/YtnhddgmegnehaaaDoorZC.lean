/-
  CRC-32C AS PLAIN NUMBERS: one bit's step is linear over exclusive or, so a byte's step is the sum of two small tables. No program.
  Registers below 2^32.
  PRODUCTS OF REGISTERS AS POLYNOMIALS: multiplying by x^k is k bit steps; what a checksum's register makes of bytes is affine. Plain numbers.
  CONTRACTS OF PACKAGE crc's AND THE REFERENCE's BYTE-WISE FUNCTIONS, in a world whose two tables hold their sixteen numbers.
  CONTRACT: the laws' 'same', and the byte's row of the type table.
  THE CHECKSUM OF THREE BYTE STRINGS' SUM MODULO 2; min of four numbers.
  CONTRACT: crc.Burst.
  A BURST OF AT MOST 32 BITS CHANGES THE CHECKSUM. Plain numbers, no program.
-/
import Derived.Laws.BitsAllLaws
import Derived.Test.YtnhddgmegnehaaaDoorRows
import Derived.Test.YtnhddgmegnehaaaDoorLaw
import Derived.Test.YtnhddgmegnehaaaDoorArgs
import Derived.IntWalk
import Derived.BigQuiet
import Derived.Handy
import Derived.Lib.SlBytesConst
import Derived.Test.YtnhddgmegnehaaaDoorOwn
import Derived.StillTailTactics
import Derived.RegionTactic
import Derived.Deep.RegionHeld3
import Derived.Laws.CopyOwn
set_option linter.unusedVariables false
set_option linter.unusedSimpArgs false
namespace Go.Proofs.YtnhddgmegnehaaaDoor.CrcMath
/-- One bit. -/
def T (r : Nat) : Nat := r / 2 ^^^ (if r % 2 = 1 then 2197175160 else 0)
/-- n bits. -/
def Tn : Nat → Nat → Nat
  | 0, r => r
  | n + 1, r => Tn n (T r)
theorem xor_lt (n : Nat) {a b : Nat} (ha : a < 2 ^ n) (hb : b < 2 ^ n) : a ^^^ b < 2 ^ n := Nat.xor_lt_two_pow ha hb
theorem T_lt {r : Nat} (h : r < 4294967296) : T r < 4294967296 := by
  unfold T
  apply xor_lt 32
  · omega
  · split <;> omega
theorem Tn_lt {r : Nat} (n : Nat) (h : r < 4294967296) : Tn n r < 4294967296 := by
  induction n generalizing r with
  | zero => exact h
  | succ n ih => exact ih (T_lt h)
theorem xor4 (a b c d : Nat) : (a ^^^ b) ^^^ (c ^^^ d) = (a ^^^ c) ^^^ (b ^^^ d) := by
  rw [Nat.xor_assoc, ← Nat.xor_assoc b c d, Nat.xor_comm b c, Nat.xor_assoc c b d, ← Nat.xor_assoc]
theorem T_xor (x y : Nat) : T (x ^^^ y) = T x ^^^ T y := by
  unfold T
  have h1 : (x ^^^ y) / 2 = x / 2 ^^^ y / 2 := by
    have := Nat.xor_div_two_pow (a := x) (b := y) (n := 1)
    simpa using this
  have h2 : (x ^^^ y) % 2 = (x + y) % 2 := by
    have h3 : (x ^^^ y) % 2 ^ 1 = x % 2 ^ 1 ^^^ y % 2 ^ 1 := Nat.xor_mod_two_pow
    simp only [Nat.pow_one] at h3
    have z1 : (0 : Nat) ^^^ 0 = 0 := rfl
    have z2 : (0 : Nat) ^^^ 1 = 1 := rfl
    have z3 : (1 : Nat) ^^^ 0 = 1 := rfl
    have z4 : (1 : Nat) ^^^ 1 = 0 := rfl
    rcases Nat.mod_two_eq_zero_or_one x with hx | hx <;> rcases Nat.mod_two_eq_zero_or_one y with hy | hy <;> rw [h3, hx, hy] <;> omega
  have e0 : ∀ z : Nat, z ^^^ 0 = z := fun z => Nat.xor_zero z
  rw [h1, xor4]
  congr 1
  rcases Nat.mod_two_eq_zero_or_one x with hx | hx <;> rcases Nat.mod_two_eq_zero_or_one y with hy | hy
  · rw [if_neg (by omega), if_neg (by omega), if_neg (by omega)]; rfl
  · rw [if_pos (by omega), if_neg (by omega), if_pos (by omega), Nat.zero_xor]
  · rw [if_pos (by omega), if_pos (by omega), if_neg (by omega), Nat.xor_zero]
  · rw [if_neg (by omega), if_pos (by omega), if_pos (by omega), Nat.xor_self]
theorem Tn_xor (n x y : Nat) : Tn n (x ^^^ y) = Tn n x ^^^ Tn n y := by
  induction n generalizing x y with
  | zero => rfl
  | succ n ih => simp only [Tn]; rw [T_xor, ih]
theorem Tn_zero (n : Nat) : Tn n 0 = 0 := by
  induction n with
  | zero => rfl
  | succ n ih => simp only [Tn]; exact ih
theorem Tn_add (m n r : Nat) : Tn (m + n) r = Tn n (Tn m r) := by
  induction m generalizing r with
  | zero => rw [Nat.zero_add]; rfl
  | succ m ih => rw [Nat.succ_add]; simp only [Tn]; exact ih _
theorem Tn_succ (n r : Nat) : Tn (n + 1) r = T (Tn n r) := by rw [Tn_add]; rfl
/-- An even register is only shifted. -/
theorem Tn_shift (n q : Nat) : Tn n (q * 2 ^ n) = q := by
  induction n generalizing q with
  | zero => simp [Tn]
  | succ n ih =>
    simp only [Tn]
    have e : T (q * 2 ^ (n + 1)) = q * 2 ^ n := by
      unfold T
      have e1 : q * 2 ^ (n + 1) = 2 * (q * 2 ^ n) := by rw [Nat.pow_succ]; rw [← Nat.mul_assoc, Nat.mul_comm]
      rw [e1, if_neg (by omega), Nat.xor_zero]; omega
    rw [e, ih]
def lowL : List Int := [0, 4067132163, 3778769143, 324072436, 3348797215, 904991772, 648144872, 3570033899, 2329499855, 2024987596, 1809983544, 2575936315, 1296289744, 3207089363, 2893594407, 1578318884]
def highL : List Int := [0, 274646895, 549293790, 820201905, 1098587580, 1361435347, 1640403810, 1905808397, 2197175160, 2460548119, 2722870694, 2987750089, 3280807620, 3553878443, 3811616794, 4084100981]
theorem low_tab : ∀ i, i < 16 → lowL.getD i 0 = (Tn 8 i : Nat) := by decide +kernel
theorem high_tab : ∀ i, i < 16 → highL.getD i 0 = (Tn 8 (16 * i) : Nat) := by decide +kernel
theorem split_xor (a b k : Nat) (h : a < 2 ^ k) : a + b * 2 ^ k = a ^^^ (b * 2 ^ k) := by
  apply Nat.eq_of_testBit_eq
  intro i
  rw [Nat.testBit_xor, ← Nat.shiftLeft_eq, Nat.testBit_shiftLeft, Nat.add_comm, Nat.shiftLeft_eq, Nat.mul_comm, Nat.testBit_two_pow_mul_add _ h]
  by_cases hi : i < k
  · rw [if_pos hi, decide_eq_false (by omega)]; simp
  · rw [if_neg hi, Nat.testBit_lt_two_pow (Nat.lt_of_lt_of_le h (Nat.pow_le_pow_right (by omega) (by omega))), decide_eq_true (by omega)]; simp
/-- A byte's step by the two tables. -/
theorem byte_tab (q : Nat) : Tn 8 q = q / 256 ^^^ Tn 8 (q % 16) ^^^ Tn 8 (16 * (q / 16 % 16)) := by
  have e : q = (q % 16 ^^^ (q / 16 % 16) * 2 ^ 4) ^^^ (q / 256) * 2 ^ 8 := by
    rw [← split_xor _ _ 4 (by omega), ← split_xor _ _ 8 (by omega)]; omega
  have h := congrArg (Tn 8) e
  rw [Tn_xor, Tn_xor, Tn_shift] at h
  rw [h, show (q / 16 % 16) * 2 ^ 4 = 16 * (q / 16 % 16) by omega]
  rw [Nat.xor_comm, ← Nat.xor_assoc]
/-- A register over bytes. -/
def sb (r b : Nat) : Nat := Tn 8 (r ^^^ b)
def upd (r : Nat) (zs : List Int) : Nat := zs.foldl (fun r z => sb r z.toNat) r
theorem sb_lt {r b : Nat} (h : r < 4294967296) (hb : b < 256) : sb r b < 4294967296 := Tn_lt 8 (xor_lt 32 h (by omega))
theorem upd_lt {r : Nat} (zs : List Int) (h : r < 4294967296) (hz : ∀ z ∈ zs, 0 ≤ z ∧ z ≤ 255) : upd r zs < 4294967296 := by
  unfold upd
  induction zs generalizing r with
  | nil => exact h
  | cons z zs ih =>
    simp only [List.foldl_cons]
    have := hz z (by simp)
    exact ih (sb_lt h (by omega)) (fun y hy => hz y (by simp [hy]))
theorem upd_append (r : Nat) (xs ys : List Int) : upd r (xs ++ ys) = upd (upd r xs) ys := by unfold upd; rw [List.foldl_append]
theorem upd_snoc (r : Nat) (zs : List Int) (k : Nat) (h : k < zs.length) : upd r (zs.take (k + 1)) = sb (upd r (zs.take k)) (zs.getD k 0).toNat := by
  unfold upd
  rw [List.take_succ_eq_append_getElem h, List.foldl_append]
  simp [List.getD, h]
/-- The reference's register after k bits of the byte b. -/
def rk (r b : Nat) : Nat → Nat
  | 0 => r
  | k + 1 => rk r b k / 2 ^^^ (if (rk r b k % 2 + b / 2 ^ k % 2) % 2 = 1 then 2197175160 else 0)
theorem xor_mod2 (x y : Nat) : (x ^^^ y) % 2 = (x % 2 + y % 2) % 2 := by
  have h3 : (x ^^^ y) % 2 ^ 1 = x % 2 ^ 1 ^^^ y % 2 ^ 1 := Nat.xor_mod_two_pow
  simp only [Nat.pow_one] at h3
  have z1 : (0 : Nat) ^^^ 0 = 0 := rfl
  have z2 : (0 : Nat) ^^^ 1 = 1 := rfl
  have z3 : (1 : Nat) ^^^ 0 = 1 := rfl
  have z4 : (1 : Nat) ^^^ 1 = 0 := rfl
  rcases Nat.mod_two_eq_zero_or_one x with hx | hx <;> rcases Nat.mod_two_eq_zero_or_one y with hy | hy <;> rw [h3, hx, hy] <;> omega
theorem rk_eq (r b k : Nat) : rk r b k ^^^ (b / 2 ^ k) = Tn k (r ^^^ b) := by
  induction k with
  | zero => simp [rk, Tn]
  | succ k ih =>
    rw [Tn_succ, ← ih, T]
    have h1 : (rk r b k ^^^ b / 2 ^ k) / 2 = rk r b k / 2 ^^^ b / 2 ^ k / 2 := by
      have h2 : (rk r b k ^^^ b / 2 ^ k) / 2 ^ 1 = rk r b k / 2 ^ 1 ^^^ b / 2 ^ k / 2 ^ 1 := Nat.xor_div_two_pow
      simpa using h2
    rw [h1, xor_mod2, rk, Nat.div_div_eq_div_mul, ← Nat.pow_succ]
    rw [Nat.xor_assoc, Nat.xor_assoc, Nat.xor_comm (b / 2 ^ (k + 1))]
theorem rk_8 (r b : Nat) (hb : b < 256) : rk r b 8 = sb r b := by
  have h := rk_eq r b 8
  rw [Nat.div_eq_of_lt (by simpa using hb), Nat.xor_zero] at h
  exact h
theorem rk_lt {r b k : Nat} (h : r < 4294967296) : rk r b k < 4294967296 := by
  induction k with
  | zero => exact h
  | succ k ih =>
    unfold rk
    apply xor_lt 32
    · omega
    · split <;> omega
/-- The checksum: the register inverted before and behind. -/
def crcN (c : Nat) (zs : List Int) : Nat := 4294967295 - upd (4294967295 - c) zs
theorem crcN_lt (c : Nat) (zs : List Int) : crcN c zs < 4294967296 := by unfold crcN; omega
theorem crcN_nil (c : Nat) (h : c < 4294967296) : crcN c [] = c := by unfold crcN upd; simp; omega
theorem crcN_append (c : Nat) (xs ys : List Int) (hz : ∀ z ∈ xs, 0 ≤ z ∧ z ≤ 255) : crcN c (xs ++ ys) = crcN (crcN c xs) ys := by
  unfold crcN
  have := upd_lt (r := 4294967295 - c) xs (by omega) hz
  rw [upd_append, show 4294967295 - (4294967295 - upd (4294967295 - c) xs) = upd (4294967295 - c) xs by omega]
/-! ### a checksum behind its bytes -/
theorem shift_in (n x b : Nat) : Tn n x ^^^ b = Tn n (x ^^^ b * 2 ^ n) := by rw [Tn_xor, Tn_shift]
theorem shift_step (n x b : Nat) : Tn 8 (Tn n x ^^^ b) = Tn (n + 8) (x ^^^ b * 2 ^ n) := by rw [shift_in, ← Tn_add]
theorem upd4 (r b0 b1 b2 b3 : Nat) : upd r [(b0 : Int), (b1 : Int), (b2 : Int), (b3 : Int)] = Tn 32 (((r ^^^ b0) ^^^ b1 * 2 ^ 8 ^^^ b2 * 2 ^ 16) ^^^ b3 * 2 ^ 24) := by
  unfold upd sb
  simp only [List.foldl_cons, List.foldl_nil, Int.toNat_natCast]
  rw [shift_step 8 (r ^^^ b0) b1, shift_step 16 _ b2, shift_step 24 _ b3]
theorem join4 (s : Nat) (h : s < 4294967296) : ((s % 256 ^^^ s / 256 % 256 * 2 ^ 8) ^^^ s / 65536 % 256 * 2 ^ 16) ^^^ s / 16777216 % 256 * 2 ^ 24 = s := by
  rw [← split_xor _ _ 8 (by omega), ← split_xor _ _ 16 (by omega), ← split_xor _ _ 24 (by omega)]; omega
theorem not_xor (u : Nat) (h : u < 4294967296) : u ^^^ (4294967295 - u) = 4294967295 := by
  have h1 : (BitVec.allOnes 32 ^^^ BitVec.ofNat 32 u).toNat = 4294967295 - u := by
    rw [BitVec.allOnes_xor, BitVec.toNat_not, BitVec.toNat_ofNat, Nat.mod_eq_of_lt h]
  rw [BitVec.toNat_xor, BitVec.toNat_ofNat, Nat.mod_eq_of_lt h] at h1
  rw [← h1, Nat.xor_comm, Nat.xor_assoc, Nat.xor_self, Nat.xor_zero]; rfl
theorem xor_swap (r a b c d : Nat) : ((r ^^^ a) ^^^ b ^^^ c) ^^^ d = r ^^^ (((a ^^^ b) ^^^ c) ^^^ d) := by
  simp only [Nat.xor_assoc]
theorem residue (p : List Int) (hz : ∀ z ∈ p, 0 ≤ z ∧ z ≤ 255) (s : Nat) (hs : crcN 0 p = s) :
    crcN 0 (p ++ [((s % 256 : Nat) : Int), ((s / 256 % 256 : Nat) : Int), ((s / 65536 % 256 : Nat) : Int), ((s / 16777216 % 256 : Nat) : Int)]) = 1214729159 := by
  have hu := upd_lt (r := 4294967295) p (by omega) hz
  have hsl : s < 4294967296 := by rw [← hs]; exact crcN_lt 0 p
  have e : s = 4294967295 - upd 4294967295 p := by rw [← hs]; rfl
  unfold crcN
  rw [upd_append, Nat.sub_zero, upd4, xor_swap, join4 s hsl, e, not_xor _ hu]
  decide +kernel
end Go.Proofs.YtnhddgmegnehaaaDoor.CrcMath
namespace Go.Proofs.YtnhddgmegnehaaaDoor.CrcMath
/-- The product after j of the 32 steps. -/
def pr (a b : Nat) : Nat → Nat
  | 0 => 0
  | j + 1 => pr a b j ^^^ (if a / 2 ^ (31 - j) % 2 = 1 then Tn j b else 0)
def mul (a b : Nat) : Nat := pr a b 32
theorem T_zero : T 0 = 0 := by decide
theorem pr_T (a b j : Nat) : pr a (T b) j = T (pr a b j) := by
  induction j with
  | zero => rw [pr, pr, T_zero]
  | succ j ih =>
    have e : Tn j (T b) = T (Tn j b) := by rw [← Tn_succ]; rfl
    rw [pr, pr, T_xor, ih]
    by_cases h : a / 2 ^ (31 - j) % 2 = 1
    · rw [if_pos h, if_pos h, e]
    · rw [if_neg h, if_neg h, T_zero]
theorem mul_Tn (a b k : Nat) : mul a (Tn k b) = Tn k (mul a b) := by
  induction k with
  | zero => rfl
  | succ k ih => rw [Tn_succ, Tn_succ]; unfold mul at *; rw [pr_T, ih]
theorem Tn_one (j : Nat) (h : j ≤ 31) : Tn j 2147483648 = 2 ^ (31 - j) := by
  have e : 2147483648 = 2 ^ (31 - j) * 2 ^ j := by rw [← Nat.pow_add, show 31 - j + j = 31 by omega]
  rw [e, Tn_shift]
theorem pr_one (a : Nat) (h : a < 4294967296) : ∀ j, j ≤ 32 → pr a 2147483648 j = a / 2 ^ (32 - j) * 2 ^ (32 - j)
  | 0, _ => by rw [pr, Nat.div_eq_of_lt (by simpa using h)]
  | j + 1, hj => by
    rw [pr, pr_one a h j (by omega)]
    obtain ⟨m, hm⟩ : ∃ m, 31 - j = m := ⟨_, rfl⟩
    have e1 : 32 - j = m + 1 := by omega
    have e2 : 32 - (j + 1) = m := by omega
    rw [Tn_one j (by omega), hm, e1, e2]
    have hb : a / 2 ^ m = 2 * (a / 2 ^ (m + 1)) + a / 2 ^ m % 2 := by rw [Nat.pow_succ, ← Nat.div_div_eq_div_mul]; omega
    have p := Nat.two_pow_pos m
    have hs := split_xor ((a / 2 ^ m % 2) * 2 ^ m) (a / 2 ^ (m + 1)) (m + 1) (by
      rw [Nat.pow_succ]
      have h2 : a / 2 ^ m % 2 < 2 := Nat.mod_lt _ (by omega)
      rcases Nat.mod_two_eq_zero_or_one (a / 2 ^ m) with h3 | h3 <;> rw [h3] <;> omega)
    rw [Nat.xor_comm] at hs
    have e3 : (if a / 2 ^ m % 2 = 1 then 2 ^ m else 0) = a / 2 ^ m % 2 * 2 ^ m := by
      rcases Nat.mod_two_eq_zero_or_one (a / 2 ^ m) with h3 | h3 <;> rw [h3] <;> simp
    rw [e3, ← hs]
    have e4 : a / 2 ^ m * 2 ^ m = (2 * (a / 2 ^ (m + 1)) + a / 2 ^ m % 2) * 2 ^ m := by rw [← hb]
    rw [e4, Nat.add_mul, Nat.pow_succ, Nat.mul_comm 2, Nat.mul_assoc, Nat.mul_comm 2, Nat.add_comm]
theorem mul_one (a : Nat) (h : a < 4294967296) : mul a 2147483648 = a := by
  unfold mul; rw [pr_one a h 32 (Nat.le_refl _)]; simp
/-- Multiplying by x^k. -/
theorem mul_shift (a k : Nat) (h : a < 4294967296) : mul a (Tn k 2147483648) = Tn k a := by rw [mul_Tn, mul_one a h]
theorem pr_lt {a b : Nat} (hb : b < 4294967296) : ∀ j, pr a b j < 4294967296
  | 0 => by rw [pr]; omega
  | j + 1 => by
    unfold pr
    apply xor_lt 32 (pr_lt hb j)
    split
    · exact Tn_lt j hb
    · omega
theorem top_bit (a j : Nat) (h : a < 4294967296) (hj : j ≤ 31) : a * 2 ^ j % 4294967296 / 2147483648 = a / 2 ^ (31 - j) % 2 := by
  have p := Nat.two_pow_pos (31 - j)
  have e1 : (2147483648 : Nat) = 2 ^ j * 2 ^ (31 - j) := by rw [← Nat.pow_add, show j + (31 - j) = 31 by omega]
  have e2 : (4294967296 : Nat) = 2147483648 * 2 := rfl
  rw [e2, Nat.mod_mul_right_div_self]
  congr 1
  rw [e1, Nat.mul_comm a, Nat.mul_div_mul_left _ _ (Nat.two_pow_pos j)]
theorem rest_zero (a j i : Nat) (hj : j ≤ i) (hi : i ≤ 31) (h : a * 2 ^ j % 4294967296 = 0) : a / 2 ^ (31 - i) % 2 = 0 := by
  have e1 : (4294967296 : Nat) = 2 ^ (32 - j) * 2 ^ j := by rw [← Nat.pow_add, show 32 - j + j = 32 by omega]
  rw [e1, Nat.mul_mod_mul_right] at h
  have h2 : a % 2 ^ (32 - j) = 0 := by
    rcases Nat.mul_eq_zero.1 h with h3 | h3
    · exact h3
    · exact absurd h3 (Nat.ne_of_gt (Nat.two_pow_pos j))
  obtain ⟨c, rfl⟩ := Nat.dvd_of_mod_eq_zero h2
  have e2 : 2 ^ (32 - j) * c = 2 ^ (31 - i) * (2 * (2 ^ (i - j) * c)) := by
    rw [← Nat.mul_assoc, ← Nat.mul_assoc, ← Nat.pow_succ, ← Nat.pow_add]; congr 2; omega
  rw [e2, Nat.mul_div_cancel_left _ (Nat.two_pow_pos _)]; omega
theorem pr_rest (a b j : Nat) (hj : j ≤ 32) (h : a * 2 ^ j % 4294967296 = 0) : pr a b j = mul a b := by
  have : ∀ d, j + d ≤ 32 → pr a b (j + d) = pr a b j := by
    intro d
    induction d with
    | zero => intro _; rfl
    | succ d ih =>
      intro hd
      rw [← Nat.add_assoc, pr, if_neg (by rw [rest_zero a j (j + d) (by omega) (by omega) h]; omega), Nat.xor_zero, ih (by omega)]
  unfold mul
  rw [show 32 = j + (32 - j) by omega, this _ (by omega)]
theorem pr_end (a b : Nat) : pr a b 32 = mul a b := rfl
/-! ### checksums joined -/
theorem upd_affine (r s : Nat) (ys : List Int) : upd (r ^^^ s) ys = upd r ys ^^^ Tn (8 * ys.length) s := by
  unfold upd
  induction ys generalizing r s with
  | nil => rfl
  | cons y ys ih =>
    simp only [List.foldl_cons, List.length_cons]
    have e : sb (r ^^^ s) y.toNat = sb r y.toNat ^^^ Tn 8 s := by
      unfold sb
      rw [← Tn_xor]; congr 1
      rw [Nat.xor_assoc, Nat.xor_comm s, ← Nat.xor_assoc]
    rw [e, ih, ← Tn_add, show 8 + 8 * ys.length = 8 * (ys.length + 1) by omega]
theorem not_as_xor (u : Nat) (h : u < 4294967296) : 4294967295 - u = 4294967295 ^^^ u := by
  have := not_xor u h
  have h2 : 4294967295 ^^^ u = (u ^^^ (4294967295 - u)) ^^^ u := by rw [this]
  rw [h2, Nat.xor_comm u, Nat.xor_assoc, Nat.xor_self, Nat.xor_zero]
theorem joins (xs ys : List Int) (hx : ∀ z ∈ xs, 0 ≤ z ∧ z ≤ 255) (hy : ∀ z ∈ ys, 0 ≤ z ∧ z ≤ 255) : crcN 0 (xs ++ ys) = Tn (8 * ys.length) (crcN 0 xs) ^^^ crcN 0 ys := by
  have hu := upd_lt (r := 4294967295) xs (by omega) hx
  have hv := upd_lt (r := 4294967295) ys (by omega) hy
  unfold crcN
  rw [upd_append, Nat.sub_zero]
  have hw := upd_lt (r := upd 4294967295 xs) ys hu hy
  obtain ⟨u, eu⟩ : ∃ u, upd 4294967295 xs = u := ⟨_, rfl⟩
  rw [eu] at hu hw ⊢
  have e : u = 4294967295 ^^^ (4294967295 - u) := by rw [not_as_xor u hu, ← Nat.xor_assoc, Nat.xor_self, Nat.zero_xor]
  have h := upd_affine 4294967295 (4294967295 - u) ys
  rw [← e] at h
  rw [not_as_xor _ hw, h, not_as_xor _ hv, Nat.xor_comm (Tn _ _), Nat.xor_assoc]
/-- The moved register of Combine. -/
def comb (a b n : Nat) : Nat := Tn (8 * n) a ^^^ b
end Go.Proofs.YtnhddgmegnehaaaDoor.CrcMath
namespace Go.Proofs.YtnhddgmegnehaaaDoor.Crc
open Go.ChangeShapes Go.WideShapes Go.ChangeAt Go.RowKit Go.Proofs.YtnhddgmegnehaaaDoor.CrcMath Go.Proofs.YtnhddgmegnehaaaDoor.Law Go.Proofs.YtnhddgmegnehaaaDoor.Args

theorem ret_bool {a b : Bool} (h : a = b) : Ending.returned (.bool a) = .returned (.bool b) := by rw [h]
theorem ret_int {k : IntKind} {a b : Int} (h : a = b) : Ending.returned (.int k a) = .returned (.int k b) := by rw [h]
theorem val_int {k : IntKind} {a b : Int} (h : a = b) : Value.int k a = Value.int k b := by rw [h]
theorem wf_i64 {a : Int} (h : (Lit.int .i64 a).wf = true) : -9223372036854775808 ≤ a ∧ a ≤ 9223372036854775807 := by
  simpa [Lit.wf, IntKind.min, IntKind.max, IntKind.bits, IntKind.signed] using h
theorem wf_u64 {a : Int} (h : (Lit.int .u64 a).wf = true) : 0 ≤ a ∧ a ≤ 18446744073709551615 := by
  simpa [Lit.wf, IntKind.min, IntKind.max, IntKind.bits, IntKind.signed] using h
theorem wf_u32 {a : Int} (h : (Lit.int .u32 a).wf = true) : 0 ≤ a ∧ a ≤ 4294967295 := by
  simpa [Lit.wf, IntKind.min, IntKind.max, IntKind.bits, IntKind.signed] using h
theorem wf_u8 {a : Int} (h : (Lit.int .u8 a).wf = true) : 0 ≤ a ∧ a ≤ 255 := by
  simpa [Lit.wf, IntKind.min, IntKind.max, IntKind.bits, IntKind.signed] using h

/-- THE TWO TABLES LIE IN THE WORLD. -/
def Tab (w : World) : Prop := ∀ i, i < 16 → w.cell? ⟨0, i, none⟩ = some (.int .u32 (lowL.getD i 0)) ∧ w.cell? ⟨1, i, none⟩ = some (.int .u32 (highL.getD i 0))
theorem Tab.drewN {w : World} (h : Tab w) (n : Nat) : Tab (w.drewN n) := h
theorem Tab.below {w w' : World} (h : Tab w) (hb : Below w.heap.size w w') : Tab w' := fun i hi => by
  have h0 := h i hi
  exact ⟨(hb.cell (p := ⟨_, i, none⟩) (cell_lt h0.1)).trans h0.1, (hb.cell (p := ⟨_, i, none⟩) (cell_lt h0.2)).trans h0.2⟩

theorem shiftByte_any (r b : Nat) (w : World) (hr : r < 4294967296) (hb : b < 256) (ht : Hid (Tab w)) :
    Calls Tryd.prog 55 #[.int .u32 (r : Int), .int .u8 (b : Int)] w fun e w' => e = .returned (.int .u32 ((sb r b : Nat) : Int)) ∧ ∃ n, w' = w.drewN n := by
  obtain ⟨q, hq⟩ : ∃ q, r ^^^ b = q := ⟨_, rfl⟩
  have hql : q < 4294967296 := by rw [← hq]; exact xor_lt 32 hr (by omega)
  have e1 : bits .xor .u32 (r : Int) (b : Int) = (q : Int) := by rw [u32_xor_nat _ _ hr (by omega), hq]
  have e2 : bits .and .u32 (q : Int) 15 = ((q % 16 : Nat) : Int) := by
    rw [show (15 : Int) = ((2 ^ 4 - 1 : Nat) : Int) from rfl, u32_and_nat _ _ hql (by omega), Nat.and_two_pow_sub_one_eq_mod]
  have e3 : bits .and .u32 ((q : Int) / 16) 15 = ((q / 16 % 16 : Nat) : Int) := by
    rw [show (15 : Int) = ((2 ^ 4 - 1 : Nat) : Int) from rfl, show (q : Int) / 16 = ((q / 16 : Nat) : Int) from by omega, u32_and_nat _ _ (by omega) (by omega), Nat.and_two_pow_sub_one_eq_mod]
  obtain ⟨i, hi⟩ : ∃ i, q % 16 = i := ⟨_, rfl⟩
  obtain ⟨j, hj⟩ : ∃ j, q / 16 % 16 = j := ⟨_, rfl⟩
  have hi16 : i < 16 := by omega
  have hj16 : j < 16 := by omega
  rw [hi] at e2
  rw [hj] at e3
  have c0 := (ht.out i hi16).1
  have c1 := (ht.out j hj16).2
  rw [low_tab i hi16] at c0
  rw [high_tab j hj16] at c1
  have hl0 := Tn_lt 8 (r := i) (by omega)
  have hl1 := Tn_lt 8 (r := 16 * j) (by omega)
  have E : Hid (bits .xor .u32 (bits .xor .u32 ((q : Int) / 256) ((Tn 8 i : Nat) : Int)) ((Tn 8 (16 * j) : Nat) : Int) = ((sb r b : Nat) : Int)) := by
    apply Lib.hid
    unfold sb
    rw [hq, byte_tab q, hi, hj, show (q : Int) / 256 = ((q / 256 : Nat) : Int) from by omega, u32_xor_nat _ _ (by omega) hl0, u32_xor_nat _ _ (xor_lt 32 (by omega) hl0) hl1]
  clear hq hi hj
  go_enter Tryd.func55, Tryd.ntmps55
  go_wp2
  go_quiet (fail)
  go_wp2
  go_ret
  exact ⟨ret_int E.out, _, rfl⟩

/-- The bytes of a slice as numbers below 256. -/
theorem byte_at {zs : List Int} (hw : ∀ z ∈ zs, (Lit.int .u8 z).wf = true) {k : Nat} (h : k < zs.length) : ∃ b : Nat, b < 256 ∧ zs.getD k 0 = (b : Int) := by
  have := wf_u8 (wf_at hw h)
  exact ⟨(zs.getD k 0).toNat, by omega, by omega⟩
theorem bytes_range {zs : List Int} (hw : ∀ z ∈ zs, (Lit.int .u8 z).wf = true) : ∀ z ∈ zs, 0 ≤ z ∧ z ≤ 255 := fun z hz => wf_u8 (hw z hz)
theorem not32 (c : Nat) (hc : c < 4294967296) : bits .xor .u32 IntKind.u32.max (c : Int) = ((4294967295 - c : Nat) : Int) := by
  rw [show IntKind.u32.max = ((4294967295 : Nat) : Int) from rfl, u32_xor_nat _ _ (by omega) hc]
  have h : (BitVec.allOnes 32 ^^^ BitVec.ofNat 32 c).toNat = 4294967295 - c := by
    rw [BitVec.allOnes_xor, BitVec.toNat_not, BitVec.toNat_ofNat, Nat.mod_eq_of_lt hc]
  rw [BitVec.toNat_xor, BitVec.toNat_ofNat, Nat.mod_eq_of_lt hc] at h
  exact congrArg Int.ofNat h
theorem update_any (c : Nat) (A : Option Addr) (n cap B : Nat) (zs : List Int) (w : World) (hc : c < 4294967296) (hl : zs.length = n) (hn : n ≤ 9223372036854775807) (ht : Hid (Tab w)) (hr : Hid (IntsAt .u8 w B A zs)) (hw : Hid (∀ z ∈ zs, (Lit.int .u8 z).wf = true)) :
    Calls Tryd.prog 41 #[.int .u32 (c : Int), .slice A n cap] w fun e w' => e = .returned (.int .u32 ((crcN c zs : Nat) : Int)) ∧ ∃ n, w' = w.drewN n := by
  have HL := Lib.hid hl
  obtain ⟨d, hd⟩ : ∃ d : Nat, 4294967295 - c = d := ⟨_, rfl⟩
  have hdl : d < 4294967296 := by omega
  have hnot := not32 c hc
  rw [hd] at hnot
  have HD := Lib.hid hd
  clear hl hd
  go_enter Tryd.func41, Tryd.ntmps41
  go_wp2
  go_loopw [5, 12] (fun v i wr => ∃ k m : Nat, k ≤ n ∧ i = .int .i64 k ∧ v = .int .u32 ((upd d (zs.take k) : Nat) : Int) ∧ wr = w.drewN m) (fun _ i _ => n - (intOf i).toNat)
  case atStart => exact ⟨0, 0, by omega, rfl, rfl, rfl⟩
  case round =>
    obtain ⟨k, m, hk, rfl, rfl, rfl⟩ := hrel
    have hul := upd_lt (zs.take k) hdl (fun z hz => bytes_range hw.out z (List.mem_of_mem_take hz))
    by_cases hlt : k < n
    · have hkl : k < zs.length := by have := HL.out; omega
      obtain ⟨ad, rfl, _, hcell⟩ := hr.out k hkl
      obtain ⟨b, hb, eb⟩ := byte_at hw.out hkl
      have HS := Lib.hid (upd_snoc d zs k hkl)
      rw [eb] at hcell
      have EB := Lib.hid eb
      clear eb hkl
      obtain ⟨u, hu⟩ : ∃ u, upd d (zs.take k) = u := ⟨_, rfl⟩
      rw [hu] at hul
      have HU := Lib.hid hu
      rw [hu]
      clear hu
      go_wp2_with (go_at_call 55; refine (shiftByte_any _ _ _ (by omega) hb (Lib.hid (ht.out.drewN _))).mono ?_; rintro e w' ⟨rfl, m1, rfl⟩)
      go_roundw
      case rel => exact ⟨k + 1, m + m1, by omega, by go_num, val_int (by rw [HS.out, EB.out, HU.out]; rfl), by simp⟩
      case measure => simp [intOf]; omega
    · have hk' : zs.length ≤ k := by have := HL.out; omega
      have HT := Lib.hid (List.take_of_length_le hk')
      have hn2 := not32 _ hul
      clear hk'
      go_wp2
      go_ret
      exact ⟨ret_int (by rw [HT.out]; unfold crcN; rw [HD.out]), m, rfl⟩
theorem sum_any (A : Option Addr) (n cap B : Nat) (zs : List Int) (w : World) (hl : zs.length = n) (hn : n ≤ 9223372036854775807) (ht : Hid (Tab w)) (hr : Hid (IntsAt .u8 w B A zs)) (hw : Hid (∀ z ∈ zs, (Lit.int .u8 z).wf = true)) :
    Calls Tryd.prog 28 #[.slice A n cap] w fun e w' => e = .returned (.int .u32 ((crcN 0 zs : Nat) : Int)) ∧ ∃ n, w' = w.drewN n := by
  have HL := Lib.hid hl
  clear hl
  have HU := Lib.hid (update_any 0 A n cap B zs w (by omega) HL.out hn ht hr hw)
  go_enter Tryd.func28, Tryd.ntmps28
  go_wp2_with (go_at_call 41; refine (HU.out).mono ?_; rintro e w' ⟨rfl, m1, rfl⟩)
  go_ret
  exact ⟨rfl, m1, rfl⟩

/-! ### the reference -/
/-! ### Cut, awake -/
end Go.Proofs.YtnhddgmegnehaaaDoor.Crc
namespace Go.Proofs.YtnhddgmegnehaaaDoor.Crc
open Go.ChangeShapes Go.WideShapes Go.ChangeAt Go.RowKit Go.Proofs.YtnhddgmegnehaaaDoor.CrcMath Go.Proofs.YtnhddgmegnehaaaDoor.Law Go.Proofs.YtnhddgmegnehaaaDoor.Args Go.Proofs.YtnhddgmegnehaaaDoor.Own
theorem info8 : (Tryd.prog.info? 5).map (fun i => (i.zero, i.size, i.bytes)) = some (some (.int .u8 0), 1, 1) := by kernel_rfl
end Go.Proofs.YtnhddgmegnehaaaDoor.Crc
namespace Go.Proofs.YtnhddgmegnehaaaDoor.CrcMath
/-- Byte i of the sum. -/
def xb (xs ys zs : List Int) (i : Nat) : Nat := ((xs.getD i 0).toNat ^^^ (ys.getD i 0).toNat) ^^^ (zs.getD i 0).toNat
def xr (xs ys zs : List Int) (n : Nat) : List Int := (List.range n).map fun i => (xb xs ys zs i : Int)
theorem xr_len (xs ys zs : List Int) (n : Nat) : (xr xs ys zs n).length = n := by simp [xr]
theorem xr_zero (xs ys zs : List Int) : xr xs ys zs 0 = [] := rfl
theorem xr_succ (xs ys zs : List Int) (k : Nat) : xr xs ys zs (k + 1) = xr xs ys zs k ++ [(xb xs ys zs k : Int)] := by
  unfold xr; rw [List.range_succ, List.map_append]; rfl
/-- the row after k stores, k ≤ n. -/
def xto (xs ys zs : List Int) (n k : Nat) : List Int := xr xs ys zs k ++ List.replicate (n - k) 0
theorem xto_len (xs ys zs : List Int) (n k : Nat) (h : k ≤ n) : (xto xs ys zs n k).length = n := by unfold xto; rw [List.length_append, xr_len, List.length_replicate]; omega
theorem xto_zero (xs ys zs : List Int) (n : Nat) : xto xs ys zs n 0 = List.replicate n 0 := by simp [xto, xr_zero]
theorem xto_full (xs ys zs : List Int) (n : Nat) : xto xs ys zs n n = xr xs ys zs n := by simp [xto]
theorem xto_step (xs ys zs : List Int) (n k : Nat) (h : k < n) : (xto xs ys zs n k).set k (xb xs ys zs k) = xto xs ys zs n (k + 1) := by
  unfold xto
  obtain ⟨m, rfl⟩ : ∃ m, n = k + m + 1 := ⟨n - k - 1, by omega⟩
  rw [show k + m + 1 - k = m + 1 by omega, show k + m + 1 - (k + 1) = m by omega, List.replicate_succ, xr_succ, List.set_append_right _ _ (by rw [xr_len]; omega), xr_len, Nat.sub_self, List.set_cons_zero, List.append_assoc]
  rfl
theorem xor6 (a b c d e f : Nat) : ((a ^^^ b) ^^^ c) ^^^ ((d ^^^ e) ^^^ f) = ((a ^^^ d) ^^^ (b ^^^ e)) ^^^ (c ^^^ f) := by rw [xor4, xor4 a b d e]
theorem upd_three (r : Nat) (xs ys zs : List Int) (n : Nat) (hx : xs.length = n) (hy : ys.length = n) (hz : zs.length = n) :
    ∀ k, k ≤ n → upd r (xr xs ys zs k) = (upd r (xs.take k) ^^^ upd r (ys.take k)) ^^^ upd r (zs.take k) := by
  intro k
  induction k with
  | zero => intro _; simp [xr_zero, upd]
  | succ k ih =>
    intro hk
    rw [xr_succ, upd_append, ih (by omega), upd_snoc r xs k (by omega), upd_snoc r ys k (by omega), upd_snoc r zs k (by omega)]
    show sb _ ((xb xs ys zs k : Int)).toNat = _
    unfold sb xb
    rw [Int.toNat_natCast, xor6, Tn_xor, Tn_xor]
theorem linear (xs ys zs : List Int) (n : Nat) (hx : xs.length = n) (hy : ys.length = n) (hz : zs.length = n) (bx : ∀ z ∈ xs, 0 ≤ z ∧ z ≤ 255) (by' : ∀ z ∈ ys, 0 ≤ z ∧ z ≤ 255) (bz : ∀ z ∈ zs, 0 ≤ z ∧ z ≤ 255) :
    (crcN 0 xs ^^^ crcN 0 ys) ^^^ crcN 0 zs = crcN 0 (xr xs ys zs n) := by
  have h := upd_three 4294967295 xs ys zs n hx hy hz n (Nat.le_refl _)
  rw [List.take_of_length_le (by omega), List.take_of_length_le (by omega), List.take_of_length_le (by omega)] at h
  have lx := upd_lt xs (r := 4294967295) (by omega) bx
  have ly := upd_lt ys (r := 4294967295) (by omega) by'
  have lz := upd_lt zs (r := 4294967295) (by omega) bz
  unfold crcN
  rw [Nat.sub_zero, h]
  generalize upd 4294967295 xs = a at *
  generalize upd 4294967295 ys = b at *
  generalize upd 4294967295 zs = c at *
  rw [not_as_xor a lx, not_as_xor b ly, not_as_xor c lz, not_as_xor _ (xor_lt 32 (xor_lt 32 lx ly) lz), xor4 4294967295 a 4294967295 b, Nat.xor_self, Nat.zero_xor]
  rw [← Nat.xor_assoc, Nat.xor_comm (a ^^^ b) 4294967295, Nat.xor_assoc]
theorem xb_lt (xs ys zs : List Int) (i : Nat) {x y z : Nat} (hx : x < 256) (hy : y < 256) (hz : z < 256) (ex : xs.getD i 0 = (x : Int)) (ey : ys.getD i 0 = (y : Int)) (ez : zs.getD i 0 = (z : Int)) : xb xs ys zs i = (x ^^^ y) ^^^ z := by
  unfold xb; rw [ex, ey, ez]; rfl
end Go.Proofs.YtnhddgmegnehaaaDoor.CrcMath
namespace Go.Proofs.YtnhddgmegnehaaaDoor.Crc
open Go.RowKit Go.Proofs.YtnhddgmegnehaaaDoor.Args
theorem run_min4 {P : Program} {w : World} (ts : Array TypeId) (t : TypeId) (x y z u n : Nat) (h : min (min (min x y) z) u = n) : (Builtin.min_ ts t #[.int .i64 x, .int .i64 y, .int .i64 z, .int .i64 u]).run P w = .ok (.int .i64 (n : Int)) w := by
  subst h
  simp [Builtin.min_, Builtin.min2]
  (repeat' split) <;> omega
theorem byte_wf {z : Nat} (h : z < 256) : (Lit.int .u8 (z : Int)).wf = true := by
  simp [Lit.wf, IntKind.min, IntKind.max, IntKind.bits, IntKind.signed]; omega
theorem getD_small {xs : List Int} (h : ∀ z ∈ xs, (Lit.int .u8 z).wf = true) (i : Nat) : (xs.getD i 0).toNat < 256 := by
  rcases Nat.lt_or_ge i xs.length with hi | hi
  · obtain ⟨b, hb, e⟩ := byte_at h hi
    rw [e]; simpa using hb
  · simp [List.getD, List.getElem?_eq_none hi]
theorem xr_wf {xs ys zs : List Int} (hx : ∀ z ∈ xs, (Lit.int .u8 z).wf = true) (hy : ∀ z ∈ ys, (Lit.int .u8 z).wf = true) (hz : ∀ z ∈ zs, (Lit.int .u8 z).wf = true) (n : Nat) : ∀ z ∈ CrcMath.xr xs ys zs n, (Lit.int .u8 z).wf = true := by
  intro z h
  obtain ⟨i, _, rfl⟩ := List.mem_map.1 h
  exact byte_wf (CrcMath.xor_lt 8 (CrcMath.xor_lt 8 (getD_small hx i) (getD_small hy i)) (getD_small hz i))
theorem held_on {A B w w' : World} (h : Below A.heap.size A w ∧ Below B.heap.size B w) (hb : Below w.heap.size w w') : Below A.heap.size A w' ∧ Below B.heap.size B w' :=
  ⟨h.1.trans (hb.mono h.1.size), h.2.trans (hb.mono h.2.size)⟩
theorem held_draws {A B w : World} (h : Below A.heap.size A w ∧ Below B.heap.size B w) (n : Nat) : Below A.heap.size A (w.drewN n) ∧ Below B.heap.size B (w.drewN n) :=
  ⟨Law.below_draws h.1 n, Law.below_draws h.2 n⟩
end Go.Proofs.YtnhddgmegnehaaaDoor.Crc
namespace Go.Proofs.YtnhddgmegnehaaaDoor.CrcMath
/-- round j strikes bit bit + j. -/
def hit (n : Nat) (bit : Int) (pat j : Nat) : Prop := pat / 2 ^ j % 2 = 1 ∧ 0 ≤ bit + (j : Int) ∧ bit + (j : Int) < 8 * (n : Int)
instance (n : Nat) (bit : Int) (pat j : Nat) : Decidable (hit n bit pat j) := by unfold hit; infer_instance
def flp (zs : List Int) (k : Nat) : List Int := zs.set (k / 8) (((zs.getD (k / 8) 0).toNat ^^^ 2 ^ (k % 8) : Nat) : Int)
def brs (zs : List Int) (bit : Int) (pat : Nat) : Nat → List Int
  | 0 => zs
  | j + 1 => if hit zs.length bit pat j then flp (brs zs bit pat j) (bit + (j : Int)).toNat else brs zs bit pat j
theorem flp_len (zs : List Int) (k : Nat) : (flp zs k).length = zs.length := by unfold flp; rw [List.length_set]
theorem brs_len (zs : List Int) (bit : Int) (pat j : Nat) : (brs zs bit pat j).length = zs.length := by
  induction j with
  | zero => rfl
  | succ j ih => unfold brs; split <;> simp [flp_len, ih]
end Go.Proofs.YtnhddgmegnehaaaDoor.CrcMath
namespace Go.Proofs.YtnhddgmegnehaaaDoor.Crc
open Go.ChangeShapes Go.WideShapes Go.ChangeAt Go.RowKit Go.Proofs.YtnhddgmegnehaaaDoor.CrcMath Go.Proofs.YtnhddgmegnehaaaDoor.Law Go.Proofs.YtnhddgmegnehaaaDoor.Args Go.Proofs.YtnhddgmegnehaaaDoor.Own
theorem own_row {k : IntKind} {e : TypeId} {w : World} {base g n : Nat} {zs : List Int} (h : OwnInts k e w base (.slice (some ⟨g, 0, none⟩) n n) zs) (hl : zs.length = n) : w.heap[g]? = some (.cells (zs.map (Value.int k)).toArray e (0, 0)) ∧ base ≤ g ∧ n ≤ maxLen := by
  rcases h.2 with ⟨h', _⟩ | ⟨g', cap', cur, h', hb, hg, hnc, hcm, hcs, ht⟩
  · cases h'
  · simp only [Value.slice.injEq, Option.some.injEq, Addr.mk.injEq, and_true] at h'
    obtain ⟨rfl, _, rfl⟩ := h'
    refine ⟨?_, hb, hcm⟩
    have h1 : cur.toList = zs.map (Value.int k) := by
      rw [← ht, List.take_of_length_le (by rw [Array.length_toList, hcs]; omega)]
    rw [hg, ← h1]
theorem row_own {k : IntKind} {e : TypeId} {w : World} {base g n : Nat} {zs : List Int} (hg : w.heap[g]? = some (.cells (zs.map (Value.int k)).toArray e (0, 0))) (hb : base ≤ g) (hm : n ≤ maxLen) (hl : zs.length = n) : OwnInts k e w base (.slice (some ⟨g, 0, none⟩) n n) zs := by
  subst hl
  exact ⟨by simp, .inr ⟨g, zs.length, _, rfl, hb, hg, Nat.le_refl _, hm, by simp, by simp [List.take_of_length_le]⟩⟩
theorem brs_wf {zs : List Int} (bit : Int) (pat : Nat) (h : ∀ z ∈ zs, (Lit.int .u8 z).wf = true) (j : Nat) : ∀ z ∈ brs zs bit pat j, (Lit.int .u8 z).wf = true := by
  induction j with
  | zero => exact h
  | succ j ih =>
    unfold brs
    split
    · intro z hz
      unfold flp at hz
      rcases List.mem_or_eq_of_mem_set hz with h1 | rfl
      · exact ih z h1
      · have h2 : 2 ^ ((bit + (j : Int)).toNat % 8) ≤ 2 ^ 7 := Nat.pow_le_pow_right (by omega) (by omega)
        exact byte_wf (xor_lt 8 (getD_small ih _) (by omega))
    · exact ih
theorem and_one (y : Nat) (h : y < 4294967296) : bits .and .u32 (y : Int) 1 = ((y % 2 : Nat) : Int) := by
  rw [show (1 : Int) = ((1 : Nat) : Int) from rfl, u32_and_nat _ _ h (by omega)]
  congr 1
  rw [Nat.and_one_is_mod]
set_option maxRecDepth 100000 in
theorem burst_any (A : Option Addr) (n cap B : Nat) (zs : List Int) (bit : Int) (pat : Nat) (w : World) (hl : zs.length = n) (hn : n ≤ 9223372036854775) (hr : Hid (IntsAt .u8 w B A zs)) (hB : B ≤ w.heap.size) (hw : Hid (∀ z ∈ zs, (Lit.int .u8 z).wf = true)) (hp : pat < 4294967296) (hb1 : -9223372036854775808 ≤ bit) (hb2 : bit ≤ 9223372036854775807) (hn2 : n ≤ 140737488351232) :
    Calls Tryd.prog 26 #[.slice A n cap, .int .i64 bit, .int .u32 (pat : Int)] w fun e w' => ∃ v, e = .returned v ∧ Hid (OwnInts .u8 5 w' w.heap.size v (brs zs bit pat 32) ∧ Below w.heap.size w w') := by
  have HL := Lib.hid hl
  obtain ⟨i0, hi, hz0, hz1, hz2⟩ := info_parts info8
  have HI := Lib.hid hi
  have HZ0 := Lib.hid hz0
  have HZ1 := Lib.hid hz1
  have HZ2 := Lib.hid hz2
  clear hl hi hz0 hz1 hz2
  go_enter Tryd.func26, Tryd.ntmps26
  obtain ⟨cs, hcs⟩ : ∃ cs, zs.map (Value.int .u8) = cs := ⟨_, rfl⟩
  obtain ⟨c0, hc0⟩ : ∃ c0, (List.replicate n (0 : Int)).map (Value.int .u8) = c0 := ⟨_, rfl⟩
  have HCS := Lib.hid hcs
  have HC0 := Lib.hid hc0
  have LCS : Hid (cs.length = n) := Lib.hid (by rw [← hcs, List.length_map, HL.out])
  have LC0 : Hid (c0.length = n) := Lib.hid (by rw [← hc0]; simp)
  have HCP : Hid (∀ w2, Below w.heap.size w w2 → 0 < cs.length → ∃ ad, A = some ad ∧ ∀ j v, cs[j]? = some v → w2.cell? (ad.add j) = some v) := Lib.hid (by
    intro w2 hb hpos
    rw [LCS.out] at hpos
    obtain ⟨ad, hA, _, _⟩ := hr.out 0 (by rw [HL.out]; exact hpos)
    refine ⟨ad, hA, fun j v hj => ?_⟩
    rw [← hcs, List.getElem?_map] at hj
    rcases Nat.lt_or_ge j zs.length with h | h
    · obtain ⟨ad', hA', had, hc⟩ := hr.out j h
      rw [hA] at hA'
      injection hA' with hA'
      subst hA'
      rw [(hb.cell (p := ad.add j) (by rw [add_block]; omega)), hc, getD_at h]
      simpa [h] using hj
    · rw [List.getElem?_eq_none h] at hj; cases hj)
  have H1C : Hid (∀ v ∈ cs, v.oneCell' = true) := Lib.hid (by
    intro v hv
    rw [← hcs] at hv
    obtain ⟨z, _, rfl⟩ := List.mem_map.1 hv
    rfl)
  have HSZ : Hid ((Tryd.prog.info? 5).map (·.size) = some 1) := Lib.hid (by rw [HI.out]; exact congrArg some HZ1.out)
  clear hcs hc0
  obtain ⟨cs, hcs⟩ : ∃ cs, zs.map (Value.int .u8) = cs := ⟨_, rfl⟩
  obtain ⟨c0, hc0⟩ : ∃ c0, (List.replicate n (0 : Int)).map (Value.int .u8) = c0 := ⟨_, rfl⟩
  have HCS := Lib.hid hcs
  have HC0 := Lib.hid hc0
  have LCS : Hid (cs.length = n) := Lib.hid (by rw [← hcs, List.length_map, HL.out])
  have LC0 : Hid (c0.length = n) := Lib.hid (by rw [← hc0]; simp)
  have HCP : Hid (∀ w2, Below w.heap.size w w2 → 0 < cs.length → ∃ ad, A = some ad ∧ ∀ j v, cs[j]? = some v → w2.cell? (ad.add j) = some v) := Lib.hid (by
    intro w2 hb hpos
    rw [LCS.out] at hpos
    obtain ⟨ad, hA, _, _⟩ := hr.out 0 (by rw [HL.out]; exact hpos)
    refine ⟨ad, hA, fun j v hj => ?_⟩
    rw [← hcs, List.getElem?_map] at hj
    rcases Nat.lt_or_ge j zs.length with h | h
    · obtain ⟨ad', hA', had, hc⟩ := hr.out j h
      rw [hA] at hA'
      injection hA' with hA'
      subst hA'
      rw [(hb.cell (p := ad.add j) (by rw [add_block]; omega)), hc, getD_at h]
      simpa [h] using hj
    · rw [List.getElem?_eq_none h] at hj; cases hj)
  have H1C : Hid (∀ v ∈ cs, v.oneCell' = true) := Lib.hid (by
    intro v hv
    rw [← hcs] at hv
    obtain ⟨z, _, rfl⟩ := List.mem_map.1 hv
    rfl)
  have HSZ : Hid ((Tryd.prog.info? 5).map (·.size) = some 1) := Lib.hid (by rw [HI.out]; exact congrArg some HZ1.out)
  clear hcs hc0
  go_wp2_with (first
    | (at_make; refine wpList_make_full _ rfl _ _ 22 rfl w.heap.size 5 i0 (.int .u8 0) 1 Tryd.underlying22 HI.out HZ0.out HZ1.out .i64 .i64 (n : Int) (n : Int) n rfl rfl rfl rfl (by rw [HZ2.out]; omega) (by simp [maxLen]; omega) (Nat.le_refl _) ?_; intro w1 ho1 hg1; have HO0 : Hid (OwnInts .u8 5 w1 w.heap.size (.slice (some ⟨w.heap.size, 0, none⟩) n n) (List.replicate n 0) ∧ Below w.heap.size w w1) := Lib.hid ⟨OwnInts.made ho1, (Below.refl _ _).grown hg1 (Nat.le_refl _) (fun k hk => by cases hk)⟩; have HR0 : Hid (w1.heap[w.heap.size]? = some (.cells c0.toArray 5 (0, 0))) := Lib.hid (by rw [← HC0.out]; exact (own_row HO0.out.1 (by simp)).1); clear ho1 hg1)
    | ((with_reducible show wpList _ _ _ _ _ _); refine wpList_copy_splice rfl (.tmp 13) (.tmp 14) 22 22 rfl 5 Tryd.underlying22 HSZ.out (some ⟨w.heap.size, 0, none⟩) A n n n cap rfl rfl w.heap.size 0 c0 5 HR0.out cs (by rw [LCS.out]; simp) (fun h => ⟨rfl, HCP.out _ HO0.out.2 h⟩) (by rw [LCS.out, LC0.out]; omega) H1C.out w.heap.size w HO0.out.2 (Nat.le_refl _) ?_; intro w2 hg2 hb2))
  have HO2 : Hid (OwnInts .u8 5 w2 w.heap.size (.slice (some ⟨w.heap.size, 0, none⟩) n n) (brs zs bit pat 0) ∧ Below w.heap.size w w2) := Lib.hid ⟨row_own (by
      have h := hg2.out
      have e : splice c0 0 cs = cs := by
        unfold splice
        rw [List.take_zero, List.nil_append, List.drop_of_length_le (by rw [LC0.out, LCS.out]; omega), List.append_nil]
      rw [e, ← HCS.out] at h
      exact h) (Nat.le_refl _) (by simp [maxLen]; omega) HL.out, hb2⟩
  clear hg2 hb2 HR0 HO0
  go_loopw [16] (fun i wr => ∃ j : Nat, j ≤ 32 ∧ i = .int .i64 j ∧ Hid (OwnInts .u8 5 wr w.heap.size (.slice (some ⟨w.heap.size, 0, none⟩) n n) (brs zs bit pat j) ∧ Below w.heap.size w wr)) (fun i _ => 32 - (intOf i).toNat)
  case atStart => exact ⟨0, by omega, rfl, HO2⟩
  case round =>
    obtain ⟨j, hj, rfl, HO⟩ := hrel
    clear HO2
    by_cases hlt : j < 32
    · have HS : Hid (brs zs bit pat (j + 1) = if hit zs.length bit pat j then flp (brs zs bit pat j) (bit + (j : Int)).toNat else brs zs bit pat j) := Lib.hid rfl
      have HLB : Hid ((brs zs bit pat j).length = n) := Lib.hid (by rw [brs_len, HL.out])
      have HWB := Lib.hid (brs_wf bit pat hw.out j)
      obtain ⟨q, hq⟩ : ∃ q, pat / 2 ^ j = q := ⟨_, rfl⟩
      have hqv : q ≤ pat := by rw [← hq]; exact Nat.div_le_self _ _
      have hqi : (pat : Int) / 2 ^ j = (q : Int) := by rw [← hq]; simp
      have hq1 : bits .and .u32 (q : Int) 1 = ((q % 2 : Nat) : Int) := and_one q (by omega)
      have HQ := Lib.hid hq
      obtain ⟨t, ht⟩ : ∃ t, q % 2 = t := ⟨_, rfl⟩
      rw [ht] at hq1
      have HQT := Lib.hid ht
      have ht2 : t = 0 ∨ t = 1 := by omega
      obtain ⟨K, hK⟩ : ∃ K, IntKind.i64.wrap (bit + (j : Int)) = K := ⟨_, rfl⟩
      have hKv : K = bit + (j : Int) ∨ (K < 0 ∧ 9223372036854775808 ≤ bit + (j : Int)) := by rw [IntKind.wrap_i64] at hK; omega
      have hKm : K ≤ 9223372036854775807 := by rw [IntKind.wrap_i64] at hK; omega
      have HKV := Lib.hid hKv
      clear hq ht hKv
      rcases ht2 with rfl | rfl
      · have HN : Hid (brs zs bit pat (j + 1) = brs zs bit pat j) := Lib.hid (by rw [HS.out, if_neg (fun h => by have := h.1; rw [HQ.out, HQT.out] at this; omega)])
        go_wp2
        go_roundw
        case rel => exact ⟨j + 1, by omega, by go_num, Lib.hid (by rw [HN.out]; exact HO.out)⟩
        case measure => simp [intOf]; omega
      · by_cases hKn : K < 0
        · have HN : Hid (brs zs bit pat (j + 1) = brs zs bit pat j) := Lib.hid (by rw [HS.out, if_neg (fun h => by have := h.2; rw [HL.out] at this; have := HKV.out; omega)])
          have hKd : decide (0 ≤ K) = false := by simpa using hKn
          go_wp2
          go_roundw
          case rel => exact ⟨j + 1, by omega, by go_num, Lib.hid (by rw [HN.out]; exact HO.out)⟩
          case measure => simp [intOf]; omega
        · obtain ⟨kk, rfl⟩ := Int.eq_ofNat_of_zero_le (show 0 ≤ K by omega)
          have hk0 : (0 : Int) ≤ (kk : Int) := by omega
          have hkv : (kk : Int) = bit + (j : Int) := by have := HKV.out; omega
          have HKN : Hid ((bit + (j : Int)).toNat = kk) := Lib.hid (by omega)
          obtain ⟨d, hd⟩ : ∃ d, kk / 8 = d := ⟨_, rfl⟩
          have hdi : (kk : Int) / 8 = (d : Int) := by omega
          have hkm : kk ≤ 9223372036854775807 := by omega
          have hwd : IntKind.i64.wrap (d : Int) = (d : Int) := IntWalk.i64_in _ ⟨by omega, by omega⟩
          have hd0 : (0 : Int) ≤ (d : Int) := by omega
          by_cases hdn : d < n
          · have HH : Hid (brs zs bit pat (j + 1) = flp (brs zs bit pat j) kk) := Lib.hid (by rw [HS.out, if_pos ⟨by rw [HQ.out, HQT.out], by omega, by rw [HL.out]; omega⟩, HKN.out])
            obtain ⟨b, hb, eb⟩ := byte_at HWB.out (k := d) (by rw [HLB.out]; exact hdn)
            obtain ⟨c1, f1⟩ := HO.out.1.cell d (by rw [HLB.out]; exact hdn)
            rw [eb] at c1
            obtain ⟨r, hr'⟩ : ∃ r, kk % 8 = r := ⟨_, rfl⟩
            have hr8 : r < 8 := by omega
            have htm : (kk : Int).tmod 8 = (r : Int) := by rw [Int.tmod_eq_emod_of_nonneg (by omega)]; omega
            have hrm : (kk : Int) % 8 = (r : Int) := by omega
            have hr0 : (0 : Int) ≤ (r : Int) := by omega
            have hwr : IntKind.i64.wrap (r : Int) = (r : Int) := IntWalk.i64_in _ ⟨by omega, by omega⟩
            have hp2 : 2 ^ r ≤ 2 ^ 7 := Nat.pow_le_pow_right (by omega) (by omega)
            obtain ⟨p, hpp⟩ : ∃ p, 2 ^ r = p := ⟨_, rfl⟩
            have hpc : ((2 ^ r : Nat) : Int) = 2 ^ r := by simp
            have HF : Hid (flp (brs zs bit pat j) kk = (brs zs bit pat j).set d ((b ^^^ p : Nat) : Int)) := Lib.hid (by unfold flp; rw [hd, hr', eb, hpp]; rfl)
            rw [hpp] at hp2 hpc
            have hpw : IntKind.u8.wrap (2 ^ r) = (p : Int) := by rw [← hpc]; exact IntWalk.u8_in _ (by omega)
            have hxx := u8_xor_nat b p hb (by omega)
            obtain ⟨x, hx⟩ : ∃ x, b ^^^ p = x := ⟨_, rfl⟩
            rw [hx] at hxx HF
            have HOx := Lib.hid ((show OwnInts .u8 5 wr.drew _ _ _ from HO.out.1).stored HLB.out d (x : Int))
            have HBx : Hid (Below w.heap.size w (wr.drew.setCell ⟨w.heap.size, d, none⟩ (.int .u8 (x : Int)))) := Lib.hid (HO.out.2.drew.setCell (Nat.le_refl _) _)
            rw [← HF.out, ← HH.out] at HOx
            have hf2 : wr.drew.frozen? ⟨w.heap.size, d, none⟩ = false := f1
            have hc2 := (show wr.drew.cell? ⟨w.heap.size, d, none⟩ = _ from c1)
            clear f1 hd hr' hpp hpc hx eb hkv
            go_wp2
            go_still_tail 10, (by kernel_rfl)
            repeat still_step
            try refine wpStill_nil ?_
            change wpList _ _ _ _ _ wr.drew
            generalize wr.drew = wd at *
            clear c1 HO hxx
            go_wp2
            go_roundw
            case rel => exact ⟨j + 1, by omega, by go_num, Lib.hid ⟨HOx.out, HBx.out⟩⟩
            case measure => simp [intOf]; omega
          · have HN : Hid (brs zs bit pat (j + 1) = brs zs bit pat j) := Lib.hid (by rw [HS.out, if_neg (fun h => by have := h.2; rw [HL.out] at this; omega)])
            have hdd : decide ((d : Int) < (n : Int)) = false := by simp; omega
            clear hd
            go_wp2
            go_roundw
            case rel => exact ⟨j + 1, by omega, by go_num, Lib.hid (by rw [HN.out]; exact HO.out)⟩
            case measure => simp [intOf]; omega
    · have h32 : j = 32 := by omega
      rw [h32] at HO
      have hji : (j : Int) = 32 := by omega
      rw [hji]
      clear hj hlt h32 hji
      go_wp2
      go_ret
      exact ⟨_, rfl, HO⟩
end Go.Proofs.YtnhddgmegnehaaaDoor.Crc
namespace Go.Proofs.YtnhddgmegnehaaaDoor.CrcMath
theorem xor_mul (a b m : Nat) : (a ^^^ b) * 2 ^ m = a * 2 ^ m ^^^ b * 2 ^ m := by
  rw [← Nat.shiftLeft_eq, ← Nat.shiftLeft_eq, ← Nat.shiftLeft_eq, Nat.shiftLeft_xor_distrib]
/-- The first k bytes as one number. -/
def vt (zs : List Int) : Nat → Nat
  | 0 => 0
  | k + 1 => vt zs k ^^^ (zs.getD k 0).toNat * 2 ^ (8 * k)
theorem upd_vt (r : Nat) (zs : List Int) : ∀ k, k ≤ zs.length → upd r (zs.take k) = Tn (8 * k) (r ^^^ vt zs k) := by
  intro k
  induction k with
  | zero => intro _; simp [vt, upd, Tn]
  | succ k ih =>
    intro h
    rw [upd_snoc r zs k (by omega), ih (by omega)]
    unfold sb
    rw [shift_step, Nat.xor_assoc]
    rfl
theorem vt_set (zs : List Int) (i y : Nat) (hi : i < zs.length) : ∀ n, vt (zs.set i (y : Int)) n = if i < n then vt zs n ^^^ ((zs.getD i 0).toNat ^^^ y) * 2 ^ (8 * i) else vt zs n := by
  intro n
  induction n with
  | zero => rfl
  | succ n ih =>
    have hg : (zs.set i (y : Int)).getD n 0 = if i = n then (y : Int) else zs.getD n 0 := by
      simp only [List.getD, List.getElem?_set]
      by_cases h : i = n
      · subst h; simp [hi]
      · simp [h]
    rw [vt, ih, hg, vt]
    by_cases h : i = n
    · subst h
      rw [if_neg (Nat.lt_irrefl _), if_pos rfl, if_pos (Nat.lt_succ_self _), xor_mul, Nat.xor_assoc, ← Nat.xor_assoc ((zs.getD i 0).toNat * _) _ _, Nat.xor_self, Nat.zero_xor, Int.toNat_natCast]
    · rw [if_neg h]
      by_cases h2 : i < n
      · rw [if_pos h2, if_pos (by omega), Nat.xor_assoc, Nat.xor_assoc, Nat.xor_comm (_ * _) (_ * _)]
      · rw [if_neg h2, if_neg (by omega)]
theorem vt_flp (zs : List Int) (k n : Nat) (hk : k / 8 < zs.length) (hn : k / 8 < n) : vt (flp zs k) n = vt zs n ^^^ 2 ^ k := by
  unfold flp
  rw [vt_set _ _ _ hk, if_pos hn, ← Nat.xor_assoc (zs.getD (k / 8) 0).toNat, Nat.xor_self, Nat.zero_xor, ← Nat.pow_add, show k % 8 + 8 * (k / 8) = k by omega]
theorem T_ne {x : Nat} (h : x < 4294967296) (h0 : x ≠ 0) : T x ≠ 0 := by
  unfold T
  by_cases hx : x % 2 = 1
  · rw [if_pos hx]
    intro h2
    have h3 : x / 2 = 2197175160 := by
      have := congrArg (fun q => q ^^^ 2197175160) h2
      simp only [Nat.xor_assoc, Nat.xor_self, Nat.xor_zero, Nat.zero_xor] at this
      exact this
    omega
  · rw [if_neg hx, Nat.xor_zero]; omega
theorem Tn_ne (m : Nat) : ∀ {x : Nat}, x < 4294967296 → x ≠ 0 → Tn m x ≠ 0 := by
  induction m with
  | zero => intro x _ h; exact h
  | succ m ih => intro x h h0; rw [Tn_succ]; exact T_ne (Tn_lt m h) (ih h h0)
theorem burst_claim (zs : List Int) (bit : Int) (pat : Nat) : ∀ j : Nat, ∃ P, P < 2 ^ ((bit + (j : Int)).toNat - bit.toNat) ∧ vt (brs zs bit pat j) zs.length = vt zs zs.length ^^^ P * 2 ^ bit.toNat ∧ (P = 0 → brs zs bit pat j = zs) ∧ (P ≠ 0 → bit.toNat ≤ 8 * zs.length) := by
  intro j
  induction j with
  | zero => exact ⟨0, Nat.two_pow_pos _, by simp [brs], fun _ => rfl, fun h => absurd rfl h⟩
  | succ j ih =>
    obtain ⟨P, h1, h2, h3, h4⟩ := ih
    unfold brs
    by_cases hh : hit zs.length bit pat j
    · rw [if_pos hh]
      obtain ⟨_, g1, g2⟩ := hh
      obtain ⟨e, he⟩ : ∃ e, (bit + (j : Int)).toNat - bit.toNat = e := ⟨_, rfl⟩
      have he1 : (bit + ((j + 1 : Nat) : Int)).toNat - bit.toNat = e + 1 := by omega
      have he2 : (bit + (j : Int)).toNat = e + bit.toNat := by omega
      rw [he] at h1
      have hs := split_xor P 1 e h1
      rw [Nat.one_mul] at hs
      refine ⟨P + 2 ^ e, ?_, ?_, ?_, ?_⟩
      · rw [he1, Nat.pow_succ]; omega
      · rw [vt_flp _ _ _ (by rw [brs_len]; omega) (by omega), h2, he2, Nat.pow_add, Nat.xor_assoc, ← xor_mul, hs]
      · intro h; have := Nat.two_pow_pos e; omega
      · intro _; omega
    · rw [if_neg hh]
      refine ⟨P, Nat.lt_of_lt_of_le h1 (Nat.pow_le_pow_right (by omega) (by omega)), h2, h3, h4⟩
theorem detects (zs : List Int) (bit : Int) (pat : Nat) (hz : ∀ z ∈ zs, 0 ≤ z ∧ z ≤ 255) (hb : ∀ z ∈ brs zs bit pat 32, 0 ≤ z ∧ z ≤ 255) : crcN 0 (brs zs bit pat 32) = crcN 0 zs ↔ brs zs bit pat 32 = zs := by
  refine ⟨fun h => ?_, fun h => by rw [h]⟩
  obtain ⟨P, h1, h2, h3, h4⟩ := burst_claim zs bit pat 32
  by_cases h0 : P = 0
  · exact h3 h0
  · exfalso
    have hP : P < 4294967296 := by
      have : 2 ^ ((bit + ((32 : Nat) : Int)).toNat - bit.toNat) ≤ 2 ^ 32 := Nat.pow_le_pow_right (by omega) (by omega)
      omega
    have l1 := upd_lt zs (r := 4294967295) (by omega) hz
    have l2 := upd_lt (brs zs bit pat 32) (r := 4294967295) (by omega) hb
    unfold crcN at h
    rw [Nat.sub_zero] at h
    have hu : upd 4294967295 (brs zs bit pat 32) = upd 4294967295 zs := by omega
    have e1 := upd_vt 4294967295 zs zs.length (Nat.le_refl _)
    have e2 := upd_vt 4294967295 (brs zs bit pat 32) zs.length (by rw [brs_len]; omega)
    rw [List.take_of_length_le (Nat.le_refl _)] at e1
    rw [List.take_of_length_le (by rw [brs_len]; omega), h2, ← Nat.xor_assoc, Tn_xor, ← e1, hu] at e2
    have e3 : Tn (8 * zs.length) (P * 2 ^ bit.toNat) = 0 := by
      have := congrArg (fun q => upd 4294967295 zs ^^^ q) e2
      simp only [← Nat.xor_assoc, Nat.xor_self, Nat.zero_xor] at this
      exact this.symm
    have hs := h4 h0
    rw [show 8 * zs.length = bit.toNat + (8 * zs.length - bit.toNat) by omega, Tn_add, Tn_shift] at e3
    exact Tn_ne _ hP h0 e3
end Go.Proofs.YtnhddgmegnehaaaDoor.CrcMath
