/-
  CRC-32C AS PLAIN NUMBERS: one bit's step is linear over exclusive or, so a byte's step is the sum of two small tables. No program.
  Registers below 2^32.
-/
import Derived.Laws.BitsAllLaws
set_option linter.unusedVariables false
set_option linter.unusedSimpArgs false
namespace Go.Proofs.YtopnkhalmembhaaDoor.CrcMath
/-- One bit. -/
def T (r : Nat) : Nat := r / 2 ^^^ (if r % 2 = 1 then 2197175160 else 0)
/-- n bits. -/
def Tn : Nat → Nat → Nat
  | 0, r => r
  | n + 1, r => Tn n (T r)
theorem xor_lt (n : Nat) {a b : Nat} (ha : a < 2 ^ n) (hb : b < 2 ^ n) : a ^^^ b < 2 ^ n := Nat.xor_lt_two_pow ha hb
theorem T_lt {r : Nat} (h : r < 4294967296) : T r < 4294967296 := by
  unfold T
  apply xor_lt 32
  · omega
  · split <;> omega
theorem Tn_lt {r : Nat} (n : Nat) (h : r < 4294967296) : Tn n r < 4294967296 := by
  induction n generalizing r with
  | zero => exact h
  | succ n ih => exact ih (T_lt h)
theorem xor4 (a b c d : Nat) : (a ^^^ b) ^^^ (c ^^^ d) = (a ^^^ c) ^^^ (b ^^^ d) := by
  rw [Nat.xor_assoc, ← Nat.xor_assoc b c d, Nat.xor_comm b c, Nat.xor_assoc c b d, ← Nat.xor_assoc]
theorem T_xor (x y : Nat) : T (x ^^^ y) = T x ^^^ T y := by
  unfold T
  have h1 : (x ^^^ y) / 2 = x / 2 ^^^ y / 2 := by
    have := Nat.xor_div_two_pow (a := x) (b := y) (n := 1)
    simpa using this
  have h2 : (x ^^^ y) % 2 = (x + y) % 2 := by
    have h3 : (x ^^^ y) % 2 ^ 1 = x % 2 ^ 1 ^^^ y % 2 ^ 1 := Nat.xor_mod_two_pow
    simp only [Nat.pow_one] at h3
    have z1 : (0 : Nat) ^^^ 0 = 0 := rfl
    have z2 : (0 : Nat) ^^^ 1 = 1 := rfl
    have z3 : (1 : Nat) ^^^ 0 = 1 := rfl
    have z4 : (1 : Nat) ^^^ 1 = 0 := rfl
    rcases Nat.mod_two_eq_zero_or_one x with hx | hx <;> rcases Nat.mod_two_eq_zero_or_one y with hy | hy <;> rw [h3, hx, hy] <;> omega
  have e0 : ∀ z : Nat, z ^^^ 0 = z := fun z => Nat.xor_zero z
  rw [h1, xor4]
  congr 1
  rcases Nat.mod_two_eq_zero_or_one x with hx | hx <;> rcases Nat.mod_two_eq_zero_or_one y with hy | hy
  · rw [if_neg (by omega), if_neg (by omega), if_neg (by omega)]; rfl
  · rw [if_pos (by omega), if_neg (by omega), if_pos (by omega), Nat.zero_xor]
  · rw [if_pos (by omega), if_pos (by omega), if_neg (by omega), Nat.xor_zero]
  · rw [if_neg (by omega), if_pos (by omega), if_pos (by omega), Nat.xor_self]
theorem Tn_xor (n x y : Nat) : Tn n (x ^^^ y) = Tn n x ^^^ Tn n y := by
  induction n generalizing x y with
  | zero => rfl
  | succ n ih => simp only [Tn]; rw [T_xor, ih]
theorem Tn_zero (n : Nat) : Tn n 0 = 0 := by
  induction n with
  | zero => rfl
  | succ n ih => simp only [Tn]; exact ih
theorem Tn_add (m n r : Nat) : Tn (m + n) r = Tn n (Tn m r) := by
  induction m generalizing r with
  | zero => rw [Nat.zero_add]; rfl
  | succ m ih => rw [Nat.succ_add]; simp only [Tn]; exact ih _
theorem Tn_succ (n r : Nat) : Tn (n + 1) r = T (Tn n r) := by rw [Tn_add]; rfl
/-- An even register is only shifted. -/
theorem Tn_shift (n q : Nat) : Tn n (q * 2 ^ n) = q := by
  induction n generalizing q with
  | zero => simp [Tn]
  | succ n ih =>
    simp only [Tn]
    have e : T (q * 2 ^ (n + 1)) = q * 2 ^ n := by
      unfold T
      have e1 : q * 2 ^ (n + 1) = 2 * (q * 2 ^ n) := by rw [Nat.pow_succ]; rw [← Nat.mul_assoc, Nat.mul_comm]
      rw [e1, if_neg (by omega), Nat.xor_zero]; omega
    rw [e, ih]
def lowL : List Int := [0, 4067132163, 3778769143, 324072436, 3348797215, 904991772, 648144872, 3570033899, 2329499855, 2024987596, 1809983544, 2575936315, 1296289744, 3207089363, 2893594407, 1578318884]
def highL : List Int := [0, 274646895, 549293790, 820201905, 1098587580, 1361435347, 1640403810, 1905808397, 2197175160, 2460548119, 2722870694, 2987750089, 3280807620, 3553878443, 3811616794, 4084100981]
theorem low_tab : ∀ i, i < 16 → lowL.getD i 0 = (Tn 8 i : Nat) := by decide +kernel
theorem high_tab : ∀ i, i < 16 → highL.getD i 0 = (Tn 8 (16 * i) : Nat) := by decide +kernel
theorem split_xor (a b k : Nat) (h : a < 2 ^ k) : a + b * 2 ^ k = a ^^^ (b * 2 ^ k) := by
  apply Nat.eq_of_testBit_eq
  intro i
  rw [Nat.testBit_xor, ← Nat.shiftLeft_eq, Nat.testBit_shiftLeft, Nat.add_comm, Nat.shiftLeft_eq, Nat.mul_comm, Nat.testBit_two_pow_mul_add _ h]
  by_cases hi : i < k
  · rw [if_pos hi, decide_eq_false (by omega)]; simp
  · rw [if_neg hi, Nat.testBit_lt_two_pow (Nat.lt_of_lt_of_le h (Nat.pow_le_pow_right (by omega) (by omega))), decide_eq_true (by omega)]; simp
/-- A byte's step by the two tables. -/
theorem byte_tab (q : Nat) : Tn 8 q = q / 256 ^^^ Tn 8 (q % 16) ^^^ Tn 8 (16 * (q / 16 % 16)) := by
  have e : q = (q % 16 ^^^ (q / 16 % 16) * 2 ^ 4) ^^^ (q / 256) * 2 ^ 8 := by
    rw [← split_xor _ _ 4 (by omega), ← split_xor _ _ 8 (by omega)]; omega
  have h := congrArg (Tn 8) e
  rw [Tn_xor, Tn_xor, Tn_shift] at h
  rw [h, show (q / 16 % 16) * 2 ^ 4 = 16 * (q / 16 % 16) by omega]
  rw [Nat.xor_comm, ← Nat.xor_assoc]
/-- A register over bytes. -/
def sb (r b : Nat) : Nat := Tn 8 (r ^^^ b)
def upd (r : Nat) (zs : List Int) : Nat := zs.foldl (fun r z => sb r z.toNat) r
theorem sb_lt {r b : Nat} (h : r < 4294967296) (hb : b < 256) : sb r b < 4294967296 := Tn_lt 8 (xor_lt 32 h (by omega))
theorem upd_lt {r : Nat} (zs : List Int) (h : r < 4294967296) (hz : ∀ z ∈ zs, 0 ≤ z ∧ z ≤ 255) : upd r zs < 4294967296 := by
  unfold upd
  induction zs generalizing r with
  | nil => exact h
  | cons z zs ih =>
    simp only [List.foldl_cons]
    have := hz z (by simp)
    exact ih (sb_lt h (by omega)) (fun y hy => hz y (by simp [hy]))
theorem upd_append (r : Nat) (xs ys : List Int) : upd r (xs ++ ys) = upd (upd r xs) ys := by unfold upd; rw [List.foldl_append]
theorem upd_snoc (r : Nat) (zs : List Int) (k : Nat) (h : k < zs.length) : upd r (zs.take (k + 1)) = sb (upd r (zs.take k)) (zs.getD k 0).toNat := by
  unfold upd
  rw [List.take_succ_eq_append_getElem h, List.foldl_append]
  simp [List.getD, h]
/-- The reference's register after k bits of the byte b. -/
def rk (r b : Nat) : Nat → Nat
  | 0 => r
  | k + 1 => rk r b k / 2 ^^^ (if (rk r b k % 2 + b / 2 ^ k % 2) % 2 = 1 then 2197175160 else 0)
theorem xor_mod2 (x y : Nat) : (x ^^^ y) % 2 = (x % 2 + y % 2) % 2 := by
  have h3 : (x ^^^ y) % 2 ^ 1 = x % 2 ^ 1 ^^^ y % 2 ^ 1 := Nat.xor_mod_two_pow
  simp only [Nat.pow_one] at h3
  have z1 : (0 : Nat) ^^^ 0 = 0 := rfl
  have z2 : (0 : Nat) ^^^ 1 = 1 := rfl
  have z3 : (1 : Nat) ^^^ 0 = 1 := rfl
  have z4 : (1 : Nat) ^^^ 1 = 0 := rfl
  rcases Nat.mod_two_eq_zero_or_one x with hx | hx <;> rcases Nat.mod_two_eq_zero_or_one y with hy | hy <;> rw [h3, hx, hy] <;> omega
theorem rk_eq (r b k : Nat) : rk r b k ^^^ (b / 2 ^ k) = Tn k (r ^^^ b) := by
  induction k with
  | zero => simp [rk, Tn]
  | succ k ih =>
    rw [Tn_succ, ← ih, T]
    have h1 : (rk r b k ^^^ b / 2 ^ k) / 2 = rk r b k / 2 ^^^ b / 2 ^ k / 2 := by
      have h2 : (rk r b k ^^^ b / 2 ^ k) / 2 ^ 1 = rk r b k / 2 ^ 1 ^^^ b / 2 ^ k / 2 ^ 1 := Nat.xor_div_two_pow
      simpa using h2
    rw [h1, xor_mod2, rk, Nat.div_div_eq_div_mul, ← Nat.pow_succ]
    rw [Nat.xor_assoc, Nat.xor_assoc, Nat.xor_comm (b / 2 ^ (k + 1))]
theorem rk_8 (r b : Nat) (hb : b < 256) : rk r b 8 = sb r b := by
  have h := rk_eq r b 8
  rw [Nat.div_eq_of_lt (by simpa using hb), Nat.xor_zero] at h
  exact h
theorem rk_lt {r b k : Nat} (h : r < 4294967296) : rk r b k < 4294967296 := by
  induction k with
  | zero => exact h
  | succ k ih =>
    unfold rk
    apply xor_lt 32
    · omega
    · split <;> omega
/-- The checksum: the register inverted before and behind. -/
def crcN (c : Nat) (zs : List Int) : Nat := 4294967295 - upd (4294967295 - c) zs
theorem crcN_lt (c : Nat) (zs : List Int) : crcN c zs < 4294967296 := by unfold crcN; omega
theorem crcN_nil (c : Nat) (h : c < 4294967296) : crcN c [] = c := by unfold crcN upd; simp; omega
theorem crcN_append (c : Nat) (xs ys : List Int) (hz : ∀ z ∈ xs, 0 ≤ z ∧ z ≤ 255) : crcN c (xs ++ ys) = crcN (crcN c xs) ys := by
  unfold crcN
  have := upd_lt (r := 4294967295 - c) xs (by omega) hz
  rw [upd_append, show 4294967295 - (4294967295 - upd (4294967295 - c) xs) = upd (4294967295 - c) xs by omega]
/-! ### a checksum behind its bytes -/
theorem shift_in (n x b : Nat) : Tn n x ^^^ b = Tn n (x ^^^ b * 2 ^ n) := by rw [Tn_xor, Tn_shift]
theorem shift_step (n x b : Nat) : Tn 8 (Tn n x ^^^ b) = Tn (n + 8) (x ^^^ b * 2 ^ n) := by rw [shift_in, ← Tn_add]
theorem upd4 (r b0 b1 b2 b3 : Nat) : upd r [(b0 : Int), (b1 : Int), (b2 : Int), (b3 : Int)] = Tn 32 (((r ^^^ b0) ^^^ b1 * 2 ^ 8 ^^^ b2 * 2 ^ 16) ^^^ b3 * 2 ^ 24) := by
  unfold upd sb
  simp only [List.foldl_cons, List.foldl_nil, Int.toNat_natCast]
  rw [shift_step 8 (r ^^^ b0) b1, shift_step 16 _ b2, shift_step 24 _ b3]
theorem join4 (s : Nat) (h : s < 4294967296) : ((s % 256 ^^^ s / 256 % 256 * 2 ^ 8) ^^^ s / 65536 % 256 * 2 ^ 16) ^^^ s / 16777216 % 256 * 2 ^ 24 = s := by
  rw [← split_xor _ _ 8 (by omega), ← split_xor _ _ 16 (by omega), ← split_xor _ _ 24 (by omega)]; omega
theorem not_xor (u : Nat) (h : u < 4294967296) : u ^^^ (4294967295 - u) = 4294967295 := by
  have h1 : (BitVec.allOnes 32 ^^^ BitVec.ofNat 32 u).toNat = 4294967295 - u := by
    rw [BitVec.allOnes_xor, BitVec.toNat_not, BitVec.toNat_ofNat, Nat.mod_eq_of_lt h]
  rw [BitVec.toNat_xor, BitVec.toNat_ofNat, Nat.mod_eq_of_lt h] at h1
  rw [← h1, Nat.xor_comm, Nat.xor_assoc, Nat.xor_self, Nat.xor_zero]; rfl
theorem xor_swap (r a b c d : Nat) : ((r ^^^ a) ^^^ b ^^^ c) ^^^ d = r ^^^ (((a ^^^ b) ^^^ c) ^^^ d) := by
  simp only [Nat.xor_assoc]
theorem residue (p : List Int) (hz : ∀ z ∈ p, 0 ≤ z ∧ z ≤ 255) (s : Nat) (hs : crcN 0 p = s) :
    crcN 0 (p ++ [((s % 256 : Nat) : Int), ((s / 256 % 256 : Nat) : Int), ((s / 65536 % 256 : Nat) : Int), ((s / 16777216 % 256 : Nat) : Int)]) = 1214729159 := by
  have hu := upd_lt (r := 4294967295) p (by omega) hz
  have hsl : s < 4294967296 := by rw [← hs]; exact crcN_lt 0 p
  have e : s = 4294967295 - upd 4294967295 p := by rw [← hs]; rfl
  unfold crcN
  rw [upd_append, Nat.sub_zero, upd4, xor_swap, join4 s hsl, e, not_xor _ hu]
  decide +kernel
end Go.Proofs.YtopnkhalmembhaaDoor.CrcMath
