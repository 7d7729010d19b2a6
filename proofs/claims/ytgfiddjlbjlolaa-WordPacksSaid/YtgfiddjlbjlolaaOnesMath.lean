/-
  THE NUMBER OF SET BITS BY PARALLEL SUMS (as math/bits counts them) IS THE SUM OF THE BITS. Plain numbers, no program.
  For every number below 2^64.
-/
import Derived.Laws.BitsAllLaws
namespace Go.Proofs.Ytgfiddjlbjlolaa.OnesMath
/-- the set bits among the n lowest. -/
def pcl : Nat → Nat → Nat
  | _, 0 => 0
  | X, n + 1 => X % 2 + pcl (X / 2) n
/-- byte by byte, n bytes. -/
def bm (f : Nat → Nat) : Nat → Nat → Nat
  | 0, _ => 0
  | n + 1, X => f (X % 256) + 256 * bm f n (X / 256)
theorem bm_add (f g : Nat → Nat) (n X : Nat) : bm f n X + bm g n X = bm (fun b => f b + g b) n X := by
  induction n generalizing X with
  | zero => rfl
  | succ n ih => have := ih (X / 256); simp only [bm]; omega
theorem bm_comp (f g : Nat → Nat) (n X : Nat) (hg : ∀ b, b < 256 → g b < 256) : bm f n (bm g n X) = bm (fun b => f (g b)) n X := by
  induction n generalizing X with
  | zero => rfl
  | succ n ih =>
    have h := hg (X % 256) (Nat.mod_lt _ (by omega))
    simp only [bm]
    have e1 : (g (X % 256) + 256 * bm g n (X / 256)) % 256 = g (X % 256) := by omega
    have e2 : (g (X % 256) + 256 * bm g n (X / 256)) / 256 = bm g n (X / 256) := by omega
    rw [e1, e2, ih]
theorem bm_congr (f g : Nat → Nat) (n X : Nat) (h : ∀ b, b < 256 → f b = g b) : bm f n X = bm g n X := by
  induction n generalizing X with
  | zero => rfl
  | succ n ih => simp only [bm]; rw [h _ (Nat.mod_lt _ (by omega)), ih]
theorem and_split (x y : Nat) : x &&& y = (x % 256 &&& y % 256) + 256 * (x / 256 &&& y / 256) := by
  have h1 : (x &&& y) % 2 ^ 8 = x % 2 ^ 8 &&& y % 2 ^ 8 := Nat.and_mod_two_pow
  have h2 : (x &&& y) / 2 ^ 8 = x / 2 ^ 8 &&& y / 2 ^ 8 := Nat.and_div_two_pow
  simp only [show (2 : Nat) ^ 8 = 256 from rfl] at h1 h2
  omega
/-- n bytes, each m. -/
def rep (m : Nat) : Nat → Nat
  | 0 => 0
  | n + 1 => m + 256 * rep m n
theorem and_shift (d m : Nat) (hd : d = 1 ∨ d = 2 ∨ d = 4) (hm : m < 256) (H : ∀ b, b < 256 → ∀ c, c < d → ((b / d + 256 / d * c) &&& m) = ((b / d) &&& m)) (n X : Nat) :
    (X / d) &&& rep m n = bm (fun b => (b / d) &&& m) n X := by
  induction n generalizing X with
  | zero => simp [rep, bm]
  | succ n ih =>
    have ih := ih (X / 256)
    simp only [rep, bm]
    rw [and_split]
    have e1 : (m + 256 * rep m n) % 256 = m := by omega
    have e2 : (m + 256 * rep m n) / 256 = rep m n := by omega
    have e3 : X / d % 256 = X % 256 / d + 256 / d * (X / 256 % d) := by rcases hd with rfl | rfl | rfl <;> omega
    have e4 : X / d / 256 = X / 256 / d := by rcases hd with rfl | rfl | rfl <;> omega
    rw [e1, e2, e3, e4, ih, H _ (Nat.mod_lt _ (by omega)) _ (Nat.mod_lt _ (by omega))]
theorem bm_low (h : Nat → Nat) (hh : ∀ b, b < 256 → h b % 16 ≤ 4 ∧ h b / 16 ≤ 4) (n X : Nat) : bm h n X % 16 ≤ 4 := by
  cases n with
  | zero => simp [bm]
  | succ n => have := hh (X % 256) (Nat.mod_lt _ (by omega)); simp only [bm]; omega
theorem fold16 (h : Nat → Nat) (hh : ∀ b, b < 256 → h b % 16 ≤ 4 ∧ h b / 16 ≤ 4) (n X : Nat) :
    (bm h n X / 16 + bm h n X) &&& rep 15 n = bm (fun b => (h b / 16 + h b) % 16) n X := by
  induction n generalizing X with
  | zero => simp [rep, bm]
  | succ n ih =>
    have ih := ih (X / 256)
    have hz := hh (X % 256) (Nat.mod_lt _ (by omega))
    have hl := bm_low h hh n (X / 256)
    simp only [rep, bm]
    rw [and_split]
    have e1 : (15 + 256 * rep 15 n) % 256 = 2 ^ 4 - 1 := by omega
    have e2 : (15 + 256 * rep 15 n) / 256 = rep 15 n := by omega
    have e3 : ((h (X % 256) + 256 * bm h n (X / 256)) / 16 + (h (X % 256) + 256 * bm h n (X / 256))) / 256 = bm h n (X / 256) / 16 + bm h n (X / 256) := by omega
    rw [e1, e2, e3, ih, Nat.and_two_pow_sub_one_eq_mod]
    omega
def s1 (b : Nat) : Nat := ((b / 2) &&& 85) + ((b / 1) &&& 85)
def s2 (b : Nat) : Nat := ((b / 4) &&& 51) + ((b / 1) &&& 51)
theorem tab1 : ∀ b, b < 256 → s1 b < 256 := by decide +kernel
theorem tab2 : ∀ b, b < 256 → s2 (s1 b) % 16 ≤ 4 ∧ s2 (s1 b) / 16 ≤ 4 := by decide +kernel
theorem tab3 : ∀ b, b < 256 → (s2 (s1 b) / 16 + s2 (s1 b)) % 16 = pcl b 8 := by decide +kernel
theorem tab4 : ∀ b, b < 256 → ∀ c, c < 2 → ((b / 2 + 256 / 2 * c) &&& 85) = ((b / 2) &&& 85) := by decide +kernel
theorem tab5 : ∀ b, b < 256 → ∀ c, c < 1 → ((b / 1 + 256 / 1 * c) &&& 85) = ((b / 1) &&& 85) := by decide +kernel
theorem tab6 : ∀ b, b < 256 → ∀ c, c < 4 → ((b / 4 + 256 / 4 * c) &&& 51) = ((b / 4) &&& 51) := by decide +kernel
theorem tab7 : ∀ b, b < 256 → ∀ c, c < 1 → ((b / 1 + 256 / 1 * c) &&& 51) = ((b / 1) &&& 51) := by decide +kernel
theorem step1 (X : Nat) : ((X / 2) &&& 6148914691236517205) + (X &&& 6148914691236517205) = bm s1 8 X := by
  have a := and_shift 2 85 (by omega) (by omega) tab4 8 X
  have b := and_shift 1 85 (by omega) (by omega) tab5 8 X
  have r : rep 85 8 = 6148914691236517205 := rfl
  rw [r] at a b
  rw [Nat.div_one] at b
  rw [a, b, bm_add]; rfl
theorem step2 (X : Nat) : ((X / 4) &&& 3689348814741910323) + (X &&& 3689348814741910323) = bm s2 8 X := by
  have a := and_shift 4 51 (by omega) (by omega) tab6 8 X
  have b := and_shift 1 51 (by omega) (by omega) tab7 8 X
  have r : rep 51 8 = 3689348814741910323 := rfl
  rw [r] at a b
  rw [Nat.div_one] at b
  rw [a, b, bm_add]; rfl
theorem step3 (X : Nat) : ((bm s2 8 (bm s1 8 X) / 16 + bm s2 8 (bm s1 8 X)) &&& 1085102592571150095) = bm (fun b => pcl b 8) 8 X := by
  have r : rep 15 8 = 1085102592571150095 := rfl
  rw [bm_comp s2 s1 8 X tab1, ← r, fold16 (fun b => s2 (s1 b)) tab2]
  exact bm_congr _ _ _ _ tab3
theorem pcl_le (X n : Nat) : pcl X n ≤ n := by
  induction n generalizing X with
  | zero => exact Nat.le_refl _
  | succ n ih => have := ih (X / 2); simp only [pcl]; omega
theorem bm_lt (f : Nat → Nat) (h : ∀ b, b < 256 → f b < 256) (n X : Nat) : bm f n X < 256 ^ n := by
  induction n generalizing X with
  | zero => simp [bm]
  | succ n ih =>
    have := ih (X / 256)
    have h2 := h (X % 256) (Nat.mod_lt _ (by omega))
    simp only [bm]; rw [Nat.pow_succ]; omega
theorem pcl_mod (X n m : Nat) (h : n ≤ m) : pcl (X % 2 ^ m) n = pcl X n := by
  induction n generalizing X m with
  | zero => rfl
  | succ n ih =>
    obtain ⟨k, rfl⟩ : ∃ k, m = k + 1 := ⟨m - 1, by omega⟩
    simp only [pcl]
    have e1 : X % 2 ^ (k + 1) % 2 = X % 2 := by rw [Nat.pow_succ, Nat.mul_comm, Nat.mod_mul]; omega
    have e2 : X % 2 ^ (k + 1) / 2 = X / 2 % 2 ^ k := by rw [Nat.pow_succ, Nat.mul_comm, Nat.mod_mul]; omega
    rw [e1, e2, ih _ _ (by omega)]
theorem pcl_byte (X n : Nat) : pcl X (n + 8) = pcl (X % 256) 8 + pcl (X / 256) n := by
  have h := pcl_mod X 8 8 (by omega)
  simp only [show (2 : Nat) ^ 8 = 256 from rfl] at h
  rw [h]
  simp only [pcl, Nat.div_div_eq_div_mul, Nat.reduceMul]
  omega
theorem fold8 (a b c d e f g h : Nat) (H : a ≤ 8 ∧ b ≤ 8 ∧ c ≤ 8 ∧ d ≤ 8 ∧ e ≤ 8 ∧ f ≤ 8 ∧ g ≤ 8 ∧ h ≤ 8) (T U V : Nat)
    (hT : T = a + 256 * (b + 256 * (c + 256 * (d + 256 * (e + 256 * (f + 256 * (g + 256 * h)))))))
    (hU : U = T + T / 256) (hV : V = U + U / 65536) : (V + V / 4294967296) % 128 = a + b + c + d + e + f + g + h ∧ V + V / 4294967296 < 18446744073709551616 := by
  have hT' : T / 256 = b + 256 * (c + 256 * (d + 256 * (e + 256 * (f + 256 * (g + 256 * h))))) := by omega
  have hU' : U = (a + b) + 256 * ((b + c) + 256 * ((c + d) + 256 * ((d + e) + 256 * ((e + f) + 256 * ((f + g) + 256 * ((g + h) + 256 * h)))))) := by omega
  clear hU hT hT'
  have hU2 : U / 65536 = (c + d) + 256 * ((d + e) + 256 * ((e + f) + 256 * ((f + g) + 256 * ((g + h) + 256 * h)))) := by omega
  have hV' : V = (a + b + c + d) + 256 * ((b + c + d + e) + 256 * ((c + d + e + f) + 256 * ((d + e + f + g) + 256 * ((e + f + g + h) + 256 * ((f + g + h) + 256 * ((g + h) + 256 * h)))))) := by omega
  clear hV hU' hU2
  have hV2 : V / 4294967296 = (e + f + g + h) + 256 * ((f + g + h) + 256 * ((g + h) + 256 * h)) := by omega
  rw [hV2]
  omega
theorem unroll (X : Nat) : ∃ a b c d e f g h : Nat, (a ≤ 8 ∧ b ≤ 8 ∧ c ≤ 8 ∧ d ≤ 8 ∧ e ≤ 8 ∧ f ≤ 8 ∧ g ≤ 8 ∧ h ≤ 8) ∧
    bm (fun b => pcl b 8) 8 X = a + 256 * (b + 256 * (c + 256 * (d + 256 * (e + 256 * (f + 256 * (g + 256 * h)))))) ∧ pcl X 64 = a + b + c + d + e + f + g + h := by
  refine ⟨_, _, _, _, _, _, _, _, ⟨pcl_le (X % 256) 8, pcl_le (X / 256 % 256) 8, pcl_le (X / 256 / 256 % 256) 8, pcl_le (X / 256 / 256 / 256 % 256) 8, pcl_le (X / 256 / 256 / 256 / 256 % 256) 8, pcl_le (X / 256 / 256 / 256 / 256 / 256 % 256) 8, pcl_le (X / 256 / 256 / 256 / 256 / 256 / 256 % 256) 8, pcl_le (X / 256 / 256 / 256 / 256 / 256 / 256 / 256 % 256) 8⟩, ?_, ?_⟩
  · simp only [bm]; omega
  · have h1 : pcl X 64 = pcl (X % 256) 8 + pcl (X / 256) 56 := pcl_byte X 56
    have h2 : pcl (X / 256) 56 = pcl (X / 256 % 256) 8 + pcl (X / 256 / 256) 48 := pcl_byte (X / 256) 48
    have h3 : pcl (X / 256 / 256) 48 = pcl (X / 256 / 256 % 256) 8 + pcl (X / 256 / 256 / 256) 40 := pcl_byte (X / 256 / 256) 40
    have h4 : pcl (X / 256 / 256 / 256) 40 = pcl (X / 256 / 256 / 256 % 256) 8 + pcl (X / 256 / 256 / 256 / 256) 32 := pcl_byte (X / 256 / 256 / 256) 32
    have h5 : pcl (X / 256 / 256 / 256 / 256) 32 = pcl (X / 256 / 256 / 256 / 256 % 256) 8 + pcl (X / 256 / 256 / 256 / 256 / 256) 24 := pcl_byte (X / 256 / 256 / 256 / 256) 24
    have h6 : pcl (X / 256 / 256 / 256 / 256 / 256) 24 = pcl (X / 256 / 256 / 256 / 256 / 256 % 256) 8 + pcl (X / 256 / 256 / 256 / 256 / 256 / 256) 16 := pcl_byte (X / 256 / 256 / 256 / 256 / 256) 16
    have h7 : pcl (X / 256 / 256 / 256 / 256 / 256 / 256) 16 = pcl (X / 256 / 256 / 256 / 256 / 256 / 256 % 256) 8 + pcl (X / 256 / 256 / 256 / 256 / 256 / 256 / 256) 8 := pcl_byte (X / 256 / 256 / 256 / 256 / 256 / 256) 8
    have h8 : pcl (X / 256 / 256 / 256 / 256 / 256 / 256 / 256) 8 = pcl (X / 256 / 256 / 256 / 256 / 256 / 256 / 256 % 256) 8 + pcl (X / 256 / 256 / 256 / 256 / 256 / 256 / 256 / 256) 0 := pcl_byte (X / 256 / 256 / 256 / 256 / 256 / 256 / 256) 0
    have h9 : pcl (X / 256 / 256 / 256 / 256 / 256 / 256 / 256 / 256) 0 = 0 := rfl
    omega
/-- one more bit, from the top. -/
theorem pcl_snoc (X i : Nat) : pcl X (i + 1) = pcl X i + X / 2 ^ i % 2 := by
  induction i generalizing X with
  | zero => simp [pcl]
  | succ i ih =>
    rw [pcl, ih (X / 2), pcl, Nat.div_div_eq_div_mul, Nat.pow_succ, Nat.mul_comm 2 (2 ^ i)]
    omega
theorem pcl_zero (X n : Nat) (h : pcl X n = 0) (hX : X < 2 ^ n) : X = 0 := by
  induction n generalizing X with
  | zero => simpa using hX
  | succ n ih =>
    simp only [pcl] at h
    rw [Nat.pow_succ] at hX
    have := ih (X / 2) (by omega) (by omega)
    omega
theorem pcl_one (X n : Nat) (h : pcl X n = 1) (hX : X < 2 ^ n) : ∃ k, k < n ∧ X = 2 ^ k := by
  induction n generalizing X with
  | zero => simp [pcl] at h
  | succ n ih =>
    simp only [pcl] at h
    rw [Nat.pow_succ] at hX
    have h2 := Nat.mod_two_eq_zero_or_one X
    rcases h2 with h2 | h2
    · obtain ⟨k, hk, e⟩ := ih (X / 2) (by omega) (by omega)
      exact ⟨k + 1, by omega, by rw [Nat.pow_succ, ← e]; omega⟩
    · have := pcl_zero (X / 2) n (by omega) (by omega)
      exact ⟨0, by omega, by simp; omega⟩
end Go.Proofs.Ytgfiddjlbjlolaa.OnesMath
