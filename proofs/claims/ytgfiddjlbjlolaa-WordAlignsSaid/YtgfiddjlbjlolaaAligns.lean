/-
  PROVED: the law WordAligns answers true for every input, and each argument reads behind the call as before (Rows.WordAlignsSaid). No condition.
-/
import Derived.Test.YtgfiddjlbjlolaaRows
import Derived.Test.YtgfiddjlbjlolaaLaw
import Derived.Test.YtgfiddjlbjlolaaArgs
import Derived.Test.YtgfiddjlbjlolaaAwake
namespace Go.Proofs.Ytgfiddjlbjlolaa.wordAligns
open Go.ChangeShapes Go.WideShapes Go.ChangeAt Go.RowKit Go.Proofs.Ytgfiddjlbjlolaa.Law Go.Proofs.Ytgfiddjlbjlolaa.Args Go.Proofs.Ytgfiddjlbjlolaa.Base
set_option linter.unusedVariables false
set_option linter.unusedSimpArgs false
open Go.Proofs.Ytgfiddjlbjlolaa.WordMath Go.Proofs.Ytgfiddjlbjlolaa.OnesMath
/-! ### the mathematics -/
theorem and_high (X k : Nat) (hk : k < 64) (hX : X < 18446744073709551616) : X &&& (18446744073709551615 - (2 ^ k - 1)) = X / 2 ^ k * 2 ^ k := by
  have p := Nat.two_pow_pos k
  have hp : 2 ^ k ≤ 2 ^ 63 := Nat.pow_le_pow_right (by omega) (by omega)
  have e : 18446744073709551615 - (2 ^ k - 1) = msk k (64 - k) := by
    unfold msk
    have : 2 ^ 64 = 2 ^ (64 - k) * 2 ^ k := by rw [← Nat.pow_add]; congr 1; omega
    rw [Nat.sub_mul, ← this]; omega
  rw [e]
  apply Nat.eq_of_testBit_eq
  intro i
  rw [Nat.testBit_and, msk_bit, mul_pow_bit, Nat.testBit_div_two_pow]
  by_cases h1 : k ≤ i
  · rw [decide_eq_true h1, show i - k + k = i by omega]
    by_cases h2 : i - k < 64 - k
    · rw [decide_eq_true h2]; simp
    · have : X.testBit i = false := Nat.testBit_lt_two_pow (Nat.lt_of_lt_of_le hX (Nat.pow_le_pow_right (n := 2) (i := 64) (by omega) (by omega)))
      rw [this]; simp
  · rw [decide_eq_false h1]; simp
/-- With 2^64 = m·a and x = q·a + r: what AlignUp has to decide. -/
theorem al_nat (x a m q r : Nat) (hm : 18446744073709551616 = m * a) (ha : 1 ≤ a) (ha2 : a < 18446744073709551616) (hx : x = q * a + r) (hr : r < a) (hX : x < 18446744073709551616) :
    (r = 0 → x + (a - 1) < 18446744073709551616 ∧ (x + (a - 1)) / a * a = x) ∧
    (r ≠ 0 → 18446744073709551615 - a < x - r → 18446744073709551616 ≤ x + (a - 1)) ∧
    (r ≠ 0 → x - r ≤ 18446744073709551615 - a → x + (a - 1) < 18446744073709551616 ∧ (x + (a - 1)) / a * a = x - r + a) := by
  have hqm : q < m := by
    rcases Nat.lt_or_ge q m with h | h
    · exact h
    · have := Nat.mul_le_mul_right a h; omega
  have h1 : (q + 1) * a ≤ m * a := Nat.mul_le_mul_right a hqm
  have e1 : (q + 1) * a = q * a + a := by rw [Nat.succ_mul]
  refine ⟨fun h0 => ⟨by omega, ?_⟩, fun h0 h2 => ?_, fun h0 h2 => ⟨?_, ?_⟩⟩
  · have e : x + (a - 1) = a * q + (a - 1) := by rw [Nat.mul_comm a q]; omega
    rw [e, Nat.mul_add_div (by omega), Nat.div_eq_of_lt (by omega), Nat.add_zero]; omega
  · omega
  · rcases Nat.lt_or_ge (q + 1) m with h | h
    · have h3 : (q + 2) * a ≤ m * a := Nat.mul_le_mul_right a h
      have e2 : (q + 2) * a = q * a + 2 * a := by rw [Nat.add_mul]
      omega
    · have h4 : m = q + 1 := by omega
      have h5 : m * a = (q + 1) * a := by rw [h4]
      omega
  · have e : x + (a - 1) = a * (q + 1) + (r - 1) := by rw [Nat.mul_comm a (q + 1)]; omega
    rw [e, Nat.mul_add_div (by omega), Nat.div_eq_of_lt (by omega), Nat.add_zero]; omega
/-- What AlignUp answers. -/
def alV (x a : Int) : Int := if onesC a ≠ 1 then 0 else if x % a = 0 then x else if 18446744073709551615 - a < x - x % a then 0 else x - x % a + a
def alE (x a : Int) : Int := if onesC a ≠ 1 then 1 else if x % a = 0 then 0 else if 18446744073709551615 - a < x - x % a then 2 else 0
theorem pow_of_one (a : Int) (h0 : 0 ≤ a) (h1 : a ≤ 18446744073709551615) (h : onesC a = 1) : ∃ k : Nat, k < 64 ∧ a = (2 ^ k : Nat) := by
  unfold onesC at h
  obtain ⟨k, hk, e⟩ := pcl_one a.toNat 64 (by omega) (by omega)
  exact ⟨k, hk, by omega⟩
theorem al_facts (x a : Int) (hx : 0 ≤ x ∧ x ≤ 18446744073709551615) (h0 : 0 ≤ a) (h1 : a ≤ 18446744073709551615) (h : onesC a = 1) :
    1 ≤ a ∧ (x % a = 0 → x + (a - 1) ≤ 18446744073709551615 ∧ bits .andNot .u64 (x + (a - 1)) (a - 1) = x) ∧
    (x % a ≠ 0 → 18446744073709551615 - a < x - x % a → 18446744073709551616 ≤ x + (a - 1)) ∧
    (x % a ≠ 0 → x - x % a ≤ 18446744073709551615 - a → x + (a - 1) ≤ 18446744073709551615 ∧ bits .andNot .u64 (x + (a - 1)) (a - 1) = x - x % a + a) := by
  obtain ⟨k, hk, rfl⟩ := pow_of_one a h0 h1 h
  obtain ⟨X, rfl⟩ := Int.eq_ofNat_of_zero_le hx.1
  have p := Nat.two_pow_pos k
  have hm : 18446744073709551616 = 2 ^ (64 - k) * 2 ^ k := by rw [← Nat.pow_add, show 64 - k + k = 64 by omega]
  have hd : X = X / 2 ^ k * 2 ^ k + X % 2 ^ k := by have := Nat.div_add_mod X (2 ^ k); rw [Nat.mul_comm] at this; exact this.symm
  have F := al_nat X (2 ^ k) _ _ _ hm p (by omega) hd (Nat.mod_lt _ p) (by omega)
  have B : ∀ Y, Y = X + (2 ^ k - 1) → Y < 18446744073709551616 → bits .andNot .u64 (((X : Nat) : Int) + (((2 ^ k : Nat) : Int) - 1)) (((2 ^ k : Nat) : Int) - 1) = ((Y / 2 ^ k * 2 ^ k : Nat) : Int) := by
    intro Y hY hlt
    have e1 : ((X : Nat) : Int) + (((2 ^ k : Nat) : Int) - 1) = (Y : Int) := by omega
    have e2 : (((2 ^ k : Nat) : Int) - 1) = ((2 ^ k - 1 : Nat) : Int) := by omega
    rw [e1, e2, u64_andNot_nat _ _ hlt (by omega), and_high _ _ hk hlt]
  have em : ((X : Nat) : Int) % ((2 ^ k : Nat) : Int) = ((X % 2 ^ k : Nat) : Int) := rfl
  rw [em]
  have hle := Nat.mod_le X (2 ^ k)
  generalize hR : X % 2 ^ k = R at F hle
  refine ⟨by omega, fun hz => ?_, fun hz hc => ?_, fun hz hc => ?_⟩
  · obtain ⟨f1, f2⟩ := F.1 (by omega)
    exact ⟨by omega, by rw [B _ rfl f1, f2]⟩
  · have := F.2.1 (by omega) (by omega); omega
  · obtain ⟨f1, f2⟩ := F.2.2 (by omega) (by omega)
    exact ⟨by omega, by rw [B _ rfl f1, f2]; omega⟩
def spF (x n : Int) : Int := if n = 0 then 0 else x / 64
def spC (x n : Int) : Int := if n = 0 then 0 else if x + (n - 1) ≤ 18446744073709551615 then (x + (n - 1)) / 64 - x / 64 + 1 else 288230376151711743 - x / 64 + 1

/-! ### the contracts -/
theorem ret_pair {k l : IntKind} {a b c d : Int} (h : a = b) (h' : c = d) : Ending.returned (.tuple #[.int k a, .int l c]) = .returned (.tuple #[.int k b, .int l d]) := by rw [h, h']
theorem align_any (x a : Int) (w : World) (hx : 0 ≤ x ∧ x ≤ 18446744073709551615) (h0 : 0 ≤ a ∧ a ≤ 18446744073709551615) :
    Calls Try.prog 16 #[.int .u64 x, .int .u64 a] w fun e w' => e = .returned (.tuple #[.int .u64 (alV x a), .int .i64 (alE x a)]) ∧ w' = w := by
  unfold alV alE
  by_cases h : onesC a = 1
  · obtain ⟨p, f1, f2, f3⟩ := al_facts x a hx h0.1 h0.2 h
    rw [if_neg (show ¬ (onesC a ≠ 1) from fun hn => hn h), if_neg (show ¬ (onesC a ≠ 1) from fun hn => hn h)]
    by_cases hz : x % a = 0
    · rw [if_pos hz, if_pos hz]
      obtain ⟨g1, g2⟩ := f1 hz
      exact (align_ok x a w hx.1 hx.2 p h0.2 h g1).mono fun _ _ ⟨e, hw⟩ => ⟨e.trans (ret_pair g2 rfl), hw⟩
    · rw [if_neg hz, if_neg hz]
      by_cases hc : 18446744073709551615 - a < x - x % a
      · rw [if_pos hc, if_pos hc]
        exact align_over x a w hx.1 hx.2 p h0.2 h (f2 hz hc)
      · rw [if_neg hc, if_neg hc]
        obtain ⟨g1, g2⟩ := f3 hz (by omega)
        exact (align_ok x a w hx.1 hx.2 p h0.2 h g1).mono fun _ _ ⟨e, hw⟩ => ⟨e.trans (ret_pair g2 rfl), hw⟩
  · rw [if_pos h, if_pos h]
    exact align_bad x a w h0.1 h0.2 h
theorem span_any (x n : Int) (w : World) (hx : 0 ≤ x ∧ x ≤ 18446744073709551615) (h0 : 0 ≤ n ∧ n ≤ 18446744073709551615) :
    Calls Try.prog 18 #[.int .u64 x, .int .u64 n] w fun e w' => e = .returned (.tuple #[.int .u64 (spF x n), .int .u64 (spC x n)]) ∧ w' = w := by
  unfold spF spC
  by_cases h : n = 0
  · subst h; exact span_zero x w
  · rw [if_neg h, if_neg h]
    by_cases hc : x + (n - 1) ≤ 18446744073709551615
    · rw [if_pos hc]; exact span_in x n w hx.1 hx.2 (by omega) h0.2 hc
    · rw [if_neg hc]; exact span_over x n w hx.1 hx.2 (by omega) h0.2 (by omega)
theorem rones_any (a : Int) (w : World) (ha : 0 ≤ a ∧ a ≤ 18446744073709551615) : Calls Try.prog 40 #[.int .u64 a] w fun e w' => e = .returned (.int .i64 (onesC a)) ∧ w' = w := by
  go_enter Try.func40, Try.ntmps40
  go_wp2
  go_loop [3, 4] (fun n i => ∃ t : Nat, t ≤ 64 ∧ i = .int .i64 t ∧ n = .int .i64 ((pcl a.toNat t : Nat) : Int)) (fun _ i => (64 - intOf i).toNat)
  case atStart => exact ⟨0, by omega, rfl, rfl⟩
  case round =>
    obtain ⟨t, ht, rfl, rfl⟩ := hrel
    by_cases hlt : t < 64
    · have H := Lib.hid (pcl_snoc a.toNat t)
      have r1 := pcl_le a.toNat t
      have r3 := bitZ_range a t
      have hb : Hid (bitZ a t = ((a.toNat / 2 ^ t % 2 : Nat) : Int)) := Lib.hid rfl
      go_wp2_with (go_at_call 37; refine (bit_any _ _ _ ha (by omega) (by omega)).mono ?_; rintro e w' ⟨rfl, rfl⟩)
      go_round
      case rel => exact ⟨t + 1, by omega, by go_num, val_int (by rw [H.out, hb.out]; omega)⟩
      case measure => simp [intOf]; omega
    · have : t = 64 := by omega
      subst this
      go_wp2
      go_ret
      exact ⟨rfl, rfl⟩
theorem ralign_any (x a : Int) (w : World) (hx : 0 ≤ x ∧ x ≤ 18446744073709551615) (h0 : 0 ≤ a ∧ a ≤ 18446744073709551615) :
    Calls Try.prog 17 #[.int .u64 x, .int .u64 a] w fun e w' => e = .returned (.tuple #[.int .u64 (alV x a), .int .i64 (alE x a)]) ∧ w' = w := by
  unfold alV alE
  by_cases h : onesC a = 1
  · obtain ⟨p, _⟩ := al_facts x a hx h0.1 h0.2 h
    rw [if_neg (show ¬ (onesC a ≠ 1) from fun hn => hn h), if_neg (show ¬ (onesC a ≠ 1) from fun hn => hn h)]
    have m0 := Int.emod_nonneg x (show a ≠ 0 by omega)
    have m1 := Int.emod_lt_of_pos x (show 0 < a by omega)
    have m2 : x % a ≤ x := by
      have m3 := Int.mul_ediv_add_emod x a
      have m4 := Int.mul_nonneg (show 0 ≤ a by omega) (Int.ediv_nonneg hx.1 (show 0 ≤ a by omega))
      omega
    by_cases hz : x % a = 0
    · rw [if_pos hz, if_pos hz]
      go_enter Try.func17, Try.ntmps17
      go_wp2_with (go_at_call 40; refine (rones_any _ _ h0).mono ?_; rintro e w' ⟨rfl, rfl⟩)
      go_ret2
      exact ⟨rfl, rfl⟩
    · rw [if_neg hz, if_neg hz]
      have hz' : (x % a == 0) = false := by simpa using hz
      clear hz
      by_cases hc : 18446744073709551615 - a < x - x % a
      · rw [if_pos hc, if_pos hc]
        go_enter Try.func17, Try.ntmps17
        go_wp2_with (go_at_call 40; refine (rones_any _ _ h0).mono ?_; rintro e w' ⟨rfl, rfl⟩)
        go_ret2
        exact ⟨rfl, rfl⟩
      · rw [if_neg hc, if_neg hc]
        have hc' : x - x % a ≤ 18446744073709551615 - a := by omega
        clear hc
        go_enter Try.func17, Try.ntmps17
        go_wp2_with (go_at_call 40; refine (rones_any _ _ h0).mono ?_; rintro e w' ⟨rfl, rfl⟩)
        go_ret2
        exact ⟨rfl, rfl⟩
  · rw [if_pos h, if_pos h]
    have H : (onesC a != 1) = true := by simpa using h
    have H2 : (onesC a == 1) = false := by simpa using h
    clear h
    go_enter Try.func17, Try.ntmps17
    go_wp2_with (go_at_call 40; refine (rones_any _ _ h0).mono ?_; rintro e w' ⟨rfl, rfl⟩)
    go_ret2
    exact ⟨rfl, rfl⟩
theorem rspan_any (x n : Int) (w : World) (hx : 0 ≤ x ∧ x ≤ 18446744073709551615) (h0 : 0 ≤ n ∧ n ≤ 18446744073709551615) :
    Calls Try.prog 19 #[.int .u64 x, .int .u64 n] w fun e w' => e = .returned (.tuple #[.int .u64 (spF x n), .int .u64 (spC x n)]) ∧ w' = w := by
  unfold spF spC
  by_cases h : n = 0
  · subst h
    go_enter Try.func19, Try.ntmps19
    go_wp2
    go_ret2
    exact ⟨rfl, rfl⟩
  · rw [if_neg h, if_neg h]
    have H : (n == 0) = false := by simpa using h
    have h1 : 1 ≤ n := by omega
    clear h
    by_cases hc : x + (n - 1) ≤ 18446744073709551615
    · rw [if_pos hc]
      have hd : n - 1 ≤ 18446744073709551615 - x := by omega
      go_enter Try.func19, Try.ntmps19
      go_wp2
      go_ret2
      exact ⟨rfl, rfl⟩
    · rw [if_neg hc]
      have hd : 18446744073709551615 - x < n - 1 := by omega
      clear hc
      go_enter Try.func19, Try.ntmps19
      go_wp2
      go_ret2
      exact ⟨rfl, rfl⟩

/-! ### the walk -/
theorem walk (a0 : Int) (w0 : (Lit.int .u64 a0).wf = true) (a1 : Int) (w1 : (Lit.int .u64 a1).wf = true) (a2 : Int) (w2 : (Lit.int .u64 a2).wf = true) (W : World) :
    Calls Try.prog 5 #[.int .u64 a0, .int .u64 a1, .int .u64 a2] W fun e W' => e = .returned (.bool true) ∧ Below W.heap.size W W' := by
  have b0 := wf_u64 w0
  have b1 := wf_u64 w1
  have b2 := wf_u64 w2
  clear w0 w1 w2
  go_enter Try.func5, Try.ntmps5
  go_wp2_with (first
    | (go_at_call 11; refine (awake_any _).mono ?_; rintro e w' ⟨rfl, n, rfl⟩)
    | (go_at_call 16; refine (align_any _ _ _ b0 b1).mono ?_; rintro e w' ⟨rfl, rfl⟩)
    | (go_at_call 17; refine (ralign_any _ _ _ b0 b1).mono ?_; rintro e w' ⟨rfl, rfl⟩)
    | (go_at_call 18; refine (span_any _ _ _ b0 b2).mono ?_; rintro e w' ⟨rfl, rfl⟩)
    | (go_at_call 19; refine (rspan_any _ _ _ b0 b2).mono ?_; rintro e w' ⟨rfl, rfl⟩)
    | (go_at_call 20; refine (line_any _ _ b0.1 b0.2).mono ?_; rintro e w' ⟨rfl, rfl⟩))
  go_ret
  exact ⟨rfl, below_draws (Below.refl _ _) _⟩

/-! ### the frame -/
theorem own : ownKnob Try.prog.godebug = none := by kernel_rfl
set_option maxRecDepth 100000 in
theorem calls {H : Type} {enc : TypeId × Value → H} (W : World) (base : Nat) (args : Array Value) (ds : List (DataW H)) (p : List MemPlace)
    (hval0 : ∀ (j : Nat) t v, Try.f5.params[j]? = some t → args[j]? = some v → Value.okWide Try.prog W .any base t v)
    (hA : DataW.TrodAll enc Try.prog W 0 (fun _ => true) true Try.f5.params.toList args.toList ds p) (_ : W.noneFrozen p)
    (hsz : (DataW.weightsEach Try.prog Try.f5.params.toList ds).all (· ≤ reachBytes) = true) :
    Calls Try.prog 5 args W fun e W' => e = .returned (.bool true) ∧ Below W.heap.size W W' := by
  have hval : ∀ (j : Nat) t v, Try.f5.params[j]? = some t → args[j]? = some v → Value.okWide Try.prog W .any base t v := hval0
  clear hval0
  rw [Try.params5] at hA hval hsz
  obtain ⟨v0, vs0, d0, ds0, p0, q0, hargs, rfl, rfl, h0, r'0⟩ := trodAll_cons hA
  obtain ⟨v1, vs1, d1, ds1, p1, q1, rfl, rfl, rfl, h1, r'1⟩ := trodAll_cons r'0
  obtain ⟨v2, vs2, d2, ds2, p2, q2, rfl, rfl, rfl, h2, r'2⟩ := trodAll_cons r'1
  obtain ⟨rfl, rfl, rfl⟩ := trodAll_nil r'2
  obtain rfl : args = #[v0, v1, v2] := by cases args; simp_all
  obtain ⟨a0, rfl, rfl, rfl, w0⟩ := open_int Try.underlying22 (hval 0 22 v0 rfl rfl) h0
  obtain ⟨a1, rfl, rfl, rfl, w1⟩ := open_int Try.underlying22 (hval 1 22 v1 rfl rfl) h1
  obtain ⟨a2, rfl, rfl, rfl, w2⟩ := open_int Try.underlying22 (hval 2 22 v2 rfl rfl) h2
  exact walk a0 w0 a1 w1 a2 w2 W
set_option maxRecDepth 100000 in
theorem lifted (os : Os) (started : os.Started) (H : Type) (enc : TypeId × Value → H) :
    ReturnsInHanded {} Try.checked os 5 .any (Rows.wordAlignsSpec.pre6 enc Try.prog Try.f5 Rows.wordAlignsRow.domain false) (Rows.wordAlignsSpec.post enc Try.prog Try.f5 false true false false) :=
  law_lifted (C := Try.checked) (s := Rows.wordAlignsSpec) (b := 4) own (by kernel_rfl) Try.func5 (by kernel_rfl) (by kernel_rfl) rfl Try.underlying4 rfl
    (fun ds h => by match ds, h with | [_, _, _], _ => rfl) calls os started
    (ChangeSpec.witness6 (enc := enc) (C := Try.checked) false ⟨#[], #[.int .u64 0, .int .u64 0, .int .u64 0], []⟩ 8 (by kernel_rfl) (by kernel_rfl) (by kernel_rfl) (by kernel_rfl))
/-- ████ THE STATEMENT ████ -/
theorem proved : Rows.WordAlignsSaid :=
  OpenClaim.holds_of_wide 5 Try.f5 rfl rfl rfl rfl rfl rfl rfl ⟨rfl, rfl, rfl, rfl, rfl⟩ rfl rfl rfl rfl rfl (by kernel_rfl) Try.func5 (by kernel_rfl)
    (of_decide_eq_true (by kernel_rfl)) (by unfold Func.isWrapper; first | (rw [if_pos (by decide +kernel)]; kernel_rfl) | (rw [if_neg (by decide +kernel)]; exact ⟨rfl, rfl⟩))
    (fun os started H enc _ => lifted os started H enc)
#print axioms proved
end Go.Proofs.Ytgfiddjlbjlolaa.wordAligns
