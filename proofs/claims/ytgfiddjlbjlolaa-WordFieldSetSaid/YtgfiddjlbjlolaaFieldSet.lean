/-
  PROVED: the law WordFieldSet answers true for every input, and each argument reads behind the call as before (Rows.WordFieldSetSaid). No condition.
-/
import Derived.Test.YtgfiddjlbjlolaaRows
import Derived.Test.YtgfiddjlbjlolaaLaw
import Derived.Test.YtgfiddjlbjlolaaArgs
import Derived.Test.YtgfiddjlbjlolaaAwake
namespace Go.Proofs.Ytgfiddjlbjlolaa.wordFieldSet
open Go.ChangeShapes Go.WideShapes Go.ChangeAt Go.RowKit Go.Proofs.Ytgfiddjlbjlolaa.Law Go.Proofs.Ytgfiddjlbjlolaa.Args Go.Proofs.Ytgfiddjlbjlolaa.Base
set_option linter.unusedVariables false
set_option linter.unusedSimpArgs false
open Go.Proofs.Ytgfiddjlbjlolaa.WordMath

/-! ### the mathematics, over integers -/
theorem sfdZ_range (a x y v : Int) (h1 : 0 ≤ x) (h2 : 1 ≤ y) (h3 : x ≤ 64 - y) (ha : 0 ≤ a ∧ a ≤ 18446744073709551615) : 0 ≤ sfdZ a x y v ∧ sfdZ a x y v ≤ 18446744073709551615 := by
  have := sfd_lt a.toNat x.toNat y.toNat v.toNat (by omega) (by omega)
  unfold sfdZ; omega
theorem fldZ_range (a x y : Int) (h1 : 0 ≤ x) (h2 : 1 ≤ y) (h3 : x ≤ 64 - y) : 0 ≤ fldZ a x y ∧ fldZ a x y ≤ 18446744073709551615 := by
  have := fld_lt a.toNat x.toNat y.toNat
  have hp : 2 ^ y.toNat ≤ 2 ^ 64 := Nat.pow_le_pow_right (by omega) (by omega)
  unfold fldZ; omega
theorem sfdZ_read (a x y v : Int) (h1 : 0 ≤ x) (h2 : 1 ≤ y) (h3 : x ≤ 64 - y) (hv : 0 ≤ v) : fldZ (sfdZ a x y v) x y = v % 2 ^ y.toNat := by
  unfold fldZ sfdZ
  rw [Int.toNat_natCast, fld_sfd _ _ _ _ (by omega)]
  obtain ⟨V, rfl⟩ := Int.eq_ofNat_of_zero_le hv
  rw [Int.toNat_natCast, Int.natCast_emod, pow_cast]
theorem sfdZ_back (a x y v : Int) (h1 : 0 ≤ x) (h2 : 1 ≤ y) (h3 : x ≤ 64 - y) (ha : 0 ≤ a ∧ a ≤ 18446744073709551615) : sfdZ (sfdZ a x y v) x y (fldZ a x y) = a := by
  unfold fldZ sfdZ
  rw [Int.toNat_natCast, Int.toNat_natCast, sfd_back _ _ _ _ (by omega) (by omega)]; omega
theorem sfdZ_other (a x y v : Int) (h1 : 0 ≤ x) (h2 : 1 ≤ y) (h3 : x ≤ 64 - y) (o : Int) (ho : 0 ≤ o) (ho2 : o ≤ 63) (hc : ¬ (x ≤ o ∧ o - x < y)) : fldZ (sfdZ a x y v) o 1 = fldZ a o 1 := by
  unfold fldZ sfdZ
  rw [Int.toNat_natCast, show ((1 : Int).toNat) = 1 from rfl, fld_other _ _ _ _ _ (by omega) (by omega) (by omega)]
theorem shl_one (y : Int) (h2 : 1 ≤ y) (h3 : y ≤ 63) : IntKind.u64.wrap (2 ^ y.toNat) = 2 ^ y.toNat ∧ 1 ≤ (2 : Int) ^ y.toNat ∧ (2 : Int) ^ y.toNat ≤ 9223372036854775808 := by
  have hp : 2 ^ y.toNat ≤ 2 ^ 63 := Nat.pow_le_pow_right (by omega) (by omega)
  have hq := Nat.two_pow_pos y.toNat
  have := pow_cast y.toNat
  exact ⟨IntWalk.u64_in _ (by omega), by omega, by omega⟩

theorem setField_back (a x y v : Int) (w : World) (h1 : 0 ≤ x) (h2 : 1 ≤ y) (h3 : x ≤ 64 - y) (ha : 0 ≤ a ∧ a ≤ 18446744073709551615) (hv : 0 ≤ v ∧ v ≤ 18446744073709551615) :
    Calls Try.prog 14 #[.int .u64 (sfdZ a x y v), .int .i64 x, .int .i64 y, .int .u64 (fldZ a x y)] w fun e w' => e = .returned (.int .u64 a) ∧ w' = w := by
  have s := sfdZ_range a x y v h1 h2 h3 ha
  have f := fldZ_range a x y h1 h2 h3
  exact (setField_yes (sfdZ a x y v) x y (fldZ a x y) w h1 h2 h3 s.1 s.2 f.1 f.2).mono fun _ _ ⟨h, hw⟩ => ⟨h.trans (ret_int (sfdZ_back a x y v h1 h2 h3 ha)), hw⟩
theorem field_other (a x y v o : Int) (w : World) (h1 : 0 ≤ x) (h2 : 1 ≤ y) (h3 : x ≤ 64 - y) (ha : 0 ≤ a ∧ a ≤ 18446744073709551615) (ho : 0 ≤ o) (ho2 : o ≤ 63) (hc : ¬ (x ≤ o ∧ o - x < y)) :
    Calls Try.prog 12 #[.int .u64 (sfdZ a x y v), .int .i64 o, .int .i64 1] w fun e w' => e = .returned (.int .u64 (fldZ a o 1)) ∧ ∃ n, w' = w.drewN n := by
  have s := sfdZ_range a x y v h1 h2 h3 ha
  exact (field_yes (sfdZ a x y v) o 1 w ho (by omega) (by omega) s.1 s.2).mono fun _ _ ⟨h, hw⟩ => ⟨h.trans (ret_int (sfdZ_other a x y v h1 h2 h3 o ho ho2 hc)), hw⟩

/-! ### the walk -/
theorem walk (a0 : Int) (w0 : (Lit.int .u64 a0).wf = true) (a1 : Int) (w1 : (Lit.int .u64 a1).wf = true) (z2 : List Int) (l2 : z2.length = 3) (w2 : ∀ z ∈ z2, (Lit.int .u8 z).wf = true) (W : World) :
    Calls Try.prog 4 #[.int .u64 a0, .int .u64 a1, .agg (z2.map (Value.int .u8)).toArray] W fun e W' => e = .returned (.bool true) ∧ Below W.heap.size W W' := by
  obtain ⟨s, t, u, rfl⟩ := list3 z2 l2
  have b0 := wf_u64 w0
  have b1 := wf_u64 w1
  have bs := wf_u8 (w2 s (by simp))
  have bt := wf_u8 (w2 t (by simp))
  have bu := wf_u8 (w2 u (by simp))
  clear w0 w1 w2 l2
  show Calls Try.prog 4 #[.int .u64 a0, .int .u64 a1, .agg #[.int .u8 s, .int .u8 t, .int .u8 u]] W _
  obtain ⟨x, hx⟩ : ∃ x, s % 64 = x := ⟨_, rfl⟩
  have hx0 : 0 ≤ x ∧ x ≤ 63 := by omega
  obtain ⟨r, hr⟩ : ∃ r, t % (64 - x) = r := ⟨_, rfl⟩
  have hr0 : 0 ≤ r := by rw [← hr]; exact Int.emod_nonneg _ (by omega)
  have hr1 : r < 64 - x := by rw [← hr]; exact Int.emod_lt_of_pos _ (by omega)
  obtain ⟨o, ho⟩ : ∃ o, u % 64 = o := ⟨_, rfl⟩
  have ho0 : 0 ≤ o ∧ o ≤ 63 := by omega
  have hS := sfdZ_range a0 x (1 + r) a1 (by omega) (by omega) (by omega) b0
  have hcs : o < x ∨ (x ≤ o ∧ o - x < 1 + r) ∨ (x ≤ o ∧ 1 + r ≤ o - x) := by omega
  by_cases hg : 1 + r < 64
  · obtain ⟨hq0, hq1, hq2⟩ := shl_one (1 + r) (by omega) (by omega)
    obtain ⟨q, hq⟩ : ∃ q, IntKind.u64.wrap (2 ^ (1 + r).toNat) = q := ⟨_, rfl⟩
    have hR : fldZ (sfdZ a0 x (1 + r) a1) x (1 + r) = a1 % q := by rw [sfdZ_read _ _ _ _ (by omega) (by omega) (by omega) b1.1, ← hq0, hq]
    have hq3 : 1 ≤ q := by omega
    clear hq0 hq1 hq2
    rcases hcs with hc | ⟨hc, hd⟩ | ⟨hc, hd⟩
    all_goals
      go_enter Try.func4, Try.ntmps4
      go_wp2_with (first
        | (go_at_call 11; refine (awake_any _).mono ?_; rintro e w' ⟨rfl, n, rfl⟩)
        | (go_at_call 14; refine (setField_yes _ _ _ _ _ (by omega) (by omega) (by omega) (by omega) (by omega) (by omega) (by omega)).mono ?_; rintro e w' ⟨rfl, rfl⟩))
      go_quiet ((go_at_call 12; exact quiet_more (field_yes _ _ _ _ (by omega) (by omega) (by omega) (by omega) (by omega))))
      go_wp2_with (first
        | (go_at_call 14; ((with_reducible refine (setField_back _ _ _ _ _ (by omega) (by omega) (by omega) b0 b1).mono ?_); rintro e w' ⟨rfl, rfl⟩))
        | (go_at_call 12; ((with_reducible refine (field_other _ x (1 + r) _ _ _ (by omega) (by omega) (by omega) b0 (by omega) (by omega) (by omega)).mono ?_); rintro e w' ⟨rfl, n1, rfl⟩))
        | (go_at_call 12; ((with_reducible refine (field_yes _ _ _ _ (by omega) (by omega) (by omega) (by omega) (by omega)).mono ?_); rintro e w' ⟨rfl, n2, rfl⟩)))
      go_ret
      exact ⟨rfl, by repeat (first | apply below_draws | exact (Below.refl _ _).alloc (Nat.le_refl _) _)⟩
  · have hg' : 64 ≤ 1 + r := by omega
    have hgd : decide (1 + r < 64) = false := by simpa using hg'
    clear hg
    obtain ⟨hc, hd⟩ : x ≤ o ∧ o - x < 1 + r := by omega
    clear hcs
    all_goals
      go_enter Try.func4, Try.ntmps4
      go_wp2_with (first
        | (go_at_call 11; refine (awake_any _).mono ?_; rintro e w' ⟨rfl, n, rfl⟩)
        | (go_at_call 14; refine (setField_yes _ _ _ _ _ (by omega) (by omega) (by omega) (by omega) (by omega) (by omega) (by omega)).mono ?_; rintro e w' ⟨rfl, rfl⟩))
      go_quiet ((go_at_call 12; exact quiet_more (field_yes _ _ _ _ (by omega) (by omega) (by omega) (by omega) (by omega))))
      go_wp2_with (first
        | (go_at_call 14; ((with_reducible refine (setField_back _ _ _ _ _ (by omega) (by omega) (by omega) b0 b1).mono ?_); rintro e w' ⟨rfl, rfl⟩))
        | (go_at_call 12; ((with_reducible refine (field_other _ x (1 + r) _ _ _ (by omega) (by omega) (by omega) b0 (by omega) (by omega) (by omega)).mono ?_); rintro e w' ⟨rfl, n1, rfl⟩))
        | (go_at_call 12; ((with_reducible refine (field_yes _ _ _ _ (by omega) (by omega) (by omega) (by omega) (by omega)).mono ?_); rintro e w' ⟨rfl, n2, rfl⟩)))
      go_ret
      exact ⟨rfl, by repeat (first | apply below_draws | exact (Below.refl _ _).alloc (Nat.le_refl _) _)⟩

/-! ### the frame -/
theorem cells28 : Try.prog.cellsOf 28 = 3 := by kernel_rfl
theorem cells5 : Try.prog.cellsOf 5 = 1 := by kernel_rfl
theorem own : ownKnob Try.prog.godebug = none := by kernel_rfl
set_option maxRecDepth 100000 in
theorem calls {H : Type} {enc : TypeId × Value → H} (W : World) (base : Nat) (args : Array Value) (ds : List (DataW H)) (p : List MemPlace)
    (hval0 : ∀ (j : Nat) t v, Try.f4.params[j]? = some t → args[j]? = some v → Value.okWide Try.prog W .any base t v)
    (hA : DataW.TrodAll enc Try.prog W 0 (fun _ => true) true Try.f4.params.toList args.toList ds p) (_ : W.noneFrozen p)
    (hsz : (DataW.weightsEach Try.prog Try.f4.params.toList ds).all (· ≤ reachBytes) = true) :
    Calls Try.prog 4 args W fun e W' => e = .returned (.bool true) ∧ Below W.heap.size W W' := by
  have hval : ∀ (j : Nat) t v, Try.f4.params[j]? = some t → args[j]? = some v → Value.okWide Try.prog W .any base t v := hval0
  clear hval0
  rw [Try.params4] at hA hval hsz
  obtain ⟨v0, vs0, d0, ds0, p0, q0, hargs, rfl, rfl, h0, r'0⟩ := trodAll_cons hA
  obtain ⟨v1, vs1, d1, ds1, p1, q1, rfl, rfl, rfl, h1, r'1⟩ := trodAll_cons r'0
  obtain ⟨v2, vs2, d2, ds2, p2, q2, rfl, rfl, rfl, h2, r'2⟩ := trodAll_cons r'1
  obtain ⟨rfl, rfl, rfl⟩ := trodAll_nil r'2
  obtain rfl : args = #[v0, v1, v2] := by cases args; simp_all
  obtain ⟨a0, rfl, rfl, rfl, w0⟩ := open_int Try.underlying22 (hval 0 22 v0 rfl rfl) h0
  obtain ⟨a1, rfl, rfl, rfl, w1⟩ := open_int Try.underlying22 (hval 1 22 v1 rfl rfl) h1
  obtain ⟨z2, l2, rfl, rfl, rfl, w2⟩ := open_arr_ints Try.underlying28 Try.underlying5 cells5 cells28 (hval 2 28 v2 rfl rfl) h2
  exact walk a0 w0 a1 w1 z2 l2 w2 W
set_option maxRecDepth 100000 in
theorem lifted (os : Os) (started : os.Started) (H : Type) (enc : TypeId × Value → H) :
    ReturnsInHanded {} Try.checked os 4 .any (Rows.wordFieldSetSpec.pre6 enc Try.prog Try.f4 Rows.wordFieldSetRow.domain false) (Rows.wordFieldSetSpec.post enc Try.prog Try.f4 false true false false) :=
  law_lifted (C := Try.checked) (s := Rows.wordFieldSetSpec) (b := 4) own (by kernel_rfl) Try.func4 (by kernel_rfl) (by kernel_rfl) rfl Try.underlying4 rfl
    (fun ds h => by match ds, h with | [_, _, _], _ => rfl) calls os started
    (ChangeSpec.witness6 (enc := enc) (C := Try.checked) false ⟨#[], #[.int .u64 0, .int .u64 0, .agg #[.int .u8 0, .int .u8 0, .int .u8 0]], []⟩ 8 (by kernel_rfl) (by kernel_rfl) (by kernel_rfl) (by kernel_rfl))
/-- ████ THE STATEMENT ████ -/
theorem proved : Rows.WordFieldSetSaid :=
  OpenClaim.holds_of_wide 4 Try.f4 rfl rfl rfl rfl rfl rfl rfl ⟨rfl, rfl, rfl, rfl, rfl⟩ rfl rfl rfl rfl rfl (by kernel_rfl) Try.func4 (by kernel_rfl)
    (of_decide_eq_true (by kernel_rfl)) (by unfold Func.isWrapper; first | (rw [if_pos (by decide +kernel)]; kernel_rfl) | (rw [if_neg (by decide +kernel)]; exact ⟨rfl, rfl⟩))
    (fun os started H enc _ => lifted os started H enc)
#print axioms proved
end Go.Proofs.Ytgfiddjlbjlolaa.wordFieldSet
