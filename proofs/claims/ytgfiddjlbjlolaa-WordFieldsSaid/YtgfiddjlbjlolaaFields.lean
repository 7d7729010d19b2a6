/-
  PROVED: the law WordFields answers true for every input, and each argument reads behind the call as before (Rows.WordFieldsSaid). No condition.
-/
import Derived.Test.YtgfiddjlbjlolaaRows
import Derived.Test.YtgfiddjlbjlolaaLaw
import Derived.Test.YtgfiddjlbjlolaaArgs
import Derived.Test.YtgfiddjlbjlolaaAwake
namespace Go.Proofs.Ytgfiddjlbjlolaa.wordFields
open Go.ChangeShapes Go.WideShapes Go.ChangeAt Go.RowKit Go.Proofs.Ytgfiddjlbjlolaa.Law Go.Proofs.Ytgfiddjlbjlolaa.Args Go.Proofs.Ytgfiddjlbjlolaa.Base
set_option linter.unusedVariables false
set_option linter.unusedSimpArgs false
open Go.Proofs.Ytgfiddjlbjlolaa.WordMath
/-! ### the mathematics -/
def accF (a x y i : Int) : Int := (fld a.toNat (x + i + 1).toNat (y - i - 1).toNat : Nat)
theorem accF_step (a x y i : Int) (hx : 0 ≤ x) (hi : 0 ≤ i) (hi2 : i < y) : accF a x y (i - 1) = 2 * accF a x y i + bitZ a (x + i) := by
  unfold accF bitZ
  have h := fld_step a.toNat x.toNat y.toNat i.toNat (by omega)
  rw [show (x + (i - 1) + 1).toNat = x.toNat + i.toNat by omega, show (y - (i - 1) - 1).toNat = y.toNat - i.toNat by omega, show (x + i + 1).toNat = x.toNat + (i.toNat + 1) by omega, show (y - i - 1).toNat = y.toNat - (i.toNat + 1) by omega, show (x + i).toNat = x.toNat + i.toNat by omega, h]
  omega
theorem accF_range (a x y i : Int) (hy : y ≤ 64) (hi : -1 ≤ i) : 0 ≤ accF a x y i ∧ accF a x y i ≤ 18446744073709551615 := by
  have := fld_lt a.toNat (x + i + 1).toNat (y - i - 1).toNat
  have hp : 2 ^ (y - i - 1).toNat ≤ 2 ^ 64 := Nat.pow_le_pow_right (by omega) (by omega)
  unfold accF; omega
theorem accF_first (a x y : Int) : accF a x y (y - 1) = 0 := by
  unfold accF fld
  rw [show (y - (y - 1) - 1).toNat = 0 by omega]; simp [Nat.mod_one]
theorem accF_last (a x y : Int) : accF a x y (-1) = fldZ a x y := by
  unfold accF fldZ
  rw [show (x + -1 + 1) = x by omega, show (y - -1 - 1) = y by omega]
def accS (a x y v i : Int) : Int := (sfd a.toNat x.toNat y.toNat v.toNat / 2 ^ (i + 1).toNat : Nat)
theorem accS_range (a x y v i : Int) (h1 : 0 ≤ x) (h2 : 1 ≤ y) (h3 : x ≤ 64 - y) (ha : 0 ≤ a ∧ a ≤ 18446744073709551615) : 0 ≤ accS a x y v i ∧ accS a x y v i ≤ 18446744073709551615 := by
  have := sfd_lt a.toNat x.toNat y.toNat v.toNat (by omega) (by omega)
  have h5 := Nat.div_le_self (sfd a.toNat x.toNat y.toNat v.toNat) (2 ^ (i + 1).toNat)
  unfold accS
  generalize sfd a.toNat x.toNat y.toNat v.toNat / 2 ^ (i + 1).toNat = D at h5
  omega
theorem accS_in (a x y v i : Int) (h1 : 0 ≤ x) (h2 : 1 ≤ y) (h3 : x ≤ 64 - y) (hi : x ≤ i) (hi2 : i - x < y) : accS a x y v (i - 1) = 2 * accS a x y v i + bitZ v (i - x) := by
  unfold accS bitZ
  have h := half_step (sfd a.toNat x.toNat y.toNat v.toNat) i.toNat
  rw [sfd_bit _ _ _ _ _ (by omega) (by omega), if_pos (by omega), ← bit_mod] at h
  rw [show (i - 1 + 1).toNat = i.toNat by omega, show (i + 1).toNat = i.toNat + 1 by omega, show (i - x).toNat = i.toNat - x.toNat by omega, h]
  omega
theorem accS_out (a x y v i : Int) (h1 : 0 ≤ x) (h2 : 1 ≤ y) (h3 : x ≤ 64 - y) (h0 : 0 ≤ i) (h63 : i ≤ 63) (hi : ¬ (x ≤ i ∧ i - x < y)) : accS a x y v (i - 1) = 2 * accS a x y v i + bitZ a i := by
  unfold accS bitZ
  have h := half_step (sfd a.toNat x.toNat y.toNat v.toNat) i.toNat
  rw [sfd_bit _ _ _ _ _ (by omega) (by omega), if_neg (by omega), ← bit_mod] at h
  rw [show (i - 1 + 1).toNat = i.toNat by omega, show (i + 1).toNat = i.toNat + 1 by omega, h]
  omega
theorem accS_first (a x y v : Int) (h1 : 0 ≤ x) (h2 : 1 ≤ y) (h3 : x ≤ 64 - y) (ha : 0 ≤ a ∧ a ≤ 18446744073709551615) : accS a x y v 63 = 0 := by
  have := sfd_lt a.toNat x.toNat y.toNat v.toNat (by omega) (by omega)
  unfold accS
  rw [show ((63 : Int) + 1).toNat = 64 from rfl, Nat.div_eq_of_lt this]; rfl
theorem accS_last (a x y v : Int) : accS a x y v (-1) = sfdZ a x y v := by
  unfold accS sfdZ
  rw [show ((-1 : Int) + 1).toNat = 0 from rfl, Nat.pow_zero, Nat.div_one]

/-! ### the contracts -/
theorem rvalid_yes (x y : Int) (w : World) (h1 : 0 ≤ x) (h2 : 1 ≤ y) (h3 : x ≤ 64 - y) : Calls Try.prog 36 #[.int .i64 x, .int .i64 y] w fun e w' => e = .returned (.bool true) ∧ w' = w := by
  have h4 : y ≤ 64 - x := by omega
  go_enter Try.func36, Try.ntmps36
  go_wp2
  go_ret; exact ⟨ret_bool (by simp <;> omega), rfl⟩
theorem rvalid_no (x y : Int) (w : World) (h : ¬ (0 ≤ x ∧ 1 ≤ y ∧ x ≤ 64 - y)) : Calls Try.prog 36 #[.int .i64 x, .int .i64 y] w fun e w' => e = .returned (.bool false) ∧ w' = w := by
  by_cases h1 : 0 ≤ x
  · by_cases h2 : 1 ≤ y
    · by_cases h4 : x ≤ 63
      · have h3 : 64 - x < y := by omega
        clear h
        go_enter Try.func36, Try.ntmps36
        go_wp2
        go_ret; exact ⟨ret_bool (by simp <;> omega), rfl⟩
      · clear h
        go_enter Try.func36, Try.ntmps36
        go_wp2
        go_ret; exact ⟨ret_bool (by simp <;> omega), rfl⟩
    · clear h
      go_enter Try.func36, Try.ntmps36
      go_wp2
      go_ret; exact ⟨rfl, rfl⟩
  · clear h
    go_enter Try.func36, Try.ntmps36
    go_wp2
    go_ret; exact ⟨rfl, rfl⟩
theorem rfield_yes (a x y : Int) (w : World) (h1 : 0 ≤ x) (h2 : 1 ≤ y) (h3 : x ≤ 64 - y) (ha : 0 ≤ a ∧ a ≤ 18446744073709551615) :
    Calls Try.prog 13 #[.int .u64 a, .int .i64 x, .int .i64 y] w fun e w' => e = .returned (.int .u64 (fldZ a x y)) ∧ w' = w := by
  go_enter Try.func13, Try.ntmps13
  go_wp2_with (go_at_call 36; refine (rvalid_yes _ _ _ (by omega) (by omega) (by omega)).mono ?_; rintro e w' ⟨rfl, rfl⟩)
  go_loop [7, 8] (fun v i => ∃ t : Int, -1 ≤ t ∧ t ≤ y - 1 ∧ i = .int .i64 t ∧ v = .int .u64 (accF a x y t)) (fun _ i => (intOf i + 1).toNat)
  case atStart => exact ⟨y - 1, by omega, by omega, rfl, val_int (accF_first a x y).symm⟩
  case round =>
    obtain ⟨t, ht1, ht2, rfl, rfl⟩ := hrel
    by_cases hlt : 0 ≤ t
    · have H := Lib.hid (accF_step a x y t h1 hlt (by omega))
      have r1 := accF_range a x y t (by omega) ht1
      have r2 := accF_range a x y (t - 1) (by omega) (by omega)
      rw [H.out] at r2
      have r3 := bitZ_range a (x + t)
      go_wp2_with (go_at_call 37; refine (bit_any _ _ _ ha (by omega) (by omega)).mono ?_; rintro e w' ⟨rfl, rfl⟩)
      go_round
      case rel => exact ⟨t - 1, by omega, by omega, rfl, val_int H.out.symm⟩
      case measure => simp [intOf]; omega
    · have ht : t = -1 := by omega
      subst ht
      go_wp2
      go_ret
      exact ⟨ret_int (accF_last a x y), rfl⟩
theorem rfield_no (a x y : Int) (w : World) (h : ¬ (0 ≤ x ∧ 1 ≤ y ∧ x ≤ 64 - y)) :
    Calls Try.prog 13 #[.int .u64 a, .int .i64 x, .int .i64 y] w fun e w' => e = .returned (.int .u64 0) ∧ w' = w := by
  have H := Lib.hid h
  clear h
  go_enter Try.func13, Try.ntmps13
  go_wp2_with (go_at_call 36; refine (rvalid_no _ _ _ H.out).mono ?_; rintro e w' ⟨rfl, rfl⟩)
  go_ret
  exact ⟨rfl, rfl⟩
theorem rset_yes (a x y v : Int) (w : World) (h1 : 0 ≤ x) (h2 : 1 ≤ y) (h3 : x ≤ 64 - y) (ha : 0 ≤ a ∧ a ≤ 18446744073709551615) (hv : 0 ≤ v ∧ v ≤ 18446744073709551615) :
    Calls Try.prog 15 #[.int .u64 a, .int .i64 x, .int .i64 y, .int .u64 v] w fun e w' => e = .returned (.int .u64 (sfdZ a x y v)) ∧ w' = w := by
  go_enter Try.func15, Try.ntmps15
  go_wp2_with (go_at_call 36; refine (rvalid_yes _ _ _ (by omega) (by omega) (by omega)).mono ?_; rintro e w' ⟨rfl, rfl⟩)
  go_loop [9, 10] (fun o i => ∃ t : Int, -1 ≤ t ∧ t ≤ 63 ∧ i = .int .i64 t ∧ o = .int .u64 (accS a x y v t)) (fun _ i => (intOf i + 1).toNat)
  case atStart => exact ⟨63, by omega, by omega, rfl, val_int (accS_first a x y v h1 h2 h3 ha).symm⟩
  case round =>
    obtain ⟨t, ht1, ht2, rfl, rfl⟩ := hrel
    have r1 := accS_range a x y v t h1 h2 h3 ha
    have r2 := accS_range a x y v (t - 1) h1 h2 h3 ha
    by_cases hlt : 0 ≤ t
    · have hcs : t < x ∨ (x ≤ t ∧ t - x < y) ∨ (x ≤ t ∧ y ≤ t - x) := by omega
      rcases hcs with hc | ⟨hc, hd⟩ | ⟨hc, hd⟩
      · have H := Lib.hid (accS_out a x y v t h1 h2 h3 hlt ht2 (by omega))
        rw [H.out] at r2
        have r3 := bitZ_range a t
        go_wp2_with (go_at_call 37; refine (bit_any _ _ _ (by omega) (by omega) (by omega)).mono ?_; rintro e w' ⟨rfl, rfl⟩)
        go_round
        case rel => exact ⟨t - 1, by omega, by omega, rfl, val_int H.out.symm⟩
        case measure => simp [intOf]; omega
      · have H := Lib.hid (accS_in a x y v t h1 h2 h3 hc hd)
        rw [H.out] at r2
        have r3 := bitZ_range v (t - x)
        go_wp2_with (go_at_call 37; refine (bit_any _ _ _ (by omega) (by omega) (by omega)).mono ?_; rintro e w' ⟨rfl, rfl⟩)
        go_round
        case rel => exact ⟨t - 1, by omega, by omega, rfl, val_int H.out.symm⟩
        case measure => simp [intOf]; omega
      · have H := Lib.hid (accS_out a x y v t h1 h2 h3 hlt ht2 (by omega))
        rw [H.out] at r2
        have r3 := bitZ_range a t
        go_wp2_with (go_at_call 37; refine (bit_any _ _ _ (by omega) (by omega) (by omega)).mono ?_; rintro e w' ⟨rfl, rfl⟩)
        go_round
        case rel => exact ⟨t - 1, by omega, by omega, rfl, val_int H.out.symm⟩
        case measure => simp [intOf]; omega
    · have ht : t = -1 := by omega
      subst ht
      clear r1 r2
      go_wp2
      go_ret
      exact ⟨ret_int (accS_last a x y v), rfl⟩
theorem rset_no (a x y v : Int) (w : World) (h : ¬ (0 ≤ x ∧ 1 ≤ y ∧ x ≤ 64 - y)) :
    Calls Try.prog 15 #[.int .u64 a, .int .i64 x, .int .i64 y, .int .u64 v] w fun e w' => e = .returned (.int .u64 a) ∧ w' = w := by
  have H := Lib.hid h
  clear h
  go_enter Try.func15, Try.ntmps15
  go_wp2_with (go_at_call 36; refine (rvalid_no _ _ _ H.out).mono ?_; rintro e w' ⟨rfl, rfl⟩)
  go_ret
  exact ⟨rfl, rfl⟩

/-! ### the walk -/
theorem walk (a0 : Int) (w0 : (Lit.int .u64 a0).wf = true) (z1 : List Int) (l1 : z1.length = 2) (w1 : ∀ z ∈ z1, (Lit.int .i64 z).wf = true) (a2 : Int) (w2 : (Lit.int .u64 a2).wf = true) (W : World) :
    Calls Try.prog 3 #[.int .u64 a0, .agg (z1.map (Value.int .i64)).toArray, .int .u64 a2] W fun e W' => e = .returned (.bool true) ∧ Below W.heap.size W W' := by
  obtain ⟨x, y, rfl⟩ := list2 z1 l1
  have b0 := wf_u64 w0
  have b2 := wf_u64 w2
  have bx := wf_i64 (w1 x (by simp))
  have by' := wf_i64 (w1 y (by simp))
  clear w0 w1 w2 l1
  show Calls Try.prog 3 #[.int .u64 a0, .agg #[.int .i64 x, .int .i64 y], .int .u64 a2] W _
  by_cases hv : 0 ≤ x ∧ 1 ≤ y ∧ x ≤ 64 - y
  · obtain ⟨h1, h2, h3⟩ := hv
    go_enter Try.func3, Try.ntmps3
    go_wp2
    go_quiet (fail)
    go_wp2_with (first
      | (go_at_call 11; refine (awake_any _).mono ?_; rintro e w' ⟨rfl, n, rfl⟩)
      | (go_at_call 12; refine (field_yes _ _ _ _ (by omega) (by omega) (by omega) (by omega) (by omega)).mono ?_; rintro e w' ⟨rfl, n1, rfl⟩)
      | (go_at_call 13; refine (rfield_yes _ _ _ _ (by omega) (by omega) (by omega) (by omega)).mono ?_; rintro e w' ⟨rfl, rfl⟩)
      | (go_at_call 14; refine (setField_yes _ _ _ _ _ (by omega) (by omega) (by omega) (by omega) (by omega) (by omega) (by omega)).mono ?_; rintro e w' ⟨rfl, rfl⟩)
      | (go_at_call 15; refine (rset_yes _ _ _ _ _ (by omega) (by omega) (by omega) (by omega) (by omega)).mono ?_; rintro e w' ⟨rfl, rfl⟩))
    go_ret
    exact ⟨rfl, by repeat (first | apply below_draws | exact (Below.refl _ _).alloc (Nat.le_refl _) _)⟩
  · have H := Lib.hid hv
    clear hv
    go_enter Try.func3, Try.ntmps3
    go_wp2
    go_quiet (fail)
    go_wp2_with (first
      | (go_at_call 11; refine (awake_any _).mono ?_; rintro e w' ⟨rfl, n, rfl⟩)
      | (go_at_call 12; refine (field_no _ _ _ _ H.out (by omega)).mono ?_; rintro e w' ⟨rfl, n1, rfl⟩)
      | (go_at_call 13; refine (rfield_no _ _ _ _ H.out).mono ?_; rintro e w' ⟨rfl, rfl⟩)
      | (go_at_call 14; refine (setField_no _ _ _ _ _ H.out (by omega)).mono ?_; rintro e w' ⟨rfl, rfl⟩)
      | (go_at_call 15; refine (rset_no _ _ _ _ _ H.out).mono ?_; rintro e w' ⟨rfl, rfl⟩))
    go_ret
    exact ⟨rfl, by repeat (first | apply below_draws | exact (Below.refl _ _).alloc (Nat.le_refl _) _)⟩

/-! ### the frame -/
theorem cells23 : Try.prog.cellsOf 23 = 2 := by kernel_rfl
theorem cells3 : Try.prog.cellsOf 3 = 1 := by kernel_rfl
theorem own : ownKnob Try.prog.godebug = none := by kernel_rfl
set_option maxRecDepth 100000 in
theorem calls {H : Type} {enc : TypeId × Value → H} (W : World) (base : Nat) (args : Array Value) (ds : List (DataW H)) (p : List MemPlace)
    (hval0 : ∀ (j : Nat) t v, Try.f3.params[j]? = some t → args[j]? = some v → Value.okWide Try.prog W .any base t v)
    (hA : DataW.TrodAll enc Try.prog W 0 (fun _ => true) true Try.f3.params.toList args.toList ds p) (_ : W.noneFrozen p)
    (hsz : (DataW.weightsEach Try.prog Try.f3.params.toList ds).all (· ≤ reachBytes) = true) :
    Calls Try.prog 3 args W fun e W' => e = .returned (.bool true) ∧ Below W.heap.size W W' := by
  have hval : ∀ (j : Nat) t v, Try.f3.params[j]? = some t → args[j]? = some v → Value.okWide Try.prog W .any base t v := hval0
  clear hval0
  rw [Try.params3] at hA hval hsz
  obtain ⟨v0, vs0, d0, ds0, p0, q0, hargs, rfl, rfl, h0, r'0⟩ := trodAll_cons hA
  obtain ⟨v1, vs1, d1, ds1, p1, q1, rfl, rfl, rfl, h1, r'1⟩ := trodAll_cons r'0
  obtain ⟨v2, vs2, d2, ds2, p2, q2, rfl, rfl, rfl, h2, r'2⟩ := trodAll_cons r'1
  obtain ⟨rfl, rfl, rfl⟩ := trodAll_nil r'2
  obtain rfl : args = #[v0, v1, v2] := by cases args; simp_all
  obtain ⟨a0, rfl, rfl, rfl, w0⟩ := open_int Try.underlying22 (hval 0 22 v0 rfl rfl) h0
  obtain ⟨z1, l1, rfl, rfl, rfl, w1⟩ := open_arr_ints Try.underlying23 Try.underlying3 cells3 cells23 (hval 1 23 v1 rfl rfl) h1
  obtain ⟨a2, rfl, rfl, rfl, w2⟩ := open_int Try.underlying22 (hval 2 22 v2 rfl rfl) h2
  exact walk a0 w0 z1 l1 w1 a2 w2 W
set_option maxRecDepth 100000 in
theorem lifted (os : Os) (started : os.Started) (H : Type) (enc : TypeId × Value → H) :
    ReturnsInHanded {} Try.checked os 3 .any (Rows.wordFieldsSpec.pre6 enc Try.prog Try.f3 Rows.wordFieldsRow.domain false) (Rows.wordFieldsSpec.post enc Try.prog Try.f3 false true false false) :=
  law_lifted (C := Try.checked) (s := Rows.wordFieldsSpec) (b := 4) own (by kernel_rfl) Try.func3 (by kernel_rfl) (by kernel_rfl) rfl Try.underlying4 rfl
    (fun ds h => by match ds, h with | [_, _, _], _ => rfl) calls os started
    (ChangeSpec.witness6 (enc := enc) (C := Try.checked) false ⟨#[], #[.int .u64 0, .agg #[.int .i64 0, .int .i64 0], .int .u64 0], []⟩ 8 (by kernel_rfl) (by kernel_rfl) (by kernel_rfl) (by kernel_rfl))
/-- ████ THE STATEMENT ████ -/
theorem proved : Rows.WordFieldsSaid :=
  OpenClaim.holds_of_wide 3 Try.f3 rfl rfl rfl rfl rfl rfl rfl ⟨rfl, rfl, rfl, rfl, rfl⟩ rfl rfl rfl rfl rfl (by kernel_rfl) Try.func3 (by kernel_rfl)
    (of_decide_eq_true (by kernel_rfl)) (by unfold Func.isWrapper; first | (rw [if_pos (by decide +kernel)]; kernel_rfl) | (rw [if_neg (by decide +kernel)]; exact ⟨rfl, rfl⟩))
    (fun os started H enc _ => lifted os started H enc)
#print axioms proved
end Go.Proofs.Ytgfiddjlbjlolaa.wordFields
