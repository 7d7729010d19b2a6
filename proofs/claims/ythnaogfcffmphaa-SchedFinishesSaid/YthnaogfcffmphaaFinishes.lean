/-
  PROVED: the law SchedFinishes answers true for every input, and each argument reads behind the call as before (Rows.SchedFinishesSaid). No condition.
-/
import Derived.Test.YthnaogfcffmphaaRows
import Derived.Test.YthnaogfcffmphaaLaw
import Derived.Test.YthnaogfcffmphaaArgs
import Derived.Test.YthnaogfcffmphaaSAwake
namespace Go.Proofs.Ythnaogfcffmphaa.schedFinishes
open Go.ChangeShapes Go.WideShapes Go.ChangeAt Go.RowKit Go.Proofs.Ythnaogfcffmphaa.Law Go.Proofs.Ythnaogfcffmphaa.Args
set_option linter.unusedVariables false
set_option linter.unusedSimpArgs false
open Go.Proofs.Ythnaogfcffmphaa.Sched Go.Proofs.Ythnaogfcffmphaa.Mem
theorem wf_u16 {a : Int} (h : (Lit.int .u16 a).wf = true) : 0 ≤ a ∧ a ≤ 65535 := by
  simpa [Lit.wf, IntKind.min, IntKind.max, IntKind.bits, IntKind.signed] using h
theorem wf_u8' {a : Int} (h : (Lit.int .u8 a).wf = true) : 0 ≤ a ∧ a ≤ 255 := by
  simpa [Lit.wf, IntKind.min, IntKind.max, IntKind.bits, IntKind.signed] using h
theorem wf_i64' {a : Int} (h : (Lit.int .i64 a).wf = true) : -9223372036854775808 ≤ a ∧ a ≤ 9223372036854775807 := by
  simpa [Lit.wf, IntKind.min, IntKind.max, IntKind.bits, IntKind.signed] using h
set_option maxRecDepth 100000 in
set_option maxHeartbeats 2000000 in
theorem walk (W : World) (a0 : Int) (w0 : (Lit.int .i64 a0).wf = true) (a1 : Int) (w1 : (Lit.int .u16 a1).wf = true) (a2 : Int) (w2 : (Lit.int .u8 a2).wf = true) :
    Calls Try.prog 5 #[.int .i64 a0, .int .u16 a1, .int .u8 a2] W fun e W' => e = .returned (.bool true) ∧ Below W.heap.size W W' := by
  have h0 := wf_i64' w0
  have h1 := wf_u16 w1
  have h2 := wf_u8' w2
  clear w0 w1 w2
  obtain ⟨m, hm⟩ : ∃ m, need a0 = m := ⟨_, rfl⟩
  have hmx : max a0 1 = (m : Int) := by rw [← hm, need_max]
  have hm1 : 1 ≤ m := by rw [← hm]; exact need_pos _
  have hm2 : m ≤ 9223372036854775807 := by omega
  have HOF := fun w => of_any a0 w
  rw [hm] at HOF
  have HOFF := Lib.hid HOF
  obtain ⟨b, hb⟩ : ∃ b : Nat, a1 % 2000 = (b : Int) := ⟨(a1 % 2000).toNat, by omega⟩
  have hbt : a1.tmod 2000 = (b : Int) := by rw [Int.tmod_eq_emod_of_nonneg h1.1]; exact hb
  have hb2 : b < 2000 := by omega
  obtain ⟨r, hr⟩ : ∃ r : Nat, a2 % 5 = (r : Int) := ⟨(a2 % 5).toNat, by omega⟩
  have hrt : a2.tmod 5 = (r : Int) := by rw [Int.tmod_eq_emod_of_nonneg h2.1]; exact hr
  have hr2 : r < 5 := by omega
  obtain ⟨h01, h02⟩ := h0
  obtain ⟨h11, h12⟩ := h1
  obtain ⟨h21, h22⟩ := h2
  have hwb : IntKind.i64.wrap (b : Int) = (b : Int) := IntWalk.i64_in _ ⟨by omega, by omega⟩
  clear hm HOF
  have HFIN : Hid (∀ w g, IsSteps w g m → Calls Try.prog 22 #[.iface 41 (.pointer (some ⟨g, 0, none⟩)), .int .i64 (b : Int)] w fun e w' => e = .returned (.bool (decide ((m : Int) ≤ (b : Int)))) ∧ Hid (IsSteps w' g (m - min m b) ∧ Only (· = g) w w')) := Lib.hid fun w g h => by
    have := finish_any g m (b : Int) w hm1 hm2 (by omega) h
    rw [Int.toNat_natCast] at this
    exact this
  by_cases hmb : m ≤ b
  · have hmi : (m : Int) ≤ (b : Int) := by omega
    have hmn : min (m : Int) (b : Int) = (m : Int) := by omega
    have HD : Hid (decide ((m : Int) ≤ (b : Int)) = true) := Lib.hid (by simpa using hmi)
    have HZ : Hid (m - min m b = 0) := Lib.hid (by omega)
    rw [HD.out, HZ.out] at HFIN
    go_enter Try.func5, Try.ntmps5
    go_wp2_with (first
      | (go_at_call 11; go_must (refine (awake_any _).mono ?_); rintro e wa ⟨rfl, hba⟩; have HBA := Lib.hid hba; clear hba)
      | (go_at_call 20; go_must (refine (HOFF.out _).mono ?_); rintro e wb ⟨rfl, HB⟩; obtain ⟨g, hg⟩ : ∃ g, wa.heap.size = g := ⟨_, rfl⟩; have HG := Lib.hid hg; rw [hg]; have HST := HB; clear hg)
      | (go_at_call 21; go_must (refine (left_any _ _ _ (by first | exact HST.out.1 | (have := HST.out.1; rwa [HG.out] at this))).mono ?_); rintro e wl ⟨rfl, rfl⟩)
      | (go_at_call 22; go_must (refine (HFIN.out _ _ (by have := HST.out.1; rwa [HG.out] at this)).mono ?_); rintro e wc ⟨rfl, HST⟩))
    have HI : Hid (IsSteps wc g 0 ∧ Below W.heap.size W wc) := Lib.hid ⟨HST.out.1, by
      have h1 := HBA.out.trans (HB.out.2.mono HBA.out.size)
      exact h1.trans (HST.out.2.below h1.size (fun x e => by have := HG.out; have := HBA.out.size; omega))⟩
    have hgw : W.heap.size ≤ g := by have := HG.out; have := HBA.out.size; omega
    clear HB HST HBA HG HFIN HOFF
    go_loopw [50] (fun i wr => ∃ j : Nat, j ≤ r ∧ i = .int .i64 j ∧ Hid (IsSteps wr g 0 ∧ Below W.heap.size W wr)) (fun i _ => r - (intOf i).toNat)
    case atStart => exact ⟨0, by omega, rfl, HI⟩
    case round =>
      obtain ⟨j, hj, rfl, HR⟩ := hrel
      by_cases hjr : j < r
      · have hji : (j : Int) < (r : Int) := by omega
        go_wp2_with (go_at_call 23; go_must (refine (step_any g 0 _ (by decide) HR.out.1).mono ?_); rintro e w2 ⟨rfl, H2⟩)
        go_roundw
        case rel => exact ⟨j + 1, by omega, by go_num, Lib.hid ⟨H2.out.1, HR.out.2.trans (H2.out.2.below HR.out.2.size (fun x e => by omega))⟩⟩
        case measure => simp [intOf]; omega
      · have hj2 : j = r := by omega
        subst hj2
        go_wp2_with (go_at_call 21; go_must (refine (left_any g 0 _ HR.out.1).mono ?_); rintro e wl ⟨rfl, rfl⟩)
        go_ret
        exact ⟨rfl, HR.out.2⟩
  · have hmi : ¬ ((m : Int) ≤ (b : Int)) := by omega
    have hmn : min (m : Int) (b : Int) = (b : Int) := by omega
    have HD : Hid (decide ((m : Int) ≤ (b : Int)) = false) := Lib.hid (by simpa using hmi)
    obtain ⟨l, hl⟩ : ∃ l, m - min m b = l := ⟨_, rfl⟩
    have hll : l ≤ 9223372036854775807 := by omega
    have hdi : (m : Int) - (b : Int) = (l : Int) := by omega
    have hmd : decide ((m : Int) ≤ (b : Int)) = false := by simpa using hmi
    rw [HD.out, hl] at HFIN
    clear hl
    go_enter Try.func5, Try.ntmps5
    go_wp2_with (first
      | (go_at_call 11; go_must (refine (awake_any _).mono ?_); rintro e wa ⟨rfl, hba⟩; have HBA := Lib.hid hba; clear hba)
      | (go_at_call 20; go_must (refine (HOFF.out _).mono ?_); rintro e wb ⟨rfl, HB⟩; obtain ⟨g, hg⟩ : ∃ g, wa.heap.size = g := ⟨_, rfl⟩; have HG := Lib.hid hg; rw [hg]; have HST := HB; clear hg)
      | (go_at_call 21; go_must (refine (left_any _ _ _ (by first | exact HST.out.1 | (have := HST.out.1; rwa [HG.out] at this))).mono ?_); rintro e wl ⟨rfl, rfl⟩)
      | (go_at_call 22; go_must (refine (HFIN.out _ _ (by have := HST.out.1; rwa [HG.out] at this)).mono ?_); rintro e wc ⟨rfl, HST⟩))
    have HI : Hid (IsSteps wc g l ∧ Below W.heap.size W wc) := Lib.hid ⟨HST.out.1, by
      have h1 := HBA.out.trans (HB.out.2.mono HBA.out.size)
      exact h1.trans (HST.out.2.below h1.size (fun x e => by have := HG.out; have := HBA.out.size; omega))⟩
    have hgw : W.heap.size ≤ g := by have := HG.out; have := HBA.out.size; omega
    clear HB HST HBA HG HFIN HOFF hdi
    go_loopw [50] (fun i wr => ∃ j : Nat, j ≤ r ∧ i = .int .i64 j ∧ Hid (∃ k, k ≤ 9223372036854775807 ∧ IsSteps wr g k ∧ Below W.heap.size W wr)) (fun i _ => r - (intOf i).toNat)
    case atStart => exact ⟨0, by omega, rfl, Lib.hid ⟨l, hll, HI.out⟩⟩
    case round =>
      obtain ⟨j, hj, rfl, HO⟩ := hrel
      obtain ⟨k, hk, hR⟩ := HO.out
      have HR := Lib.hid hR
      clear HO hR
      by_cases hjr : j < r
      · have hji : (j : Int) < (r : Int) := by omega
        go_wp2_with (go_at_call 23; go_must (refine (step_any g k _ hk HR.out.1).mono ?_); rintro e w2 ⟨rfl, H2⟩)
        go_roundw
        case rel => exact ⟨j + 1, by omega, by go_num, Lib.hid ⟨k - 1, by omega, H2.out.1, HR.out.2.trans (H2.out.2.below HR.out.2.size (fun x e => by omega))⟩⟩
        case measure => simp [intOf]; omega
      · have hj2 : j = r := by omega
        subst hj2
        have hkz : ((k : Int) == 0) = true ∨ ((k : Int) == 0) = false := by cases ((k : Int) == 0) <;> simp
        rcases hkz with hkz | hkz
        all_goals
          go_wp2_with (go_at_call 21; go_must (refine (left_any g k _ HR.out.1).mono ?_); rintro e wl ⟨rfl, rfl⟩)
          go_ret
          exact ⟨rfl, HR.out.2⟩

/-! ### the frame -/
theorem own : ownKnob Try.prog.godebug = none := by kernel_rfl
set_option maxRecDepth 100000 in
theorem calls {H : Type} {enc : TypeId × Value → H} (W : World) (base : Nat) (args : Array Value) (ds : List (DataW H)) (p : List MemPlace)
    (hval0 : ∀ (j : Nat) t v, Try.f5.params[j]? = some t → args[j]? = some v → Value.okWide Try.prog W .any base t v)
    (hA : DataW.TrodAll enc Try.prog W 0 (fun _ => true) true Try.f5.params.toList args.toList ds p) (_ : W.noneFrozen p)
    (hsz : (DataW.weightsEach Try.prog Try.f5.params.toList ds).all (· ≤ reachBytes) = true) :
    Calls Try.prog 5 args W fun e W' => e = .returned (.bool true) ∧ Below W.heap.size W W' := by
  have hval : ∀ (j : Nat) t v, Try.f5.params[j]? = some t → args[j]? = some v → Value.okWide Try.prog W .any base t v := hval0
  clear hval0
  rw [Try.params5] at hA hval hsz
  obtain ⟨v0, vs0, d0, ds0, p0, q0, hargs, rfl, rfl, h0, r'0⟩ := trodAll_cons hA
  obtain ⟨v1, vs1, d1, ds1, p1, q1, rfl, rfl, rfl, h1, r'1⟩ := trodAll_cons r'0
  obtain ⟨v2, vs2, d2, ds2, p2, q2, rfl, rfl, rfl, h2, r'2⟩ := trodAll_cons r'1
  obtain ⟨rfl, rfl, rfl⟩ := trodAll_nil r'2
  obtain rfl : args = #[v0, v1, v2] := by cases args; simp_all
  obtain ⟨a0, rfl, rfl, rfl, w0⟩ := open_int Try.underlying3 (hval 0 3 v0 rfl rfl) h0
  obtain ⟨a1, rfl, rfl, rfl, w1⟩ := open_int Try.underlying40 (hval 1 40 v1 rfl rfl) h1
  obtain ⟨a2, rfl, rfl, rfl, w2⟩ := open_int Try.underlying5 (hval 2 5 v2 rfl rfl) h2
  exact walk (W := W) a0 w0 a1 w1 a2 w2
set_option maxRecDepth 100000 in
theorem lifted (os : Os) (started : os.Started) (H : Type) (enc : TypeId × Value → H) :
    ReturnsInHanded {} Try.checked os 5 .any (Rows.schedFinishesSpec.pre6 enc Try.prog Try.f5 Rows.schedFinishesRow.domain false) (Rows.schedFinishesSpec.post enc Try.prog Try.f5 false true false false) :=
  law_lifted (C := Try.checked) (s := Rows.schedFinishesSpec) (b := 4) own (by kernel_rfl) Try.func5 (by kernel_rfl) (by kernel_rfl) rfl Try.underlying4 rfl
    (fun ds h => by match ds, h with | [_, _, _], _ => rfl) calls os started
    (ChangeSpec.witness6 (enc := enc) (C := Try.checked) false ⟨#[], #[.int .i64 0, .int .u16 0, .int .u8 0], []⟩ 8 (by kernel_rfl) (by kernel_rfl) (by kernel_rfl) (by kernel_rfl))
/-- ████ THE STATEMENT ████ -/
theorem proved : Rows.SchedFinishesSaid :=
  OpenClaim.holds_of_wide 5 Try.f5 rfl rfl rfl rfl rfl rfl rfl ⟨rfl, rfl, rfl, rfl, rfl⟩ rfl rfl rfl rfl rfl (by kernel_rfl) Try.func5 (by kernel_rfl)
    (of_decide_eq_true (by kernel_rfl)) (by unfold Func.isWrapper; first | (rw [if_pos (by decide +kernel)]; kernel_rfl) | (rw [if_neg (by decide +kernel)]; exact ⟨rfl, rfl⟩))
    (fun os started H enc _ => lifted os started H enc)
#print axioms proved
end Go.Proofs.Ythnaogfcffmphaa.schedFinishes
