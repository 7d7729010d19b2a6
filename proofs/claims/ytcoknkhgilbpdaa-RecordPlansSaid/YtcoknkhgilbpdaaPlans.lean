/-
  PROVED: the law RecordPlans answers true for every input, and each argument reads behind the call as before (Rows.RecordPlansSaid). No condition.
-/
import Derived.Test.YtcoknkhgilbpdaaRows
import Derived.Test.YtcoknkhgilbpdaaLaw
import Derived.Test.YtcoknkhgilbpdaaArgs
import Derived.Test.YtcoknkhgilbpdaaRecAwake
import Derived.Test.YtcoknkhgilbpdaaRecPlan
namespace Go.Proofs.Ytcoknkhgilbpdaa.recordPlans
open Go.ChangeShapes Go.WideShapes Go.ChangeAt Go.RowKit Go.Proofs.Ytcoknkhgilbpdaa.Law Go.Proofs.Ytcoknkhgilbpdaa.Args
set_option linter.unusedVariables false
set_option linter.unusedSimpArgs false
open Go.Proofs.Ytcoknkhgilbpdaa.Rec Go.Proofs.Ytcoknkhgilbpdaa.Mem Go.Proofs.Ytcoknkhgilbpdaa.Own
theorem walk (W : World) (a0 : Int) (w0 : (Lit.int .u64 a0).wf = true) (s1 : ByteArray) (ws1 : s1.size ≤ maxLen) :
    Calls Try.prog 11 #[.int .u64 a0, .string s1] W fun e W' => e = .returned (.bool true) ∧ Below W.heap.size W W' := by
  obtain ⟨ha, hb⟩ := wf_u64 w0
  obtain ⟨q, hq⟩ : ∃ q, a0 % 8 = q := ⟨_, rfl⟩
  have htm : a0.tmod 8 = q := by rw [Int.tmod_eq_emod_of_nonneg ha]; exact hq
  have hms : s1.size ≤ 9223372036854775807 := ws1
  by_cases h1 : q ≠ 0 ∨ 18446744073709551591 < a0
  · have HP := Lib.hid (fun w => plan_bad a0 s1 w ha (by rw [hq]; exact h1))
    by_cases h8 : q = 0
    · have hd : decide (18446744073709551591 < a0) = true := decide_eq_true (by omega)
      subst h8
      clear h1 hq w0
      go_enter Try.func11, Try.ntmps11
      go_wp2_with (first
        | (go_at_call 12; go_must (refine (awake_any _).mono ?_); rintro e wA ⟨rfl, HA⟩)
        | (go_at_call 62; go_must (refine (HP.out _).mono ?_); rintro e wP ⟨rfl, HQ⟩))
      go_ret
      exact ⟨rfl, Below.after HA HQ⟩
    · clear h1 hq w0
      go_enter Try.func11, Try.ntmps11
      go_wp2_with (first
        | (go_at_call 12; go_must (refine (awake_any _).mono ?_); rintro e wA ⟨rfl, HA⟩)
        | (go_at_call 62; go_must (refine (HP.out _).mono ?_); rintro e wP ⟨rfl, HQ⟩))
      go_ret
      exact ⟨rfl, Below.after HA HQ⟩
  · have h8 : q = 0 := by omega
    subst h8
    have hd : decide (18446744073709551591 < a0) = false := decide_eq_false (by omega)
    by_cases h16 : 16 < s1.size
    · have HP := Lib.hid (fun w => plan_long a0 s1 w ha hq (by omega) h16)
      have hd2 : decide (16 < (s1.size : Int)) = true := decide_eq_true (by omega)
      clear h1 hq w0
      go_enter Try.func11, Try.ntmps11
      go_wp2_with (first
        | (go_at_call 12; go_must (refine (awake_any _).mono ?_); rintro e wA ⟨rfl, HA⟩)
        | (go_at_call 62; go_must (refine (HP.out _).mono ?_); rintro e wP ⟨rfl, HQ⟩))
      go_ret
      exact ⟨rfl, Below.after HA HQ⟩
    · have HP := Lib.hid (fun w => plan_ok a0 s1 w ha hq (by omega) (by omega))
      have hd2 : decide (16 < (s1.size : Int)) = false := decide_eq_false (by omega)
      have hwx2 : IntKind.u64.wrap (a0 + 16) = a0 + 16 := IntWalk.u64_in _ ⟨by omega, by omega⟩
      clear h1 hq w0
      go_enter Try.func11, Try.ntmps11
      go_wp2_with (first
        | (go_at_call 12; go_must (refine (awake_any _).mono ?_); rintro e wA ⟨rfl, HA⟩)
        | (go_at_call 62; go_must (refine (HP.out _).mono ?_); rintro e wP ⟨g, rfl, HQ⟩; have c0 : wP.cell? ⟨g, 0, none⟩ = some (.int .u64 a0) := by { rw [HQ.out.2.1.cell (by omega)]; simp [wrG] }; have c4 : wP.cell? ⟨g, 4, none⟩ = some (.int .u64 (a0 + 16)) := by { rw [HQ.out.2.1.cell (by omega)]; simp [wrG] }))
      go_ret
      exact ⟨rfl, Below.after HA HQ.out.2.2⟩

/-! ### the frame -/
theorem own : ownKnob Try.prog.godebug = none := by kernel_rfl
set_option maxRecDepth 100000 in
theorem calls {H : Type} {enc : TypeId × Value → H} (W : World) (base : Nat) (args : Array Value) (ds : List (DataW H)) (p : List MemPlace)
    (hval0 : ∀ (j : Nat) t v, Try.f11.params[j]? = some t → args[j]? = some v → Value.okWide Try.prog W .any base t v)
    (hA : DataW.TrodAll enc Try.prog W 0 (fun _ => true) true Try.f11.params.toList args.toList ds p) (_ : W.noneFrozen p)
    (hsz : (DataW.weightsEach Try.prog Try.f11.params.toList ds).all (· ≤ reachBytes) = true) :
    Calls Try.prog 11 args W fun e W' => e = .returned (.bool true) ∧ Below W.heap.size W W' := by
  have hval : ∀ (j : Nat) t v, Try.f11.params[j]? = some t → args[j]? = some v → Value.okWide Try.prog W .any base t v := hval0
  clear hval0
  rw [Try.params11] at hA hval hsz
  obtain ⟨v0, vs0, d0, ds0, p0, q0, hargs, rfl, rfl, h0, r'0⟩ := trodAll_cons hA
  obtain ⟨v1, vs1, d1, ds1, p1, q1, rfl, rfl, rfl, h1, r'1⟩ := trodAll_cons r'0
  obtain ⟨rfl, rfl, rfl⟩ := trodAll_nil r'1
  obtain rfl : args = #[v0, v1] := by cases args; simp_all
  obtain ⟨a0, rfl, rfl, rfl, w0⟩ := open_int Try.underlying22 (hval 0 22 v0 rfl rfl) h0
  obtain ⟨s1, rfl, rfl, rfl, ws1⟩ := Go.ChangeMaps.open_string Try.underlying9 (hval 1 9 v1 rfl rfl) h1
  exact walk (W := W) a0 w0 s1 ws1
set_option maxRecDepth 100000 in
theorem lifted (os : Os) (started : os.Started) (H : Type) (enc : TypeId × Value → H) :
    ReturnsInHanded {} Try.checked os 11 .any (Rows.recordPlansSpec.pre6 enc Try.prog Try.f11 Rows.recordPlansRow.domain false) (Rows.recordPlansSpec.post enc Try.prog Try.f11 false true false false) :=
  law_lifted (C := Try.checked) (s := Rows.recordPlansSpec) (b := 4) own (by kernel_rfl) Try.func11 (by kernel_rfl) (by kernel_rfl) rfl Try.underlying4 rfl
    (fun ds h => by match ds, h with | [_, _], _ => rfl) calls os started
    (ChangeSpec.witness6 (enc := enc) (C := Try.checked) false ⟨#[], #[.int .u64 0, .string ⟨#[]⟩], []⟩ 8 (by kernel_rfl) (by kernel_rfl) (by kernel_rfl) (by kernel_rfl))
/-- ████ THE STATEMENT ████ -/
theorem proved : Rows.RecordPlansSaid :=
  OpenClaim.holds_of_wide 11 Try.f11 rfl rfl rfl rfl rfl rfl rfl ⟨rfl, rfl, rfl, rfl, rfl⟩ rfl rfl rfl rfl rfl (by kernel_rfl) Try.func11 (by kernel_rfl)
    (of_decide_eq_true (by kernel_rfl)) (by unfold Func.isWrapper; first | (rw [if_pos (by decide +kernel)]; kernel_rfl) | (rw [if_neg (by decide +kernel)]; exact ⟨rfl, rfl⟩))
    (fun os started H enc _ => lifted os started H enc)
#print axioms proved
end Go.Proofs.Ytcoknkhgilbpdaa.recordPlans
