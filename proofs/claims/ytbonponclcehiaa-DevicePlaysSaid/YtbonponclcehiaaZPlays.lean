/-
  PROVED: the law DevicePlays answers true for every input, and each argument reads behind the call as before (Rows.DevicePlaysSaid). No condition.
-/
import Derived.Test.YtbonponclcehiaaZM
import Derived.Test.YtbonponclcehiaaZB
import Derived.Test.YtbonponclcehiaaRows
import Derived.Test.YtbonponclcehiaaZA
set_option linter.unusedVariables false
set_option linter.unusedSimpArgs false
/-
  DevicePlays: the walk (the argument's opener is not here).
-/
namespace Go.Proofs.Ytbonponclcehiaa.Dev
open Go.ChangeShapes Go.WideShapes Go.ChangeAt Go.RowKit Go.Proofs.Ytbonponclcehiaa.Mem Go.Proofs.Ytbonponclcehiaa.Args Go.Proofs.Ytbonponclcehiaa.Own
set_option maxRecDepth 100000 in
theorem plays_walk (W : World) (L : Int) (E : Option Addr) (n c : Nat) (hE : EvsAt W W.heap.size E n) (hn : n ≤ maxLen) :
    Calls Try.prog 5 #[.agg #[.int .i64 L, .slice E n c]] W fun e W' => e = .returned (.bool true) ∧ Below W.heap.size W W' := by
  have HP : Hid (∀ w, Below W.heap.size W w → Calls Try.prog 41 #[.agg #[.int .i64 L, .slice E n c], .int .i64 60] w fun q w' => ∃ d r : Nat, q = .returned (.tuple #[.pointer (some ⟨d, 0, none⟩), .pointer (some ⟨r, 0, none⟩)]) ∧ Hid (Below W.heap.size W w')) := Lib.hid fun w hb => by
    refine (play_any w L E n c 60 (by omega) (fun j hj => ?_) hn).mono ?_
    · obtain ⟨ad, e, hB, rest⟩ := hE.below hb j hj
      exact ⟨ad, e, Nat.lt_of_lt_of_le hB hb.size, rest⟩
    · rintro q w' ⟨d, r, k, w0, e, H⟩
      exact ⟨d, r, e, Lib.hid (hb.trans (H.out.2.2.1.mono hb.size))⟩
  clear hE hn
  go_enter Try.func5, Try.ntmps5
  go_wp2_with (first
    | (go_at_call 41; go_must (refine (HP.out _ ((Below.refl _ _).alloc (Nat.le_refl _) _)).mono ?_); rintro e w1 ⟨d, r, rfl, H1⟩)
    | (go_at_call 12; go_must (refine (awake_any _).mono ?_); rintro e w2 ⟨rfl, H2⟩))
  go_ret
  exact ⟨rfl, H1.out.trans (H2.out.mono H1.out.size)⟩
end Go.Proofs.Ytbonponclcehiaa.Dev
namespace Go.Proofs.Ytbonponclcehiaa.devicePlays
open Go.ChangeShapes Go.WideShapes Go.ChangeAt Go.RowKit Go.Proofs.Ytbonponclcehiaa.Law Go.Proofs.Ytbonponclcehiaa.Args
set_option linter.unusedVariables false
set_option linter.unusedSimpArgs false
open Go.Proofs.Ytbonponclcehiaa.Mem Go.Proofs.Ytbonponclcehiaa.Own Go.Proofs.Ytbonponclcehiaa.Dev
theorem walk (W : World) (L : Int) (E : Option Addr) (n c : Nat) (hE : EvsAt W W.heap.size E n) (hn : n ≤ maxLen) :
    Calls Try.prog 5 #[.agg #[.int .i64 L, .slice E n c]] W fun e W' => e = .returned (.bool true) ∧ Below W.heap.size W W' := plays_walk W L E n c hE hn

/-! ### the frame -/
theorem own : ownKnob Try.prog.godebug = none := by kernel_rfl
set_option maxRecDepth 100000 in
theorem calls {H : Type} {enc : TypeId × Value → H} (W : World) (base : Nat) (args : Array Value) (ds : List (DataW H)) (p : List MemPlace)
    (hval0 : ∀ (j : Nat) t v, Try.f5.params[j]? = some t → args[j]? = some v → Value.okWide Try.prog W .any base t v)
    (hA : DataW.TrodAll enc Try.prog W 0 (fun _ => true) true Try.f5.params.toList args.toList ds p) (_ : W.noneFrozen p)
    (hsz : (DataW.weightsEach Try.prog Try.f5.params.toList ds).all (· ≤ reachBytes) = true) :
    Calls Try.prog 5 args W fun e W' => e = .returned (.bool true) ∧ Below W.heap.size W W' := by
  have hval : ∀ (j : Nat) t v, Try.f5.params[j]? = some t → args[j]? = some v → Value.okWide Try.prog W .any base t v := hval0
  clear hval0
  rw [Try.params5] at hA hval hsz
  obtain ⟨v0, vs0, d0, ds0, p0, q0, hargs, rfl, rfl, h0, r'0⟩ := trodAll_cons hA
  obtain ⟨rfl, rfl, rfl⟩ := trodAll_nil r'0
  obtain rfl : args = #[v0] := by cases args; simp_all
  obtain ⟨L0, E0, n0, c0, rfl, hn0, hE0⟩ := open_run (hval 0 57 v0 rfl rfl) h0
  exact walk (W := W) L0 E0 n0 c0 hE0 hn0
set_option maxRecDepth 100000 in
theorem lifted (os : Os) (started : os.Started) (H : Type) (enc : TypeId × Value → H) :
    ReturnsInHanded {} Try.checked os 5 .any (Rows.devicePlaysSpec.pre6 enc Try.prog Try.f5 Rows.devicePlaysRow.domain false) (Rows.devicePlaysSpec.post enc Try.prog Try.f5 false true false false) :=
  law_lifted (C := Try.checked) (s := Rows.devicePlaysSpec) (b := 4) own (by kernel_rfl) Try.func5 (by kernel_rfl) (by kernel_rfl) rfl Try.underlying4 rfl
    (fun ds h => by match ds, h with | [_], _ => rfl) calls os started
    (ChangeSpec.witness6 (enc := enc) (C := Try.checked) false ⟨#[], #[.agg #[.int .i64 0, .slice none 0 0]], []⟩ 8 (by kernel_rfl) (by kernel_rfl) (by kernel_rfl) (by kernel_rfl))
/-- ████ THE STATEMENT ████ -/
theorem proved : Rows.DevicePlaysSaid :=
  OpenClaim.holds_of_wide 5 Try.f5 rfl rfl rfl rfl rfl rfl rfl ⟨rfl, rfl, rfl, rfl, rfl⟩ rfl rfl rfl rfl rfl (by kernel_rfl) Try.func5 (by kernel_rfl)
    (of_decide_eq_true (by kernel_rfl)) (by unfold Func.isWrapper; first | (rw [if_pos (by decide +kernel)]; kernel_rfl) | (rw [if_neg (by decide +kernel)]; exact ⟨rfl, rfl⟩))
    (fun os started H enc _ => lifted os started H enc)
#print axioms proved
end Go.Proofs.Ytbonponclcehiaa.devicePlays
