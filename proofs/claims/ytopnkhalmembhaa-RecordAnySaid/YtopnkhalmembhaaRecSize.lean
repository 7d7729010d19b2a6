/-
  CONTRACTS: record's sizeOf of a codec: its Words where they are 1 to 4096, else 0; 0 of nil. The deferred closure recovers nothing.
-/
import Derived.Test.YtopnkhalmembhaaOwn
import Derived.Test.YtopnkhalmembhaaBlk
import Derived.BigQuiet
import Derived.Deep.Cut
import Derived.Outline
import Derived.Handy
import Derived.WalkLawsBesides
import Derived.IntWalk
import Derived.Defers
import Derived.Recover
set_option linter.unusedVariables false
set_option linter.unusedSimpArgs false
namespace Go.Proofs.Ytopnkhalmembhaa.Rec
open Go.ChangeShapes Go.WideShapes Go.ChangeAt Go.RowKit Go.Proofs.Ytopnkhalmembhaa.Mem Go.Proofs.Ytopnkhalmembhaa.Law Go.Proofs.Ytopnkhalmembhaa.Args Go.Proofs.Ytopnkhalmembhaa.Own
theorem ret_bool {a b : Bool} (h : a = b) : Ending.returned (.bool a) = .returned (.bool b) := by rw [h]
theorem ret_int {k : IntKind} {a b : Int} (h : a = b) : Ending.returned (.int k a) = .returned (.int k b) := by rw [h]
theorem wf_i64 {a : Int} (h : (Lit.int .i64 a).wf = true) : -9223372036854775808 ≤ a ∧ a ≤ 9223372036854775807 := by
  simpa [Lit.wf, IntKind.min, IntKind.max, IntKind.bits, IntKind.signed] using h
theorem wf_u64 {a : Int} (h : (Lit.int .u64 a).wf = true) : 0 ≤ a ∧ a ≤ 18446744073709551615 := by
  simpa [Lit.wf, IntKind.min, IntKind.max, IntKind.bits, IntKind.signed] using h
theorem wf_u8 {a : Int} (h : (Lit.int .u8 a).wf = true) : 0 ≤ a ∧ a ≤ 255 := by
  simpa [Lit.wf, IntKind.min, IntKind.max, IntKind.bits, IntKind.signed] using h
/-- A codec's size: the words where they are 1 to 4096. -/
def vs (n : Int) : Int := if 1 ≤ n ∧ n ≤ 4096 then n else 0
theorem vs_ok {n : Int} (h : 1 ≤ n) (h' : n ≤ 4096) : vs n = n := if_pos ⟨h, h'⟩
theorem vs_lo {n : Int} (h : n < 1) : vs n = 0 := if_neg (by omega)
theorem vs_hi {n : Int} (h : 4096 < n) : vs n = 0 := if_neg (by omega)
theorem makeFunc_run (P : Program) (fn : Fn) (first cap : Array Value) (w : World) : (Instr.makeFunc fn first cap).run P w = .ok (.func fn first cap) w := rfl
theorem closure_i64 (w : World) : CallsD Try.prog 101 #[] .returning w fun e u' w' => u' = .returning ∧ (e = .returned (.tuple #[]) ∧ w' = w) := by
  refine callsD_of_wpS Try.func101 rfl fun c₀ cs hu => ?_
  apply wpS_region
  simp [wpOpsS, go_sem, recoverD, hu, Try.ntmps101, Exit.thenS, bodyPostS, results, Try.results101]
  cases c₀
  cases hu
  rfl
theorem size_i64 (recv : Value) (n : Int) (w : World) (h1 : 1 ≤ n) (h2 : n ≤ 4096) (hW : Hid (Calls Try.prog 22 #[recv] w fun e w' => e = .returned (.int .i64 n) ∧ Below w.heap.size w w')) :
    Calls Try.prog 86 #[.iface 29 recv] w fun e w' => e = .returned (.int .i64 (vs n)) ∧ Below w.heap.size w w' := by
  have hmf := makeFunc_run Try.prog
  · have HV := Lib.hid (vs_ok h1 h2)
    go_enter_defers Try.func86, Try.ntmps86
    go_wp2_with (first
      | (go_at_call 22; refine hW.out.mono ?_; rintro e w1 ⟨rfl, HBW⟩))
    refine leaves_cons (f := 101) (args := #[]) (by simp) (by simp [go_sem]) ?_
    refine (closure_i64 _).mono ?_
    rintro e u' w'' ⟨rfl, rfl, rfl⟩
    refine ⟨_, results_tmp rfl _ _ _, ?_, HBW⟩
    exact ret_int HV.out.symm
theorem closure_str (w : World) : CallsD Try.prog 98 #[] .returning w fun e u' w' => u' = .returning ∧ (e = .returned (.tuple #[]) ∧ w' = w) := by
  refine callsD_of_wpS Try.func98 rfl fun c₀ cs hu => ?_
  apply wpS_region
  simp [wpOpsS, go_sem, recoverD, hu, Try.ntmps98, Exit.thenS, bodyPostS, results, Try.results98]
  cases c₀
  cases hu
  rfl
theorem size_str (recv : Value) (n : Int) (w : World) (h1 : 1 ≤ n) (h2 : n ≤ 4096) (hW : Hid (Calls Try.prog 25 #[recv] w fun e w' => e = .returned (.int .i64 n) ∧ Below w.heap.size w w')) :
    Calls Try.prog 84 #[.iface 44 recv] w fun e w' => e = .returned (.int .i64 (vs n)) ∧ Below w.heap.size w w' := by
  have hmf := makeFunc_run Try.prog
  · have HV := Lib.hid (vs_ok h1 h2)
    go_enter_defers Try.func84, Try.ntmps84
    go_wp2_with (first
      | (go_at_call 25; refine hW.out.mono ?_; rintro e w1 ⟨rfl, HBW⟩))
    refine leaves_cons (f := 98) (args := #[]) (by simp) (by simp [go_sem]) ?_
    refine (closure_str _).mono ?_
    rintro e u' w'' ⟨rfl, rfl, rfl⟩
    refine ⟨_, results_tmp rfl _ _ _, ?_, HBW⟩
    exact ret_int HV.out.symm
theorem closure_bool (w : World) : CallsD Try.prog 154 #[] .returning w fun e u' w' => u' = .returning ∧ (e = .returned (.tuple #[]) ∧ w' = w) := by
  refine callsD_of_wpS Try.func154 rfl fun c₀ cs hu => ?_
  apply wpS_region
  simp [wpOpsS, go_sem, recoverD, hu, Try.ntmps154, Exit.thenS, bodyPostS, results, Try.results154]
  cases c₀
  cases hu
  rfl
theorem size_bool (recv : Value) (n : Int) (w : World) (h1 : 1 ≤ n) (h2 : n ≤ 4096) (hW : Hid (Calls Try.prog 23 #[recv] w fun e w' => e = .returned (.int .i64 n) ∧ Below w.heap.size w w')) :
    Calls Try.prog 152 #[.iface 31 recv] w fun e w' => e = .returned (.int .i64 (vs n)) ∧ Below w.heap.size w w' := by
  have hmf := makeFunc_run Try.prog
  · have HV := Lib.hid (vs_ok h1 h2)
    go_enter_defers Try.func152, Try.ntmps152
    go_wp2_with (first
      | (go_at_call 23; refine hW.out.mono ?_; rintro e w1 ⟨rfl, HBW⟩))
    refine leaves_cons (f := 154) (args := #[]) (by simp) (by simp [go_sem]) ?_
    refine (closure_bool _).mono ?_
    rintro e u' w'' ⟨rfl, rfl, rfl⟩
    refine ⟨_, results_tmp rfl _ _ _, ?_, HBW⟩
    exact ret_int HV.out.symm
theorem closure_u64 (w : World) : CallsD Try.prog 88 #[] .returning w fun e u' w' => u' = .returning ∧ (e = .returned (.tuple #[]) ∧ w' = w) := by
  refine callsD_of_wpS Try.func88 rfl fun c₀ cs hu => ?_
  apply wpS_region
  simp [wpOpsS, go_sem, recoverD, hu, Try.ntmps88, Exit.thenS, bodyPostS, results, Try.results88]
  cases c₀
  cases hu
  rfl
theorem size_u64_nil (w : World) : Calls Try.prog 71 #[.nilIface] w fun e w' => e = .returned (.int .i64 0) ∧ w = w' := by
  go_enter_defers Try.func71, Try.ntmps71
  go_wp2
  exact ⟨_, results_tmp rfl _ _ _, rfl, rfl⟩
theorem size_u64 (recv : Value) (n : Int) (w : World) (h1 : 1 ≤ n) (h2 : n ≤ 4096) (hW : Hid (Calls Try.prog 21 #[recv] w fun e w' => e = .returned (.int .i64 n) ∧ Below w.heap.size w w')) :
    Calls Try.prog 71 #[.iface 27 recv] w fun e w' => e = .returned (.int .i64 (vs n)) ∧ Below w.heap.size w w' := by
  have hmf := makeFunc_run Try.prog
  · have HV := Lib.hid (vs_ok h1 h2)
    go_enter_defers Try.func71, Try.ntmps71
    go_wp2_with (first
      | (go_at_call 21; refine hW.out.mono ?_; rintro e w1 ⟨rfl, HBW⟩))
    refine leaves_cons (f := 88) (args := #[]) (by simp) (by simp [go_sem]) ?_
    refine (closure_u64 _).mono ?_
    rintro e u' w'' ⟨rfl, rfl, rfl⟩
    refine ⟨_, results_tmp rfl _ _ _, ?_, HBW⟩
    exact ret_int HV.out.symm
theorem size_own (recv : Value) (n : Int) (w : World) (hn : (Lit.int .i64 n).wf = true) (hW : Hid (Calls Try.prog 124 #[recv] w fun e w' => e = .returned (.int .i64 n) ∧ Below w.heap.size w w')) :
    Calls Try.prog 71 #[.iface 83 recv] w fun e w' => e = .returned (.int .i64 (vs n)) ∧ Below w.heap.size w w' := by
  have hmf := makeFunc_run Try.prog
  have hn2 := wf_i64 hn
  rcases Int.lt_or_le n 1 with h1 | h1
  · have HV := Lib.hid (vs_lo h1)
    go_enter_defers Try.func71, Try.ntmps71
    go_wp2_with (first
      | (go_at_call 124; refine hW.out.mono ?_; rintro e w1 ⟨rfl, HBW⟩))
    refine leaves_cons (f := 88) (args := #[]) (by simp) (by simp [go_sem]) ?_
    refine (closure_u64 _).mono ?_
    rintro e u' w'' ⟨rfl, rfl, rfl⟩
    refine ⟨_, results_tmp rfl _ _ _, ?_, HBW⟩
    exact ret_int HV.out.symm
  · rcases Int.lt_or_le 4096 n with h2 | h2
    · have HV := Lib.hid (vs_hi h2)
      go_enter_defers Try.func71, Try.ntmps71
      go_wp2_with (first
        | (go_at_call 124; refine hW.out.mono ?_; rintro e w1 ⟨rfl, HBW⟩))
      refine leaves_cons (f := 88) (args := #[]) (by simp) (by simp [go_sem]) ?_
      refine (closure_u64 _).mono ?_
      rintro e u' w'' ⟨rfl, rfl, rfl⟩
      refine ⟨_, results_tmp rfl _ _ _, ?_, HBW⟩
      exact ret_int HV.out.symm
    · have HV := Lib.hid (vs_ok h1 h2)
      go_enter_defers Try.func71, Try.ntmps71
      go_wp2_with (first
        | (go_at_call 124; refine hW.out.mono ?_; rintro e w1 ⟨rfl, HBW⟩))
      refine leaves_cons (f := 88) (args := #[]) (by simp) (by simp [go_sem]) ?_
      refine (closure_u64 _).mono ?_
      rintro e u' w'' ⟨rfl, rfl, rfl⟩
      refine ⟨_, results_tmp rfl _ _ _, ?_, HBW⟩
      exact ret_int HV.out.symm
theorem closure_strs (w : World) : CallsD Try.prog 144 #[] .returning w fun e u' w' => u' = .returning ∧ (e = .returned (.tuple #[]) ∧ w' = w) := by
  refine callsD_of_wpS Try.func144 rfl fun c₀ cs hu => ?_
  apply wpS_region
  simp [wpOpsS, go_sem, recoverD, hu, Try.ntmps144, Exit.thenS, bodyPostS, results, Try.results144]
  cases c₀
  cases hu
  rfl
theorem size_strs (recv : Value) (n : Int) (w : World) (h1 : 1 ≤ n) (h2 : n ≤ 4096) (hW : Hid (Calls Try.prog 130 #[recv] w fun e w' => e = .returned (.int .i64 n) ∧ Below w.heap.size w w')) :
    Calls Try.prog 142 #[.iface 141 recv] w fun e w' => e = .returned (.int .i64 (vs n)) ∧ Below w.heap.size w w' := by
  have hmf := makeFunc_run Try.prog
  · have HV := Lib.hid (vs_ok h1 h2)
    go_enter_defers Try.func142, Try.ntmps142
    go_wp2_with (first
      | (go_at_call 130; refine hW.out.mono ?_; rintro e w1 ⟨rfl, HBW⟩))
    refine leaves_cons (f := 144) (args := #[]) (by simp) (by simp [go_sem]) ?_
    refine (closure_strs _).mono ?_
    rintro e u' w'' ⟨rfl, rfl, rfl⟩
    refine ⟨_, results_tmp rfl _ _ _, ?_, HBW⟩
    exact ret_int HV.out.symm
theorem closure_pi64 (w : World) : CallsD Try.prog 145 #[] .returning w fun e u' w' => u' = .returning ∧ (e = .returned (.tuple #[]) ∧ w' = w) := by
  refine callsD_of_wpS Try.func145 rfl fun c₀ cs hu => ?_
  apply wpS_region
  simp [wpOpsS, go_sem, recoverD, hu, Try.ntmps145, Exit.thenS, bodyPostS, results, Try.results145]
  cases c₀
  cases hu
  rfl
theorem size_pi64 (recv : Value) (n : Int) (w : World) (h1 : 1 ≤ n) (h2 : n ≤ 4096) (hW : Hid (Calls Try.prog 135 #[recv] w fun e w' => e = .returned (.int .i64 n) ∧ Below w.heap.size w w')) :
    Calls Try.prog 143 #[.iface 143 recv] w fun e w' => e = .returned (.int .i64 (vs n)) ∧ Below w.heap.size w w' := by
  have hmf := makeFunc_run Try.prog
  · have HV := Lib.hid (vs_ok h1 h2)
    go_enter_defers Try.func143, Try.ntmps143
    go_wp2_with (first
      | (go_at_call 135; refine hW.out.mono ?_; rintro e w1 ⟨rfl, HBW⟩))
    refine leaves_cons (f := 145) (args := #[]) (by simp) (by simp [go_sem]) ?_
    refine (closure_pi64 _).mono ?_
    rintro e u' w'' ⟨rfl, rfl, rfl⟩
    refine ⟨_, results_tmp rfl _ _ _, ?_, HBW⟩
    exact ret_int HV.out.symm
theorem closure_pr (w : World) : CallsD Try.prog 155 #[] .returning w fun e u' w' => u' = .returning ∧ (e = .returned (.tuple #[]) ∧ w' = w) := by
  refine callsD_of_wpS Try.func155 rfl fun c₀ cs hu => ?_
  apply wpS_region
  simp [wpOpsS, go_sem, recoverD, hu, Try.ntmps155, Exit.thenS, bodyPostS, results, Try.results155]
  cases c₀
  cases hu
  rfl
theorem size_pr (recv : Value) (n : Int) (w : World) (h1 : 1 ≤ n) (h2 : n ≤ 4096) (hW : Hid (Calls Try.prog 138 #[recv] w fun e w' => e = .returned (.int .i64 n) ∧ Below w.heap.size w w')) :
    Calls Try.prog 153 #[.iface 149 recv] w fun e w' => e = .returned (.int .i64 (vs n)) ∧ Below w.heap.size w w' := by
  have hmf := makeFunc_run Try.prog
  · have HV := Lib.hid (vs_ok h1 h2)
    go_enter_defers Try.func153, Try.ntmps153
    go_wp2_with (first
      | (go_at_call 138; refine hW.out.mono ?_; rintro e w1 ⟨rfl, HBW⟩))
    refine leaves_cons (f := 155) (args := #[]) (by simp) (by simp [go_sem]) ?_
    refine (closure_pr _).mono ?_
    rintro e u' w'' ⟨rfl, rfl, rfl⟩
    refine ⟨_, results_tmp rfl _ _ _, ?_, HBW⟩
    exact ret_int HV.out.symm
theorem closure_val (w : World) : CallsD Try.prog 97 #[] .returning w fun e u' w' => u' = .returning ∧ (e = .returned (.tuple #[]) ∧ w' = w) := by
  refine callsD_of_wpS Try.func97 rfl fun c₀ cs hu => ?_
  apply wpS_region
  simp [wpOpsS, go_sem, recoverD, hu, Try.ntmps97, Exit.thenS, bodyPostS, results, Try.results97]
  cases c₀
  cases hu
  rfl
theorem size_val (recv : Value) (n : Int) (w : World) (h1 : 1 ≤ n) (h2 : n ≤ 4096) (hW : Hid (Calls Try.prog 148 #[recv] w fun e w' => e = .returned (.int .i64 n) ∧ Below w.heap.size w w')) :
    Calls Try.prog 82 #[.iface 155 recv] w fun e w' => e = .returned (.int .i64 (vs n)) ∧ Below w.heap.size w w' := by
  have hmf := makeFunc_run Try.prog
  · have HV := Lib.hid (vs_ok h1 h2)
    go_enter_defers Try.func82, Try.ntmps82
    go_wp2_with (first
      | (go_at_call 148; refine hW.out.mono ?_; rintro e w1 ⟨rfl, HBW⟩))
    refine leaves_cons (f := 97) (args := #[]) (by simp) (by simp [go_sem]) ?_
    refine (closure_val _).mono ?_
    rintro e u' w'' ⟨rfl, rfl, rfl⟩
    refine ⟨_, results_tmp rfl _ _ _, ?_, HBW⟩
    exact ret_int HV.out.symm
theorem closure_two (w : World) : CallsD Try.prog 89 #[] .returning w fun e u' w' => u' = .returning ∧ (e = .returned (.tuple #[]) ∧ w' = w) := by
  refine callsD_of_wpS Try.func89 rfl fun c₀ cs hu => ?_
  apply wpS_region
  simp [wpOpsS, go_sem, recoverD, hu, Try.ntmps89, Exit.thenS, bodyPostS, results, Try.results89]
  cases c₀
  cases hu
  rfl
theorem size_two_nil (w : World) : Calls Try.prog 73 #[.nilIface] w fun e w' => e = .returned (.int .i64 0) ∧ w = w' := by
  go_enter_defers Try.func73, Try.ntmps73
  go_wp2
  exact ⟨_, results_tmp rfl _ _ _, rfl, rfl⟩
theorem size_two (recv : Value) (n : Int) (w : World) (hn : 0 ≤ n) (hh : n ≤ 4096) (hW : Hid (Calls Try.prog 41 #[recv] w fun e w' => e = .returned (.int .i64 n) ∧ Below w.heap.size w w')) :
    Calls Try.prog 73 #[.iface 87 recv] w fun e w' => e = .returned (.int .i64 (vs n)) ∧ Below w.heap.size w w' := by
  have hmf := makeFunc_run Try.prog
  rcases Int.lt_or_le n 1 with h1 | h1
  · have HV := Lib.hid (vs_lo h1)
    go_enter_defers Try.func73, Try.ntmps73
    go_wp2_with (first
      | (go_at_call 41; refine hW.out.mono ?_; rintro e w1 ⟨rfl, HBW⟩))
    refine leaves_cons (f := 89) (args := #[]) (by simp) (by simp [go_sem]) ?_
    refine (closure_two _).mono ?_
    rintro e u' w'' ⟨rfl, rfl, rfl⟩
    refine ⟨_, results_tmp rfl _ _ _, ?_, HBW⟩
    exact ret_int HV.out.symm
  · have h2 := hh
    · have HV := Lib.hid (vs_ok h1 h2)
      go_enter_defers Try.func73, Try.ntmps73
      go_wp2_with (first
        | (go_at_call 41; refine hW.out.mono ?_; rintro e w1 ⟨rfl, HBW⟩))
      refine leaves_cons (f := 89) (args := #[]) (by simp) (by simp [go_sem]) ?_
      refine (closure_two _).mono ?_
      rintro e u' w'' ⟨rfl, rfl, rfl⟩
      refine ⟨_, results_tmp rfl _ _ _, ?_, HBW⟩
      exact ret_int HV.out.symm
theorem closure_popt (w : World) : CallsD Try.prog 90 #[] .returning w fun e u' w' => u' = .returning ∧ (e = .returned (.tuple #[]) ∧ w' = w) := by
  refine callsD_of_wpS Try.func90 rfl fun c₀ cs hu => ?_
  apply wpS_region
  simp [wpOpsS, go_sem, recoverD, hu, Try.ntmps90, Exit.thenS, bodyPostS, results, Try.results90]
  cases c₀
  cases hu
  rfl
theorem size_popt_nil (w : World) : Calls Try.prog 76 #[.nilIface] w fun e w' => e = .returned (.int .i64 0) ∧ w = w' := by
  go_enter_defers Try.func76, Try.ntmps76
  go_wp2
  exact ⟨_, results_tmp rfl _ _ _, rfl, rfl⟩
theorem size_popt (recv : Value) (n : Int) (w : World) (hn : 0 ≤ n) (hh : n ≤ 4096) (hW : Hid (Calls Try.prog 43 #[recv] w fun e w' => e = .returned (.int .i64 n) ∧ Below w.heap.size w w')) :
    Calls Try.prog 76 #[.iface 91 recv] w fun e w' => e = .returned (.int .i64 (vs n)) ∧ Below w.heap.size w w' := by
  have hmf := makeFunc_run Try.prog
  rcases Int.lt_or_le n 1 with h1 | h1
  · have HV := Lib.hid (vs_lo h1)
    go_enter_defers Try.func76, Try.ntmps76
    go_wp2_with (first
      | (go_at_call 43; refine hW.out.mono ?_; rintro e w1 ⟨rfl, HBW⟩))
    refine leaves_cons (f := 90) (args := #[]) (by simp) (by simp [go_sem]) ?_
    refine (closure_popt _).mono ?_
    rintro e u' w'' ⟨rfl, rfl, rfl⟩
    refine ⟨_, results_tmp rfl _ _ _, ?_, HBW⟩
    exact ret_int HV.out.symm
  · have h2 := hh
    · have HV := Lib.hid (vs_ok h1 h2)
      go_enter_defers Try.func76, Try.ntmps76
      go_wp2_with (first
        | (go_at_call 43; refine hW.out.mono ?_; rintro e w1 ⟨rfl, HBW⟩))
      refine leaves_cons (f := 90) (args := #[]) (by simp) (by simp [go_sem]) ?_
      refine (closure_popt _).mono ?_
      rintro e u' w'' ⟨rfl, rfl, rfl⟩
      refine ⟨_, results_tmp rfl _ _ _, ?_, HBW⟩
      exact ret_int HV.out.symm
end Go.Proofs.Ytopnkhalmembhaa.Rec
