/-
  CONTRACTS: record's sizeOf of a codec: its Words where they are 1 to 4096, else 0; 0 of nil. The deferred closure recovers nothing.
-/
import Derived.Test.YtopnkhalmembhaaDoorOwn
import Derived.Test.YtopnkhalmembhaaDoorBlk
import Derived.BigQuiet
import Derived.Deep.Cut
import Derived.Outline
import Derived.Handy
import Derived.WalkLawsBesides
import Derived.IntWalk
import Derived.Defers
import Derived.Recover
set_option linter.unusedVariables false
set_option linter.unusedSimpArgs false
namespace Go.Proofs.YtopnkhalmembhaaDoor.Rec
open Go.ChangeShapes Go.WideShapes Go.ChangeAt Go.RowKit Go.Proofs.YtopnkhalmembhaaDoor.Mem Go.Proofs.YtopnkhalmembhaaDoor.Law Go.Proofs.YtopnkhalmembhaaDoor.Args Go.Proofs.YtopnkhalmembhaaDoor.Own
theorem ret_bool {a b : Bool} (h : a = b) : Ending.returned (.bool a) = .returned (.bool b) := by rw [h]
theorem ret_int {k : IntKind} {a b : Int} (h : a = b) : Ending.returned (.int k a) = .returned (.int k b) := by rw [h]
theorem wf_i64 {a : Int} (h : (Lit.int .i64 a).wf = true) : -9223372036854775808 ≤ a ∧ a ≤ 9223372036854775807 := by
  simpa [Lit.wf, IntKind.min, IntKind.max, IntKind.bits, IntKind.signed] using h
theorem wf_u64 {a : Int} (h : (Lit.int .u64 a).wf = true) : 0 ≤ a ∧ a ≤ 18446744073709551615 := by
  simpa [Lit.wf, IntKind.min, IntKind.max, IntKind.bits, IntKind.signed] using h
theorem wf_u8 {a : Int} (h : (Lit.int .u8 a).wf = true) : 0 ≤ a ∧ a ≤ 255 := by
  simpa [Lit.wf, IntKind.min, IntKind.max, IntKind.bits, IntKind.signed] using h
/-- A codec's size: the words where they are 1 to 4096. -/
def vs (n : Int) : Int := if 1 ≤ n ∧ n ≤ 4096 then n else 0
theorem vs_ok {n : Int} (h : 1 ≤ n) (h' : n ≤ 4096) : vs n = n := if_pos ⟨h, h'⟩
theorem vs_lo {n : Int} (h : n < 1) : vs n = 0 := if_neg (by omega)
theorem vs_hi {n : Int} (h : 4096 < n) : vs n = 0 := if_neg (by omega)
theorem makeFunc_run (P : Program) (fn : Fn) (first cap : Array Value) (w : World) : (Instr.makeFunc fn first cap).run P w = .ok (.func fn first cap) w := rfl
theorem closure_i64 (w : World) : CallsD Tryd.prog 23 #[] .returning w fun e u' w' => u' = .returning ∧ (e = .returned (.tuple #[]) ∧ w' = w) := by
  refine callsD_of_wpS Tryd.func23 rfl fun c₀ cs hu => ?_
  apply wpS_region
  simp [wpOpsS, go_sem, recoverD, hu, Tryd.ntmps23, Exit.thenS, bodyPostS, results, Tryd.results23]
  cases c₀
  cases hu
  rfl
theorem size_i64 (recv : Value) (n : Int) (w : World) (h1 : 1 ≤ n) (h2 : n ≤ 4096) (hW : Hid (Calls Tryd.prog 42 #[recv] w fun e w' => e = .returned (.int .i64 n) ∧ Below w.heap.size w w')) :
    Calls Tryd.prog 22 #[.iface 36 recv] w fun e w' => e = .returned (.int .i64 (vs n)) ∧ Below w.heap.size w w' := by
  have hmf := makeFunc_run Tryd.prog
  · have HV := Lib.hid (vs_ok h1 h2)
    go_enter_defers Tryd.func22, Tryd.ntmps22
    go_wp2_with (first
      | (go_at_call 42; refine hW.out.mono ?_; rintro e w1 ⟨rfl, HBW⟩))
    refine leaves_cons (f := 23) (args := #[]) (by simp) (by simp [go_sem]) ?_
    refine (closure_i64 _).mono ?_
    rintro e u' w'' ⟨rfl, rfl, rfl⟩
    refine ⟨_, results_tmp rfl _ _ _, ?_, HBW⟩
    exact ret_int HV.out.symm
theorem closure_str (w : World) : CallsD Tryd.prog 56 #[] .returning w fun e u' w' => u' = .returning ∧ (e = .returned (.tuple #[]) ∧ w' = w) := by
  refine callsD_of_wpS Tryd.func56 rfl fun c₀ cs hu => ?_
  apply wpS_region
  simp [wpOpsS, go_sem, recoverD, hu, Tryd.ntmps56, Exit.thenS, bodyPostS, results, Tryd.results56]
  cases c₀
  cases hu
  rfl
theorem size_str (recv : Value) (n : Int) (w : World) (h1 : 1 ≤ n) (h2 : n ≤ 4096) (hW : Hid (Calls Tryd.prog 46 #[recv] w fun e w' => e = .returned (.int .i64 n) ∧ Below w.heap.size w w')) :
    Calls Tryd.prog 55 #[.iface 47 recv] w fun e w' => e = .returned (.int .i64 (vs n)) ∧ Below w.heap.size w w' := by
  have hmf := makeFunc_run Tryd.prog
  · have HV := Lib.hid (vs_ok h1 h2)
    go_enter_defers Tryd.func55, Tryd.ntmps55
    go_wp2_with (first
      | (go_at_call 46; refine hW.out.mono ?_; rintro e w1 ⟨rfl, HBW⟩))
    refine leaves_cons (f := 56) (args := #[]) (by simp) (by simp [go_sem]) ?_
    refine (closure_str _).mono ?_
    rintro e u' w'' ⟨rfl, rfl, rfl⟩
    refine ⟨_, results_tmp rfl _ _ _, ?_, HBW⟩
    exact ret_int HV.out.symm
theorem closure_bool (w : World) : CallsD Tryd.prog 78 #[] .returning w fun e u' w' => u' = .returning ∧ (e = .returned (.tuple #[]) ∧ w' = w) := by
  refine callsD_of_wpS Tryd.func78 rfl fun c₀ cs hu => ?_
  apply wpS_region
  simp [wpOpsS, go_sem, recoverD, hu, Tryd.ntmps78, Exit.thenS, bodyPostS, results, Tryd.results78]
  cases c₀
  cases hu
  rfl
theorem size_bool (recv : Value) (n : Int) (w : World) (h1 : 1 ≤ n) (h2 : n ≤ 4096) (hW : Hid (Calls Tryd.prog 49 #[recv] w fun e w' => e = .returned (.int .i64 n) ∧ Below w.heap.size w w')) :
    Calls Tryd.prog 76 #[.iface 63 recv] w fun e w' => e = .returned (.int .i64 (vs n)) ∧ Below w.heap.size w w' := by
  have hmf := makeFunc_run Tryd.prog
  · have HV := Lib.hid (vs_ok h1 h2)
    go_enter_defers Tryd.func76, Tryd.ntmps76
    go_wp2_with (first
      | (go_at_call 49; refine hW.out.mono ?_; rintro e w1 ⟨rfl, HBW⟩))
    refine leaves_cons (f := 78) (args := #[]) (by simp) (by simp [go_sem]) ?_
    refine (closure_bool _).mono ?_
    rintro e u' w'' ⟨rfl, rfl, rfl⟩
    refine ⟨_, results_tmp rfl _ _ _, ?_, HBW⟩
    exact ret_int HV.out.symm
theorem closure_strs (w : World) : CallsD Tryd.prog 68 #[] .returning w fun e u' w' => u' = .returning ∧ (e = .returned (.tuple #[]) ∧ w' = w) := by
  refine callsD_of_wpS Tryd.func68 rfl fun c₀ cs hu => ?_
  apply wpS_region
  simp [wpOpsS, go_sem, recoverD, hu, Tryd.ntmps68, Exit.thenS, bodyPostS, results, Tryd.results68]
  cases c₀
  cases hu
  rfl
theorem size_strs (recv : Value) (n : Int) (w : World) (h1 : 1 ≤ n) (h2 : n ≤ 4096) (hW : Hid (Calls Tryd.prog 52 #[recv] w fun e w' => e = .returned (.int .i64 n) ∧ Below w.heap.size w w')) :
    Calls Tryd.prog 66 #[.iface 67 recv] w fun e w' => e = .returned (.int .i64 (vs n)) ∧ Below w.heap.size w w' := by
  have hmf := makeFunc_run Tryd.prog
  · have HV := Lib.hid (vs_ok h1 h2)
    go_enter_defers Tryd.func66, Tryd.ntmps66
    go_wp2_with (first
      | (go_at_call 52; refine hW.out.mono ?_; rintro e w1 ⟨rfl, HBW⟩))
    refine leaves_cons (f := 68) (args := #[]) (by simp) (by simp [go_sem]) ?_
    refine (closure_strs _).mono ?_
    rintro e u' w'' ⟨rfl, rfl, rfl⟩
    refine ⟨_, results_tmp rfl _ _ _, ?_, HBW⟩
    exact ret_int HV.out.symm
theorem closure_pi64 (w : World) : CallsD Tryd.prog 69 #[] .returning w fun e u' w' => u' = .returning ∧ (e = .returned (.tuple #[]) ∧ w' = w) := by
  refine callsD_of_wpS Tryd.func69 rfl fun c₀ cs hu => ?_
  apply wpS_region
  simp [wpOpsS, go_sem, recoverD, hu, Tryd.ntmps69, Exit.thenS, bodyPostS, results, Tryd.results69]
  cases c₀
  cases hu
  rfl
theorem size_pi64 (recv : Value) (n : Int) (w : World) (h1 : 1 ≤ n) (h2 : n ≤ 4096) (hW : Hid (Calls Tryd.prog 59 #[recv] w fun e w' => e = .returned (.int .i64 n) ∧ Below w.heap.size w w')) :
    Calls Tryd.prog 67 #[.iface 69 recv] w fun e w' => e = .returned (.int .i64 (vs n)) ∧ Below w.heap.size w w' := by
  have hmf := makeFunc_run Tryd.prog
  · have HV := Lib.hid (vs_ok h1 h2)
    go_enter_defers Tryd.func67, Tryd.ntmps67
    go_wp2_with (first
      | (go_at_call 59; refine hW.out.mono ?_; rintro e w1 ⟨rfl, HBW⟩))
    refine leaves_cons (f := 69) (args := #[]) (by simp) (by simp [go_sem]) ?_
    refine (closure_pi64 _).mono ?_
    rintro e u' w'' ⟨rfl, rfl, rfl⟩
    refine ⟨_, results_tmp rfl _ _ _, ?_, HBW⟩
    exact ret_int HV.out.symm
theorem closure_pr (w : World) : CallsD Tryd.prog 79 #[] .returning w fun e u' w' => u' = .returning ∧ (e = .returned (.tuple #[]) ∧ w' = w) := by
  refine callsD_of_wpS Tryd.func79 rfl fun c₀ cs hu => ?_
  apply wpS_region
  simp [wpOpsS, go_sem, recoverD, hu, Tryd.ntmps79, Exit.thenS, bodyPostS, results, Tryd.results79]
  cases c₀
  cases hu
  rfl
theorem size_pr (recv : Value) (n : Int) (w : World) (h1 : 1 ≤ n) (h2 : n ≤ 4096) (hW : Hid (Calls Tryd.prog 62 #[recv] w fun e w' => e = .returned (.int .i64 n) ∧ Below w.heap.size w w')) :
    Calls Tryd.prog 77 #[.iface 75 recv] w fun e w' => e = .returned (.int .i64 (vs n)) ∧ Below w.heap.size w w' := by
  have hmf := makeFunc_run Tryd.prog
  · have HV := Lib.hid (vs_ok h1 h2)
    go_enter_defers Tryd.func77, Tryd.ntmps77
    go_wp2_with (first
      | (go_at_call 62; refine hW.out.mono ?_; rintro e w1 ⟨rfl, HBW⟩))
    refine leaves_cons (f := 79) (args := #[]) (by simp) (by simp [go_sem]) ?_
    refine (closure_pr _).mono ?_
    rintro e u' w'' ⟨rfl, rfl, rfl⟩
    refine ⟨_, results_tmp rfl _ _ _, ?_, HBW⟩
    exact ret_int HV.out.symm
end Go.Proofs.YtopnkhalmembhaaDoor.Rec
