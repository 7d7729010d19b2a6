/-
  PROVED: the law WordUnpacks answers true for every input, and each argument reads behind the call as before (Rows.WordUnpacksSaid). No condition.
-/
import Derived.Test.YtgfiddjlbjlolaaRows
import Derived.Test.YtgfiddjlbjlolaaLaw
import Derived.Test.YtgfiddjlbjlolaaArgs
import Derived.Test.YtgfiddjlbjlolaaRunpack
namespace Go.Proofs.Ytgfiddjlbjlolaa.wordUnpacks
open Go.ChangeShapes Go.WideShapes Go.ChangeAt Go.RowKit Go.Proofs.Ytgfiddjlbjlolaa.Law Go.Proofs.Ytgfiddjlbjlolaa.Args Go.Proofs.Ytgfiddjlbjlolaa.Base
set_option linter.unusedVariables false
set_option linter.unusedSimpArgs false
open Go.Proofs.Ytgfiddjlbjlolaa.PackMath Go.Proofs.Ytgfiddjlbjlolaa.Own
theorem unp_same {m : Int} {ws l l' : List Int} {E E' : Int} (h : (m < 0 ∧ E = 1 ∧ l = []) ∨ (0 ≤ m ∧ ¬ unpOk ws m.toNat ∧ E = 11 ∧ l = []) ∨ (0 ≤ m ∧ unpOk ws m.toNat ∧ E = 0 ∧ l = unp ws m.toNat))
    (h' : (m < 0 ∧ E' = 1 ∧ l' = []) ∨ (0 ≤ m ∧ ¬ unpOk ws m.toNat ∧ E' = 11 ∧ l' = []) ∨ (0 ≤ m ∧ unpOk ws m.toNat ∧ E' = 0 ∧ l' = unp ws m.toNat)) : E = E' ∧ l = l' ∧ (∀ z ∈ l, 0 ≤ z ∧ z ≤ 255) := by
  rcases h with ⟨h1, rfl, rfl⟩ | ⟨h1, h2, rfl, rfl⟩ | ⟨h1, h2, rfl, rfl⟩ <;> rcases h' with ⟨h1', rfl, rfl⟩ | ⟨h1', h2', rfl, rfl⟩ | ⟨h1', h2', rfl, rfl⟩
  all_goals first
    | exact ⟨rfl, rfl, fun z hz => by cases hz⟩
    | exact ⟨rfl, rfl, unp_range _ _⟩
    | (exfalso; omega)
    | exact absurd h2 h2'
    | exact absurd h2' h2
theorem walk (W : World) (A0 : Option Addr) (n0 c0 : Nat) (z0 : List Int) (l0 : z0.length = n0) (b0 : n0 ≤ c0) (m0 : c0 ≤ maxLen) (s0 : c0 * 8 ≤ 140737488351232) (r0 : IntsAt .u64 W W.heap.size A0 z0) (w0 : ∀ z ∈ z0, (Lit.int .u64 z).wf = true) (a1 : Int) (w1 : (Lit.int .i64 a1).wf = true) :
    Calls Try.prog 7 #[.slice A0 n0 c0, .int .i64 a1] W fun e W' => e = .returned (.bool true) ∧ Below W.heap.size W W' := by
  have HR := Lib.hid r0
  have HW : Hid (∀ z ∈ z0, 0 ≤ z ∧ z ≤ 18446744073709551615) := Lib.hid fun z hz => wf_u64 (w0 z hz)
  have HL := Lib.hid l0
  have hn : n0 * 8 ≤ 140737488351232 + 8 := by omega
  have ha := wf_i64 w1
  clear w0 w1 r0 l0 m0 s0 b0
  go_enter Try.func7, Try.ntmps7
  go_wp2_with (first
    | (go_at_call 11; refine (awake_any _).mono ?_; rintro e w' ⟨rfl, nq, rfl⟩)
    | (go_at_call 24; refine (unpack_any A0 n0 c0 W.heap.size z0 a1 _ HL.out hn ha.2 (Lib.hid (HR.out.drewN _)) (Nat.le_refl _) HW).mono ?_; rintro e w1 ⟨v1, E1, l1, rfl, HO1, HT1⟩))
  have HB1 : Hid (Below W.heap.size W w1) := Lib.hid ((below_draws (Below.refl W.heap.size W) nq).trans HO1.out.2)
  refine (runpack_any A0 n0 c0 W.heap.size z0 a1 w1 HL.out hn ha.1 ha.2 (Lib.hid (HR.out.below HB1.out)) HB1.out.size HW).mono ?_
  rintro e w2 ⟨v2, E2, l2, rfl, HO2, HT2⟩
  obtain ⟨hE, hl, hz⟩ := unp_same HT1.out HT2.out
  subst hE hl
  have HZ := Lib.hid hz
  have HB2 : Hid (Below W.heap.size W w2) := Lib.hid (HB1.out.trans (HO2.out.2.mono HB1.out.size))
  obtain ⟨A1, c1, e1, _, _, _, hi1⟩ := (HO1.out.1.below HO2.out.2).form
  obtain ⟨A2, c2, e2, _, _, _, hi2⟩ := HO2.out.1.form
  have HI1 := Lib.hid hi1
  have HI2 := Lib.hid hi2
  obtain ⟨q, hq⟩ : ∃ q, l1.length = q := ⟨_, rfl⟩
  rw [hq] at e1 e2
  have HQ := Lib.hid hq
  subst e1 e2
  clear hz hi1 hi2 hq HO1 HO2 HT1 HT2
  go_wp2_with (go_at_call 25; refine (sameBytes_any A1 q c1 _ l1 A2 q c2 _ l1 _ HQ.out HQ.out HI1 HI2 HZ HZ).mono ?_; rintro e w' ⟨rfl, rfl⟩)
  go_ret
  exact ⟨ret_bool (by simp), HB2.out⟩

/-! ### the frame -/
theorem cells22 : Try.prog.cellsOf 22 = 1 := by kernel_rfl
theorem own : ownKnob Try.prog.godebug = none := by kernel_rfl
set_option maxRecDepth 100000 in
theorem calls {H : Type} {enc : TypeId × Value → H} (W : World) (base : Nat) (args : Array Value) (ds : List (DataW H)) (p : List MemPlace)
    (hval0 : ∀ (j : Nat) t v, Try.f7.params[j]? = some t → args[j]? = some v → Value.okWide Try.prog W .any base t v)
    (hA : DataW.TrodAll enc Try.prog W 0 (fun _ => true) true Try.f7.params.toList args.toList ds p) (_ : W.noneFrozen p)
    (hsz : (DataW.weightsEach Try.prog Try.f7.params.toList ds).all (· ≤ reachBytes) = true) :
    Calls Try.prog 7 args W fun e W' => e = .returned (.bool true) ∧ Below W.heap.size W W' := by
  have hval : ∀ (j : Nat) t v, Try.f7.params[j]? = some t → args[j]? = some v → Value.okWide Try.prog W .any base t v := hval0
  clear hval0
  rw [Try.params7] at hA hval hsz
  obtain ⟨v0, vs0, d0, ds0, p0, q0, hargs, rfl, rfl, h0, r'0⟩ := trodAll_cons hA
  obtain ⟨v1, vs1, d1, ds1, p1, q1, rfl, rfl, rfl, h1, r'1⟩ := trodAll_cons r'0
  obtain ⟨rfl, rfl, rfl⟩ := trodAll_nil r'1
  obtain rfl : args = #[v0, v1] := by cases args; simp_all
  obtain ⟨A0, n0, c0, z0, rfl, l0, b0, m0, s0, r0, w0⟩ := open_slice_ints (j := 0) (bytes := 8) Try.underlying40 Try.underlying22 cells22 (by kernel_rfl) (hval 0 40 v0 rfl rfl) h0 hsz rfl rfl
  obtain ⟨a1, rfl, rfl, rfl, w1⟩ := open_int Try.underlying3 (hval 1 3 v1 rfl rfl) h1
  exact walk (W := W) A0 n0 c0 z0 l0 b0 m0 s0 r0 w0 a1 w1
set_option maxRecDepth 100000 in
theorem lifted (os : Os) (started : os.Started) (H : Type) (enc : TypeId × Value → H) :
    ReturnsInHanded {} Try.checked os 7 .any (Rows.wordUnpacksSpec.pre6 enc Try.prog Try.f7 Rows.wordUnpacksRow.domain false) (Rows.wordUnpacksSpec.post enc Try.prog Try.f7 false true false false) :=
  law_lifted (C := Try.checked) (s := Rows.wordUnpacksSpec) (b := 4) own (by kernel_rfl) Try.func7 (by kernel_rfl) (by kernel_rfl) rfl Try.underlying4 rfl
    (fun ds h => by match ds, h with | [_, _], _ => rfl) calls os started
    (ChangeSpec.witness6 (enc := enc) (C := Try.checked) false ⟨#[], #[.slice none 0 0, .int .i64 0], []⟩ 8 (by kernel_rfl) (by kernel_rfl) (by kernel_rfl) (by kernel_rfl))
/-- ████ THE STATEMENT ████ -/
theorem proved : Rows.WordUnpacksSaid :=
  OpenClaim.holds_of_wide 7 Try.f7 rfl rfl rfl rfl rfl rfl rfl ⟨rfl, rfl, rfl, rfl, rfl⟩ rfl rfl rfl rfl rfl (by kernel_rfl) Try.func7 (by kernel_rfl)
    (of_decide_eq_true (by kernel_rfl)) (by unfold Func.isWrapper; first | (rw [if_pos (by decide +kernel)]; kernel_rfl) | (rw [if_neg (by decide +kernel)]; exact ⟨rfl, rfl⟩))
    (fun os started H enc _ => lifted os started H enc)
#print axioms proved
end Go.Proofs.Ytgfiddjlbjlolaa.wordUnpacks
