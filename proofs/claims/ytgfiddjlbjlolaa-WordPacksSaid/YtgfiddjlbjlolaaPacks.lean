/-
  PROVED: the law WordPacks answers true for every input, and each argument reads behind the call as before (Rows.WordPacksSaid). No condition.
-/
import Derived.Test.YtgfiddjlbjlolaaRows
import Derived.Test.YtgfiddjlbjlolaaLaw
import Derived.Test.YtgfiddjlbjlolaaArgs
import Derived.Test.YtgfiddjlbjlolaaRunpack
namespace Go.Proofs.Ytgfiddjlbjlolaa.wordPacks
open Go.ChangeShapes Go.WideShapes Go.ChangeAt Go.RowKit Go.Proofs.Ytgfiddjlbjlolaa.Law Go.Proofs.Ytgfiddjlbjlolaa.Args Go.Proofs.Ytgfiddjlbjlolaa.Base
set_option linter.unusedVariables false
set_option linter.unusedSimpArgs false
open Go.Proofs.Ytgfiddjlbjlolaa.PackMath Go.Proofs.Ytgfiddjlbjlolaa.Own
theorem walk (W : World) (A0 : Option Addr) (n0 c0 : Nat) (z0 : List Int) (l0 : z0.length = n0) (b0 : n0 ≤ c0) (m0 : c0 ≤ maxLen) (s0 : c0 * 1 ≤ 140737488351232) (r0 : IntsAt .u8 W W.heap.size A0 z0) (w0 : ∀ z ∈ z0, (Lit.int .u8 z).wf = true) :
    Calls Try.prog 6 #[.slice A0 n0 c0] W fun e W' => e = .returned (.bool true) ∧ Below W.heap.size W W' := by
  have HR := Lib.hid r0
  have HW := Lib.hid w0
  have HWR : Hid (∀ z ∈ z0, 0 ≤ z ∧ z ≤ 255) := Lib.hid fun z hz => wf_u8 (w0 z hz)
  have HL := Lib.hid l0
  have hn : n0 ≤ 140737488351232 := by omega
  have HC : ∀ w : World, Below W.heap.size W w → (convert 39 9 (.slice A0 n0 c0)).run Try.prog w = .ok (.string (bstr z0)) w := fun w hb => conv_bytes Try.underlying39 Try.underlying5 Try.underlying9 (HR.out.below hb) HL.out
  have HC := Lib.hid HC
  clear w0 r0 l0 m0 s0 b0
  go_enter Try.func6, Try.ntmps6
  go_wp2_with (first
    | (go_at_call 11; refine (awake_any _).mono ?_; rintro e w' ⟨rfl, nq, rfl⟩; have HB0 := Lib.hid (below_draws (Below.refl W.heap.size W) nq); have HC0 := HC.out _ HB0.out)
    | (go_at_call 21; refine (pack_any A0 n0 c0 W.heap.size z0 _ HL.out hn (Lib.hid (HR.out.below HB0.out)) HB0.out.size HW).mono ?_; rintro e w1 ⟨v1, rfl, HO1⟩))
  have HB1 : Hid (Below W.heap.size W w1) := Lib.hid (HB0.out.trans HO1.out.2)
  refine (rpack_any A0 n0 c0 W.heap.size z0 w1 HL.out hn (Lib.hid (HR.out.below HB1.out)) HB1.out.size HW).mono ?_
  rintro e w2 ⟨v2, rfl, HO2⟩
  have HB2 : Hid (Below W.heap.size W w2) := Lib.hid (HB1.out.trans (HO2.out.2.mono HB1.out.size))
  have HP := Lib.hid (HO1.out.1.below HO2.out.2)
  obtain ⟨nw, hnw⟩ : ∃ nw, (n0 + 7) / 8 = nw := ⟨_, rfl⟩
  have HNW := Lib.hid hnw
  rw [hnw] at HP HO2
  have hn8 : nw * 8 ≤ 140737488351232 + 8 := by omega
  have hn9 : nw ≤ 9223372036854775807 := by omega
  obtain ⟨A1, c1, e1, _, _, _, hi1⟩ := HP.out.form
  obtain ⟨A2, c2, e2, _, _, _, hi2⟩ := HO2.out.1.form
  rw [pks_len] at e1 e2
  have HI1 := Lib.hid hi1
  have HI2 := Lib.hid hi2
  subst e1 e2
  clear hi1 hi2 HO1 HO2 HP hnw HC0
  have HS := Lib.hid (fun w hb => same_words A1 nw c1 w2.heap.size (pks z0 nw) A2 nw c2 w2.heap.size (pks z0 nw) w hn9 (pks_len _ _) (pks_len _ _) (Lib.hid (HI1.out.below hb)) (Lib.hid (HI2.out.below hb)))
  have HS0 := Lib.hid (HS.out w2 (Below.refl _ _))
  go_wp2_with (go_at_call 22; refine (HS0.out).mono ?_; rintro e w' ⟨rfl, mq, rfl⟩; have HC1 := HC.out _ (below_draws HB2.out mq))
  have HB3 : Hid (Below W.heap.size W (w2.drewN mq)) := Lib.hid (below_draws HB2.out mq)
  have HI3 : Hid (IntsAt .u64 (w2.drewN mq) w2.heap.size A1 (pks z0 nw)) := Lib.hid (HI1.out.drewN mq)
  have HPW : Hid (∀ z ∈ pks z0 nw, 0 ≤ z ∧ z ≤ 18446744073709551615) := Lib.hid (pks_wf z0 nw HWR.out)
  have HS1 : Hid (Below w2.heap.size w2 (w2.drewN mq)) := Lib.hid (below_draws (Below.refl _ _) mq)
  refine (unpack_any A1 nw c1 w2.heap.size (pks z0 nw) (n0 : Int) (w2.drewN mq) (pks_len _ _) hn8 (by omega) HI3 HS1.out.size HPW).mono ?_
  rintro e w3 ⟨v3, E3, l3, rfl, HO3, HT3⟩
  have hok : E3 = 0 ∧ l3 = z0 := by
    have e0 : (n0 + 7) / 8 = nw := HNW.out
    have h1 := pks_ok z0 HWR.out
    have h2 := unp_pks z0 HWR.out
    rw [HL.out, e0] at h1 h2
    rcases HT3.out with ⟨h, _⟩ | ⟨_, h, _⟩ | ⟨_, _, h3, h4⟩
    · omega
    · exact absurd h1 (by simpa using h)
    · exact ⟨h3, by rw [h4]; simpa using h2⟩
  obtain ⟨rfl, rfl⟩ := hok
  have HB4 : Hid (Below W.heap.size W w3) := Lib.hid (HB3.out.trans (HO3.out.2.mono HB3.out.size))
  have HS4 : Hid (Below w2.heap.size w2 w3) := Lib.hid (HS1.out.trans (HO3.out.2.mono HS1.out.size))
  obtain ⟨A3, c3, e3, _, _, _, hi3⟩ := HO3.out.1.form
  rw [HL.out] at e3
  have HI4 := Lib.hid hi3
  have HR4 := Lib.hid (HR.out.below HB4.out)
  subst e3
  clear hi3 HO3 HT3 HC1
  have HS2 := Lib.hid (sameBytes_any A3 n0 c3 w3.heap.size l3 A0 n0 c0 W.heap.size l3 w3 HL.out HL.out HI4 HR4 HWR HWR)
  have HK := Lib.hid (rpack_any A0 n0 c0 W.heap.size l3 w3 HL.out hn HR4 HB4.out.size HW)
  have HS3 := Lib.hid (fun w hb A4 c4 B4 hi => same_words A1 nw c1 w2.heap.size (pks l3 nw) A4 nw c4 B4 (pks l3 nw) w hn9 (pks_len _ _) (pks_len _ _) (Lib.hid (HI1.out.below (HS4.out.trans (hb : Below w2.heap.size w3 w)))) (Lib.hid hi))
  go_wp2_with (go_at_call 25; refine (HS2.out).mono ?_; rintro e w' ⟨rfl, hw⟩; have hw2 := hw.symm; subst hw2; clear hw)
  refine (HK.out).mono ?_
  rintro e w5 ⟨v5, rfl, HO5⟩
  have hnw := HNW.out
  rw [hnw] at HO5
  obtain ⟨A5, c5, e5, _, _, _, hi5⟩ := HO5.out.1.form
  rw [pks_len] at e5
  subst e5
  have HS5 := Lib.hid (HS3.out w5 (HO5.out.2.mono HS4.out.size) A5 c5 _ hi5)
  have HB5 : Hid (Below W.heap.size W w5) := Lib.hid (HB4.out.trans (HO5.out.2.mono HB4.out.size))
  clear hi5 HO5 hnw
  go_wp2_with (go_at_call 22; refine (HS5.out).mono ?_; rintro e w' ⟨rfl, m5, rfl⟩)
  go_ret
  exact ⟨ret_bool (by simp), below_draws HB5.out _⟩

/-! ### the frame -/
theorem cells5 : Try.prog.cellsOf 5 = 1 := by kernel_rfl
theorem own : ownKnob Try.prog.godebug = none := by kernel_rfl
set_option maxRecDepth 100000 in
theorem calls {H : Type} {enc : TypeId × Value → H} (W : World) (base : Nat) (args : Array Value) (ds : List (DataW H)) (p : List MemPlace)
    (hval0 : ∀ (j : Nat) t v, Try.f6.params[j]? = some t → args[j]? = some v → Value.okWide Try.prog W .any base t v)
    (hA : DataW.TrodAll enc Try.prog W 0 (fun _ => true) true Try.f6.params.toList args.toList ds p) (_ : W.noneFrozen p)
    (hsz : (DataW.weightsEach Try.prog Try.f6.params.toList ds).all (· ≤ reachBytes) = true) :
    Calls Try.prog 6 args W fun e W' => e = .returned (.bool true) ∧ Below W.heap.size W W' := by
  have hval : ∀ (j : Nat) t v, Try.f6.params[j]? = some t → args[j]? = some v → Value.okWide Try.prog W .any base t v := hval0
  clear hval0
  rw [Try.params6] at hA hval hsz
  obtain ⟨v0, vs0, d0, ds0, p0, q0, hargs, rfl, rfl, h0, r'0⟩ := trodAll_cons hA
  obtain ⟨rfl, rfl, rfl⟩ := trodAll_nil r'0
  obtain rfl : args = #[v0] := by cases args; simp_all
  obtain ⟨A0, n0, c0, z0, rfl, l0, b0, m0, s0, r0, w0⟩ := open_slice_ints (j := 0) (bytes := 1) Try.underlying39 Try.underlying5 cells5 (by kernel_rfl) (hval 0 39 v0 rfl rfl) h0 hsz rfl rfl
  exact walk (W := W) A0 n0 c0 z0 l0 b0 m0 s0 r0 w0
set_option maxRecDepth 100000 in
theorem lifted (os : Os) (started : os.Started) (H : Type) (enc : TypeId × Value → H) :
    ReturnsInHanded {} Try.checked os 6 .any (Rows.wordPacksSpec.pre6 enc Try.prog Try.f6 Rows.wordPacksRow.domain false) (Rows.wordPacksSpec.post enc Try.prog Try.f6 false true false false) :=
  law_lifted (C := Try.checked) (s := Rows.wordPacksSpec) (b := 4) own (by kernel_rfl) Try.func6 (by kernel_rfl) (by kernel_rfl) rfl Try.underlying4 rfl
    (fun ds h => by match ds, h with | [_], _ => rfl) calls os started
    (ChangeSpec.witness6 (enc := enc) (C := Try.checked) false ⟨#[], #[.slice none 0 0], []⟩ 8 (by kernel_rfl) (by kernel_rfl) (by kernel_rfl) (by kernel_rfl))
/-- ████ THE STATEMENT ████ -/
theorem proved : Rows.WordPacksSaid :=
  OpenClaim.holds_of_wide 6 Try.f6 rfl rfl rfl rfl rfl rfl rfl ⟨rfl, rfl, rfl, rfl, rfl⟩ rfl rfl rfl rfl rfl (by kernel_rfl) Try.func6 (by kernel_rfl)
    (of_decide_eq_true (by kernel_rfl)) (by unfold Func.isWrapper; first | (rw [if_pos (by decide +kernel)]; kernel_rfl) | (rw [if_neg (by decide +kernel)]; exact ⟨rfl, rfl⟩))
    (fun os started H enc _ => lifted os started H enc)
#print axioms proved
end Go.Proofs.Ytgfiddjlbjlolaa.wordPacks
