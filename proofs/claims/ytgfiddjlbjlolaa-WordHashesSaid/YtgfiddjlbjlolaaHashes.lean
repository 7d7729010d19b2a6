/-
  PROVED: the law WordHashes answers true for every input, and each argument reads behind the call as before (Rows.WordHashesSaid). No condition.
-/
import Derived.Test.YtgfiddjlbjlolaaRows
import Derived.Test.YtgfiddjlbjlolaaLaw
import Derived.Test.YtgfiddjlbjlolaaArgs
import Derived.Test.YtgfiddjlbjlolaaAwake
namespace Go.Proofs.Ytgfiddjlbjlolaa.wordHashes
open Go.ChangeShapes Go.WideShapes Go.ChangeAt Go.RowKit Go.Proofs.Ytgfiddjlbjlolaa.Law Go.Proofs.Ytgfiddjlbjlolaa.Args Go.Proofs.Ytgfiddjlbjlolaa.Base
set_option linter.unusedVariables false
set_option linter.unusedSimpArgs false
/-! ### the mathematics -/
def xsZ (k x : Int) : Int := bits .xor .u64 x (x / k)
def mlZ (c x : Int) : Int := IntKind.u64.wrap (x * c)
def mixZ (x : Int) : Int := xsZ 2147483648 (mlZ 10723151780598845931 (xsZ 134217728 (mlZ 13787848793156543929 (xsZ 1073741824 x))))
def hStep (h b : Int) : Int := IntKind.u64.wrap (bits .xor .u64 h b * 1099511628211)
def hashZ (zs : List Int) : Int := zs.foldl hStep 14695981039346656037
theorem hash_snoc (zs : List Int) (k : Nat) (h : k < zs.length) : hashZ (zs.take (k + 1)) = hStep (hashZ (zs.take k)) (zs.getD k 0) := by
  unfold hashZ
  rw [List.take_succ_eq_append_getElem h, List.foldl_append, getD_at h]; rfl

/-! ### the contracts -/
theorem mix_any (x : Int) (w : World) : Calls Try.prog 27 #[.int .u64 x] w fun e w' => e = .returned (.int .u64 (mixZ x)) ∧ w' = w := by
  go_enter Try.func27, Try.ntmps27
  go_wp2
  go_ret
  exact ⟨rfl, rfl⟩
theorem rmix_any (x : Int) (w : World) : Calls Try.prog 28 #[.int .u64 x] w fun e w' => e = .returned (.int .u64 (mixZ x)) ∧ w' = w := by
  go_enter Try.func28, Try.ntmps28
  go_wp2
  go_ret
  exact ⟨rfl, rfl⟩
theorem hash_any (A : Option Addr) (n c B : Nat) (zs : List Int) (w : World) (hl : zs.length = n) (hn : n ≤ 9223372036854775807) (hr : Hid (IntsAt .u8 w B A zs)) (hw : Hid (∀ z ∈ zs, (Lit.int .u8 z).wf = true)) :
    Calls Try.prog 29 #[.slice A n c] w fun e w' => e = .returned (.int .u64 (hashZ zs)) ∧ w' = w := by
  have HL := Lib.hid hl
  clear hl
  go_enter Try.func29, Try.ntmps29
  go_wp2
  go_loop [3, 8] (fun h i => ∃ k : Nat, k ≤ n ∧ i = .int .i64 k ∧ h = .int .u64 (hashZ (zs.take k))) (fun _ i => n - (intOf i).toNat)
  case atStart => exact ⟨0, by omega, rfl, rfl⟩
  case round =>
    obtain ⟨k, hk, rfl, rfl⟩ := hrel
    by_cases hlt : k < n
    · have hkl : k < zs.length := by have := HL.out; omega
      obtain ⟨ad, rfl, _, hc⟩ := hr.out k hkl
      have bz := wf_u8 (wf_at hw.out hkl)
      have HS := Lib.hid (hash_snoc zs k hkl)
      obtain ⟨b, hb⟩ : ∃ b, zs.getD k 0 = b := ⟨_, rfl⟩
      rw [hb] at hc bz
      have HB := Lib.hid hb
      clear hb hkl
      go_wp2
      go_round
      case rel => exact ⟨k + 1, by omega, by go_num, val_int (by rw [HS.out, HB.out]; rfl)⟩
      case measure => simp [intOf]; omega
    · have hk' : zs.length ≤ k := by have := HL.out; omega
      have HT := Lib.hid (List.take_of_length_le hk')
      clear hk'
      go_wp2
      go_ret
      exact ⟨ret_int (by rw [HT.out]), rfl⟩
theorem rhash_any (A : Option Addr) (n c B : Nat) (zs : List Int) (w : World) (hl : zs.length = n) (hn : n ≤ 9223372036854775807) (hr : Hid (IntsAt .u8 w B A zs)) (hw : Hid (∀ z ∈ zs, (Lit.int .u8 z).wf = true)) :
    Calls Try.prog 30 #[.slice A n c] w fun e w' => e = .returned (.int .u64 (hashZ zs)) ∧ w' = w := by
  have HL := Lib.hid hl
  clear hl
  go_enter Try.func30, Try.ntmps30
  go_wp2
  go_loop [3, 8] (fun h i => ∃ k : Nat, k ≤ n ∧ i = .int .i64 k ∧ h = .int .u64 (hashZ (zs.take k))) (fun _ i => n - (intOf i).toNat)
  case atStart => exact ⟨0, by omega, rfl, rfl⟩
  case round =>
    obtain ⟨k, hk, rfl, rfl⟩ := hrel
    by_cases hlt : k < n
    · have hkl : k < zs.length := by have := HL.out; omega
      obtain ⟨ad, rfl, _, hc⟩ := hr.out k hkl
      have bz := wf_u8 (wf_at hw.out hkl)
      have HS := Lib.hid (hash_snoc zs k hkl)
      obtain ⟨b, hb⟩ : ∃ b, zs.getD k 0 = b := ⟨_, rfl⟩
      rw [hb] at hc bz
      have HB := Lib.hid hb
      clear hb hkl
      go_wp2
      go_round
      case rel => exact ⟨k + 1, by omega, by go_num, val_int (by rw [HS.out, HB.out]; rfl)⟩
      case measure => simp [intOf]; omega
    · have hk' : zs.length ≤ k := by have := HL.out; omega
      have HT := Lib.hid (List.take_of_length_le hk')
      clear hk'
      go_wp2
      go_ret
      exact ⟨ret_int (by rw [HT.out]), rfl⟩

/-! ### the walk -/
theorem walk (W : World) (a0 : Int) (w0 : (Lit.int .u64 a0).wf = true) (A1 : Option Addr) (n1 c1 : Nat) (z1 : List Int) (l1 : z1.length = n1) (b1 : n1 ≤ c1) (m1 : c1 ≤ maxLen) (s1 : c1 * 1 ≤ 140737488351232) (r1 : IntsAt .u8 W W.heap.size A1 z1) (w1 : ∀ z ∈ z1, (Lit.int .u8 z).wf = true) :
    Calls Try.prog 8 #[.int .u64 a0, .slice A1 n1 c1] W fun e W' => e = .returned (.bool true) ∧ Below W.heap.size W W' := by
  have HR := Lib.hid r1
  have HW := Lib.hid w1
  have HL := Lib.hid l1
  have hn : n1 ≤ 9223372036854775807 := by omega
  clear w0 w1 r1 l1 m1 s1 b1
  go_enter Try.func8, Try.ntmps8
  go_wp2_with (first
    | (go_at_call 11; refine (awake_any _).mono ?_; rintro e w' ⟨rfl, n, rfl⟩)
    | (go_at_call 27; refine (mix_any _ _).mono ?_; rintro e w' ⟨rfl, rfl⟩)
    | (go_at_call 28; refine (rmix_any _ _).mono ?_; rintro e w' ⟨rfl, rfl⟩)
    | (go_at_call 29; refine (hash_any _ _ _ _ z1 _ HL.out hn (Lib.hid (HR.out.drewN _)) HW).mono ?_; rintro e w' ⟨rfl, rfl⟩)
    | (go_at_call 30; refine (rhash_any _ _ _ _ z1 _ HL.out hn (Lib.hid (HR.out.drewN _)) HW).mono ?_; rintro e w' ⟨rfl, rfl⟩))
  go_ret
  exact ⟨rfl, below_draws (Below.refl _ _) _⟩

/-! ### the frame -/
theorem cells5 : Try.prog.cellsOf 5 = 1 := by kernel_rfl
theorem own : ownKnob Try.prog.godebug = none := by kernel_rfl
set_option maxRecDepth 100000 in
theorem calls {H : Type} {enc : TypeId × Value → H} (W : World) (base : Nat) (args : Array Value) (ds : List (DataW H)) (p : List MemPlace)
    (hval0 : ∀ (j : Nat) t v, Try.f8.params[j]? = some t → args[j]? = some v → Value.okWide Try.prog W .any base t v)
    (hA : DataW.TrodAll enc Try.prog W 0 (fun _ => true) true Try.f8.params.toList args.toList ds p) (_ : W.noneFrozen p)
    (hsz : (DataW.weightsEach Try.prog Try.f8.params.toList ds).all (· ≤ reachBytes) = true) :
    Calls Try.prog 8 args W fun e W' => e = .returned (.bool true) ∧ Below W.heap.size W W' := by
  have hval : ∀ (j : Nat) t v, Try.f8.params[j]? = some t → args[j]? = some v → Value.okWide Try.prog W .any base t v := hval0
  clear hval0
  rw [Try.params8] at hA hval hsz
  obtain ⟨v0, vs0, d0, ds0, p0, q0, hargs, rfl, rfl, h0, r'0⟩ := trodAll_cons hA
  obtain ⟨v1, vs1, d1, ds1, p1, q1, rfl, rfl, rfl, h1, r'1⟩ := trodAll_cons r'0
  obtain ⟨rfl, rfl, rfl⟩ := trodAll_nil r'1
  obtain rfl : args = #[v0, v1] := by cases args; simp_all
  obtain ⟨a0, rfl, rfl, rfl, w0⟩ := open_int Try.underlying22 (hval 0 22 v0 rfl rfl) h0
  obtain ⟨A1, n1, c1, z1, rfl, l1, b1, m1, s1, r1, w1⟩ := open_slice_ints (j := 1) (bytes := 1) Try.underlying39 Try.underlying5 cells5 (by kernel_rfl) (hval 1 39 v1 rfl rfl) h1 hsz rfl rfl
  exact walk (W := W) a0 w0 A1 n1 c1 z1 l1 b1 m1 s1 r1 w1
set_option maxRecDepth 100000 in
theorem lifted (os : Os) (started : os.Started) (H : Type) (enc : TypeId × Value → H) :
    ReturnsInHanded {} Try.checked os 8 .any (Rows.wordHashesSpec.pre6 enc Try.prog Try.f8 Rows.wordHashesRow.domain false) (Rows.wordHashesSpec.post enc Try.prog Try.f8 false true false false) :=
  law_lifted (C := Try.checked) (s := Rows.wordHashesSpec) (b := 4) own (by kernel_rfl) Try.func8 (by kernel_rfl) (by kernel_rfl) rfl Try.underlying4 rfl
    (fun ds h => by match ds, h with | [_, _], _ => rfl) calls os started
    (ChangeSpec.witness6 (enc := enc) (C := Try.checked) false ⟨#[], #[.int .u64 0, .slice none 0 0], []⟩ 8 (by kernel_rfl) (by kernel_rfl) (by kernel_rfl) (by kernel_rfl))
/-- ████ THE STATEMENT ████ -/
theorem proved : Rows.WordHashesSaid :=
  OpenClaim.holds_of_wide 8 Try.f8 rfl rfl rfl rfl rfl rfl rfl ⟨rfl, rfl, rfl, rfl, rfl⟩ rfl rfl rfl rfl rfl (by kernel_rfl) Try.func8 (by kernel_rfl)
    (of_decide_eq_true (by kernel_rfl)) (by unfold Func.isWrapper; first | (rw [if_pos (by decide +kernel)]; kernel_rfl) | (rw [if_neg (by decide +kernel)]; exact ⟨rfl, rfl⟩))
    (fun os started H enc _ => lifted os started H enc)
#print axioms proved
end Go.Proofs.Ytgfiddjlbjlolaa.wordHashes
