/-
  PROVED: the law DeviceImages answers true for every input, and each argument reads behind the call as before (Rows.DeviceImagesSaid). No condition.
-/
import Derived.Test.YtbonponclcehiaaZF
import Derived.Test.YtbonponclcehiaaRows
import Derived.Test.YtbonponclcehiaaZA
import Derived.Test.YtbonponclcehiaaZM
set_option linter.unusedVariables false
set_option linter.unusedSimpArgs false
/-
  DeviceImages: the walk.
-/
namespace Go.Proofs.Ytbonponclcehiaa.Dev
open Go.ChangeShapes Go.WideShapes Go.ChangeAt Go.RowKit Go.Proofs.Ytbonponclcehiaa.Mem Go.Proofs.Ytbonponclcehiaa.Args Go.Proofs.Ytbonponclcehiaa.Own Go.Proofs.Ytbonponclcehiaa.PackMath
theorem Made.rebase {w w' w2 : World} {e : Ending} {n : Nat} {cs : List Int} (h : Made w' w' w2 e n cs) (hb : Below w.heap.size w w') : Made w w' w2 e n cs := by
  obtain ⟨D, c, he, hb2, _, H⟩ := h
  exact ⟨D, c, he, hb2, hb.trans (hb2.mono hb.size), H⟩
set_option maxRecDepth 100000 in
set_option maxHeartbeats 1000000 in
theorem images_walk (W : World) (L : Int) (E : Option Addr) (n c : Nat) (hE : EvsAt W W.heap.size E n) (hn : n ≤ maxLen) (A1 : Option Addr) (n1 c1 : Nat) (z1 : List Int) (l1 : z1.length = n1) (b1 : n1 ≤ c1) (m1 : c1 ≤ maxLen) (r1 : IntsAt .u8 W W.heap.size A1 z1) (w1 : ∀ z ∈ z1, (Lit.int .u8 z).wf = true) :
    Calls Try.prog 6 #[.agg #[.int .i64 L, .slice E n c], .slice A1 n1 c1] W fun e W' => e = .returned (.bool true) ∧ Below W.heap.size W W' := by
  have HSHORT : Hid (∀ w, Below W.heap.size W w → Calls Try.prog 13 #[.slice A1 n1 c1, .int .i64 20] w fun q w' => q = .returned (.slice A1 (min n1 20) c1) ∧ w' = w) := Lib.hid fun w hb => short_any w A1 n1 c1 W.heap.size z1 l1 b1 m1 (r1.below hb)
  obtain ⟨ch, hchl, hchr, hchw⟩ := short_ints l1 r1 w1
  obtain ⟨m, hm⟩ : ∃ m, min n1 20 = m := ⟨_, rfl⟩
  rw [hm] at hchl HSHORT
  have hm20 : m ≤ 20 := by omega
  have HCL := Lib.hid hchl
  have HCR := Lib.hid hchr
  have HCW := Lib.hid hchw
  have HP : Hid (∀ w, Below W.heap.size W w → Calls Try.prog 41 #[.agg #[.int .i64 L, .slice E n c], .int .i64 40] w fun q w' => ∃ d r : Nat, q = .returned (.tuple #[.pointer (some ⟨d, 0, none⟩), .pointer (some ⟨r, 0, none⟩)]) ∧ Hid (∃ w0 S, BothF w0 w' d r S S ∧ S.Ok 80 ∧ Below w.heap.size w w0)) := Lib.hid fun w hb => by
    refine (play_any w L E n c 40 (by omega) (fun j hj => ?_) hn).mono ?_
    · obtain ⟨ad, e, hB, rest⟩ := hE.below hb j hj
      exact ⟨ad, e, Nat.lt_of_lt_of_le hB hb.size, rest⟩
    · rintro q w' ⟨d, r, k, w0, e, H⟩
      obtain ⟨⟨S, hbo, hok⟩, hk, _, hbw⟩ := H.out
      exact ⟨d, r, e, Lib.hid ⟨w0, S, hbo.bothF, hok.more (by omega), hbw⟩⟩
  obtain ⟨wb, hwb⟩ : ∃ wb, W.alloc (.cells #[.int .i64 L, .slice E n c] 57) = wb := ⟨_, rfl⟩
  have HBB : Hid (Below W.heap.size W wb) := by rw [← hwb]; exact (Below.refl _ _).alloc (Nat.le_refl _) _
  have hb0 : wb.cell? ⟨W.heap.size, 0, none⟩ = some (.int .i64 L) := by rw [← hwb]; exact (Blk.new W _ _).cell (o := 0) (by show 0 < 2; omega)
  have hb1 : wb.cell? ⟨W.heap.size, 1, none⟩ = some (.slice E n c) := by rw [← hwb]; exact (Blk.new W _ _).cell (o := 1) (by show 1 < 2; omega)
  have HWB := Lib.hid hwb
  clear hE hwb hn l1 b1 m1 r1 w1 hchl hchr hchw hm
  go_enter Try.func6, Try.ntmps6
  go_upto_region 1 with (fail)
  rw [HWB.out]
  go_wp2_with (first
    | (go_at_call 13; go_must (refine (HSHORT.out _ HBB.out).mono ?_); rintro e w' ⟨rfl, hw⟩; have hw2 := hw.symm; clear hw; subst hw2)
    | (go_at_call 41; go_must (refine (HP.out _ HBB.out).mono ?_); rintro e w1 ⟨d, r, rfl, H1⟩; obtain ⟨w0, S, hbf, hok, hbw⟩ := H1.out; have HB1 := Lib.hid hbf; have HOK := Lib.hid hok; have HBW := Lib.hid hbw; clear H1 hbf hok hbw hb0 hb1)
    | (go_at_call 12; go_must (refine (awake_any _).mono ?_); rintro e w2 ⟨rfl, H2⟩; have HB2 : Hid (BothF w0 w2 d r S S) := Lib.hid (BothK.below HB1.out H2.out); have HW2 : Hid (Below W.heap.size W w2) := Lib.hid (HBB.out.trans ((HBW.out.trans ((BothF.base HB2.out).mono HBW.out.size)).mono HBB.out.size)))
    | (go_at_call 42; go_must (refine (bf_rimage HB2.out HOK.out (by omega) HCL.out (by omega) (HCR.out.below HW2.out) HW2.out.size HCW.out).mono ?_); rintro e w3 ⟨D, cD, rfl, H3⟩; have HB3 : Hid (BothF w0 w3 d r S S) := Lib.hid (BothK.below HB2.out H3.out.1); have HW3 : Hid (Below W.heap.size W w3) := Lib.hid (HW2.out.trans (H3.out.1.mono HW2.out.size)))
    | (go_at_call 34; go_must (refine (bf_crash HB3.out HOK.out (by omega) HCL.out (by omega) (HCR.out.below HW3.out) HW3.out.size HCW.out).mono ?_); rintro e w4 ⟨x, rfl, H4⟩; have HB4 : Hid (BothF w0 w4 d r S S) := Lib.hid (BothK.below HB3.out H4.out.1); have HW4 : Hid (Below W.heap.size W w4) := Lib.hid (HW3.out.trans (H4.out.1.mono HW3.out.size))))
  have hcr := content_range S HOK.out (pickOf S ch) S.n
  have hcl : (content S (pickOf S ch) S.n).length = 64 * S.n := content_len _ _ _
  have HHT : Hid (∀ w', Below w4.heap.size w4 w' → Twin w' d r) := Lib.hid fun w' hb => (BothF.twin HB4.out HOK.out (by omega)).below hb
  have HIA : Hid (∀ w', Below w4.heap.size w4 w' → IntsAt .u8 w' w3.heap.size D (content S (pickOf S ch) S.n)) := Lib.hid fun w' hb => (H3.out.2.2.2.below H4.out.1).below (hb.mono H4.out.1.size)
  have HKP : Hid (∀ w', Below w4.heap.size w4 w' → (convert 22 9 (.slice D (64 * S.n) cD)).run Try.prog w' = .ok (.string (bstr (content S (pickOf S ch) S.n))) w') := Lib.hid fun w' hb => conv_bytes Try.underlying22 Try.underlying5 Try.underlying9 (HIA.out w' hb) hcl
  have HIM : Hid (∀ w', Below w4.heap.size w4 w' → Calls Try.prog 33 #[.pointer (some ⟨d, 0, none⟩), .slice A1 m c1] w' fun e w2 => Made w4 w' w2 e (64 * S.n) (content S (pickOf S ch) S.n)) := Lib.hid fun w' hb =>
    have hW := HW4.out.trans (hb.mono HW4.out.size)
    (bf_image (BothK.below HB4.out hb) HOK.out (by omega) HCL.out (by omega) (HCR.out.below hW) hW.size HCW.out).mono fun e w2 h => h.rebase hb
  have HRF : Hid (∀ w', Below w4.heap.size w4 w' → Calls Try.prog 19 #[.slice D (64 * S.n) cD] w' fun e w2 => ∃ y, e = .returned (.pointer (some ⟨y, 0, none⟩)) ∧ Below w'.heap.size w' w2 ∧ Below w4.heap.size w4 w2 ∧ Hid (Twin w2 x y)) := Lib.hid fun w' hb => by
    refine (from_twin w' D cD S.n x w3.heap.size _ hcl HOK.out.n0 HOK.out.n1 (HIA.out w' hb) (Nat.le_trans H4.out.1.size hb.size) hcr ?_).mono ?_
    · obtain ⟨A, hA, hdv⟩ := H4.out.2
      exact ⟨A, hA, hdv.below hb (Nat.le_refl _)⟩
    · rintro e w2 ⟨y, e1, h1, h2⟩
      exact ⟨y, e1, h1, hb.trans (h1.mono hb.size), h2⟩
  have HSM : Hid (∀ w' x' y', Below w4.heap.size w4 w' → Twin w' x' y' → Calls Try.prog 15 #[.pointer (some ⟨x', 0, none⟩), .pointer (some ⟨y', 0, none⟩)] w' fun q w2 => q = .returned (.bool true) ∧ Below w4.heap.size w4 w2 ∧ Below w'.heap.size w' w2) := Lib.hid fun w' x' y' hb ht => by
    refine (same_twin ht).mono ?_
    rintro q w2 ⟨e, h⟩
    exact ⟨e, hb.trans (h.mono hb.size), h⟩
  have HSN := Lib.hid (rfl : 64 * S.n = 64 * S.n)
  clear hcr hcl HB1 HB2 HB3 HB4 H2 H3 H4
  generalize content S (pickOf S ch) S.n = bs at *
  generalize 64 * S.n = z at *
  have hS0 : Below w4.heap.size w4 w4 := Below.refl _ _
  have hS1 : Below w4.heap.size w4 w4.drew := hS0.drew
  have kp0 := HKP.out w4 hS0
  have kp1 := HKP.out w4.drew hS1
  go_region_with (first
    | (go_at_call 33; go_must (refine (HIM.out _ (by assumption)).mono ?_); rintro e w5 ⟨D5, c5, rfl, b5, a5, K5⟩; have k5 := K5.out w5 (Below.refl _ _); have kp5 := HKP.out w5 a5)
    | (go_at_call 19; go_must (refine (HRF.out _ (by assumption)).mono ?_); rintro e w6 ⟨y, rfl, b6, a6, T6⟩)
    | (go_at_call 15; go_must (refine (HSM.out _ _ _ (by assumption) (by first | exact T6.out | exact HHT.out _ (by assumption))).mono ?_); rintro e w7 ⟨rfl, a7, b7⟩))
  all_goals (go_wp2; go_ret; exact ⟨rfl, HW4.out.trans ((show Below w4.heap.size w4 _ by assumption).mono HW4.out.size)⟩)
end Go.Proofs.Ytbonponclcehiaa.Dev
namespace Go.Proofs.Ytbonponclcehiaa.deviceImages
open Go.ChangeShapes Go.WideShapes Go.ChangeAt Go.RowKit Go.Proofs.Ytbonponclcehiaa.Law Go.Proofs.Ytbonponclcehiaa.Args
set_option linter.unusedVariables false
set_option linter.unusedSimpArgs false
open Go.Proofs.Ytbonponclcehiaa.Mem Go.Proofs.Ytbonponclcehiaa.Own Go.Proofs.Ytbonponclcehiaa.Dev
theorem walk (W : World) (L : Int) (E : Option Addr) (n c : Nat) (hE : EvsAt W W.heap.size E n) (hn : n ≤ maxLen) (A1 : Option Addr) (n1 c1 : Nat) (z1 : List Int) (l1 : z1.length = n1) (b1 : n1 ≤ c1) (m1 : c1 ≤ maxLen) (_ : c1 * 1 ≤ 140737488351232) (r1 : IntsAt .u8 W W.heap.size A1 z1) (w1 : ∀ z ∈ z1, (Lit.int .u8 z).wf = true) :
    Calls Try.prog 6 #[.agg #[.int .i64 L, .slice E n c], .slice A1 n1 c1] W fun e W' => e = .returned (.bool true) ∧ Below W.heap.size W W' := images_walk W L E n c hE hn A1 n1 c1 z1 l1 b1 m1 r1 w1

/-! ### the frame -/
theorem cells5 : Try.prog.cellsOf 5 = 1 := by kernel_rfl
theorem own : ownKnob Try.prog.godebug = none := by kernel_rfl
set_option maxRecDepth 100000 in
theorem calls {H : Type} {enc : TypeId × Value → H} (W : World) (base : Nat) (args : Array Value) (ds : List (DataW H)) (p : List MemPlace)
    (hval0 : ∀ (j : Nat) t v, Try.f6.params[j]? = some t → args[j]? = some v → Value.okWide Try.prog W .any base t v)
    (hA : DataW.TrodAll enc Try.prog W 0 (fun _ => true) true Try.f6.params.toList args.toList ds p) (_ : W.noneFrozen p)
    (hsz : (DataW.weightsEach Try.prog Try.f6.params.toList ds).all (· ≤ reachBytes) = true) :
    Calls Try.prog 6 args W fun e W' => e = .returned (.bool true) ∧ Below W.heap.size W W' := by
  have hval : ∀ (j : Nat) t v, Try.f6.params[j]? = some t → args[j]? = some v → Value.okWide Try.prog W .any base t v := hval0
  clear hval0
  rw [Try.params6] at hA hval hsz
  obtain ⟨v0, vs0, d0, ds0, p0, q0, hargs, rfl, rfl, h0, r'0⟩ := trodAll_cons hA
  obtain ⟨v1, vs1, d1, ds1, p1, q1, rfl, rfl, rfl, h1, r'1⟩ := trodAll_cons r'0
  obtain ⟨rfl, rfl, rfl⟩ := trodAll_nil r'1
  obtain rfl : args = #[v0, v1] := by cases args; simp_all
  obtain ⟨L0, E0, n0, c0, rfl, hn0, hE0⟩ := open_run (hval 0 57 v0 rfl rfl) h0
  obtain ⟨A1, n1, c1, z1, rfl, l1, b1, m1, s1, r1, w1⟩ := open_slice_ints (j := 1) (bytes := 1) Try.underlying22 Try.underlying5 cells5 (by kernel_rfl) (hval 1 22 v1 rfl rfl) h1 hsz rfl rfl
  exact walk (W := W) L0 E0 n0 c0 hE0 hn0 A1 n1 c1 z1 l1 b1 m1 s1 r1 w1
set_option maxRecDepth 100000 in
theorem lifted (os : Os) (started : os.Started) (H : Type) (enc : TypeId × Value → H) :
    ReturnsInHanded {} Try.checked os 6 .any (Rows.deviceImagesSpec.pre6 enc Try.prog Try.f6 Rows.deviceImagesRow.domain false) (Rows.deviceImagesSpec.post enc Try.prog Try.f6 false true false false) :=
  law_lifted (C := Try.checked) (s := Rows.deviceImagesSpec) (b := 4) own (by kernel_rfl) Try.func6 (by kernel_rfl) (by kernel_rfl) rfl Try.underlying4 rfl
    (fun ds h => by match ds, h with | [_, _], _ => rfl) calls os started
    (ChangeSpec.witness6 (enc := enc) (C := Try.checked) false ⟨#[], #[.agg #[.int .i64 0, .slice none 0 0], .slice none 0 0], []⟩ 8 (by kernel_rfl) (by kernel_rfl) (by kernel_rfl) (by kernel_rfl))
/-- ████ THE STATEMENT ████ -/
theorem proved : Rows.DeviceImagesSaid :=
  OpenClaim.holds_of_wide 6 Try.f6 rfl rfl rfl rfl rfl rfl rfl ⟨rfl, rfl, rfl, rfl, rfl⟩ rfl rfl rfl rfl rfl (by kernel_rfl) Try.func6 (by kernel_rfl)
    (of_decide_eq_true (by kernel_rfl)) (by unfold Func.isWrapper; first | (rw [if_pos (by decide +kernel)]; kernel_rfl) | (rw [if_neg (by decide +kernel)]; exact ⟨rfl, rfl⟩))
    (fun os started H enc _ => lifted os started H enc)
#print axioms proved
end Go.Proofs.Ytbonponclcehiaa.deviceImages
