/-
  PROVED: the law ImageZero answers true for every input, and each argument reads behind the call as before (Rows.ImageZeroCardSaid). No condition.
-/
import Derived.Test.YtpfmongenmemdaaDoorCards
import Derived.Test.YtpfmongenmemdaaDoorTie
import Derived.Test.YtpfmongenmemdaaDoorLaid
import Derived.Test.YtpfmongenmemdaaDoorLaw
import Derived.Test.YtpfmongenmemdaaDoorArgs
import Derived.Test.YtpfmongenmemdaaDoorILawBase
import Derived.Test.YtpfmongenmemdaaDoorIRword
import Derived.Test.YtpfmongenmemdaaDoorINil
namespace Go.Proofs.YtpfmongenmemdaaDoor.imageZero
open Go.ChangeShapes Go.WideShapes Go.ChangeAt Go.RowKit Go.Proofs.YtpfmongenmemdaaDoor.Law Go.Proofs.YtpfmongenmemdaaDoor.Args Go.Proofs.YtpfmongenmemdaaDoor.Base
set_option linter.unusedVariables false
set_option linter.unusedSimpArgs false
theorem below_step {a b c : World} (h1 : Below a.heap.size a b) (h2 : Below b.heap.size b c) : Below a.heap.size a c := h1.trans (h2.mono h1.size)
theorem emptyText : imageT [] = [108, 105, 110, 101, 115, 32, 48, 10] := by decide +kernel
theorem zerosOf (L : Nat) : resizeL [] L = u8s (List.replicate (64 * L) 0) := by
  unfold resizeL u8s
  simp [Nat.mul_comm]
open Go.Proofs.YtpfmongenmemdaaDoor.Own in
theorem makes (L : Nat) (hL : L ≤ 255) : ∃ F : World → World, ∀ W, (Instr.makeSlice 22 (.int .i64 (64 * (L : Int))) (.int .i64 (64 * (L : Int)))).run Tryd.prog W = .ok (.slice (some ⟨W.heap.size, 0, none⟩) (64 * L) (64 * L)) (F W) ∧ OwnInts .u8 5 (F W) W.heap.size (.slice (some ⟨W.heap.size, 0, none⟩) (64 * L) (64 * L)) (List.replicate (64 * L) 0) ∧ Below W.heap.size W (F W) := by
  obtain ⟨i0, hi, hz0, hz1, hz2⟩ := info_parts infoB
  have h : ∀ W : World, ∃ w', (Instr.makeSlice 22 (.int .i64 (64 * (L : Int))) (.int .i64 (64 * (L : Int)))).run Tryd.prog W = .ok (.slice (some ⟨W.heap.size, 0, none⟩) (64 * L) (64 * L)) w' ∧ OwnInts .u8 5 w' W.heap.size (.slice (some ⟨W.heap.size, 0, none⟩) (64 * L) (64 * L)) (List.replicate (64 * L) 0) ∧ Below W.heap.size W w' := fun W => by
    obtain ⟨w', h1, h2, h3⟩ := run_make_full (P := Tryd.prog) W W.heap.size 22 5 i0 (.int .u8 0) 1 Tryd.underlying22 hi hz0 hz1 .i64 .i64 (64 * L) (by rw [hz2]; omega) (by simp [maxLen]; omega) (Nat.le_refl _)
    rw [show ((64 * L : Nat) : Int) = 64 * (L : Int) by omega] at h1
    exact ⟨w', h1, OwnInts.made h2, (Below.refl _ _).grown h3 (Nat.le_refl _) (fun k hk => by cases hk)⟩
  exact ⟨fun W => Classical.choose (h W), fun W => Classical.choose_spec (h W)⟩
set_option maxHeartbeats 4000000 in
set_option maxRecDepth 100000 in
theorem walk {W : World} (HE : Pow W.heap.size W ∧ Tz W.heap.size W) (a0 : Int) (w0 : (Lit.int .u64 a0).wf = true) (a1 : Int) (w1 : (Lit.int .u8 a1).wf = true) : Calls Tryd.prog 9 #[.int .u64 a0, .int .u8 a1] W fun e W' => e = .returned (.bool true) ∧ Below W.heap.size W W' := by
  have h0 := wf_u64 w0
  have h1 := wf_u8 w1
  obtain ⟨L, rfl⟩ : ∃ L : Nat, a1 = (L : Int) := ⟨a1.toNat, by omega⟩
  have hL : L ≤ 255 := by omega
  have HA := Lib.hid (fun w (hb : Below W.heap.size W w) => awake_any W.heap.size w hb.size (HE.1.on hb) (HE.2.on hb))
  have HT := Lib.hid (fun w (hb : Below W.heap.size W w) => text_any W.heap.size [] w (by rfl) (by simp) hb.size (HE.1.on hb) (HE.2.on hb))
  rw [emptyText] at HT
  have HNw := Lib.hid (fun w => new_ok none 0 0 0 [] w rfl (Lib.hid IntsAt.nil_) (Nat.zero_le _) (by rfl) (by omega))
  rw [show u8s [] = [] from rfl] at HNw
  have HRs := Lib.hid (fun w => resize_ok [] L w (by simp) (by omega))
  have HU := Lib.hid (zerosOf L)
  obtain ⟨lk, hlk⟩ : ∃ lk, resizeL [] L = lk := ⟨_, rfl⟩
  rw [hlk] at HRs HU
  obtain ⟨F, hF⟩ := makes L hL
  have HFO := Lib.hid (fun W => (hF W).2.1)
  have HFB := Lib.hid (fun W => (hF W).2.2)
  have hmk := fun W => (hF W).1
  have HMK := Lib.hid hmk
  clear hF hlk HE w0 w1 hmk
  have HEq := Lib.hid (fun w => equal_any [] [] w)
  rw [show (([] : List UInt8) == []) = true from rfl] at HEq
  have HBy := Lib.hid (fun w => bytes_any [] w (by simp))
  rw [show ([] : List UInt8).length = 0 from rfl] at HBy
  have hLw : IntKind.i64.wrap (64 * (L : Int)) = 64 * (L : Int) := IntWalk.i64_in _ ⟨by omega, by omega⟩
  have hLw0 : IntKind.i64.wrap (L : Int) = (L : Int) := IntWalk.i64_in _ ⟨by omega, by omega⟩
  have hz3 := h0.1
  by_cases hz : a0 % 8 = 0
  · have HWd := Lib.hid (fun w => word_any [] a0 w (by simp) (by rfl) h0.1 h0.2)
    have HWi := Lib.hid (fun w => with_bad [] a0 1 w (by simp) h0.1 h0.2 (by omega) (by rw [cErr_two hz (by simpa using hz3)]; omega))
    rw [show ((1 : Nat) : Int) = 1 from rfl] at HWi
    rw [show cErr [] a0 = 2 from cErr_two hz (by simpa using hz3)] at HWd HWi
    rw [show wNum [] a0 = 0 from wNum_bad (by rw [show cErr [] a0 = 2 from cErr_two hz (by simpa using hz3)]; omega)] at HWd
    go_enter Tryd.func9, Tryd.ntmps9
    have BZ0 := Lib.hid (Box.new (Below.refl W.heap.size W) [])
    have cz0 := BZ0.out.c
    go_wp2_with (first
      | (go_at_call 34; go_must (refine (of_nil _).mono ?_); rintro e wO ⟨rfl, hb⟩; have BZ1 := Lib.hid ((BZ0.out.on hb).alloc (.cells #[str []] 25)); have BI1 := Lib.hid (Box.new (BZ0.out.bb.trans (hb.mono BZ0.out.bb.size)) []); clear hb cz0)
      | (go_at_call 11; go_must (refine (HNw.out _).mono ?_); rintro e wN ⟨rfl, hb⟩; have BZ2 := Lib.hid ((BZ1.out.on hb).alloc (.cells #[str []] 25)); have BI2 := Lib.hid ((BI1.out.on hb).alloc (.cells #[str []] 25)); have BJ2 := Lib.hid (Box.new (BI1.out.bb.trans (hb.mono BI1.out.bb.size)) []); have cz2 := BZ2.out.c; clear hb)
      | (go_at_call 16; go_must (refine (HWd.out _).mono ?_); rintro e wR ⟨rfl, hb⟩; have BZ3 := Lib.hid (BZ2.out.on hb); have BI3 := Lib.hid (BI2.out.on hb); have BJ3 := Lib.hid (BJ2.out.on hb); have cz3 := BZ3.out.c; clear hb cz2)
      | (go_at_call 17; go_must (refine (HWi.out _).mono ?_); rintro e wS ⟨rfl, hb⟩; have BZ4 := Lib.hid ((BZ3.out.on hb).alloc (.cells #[str []] 25)); have BI4 := Lib.hid ((BI3.out.on hb).alloc (.cells #[str []] 25)); have BJ4 := Lib.hid ((BJ3.out.on hb).alloc (.cells #[str []] 25)); have cz4 := BZ4.out.c; clear hb cz3)
      | (go_at_call 21; go_must (refine (HRs.out _).mono ?_); rintro e wT ⟨rfl, hb⟩; have BZ5 := Lib.hid ((BZ4.out.on hb).alloc (.cells #[str lk] 25)); have BI5 := Lib.hid ((BI4.out.on hb).alloc (.cells #[str lk] 25)); have BJ5 := Lib.hid ((BJ4.out.on hb).alloc (.cells #[str lk] 25)); have BK5 := Lib.hid (Box.new (BZ4.out.bb.trans (hb.mono BZ4.out.bb.size)) lk); clear hb cz4))
    all_goals first | (exfalso; omega) | skip
    obtain ⟨wz, hwz⟩ : ∃ wz, wT.alloc (.cells #[str lk] 25) = wz := ⟨_, rfl⟩
    rw [hwz] at BZ5 BI5 BJ5 BK5
    rw [hwz]
    clear hwz BZ4 BI4 BJ4 BZ3 BI3 BJ3 BZ2 BI2 BJ2 BZ1 BI1 BZ0 HWd HWi HNw HRs
    have cz := BZ5.out.c
    have ci := BI5.out.c
    have cj := BJ5.out.c
    have ck := BK5.out.c
    have hbz : Below wz.heap.size wz wz.drew := (Below.refl _ _).drew
    have HFIN := Lib.hid (fun w (hb : Below wz.heap.size wz w) => BZ5.out.bb.trans (hb.mono BZ5.out.bb.size))
    have HA2 := Lib.hid (fun w (hb : Below wz.heap.size wz w) => HA.out w (HFIN.out w hb))
    have HT2 := Lib.hid (fun w (hb : Below wz.heap.size wz w) => HT.out w (HFIN.out w hb))
    have HCL : Hid (∀ w', Below wz.heap.size wz w' → w'.cell? ⟨W.heap.size, 0, none⟩ = some (str []) ∧ w'.cell? ⟨wO.heap.size, 0, none⟩ = some (str []) ∧ w'.cell? ⟨wN.heap.size, 0, none⟩ = some (str []) ∧ w'.cell? ⟨wT.heap.size, 0, none⟩ = some (str lk) ∧ Below wz.heap.size wz w') := Lib.hid (fun w' hb => ⟨(BZ5.out.on hb).c, (BI5.out.on hb).c, (BJ5.out.on hb).c, (BK5.out.on hb).c, hb⟩)
    have hmk := HMK.out
    go_region_held3 (fun w' => w'.cell? ⟨W.heap.size, 0, none⟩ = some (str []) ∧ w'.cell? ⟨wO.heap.size, 0, none⟩ = some (str []) ∧ w'.cell? ⟨wN.heap.size, 0, none⟩ = some (str []) ∧ w'.cell? ⟨wT.heap.size, 0, none⟩ = some (str lk) ∧ Below wz.heap.size wz w') (first | exact HCL.out _ (by assumption) | exact HCL.out _ (below_step qD (HFB.out _))) (first
      | (go_at_call 10; go_must (refine (HA2.out _ (by assumption)).mono ?_); rintro e wB ⟨rfl, hb⟩; have qB := below_step ‹Below wz.heap.size wz _› hb; clear hb)
      | (go_at_call 23; go_must (refine (HEq.out _).mono ?_); rintro e wC ⟨rfl, hb⟩; have qC := below_step ‹Below wz.heap.size wz _› hb; clear hb)
      | (go_at_call 35; go_must (refine (HT2.out _ (by assumption)).mono ?_); rintro e wD ⟨rfl, hb⟩; have qD := below_step ‹Below wz.heap.size wz _› hb; clear hb)
      | (go_at_call 13; go_must (refine (same_own (HFO.out wD) (by simp) (by omega) HU.out (by first | exact Below.refl _ _ | exact (Below.refl _ _).drew | exact Go.Proofs.YtpfmongenmemdaaDoor.Law.below_draws (Below.refl _ _) _ | exact (Go.Proofs.YtpfmongenmemdaaDoor.Law.below_draws (Below.refl _ _) _).drew)).mono ?_); rintro e wV ⟨rfl, hb⟩; have qV := below_step (below_step (below_step qD (HFB.out wD)) (by first | exact Below.refl _ _ | exact (Below.refl _ _).drew | exact Go.Proofs.YtpfmongenmemdaaDoor.Law.below_draws (Below.refl _ _) _ | exact (Go.Proofs.YtpfmongenmemdaaDoor.Law.below_draws (Below.refl _ _) _).drew)) hb; clear hb)
      | (go_at_call 14; go_must (refine (HBy.out _).mono ?_); rintro e wY ⟨g, cg, rfl, HR⟩; have qY := below_step ‹Below wz.heap.size wz _› HR.out.bb; clear HR))
    have HB := HFIN.out _ qY
    go_wp2
    go_ret
    exact ⟨rfl, HB⟩
  · have HWd := Lib.hid (fun w => word_any [] a0 w (by simp) (by rfl) h0.1 h0.2)
    have HWi := Lib.hid (fun w => with_bad [] a0 1 w (by simp) h0.1 h0.2 (by omega) (by rw [cErr_one hz]; omega))
    rw [show ((1 : Nat) : Int) = 1 from rfl] at HWi
    rw [show cErr [] a0 = 1 from cErr_one hz] at HWd HWi
    rw [show wNum [] a0 = 0 from wNum_bad (by rw [show cErr [] a0 = 1 from cErr_one hz]; omega)] at HWd
    have hzz : (a0 % 8 != 0) = true := by simpa using hz
    clear hz
    go_enter Tryd.func9, Tryd.ntmps9
    have BZ0 := Lib.hid (Box.new (Below.refl W.heap.size W) [])
    have cz0 := BZ0.out.c
    go_wp2_with (first
      | (go_at_call 34; go_must (refine (of_nil _).mono ?_); rintro e wO ⟨rfl, hb⟩; have BZ1 := Lib.hid ((BZ0.out.on hb).alloc (.cells #[str []] 25)); have BI1 := Lib.hid (Box.new (BZ0.out.bb.trans (hb.mono BZ0.out.bb.size)) []); clear hb cz0)
      | (go_at_call 11; go_must (refine (HNw.out _).mono ?_); rintro e wN ⟨rfl, hb⟩; have BZ2 := Lib.hid ((BZ1.out.on hb).alloc (.cells #[str []] 25)); have BI2 := Lib.hid ((BI1.out.on hb).alloc (.cells #[str []] 25)); have BJ2 := Lib.hid (Box.new (BI1.out.bb.trans (hb.mono BI1.out.bb.size)) []); have cz2 := BZ2.out.c; clear hb)
      | (go_at_call 16; go_must (refine (HWd.out _).mono ?_); rintro e wR ⟨rfl, hb⟩; have BZ3 := Lib.hid (BZ2.out.on hb); have BI3 := Lib.hid (BI2.out.on hb); have BJ3 := Lib.hid (BJ2.out.on hb); have cz3 := BZ3.out.c; clear hb cz2)
      | (go_at_call 17; go_must (refine (HWi.out _).mono ?_); rintro e wS ⟨rfl, hb⟩; have BZ4 := Lib.hid ((BZ3.out.on hb).alloc (.cells #[str []] 25)); have BI4 := Lib.hid ((BI3.out.on hb).alloc (.cells #[str []] 25)); have BJ4 := Lib.hid ((BJ3.out.on hb).alloc (.cells #[str []] 25)); have cz4 := BZ4.out.c; clear hb cz3)
      | (go_at_call 21; go_must (refine (HRs.out _).mono ?_); rintro e wT ⟨rfl, hb⟩; have BZ5 := Lib.hid ((BZ4.out.on hb).alloc (.cells #[str lk] 25)); have BI5 := Lib.hid ((BI4.out.on hb).alloc (.cells #[str lk] 25)); have BJ5 := Lib.hid ((BJ4.out.on hb).alloc (.cells #[str lk] 25)); have BK5 := Lib.hid (Box.new (BZ4.out.bb.trans (hb.mono BZ4.out.bb.size)) lk); clear hb cz4))
    all_goals first | (exfalso; omega) | skip
    obtain ⟨wz, hwz⟩ : ∃ wz, wT.alloc (.cells #[str lk] 25) = wz := ⟨_, rfl⟩
    rw [hwz] at BZ5 BI5 BJ5 BK5
    rw [hwz]
    clear hwz BZ4 BI4 BJ4 BZ3 BI3 BJ3 BZ2 BI2 BJ2 BZ1 BI1 BZ0 HWd HWi HNw HRs
    have cz := BZ5.out.c
    have ci := BI5.out.c
    have cj := BJ5.out.c
    have ck := BK5.out.c
    have hbz : Below wz.heap.size wz wz.drew := (Below.refl _ _).drew
    have HFIN := Lib.hid (fun w (hb : Below wz.heap.size wz w) => BZ5.out.bb.trans (hb.mono BZ5.out.bb.size))
    have HA2 := Lib.hid (fun w (hb : Below wz.heap.size wz w) => HA.out w (HFIN.out w hb))
    have HT2 := Lib.hid (fun w (hb : Below wz.heap.size wz w) => HT.out w (HFIN.out w hb))
    have HCL : Hid (∀ w', Below wz.heap.size wz w' → w'.cell? ⟨W.heap.size, 0, none⟩ = some (str []) ∧ w'.cell? ⟨wO.heap.size, 0, none⟩ = some (str []) ∧ w'.cell? ⟨wN.heap.size, 0, none⟩ = some (str []) ∧ w'.cell? ⟨wT.heap.size, 0, none⟩ = some (str lk) ∧ Below wz.heap.size wz w') := Lib.hid (fun w' hb => ⟨(BZ5.out.on hb).c, (BI5.out.on hb).c, (BJ5.out.on hb).c, (BK5.out.on hb).c, hb⟩)
    have hmk := HMK.out
    go_region_held3 (fun w' => w'.cell? ⟨W.heap.size, 0, none⟩ = some (str []) ∧ w'.cell? ⟨wO.heap.size, 0, none⟩ = some (str []) ∧ w'.cell? ⟨wN.heap.size, 0, none⟩ = some (str []) ∧ w'.cell? ⟨wT.heap.size, 0, none⟩ = some (str lk) ∧ Below wz.heap.size wz w') (first | exact HCL.out _ (by assumption) | exact HCL.out _ (below_step qD (HFB.out _))) (first
      | (go_at_call 10; go_must (refine (HA2.out _ (by assumption)).mono ?_); rintro e wB ⟨rfl, hb⟩; have qB := below_step ‹Below wz.heap.size wz _› hb; clear hb)
      | (go_at_call 23; go_must (refine (HEq.out _).mono ?_); rintro e wC ⟨rfl, hb⟩; have qC := below_step ‹Below wz.heap.size wz _› hb; clear hb)
      | (go_at_call 35; go_must (refine (HT2.out _ (by assumption)).mono ?_); rintro e wD ⟨rfl, hb⟩; have qD := below_step ‹Below wz.heap.size wz _› hb; clear hb)
      | (go_at_call 13; go_must (refine (same_own (HFO.out wD) (by simp) (by omega) HU.out (by first | exact Below.refl _ _ | exact (Below.refl _ _).drew | exact Go.Proofs.YtpfmongenmemdaaDoor.Law.below_draws (Below.refl _ _) _ | exact (Go.Proofs.YtpfmongenmemdaaDoor.Law.below_draws (Below.refl _ _) _).drew)).mono ?_); rintro e wV ⟨rfl, hb⟩; have qV := below_step (below_step (below_step qD (HFB.out wD)) (by first | exact Below.refl _ _ | exact (Below.refl _ _).drew | exact Go.Proofs.YtpfmongenmemdaaDoor.Law.below_draws (Below.refl _ _) _ | exact (Go.Proofs.YtpfmongenmemdaaDoor.Law.below_draws (Below.refl _ _) _).drew)) hb; clear hb)
      | (go_at_call 14; go_must (refine (HBy.out _).mono ?_); rintro e wY ⟨g, cg, rfl, HR⟩; have qY := below_step ‹Below wz.heap.size wz _› HR.out.bb; clear HR))
    have HB := HFIN.out _ qY
    go_wp2
    go_ret
    exact ⟨rfl, HB⟩

/-! ### the frame -/
theorem own : ownKnob Tryd.prog.godebug = none := by kernel_rfl
set_option maxRecDepth 100000 in
theorem calls {H : Type} {enc : TypeId × Value → H} (W : World) (base : Nat) (args : Array Value) (ds : List (DataW H)) (p : List MemPlace)
    (hval0 : ∀ (j : Nat) t v, Tryd.f9.params[j]? = some t → args[j]? = some v → Value.okWide Tryd.prog W .any base t v)
    (hA : DataW.TrodAll enc Tryd.prog W 0 (fun _ => true) true Tryd.f9.params.toList args.toList ds p) (_ : W.noneFrozen p)
    (hsz : (DataW.weightsEach Tryd.prog Tryd.f9.params.toList ds).all (· ≤ reachBytes) = true) (hL : laidMetH Tryd.prog Rows.imageZeroRow.laid W) (hS : W.ShapedOpen Tryd.prog) :
    Calls Tryd.prog 9 args W fun e W' => e = .returned (.bool true) ∧ Below W.heap.size W W' := by
  have hval : ∀ (j : Nat) t v, Tryd.f9.params[j]? = some t → args[j]? = some v → Value.okWide Tryd.prog W .any base t v := hval0
  clear hval0
  rw [Tryd.params9] at hA hval hsz
  obtain ⟨v0, vs0, d0, ds0, p0, q0, hargs, rfl, rfl, h0, r'0⟩ := trodAll_cons hA
  obtain ⟨v1, vs1, d1, ds1, p1, q1, rfl, rfl, rfl, h1, r'1⟩ := trodAll_cons r'0
  obtain ⟨rfl, rfl, rfl⟩ := trodAll_nil r'1
  obtain rfl : args = #[v0, v1] := by cases args; simp_all
  obtain ⟨a0, rfl, rfl, rfl, w0⟩ := open_int Tryd.underlying33 (hval 0 33 v0 rfl rfl) h0
  obtain ⟨a1, rfl, rfl, rfl, w1⟩ := open_int Tryd.underlying5 (hval 1 5 v1 rfl rfl) h1
  exact walk (W := W) (Base.envs hL hS) a0 w0 a1 w1
theorem laid_met (os : Os) : laidMet Tryd.prog Rows.imageZeroRow.laid ((Base.laidWorldE os).forCall (fun _ _ => 0) ⟨#[], #[.int .u64 0, .int .u8 0], []⟩).memory := laidMet_laidAll _ (by kernel_rfl) (by kernel_rfl)
theorem reads (os : Os) {H : Type} (enc : TypeId × Value → H) : ∃ places, DataW.whole enc Tryd.prog ((Base.laidWorldE os).forCall (fun _ _ => 0) ⟨#[], #[.int .u64 0, .int .u8 0], []⟩).memory Tryd.f9.params.toList Rows.imageZeroSpec.vars false #[(Value.int .u64 0), (Value.int .u8 0)].toList 8 = some ([.lit (.int .u64 0), .lit (.int .u8 0)], [], places) := ⟨[], by kernel_rfl⟩
set_option maxRecDepth 100000 in
theorem lifted (os : Os) (started : os.Started) (H : Type) (enc : TypeId × Value → H) (F : Stop.Interp) :
    ReturnsInHanded {} Tryd.checked os 9 .any ((OpenSpec.ofChange Rows.imageZeroSpec).preRow enc Tryd.prog Tryd.f9 Rows.imageZeroRow.domain false Rows.imageZeroRow.laid) (((OpenSpec.ofChange Rows.imageZeroSpec).at F).post enc Tryd.prog Tryd.f9 false true false false) := by
  obtain ⟨places, hx⟩ := reads os enc
  exact laid_lifted_s (C := Tryd.checked) (s := Rows.imageZeroSpec) (b := 4) own (by kernel_rfl) Tryd.func9 (by kernel_rfl) (by kernel_rfl) rfl Tryd.underlying4 rfl
    (fun ds h => by match ds, h with | [_, _], _ => rfl) calls os started F
    (witness_row_at (enc := enc) (C := Tryd.checked) false (Base.laidWorldE os) #[.int .u64 0, .int .u8 0] rfl (by kernel_rfl) (by kernel_rfl) (by kernel_rfl)
      (OpenSpec.preRow_of_cond 8 hx (by kernel_rfl) (fun k hk => by cases hk) (by kernel_rfl) (laid_met os)))
theorem said : Rows.ImageZeroSaid :=
  OpenClaim.holds_of_cond 9 Tryd.f9 rfl rfl rfl rfl rfl rfl rfl ⟨rfl, rfl, rfl, rfl, rfl⟩ rfl rfl rfl rfl rfl (by kernel_rfl) Tryd.func9 (by kernel_rfl)
    (of_decide_eq_true (by kernel_rfl)) (by unfold Func.isWrapper; first | (rw [if_pos (by decide +kernel)]; kernel_rfl) | (rw [if_neg (by decide +kernel)]; exact ⟨rfl, rfl⟩))
    (fun os started H enc _ F => by rw [OpenClaim.pre_eq_preRow]; exact lifted os started H enc F)
theorem plain (f : FuncId) (fn : Func) (hf : Tryd.pinned.checked.prog.funcNamed "bedrock/bedrocklaw04.ImageZero" = some f) (hfn : Tryd.pinned.checked.prog.funcs[f]? = some fn) :
    false = Tryd.pinned.checked.prog.looks [] ∧ ∀ (j : Nat) t, fn.params[j]? = some t → Tryd.pinned.checked.prog.wantsStandIn t = false := by
  obtain rfl : f = 9 := Option.some.inj ((show Tryd.prog.funcNamed "bedrock/bedrocklaw04.ImageZero" = some 9 by kernel_rfl).symm.trans hf) |>.symm
  obtain rfl : fn = Tryd.f9 := (Option.some.inj (Tryd.func9.symm.trans hfn)).symm
  have hall : Tryd.f9.params.toList.all (fun t => !Tryd.prog.wantsStandIn t) = true := by kernel_rfl
  refine ⟨by kernel_rfl, fun j t ht => ?_⟩
  have := List.all_eq_true.1 hall t (by simpa using Array.mem_of_getElem? ht)
  exact (show Tryd.prog.wantsStandIn t = false by simpa using this)
/-- ████ THE STATEMENT: THE CARD ████ -/
theorem proved : Rows.ImageZeroCardSaid :=
  Claim7.holds_tied_plain_at .later [] _ _ _ _ said (fun _ h => by cases h) (by kernel_rfl) (fun _ h => by cases h) imageZero_row_tie rfl ⟨rfl, rfl⟩ (by kernel_rfl) rfl plain (by kernel_rfl)
#print axioms proved
end Go.Proofs.YtpfmongenmemdaaDoor.imageZero
