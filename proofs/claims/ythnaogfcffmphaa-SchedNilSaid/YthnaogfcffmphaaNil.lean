/-
  PROVED: the law SchedNil answers true for every input, and each argument reads behind the call as before (Rows.SchedNilSaid). No condition.
-/
import Derived.Test.YthnaogfcffmphaaRows
import Derived.Test.YthnaogfcffmphaaLaw
import Derived.Test.YthnaogfcffmphaaArgs
import Derived.Test.YthnaogfcffmphaaSNil0
namespace Go.Proofs.Ythnaogfcffmphaa.schedNil
open Go.ChangeShapes Go.WideShapes Go.ChangeAt Go.RowKit Go.Proofs.Ythnaogfcffmphaa.Law Go.Proofs.Ythnaogfcffmphaa.Args
set_option linter.unusedVariables false
set_option linter.unusedSimpArgs false
open Go.Proofs.Ythnaogfcffmphaa.Sched Go.Proofs.Ythnaogfcffmphaa.Mem Go.Proofs.Ythnaogfcffmphaa.Own
set_option maxRecDepth 100000 in
set_option maxHeartbeats 4000000 in
theorem walk (W : World) (A0 : Option Addr) (n0 c0 : Nat) (z0 : List Int) (l0 : z0.length = n0) (b0 : n0 ≤ c0) (m0 : c0 ≤ maxLen) (s0 : c0 * 8 ≤ 140737488351232) (r0 : IntsAt .i64 W W.heap.size A0 z0) (w0 : ∀ z ∈ z0, (Lit.int .i64 z).wf = true)
    (a1 : Int) (w1 : (Lit.int .i64 a1).wf = true) (a2 : Int) (w2 : (Lit.int .u8 a2).wf = true) :
    Calls Try.prog 10 #[.slice A0 n0 c0, .int .i64 a1, .int .u8 a2] W fun e W' => e = .returned (.bool true) ∧ Below W.heap.size W W' := by
  have hn0 : n0 ≤ 9223372036854775807 := by omega
  have HR0 := Lib.hid r0
  have HW0 := Lib.hid w0
  have HL0 := Lib.hid l0
  obtain ⟨q1, q2⟩ : -9223372036854775808 ≤ a1 ∧ a1 ≤ 9223372036854775807 := by simpa [Lit.wf, IntKind.min, IntKind.max, IntKind.bits, IntKind.signed] using w1
  obtain ⟨q3, q4⟩ : 0 ≤ a2 ∧ a2 ≤ 255 := by simpa [Lit.wf, IntKind.min, IntKind.max, IntKind.bits, IntKind.signed] using w2
  clear r0 w0 l0 b0 m0 s0 w1 w2
  by_cases h100 : n0 ≤ 100
  · have h3 : ¬ ((100 : Int) < (n0 : Int)) := by omega
    have h3d : decide ((100 : Int) < (n0 : Int)) = false := by simpa using h3
    obtain ⟨k, hk⟩ : ∃ k : Nat, 1 + a2 % 5 = (k : Int) := ⟨(1 + a2 % 5).toNat, by omega⟩
    have hk1 : 1 ≤ k := by omega
    have hk5 : k ≤ 5 := by omega
    have hkt : a2.tmod 5 = a2 % 5 := by rw [Int.tmod_eq_emod_of_nonneg q3]
    obtain ⟨x2, hx2⟩ : ∃ x2, a2 % 5 = x2 := ⟨_, rfl⟩
    rw [hx2] at hkt hk
    have hx2l : 0 ≤ x2 := by omega
    have hx2h : x2 ≤ 4 := by omega
    have hwx : IntKind.i64.wrap x2 = x2 := IntWalk.i64_in _ ⟨by omega, by omega⟩
    have hneed : need (k : Int) = k := by have := need_more (n := (k : Int)) (by omega); omega
    have HNEED := Lib.hid hneed
    obtain ⟨n1, n2, n3, n4⟩ := nilLit k hk1 hk5
    have HN1 := Lib.hid n1
    have HN2 := Lib.hid n2
    have HN3 := Lib.hid n3
    have HINV := Lib.hid (nilInv k hk1 hk5)
    clear n1 n2 n3 n4 hneed
    go_enter Try.func10, Try.ntmps10
    go_wp2_with (go_at_call 11; go_must (refine (awake_any _).mono ?_); rintro e wa ⟨rfl, hba⟩; have HBA := Lib.hid hba; clear hba)
    refine (run_any wa ⟨0, fun _ => 0, none, 0, .nilIface, .nilIface⟩ 0 noLeft A0 n0 c0 W.heap.size z0 (by omega) (by omega) HL0.out (fun i m h => by cases h) (objs0 wa) (Lib.hid fun w' ho => HR0.out.below (HBA.out.trans (RF_below ho HBA.out.size (fun i hi => absurd hi (by simp [X.init]))))) HW0).mono ?_
    rintro e wb ⟨vs, ve, rfl, H1⟩
    have h1 := H1.out
    rw [run0] at h1
    obtain ⟨As, cs, hs, _⟩ := h1.1.form
    obtain ⟨Ae, ce, he, _⟩ := h1.2.1.form
    have hs' : vs = .slice As 0 cs := hs
    have he' : ve = .slice Ae 0 ce := he
    have HBB : Hid (Below W.heap.size W wb) := Lib.hid (HBA.out.trans (RF_below h1.2.2.2 HBA.out.size (fun i hi => absurd hi (by simp [X.init]))))
    subst hs' he'
    have HBL := Lib.hid (newPair wb (.slice As 0 cs) (.slice Ae 0 ce) 27)
    clear h1 H1 hs he
    go_wp2_with fail
    obtain ⟨wc, hwc⟩ : ∃ wc, wc = wb.alloc (.cells #[.slice As 0 cs, .slice Ae 0 ce] 27) := ⟨_, rfl⟩
    rw [← hwc] at HBL ⊢
    have HBC : Hid (Below W.heap.size W wc) := Lib.hid (by rw [hwc]; exact HBB.out.alloc HBB.out.size _)
    obtain ⟨b1, hb1⟩ : ∃ b1, wb.heap.size = b1 := ⟨_, rfl⟩
    rw [hb1] at HBL ⊢
    clear hwc hb1
    refine (robin_any wc ⟨0, fun _ => 0, none, 0, .nilIface, .nilIface⟩ 0 0 noLeft a1 (by omega) (by omega) q1 q2 inv0 (objs0 wc)).mono ?_
    rw [rr0]
    rintro e wd ⟨vs2, ve2, rfl, H2⟩
    obtain ⟨As2, cs2, hs2, _⟩ := H2.out.steps.form
    obtain ⟨Ae2, ce2, he2, _⟩ := H2.out.ended.form
    have hs2' : vs2 = .slice As2 0 cs2 := hs2
    have he2' : ve2 = .slice Ae2 0 ce2 := he2
    have hrf : Below wc.heap.size wc wd := RF_below H2.out.only (Nat.le_refl _) (fun i hi => absurd hi (by simp [X.init]))
    have HBD : Hid (Below W.heap.size W wd) := Lib.hid (HBC.out.trans (hrf.mono HBC.out.size))
    have HBL2 := Lib.hid (HBL.out.below hrf HBL.out.lt)
    subst hs2' he2'
    have hdz : decide ((X.init 0 noLeft).running = 0) = true := by decide
    rw [hdz]
    have HBM := Lib.hid (newPair wd (.slice As2 0 cs2) (.slice Ae2 0 ce2) 27)
    have HBL3 := Lib.hid (HBL2.out.alloc (.cells #[.slice As2 0 cs2, .slice Ae2 0 ce2] 27))
    clear hs2 he2 H2 hrf hdz
    go_wp2_with fail
    obtain ⟨we, hwe⟩ : ∃ we, we = wd.alloc (.cells #[.slice As2 0 cs2, .slice Ae2 0 ce2] 27) := ⟨_, rfl⟩
    have HBE : Hid (Below W.heap.size W we) := Lib.hid (by rw [hwe]; exact HBD.out.alloc HBD.out.size _)
    rw [← hwe] at HBL3 HBM ⊢
    obtain ⟨b2, hb2⟩ : ∃ b2, wd.heap.size = b2 := ⟨_, rfl⟩
    rw [hb2] at HBM ⊢
    clear hwe hb2 HBL2 HBL
    refine (of_any (k : Int) we).mono ?_
    rintro e wf ⟨rfl, HF⟩
    have HBF : Hid (Below W.heap.size W wf) := Lib.hid (HBE.out.trans (HF.out.2.mono HBE.out.size))
    have HST : Hid (IsSteps wf we.heap.size k) := Lib.hid (by have := HF.out.1; rwa [HNEED.out] at this)
    have HBL4 := Lib.hid (HBL3.out.below HF.out.2 HBL3.out.lt)
    have HBM4 := Lib.hid (HBM.out.below HF.out.2 HBM.out.lt)
    obtain ⟨g, hg⟩ : ∃ g, we.heap.size = g := ⟨_, rfl⟩
    have hgw : W.heap.size ≤ g := by have := HBE.out.size; omega
    rw [hg] at HST ⊢
    clear hg HF HBL3 HBM
    go_wp2_with fail
    have HOB := Lib.hid (objsNil HST.out)
    have HBG : Hid (Below W.heap.size W (wf.alloc (.cells #[.nilIface, .iface 41 (.pointer (some ⟨g, 0, none⟩))] 83))) := Lib.hid (HBF.out.alloc HBF.out.size _)
    have HBL5 := Lib.hid (HBL4.out.alloc (.cells #[.nilIface, .iface 41 (.pointer (some ⟨g, 0, none⟩))] 83))
    have HBM5 := Lib.hid (HBM4.out.alloc (.cells #[.nilIface, .iface 41 (.pointer (some ⟨g, 0, none⟩))] 83))
    have tst : Tag (wf.alloc (.cells #[.nilIface, .iface 41 (.pointer (some ⟨g, 0, none⟩))] 83)) g 81 := blk_tag (Blk.alloc HST.out _)
    have HTS := Lib.hid tst
    refine (robin_any _ ⟨0, fun _ => g, some ⟨wf.heap.size, 0, none⟩, 2, .nilIface, .nilIface⟩ 2 k (leftNil k) 10 (by omega) (by omega) (by decide) (by decide) HINV.out HOB.out).mono ?_
    rintro e wg ⟨vs3, ve3, rfl, H3⟩
    obtain ⟨As3, cs3, hs3, _⟩ := H3.out.steps.form
    obtain ⟨Ae3, ce3, he3, _, _, _, hie3⟩ := H3.out.ended.form
    rw [HN1.out] at hs3
    rw [HN2.out] at he3 hie3
    have he3' : ve3 = .slice Ae3 2 ce3 := he3
    subst hs3 he3'
    have hz3 : decide ((X.rr 10 (k + 1) (X.init 2 (leftNil k))).running = 0) = true := by rw [HN3.out]; rfl
    rw [hz3]
    have HIE := Lib.hid hie3
    have HBH : Hid (Below W.heap.size W wg) := Lib.hid (HBG.out.trans (RF_below H3.out.only HBG.out.size (fun i hi => hgw)))
    have nRF : ∀ {x T n G}, Blk (wf.alloc (.cells #[.nilIface, .iface 41 (.pointer (some ⟨g, 0, none⟩))] 83)) x T n G → T ≠ 81 → ¬ RF (wf.alloc (.cells #[.nilIface, .iface 41 (.pointer (some ⟨g, 0, none⟩))] 83)).heap.size ⟨0, fun _ => g, some ⟨wf.heap.size, 0, none⟩, 2, .nilIface, .nilIface⟩ (X.init 2 (leftNil k)) x := fun {x T n G} hb hT hf => by
      rcases hf with hf | ⟨i, _, _, e⟩
      · have := hb.lt; omega
      · have e' : x = g := e
        subst e'
        exact (blk_tag hb).ne HTS.out hT rfl
    have BL6 := (H3.out.only.blk HBL5.out (nRF HBL5.out (by decide))).alloc (.cells #[.slice As3 k cs3, .slice Ae3 2 ce3] 27)
    have BM6 := (H3.out.only.blk HBM5.out (nRF HBM5.out (by decide))).alloc (.cells #[.slice As3 k cs3, .slice Ae3 2 ce3] 27)
    have BN6 := newPair wg (.slice As3 k cs3) (.slice Ae3 2 ce3) 27
    have HBI : Hid (Below wg.heap.size wg (wg.alloc (.cells #[.slice As3 k cs3, .slice Ae3 2 ce3] 27))) := Lib.hid ((Below.refl _ _).alloc (Nat.le_refl _) _)
    have l0 := BL6.cell (o := 0) (by omega)
    have l1 := BL6.cell (o := 1) (by omega)
    have k0 := BM6.cell (o := 0) (by omega)
    have k1 := BM6.cell (o := 1) (by omega)
    have i0 := BN6.cell (o := 0) (by omega)
    have i1 := BN6.cell (o := 1) (by omega)
    rw [pair0] at l0 k0 i0
    rw [pair1] at l1 k1 i1
    have hks : (k : Int) - 1 ≤ 4 := by omega
    have hkk : ((k : Int) == (k : Int)) = true := by simp
    have HS : Hid (∀ (w : World) (b : Nat), Below wg.heap.size wg w → w.heap.size = b → Calls Try.prog 16 #[.slice Ae3 2 ce3, .slice (some ⟨b, 0, none⟩) 2 2] (w.alloc (.cells #[.int .i64 (-1), .int .i64 ((k : Int) - 1)] 3)) fun e w' => e = .returned (.bool true) ∧ ∃ q, w' = (w.alloc (.cells #[.int .i64 (-1), .int .i64 ((k : Int) - 1)] 3)).drewN q) := Lib.hid fun w b hb he => by
      subst he
      have := same_ints Ae3 2 ce3 wg.heap.size [-1, (k : Int) - 1] (some ⟨w.heap.size, 0, none⟩) 2 2 (w.heap.size + 1) [-1, (k : Int) - 1] _ (by decide) rfl rfl (Lib.hid (HIE.out.below (hb.alloc hb.size _))) (Lib.hid (IntsAt.new .i64 w 3 (0, 0) [-1, (k : Int) - 1]))
      rw [decide_eq_true rfl] at this
      exact this
    obtain ⟨wz, hwz⟩ : ∃ wz, wz = wg.alloc (.cells #[.slice As3 k cs3, .slice Ae3 2 ce3] 27) := ⟨_, rfl⟩
    have hzs : wz.heap.size = wg.heap.size + 1 := by rw [hwz]; simp
    have HS3 := Lib.hid (HS.out wz (wg.heap.size + 1) (by rw [hwz]; exact HBI.out) hzs)
    have HWZ := Lib.hid hwz
    rw [hwz] at HS3
    have BN7 := Lib.hid (BN6.alloc (.cells #[.int .i64 (-1), .int .i64 ((k : Int) - 1)] 3))
    clear hie3 he3 H3 nRF tst BL6 BM6 BN6 hwz hzs
    go_wp2_with fail
    refine HS3.out.mono ?_
    rintro e wy ⟨rfl, q, rfl⟩
    have j0 := (BN7.out.drewN q).cell (o := 0) (by omega)
    rw [pair0] at j0
    have HFI : Hid (Below W.heap.size W (((wg.alloc (.cells #[.slice As3 k cs3, .slice Ae3 2 ce3] 27)).alloc (.cells #[.int .i64 (-1), .int .i64 ((k : Int) - 1)] 3)).drewN q)) := Lib.hid (HBH.out.trans ((below_draws (HBI.out.alloc HBI.out.size _) q).mono HBH.out.size))
    generalize ((wg.alloc (.cells #[.slice As3 k cs3, .slice Ae3 2 ce3] 27)).alloc (.cells #[.int .i64 (-1), .int .i64 ((k : Int) - 1)] 3)).drewN q = wy at *
    go_wp2_with (first
      | (go_at_call 22; go_must (refine (finish_nil _ _).mono ?_); rintro e wx ⟨rfl, rfl⟩)
      | (go_at_call 23; go_must (refine (step_nil _).mono ?_); rintro e wx ⟨rfl, rfl⟩)
      | (go_at_call 21; go_must (refine (left_nil _).mono ?_); rintro e wx ⟨rfl, rfl⟩))
    go_ret
    exact ⟨rfl, HFI.out⟩
  · have h3 : (100 : Int) < (n0 : Int) := by omega
    go_enter Try.func10, Try.ntmps10
    go_wp2_with fail
    refine (awake_any _).mono ?_
    rintro e wa ⟨rfl, hba⟩
    have HBA := Lib.hid hba
    clear hba
    go_wp2_with fail
    refine (awake_any _).mono ?_
    rintro e wb ⟨rfl, hbb⟩
    have HBB := Lib.hid hbb
    clear hbb
    go_wp2
    go_ret
    exact ⟨rfl, HBA.out.trans (HBB.out.mono HBA.out.size)⟩

/-! ### the frame -/
theorem cells3 : Try.prog.cellsOf 3 = 1 := by kernel_rfl
theorem own : ownKnob Try.prog.godebug = none := by kernel_rfl
set_option maxRecDepth 100000 in
theorem calls {H : Type} {enc : TypeId × Value → H} (W : World) (base : Nat) (args : Array Value) (ds : List (DataW H)) (p : List MemPlace)
    (hval0 : ∀ (j : Nat) t v, Try.f10.params[j]? = some t → args[j]? = some v → Value.okWide Try.prog W .any base t v)
    (hA : DataW.TrodAll enc Try.prog W 0 (fun _ => true) true Try.f10.params.toList args.toList ds p) (_ : W.noneFrozen p)
    (hsz : (DataW.weightsEach Try.prog Try.f10.params.toList ds).all (· ≤ reachBytes) = true) :
    Calls Try.prog 10 args W fun e W' => e = .returned (.bool true) ∧ Below W.heap.size W W' := by
  have hval : ∀ (j : Nat) t v, Try.f10.params[j]? = some t → args[j]? = some v → Value.okWide Try.prog W .any base t v := hval0
  clear hval0
  rw [Try.params10] at hA hval hsz
  obtain ⟨v0, vs0, d0, ds0, p0, q0, hargs, rfl, rfl, h0, r'0⟩ := trodAll_cons hA
  obtain ⟨v1, vs1, d1, ds1, p1, q1, rfl, rfl, rfl, h1, r'1⟩ := trodAll_cons r'0
  obtain ⟨v2, vs2, d2, ds2, p2, q2, rfl, rfl, rfl, h2, r'2⟩ := trodAll_cons r'1
  obtain ⟨rfl, rfl, rfl⟩ := trodAll_nil r'2
  obtain rfl : args = #[v0, v1, v2] := by cases args; simp_all
  obtain ⟨A0, n0, c0, z0, rfl, l0, b0, m0, s0, r0, w0⟩ := open_slice_ints (j := 0) (bytes := 8) Try.underlying23 Try.underlying3 cells3 (by kernel_rfl) (hval 0 23 v0 rfl rfl) h0 hsz rfl rfl
  obtain ⟨a1, rfl, rfl, rfl, w1⟩ := open_int Try.underlying3 (hval 1 3 v1 rfl rfl) h1
  obtain ⟨a2, rfl, rfl, rfl, w2⟩ := open_int Try.underlying5 (hval 2 5 v2 rfl rfl) h2
  exact walk (W := W) A0 n0 c0 z0 l0 b0 m0 s0 r0 w0 a1 w1 a2 w2
set_option maxRecDepth 100000 in
theorem lifted (os : Os) (started : os.Started) (H : Type) (enc : TypeId × Value → H) :
    ReturnsInHanded {} Try.checked os 10 .any (Rows.schedNilSpec.pre6 enc Try.prog Try.f10 Rows.schedNilRow.domain false) (Rows.schedNilSpec.post enc Try.prog Try.f10 false true false false) :=
  law_lifted (C := Try.checked) (s := Rows.schedNilSpec) (b := 4) own (by kernel_rfl) Try.func10 (by kernel_rfl) (by kernel_rfl) rfl Try.underlying4 rfl
    (fun ds h => by match ds, h with | [_, _, _], _ => rfl) calls os started
    (ChangeSpec.witness6 (enc := enc) (C := Try.checked) false ⟨#[], #[.slice none 0 0, .int .i64 0, .int .u8 0], []⟩ 8 (by kernel_rfl) (by kernel_rfl) (by kernel_rfl) (by kernel_rfl))
/-- ████ THE STATEMENT ████ -/
theorem proved : Rows.SchedNilSaid :=
  OpenClaim.holds_of_wide 10 Try.f10 rfl rfl rfl rfl rfl rfl rfl ⟨rfl, rfl, rfl, rfl, rfl⟩ rfl rfl rfl rfl rfl (by kernel_rfl) Try.func10 (by kernel_rfl)
    (of_decide_eq_true (by kernel_rfl)) (by unfold Func.isWrapper; first | (rw [if_pos (by decide +kernel)]; kernel_rfl) | (rw [if_neg (by decide +kernel)]; exact ⟨rfl, rfl⟩))
    (fun os started H enc _ => lifted os started H enc)
#print axioms proved
end Go.Proofs.Ythnaogfcffmphaa.schedNil
