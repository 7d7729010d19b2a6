/-
  PROVED: the law SchedRuns answers true for every input, and each argument reads behind the call as before (Rows.SchedRunsSaid). No condition.
-/
import Derived.Test.YthnaogfcffmphaaRows
import Derived.Test.YthnaogfcffmphaaLaw
import Derived.Test.YthnaogfcffmphaaArgs
import Derived.Test.YthnaogfcffmphaaSFew
namespace Go.Proofs.Ythnaogfcffmphaa.schedRuns
open Go.ChangeShapes Go.WideShapes Go.ChangeAt Go.RowKit Go.Proofs.Ythnaogfcffmphaa.Law Go.Proofs.Ythnaogfcffmphaa.Args
set_option linter.unusedVariables false
set_option linter.unusedSimpArgs false
open Go.Proofs.Ythnaogfcffmphaa.Sched Go.Proofs.Ythnaogfcffmphaa.Mem Go.Proofs.Ythnaogfcffmphaa.Own
set_option maxRecDepth 100000 in
set_option maxHeartbeats 2000000 in
theorem walk (W : World) (A0 : Option Addr) (n0 c0 : Nat) (z0 : List Int) (l0 : z0.length = n0) (b0 : n0 ≤ c0) (m0 : c0 ≤ maxLen) (s0 : c0 * 1 ≤ 140737488351232) (r0 : IntsAt .i8 W W.heap.size A0 z0) (w0 : ∀ z ∈ z0, (Lit.int .i8 z).wf = true)
    (A1 : Option Addr) (n1 c1 : Nat) (z1 : List Int) (l1 : z1.length = n1) (b1 : n1 ≤ c1) (m1 : c1 ≤ maxLen) (s1 : c1 * 8 ≤ 140737488351232) (r1 : IntsAt .i64 W W.heap.size A1 z1) (w1 : ∀ z ∈ z1, (Lit.int .i64 z).wf = true) :
    Calls Try.prog 3 #[.slice A0 n0 c0, .slice A1 n1 c1] W fun e W' => e = .returned (.bool true) ∧ Below W.heap.size W W' := by
  have hn0 : n0 ≤ 140737488351232 := by omega
  have hn1 : n1 ≤ 9223372036854775807 := by omega
  have HR0 := Lib.hid r0
  have HR1 := Lib.hid r1
  have HW0 := Lib.hid w0
  have HW1 := Lib.hid w1
  have HL0 := Lib.hid l0
  have HL1 := Lib.hid l1
  clear r0 r1 w0 w1 l0 l1 b0 m0 s0 b1 m1 s1
  by_cases h300 : n1 ≤ 300
  · have h3 : ¬ ((300 : Int) < (n1 : Int)) := by omega
    have h3d : decide ((300 : Int) < (n1 : Int)) = false := by simpa using h3
    go_enter Try.func3, Try.ntmps3
    go_wp2_with (go_at_call 11; go_must (refine (awake_any _).mono ?_); rintro e wa ⟨rfl, hba⟩; have HBA := Lib.hid hba; clear hba)
    refine (few_any wa A0 n0 c0 z0 HL0.out hn0 (Lib.hid ((HR0.out.below HBA.out).more HBA.out.size)) HW0).mono ?_
    rintro e wb ⟨v, ys, rfl, hy6, HF⟩
    obtain ⟨An, cn, hv, _, _, _, hin⟩ := HF.out.own.form
    obtain ⟨m, hm⟩ : ∃ m, ys.length = m := ⟨_, rfl⟩
    rw [hm] at hv hy6
    subst hv
    have HIN := Lib.hid hin
    have HYM := Lib.hid hm
    have HBB : Hid (Below W.heap.size W wb) := Lib.hid (HBA.out.trans (HF.out.bel.mono HBA.out.size))
    have HSM := Lib.hid HF.out.small
    clear hin hm HF
    go_wp2_with fail
    refine (machines_any wb An m cn wb.heap.size ys (by omega) HYM.out HIN (Nat.le_refl _)).mono ?_
    rintro e wc ⟨ma, mc, B, rfl, HM⟩
    have HBC : Hid (Below W.heap.size W wc) := Lib.hid (HBB.out.trans (HM.out.2.2.mono HBB.out.size))
    have HLF : Hid (∀ i m, leftsOf ys i = some m → m ≤ 9223372036854775807) := Lib.hid (leftsOf_small HSM.out.wf)
    have HINC : Hid (IntsAt .i64 wc wb.heap.size An ys) := Lib.hid (HIN.out.below HM.out.2.2)
    go_wp2_with fail
    refine (run_any wc ⟨0, B, ma, mc, .nilIface, .nilIface⟩ m (leftsOf ys) A1 n1 c1 W.heap.size z1 (by omega) (by omega) HL1.out HLF.out HM.out.1 (Lib.hid fun w' ho => HR1.out.below (HBC.out.trans (RF_below ho HBC.out.size (fun i hi => Nat.le_trans HBB.out.size (HM.out.2.1 i hi))))) HW1).mono ?_
    rintro e wd ⟨vs, ve, rfl, H2⟩
    obtain ⟨As, cs, hs, _, _, _, his⟩ := H2.out.1.form
    obtain ⟨Ae, ce, he, _, _, _, hie⟩ := H2.out.2.1.form
    have HBD : Hid (Below W.heap.size W wd) := Lib.hid (HBC.out.trans (RF_below H2.out.2.2.2 HBC.out.size (fun i hi => Nat.le_trans HBB.out.size (HM.out.2.1 i hi))))
    have HIND : Hid (IntsAt .i64 wd wb.heap.size An ys) := Lib.hid (HINC.out.below (RF_below H2.out.2.2.2 HM.out.2.2.size (fun i hi => HM.out.2.1 i hi)))
    have hbd : wb.heap.size ≤ wd.heap.size := Nat.le_trans HM.out.2.2.size H2.out.2.2.2.size
    have okr := (X.Ok.init (n := m) HLF.out).run z1
    have hsl : ((X.init m (leftsOf ys)).run z1).steps.length ≤ 300 := by have := okr.steps; rw [HL1.out] at this; omega
    have hel : ((X.init m (leftsOf ys)).run z1).ended.length = m := okr.len.trans (X.run_n _ _)
    obtain ⟨ls, hls⟩ : ∃ ls, ((X.init m (leftsOf ys)).run z1).steps.length = ls := ⟨_, rfl⟩
    rw [hel] at he
    rw [hls] at hs hsl
    have HLS := Lib.hid hls
    have HEL := Lib.hid hel
    subst hs he
    have HIS := Lib.hid his
    have HIE := Lib.hid hie
    clear his hie okr hls hel H2 HM HINC HIN HBC HBA
    have BL := newPair wd (.slice As ls cs) (.slice Ae m ce) 27
    have HBL := Lib.hid BL
    go_wp2_with fail
    obtain ⟨we, hwe⟩ : ∃ we, we = wd.alloc (.cells #[.slice As ls cs, .slice Ae m ce] 27) := ⟨_, rfl⟩
    rw [← hwe]
    have HBE : Hid (Below wd.heap.size wd we) := Lib.hid (by rw [hwe]; exact (Below.refl _ _).alloc (Nat.le_refl _) _)
    have hes : we.heap.size = wd.heap.size + 1 := by rw [hwe]; simp
    have HWE := Lib.hid hwe
    have HBW : Hid (Below W.heap.size W we) := Lib.hid (HBD.out.trans (HBE.out.mono HBD.out.size))
    have HBLE : Hid (Blk we wd.heap.size 27 2 (pairG (.slice As ls cs) (.slice Ae m ce))) := Lib.hid (by rw [hwe]; exact BL)
    clear hwe BL HBL
    refine (rrun_any we An A1 m cn wb.heap.size n1 c1 W.heap.size ys z1 (by omega) (by omega) HYM.out HL1.out (Lib.hid (HIND.out.below (HBE.out.mono hbd))) (by omega) (Lib.hid (HR1.out.below HBW.out)) HBW.out.size HW1 HLF).mono ?_
    rintro e wf ⟨vs2, ve2, rfl, H3⟩
    obtain ⟨As2, cs2, hs2, _, _, _, his2⟩ := H3.out.1.steps.form
    obtain ⟨Ae2, ce2, he2, _, _, _, hie2⟩ := H3.out.1.ended.form
    rw [HLS.out] at hs2
    rw [HEL.out] at he2
    subst hs2 he2
    have HIS2 := Lib.hid his2
    have HIE2 := Lib.hid hie2
    have HEF := Lib.hid H3.out.2
    have BF := HBLE.out.below H3.out.2 HBLE.out.lt
    have k0 := BF.cell (o := 0) (by omega)
    have k1 := BF.cell (o := 1) (by omega)
    rw [pair0] at k0
    rw [pair1] at k1
    have hfs : wd.heap.size < wf.heap.size := BF.lt
    obtain ⟨bb, hbb⟩ : ∃ bb, wd.heap.size = bb := ⟨_, rfl⟩
    rw [hbb] at k0 k1 hfs ⊢
    have HBX := Lib.hid hbb
    clear his2 hie2 H3 BF hbb hes
    have HS1 : Hid (∀ w, Below wf.heap.size wf w → Calls Try.prog 16 #[.slice As ls cs, .slice As2 ls cs2] w fun e w' => e = .returned (.bool true) ∧ ∃ q, w' = w.drewN q) := Lib.hid fun w hb => by
      have h1 : Below wd.heap.size wd w := (HBE.out.trans (HEF.out.mono HBE.out.size)).trans (hb.mono (Nat.le_trans HBE.out.size HEF.out.size))
      have := same_ints As ls cs wd.heap.size _ As2 ls cs2 wf.heap.size _ w (by omega) HLS.out HLS.out (Lib.hid (HIS.out.below h1)) (Lib.hid (HIS2.out.below hb))
      rw [decide_eq_true rfl] at this
      exact this
    have HS2 : Hid (∀ w, Below wf.heap.size wf w → Calls Try.prog 16 #[.slice Ae m ce, .slice Ae2 m ce2] w fun e w' => e = .returned (.bool true) ∧ ∃ q, w' = w.drewN q) := Lib.hid fun w hb => by
      have h1 : Below wd.heap.size wd w := (HBE.out.trans (HEF.out.mono HBE.out.size)).trans (hb.mono (Nat.le_trans HBE.out.size HEF.out.size))
      have := same_ints Ae m ce wd.heap.size _ Ae2 m ce2 wf.heap.size _ w (by omega) HEL.out HEL.out (Lib.hid (HIE.out.below h1)) (Lib.hid (HIE2.out.below hb))
      rw [decide_eq_true rfl] at this
      exact this
    go_wp2_with fail
    have BN := newPair wf (.slice As2 ls cs2) (.slice Ae2 m ce2) 31
    have BX : Below wf.heap.size wf (wf.alloc (.cells #[.slice As2 ls cs2, .slice Ae2 m ce2] 31)) := (Below.refl _ _).alloc (Nat.le_refl _) _
    have j1 := (BX.cell (p := ⟨bb, 1, none⟩) hfs).trans k1
    obtain ⟨wg, hwg⟩ : ∃ wg, wg = wf.alloc (.cells #[.slice As2 ls cs2, .slice Ae2 m ce2] 31) := ⟨_, rfl⟩
    rw [← hwg] at BN BX j1 ⊢
    have i1 := BN.cell (o := 1) (by omega)
    rw [pair1] at i1
    have HBG := Lib.hid BX
    clear hwg BN BX k0 k1
    refine (HS1.out wg HBG.out).mono ?_
    rintro e wh ⟨rfl, q, rfl⟩
    have HS3 := Lib.hid (HS2.out (wg.drewN q) (below_draws HBG.out q))
    go_wp2_with fail
    refine HS3.out.mono ?_
    rintro e wi ⟨rfl, q2, rfl⟩
    go_wp2
    go_ret
    exact ⟨rfl, below_draws (HBW.out.trans ((HEF.out.trans (HBG.out.mono HEF.out.size)).mono HBW.out.size)) (q + q2)⟩
  · have h3 : (300 : Int) < (n1 : Int) := by omega
    go_enter Try.func3, Try.ntmps3
    go_wp2_with fail
    refine (awake_any _).mono ?_
    rintro e wa ⟨rfl, hba⟩
    have HBA := Lib.hid hba
    clear hba
    go_wp2_with fail
    refine (awake_any _).mono ?_
    rintro e wb ⟨rfl, hbb⟩
    have HBB := Lib.hid hbb
    clear hbb
    go_wp2
    go_ret
    exact ⟨rfl, HBA.out.trans (HBB.out.mono HBA.out.size)⟩

/-! ### the frame -/
theorem cells3 : Try.prog.cellsOf 3 = 1 := by kernel_rfl
theorem cells46 : Try.prog.cellsOf 46 = 1 := by kernel_rfl
theorem own : ownKnob Try.prog.godebug = none := by kernel_rfl
set_option maxRecDepth 100000 in
theorem calls {H : Type} {enc : TypeId × Value → H} (W : World) (base : Nat) (args : Array Value) (ds : List (DataW H)) (p : List MemPlace)
    (hval0 : ∀ (j : Nat) t v, Try.f3.params[j]? = some t → args[j]? = some v → Value.okWide Try.prog W .any base t v)
    (hA : DataW.TrodAll enc Try.prog W 0 (fun _ => true) true Try.f3.params.toList args.toList ds p) (_ : W.noneFrozen p)
    (hsz : (DataW.weightsEach Try.prog Try.f3.params.toList ds).all (· ≤ reachBytes) = true) :
    Calls Try.prog 3 args W fun e W' => e = .returned (.bool true) ∧ Below W.heap.size W W' := by
  have hval : ∀ (j : Nat) t v, Try.f3.params[j]? = some t → args[j]? = some v → Value.okWide Try.prog W .any base t v := hval0
  clear hval0
  rw [Try.params3] at hA hval hsz
  obtain ⟨v0, vs0, d0, ds0, p0, q0, hargs, rfl, rfl, h0, r'0⟩ := trodAll_cons hA
  obtain ⟨v1, vs1, d1, ds1, p1, q1, rfl, rfl, rfl, h1, r'1⟩ := trodAll_cons r'0
  obtain ⟨rfl, rfl, rfl⟩ := trodAll_nil r'1
  obtain rfl : args = #[v0, v1] := by cases args; simp_all
  obtain ⟨A0, n0, c0, z0, rfl, l0, b0, m0, s0, r0, w0⟩ := open_slice_ints (j := 0) (bytes := 1) Try.underlying22 Try.underlying46 cells46 (by kernel_rfl) (hval 0 22 v0 rfl rfl) h0 hsz rfl rfl
  obtain ⟨A1, n1, c1, z1, rfl, l1, b1, m1, s1, r1, w1⟩ := open_slice_ints (j := 1) (bytes := 8) Try.underlying23 Try.underlying3 cells3 (by kernel_rfl) (hval 1 23 v1 rfl rfl) h1 hsz rfl rfl
  exact walk (W := W) A0 n0 c0 z0 l0 b0 m0 s0 r0 w0 A1 n1 c1 z1 l1 b1 m1 s1 r1 w1
set_option maxRecDepth 100000 in
theorem lifted (os : Os) (started : os.Started) (H : Type) (enc : TypeId × Value → H) :
    ReturnsInHanded {} Try.checked os 3 .any (Rows.schedRunsSpec.pre6 enc Try.prog Try.f3 Rows.schedRunsRow.domain false) (Rows.schedRunsSpec.post enc Try.prog Try.f3 false true false false) :=
  law_lifted (C := Try.checked) (s := Rows.schedRunsSpec) (b := 4) own (by kernel_rfl) Try.func3 (by kernel_rfl) (by kernel_rfl) rfl Try.underlying4 rfl
    (fun ds h => by match ds, h with | [_, _], _ => rfl) calls os started
    (ChangeSpec.witness6 (enc := enc) (C := Try.checked) false ⟨#[], #[.slice none 0 0, .slice none 0 0], []⟩ 8 (by kernel_rfl) (by kernel_rfl) (by kernel_rfl) (by kernel_rfl))
/-- ████ THE STATEMENT ████ -/
theorem proved : Rows.SchedRunsSaid :=
  OpenClaim.holds_of_wide 3 Try.f3 rfl rfl rfl rfl rfl rfl rfl ⟨rfl, rfl, rfl, rfl, rfl⟩ rfl rfl rfl rfl rfl (by kernel_rfl) Try.func3 (by kernel_rfl)
    (of_decide_eq_true (by kernel_rfl)) (by unfold Func.isWrapper; first | (rw [if_pos (by decide +kernel)]; kernel_rfl) | (rw [if_neg (by decide +kernel)]; exact ⟨rfl, rfl⟩))
    (fun os started H enc _ => lifted os started H enc)
#print axioms proved
end Go.Proofs.Ythnaogfcffmphaa.schedRuns
