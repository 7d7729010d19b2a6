/-
  PROVED: the law SchedRounds answers true for every input, and each argument reads behind the call as before (Rows.SchedRoundsSaid). No condition.
-/
import Derived.Test.YthnaogfcffmphaaRows
import Derived.Test.YthnaogfcffmphaaLaw
import Derived.Test.YthnaogfcffmphaaArgs
import Derived.Test.YthnaogfcffmphaaSRounds0
namespace Go.Proofs.Ythnaogfcffmphaa.schedRounds
open Go.ChangeShapes Go.WideShapes Go.ChangeAt Go.RowKit Go.Proofs.Ythnaogfcffmphaa.Law Go.Proofs.Ythnaogfcffmphaa.Args
set_option linter.unusedVariables false
set_option linter.unusedSimpArgs false
open Go.Proofs.Ythnaogfcffmphaa.Sched Go.Proofs.Ythnaogfcffmphaa.Mem Go.Proofs.Ythnaogfcffmphaa.Own
set_option maxRecDepth 100000 in
set_option maxHeartbeats 2000000 in
theorem walk (W : World) (A0 : Option Addr) (n0 c0 : Nat) (z0 : List Int) (l0 : z0.length = n0) (b0 : n0 ≤ c0) (m0 : c0 ≤ maxLen) (s0 : c0 * 1 ≤ 140737488351232) (r0 : IntsAt .i8 W W.heap.size A0 z0) (w0 : ∀ z ∈ z0, (Lit.int .i8 z).wf = true)
    (a1 : Int) (w1 : (Lit.int .i64 a1).wf = true) :
    Calls Try.prog 4 #[.slice A0 n0 c0, .int .i64 a1] W fun e W' => e = .returned (.bool true) ∧ Below W.heap.size W W' := by
  have hn0 : n0 ≤ 140737488351232 := by omega
  have HR0 := Lib.hid r0
  have HW0 := Lib.hid w0
  have HL0 := Lib.hid l0
  obtain ⟨q1, q2⟩ : -9223372036854775808 ≤ a1 ∧ a1 ≤ 9223372036854775807 := by simpa [Lit.wf, IntKind.min, IntKind.max, IntKind.bits, IntKind.signed] using w1
  clear r0 w0 l0 b0 m0 s0 w1
  go_enter Try.func4, Try.ntmps4
  go_wp2_with (go_at_call 11; go_must (refine (awake_any _).mono ?_); rintro e wa ⟨rfl, hba⟩; have HBA := Lib.hid hba; clear hba)
  refine (few_any wa A0 n0 c0 z0 HL0.out hn0 (Lib.hid ((HR0.out.below HBA.out).more HBA.out.size)) HW0).mono ?_
  rintro e wb ⟨v, ys, rfl, hy6, HF⟩
  obtain ⟨An, cn, hv, _, _, _, hin⟩ := HF.out.own.form
  obtain ⟨m, hm⟩ : ∃ m, ys.length = m := ⟨_, rfl⟩
  rw [hm] at hv hy6
  subst hv
  have HIN := Lib.hid hin
  have HYM := Lib.hid hm
  have HBB : Hid (Below W.heap.size W wb) := Lib.hid (HBA.out.trans (HF.out.bel.mono HBA.out.size))
  have HSM := Lib.hid HF.out.small
  clear hin hm HF
  go_wp2_with fail
  refine (machines_any wb An m cn wb.heap.size ys (by omega) HYM.out HIN (Nat.le_refl _)).mono ?_
  rintro e wc ⟨ma, mc, B, rfl, HM⟩
  have HBC : Hid (Below W.heap.size W wc) := Lib.hid (HBB.out.trans (HM.out.2.2.mono HBB.out.size))
  have HINC : Hid (IntsAt .i64 wc wb.heap.size An ys) := Lib.hid (HIN.out.below HM.out.2.2)
  obtain ⟨hinv, htot⟩ := init_inv (m := m) HSM.out
  obtain ⟨T, hT⟩ : ∃ T, (X.init m (leftsOf ys)).tot = T := ⟨_, rfl⟩
  rw [hT] at hinv htot
  have HINV := Lib.hid hinv
  have hT1 : T ≤ 120 := by omega
  obtain ⟨hri, hrr⟩ := rr_inv (bd := a1) (T + 1) _ hinv (refOk_init m ys)
  obtain ⟨R, hR⟩ : ∃ R, X.rr a1 (T + 1) (X.init m (leftsOf ys)) = R := ⟨_, rfl⟩
  rw [hR] at hri hrr
  have HRI := Lib.hid hri
  have HRO := Lib.hid hrr
  have HRT := Lib.hid hR
  clear hinv htot hT hri hrr hR
  go_wp2_with fail
  refine (robin_any wc ⟨0, B, ma, mc, .nilIface, .nilIface⟩ m T (leftsOf ys) a1 (by omega) (by omega) q1 q2 HINV.out HM.out.1).mono ?_
  rw [HRT.out]
  rintro e wd ⟨vs, ve, rfl, H2⟩
  obtain ⟨As, cs, hs, _, _, _, his⟩ := H2.out.steps.form
  obtain ⟨Ae, ce, he, _, _, _, hie⟩ := H2.out.ended.form
  have HBD : Hid (Below W.heap.size W wd) := Lib.hid (HBC.out.trans (RF_below H2.out.only HBC.out.size (fun i hi => Nat.le_trans HBB.out.size (HM.out.2.1 i hi))))
  have HIND : Hid (IntsAt .i64 wd wb.heap.size An ys) := Lib.hid (HINC.out.below (RF_below H2.out.only HM.out.2.2.size (fun i hi => HM.out.2.1 i hi)))
  have hbd : wb.heap.size ≤ wd.heap.size := Nat.le_trans HM.out.2.2.size H2.out.only.size
  have hsl : R.steps.length ≤ 300 := by have := HRI.out.ok.steps; omega
  have hel : R.ended.length = m := HRI.out.bounded.len.trans HRI.out.n
  obtain ⟨ls, hls⟩ : ∃ ls, R.steps.length = ls := ⟨_, rfl⟩
  rw [hel] at he
  rw [hls] at hs hsl
  have HLS := Lib.hid hls
  have HEL := Lib.hid hel
  subst hs he
  have HIS := Lib.hid his
  have HIE := Lib.hid hie
  obtain ⟨ok, hok⟩ : ∃ ok, decide (R.running = 0) = ok := ⟨_, rfl⟩
  rw [hok]
  have HOK : Hid (allOver R.ended = ok) := Lib.hid ((allOver_running HRO.out HRI.out.bounded.len).trans hok)
  clear his hie hls hel H2 HM HINC HIN HBC HBA hok
  have BL := newPair wd (.slice As ls cs) (.slice Ae m ce) 27
  have HBL := Lib.hid BL
  go_wp2_with fail
  obtain ⟨we, hwe⟩ : ∃ we, we = wd.alloc (.cells #[.slice As ls cs, .slice Ae m ce] 27) := ⟨_, rfl⟩
  rw [← hwe]
  have HBE : Hid (Below wd.heap.size wd we) := Lib.hid (by rw [hwe]; exact (Below.refl _ _).alloc (Nat.le_refl _) _)
  have HBW : Hid (Below W.heap.size W we) := Lib.hid (HBD.out.trans (HBE.out.mono HBD.out.size))
  have HBLE : Hid (Blk we wd.heap.size 27 2 (pairG (.slice As ls cs) (.slice Ae m ce))) := Lib.hid (by rw [hwe]; exact BL)
  have hes : wd.heap.size ≤ we.heap.size := HBE.out.size
  clear hwe BL HBL
  refine (rrobin_any we An m cn wb.heap.size T ys a1 (by omega) HYM.out (Lib.hid (HIND.out.below (HBE.out.mono hbd))) (by omega) (by omega) q1 q2 HINV.out).mono ?_
  rw [HRT.out]
  rintro e wf ⟨vs2, ve2, rfl, H3⟩
  obtain ⟨As2, cs2, hs2, _, _, _, his2⟩ := H3.out.1.steps.form
  obtain ⟨Ae2, ce2, he2, _, _, _, hie2⟩ := H3.out.1.ended.form
  rw [HLS.out] at hs2
  rw [HEL.out] at he2
  subst hs2 he2
  have HIS2 := Lib.hid his2
  have HIE2 := Lib.hid hie2
  have HEF := Lib.hid H3.out.2
  have BF := HBLE.out.below H3.out.2 HBLE.out.lt
  have HBF := Lib.hid BF
  have hfs : wd.heap.size < wf.heap.size := BF.lt
  obtain ⟨bb, hbb⟩ : ∃ bb, wd.heap.size = bb := ⟨_, rfl⟩
  have HS1 : Hid (∀ w, Below wf.heap.size wf w → Calls Try.prog 16 #[.slice As ls cs, .slice As2 ls cs2] w fun e w' => e = .returned (.bool true) ∧ ∃ q, w' = w.drewN q) := Lib.hid fun w hb => by
    have h1 : Below wd.heap.size wd w := (HBE.out.trans (HEF.out.mono HBE.out.size)).trans (hb.mono (Nat.le_trans HBE.out.size HEF.out.size))
    have := same_ints As ls cs wd.heap.size _ As2 ls cs2 wf.heap.size _ w (by omega) HLS.out HLS.out (Lib.hid (HIS.out.below h1)) (Lib.hid (HIS2.out.below hb))
    rw [decide_eq_true rfl] at this
    exact this
  have HS2 : Hid (∀ w, Below wf.heap.size wf w → Calls Try.prog 16 #[.slice Ae m ce, .slice Ae2 m ce2] w fun e w' => e = .returned (.bool true) ∧ ∃ q, w' = w.drewN q) := Lib.hid fun w hb => by
    have h1 : Below wd.heap.size wd w := (HBE.out.trans (HEF.out.mono HBE.out.size)).trans (hb.mono (Nat.le_trans HBE.out.size HEF.out.size))
    have := same_ints Ae m ce wd.heap.size _ Ae2 m ce2 wf.heap.size _ w (by omega) HEL.out HEL.out (Lib.hid (HIE.out.below h1)) (Lib.hid (HIE2.out.below hb))
    rw [decide_eq_true rfl] at this
    exact this
  have HALL : Hid (∀ w, Below wf.heap.size wf w → Calls Try.prog 19 #[.agg #[.slice As2 ls cs2, .slice Ae2 m ce2]] w fun e w' => e = .returned (.bool ok) ∧ Hid (Below w.heap.size w w')) := Lib.hid fun w hb => by
    have := all_any w Ae2 As2 m ce2 wf.heap.size ls cs2 R.ended (by omega) HEL.out (Lib.hid (HIE2.out.below hb)) hb.size
    rw [HOK.out] at this
    exact this
  clear his2 hie2 H3 BF hes
  rw [hbb] at HBF hfs ⊢
  clear hbb
  go_wp2_with fail
  have BN := newPair wf (.slice As2 ls cs2) (.slice Ae2 m ce2) 31
  have BX : Below wf.heap.size wf (wf.alloc (.cells #[.slice As2 ls cs2, .slice Ae2 m ce2] 31)) := (Below.refl _ _).alloc (Nat.le_refl _) _
  obtain ⟨wg, hwg⟩ : ∃ wg, wg = wf.alloc (.cells #[.slice As2 ls cs2, .slice Ae2 m ce2] 31) := ⟨_, rfl⟩
  rw [← hwg] at BN BX ⊢
  have HBG := Lib.hid BX
  have HBN := Lib.hid BN
  clear hwg BN BX
  refine (HALL.out wg HBG.out).mono ?_
  rintro e wh ⟨rfl, HH⟩
  have HBH : Hid (Below wf.heap.size wf wh) := Lib.hid (HBG.out.trans (HH.out.mono HBG.out.size))
  have BNH := HBN.out.below HH.out HBN.out.lt
  have BFH := HBF.out.below HBH.out hfs
  have k0 := BFH.cell (o := 0) (by omega)
  have k1 := BFH.cell (o := 1) (by omega)
  have i0 := BNH.cell (o := 0) (by omega)
  have i1 := BNH.cell (o := 1) (by omega)
  rw [pair0] at k0 i0
  rw [pair1] at k1 i1
  have hoo : (ok == ok) = true := by simp
  have HS3 := Lib.hid (HS1.out wh HBH.out)
  clear BNH BFH
  go_wp2_with fail
  refine HS3.out.mono ?_
  rintro e wi ⟨rfl, q, rfl⟩
  have HS4 := Lib.hid (HS2.out (wh.drewN q) (below_draws HBH.out q))
  go_wp2_with fail
  refine HS4.out.mono ?_
  rintro e wj ⟨rfl, q3, rfl⟩
  go_wp2
  go_ret
  exact ⟨rfl, below_draws (HBW.out.trans ((HEF.out.trans (HBH.out.mono HEF.out.size)).mono HBW.out.size)) (q + q3)⟩

/-! ### the frame -/
theorem cells46 : Try.prog.cellsOf 46 = 1 := by kernel_rfl
theorem own : ownKnob Try.prog.godebug = none := by kernel_rfl
set_option maxRecDepth 100000 in
theorem calls {H : Type} {enc : TypeId × Value → H} (W : World) (base : Nat) (args : Array Value) (ds : List (DataW H)) (p : List MemPlace)
    (hval0 : ∀ (j : Nat) t v, Try.f4.params[j]? = some t → args[j]? = some v → Value.okWide Try.prog W .any base t v)
    (hA : DataW.TrodAll enc Try.prog W 0 (fun _ => true) true Try.f4.params.toList args.toList ds p) (_ : W.noneFrozen p)
    (hsz : (DataW.weightsEach Try.prog Try.f4.params.toList ds).all (· ≤ reachBytes) = true) :
    Calls Try.prog 4 args W fun e W' => e = .returned (.bool true) ∧ Below W.heap.size W W' := by
  have hval : ∀ (j : Nat) t v, Try.f4.params[j]? = some t → args[j]? = some v → Value.okWide Try.prog W .any base t v := hval0
  clear hval0
  rw [Try.params4] at hA hval hsz
  obtain ⟨v0, vs0, d0, ds0, p0, q0, hargs, rfl, rfl, h0, r'0⟩ := trodAll_cons hA
  obtain ⟨v1, vs1, d1, ds1, p1, q1, rfl, rfl, rfl, h1, r'1⟩ := trodAll_cons r'0
  obtain ⟨rfl, rfl, rfl⟩ := trodAll_nil r'1
  obtain rfl : args = #[v0, v1] := by cases args; simp_all
  obtain ⟨A0, n0, c0, z0, rfl, l0, b0, m0, s0, r0, w0⟩ := open_slice_ints (j := 0) (bytes := 1) Try.underlying22 Try.underlying46 cells46 (by kernel_rfl) (hval 0 22 v0 rfl rfl) h0 hsz rfl rfl
  obtain ⟨a1, rfl, rfl, rfl, w1⟩ := open_int Try.underlying3 (hval 1 3 v1 rfl rfl) h1
  exact walk (W := W) A0 n0 c0 z0 l0 b0 m0 s0 r0 w0 a1 w1
set_option maxRecDepth 100000 in
theorem lifted (os : Os) (started : os.Started) (H : Type) (enc : TypeId × Value → H) :
    ReturnsInHanded {} Try.checked os 4 .any (Rows.schedRoundsSpec.pre6 enc Try.prog Try.f4 Rows.schedRoundsRow.domain false) (Rows.schedRoundsSpec.post enc Try.prog Try.f4 false true false false) :=
  law_lifted (C := Try.checked) (s := Rows.schedRoundsSpec) (b := 4) own (by kernel_rfl) Try.func4 (by kernel_rfl) (by kernel_rfl) rfl Try.underlying4 rfl
    (fun ds h => by match ds, h with | [_, _], _ => rfl) calls os started
    (ChangeSpec.witness6 (enc := enc) (C := Try.checked) false ⟨#[], #[.slice none 0 0, .int .i64 0], []⟩ 8 (by kernel_rfl) (by kernel_rfl) (by kernel_rfl) (by kernel_rfl))
/-- ████ THE STATEMENT ████ -/
theorem proved : Rows.SchedRoundsSaid :=
  OpenClaim.holds_of_wide 4 Try.f4 rfl rfl rfl rfl rfl rfl rfl ⟨rfl, rfl, rfl, rfl, rfl⟩ rfl rfl rfl rfl rfl (by kernel_rfl) Try.func4 (by kernel_rfl)
    (of_decide_eq_true (by kernel_rfl)) (by unfold Func.isWrapper; first | (rw [if_pos (by decide +kernel)]; kernel_rfl) | (rw [if_neg (by decide +kernel)]; exact ⟨rfl, rfl⟩))
    (fun os started H enc _ => lifted os started H enc)
#print axioms proved
end Go.Proofs.Ythnaogfcffmphaa.schedRounds
