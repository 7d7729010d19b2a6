/-
  SCHED, THE REFERENCE: RoundRobin.
-/
import Derived.Test.YthnaogfcffmphaaSRefRR
set_option linter.unusedVariables false
set_option linter.unusedSimpArgs false
namespace Go.Proofs.Ythnaogfcffmphaa.Sched
open Go.ChangeShapes Go.WideShapes Go.ChangeAt Go.RowKit Go.Proofs.Ythnaogfcffmphaa.Mem Go.Proofs.Ythnaogfcffmphaa.Law Go.Proofs.Ythnaogfcffmphaa.Args Go.Proofs.Ythnaogfcffmphaa.Own
set_option maxRecDepth 100000 in
set_option maxHeartbeats 4000000 in
theorem rrobin_any (w : World) (As : Option Addr) (ns cs Bz T : Nat) (zs : List Int) (bd : Int) (hns : ns ≤ 1000) (hl : zs.length = ns) (hz : Hid (IntsAt .i64 w Bz As zs)) (hBz : Bz ≤ w.heap.size) (hT : T ≤ 100000) (hb1 : -9223372036854775808 ≤ bd) (hb2 : bd ≤ 9223372036854775807)
    (hinv : RRInv (X.init ns (leftsOf zs)) (X.init ns (leftsOf zs)) T) :
    Calls Try.prog 18 #[.slice As ns cs, .int .i64 bd] w fun e w' => ∃ vs ve, e = .returned (.agg #[vs, ve]) ∧ Hid (IsLog w' w.heap.size vs ve (X.rr bd (T + 1) (X.init ns (leftsOf zs))).steps (X.rr bd (T + 1) (X.init ns (leftsOf zs))).ended ∧ Below w.heap.size w w') := by
  have HL := Lib.hid hl
  have R0 := newPair w (.slice none 0 0) (.slice none 0 0) 31
  have HB1 : Hid (Below w.heap.size w (w.alloc (.cells #[.slice none 0 0, .slice none 0 0] 31))) := Lib.hid ((Below.refl _ w).alloc (Nat.le_refl _) _)
  obtain ⟨wa, hwa⟩ : ∃ wa, wa = w.alloc (.cells #[.slice none 0 0, .slice none 0 0] 31) := ⟨_, rfl⟩
  have hws : wa.heap.size = w.heap.size + 1 := by rw [hwa]; simp
  have HWA := Lib.hid hwa
  have HWS := Lib.hid hws
  rw [← hwa] at R0 HB1
  have HR0 := Lib.hid R0
  have HRO := Lib.hid (refOk_init ns zs)
  obtain ⟨s0, hs0⟩ : ∃ s0, X.init ns (leftsOf zs) = s0 := ⟨_, rfl⟩
  have hs0n : s0.n = ns := by rw [← hs0]; rfl
  have hs0s : s0.steps = [] := by rw [← hs0]; rfl
  have hs0e : s0.ended = List.replicate ns (-1) := by rw [← hs0]; rfl
  obtain ⟨R, hR⟩ : ∃ R, X.rr bd (T + 1) (X.init ns (leftsOf zs)) = R := ⟨_, rfl⟩
  rw [hR]
  rw [hs0] at HRO hinv hR
  have HS0 := Lib.hid hs0n
  have HS0S := Lib.hid hs0s
  have HS0E := Lib.hid hs0e
  have HC0 : Hid (CHead (ndOf zs) s0 s0 R T (T + 1) bd) := Lib.hid ⟨hinv, HRO.out, hR, by omega⟩
  have hns63 : ns ≤ 9223372036854775807 := by omega
  clear hwa hws R0 hl hs0 hs0n hs0s hs0e hR hinv HRO
  go_enter Try.func18, Try.ntmps18
  go_wp2_with (go_at_call 35; refine (rbegin_any _ As ns cs hns).mono ?_; rintro e wb ⟨A0, c0, rfl, HBG⟩; rw [← HWA.out] at HBG)
  have HRB : Hid (RRun w (wb.alloc (.cells #[.slice none 0 0, .slice A0 ns c0] 31)) wb.heap.size (.slice none 0 0) (.slice A0 ns c0) s0) := Lib.hid (by
    have b1 : Below w.heap.size w wb := HB1.out.trans (HBG.out.2.mono HB1.out.size)
    have lg := (HBG.out.1.below ((Below.refl _ wb).alloc (Nat.le_refl _) (.cells #[.slice none 0 0, .slice A0 ns c0] 31)))
    refine ⟨newPair wb _ _ _, (HR0.out.below HBG.out.2 HR0.out.lt).alloc _, ⟨by rw [HS0S.out]; exact OwnInts.nil_ _ _ _ _, by rw [HS0E.out]; exact own_base lg.ended HB1.out.size, .inl rfl, Nat.le_trans b1.size (by simp)⟩, ?_, b1.alloc b1.size _⟩
    have := HBG.out.2.size
    have := HWS.out
    omega)
  obtain ⟨b, hb⟩ : ∃ b, wb.heap.size = b := ⟨_, rfl⟩
  rw [hb] at HRB ⊢
  obtain ⟨w0, hw0⟩ : ∃ w0, wb.alloc (.cells #[.slice none 0 0, .slice A0 ns c0] 31) = w0 := ⟨_, rfl⟩
  rw [hw0] at HRB ⊢
  clear hb hw0 HBG HR0
  go_loopw [9] (fun _ wr => Hid (∃ s f vs ve, CHead (ndOf zs) s0 s R T f bd ∧ RRun w wr b vs ve s)) (fun _ wr => T + 1 - stepsLen0 wr b)
  case atStart => exact Lib.hid ⟨s0, T + 1, _, _, HC0.out, HRB.out⟩
  case round =>
    obtain ⟨s, f, vs, ve, hHC, hR⟩ := hrel.out
    have HC := Lib.hid hHC
    have HR := Lib.hid hR
    clear hrel hHC hR
    have hsn : s.n = ns := HC.out.inv.n.trans HS0.out
    have hlt : s.steps.length ≤ T := HC.out.inv.ok.steps
    have HLE : Hid (s.ended.length = ns) := Lib.hid (HC.out.inv.bounded.len.trans hsn)
    obtain ⟨A1, c1, hv1, _⟩ := HR.out.log.steps.form
    obtain ⟨A2, c2, hv2, _⟩ := HR.out.log.ended.form
    rw [HLE.out] at hv2
    subst hv1 hv2
    obtain ⟨ls, hls⟩ : ∃ ls, s.steps.length = ls := ⟨_, rfl⟩
    have HLS := Lib.hid hls
    rw [hls] at HR hlt
    have b0 := HR.out.box.cell (o := 0) (by omega)
    have b1 := HR.out.box.cell (o := 1) (by omega)
    rw [pair0] at b0
    rw [pair1] at b1
    have HLEN : Hid (stepsLen0 wr b = ls) := Lib.hid (HR.out.stepsLen.trans hls)
    clear hsn hls
    by_cases hbd : bd ≤ (ls : Int)
    · have hsR : s = R := by
        have h1 := HC.out.res
        rw [X.rr_stop (.inr (by rw [HLS.out]; exact hbd))] at h1
        exact h1
      have HF := Lib.hid HR.out.lay
      rw [hsR] at HF
      obtain ⟨l0, l1⟩ := lay_cells (vs := .slice A1 ls c1) (ve := .slice A2 ns c2) HR.out.res
      have r0 := HR.out.res.cell (o := 0) (by omega)
      have r1 := HR.out.res.cell (o := 1) (by omega)
      have q0 := HR.out.res.frozen 0
      have q1 := HR.out.res.frozen 1
      have hd : decide ((ls : Int) < bd) = false := by simp; omega
      clear hsR
      go_wp2
      exact bodyPost_ret (v := .agg #[.slice A1 ls c1, .slice A2 ns c2]) (by simp [results, Try.results18, go_sem, l0, l1]) rfl ⟨_, _, rfl, HF⟩
    · have hbi : (ls : Int) < bd := by omega
      have HALL : Hid (Calls Try.prog 19 #[.agg #[.slice A1 ls c1, .slice A2 ns c2]] wr fun e w' => e = .returned (.bool (decide (s.running = 0))) ∧ Hid (Below wr.heap.size wr w')) := Lib.hid (by
        obtain ⟨A9, c9, e9, _, _, _, hi9⟩ := HR.out.log.ended.form
        rw [HLE.out] at e9
        have e9' : A9 = A2 := by injection e9 with e9; exact e9.symm
        subst e9'
        have := all_any wr A9 A1 ns c2 wr.heap.size ls c1 s.ended (by omega) HLE.out (Lib.hid hi9) (Nat.le_refl _)
        rw [allOver_running HC.out.ref HC.out.inv.bounded.len] at this
        exact this)
      by_cases hr0 : s.running = 0
      · have hsR : s = R := by
          have h1 := HC.out.res
          rw [X.rr_stop (.inl hr0)] at h1
          exact h1
        rw [decide_eq_true hr0] at HALL
        have HSR := Lib.hid hsR
        clear hsR hr0 hbd
        go_wp2_with (go_at_call 19; go_must (refine HALL.out.mono ?_); rintro e w2 ⟨rfl, H2⟩; have HR2 := Lib.hid (HR.out.below H2.out); have HF := Lib.hid HR2.out.lay; rw [HSR.out] at HF; obtain ⟨l0, l1⟩ := lay_cells (vs := .slice A1 ls c1) (ve := .slice A2 ns c2) HR2.out.res; have r0 := HR2.out.res.cell (o := 0) (by omega); have r1 := HR2.out.res.cell (o := 1) (by omega); have q0 := HR2.out.res.frozen 0; have q1 := HR2.out.res.frozen 1; have b0 := HR2.out.box.cell (o := 0) (by omega); have b1 := HR2.out.box.cell (o := 1) (by omega); rw [pair0] at b0; rw [pair1] at b1)
        exact bodyPost_ret (v := .agg #[.slice A1 ls c1, .slice A2 ns c2]) (by simp [results, Try.results18, go_sem, l0, l1]) rfl ⟨_, _, rfl, HF⟩
      · obtain ⟨f', hIn⟩ := HC.out.enter hr0 (by rw [HLS.out]; exact hbi)
        have HIN0 := Lib.hid hIn
        rw [decide_eq_false hr0] at HALL
        clear hIn hr0 hbd
        go_wp2_with (go_at_call 19; go_must (refine HALL.out.mono ?_); rintro e w2 ⟨rfl, H2⟩; have HR2 := Lib.hid (HR.out.below H2.out))
        obtain ⟨wo, hwo⟩ : ∃ wo : World, wo = wr := ⟨_, rfl⟩
        rw [← hwo] at HLEN
        go_loopw [6] (fun i wx => ∃ k : Nat, k ≤ ns ∧ i = .int .i64 (k : Int) ∧ Hid (∃ s2 vs2 ve2, CIn (ndOf zs) s0 s s2 R T f' k bd ∧ RRun w wx b vs2 ve2 s2)) (fun i _ => ns - (intOf i).toNat)
        case atStart => exact ⟨0, by omega, rfl, Lib.hid ⟨s, _, _, HIN0.out, HR2.out⟩⟩
        case round =>
          obtain ⟨k, hk, rfl, HO⟩ := hrel
          obtain ⟨s2, vs2, ve2, hC2, hR2⟩ := HO.out
          have HC2 := Lib.hid hC2
          have HRR := Lib.hid hR2
          clear HO hC2 hR2
          have hs2n : s2.n = ns := HC2.out.inv.n.trans HS0.out
          have hlt2 : s2.steps.length ≤ T := HC2.out.inv.ok.steps
          have HLE2 : Hid (s2.ended.length = ns) := Lib.hid (HC2.out.inv.bounded.len.trans hs2n)
          obtain ⟨A3, c3, hv3, _⟩ := HRR.out.log.steps.form
          obtain ⟨A4, c4, hv4, _⟩ := HRR.out.log.ended.form
          rw [HLE2.out] at hv4
          subst hv3 hv4
          obtain ⟨ls2, hls2⟩ : ∃ ls2, s2.steps.length = ls2 := ⟨_, rfl⟩
          have HLS2 := Lib.hid hls2
          rw [hls2] at HRR hlt2
          have d0 := HRR.out.box.cell (o := 0) (by omega)
          have d1 := HRR.out.box.cell (o := 1) (by omega)
          rw [pair0] at d0
          rw [pair1] at d1
          have HS2N := Lib.hid hs2n
          have HMEAS : Hid (s.steps.length < s2.steps.length → T + 1 - stepsLen0 wr b < T + 1 - stepsLen0 wo b) := Lib.hid (fun h => by
            rw [HLEN.out, HRR.out.stepsLen]
            have h1 := HLS.out
            have h2 := HLS2.out
            omega)
          clear hs2n hls2
          by_cases hkn : k < ns
          · have hki : (k : Int) < (ns : Int) := by omega
            have hk0 : (0 : Int) ≤ (k : Int) := by omega
            by_cases hst : bd ≤ (ls2 : Int)
            · have HLV := Lib.hid (HC2.out.full (by rw [HLS2.out]; exact hst))
              have hd : decide ((ls2 : Int) < bd) = false := by simp; omega
              go_wp2
              go_roundw
              case rel => exact Lib.hid ⟨_, _, _, _, HLV.out.1, HRR.out⟩
              case measure => rw [← hwo]; exact HMEAS.out HLV.out.2
            · have hbi2 : (ls2 : Int) < bd := by omega
              have HN := Lib.hid (HC2.out.next (by rw [HLS2.out]; exact hst) (by rw [HS0.out]; exact hkn))
              have hle0 : 0 < s2.ended.length := by rw [HLE2.out]; omega
              obtain ⟨g2, c2', hv2, _, _⟩ := own_addr HRR.out.log.ended hle0
              have hA4 : A4 = some ⟨g2, 0, none⟩ := by injection hv2
              subst hA4
              obtain ⟨cx, _⟩ := HRR.out.log.ended.cell k (by rw [HLE2.out]; exact hkn)
              obtain ⟨x, hx⟩ : ∃ x, s2.ended.getD k 0 = x := ⟨_, rfl⟩
              rw [hx] at cx
              have hleft := HC2.out.ref.left k (by rw [HS2N.out]; exact hkn)
              by_cases hx0 : x < 0
              · have HG := Lib.hid (X.step_go hleft (by rw [hx]; exact hx0))
                have HST : Hid (Calls Try.prog 36 #[.agg #[.slice A3 ls2 c3, .slice (some ⟨g2, 0, none⟩) ns c4], .slice As ns cs, .int .i64 (k : Int)] wr fun e w2 => ∃ A5 n5 c5, e = .returned (.agg #[.slice A5 n5 c5, .slice (some ⟨g2, 0, none⟩) ns c4]) ∧
                    Hid (RRun w ((w2.setCell ⟨b, 0, none⟩ (.slice A5 n5 c5)).setCell ⟨b, 1, none⟩ (.slice (some ⟨g2, 0, none⟩) ns c4)) b (.slice A5 n5 c5) (.slice (some ⟨g2, 0, none⟩) ns c4) (s2.step k) ∧ Blk w2 b 31 2 (pairG (.slice A3 ls2 c3) (.slice (some ⟨g2, 0, none⟩) ns c4)))) := Lib.hid (by
                  refine (rrstep_any wr w.heap.size _ _ s2 (ndOf zs) k _ ns cs Bz As zs HRR.out.log (Lib.hid (hz.out.below (HRR.out.bel.mono hBz))) hBz HL.out hns hkn HLE2.out (by rw [HLS2.out]; omega) rfl rfl (HC2.out.ref.more k (by rw [HS2N.out]; exact hkn) (by rw [hx]; exact hx0))).mono ?_
                  rintro e w2 ⟨vs', rfl, h2⟩
                  obtain ⟨A5, c5, hv5, _⟩ := h2.out.1.steps.form
                  subst hv5
                  refine ⟨_, _, _, rfl, Lib.hid ?_⟩
                  rw [HG.out]
                  exact HRR.out.step h2.out.1 h2.out.2)
                clear hx HG hleft hle0 hv2 hst
                go_wp2_with (go_at_call 36; go_must (refine HST.out.mono ?_); rintro e w2 ⟨A5, n5, c5, rfl, H5⟩; have e0 := H5.out.2.cell (o := 0) (by omega); have e1 := H5.out.2.cell (o := 1) (by omega); have f0 := H5.out.2.frozen 0; have f1 := H5.out.2.frozen 1)
                go_roundw
                case rel => exact ⟨k + 1, by omega, by go_num, Lib.hid ⟨_, _, _, HN.out, H5.out.1⟩⟩
                case measure => simp [intOf]; omega
              · have HG := Lib.hid (X.step_over hleft (by rw [hx]; omega))
                have HRN : Hid (RRun w wr b (.slice A3 ls2 c3) (.slice (some ⟨g2, 0, none⟩) ns c4) (s2.step k)) := Lib.hid (by rw [HG.out]; exact HRR.out)
                clear hx HG hleft hle0 hv2 hst
                go_wp2
                go_roundw
                case rel => exact ⟨k + 1, by omega, by go_num, Lib.hid ⟨_, _, _, HN.out, HRN.out⟩⟩
                case measure => simp [intOf]; omega
          · have hk2 : k = ns := by omega
            subst hk2
            have hlv : CHead (ndOf zs) s0 s2 R T f' bd ∧ s.steps.length < s2.steps.length := CIn.leave (by rw [HS0.out]; exact HC2.out)
            have HLV := Lib.hid hlv
            have hd : decide ((k : Int) < (k : Int)) = false := by simp
            clear hlv
            go_wp2
            go_roundw
            case rel => exact Lib.hid ⟨_, _, _, _, HLV.out.1, HRR.out⟩
            case measure => rw [← hwo]; exact HMEAS.out HLV.out.2
end Go.Proofs.Ythnaogfcffmphaa.Sched
