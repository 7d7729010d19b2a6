/-
  PROVED: the law ImageDiffers answers true for every input, and each argument reads behind the call as before (Rows.ImageDiffersCardSaid). No condition.
-/
import Derived.Test.YtpfmongenmemdaaDoorCards
import Derived.Test.YtpfmongenmemdaaDoorTie
import Derived.Test.YtpfmongenmemdaaDoorLaid
import Derived.Test.YtpfmongenmemdaaDoorLaw
import Derived.Test.YtpfmongenmemdaaDoorArgs
import Derived.Test.YtpfmongenmemdaaDoorILawBase
import Derived.Test.YtpfmongenmemdaaDoorIDiffM
namespace Go.Proofs.YtpfmongenmemdaaDoor.imageDiffers
open Go.ChangeShapes Go.WideShapes Go.ChangeAt Go.RowKit Go.Proofs.YtpfmongenmemdaaDoor.Law Go.Proofs.YtpfmongenmemdaaDoor.Args Go.Proofs.YtpfmongenmemdaaDoor.Base
set_option linter.unusedVariables false
set_option linter.unusedSimpArgs false
theorem below_step {a b c : World} (h1 : Below a.heap.size a b) (h2 : Below b.heap.size b c) : Below a.heap.size a c := h1.trans (h2.mono h1.size)
set_option maxHeartbeats 4000000 in
set_option maxRecDepth 100000 in
theorem walk {W : World} (HE : Pow W.heap.size W ∧ Tz W.heap.size W) (A0 : Option Addr) (n0 c0 : Nat) (z0 : List Int) (l0 : z0.length = n0) (b0 : n0 ≤ c0) (m0 : c0 ≤ maxLen) (s0 : c0 * 1 ≤ 140737488351232) (r0 : IntsAt .u8 W W.heap.size A0 z0) (w0 : ∀ z ∈ z0, (Lit.int .u8 z).wf = true)
    (A1 : Option Addr) (n1 c1 : Nat) (z1 : List Int) (l1 : z1.length = n1) (b1 : n1 ≤ c1) (m1 : c1 ≤ maxLen) (s1 : c1 * 1 ≤ 140737488351232) (r1 : IntsAt .u8 W W.heap.size A1 z1) (w1 : ∀ z ∈ z1, (Lit.int .u8 z).wf = true)
    (a2 : Bool) : Calls Tryd.prog 6 #[.slice A0 n0 c0, .slice A1 n1 c1, .bool a2] W fun e W' => e = .returned (.bool true) ∧ Below W.heap.size W W' := by
  obtain ⟨zp, lp, mp, hP⟩ := Whole.of (c := c0) l0 r0 w0
  obtain ⟨zq, lq, mq, hQ⟩ := Whole.of (c := c1) l1 r1 w1
  have HA := Lib.hid (awake_any W.heap.size W (Nat.le_refl _) HE.1 HE.2)
  have HWp := Lib.hid (fun w => whole_at hP w b0 (by omega))
  have HWq := Lib.hid (fun w => whole_at hQ w b1 (by omega))
  have hp40 := hP.m40
  have hq40 := hQ.m40
  have SP0 := Lib.hid hP.src
  have SQ0 := Lib.hid hQ.src
  clear hP hQ HE l0 b0 m0 s0 r0 w0 l1 b1 m1 s1 r1 w1
  have TK1 := HA
  have TK2 := HA
  have TK3 := HA
  cases a2
  case false =>
    go_enter Tryd.func6, Tryd.ntmps6
    go_wp2_with (first
      | (go_at_call 10; go_must (refine HA.out.mono ?_); rintro e wA ⟨rfl, hbA⟩; have HBA := Lib.hid hbA; clear hbA)
      | (go_at_call 15; have tt := TK1; clear TK1 tt; go_must (refine (HWp.out _).mono ?_); rintro e w' ⟨rfl, hw⟩; have hw2 := hw.symm; clear hw; subst hw2)
      | (go_at_call 15; go_must (refine (HWq.out _).mono ?_); rintro e w' ⟨rfl, hw⟩; have hw2 := hw.symm; clear hw; subst hw2; have SP := Lib.hid (SP0.out.on HBA.out); have SQ := Lib.hid (SQ0.out.on HBA.out); have HBB := HBA)
      | (go_at_call 11; have tt := TK2; clear TK2 tt; go_must (refine (new_src SP.out).mono ?_); rintro e wN ⟨rfl, hbN⟩; have SPN := Lib.hid ((SP.out.on hbN).on ((Below.refl _ _).alloc (Nat.le_refl _) (.cells #[str lp] 25))); have SQN := Lib.hid ((SQ.out.on hbN).on ((Below.refl _ _).alloc (Nat.le_refl _) (.cells #[str lp] 25))); have BX := Lib.hid (Box.new (HBB.out.trans (hbN.mono HBB.out.size)) lp); clear hbN)
      | (go_at_call 11; go_must (refine (new_src SQN.out).mono ?_); rintro e wM ⟨rfl, hbM⟩; have SPM := Lib.hid ((SPN.out.on hbM).on ((Below.refl _ _).alloc (Nat.le_refl _) (.cells #[str lq] 25))); have SQM := Lib.hid ((SQN.out.on hbM).on ((Below.refl _ _).alloc (Nat.le_refl _) (.cells #[str lq] 25))); have BY := Lib.hid (Box.new (BX.out.bb.trans (hbM.mono BX.out.bb.size)) lq); have BX2 := Lib.hid ((BX.out.on hbM).alloc (.cells #[str lq] 25)); clear hbM)
      | (go_at_call 24; go_must (refine (rdiff_src SPM.out SQM.out).mono ?_); rintro e wD ⟨vw, rfl, HOw⟩; have BX3 := Lib.hid (BX2.out.on HOw.out.2); have BY3 := Lib.hid (BY.out.on HOw.out.2); have cx := BX3.out.c; have cy := BY3.out.c; obtain ⟨Aw, cw, hvw, hy1, hy2, hy3, hy4⟩ := HOw.out.1.form; subst hvw; clear hy1 hy2 hy3 hy4))
    have hbd : Below wD.heap.size wD wD.drew := (Below.refl _ _).drew
    have HFIN := Lib.hid (fun w (hb : Below wD.heap.size wD w) => BX3.out.bb.trans (hb.mono BX3.out.bb.size))
    have HD1 := Lib.hid (fun w => diff_any lp lq w (by have := SPM.out.ll; omega) (by have := SQM.out.ll; omega))
    have HD2 := Lib.hid (fun w => diff_any lq lp w (by have := SQM.out.ll; omega) (by have := SPM.out.ll; omega))
    rw [diffAll_symm lp lq] at HD2
    have HLEN := Lib.hid (diffAll_len SPM.out.ll SQM.out.ll)
    have HLS : Hid ((diffAll lp lq).length ≤ 40) := Lib.hid (by have h1 := diffZ_length lp lq (max (lp.length / 64) ((lq).length / 64)); have h2 := SPM.out.ll; have h3 := SQM.out.ll; unfold diffAll; omega)
    generalize diffAll lp lq = D at *
    go_region_held3 (fun w' => w'.cell? ⟨wN.heap.size, 0, none⟩ = some (str lp) ∧ w'.cell? ⟨wM.heap.size, 0, none⟩ = some (str lq) ∧ Below wD.heap.size wD w') (first | assumption | (refine ⟨?_, ?_, ?_⟩ <;> assumption)) (first
      | (go_at_call 25; have tt := TK3; clear TK3 tt; go_must (refine (HD1.out _).mono ?_); rintro e wF ⟨va, rfl, HOa⟩; have qF := below_step ‹Below wD.heap.size wD _› HOa.out.2; have r1 := (BX3.out.on qF).c; have r2 := (BY3.out.on qF).c; obtain ⟨Aa, ca, hva, hy1, hy2, hy3, hy4⟩ := HOa.out.1.form; subst hva; clear hy1 hy2 hy3 hy4)
      | (go_at_call 25; go_must (refine (HD2.out _).mono ?_); rintro e wG ⟨vb, rfl, HOb⟩; have qFG := below_step (a := wF) (by first | exact Below.refl _ _ | exact (Below.refl _ _).drew | exact Go.Proofs.YtpfmongenmemdaaDoor.Law.below_draws (Below.refl _ _) _ | exact (Go.Proofs.YtpfmongenmemdaaDoor.Law.below_draws (Below.refl _ _) _).drew) HOb.out.2; have qG := below_step qF qFG; have s1 := (BX3.out.on qG).c; have s2 := (BY3.out.on qG).c; obtain ⟨Ab, cb, hvb, hy1, hy2, hy3, hy4⟩ := HOb.out.1.form; subst hvb; clear hy1 hy2 hy3 hy4))
    have HBG := Lib.hid (HFIN.out _ qG)
    have BX4 := Lib.hid (BX3.out.on qG)
    have BY4 := Lib.hid (BY3.out.on qG)
    have HRa : Hid (IntsAt .i64 wG wG.heap.size Aa D) := Lib.hid (by
      obtain ⟨A', c', hv, _, _, _, hr⟩ := Own.OwnInts.form (HOa.out.1.below qFG)
      injection hv with e1 e2 e3
      subst e1
      exact hr)
    have HRb : Hid (IntsAt .i64 wG wG.heap.size Ab D) := Lib.hid (by
      obtain ⟨A', c', hv, _, _, _, hr⟩ := Own.OwnInts.form HOb.out.1
      injection hv with e1 e2 e3
      subst e1
      exact hr)
    have HRw : Hid (IntsAt .i64 wG wG.heap.size Aw D) := Lib.hid (by
      obtain ⟨A', c', hv, _, _, _, hr⟩ := Own.OwnInts.form (HOw.out.1.below qG)
      injection hv with e1 e2 e3
      subst e1
      exact hr)
    clear HOa HOb HOw HD1 HD2 HFIN BX3 BY3 qF qG qFG cx cy r1 r2 s1 s2 hbd SPM SQM SPN SQN SP SQ BX BX2 BY HBA HBB SP0 SQ0 HWp HWq HA
    obtain ⟨L, hL⟩ : ∃ L, D.length = L := ⟨_, rfl⟩
    rw [hL] at HLEN HLS
    have hL40 := HLS.out
    have HL := Lib.hid hL
    rw [hL]
    clear hL HLS
    go_wp2
    go_loopw [60] (fun vk wr => ∃ k d : Nat, k ≤ L ∧ vk = .int .i64 (k : Int) ∧ wr = wG.drewN d) (fun vk _ => L - (RowKit.intOf vk).toNat)
    case atStart => exact ⟨0, 0, by omega, rfl, rfl⟩
    case round =>
      obtain ⟨k, d, hk, rfl, rfl⟩ := hrel
      by_cases hlt : k < L
      · have hkl : k < D.length := by have := HL.out; omega
        obtain ⟨ad, rfl, _, hc1⟩ := HRa.out k hkl
        obtain ⟨ad', rfl, _, hc2⟩ := HRb.out k hkl
        obtain ⟨ad'', rfl, _, hc3⟩ := HRw.out k hkl
        obtain ⟨x, hx⟩ : ∃ x, D.getD k 0 = x := ⟨_, rfl⟩
        rw [hx] at hc1 hc2 hc3
        clear hx hkl
        go_wp2
        go_quiet (fail)
        go_wp2
        go_roundw
        case rel => exact ⟨k + 1, _, by omega, by go_num, rfl⟩
        case measure => simp [RowKit.intOf]; omega
      · have hkL : k = L := by omega
        subst hkL
        have hdec := HLEN.out
        obtain ⟨wd, hwd⟩ : ∃ wd, wG.drewN d = wd := ⟨_, rfl⟩
        have BX5 : Hid (Box W wN.heap.size lp wd) := Lib.hid (by rw [← hwd]; exact BX4.out.drewN d)
        have BY5 : Hid (Box W wM.heap.size lq wd) := Lib.hid (by rw [← hwd]; exact BY4.out.drewN d)
        rw [hwd]
        clear hwd BX4 BY4 HRa HRb HRw HBG
        have cx := BX5.out.c
        have cy := BY5.out.c
        have hbd : Below wd.heap.size wd wd.drew := (Below.refl _ _).drew
        have HFIN := Lib.hid (fun w (hb : Below wd.heap.size wd w) => BX5.out.bb.trans (hb.mono BX5.out.bb.size))
        have HE1 := Lib.hid (fun w => equal_any lp lq w)
        have HE2 := Lib.hid (fun w => equal_any lq lp w)
        have HE3 := Lib.hid (fun w => equal_any lp lp w)
        rw [beq_swap lq lp] at HE2
        rw [show (lp == lp) = true by simp] at HE3
        have TK4 := HL
        have TK5 := HL
        have TK6 := HL
        generalize hbq : (lp == lq) = bq at *
        clear hbq
        cases bq
        case' false =>
          have hk0 : ¬ (k : Int) = 0 := by simpa using hdec
          have hk1 : ((k : Int) == 0) = false := by simpa using hk0
        case' true =>
          have hk0 : (k : Int) = 0 := by simpa using hdec
          have hk1 : ((k : Int) == 0) = true := by simpa using hk0
        all_goals (
          go_wp2
          go_region_held3 (fun w' => w'.cell? ⟨wN.heap.size, 0, none⟩ = some (str lp) ∧ w'.cell? ⟨wM.heap.size, 0, none⟩ = some (str lq) ∧ Below wd.heap.size wd w') (first | assumption | (refine ⟨?_, ?_, ?_⟩ <;> assumption)) (first
            | (go_at_call 23; have tt := TK4; clear TK4 tt; go_must (refine (HE1.out _).mono ?_); rintro e wP ⟨rfl, hb1⟩; have p3 := below_step ‹Below wd.heap.size wd _› hb1; have p1 := (BX5.out.on p3).c; have p2 := (BY5.out.on p3).c; clear hb1)
            | (go_at_call 23; have tt := TK5; clear TK5 tt; go_must (refine (HE2.out _).mono ?_); rintro e wQ ⟨rfl, hb1⟩; have q3 := below_step ‹Below wd.heap.size wd _› hb1; have q1 := (BX5.out.on q3).c; have q2 := (BY5.out.on q3).c; clear hb1)
            | (go_at_call 23; have tt := TK6; clear TK6 tt; go_must (refine (HE1.out _).mono ?_); rintro e wR ⟨rfl, hb1⟩; have r3 := below_step ‹Below wd.heap.size wd _› hb1; have r1 := (BX5.out.on r3).c; have r2 := (BY5.out.on r3).c; clear hb1)
            | (go_at_call 23; go_must (refine (HE3.out _).mono ?_); rintro e wS ⟨rfl, hb1⟩; have s3 := below_step ‹Below wd.heap.size wd _› hb1; have s1 := (BX5.out.on s3).c; have s2 := (BY5.out.on s3).c; clear hb1))
          have HB := HFIN.out _ s3
          go_wp2
          go_ret
          exact ⟨rfl, HB⟩)
  case true =>
    obtain ⟨nq, hnq⟩ : ∃ nq, 64 * mq = nq := ⟨_, rfl⟩
    rw [hnq] at HWq
    have hdivB : (nq : Int) / 64 = (mq : Int) := by omega
    have hdivW : wrap64 ((nq : Int) / 64) = (mq : Int) := by unfold wrap64; omega
    have HRR := Lib.hid (fun w (h : Src w A0 zp lp mp) => rres_any A0 (64 * mp) c0 w.heap.size zp mq w h.lz (by have := h.m40; omega) (Lib.hid h.at_) (Nat.le_refl _) (by omega))
    obtain ⟨lx, hlx⟩ : ∃ lx, u8s (rzL zp (64 * mq)) = lx := ⟨_, rfl⟩
    have HLX := Lib.hid hlx
    have HZW := Lib.hid SP0.out.wf
    have HZL := Lib.hid (rzL_length zp (64 * mq))
    clear hlx hnq
    go_enter Tryd.func6, Tryd.ntmps6
    go_wp2_with (first
      | (go_at_call 10; go_must (refine HA.out.mono ?_); rintro e wA ⟨rfl, hbA⟩; have HBA := Lib.hid hbA; clear hbA)
      | (go_at_call 15; have tt := TK1; clear TK1 tt; go_must (refine (HWp.out _).mono ?_); rintro e w' ⟨rfl, hw⟩; have hw2 := hw.symm; clear hw; subst hw2)
      | (go_at_call 15; go_must (refine (HWq.out _).mono ?_); rintro e w' ⟨rfl, hw⟩; have hw2 := hw.symm; clear hw; subst hw2)
      | (go_at_call 22; go_must (refine (HRR.out _ (SP0.out.on HBA.out)).mono ?_); rintro e wR ⟨v, rfl, HOR⟩; obtain ⟨A2, c2, hv, hy1, hy2, hy3, hy4⟩ := HOR.out.1.form; rw [HZL.out] at hv; subst hv; clear hy1 hy2 hy3 hy4; have SP := Lib.hid ((SP0.out.on HBA.out).on HOR.out.2); have SQ := Lib.hid (Src.resized HZW.out hq40 HOR.out.1); rw [HLX.out] at SQ; have HBB := Lib.hid (HBA.out.trans (HOR.out.2.mono HBA.out.size)))
      | (go_at_call 11; have tt := TK2; clear TK2 tt; go_must (refine (new_src SP.out).mono ?_); rintro e wN ⟨rfl, hbN⟩; have SPN := Lib.hid ((SP.out.on hbN).on ((Below.refl _ _).alloc (Nat.le_refl _) (.cells #[str lp] 25))); have SQN := Lib.hid ((SQ.out.on hbN).on ((Below.refl _ _).alloc (Nat.le_refl _) (.cells #[str lp] 25))); have BX := Lib.hid (Box.new (HBB.out.trans (hbN.mono HBB.out.size)) lp); clear hbN)
      | (go_at_call 11; go_must (refine (new_src SQN.out).mono ?_); rintro e wM ⟨rfl, hbM⟩; have SPM := Lib.hid ((SPN.out.on hbM).on ((Below.refl _ _).alloc (Nat.le_refl _) (.cells #[str lx] 25))); have SQM := Lib.hid ((SQN.out.on hbM).on ((Below.refl _ _).alloc (Nat.le_refl _) (.cells #[str lx] 25))); have BY := Lib.hid (Box.new (BX.out.bb.trans (hbM.mono BX.out.bb.size)) lx); have BX2 := Lib.hid ((BX.out.on hbM).alloc (.cells #[str lx] 25)); clear hbM)
      | (go_at_call 24; go_must (refine (rdiff_src SPM.out SQM.out).mono ?_); rintro e wD ⟨vw, rfl, HOw⟩; have BX3 := Lib.hid (BX2.out.on HOw.out.2); have BY3 := Lib.hid (BY.out.on HOw.out.2); have cx := BX3.out.c; have cy := BY3.out.c; obtain ⟨Aw, cw, hvw, hy1, hy2, hy3, hy4⟩ := HOw.out.1.form; subst hvw; clear hy1 hy2 hy3 hy4))
    have hbd : Below wD.heap.size wD wD.drew := (Below.refl _ _).drew
    have HFIN := Lib.hid (fun w (hb : Below wD.heap.size wD w) => BX3.out.bb.trans (hb.mono BX3.out.bb.size))
    have HD1 := Lib.hid (fun w => diff_any lp lx w (by have := SPM.out.ll; omega) (by have := SQM.out.ll; omega))
    have HD2 := Lib.hid (fun w => diff_any lx lp w (by have := SQM.out.ll; omega) (by have := SPM.out.ll; omega))
    rw [diffAll_symm lp lx] at HD2
    have HLEN := Lib.hid (diffAll_len SPM.out.ll SQM.out.ll)
    have HLS : Hid ((diffAll lp lx).length ≤ 40) := Lib.hid (by have h1 := diffZ_length lp lx (max (lp.length / 64) ((lx).length / 64)); have h2 := SPM.out.ll; have h3 := SQM.out.ll; unfold diffAll; omega)
    generalize diffAll lp lx = D at *
    go_region_held3 (fun w' => w'.cell? ⟨wN.heap.size, 0, none⟩ = some (str lp) ∧ w'.cell? ⟨wM.heap.size, 0, none⟩ = some (str lx) ∧ Below wD.heap.size wD w') (first | assumption | (refine ⟨?_, ?_, ?_⟩ <;> assumption)) (first
      | (go_at_call 25; have tt := TK3; clear TK3 tt; go_must (refine (HD1.out _).mono ?_); rintro e wF ⟨va, rfl, HOa⟩; have qF := below_step ‹Below wD.heap.size wD _› HOa.out.2; have r1 := (BX3.out.on qF).c; have r2 := (BY3.out.on qF).c; obtain ⟨Aa, ca, hva, hy1, hy2, hy3, hy4⟩ := HOa.out.1.form; subst hva; clear hy1 hy2 hy3 hy4)
      | (go_at_call 25; go_must (refine (HD2.out _).mono ?_); rintro e wG ⟨vb, rfl, HOb⟩; have qFG := below_step (a := wF) (by first | exact Below.refl _ _ | exact (Below.refl _ _).drew | exact Go.Proofs.YtpfmongenmemdaaDoor.Law.below_draws (Below.refl _ _) _ | exact (Go.Proofs.YtpfmongenmemdaaDoor.Law.below_draws (Below.refl _ _) _).drew) HOb.out.2; have qG := below_step qF qFG; have s1 := (BX3.out.on qG).c; have s2 := (BY3.out.on qG).c; obtain ⟨Ab, cb, hvb, hy1, hy2, hy3, hy4⟩ := HOb.out.1.form; subst hvb; clear hy1 hy2 hy3 hy4))
    have HBG := Lib.hid (HFIN.out _ qG)
    have BX4 := Lib.hid (BX3.out.on qG)
    have BY4 := Lib.hid (BY3.out.on qG)
    have HRa : Hid (IntsAt .i64 wG wG.heap.size Aa D) := Lib.hid (by
      obtain ⟨A', c', hv, _, _, _, hr⟩ := Own.OwnInts.form (HOa.out.1.below qFG)
      injection hv with e1 e2 e3
      subst e1
      exact hr)
    have HRb : Hid (IntsAt .i64 wG wG.heap.size Ab D) := Lib.hid (by
      obtain ⟨A', c', hv, _, _, _, hr⟩ := Own.OwnInts.form HOb.out.1
      injection hv with e1 e2 e3
      subst e1
      exact hr)
    have HRw : Hid (IntsAt .i64 wG wG.heap.size Aw D) := Lib.hid (by
      obtain ⟨A', c', hv, _, _, _, hr⟩ := Own.OwnInts.form (HOw.out.1.below qG)
      injection hv with e1 e2 e3
      subst e1
      exact hr)
    clear HOa HOb HOw HD1 HD2 HFIN BX3 BY3 qF qG qFG cx cy r1 r2 s1 s2 hbd SPM SQM SPN SQN SP SQ BX BX2 BY HBA HBB SP0 SQ0 HWp HWq HA
    obtain ⟨L, hL⟩ : ∃ L, D.length = L := ⟨_, rfl⟩
    rw [hL] at HLEN HLS
    have hL40 := HLS.out
    have HL := Lib.hid hL
    rw [hL]
    clear hL HLS
    go_wp2
    go_loopw [60] (fun vk wr => ∃ k d : Nat, k ≤ L ∧ vk = .int .i64 (k : Int) ∧ wr = wG.drewN d) (fun vk _ => L - (RowKit.intOf vk).toNat)
    case atStart => exact ⟨0, 0, by omega, rfl, rfl⟩
    case round =>
      obtain ⟨k, d, hk, rfl, rfl⟩ := hrel
      by_cases hlt : k < L
      · have hkl : k < D.length := by have := HL.out; omega
        obtain ⟨ad, rfl, _, hc1⟩ := HRa.out k hkl
        obtain ⟨ad', rfl, _, hc2⟩ := HRb.out k hkl
        obtain ⟨ad'', rfl, _, hc3⟩ := HRw.out k hkl
        obtain ⟨x, hx⟩ : ∃ x, D.getD k 0 = x := ⟨_, rfl⟩
        rw [hx] at hc1 hc2 hc3
        clear hx hkl
        go_wp2
        go_quiet (fail)
        go_wp2
        go_roundw
        case rel => exact ⟨k + 1, _, by omega, by go_num, rfl⟩
        case measure => simp [RowKit.intOf]; omega
      · have hkL : k = L := by omega
        subst hkL
        have hdec := HLEN.out
        obtain ⟨wd, hwd⟩ : ∃ wd, wG.drewN d = wd := ⟨_, rfl⟩
        have BX5 : Hid (Box W wN.heap.size lp wd) := Lib.hid (by rw [← hwd]; exact BX4.out.drewN d)
        have BY5 : Hid (Box W wM.heap.size lx wd) := Lib.hid (by rw [← hwd]; exact BY4.out.drewN d)
        rw [hwd]
        clear hwd BX4 BY4 HRa HRb HRw HBG
        have cx := BX5.out.c
        have cy := BY5.out.c
        have hbd : Below wd.heap.size wd wd.drew := (Below.refl _ _).drew
        have HFIN := Lib.hid (fun w (hb : Below wd.heap.size wd w) => BX5.out.bb.trans (hb.mono BX5.out.bb.size))
        have HE1 := Lib.hid (fun w => equal_any lp lx w)
        have HE2 := Lib.hid (fun w => equal_any lx lp w)
        have HE3 := Lib.hid (fun w => equal_any lp lp w)
        rw [beq_swap lx lp] at HE2
        rw [show (lp == lp) = true by simp] at HE3
        have TK4 := HL
        have TK5 := HL
        have TK6 := HL
        generalize hbq : (lp == lx) = bq at *
        clear hbq
        cases bq
        case' false =>
          have hk0 : ¬ (k : Int) = 0 := by simpa using hdec
          have hk1 : ((k : Int) == 0) = false := by simpa using hk0
        case' true =>
          have hk0 : (k : Int) = 0 := by simpa using hdec
          have hk1 : ((k : Int) == 0) = true := by simpa using hk0
        all_goals (
          go_wp2
          go_region_held3 (fun w' => w'.cell? ⟨wN.heap.size, 0, none⟩ = some (str lp) ∧ w'.cell? ⟨wM.heap.size, 0, none⟩ = some (str lx) ∧ Below wd.heap.size wd w') (first | assumption | (refine ⟨?_, ?_, ?_⟩ <;> assumption)) (first
            | (go_at_call 23; have tt := TK4; clear TK4 tt; go_must (refine (HE1.out _).mono ?_); rintro e wP ⟨rfl, hb1⟩; have p3 := below_step ‹Below wd.heap.size wd _› hb1; have p1 := (BX5.out.on p3).c; have p2 := (BY5.out.on p3).c; clear hb1)
            | (go_at_call 23; have tt := TK5; clear TK5 tt; go_must (refine (HE2.out _).mono ?_); rintro e wQ ⟨rfl, hb1⟩; have q3 := below_step ‹Below wd.heap.size wd _› hb1; have q1 := (BX5.out.on q3).c; have q2 := (BY5.out.on q3).c; clear hb1)
            | (go_at_call 23; have tt := TK6; clear TK6 tt; go_must (refine (HE1.out _).mono ?_); rintro e wR ⟨rfl, hb1⟩; have r3 := below_step ‹Below wd.heap.size wd _› hb1; have r1 := (BX5.out.on r3).c; have r2 := (BY5.out.on r3).c; clear hb1)
            | (go_at_call 23; go_must (refine (HE3.out _).mono ?_); rintro e wS ⟨rfl, hb1⟩; have s3 := below_step ‹Below wd.heap.size wd _› hb1; have s1 := (BX5.out.on s3).c; have s2 := (BY5.out.on s3).c; clear hb1))
          have HB := HFIN.out _ s3
          go_wp2
          go_ret
          exact ⟨rfl, HB⟩)

/-! ### the frame -/
theorem cells5 : Tryd.prog.cellsOf 5 = 1 := by kernel_rfl
theorem own : ownKnob Tryd.prog.godebug = none := by kernel_rfl
set_option maxRecDepth 100000 in
theorem calls {H : Type} {enc : TypeId × Value → H} (W : World) (base : Nat) (args : Array Value) (ds : List (DataW H)) (p : List MemPlace)
    (hval0 : ∀ (j : Nat) t v, Tryd.f6.params[j]? = some t → args[j]? = some v → Value.okWide Tryd.prog W .any base t v)
    (hA : DataW.TrodAll enc Tryd.prog W 0 (fun _ => true) true Tryd.f6.params.toList args.toList ds p) (_ : W.noneFrozen p)
    (hsz : (DataW.weightsEach Tryd.prog Tryd.f6.params.toList ds).all (· ≤ reachBytes) = true) (hL : laidMetH Tryd.prog Rows.imageDiffersRow.laid W) (hS : W.ShapedOpen Tryd.prog) :
    Calls Tryd.prog 6 args W fun e W' => e = .returned (.bool true) ∧ Below W.heap.size W W' := by
  have hval : ∀ (j : Nat) t v, Tryd.f6.params[j]? = some t → args[j]? = some v → Value.okWide Tryd.prog W .any base t v := hval0
  clear hval0
  rw [Tryd.params6] at hA hval hsz
  obtain ⟨v0, vs0, d0, ds0, p0, q0, hargs, rfl, rfl, h0, r'0⟩ := trodAll_cons hA
  obtain ⟨v1, vs1, d1, ds1, p1, q1, rfl, rfl, rfl, h1, r'1⟩ := trodAll_cons r'0
  obtain ⟨v2, vs2, d2, ds2, p2, q2, rfl, rfl, rfl, h2, r'2⟩ := trodAll_cons r'1
  obtain ⟨rfl, rfl, rfl⟩ := trodAll_nil r'2
  obtain rfl : args = #[v0, v1, v2] := by cases args; simp_all
  obtain ⟨A0, n0, c0, z0, rfl, l0, b0, m0, s0, r0, w0⟩ := open_slice_ints (j := 0) (bytes := 1) Tryd.underlying22 Tryd.underlying5 cells5 (by kernel_rfl) (hval 0 22 v0 rfl rfl) h0 hsz rfl rfl
  obtain ⟨A1, n1, c1, z1, rfl, l1, b1, m1, s1, r1, w1⟩ := open_slice_ints (j := 1) (bytes := 1) Tryd.underlying22 Tryd.underlying5 cells5 (by kernel_rfl) (hval 1 22 v1 rfl rfl) h1 hsz rfl rfl
  obtain ⟨a2, rfl, rfl, rfl⟩ := open_bool Tryd.underlying4 (hval 2 4 v2 rfl rfl) h2
  exact walk (W := W) (Base.envs hL hS) A0 n0 c0 z0 l0 b0 m0 s0 r0 w0 A1 n1 c1 z1 l1 b1 m1 s1 r1 w1 a2
theorem laid_met (os : Os) : laidMet Tryd.prog Rows.imageDiffersRow.laid ((Base.laidWorldE os).forCall (fun _ _ => 0) ⟨#[], #[.slice none 0 0, .slice none 0 0, .bool false], []⟩).memory := laidMet_laidAll _ (by kernel_rfl) (by kernel_rfl)
theorem reads (os : Os) {H : Type} (enc : TypeId × Value → H) : ∃ places, DataW.whole enc Tryd.prog ((Base.laidWorldE os).forCall (fun _ _ => 0) ⟨#[], #[.slice none 0 0, .slice none 0 0, .bool false], []⟩).memory Tryd.f6.params.toList Rows.imageDiffersSpec.vars false #[(Value.slice none 0 0), (Value.slice none 0 0), (Value.bool false)].toList 8 = some ([.nil, .nil, .lit (.bool false)], [], places) := ⟨[], by kernel_rfl⟩
set_option maxRecDepth 100000 in
theorem lifted (os : Os) (started : os.Started) (H : Type) (enc : TypeId × Value → H) (F : Stop.Interp) :
    ReturnsInHanded {} Tryd.checked os 6 .any ((OpenSpec.ofChange Rows.imageDiffersSpec).preRow enc Tryd.prog Tryd.f6 Rows.imageDiffersRow.domain false Rows.imageDiffersRow.laid) (((OpenSpec.ofChange Rows.imageDiffersSpec).at F).post enc Tryd.prog Tryd.f6 false true false false) := by
  obtain ⟨places, hx⟩ := reads os enc
  exact laid_lifted_s (C := Tryd.checked) (s := Rows.imageDiffersSpec) (b := 4) own (by kernel_rfl) Tryd.func6 (by kernel_rfl) (by kernel_rfl) rfl Tryd.underlying4 rfl
    (fun ds h => by match ds, h with | [_, _, _], _ => rfl) calls os started F
    (witness_row_at (enc := enc) (C := Tryd.checked) false (Base.laidWorldE os) #[.slice none 0 0, .slice none 0 0, .bool false] rfl (by kernel_rfl) (by kernel_rfl) (by kernel_rfl)
      (OpenSpec.preRow_of_cond 8 hx (by kernel_rfl) (fun k hk => by cases hk) (by kernel_rfl) (laid_met os)))
theorem said : Rows.ImageDiffersSaid :=
  OpenClaim.holds_of_cond 6 Tryd.f6 rfl rfl rfl rfl rfl rfl rfl ⟨rfl, rfl, rfl, rfl, rfl⟩ rfl rfl rfl rfl rfl (by kernel_rfl) Tryd.func6 (by kernel_rfl)
    (of_decide_eq_true (by kernel_rfl)) (by unfold Func.isWrapper; first | (rw [if_pos (by decide +kernel)]; kernel_rfl) | (rw [if_neg (by decide +kernel)]; exact ⟨rfl, rfl⟩))
    (fun os started H enc _ F => by rw [OpenClaim.pre_eq_preRow]; exact lifted os started H enc F)
theorem plain (f : FuncId) (fn : Func) (hf : Tryd.pinned.checked.prog.funcNamed "bedrock/bedrocklaw04.ImageDiffers" = some f) (hfn : Tryd.pinned.checked.prog.funcs[f]? = some fn) :
    false = Tryd.pinned.checked.prog.looks [] ∧ ∀ (j : Nat) t, fn.params[j]? = some t → Tryd.pinned.checked.prog.wantsStandIn t = false := by
  obtain rfl : f = 6 := Option.some.inj ((show Tryd.prog.funcNamed "bedrock/bedrocklaw04.ImageDiffers" = some 6 by kernel_rfl).symm.trans hf) |>.symm
  obtain rfl : fn = Tryd.f6 := (Option.some.inj (Tryd.func6.symm.trans hfn)).symm
  have hall : Tryd.f6.params.toList.all (fun t => !Tryd.prog.wantsStandIn t) = true := by kernel_rfl
  refine ⟨by kernel_rfl, fun j t ht => ?_⟩
  have := List.all_eq_true.1 hall t (by simpa using Array.mem_of_getElem? ht)
  exact (show Tryd.prog.wantsStandIn t = false by simpa using this)
/-- ████ THE STATEMENT: THE CARD ████ -/
theorem proved : Rows.ImageDiffersCardSaid :=
  Claim7.holds_tied_plain_at .later [] _ _ _ _ said (fun _ h => by cases h) (by kernel_rfl) (fun _ h => by cases h) imageDiffers_row_tie rfl ⟨rfl, rfl⟩ (by kernel_rfl) rfl plain (by kernel_rfl)
#print axioms proved
end Go.Proofs.YtpfmongenmemdaaDoor.imageDiffers
